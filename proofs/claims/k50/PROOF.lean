import PyProof.Rows.All
import KE.KDictOf
import KE.KIsAll
import KE.KFromBytes
import KE.KDictSum
import KE.KEqDict
import KE.LcSums
import KE.KItem
import Lean
import PyProof.EqAt
import PyProof.EqKinds
import PyProof.TupleCall
import PyProof.Rows.SortStr
import PyProof.StrLawsReplace
import PyProof.StrLawsIdx
import PyProof.StrLawsIn
import PyProof.StrBlockI
import PyProof.StrBlockL
import PyProof.SliceList
import PyProof.InstStoreFacts
import PyProof.NsDelKeeps
import PyProof.StationsW
import PyProof.ExcArgs
import PyProof.ExcBaseAll.ValueError
import PyProof.StrCalls
import PyProof.ListRange
import PyProof.EnumMake
import PyProof.Draws
import PyProof.FactsAll.dict
import PyProof.StrBlock2
import PyProof.Rows.SumAny
import PyProof.NeKinds
import PyProof.Rows.MinMaxN
import PyProof.Rows.Range3
import PyProof.StrLawsFirst
import PyProof.AttrMissHeap
import PyProof.Rows.CallKwBuiltin
import KE.KMinKey
import PyProof.FString2
import KE.KDictLaws
import KE.KRevIter
import PySem.Challenge.RW_bandscribe_k50_whole_read_again
set_option genInjectivity false
set_option genSizeOfSpec false
open List renaming length_map→wa0,getElem?_eq_getElem→wa1,getD_eq_getElem?_getD→wa3,getElem?_map→wa4,length_append→wa5,getElem?_eq_some_iff→wa6,mem_of_getElem?→wa8,mem_map→wab,mem_cons_of_mem→wac,mem_cons_self→wag,map_map→wah,length_take→wai,replicate→wak,map_append→wan,mem_singleton→waq,mem_filter→wau,map_cons→wax,size_toArray→waB,getElem?_append_right→waC,range→waD,mem_append→waE,getElem?_append_left→waG,mem_cons→waH,take_length→waI,length_range→waK,mem_append_right→waL,length_cons→waM,getElem_mem→waN,take_add_one→waP,length_replicate→waQ,append_assoc→waT,all_eq_true→waU,mem_append_left→waW,append_nil→waZ,mem_range→wb1,map_congr_left→wb2,filter_cons_of_pos→wb6,length_filter_le→wb7,filter_eq_self→wb8,filter_cons_of_neg→wbb,take_of_length_le→wbf,filterMap_cons→wbi,take_sublist→wbk,length_drop→wbp,sum_cons→wbt,filter_append→wbw,drop_eq_nil_of_le→wby,eq_nil_of_length_eq_zero→wbz,nodup_cons→wbF,getElem_of_mem→wbQ,length_pos_iff→wbR,take_append_drop→wbT,not_mem_nil→wbX,count_pos_iff→wbZ,idxOf_lt_length_iff→wc0,mem_of_mem_take→wc2,flatten_cons→wc5,length_set→wc7,getElem_inj→wch,any_eq_true→wci,length_singleton→wcj,getElem?_eq_none→wcl,mem_or_eq_of_mem_set→wcn,drop_append_of_le_length→wcx,replicate_succ→wcB,length_reverse→wcC,mem_flatMap→wcD,getElem?_set_self→wcE,getElem?_set_ne→wcQ,getElem_map→wcW,any_cons→wd5,find?_cons→wdc,range_succ→wdf,mem_replicate→wdi,map→wdl,nodup_nil→wdo,take_zero→wdp,dropLast_concat_getLast→wdr,lookup_cons→wdv,getElem_toArray→wdy,map_take→wdB,length→wdD,filter_sublist→wdE,foldl_cons→wdF,nil_append→wdH,mem_filterMap→wdL,getElem?_take_of_lt→wdN,map_nil→wdP,prefix_append→wdV,length_filterMap_le→wdW,map_id'→wdX,getElem_idxOf→wdZ,flatMap_cons→we5,drop_of_length_le→we7,map_drop→web,ext_getElem→wei,mem_iff_getElem→weA,filter_map→weD,flatMap_append→weI,drop_zero→weO,getElem_range→weW,all_cons→weZ,foldl_append→wf9,nodup_append→wfa,getElem_take→wfb,extract_eq_take_drop→wfg,getElem?_eq_none_iff→wfi,drop_eq_getElem_cons→wfj,all_map→wfs,any_map→wfu,suffix_refl→wfv,take_prefix→wfw,nodup_range→wfA,map_set→wfD,length_eq_zero_iff→wfG,of_mem_zip→wfR,length_nil→wfS,lookup→wfZ,range'→wg6,eq_nil_or_concat→wgj,drop_left→wgk,take_left→wgl,singleton_append→wgm,filterMap_append→wgn,drop_take→wgo,getElem?_reverse→wgq,idxOf_cons_self→wgA,map_eq_nil_iff→wgM,getElem?_range→wgN,contains_cons→wh3,any_eq_false→wh5,ext_getElem?→wha,filter_congr→whb,mem_range'_1→whd,map_dropLast→whe,drop_sublist→whf,append_inj'→whx,range'_succ→why,drop_length→whz,drop_append→whA,foldl→whD,idxOf_cons→whK,sum_append→whL,append_inj→whM
open PySem.W renaming Frag→wa2,findIn→wbh,kia_one→wbE,emptyDict→wbO,recOk→wce,xlAt→wco,instObj→wcp,fnOf→wcr,callWith_K→wcG,keepIn→wcT,boot_heap→wd7,codeIn→we0,looks_clsIn→we3,plainGet→wee,methodCall_KW→wej,hasDictIn→wet,OpenLaw→weF,plainGet_of→weG,lookIn→weM,looks_findIn→weN,specialIn→weX,methodObj→wf4,set_plain→wf5,isFn→wfm,takerIn→wfP,cellsFrom_some→wg0,plainOver→wgc,SharedT→wgd,kdl_values→wgZ,kitx_list→wh7,kitx_dict→wh8,boot_o_0→whq,handedIn→whr,kdl_dict→whv,kdl_call→whw,WalkO→whB,makesIn→whC,KeqHits→whI,kitOne→whO
open PySem renaming wpAny_bind→wa7,FuncData→wad,Program→wat,wpAny_pure→waz,boot_len→waJ,mainGlobals→waR,bootBuiltins→waX,wpAny_mono→wba,wpAny_loadPart_at→wbd,compareOp→wbm,wpAny_holding→wbn,excClassObj→wbs,wpAny_Call_Name_kw→wbv,importedModules→wbD,codeAny_builtin→wbG,strKind→wbJ,wpAny_tryCatch→wbL,wpAny_truthy_bool→wbN,wpAny_isSubtype_exc→wbP,OsState→wbS,foldedSetIterable→wc4,swapsWith→wc6,sizeLine_eq→wcc,codeAny_mono→wcd,plainId_quiet→wcf,wpAny_execs_nil→wcq,lookup_relabel_local→wcs,attributeBase→wcw,mem_of_lookup→wcA,cLine→wcF,wpAny_passesOwn→wcK,wpAny_pyIter_list→wcN,wpAny_pyIter_enum→wcO,sysModules→wcP,codeAny_call_builtin→wcS,wpAny_seqItems→wcU,wpAny_execs_cons→wcV,plainObj_wpAny_Assign_Attribute→wcY,wpAny_getItem_str_slice→wd2,behindInMarks→wd4,Scope→wd8,Result→wd9,wpAny_call→wdb,tupleKind_room_in1→wdd,wpAny_updateSeq→wdh,wpAny_letGo→wdm,GenState→wds,assignEach→wdt,wpAny_standAt→wdz,wpAny_letOwnedTupleGo_enum→wdA,keywordEach→wdC,Within→wdK,scanBound→wdS,wpAny_Assign_Name→we2,wpAny_field→we8,NameKind→wef,checkBuiltinCall→weg,Keyword→wek,seqItems?→wen,codeAny_handlers_test→wep,letOwnedTupleGo→wer,call_meets→wew,post_val_or_str→wey,wpAny_handleBy_cons→weK,Builtin→weL,wpAny_setField→weP,tupleKind→weS,wpAny_newObj_type→wf8,typeLookup→wfe,wpAny_lookBehind→wfn,pastItsLine_dict→wfo,call_meetsIn→wfq,wpAny_comprehension_free→wfr,wpAny_pyNext_enum_itemD→wfH,treeTable→wfK,getMethod→wfO,codeAny_of_tree→wfT,setFlight→wfU,IsRangeIter→wfV,wpAny_pyNext_range_end→wfW,wpAny_pyIter_rangeiter→wfX,subscripted→wg1,wpAny_pyNext_enum_endD→wg7,codeAny_handlers_suite→wga,wpAny_isTrue_Compare1→wge,wpAny_loadPart→wgf,weight_type_call_type→wgi,wpAny_loadName_local→wgu,PlainAttrs→wgv,excMatches→wgz,wpAny_pyIter_revIter→wgC,wpAny_loadName_cell→wgI,wpAt_of_wpAny→wgL,wpAny_nsSet1→wgT,updateSeq→wh1,seqIndex_of→whk,sliceBounds→whl,intItems_at→whm,wpAny_of_eq→whn,call→whE,wpAt_bind→whG
open PySem.Heap renaming get?_push_of_some→wa9,lt_size→waf,get?_push_size→wav,get?_update_other→waS,get?_update_self→wbB,size_push→wbK,SameBut→wfl,get?_update_ne→wgJ
open Nat renaming le_refl→waa,le_trans→wal,ne_of_lt→war,lt_of_lt_of_le→waw,zero_le→waA,lt_of_le_of_lt→wbg,lt_irrefl→wbj,sub_self→wbC,lt_succ_self→wbI,le_succ→wc1,mul_le_mul→wc3,mul_le_mul_left→wc8,ne_of_gt→wcb,add_sub_cancel_left→wcy,not_lt_zero→wcL,min_eq_left→wdG,le_of_eq→wdM,lt_succ_of_lt→we4,mul_add→wea,mul_le_mul_right→weB,lt_or_eq_of_le→weV,lt_trichotomy→wfd,le_of_lt→wfk,pow_le_pow_right→wgB,add_comm→wgX,zero_add→wh2,le_succ_of_le→whc,lt_succ_of_le→whh,le_of_not_lt→wht,le_antisymm→whH
open Option.some renaming inj→wae
open Sum renaming inr→waj,inl→wb4
open PySem.Value renaming ref→wam,none→wbA,type→weq,int→wfL,str→wfM,bool→wgt,isStrOf→wgD,isStrOf_shape→wgH,float→whj
open PySem.PassesOwn renaming never→wao,leaving→whg
open Bool renaming false_ne_true→wap,and_eq_true→wbU,false_eq_true→wbV,false_and→wdq,and_false→we1,true_and→wec,eq_iff_iff→wes,not_true→wgG,or_eq_true→whF
open Int renaming toNat_natCast→waF,emod_lt_of_pos→wb0,emod_nonneg→wb5,natCast_mul→wbo,natCast_add→wcu,zero_add→wcv,mul_comm→wdn,natCast_pow→wdI,le_trans→wdY,le_refl→weR,le_of_mul_le_mul_right→wf3,pow_succ→wfC,eq_ofNat_of_zero_le→wfI,le_ediv_iff_mul_le→wg8,add_mul→wg9,mul_ediv_add_emod→wgp,toNat_of_nonneg→wgP,emod_eq_of_lt→whi,mul_pos→whp,ediv_nonneg→whJ
open PySem.F renaming plainAttrs_list→waO,slot_list_append→waV,type_list_append→waY,plain_min_loop→wbM,called_set→wbW,plain_max_loop→wbY,excBase_ValueError→wcg,plainAttrs_dict→wd1,slot_list_index→wd3,slot_dict_values→wdR,entry_min_loop→we9,entry_max_loop→weh,slot_dict_get→wel,slot_dict_setdefault→weQ,called_enumerate→weU,args_list_index_2→wfh,entry_list_index→wfx,type_dict_values→wfB,args_dict_get_3→wfF,type_list_index→wfJ,entry_dict_get→wg3,plainAttrs_str→wgb,slot_str_join→wgr,type_str_join→wgs,entry_type_call→wgw,slot_list_pop→wgW
open False renaming elim→wb3
open PySem.Txt renaming slice→wb9,join→wdx,slice_le→wez
open Ne renaming symm→wbc
open PySem.W.OpenRow renaming toRowW→wbe
open PySem.W.RowW renaming records→wbl
open PySem.W.OpenLaw renaming row→wbq
open PyProof.Rows renaming callWith_type1→wbr,envOfC→wcX,kws_cons→weo,callWith_builtin1→weu,kws_nil→weC,int_text_len_1921→weE,callWith_kw→wfz,sortedS→wfE,subscriptTail_builtinR→wg2,subscriptTail→wgF,kmk_tree→whN
open True renaming intro→wbu
open PySem.Around renaming under_plainId→wbx,under→wgU,under_plain→wh0
open PySem.Builtin.Str renaming strSliceIndices→wbH,occurrences→wd0,subAt→wh9
open Prod.mk renaming inj→wc9
open Sum.inr renaming inj→wca
open Array renaming getElem?_toList→wck,length_toList→wcz,getD_eq_getD_getElem?→wcH,toArray_toList→wdw,getElem?_eq_some_iff→wf1,toList_inj→wft,getElem?_eq_none→wg4,toList_extract→wgy
open Classical renaming byContradiction→wcm
open PySem.Str renaming ofString→wct,length→wdu,empty→whQ
open PyProof.Rows.F renaming plain_set_update_loop→wcI,entry_set_update_loop→wdT
open PySem.Builtin.Builtins renaming bindParams→wcJ
open PySem.NameKind renaming free→wcM,cell→wf0
open PySem.Obj renaming mapSeq→wcR,mapFields→wd6,data_mapFields→wdg,isFreed_of_fields→wem
open PySem.Builtin.Range renaming rangeSize→wcZ,small→wgO
open PySem.Calls renaming spliced_cons→wda,callWith_builtin→wdk,evalArgs_plain→wev,call_len_list→weH,Name_function_global→weY,spliced_nil→wf6,Constant_str→wgS
open ForInStep renaming yield→wde
open Option renaming map_eq_some_iff→wdj,map_some→wex,isSome_map→wf7,isSome_iff_exists→wfp,getD_some→whu
open Eq renaming trans→wdJ
open PySem.Builtin.List renaming listTooLong→wdO
open Or renaming inl→wdQ
open PySem.Code renaming quiet_builtin→wdU,isFrame→wgV
open PySem.Data renaming fields→we6,cell→wfN
open Prod renaming ext→wed
open PySem.Heap.SameBut renaming update→weJ
open PySem.W.Looks renaming here→weT
open List.cons renaming inj→wf2
open List.Sublist renaming refl→wfc
open PySem.Walks renaming list→wff
open PySem.SeqAt renaming list_indexAt→wfy
open PySem.Within renaming cons→wfQ
open PyProof renaming noPylong_small→wfY
open PySem.StrLaws renaming sliceText_from→wg5,sliceText_to→wgx
open PySem.SeqAt.EqAt renaming int_int→wgg,str_str→wgh,int_str→wgQ,str_int→wgR
open PySem.Paired renaming length→wgE
open PySem.EntryCells renaming newEntry→wgK
open Nat.succ renaming inj→wgY
open PySem.Flt renaming mathRow→wh4
open PySem.Heap.Ns1 renaming of_empty→wh6
open PySem.P renaming add_list→whs
open PySem.Builtin.Frozenset renaming updateFrom→whP
open PySem.Shared renaming TypeIs→whR
open PySem.IsRange renaming new→whS
set_option Elab.async false
set_option linter.all false
set_option maxRecDepth 100000
set_option maxHeartbeats 4000000
namespace Tt
open PySem PySem.W PySem.Calls PyProof.Rows
noncomputable def GF(tb:String->Option weL)(p:wat)(w:World)(n₀:Nat)(ann:Option Value):Nat->wgd->Thread->Option wgd
 |0,_,_=>none
 |n+1,s,t=>match through t with
  |true=>some s
  |false=>match stepOk n₀ ann t with
   |false=>none
   |true=>match stepT (denote tb) p w s t with
    |some (s',t')=>GF tb p w n₀ ann n s' t'
    |none=>none
theorem GH{tb:String->Option weL}{p:wat}{w:World}{n₀:Nat}{ann:Option Value}:∀{n:Nat} {s s':wgd} {t:Thread},GF tb p w n₀ ann n s t=some s'->topRun tb p w n₀ ann n s.abs t=some s'.abs
 |0,_,_,_,h=>by cases h
 |n+1,s,s',t,h=>by
  unfold GF at h;unfold topRun
  cases ht:through t with
  |true=>rw[ht]at h;cases h;rfl
  |false=>
   rw[ht]at h
   cases hk:stepOk n₀ ann t with
   |false=>rw[hk]at h;cases h
   |true=>
    rw[hk]at h
    cases hs:stepT (denote tb) p w s t with
    |none=>rw[hs]at h;cases h
    |some r=>obtain⟨s₂,t₂⟩:=r;rw[hs]at h;rw[stepT_spec hs];exact GH h
noncomputable def sound(p:wat)(h₀:Heap)(s:wgd):Bool:=staticsOk (wbD p.main.body) h₀ s.abs.heap&&namesBound p s.abs.heap&&gensDone s.abs&&laidKept h₀ s.abs.heap
theorem K0{p q:wat}{loose:List Str}{Xt:Shared->Bool}{α:Type}{Yf:Shared->α}{Ya:World->α}{N n m₀:Nat}{life:Params->Life}{g0:Bool}{H₀:Params->Heap}{T₀:Params->BT}{RB:Array wds}{d₀:Drawn}{k₀:Nat}{ann:Option Value}
 (OZ:∀w:World,(fencedOpening wfK p w N).map (λs=>(s.heap,s.gens,s.drawn,s.toks))=some (H₀ w.params,RB,d₀,k₀))
 (size:∀P:Params,((H₀ P).isNs waR&&RB.size==0,(H₀ P).objs.size,(H₀ P).nsMap waR "__annotations__")=(true,m₀,ann))
 (tree:∀P:Params,absHeap (T₀ P) n (life P)=H₀ P)
 (run:∀(w:World) (os:wbS),∃s,GF wfK p w m₀ ann N ⟨T₀ w.params,n,life w.params,RB,d₀,k₀,os⟩ (topStub p)=some s/\sound p (H₀ w.params) s=true/\openSeen q loose (wbD p.main.body) Xt g0 s.abs=openGood q loose/\Yf s.abs=Ya w):LeftO p q loose Xt Yf Ya N g0:=λw=>by
 obtain⟨⟨h,gs,d,k,os⟩,e,e'⟩:=wdj.mp (OZ w);obtain⟨rfl,rfl,rfl,rfl⟩:h=H₀ w.params/\gs=RB/\d=d₀/\k=k₀:=by simpa using e'
 obtain⟨z1,z2,z3⟩:_/\_/\_:=by simpa only[Prod.mk.injEq] using size w.params
 obtain⟨s,r,l1,l2,l3⟩:=run w os;have r:=GH r
 have ea:(SharedT.mk (T₀ w.params) n (life w.params) gs d k os).abs=⟨H₀ w.params,gs,d,k,os⟩:=by
  unfold SharedT.abs;rw[tree]
 rw[ea]at r
 have t:topFrom wfK p w N ⟨H₀ w.params,gs,d,k,os⟩=some s.abs:=by
  unfold topFrom;dsimp only;rw[z1,z2,z3,r];show (match sound p (H₀ w.params) s with |true=>_ |false=>_)=_;rw[l1]
 unfold openEnds;rw[e];show (topFrom wfK p w N _).map _=_;rw[t];exact congrArg some (wed l2 l3)
theorem MI{S A B C:Type}{o:Option S}{f:S->A}{g:S->B}{h:S->C}{a:A}{b:B}{c:C}(x:o.map f=some a)(y:o.map g=some b)(z:o.map h=some c):∃s,o=some s/\f s=a/\g s=b/\h s=c:=by
 cases o with
 |none=>cases x
 |some s=>exact⟨s,rfl,wae x,wae y,wae z⟩
theorem four{S A B C D E F G:Type}{o:Option S}{f:S->A×B×C×D×E×F×G}{a:A×B×C×D×E×F×G}(h1:o.map (λs=>(f s).1)=some a.1)(h2:o.map (λs=>((f s).2.1,(f s).2.2.1))=some (a.2.1,a.2.2.1))(h3:o.map (λs=>((f s).2.2.2.1,(f s).2.2.2.2.1))=some (a.2.2.2.1,a.2.2.2.2.1))(h5:o.map (λs=>(f s).2.2.2.2.2.1)=some a.2.2.2.2.2.1)(h4:o.map (λs=>(f s).2.2.2.2.2.2)=some a.2.2.2.2.2.2):o.map f=some a:=by
 cases o with
 |none=>cases h1
 |some s=>
  have e1:(f s).1=a.1:=wae h1;have e2:((f s).2.1,(f s).2.2.1)=(a.2.1,a.2.2.1):=wae h2;have e3:((f s).2.2.2.1,(f s).2.2.2.2.1)=(a.2.2.2.1,a.2.2.2.2.1):=wae h3;have e5:(f s).2.2.2.2.2.1=a.2.2.2.2.2.1:=wae h5;have e4:(f s).2.2.2.2.2.2=a.2.2.2.2.2.2:=wae h4;exact congrArg some (wed e1 (wed (wc9 e2).1 (wed (wc9 e2).2 (wed (wc9 e3).1 (wed (wc9 e3).2 (wed e5 e4))))))
theorem cut(n:Nat){o:Option wgd}{as:List Addr}{v:List (Option Obj)}(h:o.map (λs=>(as.take n).map s.abs.heap.get?)=some (v.take n))(h':o.map (λs=>(as.drop n).map s.abs.heap.get?)=some (v.drop n)):o.map (λs=>as.map s.abs.heap.get?)=some v:=by
 cases o with
 |none=>cases h
 |some s=>
  have h1:(as.take n).map s.abs.heap.get?=v.take n:=wae h;have h2:(as.drop n).map s.abs.heap.get?=v.drop n:=wae h';show some (as.map s.abs.heap.get?)=some v;rw[<-wbT n as,wan,h1,h2,wbT]
end Tt
namespace K50
open PySem PySem.W
noncomputable def tp(i:Nat):Stmt:=PySem.Challenge.pw_bandscribe_k50_whole_read_again.main.body.getD i (.Pass ⟨0,0,0,0⟩)
noncomputable def view:wat:={PySem.Challenge.pw_bandscribe_k50_whole_read_again with main:={PySem.Challenge.pw_bandscribe_k50_whole_read_again.main with body:=[tp 0,tp 2,tp 3,tp 4,tp 5,tp 6,tp 7,tp 8,tp 9,tp 10,tp 11,tp 12,tp 13,tp 14,tp 16,tp 18,tp 19,tp 20,tp 22,tp 23,tp 24,tp 25,tp 26,tp 27,tp 28,tp 29,tp 30,tp 31,tp 32,tp 33,tp 35,tp 36,tp 37,tp 38,tp 39,tp 41,tp 42,tp 43,tp 44,tp 45,tp 47,tp 48,tp 49,tp 50,tp 51,tp 53,tp 54,tp 55,tp 56,tp 57,tp 58,tp 59,tp 61,tp 62,tp 63,tp 64,tp 65,tp 66,tp 67,tp 68,tp 69,tp 70,tp 71,tp 72,tp 73,tp 74,tp 75,tp 77,tp 78,tp 79,tp 80,tp 81,tp 83,tp 84,tp 85,tp 86,tp 87,tp 88,tp 89]}}
noncomputable def tree0(P:Params):BT:=(.node (boot_o_0 P) (.node (boot_o_1 P) (.node (boot_o_3 P) (.node (boot_o_7 P) .nil .nil) .nil) (.node (boot_o_5 P) (.node (boot_o_9 P) .nil .nil) .nil)) (.node (boot_o_2 P) (.node (boot_o_4 P) (.node (boot_o_8 P) .nil .nil) .nil) (.node (boot_o_6 P) (.node (boot_o_10 P) .nil .nil) .nil)))
noncomputable def run(w:World)(os:wbS):Option wgd:=(Tt.GF wfK PySem.Challenge.pw_bandscribe_k50_whole_read_again w 11 (some (wam 6)) 8100 ⟨tree0 w.params,11,(wd7 w.params).life,Array.mk [],boot_drawn,boot_toks,os⟩ (topStub PySem.Challenge.pw_bandscribe_k50_whole_read_again))
noncomputable def lhsS(w:World)(os:wbS):=(run w os).map (λs=>Tt.sound PySem.Challenge.pw_bandscribe_k50_whole_read_again (wd7 w.params) s)
noncomputable def lhsA1(w:World)(os:wbS):=(run w os).map (λs=>(openSeen view [] (wbD PySem.Challenge.pw_bandscribe_k50_whole_read_again.main.body) (λs=>wco view [] s&&wce (wbl (wbe (wbq PySem.Challenge.rw_bandscribe_k50_whole_read_again))) s) true s.abs).1)
noncomputable def lhsA2(w:World)(os:wbS):=(run w os).map (λs=>((openSeen view [] (wbD PySem.Challenge.pw_bandscribe_k50_whole_read_again.main.body) (λs=>wco view [] s&&wce (wbl (wbe (wbq PySem.Challenge.rw_bandscribe_k50_whole_read_again))) s) true s.abs).2.1,(openSeen view [] (wbD PySem.Challenge.pw_bandscribe_k50_whole_read_again.main.body) (λs=>wco view [] s&&wce (wbl (wbe (wbq PySem.Challenge.rw_bandscribe_k50_whole_read_again))) s) true s.abs).2.2.1))
noncomputable def lhsA3(w:World)(os:wbS):=(run w os).map (λs=>((openSeen view [] (wbD PySem.Challenge.pw_bandscribe_k50_whole_read_again.main.body) (λs=>wco view [] s&&wce (wbl (wbe (wbq PySem.Challenge.rw_bandscribe_k50_whole_read_again))) s) true s.abs).2.2.2.1,(openSeen view [] (wbD PySem.Challenge.pw_bandscribe_k50_whole_read_again.main.body) (λs=>wco view [] s&&wce (wbl (wbe (wbq PySem.Challenge.rw_bandscribe_k50_whole_read_again))) s) true s.abs).2.2.2.2.1))
noncomputable def lhsA5(w:World)(os:wbS):=(run w os).map (λs=>(openSeen view [] (wbD PySem.Challenge.pw_bandscribe_k50_whole_read_again.main.body) (λs=>wco view [] s&&wce (wbl (wbe (wbq PySem.Challenge.rw_bandscribe_k50_whole_read_again))) s) true s.abs).2.2.2.2.2.1)
noncomputable def lhsA4(w:World)(os:wbS):=(run w os).map (λs=>(openSeen view [] (wbD PySem.Challenge.pw_bandscribe_k50_whole_read_again.main.body) (λs=>wco view [] s&&wce (wbl (wbe (wbq PySem.Challenge.rw_bandscribe_k50_whole_read_again))) s) true s.abs).2.2.2.2.2.2)
noncomputable def lhsB(as:List Addr)(w:World)(os:wbS):=(run w os).map (λs=>as.map s.abs.heap.get?)
end K50
noncomputable def PySem.W.Fast.tw14598715356260435866:=whq
theorem PySem.W.Fast.te14598715356260435866:whq=PySem.W.Fast.tw14598715356260435866:=rfl
noncomputable def PySem.W.Fast.tw12318061800018297926:=PySem.Challenge.pw_bandscribe_k50_whole_read_again
theorem PySem.W.Fast.te12318061800018297926:PySem.Challenge.pw_bandscribe_k50_whole_read_again=PySem.W.Fast.tw12318061800018297926:=rfl
noncomputable def PySem.W.Fast.tw13899100880601395773:=wh4
theorem PySem.W.Fast.te13899100880601395773:wh4=PySem.W.Fast.tw13899100880601395773:=rfl
lay_quick K50.lhsS K50.lhsA1 K50.lhsA2 K50.lhsA3 K50.lhsA4 K50.lhsA5 K50.lhsB
section
open PySem PySem.W PyProof.Rows
local macro_rules |`(tactic|o_head $H)=>`(tactic|(refine PySem.W.holds_open (q:=K50.view) (loose:=[]) (Xt:=λs=>PySem.W.xlAt K50.view [] s&&PySem.W.recOk (PySem.W.RowW.records (PySem.W.OpenRow.toRowW (PySem.W.OpenLaw.row PySem.Challenge.rw_bandscribe_k50_whole_read_again))) s) (XP:=PySem.W.XL K50.view []) (Yf:=PySem.W.Hook.obs $H) (Ya:=PySem.W.Hook.val $H) (YP:=PySem.W.Hook.says $H) (N:=8100) ?hl (PySem.W.Hook.of $H) (PySem.W.Hook.keeps $H) (λs e=>PySem.W.xl_of s (Bool.and_eq_true_iff.mp e).1) PySem.W.XL.keeps (by rfl) (by rfl) (by rfl) (λs e=>PySem.W.recFacts_of (Bool.and_eq_true_iff.mp e).2) (by rfl) (by first |assumption |decide+kernel) (by decide+kernel) ⟨rfl,rfl,rfl,rfl,rfl,by decide+kernel⟩ ?hw ?hc;(case hl=>(intro w;contradiction))))
theorem K50.pre(h:False):(PySem.Challenge.rw_bandscribe_k50_whole_read_again).Holds:=by
 w_on;o_law;k_head
 all_goals contradiction
end
namespace K50
open PySem PySem.W
noncomputable def addrs:List Addr:=[2,3,15,17,18,20,21,22,29,30,31,32,35,42,43,44,47,54,56,57,59,60,61,62,63,66,73,75,76,78,79,80,81,82,85,92,94,95,97,98,99,100,101,104,111,113,114,116,117,118,119,120,123,130,132,133,135,136,137,138,139,142,149,150,151,154,161,162,163,166,173,175,176,178,179,180,181,182,185,192,194,195,197,198,199,200,201,204,211,212,213,216,223,225,226,228,229,230,231,232,235,237,238,240,241,242,244,245,247,248,249,251,252,254,255,263,265,266,268,269,270,272,273,275,276,277,280,281,282,284,285,287,288,289,291,292,294,295,296,298,299,301,302,303,306,307,308,310,311,313,314,315,316,317,318,319,322,325,326,327,329,330,332,333,334,336,337,339,340,341,343,344,346,347,348,351,352,353,355,356,358,359,360,362,363,365,366,367,369,370,372,373,374,377,378,379,382,383,391,393,394,396,397,398,400,401,403,404,405,407,408,410,411,412,414,415,417,418,419,421,422,424,425,426,428,429,431,432,433,435,436,438,439,440,442,443,445,446,447,449,450,452,453,454,457,458,459,460,461,462,463,466,468,469,471,472,473,475,476,478,479,480,482,483,485,486,487,489,490,492,493,494,497,498,499,502,503,504,506,507,509,510,511,514,515,516,518,519,521,522,523,525,526,528,529,530,533,534,535,538,539,540,542,543,545,546,547,549,550,552,553,554,556,557,559,560,561,564,565,573,576,577,578,579,580,581,582,585,588,589,590,592,593,595,596,597,600,601,602,604,605,607,608,609,612,613,614,616,617,619,620,628,631,632,633,635,636,638,639,640,641,642,643,644,647,649,650,652,653,654,656,657,659,660,661,663,664,666,667,668,671,672,673,676,677,678,681,682,683,685,686,688,689,690,692,693,695,696,697,700,701,702,704,705,707,708,709,711,712,714,715,716,719,720,721,723,724,726,727,728,730,731,733,734,742,745,746,747,749,750,752,753,754,756,757,759,760,761,763,764,766,767,768,770,771,773,774,775,777,778,780,781,782,784,785,787,788,789,792,793,794,796,797,799,800,801,803,804,806,807,808,809,810,811,812,815,817,818,820,821,822,824,825,827,828,829,832,833,834,836,837,839,840,841,843,844,846,847,848,850,851,853,854,855,858,859]
open PyProof.Rows in
theorem pS(w:World)(os:wbS):lhsS w os=some true:=wdJ (congrFun (congrFun PySem.W.Fast.te10254339046924315615 w) os) (by kernel_rfl)
open PyProof.Rows in
theorem XZ(w:World)(os:wbS):lhsA5 w os=some (plainGoodE view (looseW view [])):=wdJ (congrFun (congrFun PySem.W.Fast.te16355887218664425746 w) os) (by kernel_rfl)
open PyProof.Rows in
theorem Y0(w:World)(os:wbS):lhsA3 w os=some (true,pinGoodD (drecsOf view)):=wdJ (congrFun (congrFun PySem.W.Fast.te15678631260977565776 w) os) (by kernel_rfl)
open PyProof.Rows in
theorem Y1(w:World)(os:wbS):lhsA4 w os=some (plainGoodD view [],wideGood view,clsGoodW view []):=wdJ (congrFun (congrFun PySem.W.Fast.te8053812428068919453 w) os) (by kernel_rfl)
open PyProof.Rows in
theorem Y2(w:World)(os:wbS):lhsA1 w os=some (expectedOf view):=wdJ (congrFun (congrFun PySem.W.Fast.te12516767839956156094 w) os) (by kernel_rfl)
open PyProof.Rows in
theorem Y3(w:World)(os:wbS):lhsA2 w os=some (bltViewBooted,true):=wdJ (congrFun (congrFun PySem.W.Fast.te12314504347764332018 w) os) (by kernel_rfl)
theorem Y4(w:World)(os:wbS):lhsB (K50.addrs.take 160) w os=some (((K50.pre.heap_39 w.params).map λp=>some p.2).take 160):=wdJ (congrFun (congrFun (congrFun PySem.W.Fast.te1297986538384100052 _) w) os) (by kernel_rfl)
theorem Y5(w:World)(os:wbS):lhsB (K50.addrs.drop 160) w os=some (((K50.pre.heap_39 w.params).map λp=>some p.2).drop 160):=wdJ (congrFun (congrFun (congrFun PySem.W.Fast.te1297986538384100052 _) w) os) (by kernel_rfl)
theorem op:opening PySem.Challenge.pw_bandscribe_k50_whole_read_again=plainProg PySem.Challenge.pw_bandscribe_k50_whole_read_again.main.scope.names:=by kernel_rfl
theorem fe(s:Shared):fenceModules? PySem.Challenge.pw_bandscribe_k50_whole_read_again s=some s:=by kernel_rfl
theorem tr(P:Params):absHeap (tree0 P) 11 (wd7 P).life=wd7 P:=by kernel_rfl
theorem sz(P:Params):((wd7 P).isNs waR&&(Array.mk []:Array wds).size==0,(wd7 P).objs.size,(wd7 P).nsMap waR "__annotations__")=(true,11,(some (wam 6))):=by kernel_rfl
theorem whole:LeftO PySem.Challenge.pw_bandscribe_k50_whole_read_again view [] (λs=>wco view [] s&&wce (wbl (wbe (wbq PySem.Challenge.rw_bandscribe_k50_whole_read_again))) s) (λs=>K50.addrs.map s.heap.get?) (λw=>((K50.pre.heap_39 w.params).map λp=>some p.2)) 8100:=Tt.K0 (H₀:=wd7) (T₀:=tree0) (life:=λP=>(wd7 P).life) (boot_open op (by decide+kernel) fe) sz tr λw os=>Tt.MI (o:=run w os) (f:=λs=>Tt.sound PySem.Challenge.pw_bandscribe_k50_whole_read_again (wd7 w.params) s) (g:=λs=>openSeen view [] (wbD PySem.Challenge.pw_bandscribe_k50_whole_read_again.main.body) (λs=>wco view [] s&&wce (wbl (wbe (wbq PySem.Challenge.rw_bandscribe_k50_whole_read_again))) s) true s.abs) (h:=λs=>K50.addrs.map s.abs.heap.get?) (pS w os) (Tt.four (o:=run w os) (f:=λs=>openSeen view [] (wbD PySem.Challenge.pw_bandscribe_k50_whole_read_again.main.body) (λs=>wco view [] s&&wce (wbl (wbe (wbq PySem.Challenge.rw_bandscribe_k50_whole_read_again))) s) true s.abs) (a:=openGood view []) (Y2 w os) (Y3 w os) (Y0 w os) (XZ w os) (Y1 w os)) (Tt.cut (o:=run w os) 160 (Y4 w os) (Y5 w os))
end K50
namespace L2
open PySem PySem.Spec PyProof.Rows
noncomputable abbrev Key:=Sum Int Str
noncomputable def xM:Key->Value->Bool
 |.inl k,v=>Value.isInt k v
 |.inr x,v=>wgD x v
noncomputable def SK(w:World):Key->Int
 |.inl k=>hashInt k
 |.inr x=>hashStr w x
theorem cp:∀{k:Key} {v:Value},xM k v=true->(∃i t,k=wb4 i/\v=wfL i t)\/(∃x t,k=waj x/\v=wfM x t)
 |.inl i,v,h=>by
  obtain⟨t,e⟩:=Value.isInt_shape (k:=i) (v:=v) h;exact .inl ⟨i,t,rfl,e⟩
 |.inr x,v,h=>by
  obtain⟨t,e⟩:=wgH (x:=x) (v:=v) h;exact .inr ⟨x,t,rfl,e⟩
theorem EK(i:Int)(t:Tok):xM (.inl i) (.int i t)=true:=by simp[xM,Value.isInt]
theorem EL(x:Str)(t:Tok):xM (.inr x) (.str x t)=true:=by simp[xM,wgD]
theorem MJ(a b:Int):decide ((wb4 a:Key)=wb4 b)=(a==b):=by
 grind
theorem MK(a b:Str):decide ((waj a:Key)=waj b)=decide (a=b):=by simp_all [Key,wca,decide_eq_false]
theorem ML(a:Int)(b:Str):decide ((wb4 a:Key)=waj b)=false:=decide_eq_false (λq=>nomatch q)
theorem MM(a:Str)(b:Int):decide ((waj a:Key)=wb4 b)=false:=decide_eq_false (λq=>nomatch q)
noncomputable def bz(prog:wat)(w:World):PySem.KeyKind prog w Key where
 is:=xM
 hash:=SK w
 inj:=λv a b ha hb=>by
  rcases cp ha with⟨i,t,rfl,rfl⟩ |⟨x,t,rfl,rfl⟩
  ·rcases cp hb with⟨j,u,rfl,e⟩ |⟨y,u,rfl,e⟩
   ·injection e with e1 _;rw[e1]
   ·exact nomatch e
  ·rcases cp hb with⟨j,u,rfl,e⟩ |⟨y,u,rfl,e⟩
   ·exact nomatch e
   ·injection e with e1 _;rw[e1]
 byValue:=λk v h=>by
   rcases cp h with⟨i,t,rfl,rfl⟩ |⟨x,t,rfl,rfl⟩<;>rfl
 pyHash:=λhv h=>by
  rcases cp hv with⟨i,t,rfl,rfl⟩ |⟨x,t,rfl,rfl⟩
  ·exact wpAny_pyHash_int h
  ·exact wpAny_pyHash_str h
 eqBool:=λhu hv h=>by
  rcases cp hu with⟨i,t,rfl,rfl⟩ |⟨x,t,rfl,rfl⟩
  ·rcases cp hv with⟨j,u,rfl,rfl⟩ |⟨y,u,rfl,rfl⟩
   ·rw[MJ]at h;exact wpAny_eqBool_int h
   ·rw[ML]at h;exact wgQ i t y u _ _ _ _ h
  ·rcases cp hv with⟨j,u,rfl,rfl⟩ |⟨y,u,rfl,rfl⟩
   ·rw[MM]at h;exact wgR x t j u _ _ _ _ h
   ·rw[MK]at h;exact wpAny_eqBool_str h
 «strs»:=λk x t v h=>by
  rcases cp h with⟨i,u,rfl,e⟩ |⟨y,u,rfl,e⟩
  ·exact nomatch e
  ·injection e with e1 _
   subst e1;cases v<;>rfl
theorem Ac(prog:wat)(w:World)(i:Int)(t:Tok):(bz prog w).is (.inl i) (.int i t)=true:=EK i t
theorem Ad(prog:wat)(w:World)(x:Str)(t:Tok):(bz prog w).is (.inr x) (.str x t)=true:=EL x t
set_option genInjectivity true in
inductive V where
 |non |bl (b:Bool) |int (i:Int) |str (x:Str) |byt (b:Array UInt8) |flt (b:UInt64) |ref (a:Addr) |ty (n:String)
 deriving DecidableEq
def RelV:V->Value->Prop
 |.non,u=>u=wbA
 |.bl b,u=>u=wgt b
 |.int i,u=>∃t,u=wfL i t
 |.str x,u=>∃t,u=wfM x t
 |.byt b,u=>∃t,u=Value.bytes b t
 |.flt b,u=>∃t,u=whj b t
 |.ref a,u=>u=wam a
 |.ty n,u=>u=weq n
abbrev Vals:List V->List Value->Prop:=Paired RelV
theorem Vals.length{xs:List V}{us:List Value}(r:Vals xs us):xs.length=us.length:=wgE r
theorem Vals.get:∀{xs:List V} {us:List Value} {i:Nat} {x:V},Vals xs us->xs[i]?=some x->∃u,us[i]?=some u/\RelV x u
 |_,_,_,_,.nil,e=>by simp at e
 |_,_,0,_,.cons r _,e=>by simp at e;subst e;exact⟨_,rfl,r⟩
 |_,_,i+1,x,.cons _ t,e=>by
  obtain⟨u,a,b⟩:=Vals.get (i:=i) (x:=x) t (by simpa using e);exact⟨u,by simpa using a,b⟩
theorem Vals.set(r:RelV x u):∀{xs:List V} {us:List Value} (i:Nat),Vals xs us->Vals (xs.set i x) (us.set i u)
 |_,_,_,.nil=>.nil
 |_,_,0,.cons _ t=>.cons r t
 |_,_,i+1,.cons q t=>.cons q (Vals.set r i t)
theorem Vals.append:∀{xs ys:List V} {us ws:List Value},Vals xs us->Vals ys ws->Vals (xs++ys) (us++ws)
 |_,_,_,_,.nil,s=>s
 |_,_,_,_,.cons r t,s=>.cons r (Vals.append t s)
theorem Vals.take:∀{xs:List V} {us:List Value} (n:Nat),Vals xs us->Vals (xs.take n) (us.take n)
 |_,_,0,_=>.nil
 |_,_,_+1,.nil=>.nil
 |_,_,n+1,.cons r t=>.cons r (Vals.take n t)
theorem Vals.drop:∀{xs:List V} {us:List Value} (n:Nat),Vals xs us->Vals (xs.drop n) (us.drop n)
 |_,_,0,r=>r
 |_,_,_+1,.nil=>.nil
 |_,_,n+1,.cons _ t=>Vals.drop n t
def jB:Option V->Option Value->Prop
 |some v,some u=>RelV v u
 |none,none=>True
 |_,_=>False
def KV{κ:Type}:List (κ×V)->List (κ×Value)->Prop:=Paired λ(p:κ×V) (q:κ×Value)=>p.1=q.1/\RelV p.2 q.2
noncomputable def kV:Key->V
 |.inl i=>.int i
 |.inr x=>.str x
set_option genInjectivity true in
inductive HO where
 |lst (xs:List V)
 |tup (xs:List V)
 |dK (kvs:List (Key×V)) |dT (kvs:List (List Key×V))
 |set (S:Int->Bool) (n:Nat)
 |ins (C dx:Addr) (fs:List (Str×V))
 |own (x:Addr)
 |xd (fs:List (Str×V))
 |met (f x:Addr)
 |rng (lo hi:Int)
 |frz (o:Obj) (u:HO)
 |tbl (ps:Array Value)
 |ext (φ:Heap->Prop)
noncomputable abbrev Hp:=Addr->Option HO
noncomputable def upd(H:Hp)(a:Addr)(o:HO):Hp:=λb=>if b=a then some o else H b
theorem a7:upd H a o a=some o:=by unfold upd;rw[if_pos rfl]
theorem ae(h:b≠a):upd H a o b=H b:=by unfold upd;rw[if_neg h]
theorem DS:upd (upd H a o) a u=upd H a u:=by
 funext b;unfold upd;split<;>rfl
theorem P0{H:Hp}{a b:Addr}{o u:HO}(h:H a=some o)(h':H b=some u)(d:o≠u):a≠b:=by grind [wae]
theorem ag{H:Hp}{a b:Addr}{o:HO}(h:H a=some o)(h':H b=none):a≠b:=by
 grind
section
variable(P:wat)(w:World)
def cq(H:Hp)(h:Heap)(a:Addr):HO->Prop
 |.lst xs=>xs.length<=sizeLine/\∃(its:List Value) (n:Nat),Vals xs its/\h.get? a=some {cls:=.type "list",data:=.seq its.toArray n}
 |.tup xs=>xs.length<=sizeLine/\∃its:List Value,Vals xs its/\IsTup h a its.toArray
 |.dK kvs=>kvs.length<=sizeLine/\(a==wcP)=false/\∃vs,KV kvs vs/\h.DictOf (bz P w) a vs
 |.dT kvs=>kvs.length<=sizeLine/\(a==wcP)=false/\∃xs:List (List Key×Addr×Value),
   Paired (λ(p:List Key×V) (q:List Key×Addr×Value)=>p.1=q.1/\H q.2.1=some (.tup (p.1.map kV))/\RelV p.2 q.2.2) kvs xs /\
   ∃o es ep,h.get? a=some o/\o.ExactDict/\o.data=.dict es ep/\es.toList=xs.map (entryOfKey (weS (bz P w)))/\(xs.map (·.1)).Nodup
 |.set S n=>h.SetOf (intKind P w) a S n
 |.ins C dx fs=>H dx=some (.own a)/\fs.length<=1000/\dx≠a/\h.get? a=some (wcp C dx) /\
   ∃mA,h.Ns1 dx mA/\(∀f,jB (fs.lookup f) (mA f))/\wdK mA (fs.map (·.1))
 |.own _=>∃o,h.get? a=some o
 |.xd fs=>∃mA,h.Ns1 a mA/\∀f,jB (fs.lookup f) (mA f)
 |.rng lo hi=>∃t u v,h.get? a=some {cls:=.type "range",data:=.fields #[.int lo t,.int hi u,.int 1 v]}
 |.frz o u=>h.get? a=some o/\cq H h a u
 |.tbl ps=>h.get? a=some {cls:=.none,data:=.fields ps}
 |.met f x=>h.get? a=some (wf4 (.ref f) (.ref x))
 |.ext φ=>φ h/\(∃o,h.get? a=some o)/\∀h1 h2:Heap,φ h1->(∀o,h1.get? a=some o->h2.get? a=some o)->φ h2
def jI(H:Hp)(h:Heap):Prop:=∀a o,H a=some o->cq P w H h a o
end
section
variable{P:wat}{w:World}{H H':Hp}{h h':Heap}{a:Addr}{o:HO}
theorem cq.lt(x:cq P w H h a o):a<h.objs.size:=by
 cases o with
 |lst c=>obtain⟨_,_,_,_,e⟩:=x;exact waf e
 |tup c=>obtain⟨_,_,_,p⟩:=x;exact p.lt
 |dK b=>obtain⟨_,_,_,_,o,_,_,e,_⟩:=x;exact waf e
 |dT b=>obtain⟨_,_,_,_,o,_,_,e,_⟩:=x;exact waf e
 |set S n=>obtain⟨o,_,_,_,e,_⟩:=x;exact waf e
 |ins C d fs=>obtain⟨_,_,_,e,_⟩:=x;exact waf e
 |own y=>obtain⟨_,e⟩:=x;exact waf e
 |xd fs=>obtain⟨_,⟨_,_,_,e,_⟩,_⟩:=x;exact waf e
 |rng lo hi=>obtain⟨_,_,_,e⟩:=x;exact waf e
 |frz ob u=>obtain⟨e,_⟩:=x;exact waf e
 |tbl ps=>exact waf (show h.get? a=some _ from x)
 |met f y=>exact waf (show h.get? a=some _ from x)
 |ext φ=>obtain⟨_,⟨_,e⟩,_⟩:=x;exact waf e
theorem Paired.MN{α β:Type}{F G:α->β->Prop}:∀{g:List α} {j:List β},Paired F g j->(∀a b,F a b->G a b)->Paired G g j
 |_,_,.nil,_=>.nil
 |_,_,.cons r t,f=>.cons (f _ _ r) (Paired.MN t f)
theorem cq.tW(x:cq P w H h a o)(k:∀b u,(b=a\/H b=some (.own a))->h.get? b=some u->h'.get? b=some u)
 (I:∀b,H b=some (.own a)->H' b=some (.own a)) (J:∀b xs,H b=some (.tup xs)->H' b=some (.tup xs)):cq P w H' h' a o:=by
 induction o with
 |lst xs=>obtain⟨z,j,n,r,e⟩:=x;exact⟨z,j,n,r,k _ _ (.inl rfl) e⟩
 |tup xs=>obtain⟨z,j,r,ob,e,c⟩:=x;exact⟨z,j,r,ob,k _ _ (.inl rfl) e,c⟩
 |dK l=>obtain⟨z,y,A,r,ob,g,i,e,c⟩:=x;exact⟨z,y,A,r,ob,g,i,k _ _ (.inl rfl) e,c⟩
 |dT l=>
  obtain⟨z,y,xs,r,ob,g,i,e,c⟩:=x;exact⟨z,y,xs,Paired.MN r λp q z=>⟨z.1,J _ _ z.2.1,z.2.2⟩,ob,g,i,k _ _ (.inl rfl) e,c⟩
 |set S n=>obtain⟨ob,g,i,t,e,c⟩:=x;exact⟨ob,g,i,t,k _ _ (.inl rfl) e,c⟩
 |ins C E fs=>
  obtain⟨d,z,ne,e,m,⟨s,g,i,B,c⟩,r⟩:=x;exact⟨I _ d,z,ne,k _ _ (.inl rfl) e,m,⟨s,g,i,k _ _ (.inr d) B,c⟩,r⟩
 |own y=>obtain⟨ob,e⟩:=x;exact⟨ob,k _ _ (.inl rfl) e⟩
 |xd fs=>obtain⟨m,⟨s,g,i,e,c⟩,r⟩:=x;exact⟨m,⟨s,g,i,k _ _ (.inl rfl) e,c⟩,r⟩
 |rng lo hi=>obtain⟨t,u,v,e⟩:=x;exact⟨t,u,v,k _ _ (.inl rfl) e⟩
 |frz ob u D=>obtain⟨e,q⟩:=x;exact⟨k _ _ (.inl rfl) e,D q⟩
 |tbl ps=>
  have e:h.get? a=some {cls:=.none,data:=.fields ps}:=x;show h'.get? a=some {cls:=.none,data:=.fields ps};exact k a _ (.inl rfl) e
 |met f y=>
  have e:h.get? a=some (wf4 (.ref f) (.ref y)):=x;show h'.get? a=some (wf4 (.ref f) (.ref y));exact k a _ (.inl rfl) e
 |ext φ=>obtain⟨p,⟨o,e⟩,st⟩:=x;exact⟨st _ _ p λo q=>k _ _ (.inl rfl) q,⟨o,k _ _ (.inl rfl) e⟩,st⟩
theorem jI.lt(x:jI P w H h)(e:H a=some o):a<h.objs.size:=(x a o e).lt
theorem jI.fresh(x:jI P w H h)(e:h.objs.size<=a):H a=none:=by
 cases q:H a with
 |none=>rfl
 |some u=>exact absurd (waw (x.lt q) e) (wbj _)
theorem jI.kept(x:jI P w H h)(k:∀b u,h.get? b=some u->h'.get? b=some u):jI P w H h':=λa o e=>
 (x a o e).tW (λb u _ q=>k b u q) (λ_ q=>q) λ_ _ q=>q
theorem jI.laid(x:jI P w H h)(k:∀b u,h.get? b=some u->h'.get? b=some u)(g:h.objs.size<=a)(new:cq P w (upd H a o) h' a o):jI P w (upd H a o) h':=λb u e=>by
 have hn:=x.fresh g
 by_cases d:b=a
 ·grind [a7]
 ·rw[ae d]at e;exact(x b u e).tW (λc v _ q=>k c v q) (λc q=>by rw[ae (ag q hn)];exact q) λc f q=>by rw[ae (ag q hn)];exact q
end
def Rd(H:Hp)(a:Addr)(u:HO):Prop:=H a=some u\/∃o,H a=some (.frz o u)
theorem Rd.ok{P:wat}{w:World}{H:Hp}{h:Heap}{a:Addr}{u:HO}(r:Rd H a u)(x:jI P w H h):cq P w H h a u:=by
 rcases r with r |⟨o,r⟩
 ·exact x a u r
 ·obtain⟨_,q⟩:=x a _ r;exact q
def P4:Option HO->Prop
 |some (.lst _)=>True
 |some (.dK _)=>True
 |some (.dT _)=>True
 |some (.set _ _)=>True
 |some (.ins _ _ _)=>True
 |some (.ext _)=>True
 |_=>False
section
variable{P:wat}{w:World}{H:Hp}{h h':Heap}{x e:Addr}{o':HO}
theorem jI.write(ok:jI P w H h)(g:P4 (H x))(p:e=x\/H e=some (.own x))(k:∀b u,b≠e->h.get? b=some u->h'.get? b=some u)(l:∃u,h'.get? e=some u)
 (new:cq P w (upd H x o') h' x o'):jI P w (upd H x o') h':=λb u q=>by
 have d:∀c y,H c=some (.own y)->c≠x:=λc y r z=>by subst z;rw[r]at g;exact g
 have f:∀c i,H c=some (.tup i)->c≠x:=λc i r z=>by subst z;rw[r]at g;exact g
 by_cases j:b=x
 ·subst j;rw[a7]at q;cases q;exact new
 ·rw[ae j]at q
  by_cases a:b=e
  ·have m:H b=some (.own x):=by
    rcases p with z |z
    ·exact absurd (a.trans z) j
    ·rw[a];exact z
   rw[q]at m;cases m;obtain⟨v,n⟩:=l;exact⟨v,by rw[a];exact n⟩
  ·refine(ok b u q).tW (λc v hc r=>k c v ?_ r) (λc r=>by rw[ae (d c b r)];exact r) λc i r=>by rw[ae (f c i r)];exact r
   rcases hc with rfl |hc
   ·exact a
   ·rintro rfl;rcases p with z |z
    ·exact d c b hc z
    ·rw[hc]at z;cases z;exact j rfl
end
structure Un(fs ex:List Addr)(H H':Hp)(h h':Heap):Prop where
 keep:∀b o,h.get? b=some o->H b=none->b∉fs->b∉ex->h'.get? b=some o
 slot:∀b o,h.get? b=some o->H b=none->b∈fs->b∉ex->∃sl,h'.get? b=some {o with slots:=sl}
 free:∀b o,h.get? b=some o->H b=none->b∉ex->H' b=none
 there:∀b o,h.get? b=some o->b∉ex->∃o',h'.get? b=some o'
 uC:∀b xs,H b=some (.tup xs)->H' b=some (.tup xs)
 tX:∀b o u,H b=some (.frz o u)->H' b=some (.frz o u)
 uD:∀b ps,H b=some (.tbl ps)->∃more,H' b=some (.tbl (ps++more))
section
variable{fs Y6 ex ex':List Addr}{H H1 H2:Hp}{h h1 h2 h':Heap}{a x e:Addr}{o:HO}
theorem Un.any(u:Un fs ex H H1 h h1){b:Addr}{ob:Obj}(q:h.get? b=some ob)(n:H b=none)(g:b∉ex):∃sl,h1.get? b=some {ob with slots:=sl}:=by
 by_cases a:b∈fs
 ·exact u.slot b ob q n a g
 ·exact⟨ob.slots,u.keep b ob q n a g⟩
theorem Un.kept(k:∀b u,h.get? b=some u->h'.get? b=some u):Un fs ex H H h h':=
 ⟨λb ob q _ _ _=>k b ob q,λb ob q _ _ _=>⟨ob.slots,k b ob q⟩,λ_ _ _ n _=>n,λb ob q _=>⟨ob,k b ob q⟩,λ_ _ q=>q,λ_ _ _ q=>q,λ_ ps q=>⟨#[],by rw[q];simp⟩⟩
theorem Un.refl:Un fs ex H H h h:=Un.kept λ_ _ q=>q
theorem Un.laid(k:∀b u,h.get? b=some u->h'.get? b=some u)(g:h.objs.size<=a)(hn:H a=none):Un fs ex H (upd H a o) h h' where
 keep:=λb u q _ _ _=>k b u q
 slot:=λb u q _ _ _=>⟨u.slots,k b u q⟩
 free:=λb u q n _=>by rw[ae (war (waw (waf q) g))];exact n
 there:=λb u q _=>⟨u,k b u q⟩
 uC:=λb c q=>by rw[ae (ag q hn)];exact q
 tX:=λb u c q=>by rw[ae (ag q hn)];exact q
 uD:=λb ps q=>⟨#[],by rw[ae (ag q hn),q];simp⟩
theorem Un.write(g:P4 (H x))(l:e=x\/H e=some (.own x))(k:∀b u,b≠e->h.get? b=some u->h'.get? b=some u)(j:∃u,h'.get? e=some u):Un fs ex H (upd H x o) h h':=by
 have f:∀b,H b=none->b≠x:=λb n z=>by subst z;rw[n]at g;exact g
 have d:∀b,H b=none->b≠e:=λb n z=>by
  subst z;rcases l with r |r
  ·grind
  ·grind
 have c:∀b u,H b=some u->¬P4 (some u)->b≠x:=λb u q i z=>by subst z;rw[q]at g;exact i g
 refine⟨λb u q n _ _=>k b u (d b n) q,λb u q n _ _=>⟨u.slots,k b u (d b n) q⟩,λb u q n _=>by rw[ae (f b n)];exact n,λb u q _=>?_,
  λb m q=>by rw[ae (c b _ q λz=>z)];exact q,λb u m q=>by rw[ae (c b _ q λz=>z)];exact q,λb ps q=>⟨#[],by rw[ae (c b _ q λz=>z),q];simp⟩⟩
 by_cases a:b=e
 ·subst a;exact j
 ·exact⟨u,k b u a q⟩
end
noncomputable def SM(h:Heap)(H:Hp):List Addr:=(waD h.objs.size).filter λa=>(H a).isSome
noncomputable def yS(h:Heap)(H:Hp):Heap:=PySem.W.hideAll h (SM h H)
theorem ER(h:Heap)(H:Hp):(yS h H).objs.size=h.objs.size:=PySem.W.hideAll_size _ _
theorem GI(e:h.get? b=some o)(n:H b=none):(yS h H).get? b=some o:=
 PySem.W.hideAll_get _ e λa=>by
  have q:(H b).isSome=true:=(wau.mp a).2;rw[n]at q;simp at q
theorem K1(e:(yS h H).get? b=some o):h.get? b=some o/\H b=none:=by
 have a:h.get? b=some o:=PySem.W.of_hideAll (SM h H) e;refine⟨a,?_⟩
 cases q:H b with
 |none=>rfl
 |some x=>
  grind [SM,waf,yS,PySem.W.hideAll_none]
noncomputable def K2(g h:Heap)(L:Addr):List (Addr×Obj):=(waD h.objs.size).filterMap λa=>if a=L\/(g.get? a).isSome=true then none else(h.get? a).map λo=>(a,o)
noncomputable def rest(g h:Heap)(L d:Addr):List (Addr×Obj):=(K2 g h L).filter λp=>decide (p.1≠d)
structure Mod(K:wa2)(mg:Str->Option Value)(base:Heap):Prop where
 LV:K.In base
 glob:base.Ns waR mg
 blt:∃mb,base.Ns builtinsNs mb/\∀x:Str,x≠"__name__"->mb x=waX x
 nolimit:base.NoLimit
structure Cx where
 prog:wat
 w:World
 K:wa2
 mg:Str->Option Value
 base:Heap
 A:Around
 N:List Str
 s₀:Shared
 H₀:Hp
 env:Env
 outer:List Env
 stack:List Env
 ex:List Addr
 fn:Str->Bool
 calm:Bool
 pn:List (Addr×Obj)
 xe:Value->Shared->Prop
noncomputable def sD(l:List Env):List Addr:=l.filterMap (·.frame)
noncomputable abbrev Cx.fs(X:Cx):List Addr:=sD X.outer
def P5(sc:wd8)(x:Str):Prop:=sc.names.lookup x=some .local\/sc.names.lookup x=some .cell\/sc.names.lookup x=some .free
def Loc(sc:wd8)(x:Str):Prop:=sc.names.lookup x=some .local\/sc.names.lookup x=some .cell
def Look(env:Env)(h:Heap)(m:Str->Option Value)(x:Str)(u:Value):Prop:=
 (env.kindOf x=some .local/\m x=some u)\/((env.kindOf x=some .cell\/env.kindOf x=some .free)/\∃c,env.cells.lookup x=some c/\h.IsCell c (some u))
structure Cx.Ok(X:Cx):Prop where
 mod:Mod X.K X.mg X.base
 kind:X.env.scope.kind=.function
 glob:X.env.globals=waR
 blt:X.env.builtins=builtinsNs
 above:X.s₀.heap.objs.size<=X.env.locals
 inj:∀x y c,X.env.cells.lookup x=some c->X.env.cells.lookup y=some c->x=y
 has:∀x,(X.env.kindOf x=some .cell\/X.env.kindOf x=some .free)->∃c,X.env.cells.lookup x=some c
 MO:∀x c,X.fn x=true->X.env.cells.lookup x=some c->X.s₀.heap.objs.size<=c
 hd:X.calm=true->X.A.handled=none
 frames:X.A.frames=some X.stack
 Oy:X.stack=X.outer\/(X.stack=X.env::X.outer/\X.env.frame=some X.env.locals)
 RC:∀b∈X.ex,b≠X.env.locals/\∀x c,X.env.cells.lookup x=some c->c≠b
 bs:∀b o,X.base.get? b=some o->X.s₀.heap.get? b=some o/\X.H₀ b=none
 GJ:X.base.objs.size<=X.s₀.heap.objs.size
 C0:∀b o,X.base.get? b=some o->b∉X.ex
 EV:∀b∈X.ex,b∉X.fs
 pE:X.s₀.heap.FunFrames X.base X.outer
 K3:∀b∈X.fs,X.H₀ b=none
structure Inv(X:Cx)(pins:List (Addr×Obj))(σ:List (Option V))(H:Hp)(s:Shared):Prop where
 ok:X.Ok
 os:s.os=X.s₀.os
 bare:AllBare s.gens
 base:Un X.fs X.ex X.H₀ H X.s₀.heap s.heap
 loc:∃m,s.heap.Ns X.env.locals m/\∀(i:Nat) (x:Str) (v:V),X.N[i]?=some x->σ[i]?=some (some v)->P5 X.env.scope x->∃u,RelV v u/\Look X.env s.heap m x u
 cell:∀x c,X.env.cells.lookup x=some c->∃v,s.heap.IsCell c v
 free:H X.env.locals=none
 jJ:∀x c,X.env.cells.lookup x=some c->H c=none
 pin:∀p∈X.pn++pins,s.heap.get? p.1=some p.2/\H p.1=none/\p.1≠X.env.locals/\p.1∉X.fs/\∀v,p.2.data≠.cell v
 b9:jI X.prog X.w H s.heap
 len:σ.length=X.N.length
section
variable{X:Cx}{pins:List (Addr×Obj)}{σ:List (Option V)}{H H':Hp}{s:Shared}{h':Heap}
theorem Cx.Ok.SN(ok:X.Ok)(e:X.base.get? b=some o):b∉X.fs:=λa=>by
 have:=(ok.pE.mem a).1;rw[e]at this;cases this
theorem Inv.bs(I:Inv X pins σ H s):∀b o,X.base.get? b=some o->s.heap.get? b=some o/\H b=none:=λb o e=>
 ⟨I.base.keep b o (I.ok.bs b o e).1 (I.ok.bs b o e).2 (I.ok.SN e) (I.ok.C0 b o e),I.base.free b o (I.ok.bs b o e).1 (I.ok.bs b o e).2 (I.ok.C0 b o e)⟩
theorem Inv.bk(I:Inv X pins σ H s):∀b o,X.base.get? b=some o->s.heap.get? b=some o:=λb o e=>(I.bs b o e).1
theorem Inv.mod(I:Inv X pins σ H s):Mod X.K X.mg X.base:=I.ok.mod
theorem Inv.iL(I:Inv X pins σ H s):X.K.In s.heap:=I.ok.mod.LV.keeps I.bk
theorem Inv.lt(I:Inv X pins σ H s):X.env.locals<s.heap.objs.size:=let ⟨_,hn,_⟩:=I.loc;hn.lt
theorem Inv.sz(I:Inv X pins σ H s):X.s₀.heap.objs.size<=s.heap.objs.size:=wal I.ok.above (wfk I.lt)
theorem Inv.SQ(I:Inv X pins σ H s)(h:s.heap.objs.size<=a):a∉X.fs:=λb=>by
 obtain⟨_,o,c,_⟩:=I.ok.pE.mem b;exact absurd (waw (waf c) (wal I.sz h)) (wbj _)
theorem Inv.MP(I:Inv X pins σ H s):∀x c,X.env.cells.lookup x=some c->c≠X.env.locals:=λx c e z=>by
 obtain⟨v,o,d,hd⟩:=I.cell x c e;obtain⟨m,⟨f,g,h,a,b,_⟩,_⟩:=I.loc;rw[z,a]at d;cases d;rw[b]at hd;cases hd
theorem Inv.pE(I:Inv X pins σ H s):s.heap.FunFrames X.base X.outer:=by
 have all:∀(l:List Env),(∀b∈sD l,b∈X.fs)->X.s₀.heap.FunFrames X.base l->s.heap.FunFrames X.base l:=by
  intro l
  induction l with
  |nil=>intro _ _;trivial
  |cons env r g=>
   intro f hl;obtain⟨hk,⟨L,o,a,hn,h,hd⟩,i⟩:=hl;have c:L∈X.fs:=f L (by unfold sD;rw[wbi,a];exact wag);obtain⟨sl,e⟩:=I.base.slot L o h (I.ok.K3 L c) c λz=>I.ok.EV L z c;exact⟨hk,⟨L,_,a,hn,e,hd⟩,g (λb d=>f b (by unfold sD;rw[wbi,a];exact wac _ d)) i⟩
 exact all X.outer (λ_ d=>d) I.ok.pE
theorem Inv.stack(I:Inv X pins σ H s):s.heap.FunFrames X.base X.stack:=by
 rcases I.ok.Oy with e |⟨e,a⟩
 ·rw[e];exact I.pE
 ·rw[e];obtain⟨m,hn,_⟩:=I.loc;refine .cons (by rw[I.ok.kind];decide) a hn ?_ I.pE;exact Heap.get?_none_of_le (wal I.ok.GJ I.ok.above)
theorem Inv.uE(I:Inv X pins σ H s):∀b∈sD X.stack,b∈X.env.locals::X.fs:=λb a=>by
 rcases I.ok.Oy with e |⟨e,c⟩
 ·grind
 ·grind [sD]
theorem Inv.uh(I:Inv X pins σ H s):∀b∈sD X.stack,H b=none:=λb a=>by
 rcases waH.mp (I.uE b a) with e |a
 ·rw[e];exact I.free
 ·obtain⟨_,o,c,_⟩:=I.ok.pE.mem a;exact I.base.free b o c (I.ok.K3 b a) λz=>I.ok.EV b z a
theorem Inv.step{g':Array wds}{t':Nat}{d':Drawn}{ch:List Addr}(I:Inv X pins σ H s)
 (g:∀b∈ch,(b∈X.ex\/X.s₀.heap.objs.size<=b)/\b≠X.env.locals/\(∀x c,X.env.cells.lookup x=some c->c≠b)/\∀p∈X.pn++pins,p.1≠b)
 (keep:∀b o,b≠X.env.locals->b∉X.fs->b∉ch->s.heap.get? b=some o->H b=none->h'.get? b=some o)
 (slot:∀b o,b≠X.env.locals->b∈X.fs->b∉ch->s.heap.get? b=some o->H b=none->∃sl,h'.get? b=some {o with slots:=sl}) (free:∀b o,b∉ch->s.heap.get? b=some o->H b=none->H' b=none)
 (there:∀b o,b∉ch->s.heap.get? b=some o->∃C,h'.get? b=some C)
 (uC:∀b xs,H b=some (.tup xs)->H' b=some (.tup xs)) (tX:∀b o u,H b=some (.frz o u)->H' b=some (.frz o u)) (uD:∀b ps,H b=some (.tbl ps)->∃more,H' b=some (.tbl (ps++more)))
 (ns:∀m,s.heap.Ns X.env.locals m->h'.Ns X.env.locals m) (b9:jI X.prog X.w H' h') (T:AllBare g') :
 Inv X pins σ H' {s with heap:=h',gens:=g',drawn:=d',toks:=t'}:=by
 have B:∀b o,X.s₀.heap.get? b=some o->b≠X.env.locals:=λb o e=>war (waw (waf e) I.ok.above)
 have j:∀b o,X.s₀.heap.get? b=some o->b∉X.ex->b∉ch:=λb o e a y=>by
  rcases(g b y).1 with z |z
  ·exact a z
  ·exact absurd (waw (waf e) z) (wbj _)
 have f:∀x c,X.env.cells.lookup x=some c->∀v,s.heap.IsCell c v->h'.IsCell c v:=λx c e v ⟨o,A,hd⟩=>by
  have h:c∉ch:=λz=>(g c z).2.2.1 x c e rfl
  by_cases hc:c∈X.fs
  ·obtain⟨sl,q⟩:=slot c o (I.MP x c e) hc h A (I.jJ x c e);exact⟨_,q,hd⟩
  ·exact⟨o,keep c o (I.MP x c e) hc h A (I.jJ x c e),hd⟩
 refine⟨I.ok,I.os,T,⟨λb o e n y a=>?_,λb o e n y a=>?_,λb o e n a=>?_,λb o e a=>?_,λb xs e=>uC b xs (I.base.uC b xs e),λb o xs e=>tX b o xs (I.base.tX b o xs e),λb ps e=>?_⟩,?_,λx c e=>?_,?_,λx c e=>?_,λp G=>?_,b9,I.len⟩
 ·exact keep b o (B b o e) y (j b o e a) (I.base.keep b o e n y a) (I.base.free b o e n a)
 ·obtain⟨sl,t⟩:=I.base.slot b o e n y a;obtain⟨E,D⟩:=slot b _ (B b o e) y (j b o e a) t (I.base.free b o e n a);exact⟨E,D⟩
 ·obtain⟨C,t⟩:=I.base.there b o e a;exact free b C (j b o e a) t (I.base.free b o e n a)
 ·obtain⟨C,t⟩:=I.base.there b o e a;exact there b C (j b o e a) t
 ·obtain⟨m1,t⟩:=I.base.uD b ps e;obtain⟨L,D⟩:=uD b _ t;exact⟨m1++L,by rw[D,Array.append_assoc]⟩
 ·obtain⟨m,hn,hl⟩:=I.loc;refine⟨m,ns m hn,λi x v t D M=>?_⟩;obtain⟨u,r,l⟩:=hl i x v t D M;refine⟨u,r,?_⟩;rcases l with l |⟨k,c,e,z⟩
  ·exact .inl l
  ·exact .inr ⟨k,c,e,f x c e _ z⟩
 ·obtain⟨v,z⟩:=I.cell x c e;exact⟨v,f x c e v z⟩
 ·obtain⟨m,⟨o,_,_,A,_⟩,_⟩:=I.loc;exact free _ o (λz=>(g _ z).2.1 rfl) A I.free
 ·obtain⟨v,o,A,hd⟩:=I.cell x c e;exact free c o (λz=>(g c z).2.2.1 x c e rfl) A (I.jJ x c e)
 ·obtain⟨e,n,ne,J,d⟩:=I.pin p G;have h:p.1∉ch:=λz=>(g p.1 z).2.2.2 p G rfl;exact⟨keep p.1 p.2 ne J h e n,free p.1 p.2 h e n,ne,J,d⟩
theorem Inv.un{t':Nat}(I:Inv X pins σ H s)(u:Un X.fs [] H H' s.heap h')(b9:jI X.prog X.w H' h'):Inv X pins σ H' {s with heap:=h',toks:=t'}:=by
 obtain⟨m,⟨o,k,l,g,r⟩,_⟩:=id I.loc;obtain⟨sl,h⟩:=u.any g I.free (by simp)
 exact I.step (g':=s.gens) (d':=s.drawn) (ch:=[]) (λ_ z=>nomatch z) (λb o _ c _ e n=>u.keep b o e n c (by simp)) (λb o _ c _ e n=>u.slot b o e n c (by simp)) (λb o _ e n=>u.free b o e n (by simp)) (λb o _ e=>u.there b o e (by simp)) u.uC u.tX u.uD (λp i=>by
  obtain⟨q,d,f,a,j⟩:=i;rw[g]at a;cases a
  exact⟨_,d,f,h,j⟩) b9 I.bare
theorem Inv.call{g':Array wds}{t':Nat}{d':Drawn}{ch:List Addr}(I:Inv X pins σ H s)(u:Un (sD X.stack) ch H H' s.heap h')(b9:jI X.prog X.w H' h')(j:AllBare g')
 (g:∀b∈ch,(b∈X.ex\/X.s₀.heap.objs.size<=b)/\b≠X.env.locals/\(∀x c,X.env.cells.lookup x=some c->c≠b)/\∀p∈X.pn++pins,p.1≠b) :
 Inv X pins σ H' {s with heap:=h',gens:=g',drawn:=d',toks:=t'}:=by
 obtain⟨m,⟨o,t,v,i,r⟩,_⟩:=id I.loc;obtain⟨sl,d⟩:=u.any i I.free λz=>(g _ z).2.1 rfl
 exact I.step (ch:=ch) g (λb o d k hc e n=>u.keep b o e n (λz=>(waH.mp (I.uE b z)).elim d k) hc) (λb o _ _ hc e n=>u.any e n hc) (λb o hc e n=>u.free b o e n hc) (λb o hc e=>u.there b o e hc) u.uC u.tX u.uD (λy l=>by
  obtain⟨A,f,h,a,q⟩:=l;rw[i]at a;cases a
  exact⟨_,f,h,d,q⟩) b9 j
theorem Inv.turned{t':Nat}{it:Addr}(I:Inv X pins σ H s)(k:∀b o,b≠it->s.heap.get? b=some o->h'.get? b=some o)(hn:H it=none)(g:it≠X.env.locals)
 (j:it∈X.ex\/X.s₀.heap.objs.size<=it) (l:∀x c,X.env.cells.lookup x=some c->c≠it) (t:∀p∈X.pn++pins,p.1≠it):Inv X pins σ H {s with heap:=h',toks:=t'}:=by
 have a:∀b u,H b=some u->b≠it:=λb u e z=>by rw[z,hn]at e;cases e
 refine I.step (g':=s.gens) (d':=s.drawn) (ch:=[it]) (λb d=>?_) (λb o _ _ hc e _=>k b o (λz=>hc (by simp[z])) e) (λb o _ _ hc e _=>⟨o.slots,k b o (λz=>hc (by simp[z])) e⟩) (λ_ _ _ _ n=>n)
  (λb o hc e=>⟨o,k b o (λz=>hc (by simp[z])) e⟩) (λ_ _ e=>e) (λ_ _ _ e=>e) (λb ps e=>⟨#[],by rw[e];simp⟩) (λm f=>?_) (λb u e=>?_) I.bare
 ·have e:b=it:=by simpa using d
  subst e;exact⟨j,g,l,t⟩
 ·obtain⟨o,h,i,w,r⟩:=f;exact⟨o,h,i,k _ o (wbc g) w,r⟩
 ·refine(I.b9 b u e).tW (λc v hc q=>k c v ?_ q) (λ_ q=>q) λ_ _ q=>q;rcases hc with z |z
  ·rw[z];exact a b u e
  ·exact a c _ z
theorem Inv.tok(I:Inv X pins σ H s)(t:Nat):Inv X pins σ H {s with toks:=t}:=I.un (h':=s.heap) (t':=t) Un.refl I.b9
theorem Inv.kept(I:Inv X pins σ H s)(k:∀b u,s.heap.get? b=some u->h'.get? b=some u):Inv X pins σ H {s with heap:=h',toks:=t'}:=I.un (Un.kept k) (I.b9.kept k)
theorem Inv.laid(I:Inv X pins σ H s)(k:∀b u,s.heap.get? b=some u->h'.get? b=some u)(g:s.heap.objs.size<=a)(new:cq X.prog X.w (upd H a o) h' a o) :
 Inv X pins σ (upd H a o) {s with heap:=h',toks:=t'}:=I.un (Un.laid k g (I.b9.fresh g)) (I.b9.laid k g new)
theorem Inv.write(I:Inv X pins σ H s)(j:P4 (H x))(l:e=x\/H e=some (.own x))(k:∀b u,b≠e->s.heap.get? b=some u->h'.get? b=some u)(g:∃u,h'.get? e=some u)
 (new:cq X.prog X.w (upd H x o) h' x o):Inv X pins σ (upd H x o) {s with heap:=h',toks:=t'}:=I.un (Un.write j l k g) (I.b9.write j l k g new)
theorem Inv.DT(I:Inv X pins σ H s)(h:∀p∈g,s.heap.get? p.1=some p.2/\H p.1=none/\p.1≠X.env.locals/\p.1∉X.fs/\∀v,p.2.data≠.cell v):Inv X g σ H s:=
 ⟨I.ok,I.os,I.bare,I.base,I.loc,I.cell,I.free,I.jJ,λp a=>(waE.mp a).elim (λz=>I.pin p (waW _ z)) (h p),I.b9,I.len⟩
theorem Ae{N:List Str}(g:N.Nodup){i j:Nat}{x:Str}(a:N[i]?=some x)(b:N[j]?=some x):i=j:=by
 obtain⟨e,c⟩:=wa6.mp a;obtain⟨f,d⟩:=wa6.mp b;exact(wch g).mp (c.trans d.symm)
theorem xN{M:Model}{A:Around}{E:Value->Shared->Prop}{i:Nat}{x:Str}{v:V}{u:Value}{Q:Unit->Shared->Prop}(I:Inv X pins σ H s)(hN:X.N.Nodup)(hi:X.N[i]?=some x)(t:Loc X.env.scope x)(r:RelV v u)
 (h:∀s',Inv X pins (σ.set i (some v)) H s'->(∃a,wfl a s.heap s'.heap/\(a=X.env.locals\/X.env.cells.lookup x=some a))->Q () s') (hf:X.fn x=true\/X.env.scope.names.lookup x=some .local:=by first |exact .inl rfl |exact .inr rfl |assumption):wpAny M A (storeName X.env x u) Q E s:=by
 obtain⟨m,hn,hl⟩:=id I.loc;have L:(X.env.scope.kind == .class ||(X.env.scope.kind == .module&&X.env.locals != X.env.globals))=false:=by rw[I.ok.kind];rfl
 have hiσ:i<σ.length:=by rw[I.len];exact(wa6.mp hi).1
 have MP:=I.MP
 have g:∀{a:Addr} {h':Heap},(∃o,s.heap.get? a=some o/\H a=none)->wfl a s.heap h'->jI X.prog X.w H h':=λ{a h'} ha f b ob e=>by
  obtain⟨_,_,B⟩:=ha;refine(I.b9 b ob e).tW (λc U hc q=>(f.2 c ?_).trans q) (λ_ q=>q) λ_ _ q=>q;rintro rfl;rcases hc with rfl |hc
  ·rw[B]at e;cases e
  ·rw[B]at hc;cases hc
 rcases t with hk |hk
 ·refine wpAny_storeName_local hk hn (λh' Z f=>?_) L;obtain⟨oL,_,_,Y7,_⟩:=id hn;refine h _ ⟨I.ok,I.os,I.bare,⟨λb o e n D t=>?_,λb o e n D t=>?_,I.base.free,λb o e t=>?_,I.base.uC,I.base.tX,I.base.uD⟩,⟨_,Z,λj y v' l C e3=>?_⟩,λy c e=>?_,I.free,I.jJ,λp hp=>?_,g ⟨oL,Y7,I.free⟩ f,by simpa using I.len⟩ ⟨_,f,.inl rfl⟩
  ·exact(f.2 b (war (waw (waf e) I.ok.above))).trans (I.base.keep b o e n D t)
  ·obtain⟨sl,l⟩:=I.base.slot b o e n D t;exact⟨sl,(f.2 b (war (waw (waf e) I.ok.above))).trans l⟩
  ·obtain⟨o',l⟩:=I.base.there b o e t;exact⟨o',(f.2 b (war (waw (waf e) I.ok.above))).trans l⟩
  ·by_cases G:j=i
   ·subst G;rw[hi]at l;cases l;rw[wcE hiσ]at C;cases C;exact⟨u,r,.inl ⟨hk,by simp⟩⟩
   ·rw[wcQ (wbc G)]at C;obtain⟨u',r',q⟩:=hl j y v' l C e3;refine⟨u',r',?_⟩;rcases q with⟨k,e⟩ |⟨k,c,e,z⟩
    ·refine .inl ⟨k,?_⟩;have:y≠x:=λe=>G (Ae hN l (e ▸ hi));simp[this,e]
    ·exact .inr ⟨k,c,e,z.sameBut f (MP y c e)⟩
  ·obtain⟨U,z⟩:=I.cell y c e;exact⟨U,z.sameBut f (MP y c e)⟩
  ·obtain⟨e,n,ne,nf,d⟩:=I.pin p hp;exact⟨(f.2 p.1 ne).trans e,n,ne,nf,d⟩
 ·have J:X.fn x=true:=by
   rcases hf with z |z
   ·exact z
   ·rw[z]at hk;cases hk
  obtain⟨c,hc⟩:=I.ok.has x (.inl hk);obtain⟨U,z⟩:=I.cell x c hc;refine wpAny_storeName_cell I.ok.kind hk hc z (λh' O f=>?_);obtain⟨oc,R,S⟩:=id z;refine h {s with heap:=h'} ⟨I.ok,I.os,I.bare,⟨λb o e n D t=>?_,λb o e n D t=>?_,I.base.free,λb o e t=>?_,I.base.uC,I.base.tX,I.base.uD⟩,⟨m,hn.sameBut f (wbc (MP x c hc)),λj y v' l C e3=>?_⟩,λy Y e=>?_,I.free,I.jJ,λp hp=>?_,g ⟨oc,R,I.jJ x c hc⟩ f,by simpa using I.len⟩ ⟨c,f,.inr hc⟩
  ·exact(f.2 b (war (waw (waf e) (I.ok.MO x c J hc)))).trans (I.base.keep b o e n D t)
  ·obtain⟨sl,l⟩:=I.base.slot b o e n D t;exact⟨sl,(f.2 b (war (waw (waf e) (I.ok.MO x c J hc)))).trans l⟩
  ·obtain⟨o',l⟩:=I.base.there b o e t;exact⟨o',(f.2 b (war (waw (waf e) (I.ok.MO x c J hc)))).trans l⟩
  ·by_cases G:j=i
   ·subst G;rw[hi]at l;cases l;rw[wcE hiσ]at C;cases C;exact⟨u,r,.inr ⟨.inl hk,c,hc,O⟩⟩
   ·rw[wcQ (wbc G)]at C;obtain⟨u',r',q⟩:=hl j y v' l C e3;refine⟨u',r',?_⟩;rcases q with q |⟨k,Y,e,z'⟩
    ·exact .inl q
    ·refine .inr ⟨k,Y,e,z'.sameBut f ?_⟩;rintro rfl;exact G (Ae hN l (I.ok.inj _ _ _ e hc ▸ hi))
  ·by_cases T:Y=c
   ·subst T;exact⟨_,O⟩
   ·obtain⟨w2,z2⟩:=I.cell y Y e;exact⟨w2,z2.sameBut f T⟩
  ·obtain⟨e,n,ne,nf,d⟩:=I.pin p hp;refine⟨(f.2 p.1 ?_).trans e,n,ne,nf,d⟩;intro q;rw[q,R]at e;have q':oc=p.2:=wae e;exact d U (by rw[<-q'];exact S)
theorem jK{E:Value->Shared->Prop}{Q:Unit->Shared->Prop}(I:Inv X pins σ H s)(g:X.N.Nodup)(hi:X.N[i]?=some x)(j:Loc X.env.scope x)(r:RelV v u)
 (h:∀s',Inv X pins (σ.set i (some v)) H s'->Q () s') (l:X.fn x=true\/X.env.scope.names.lookup x=some .local:=by first |exact .inl rfl |exact .inr rfl |assumption):wpAny M A (storeName X.env x u) Q E s:=
 xN I g hi j r (λs' a _=>h s' a) l
theorem Inv.xO(I:Inv X pins σ H s)(j:s'.os=s.os)(u:Un (sD X.stack) ch H H' s.heap s'.heap)(b9:jI X.prog X.w H' s'.heap)(l:AllBare s'.gens)
 (g:∀b∈ch,(b∈X.ex\/X.s₀.heap.objs.size<=b)/\b≠X.env.locals/\(∀x c,X.env.cells.lookup x=some c->c≠b)/\∀p∈X.pn++pins,p.1≠b):Inv X pins σ H' s':=by
 obtain⟨h',g',d',t',a⟩:=s';have e:a=s.os:=j;subst e;exact I.call (g':=g') (t':=t') (d':=d') u b9 l g
end
noncomputable abbrev XK:=Value->Option Addr->Hp->Prop
noncomputable abbrev St:=List (Option V)
noncomputable abbrev VK:=V->Hp->Prop
noncomputable abbrev TE:=St->Hp->VK->Prop
noncomputable abbrev TT:=St->Hp->(Bool->Hp->Prop)->Prop
noncomputable abbrev TA:=St->Hp->(List V->Hp->Prop)->Prop
structure Ends where
 nx:St->Hp->Prop
 rt:VK
 bk:St->Hp->Prop:=λ_ _=>False
 ct:St->Hp->Prop:=λ_ _=>False
noncomputable abbrev TS:=Ends->St->Hp->Prop
def EP(X:Cx)(pins:List (Addr×Obj))(σ:St)(Q:VK)(u:Value)(s':Shared):Prop:=∃v H',Inv X pins σ H' s'/\RelV v u/\Q v H'
def TP(X:Cx)(pins:List (Addr×Obj))(σ:St)(Q:Bool->Hp->Prop)(b:Bool)(s':Shared):Prop:=∃H',Inv X pins σ H' s'/\Q b H'
def AP(X:Cx)(pins:List (Addr×Obj))(σ:St)(Q:List V->Hp->Prop)(us:List Value)(s':Shared):Prop:=∃vs H',Inv X pins σ H' s'/\Vals vs us/\Q vs H'
def SP(X:Cx)(pins:List (Addr×Obj))(D:Ends)(f:Flow)(s':Shared):Prop:=
 match f with
 |.next=>∃σ' H',Inv X pins σ' H' s'/\D.nx σ' H'
 |.brk=>∃σ' H',Inv X pins σ' H' s'/\D.bk σ' H'
 |.cont=>∃σ' H',Inv X pins σ' H' s'/\D.ct σ' H'
 |.ret u=>∃v σ' H',Inv X pins σ' H' s'/\RelV v u/\D.rt v H'
def PE(X:Cx)(e:Expr)(t:TE):Prop:=
 ∀(pins:List (Addr×Obj)) (s:Shared) (σ:St) (H:Hp) (Q:VK),Inv X pins σ H s->t σ H Q->wpAny (model X.prog X.w) X.A (eval e X.env) (EP X pins σ Q) X.xe s
def PT(X:Cx)(e:Expr)(t:TT):Prop:=
 ∀(pins:List (Addr×Obj)) (s:Shared) (σ:St) (H:Hp) (Q:Bool->Hp->Prop),Inv X pins σ H s->t σ H Q->wpAny (model X.prog X.w) X.A (isTrue e X.env (eval e X.env)) (TP X pins σ Q) X.xe s
def PW(X:Cx)(e:Expr)(t:TT):Prop:=
 ∀(whole:Sem Value) (pins:List (Addr×Obj)) (s:Shared) (σ:St) (H:Hp) (Q:Bool->Hp->Prop),Inv X pins σ H s->t σ H Q->wpAny (model X.prog X.w) X.A (isTrue e X.env whole) (TP X pins σ Q) X.xe s
theorem PW.pt{X:Cx}{e:Expr}{t:TT}(h:PW X e t):PT X e t:=h _
def PA(X:Cx)(es:List Expr)(t:TA):Prop:=
 ∀(pos:Pos) (pins:List (Addr×Obj)) (s:Shared) (σ:St) (H:Hp) (Q:List V->Hp->Prop),Inv X pins σ H s->t σ H Q->wpAny (model X.prog X.w) X.A (spliced (backTo pos (starEach es X.env))) (AP X pins σ Q) X.xe s
def PS(X:Cx)(st:Stmt)(t:TS):Prop:=
 ∀(pins:List (Addr×Obj)) (s:Shared) (σ:St) (H:Hp) (D:Ends),Inv X pins σ H s->t D σ H->wpAny (model X.prog X.w) X.A (exec st X.env) (SP X pins D) X.xe s
def wR(X:Cx)(st:List Stmt)(t:TS):Prop:=
 ∀(pins:List (Addr×Obj)) (s:Shared) (σ:St) (H:Hp) (D:Ends),Inv X pins σ H s->t D σ H->wpAny (model X.prog X.w) X.A (execs st X.env) (SP X pins D) X.xe s
theorem bY{α:Type}{t:Sem α}{Q g:α->Shared->Prop}{M:Model}{A:Around}{E:Value->Shared->Prop}{s:Shared}(h:wpAny M A t Q E s)(j:∀a s,Q a s->g a s):wpAny M A t g E s:=wba h j λ_ _ x=>x
section
variable{X:Cx}
inductive K4(i:Nat)(σ:St)(H:Hp)(Q:VK):Prop
 |mk (v) (_:σ[i]?=some (some v)) (_:Q v H)
def tC(v:V):TE:=λ_ H Q=>Q v H
theorem MQ(j:X.N[i]?=some x)(p:P5 X.env.scope x)(hd:(x==("__debug__":Str))=false:=by decide)(g:(x==("__classdict__":Str))=false:=by decide):PE X (.Name x pos) (K4 i):=by
 intro b s σ H Q I h;obtain⟨v,e,h⟩:=h;obtain⟨m,hn,hl⟩:=I.loc;obtain⟨u,r,l⟩:=hl i x v j e p;have fin:EP X b σ Q u s:=⟨v,H,I,r,h⟩;rcases l with⟨hk,d⟩ |⟨hk,c,hc,a⟩
 ·exact wpAny_Name (wgu I.ok.kind hk hn d fin) hd
 ·rcases hk with hk |hk
  ·exact wpAny_Name (wgI I.ok.kind hk hc a fin) hd
  ·exact wpAny_Name (wpAny_loadName_free I.ok.kind hk hc a fin g) hd
theorem ao{i j pos}:PE X (.Constant (.int i) j pos) (tC (.int i)):=λ_ _ _ H _ I h=>wpAny_Constant_int ⟨.int i,H,I.tok _,⟨_,rfl⟩,h⟩
theorem gy{b j pos}:PE X (.Constant (.bool b) j pos) (tC (.bl b)):=λ_ _ _ H _ I h=>Constant_bool ⟨.bl b,H,I,rfl,h⟩
theorem gD{j pos}:PE X (.Constant .none j pos) (tC .non):=λ_ _ _ H _ I h=>Constant_none ⟨.non,H,I,rfl,h⟩
theorem fb{x j pos}:PE X (.Constant (.str x) j pos) (tC (.str x)):=λ_ _ _ H _ I h=>wgS ⟨.str x,H,I.tok _,⟨_,rfl⟩,h⟩
def Gl(X:Cx)(x:Str):Prop:=X.env.kindOf x=some .globalImplicit
theorem gW{E:Value->Shared->Prop}{Q:Value->Shared->Prop}(I:Inv X g σ H s)(j:Gl X x)(l:X.mg x=some u)(h:Q u s)
 (hd:(x==("__debug__":Str))=false:=by decide):wpAny (model X.prog X.w) X.A (eval (.Name x pos) X.env) Q E s:=
 weY I.ok.kind j (Calls.loadGlobal_global (by rw[I.ok.glob];exact I.mod.glob.keeps I.bk) l h) hd
theorem gE{E:Value->Shared->Prop}{Q:Value->Shared->Prop}(I:Inv X g σ H s)(j:Gl X x)(l:X.mg x=none)(p:waX x=some u)(h:Q u s)
 (hn:x≠"__name__":=by decide) (hd:(x==("__debug__":Str))=false:=by decide):wpAny (model X.prog X.w) X.A (eval (.Name x pos) X.env) Q E s:=by
 obtain⟨c,a,b⟩:=I.mod.blt;exact weY I.ok.kind j (Calls.loadGlobal_builtin (by rw[I.ok.glob];exact I.mod.glob.keeps I.bk) l (by rw[I.ok.blt];exact a.keeps I.bk) ((b x hn).trans p) h) hd
theorem ui(g:Gl X x)(j:X.mg x=some u)(r:RelV v u)(hd:(x==("__debug__":Str))=false:=by decide):PE X (.Name x pos) (tC v):=
 λ_ _ _ H _ I h=>gW I g j ⟨v,H,I,r,h⟩ hd
theorem gX(g:Gl X x)(j:X.mg x=none)(l:waX x=some u)(r:RelV v u)(hn:x≠"__name__":=by decide)(hd:(x==("__debug__":Str))=false:=by decide):PE X (.Name x pos) (tC v):=
 λ_ _ _ H _ I h=>gE I g j l ⟨v,H,I,r,h⟩ hn hd
variable{a b:Expr}{ta tb:TE}{pos:Pos}
def PC(X:Cx)(op:CmpOp)(a b:Expr)(t:TE):Prop:=
 ∀(pins:List (Addr×Obj)) (s:Shared) (σ:St) (H:Hp) (Q:VK),Inv X pins σ H s->t σ H Q ->
  wpAny (model X.prog X.w) X.A (eval a X.env) (λv s₁=>wpAny (model X.prog X.w) X.A (eval b X.env) (λu s₂=>wpAny (model X.prog X.w) X.A (wbm op v u) (EP X pins σ Q) X.xe s₂) X.xe s₁) X.xe s
theorem GK(b:Expr)(h:op≠.In)(g:op≠.NotIn):wd4 op b=false:=by
 have a:(op==CmpOp.In)=false:=by grind
 have c:(op==CmpOp.NotIn)=false:=by grind
 cases b<;>simp[wd4,a,c]
inductive VL(x:V)(H:Hp)(Q:Bool->Hp->Prop):Prop
 |mk (c) (_:x=.bl c) (_:Q c H)
def tB(t:TE):TT:=λσ H Q=>t σ H λx H1=>VL x H1 Q
theorem yT{op:CmpOp}{t:TE}(h:PC X op a b t)(g:wd4 op b=false:=by first |exact GK _ (by decide) (by decide) |rfl):PT X (.Compare a [op] [b] pos) (tB t):=by
 intro e s σ H Q I hw;refine wge (bY (h e s σ H _ I hw) λv m g=>bY g λu n f=>bY f λc o ⟨x,i,j,k,l⟩=>?_) g;obtain⟨d,rfl,q⟩:=l;cases k;exact wbN ⟨i,j,q⟩
theorem cF{e:Expr}{t:TE}(h:PE X e t)(g:∀whole,isTrue e X.env whole=(do let v <-whole;standAt e.pos;holding [v] (truthy v)):=by intro _;rfl):PT X e (tB t):=by
 intro a s σ H Q I hw;refine isTrue_plain (bY (h a s σ H _ I hw) λv j ⟨x,b,c,f,i⟩=>?_) (g _);obtain⟨d,rfl,q⟩:=i;cases f;exact wbN ⟨b,c,q⟩
variable{tA RD:TT}{rest:List Expr}
def SR(t u:TT):TT:=λσ H Q=>t σ H λc H1=>if c=true then u σ H1 Q else Q false H1
def Y8(t u:TT):TT:=λσ H Q=>t σ H λc H1=>if c=true then Q true H1 else u σ H1 Q
def SU(t:TT):TT:=λσ H Q=>t σ H λc H1=>Q (!c) H1
theorem yU(ha:PT X a tA):PW X (.BoolOp .And [a] pos) tA:=by
 intro d b s σ H Q I h;refine isTrue_and (bY (ha b s σ H Q I h) λc f e=>?_)
 cases c with
 |true=>exact isTrue_and_nil e
 |false=>exact e
theorem iX(ha:PT X a tA):PW X (.BoolOp .Or [a] pos) tA:=by
 intro d b s σ H Q I h;refine isTrue_or (bY (ha b s σ H Q I h) λc f e=>?_)
 cases c with
 |false=>exact isTrue_or_nil e
 |true=>exact e
theorem C3(ha:PT X a tA)(j:PW X (.BoolOp .And (b::rest) pos) RD):PW X (.BoolOp .And (a::b::rest) pos) (SR tA RD):=by
 intro i d s σ H Q I h;refine isTrue_and (bY (ha d s σ H _ I h) λc k ⟨e,f,g⟩=>?_)
 cases c with
 |true=>exact j i d k σ e Q f g
 |false=>exact⟨e,f,g⟩
theorem hZ(ha:PT X a tA)(j:PW X (.BoolOp .Or (b::rest) pos) RD):PW X (.BoolOp .Or (a::b::rest) pos) (Y8 tA RD):=by
 intro i d s σ H Q I h;refine isTrue_or (bY (ha d s σ H _ I h) λc k ⟨e,f,g⟩=>?_)
 cases c with
 |true=>exact⟨e,f,g⟩
 |false=>exact j i d k σ e Q f g
theorem dO(ha:PT X a tA):PT X (.UnaryOp .Not a pos) (SU tA):=by
 intro b s σ H Q I h;exact isTrue_not (ha b s σ H (λc d=>Q (!c) d) I h)
def P6(ta tb:TE):TE:=λσ H Q=>ta σ H λx H1=>∃c,x=.bl c/\if c=true then tb σ H1 Q else Q (.bl false) H1
def P7(ta:TE):TE:=λσ H Q=>ta σ H λx H1=>∃c,x=.bl c/\Q (.bl (!c)) H1
theorem yV{op}(h:PE X a t):PE X (.BoolOp op [a] pos) t:=λb s σ H Q I hw=>BoolOp_one (h b s σ H Q I hw)
theorem yW(ha:PE X a ta)(j:PE X (.BoolOp .And (b::rest) pos) tb):PE X (.BoolOp .And (a::b::rest) pos) (P6 ta tb):=by
 intro d s σ H Q I h;refine BoolOp_and (bY (ha d s σ H _ I h) λv i ⟨x,f,g,k,e⟩=>?_);obtain⟨c,rfl,e⟩:=e;cases k;refine wbN ?_
 cases c with
 |true=>exact j d i σ f Q g e
 |false=>exact⟨.bl false,f,g,rfl,e⟩
theorem GL(ha:PE X a ta):PE X (.UnaryOp .Not a pos) (P7 ta):=by
 intro b s σ H Q I h;refine UnaryOp_ (bY (ha b s σ H _ I h) λv i ⟨x,e,f,g,d⟩=>?_);obtain⟨c,rfl,d⟩:=d;cases g;exact not_of (wbN ⟨.bl (!c),e,f,rfl,d⟩)
def Y9(t:TT)(ta tb:TE):TE:=λσ H Q=>t σ H λc H1=>if c=true then ta σ H1 Q else tb σ H1 Q
theorem Af{c:Expr}(hc:PT X c tA)(ha:PE X a ta)(l:PE X b tb):PE X (.IfExp c a b pos) (Y9 tA ta tb):=by
 intro e s σ H Q I h;refine wpAny_IfExp (bY (hc e s σ H _ I h) λd f ⟨g,i,j⟩=>?_)
 cases d with
 |true=>exact ha e f σ g Q i j
 |false=>exact l e f σ g Q i j
end
def aL(K:wa2)(H:Hp)(a:Addr)(xs:List V):Prop:=
 Rd H a (.lst xs) \/
  ∃(o:Obj) (its:Array Value) (n:Nat),K.lookup a=some o/\o.cls=.type "list"/\o.dict=none/\o.data=.seq its n/\its.size<=sizeLine/\Vals xs its.toList
def ig(K:wa2)(H:Hp)(a:Addr)(xs:List V):Prop:=
 Rd H a (.tup xs) \/
  ∃(o:Obj) (its:Array Value) (n:Nat),K.lookup a=some o/\o.cls=.type "tuple"/\o.data=.seq its n/\its.size<=sizeLine/\Vals xs its.toList
noncomputable def SV:Value->Option V
 |.none=>some .non
 |.bool b=>some (.bl b)
 |.int i _=>some (.int i)
 |.str x _=>some (.str x)
 |.bytes b _=>some (.byt b)
 |.float b _=>some (.flt b)
 |.ref a=>some (.ref a)
 |.type n=>some (.ty n)
 |_=>none
theorem RelV.abs{x:V}{u:Value}(r:RelV x u):SV u=some x:=by
 cases x with
 |non=>cases r;rfl
 |bl _=>cases r;rfl
 |int _=>obtain⟨t,rfl⟩:=r;rfl
 |str _=>obtain⟨t,rfl⟩:=r;rfl
 |byt _=>obtain⟨t,rfl⟩:=r;rfl
 |flt _=>obtain⟨t,rfl⟩:=r;rfl
 |ref _=>cases r;rfl
 |ty _=>cases r;rfl
theorem RelV.inj{x y:V}{u:Value}(r:RelV x u)(q:RelV y u):x=y:=wae (r.abs.symm.trans q.abs)
theorem Vals.inj:∀{xs ys:List V} {us:List Value},Vals xs us->Vals ys us->xs=ys
 |_,_,_,.nil,.nil=>rfl
 |_,_,_,.cons r t,.cons a b=>by rw[r.inj a,Vals.inj t b]
section
variable{X:Cx}{pins:List (Addr×Obj)}{σ:St}{H:Hp}{s:Shared}{a:Addr}{xs ys:List V}
theorem aL.of{K:wa2}(h:H a=some (.lst xs)):aL K H a xs:=.inl (.inl h)
theorem ig.of{K:wa2}(h:H a=some (.tup xs)):ig K H a xs:=.inl (.inl h)
theorem Inv.list(I:Inv X pins σ H s)(h:aL X.K H a xs):∃g:List Value,Vals xs g/\PlainL s.heap a g.toArray/\xs.length<=sizeLine:=by
 rcases h with h |⟨o,g,n,hk,hc,hd,b,c,r⟩
 ·obtain⟨z,g,n,r,e⟩:=h.ok I.b9;exact⟨g,r,⟨_,n,e,rfl,rfl,rfl⟩,z⟩
 ·refine⟨g.toList,r,⟨o,n,I.iL a o hk,hc,hd,by simpa using b⟩,?_⟩;have e:=r.length;simp only[wcz]at e;omega
theorem Inv.tuple(I:Inv X pins σ H s)(h:ig X.K H a xs):∃g:List Value,Vals xs g/\IsTup s.heap a g.toArray/\xs.length<=sizeLine:=by
 rcases h with h |⟨o,g,n,hk,hc,b,c,r⟩
 ·obtain⟨z,g,r,p⟩:=h.ok I.b9;exact⟨g,r,p,z⟩
 ·refine⟨g.toList,r,⟨o,I.iL a o hk,hc,n,by simpa using b⟩,?_⟩;have e:=r.length;simp only[wcz]at e;omega
theorem Inv.pF(I:Inv X pins σ H s)(h:aL X.K H a xs)(h':aL X.K H a ys):xs=ys:=by
 obtain⟨c,r,⟨o,n,e,_,_,d⟩,_⟩:=I.list h;obtain⟨b,i,⟨j,k,f,_,_,g⟩,_⟩:=I.list h';rw[e]at f;cases f;rw[d]at g;injection g with l _
 have:c=b:=by grind
 subst this;exact r.inj i
end
noncomputable abbrev Cx.oM(X:Cx)(E:Value->Shared->Prop):Cx:={X with xe:=E}
noncomputable abbrev Cx.LW(X:Cx):Cx:=X.oM λ_ _=>False
theorem Cx.Ok.oM{X:Cx}(ok:X.Ok)(E:Value->Shared->Prop):(X.oM E).Ok:=
 ⟨ok.mod,ok.kind,ok.glob,ok.blt,ok.above,ok.inj,ok.has,ok.MO,ok.hd,ok.frames,ok.Oy,ok.RC,ok.bs,ok.GJ,ok.C0,ok.EV,ok.pE,ok.K3⟩
theorem Cx.Ok.gF{X:Cx}{E:Value->Shared->Prop}(ok:(X.oM E).Ok):X.Ok:=
 ⟨ok.mod,ok.kind,ok.glob,ok.blt,ok.above,ok.inj,ok.has,ok.MO,ok.hd,ok.frames,ok.Oy,ok.RC,ok.bs,ok.GJ,ok.C0,ok.EV,ok.pE,ok.K3⟩
section
variable{X:Cx}{pins:List (Addr×Obj)}{σ:St}{H:Hp}{s:Shared}{E:Value->Shared->Prop}
theorem Inv.oM(I:Inv X pins σ H s)(E:Value->Shared->Prop):Inv (X.oM E) pins σ H s:=⟨I.ok.oM E,I.os,I.bare,I.base,I.loc,I.cell,I.free,I.jJ,I.pin,I.b9,I.len⟩
theorem Inv.gF(I:Inv (X.oM E) pins σ H s):Inv X pins σ H s:=⟨I.ok.gF,I.os,I.bare,I.base,I.loc,I.cell,I.free,I.jJ,I.pin,I.b9,I.len⟩
theorem SP.gF(h:SP (X.oM E) pins D f s'):SP X pins D f s':=by
 cases f with
 |next=>obtain⟨a,b,I,q⟩:=h;exact⟨a,b,I.gF,q⟩
 |brk=>obtain⟨a,b,I,q⟩:=h;exact⟨a,b,I.gF,q⟩
 |cont=>obtain⟨a,b,I,q⟩:=h;exact⟨a,b,I.gF,q⟩
 |ret u=>obtain⟨v,a,b,I,r,q⟩:=h;exact⟨v,a,b,I.gF,r,q⟩
theorem wR.LW{st:List Stmt}{t:TS}(h:wR X.LW st t):wR X st t:=λpins s σ H D I hw=>
 wba (h pins s σ H D (I.oM _) hw) (λ_ _ q=>q.gF) λ_ _ z=>wb3 z
end
section
variable{X:Cx}{st:Stmt}{rest:List Stmt}{t u:TS}{e:Expr}{te:TE}{pos:Pos}
def P8:TS:=λD σ H=>D.nx σ H
def MR(t u:TS):TS:=λD σ H=>t {D with nx:=u D} σ H
theorem aN:wR X [] P8:=λ_ _ σ H _ I h=>wcq ⟨σ,H,I,h⟩
theorem a6(g:PS X st t)(j:wR X rest u):wR X (st::rest) (MR t u):=by
 intro a s σ H D I h;refine wcV (bY (g a s σ H {D with nx:=u D} I h) λf c q=>?_)
 cases f with
 |next=>
  obtain⟨b,d,e,q⟩:=q;exact j a c b d D e q
 |ret v=>exact q
 |brk=>exact q
 |cont=>exact q
theorem af(g:PS X st t):wR X [st] t:=by
 intro a s σ H D I h;refine wcV (bY (g a s σ H D I h) λf b q=>?_)
 cases f with
 |next=>exact wcq q
 |ret v=>exact q
 |brk=>exact q
 |cont=>exact q
theorem Inv.quiet(I:Inv X g σ H s):interactive X.env=false:=by simp[interactive,I.ok.kind]
def P9(te:TE):TS:=λD σ H=>te σ H λ_ H1=>D.nx σ H1
theorem bA(g:PE X e te)(hs:wc6 e none pos.line X.env=pure false:=by rfl):PS X (.Expr e pos) (P9 te):=by
 intro a s σ H D I h;exact wpAny_Expr_any (bY (g a s σ H _ I h) λv f ⟨x,b,c,i,d⟩=>⟨σ,b,c,d⟩) I.quiet hs
def SW(te:TE):TS:=λD σ H=>te σ H D.rt
theorem aA(g:PE X e te):PS X (.Return (some e) pos) (SW te):=by
 intro a s σ H D I h;exact wpAny_Return_some (bY (g a s σ H _ I h) λv i ⟨x,b,c,d,f⟩=>⟨x,σ,b,c,d,f⟩)
def SX(c:TT)(t u:TS):TS:=λD σ H=>c σ H λb H1=>if b=true then t D σ H1 else u D σ H1
theorem bD{c:Expr}{a b:List Stmt}{g:TT}(hc:PT X c g)(ha:wR X a t)(l:wR X b u):PS X (.If c a b pos) (SX g t u):=by
 intro e s σ H D I h;refine wpAny_If (bY (hc e s σ H _ I h) λd f ⟨i,j,k⟩=>?_)
 cases d with
 |true=>exact ha e f σ i D j k
 |false=>exact l e f σ i D j k
def MS:TS:=λ_ _ _=>False
theorem du:wR X g MS:=λ_ _ _ _ _ _ h=>h.elim
end
noncomputable abbrev TG:=V->St->Hp->(St->Hp->Prop)->Prop
noncomputable abbrev RE:=List V->St->Hp->(St->Hp->Prop)->Prop
def PG(X:Cx)(target:Expr)(t:TG):Prop:=
 ∀(pins:List (Addr×Obj)) (s:Shared) (σ:St) (H:Hp) (v:V) (u:Value) (Q:St->Hp->Prop),Inv X pins σ H s->RelV v u->t v σ H Q ->
  wpAny (model X.prog X.w) X.A (assign target X.env u) (λ_ s'=>∃σ' H',Inv X pins σ' H' s'/\Q σ' H') X.xe s
def RF(X:Cx)(ts:List Expr)(t:RE):Prop:=
 ∀(pins:List (Addr×Obj)) (s:Shared) (σ:St) (H:Hp) (vs:List V) (us:List Value) (Q:St->Hp->Prop),Inv X pins σ H s->Vals vs us->t vs σ H Q ->
  wpAny (model X.prog X.w) X.A (assignInOrder ((wdt ts X.env).map (·.2)) us) (λ_ s'=>∃σ' H',Inv X pins σ' H' s'/\Q σ' H') X.xe s
noncomputable abbrev MT:=V->V->V->Hp->(Hp->Prop)->Prop
def Pa(X:Cx)(t:MT):Prop:=
 ∀(pins:List (Addr×Obj)) (s:Shared) (σ:St) (H:Hp) (o i v:V) (ov iv u:Value) (Q:Hp->Prop),Inv X pins σ H s->RelV o ov->RelV i iv->RelV v u->t o i v H Q ->
  wpAny (model X.prog X.w) X.A (setItem ov iv u) (λ_ s'=>∃H',Inv X pins σ H' s'/\Q H') X.xe s
noncomputable abbrev Pb:=V->V->Hp->VK->Prop
def RG(X:Cx)(op:Operator)(t:Pb):Prop:=
 ∀(pins:List (Addr×Obj)) (s:Shared) (σ:St) (H:Hp) (x y:V) (v u:Value) (Q:VK),Inv X pins σ H s->RelV x v->RelV y u->t x y H Q ->
  wpAny (model X.prog X.w) X.A (inplaceOp op v u) (EP X pins σ Q) X.xe s
section
variable{X:Cx}{pos:Pos}
def d5(i:Nat):TG:=λv σ H Q=>Q (σ.set i (some v)) H
theorem km(g:X.N.Nodup)(hi:X.N[i]?=some x)(j:Loc X.env.scope x)(l:X.fn x=true\/X.env.scope.names.lookup x=some .local:=by first |exact .inl rfl |exact .inr rfl |assumption):PG X (.Name x pos) (d5 i):=by
 intro a s σ H v u Q I r h;exact wpAny_assign_Name (jK I g hi j r (λc b=>⟨_,H,b,h⟩) l)
inductive GN(vs:List V)(σ:St)(H:Hp)(Q:St->Hp->Prop):Prop
 |mk (_:vs=[]) (_:Q σ H)
inductive mn(t:TG)(u:RE)(vs:List V)(σ:St)(H:Hp)(Q:St->Hp->Prop):Prop
 |mk (v r) (_:vs=v::r) (_:t v σ H λσ' H'=>u r σ' H' Q)
theorem cT:RF X [] GN:=by
 intro a s σ H b c Q I r h;obtain⟨e,h⟩:=h;subst e;cases r;exact assignInOrder_nil ⟨σ,H,I,h⟩
theorem aO{e:Expr}{g:List Expr}{t:TG}{u:RE}(j:PG X e t)(l:RF X g u)
 (hs:(wdt (e::g) X.env).map (·.2)=assign e X.env::(wdt g X.env).map (·.2):=by rfl):RF X (e::g) (mn t u):=by
 intro a s σ H n o Q I r h;obtain⟨v,p,c,h⟩:=h;subst c
 cases r with
 |cons r d=>
  rw[hs];refine assignInOrder_cons (bY (j a s σ H _ _ _ I r h) λ_ f ⟨b,i,k,m⟩=>?_);exact l a f b i _ _ Q k d m
inductive GO(K:wa2)(n:Nat)(t:RE)(v:V)(σ:St)(H:Hp)(Q:St->Hp->Prop):Prop
 |mk (a xs) (_:v=.ref a) (_:ig K H a xs) (_:xs.length=n) (_:t xs σ H Q)
theorem eB(hc:X.calm=true)(h:RF X g t)
 (hn:(wdt g X.env).length=n:=by rfl) (j:(wdt g X.env).findIdx? (·.1)=none:=by rfl):PG X (.Tuple g k pos) (GO X.K n t):=by
 intro c s σ H v u Q I r hw;obtain⟨a,f,i,l,hl,hw⟩:=hw;subst i;cases r;obtain⟨m,d,p,y⟩:=I.tuple l;refine assign_Tuple_tuple (I.ok.hd hc) p (by simp[hn,<-hl,d.length]) j λq w=>?_;have x:Inv X c σ H {s with heap:=q}:=I.kept (t':=s.toks) λb o e=>w b o (war (waf e)) e;exact h c _ σ H f _ Q x (by simpa using d) hw
def SY(to ti:TE)(t:MT):TG:=λv σ H Q=>to σ H λo H1=>ti σ H1 λi H2=>t o i v H2 λH3=>Q σ H3
theorem C4{o i:Expr}{l p:TE}{t:MT}(C:PE X o l)(hi:PE X i p)(hs:Pa X t)
 (ha:∀v,assign (.Subscript o i pos) X.env v=(do
   let g <-holding [v] (eval o X.env)
   let j <-holding [v,g] (eval i X.env)
   standAt pos
   holding [v,g,j] (setItem g j v)
   release [v,g,j] []):=by intro _;rfl):PG X (.Subscript o i pos) (SY l p t):=by
 intro a s σ H v u Q I r h;rw[ha];refine wa7 (wbn (bY (C a s σ H _ I h) λg b ⟨x,c,d,e,f⟩=>?_));refine wa7 (wbn (bY (hi a b σ c _ d f) λj k ⟨y,m,n,q,w⟩=>?_));refine wa7 (wdz (wa7 (wbn (bY (hs a k σ m x y v g j u _ n e q r w) λ_ D ⟨z,A,B⟩=>?_))));exact wpAny_release ⟨σ,z,A,B⟩
def K5(te:TE)(g:TG):TS:=λD σ H=>te σ H λx H1=>g x σ H1 D.nx
theorem rk{j e:Expr}{l:TE}{g:TG}(p:PE X e l)(r:PG X j g)(hs:swapsWithSole [j] e pos.line X.env=pure false:=by rfl)(hw:swappedStores [j] e X.env=pure none:=by rfl)
 (t:(wdt [j] X.env).map (·.2)=[assign j X.env]:=by rfl):PS X (.Assign [j] e pos) (K5 l g):=by
 intro a s σ H D I h;refine wpAny_Assign_stores (bY (p a s σ H _ I h) λv b ⟨x,c,d,f,i⟩=>?_) hs hw;rw[t];exact bY (r a b σ c x v _ d f i) λ_ k q=>q
theorem GP{i:Nat}{x:Str}{e:Expr}{j:TE}{g:Pos}(l:X.N.Nodup)(hi:X.N[i]?=some x)(p:Loc X.env.scope x)(r:PE X e j)(hs:wc6 e (some (.Name x g)) pos.line X.env=pure false:=by rfl)(t:X.fn x=true\/X.env.scope.names.lookup x=some .local:=by first |exact .inl rfl |exact .inr rfl |assumption) :
 PS X (.Assign [.Name x g] e pos) (K5 j (d5 i)):=by
 intro a s σ H D I h;refine we2 (bY (r a s σ H _ I h) λv m ⟨y,b,c,d,f⟩=>?_) hs;exact jK c l hi p d (λn k=>⟨_,b,k,f⟩) t
inductive SZ(i:Nat)(te:TE)(ti:Pb)(D:Ends)(σ:St)(H:Hp):Prop
 |mk (x) (_:σ[i]?=some (some x)) (_:te σ H λy H1=>ti x y H1 λz H2=>D.nx (σ.set i (some z)) H2)
theorem uF{i:Nat}{x:Str}{e:Expr}{p:TE}{op:Operator}{t:Pb}{g:Pos}(C:X.N.Nodup)(hi:X.N[i]?=some x)(j:Loc X.env.scope x)(J:PE X e p)(T:RG X op t)(U:X.fn x=true\/X.env.scope.names.lookup x=some .local:=by first |exact .inl rfl |exact .inr rfl |assumption) :
 PS X (.AugAssign (.Name x g) op e pos) (SZ i p t):=by
 intro a s σ H D I h;obtain⟨v,o,h⟩:=h;obtain⟨m,hn,hl⟩:=I.loc;have n:P5 X.env.scope x:=by rcases j with k |k;exact .inl k;exact .inr (.inl k)
 obtain⟨u,r,l⟩:=hl i x v hi o n;refine wpAny_AugAssign_Name ?_
 have go:wpAny (model X.prog X.w) X.A (eval e X.env) (λw d=>wpAny (model X.prog X.w) X.A (inplaceOp op u w) (λr f=>wpAny (model X.prog X.w) X.A (storeName X.env x r) (λ_=>SP X a D .next) X.xe f) X.xe d) X.xe s:=by
  refine bY (J a s σ H _ I h) λw q ⟨y,B,E,G,L⟩=>?_;refine bY (T a q σ B v y u w _ E r G L) λz Y ⟨Z,M,O,Q,R⟩=>?_;exact jK O C hi j Q (λs3 S=>⟨_,M,S,R⟩) U
 rcases l with⟨hk,V⟩ |⟨hk,c,hc,b⟩
 ·exact wgu I.ok.kind hk hn V go
 ·rcases hk with hk |hk
  ·exact wgI I.ok.kind hk hc b go
  ·rcases j with k |k
   ·have:X.env.scope.names.lookup x=some .free:=hk;rw[k]at this;cases this
   ·have:X.env.scope.names.lookup x=some .free:=hk;rw[k]at this;cases this
noncomputable def Yb(f:Int->Int->Int):Pb:=λx y H Q=>∃i j,x=.int i/\y=.int j/\Q (.int (f i j)) H
theorem GQ:RG X .Add (Yb λi j=>i+j):=by
 intro a s σ H x y v u Q I b c h;obtain⟨i,j,d,e,q⟩:=h;subst d;subst e;obtain⟨t,rfl⟩:=b;obtain⟨f,rfl⟩:=c;exact iadd_int ⟨.int _,H,I.tok _,⟨_,rfl⟩,q⟩
end
section
variable{X:Cx}{pos:Pos}
def MU(c:TT)(tb:TS):TS:=λD σ H=>∃W:Nat->St->Hp->Prop,(∃m,W m σ H)/\∀m σ H,W m σ H ->
 c σ H λb H1=>if b=true then ∃N:St->Hp->Prop,(∀σ' H',N σ' H'->∃m',m'<m/\W m' σ' H')/\tb {D with nx:=N,ct:=N,bk:=D.nx} σ H1 else D.nx σ H1
theorem jL{c:Expr}{body:List Stmt}{t:TT}{C:TS}(J:PassesOwn (model X.prog X.w) X.A X.env X.xe)(hc:PT X c t)(T:wR X body C):PS X (.While c body [] pos) (MU t C):=by
 intro a s σ H D I h;obtain⟨W,⟨E,G⟩,g⟩:=h;refine wpAny_While (codeAny_whileLoop (λn L=>∃i u,Inv X a i u L/\W n i u) ?_ E ⟨σ,H,I,G⟩);rintro n M ⟨e,x,O,Q⟩;refine wcK J (bY (hc a M e x _ O (g n e x Q)) λb R ⟨y,z,k⟩=>?_)
 cases b with
 |true=>
  obtain⟨N,B,k⟩:=k;rw[if_pos rfl];refine wcK J (bY (T a R e y _ z k) λf S l=>?_)
  cases f with
  |next=>
   obtain⟨d,j,m,o⟩:=l;obtain⟨p,q,r⟩:=B d j o;exact⟨p,q,d,j,m,r⟩
  |cont=>
   obtain⟨d,j,m,o⟩:=l;obtain⟨p,q,r⟩:=B d j o;exact⟨p,q,d,j,m,r⟩
  |brk=>exact l
  |ret v=>exact l
 |false=>
  rw[if_neg wap];exact wcq ⟨e,y,z,k⟩
end
structure It where
 go:Nat->Hp->Prop
 uG:Nat->Hp->V->Hp->Prop
 stop:Nat->Hp->Prop
def wU(X:Cx)(pins:List (Addr×Obj))(H:Hp)(b:Addr):Prop:=
 H b=none/\b≠X.env.locals/\b∉X.fs/\(b∈X.ex\/X.s₀.heap.objs.size<=b)/\(∀x c,X.env.cells.lookup x=some c->c≠b)/\∀p∈X.pn++pins,p.1≠b
theorem Inv.yX{X:Cx}(I:Inv X g σ H s)(j:s.heap.objs.size<=b)(hn:l b=none):wU X g l b:=by
 refine⟨hn,wcb (waw I.lt j),I.SQ j,.inr (wal I.sz j),λx c e z=>?_,λp a z=>?_⟩
 ·obtain⟨v,q⟩:=I.cell x c e;exact absurd (waw q.lt (by rw[z];exact j)) (wbj _)
 ·exact absurd (waw (waf (I.pin p a).1) (by rw[z];exact j)) (wbj _)
structure Turn(P:wat)(w:World)(K:wa2)(tg:Expr)(J:It)(fp:List Addr)(it:Addr)(tn:Nat->Heap->Prop):Prop where
 mem:it∈fp
 obj:∀i h,tn i h->∀b∈fp,∃o,h.get? b=some o/\∀v,o.data≠.cell v
 keep:∀i h h',tn i h->(∀b∈fp,∀o,h.get? b=some o->h'.get? b=some o)->tn i h'
 item:∀(X:Cx),X.prog=P->X.w=w->X.K=K->X.calm=true->∀(i:Nat) (pins:List (Addr×Obj)) (s:Shared) (σ:St) (H:Hp) (E:Value->Shared->Prop),Inv X pins σ H s->(∀b∈fp,wU X pins H b)->tn i s.heap->J.go i H ->
  wpAny (model P w) X.A (pyNext (.ref it)) (λr s1=>∃u,r=some u /\
   wpAny (model P w) X.A (wer tg (.ref it) u) (λ_ s2=>∃x H',Inv X pins σ H' s2/\RelV x u/\J.uG i H x H'/\tn (i+1) s2.heap/\∀b∈fp,H' b=none) E s1) E s
 done:∀(X:Cx),X.prog=P->X.w=w->X.K=K->X.calm=true->∀(i:Nat) (pins:List (Addr×Obj)) (s:Shared) (σ:St) (H:Hp) (E:Value->Shared->Prop),Inv X pins σ H s->(∀b∈fp,wU X pins H b)->tn i s.heap->J.stop i H ->
   wpAny (model P w) X.A (pyNext (.ref it)) (λr s1=>r=none/\Inv X pins σ H s1) E s
 self:∀(A:Around) (i:Nat) (s:Shared) (Q:Value->Shared->Prop) (E:Value->Shared->Prop),tn i s.heap->Q (.ref it) s->wpAny (model P w) A (pyIter (.ref it)) Q E s
noncomputable abbrev TI:=St->Hp->(It->Hp->Prop)->Prop
def Oz(X:Cx)(pins:List (Addr×Obj))(σ:St)(tg:Expr)(R:It->Hp->Prop)(T1:Value)(s2:Shared):Prop:=
 ∃(it:Addr) (fp:List Addr) (tn:Nat->Heap->Prop) (J:It) (H':Hp),T1=.ref it/\Inv X pins σ H' s2/\Turn X.prog X.w X.K tg J fp it tn/\tn 0 s2.heap/\(∀b∈fp,wU X pins H' b)/\R J H'
def PI(X:Cx)(tg iter:Expr)(wi:TI):Prop:=
 ∀(pins:List (Addr×Obj)) (s:Shared) (σ:St) (H:Hp) (R:It->Hp->Prop),Inv X pins σ H s->wi σ H R ->
  wpAny (model X.prog X.w) X.A (eval iter X.env) (λv s1=>wpAny (model X.prog X.w) X.A (pyIter v) (Oz X pins σ tg R) X.xe s1) X.xe s
theorem xP{E:Value->Shared->Prop}{Q:Unit->Shared->Prop}(j:s.heap.get? it=some o)(hc:o.cls=.type n)(hd:o.data=.fields vs)
 (hn:["enumerate","zip","dict_itemiterator","dict_reverseitemiterator","odict_iterator","itertools.zip_longest","itertools.pairwise"].contains n=false) (g:Q () s):wpAny M A (wer l (.ref it) u) Q E s:=by
 unfold wer
 cases l<;>first
  |exact waz g
  |(cases u<;>first
     |exact waz g
     |(refine wa7 (wpAny_load j ?_)
       rw[hc,hd];show wpAny M A (if (["enumerate","zip","dict_itemiterator","dict_reverseitemiterator","odict_iterator","itertools.zip_longest","itertools.pairwise"].contains n&&vs[0]?==some (rawInt _))=true then _ else _) Q E s;rw[if_neg (by grind)]
       exact waz g))
noncomputable def OA(K:wa2)(a:Addr):It:=
 ⟨λi H=>∃xs x,aL K H a xs/\xs[i]?=some x,λi H x H'=>H'=H/\∀xs,aL K H a xs->xs[i]?=some x,λi H=>∃xs,aL K H a xs/\xs.length<=i⟩
noncomputable def LX(lo:Int)(n:Nat):It:=⟨λi _=>i<n,λi H x H'=>H'=H/\x=.int (lo+i),λi _=>n<=i⟩
theorem EW{P:wat}{w:World}{K:wa2}{T:Expr}(a it:Addr):Turn P w K T (OA K a) [it] it (λi h=>h.IsListIter it a i) where
 mem:=by simp
 obj:=λi h st b g=>by
  have e:b=it:=by simpa using g
  subst e;obtain⟨o,e,c,d⟩:=st;exact⟨o,e,λv z=>by rw[d]at z;cases z⟩
 keep:=λi h l st k=>st.at λo e=>k it (by simp) o e
 item:=by
  intro X q hw r hc i f s σ H E I m st t;subst q hw r;obtain⟨L,x,n,y⟩:=t;obtain⟨A,B,p,M⟩:=I.list n;obtain⟨u,N,O⟩:=B.get y;obtain⟨C,f1,f2,D,G,J⟩:=m it (by simp);refine wpAny_pyNext_list_item st p.isList (x:=u) (by simpa using N) λl j sb=>?_;have Q:Inv X f σ H {s with heap:=l}:=I.turned (t':=s.toks) (λb o g e=>(sb.2 b g).trans e) C f1 D G J;obtain⟨o,e,c,d⟩:=id j;exact⟨u,rfl,xP (s:={s with heap:=l}) e c d (by decide) ⟨x,H,Q,O,⟨rfl,λU R=>by rw[I.pF R n];exact y⟩,j,λb g=>(m b g).1⟩⟩
 done:=by
   intro X q hw r hc i f s σ H E I m st t;subst q hw r;obtain⟨L,n,y⟩:=t;obtain⟨A,B,p,M⟩:=I.list n;obtain⟨C,f1,f2,D,G,J⟩:=m it (by simp);have hl:=B.length;exact wpAny_pyNext_list_end (I.ok.hd hc) st p.isList (by simp;omega) λl S=>⟨rfl,I.turned (t':=s.toks) (λb o g e=>S b o g e) C f1 D G J⟩
 self:=λ_ _ _ _ _ st h=>wpAny_pyIter_listiter st h
theorem C5{P:wat}{w:World}{K:wa2}{C:Expr}(it:Addr)(lo:Int)(n:Nat):Turn P w K C (LX lo n) [it] it (λi h=>wfV h it (lo+(i:Nat)*1) ((n:Int)-(i:Nat)) 1) where
 mem:=by simp
 obj:=λi h st b c=>by
  have e:b=it:=by simpa using c
  subst e
  exact⟨_,st,λv z=>by
   have y:we6 _=wfN v:=z
   cases y⟩
 keep:=λi h f st k=>k it (by simp) _ st
 item:=by
  intro X j hw l hc i a s σ H E I g st m;subst j hw l;obtain⟨p,f1,f2,q,r,u⟩:=g it (by simp);have A:=Walks.range (prog:=X.prog) (w:=X.w) (I.ok.hd hc) it lo 1 n;refine A.item i s _ _ m st λv f x B d D=>?_;obtain⟨t,rfl⟩:=B;have G:Inv X a σ H {s with heap:=f,toks:=x}:=I.turned (λb o c e=>D b o (by simpa using c) e) p f1 q r u;refine⟨_,rfl,xP (s:={s with heap:=f,toks:=x}) (n:="range_iterator") d rfl rfl (by decide) ⟨.int (lo+i),H,G,⟨t,?_⟩,⟨rfl,rfl⟩,d,λb c=>(g b c).1⟩⟩;rw[Int.mul_one]
 done:=by
   intro X j hw l hc i a s σ H E I g st m;subst j hw l;obtain⟨p,f1,f2,q,r,u⟩:=g it (by simp);exact wfW (I.ok.hd hc) st (by have:n<=i:=m;omega) λf J=>⟨rfl,I.turned (t':=s.toks) (λb o c e=>J b o c e) p f1 q r u⟩
 self:=λ_ _ _ _ _ st h=>wfX st h
section
variable{X:Cx}{tg:Expr}
def Pg(K:wa2)(tl:TE):TI:=λσ H R=>tl σ H λx H1=>∃a,x=.ref a/\(∃xs,aL K H1 a xs)/\R (OA K a) H1
theorem aP{l:Expr}{g:TE}(hl:PE X l g):PI X tg l (Pg X.K g):=by
 intro c s σ H R I h;refine bY (hl c s σ H _ I h) λv d ⟨x,i,f,j,k⟩=>?_;obtain⟨a,e,⟨t,m⟩,q⟩:=k;subst e;cases j;obtain⟨n,u,p,w⟩:=f.list m;refine wcN p.isList ?_;refine⟨d.heap.objs.size,[d.heap.objs.size],_,_,i,rfl,f.kept (t':=d.toks) λb o e=>wa9 _ e,EW a _,⟨_,wav _ rfl,rfl,rfl⟩,λb r=>?_,q⟩;have e:b=d.heap.objs.size:=by simpa using r
 subst e;exact f.yX (waa _) (f.b9.fresh (waa _))
theorem Ag{g:List (Addr×Obj)}{σ:St}{H:Hp}{s:Shared}{R:It->Hp->Prop}{E:Value->Shared->Prop}{lo hi:Int}{t u v:Tok}{tk:Nat}(I:Inv X g σ H s)(j:-(2^62)<=lo)(l:lo<2^62)(p:-(2^62)<=hi)(r:hi<2^62)
 (q:R (LX lo (hi-lo).toNat) H):wpAny (model X.prog X.w) X.A (pyIter (.ref s.heap.objs.size)) (Oz X g σ tg R) E {s with heap:=s.heap.push {cls:=.type "range",data:=.fields #[.int lo t,.int hi u,.int 1 v]},toks:=tk}:=by
 refine wpAny_pyIter_range (whS ..) (small_one j l p r) ?_;have a:Inv X g σ H {s with heap:=s.heap.push {cls:=.type "range",data:=.fields #[.int lo t,.int hi u,.int 1 v]},toks:=tk}:=I.kept λb o e=>wa9 _ e
 refine⟨(s.heap.push {cls:=.type "range",data:=.fields #[.int lo t,.int hi u,.int 1 v]}).objs.size,[(s.heap.push {cls:=.type "range",data:=.fields #[.int lo t,.int hi u,.int 1 v]}).objs.size],_,_,H,rfl,
  a.kept (t':=tk) λb o e=>wa9 _ e,C5 _ lo (hi-lo).toNat,?_,λb c=>?_,q⟩
 ·have d:lo+((0:Nat):Int)*1=lo:=by simp
  have f:(((hi-lo).toNat:Nat):Int)-((0:Nat):Int)=wcZ lo hi 1:=by rw[rangeSize_one];split<;>omega
  show wfV _ _ (lo+((0:Nat):Int)*1) ((((hi-lo).toNat:Nat):Int)-((0:Nat):Int)) 1;rw[d,f];exact wav _ rfl
 ·have e:b=(s.heap.push {cls:=.type "range",data:=.fields #[.int lo t,.int hi u,.int 1 v]}).objs.size:=by simpa using c
  subst e;exact a.yX (waa _) (a.b9.fresh (waa _))
def Ph(ta:TA):TI:=λσ H R=>ta σ H λvs H1=>∃j:Int,vs=[.int j]/\-(2^62)<=j/\j<2^62/\R (LX 0 j.toNat) H1
def Pj(ta:TA):TI:=λσ H R=>ta σ H λvs H1=>∃i j:Int,vs=[.int i,.int j]/\(-(2^62)<=i/\i<2^62/\-(2^62)<=j/\j<2^62)/\R (LX i (j-i).toNat) H1
theorem d1(g:Gl X "range")(l:X.mg "range"=none)(ha:PA X [a] C)(hs:starEach [a] X.env=[(false,eval a X.env)]:=by rfl):PI X tg (.Call (.Name "range" p) [a] [] pos) (Ph C):=by
 intro b s σ H R I h;refine Call_ (gE I g l boot_range (wbr (bY (ha pos b s σ H _ I h) λm n ⟨o,u,d,f,c⟩=>?_) hs rfl));obtain⟨j,e,c,i,q⟩:=c;subst e
 cases f with
 |cons r k=>
  cases k;obtain⟨t,rfl⟩:=r;exact call_range_1 (Ag d (by omega) (by omega) c i (by simpa using q))
theorem rm(l:Gl X "range")(C:X.mg "range"=none)(ha:PA X [a,b] J)(hs:starEach [a,b] X.env=[(false,eval a X.env),(false,eval b X.env)]:=by rfl)(g:starEach [b] X.env=[(false,eval b X.env)]:=by rfl) :
 PI X tg (.Call (.Name "range" p) [a,b] [] pos) (Pj J):=by
 intro c s σ H R I h;refine Call_ (gE I l C boot_range (wbr (bY (ha pos c s σ H _ I h) λw x ⟨y,z,k,m,d⟩=>?_) (by rw[hs,g]) (by rw[g];rfl)));obtain⟨i,j,e,⟨d,n,o,u⟩,q⟩:=d;subst e
 cases m with
 |cons r f=>
  cases f with
  |cons v f=>
   cases f;obtain⟨t,rfl⟩:=r;obtain⟨A,rfl⟩:=v;exact call_range_2 (Ag k d n o u q)
def T3(wi:TI)(g:TG)(tb:TS):TS:=λD σ H=>wi σ H λJ H1=>∃W:Nat->Nat->St->Hp->Prop,(∃m,W 0 m σ H1)/\∀i m σ H,W i m σ H ->
 (J.stop i H/\D.nx σ H)\/(J.go i H/\∃N:St->Hp->Prop,(∀σ' H',N σ' H'->∃m',m'<m/\W (i+1) m' σ' H')/\∀x H',J.uG i H x H'->g x σ H' λσ2 H2=>tb {D with nx:=N,ct:=N,bk:=D.nx} σ2 H2)
noncomputable def uH(fp:List Addr)(h:Heap):List (Addr×Obj):=fp.filterMap λb=>(h.get? b).map λo=>(b,o)
theorem kn(g:b∈j)(e:h.get? b=some o):(b,o)∈uH j h:=wdL.mpr ⟨b,g,by rw[e];rfl⟩
theorem EX(g:p∈uH j h):p.1∈j/\h.get? p.1=some p.2:=by
 obtain⟨b,a,e⟩:=wdL.mp g
 cases q:h.get? b with
 |none=>grind
 |some o=>
  grind
theorem Inv.pinned(I:Inv X g σ H s)(l:∀b∈j,wU X g H b)(r:∀b∈j,∃o,s.heap.get? b=some o/\∀v,o.data≠.cell v):Inv X (g++uH j s.heap) σ H s:=
 I.DT λp f=>(waE.mp f).elim (λz=>I.pin p (waL _ z)) λz=>by
  obtain⟨a,e⟩:=EX z;obtain⟨h,f1,f2,_⟩:=l p.1 a;obtain⟨o,c,d⟩:=r p.1 a;rw[e]at c;cases c;exact⟨e,h,f1,f2,d⟩
theorem Inv.pG(I:Inv X (g++pl) σ H s):Inv X g σ H s:=I.DT λp a=>I.pin p (waL _ (waW _ a))
theorem b7(C:PassesOwn (model X.prog X.w) X.A X.env X.xe)(hc:X.calm=true)(hi:PI X tg iter wi)(hg:PG X tg g)(j:wR X body tb)
 (hs:∀x,wc4 iter X.env x=pure x:=by intro _;rfl):PS X (.For tg iter body [] pos) (T3 wi g tb):=by
 intro a s σ H D I h;refine wpAny_For (bY (hi a s σ H _ I h) λv s1 h1=>bY h1 λT1 s2 h2=>?_) hs;obtain⟨it,E,tn,J,H2,e,I2,T,R,f2,W,⟨m0,w0⟩,G⟩:=h2;subst e;have k:∀{y:Hp},(∀b∈E,y b=none)->∀b∈E,wU X a y b:=λhn b j=>⟨hn b j,(f2 b j).2⟩;refine codeAny_forLoop_any (λn s'=>∃i l y,Inv X a l y s'/\tn i s'.heap/\(∀b∈E,y b=none)/\W i n l y) ?_ m0 ⟨0,σ,H2,I2,R,λb j=>(f2 b j).1,w0⟩;rintro n s3 ⟨i,p,Q,I3,L,M,w3⟩;rcases G i n p Q w3 with⟨stop,qn⟩ |⟨go,N,hN,step⟩
 ·refine wcK C (bY (T.done X rfl rfl rfl hc i a s3 p Q X.xe I3 (k M) L stop) λr s4 ⟨S,I4⟩=>?_);subst S;exact wcq ⟨p,Q,I4,qn⟩
 ·refine wcK C (bY (T.item X rfl rfl rfl hc i a s3 p Q X.xe I3 (k M) L go) λr s4 ⟨u,S,h4⟩=>?_);subst S;refine wcK C (bY h4 λ_ s5 ⟨x,H5,I5,r5,y5,B,U⟩=>?_);have V:=I5.pinned (k U) (T.obj _ _ B);refine wcK C (bY (hg _ s5 p H5 x u _ V r5 (step x H5 y5)) λ_ s6 ⟨Y,H6,I6,q6⟩=>?_);refine wcK C (bY (j _ s6 Y H6 _ I6 q6) λf Z z=>?_)
  have again:∀{c:St} {q:Hp},Inv X (a++uH E s5.heap) c q Z->N c q->∃m,m<n/\∃i l y,Inv X a l y Z/\tn i Z.heap/\(∀b∈E,y b=none)/\W i m l y:=λ{c q} t O=>by
   obtain⟨m',hm,w7⟩:=hN c q O;refine⟨m',hm,i+1,c,q,t.pG,T.keep _ _ _ B λb j o e=>(t.pin (b,o) (waL _ (waL _ (kn j e)))).1,λb j=>?_,w7⟩;obtain⟨o,e,d⟩:=T.obj _ _ B b j;exact(t.pin (b,o) (waL _ (waL _ (kn j e)))).2.1
  cases f with
  |next=>obtain⟨c,q,t,O⟩:=z;exact again t O
  |cont=>obtain⟨c,q,t,O⟩:=z;exact again t O
  |brk=>obtain⟨c,q,t,z⟩:=z;exact⟨c,q,t.pG,z⟩
  |ret v=>obtain⟨x7,c,q,t,r7,z⟩:=z;exact⟨x7,c,q,t.pG,r7,z⟩
end
theorem dA{K:wa2}{a:Addr}{xs:List V}{g:TG}{C:TS}{D:Ends}{σ:St}{H:Hp}(Pv:Nat->St->Hp->Prop)(h0:Pv 0 σ H)(hl:∀i σ H,i<=xs.length->Pv i σ H->aL K H a xs)
 (hs:∀i x σ H,xs[i]?=some x->Pv i σ H->g x σ H λj t=>C {D with nx:=Pv (i+1),ct:=Pv (i+1),bk:=D.nx} j t) (hd:∀σ H,Pv xs.length σ H->D.nx σ H) :
 ∃W:Nat->Nat->St->Hp->Prop,(∃m,W 0 m σ H)/\∀i m σ H,W i m σ H ->
  ((OA K a).stop i H/\D.nx σ H)\/((OA K a).go i H/\∃N:St->Hp->Prop,(∀l r,N l r->∃I,I<m/\W (i+1) I l r)/\∀x r,(OA K a).uG i H x r->g x σ r λj t=>C {D with nx:=N,ct:=N,bk:=D.nx} j t):=by
 refine⟨λi m σ H=>m=xs.length-i/\i<=xs.length/\Pv i σ H,⟨xs.length,by simp,waA _,h0⟩,?_⟩;rintro i m σ H ⟨rfl,hi,p⟩;have q:=hl i σ H hi p
 by_cases b:i<xs.length
 ·refine .inr ⟨⟨xs,xs[i],q,by simp[b]⟩,Pv (i+1),λl r c=>⟨xs.length-(i+1),by omega,rfl,b,c⟩,λx r y=>?_⟩;obtain⟨e,y⟩:=y;subst e;exact hs i x σ _ (y xs q) p
 ·have e:i=xs.length:=by omega
  subst e;exact .inl ⟨⟨xs,q,waa _⟩,hd σ H p⟩
theorem dC{lo:Int}{n:Nat}{g:TG}{C:TS}{D:Ends}{σ:St}{H:Hp}(Pv:Nat->St->Hp->Prop)(h0:Pv 0 σ H)
 (hs:∀i σ H,i<n->Pv i σ H->g (.int (lo+i)) σ H λj t=>C {D with nx:=Pv (i+1),ct:=Pv (i+1),bk:=D.nx} j t) (hd:∀σ H,Pv n σ H->D.nx σ H) :
 ∃W:Nat->Nat->St->Hp->Prop,(∃m,W 0 m σ H)/\∀i m σ H,W i m σ H ->
  ((LX lo n).stop i H/\D.nx σ H)\/((LX lo n).go i H/\∃N:St->Hp->Prop,(∀l r,N l r->∃I,I<m/\W (i+1) I l r)/\∀x r,(LX lo n).uG i H x r->g x σ r λj t=>C {D with nx:=N,ct:=N,bk:=D.nx} j t):=by
 refine⟨λi m σ H=>m=n-i/\i<=n/\Pv i σ H,⟨n,by simp,waA _,h0⟩,?_⟩;rintro i m σ H ⟨rfl,hi,p⟩
 by_cases a:i<n
 ·refine .inr ⟨a,Pv (i+1),λl r b=>⟨n-(i+1),by omega,rfl,a,b⟩,λx r y=>?_⟩;obtain⟨e,y⟩:=y;subst e y;exact hs i σ _ a p
 ·have e:i=n:=by omega
  subst e;exact .inl ⟨waa _,hd σ H p⟩
noncomputable abbrev R2:=V->V->Hp->VK->Prop
def nT(X:Cx)(f:Value->Value->Sem Value)(r:R2):Prop:=
 ∀(pins:List (Addr×Obj)) (s:Shared) (σ:St) (H:Hp) (x y:V) (v u:Value) (Q:VK),Inv X pins σ H s->RelV x v->RelV y u->r x y H Q ->
  wpAny (model X.prog X.w) X.A (f v u) (EP X pins σ Q) X.xe s
def T4(X:Cx)(f:Value->Sem Value)(r:V->Hp->VK->Prop):Prop:=
 ∀(pins:List (Addr×Obj)) (s:Shared) (σ:St) (H:Hp) (x:V) (v:Value) (Q:VK),Inv X pins σ H s->RelV x v->r x H Q ->
  wpAny (model X.prog X.w) X.A (f v) (EP X pins σ Q) X.xe s
def eN(X:Cx)(f:Value)(r:List V->Hp->VK->Prop):Prop:=
 ∀(pins:List (Addr×Obj)) (s:Shared) (σ:St) (H:Hp) (xs:List V) (us:List Value) (Q:VK),Inv X pins σ H s->Vals xs us->r xs H Q ->
  wpAny (model X.prog X.w) X.A (call f us) (EP X pins σ Q) X.xe s
def RH(r:R2)(ta tb:TE):TE:=λσ H Q=>ta σ H λx H1=>tb σ H1 λy H2=>r x y H2 Q
def Yc(r:V->Hp->VK->Prop)(ta:TE):TE:=λσ H Q=>ta σ H λx H1=>r x H1 Q
inductive rI(C:Int->Int->Prop)(g:Int->Int->V)(x y:V)(H:Hp)(Q:VK):Prop
 |mk (i j) (_:x=.int i) (_:y=.int j) (_:C i j) (_:Q (g i j) H)
inductive LY(g:Int->Int->V)(x y:V)(H:Hp)(Q:VK):Prop
 |mk (i j) (_:x=.int i) (_:y=.int j) (_:Q (g i j) H)
inductive rU(g:Int->V)(x:V)(H:Hp)(Q:VK):Prop
 |mk (i) (_:x=.int i) (_:Q (g i) H)
section
variable{X:Cx}{a b c:Expr}{ta tb tc:TE}{pos:Pos}
theorem MV(ha:PE X a ta)(C:PE X b tb){R:V->V->Hp->Prop}(I:Inv X g σ H s)
 (h:ta σ H λx t=>tb σ t λy j=>R x y j) {Q:Value->Shared->Prop} {f:Value->Value->Sem Value}
 (J:∀v u r x y j,Inv X g σ j r->RelV x v->RelV y u->R x y j->wpAny (model X.prog X.w) X.A (f v u) Q X.xe r) :
 wpAny (model X.prog X.w) X.A (eval a X.env) (λv l=>wpAny (model X.prog X.w) X.A (eval b X.env) (λu p=>wpAny (model X.prog X.w) X.A (f v u) Q X.xe p) X.xe l) X.xe s:=by
 refine bY (ha g s σ H _ I h) λv c ⟨x,t,d,e,i⟩=>?_;refine bY (C g c σ t _ d i) λu r ⟨y,j,k,m,n⟩=>?_;exact J v u r x y j k e m n
theorem aK(g:nT X (binaryOp op) r)(ha:PE X a ta)(j:PE X b tb):PE X (.BinOp a op b pos) (RH r ta tb):=by
 intro c s σ H Q I h;exact wpAny_BinOp (MV ha j I h λv u d x y e f i k q=>g c d σ e x y v u Q f i k q)
theorem Pk{r:V->Hp->VK->Prop}(g:T4 X (unaryOp op) r)(ha:PE X a ta):PE X (.UnaryOp op a pos) (Yc r ta):=by
 intro b s σ H Q I h;exact UnaryOp_ (bY (ha b s σ H _ I h) λv c ⟨x,d,e,f,i⟩=>g b c σ d x v Q e f i)
theorem RJ{f:Value->Value->Sem Value}{C:Int->Int->Prop}{g:Int->Int->Int}
 (rule:∀(i j:Int) (t u:Tok) (s:Shared) (Q:Value->Shared->Prop) (E:Value->Shared->Prop),C i j->Q (.int (g i j) s.toks) {s with toks:=s.toks+1}->wpAny (model X.prog X.w) X.A (f (.int i t) (.int j u)) Q E s) :
 nT X f (rI C λi j=>.int (g i j)):=by
 intro a s σ H x y v u Q I b c h;obtain⟨i,j,rfl,rfl,hc,q⟩:=h;obtain⟨t,rfl⟩:=b;obtain⟨d,rfl⟩:=c;exact rule i j t d s _ _ hc ⟨.int (g i j),H,I.tok _,⟨_,rfl⟩,q⟩
theorem Pm{f:Value->Value->Sem Value}{g:Int->Int->Int}
 (rule:∀(i j:Int) (t u:Tok) (s:Shared) (Q:Value->Shared->Prop) (E:Value->Shared->Prop),Q (.int (g i j) s.toks) {s with toks:=s.toks+1}->wpAny (model X.prog X.w) X.A (f (.int i t) (.int j u)) Q E s) :
 nT X f (LY λi j=>.int (g i j)):=by
 intro a s σ H x y v u Q I b c h;obtain⟨i,j,rfl,rfl,q⟩:=h;obtain⟨t,rfl⟩:=b;obtain⟨d,rfl⟩:=c;exact rule i j t d s _ _ ⟨.int (g i j),H,I.tok _,⟨_,rfl⟩,q⟩
theorem K6{f:Value->Value->Sem Value}{g:Int->Int->Bool}
 (rule:∀(i j:Int) (t u:Tok) (s:Shared) (Q:Value->Shared->Prop) (E:Value->Shared->Prop),Q (.bool (g i j)) s->wpAny (model X.prog X.w) X.A (f (.int i t) (.int j u)) Q E s) :
 nT X f (LY λi j=>.bl (g i j)):=by
 intro a s σ H x y v u Q I b c h;obtain⟨i,j,rfl,rfl,q⟩:=h;obtain⟨t,rfl⟩:=b;obtain⟨d,rfl⟩:=c;exact rule i j t d s _ _ ⟨.bl (g i j),H,I,rfl,q⟩
def T5(i j:Int):Prop:=0<j/\j<1073741824
def K7(i j:Int):Prop:=(-(2^64)<i/\i<2^64)\/(-(2^64)<j/\j<2^64)
theorem K7.ok{i j:Int}(h:K7 i j):IntMulOk i j:=by
 rcases h with⟨a,b⟩ |⟨a,b⟩
 ·exact .of_left (intBits_le_64 a b)
 ·exact .of_right (intBits_le_64 a b)
theorem dP:nT X (binaryOp .Add) (LY λi j=>.int (i+j)):=Pm λ_ _ _ _ _ _ _ q=>add_int q
theorem mq:nT X (binaryOp .Sub) (LY λi j=>.int (i-j)):=Pm λ_ _ _ _ _ _ _ q=>sub_int q
theorem gG:nT X (binaryOp .Mult) (rI K7 λi j=>.int (i*j)):=RJ λ_ _ _ _ _ _ _ hc q=>mul_int q hc.ok
theorem kq:nT X (binaryOp .FloorDiv) (rI T5 λi j=>.int (i/j)):=RJ λi j _ _ _ _ _ hc q=>by
 have a:(0:Int)<j:=hc.1;have b:j<1073741824:=hc.2;exact floordiv_int (by omega) (by rw[Int.fdiv_eq_ediv_of_nonneg i (by omega)];exact q) (.inl (wfY (by omega)))
theorem cX:nT X (binaryOp .Mod) (rI (λ_ j=>0<j) λi j=>.int (i%j)):=RJ λi j _ _ _ _ _ hc q=>by
 have a:(0:Int)<j:=hc;exact mod_int' (by omega) (by rw[Int.fmod_eq_emod_of_nonneg i (by omega)];exact q)
theorem Yd{f:Value->Sem Value}{g:Int->Int}
 (rule:∀(i:Int) (t:Tok) (s:Shared) (Q:Value->Shared->Prop) (E:Value->Shared->Prop),Q (.int (g i) s.toks) {s with toks:=s.toks+1}->wpAny (model X.prog X.w) X.A (f (.int i t)) Q E s) :
 T4 X f (rU λi=>.int (g i)):=by
 intro a s σ H x v Q I b h;obtain⟨i,rfl,q⟩:=h;obtain⟨t,rfl⟩:=b;exact rule i t s _ _ ⟨.int (g i),H,I.tok _,⟨_,rfl⟩,q⟩
theorem MX:T4 X (unaryOp .USub) (rU λi=>.int (-i)):=Yd λ_ _ _ _ _ q=>neg_int q
end
noncomputable def Pn:V->V->Bool
 |.non,.non=>true |.non,.int _=>true |.int _,.non=>true |.non,.bl _=>true |.bl _,.non=>true |.non,.str _=>true |.str _,.non=>true
 |.int _,.int _=>true |.bl _,.bl _=>true |.str _,.str _=>true |.byt _,.byt _=>true
 |.int _,.str _=>true |.str _,.int _=>true |.bl _,.str _=>true |.str _,.bl _=>true
 |_,_=>false
inductive Ye(x y:V)(H:Hp)(Q:VK):Prop
 |mk (_:Pn x y=true) (_:Q (.bl (decide (x=y))) H)
inductive Yg(x y:V)(H:Hp)(Q:VK):Prop
 |mk (_:Pn x y=true) (_:Q (.bl (!decide (x=y))) H)
theorem DU:decide (V.int i=V.int j)=(i==j):=by
 rw[wes];simp
theorem GR:decide (V.bl i=V.bl j)=(i==j):=by
 rw[wes];simp
theorem DV:decide (V.str i=V.str j)=(i==j):=by
 rw[wes];simp
theorem DW:decide (V.byt i=V.byt j)=(i.toList==j.toList):=by
 rw[wes];cases i;cases j;simp
section
variable{X:Cx}{a b c:Expr}{ta tb tc:TE}{pos:Pos}
theorem bG(I:Inv X g σ H s)(q:Q (.bl k) H)(e:k=j):EP X g σ Q (.bool j) s:=by
 subst e;exact⟨.bl k,H,I,rfl,q⟩
theorem pH:nT X (wbm .Eq) Ye:=by
 intro e s σ H x y v u Q I d a h;obtain⟨c,q⟩:=h
 cases x with
 |non=>
  cases d
  cases y with
  |non=>cases a;exact PySem.EqNone.eq_none_none (bG I q (by simp))
  |bl j=>cases a;exact PySem.EqNone.eq_none_bool (bG I q (by simp))
  |int j=>obtain⟨b,rfl⟩:=a;exact PySem.EqNone.eq_none_int (bG I q (by simp))
  |str j=>obtain⟨b,rfl⟩:=a;exact PySem.EqNone.eq_none_str (bG I q (by simp))
  |_=>exact absurd (show false=true from c) wap
 |bl i=>
  cases d
  cases y with
  |non=>cases a;exact PySem.EqNone.eq_bool_none (bG I q (by simp))
  |bl j=>cases a;exact eq_bool (bG I q GR)
  |str j=>obtain⟨b,rfl⟩:=a;exact PySem.EqMixed.eq_bool_str (bG I q (by simp))
  |_=>exact absurd (show false=true from c) wap
 |int i=>
  obtain⟨t,rfl⟩:=d
  cases y with
  |non=>cases a;exact PySem.EqNone.eq_int_none (bG I q (by simp))
  |int j=>obtain⟨b,rfl⟩:=a;exact eq_int (bG I q DU)
  |str j=>obtain⟨b,rfl⟩:=a;exact PySem.EqMixed.eq_int_str (bG I q (by simp))
  |_=>exact absurd (show false=true from c) wap
 |str i=>
  obtain⟨t,rfl⟩:=d
  cases y with
  |non=>cases a;exact PySem.EqNone.eq_str_none (bG I q (by simp))
  |bl j=>cases a;exact PySem.EqMixed.eq_str_bool (bG I q (by simp))
  |int j=>obtain⟨b,rfl⟩:=a;exact PySem.EqMixed.eq_str_int (bG I q (by simp))
  |str j=>obtain⟨b,rfl⟩:=a;exact eq_str (bG I q DV)
  |_=>exact absurd (show false=true from c) wap
 |byt i=>
  obtain⟨t,rfl⟩:=d
  cases y with
  |byt j=>obtain⟨b,rfl⟩:=a;exact PySem.W.eq_bytes (bG I q DW)
  |_=>exact absurd (show false=true from c) wap
 |_=>cases y<;>exact absurd (show false=true from c) wap
theorem GU:nT X (wbm .NotEq) Yg:=by
 intro e s σ H x y v u Q I d a h;obtain⟨c,q⟩:=h
 cases x with
 |non=>
  cases d
  cases y with
  |non=>cases a;exact PySem.EqNone.ne_none_none (bG I q (by simp))
  |bl j=>cases a;exact PySem.EqNone.ne_none_bool (bG I q (by simp))
  |int j=>obtain⟨b,rfl⟩:=a;exact PySem.EqNone.ne_none_int (bG I q (by simp))
  |str j=>obtain⟨b,rfl⟩:=a;exact PySem.EqNone.ne_none_str (bG I q (by simp))
  |_=>exact absurd (show false=true from c) wap
 |bl i=>
  cases d
  cases y with
  |non=>cases a;exact PySem.EqNone.ne_bool_none (bG I q (by simp))
  |bl j=>cases a;exact ne_bool (bG I q (congrArg not GR))
  |str j=>obtain⟨b,rfl⟩:=a;exact PySem.EqMixed.ne_bool_str (bG I q (by simp))
  |_=>exact absurd (show false=true from c) wap
 |int i=>
  obtain⟨t,rfl⟩:=d
  cases y with
  |non=>cases a;exact PySem.EqNone.ne_int_none (bG I q (by simp))
  |int j=>obtain⟨b,rfl⟩:=a;exact ne_int (bG I q (congrArg not DU))
  |str j=>obtain⟨b,rfl⟩:=a;exact PySem.EqMixed.ne_int_str (bG I q (by simp))
  |_=>exact absurd (show false=true from c) wap
 |str i=>
  obtain⟨t,rfl⟩:=d
  cases y with
  |non=>cases a;exact PySem.EqNone.ne_str_none (bG I q (by simp))
  |bl j=>cases a;exact PySem.EqMixed.ne_str_bool (bG I q (by simp))
  |int j=>obtain⟨b,rfl⟩:=a;exact PySem.EqMixed.ne_str_int (bG I q (by simp))
  |str j=>obtain⟨b,rfl⟩:=a;exact ne_str (bG I q (congrArg not DV))
  |_=>exact absurd (show false=true from c) wap
 |byt i=>
  obtain⟨t,rfl⟩:=d
  cases y with
  |byt j=>obtain⟨b,rfl⟩:=a;exact PySem.W.ne_bytes (bG I q (congrArg not DW))
  |_=>exact absurd (show false=true from c) wap
 |_=>cases y<;>exact absurd (show false=true from c) wap
theorem mr:nT X (wbm .Lt) (LY λi j=>.bl (decide (i<j))):=K6 λ_ _ _ _ _ _ _ q=>lt_int q
theorem Pp:nT X (wbm .LtE) (LY λi j=>.bl (decide (i<=j))):=K6 λ_ _ _ _ _ _ _ q=>le_int q
theorem o6:nT X (wbm .Gt) (LY λi j=>.bl (decide (j<i))):=K6 λ_ _ _ _ _ _ _ q=>gt_int q
theorem GV:nT X (wbm .GtE) (LY λi j=>.bl (decide (j<=i))):=K6 λ_ _ _ _ _ _ _ q=>ge_int q
theorem xQ:nT X (wbm .In) (λx y H Q=>∃i j,x=.str i/\y=.str j/\Q (.bl (!(wd0 j i 0 j.length 1).isEmpty)) H):=by
 intro a s σ H x y v u Q I b c h;obtain⟨i,j,rfl,rfl,q⟩:=h;obtain⟨t,rfl⟩:=b;obtain⟨d,rfl⟩:=c;exact in_str (bG I q rfl)
theorem GW:nT X (wbm .Is) (λx y H Q=>y=.non/\Q (.bl (decide (x=.non))) H):=by
 intro a s σ H x y v u Q I b c h;obtain⟨rfl,q⟩:=h;cases c;refine is_none_gen (bG I q ?_)
 cases x<;>first
  |(cases b;rfl)
  |(obtain⟨t,rfl⟩:=b;rfl)
theorem yY:nT X (wbm .IsNot) (λx y H Q=>y=.non/\Q (.bl (!decide (x=.non))) H):=by
 intro a s σ H x y v u Q I b c h;obtain⟨rfl,q⟩:=h;cases c;refine isnot_none_gen (bG I q ?_)
 cases x<;>first
  |(cases b;rfl)
  |(obtain⟨t,rfl⟩:=b;rfl)
theorem aU(b:Expr)(h:op≠.In:=by decide)(g:op≠.NotIn:=by decide):wd4 op b=false:=by
 have a:(op==CmpOp.In)=false:=by grind
 have c:(op==CmpOp.NotIn)=false:=by grind
 cases b<;>simp[wd4,a,c]
theorem jm(g:nT X (wbm op) r)(ha:PE X a ta)(j:PE X b tb)(l:wd4 op b=false):PE X (.Compare a [op] [b] pos) (RH r ta tb):=by
 intro c s σ H Q I h;exact wpAny_Compare1 (MV ha j I h λv u d x y e f i k q=>g c d σ e x y v u Q f i k q) l
def Pq(t:TE):TT:=λσ H Q=>t σ H λx H'=>VL x H' Q
theorem aG(g:nT X (wbm op) r)(ha:PE X a ta)(j:PE X b tb)(l:wd4 op b=false):PT X (.Compare a [op] [b] pos) (Pq (RH r ta tb)):=by
 intro d s σ H Q I h
 refine wge (bY (ha d s σ H _ I h) λv f ⟨x,i,m,n,o⟩=>bY (j d f σ i _ m o) λu p ⟨y,q,t,w,A⟩=>
  bY (g d p σ q x y v u _ t n w A) λc G ⟨z,B,C,D,k,e,E⟩=>?_) l
 subst e;cases D;exact wbN ⟨B,C,E⟩
theorem oN:(sizeLine:Nat)<2^63:=by rw[wcc];decide
theorem oO:nT X (binaryOp .Add) (λx y H Q=>∃i j,x=.str i/\y=.str j/\i.length+j.length<=sizeLine/\Q (.str (i++j)) H):=by
 intro a s σ H x y v u Q I b c h;obtain⟨i,j,rfl,rfl,d,q⟩:=h;obtain⟨t,rfl⟩:=b;obtain⟨e,rfl⟩:=c;exact add_str (λe f=>⟨.str (i++j),H,I.tok _,⟨_,rfl⟩,q⟩) d
theorem Ah:nT X (inplaceOp .Add) (λx y H Q=>∃i j,x=.str i/\y=.str j/\i.length+j.length<=sizeLine/\Q (.str (i++j)) H):=by
 intro a s σ H x y v u Q I b c h;obtain⟨i,j,rfl,rfl,d,q⟩:=h;obtain⟨t,rfl⟩:=b;obtain⟨e,rfl⟩:=c;exact iadd_str (λe f=>⟨.str (i++j),H,I.tok _,⟨_,rfl⟩,q⟩) d
theorem vals1(r:Vals [x] us):∃u,us=[u]/\RelV x u:=by
 cases r with
 |cons a b=>cases b;exact⟨_,rfl,a⟩
theorem vals2(r:Vals [x,y] us):∃u g,us=[u,g]/\RelV x u/\RelV y g:=by
 cases r with
 |cons a b=>
  cases b with
  |cons c d=>cases d;exact⟨_,_,rfl,a,c⟩
theorem EY(hc:X.calm=true):eN X (.builtin "max") (λxs H Q=>∃i j,xs=[.int i,.int j]/\Q (.int (if j>i then j else i)) H):=by
 intro b s σ H xs c Q I r h;obtain⟨i,j,rfl,q⟩:=h;obtain⟨u,d,rfl,⟨t,rfl⟩,⟨e,rfl⟩⟩:=vals2 r;refine max_two_ints (I.ok.hd hc) λf g k=>⟨_,H,I.kept k,?_,q⟩
 by_cases a:j>i
 ·rw[if_pos a,if_pos a];exact⟨_,rfl⟩
 ·rw[if_neg a,if_neg a];exact⟨_,rfl⟩
theorem xR(hc:X.calm=true):eN X (.builtin "min") (λxs H Q=>∃i j,xs=[.int i,.int j]/\Q (.int (if j<i then j else i)) H):=by
 intro b s σ H xs c Q I r h;obtain⟨i,j,rfl,q⟩:=h;obtain⟨u,d,rfl,⟨t,rfl⟩,⟨e,rfl⟩⟩:=vals2 r;refine min_two_ints (I.ok.hd hc) λf g k=>⟨_,H,I.kept k,?_,q⟩
 by_cases a:j<i
 ·rw[if_pos a,if_pos a];exact⟨_,rfl⟩
 ·rw[if_neg a,if_neg a];exact⟨_,rfl⟩
end
structure C6(h:Heap)(x dx C:Addr)(mA:Str->Option Value):Prop where
 obj:h.get? x=some (wcp C dx)
 ns:h.Ns1 dx mA
 ne:dx≠x
theorem EZ{h:Heap}{g:Addr}{j:Str->Option Value}(n:h.Ns1 g j):∃l,h.get? g=some l/\∀name,weM name l=some (j name):=by
 obtain⟨o,c,m,d,hd,hk,_,f⟩:=n;refine⟨o,d,λname=>?_⟩;have e:=f name;unfold nsFind findBy at e;rw[<-Array.find?_toList]at e;unfold weM;rw[hd];dsimp only;split
 ·rename_i y q;rw[q]at e;exact congrArg some e
 ·rename_i q;rw[q]at e
  have a:c.toList.any (·.refKey)=false:=by
   rw[wh5];intro y i;obtain⟨z,t,b⟩:=hk y (Array.mem_toList_iff.mp i);simp[DictEntry.refKey,b]
  have k:¬c.toList.any (·.refKey)=true:=by rw[a];exact wap
  rw[if_neg k];exact congrArg some e
theorem C6.look{h:Heap}{x j C:Addr}{l:Str->Option Value}(I:C6 h x j C l):∃g,PySem.W.InstAt h x (wcp C j) C (some g)/\∀name,weM name g=some (l name):=
 let ⟨g,a,hl⟩:=EZ I.ns
 ⟨g,⟨I.obj,rfl,rfl,a⟩,hl⟩
section
variable{prog:wat}{w:World}{A:Around}{E:Value->Shared->Prop}{s:Shared}{K:wa2}{x dx C f:Addr}{mA:Str->Option Value}{name:Str}{v:Value}
theorem get_map{Q:Value->Shared->Prop}(X:K.In s.heap)(I:C6 s.heap x dx C mA)(j:wee K C name=true)(l:wet K C=true)
 (ha:wbh K (.ref C) name=some none) (p:mA name=some v) (g:whr v=true) (h:Q v {s with toks:=s.toks+1}) :
 wpAny (model prog w) A (getAttr (.ref x) name expr) Q E s:=by
 obtain⟨a,J,hl⟩:=I.look;exact PySem.W.get_value X J (weG j).1 (PySem.W.findObj_own l ha rfl (by rw[hl,p])) g h
theorem GX{Q:Value×List Value->Shared->Prop}(X:K.In s.heap)(I:C6 s.heap x dx C mA)(g:wee K C name=true)
 (j:wbh K (.ref C) name=some (some (.ref f))) (l:wfm K (.ref f)=true) (p:mA name=none) (h:Q (.ref f,[.ref x]) s) :
 wpAny (model prog w) A (wfO (.ref x) name pl) Q E s:=by
 obtain⟨a,J,hl⟩:=I.look;exact PySem.W.method_fn X J (weG g).1 (weG g).2 j (beq_iff_eq.mp l) (by show (weM name a).map (·.isSome)=some false;rw[hl,p];rfl) h
theorem K8{Q:Unit->Shared->Prop}(X:K.In s.heap)(I:C6 s.heap x dx C mA)
 (hs:wbh K (.ref C) "__setattr__"=some (some (.builtin "object.__setattr__"))) (g:wgc K C=true) (j:wfP K C name=some none) (l:wet K C=true)
 (hw:wdK mA ns) (hsz:ns.length<=sizeLine)
 (h:∀h',C6 h' x dx C (λy=>if y=name then some v else mA y)->wfl dx s.heap h'->Q () {s with heap:=h',toks:=s.toks+2}) :
 wpAny (model prog w) A (setAttr (.ref x) name v) Q E s:=by
 obtain⟨p,J,hl⟩:=I.look;refine wf5 X J hs (PySem.W.osa_open (s:={s with toks:=s.toks+1}) (r:=none) X J g j λb=>?_);obtain⟨q,hc,e⟩:=PySem.W.any_some l;have i:s.heap.get? x=some ⟨.ref C,some dx,.plain,#[]⟩:=I.obj;refine wa7 (waz (wa7 (wa7 (wgf i (wa7 (weT (s:={s with toks:=s.toks+1}) (we3 X hc) ?_))))));rw[e];refine waz (a:=some dx) (wa7 (waz (wa7 ?_)));refine wgT (s:={s with toks:=s.toks+1}) I.ns λh' c d=>?_;obtain⟨t,k,m,f,n,o⟩:=c.count (wfQ name v hw);refine wa7 (wfn f (by grind [wfo,wal]) ?_);exact waz (h _ ⟨(d.2 _ (wbc I.ne)).trans I.obj,c,I.ne⟩ d)
theorem Ai{R:wd9->Shared->Prop}(X:K.In s.heap)(l:whC K C=true)
 (hi:wbh K (.ref C) "__init__"=some (some (.ref f))) (p:PySem.W.typeIn K (.ref f)=some (.type "function"))
 (h:codeAny (model prog w) (A.under (.builtin "type.__call__" ⟨.ref C::vs,j⟩)) (.call (.ref f) ⟨.ref (s.heap.objs.size+1)::vs,j⟩) (PySem.W.InitBack (s.heap.objs.size+1) R)
   {s with heap:=(s.heap.push wbO).push (wcp C s.heap.objs.size)}) :
 codeAny (model prog w) A (.call (.ref C) ⟨vs,j⟩) R s:=by
 obtain⟨a,g,d,t,os⟩:=s;exact PySem.W.make_core (PySem.W.makes_of X l) (weN X hi) (λself=>PySem.W.bind_fn X self p) (.inl rfl) h
end
noncomputable def cQ(f:Str)(v:V):List (Str×V)->List (Str×V)
 |[]=>[(f,v)]
 |(g,x)::r=>if g=f then(g,v)::r else(g,x)::cQ f v r
theorem aF(f g:Str)(v:V):∀fs:List (Str×V),(cQ f v fs).lookup g=if g=f then some v else fs.lookup g
 |[]=>by
  show wfZ g [(f,v)]=_
  by_cases h:g=f
  ·grind
  ·grind
 |(k,x)::r=>by
  have a:=aF f g v r;rw[show cQ f v ((k,x)::r)=(if k=f then(k,v)::r else(k,x)::cQ f v r) from rfl]
  by_cases hk:k=f
  ·grind
  ·grind
theorem ro(f:Str)(v:V):∀fs:List (Str×V),f∈(cQ f v fs).map (·.1)/\∀g,g∈fs.map (·.1)->g∈(cQ f v fs).map (·.1)
 |[]=>⟨by simp[cQ],λg h=>by simp at h⟩
 |(k,x)::r=>by
  obtain⟨a,b⟩:=ro f v r;rw[show cQ f v ((k,x)::r)=(if k=f then(k,v)::r else(k,x)::cQ f v r) from rfl]
  by_cases hk:k=f
  ·grind
  ·grind
theorem sE(f:Str)(v:V):∀fs:List (Str×V),(cQ f v fs).length<=fs.length+1
 |[]=>by simp[cQ]
 |(k,x)::r=>by
  have a:=sE f v r;rw[show cQ f v ((k,x)::r)=(if k=f then(k,v)::r else(k,x)::cQ f v r) from rfl]
  by_cases hk:k=f
  ·grind
  ·grind
theorem jB.yZ(r:jB (some v) o):∃u,o=some u/\RelV v u:=by
 cases o with
 |none=>exact(show False from r).elim
 |some u=>exact⟨u,rfl,r⟩
theorem jB.none_of(r:jB none o):o=none:=by grind [jB,cases False]
theorem F0(r:RelV v u):whr u=true:=by
 cases v with
 |non=>cases(show u=wbA from r);rfl
 |bl b=>cases(show u=wgt b from r);rfl
 |int i=>obtain⟨t,e⟩:=(show ∃t,u=wfL i t from r);cases e;rfl
 |str x=>obtain⟨t,e⟩:=(show ∃t,u=wfM x t from r);cases e;rfl
 |byt b=>obtain⟨t,e⟩:=(show ∃t,u=Value.bytes b t from r);cases e;rfl
 |flt b=>obtain⟨t,e⟩:=(show ∃t,u=whj b t from r);cases e;rfl
 |ref a=>cases(show u=wam a from r);rfl
 |ty n=>cases(show u=weq n from r);rfl
section
variable{P:wat}{w:World}{H H':Hp}{h h':Heap}{a C dx:Addr}{fs Y6:List (Str×V)}
theorem uj(b9:jI P w H h)(e:H a=some (.ins C dx fs)):∃g,C6 h a dx C g/\(∀f,jB (fs.lookup f) (g f))/\wdK g (fs.map (·.1))/\fs.length<=1000/\H dx=some (.own a):=by
 obtain⟨d,z,ne,ob,g,n,r,q⟩:=(show cq P w H h a (.ins C dx fs) from b9 a _ e);exact⟨g,⟨ob,n,ne⟩,r,q,z,d⟩
end
structure BW(K:wa2)(C:Addr):Prop where
 pg:wee K C whQ=true
 hd:wet K C=true
 po:wgc K C=true
 sa:wbh K (.ref C) "__setattr__"=some (some (.builtin "object.__setattr__"))
theorem BW.get{K:wa2}{C:Addr}(c:BW K C)(f:Str):wee K C f=true:=c.pg
def bW(K:wa2)(C:Addr)(f:Str):Prop:=wbh K (.ref C) f=some none
theorem bW.Pt{K:wa2}{C:Addr}{f:Str}(n:bW K C f):wfP K C f=some none:=by
 unfold wfP;rw[show wbh K (.ref C) f=some none from n];rfl
structure K9(K:wa2)(C:Addr)(m:Str)(f:Addr):Prop where
 at_:wbh K (.ref C) m=some (some (.ref f))
 fn:wfm K (.ref f)=true
 kp:wcT K (.ref f)=true
section
variable{X:Cx}{pins:List (Addr×Obj)}{σ:St}{H:Hp}{s:Shared}{a C dx:Addr}{fs:List (Str×V)}{f:Str}{v:V}{A:Around}{E:Value->Shared->Prop}
theorem C7{Q:Value->Shared->Prop}(I:Inv X pins σ H s)(e:H a=some (.ins C dx fs))(c:BW X.K C)(n:bW X.K C f)(l:fs.lookup f=some v)
 (h:∀u s',Inv X pins σ H s'->RelV v u->Q u s'):wpAny (model X.prog X.w) A (getAttr (.ref a) f b) Q E s:=by
 obtain⟨g,O,r,_,_,_⟩:=uj I.b9 e;obtain⟨u,i,d⟩:=jB.yZ (v:=v) (o:=g f) (by grind);exact get_map I.iL O (c.get f) c.hd n i (F0 d) (h u _ (I.tok _) d)
theorem uI{Q:Value×List Value->Shared->Prop}(I:Inv X pins σ H s)(e:H a=some (.ins C dx fs))(c:BW X.K C)(k:K9 X.K C m g)(l:fs.lookup m=none)
 (h:Q (.ref g,[.ref a]) s):wpAny (model X.prog X.w) A (wfO (.ref a) m pl) Q E s:=by
 obtain⟨b,O,r,_,_,_⟩:=uj I.b9 e;have hn:b m=none:=jB.none_of (by grind);exact GX I.iL O (c.get m) k.at_ k.fn hn h
theorem C8{Q:Unit->Shared->Prop}(I:Inv X pins σ H s)(e:H a=some (.ins C dx fs))(c:BW X.K C)(n:bW X.K C f)(hl:fs.length<1000)(l:RelV y u)
 (h:∀s',Inv X pins σ (upd H a (.ins C dx (cQ f y fs))) s'->Q () s'):wpAny (model X.prog X.w) A (setAttr (.ref a) f u) Q E s:=by
 obtain⟨i,O,r,j,_,k⟩:=uj I.b9 e;have m:(fs.map (·.1)).length<=sizeLine:=by rw[wa0,wcc];omega
 refine K8 I.iL O c.sa c.po n.Pt c.hd j m λp d sb=>h _ ?_;have hd:∃o,p.get? dx=some o:=let ⟨o,_,_,t,_⟩:=d.ns;⟨o,t⟩
 refine I.write (x:=a) (e:=dx) (by rw[e];exact wbu) (.inr k) (λb q v z=>(sb.2 b v).trans z) hd ?_;refine⟨by rw[ae O.ne];exact k,?_,O.ne,d.obj,_,d.ns,λg=>?_,λg B=>?_⟩
 ·have:=sE f y fs;omega
 ·show jB ((cQ f y fs).lookup g) (if g=f then some u else i g);rw[aF]
  by_cases q:g=f
  ·rw[if_pos q,if_pos q];exact l
  ·rw[if_neg q,if_neg q];exact r g
 ·by_cases q:g=f
  ·rw[q];exact(ro f y fs).1
  ·refine(ro f y fs).2 g (j g λz=>B ?_);show (if g=f then some u else i g)=none;rw[if_neg q];exact z
theorem Inv.made(I:Inv X pins σ H s):Inv X pins σ (upd (upd H s.heap.objs.size (.own (s.heap.objs.size+1))) (s.heap.objs.size+1) (.ins C s.heap.objs.size []))
 {s with heap:=(s.heap.push wbO).push (wcp C s.heap.objs.size)}:=by
 have c:(s.heap.push wbO).get? s.heap.objs.size=some wbO:=wav s.heap rfl
 have d:((s.heap.push wbO).push (wcp C s.heap.objs.size)).get? (s.heap.objs.size+1)=some (wcp C s.heap.objs.size):=by
  have:=wav (s.heap.push wbO) (o:=wcp C s.heap.objs.size) rfl;rwa[wbK]at this
 have f:(s.heap.push wbO).Ns s.heap.objs.size (λ_=>none):=⟨wbO,#[],_,c,rfl,(λe g=>absurd g (by simp)),λ_=>rfl⟩;have h:=I.laid (a:=s.heap.objs.size) (o:=.own (s.heap.objs.size+1)) (h':=s.heap.push wbO) (t':=s.toks) (λb u q=>wa9 _ q) (waa _) ⟨_,c⟩;refine h.laid (a:=s.heap.objs.size+1) (o:=.ins C s.heap.objs.size []) (t':=s.toks) (λb u q=>wa9 _ q) (wdM (wbK _ _)) ?_;have ne:s.heap.objs.size≠s.heap.objs.size+1:=war (wbI _);refine⟨by rw[ae ne,a7],waA _,ne,d,λ_=>none,(wh6 f).at λo q=>wa9 _ q,λ_=>wbu,λy i=>absurd rfl i⟩
theorem Ka{Q:Value->Shared->Prop}(j:wcw e f env (eval e env)=eval e env)
 (h:wpAny (model prog w) A (eval e env) (λo g=>wpAny (model prog w) A (getAttr o f true) Q E g) E s):wpAny (model prog w) A (eval (.Attribute e f pos) env) Q E s:=
 Attribute_any_ h (by rw[arm_eval_Attribute,j])
end
inductive Yh(K:wa2)(f:Str)(x:V)(H:Hp)(Q:VK):Prop
 |mk (a C dx fs v) (_:x=.ref a) (_:H a=some (.ins C dx fs)) (_:BW K C) (_:bW K C f) (_:fs.lookup f=some v) (_:Q v H)
def Pu(K:wa2)(ta:TE)(f:Str):TE:=λσ H Q=>ta σ H λx H1=>Yh K f x H1 Q
def T6(K:wa2)(ta tv:TE)(f:Str):TS:=λD σ H=>tv σ H λy H1=>ta σ H1 λx H2=>∃a C dx fs,x=.ref a/\H2 a=some (.ins C dx fs)/\BW K C/\bW K C f/\fs.length<1000 /\
 D.nx σ (upd H2 a (.ins C dx (cQ f y fs)))
section
variable{X:Cx}{o e value:Expr}{f:Str}{pos pos' T7:Pos}{ta tv:TE}
theorem aE(g:PE X e ta)(j:wcw e f X.env (eval e X.env)=eval e X.env):PE X (.Attribute e f pos) (Pu X.K ta f):=by
 intro b s σ H Q I h;refine Ka j (bY (g b s σ H _ I h) λu r ⟨x,d,i,k,a,C,t,fs,v,ex,m,c,n,l,q⟩=>?_);subst ex;obtain rfl:u=wam a:=k;exact C7 i m c n l λw y o p=>⟨v,d,o,p,q⟩
theorem dg(ha:PE X o ta)(g:PE X value tv)(hs:wc6 value (some (.Attribute o f pos')) pos.line X.env=pure false):PS X (.Assign [.Attribute o f pos'] value pos) (T6 X.K ta tv f):=by
 intro b s σ H D I h;refine wcY (bY (g b s σ H _ I h) λu d ⟨y,e,i,j,q⟩=>bY (ha b d σ e _ i q) λk z m=>?_) hs;obtain⟨x,A,p,r,a,C,B,fs,ex,t,c,n,l,v⟩:=m;subst ex;obtain rfl:k=wam a:=r;exact C8 p t c n l j λE w=>⟨σ,_,w,v⟩
end
section
variable{X:Cx}{pins:List (Addr×Obj)}{σ:St}{H:Hp}{s:Shared}{A:Around}{E:Value->Shared->Prop}{Q:Value->Shared->Prop}{c:Value}{b:Bool}
set_option genInjectivity true in
inductive iY(K:wa2)(H:Hp):V->Value->Prop where
 |non:iY K H .non (.type "NoneType")
 |bl (x:Bool):iY K H (.bl x) (.type "bool")
 |int (i:Int):iY K H (.int i) (.type "int")
 |str (x:Str):iY K H (.str x) (.type "str")
 |flt (x:UInt64):iY K H (.flt x) (.type "float")
 |lst {a:Addr} {xs:List V} (e:H a=some (.lst xs)):iY K H (.ref a) (.type "list")
 |frz {a:Addr} {o:Obj} {xs:List V} (e:H a=some (.frz o (.lst xs))):iY K H (.ref a) (.type "list")
 |tup {a:Addr} {xs:List V} (e:H a=some (.tup xs)):iY K H (.ref a) (.type "tuple")
 |dK {a:Addr} {kvs:List (Key×V)} (e:H a=some (.dK kvs)):iY K H (.ref a) (.type "dict")
 |dT {a:Addr} {kvs:List (List Key×V)} (e:H a=some (.dT kvs)):iY K H (.ref a) (.type "dict")
 |ins {a C dx:Addr} {fs:List (Str×V)} (e:H a=some (.ins C dx fs)) (cl:BW K C) (ha:wbh K (.ref C) "__class__"=some (some (.builtin "object.__class__")))
   (hn:weX K (.builtin "object.__class__") "__get__"=some (some (.builtin "getset_descriptor.__get__"))) (rg:PySem.W.takesIn K (.builtin "object.__class__")=some true)
   (hm:PySem.W.mroIn K C (.type "object")=some true):iY K H (.ref a) (.ref C)
theorem F1(I:Inv X pins σ H s)(g:RelV x u)(ty:iY X.K H x t)(e:whO X.K t c=some b)(h:∀tk,Q (.bool b) {s with toks:=tk}) :
 wpAny (model X.prog X.w) A (call (.builtin "isinstance") [u,c]) Q E s:=by
 cases ty with
 |non=>cases(show u=wbA from g);exact wbE PySem.W.kitx_none I.iL wbu e (λz=>nomatch z) h
 |bl y=>cases(show u=wgt y from g);exact wbE PySem.W.kitx_bool I.iL wbu e (λz=>nomatch z) h
 |int i=>obtain⟨t,q⟩:=(show ∃t,u=wfL i t from g);cases q;exact wbE PySem.W.kitx_int I.iL wbu e (λz=>nomatch z) h
 |str y=>obtain⟨t,q⟩:=(show ∃t,u=wfM y t from g);cases q;exact wbE PySem.W.kitx_str I.iL wbu e (λz=>nomatch z) h
 |flt y=>obtain⟨t,q⟩:=(show ∃t,u=whj y t from g);cases q;exact wbE PySem.W.kitx_float I.iL wbu e (λz=>nomatch z) h
 |@lst a k d=>
  cases(show u=wam a from g);obtain⟨_,_,n,_,f⟩:=(show cq X.prog X.w H s.heap a (.lst k) from I.b9 a _ d);exact wbE wh7 I.iL ⟨_,f,rfl⟩ e (λz=>nomatch z) h
 |@frz a ob k d=>
  cases(show u=wam a from g);obtain⟨_,_,_,n,_,f⟩:=(show cq X.prog X.w H s.heap a (.frz ob (.lst k)) from I.b9 a _ d);exact wbE wh7 I.iL ⟨_,f,rfl⟩ e (λz=>nomatch z) h
 |@tup a k d=>
  cases(show u=wam a from g);obtain⟨_,_,_,p⟩:=(show cq X.prog X.w H s.heap a (.tup k) from I.b9 a _ d);obtain⟨o,f,l,_⟩:=p;exact wbE PySem.W.kitx_tuple I.iL ⟨o,f,l⟩ e (λz=>nomatch z) h
 |@dK a j d=>
  cases(show u=wam a from g);obtain⟨_,_,B,_,p⟩:=(show cq X.prog X.w H s.heap a (.dK j) from I.b9 a _ d);obtain⟨o,m,r,f,l,_⟩:=p;exact wbE wh8 I.iL ⟨o,f,l.1⟩ e (λz=>nomatch z) h
 |@dT a j d=>
  cases(show u=wam a from g);obtain⟨_,_,k,_,o,m,r,f,l,_⟩:=(show cq X.prog X.w H s.heap a (.dT j) from I.b9 a _ d);exact wbE wh8 I.iL ⟨o,f,l.1⟩ e (λz=>nomatch z) h
 |@ins a C D fs d cl ha hn rg v=>
  cases(show u=wam a from g);obtain⟨G,O,_⟩:=uj I.b9 d;obtain⟨L,J,_⟩:=O.look;exact wbE (PySem.W.kitx_own (cl.get _) cl.hd ha hn rg v) I.iL J e (λz=>nomatch z) h
end
structure eT(k:Nat)(A:Around):Prop where
 hd:A.handled=none
 dp:A.depth+3*k+5<recursionLimit
 un:A.units+16*k+200<wcF
theorem eT.mono(r:eT k A)(h:j<=k):eT j A:=⟨r.hd,by have:=r.dp;omega,by have:=r.un;omega⟩
theorem eT.deeper(r:eT (k+1) A)(env:Env):eT k (A.deeper env):=
 ⟨r.hd,by have:=r.dp;show A.depth+1+3*k+5<_;omega,by have:=r.un;show A.units+3+16*k+200<_;omega⟩
theorem C9{A:Around}{C:Addr}{us:List Value}{g:List (Str×Value)}:(A.under (.builtin "type.__call__" ⟨.ref C::us,g⟩)).depth=A.depth+1:=by
 first |rfl |simp[wgU,Code.weight,Code.isCreation,Code.isGuard,Code.isCaller,Code.frames,wgV,guardIds]
theorem Ca{A:Around}{C:Addr}{us:List Value}{g:List (Str×Value)}:(A.under (.builtin "type.__call__" ⟨.ref C::us,g⟩)).units=A.units+1:=by
 first |rfl |simp[wgU,Code.cUnits,Code.frames,wgV]
theorem eT.make(r:eT (k+1) A)(C:Addr)(us:List Value)(g:List (Str×Value)):eT k (A.under (.builtin "type.__call__" ⟨.ref C::us,g⟩)):=
 ⟨r.hd,by have:=r.dp;rw[C9];omega,by have:=r.un;rw[Ca];omega⟩
theorem eT.depth(r:eT k A):A.depth<recursionLimit:=by have:=r.dp;omega
theorem eT.units(r:eT k A):A.units+64<wcF:=by have:=r.un;omega
theorem eT.uJ(r:eT k A):A.units<wcF:=by have:=r.un;omega
def GY:TA:=λ_ H Q=>Q [] H
def Aj(ta:TE)(tr:TA):TA:=λσ H Q=>ta σ H λx H1=>tr σ H1 λxs H2=>Q (x::xs) H2
section
variable{X:Cx}{e:Expr}{es:List Expr}{te:TE}{t:TA}{pos:Pos}
theorem a8:PA X [] GY:=λ_ _ _ _ H Q I h=>wf6 ⟨[],H,I,.nil,h⟩
theorem a5(ha:PE X e te)(g:PA X es t)(hs:starEach (e::es) X.env=(false,eval e X.env)::starEach es X.env:=by rfl):PA X (e::es) (Aj te t):=by
 intro pos a s σ H Q I h;rw[hs];show wpAny _ _ (spliced ((false,eval e X.env)::backTo pos (starEach es X.env))) _ _ s;refine wda (bY (ha a s σ H _ I h) λu b ⟨x,c,d,f,i⟩=>?_);exact bY (g pos a b σ c _ d i) λo p ⟨j,k,l,m,n⟩=>⟨x::j,k,l,.cons f m,n⟩
inductive Yi(xs:List V)(H:Hp)(Q:VK):Prop
 |mk (_:xs.length<=sizeLine) (_:∀p,H p=none->Q (.ref p) (upd H p (.tup xs)))
def Pw(t:TA):TE:=λσ H Q=>t σ H λxs H1=>Yi xs H1 Q
inductive Yj(xs:List V)(H:Hp)(Q:VK):Prop
 |mk (_:xs.length<=sizeLine) (_:∀p,H p=none->Q (.ref p) (upd H p (.lst xs)))
def Px(t:TA):TE:=λσ H Q=>t σ H λxs H1=>Yj xs H1 Q
theorem eC{g}(h:PA X es t):PE X (.Tuple es g pos) (Pw t):=by
 intro a s σ H Q I i;refine wpAny_Tuple_spliced (bY (h pos a s σ H _ I i) λj c ⟨k,d,f,r,z,q⟩=>⟨by rw[<-r.length];exact z,?_⟩);have l:d c.heap.objs.size=none:=f.b9.fresh (waa _);refine⟨.ref c.heap.objs.size,upd d c.heap.objs.size (.tup k),f.laid (t':=c.toks) (λb u e=>wa9 _ e) (waa _) ?_,rfl,q _ l⟩;exact⟨z,j,r,⟨_,wav _ rfl,rfl,_,rfl⟩⟩
theorem bX(h:PA X es t):PE X (.List es pos) (Px t):=by
 intro a s σ H Q I g;refine wpAny_List_spliced (bY (h pos a s σ H _ I g) λi c ⟨j,d,f,r,z,q⟩=>⟨by rw[<-r.length];exact z,?_⟩);have k:d c.heap.objs.size=none:=f.b9.fresh (waa _);refine⟨.ref c.heap.objs.size,upd d c.heap.objs.size (.lst j),f.laid (t':=c.toks) (λb u e=>wa9 _ e) (waa _) ?_,rfl,q _ k⟩;exact⟨z,i,0,r,wav _ rfl⟩
end
noncomputable abbrev Sp:=List V->Hp->VK->XK->Prop
noncomputable abbrev GA:=List Env->Hp->Shared->XK->Value->Shared->Prop
structure Cb(P:wat)(w:World)(K:wa2)(mg:Str->Option Value)(base:Heap)(A:Around)(outer:List Env)(s:Shared)(H:Hp):Prop where
 frames:A.frames=some outer
 mod:Mod K mg base
 bs:∀b o,base.get? b=some o->s.heap.get? b=some o/\H b=none
 GJ:base.objs.size<=s.heap.objs.size
 pE:s.heap.FunFrames base outer
 K3:∀b∈sD outer,H b=none
 b9:jI P w H s.heap
 bare:AllBare s.gens
def CE(outer:List Env)(P:wat)(w:World)(H:Hp)(s:Shared)(Q:VK)(u:Value)(s':Shared):Prop:=
 ∃v H',s'.os=s.os/\AllBare s'.gens/\Un (sD outer) [] H H' s.heap s'.heap/\jI P w H' s'.heap/\RelV v u/\Q v H'
def CR(CX:GA)(outer:List Env)(P:wat)(w:World)(H:Hp)(s:Shared)(Q:VK)(E:XK)(r:wd9)(s':Shared):Prop:=
 match r with
 |.ok (.ret u)=>CE outer P w H s Q u s'
 |.ok _=>False
 |.error e=>CX outer H s E e s'
structure aT(P:wat)(w:World)(K:wa2)(mg:Str->Option Value)(base:Heap)(CX:GA)(k:Nat)(f:Addr)(fd:wad)(ps:List Str)(sp:Sp):Prop where
 len:∀vs H Q E,sp vs H Q E->vs.length=ps.length
 run:∀(A:Around) (outer:List Env) (s:Shared) (H:Hp) (args:Args) (us:List Value) (vs:List V) (Q:VK) (E:XK),eT k A->Cb P w K mg base A outer s H->BindsTo s fd args (ps.zip us)->Vals vs us->sp vs H Q E ->
  codeAny (model P w) A (.call (.ref f) args) (CR CX outer P w H s Q E) s
theorem Cb.make{P:wat}{w:World}{K:wa2}{mg:Str->Option Value}{base:Heap}{A:Around}{outer:List Env}{s:Shared}{H:Hp}(e:Cb P w K mg base A outer s H)(C:Addr)(us:List Value)(g:List (Str×Value)) :
 Cb P w K mg base (A.under (.builtin "type.__call__" ⟨.ref C::us,g⟩)) outer s H:=⟨by first |exact e.frames |(simpa [wgU,Code.envs,wgV,pushEnvs] using e.frames),e.mod,e.bs,e.GJ,e.pE,e.K3,e.b9,e.bare⟩
section
variable{X:Cx}{pins:List (Addr×Obj)}{σ:St}{H:Hp}{s s':Shared}
theorem Inv.Kb(I:Inv X pins σ H s):Cb X.prog X.w X.K X.mg X.base X.A X.stack s H:=
 ⟨I.ok.frames,I.ok.mod,I.bs,wal I.ok.GJ I.sz,I.stack,I.uh,I.b9,I.bare⟩
theorem Inv.after(I:Inv X pins σ H s)(h:CE X.stack X.prog X.w H s Q u s'):EP X pins σ Q u s':=by
 obtain⟨v,c,os,bare,un,b9,r,q⟩:=h;obtain⟨e,g,d,t,a⟩:=s';obtain rfl:a=s.os:=os;exact⟨v,c,I.call (h':=e) (g':=g) (d':=d) (t':=t) (ch:=[]) un b9 bare (λb z=>absurd z (by simp)),r,q⟩
end
def LZ(sp:Sp)(wV:List V)(E:XK)(t:TA):TE:=λσ H Q=>t σ H λvs H1=>sp (vs++wV) H1 Q E
inductive Yk(C:Addr)(m:Str)(x:V)(H:Hp)(k:Prop):Prop
 |mk (a dx fs) (_:x=.ref a) (_:H a=some (.ins C dx fs)) (_:fs.lookup m=none) (_:k)
def M0(C:Addr)(m:Str)(sp:Sp)(wV:List V)(E:XK)(ta:TE)(t:TA):TE:=λσ H Q=>ta σ H λx H1=>Yk C m x H1 (t σ H1 λvs H2=>sp (x::(vs++wV)) H2 Q E)
def Py(C:Addr)(sp:Sp)(wV:List V)(E:XK)(t:TA):TE:=λσ H Q=>t σ H λvs H1=>∀x dx,H1 x=none->H1 dx=none->dx≠x ->
 sp (.ref x::(vs++wV)) (upd (upd H1 dx (.own x)) x (.ins C dx [])) (λv H2=>v=.non/\Q (.ref x) H2) E
def Binds(K:wa2)(fd:wad)(ps:List Str)(ds:List Value):Prop:=
 ∀(s:Shared) (us:List Value),K.In s.heap->(us++ds).length=ps.length->BindsTo s fd ⟨us,[]⟩ (ps.zip (us++ds))
theorem Binds.all{K:wa2}{fd:wad}{ps:List Str}(h:∀us:List Value,us.length=ps.length->bindArgs fd ⟨us,[]⟩=pure (ps.zip us)):Binds K fd ps []:=λs us _ hl=>by
 rw[waZ]at hl ⊢;exact .of_eq (h us hl)
def Passes(CX:GA)(X:Cx)(E:XK):Prop:=∀(pins:List (Addr×Obj)) (σ:St) (H:Hp) (s:Shared) (e:Value) (s':Shared),Inv X pins σ H s->CX X.stack H s E e s'->X.xe e s'
section
variable{X:Cx}{CX:GA}{k:Nat}{f C:Addr}{fd:wad}{ps:List Str}{sp:Sp}{wV:List V}{ds:List Value}{E:XK}{x m:Str}{p pos apos:Pos}{e o:Expr}{es:List Expr}{ta:TE}{t:TA}
theorem Cd(F:aT X.prog X.w X.K X.mg X.base CX k f fd ps sp)(j:eT k X.A)(l:Binds X.K fd ps ds)(hd:Vals wV ds)(J:Passes CX X E)
 (I:Inv X g σ H s) (r:Vals vs us) (h:sp (vs++wV) H Q E):wpAny (model X.prog X.w) X.A (call (.ref f) us) (EP X g σ Q) X.xe s:=by
 have b:Vals (vs++wV) (us++ds):=r.append hd;have hl:(us++ds).length=ps.length:=by rw[<-b.length];exact F.len _ _ _ _ h
 refine wdb (wcd (F.run X.A X.stack s H ⟨us,[]⟩ (us++ds) (vs++wV) Q E j I.Kb (l s us I.iL hl) b h) λr c a=>?_)
 cases r with
 |error e=>exact J g σ H s e c I a
 |ok fl=>
  cases fl with
  |ret u=>exact I.after a
  |next=>exact wb3 a
  |brk=>exact wb3 a
  |cont=>exact wb3 a
theorem kr(F:aT X.prog X.w X.K X.mg X.base CX k f fd ps sp)(l:eT k X.A)(J:Gl X x)(T:X.mg x=some (.ref f))(hk:wcT X.K (.ref f)=true)(U:Binds X.K fd ps ds)(hd:Vals wV ds)(hx:Passes CX X E)
 (ha:PA X (e::es) t) (g:(x==("__debug__":Str))=false:=by decide) (he:starEach (e::es) X.env=(false,eval e X.env)::starEach es X.env:=by rfl) (j:(backTo pos (starEach es X.env)).any (·.1)=false:=by rfl) :
 PE X (.Call (.Name x p) (e::es) [] pos) (LZ sp wV E t):=by
 intro a s σ H Q I h;refine wbv (gW I J T ?_ g);refine wcG (h₀:=X.base) I.ok.mod.LV hk (bY (ha pos a s σ H _ I h) λc d ⟨i,m,b,r,q⟩=>⟨b.iL,?_⟩) he j;exact Cd F l U hd hx b r q
theorem bQ(U:PE X o ta)(c:BW X.K C)(J:K9 X.K C m f)(F:aT X.prog X.w X.K X.mg X.base CX k f fd ps sp)(hr:eT k X.A)(hb:Binds X.K fd ps ds)(hd:Vals wV ds)(hx:Passes CX X E)(ha:PA X (e::es) t)
 (g:starEach (e::es) X.env=(false,eval e X.env)::starEach es X.env:=by rfl) (j:(backTo pos (starEach es X.env)).any (·.1)=false:=by rfl)
 (ht:eval (.Call (.Attribute o m apos) (e::es) [] pos) X.env=(do
   let T <-eval o X.env
   standAt apos.atName
   let (f,first) <-holding [T] (wfO T m pl)
   callWith pos f first (backTo pos (starEach (e::es) X.env)) (backToKw pos (wdC [] X.env))):=by rfl) :
 PE X (.Call (.Attribute o m apos) (e::es) [] pos) (M0 C m sp wV E ta t):=by
 intro b s σ H Q I h;refine wej (pl:=pl) (bY (U b s σ H _ I h) λu n ⟨x,p,d,v,a,B,fs,ex,y,l,q⟩=>?_) ht;subst ex;obtain rfl:u=wam a:=v;refine uI d y c J l ?_;refine wcG (first:=[.ref a]) (h₀:=X.base) I.ok.mod.LV J.kp (bY (ha pos b n σ p _ d q) λus D ⟨vs,G,i,r,z⟩=>⟨i.iL,?_⟩) g j;exact Cd (us:=.ref a::us) (vs:=.ref a::vs) F hr hb hd hx i (.cons rfl r) z
theorem bR(r:PE X o ta)(c:BW X.K C)(g:K9 X.K C m f)(F:aT X.prog X.w X.K X.mg X.base CX k f fd ps sp)(J:eT k X.A)(T:Binds X.K fd ps ds)(hd:Vals wV ds)(U:Passes CX X E)
 (ht:eval (.Call (.Attribute o m apos) [] [] pos) X.env=(do
   let j <-eval o X.env
   standAt apos.atName
   let (f,first) <-holding [j] (wfO j m pl)
   callWith pos f first (backTo pos (starEach [] X.env)) (backToKw pos (wdC [] X.env))):=by rfl) :
 PE X (.Call (.Attribute o m apos) [] [] pos) (M0 C m sp wV E ta GY):=by
 intro b s σ H Q I h;refine wej (pl:=pl) (bY (r b s σ H _ I h) λu n ⟨x,p,d,e,a,t,fs,ex,i,l,q⟩=>?_) ht;subst ex;obtain rfl:u=wam a:=e;refine uI d i c g l ?_;exact PySem.W.callWith_K0 (first:=[.ref a]) d.iL g.kp (Cd (us:=[.ref a]) (vs:=[.ref a]) F J T hd U d (.cons rfl .nil) q)
structure Mk(K:wa2)(C f:Addr):Prop where
 makes:whC K C=true
 init:wbh K (.ref C) "__init__"=some (some (.ref f))
 fn:wfm K (.ref f)=true
 kp:wcT K (.ref C)=true
theorem GZ(M:Mk X.K C f)(F:aT X.prog X.w X.K X.mg X.base CX k f fd ps sp)(l:eT (k+1) X.A)(J:Binds X.K fd ps ds)(hd:Vals wV ds)
 (T:Passes CX X E) (I:Inv X g σ H s) (r:Vals vs us)
 (h:∀x j,H x=none->H j=none->j≠x->sp (.ref x::(vs++wV)) (upd (upd H j (.own x)) x (.ins C j [])) (λv U=>v=.non/\Q (.ref x) U) E) :
 wpAny (model X.prog X.w) X.A (call (.ref C) us) (EP X g σ Q) X.xe s:=by
 have c:=h (s.heap.objs.size+1) s.heap.objs.size (I.b9.fresh (wc1 _)) (I.b9.fresh (waa _)) (war (wbI _));have b:=Inv.made (C:=C) I;have d:Vals (V.ref (s.heap.objs.size+1)::(vs++wV)) (wam (s.heap.objs.size+1)::(us++ds)):=.cons rfl (r.append hd)
 have hl:(wam (s.heap.objs.size+1)::us++ds).length=ps.length:=by
  have e:=d.length;rw[F.len _ _ _ _ c]at e;exact e.symm
 refine wdb (Ai (f:=f) I.iL M.makes M.init (beq_iff_eq.mp M.fn) (wcd (F.run _ X.stack _ _ ⟨wam (s.heap.objs.size+1)::us,[]⟩ (wam (s.heap.objs.size+1)::(us++ds)) _ _ E (l.make C us [])
  (b.Kb.make C us []) (J _ (wam (s.heap.objs.size+1)::us) b.iL hl) d c) λr i a=>?_))
 cases r with
 |error e=>exact T g σ _ _ e i b a
 |ok fl=>
  cases fl with
  |ret u=>
   obtain⟨v,m,n,o,p,q⟩:=b.after a;subst p;exact⟨o,⟨V.ref (s.heap.objs.size+1),m,n,rfl,q⟩⟩
  |next=>exact wb3 a
  |brk=>exact wb3 a
  |cont=>exact wb3 a
theorem nU(M:Mk X.K C f)(F:aT X.prog X.w X.K X.mg X.base CX k f fd ps sp)(l:eT (k+1) X.A)(J:Gl X x)(T:X.mg x=some (.ref C))(U:Binds X.K fd ps ds)(hd:Vals wV ds)(hx:Passes CX X E)
 (ha:PA X (e::es) t) (g:(x==("__debug__":Str))=false:=by decide) (he:starEach (e::es) X.env=(false,eval e X.env)::starEach es X.env:=by rfl) (j:(backTo pos (starEach es X.env)).any (·.1)=false:=by rfl) :
 PE X (.Call (.Name x p) (e::es) [] pos) (Py C sp wV E t):=by
 intro a s σ H Q I h;refine wbv (gW I J T ?_ g);refine wcG (h₀:=X.base) I.ok.mod.LV M.kp (bY (ha pos a s σ H _ I h) λc d ⟨i,m,b,r,q⟩=>⟨b.iL,?_⟩) he j;exact GZ M F l U hd hx b r q
end
section
variable{X:Cx}{CX:GA}{k:Nat}{f C:Addr}{fd:wad}{ps ks:List Str}{sp:Sp}{E:XK}{x m:Str}{p pos apos Yl:Pos}{e o:Expr}{es:List Expr}{kws:List wek}{te ta:TE}{t tk:TA}{nm:Option Str}
variable{g:List Value->List Value->List Value}{gV:List V->List V->List V}
end
structure uk(N P:List Str)(sc:wd8):Prop where
 kind:sc.kind=.function
 co:sc.isCoroutine=false
 gen:sc.isGenerator=false
 nd:N.Nodup
 pre:N.take P.length=P
 par:∀x∈P,sc.names.lookup x=some .local\/sc.names.lookup x=some .cell
 MY:∀y∈sc.names,y.2≠.free
theorem xS{kindOf:Str->Option wef}:∀{binds:List (Str×Value)} {m:Str->Option Value},(∀v,(x,v)∉binds)->bindL kindOf binds m x=m x
 |[],_,_=>rfl
 |(n,v)::r,m,h=>by
  unfold bindL;rw[xS λw hw=>h w (wac _ hw)];split
  ·grind
  ·rfl
theorem xT{kindOf:Str->Option wef}:∀{binds:List (Str×Value)} {m:Str->Option Value},(∀v,(x,v)∉binds)->bindC kindOf binds m x=m x
 |[],_,_=>rfl
 |(n,v)::r,m,h=>by
  unfold bindC;rw[xT λw hw=>h w (wac _ hw)];split
  ·rfl
  ·grind
theorem xU{kindOf:Str->Option wef}:∀{P:List Str} {vs:List Value} {i:Nat} {m:Str->Option Value},P.Nodup->P[i]?=some x->vs[i]?=some v->kindOf x=some .local ->
 bindL kindOf (P.zip vs) m x=some v
 |[],_,_,_,_,h,_,_=>by simp at h
 |_::_,[],_,_,_,_,h,_=>by simp at h
 |p::P,w::vs,0,m,nd,a,b,hk=>by
  simp at a b;subst a;subst b;show bindL kindOf ((p,w)::P.zip vs) m p=_;unfold bindL;rw[xS λv c=>(wbF.mp nd).1 (wfR c).1,if_pos hk];simp
 |p::P,w::vs,i+1,m,nd,a,b,hk=>by
  show bindL kindOf ((p,w)::P.zip vs) m x=_;unfold bindL;exact xU (i:=i) (wbF.mp nd).2 (by simpa using a) (by simpa using b) hk
theorem xV{kindOf:Str->Option wef}:∀{P:List Str} {vs:List Value} {i:Nat} {m:Str->Option Value},P.Nodup->P[i]?=some x->vs[i]?=some v->kindOf x≠some .local ->
 bindC kindOf (P.zip vs) m x=some v
 |[],_,_,_,_,h,_,_=>by simp at h
 |_::_,[],_,_,_,_,h,_=>by simp at h
 |p::P,w::vs,0,m,nd,a,b,hk=>by
  simp at a b;subst a;subst b;show bindC kindOf ((p,w)::P.zip vs) m p=_;unfold bindC;rw[xT λv c=>(wbF.mp nd).1 (wfR c).1,if_neg hk];simp
 |p::P,w::vs,i+1,m,nd,a,b,hk=>by
  show bindC kindOf ((p,w)::P.zip vs) m x=_;unfold bindC;exact xV (i:=i) (wbF.mp nd).2 (by grind) (by grind) hk
noncomputable def start(N:List Str)(vs:List V):St:=vs.map some++wak (N.length-vs.length) none
noncomputable def uK(CX:GA)(P:wat)(w:World)(K:wa2)(mg:Str->Option Value)(base:Heap)(N:List Str)(qual:Str)(scope:wd8)(f:Addr)(cd:Value)(A:Around)(outer:List Env)(s:Shared)(H:Hp)(E:XK):Cx where
 prog:=P
 w:=w
 K:=K
 mg:=mg
 base:=base
 A:=A.deeper (envOfC qual scope s.heap.objs.size f cd)
 N:=N
 s₀:=s
 H₀:=H
 env:=envOfC qual scope s.heap.objs.size f cd
 outer:=outer
 stack:=envOfC qual scope s.heap.objs.size f cd::outer
 ex:=[]
 calm:=true
 fn:=λ_=>true
 pn:=[]
 xe:=λe s'=>wpAny (model P w) (A.deeper (envOfC qual scope s.heap.objs.size f cd)) («leaving» (envOfC qual scope s.heap.objs.size f cd) e) (λ_ T8=>CX outer H s E e T8) (λe' T8=>CX outer H s E e' T8) s'
theorem Ak{g:wd8}{n:Nat}{x:Str}(h:g.names.lookup x=some .cell):∃c,(cellsFrom n g.names []).lookup x=some c:=by
 have q:=wg0 g.names n [] (.inl h);exact wfp.mp q
theorem F4{CX:GA}{P:wat}{w:World}{K:wa2}{mg:Str->Option Value}{base:Heap}{N ps:List Str}{g:Str}{scope:wd8}{f:Addr}{cd:Value}{A:Around}{outer:List Env}{s s1:Shared}{H:Hp}{E:XK}{us:List Value}{vs:List V}
 (S:uk N ps scope) (hd:A.handled=none) (j:Cb P w K mg base A outer s H) (hl:vs.length=ps.length) (r:Vals vs us)
 (x:InCallC s s.heap.objs.size (bindL (envOfC g scope s.heap.objs.size f cd).kindOf (ps.zip us) λ_=>none) (cellsFrom (s.heap.objs.size+1) scope.names []) (bindC (envOfC g scope s.heap.objs.size f cd).kindOf (ps.zip us) λ_=>none) s1) :
 Inv (uK CX P w K mg base N g scope f cd A outer s H E) [] (start N vs) H s1:=by
 have D:ps.length<=N.length:=by have:=congrArg wdD S.pre;rw[wai]at this;omega
 obtain⟨B,I,rfl,hk⟩:=x.done;have l:∀b:Addr,b∉(uK CX P w K mg base N g scope f cd A outer s H E).ex:=λb z=>absurd (show b∈([]:List Addr) from z) (by simp)
 refine⟨⟨j.mod,S.kind,rfl,rfl,waa _,λy z c B d=>?_,λy m=>?_,λy c _ h=>?_,λ_=>hd,Around.frames_deeper j.frames,.inr ⟨rfl,rfl⟩,λb z=>absurd z (l b),j.bs,j.GJ,λb _ _=>l b,λb z=>absurd z (l b),j.pE,j.K3⟩,
  rfl,j.bare,Un.kept hk,⟨_,x.toInCall.ns,λi y v B d J=>?_⟩,λy c h=>⟨_,x.cell y c h⟩,j.b9.fresh (waa _),λy c h=>?_,λp o=>absurd (show p∈([]:List (Addr×Obj)) from o) (by simp),j.b9.kept hk,?_⟩
 ·exact name_of_addr x.apart (wcA B) (wcA d)
 ·have m:scope.names.lookup y=some .cell\/scope.names.lookup y=some .free:=m;rcases m with m |m
  ·exact Ak m
  ·exact absurd rfl (S.MY _ (wcA m))
 ·exact wfk (x.above y c (wcA h))
 ·have hi:i<vs.length:=by
   unfold start at d
   by_cases hi:i<vs.length
   ·exact hi
   ·rw[waC (by simpa using hi)]at d;rw[List.getElem?_replicate]at d;split at d<;>cases d
  have ha:vs[i]?=some v:=by
   unfold start at d;rw[waG (by simpa using hi),wa4]at d
   cases e:vs[i]? with
   |none=>rw[e]at d;cases d
   |some a=>rw[e]at d;cases d;rfl
  obtain⟨u,C,G⟩:=r.get ha
  have o:ps[i]?=some y:=by
   rw[<-S.pre,wdN (by omega)];exact B
  have t:ps.Nodup:=by rw[<-S.pre];exact S.nd.sublist (wbk _ _)
  refine⟨u,G,?_⟩;rcases S.par y (wa8 o) with k |k
  ·exact .inl ⟨k,xU t o C k⟩
  ·obtain⟨c,e⟩:=Ak (n:=s.heap.objs.size+1) k;refine .inr ⟨.inl k,c,e,?_⟩;have q:=x.cell y c e;rw[xV t o C (by show scope.names.lookup y≠_;rw[k];decide)]at q;exact q
 ·exact j.b9.fresh (wfk (x.above y c (wcA h)))
 ·unfold start;show _=N.length;rw[wa5,wa0,waQ];omega
theorem M3{CX:GA}{P:wat}{w:World}{K:wa2}{mg:Str->Option Value}{base:Heap}{k:Nat}{f:Addr}{name g:Str}{l:Arguments}{body:List Stmt}{scope:wd8}{dV kV T pm j ct oc:Value}{an od:Option Addr}
 {U:Array (Option Value)} {N ps:List Str} {sp:Sp} (lk:K.lookup f=some ⟨oc,od,.func (wcr name g l body scope dV kV T pm an j ct),U⟩) (T9:we0 K j g=true) (S:uk N ps scope)
 (len:∀vs H Q E,sp vs H Q E->vs.length=ps.length)
 (C:∀(A:Around) (outer:List Env) (s:Shared) (H:Hp) (vs:List V) (Q:VK) (E:XK),eT k (A.deeper (envOfC g scope s.heap.objs.size f j))->sp vs H Q E ->
   ∃t,wR (uK CX P w K mg base N g scope f j A outer s H E) body t/\t {nx:=λ_ p=>Q .non p,rt:=Q} (start N vs) H) :
 aT P w K mg base CX (k+1) f (wcr name g l body scope dV kV T pm an j ct) ps sp:=by
 refine⟨len,λA outer s H args M vs Q E m h O r i=>?_⟩;have hl:=len _ _ _ _ i;have G:K.In s.heap:=h.mod.LV.keeps λb o e=>(h.bs b o e).1;have z:s.heap.NoLimit:=h.mod.nolimit.keeps λb o e=>(h.bs b o e).1
 have c:∀y∈ps.zip M,scope.names.lookup y.1=some .local\/(scope.names.lookup y.1=some .cell/\((cellsFrom (s.heap.objs.size+1) scope.names []).lookup y.1).isSome=true):=λ⟨n,v⟩ R=>by
  rcases S.par n (wfR R).1 with q |q
  ·exact .inl q
  ·exact .inr ⟨q,wg0 _ _ _ (.inl q)⟩
 refine codeAny_call_function m.depth (G _ _ lk) rfl S.co S.gen rfl (PySem.W.codeRec_of G T9) (O _ _ _ _ ?_);refine wpAny_newFunctionEnv_cells S.kind c λenv X L x=>?_;subst X;refine⟨z.keeps x.toInCall.keep,codeAny_func ?_⟩;obtain⟨t,Y,Z⟩:=C A outer s H vs Q E (m.deeper _) i;have I:Inv (uK CX P w K mg base N g scope f j A outer s H E) [] (start N vs) H L:=F4 S m.hd h hl r x;refine wba (Y [] L (start N vs) H _ I Z) (λfl B d=>?_) λe B d=>d
 have fin:∀{a:St} {p:Hp} {v:V} {u:Value},Inv (uK CX P w K mg base N g scope f j A outer s H E) [] a p B->RelV v u->Q v p->CE outer P w H s Q u B:=
  λ{a p v u} J D q=>⟨v,p,J.os,J.bare,J.base,J.b9,D,q⟩
 cases fl with
 |ret u=>
  obtain⟨v,a,p,J,D,q⟩:=d;exact fin J D q
 |next=>
  obtain⟨a,p,J,q⟩:=d;exact fin (v:=V.non) (u:=wbA) J rfl q
 |brk=>
  obtain⟨_,_,_,q⟩:=d;exact wb3 q
 |cont=>
  obtain⟨_,_,_,q⟩:=d;exact wb3 q
section
variable{X:Cx}{x:Str}{p pos:Pos}{e:Expr}{es:List Expr}{t:TA}{id T:String}{r:List V->Hp->VK->Prop}
def VM(r:List V->Hp->VK->Prop)(t:TA):TE:=λσ H Q=>t σ H λvs H1=>r vs H1 Q
theorem aC(hc:eN X (.builtin id) r)(l:Gl X x)(C:X.mg x=none)(J:waX x=some (.builtin id))(ha:PA X (e::es) t)(hn:x≠"__name__":=by decide)(g:(x==("__debug__":Str))=false:=by decide)
 (U:starEach (e::es) X.env=(false,eval e X.env)::starEach es X.env:=by rfl) (j:(backTo pos (starEach es X.env)).any (·.1)=false:=by rfl):PE X (.Call (.Name x p) (e::es) [] pos) (VM r t):=by
 intro a s σ H Q I h;refine wbv (gE I l C J ?_ hn g);exact weu (bY (ha pos a s σ H _ I h) λb c ⟨d,f,i,k,m⟩=>hc a c σ f d b Q i k m) U j
theorem bp(hc:eN X (.type T) r)(l:Gl X x)(C:X.mg x=none)(J:waX x=some (.type T))(ha:PA X (e::es) t)(hn:x≠"__name__":=by decide)(g:(x==("__debug__":Str))=false:=by decide)
 (U:starEach (e::es) X.env=(false,eval e X.env)::starEach es X.env:=by rfl) (j:(backTo pos (starEach es X.env)).any (·.1)=false:=by rfl):PE X (.Call (.Name x p) (e::es) [] pos) (VM r t):=by
 intro a s σ H Q I h;refine wbv (gE I l C J ?_ hn g);exact wbr (bY (ha pos a s σ H _ I h) λb c ⟨d,f,i,k,m⟩=>hc a c σ f d b Q i k m) U j
end
end L2
namespace HT
open PySem PyProof.Rows
section
open PySem.SeqAt
open PySem.AutoSeq1 (wpAny_loadPart')
open PySem.MeetsSeq PySem.MeetsSeq2 PySem.MeetsSeq3
end
section
variable{prog:wat}{w:World}{A:Around}{E:Value->Shared->Prop}{s:Shared}
noncomputable def Al(n d:Nat):Option Int->Nat
 |none=>d
 |some v=>if v<0 then(v+(n:Int)).toNat else min v.toNat n
theorem Kc(n d k:Nat):Al n d (some (k:Int))=min k n:=by
 show (if (k:Int)<0 then((k:Int)+(n:Int)).toNat else min (k:Int).toNat n)=min k n;rw[if_neg (by omega),waF]
end
end HT
namespace L2
open PySem PySem.Spec PyProof.Rows
noncomputable abbrev TO:=St->Hp->(Option Int->Hp->Prop)->Prop
def PO(X:Cx)(e:Option Expr)(t:TO):Prop:=
 ∀(pins:List (Addr×Obj)) (s:Shared) (σ:St) (H:Hp) (Q:Option Int->Hp->Prop),Inv X pins σ H s->t σ H Q ->
  wpAny (model X.prog X.w) X.A (evalPart e X.env) (λu s'=>∃o H',Inv X pins σ H' s'/\IsPart u o/\Q o H') X.xe s
noncomputable def Kd:TO:=λ_ H Q=>Q none H
inductive Ym(x:V)(H:Hp)(Q:Option Int->Hp->Prop):Prop
 |mk (i) (_:x=.int i) (_:Q (some i) H)
noncomputable def Pz(t:TE):TO:=λσ H Q=>t σ H λx H1=>Ym x H1 Q
section
variable{X:Cx}{e:Expr}{te:TE}{lo hi:Option Expr}{tl th:TO}{pos p2:Pos}
theorem gY:PO X none Kd:=by
 intro a s σ H Q I h;rw[evalPart_none];exact waz ⟨none,H,I,.none,h⟩
theorem bN(h:PE X e te):PO X (some e) (Pz te):=by
 intro a s σ H Q I hw;rw[evalPart_some];refine bY (h a s σ H _ I hw) λu g ⟨x,b,c,d,f⟩=>?_;obtain⟨i,rfl,q⟩:=f;obtain⟨t,rfl⟩:=d;exact⟨some i,b,c,.int i t,q⟩
def Ta(X:Cx)(r:V->Option Int->Option Int->Hp->VK->Prop):Prop:=
 ∀(pins:List (Addr×Obj)) (s:Shared) (σ:St) (H:Hp) (x:V) (v vl vu:Value) (lo hi:Option Int) (sl:Addr) (Q:VK),Inv X pins σ H s->RelV x v->s.heap.IsSliceOf sl vl vu .none->IsPart vl lo->IsPart vu hi->r x lo hi H Q ->
  ∃T id,wfe (.type T) "__getitem__"=pure (some (.builtin id))/\s.TypeIs v T/\wpAny (model X.prog X.w) X.A (getItem v (.ref sl)) (EP X pins σ Q) X.xe s
def Yn(r:V->Option Int->Option Int->Hp->VK->Prop)(te:TE)(tl th:TO):TE:=λσ H Q=>te σ H λx H1=>tl σ H1 λl H2=>th σ H2 λu H3=>r x l u H3 Q
theorem cu{r:V->Option Int->Option Int->Hp->VK->Prop}(j:Ta X r)(p:PE X e te)(hl:PO X lo tl)(t:PO X hi th):PE X (.Subscript e (.Slice lo hi none p2) pos) (Yn r te tl th):=by
 intro a s σ H Q I h;refine Subscript_ (bY (p a s σ H _ I h) λv i ⟨x,k,m,n,o⟩=>?_);refine wpAny_Slice (bY (hl a i σ k _ m o) λd y ⟨l,z,B,pl,C⟩=>bY (t a y σ z _ B C) λf c ⟨u,g,D,E,G⟩=>?_);rw[evalPart_none];refine waz ?_;have J:Inv X a σ g {c with heap:=c.heap.push {cls:=.type "slice",data:=.fields #[d,f,.none]}}:=D.kept (t':=c.toks) λb ob q=>wa9 _ q;obtain⟨T,id,L,M,N⟩:=j a {c with heap:=c.heap.push {cls:=.type "slice",data:=.fields #[d,f,.none]}} σ g x v d f l u c.heap.objs.size Q J n (Heap.IsSliceOf.new ..) pl E G;show wpAny (model X.prog X.w) X.A (wgF e (.Slice lo hi none p2) v (.ref c.heap.objs.size)) (EP X a σ Q) X.xe {c with heap:=c.heap.push {cls:=.type "slice",data:=.fields #[d,f,.none]}};exact tail_any (ops:=[.ref c.heap.objs.size,v]) M L N (by with_unfolding_all rfl)
noncomputable def mw(xs:List V)(lo hi:Option Int):List V:=(xs.drop (HT.Al xs.length 0 lo)).take (HT.Al xs.length xs.length hi-HT.Al xs.length 0 lo)
theorem Am(xs:List V)(lo hi:Option Int):(mw xs lo hi).length<=xs.length:=by
 unfold mw;rw[wai,wbp];omega
end
noncomputable def DX(n:Nat)(i:Int):Option Nat:=if 0<=i then(if i<n then some i.toNat else none) else if -(n:Int)<=i then some (i+n).toNat else none
noncomputable def z4{α:Type}(xs:List α)(i:Int):Option α:=(DX xs.length i).bind λj=>xs[j]?
theorem DY(h:DX n i=some j):seqIndex? i n=some j/\j<n/\-(n:Int)<=i/\i<n:=by
 unfold DX at h
 by_cases h0:0<=i
 ·rw[if_pos h0]at h
  by_cases a:i<n
  ·rw[if_pos a]at h;have e:i.toNat=j:=wae h;exact⟨by rw[whk h0 a,e],by omega,by omega,a⟩
  ·rw[if_neg a]at h;cases h
 ·rw[if_neg h0]at h
  by_cases a:-(n:Int)<=i
  ·rw[if_pos a]at h;have e:(i+n).toNat=j:=wae h;exact⟨by rw[seqIndex_neg (by omega) a,e],by omega,a,by omega⟩
  ·rw[if_neg a]at h;cases h
theorem z5{α:Type}{xs:List α}{i:Int}{v:α}(h:z4 xs i=some v):∃j,seqIndex? i xs.length=some j/\xs[j]?=some v/\j<xs.length/\-(xs.length:Int)<=i/\i<xs.length:=by
 unfold z4 at h
 cases e:DX xs.length i with
 |none=>rw[e]at h;cases h
 |some j=>
  rw[e]at h;obtain⟨a,b,c,d⟩:=DY e;exact⟨j,a,h,b,c,d⟩
theorem bO{α:Type}{xs:List α}{j:Nat}{v:α}(h:xs[j]?=some v):z4 xs (j:Int)=some v:=by
 have a:j<xs.length:=(wa6.mp h).1
 have e:DX xs.length (j:Int)=some j:=by
  unfold DX;rw[if_pos (by omega),if_pos (by omega)];simp
 unfold z4;rw[e];exact h
theorem Hc{α:Type}(xs:List α)(v:α):z4 (xs++[v]) (-1)=some v:=by
 have hl:(xs++[v]).length=xs.length+1:=by simp
 have e:DX (xs++[v]).length (-1)=some xs.length:=by
  unfold DX;rw[hl,if_neg (by decide),if_pos (by omega)];congr 1;omega
 unfold z4;rw[e];show (xs++[v])[xs.length]?=some v;simp
def Ke(b:Expr):Prop:=∀o i,wg1 b false o i=operate [o,i] (getItem o i)
def OB(X:Cx)(r:R2):Prop:=
 ∀(value slice:Expr) (pins:List (Addr×Obj)) (s:Shared) (σ:St) (H:Hp) (x y:V) (v u:Value) (Q:VK),Inv X pins σ H s->RelV x v->RelV y u->r x y H Q ->
  wg1 slice false v u=operate [v,u] (getItem v u)->wpAny (model X.prog X.w) X.A (wgF value slice v u) (EP X pins σ Q) X.xe s
def M4(X:Cx)(id:String)(r:V->List V->Hp->VK->Prop):Prop:=
 ∀(pins:List (Addr×Obj)) (s:Shared) (σ:St) (H:Hp) (x:V) (xs:List V) (v:Value) (us:List Value) (Q:VK),Inv X pins σ H s->RelV x v->Vals xs us->r x xs H Q ->
  wpAny (model X.prog X.w) X.A (call (.builtin id) (v::us)) (EP X pins σ Q) X.xe s
section
variable{X:Cx}{a b:Expr}{ta tb:TE}{pos:Pos}
theorem b8(g:OB X r)(ha:PE X a ta)(j:PE X b tb)(hs:Ke b):PE X (.Subscript a b pos) (RH r ta tb):=by
 intro c s σ H Q I h;exact Subscript_ (MV ha j I h λv u d x y e f i k q=>g a b c d σ e x y v u Q f i k q (hs _ _))
inductive PB(K:wa2)(x y:V)(H:Hp)(Q:VK):Prop
 |mk (p xs i v) (_:x=.ref p) (_:y=.int i) (_:aL K H p xs) (_:z4 xs i=some v) (_:Q v H)
inductive PD(K:wa2)(x y:V)(H:Hp)(Q:VK):Prop
 |mk (p xs i v) (_:x=.ref p) (_:y=.int i) (_:ig K H p xs) (_:z4 xs i=some v) (_:Q v H)
inductive Tb(x y:V)(H:Hp)(Q:VK):Prop
 |mk (z i c) (_:x=.str z) (_:y=.int i) (_:z.length<=sizeLine) (_:z4 z.cps.toList i=some c) (_:Q (.str ⟨#[c]⟩) H)
theorem bf:OB X (PB X.K):=by
 intro value slice a s σ H x y v u Q I k l h f;obtain⟨p,D,i,z,rfl,rfl,m,n,q⟩:=h;cases k;obtain⟨t,rfl⟩:=l;obtain⟨c,r,pl,E⟩:=I.list m;obtain⟨j,b,o,G,A,B⟩:=z5 n;obtain⟨w,g,d⟩:=r.get o;have hl:=r.length;have hn:=oN;have fin:EP X a σ Q w s:=⟨z,H,I,d,q⟩
 by_cases h0:0<=i
 ·have e:i.toNat=j:=by
   rw[whk h0 B]at b;exact wae b
  exact item_listR pl.isList h0 (by omega) (by rw[e];simpa using g) fin f
 ·have e:(i+(c.toArray.size:Int)).toNat=j:=by
   rw[seqIndex_neg (by omega) A]at b;rw[waB,<-hl];exact wae b
  exact wg2 (x:=w) pl.isList.typeIs slot_list_getitem.lookup
   (wpAny_getItem_list_neg (Q:=λr C=>r=w/\EP X a σ Q r C) pl.isList (by omega) (by rw[waB]<;>omega) (by omega) (by rw[e];simpa using g) ⟨rfl,fin⟩) f
theorem fQ:OB X (PD X.K):=by
 intro value slice a s σ H x y v u Q I c d h e;obtain⟨p,A,i,z,rfl,rfl,f,g,q⟩:=h;cases c;obtain⟨t,rfl⟩:=d;obtain⟨k,r,pl,B⟩:=I.tuple f;obtain⟨j,l,m,C,D,E⟩:=z5 g;obtain⟨w,n,b⟩:=r.get m;have hl:=r.length;have hn:=oN;have fin:EP X a σ Q w s:=⟨z,H,I,b,q⟩
 exact wg2 (x:=w) pl.typeIs slot_tuple_getitem.lookup
  (getItem_tuple (j:=j) (Q:=λr o=>r=w/\EP X a σ Q r o) pl (by omega) (by omega) (by rw[waB,<-hl];exact l) (by simpa using n) ⟨rfl,fin⟩) e
theorem Hd:OB X Tb:=by
 intro value slice a s σ H x y v u Q I b d h e;obtain⟨z,i,c,rfl,rfl,m,f,q⟩:=h;obtain⟨t,rfl⟩:=b;obtain⟨n,rfl⟩:=d;obtain⟨j,g,o,p,k,l⟩:=z5 f;have hl:z.cps.toList.length=z.length:=by simp[wdu]
 rw[hl]at g k l;have hn:=oN
 exact tail_any (typeIs_str s z t) slot_str_getitem.lookup (getItem_str (c:=c) (by
  grind) (by grind) ⟨.str ⟨#[c]⟩,H,I.tok _,⟨_,rfl⟩,q⟩) e
theorem Ce(g:List Value)(n j:Nat)(u:Value):wcR (·.setIfInBounds j u) {cls:=.type "list",data:=.seq g.toArray n}={cls:=.type "list",data:=.seq (g.set j u).toArray n}:=by
 simp[wcR]
theorem Inv.lst(I:Inv X j σ H s)(h:H p=some (.lst xs)) :
 ∃(g:List Value) (n:Nat),Vals xs g/\s.heap.get? p=some {cls:=.type "list",data:=.seq g.toArray n}/\xs.length<=sizeLine:=by
 obtain⟨z,g,n,r,e⟩:=I.b9 p _ h;exact⟨g,n,r,e,z⟩
theorem Inv.MZ{g:List (Addr×Obj)}{σ:St}{H:Hp}{s:Shared}{p:Addr}{xs ys:List V}{j its':List Value}{n l:Nat}{f:Obj->Obj}(I:Inv X g σ H s)(h:H p=some (.lst xs))
 (J:s.heap.get? p=some {cls:=.type "list",data:=.seq j.toArray n}) (C:f {cls:=.type "list",data:=.seq j.toArray n}={cls:=.type "list",data:=.seq its'.toArray l}) (r:Vals ys its') (T:ys.length<=sizeLine) (t:Nat) :
 Inv X g σ (upd H p (.lst ys)) {s with heap:=s.heap.update p f,toks:=t}:=by
 have e:(s.heap.update p f).get? p=some {cls:=.type "list",data:=.seq its'.toArray l}:=by
  rw[wbB f J (by rw[C]<;>rfl),C]
 refine I.write (x:=p) (e:=p) (by rw[h];trivial) (.inl rfl) (λb u a q=>(waS _ _ (wbc a)).trans q) ⟨_,e⟩ ?_;exact⟨T,its',l,r,e⟩
inductive PF(o i v:V)(H:Hp)(Q:Hp->Prop):Prop
 |mk (p xs k j) (_:o=.ref p) (_:i=.int k) (_:H p=some (.lst xs)) (_:DX xs.length k=some j) (_:Q (upd H p (.lst (xs.set j v))))
theorem set_list:Pa X PF:=by
 intro a s σ H o i v B C u Q I m w x h;obtain⟨p,y,k,j,rfl,rfl,e,z,q⟩:=h;cases m;obtain⟨t,rfl⟩:=w;obtain⟨b,n,r,d,A⟩:=I.lst e;obtain⟨c,D,f,g⟩:=DY z;have hl:=r.length;have hn:=oN
 have l:Inv X a σ (upd H p (.lst (y.set j v))) {s with heap:=s.heap.update p (wcR (·.setIfInBounds j u))}:=
  I.MZ e d (Ce b n j u) (r.set x j) (by rw[wc7];exact A) s.toks
 by_cases h0:0<=k
 ·have hk:k.toNat=j:=by
   rw[whk h0 g]at c;exact wae c
  exact PySem.W.ki_setAt d h0 (by omega) (by rw[waB,<-hl];exact g) (by rw[hk];exact⟨_,l,q⟩)
 ·have hk:(k+(b.toArray.size:Int)).toNat=j:=by
   rw[seqIndex_neg (by omega) f]at c;rw[waB,<-hl];exact wae c
  exact PySem.W.ki_setBack d (by omega) (by rw[waB,<-hl];exact f) (by omega) (by rw[hk];exact⟨_,l,q⟩)
theorem z6(lo hi:Option Int)(n:Nat):(whl lo hi none n).1=((HT.Al n 0 lo:Nat):Int)/\(whl lo hi none n).2.1=((HT.Al n n hi:Nat):Int)/\(whl lo hi none n).2.2=1:=by
 have key:∀(i:Int) (d:Nat),max 0 (min (if i<0 then i+(n:Int) else i) (n:Int))=((HT.Al n d (some i):Nat):Int):=by
  intro i d
  by_cases h:i<0<;>simp only[HT.Al,h,if_true,if_false]<;>omega
 exact⟨by cases lo with |none=>rfl |some i=>exact key i 0,by cases hi with |none=>rfl |some i=>exact key i n,rfl⟩
theorem wW(g:List Value)(lo hi:Option Int):slicePick g.toArray lo hi none=((g.drop (HT.Al g.length 0 lo)).take (HT.Al g.length g.length hi-HT.Al g.length 0 lo)).toArray:=by
 obtain⟨a,b,c⟩:=z6 lo hi g.toArray.size;unfold slicePick;rw[a,b,c];simp only[sliceRange_one,pick_run,waB]<;>rfl
inductive Tc(K:wa2)(x:V)(lo hi:Option Int)(H:Hp)(Q:VK):Prop
 |mk (a xs) (_:x=.ref a) (_:aL K H a xs) (_:∀p,H p=none->Q (.ref p) (upd H p (.lst (mw xs lo hi))))
theorem jn:Ta X (Tc X.K):=by
 intro e s σ H x v n p lo hi sl Q I g i pl j h;obtain⟨a,c,rfl,k,q⟩:=h;cases g;obtain⟨l,r,f,m⟩:=I.list k;have d:=r.length;refine⟨"list",_,slot_list_getitem.lookup,f.isList.typeIs,?_⟩;refine wpAny_getItem_list_slice f.isList i pl j .none (by simp) ?_ (by grind);rw[wW,<-d];refine⟨.ref s.heap.objs.size,_,I.laid (t':=s.toks) (o:=.lst (mw c lo hi)) (λb ob q=>wa9 _ q) (waa _) ?_,rfl,q _ (I.b9.fresh (waa _))⟩;exact⟨wal (Am c lo hi) m,_,0,(r.drop (HT.Al c.length 0 lo)).take (HT.Al c.length c.length hi-HT.Al c.length 0 lo),wav _ rfl⟩
noncomputable def eO:V->Bool
 |.non=>true
 |.bl _=>true
 |.int _=>true
 |.str _=>true
 |_=>false
noncomputable def rp:V->V->Bool
 |.non,.non=>true
 |.bl a,.bl b=>a==b
 |.bl a,.int b=>(if a then 1 else 0)==b
 |.int a,.bl b=>a==(if b then 1 else 0)
 |.int a,.int b=>a==b
 |.str a,.str b=>a==b
 |_,_=>false
theorem z7(j:RelV y u)(g:RelV x v)(p:eO y=true)(l:eO x=true):SeqAt.EqAt A s u v (rp y x):=by
 cases y with
 |non=>
  cases j
  cases x with
  |non=>cases g;exact SeqAt.EqAt.same _
  |bl b=>cases g;exact SeqAt.EqAt.none_bool b
  |int b=>obtain⟨t,rfl⟩:=g;exact SeqAt.EqAt.none_int b t
  |str b=>obtain⟨t,rfl⟩:=g;exact SeqAt.EqAt.none_str b t
  |_=>exact absurd (show false=true from l) wap
 |bl a=>
  cases j
  cases x with
  |non=>cases g;exact SeqAt.EqAt.bool_none a
  |bl b=>cases g;exact SeqAt.EqAt.bool_bool a b
  |int b=>obtain⟨t,rfl⟩:=g;exact SeqAt.EqAt.bool_int a b t
  |str b=>obtain⟨t,rfl⟩:=g;exact SeqAt.EqAt.bool_str a b t
  |_=>exact absurd (show false=true from l) wap
 |int a=>
  obtain⟨c,rfl⟩:=j
  cases x with
  |non=>cases g;exact SeqAt.EqAt.int_none a c
  |bl b=>cases g;exact SeqAt.EqAt.int_bool a c b
  |int b=>obtain⟨t,rfl⟩:=g;exact wgg a c b t
  |str b=>obtain⟨t,rfl⟩:=g;exact wgQ a c b t
  |_=>exact absurd (show false=true from l) wap
 |str a=>
  obtain⟨c,rfl⟩:=j
  cases x with
  |non=>cases g;exact SeqAt.EqAt.str_none a c
  |bl b=>cases g;exact SeqAt.EqAt.str_bool a c b
  |int b=>obtain⟨t,rfl⟩:=g;exact wgR a c b t
  |str b=>obtain⟨t,rfl⟩:=g;exact wgh a c b t
  |_=>exact absurd (show false=true from l) wap
 |_=>exact absurd (show false=true from p) wap
noncomputable def Cg(x:V)(u:Value):Bool:=match u with
 |.none=>rp .non x
 |.bool b=>rp (.bl b) x
 |.int i _=>rp (.int i) x
 |.str z _=>rp (.str z) x
 |_=>false
theorem He(r:RelV y u)(f:eO y=true):Cg x u=rp y x:=by
 cases y with
 |non=>cases r;rfl
 |bl b=>cases r;rfl
 |int i=>obtain⟨t,rfl⟩:=r;rfl
 |str z=>obtain⟨t,rfl⟩:=r;rfl
 |_=>exact absurd (show false=true from f) wap
theorem pI:∀{xs:List V} {us:List Value},Vals xs us->xs.all eO=true->us.any (Cg x)=xs.any λy=>rp y x
 |_,_,.nil,_=>rfl
 |y::xs,u::us,.cons r t,f=>by
  rw[weZ,wbU]at f;rw[wd5,wd5,He r f.1,pI t f.2]
theorem mx(g:RelV x v)(j:eO x=true):∀{xs:List V} {us:List Value},Vals xs us->xs.all eO=true->∀u∈us,SeqAt.EqAt A s u v (Cg x u)
 |_,_,.nil,_=>λu a=>by cases a
 |y::xs,u::us,.cons r t,f=>λb a=>by
  rw[weZ,wbU]at f;rcases waH.mp a with rfl |a
  ·rw[He r f.1];exact z7 r g f.1 j
  ·exact mx g j t f.2 b a
noncomputable def pJ(x:V)(xs:List V):Bool:=xs.any λy=>rp y x
inductive RK(K:wa2)(neg:Bool)(x y:V)(H:Hp)(Q:VK):Prop
 |mk (p xs) (_:y=.ref p) (_:(aL K H p xs\/ig K H p xs)) (_:eO x=true) (_:xs.all eO=true) (_:Q (.bl (if neg then !pJ x xs else pJ x xs)) H)
theorem rq:nT X (wbm .In) (RK X.K false):=by
 intro c s σ H x y v u Q I d f h;obtain⟨p,i,rfl,b,e,fs,q⟩:=h;cases f;rcases b with b |b
 ·obtain⟨a,r,pl,g⟩:=I.list b;refine SeqAt.in_listAt (Cg x) pl.isList (λw hw=>mx d e r fs w (by grind)) ⟨.bl _,H,I,rfl,?_⟩;rw[show a.toArray.any (Cg x)=a.any (Cg x) by simp,pI r fs];exact q
 ·obtain⟨a,r,pl,g⟩:=I.tuple b;refine SeqAt.in_tupleAt (Cg x) pl (λw hw=>mx d e r fs w (by grind)) ⟨.bl _,H,I,rfl,?_⟩;rw[show a.toArray.any (Cg x)=a.any (Cg x) by simp,pI r fs];exact q
theorem ku:nT X (wbm .NotIn) (RK X.K true):=by
 intro c s σ H x y v u Q I d f h;obtain⟨p,i,rfl,b,e,fs,q⟩:=h;cases f;rcases b with b |b
 ·obtain⟨a,r,pl,g⟩:=I.list b;refine SeqAt.notIn_listAt (Cg x) pl.isList (λw hw=>mx d e r fs w (by grind)) ⟨.bl _,H,I,rfl,?_⟩;rw[show a.toArray.any (Cg x)=a.any (Cg x) by simp,pI r fs];exact q
 ·obtain⟨a,r,pl,g⟩:=I.tuple b;refine SeqAt.notIn_tupleAt (Cg x) pl (λw hw=>mx d e r fs w (by grind)) ⟨.bl _,H,I,rfl,?_⟩;rw[show a.toArray.any (Cg x)=a.any (Cg x) by simp,pI r fs];exact q
theorem z8:nT X (wbm .NotIn) (λx y H Q=>∃i j,x=.str i/\y=.str j/\Q (.bl (!(!(wd0 j i 0 j.length 1).isEmpty))) H):=by
 intro a s σ H x y v u Q I b c h;obtain⟨i,j,rfl,rfl,q⟩:=h;obtain⟨t,rfl⟩:=b;obtain⟨d,rfl⟩:=c;exact notIn_str ⟨.bl _,H,I,rfl,q⟩
theorem b4:eN X (.builtin "len") (λxs H Q=>∃p ys,xs=[.ref p]/\(aL X.K H p ys\/ig X.K H p ys)/\Q (.int ys.length) H):=by
 intro e s σ H xs i Q I r h;obtain⟨p,ys,rfl,a,q⟩:=h;obtain⟨u,rfl,f⟩:=vals1 r;cases f;have hn:=oN;rcases a with a |a
 ·obtain⟨c,d,pl,g⟩:=I.list a;have b:=d.length;exact weH pl.isList (by grind) ⟨.int ys.length,H,I.tok _,⟨s.toks+1,by grind⟩,q⟩
 ·obtain⟨c,d,pl,g⟩:=I.tuple a;have b:=d.length;exact len_tuple pl (by grind) ⟨.int ys.length,H,I.tok _,⟨s.toks+1,by grind⟩,q⟩
theorem bC:eN X (.builtin "len") (λxs H Q=>∃z,xs=[.str z]/\z.length<=sizeLine/\Q (.int z.length) H):=by
 intro a s σ H xs b Q I r h;obtain⟨z,rfl,c,q⟩:=h;obtain⟨u,rfl,t,rfl⟩:=vals1 r;have hn:=oN;exact len_str (by omega) ⟨.int z.length,H,I.tok _,⟨_,rfl⟩,q⟩
theorem cK:eN X (.type "list") (λxs H Q=>∃p ys,xs=[.ref p]/\(aL X.K H p ys\/ig X.K H p ys)/\∀l,H l=none->Q (.ref l) (upd H l (.lst ys))):=by
 intro g s σ H xs x Q I r h;obtain⟨p,ys,rfl,i,q⟩:=h;obtain⟨u,rfl,v⟩:=vals1 r;cases v
 have fin:∀(a:List Value),Vals ys a->ys.length<=sizeLine->∀(c:Heap) (d:Nat),(∀b t,s.heap.get? b=some t->c.get? b=some t) ->
  c.get? s.heap.objs.size=some {cls:=.type "list",dict:=none,data:=.seq a.toArray d,slots:=#[]}->EP X g σ Q (.ref s.heap.objs.size) {s with heap:=c}:=λa f j c d kp e=>
  ⟨.ref s.heap.objs.size,_,I.laid (t':=s.toks) kp (waa _) (show cq X.prog X.w _ c _ (.lst ys) from ⟨j,a,d,f,e⟩),rfl,q _ (I.b9.fresh (waa _))⟩
 rcases i with i |i
 ·obtain⟨a,f,pl,j⟩:=I.list i;have k:=f.length;obtain⟨o,m,hc,n,hd⟩:=pl.isList;exact call_list_seq p (.inl rfl) m hc hd (λc d kp e=>fin a f j c d kp e) (by grind)
 ·obtain⟨a,f,pl,j⟩:=I.tuple i;have k:=f.length;obtain⟨o,m,hc,n,hd⟩:=pl;exact call_list_seq p (.inr rfl) m hc hd (λc d kp e=>fin a f j c d kp e) (by grind)
def Td(K:wa2)(T:String)(x:V)(H:Hp):Prop:=match x with
 |.str _=>T="str"
 |.int _=>T="int"
 |.ref p=>(T="list"/\∃xs,aL K H p xs)\/(T="tuple"/\∃o,K.lookup p=some o/\o.cls=.type "tuple"/\o.dict=none) \/
   (T="dict"/\((∃kvs,H p=some (.dK kvs))\/∃kvs,H p=some (.dT kvs)))\/(T="set"/\∃S n,H p=some (.set S n))
 |_=>False
theorem Hf(I:Inv X g σ H s)(r:RelV x v)(ty:Td X.K T x H) :
 s.TypeIs v T/\∀a,v=.ref a->∃ob,s.heap.get? a=some ob/\ob.dict=none:=by
 cases x with
 |str z=>
  obtain⟨t,rfl⟩:=r;cases(show T="str" from ty);exact⟨typeIs_str s z t,λ_ e=>nomatch e⟩
 |int i=>
  obtain⟨t,rfl⟩:=r;cases(show T="int" from ty);exact⟨typeIs_int s i t,λ_ e=>nomatch e⟩
 |ref p=>
  cases r;rcases ty with⟨rfl,j,f⟩ |⟨rfl,o,hk,hc,hd⟩ |⟨rfl,hk⟩ |⟨rfl,S,n,hk⟩
  ·obtain⟨h,_,pl,_⟩:=I.list f;refine⟨pl.isList.typeIs,λa e=>?_⟩;cases e;obtain⟨o,n,e,c,hd,_⟩:=pl;exact⟨o,e,hd⟩
  ·refine⟨⟨o,I.iL p o hk,hc⟩,λa e=>?_⟩;cases e;exact⟨o,I.iL _ o hk,hd⟩
  ·have z:∃o,s.heap.get? p=some o/\o.ExactDict:=by
    rcases hk with⟨b,hk⟩ |⟨b,hk⟩
    ·obtain⟨_,_,_,_,o,_,_,e,ex,_⟩:=I.b9 p _ hk;exact⟨o,e,ex⟩
    ·obtain⟨_,_,_,_,o,_,_,e,ex,_⟩:=I.b9 p _ hk;exact⟨o,e,ex⟩
   obtain⟨o,e,ex⟩:=z;refine⟨⟨o,e,ex.1⟩,λa d=>?_⟩;cases d;exact⟨o,e,ex.2.1⟩
  ·obtain⟨o,_,_,_,e,ex,_⟩:=I.b9 p _ hk;refine⟨⟨o,e,ex.1⟩,λa d=>?_⟩;cases d;exact⟨o,e,ex.2.1⟩
 |_=>exact wb3 ty
def PH(K:wa2)(T:String)(r:V->List V->Hp->VK->Prop)(to:TE):TE:=λσ H Q=>to σ H λx H1=>Td K T x H1/\r x [] H1 Q
def VN(K:wa2)(T:String)(r:V->List V->Hp->VK->Prop)(to:TE)(t:TA):TE:=λσ H Q=>to σ H λx H1=>Td K T x H1/\t σ H1 λxs H2=>r x xs H2 Q
variable{o e:Expr}{es:List Expr}{to:TE}{t:TA}{name:Str}{apos fg:Pos}{T id:String}{r:V->List V->Hp->VK->Prop}
theorem Hg(p:wgv T)(slot:Slot T name id)(l:typeOf (.builtin id)=pure (.type "method_descriptor"))(C:M4 X id r)(J:PE X o to)
 (g:wcw o name X.env (eval o X.env)=eval o X.env:=by rfl) (j:(apos.endLine==fg.line)=true:=by rfl):PE X (.Call (.Attribute o name apos) [] [] fg) (PH X.K T r to):=by
 intro a s σ H Q I h;refine wpAny_Call_method0_late g j (bY (J a s σ H _ I h) λv d ⟨x,e,b,c,ty,f⟩=>?_);obtain⟨i,k⟩:=Hf b c ty;exact⟨T,id,p,slot,l,i,k,wdk rfl (PySem.evalArgs_none (C a d σ e x [] v [] Q b c .nil f))⟩
theorem iZ(J:wgv T)(slot:Slot T name id)(C:typeOf (.builtin id)=pure (.type "method_descriptor"))(U:M4 X id r)(ho:PE X o to)(ha:PA X (e::es) t)
 (j:wcw o name X.env (eval o X.env)=eval o X.env:=by rfl)
 (p:((backTo fg (starEach (e::es) X.env)).all (λx=>!x.1)&&(backToKw fg (wdC [] X.env)).all (λx=>x.1.isSome)
   && decide ((e::es).length+([]:List wek).length+(if ([]:List wek).isEmpty then 0 else 1)<30))=true:=by rfl)
 (l:(apos.endLine==fg.line)=true:=by rfl) (hs:starEach (e::es) X.env=(false,eval e X.env)::starEach es X.env:=by rfl) (g:(backTo fg (starEach es X.env)).any (·.1)=false:=by rfl) :
 PE X (.Call (.Attribute o name apos) (e::es) [] fg) (VN X.K T r to t):=by
 intro a s σ H Q I h;refine wpAny_Call_method_late j p l rfl (bY (ho a s σ H _ I h) λv f ⟨x,i,b,c,ty,k⟩=>?_);obtain⟨m,n⟩:=Hf b c ty;refine⟨T,id,J,slot,C,m,n,?_⟩;have d:=ha fg a f σ i _ b k;rw[hs]at d ⊢;refine wdk (by show (false ||(backTo fg (starEach es X.env)).any (·.1))=false;rw[g]<;>rfl) (wev ?_);exact bY d λq u ⟨w,y,z,A,B⟩=>U a u σ y x w v q Q z c A B
end
def VO(X:Cx)(id:String)(r:V->List V->Hp->VK->Prop):Prop:=
 ∀(pins:List (Addr×Obj)) (s:Shared) (σ:St) (H:Hp) (x:V) (xs:List V) (v:Value) (us:List Value) (Q:VK),Inv X pins σ H s->RelV x v->Vals xs us->r x xs H Q ->
  wpAny (model X.prog X.w) X.A (call (.builtin id) (v::us)) (EP X pins σ Q) X.xe s
theorem Vals.one:∀{x:V} {us:List Value},Vals [x] us->∃u,us=[u]/\RelV x u
 |_,_,.cons r .nil=>⟨_,rfl,r⟩
theorem Vals.zero:∀{us:List Value},Vals [] us->us=[]
 |_,.nil=>rfl
theorem Vals.dropLast(h:Vals xs us):Vals xs.dropLast us.dropLast:=by
 induction h with
 |nil=>exact .nil
 |cons r t a=>
  cases t with
  |nil=>exact .nil
  |cons q b=>exact .cons r a
theorem Vals.rep(h:Vals xs us):∀k:Nat,Vals (wak k xs).flatten (wak k us).flatten
 |0=>.nil
 |k+1=>by
  rw[wcB,wcB,wc5,wc5];exact Vals.append h (Vals.rep h k)
theorem foldl_rep(g:List Value):∀(k:Nat) (j:List Value),
 whD (λl p=>l++p) j.toArray (wak k g.toArray)=(j++(wak k g).flatten).toArray
 |0,j=>by simp
 |k+1,j=>by
  have e:j.toArray++g.toArray=(j++g).toArray:=by simp
  have a:(j++g)++(wak k g).flatten=j++(wak (k+1) g).flatten:=by
   grind
  rw[<-a,<-foldl_rep g k (j++g),<-e,wcB,wdF]
section
variable{X:Cx}{pins:List (Addr×Obj)}{σ:St}{H:Hp}{s:Shared}{l b:Addr}{xs ys zs:List V}
theorem Inv.PK{g its':List Value}{n:Nat}{f:Array Value->Array Value}{t':Nat}(I:Inv X pins σ H s)(j:H l=some (.lst xs))
 (e:s.heap.get? l=some {cls:=.type "list",data:=.seq g.toArray n}) (p:f g.toArray=its'.toArray) (r:Vals ys its') (t:ys.length<=sizeLine) :
 Inv X pins σ (upd H l (.lst ys)) {s with heap:=s.heap.update l (wcR f),toks:=t'}:=by
 have q:=PySem.IsL.update e f;rw[p]at q;refine I.write (x:=l) (e:=l) (by rw[j];exact trivial) (.inl rfl) (λc u a b=>(waS s.heap (wcR f) (wbc a)).trans b) ⟨_,q⟩ ?_;exact⟨t,its',_,r,q⟩
theorem Inv.N0(I:Inv X pins σ H s)(j:Vals ys g)(p:ys.length<=sizeLine) :
 Inv X pins σ (upd H s.heap.objs.size (.lst ys)) {s with heap:=s.heap.push {cls:=.type "list",data:=.seq g.toArray},toks:=t'}:=
 I.laid (λ_ _ q=>wa9 _ q) (waa _) ⟨p,g,0,j,wav _ rfl⟩
theorem Inv.fresh(I:Inv X pins σ H s):H s.heap.objs.size=none:=I.b9.fresh (waa _)
theorem Inv.Hh(I:Inv X pins σ H s)(j:H l=some (.lst xs)):xs.length<=sizeLine/\∃(g:List Value) (n:Nat),Vals xs g/\xs.length=g.length/\s.heap.get? l=some {cls:=.type "list",data:=.seq g.toArray n}:=by
 obtain⟨z,g,n,r,e⟩:=I.b9 l _ j;exact⟨z,g,n,r,r.length,e⟩
theorem Hi(h:n<=sizeLine):wdO n=false:=by grind [wdO,decide_eq_false]
end
section
variable{X:Cx}
inductive Kf(x:V)(vs:List V)(H:Hp)(Q:VK):Prop
 |mk (l xs y) (_:x=.ref l) (_:vs=[y]) (_:H l=some (.lst xs)) (_:xs.length<sizeLine) (_:Q .non (upd H l (.lst (xs++[y]))))
theorem cP:VO X "list.append" Kf:=by
 intro b s σ H x i v j Q I d f h;obtain⟨l,k,y,rfl,rfl,c,m,q⟩:=h;cases d;obtain⟨u,rfl,g⟩:=f.one;obtain⟨z,a,n,r,hl,e⟩:=I.Hh c;refine wew waV ⟨_,e,rfl⟩ F.entry_list_append (F.args_list_append_2 _ _) (PySem.list_append l a.toArray n u (by grind)) ⟨e,?_⟩;refine⟨.non,_,I.PK (its':=a++[u]) c e (by simp) (r.append (.cons g .nil)) ?_,rfl,q⟩;rw[wa5,wcj];omega
inductive Te(x:V)(vs:List V)(H:Hp)(Q:VK):Prop
 |mk (l xs y) (_:x=.ref l) (_:vs=[]) (_:H l=some (.lst xs)) (_:xs[xs.length-1]?=some y) (_:Q y (upd H l (.lst xs.dropLast)))
theorem N1:VO X "list.pop" Te:=by
 intro d s σ H x m v o Q I g i h;obtain⟨l,p,y,rfl,rfl,f,j,q⟩:=h;cases g;have b:=i.zero;subst b;obtain⟨z,a,n,r,hl,e⟩:=I.Hh f;obtain⟨u,t,k⟩:=r.get j
 have c:a.toArray[a.toArray.size-1]?=some u:=by
  grind
 refine wew wgW ⟨_,e,rfl⟩ F.entry_list_pop (F.args_list_pop_1 _) (MeetsSeq.list_pop_last l a.toArray n u c (by grind)) ⟨e,?_⟩;refine⟨y,_,I.PK (its':=a.dropLast) f e ?_ r.dropLast ?_,k,q⟩
 ·grind
 ·grind
inductive Tf(x y:V)(H:Hp)(Q:VK):Prop
 |mk (l b xs zs) (_:x=.ref l) (_:y=.ref b) (_:H l=some (.lst xs)) (_:H b=some (.lst zs)) (_:xs.length+zs.length<=sizeLine) (_:∀p,H p=none->Q (.ref p) (upd H p (.lst (xs++zs))))
theorem Hj:nT X (binaryOp .Add) Tf:=by
 intro d s σ H x y v u Q I f g h;obtain⟨l,b,t,w,rfl,rfl,i,j,A,q⟩:=h;cases f;cases g;obtain⟨z,c,n,r,hl,e⟩:=I.Hh i;obtain⟨B,a,C,k,m,o⟩:=I.Hh j;refine whs e o ?_ (by rw[waB,waB];omega);have p:c.toArray++a.toArray=(c++a).toArray:=by simp
 rw[p];exact⟨.ref _,_,I.N0 (t':=s.toks) (r.append k) (by rw[wa5];omega),rfl,q _ I.fresh⟩
inductive Tg(x y:V)(H:Hp)(Q:VK):Prop
 |mk (l k xs) (_:x=.ref l) (_:y=.int k) (_:H l=some (.lst xs)) (_:-(2^63)<=k) (_:k<2^63) (_:xs.length*k.toNat<=sizeLine) (_:∀p,H p=none->Q (.ref p) (upd H p (.lst (wak k.toNat xs).flatten)))
theorem Kg{α:Type}(xs:List α)(k:Nat):(wak k xs).flatten.length=k*xs.length:=by simp_all [wcB,wc5,wa5,Nat.succ_mul,wgX]
theorem Hk:nT X (binaryOp .Mult) Tg:=by
 intro p s σ H x y v u Q I A B h;obtain⟨l,k,L,rfl,rfl,C,D,E,w,q⟩:=h;cases A;obtain⟨t,rfl⟩:=B;obtain⟨z,b,n,r,hl,e⟩:=I.Hh C;have d:b.toArray.size*k.toNat<=sizeLine:=by rw[waB,<-hl];exact w
 have f:¬b.toArray.size*k.toNat>(2^63-1)/8:=by
  have:(sizeLine:Nat)<=(2^63-1)/8:=by decide
  omega
 have g:¬(!Builtin.List.listFitsIndex k)=true:=by
  rw[fitsIndex_both D E];exact wap
 have c:¬wdO (b.toArray.size*k.toNat)=true:=by
  rw[Hi d];exact wap
 have i:whD (λj o=>j++o) #[] (wak (if b.toArray.isEmpty=true then 0 else k.toNat) b.toArray)=(wak k.toNat b).flatten.toArray:=by
  have G:∀m:Nat,whD (λj o=>j++o) #[] (wak m b.toArray)=(wak m b).flatten.toArray:=λm=>by
   grind [foldl_rep]
  rw[G]
  cases b with
  |nil=>simp
  |cons a M=>grind
 refine wpAny_binaryOp_repeat_ref (T:="list") (U:="int") (by decide) ⟨_,e,rfl⟩ (λJ=>typeIs_int J k t) noFill_list_mul F.fills_int_mul F.slot_int_rmul repeat_list F.slot_int_index.lookup
  (wew F.slot_int_rmul (typeIs_int s k t) F.entry_int_rmul (F.args_int_rmul_2 _ _) (int___rmul___int_list k t l b.toArray n)
    ⟨e,rfl,⟨_,e,rfl⟩,wew F.slot_list_mul ⟨_,e,rfl⟩ F.entry_list_mul (F.args_list_mul_2 _ _) (AutoListH.list___mul___list_int_3 l b.toArray n k t g f c) ⟨e,?_⟩⟩)
 rw[i];exact⟨.ref _,_,I.N0 (t':=s.toks) (r.rep k.toNat) (by rw[Kg,Nat.mul_comm];exact w),rfl,q _ I.fresh⟩
end
section
variable{prog:wat}{w:World}{A:Around}{E:Value->Shared->Prop}{s:Shared}
set_option maxRecDepth 100000 in
end
section
variable{X:Cx}
end
section
variable{κ:Type}[DecidableEq κ]
noncomputable def bE(kvs:List (κ×V))(k:κ):Option V:=(kvs.find? λkv=>decide (kv.1=k)).map (·.2)
noncomputable def putK(kvs:List (κ×V))(k:κ)(v:V):List (κ×V):=
 if (kvs.any λkv=>decide (kv.1=k))=true then kvs.map (λkv=>if kv.1=k then(kv.1,v) else kv) else kvs++[(k,v)]
theorem Hl:bE ([]:List (κ×V)) k=none:=rfl
theorem cw{p:κ×V}{r:List (κ×V)}{k:κ}(e:p.1=k):bE (p::r) k=some p.2:=by simp[bE,wdc,e]
theorem cx{p:κ×V}{r:List (κ×V)}{k:κ}(e:¬p.1=k):bE (p::r) k=bE r k:=by simp[bE,wdc,e]
theorem j2(k:κ):∀kvs:List (κ×V),(kvs.any λg=>decide (g.1=k))=(bE kvs k).isSome
 |[]=>rfl
 |p::r=>by
  rw[wd5]
  by_cases e:p.1=k
  ·simp only[cw e,decide_eq_true e,Bool.true_or,Option.isSome_some]
  ·rw[cx e,decide_eq_false e,Bool.false_or];exact j2 k r
theorem An(k j:κ)(y:V):∀kvs:List (κ×V),bE (kvs.map λg=>if g.1=k then(g.1,y) else g) j=(bE kvs j).map λx=>if j=k then y else x
 |[]=>rfl
 |p::r=>by
  have a:=An k j y r;rw[wax]
  by_cases h:p.1=k
  ·rw[if_pos h]
   by_cases e:p.1=j
   ·rw[cw (p:=(p.1,y)) e,cw e,wex,if_pos (e.symm.trans h)]
   ·rw[cx (p:=(p.1,y)) e,cx e,a]
  ·rw[if_neg h]
   by_cases e:p.1=j
   ·rw[cw (p:=p) e,cw e,wex,if_neg (λz=>h (e.trans z))]
   ·rw[cx (p:=p) e,cx e,a]
theorem xW(k j:κ)(y:V):∀kvs:List (κ×V),bE kvs k=none->bE (kvs++[(k,y)]) j=if j=k then some y else bE kvs j
 |[],_=>by
  by_cases e:k=j
  ·rw[if_pos e.symm];exact cw (p:=(k,y)) e
  ·rw[if_neg (λz=>e z.symm)];exact cx (p:=(k,y)) e
 |p::r,hn=>by
  rw[List.cons_append];have hk:¬p.1=k:=λz=>by rw[cw z]at hn;cases hn
  rw[cx hk]at hn;have a:=xW k j y r hn
  by_cases e:p.1=j
  ·rw[cw e,cw e,if_neg (λz=>hk (e.trans z))]
  ·rw[cx e,cx e,a]
theorem uL(kvs:List (κ×V))(k j:κ)(y:V):bE (putK kvs k y) j=if j=k then some y else bE kvs j:=by
 unfold putK
 by_cases a:(kvs.any λb=>decide (b.1=k))=true
 ·rw[if_pos a,An];rw[j2]at a
  by_cases e:j=k
  ·obtain⟨x,c⟩:=wfp.mp a;rw[if_pos e,e,c,wex,if_pos rfl]
  ·rw[if_neg e]
   cases bE kvs j with
   |none=>rfl
   |some x=>rw[wex,if_neg e]
 ·rw[if_neg a];refine xW k j y kvs ?_;rw[j2]at a
  cases q:bE kvs k with
  |none=>rfl
  |some x=>rw[q]at a;exact(a rfl).elim
theorem i3(kvs:List (κ×V))(k:κ)(v:V):(putK kvs k v).length<=kvs.length+1:=by
 unfold putK;split
 ·rw[wa0];omega
 ·rw[wa5,waM,wfS];omega
theorem fR{kvs:List (κ×V)}{k:κ}(v:V)(h:bE kvs k=none):putK kvs k v=kvs++[(k,v)]:=by simp_all [putK,j2,if_neg]
theorem jB.jM(r:jB o u):o.isSome=u.isSome:=by
 cases o with
 |none=>cases u with
  |none=>rfl
  |some _=>exact(show False from r).elim
 |some _=>cases u with
  |none=>exact(show False from r).elim
  |some _=>rfl
theorem jB.getD(r:jB o u)(rd:RelV d d'):RelV (o.getD d) (u.getD d'):=by
 cases o with
 |none=>cases u with
  |none=>exact rd
  |some _=>exact(show False from r).elim
 |some _=>cases u with
  |none=>exact(show False from r).elim
  |some _=>exact r
theorem KV.val{kvs:List (κ×V)}{vs:List (κ×Value)}(r:KV kvs vs)(k:κ):jB (bE kvs k) (valueAt vs k):=by
 unfold KV at r
 induction r with
 |nil=>exact wbu
 |@cons p q ps a h t f=>
  obtain⟨d,g⟩:=h
  by_cases e:p.1=k
  ·have c:q.1=k:=d.symm.trans e;have b:valueAt (q::a) k=some q.2:=by simp[valueAt,wdc,c]
   rw[cw e,b];exact g
  ·have c:¬q.1=k:=λz=>e (d.trans z);have b:valueAt (q::a) k=valueAt a k:=by simp[valueAt,wdc,c]
   rw[cx e,b];exact f
theorem KV.any{kvs:List (κ×V)}{vs:List (κ×Value)}(r:KV kvs vs)(k:κ):(kvs.any λg=>decide (g.1=k))=vs.any λg=>decide (g.1=k):=by
 unfold KV at r
 induction r with
 |nil=>rfl
 |cons h t a=>rw[wd5,wd5,a,h.1]
theorem KV.repl(r:KV kvs vs)(k:κ)(j:RelV y u) :
 KV (kvs.map λg=>if g.1=k then(g.1,y) else g) (vs.map λg=>if g.1=k then(g.1,u) else g):=by
 unfold KV at r ⊢
 induction r with
 |nil=>exact .nil
 |@cons p q ps d h t b=>
  rw[wax,wax];refine .cons ?_ b;obtain⟨a,c⟩:=h
  by_cases e:p.1=k
  ·rw[if_pos e,if_pos (a.symm.trans e)];exact⟨a,j⟩
  ·rw[if_neg e,if_neg (λz=>e (a.trans z))];exact⟨a,c⟩
theorem KV.put{kvs:List (κ×V)}{vs:List (κ×Value)}(r:KV kvs vs)(k:κ){y:V}{u:Value}(g:RelV y u):KV (putK kvs k y) (stored vs k u):=by
 unfold putK stored;rw[r.any k]
 by_cases e:(vs.any λa=>decide (a.1=k))=true
 ·rw[if_pos e,if_pos e];exact r.repl k g
 ·rw[if_neg e,if_neg e];exact Paired.snoc r ⟨rfl,g⟩
theorem KV.keys{kvs:List (κ×V)}{vs:List (κ×Value)}(r:KV kvs vs):kvs.map (·.1)=vs.map (·.1):=by
 unfold KV at r
 induction r with
 |nil=>rfl
 |cons h t a=>grind
theorem KV.length{kvs:List (κ×V)}{vs:List (κ×Value)}(r:KV kvs vs):kvs.length=vs.length:=wgE r
end
theorem sF(r:RelV (kV k) u):(bz P w).is k u=true:=by grind [RelV,kV,bz,Ac,Ad]
theorem xX:∀{g:List Key} {us:List Value},Vals (g.map kV) us->ItemsAre (bz P w) g us
 |[],_,r=>by rw[wdP]at r;cases r;exact .nil
 |k::g,_,r=>by
  rw[wax]at r
  cases r with
  |cons h t=>exact .cons (sF h) (xX t)
abbrev KT(H:Hp):List (List Key×V)->List (List Key×Addr×Value)->Prop:=Paired λp q=>p.1=q.1/\H q.2.1=some (.tup (p.1.map kV))/\RelV p.2 q.2.2
theorem KT.val{H:Hp}{kvs:List (List Key×V)}{xs:List (List Key×Addr×Value)}(r:KT H kvs xs)(k:List Key):jB (bE kvs k) ((atKey xs k).map (·.2)):=by
 induction r with
 |nil=>exact wbu
 |@cons p q ps a h t f=>
  obtain⟨d,_,g⟩:=h
  by_cases e:p.1=k
  ·have c:q.1=k:=d.symm.trans e;have b:atKey (q::a) k=some q.2:=by simp[atKey,wdc,c]
   rw[cw e,b];exact g
  ·have c:¬q.1=k:=λz=>e (d.trans z);have b:atKey (q::a) k=atKey a k:=by simp[atKey,wdc,c]
   rw[cx e,b];exact f
theorem KT.repl(r:KT H kvs xs)(k:List Key)(j:RelV y u) :
 KT H (kvs.map λg=>if g.1=k then(g.1,y) else g) (xs.map (putAt k u)):=by
 induction r with
 |nil=>exact .nil
 |@cons p q ps f h t c=>
  rw[wax,wax];refine .cons ?_ c;obtain⟨a,b,d⟩:=h;unfold putAt
  by_cases e:p.1=k
  ·rw[if_pos e,if_pos (a.symm.trans e)];exact⟨a,b,j⟩
  ·rw[if_neg e,if_neg (λz=>e (a.trans z))];exact⟨a,b,d⟩
theorem KT.put{H:Hp}{kvs:List (List Key×V)}{xs:List (List Key×Addr×Value)}(r:KT H kvs xs)(k:List Key){b:Addr}{y:V}{u:Value}(j:H b=some (.tup (k.map kV)))(g:RelV y u) :
 KT H (putK kvs k y) (storedH xs k b u):=by
 have e:(kvs.any λa=>decide (a.1=k))=(atKey xs k).isSome:=by
  rw[j2,(r.val k).jM,wf7]
 unfold putK storedH;rw[e]
 by_cases q:(atKey xs k).isSome=true
 ·rw[if_pos q,if_pos q];exact r.repl k g
 ·rw[if_neg q,if_neg q];exact Paired.snoc r ⟨rfl,j,g⟩
theorem KT.keeps(r:KT H kvs xs)(g:∀b ys,H b=some (.tup ys)->j b=some (.tup ys)):KT j kvs xs:=
 Paired.MN r λ_ _ z=>⟨z.1,g _ _ z.2.1,z.2.2⟩
section
variable{P:wat}{w:World}{H:Hp}{h:Heap}{a:Addr}
theorem M5(ok:jI P w H h)(e:Rd H a u):cq P w H h a u:=e.ok ok
theorem lP(ok:jI P w H h)(e:Rd H a (.dK kvs)):kvs.length<=sizeLine/\(a==wcP)=false/\∃vs,KV kvs vs/\h.DictOf (bz P w) a vs:=
 show cq P w H h a (.dK kvs) from M5 ok e
theorem sG(ok:jI P w H h)(e:H a=some (.dK kvs)):kvs.length<=sizeLine/\(a==wcP)=false/\∃vs,KV kvs vs/\h.DictOf (bz P w) a vs:=lP ok (.inl e)
theorem rx(ok:jI P w H h)(e:H a=some (.tup (g.map kV))):(weS (bz P w)).is h g a:=by
 obtain⟨_,b,r,o,c,d,n,f⟩:=(show cq P w H h a (.tup (g.map kV)) from ok a _ e);exact⟨o,b.toArray,n,c,d,f,by simpa using xX r⟩
theorem uM(ok:jI P w H h)(e:Rd H a (.dT kvs)):kvs.length<=sizeLine/\(a==wcP)=false /\
 ∃xs,KT H kvs xs/\h.DictOfH (weS (bz P w)) a xs:=by
 obtain⟨z,y,xs,r,o,b,c,d,f,g,i,j⟩:=(show cq P w H h a (.dT kvs) from M5 ok e);refine⟨z,y,xs,r,o,b,c,d,f,g,i,λx k=>?_,j⟩
 have all:∀{l:List (List Key×V)} {m:List (List Key×Addr×Value)},KT H l m->∀x∈m,(weS (bz P w)).is h x.1 x.2.1:=by
  intro l m q
  induction q with
  |nil=>grind
  |@cons p q ps n s t u=>
   grind [rx]
 exact all r x k
theorem PL(ok:jI P w H h)(e:H a=some (.dT kvs)):kvs.length<=sizeLine/\(a==wcP)=false /\
 ∃xs,KT H kvs xs/\h.DictOfH (weS (bz P w)) a xs:=uM ok (.inl e)
end
def eM(H:Hp)(a:Addr)(y:V)(r:Option V):Prop:=
 (∃kvs k,Rd H a (.dK kvs)/\y=kV k/\r=bE kvs k)\/∃kvs k b,Rd H a (.dT kvs)/\y=.ref b/\H b=some (.tup (k.map kV))/\r=bE kvs k
def ky(H:Hp)(a:Addr)(y v:V)(H':Hp):Prop:=
 (∃kvs k,H a=some (.dK kvs)/\y=kV k/\kvs.length<sizeLine/\H'=upd H a (.dK (putK kvs k v))) \/
 ∃kvs k b,H a=some (.dT kvs)/\y=.ref b/\H b=some (.tup (k.map kV))/\kvs.length<sizeLine/\H'=upd H a (.dT (putK kvs k v))
theorem eM.k{H:Hp}{a:Addr}{kvs:List (Key×V)}{k:Key}(e:H a=some (.dK kvs)):eM H a (kV k) (bE kvs k):=.inl ⟨kvs,k,.inl e,rfl,rfl⟩
theorem ky.k{H:Hp}{a:Addr}{kvs:List (Key×V)}{k:Key}{v:V}(e:H a=some (.dK kvs))(hl:kvs.length<sizeLine):ky H a (kV k) v (upd H a (.dK (putK kvs k v))):=.inl ⟨kvs,k,e,rfl,hl,rfl⟩
section
variable{X:Cx}{pins:List (Addr×Obj)}{σ:St}{H:Hp}{s:Shared}{a:Addr}{y v:V}{u r:Value}{o:Option V}{A:Around}{E:Value->Shared->Prop}
theorem Inv.big(I:Inv X pins σ H s):wcP<s.heap.objs.size:=by
 have h:waR<s.heap.objs.size:=(I.mod.glob.keeps I.bk).lt;exact Nat.lt_trans (by decide) h
theorem F5{Q:Value->Shared->Prop}(C:A.units+1<wcF)(I:Inv X pins σ H s)(g:eM H a y (some v))(t:RelV y u)(h:∀j s',Inv X pins σ H s'->RelV v j->Q j s') :
 wpAny (model X.prog X.w) A (getItem (.ref a) u) Q E s:=by
 rcases g with⟨d,k,e,f,l⟩ |⟨d,k,b,e,f,n,l⟩
 ·subst f;obtain⟨z,hd,q,rel,i⟩:=lP I.b9 e;obtain⟨j,hw,c⟩:=jB.yZ (v:=v) (o:=valueAt q k) (by rw[l];exact rel.val k);exact wpAny_getItem_of (sF t) i.mapOf hw (h j _ (I.tok _) c)
 ·subst f;cases(show u=wam b from t);obtain⟨z,hd,r,rel,i⟩:=uM I.b9 e;obtain⟨j,hw,c⟩:=jB.yZ (v:=v) (o:=(atKey r k).map (·.2)) (by rw[l];exact rel.val k);obtain⟨p,x,m⟩:=wdj.mp hw;refine wpAny_getItem_heap (wdd C) (rx I.b9 n) i x ?_;rw[m];exact h j _ (I.tok _) c
theorem Th{Q:Value->Shared->Prop}(p:A.units+1<wcF)(I:Inv X pins σ H s)(g:eM H a y o)(j:RelV y u)(h:∀s',Inv X pins σ H s'->Q (.bool o.isSome) s') :
 wpAny (model X.prog X.w) A (wbm .In u (.ref a)) Q E s:=by
 rcases g with⟨c,k,e,d,l⟩ |⟨c,k,b,e,d,i,l⟩
 ·subst d;obtain⟨z,hd,m,rel,f⟩:=lP I.b9 e;refine wpAny_in_of (sF j) hd f.mapOf ?_;rw[<-(rel.val k).jM,<-l];exact h _ (I.tok _)
 ·subst d;cases(show u=wam b from j);obtain⟨z,hd,n,rel,f⟩:=uM I.b9 e;refine wpAny_in_heap (wdd p) (rx I.b9 i) hd f ?_;have q:=(rel.val k).jM;rw[wf7]at q;rw[<-q,<-l];exact h _ (I.tok _)
theorem Kh{Q:Value->Shared->Prop}(p:A.units+1<wcF)(I:Inv X pins σ H s)(g:eM H a y o)(j:RelV y u)(h:∀s',Inv X pins σ H s'->Q (.bool (!o.isSome)) s') :
 wpAny (model X.prog X.w) A (wbm .NotIn u (.ref a)) Q E s:=by
 rcases g with⟨c,k,e,d,l⟩ |⟨c,k,b,e,d,i,l⟩
 ·subst d;obtain⟨z,hd,m,rel,f⟩:=lP I.b9 e;refine wpAny_notIn_of (sF j) hd f.mapOf ?_;rw[<-(rel.val k).jM,<-l];exact h _ (I.tok _)
 ·subst d;cases(show u=wam b from j);obtain⟨z,hd,n,rel,f⟩:=uM I.b9 e;refine wpAny_notIn_heap (wdd p) (rx I.b9 i) hd f ?_;have q:=(rel.val k).jM;rw[wf7]at q;rw[<-q,<-l];exact h _ (I.tok _)
theorem um(I:Inv X pins σ H s)(g:P4 (H a))(hs:wfl a s.heap h')(j:∃q,h'.get? a=some q)(new:cq X.prog X.w (upd H a ob) h' a ob) :
 Inv X pins σ (upd H a ob) {s with heap:=h',toks:=t'}:=
 I.write (x:=a) (e:=a) g (.inl rfl) (λb q c z=>(hs.2 b c).trans z) j new
theorem Ch(z:kvs.length<=sizeLine)(hd:(a==wcP)=false)(rel:KV kvs vs)(dd:h'.DictOf (bz P w) a vs) :
 cq P w g h' a (.dK kvs):=⟨z,hd,vs,rel,dd⟩
theorem F6{Q:Unit->Shared->Prop}(J:A.units+1<wcF)(I:Inv X pins σ H s)(g:ky H a y v T)(t:RelV y u)(C:RelV v r)(h:∀s',Inv X pins σ T s'->Q () s') :
 wpAny (model X.prog X.w) A (setItem (.ref a) u r) Q E s:=by
 rcases g with⟨d,k,e,j,l,m⟩ |⟨d,k,b,e,j,x,l,m⟩
 ·subst j m;obtain⟨z,hd,G,rel,n⟩:=sG I.b9 e;have o:G.length<=sizeLine:=by rw[<-rel.length];exact z
  have hl:(putK d k v).length<=sizeLine:=by have:=i3 d k v;omega
  refine wpAny_setItem_pairs (hsz:=o) (sF t) n λB f p=>h _ ?_;have L:∃q,B.get? a=some q:=let ⟨q,_,_,i,_⟩:=f;⟨q,i⟩
  exact um I (by rw[e];exact wbu) p L (Ch hl hd (rel.put k C) f)
 ·subst j m;cases(show u=wam b from t);obtain⟨z,hd,M,rel,n⟩:=PL I.b9 e;have o:M.length<=sizeLine:=by rw[<-wgE rel];exact z
  have hl:(putK d k v).length<=sizeLine:=by have:=i3 d k v;omega
  refine wpAny_setItem_heap (hsz:=o) (wdd J) (rx I.b9 x) n λB f p=>h _ ?_;obtain⟨q,N,O,i,R,S,U,_,V⟩:=f;refine um I (by rw[e];exact wbu) p ⟨q,i⟩ ⟨hl,hd,_,(rel.put k x C).keeps λc Y D=>?_,q,N,O,i,R,S,U,V⟩;rw[ae (P0 D e (λz=>nomatch z))];exact D
end
section
variable{X:Cx}{pins:List (Addr×Obj)}{σ:St}{H:Hp}{s:Shared}{a:Addr}{kvs:List (Key×V)}{k:Key}{u:Value}{A:Around}{E:Value->Shared->Prop}
end
def PN(i:Expr):Prop:=∀ov iv,wg1 i false ov iv=operate [ov,iv] (getItem ov iv)
theorem Ki{prog:wat}{w:World}{A:Around}{E:Value->Shared->Prop}{s:Shared}{env:Env}{value slice:Expr}{pos:Pos}{T id:String}{Q:Value->Shared->Prop}
 (hl:wfe (.type T) "__getitem__"=pure (some (.builtin id))) (hs:PN slice)
 (h:wpAny (model prog w) A (eval value env) (λo j=>wpAny (model prog w) A (eval slice env) (λi g=>g.TypeIs o T/\wpAny (model prog w) A (getItem o i) Q E g) E j) E s) :
 wpAny (model prog w) A (eval (.Subscript value slice pos) env) Q E s:=by
 refine Subscript_ (wba h (λo j c=>wba c (λi g a=>?_) λ_ _ x=>x) λ_ _ x=>x);obtain⟨e,a⟩:=a;unfold wgF;refine wa7 ?_;rw[getitemInPython_of_ne e.not_modules];refine wa7 (wpAny_specialOf e hl ?_)
 have fin:wpAny (model prog w) A (wg1 slice false o i) (λr b=>wpAny (model prog w) A (letTemporaryGo value o r >>= λ_=>pure r) Q E b) E g:=by
  rw[hs o i];exact wpAny_operating (wba a (λr b d=>wa7 (wpAny_letTemporaryGo (waz d))) λ_ _ x=>x)
 first
  |exact waz (wa7 fin)
  |exact wa7 (waz (wa7 fin))
  |exact wa7 fin
theorem Ao{X:Cx}(I:Inv X j σ H s)(g:eM H a y o):s.TypeIs (.ref a) "dict":=by
 rcases g with⟨c,k,e,_,_⟩ |⟨c,k,b,e,_,_,_⟩
 ·obtain⟨_,_,f,_,d⟩:=lP I.b9 e;exact d.typeIs
 ·obtain⟨_,_,h,_,d⟩:=uM I.b9 e;exact d.typeIs
def PQ(td ty:TE):TE:=λσ H Q=>td σ H λx H1=>ty σ H1 λy H2=>∃a v,x=.ref a/\eM H2 a y (some v)/\Q v H2
def Ti(ty td:TE):TE:=λσ H Q=>ty σ H λy H1=>td σ H1 λx H2=>∃a o,x=.ref a/\eM H2 a y o/\Q (.bl o.isSome) H2
def Kj(ty td:TE):TE:=λσ H Q=>ty σ H λy H1=>td σ H1 λx H2=>∃a o,x=.ref a/\eM H2 a y o/\Q (.bl (!o.isSome)) H2
def M6(td ty tv:TE):TS:=λD σ H=>tv σ H λv H1=>td σ H1 λx H2=>ty σ H2 λy H3=>∃a H4,x=.ref a/\ky H3 a y v H4/\D.nx σ H4
section
variable{X:Cx}{o i e value:Expr}{pos pos' T7:Pos}{td ty tv:TE}
theorem dk(j:X.A.units+1<wcF)(l:PE X o td)(hi:PE X i ty)(hs:PN i):PE X (.Subscript o i pos) (PQ td ty):=by
 intro b s σ H Q I h;refine Ki PySem.F.slot_dict_getitem.lookup hs (bY (l b s σ H _ I h) λu e ⟨x,f,k,m,n⟩=>bY (hi b e σ f _ k n) λw z ⟨y,p,d,q,a,v,ex,g,r⟩=>?_);subst ex;obtain rfl:u=wam a:=m;exact⟨Ao d g,F5 j d g q λB C t c=>⟨v,p,t,c,r⟩⟩
theorem Hm(j:X.A.units+1<wcF)(hi:PE X i ty)(l:PE X o td):PC X .In i o (Ti ty td):=by
 intro b s σ H Q I h;refine bY (hi b s σ H _ I h) λv c ⟨y,d,e,f,k⟩=>bY (l b c σ d _ e k) λu w ⟨x,m,n,p,a,q,ex,g,r⟩=>?_;subst ex;obtain rfl:u=wam a:=p;exact Th j n g f λz t=>⟨.bl q.isSome,m,t,rfl,r⟩
theorem xY(j:X.A.units+1<wcF)(hi:PE X i ty)(l:PE X o td):PC X .NotIn i o (Kj ty td):=by
 intro b s σ H Q I h;refine bY (hi b s σ H _ I h) λv c ⟨y,d,e,f,k⟩=>bY (l b c σ d _ e k) λu w ⟨x,m,n,p,a,q,ex,g,r⟩=>?_;subst ex;obtain rfl:u=wam a:=p;exact Kh j n g f λz t=>⟨.bl (!q.isSome),m,t,rfl,r⟩
theorem eD(j:X.A.units+1<wcF)(l:PE X o td)(hi:PE X i ty)(p:PE X value tv)(hs:wc6 value (some (.Subscript o i pos')) pos.line X.env=pure false) :
 PS X (.Assign [.Subscript o i pos'] value pos) (M6 td ty tv):=by
 intro b s σ H D I h;refine wpAny_Assign_Subscript (bY (p b s σ H _ I h) λr c ⟨v,d,e,f,k⟩=>bY (l b c σ d _ e k) λu m ⟨x,n,q,t,w⟩=>bY (hi b m σ n _ q w) λJ L ⟨y,M,z,B,a,C,ex,g,E⟩=>?_) hs;subst ex;obtain rfl:u=wam a:=t;exact F6 j z g B f λN G=>⟨σ,C,G,E⟩
end
theorem uN(h:Heap)(g:wcP<h.objs.size):cq P w H (h.push {cls:=.type "dict",data:=.dict #[]}) h.objs.size (.dK []):=
 ⟨waA _,beq_eq_false_iff_ne.mpr (wbc (war g)),[],.nil,Heap.DictOf.new h⟩
def N2:TE:=λ_ H Q=>∀p,H p=none->Q (.ref p) (upd H p (.dK []))
section
variable{X:Cx}{pos:Pos}
theorem dD:PE X (.Dict [] [] pos) N2:=λb s σ H Q I h=>
 wpAny_Dict_empty ⟨.ref s.heap.objs.size,_,I.laid (a:=s.heap.objs.size) (o:=.dK []) (t':=s.toks) (λ_ _ q=>wa9 _ q) (waa _) (uN s.heap I.big),rfl,h _ (I.b9.fresh (waa _))⟩
end
def Ci:List (TE×TE)->St->Hp->(List (V×V)->Hp->Prop)->Prop
 |[],_,H,Q=>Q [] H
 |(tk,tv)::r,σ,H,Q=>tk σ H λx H1=>tv σ H1 λy H2=>Ci r σ H2 λps H3=>Q ((x,y)::ps) H3
abbrev VV:List (V×V)->List (Value×Value)->Prop:=Paired λp q=>RelV p.1 q.1/\RelV p.2 q.2
def RL(X:Cx)(pos:Pos)(keys:List (Option Expr))(values:List Expr)(Tj:List (TE×TE)):Prop:=
 ∀(pins:List (Addr×Obj)) (s:Shared) (σ:St) (H:Hp) (Q:List (V×V)->Hp->Prop),Inv X pins σ H s->Ci Tj σ H Q ->
  wpAny (model X.prog X.w) X.A (evalPairs (pairTrees keys values X.env pos)) (λvs s'=>∃ps H',Inv X pins σ H' s'/\VV ps vs/\Q ps H') X.xe s
theorem DZ{X:Cx}:RL X pos [] [] []:=λa s σ H Q I h=>pairTrees_nil_walk ⟨[],H,I,.nil,h⟩
theorem Ap{X:Cx}(hk:PE X k tk)(j:PE X v l)(p:RL X pos r vs g) :
 RL X pos (some k::r) (v::vs) ((tk,l)::g):=λa s σ H Q I h=>
 pairTrees_cons_walk (bY (hk a s σ H _ I h) λu b ⟨x,c,d,e,f⟩=>bY (j a b σ c _ d f) λA i ⟨y,m,n,o,q⟩=>
  bY (p a i σ m _ n q) λB C ⟨ps,t,w,rel,z⟩=>⟨(x,y)::ps,t,w,.cons ⟨e,o⟩ rel,z⟩)
noncomputable def kz(kvs more:List (Key×V)):List (Key×V):=more.foldl (λacc kv=>putK acc kv.1 kv.2) kvs
theorem KV.merge:∀{more:List (Key×V)} {rs:List (Key×Value)} {kvs:List (Key×V)} {vs:List (Key×Value)},KV more rs->KV kvs vs->KV (kz kvs more) (merged vs rs):=by
 intro more rs kvs vs r;unfold KV at r
 induction r generalizing kvs vs with
 |nil=>intro q;exact q
 |@cons p q ps c h t a=>
  intro b
  have e:KV (putK kvs p.1 p.2) (stored vs q.1 q.2):=by
   have:=b.put p.1 h.2;rw[<-h.1];exact this
  exact a e
theorem wX:∀(more kvs:List (Key×V)),(kz kvs more).length<=kvs.length+more.length:=by intro more;induction more<;>grind [putK,i3,kz,waM]
theorem uO:∀{kvs:List (Key×V)} {ws:List (Value×Value)},VV (kvs.map λg=>(kV g.1,g.2)) ws->∃rs,Carries (bz P w) ws rs/\KV kvs rs
 |[],_,r=>by rw[wdP]at r;cases r;exact⟨[],wbu,.nil⟩
 |p::kvs,_,r=>by
  rw[wax]at r
  cases r with
  |@cons a b as bs h t=>
   obtain⟨rs,c,q⟩:=uO (P:=P) (w:=w) t;obtain⟨b1,d⟩:=b;exact⟨(p.1,d)::rs,⟨sF h.1,rfl,c⟩,.cons ⟨rfl,h.2⟩ q⟩
def PR(Tj:List (TE×TE)):TE:=λσ H Q=>∀p,H p=none->Ci Tj σ (upd H p (.dK [])) λps H2=>H2 p=some (.dK [])/\∃kvs:List (Key×V),ps=kvs.map (λkv=>(kV kv.1,kv.2))/\kvs.length<=15/\Q (.ref p) (upd H2 p (.dK (kz [] kvs)))
theorem E1{X:Cx}(h:RL X pos keys values j)(g:keys.all (·.isSome)=true)(hl:keys.length=values.length)(h0:keys≠[])
 (l:keys.length<=15):PE X (.Dict keys values pos) (PR j):=by
 intro b s σ H Q I q;have hn:=I.b9.fresh (waa s.heap.objs.size);have k:=I.laid (a:=s.heap.objs.size) (o:=.dK []) (h':=s.heap.push {cls:=.type "dict",data:=.dict #[]}) (t':=s.toks) (λ_ _ q=>wa9 _ q) (waa _) (uN s.heap I.big);refine wpAny_Dict_walk (knd:=bz X.prog X.w) g hl h0 l (bY (h b _ σ _ _ k (q _ hn)) λD E ⟨ps,G,i,rel,e,d,m,lk,n⟩=>?_);subst m;obtain⟨p,c,r⟩:=uO (P:=X.prog) (w:=X.w) rel;obtain⟨z,hd,t,u,v⟩:=sG i.b9 e;cases u;refine⟨p,c,v,λh' f x=>⟨.ref s.heap.objs.size,_,?_,rfl,n⟩⟩
 have y:(kz [] d).length<=sizeLine:=by
  have A:=wX d [];rw[wfS]at A;rw[wcc];omega
 have B:∃q,h'.get? s.heap.objs.size=some q:=let ⟨q,_,_,C,_⟩:=f;⟨q,C⟩
 exact um i (by rw[e];exact wbu) x B (Ch y hd (r.merge .nil) f)
structure M1(X:Cx)(o:Expr)(m:Str)(apos:Pos)(e:Expr)(fg:Pos):Prop where
 base:wcw o m X.env (eval o X.env)=eval o X.env
 few:((backTo fg (starEach [e] X.env)).all (λx=>!x.1)&&(backToKw fg (wdC [] X.env)).all (λx=>x.1.isSome)
  && decide (([e]:List Expr).length+([]:List wek).length+(if ([]:List wek).isEmpty then 0 else 1)<30))=true
 line:(apos.endLine==fg.line)=true
 trees:backTo fg (starEach [e] X.env)=[(false,eval e X.env)]
structure M2(X:Cx)(o:Expr)(m:Str)(apos:Pos)(e f:Expr)(fg:Pos):Prop where
 base:wcw o m X.env (eval o X.env)=eval o X.env
 few:((backTo fg (starEach [e,f] X.env)).all (λx=>!x.1)&&(backToKw fg (wdC [] X.env)).all (λx=>x.1.isSome)
  && decide (([e,f]:List Expr).length+([]:List wek).length+(if ([]:List wek).isEmpty then 0 else 1)<30))=true
 line:(apos.endLine==fg.line)=true
 trees:backTo fg (starEach [e,f] X.env)=[(false,eval e X.env),(false,eval f X.env)]
def Tl(H:Hp)(a:Addr):Prop:=(∃kvs,Rd H a (.dK kvs))\/∃kvs,Rd H a (.dT kvs)
theorem Hn{X:Cx}(I:Inv X j σ H s)(d:Tl H a) :
 s.TypeIs (.ref a) "dict"/\(∀b,wam a=.ref b->∃ob,s.heap.get? b=some ob/\ob.dict=none)/\(a==wcP)=false:=by
 rcases d with⟨f,e⟩ |⟨f,e⟩
 ·obtain⟨_,hd,i,_,c⟩:=lP I.b9 e;refine⟨c.typeIs,λb q=>?_,hd⟩;cases q;obtain⟨ob,_,_,g,h,_⟩:=c;exact⟨ob,g,h.2.1⟩
 ·obtain⟨_,hd,k,_,c⟩:=uM I.b9 e;refine⟨c.typeIs,λb q=>?_,hd⟩;cases q;obtain⟨ob,_,_,g,h,_⟩:=c;exact⟨ob,g,h.2.1⟩
section
variable{X:Cx}{pins:List (Addr×Obj)}{σ:St}{H:Hp}{s:Shared}{a:Addr}{y d:V}{u r:Value}{o:Option V}{A:Around}{E:Value->Shared->Prop}
theorem N3{Q:Value->Shared->Prop}(t:A.units+1<wcF)(I:Inv X pins σ H s)(g:eM H a y o)(j:RelV y u)(rd:RelV d r)(h:∀p s',Inv X pins σ H s'->RelV (o.getD d) p->Q p s') :
 wpAny (model X.prog X.w) A (call (.builtin "dict.get") [.ref a,u,r]) Q E s:=by
 rcases g with⟨f,k,e,i,l⟩ |⟨f,k,b,e,i,m,l⟩
 ·subst i;obtain⟨z,hd,q,rel,c⟩:=lP I.b9 e;refine wfq wel c.typeIs wg3 (wfF _ _ _) (meets_dict_get_default (bz X.prog X.w) a (sF j) hd r) ⟨_,c.mapOf,h _ _ (I.tok _) ?_⟩;rw[l];exact(rel.val k).getD rd
 ·subst i;cases(show u=wam b from j);obtain⟨z,hd,n,rel,c⟩:=uM I.b9 e;refine wfq wel c.typeIs wg3 (wfF _ _ _) (meetsH_dict_get_default (weS (bz X.prog X.w)) a b hd r) ⟨wdd t,k,n,rx I.b9 m,c,h _ _ (I.tok _) ?_⟩;rw[l];exact(rel.val k).getD rd
end
def N4(td ty tx:TE):TE:=λσ H Q=>td σ H λx H1=>∃a,x=.ref a/\Tl H1 a/\ty σ H1 λy H2=>tx σ H2 λz H3=>∃o,eM H3 a y o/\Q (o.getD z) H3
section
variable{X:Cx}{o e f:Expr}{apos fg:Pos}{td ty tx:TE}
theorem Ho(j:X.A.units+1<wcF)(l:PE X o td)(p:PE X e ty)(r:PE X f tx)(m:M2 X o "get" apos e f fg):PE X (.Call (.Attribute o "get" apos) [e,f] [] fg) (N4 td ty tx):=by
 intro b s σ H Q I h;refine wpAny_Call_method m.base m.few m.line wd1 wel PySem.F.type_dict_get (bY (l b s σ H _ I h) λu k ⟨x,n,i,q,a,ex,d,t⟩=>?_);subst ex;obtain rfl:u=wam a:=q;obtain⟨v,w,_⟩:=Hn i d;refine⟨v,w,?_⟩;rw[m.trees]
 refine wdk rfl (wev (wda (bY (p b k σ n _ i t) λR B ⟨y,C,D,E,G⟩=>
  wda (bY (r b B σ C _ D G) λS T ⟨z,J,L,M,U,g,N⟩=>wf6 ?_))))
 exact N3 j L g E M λV Y O c=>⟨_,J,O,c,N⟩
end
section
variable{X:Cx}{pins:List (Addr×Obj)}{σ:St}{H:Hp}{s:Shared}{a:Addr}{kvs:List (Key×V)}{A:Around}{E:Value->Shared->Prop}
end
section
variable{X:Cx}{pins:List (Addr×Obj)}{σ:St}{H:Hp}{s:Shared}{a:Addr}{y:V}{u:Value}{A:Around}{E:Value->Shared->Prop}
end
end L2
namespace VP
open PySem PySem.W PySem.Calls PyProof.Rows
theorem tY:∀(ns:List Int) (vs:List Value),WellAll P h vs (ns.map WData.int)->IntsAre vs ns:=by
 intro ns
 induction ns with
 |nil=>
  intro vs w;rw[wdP]at w;cases w;exact .nil
 |cons n ns c=>
  intro vs w;rw[wax]at w
  cases w with
  |cons a b=>
   cases a;exact .cons _ _ (c _ b)
theorem F7{l:weF}{n:Nat}(hn:l.most=some n){P:Params}{h:Heap}{args:List WData}{g:List Value}
 (j:l.row.toRowW.claim.pre args=true) (p:WellAll P h g args) :
 ∃a vs ns,g=[wam a]/\args=[WData.list (ns.map WData.int)]/\h.get? a=some {cls:=.type "list",data:=.seq vs.toArray}/\IntsAre vs ns/\ns.length<=n:=by
 have i:WShape.hasAll [] args [.list .int]=true:=(pre_splitW j).1;have hc:l.pre.holds [] {args:=args}=true:=(pre_splitW j).2;obtain⟨d,r,rfl,k,m⟩:=hasAllW_cons i;obtain rfl:=hasAllW_nil m;obtain⟨w,rfl,o⟩:=hasW_list k;obtain⟨ns,rfl⟩:=items_int o
 have b:ns.length<=n:=by
  unfold OpenLaw.pre at hc
  have e:(WTm.not (.lt (.lit (.int (n:Int))) (.len (.arg 0)))).holds [] {args:=[.list (ns.map .int)]}=true:=by
   have e:=(holds_andW hc).1;rw[hn]at e;exact e
  have f:=condW_of e (w_not (w_lt w_lit (w_len_list (w_arg rfl))));rw[wa0]at f;refine wht λq=>?_;have s:(n:Int)<((ns.length:Nat):Int):=by omega
  first
   |(rw[decide_eq_true s]at f;exact absurd f (by decide))
   |(simp at f;omega)
 cases p with
 |cons t u=>
  cases u
  cases t with
  |list v c=>exact⟨_,_,ns,rfl,rfl,v,tY ns _ c,b⟩
theorem F8(l:weF)(args:List WData):l.row.toRowW.claim.post args (.bool true) args=true:=
 postW_of (r:=l.row.toRowW) (X:=(true==true))
  (show WShape.has [] (.bool true) .bool=true by first |rfl |decide |simp[WShape.has,WShape.arms,WShape.armsAll])
  (show (WTm.eq .res (.lit (.bool true))).value [] {args:=args,res:=some (.bool true),after:=args}=some (.bool (true==true)) from w_eq_bool (w_res rfl) w_lit) rfl
theorem Aq{l:weF}{n:Nat}{q:wat}{loose:List Str}{XP:(Str->Option Value)->Heap->Prop}{YP:World->Heap->Prop}{d:DefRec}
 (hn:l.most=some n) (p:d.params.defaults=[])
 (call:∀(w:World) (s₀ g:Shared) (mg t:Str->Option Value) (fa:Addr) (o:Obj) (pm cd j:Value) (a:Addr) (vs:List Value) (ns:List Int),
   Ground q loose [] XP w s₀ mg t g.heap->YP w g.heap ->
   g.heap.get? fa=some o->o.data=.func (docDef d.name d.params d.body d.scope pm cd j)->g.heap.CodeRec cd d.name->mg d.name=some (.ref fa) ->
   g.heap.get? a=some {cls:=.type "list",data:=.seq vs.toArray}->IntsAre vs ns->ns.length<=n->g.gens=#[] ->
   codeAny (model l.prog w) callerA (.call (.ref fa) ⟨[.ref a],[]⟩) (λr s'=>r=.ok (.ret (.bool true))/\OldK g.heap s'.heap/\s'.os=g.os/\AllBare s'.gens) g) :
 whB q loose XP YP l.row.toRowW d [] (λf vs=>whE f vs):=by
 intro w s₀ g mg t G Y fa o pm cd j x kV y hd i s k z args u as c v A m B;obtain rfl:x=.none:=Dflts.none s p;obtain rfl:kV=.none:=Dflts.noKw s;obtain⟨a,vs,ns,rfl,rfl,e,b,h⟩:=F7 hn c m;refine enter_call (wcd (call w s₀ g mg t fa o pm cd j a vs ns G Y y (fd_plain hd) i k e b h z) λr s' C=>?_);obtain⟨rfl,D,E,H⟩:=C;exact⟨.inl ⟨.bool true,.bool true,[],rfl,λ_=>rfl,.bool true,F8 l _,λ_=>⟨List.Pairwise.nil,λ_ I=>(nomatch I)⟩⟩,D,E,H⟩
section
variable{prog:wat}{w:World}{A:Around}{E:Value->Shared->Prop}{s:Shared}{K:Frag}
end
end VP
namespace L2
open PySem PySem.Spec PyProof.Rows
theorem xZ:∀{vs:List Value} {ns:List Int},IntsAre vs ns->Vals (ns.map V.int) vs
 |_,_,.nil=>.nil
 |_,_,.cons n t h=>.cons ⟨t,rfl⟩ (xZ h)
def Only(H:Hp):Prop:=∀b,H b=none\/∃o xs,H b=some (.frz o (.lst xs))
theorem Hq{P:wat}{w:World}{K:wa2}{mg I:Str->Option Value}{CX:GA}{k:Nat}{fa a:Addr}{fd:wad}{x:Str}{sp:Sp}{g:Shared}{vs:List Value}{ns:List Int}
 (KX:K.In g.heap) (p:g.heap.Ns waR mg) (j:g.heap.Ns builtinsNs I) (J:∀x:Str,x≠"__name__"->I x=waX x) (t:g.heap.NoLimit) (hg:g.gens=#[])
 (ha:g.heap.get? a=some {cls:=.type "list",data:=.seq vs.toArray}) (hi:IntsAre vs ns) (hl:ns.length<=sizeLine) (hr:eT k callerA)
 (F:∀base:Heap,K.In base->base.Ns waR mg->aT P w K mg base CX k fa fd [x] sp) (l:∀(s:Shared) (u:Value),BindsTo s fd ⟨[u],[]⟩ [(x,u)])
 (T:∀H:Hp,Only H->aL K H a (ns.map V.int)->sp [.ref a] H (λv _=>v=.bl true) λ_ _ _=>False)
 (U:∀H e s',CX [] H g (λ_ _ _=>False) e s'->False) :
 codeAny (model P w) callerA (.call (.ref fa) ⟨[.ref a],[]⟩) (λr s'=>r=.ok (.ret (.bool true))/\OldK g.heap s'.heap/\s'.os=g.os/\AllBare s'.gens) g:=by
 have G:=xZ hi;have f:=hi.length
 have core:∀H:Hp,Only H->aL K H a (ns.map V.int)->jI P w H g.heap->(∀b,H b≠none->b=a)->(H a≠none->K.lookup a=none) ->
  codeAny (model P w) callerA (.call (.ref fa) ⟨[.ref a],[]⟩) (λr s'=>r=.ok (.ret (.bool true))/\OldK g.heap s'.heap/\s'.os=g.os/\AllBare s'.gens) g:=by
  intro H L O b9 M Q;have E2:∀{b:Addr} {o:Obj},g.heap.get? b=some o->H b=none->(yS g.heap H).get? b=some o:=λe n=>GI e n
  have D:∀{b:Addr} {o:Obj} {i:Array DictEntry} {y:Nat},g.heap.get? b=some o->o.data=.dict i y->H b=none:=λ{b o i y} e d=>by
   cases q:H b with
   |none=>rfl
   |some u=>
    have E:b=a:=M b (by rw[q];simp);subst E;rw[ha]at e;cases e;have R:Data.seq vs.toArray _=Data.dict i y:=d;cases R
  have c:∀{b:Addr} {m:Str->Option Value},g.heap.Ns b m->(yS g.heap H).Ns b m:=λ{b m} ⟨o,i,y,e,d,r⟩=>⟨o,i,y,E2 e (D e d),d,r⟩
  have A:K.In (yS g.heap H):=λb o e=>E2 (KX b o e) (by
   cases q:H b with
   |none=>rfl
   |some u=>
    have E:b=a:=M b (by rw[q];simp);subst E
    rw[Q (by rw[q];simp)]at e;cases e)
  have S:Mod K mg (yS g.heap H):=⟨A,c p,⟨I,c j,J⟩,let ⟨X,Y,Z⟩:=t;⟨X,c Y,Z⟩⟩;have e0:Cb P w K mg (yS g.heap H) callerA [] g H:=⟨rfl,S,λb o e=>K1 e,wdM (ER _ _),trivial,λb j=>absurd (show b∈([]:List Addr) from j) (by simp),b9,.of_eq hg⟩;refine wcd ((F _ A (c p)).run callerA [] g H ⟨[.ref a],[]⟩ [.ref a] [.ref a] _ _ hr e0 (l g (.ref a)) (.cons rfl .nil) (T H L O)) λr s' h=>?_
  cases r with
  |error e=>exact(U H e s' h).elim
  |ok fl=>
   cases fl with
   |next=>exact wb3 h
   |brk=>exact wb3 h
   |cont=>exact wb3 h
   |ret u=>
    obtain⟨v,H',os,bare,un,B,r',q⟩:=h;have q':v=.bl true:=q;subst q';obtain rfl:u=wgt true:=r';refine⟨rfl,OldK.of_keep λb o e=>?_,os,bare⟩
    cases q:H b with
    |none=>exact un.keep b o e q (by intro z;exact absurd (show b∈([]:List Addr) from z) (by simp)) (by simp)
    |some u=>
     rcases L b with z |⟨ob,xs,z⟩
     ·rw[q]at z;cases z
     ·have z2:=un.tX b ob _ z;obtain⟨N,_⟩:=b9 b _ z;obtain⟨e2,_⟩:=B b _ z2;rw[e]at N;cases N;exact e2
 cases hk:K.lookup a with
 |some o=>
  have e:=KX a o hk;rw[ha]at e;cases e;refine core (λ_=>none) (λ_=>.inl rfl) (.inr ⟨_,vs.toArray,_,hk,rfl,rfl,rfl,by rw[waB,f];exact hl,by simpa using G⟩) (λb u z=>by have C:(none:Option HO)=some u:=z;cases C) (λb z=>absurd rfl z) λz=>absurd rfl z
 |none=>
  refine core (λb=>if b=a then some (.frz {cls:=.type "list",data:=.seq vs.toArray} (.lst (ns.map V.int))) else none) (λb=>?_) (.inl (.inr ⟨{cls:=.type "list",data:=.seq vs.toArray},if_pos rfl⟩)) (λb u z=>?_) (λb z=>?_) λ_=>hk
  ·by_cases j:b=a
   ·exact .inr ⟨_,_,if_pos j⟩
   ·exact .inl (if_neg j)
  ·by_cases j:b=a
   ·have C:=(if_pos j).symm.trans z;cases C;subst j;exact⟨ha,by rw[wa0];exact hl,vs,_,G,ha⟩
   ·have C:=(if_neg j).symm.trans z;cases C
  ·by_cases j:b=a
   ·exact j
   ·exact absurd (if_neg j) z
noncomputable abbrev KOf{K:wa2}{h:Heap}(_:K.In h):wa2:=K
theorem Kk{l:weF}{n k:Nat}{q:wat}{loose:List Str}{XP:(Str->Option Value)->Heap->Prop}{YP:World->Heap->Prop}{d:DefRec}{K:Params->wa2}{CX:World->GA}{sp:World->Sp}{x:Str}
 (hn:l.most=some n) (p:n<=sizeLine) (r:d.params.defaults=[]) (I:eT k callerA)
 (J:∀(w:World) (h:Heap),YP w h->(K w.params).In h)
 (F:∀(w:World) (mg:Str->Option Value) (fa:Addr) (h:Heap),(K w.params).In h->h.Ns waR mg->mg d.name=some (.ref fa) ->
   ∃fd:wad,(∀(s:Shared) (u:Value),BindsTo s fd ⟨[u],[]⟩ [(x,u)]) /\
    ∀base:Heap,(K w.params).In base->base.Ns waR mg->aT l.prog w (K w.params) mg base (CX w) k fa fd [x] (sp w))
 (t:∀(w:World) (H:Hp) (a:Addr) (ns:List Int),ns.length<=n->Only H->aL (K w.params) H a (ns.map V.int)->sp w [.ref a] H (λv _=>v=.bl true) λ_ _ _=>False)
 (C:∀(w:World) (H:Hp) (s:Shared) (e:Value) (s':Shared),CX w [] H s (λ_ _ _=>False) e s'->False) :
 whB q loose XP YP l.row.toRowW d [] (λf vs=>whE f vs):=by
 refine VP.Aq hn r λw z j mg Q fa o pm R B a vs ns G Y S hd D y m i c E=>?_;have A:=J w _ Y;obtain⟨fd,L,M⟩:=F w mg fa _ A G.T.g y;exact Hq A G.T.g G.T.b G.T.builtins G.T.nolimit E m i (wal c p) I M L (λH N O=>t w H a ns c N O) λH e s'=>C w H j e s'
noncomputable def inClass(s:Stmt)(j:Nat):Stmt:=match s with
 |.ClassDef _ _ _ body _ _ _ _ _ _ _=>body.getD j (.Pass ⟨0,0,0,0⟩)
 |_=>.Pass ⟨0,0,0,0⟩
noncomputable def dQ(s:Stmt):Arguments:=match s with
 |.FunctionDef _ a _ _ _ _ _ _ _ _=>a
 |_=>{posonlyargs:=[],args:=[],vararg:=none,kwonlyargs:=[],kw_defaults:=[],kwarg:=none,defaults:=[]}
noncomputable def cm(s:Stmt):List Stmt:=match s with
 |.FunctionDef _ _ b _ _ _ _ _ _ _=>b
 |_=>[]
noncomputable def aJ(s:Stmt):wd8:=match s with
 |.FunctionDef _ _ _ _ _ _ sc _ _ _=>sc
 |_=>{kind:=.function,names:=[],isGenerator:=false,isCoroutine:=false}
noncomputable abbrev df:GA:=λ_ _ _ _ _ _=>False
abbrev E0:XK:=λ_ _ _=>False
theorem bj{X:Cx}:Passes df X E0:=λ_ _ _ _ _ _ _ h=>h.elim
structure Ar(K:wa2)(x qual:Str)(st:Stmt)(f:Addr)(fd:wad):Prop where
 ex:∃(oc:Value) (od:Option Addr) (kV doc pm:Value) (an:Option Addr) (i5 ct:Value) (Hr:Array (Option Value)),
  fd=wcr x qual (dQ st) (cm st) (aJ st) .none kV doc pm an i5 ct/\K.lookup f=some ⟨oc,od,.func fd,Hr⟩/\we0 K i5 qual=true
 kp:wcT K (.ref f)=true
section
variable{P:wat}{w:World}{K:wa2}{mg:Str->Option Value}{base:Heap}
theorem Ar.ok{x g:Str}{st:Stmt}{f:Addr}{fd:wad}{N ps:List Str}{k:Nat}{sp:Sp}(F:Ar K x g st f fd)(S:uk N ps (aJ st))(len:∀vs H Q E,sp vs H Q E->vs.length=ps.length)
 (l:∀(j:Value) (A:Around) (outer:List Env) (s:Shared) (H:Hp) (vs:List V) (Q:VK) (E:XK),eT k (A.deeper (envOfC g (aJ st) s.heap.objs.size f j))->sp vs H Q E ->
   ∃t,wR (uK df P w K mg base N g (aJ st) f j A outer s H E).LW (cm st) t/\t {nx:=λ_ p=>Q .non p,rt:=Q} (start N vs) H):aT P w K mg base df (k+1) f fd ps sp:=by
 obtain⟨i,m,kV,c,pm,n,j,ct,d,rfl,lk,a⟩:=F.ex;refine M3 lk a S len λA outer s H vs Q E e b=>?_;obtain⟨t,h,q⟩:=l j A outer s H vs Q E e b;exact⟨t,h.LW,q⟩
theorem Ar.binds{x g:Str}{st:Stmt}{f:Addr}{fd:wad}{ps:List Str}(F:Ar K x g st f fd)
 (h:∀(kV j pm:Value) (p:Option Addr) (l ct:Value) (us:List Value),us.length=ps.length->bindArgs (wcr x g (dQ st) (cm st) (aJ st) .none kV j pm p l ct) ⟨us,[]⟩=pure (ps.zip us)):Binds K fd ps []:=by
 obtain⟨c,d,kV,j,pm,p,l,ct,a,rfl,lk,b⟩:=F.ex;exact .all (h kV j pm p l ct)
theorem Hs{x g:Str}{st:Stmt}{f:Addr}{C:Value}{I t:Option Addr}{r:Array (Option Value)}{kV p pm j ct:Value}(l:K.lookup f=some ⟨C,I,.func (wcr x g (dQ st) (cm st) (aJ st) .none kV p pm t j ct),r⟩)
 (c:we0 K j g=true) (k:wcT K (.ref f)=true):Ar K x g st f (wcr x g (dQ st) (cm st) (aJ st) .none kV p pm t j ct):=⟨⟨C,I,kV,p,pm,t,j,ct,r,rfl,l,c⟩,k⟩
end
theorem fk(g:eT k A):A.units+1<wcF:=wbg (Nat.add_le_add_left (by decide:1<=64) _) g.units
theorem bq(h:n<=1000):n<sizeLine:=wbg h (by decide)
section
variable{X:Cx}
theorem pv(i:Nat)(j:X.N[i]?=some x:=by rfl)(l:P5 X.env.scope x:=by first |exact wdQ rfl |exact Or.inr (wdQ rfl) |exact Or.inr (Or.inr rfl))(hd:(x==("__debug__":Str))=false:=by decide)
 (g:(x==("__classdict__":Str))=false:=by decide):PE X (.Name x pos) (K4 i):=MQ j l hd g
end
theorem cb{A B:Prop}(h:B):if false=true then A else B:=by
 grind
theorem fO{A B:Prop}(h:A):if true=true then A else B:=by
 grind
theorem uP{c A B:Prop}[Decidable c](g:c->A)(j:¬c->B):if c then A else B:=by
 by_cases h:c
 ·rw[if_pos h];exact g h
 ·rw[if_neg h];exact j h
def a9(H H':Hp):Prop:=∀b o,H b=some o->H' b=some o
theorem a9.refl(H:Hp):a9 H H:=λ_ _ h=>h
theorem a9.trans(a:a9 H g)(b:a9 g j):a9 H j:=λc o h=>b c o (a c o h)
theorem a9.free(e:a9 H g)(h:g l=Option.none):H l=Option.none:=by
 cases q:H l with
 |none=>rfl
 |some o=>
  rw[e l o q]at h;cases h
theorem a9.seq{K:wa2}{H g:Hp}{a:Addr}{xs:List V}(e:a9 H g)(h:aL K H a xs):aL K g a xs:=by
 rcases h with(h |⟨o,h⟩) |h
 ·exact .inl (.inl (e _ _ h))
 ·exact .inl (.inr ⟨o,e _ _ h⟩)
 ·exact .inr h
section
variable{κ:Type}[DecidableEq κ]
theorem Ht{kvs:List (κ×V)}{k:κ}(h:bE kvs k=none):¬k∈kvs.map (·.1):=by
 intro m;obtain⟨p,a,e⟩:=wab.mp m;have q:(kvs.any λb=>decide (b.1=k))=true:=wci.mpr ⟨p,a,decide_eq_true e⟩;rw[j2,h]at q;exact absurd q (by simp)
theorem z9{kvs:List (κ×V)}{k:κ}{v:V}(h:bE kvs k=some v):k∈kvs.map (·.1):=by
 have q:(kvs.any λa=>decide (a.1=k))=true:=by
  rw[j2,h]
  all_goals rfl
 obtain⟨p,b,e⟩:=wci.mp q;exact wab.mpr ⟨p,b,of_decide_eq_true e⟩
end
theorem a9.upd(h:H a=none):a9 H (upd H a o):=λb u e=>by rw[ae (ag e h)];exact e
structure ml(J:It)(Ok:Hp->Prop)(xs:List V):Prop where
 go:∀i H,Ok H->i<xs.length->J.go i H
 uG:∀i H x H',Ok H->i<xs.length->J.uG i H x H'->H'=H/\xs[i]?=some x
 stop:∀H,Ok H->J.stop xs.length H
theorem aQ(K:wa2)(a:Addr)(xs:List V):ml (OA K a) (λH=>aL K H a xs) xs:=
 ⟨λi H q hi=>⟨xs,xs[i],q,by simp[hi]⟩,λi H x b q _ y=>⟨y.1,y.2 xs q⟩,λH q=>⟨xs,q,waa _⟩⟩
noncomputable def RM(n:Nat)(val:Nat->V):It:=⟨λi _=>i<n,λi H x H'=>H'=H/\x=val i,λi _=>n<=i⟩
theorem N5{val:Nat->V}(hn:xs.length=n)(g:∀i x,xs[i]?=some x->val i=x):ml (RM n val) (λ_=>True) xs:=by
 subst hn;refine⟨λi H _ hi=>hi,λi H x a _ hi y=>⟨y.1,?_⟩,λH _=>waa _⟩;have e:xs[i]?=some xs[i]:=by simp[hi]
 rw[e,y.2,g i _ e]
theorem kA(lo:Int)(n:Nat):ml (LX lo n) (λ_=>True) ((waD n).map λi=>V.int (lo+(i:Nat))):=by
 refine⟨λi H _ hi=>(show i<n by simpa using hi),λi H x b _ hi y=>⟨y.1,?_⟩,λH _=>?_⟩
 ·have a:i<n:=by simpa using hi
  rw[y.2];simp[a]
 ·show n<=_;simp
theorem my{J:It}{Ok:Hp->Prop}{xs:List V}{g:TG}{I:TS}{D:Ends}{σ:St}{H:Hp}(t:ml J Ok xs)(Pv:Nat->St->Hp->Prop)(h0:Pv 0 σ H)(U:∀i σ H,i<=xs.length->Pv i σ H->Ok H)
 (hs:∀i x σ H,xs[i]?=some x->Pv i σ H->g x σ H λl C=>I {D with nx:=Pv (i+1),ct:=Pv (i+1),bk:=D.nx} l C) (hd:∀σ H,Pv xs.length σ H->D.nx σ H) :
 ∃W:Nat->Nat->St->Hp->Prop,(∃m,W 0 m σ H)/\∀i m σ H,W i m σ H ->
  (J.stop i H/\D.nx σ H)\/(J.go i H/\∃N:St->Hp->Prop,(∀r j,N r j->∃T,T<m/\W (i+1) T r j)/\∀x j,J.uG i H x j->g x σ j λl C=>I {D with nx:=N,ct:=N,bk:=D.nx} l C):=by
 refine⟨λi m σ H=>m=xs.length-i/\i<=xs.length/\Pv i σ H,⟨xs.length,by simp,waA _,h0⟩,?_⟩;rintro i m σ H ⟨rfl,hi,p⟩;have q:=U i σ H hi p
 by_cases a:i<xs.length
 ·refine .inr ⟨t.go i H q a,Pv (i+1),λr j b=>⟨xs.length-(i+1),by omega,rfl,a,b⟩,λx j y=>?_⟩;obtain⟨e,c⟩:=t.uG i H x j q a y;subst e;exact hs i x σ _ c p
 ·have e:i=xs.length:=by omega
  subst e;exact .inl ⟨t.stop H q,hd σ H p⟩
abbrev M7(nm:String):Prop:=["enumerate","zip","dict_itemiterator","dict_reverseitemiterator","odict_iterator","itertools.zip_longest","itertools.pairwise"].contains nm=false
theorem Cj{P:wat}{w:World}{K:wa2}{U:Expr}{it:Addr}{n:Nat}{Pv:Nat->Value->Prop}{St:Nat->Heap->Prop}{val:Nat->V}
 (T:∀A:Around,A.handled=none->Walks P w A it [it] [it] n Pv St)
 (g:∀i h,St i h->∃(o:Obj) (nm:String) (vs:Array Value),h.get? it=some o/\o.cls=.type nm/\o.data=.fields vs/\M7 nm)
 (j:∀i h h',St i h->(∀o,h.get? it=some o->h'.get? it=some o)->St i h')
 (l:∀(A:Around) (i:Nat) (s:Shared) (Q:Value->Shared->Prop) (E:Value->Shared->Prop),St i s.heap->Q (.ref it) s->wpAny (model P w) A (pyIter (.ref it)) Q E s)
 (p:∀i u,Pv i u->RelV (val i) u):Turn P w K U (RM n val) [it] it (λi h=>St i h/\i<=n) where
 mem:=by simp
 obj:=λi h st b f=>by
  have e:b=it:=by simpa using f
  subst e;obtain⟨o,nm,vs,e,c,d,_⟩:=g i h st.1;exact⟨o,e,λv z=>by rw[d]at z;cases z⟩
 keep:=λi h h' st k=>⟨j i h h' st.1 λo e=>k it (by simp) o e,st.2⟩
 item:=by
  intro X t hw x hc i a s σ H E I q st r;subst t hw x;obtain⟨y,f1,f2,B,C,D⟩:=q it (by simp);refine(T X.A (I.ok.hd hc)).item i s _ _ r st.1 λv h' G L m J=>?_;have M:Inv X a σ H {s with heap:=h',toks:=G}:=I.turned (λb o f e=>J b o (by simpa using f) e) y f1 B C D;obtain⟨o,nm,vs,e,c,d,hn⟩:=g _ _ m;exact⟨_,rfl,xP (s:={s with heap:=h',toks:=G}) e c d hn ⟨val i,H,M,p i v L,⟨rfl,rfl⟩,⟨m,r⟩,λb f=>(q b f).1⟩⟩
 done:=by
   intro X t hw x hc i a s σ H E I q st r;subst t hw x;obtain⟨y,f1,f2,B,C,D⟩:=q it (by simp)
   have e:i=n:=by
    have N:=st.2;have O:n<=i:=r;omega
   subst e;exact(T X.A (I.ok.hd hc)).done s _ _ st.1 λh' G J=>⟨rfl,I.turned (λb o f e=>J b o (by simpa using f) e) y f1 B C D⟩
 self:=λA i s Q E st h=>l A i s Q E st.1 h
noncomputable def sH(z:Str)(i:Nat):V:=.str ⟨#[z.cps.getD i 0]⟩
noncomputable def fh(z:Str):List V:=z.cps.toList.map λc=>V.str ⟨#[c]⟩
theorem pK(z:Str):ml (RM z.cps.size (sH z)) (λ_=>True) (fh z):=by simp_all [N5,fh,wa4,wae,wck,sH,wcH]
def Tn(tl:TE):TI:=λσ H R=>tl σ H λx H1=>∃z,x=.str z/\R (RM z.cps.size (sH z)) H1
section
variable{X:Cx}{tg:Expr}
theorem za{l:Expr}{C:TE}(hl:PE X l C):PI X tg l (Tn C):=by
 intro f s σ H R I h;refine bY (hl f s σ H _ I h) λv a ⟨x,B,n,D,G⟩=>?_;obtain⟨z,e,q⟩:=G;subst e;obtain⟨t,rfl⟩:=D
 have fin:∀(j:String) (o:Obj),(∀m:Around,m.handled=none->Walks X.prog X.w m a.heap.objs.size [a.heap.objs.size] [a.heap.objs.size] z.cps.size (SignAt z) (λi h=>h.IsStrIter a.heap.objs.size j z t i)) ->
  (∀(A:Around) (i:Nat) (s:Shared) (Q:Value->Shared->Prop) (E:Value->Shared->Prop),s.heap.IsStrIter a.heap.objs.size j z t i->Q (.ref a.heap.objs.size) s->wpAny (model X.prog X.w) A (pyIter (.ref a.heap.objs.size)) Q E s) ->
  M7 j->(a.heap.push o).IsStrIter a.heap.objs.size j z t 0->Oz X f σ tg R (.ref a.heap.objs.size) {a with heap:=a.heap.push o}:=by
  intro j o J g p r
  refine⟨a.heap.objs.size,[a.heap.objs.size],_,_,B,rfl,n.kept (t':=a.toks) λb o e=>wa9 _ e,
   Cj (val:=sH z) J (λi h st=>?_) (λi h O st k=>?_) g (λi u L=>?_),⟨r,waA _⟩,λb M=>?_,q⟩
  ·obtain⟨o,e,c,d⟩:=st;exact⟨o,j,_,e,c,d,p⟩
  ·obtain⟨o,e,c,d⟩:=st;exact⟨o,k o e,c,d⟩
  ·obtain⟨c,N,hc,e⟩:=L;refine⟨N,?_⟩;rw[e,wcH,hc];rfl
  ·have e:b=a.heap.objs.size:=by simpa using M
   subst e;exact n.yX (waa _) (n.b9.fresh (waa _))
 cases ha:z.cps.all (· < 128)
 ·exact wpAny_pyIter_wide ha (fin "str_iterator" _ (λm y=>Walks.strWide y _ z t) (λA i s Q E st h=>wpAny_pyIter_striter_wide st h) (by decide) ⟨_,wav _ rfl,rfl,rfl⟩)
 ·exact wpAny_pyIter_ascii ha (fin "str_ascii_iterator" _ (λm y=>Walks.strAscii y _ z t) (λA i s Q E st h=>wpAny_pyIter_striter_ascii st h) (by decide) ⟨_,wav _ rfl,rfl,rfl⟩)
end
def N6(scope:wd8)(env:Env):Prop:=∀y∈scope.names,y.2=.free->env.kindOf y.1=some .cell\/env.kindOf y.1=some .free
theorem oP:∀{names:List (Str×wef)} (g:List (Str×Addr)),(∀y∈names,y.2=.free->∃c,env.cells.lookup y.1=some c)->(∀y c,g.lookup y=some c->env.cells.lookup y=some c) ->
 ∃cl:List (Str×Addr),(forIn names g (λ(x:Str×wef) p=>(match x with |(name,kind)=>if kind == .free then do let c <-cellOf env name;pure (wde ((name,c)::p)) else pure (wde p):Sem (ForInStep (List (Str×Addr))))))=pure cl /\
  (∀y c,cl.lookup y=some c->env.cells.lookup y=some c)/\(∀y c,g.lookup y=some c->∃j,cl.lookup y=some j)/\∀y∈names,y.2=.free->∃c,cl.lookup y.1=some c
 |[],g,_,ha=>⟨g,rfl,ha,λy c e=>⟨c,e⟩,λ_ h=>nomatch h⟩
 |(n,k)::r,g,f,ha=>by
  rw[List.forIn_cons]
  by_cases hk:k=.free
  ·obtain⟨c,hc⟩:=f (n,k) wag hk;have i:(k==wcM)=true:=by rw[hk];rfl
   obtain⟨cl,l,m,d,o⟩:=oP (env:=env) (names:=r) ((n,c)::g) (λy a=>f y (wac _ a)) (λy j e=>by
    rw[wdv]at e
    cases q:y==n with
    |true=>
     rw[q]at e;have:c=j:=wae e;subst this;have:y=n:=eq_of_beq q;subst this;exact hc
    |false=>
     rw[q]at e
     exact ha y j e)
   refine⟨cl,?_,m,λy j e=>?_,λy a b=>?_⟩
   ·rw[<-l];simp only[i,if_true];have s:cellOf env n=pure c:=by unfold cellOf;rw[hc]
    rw[s];rfl
   ·by_cases q:y=n
    ·subst q;exact d y c (by simp[wdv])
    ·refine d y j ?_;have:(y==n)=false:=beq_eq_false_iff_ne.mpr q;rw[wdv,this];exact e
   ·rcases waH.mp a with rfl |a
    ·exact d n c (by simp[wdv])
    ·exact o y a b
  ·have i:(k==wcM)=false:=by simpa using hk
   obtain⟨cl,l,m,d,o⟩:=oP (env:=env) (names:=r) g (λy a=>f y (wac _ a)) ha;refine⟨cl,?_,m,d,λy a b=>?_⟩
   ·rw[<-l];simp only[i,wbV,if_false];rfl
   ·rcases waH.mp a with rfl |a
    ·exact absurd b hk
    ·exact o y a b
theorem o7(g:∀y∈scope.names,y.2=.free->∃c,env.cells.lookup y.1=some c) :
 ∃cl,closureFor scope env=pure cl/\(∀y c,cl.lookup y=some c->env.cells.lookup y=some c)/\∀y∈scope.names,y.2=.free->∃c,cl.lookup y.1=some c:=by
 obtain⟨cl,b,d,_,f⟩:=oP (env:=env) (names:=scope.names) [] g (λy c e=>by simp at e);refine⟨cl,?_,d,f⟩;simp only[closureFor]
 first
  |(rw[b];rfl)
  |(have a:=b;simp only at a ⊢;rw[a];rfl)
  |(refine wdJ (congrArg (λm=>m >>= λh=>pure h) ?_) ?_;exact pure cl;exact b;rfl)
theorem zb(g:∀y∈scope.names,y.2≠.cell)(h:(relabel scope env).names.lookup x=some .cell\/(relabel scope env).names.lookup x=some .free):∃k,(x,k)∈scope.names/\k=wcM:=by
 unfold relabel at h;dsimp only at h
 have key:∀(names:List (Str×wef)),(∀y∈names,y.2≠.cell) ->
  ((names.map λ(n,k)=>if (k==wcM&&env.scope.kind == .function&&env.kindOf n==some .cell) then(n,wf0) else(n,k)).lookup x=some .cell \/
   (names.map λ(n,k)=>if (k==wcM&&env.scope.kind == .function&&env.kindOf n==some .cell) then(n,wf0) else(n,k)).lookup x=some .free)->∃k,(x,k)∈names/\k=wcM:=by
  intro names
  induction names with
  |nil=>grind
  |cons y r a=>
   grind
 exact key scope.names g h
noncomputable def bH(X:Cx)(scope:wd8)(N:List Str)(cl:List (Str×Addr))(L:Addr)(s:Shared)(H:Hp)(ex:List Addr)(pn:List (Addr×Obj)):Cx where
 prog:=X.prog
 w:=X.w
 K:=X.K
 mg:=X.mg
 base:=X.base
 A:=X.A
 N:=N
 s₀:=s
 H₀:=H
 env:=compEnvC scope cl L X.env
 outer:=X.stack
 stack:=X.stack
 ex:=ex
 fn:=λ_=>false
 calm:=X.calm
 pn:=pn
 xe:=λ_ _=>False
def JR(X:Cx)(ifs:List Expr)(t:TT):Prop:=
 ∀(pins:List (Addr×Obj)) (s:Shared) (σ:St) (H:Hp) (Q:Bool->Hp->Prop),Inv X pins σ H s->t σ H Q ->
  wpAny (model X.prog X.w) X.A (forIn ifs true λc r=>if r=true then do let ok <-isTrue c X.env (eval c X.env);pure (wde ok) else pure (wde r)) (TP X pins σ Q) X.xe s
def wY:TT:=λ_ H Q=>Q true H
theorem bo{X:Cx}:JR X [] wY:=λ_ _ _ H _ I h=>wpAny_tests_nil ⟨H,I,h⟩
theorem gZ{X:Cx}(h:PT X c t):JR X [c] t:=λa s σ H Q I hw=>wpAny_tests_one (h a s σ H Q I hw)
section
variable{prog:wat}{w:World}{A:Around}{E:Value->Shared->Prop}{R:wd9->Shared->Prop}{s:Shared}
theorem F9(I:Nat->Shared->Prop)
 (J:∀n s,I n s->wpAny (model prog w) A (pyNext it) (λr g=>match r with
   |none=>R (.ok .next) g
   |some v=>wpAny (model prog w) A (wer target it v) (λ_ j=>wpAny (model prog w) A (assign target env v) (λ_ p=>
     wpAny (model prog w) A (forIn T true λc r=>if r=true then do let ok <-isTrue c env (eval c env);pure (wde ok) else pure (wde r)) (λok l=>
      if ok=true then wpAny (model prog w) A (eval U env) (λx t=>
       wpAny (model prog w) A (call (.builtin "list.append") [acc,x]) (λ_ C=>∃m,m<n/\I m C) (notedBy (model prog w) A env λe s'=>R (.error e) s') t) (notedBy (model prog w) A env λe s'=>R (.error e) s') l
      else ∃m,m<n/\I m l) (notedBy (model prog w) A env λe s'=>R (.error e) s') p) (notedBy (model prog w) A env λe s'=>R (.error e) s') j) (notedBy (model prog w) A env λe s'=>R (.error e) s') g) (notedBy (model prog w) A env λe s'=>R (.error e) s') s)
 (n:Nat) (h:I n s) :
 codeAny (model prog w) A (.compLoop (.ListComp U [⟨target,iter,T,0⟩] scope pos) 0 it acc env) R s:=by
 refine codeAny_loop rfl I (λn s q=>?_) n h;show wpAny _ A ((compTurn (.ListComp U [⟨target,iter,T,0⟩] scope pos) 0 it acc env).onRaise (λx=>do noteFrame x env;theTreesLotGoes x)) _ _ s;refine wpAny_noted ?_;rw[compTurn_list];refine wa7 (wdz (wa7 (wba (J n s q) (λr g b=>?_) λ_ _ a=>a)))
 cases r with
 |none=>exact waz b
 |some v=>
  refine wa7 (wba b (λ_ j f=>?_) λ_ _ a=>a);refine wa7 (wba f (λ_ p i=>wa7 (wba i (λok l d=>?_) λ_ _ a=>a)) λ_ _ a=>a)
  cases ok with
  |false=>exact waz ⟨rfl,d⟩
  |true=>
   exact wa7 (wa7 (wba d (λx t k=>wa7 (wba k (λ_ C o=>waz (waz ⟨rfl,o⟩)) λ_ _ a=>a)) λ_ _ a=>a))
end
def o8(J:It)(l:Addr)(σf:St)(tt:TT)(te:TE)(H:Hp)(Q:Hp->Prop):Prop:=
 ∃W:Nat->Nat->List V->Hp->Prop,(∃m,W 0 m [] (upd H l (.lst [])))/\∀i m ys H2,W i m ys H2->H2 l=some (.lst ys) /\
  ((J.stop i H2/\Q H2)\/(J.go i H2/\ys.length<sizeLine/\∀x H3,J.uG i H2 x H3->tt (some x::σf) H3 λb H4=>
    if b=true then te (some x::σf) H4 λy H5=>H5 l=some (.lst ys)/\∃m',m'<m/\W (i+1) m' (ys++[y]) (upd H5 l (.lst (ys++[y])))
    else ∃m',m'<m/\W (i+1) m' ys H4))
def y2(g:TG)(n:Nat)(J:It)(l:Addr)(σf:St)(tt:TT)(te:TE)(H:Hp)(Q:Hp->Prop):Prop:=
 ∃W:Nat->Nat->List V->Hp->Prop,(∃m,W 0 m [] (upd H l (.lst [])))/\∀i m ys H2,W i m ys H2->H2 l=some (.lst ys) /\
  ((J.stop i H2/\Q H2)\/(J.go i H2/\ys.length<sizeLine/\∀x H3 vs,vs.length=n->J.uG i H2 x H3->g x (vs++σf) H3 λσ' H'=>(∃PU,PU.length=n/\σ'=PU++σf)/\tt σ' H' λb H4=>
    if b=true then te σ' H4 λy H5=>H5 l=some (.lst ys)/\∃m',m'<m/\W (i+1) m' (ys++[y]) (upd H5 l (.lst (ys++[y])))
    else ∃m',m'<m/\W (i+1) m' ys H4))
def PV{α:Type}:Nat->(List α->Prop)->Prop
 |0,P=>P []
 |n+1,P=>∀a,PV n λus=>P (a::us)
theorem ji{α:Type}:∀n P,PV n P->∀us:List α,us.length=n->P us
 |0,_,h,[],_=>h
 |n+1,_,h,a::us,e=>ji n _ (h a) us (wgY e)
theorem E3(h:o8 J l g j r H Q):y2 (d5 0) 1 J l g j r H Q:=
 let ⟨W,a,t⟩:=h
 ⟨W,a,λi m d e w=>let ⟨p,q⟩:=t i m d e w;⟨p,q.imp id λ⟨a,b,c⟩=>⟨a,b,λx f k n y=>by revert k;refine ji 1 _ ?_;exact λ_=>⟨⟨[some x],rfl,rfl⟩,c x f y⟩⟩⟩⟩
noncomputable def pick(σ:St)(ix:List Nat):St:=ix.map λi=>(σ[i]?).join
def PX(wi:TI)(ix:List Nat)(tt:TT)(te:TE):TE:=λσ H Q=>wi σ H λJ H1=>∀l,H1 l=none->o8 J l (pick σ ix) tt te H1 (λH2=>Q (.ref l) H2)
def N7(wi:TI)(ix:List Nat)(tt:TT)(te:TE)(i:Nat):TS:=λD σ H=>wi σ H λJ H1=>∀l,H1 l=none->o8 J l (pick σ ix) tt te H1 (λH2=>D.nx (σ.set i (some (.ref l))) H2)
structure bZ(X:Cx)(scope:wd8)(x:Str)(ys:List Str)(ix:List Nat):Prop where
 kind:scope.kind=.function
 Hu:∀y∈scope.names,y.2≠.cell
 names:∀y∈scope.names,y.2=.local->scope.names.lookup y.1=some .local
 var:scope.names.lookup x=some .local
 free:N6 scope X.env
 nd:(x::ys).Nodup
 len:ix.length=ys.length
 slots:∀(j:Nat) (y:Str),ys[j]?=some y->∃i:Nat,ix[j]?=some i/\X.N[i]?=some y/\(X.env.scope.names.lookup y=some .cell\/X.env.scope.names.lookup y=some .free)/\scope.names.lookup y=some .free
theorem uQ(h:scope.names.lookup x=some .free):(relabel scope env).names.lookup x=some .cell\/(relabel scope env).names.lookup x=some .free:=by
 unfold relabel;dsimp only
 have key:∀(names:List (Str×wef)),names.lookup x=some .free ->
  ((names.map λ(n,k)=>if (k==wcM&&env.scope.kind == .function&&env.kindOf n==some .cell) then(n,wf0) else(n,k)).lookup x=some .cell \/
   (names.map λ(n,k)=>if (k==wcM&&env.scope.kind == .function&&env.kindOf n==some .cell) then(n,wf0) else(n,k)).lookup x=some .free):=by
  intro names
  induction names with
  |nil=>grind
  |cons y r a=>
   grind
 exact key scope.names h
section
variable{X:Cx}{pins:List (Addr×Obj)}{σ:St}{H:Hp}{s₂:Shared}{scope:wd8}{x:Str}{xs ys:List Str}{ix:List Nat}{cl:List (Str×Addr)}{fp:List Addr}{L:Addr}
theorem Kl(B:bZ X scope x ys ix)(I:Inv X pins σ H s₂)(j:∀b∈fp,wU X pins H b)(l:∀b∈fp,b<s₂.heap.objs.size)(r:s₂.heap.objs.size<=L)
 (g:∀y c,cl.lookup y=some c->X.env.cells.lookup y=some c) (p:∀y∈scope.names,y.2=.free->∃c,cl.lookup y.1=some c):(bH X scope N cl L s₂ H fp (X.pn++pins)).Ok where
 mod:=I.ok.mod
 kind:=B.kind
 glob:=I.ok.glob
 blt:=I.ok.blt
 above:=r
 inj:=λa b c i m=>I.ok.inj a b c (g a c i) (g b c m)
 has:=λa ha=>by
  obtain⟨k,f,hk⟩:=zb (env:=X.env) B.Hu (x:=a) ha;exact p (a,k) f hk
 MO:=λ_ _ h=>nomatch h
 hd:=I.ok.hd
 frames:=I.ok.frames
 Oy:=.inl rfl
 RC:=λb d=>⟨war (waw (l b d) r),λy c h=>(j b d).2.2.2.2.1 y c (g y c h)⟩
 bs:=I.bs
 GJ:=wal I.ok.GJ I.sz
 C0:=λb o e d=>by
  rcases(j b d).2.2.2.1 with z |z
  ·exact I.ok.C0 b o e z
  ·exact absurd (waw (waw (waf e) I.ok.GJ) z) (wbj _)
 EV:=λb d f=>by
  rcases waH.mp (I.uE b f) with z |z
  ·exact(j b d).2.1 z
  ·exact(j b d).2.2.1 z
 pE:=I.stack
 K3:=I.uh
theorem Hv{m₁:Str->Option Value}(B:bZ X scope x ys ix)(I:Inv X pins σ H s₂)(hf:∀b∈fp,wU X pins H b)(J:∀b∈fp,b<s₂.heap.objs.size)(T:s₂.heap.objs.size<=L)
 (g:∀y c,cl.lookup y=some c->X.env.cells.lookup y=some c) (C:∀y∈scope.names,y.2=.free->∃c,cl.lookup y.1=some c)
 (kp:∀b o,s₂.heap.get? b=some o->t.get? b=some o) (U:t.Ns L m₁) (hl:l=s₂.heap.objs.size) (To:l≠L) (ho:t.get? l=some {cls:=.type "list",data:=.seq ([]:List Value).toArray n₀}) :
 Inv (bH X scope (xs++ys) cl L s₂ H fp (X.pn++pins)) [] (wak xs.length none++pick σ ix) (upd H l (.lst [])) {s₂ with heap:=t,toks:=tk}:=by
 subst hl;have Q:=I.b9.fresh (waa s₂.heap.objs.size);refine⟨Kl B I hf J T g C,rfl,I.bare,Un.laid kp (waa _) Q,⟨m₁,U,λi y v D E Z=>?_⟩,λy c e=>?_,?_,λy c e=>?_,λp O=>?_,I.b9.laid kp (waa _) ⟨waA _,[],n₀,.nil,ho⟩,?_⟩
 ·obtain⟨j,rfl⟩:∃j,i=xs.length+j:=by
   by_cases z:i<xs.length
   ·rw[waG (by simpa using z)]at E;simp[z]at E
   ·exact⟨i-xs.length,by omega⟩
  have G:ys[j]?=some y:=by
   have D:(xs++ys)[xs.length+j]?=some y:=D;rwa[waC (Nat.le_add_right _ _),wcy]at D
  obtain⟨i,hi,R,hk,a⟩:=B.slots j y G
  have f:(σ[i]?).join=some v:=by
   have:(pick σ ix)[j]?=some (some v):=by rwa[waC (by simp),waQ,wcy]at E
   unfold pick at this;rw[wa4,hi]at this;exact wae this
  have s:σ[i]?=some (some v):=by
   cases q:σ[i]? with
   |none=>rw[q]at f;cases f
   |some z=>rw[q]at f;rw[show z=some v from f]
  obtain⟨m,hn,M⟩:=I.loc;have N:P5 X.env.scope y:=.inr (hk.imp id id);obtain⟨u,r,l⟩:=M i y v R s N;refine⟨u,r,.inr ⟨uQ a,?_⟩⟩;rcases l with⟨k,_⟩ |⟨_,c,hc,h⟩
  ·have A:X.env.scope.names.lookup y=some .local:=k;rcases hk with z |z
   ·rw[z]at A;cases A
   ·rw[z]at A;cases A
  ·obtain⟨S,w⟩:=C (y,.free) (wcA a) rfl;have:=g y S w;rw[hc]at this;cases this;obtain⟨o,q,d⟩:=h;exact⟨c,w,o,kp c o q,d⟩
 ·obtain⟨v,o,q,d⟩:=I.cell y c (g y c e);exact⟨v,o,kp c o q,d⟩
 ·show upd H s₂.heap.objs.size (.lst []) L=none;rw[ae (wbc To)];exact I.b9.fresh T
 ·obtain⟨v,o,q,d⟩:=I.cell y c (g y c e);rw[ae (war (waf q))];exact I.jJ y c (g y c e)
 ·rw[waZ]at O;obtain⟨q,n,ne,V,d⟩:=I.pin p O;have lt:=waf q;refine⟨kp _ _ q,by rw[ae (war lt)];exact n,war (waw lt T),λY=>?_,d⟩;rcases waH.mp (I.uE p.1 Y) with z |z
  ·exact ne z
  ·exact V z
 ·simp[pick,B.len,bH]
theorem y3{tn:Nat->Heap->Prop}{Qd:Addr->Hp->Prop}{RR:Value->Addr->wd9->Shared->Prop}{E:Value->Shared->Prop}
 (hc:X.calm=true) (B:bZ X scope x ys ix) (I:Inv X pins σ H s₂) (T:Turn X.prog X.w X.K tg J fp it tn) (VQ:tn 0 s₂.heap) (U:∀b∈fp,wU X pins H b)
 (y4:∀y c,cl.lookup y=some c->X.env.cells.lookup y=some c) (Yo:∀y∈scope.names,y.2=.free->∃c,cl.lookup y.1=some c)
 (ht:∀L s H ex pn,JR (bH X scope (xs++ys) cl L s H ex pn) ifs tt) (he:∀L s H ex pn,PE (bH X scope (xs++ys) cl L s H ex pn) elt te)
 (hg:∀L s H ex pn,PG (bH X scope (xs++ys) cl L s H ex pn) tg g) (hw:∀l,H l=none->y2 g xs.length J l (pick σ ix) tt te H (Qd l))
 (Yp:∀D L H' s' m,Inv X pins σ H' s'->s'.heap.Ns L m->H' L=none->L≠X.env.locals->X.s₀.heap.objs.size<=L->(∀y c,X.env.cells.lookup y=some c->c≠L)->(∀p∈X.pn++pins,p.1≠L)->Qd D H'->RR (.ref D) L (.ok .next) s') :
 wpAny (model X.prog X.w) X.A (newList []) (λacc t=>wpAny (model X.prog X.w) X.A (newFunctionEnv scope X.env.globals cl [] X.env.qual none .none (some X.env)) (λPY s₄=>
  codeAny (model X.prog X.w) X.A (.compStart (.ListComp elt [⟨tg,iter,ifs,0⟩] scope pos) 0 (.ref it) acc {PY with scope:=relabel scope X.env}) (RR acc PY.locals) s₄) E t) E s₂:=by
 refine wf8 (wpAny_newFunctionEnv B.Hu (by intro y hy;simp at hy) (λk j a=>?_) B.kind);dsimp only at j a ⊢;generalize O:s₂.heap.push {cls:=.type "list",dict:=none,data:=.seq ([]:List Value).toArray}=C at j a ⊢;have hC:C.objs.size=s₂.heap.objs.size+1:=by rw[<-O,wbK]
 have VR:s₂.heap.objs.size≠C.objs.size:=by rw[hC];exact war (wbI _)
 have f:s₂.heap.objs.size<=C.objs.size:=by rw[hC];exact wc1 _
 have old:∀b o,s₂.heap.get? b=some o->k.get? b=some o:=λb o e=>a.extBut b o (war (waw (waf e) f)) (wa9 _ (O ▸ wa9 _ e));have Tp:k.get? s₂.heap.objs.size=some {cls:=.type "list",data:=.seq ([]:List Value).toArray}:=a.extBut _ _ VR (wa9 _ (O ▸ wav _ rfl));have Q:∀b∈fp,b<s₂.heap.objs.size:=λb h=>let ⟨o,e,_⟩:=T.obj 0 _ VQ b h;waf e
 have Yq:∀b∈fp,∀o,s₂.heap.get? b=some o->k.get? b=some o:=λb _ o e=>old b o e;have VS:tn 0 k:=T.keep 0 _ _ VQ Yq;obtain⟨W,⟨m0,w0⟩,turn⟩:=hw s₂.heap.objs.size (I.b9.fresh (waa _))
 have N:∀t:Shared,t={s₂ with heap:=k,toks:=s₂.toks+([]:List (Str×Value)).length} ->
  codeAny (model X.prog X.w) X.A (.compLoop (.ListComp elt [⟨tg,iter,ifs,0⟩] scope pos) 0 (.ref it) (.ref s₂.heap.objs.size) (compEnvC scope cl C.objs.size X.env))
   (RR (.ref s₂.heap.objs.size) C.objs.size) t:=by
  rintro t rfl;have I0:=Hv (xs:=xs) (tk:=s₂.toks+([]:List (Str×Value)).length) (n₀:=0) (m₁:=_) (L:=C.objs.size) B I U Q f y4 Yo old j rfl VR Tp
  refine F9 (env:=compEnvC scope cl C.objs.size X.env)
   (λn s'=>∃i G vs H',vs.length=xs.length/\Inv (bH X scope (xs++ys) cl C.objs.size s₂ H fp (X.pn++pins)) [] (vs++pick σ ix) H' s'/\tn i s'.heap/\(∀b∈fp,H' b=none)/\W i n G H') ?_ m0
   ⟨0,[],_,_,waQ,I0,VS,λb h=>by rw[ae (war (Q b h))];exact(U b h).1,w0⟩
  rintro n s3 ⟨i,G,vs,H3,hv,I3,VU,VW,w3⟩;obtain⟨Hw,alt⟩:=turn i n G H3 w3
  have M:∀{H':Hp},(∀b∈fp,H' b=none)->∀b∈fp,wU (bH X scope (xs++ys) cl C.objs.size s₂ H fp (X.pn++pins)) [] H' b:=λhn b h=>
   ⟨hn b h,war (waw (Q b h) f),λhm=>by
     rcases waH.mp (I.uE b hm) with z |z
     ·exact(U b h).2.1 z
     ·exact(U b h).2.2.1 z,.inl h,λy c e=>(U b h).2.2.2.2.1 y c (y4 y c e),λp hp=>(U b h).2.2.2.2.2 p (by simpa [bH] using hp)⟩
  rcases alt with⟨stop,qd⟩ |⟨go,hsz,step⟩
  ·refine bY (T.done (bH X scope (xs++ys) cl C.objs.size s₂ H fp (X.pn++pins)) rfl rfl rfl hc i [] s3 _ H3 _ I3 (M VW) VU stop) λr s4 ⟨hr,Y⟩=>?_;subst hr;obtain⟨m,hn,_⟩:=Y.loc;refine Yp s₂.heap.objs.size C.objs.size H3 s4 m ?_ hn Y.free (wcb (waw I.lt f)) (wal I.sz f) (λy c e=>?_) (λp hp=>?_) qd
   ·exact I.xO Y.os Y.base Y.b9 Y.bare λb h=>⟨(U b h).2.2.2.1,(U b h).2.1,(U b h).2.2.2.2.1,(U b h).2.2.2.2.2⟩
   ·obtain⟨v,o,q,d⟩:=I.cell y c e;exact war (waw (waf q) f)
   ·exact war (waw (waf (I.pin p hp).1) f)
  ·refine bY (T.item (bH X scope (xs++ys) cl C.objs.size s₂ H fp (X.pn++pins)) rfl rfl rfl hc i [] s3 _ H3 _ I3 (M VW) VU go) λr s4 ⟨u,hr,h4⟩=>?_;subst hr;refine bY h4 λ_ s5 ⟨xv,H5,I5,r5,y5,R,Yr⟩=>?_;have Ys:=I5.pinned (M Yr) (T.obj _ _ R);refine wba (hg _ _ _ _ _ _ s5 _ H5 xv u _ Ys r5 (step xv _ vs hv y5)) (λ_ s6 ⟨σ6,H6,I6,⟨PU,VX,e6⟩,q6⟩=>?_) λ_ _ z=>wb3 z;subst e6;refine wba (ht _ _ _ _ _ _ s6 _ _ _ I6 q6) (λb s7 ⟨H7,I7,q7⟩=>?_) λ_ _ z=>wb3 z
   have again:∀{S:St} {V:Hp} {Z:Shared},Inv (bH X scope (xs++ys) cl C.objs.size s₂ H fp (X.pn++pins)) ([]++uH fp s5.heap) S V Z ->
    Inv (bH X scope (xs++ys) cl C.objs.size s₂ H fp (X.pn++pins)) [] S V Z/\tn (i+1) Z.heap/\∀b∈fp,V b=none:=λ{S V Z} I8=>by
    refine⟨I8.pG,T.keep _ _ _ R λb h o e=>(I8.pin (b,o) (waL _ (waL _ (kn h e)))).1,λb h=>?_⟩;obtain⟨o,e,d⟩:=T.obj _ _ R b h;exact(I8.pin (b,o) (waL _ (waL _ (kn h e)))).2.1
   cases b with
   |false=>
    rw[if_neg wap]at q7 ⊢;obtain⟨m',hm,w7⟩:=q7;obtain⟨a1,a2,a3⟩:=again I7;exact⟨m',hm,i+1,G,PU,H7,VX,a1,a2,a3,w7⟩
   |true=>
    rw[if_pos rfl]at q7 ⊢;refine wba (he _ _ _ _ _ _ s7 _ _ _ I7 q7) (λuy Z ⟨y,V,I8,r8,RN,m',hm,w8⟩=>?_) λ_ _ z=>wb3 z
    refine wba (cP (X:=bH X scope (xs++ys) cl C.objs.size s₂ H fp (X.pn++pins)) _ Z _ V (.ref s₂.heap.objs.size) [y] (.ref s₂.heap.objs.size) [uy] (λ_ H9=>H9=upd V s₂.heap.objs.size (.lst (G++[y]))) I8 rfl (.cons r8 .nil) ⟨_,G,y,rfl,rfl,RN,hsz,rfl⟩)
     (λ_ s9 ⟨v9,H9,I9,_,e9⟩=>?_) λ_ _ z=>wb3 z
    subst e9;obtain⟨a1,a2,a3⟩:=again I9;exact⟨m',hm,i+1,G++[y],PU,_,VX,a1,a2,a3,w8⟩
 exact codeAny_compStart_list (N _ rfl) (T.self X.A 0 _ _ _ VS (N _ rfl))
theorem uR{C:It->Addr->St->Hp->(Hp->Prop)->Prop}(hc:X.calm=true)(B:bZ X scope x ys ix)(hg:∀cl L s H ex pn,PG (bH X scope (xs++ys) cl L s H ex pn) U g)(hC:∀J l j H Q,C J l j H Q->y2 g xs.length J l j tt te H Q)(hi:PI X U iter wi)
 (ht:∀cl L s H ex pn,JR (bH X scope (xs++ys) cl L s H ex pn) p tt) (he:∀cl L s H ex pn,PE (bH X scope (xs++ys) cl L s H ex pn) r te)
 (hs:∀v,wc4 iter X.env v=pure v:=by intro _;rfl):PE X (.ListComp r [⟨U,iter,p,0⟩] scope pos) (λσ H Q=>wi σ H λJ H1=>∀l,H1 l=none->C J l (pick σ ix) H1 (λH2=>Q (.ref l) H2)):=by
 intro pins s σ H Q I h;obtain⟨cl,a,d,f⟩:=o7 (scope:=scope) (env:=X.env) (λy G i=>I.ok.has y.1 (B.free y G i));rw[eval_ListComp];refine wfr (use:=none) rfl hs a B.kind B.names (bY (hi pins s σ H _ I h) λZ s1 k=>bY k λM s2 n=>?_);obtain⟨it,fp,tn,J,H2,e,N,T,t,f2,hw⟩:=n;subst e;refine y3 (RR:=λu C=>compPost (model X.prog X.w) X.A X.xe none (EP X pins σ Q) u C) (Qd:=λl z=>Q (.ref l) z) hc B N T t f2 d f (ht cl) (he cl) (hg cl) (λl h=>hC _ _ _ _ _ (hw l h)) ?_;intro D L z O m R hn c k n S V q;exact⟨m,hn,λh' E=>⟨.ref D,z,R.turned (it:=L) (t':=O.toks) (λb o Y e=>(E.2 b Y).trans e) c k (.inr n) S V,rfl,q⟩⟩
theorem E4(B:bZ X scope x ys ix)(cl L s H ex pn):PG (bH X scope ([x]++ys) cl L s H ex pn) (.Name x g) (d5 0):=
 have a:(relabel scope X.env).names.lookup x=some .local:=wcs B.var
 km B.nd rfl (.inl a) (.inr a)
theorem cU(hc:X.calm=true)(B:bZ X scope x ys ix)(hi:PI X (.Name x t) iter I)
 (T:∀cl L s H ex pn,JR (bH X scope (x::ys) cl L s H ex pn) g p) (U:∀cl L s H ex pn,PE (bH X scope (x::ys) cl L s H ex pn) j r)
 (hs:∀v,wc4 iter X.env v=pure v:=by intro _;rfl):PE X (.ListComp j [⟨.Name x t,iter,g,0⟩] scope pos) (PX I ix p r):=
 uR (C:=λJ l a H Q=>o8 J l a p r H Q) (xs:=[x]) hc B (E4 B) (λ_ _ _ _ _=>E3) hi T U hs
end
section
variable{X:Cx}{scope:wd8}{x:Str}{xs ys:List Str}{ix:List Nat}
theorem sI{C:It->Addr->St->Hp->(Hp->Prop)->Prop}(hc:X.calm=true)(B:bZ X scope x ys ix)(hN:X.N.Nodup)(hy:X.N[i]?=some y)(r:X.env.scope.names.lookup y=some .local)(hg:∀cl L s H ex pn,PG (bH X scope (xs++ys) cl L s H ex pn) tg g)(hC:∀J l t H Q,C J l t H Q->y2 g xs.length J l t tt te H Q)(hi:PI X tg iter wi)
 (ht:∀cl L s H ex pn,JR (bH X scope (xs++ys) cl L s H ex pn) j tt) (he:∀cl L s H ex pn,PE (bH X scope (xs++ys) cl L s H ex pn) p te)
 (Tq:wc6 (.ListComp p [⟨tg,iter,j,0⟩] scope pos) (some (.Name y py)) U.line X.env=pure true:=by rfl)
 (hs:∀v,wc4 iter X.env v=pure v:=by intro _;rfl):PS X (.Assign [.Name y py] (.ListComp p [⟨tg,iter,j,0⟩] scope pos) U) (λD σ H=>wi σ H λJ H1=>∀l,H1 l=none->C J l (pick σ ix) H1 (λH2=>D.nx (σ.set i (some (.ref l))) H2)):=by
 intro c s σ H D I h;obtain⟨cl,d,u,E⟩:=o7 (scope:=scope) (env:=X.env) (λy hy G=>I.ok.has y.1 (B.free y hy G));rw[exec_Assign_Name_used _ _ _ _ Tq];refine wa7 (wdz (wa7 ?_));show wpAny _ X.A (do let _ <-comprehension (.ListComp p [⟨tg,iter,j,0⟩] scope pos) scope X.env _ (newList []) false (eval iter X.env) (some (assign (.Name y py) X.env))) _ _ s
 refine wa7 (wba (wfr (use:=some (assign (.Name y py) X.env)) (Q:=λ_ k=>SP X c D .next k) rfl hs d B.kind B.names
  (bY (hi c s σ H _ I h) λxv s1 n=>bY n λT1 s2 M=>?_)) (λ_ k hq=>waz (waz hq)) λ_ _ e=>e)
 obtain⟨it,fp,tn,J,H2,e,I2,T,O,f2,hw⟩:=M;subst e;refine y3 (RR:=λR C=>compPost (model X.prog X.w) X.A X.xe (some (assign (.Name y py) X.env)) (λ_ k=>SP X c D .next k) R C) (Qd:=λl S=>D.nx (σ.set i (some (.ref l))) S) hc B I2 T O f2 u E (ht cl) (he cl) (hg cl) (λl h=>hC _ _ _ _ _ (hw l h)) ?_;intro D' L S k m I' hn f n M h3 h4 q;show wpAny _ X.A (assign (.Name y py) X.env (.ref D')) _ _ _;refine wpAny_assign_Name (xN I' hN hy (.inl r) (v:=.ref D') rfl (λV Y sb=>?_) (.inr r));obtain⟨a,Z,ha⟩:=sb
 have hL:L≠a:=by
  rcases ha with z |z
  ·rw[z];exact n
  ·exact(h3 y a z).symm
 refine⟨m,hn.sameBut Z hL,λh' M8=>⟨_,S,Y.turned (it:=L) (t':=V.toks) (λb o hb e=>(M8.2 b hb).trans e) f n (.inr M) h3 h4,q⟩⟩
theorem dS(hc:X.calm=true)(B:bZ X scope x ys ix)(hN:X.N.Nodup)(hy:X.N[i]?=some y)(r:X.env.scope.names.lookup y=some .local)(hi:PI X (.Name x I) iter wi)
 (ht:∀cl L s H ex pn,JR (bH X scope (x::ys) cl L s H ex pn) g T) (he:∀cl L s H ex pn,PE (bH X scope (x::ys) cl L s H ex pn) j U)
 (t:wc6 (.ListComp j [⟨.Name x I,iter,g,0⟩] scope pos) (some (.Name y py)) p.line X.env=pure true:=by rfl)
 (hs:∀v,wc4 iter X.env v=pure v:=by intro _;rfl):PS X (.Assign [.Name y py] (.ListComp j [⟨.Name x I,iter,g,0⟩] scope pos) p) (N7 wi ix T U i):=
 sI (C:=λJ l a H Q=>o8 J l a T U H Q) (xs:=[x]) hc B hN hy r (E4 B) (λ_ _ _ _ _=>E3) hi ht he t hs
end
theorem ee{Ok:Hp->Prop}{Q:Hp->Prop}(p:V->Bool)(g:V->V)(T:ml J Ok xs)(hl:H l=none)(hz:xs.length<=sizeLine)(t:∀j,a9 H j->Ok j)
 (U:∀x r C,x∈xs->a9 H r->(∀j,a9 r j->C (p x) j)->tt (some x::I) r C)
 (he:∀x r C,x∈xs->p x=true->a9 H r->(∀j,a9 r j->C (g x) j)->te (some x::I) r C)
 (hd:∀j,a9 H j->j l=some (.lst ((xs.filter p).map g))->Q j):o8 J l I tt te H Q:=by
 refine⟨λi m n d=>m=xs.length-i/\i<=xs.length/\a9 H d/\d l=some (.lst n)/\n=((xs.take i).filter p).map g,⟨xs.length,by simp,waA _,a9.upd hl,a7,by simp⟩,?_⟩;rintro i m n d ⟨rfl,hi,c,h,k⟩;refine⟨h,?_⟩
 by_cases a:i<xs.length
 ·refine .inr ⟨T.go i d (t _ c) a,?_,λx r y=>?_⟩
  ·rw[k,wa0];refine wbg (wb7 _ _) ?_;rw[wai];omega
  ·obtain⟨e,s⟩:=T.uG i d x r (t _ c) a y;subst e;have mem:x∈xs:=wa8 s;have u:xs.take (i+1)=xs.take i++[x]:=by rw[waP,s];rfl
   refine U x _ _ mem c λw f=>?_
   cases q:p x with
   |false=>
    rw[if_neg wap];refine⟨xs.length-(i+1),by omega,rfl,a,c.trans f,f _ _ h,?_⟩;rw[u,wbw,k];simp[q]
   |true=>
    rw[if_pos rfl];refine he x _ _ mem q (c.trans f) λz v=>?_;refine⟨v _ _ (f _ _ h),xs.length-(i+1),by omega,rfl,a,?_,a7,?_⟩
    ·intro b o e;rw[ae (ag e hl)];exact v _ _ (f _ _ (c _ _ e))
    ·rw[u,wbw,k];simp[q]
 ·have e:i=xs.length:=by omega
  subst e;refine .inl ⟨T.stop d (t _ c),hd d c ?_⟩;rw[h,k,waI]
theorem sJ:∀{us:List Value},Vals (bs.map V.bl) us->LSm.BoolsAre us bs:=by
 induction bs with
 |nil=>intro us r;rw[wdP]at r;cases r;exact .nil
 |cons n ns a=>
  intro us r;rw[wax]at r
  cases r with
  |cons b c=>
   cases b;exact .cons n (a c)
theorem Ck:∀{us:List Value},Vals (ns.map V.str) us->StrsAre us ns:=by
 induction ns with
 |nil=>intro us r;rw[wdP]at r;cases r;exact .nil
 |cons n ns a=>
  intro us r;rw[wax]at r
  cases r with
  |cons b c=>
   obtain⟨t,e⟩:=b;subst e;exact .cons n t (a c)
theorem y6:∀{vs:List Value} {ns:List Str},StrsAre vs ns->Vals (ns.map V.str) vs
 |_,_,.nil=>.nil
 |_,_,.cons n t h=>.cons ⟨t,rfl⟩ (y6 h)
section
variable{X:Cx}
theorem As(hc:X.calm=true):eN X (.builtin "any") (λxs H Q=>∃p bs,xs=[.ref p]/\aL X.K H p (wdl V.bl bs)/\Q (.bl (bs.any id)) H):=by
 intro d s σ H xs o Q I r h;obtain⟨p,bs,rfl,j,q⟩:=h;obtain⟨u,rfl,k⟩:=vals1 r;cases k;obtain⟨a,l,pl,t⟩:=I.list j;have f:=sJ l;have hl:=pl.isList;have m:=I.ok.hd hc;have c:p<s.heap.objs.size:=by obtain⟨_,e,_⟩:=hl;exact waf e
 refine call_any_walk (wcN hl ?_)
 refine⟨s.heap.objs.size,[s.heap.objs.size,p],[s.heap.objs.size],a.toArray.size,_,_,λi=>(bs[i]?).getD false,rfl,wff (A:=X.A.in1) m _ p (war c) a.toArray,
  ⟨⟨_,wav _ rfl,rfl,rfl⟩,hl.push _⟩,λi v w x y n g=>?_,λz B hk=>?_⟩
 ·obtain⟨b,e,rfl⟩:=f.get i v (by simpa using n);simp only[e,whu]at g;exact wbN g
 ·have e:((waD a.toArray.size).any λi=>(bs[i]?).getD false)=bs.any id:=by
   rw[waB,f.length];exact LSm.range_any bs
  rw[e];exact⟨.bl _,H,I.kept (LSm.kept_iter hk),rfl,q⟩
theorem Au(hc:X.calm=true):eN X (.builtin "all") (λxs H Q=>∃p bs,xs=[.ref p]/\aL X.K H p (wdl V.bl bs)/\Q (.bl (bs.all id)) H):=by
 intro d s σ H xs o Q I r h;obtain⟨p,bs,rfl,j,q⟩:=h;obtain⟨u,rfl,k⟩:=vals1 r;cases k;obtain⟨a,l,pl,t⟩:=I.list j;have f:=sJ l;have hl:=pl.isList;have m:=I.ok.hd hc;have c:p<s.heap.objs.size:=by obtain⟨_,e,_⟩:=hl;exact waf e
 refine call_all_walk (wcN hl ?_)
 refine⟨s.heap.objs.size,[s.heap.objs.size,p],[s.heap.objs.size],a.toArray.size,_,_,λi=>(bs[i]?).getD true,rfl,wff (A:=X.A.in1) m _ p (war c) a.toArray,
  ⟨⟨_,wav _ rfl,rfl,rfl⟩,hl.push _⟩,λi v w x y n g=>?_,λz B hk=>?_⟩
 ·obtain⟨b,e,rfl⟩:=f.get i v (by simpa using n);simp only[e,whu]at g;exact wbN g
 ·have e:((waD a.toArray.size).all λi=>(bs[i]?).getD true)=bs.all id:=by
   rw[waB,f.length];exact LSm.range_all bs
  rw[e];exact⟨.bl _,H,I.kept (LSm.kept_iter hk),rfl,q⟩
theorem Hx(hk:kvs.map (·.1)=g.map (waj:Str->Key))(rel:KV kvs vs)(hl:us.length=vs.length)
 (l:∀(j:Nat) (u:Value),us[j]?=some u->∃k x,vs[j]?=some (k,x)/\(bz P w).is k u=true):StrsAre us g:=by
 have e:vs.map (·.1)=g.map (waj:Str->Key):=rel.keys ▸ hk;clear hk rel
 induction g generalizing us vs with
 |nil=>
  have:vs=[]:=by cases vs with |nil=>rfl |cons a b=>simp at e
  subst this;have:us=[]:=wfG.mp hl;subst this;exact .nil
 |cons k g i=>
  cases vs with
  |nil=>simp at e
  |cons v vs=>
   cases us with
   |nil=>simp at hl
   |cons u us=>
    rw[wax,wax]at e;injection e with m n
    obtain⟨f,x,o,p⟩:=l 0 u rfl;have c:v=(f,x):=by simpa using o
    subst c;have d:f=(waj k:Key):=m;subst d;obtain⟨t,rfl⟩:=wgH (x:=k) (v:=u) p;exact .cons k t (i (by simpa using hl) (λj q h=>l (j+1) q (by simpa using h)) n)
theorem zc(hc:X.calm=true):eN X (.builtin "sorted") (λxs H Q=>∃d kvs g,xs=[.ref d]/\H d=some (.dK kvs)/\kvs.map (·.1)=wdl (waj:Str->Key) g/\g.length<64 /\
 ∀l ss,H l=none->ss.Perm g->wfE ss=true->Q (.ref l) (upd H l (.lst (ss.map V.str)))):=by
 intro k s σ H xs U Q I r h;obtain⟨d,kvs,g,rfl,hd,hk,v,q⟩:=h;obtain⟨u,rfl,N⟩:=vals1 r;cases N;obtain⟨D,lo,x,rel,O⟩:=sG I.b9 hd;obtain⟨ep,y⟩:=O.dictAt;have R:=I.ok.hd hc;have n:kvs.length=g.length:=by have:=congrArg wdD hk;simpa using this
 have hn:x.length<=sizeLine:=by rw[<-rel.length];exact D
 refine Calls.call_function_entry kind_sorted plain_sorted entry_sorted (args_sorted1 _) ?_;unfold weL.«sorted»;refine wa7 (m:=checkCount "sorted" 1 1 _) (waz ?_);refine wa7 (PySem.W.kdu_collect (A:=X.A.in1) (whv (knd:=bz X.prog X.w) (kvs:=x) (ep:=ep) lo) R y hn λi E a z c=>?_);have hl:a.toList.length=x.length:=by rw[wcz];exact c.1
 refine wa7 (wpAny_newList ?_ (by rw[hl];exact hn));have B:StrsAre a.toList g:=Hx (P:=X.prog) (w:=X.w) hk rel hl λj u e=>c.2 j u (by rw[<-wck];exact e);have f:(i.push (seqObj "list" a.toList.toArray 0)).get? i.objs.size=some (seqObj "list" a.toList.toArray 0):=wav _ rfl;have p:a.toList.length<64:=by rw[hl,<-rel.length,n];exact v
 refine wa7 (wbn (wpAny_call_entry slot_list_sort ⟨_,f,rfl⟩ entry_list_sort (list_sort_treeK strKind_oneLt f B.keysOf (λG J rest e=>keyKind_strs (by rw[<-e];exact B)) p λC a1 a2=>⟨_,rfl,?_⟩) (args_list_sort _)));obtain⟨t,b1,L,S⟩:=sorted_out_str B a1 a2;have M:Inv X k σ H {s with heap:=i,toks:=E}:=I.kept z;obtain⟨e,T⟩:=sortedHeap_at (out:=(arrOf C).map (·.2)) f;refine waz ⟨_,rfl,⟨.ref i.objs.size,upd H i.objs.size (.lst (t.map V.str)),M.laid (t':=E) (λb o q=>?_) (waa _) ⟨?_,_,e,y6 b1,?_⟩,rfl,q _ t (M.b9.fresh (waa _)) L S⟩⟩
 ·have lt:b<i.objs.size:=waf q;rw[sortedHeap_old (war lt) (by rw[size_push'];exact we4 lt)];exact wa9 _ q
 ·rw[wa0,L.length_eq,<-n];exact D
 ·rw[wdw];exact T
theorem y7:∀{kvs:List (Key×V)} {vs:List (Key×Value)} {us:List Value},KV kvs vs->us.length=vs.length ->
 (∀(j:Nat) (u:Value),us[j]?=some u->∃k x,vs[j]?=some (k,x)/\(bz P w).is k u=true)->Vals (kvs.map λg=>kV g.1) us
 |_,_,us,.nil,hl,_=>by
  have:us=[]:=wfG.mp hl;subst this;exact .nil
 |_,_,us,.cons (a:=p) (b:=q) r t,hl,d=>by
  cases us with
  |nil=>simp at hl
  |cons u us=>
   obtain⟨f,x,l,m⟩:=d 0 u rfl;have c:q=(f,x):=by simpa using l
   subst c;refine .cons ?_ (y7 t (by simpa using hl) λj n h=>d (j+1) n (by simpa using h));have e:p.1=f:=r.1;show RelV (kV p.1) u;rw[e];rcases cp m with⟨i,t,rfl,rfl⟩ |⟨y,t,rfl,rfl⟩
   ·exact⟨t,rfl⟩
   ·exact⟨t,rfl⟩
theorem kC(hc:X.calm=true):eN X (.type "list") (λxs H Q=>∃d kvs,xs=[.ref d]/\H d=some (.dK kvs)/\∀l,H l=none->Q (.ref l) (upd H l (.lst (kvs.map λg=>kV g.1)))):=by
 intro k s σ H xs y Q I r h;obtain⟨d,kvs,rfl,hd,q⟩:=h;obtain⟨u,rfl,n⟩:=vals1 r;cases n;obtain⟨m,lo,f,rel,o⟩:=sG I.b9 hd;obtain⟨ep,i⟩:=o.dictAt;have p:=I.ok.hd hc;have hn:f.length<=sizeLine:=by rw[<-rel.length];exact m
 refine whw (whv (knd:=bz X.prog X.w) (kvs:=f) (ep:=ep) lo) p i hn λt v b c kp x a=>?_;have hl:b.toList.length=f.length:=by rw[wcz];exact a.1
 refine⟨.ref s.heap.objs.size,_,I.laid (t':=v) kp (waa _) (show cq X.prog X.w _ t _ (.lst (kvs.map λg=>kV g.1)) from ⟨?_,b.toList,c,y7 (P:=X.prog) (w:=X.w) rel hl λj u e=>a.2 j u (by rw[<-wck];exact e),?_⟩),rfl,q _ (I.b9.fresh (waa _))⟩
 ·rw[wa0];exact m
 ·rw[wdw];exact x
noncomputable def mz(v d:Addr):HO:=.ext λh=>h.IsValuesView v d
theorem y8:M4 X "dict.values" (λx xs H Q=>∃d kvs,x=.ref d/\xs=[]/\H d=some (.dK kvs)/\∀v,H v=none->Q (.ref v) (upd H v (mz v d))):=by
 intro a s σ H x xs v j Q I f g h;obtain⟨d,kvs,rfl,rfl,hd,q⟩:=h;cases f;have:=g.zero;subst this;obtain⟨l,lo,i,rel,c⟩:=sG I.b9 hd;refine wfq wdR c.typeIs PySem.F.entry_dict_values (PySem.F.args_dict_values_1 _) (meets_dict_values (bz X.prog X.w) d lo) ⟨⟨i,c⟩,?_⟩;refine⟨.ref s.heap.objs.size,_,I.laid (t':=s.toks) (o:=mz s.heap.objs.size d) (λb o e=>wa9 _ e) (waa _) ⟨⟨_,wav _ rfl,rfl,rfl⟩,⟨_,wav _ rfl⟩,λm n ⟨o,e,r⟩ k=>⟨o,k o e,r⟩⟩,rfl,q _ (I.b9.fresh (waa _))⟩
theorem Cm(hc:X.calm=true):eN X (.type "list") (λxs H Q=>∃v d kvs,xs=[.ref v]/\H v=some (mz v d)/\H d=some (.dK kvs)/\∀l,H l=none->Q (.ref l) (upd H l (.lst (kvs.map (·.2))))):=by
 intro k s σ H xs D Q I r h;obtain⟨v,d,kvs,rfl,n,hd,q⟩:=h;obtain⟨u,rfl,o⟩:=vals1 r;cases o;obtain⟨m,lo,b,rel,p⟩:=sG I.b9 hd;obtain⟨ep,i⟩:=p.dictAt;obtain⟨g,_⟩:=(show cq X.prog X.w H s.heap v (mz v d) from I.b9 v _ n);have x:=I.ok.hd hc;have hn:b.length<=sizeLine:=by rw[<-rel.length];exact m
 refine whw (wgZ (knd:=bz X.prog X.w) (kvs:=b) (ep:=ep)) x ⟨g,i⟩ hn λy z a c kp A f=>?_;have hl:a.toList.length=b.length:=by rw[wcz];exact f.1
 have e:a.toList=b.map (·.2):=PySem.W.kdl_vals_eq a.toList hl λj u e=>f.2 j u (by rw[<-wck];exact e)
 have B:∀{kvs:List (Key×V)} {b:List (Key×Value)},KV kvs b->Vals (kvs.map (·.2)) (b.map (·.2)):=λ{kvs b} r=>by
  induction r with
  |nil=>exact .nil
  |cons r t C=>exact .cons r.2 C
 refine⟨.ref s.heap.objs.size,_,I.laid (t':=z) kp (waa _) (show cq X.prog X.w _ y _ (.lst (kvs.map (·.2))) from ⟨?_,a.toList,c,by rw[e];exact B rel,?_⟩),rfl,q _ (I.b9.fresh (waa _))⟩
 ·rw[wa0];exact m
 ·rw[wdw];exact A
noncomputable def oQ:List V->List V->Bool
 |[],[]=>true
 |x::xs,y::ys=>rp x y&&oQ xs ys
 |_,_=>false
theorem Av(h:xs.length≠ys.length):oQ xs ys=false:=by
 induction xs generalizing ys with
 |nil=>cases ys with
  |nil=>exact absurd rfl h
  |cons _ _=>rfl
 |cons x xs a=>cases ys with
  |nil=>rfl
  |cons y ys=>
   show (rp x y&&oQ xs ys)=false;rw[a (by simpa using h),we1]
theorem oR:∀{xs ys:List V},xs.length=ys.length->oQ xs ys=(waD xs.length).all λj=>rp (xs.getD j .non) (ys.getD j .non)
 |[],[],_=>rfl
 |[],_::_,h=>by simp at h
 |_::_,[],h=>by simp at h
 |x::xs,y::ys,h=>by
  show (rp x y&&oQ xs ys)=_;rw[waM,List.range_succ_eq_map,weZ,wfs,oR (by simpa using h)];rfl
inductive Tr(K:wa2)(x y:V)(H:Hp)(Q:VK):Prop
 |mk (a b xs ys) (_:x=.ref a) (_:y=.ref b) (_:aL K H a xs) (_:aL K H b ys) (_:xs.all eO=true) (_:ys.all eO=true) (_:Q (.bl (oQ xs ys)) H)
theorem Cp(l:X.A.units<wcF):nT X (wbm .Eq) (Tr X.K):=by
 intro m s σ H x y v u Q I C D h;obtain⟨a,b,f,g,rfl,rfl,ha,E,G,J,q⟩:=h;cases C;cases D;obtain⟨d,n,o,_⟩:=I.list ha;obtain⟨c,p,r,_⟩:=I.list E;have L:=n.length;have U:=p.length
 by_cases hl:f.length=g.length
 ·refine SeqAt.eq_listAt (e:=λj=>rp (f.getD j .non) (g.getD j .non)) o.isList r.isList (by simp only[waB];omega) l (λj M N=>?_) ?_
  ·have i:j<d.length:=by simpa using M
   have k:j<c.length:=by simpa using N
   have t:f[j]?=some (f.getD j .non):=by rw[wa3];simp[show j<f.length by omega]
   have w:g[j]?=some (g.getD j .non):=by rw[wa3];simp[show j<g.length by omega]
   obtain⟨O,z,R⟩:=n.get t;obtain⟨S,B,T⟩:=p.get w
   have g1:d.toArray[j]=O:=by
    have:d[j]?=some d[j]:=by simp[i]
    rw[this]at z;simpa using wae z
   have g2:c.toArray[j]=S:=by
    have:c[j]?=some c[j]:=by simp[k]
    rw[this]at B;simpa using wae B
   rw[g1,g2];exact z7 R T (waU.mp G _ (wa8 t)) (waU.mp J _ (wa8 w))
  ·rw[oR hl]at q;refine⟨.bl _,H,I,rfl,?_⟩;rw[waB,<-L];exact q
 ·refine SeqAt.eq_list_lengthsAt o.isList r.isList (by simp only[waB,bne_iff_ne];omega) l ⟨.bl false,H,I,rfl,?_⟩;rw[Av hl]at q;exact q
theorem cM:eN X (.builtin "isinstance") (λxs H Q=>∃x T t b,xs=[x,.ty T]/\iY X.K H x t/\whO X.K t (.type T)=some b/\Q (.bl b) H):=by
 intro a s σ H xs g Q I r h;obtain⟨x,T,t,b,rfl,ty,e,q⟩:=h;obtain⟨u,i,rfl,c,d⟩:=vals2 r;cases d;exact F1 I c ty e λf=>⟨.bl b,H,I.tok f,rfl,q⟩
theorem kD:Ta X (λx lo hi H Q=>∃z,x=.str z/\z.length<=sizeLine/\Q (.str (wb9 z lo hi)) H):=by
 intro a s σ H x v p r lo hi sl Q I m n pl f h;obtain⟨z,rfl,b,q⟩:=h;obtain⟨t,rfl⟩:=m;refine⟨"str",_,slot_str_getitem.lookup,typeIs_str s z t,?_⟩;have fin:∀d k,EP X a σ Q (.str (wb9 z lo hi) d) {s with toks:=k}:=λd k=>⟨.str _,H,I.tok k,⟨d,rfl⟩,q⟩;obtain⟨o,c,hc,hd⟩:=n
 cases pl with
 |none=>cases f with
  |none=>exact wd2 (l:=none) (u:=none) (st:=none) ⟨o,c,hc,hd⟩ rfl (wey ⟨wal (wez z _ _) b,fin⟩)
  |int j e=>exact wd2 (l:=none) (u:=some (j,e)) (st:=none) ⟨o,c,hc,hd⟩ rfl (wey ⟨wal (wez z _ _) b,fin⟩)
 |int i g=>cases f with
  |none=>exact wd2 (l:=some (i,g)) (u:=none) (st:=none) ⟨o,c,hc,hd⟩ rfl (wey ⟨wal (wez z _ _) b,fin⟩)
  |int j e=>exact wd2 (l:=some (i,g)) (u:=some (j,e)) (st:=none) ⟨o,c,hc,hd⟩ rfl (wey ⟨wal (wez z _ _) b,fin⟩)
theorem E5:M4 X "str.join" (λx xs H Q=>∃z p ts,x=.str z/\xs=[.ref p]/\aL X.K H p (wdl V.str ts)/\(ts.map (·.length)).sum+ts.length*z.length<=16777216/\Q (.str (wdx z ts)) H):=by
 intro a s σ H x xs v l Q I b c h;obtain⟨z,p,ts,rfl,rfl,d,e,q⟩:=h;obtain⟨t,rfl⟩:=b;obtain⟨u,rfl,f⟩:=c.one;cases f;obtain⟨g,i,pl,_⟩:=I.list d;exact join_list pl.isList (by simpa using Ck i) e λj k=>⟨.str _,H,I.tok k,⟨j,rfl⟩,q⟩
end
noncomputable def OC(K:wa2)(a:Addr):It:=
 ⟨λi H=>∃xs x,aL K H a xs/\xs[i]?=some x,λi H x H'=>∃T xv,H T=none/\x=.ref T/\H'=upd H T (.tup [.int (i:Nat),xv])/\∀xs,aL K H a xs->xs[i]?=some xv,λi H=>∃xs,aL K H a xs/\xs.length<=i⟩
theorem Fa{P:wat}{w:World}{K:wa2}{C:List Expr}{k:Nat}{pos:Pos}(a e it:Addr)(J:e≠it):Turn P w K (.Tuple C k pos) (OC K a) [e,it] e (λi h=>(∃old,IsEnum h e it (i:Nat) old)/\h.IsListIter it a i) where
 mem:=by simp
 obj:=λi h st b d=>by
  obtain⟨⟨old,f⟩,o,N,hc,hd⟩:=st;rcases waH.mp d with rfl |d
  ·exact⟨_,f,λv z=>by
    have z':we6 _=wfN v:=z
    cases z'⟩
  ·have A:b=it:=by simpa using d
   subst A;exact⟨o,N,λv z=>by rw[hd]at z;cases z⟩
 keep:=λi h h' st k=>⟨st.1.imp λold f=>k e (by simp) _ f,st.2.at λo q=>k it (by simp) o q⟩
 item:=by
  intro X O hw Q hc i l s σ H E I B st R;subst O hw Q;obtain⟨xs,x,M,S⟩:=R;obtain⟨T,U,p,hz⟩:=I.list M;obtain⟨u,hu,ru⟩:=U.get S;obtain⟨⟨old,f⟩,hit⟩:=st;obtain⟨f0,f1,f2,f3,f4,f5⟩:=B e (by simp);obtain⟨V,g1,g2,g3,Y,Z⟩:=B it (by simp);refine wpAny_pyNext_enum_item f hit p.isList (x:=u) (by simpa using hu) J λh' N D hT hsz hk=>?_;refine⟨_,rfl,wdA N λg Ts t=>?_⟩;have kp:∀b o,b≠e->b≠it->s.heap.get? b=some o->g.get? b=some o:=λb o h1 h2 q=>(t.2 b h1).trans (hk b o h1 h2 q);have G:e<s.heap.objs.size:=waf f;have Km:s.heap.objs.size≠e:=wcb G;have N8:g.get? s.heap.objs.size=some {cls:=.type "tuple",data:=.seq #[.int i s.toks,u]}:=(t.2 _ Km).trans hT;have y:=I.b9.fresh (waa s.heap.objs.size);have j:∀b o,H b=some o->b≠e/\b≠it:=λb o q=>⟨(λz=>by rw[z,f0]at q;cases q),(λz=>by rw[z,V]at q;cases q)⟩
  have L:jI X.prog X.w (upd H s.heap.objs.size (.tup [.int (i:Nat),x])) g:=by
   intro b o q
   by_cases d:b=s.heap.objs.size
   ·subst d;rw[a7]at q;cases q;exact⟨by show 2<=sizeLine;decide,[.int i s.toks,u],.cons ⟨_,rfl⟩ (.cons ru .nil),⟨_,N8,rfl,_,rfl⟩⟩
   ·rw[ae d]at q;refine(I.b9 b o q).tW (λc v hc r=>?_) (λc r=>by rw[ae (ag r y)];exact r) λc ys r=>by rw[ae (ag r y)];exact r
    rcases hc with z |z
    ·rw[z]at r ⊢;exact kp b v (j b o q).1 (j b o q).2 r
    ·exact kp c v (j c _ z).1 (j c _ z).2 r
  have I1:Inv X l σ (upd H s.heap.objs.size (.tup [.int (i:Nat),x])) {s with heap:=g,gens:=s.gens,drawn:=s.drawn,toks:=s.toks+1}:=by
   refine I.step (ch:=[e,it]) (λb d=>?_) (λb o _ _ hc q _=>kp b o (λz=>hc (by simp[z])) (λz=>hc (by simp[z])) q) (λb o _ _ hc q _=>⟨o.slots,kp b o (λz=>hc (by simp[z])) (λz=>hc (by simp[z])) q⟩)
    (λb o _ q n=>by rw[ae (war (waf q))];exact n) (λb o hc q=>⟨o,kp b o (λz=>hc (by simp[z])) (λz=>hc (by simp[z])) q⟩)
    (λb ys r=>by rw[ae (ag r y)];exact r) (λb o u r=>by rw[ae (ag r y)];exact r) (λb ps r=>⟨#[],by rw[ae (ag r y),r];simp⟩)
    (λm ⟨o,es,ep,PZ,r⟩=>⟨o,es,ep,kp _ o (wbc f1) (wbc g1) PZ,r⟩) L I.bare
   rcases waH.mp d with rfl |d
   ·exact⟨f3,f1,f4,f5⟩
   ·have A:b=it:=by simpa using d
    subst A;exact⟨g3,g1,Y,Z⟩
  refine⟨.ref s.heap.objs.size,_,I1,rfl,⟨s.heap.objs.size,x,y,rfl,rfl,λys hy=>by rw[I.pF hy M];exact S⟩,⟨⟨u,by simpa using Ts⟩,?_⟩,λb d=>?_⟩
  ·exact D.at λo q=>(t.2 it (wbc J)).trans q
  ·have:b<s.heap.objs.size:=by
    rcases waH.mp d with rfl |d
    ·exact G
    ·have A:b=it:=by simpa using d
     subst A;obtain⟨o,q,_⟩:=hit;exact waf q
   rw[ae (war this)];exact(B b d).1
 done:=by
   intro X O hw Q hc i l s σ H E I B st R;subst O hw Q;obtain⟨xs,M,S⟩:=R;obtain⟨T,U,p,hz⟩:=I.list M;have hl:=U.length;obtain⟨⟨old,f⟩,hit⟩:=st;obtain⟨V,g1,g2,g3,Y,Z⟩:=B it (by simp);exact wpAny_pyNext_enum_end (I.ok.hd hc) f hit p.isList (wg4 (by simp;omega)) λh' eb=>⟨rfl,I.turned (t':=s.toks) (λb o d e=>eb b o d e) V g1 g3 Y Z⟩
 self:=λ_ _ _ _ _ st h=>let ⟨⟨_,f⟩,_⟩:=st;wcO f h
theorem ik:waX "enumerate"=some (.type "enumerate"):=by decide+kernel
section
variable{X:Cx}
def Q0(K:wa2)(ta:TA):TI:=λσ H R=>ta σ H λvs H1=>∃a xs,vs=[.ref a]/\aL K H1 a xs/\R (OC K a) H1
theorem kE{g:List Expr}{k:Nat}{j:Pos}{l:Expr}{r:TA}{p pos:Pos}(t:Gl X "enumerate")(C:X.mg "enumerate"=none)(ha:PA X [l] r)(hs:starEach [l] X.env=[(false,eval l X.env)]:=by rfl) :
 PI X (.Tuple g k j) (.Call (.Name "enumerate" p) [l] [] pos) (Q0 X.K r):=by
 intro c s σ H R I h;refine Call_ (gE I t C ik (wbr (bY (ha pos c s σ H _ I h) λD d ⟨E,m,i,o,v⟩=>?_) hs rfl));obtain⟨a,G,e,w,q⟩:=v;subst e;obtain⟨u,rfl,x⟩:=vals1 o;cases x;obtain⟨y,J,pl,L⟩:=i.list w;refine call_enumerate_list pl.isList λz n hit A kp=>wcO n ?_;have B:Inv X c σ m {d with heap:=z}:=i.kept (t':=d.toks) kp;refine⟨d.heap.objs.size+1,[d.heap.objs.size+1,d.heap.objs.size],_,_,m,rfl,B,Fa a _ _ (wcb (wbI _)),⟨⟨_,n⟩,hit⟩,λb M=>?_,q⟩
 have f:d.heap.objs.size<=b:=by
  grind
 exact i.yX f (i.b9.fresh f)
end
theorem mB{K:wa2}{a:Addr}{xs:List V}{g:TG}{C:TS}{D:Ends}{σ:St}{H:Hp}(Pv:Nat->St->Hp->Prop)(h0:Pv 0 σ H)(hl:∀i σ H,i<=xs.length->Pv i σ H->aL K H a xs)
 (hs:∀i x σ H T,xs[i]?=some x->Pv i σ H->H T=none->g (.ref T) σ (upd H T (.tup [.int (i:Nat),x])) λj t=>C {D with nx:=Pv (i+1),ct:=Pv (i+1),bk:=D.nx} j t) (hd:∀σ H,Pv xs.length σ H->D.nx σ H) :
 ∃W:Nat->Nat->St->Hp->Prop,(∃m,W 0 m σ H)/\∀i m σ H,W i m σ H ->
  ((OC K a).stop i H/\D.nx σ H)\/((OC K a).go i H/\∃N:St->Hp->Prop,(∀l r,N l r->∃I,I<m/\W (i+1) I l r)/\∀x r,(OC K a).uG i H x r->g x σ r λj t=>C {D with nx:=N,ct:=N,bk:=D.nx} j t):=by
 refine⟨λi m σ H=>m=xs.length-i/\i<=xs.length/\Pv i σ H,⟨xs.length,by simp,waA _,h0⟩,?_⟩;rintro i m σ H ⟨rfl,hi,p⟩;have q:=hl i σ H hi p
 by_cases b:i<xs.length
 ·refine .inr ⟨⟨xs,xs[i],q,by simp[b]⟩,Pv (i+1),λl r c=>⟨xs.length-(i+1),by omega,rfl,b,c⟩,λx r y=>?_⟩;obtain⟨T,d,f,h,k,y⟩:=y;subst h k;exact hs i d σ _ T (y xs q) p f
 ·have e:i=xs.length:=by omega
  subst e;exact .inl ⟨⟨xs,q,waa _⟩,hd σ H p⟩
noncomputable def sL(σ:List Str)(v:Str):List Str:=if σ.any (· == v)=true then σ else σ++[v]
noncomputable def dh(val:Nat->Str)(i:Nat):List Str:=((waD i).map val).foldl sL []
theorem jo(val:Nat->Str)(i:Nat):dh val (i+1)=sL (dh val i) (val i):=by
 unfold dh;rw[wdf,wan,wf9];rfl
theorem y9(val:Nat->Str):∀i,(dh val i).length<=i
 |0=>waa _
 |i+1=>by
  rw[jo];unfold sL;have a:=y9 val i;split
  ·omega
  ·grind
theorem Fb(σ:List Str)(v k:Str):(sL σ v).any (· == k)=(σ.any (· == k) ||decide (k=v)):=by
 unfold sL
 by_cases h:σ.any (· == v)=true
 ·rw[if_pos h]
  by_cases e:k=v
  ·subst e;rw[h];simp
  ·simp[e]
 ·rw[if_neg h,List.any_append]
  by_cases e:k=v
  ·subst e;simp
  ·have a:(v==k)=false:=by simpa [beq_iff_eq] using(λb:v=k=>e b.symm)
   simp[a,e]
theorem zf(σ:List Str)(v:Str):(sL σ v).length=if σ.any (· == v) then σ.length else σ.length+1:=by
 unfold sL;split<;>simp
theorem sub_str_set:isSubtype (.type "str") (.type "set")=pure false:=by rw[isSubtype_type];kernel_rfl
theorem sub_str_frozenset:isSubtype (.type "str") (.type "frozenset")=pure false:=by rw[isSubtype_type];kernel_rfl
theorem M9(P:wat)(w:World)(x:Str)(t:Tok):(wbJ P w).is x (.str x t)=true:=by simp[wbJ,wgD]
section
variable{prog:wat}{w:World}{A:Around}{R:wd9->Shared->Prop}{I:Addr}{fp wr:List Addr}{G:Array wds->Array wds->Prop}{n:Nat}{P:Nat->Value->Prop}{St:Nat->Shared->Prop}
theorem Aw(l:WalksS prog w A.in1 I fp wr G n P St)(S:Addr)(p:S∉fp)
 (val:Nat->Str) (r:∀i v,P i v->∃t,v=.str (val i) t) (j:n+1<wdS) :
 ∀(k i:Nat) (s:Shared),n-i=k->i<=n->St i s ->
  s.heap.SetOf (wbJ prog w) S (λg=>(dh val i).any (· == g)) (dh val i).length ->
  (∀s',Moved (S::wr) G s s'->s'.heap.SetOf (wbJ prog w) S (λg=>(dh val n).any (· == g)) (dh val n).length->R (.ok (.ret .none)) s') ->
  codeAny (model prog w) A (.builtin "set.update.loop" ⟨[.ref S,.ref I],[]⟩) R s:=by
 have f:S∉wr:=λh=>p (l.sub _ h);have a:∀b∈wr,b∈S::wr:=λb j=>wac _ j;intro k
 induction k with
 |zero=>
  intro i s hk hi c B C;have D:i=n:=by omega
  subst D;refine wbG wdT ?_;rw[wbx wcI _];show wpAny _ A.in1 (pyNext (.ref I) >>= _) _ _ s;refine wa7 (l.done s _ _ c λs' m=>?_);show wpAny _ A.in1 (ret wbA) _ _ s'
  exact waz (C s' (m.mono a) (by
   obtain⟨o,E,H,t,J,rest⟩:=B
   exact⟨o,E,H,t,m.heap S _ f J,rest⟩))
 |succ k Q=>
  intro i s hk hi c B C;have q:i<n:=by omega
  refine wbG wdT ?_;rw[wbx wcI _];show wpAny _ A.in1 (pyNext (.ref I) >>= _) _ _ s;refine wa7 (l.item i s _ _ q c λv s' T u m=>?_);obtain⟨t,rfl⟩:=r i v T
  have L:s'.heap.SetOf (wbJ prog w) S (λg=>(dh val i).any (· == g)) (dh val i).length:=by
   obtain⟨o,E,H,U,J,rest⟩:=B;exact⟨o,E,H,U,m.heap S _ f J,rest⟩
  show wpAny _ A.in1 (holding [wfM (val i) t] (setAdd S (.str (val i) t)) >>= _) _ _ s';refine wa7 (wbn ?_);unfold setAdd;refine wbn ?_;refine wa7 ((wbJ prog w).pyHash (k:=val i) (M9 _ _ _ _) ?_);have d:(dh val i).length+1<wdS:=by have:=y9 val i;omega
  refine wpAny_setAddHashed_of (knd:=wbJ prog w) (s:={s' with toks:=s'.toks+1}) (M9 _ _ _ _) rfl L d λV x M=>?_
  have N:V.SetOf (wbJ prog w) S (λg=>(dh val (i+1)).any (· == g)) (dh val (i+1)).length:=
   SetOf_congr M (λg=>by rw[jo,Fb]) (by rw[jo,zf])
  refine waz ⟨wcf wcI _,Q (i+1) _ (by omega) q (l.frame _ s' _ _ u (wc1 _) λb j o e=>?_) N λO y z=>?_⟩
  ·rw[x.2 b (λh:b=S=>p (by rw[<-h];exact j))];exact e
  ·refine C O (Moved.trans l.gtrans ((m.mono a).then_heap (wc1 _) λb o j e=>?_) y) z;rw[x.2 b (λh:b=S=>j (by rw[h];exact wag))];exact e
end
section
variable{prog:wat}{w:World}{A:Around}{E:Value->Shared->Prop}{s:Shared}
noncomputable def fv(x:Str)(i:Nat):Str:=⟨#[x.cps.getD i 0]⟩
set_option maxRecDepth 100000 in
set_option maxHeartbeats 3200000 in
theorem zg{Q:Value->Shared->Prop}
 (hh:A.handled=none) (p:x.cps.size+1<wdS)
 (h:∀(h':Heap) (tk:Nat),h'.SetOf (wbJ prog w) s.heap.objs.size (λC=>(dh (fv x) x.cps.size).any (· == C)) (dh (fv x) x.cps.size).length ->
   (∀b o,b<s.heap.objs.size->s.heap.get? b=some o->h'.get? b=some o)->Q (.ref s.heap.objs.size) {s with heap:=h',toks:=tk}) :
 wpAny (model prog w) A (call (.type "set") [.str x I]) Q E s:=by
 obtain⟨c,tl,T⟩:=wbW.mro;have y:=wbW.made;have U:=wbW.sub;refine wdb (wfT ?_);show wpAny _ _ (callAny (.type "set") _) _ _ _;refine waz ⟨wdU _ (by decide+kernel),wbG wgw ?_⟩;rw[wh0 (wgi "set" [.str x I] []) rfl];have h1:=wbW.notType;have h2:=wbW.canCreate;have Z:=PySem.F.typeCall_set_1 (.str x I)
 repeat (any_goals (first |assumption |wp_step))
 refine wcd (code_set_new_1 (.str x I) (E:=E) (Q₁:=λobj f=>∃a:Bool,obj=.ref s.heap.objs.size/\f={s with heap:=s.heap.push {cls:=.type "set",dict:=none,data:=.set #[] 0 (.fresh 0 0 a)}}) λa=>⟨a,rfl,rfl⟩) λr f z=>?_
 cases r with
 |error e=>exact z
 |ok fl=>
  cases fl with
  |ret obj=>
   obtain⟨a,rfl,rfl⟩:=z;have V:(s.heap.push {cls:=.type "set",dict:=none,data:=.set #[] 0 (.fresh 0 0 a)}).get? s.heap.objs.size=some {cls:=.type "set",dict:=none,data:=.set #[] 0 (.fresh 0 0 a)}:=wav _ rfl;have hT:whR {s with heap:=s.heap.push {cls:=.type "set",dict:=none,data:=.set #[] 0 (.fresh 0 0 a)}} (.ref s.heap.objs.size) "set":=⟨_,V,rfl⟩;have hli:=wbW.init.lookup;have hbi:=wbW.init.bind (.ref s.heap.objs.size)
   repeat (any_goals (first |assumption |wp_step))
   refine wcd (wcS (R:=wants (λr g=>r=.none/\∃h' tk,g={s with heap:=h',toks:=tk} /\
    h'.SetOf (wbJ prog w) s.heap.objs.size (λC=>(dh (fv x) x.cps.size).any (· == C)) (dh (fv x) x.cps.size).length /\
    (∀b o,b<s.heap.objs.size->s.heap.get? b=some o->h'.get? b=some o)) E) wbW.init.plain PySem.F.entry_set_init (check_set_init_1 hT ?_)) λl g d=>?_
   ·have X:=sub_str_set;have Y:=sub_str_frozenset;have wZ:(weq "str" == weq "dict")=false:=by decide
    unfold weL.«set.__init__» noKeywords whP;generalize B:pyIter=PI
    wp_walk
    subst B;refine wpAny_pyIter_str λo St hW D=>?_;refine wa7 (wpAny_runValue ?_);have G:A.in1.in1.in1.handled=none:=by simp[hh]
    have H:s.heap.objs.size∉[(s.heap.push {cls:=.type "set",dict:=none,data:=.set #[] 0 (.fresh 0 0 a)}).objs.size]:=by
     rw[wbK];simp only[waH,waq,wbX,or_false,not_or];exact war (wbI _)
    have m:∀(i:Nat) (v:Value),SignAt x i v->∃t,v=.str (fv x i) t:=λi v hv=>by
     obtain⟨c,u,hc,e⟩:=hv;refine⟨u,?_⟩;rw[e];unfold fv;rw[wcH,hc];rfl
    refine Aw ((hW _ G).toS) s.heap.objs.size H (fv x) m p (x.cps.size-0) 0 _ (by omega) (waA _) D ?J ?hR
    case J=>
     have n:((s.heap.push {cls:=.type "set",dict:=none,data:=.set #[] 0 (.fresh 0 0 a)}).push o).get? s.heap.objs.size
      =some {cls:=.type "set",dict:=none,data:=.set #[] 0 (.fresh 0 0 a)}:=wa9 _ V
     exact SetOf_congr ((setObjOf_fresh (knd:=wbJ prog w) a).setOf n (by unfold wdS;omega)) (λ_=>rfl) rfl
    case hR=>
     intro s' q j;obtain⟨h',g',d',L,M⟩:=s';have eg:g'=s.gens:=q.gens;have ed:d'=s.drawn:=q.drawn;have eo:M=s.os:=q.os;subst eg;subst ed;subst eo;show wpAny _ _ _ _ _ _;refine waz ?_;show wpAny _ _ (ret wbA) _ _ _;refine waz ⟨rfl,h',L,rfl,j,λb o' p e=>?_⟩;have N:b≠s.heap.objs.size:=war p
     have O:b≠(s.heap.push {cls:=.type "set",dict:=none,data:=.set #[] 0 (.fresh 0 0 a)}).objs.size:=by
      rw[wbK];exact war (we4 p)
     exact q.heap b o' (by simp only[waH,waq,wbX,or_false,not_or];exact⟨N,O⟩) (wa9 _ (wa9 _ e))
   ·cases l with
    |error e=>exact d
    |ok k=>
     cases k with
     |ret r=>
      obtain⟨rfl,h',tk,rfl,j,S⟩:=d
      repeat (any_goals (first |assumption |wp_step))
      exact h _ _ j S
     |_=>exact d.elim
  |_=>exact z.elim
end
section
variable{X:Cx}
noncomputable def Kn(P:wat)(w:World)(a:Addr)(n:Nat):HO:=.ext λh=>∃S,h.SetOf (wbJ P w) a S n
theorem Ax(hc:X.calm=true):eN X (.type "set") (λxs H Q=>∃z,xs=[.str z]/\z.cps.size+1<wdS/\∀p,H p=none->Q (.ref p) (upd H p (Kn X.prog X.w p (dh (fv z) z.cps.size).length))):=by
 intro c s σ H xs n Q I r h;obtain⟨z,rfl,f,q⟩:=h;obtain⟨u,rfl,t,rfl⟩:=vals1 r;refine zg (I.ok.hd hc) f λg i d kp=>?_;have a:∀b o,s.heap.get? b=some o->g.get? b=some o:=λb o e=>kp b o (waf e) e;refine⟨.ref s.heap.objs.size,_,I.laid (t':=i) (o:=Kn X.prog X.w s.heap.objs.size (dh (fv z) z.cps.size).length) a (waa _) ⟨⟨_,d⟩,?_,?_⟩,rfl,q _ (I.b9.fresh (waa _))⟩
 ·obtain⟨o,_,_,_,e,_⟩:=d;exact⟨o,e⟩
 ·rintro v x ⟨S,o,j,l,m,e,rest⟩ k;exact⟨S,o,j,l,m,k o e,rest⟩
theorem Ay:eN X (.builtin "len") (λxs H Q=>∃p n,xs=[.ref p]/\H p=some (Kn X.prog X.w p n)/\Q (.int n) H):=by
 intro b s σ H xs g Q I r h;obtain⟨p,n,rfl,c,q⟩:=h;obtain⟨u,rfl,d⟩:=vals1 r;cases d;obtain⟨⟨S,o,i,j,k,e,hex,hd,_,_,f,a,hn⟩,_⟩:=(show cq X.prog X.w H s.heap p (Kn X.prog X.w p n) from I.b9 p _ c);refine call_len_set e hex hd a (by grind [wdS]) ⟨.int n,H,I.tok _,⟨s.toks+1,?_⟩,q⟩;rw[hn]
end
section
variable{X:Cx}{pins:List (Addr×Obj)}{σ:St}{H:Hp}{s:Shared}
end
section
variable{X:Cx}{st:Stmt}{rest:List Stmt}{t u:TS}{pos:Pos}
end
end L2
namespace Bs
open PySem PySem.Spec PyProof.Rows
noncomputable abbrev ch(x:Str):List Nat:=x.cps.toList
theorem aW(x:Str):(ch x).length=x.length:=by simp[ch,wdu]
theorem cR(h:ch x=ch y):x=y:=by
 obtain⟨a⟩:=x;obtain⟨b⟩:=y;have:a=b:=wft.mp h;rw[this]
theorem aZ(a b:Str):ch (a++b)=ch a++ch b:=by grind [Str.cps_append,Array.toList_append]
theorem Hy(c:Nat):ch ⟨#[c]⟩=[c]:=rfl
theorem uS(h:z.length=0):ch z=[]:=by grind [aW]
theorem mC(x:Str)(l u:Option Int):wb9 x l u=StrLaws.sliceText x l u:=rfl
theorem Az(x:Str)(j:Nat):ch (wb9 x none (some (j:Int)))=(ch x).take j:=by
 by_cases h:j<=x.length
 ·grind [mC,wgx,wdu]
 ·have hn:wbH none (some (j:Int)) 1 x.length=wbH none (some ((x.length:Nat):Int)) 1 x.length:=by
   grind [wbH]
  have e:wb9 x none (some (j:Int))=wb9 x none (some ((x.length:Nat):Int)):=by
   grind [wb9]
  rw[e,mC,wgx ⟨by omega,by simp[wdu]⟩];have a:(ch x).length<=j:=by rw[aW];omega
  rw[wbf a];have b:x.cps.toList.take x.cps.size=x.cps.toList:=wbf (by simp);simp[wdu,b]
theorem oS(x:Str)(i:Nat):ch (wb9 x (some (i:Int)) none)=(ch x).drop i:=by
 by_cases h:i<=x.length
 ·rw[mC,wg5 ⟨by omega,by simp[wdu]at h ⊢;omega⟩];show ((x.cps.toList.drop (i:Int).toNat).take ((x.cps.toList.length:Int)-(i:Int)).toNat).toArray.toList=(ch x).drop i;rw[List.toList_toArray,waF,wbf];rw[wbp];omega
 ·have hn:wbH (some (i:Int)) none 1 x.length=wbH (some ((x.length:Nat):Int)) none 1 x.length:=by
   have a:¬((i:Int)<0):=by omega
   have b:¬(((x.length:Nat):Int)<0):=by omega
   have c:max (0:Int) (min (i:Int) (x.length:Int))=max 0 (min ((x.length:Nat):Int) (x.length:Int)):=by omega
   simp[wbH,a,b,c]
  have e:wb9 x (some (i:Int)) none=wb9 x (some ((x.length:Nat):Int)) none:=by
   unfold wb9;rw[hn]
  rw[e,mC,wg5 ⟨by omega,by simp[wdu]⟩];have d:(ch x).length<=i:=by rw[aW];omega
  rw[we7 d];simp[wdu]
theorem ry(g:z.length=0):∀ts:List Str,ch (wdx z ts)=(ts.map ch).flatten:=by
 intro ts;unfold wdx Builtin.Str.glued
 have b:z.cps=#[]:=by
  have:=uS g;exact wft.mp this
 have key:∀(l:List Str) (a:Array Nat),(l.foldl (λa p=>a++z.cps++p.cps) a).toList=a.toList++(l.map ch).flatten:=by
  intro l
  induction l with
  |nil=>grind
  |cons p l c=>
   grind
 cases ts with
 |nil=>rfl
 |cons p l=>
  show ((List.drop 1 (p::l)).foldl (λa q=>a++z.cps++q.cps) p.cps).toList=_;rw[List.drop_one,List.tail_cons,key];rfl
noncomputable def fS:Str:="abcdefghijklmnopqrstuvwxyz0123456789"
structure AA(x:Str):Prop where
 lo:2<=x.length
 hi:x.length<=4
 nd:(ch x).Nodup
 sub:∀c∈ch x,c∈ch fS
structure Drawn(i:Nat)(Ko found:Str):Prop where
 pl:Ko.length+i=36
 fl:found.length=i
 pn:(ch Ko).Nodup
 fn:(ch found).Nodup
 ps:∀c∈ch Ko,c∈ch fS
 fs:∀c∈ch found,c∈ch fS
 ap:∀c∈ch found,c∉ch Ko
theorem AB:fS.length=36:=by decide+kernel
structure zh(sg w:Str):Prop where
 lo:1<=w.length
 hi:w.length<=5
 sub:∀c∈ch w,c∈ch sg
theorem Fc(j:z.length=0)(p:1<=ts.length)(r:ts.length<=5)(h:∀t∈ts,∃c,t=⟨#[c]⟩/\c∈ch g):zh g (wdx z ts):=by
 have e:=ry j ts
 have hl:∀(l:List Str),(∀t∈l,∃c,t=⟨#[c]⟩/\c∈ch g)->((l.map ch).flatten).length=l.length/\∀c∈(l.map ch).flatten,c∈ch g:=by
  intro l
  induction l with
  |nil=>intro _;exact⟨rfl,λc h=>by cases h⟩
  |cons t l b=>
   intro a;obtain⟨c,rfl,hc⟩:=a t (wag ..);obtain⟨d,f⟩:=b λt h=>a t (wac _ h);refine⟨by rw[wax,wc5,wa5,d,waM];exact wgX 1 _,λk hk=>?_⟩;rw[wax,wc5]at hk;rcases waE.mp hk with h |h
   ·have:k=c:=by simpa [ch] using h
    subst this;exact hc
   ·exact f k h
 obtain⟨l1,i⟩:=hl ts h;have m:(wdx z ts).length=ts.length:=by rw[<-aW,e,l1]
 exact⟨by omega,by omega,λc hc=>i c (e ▸ hc)⟩
noncomputable def N9(y x:Str):Bool:=!(wd0 x y 0 x.length 1).isEmpty
theorem E6(x:Str)(c:Nat):N9 ⟨#[c]⟩ x=decide (c∈ch x):=StrLaws.found_one x c
noncomputable def bears(ws:List Str)(r:Str):Bool:=ws.any λw=>N9 w r
noncomputable def dE(w:Str)(n:Nat):Str:=wb9 w none (some (n:Int))
theorem Fd(w:Str)(n:Nat):(dE w n).length<=w.length:=wez _ _ _
noncomputable def zi(ks:List Str)(b:Str):List Str:=if b∈ks then ks else ks++[b]
noncomputable def rz(ws:List Str)(ks:List Str)(b:Str):List Str:=if bears ws b=true then ks else zi ks b
theorem HA(ws g:List Str)(b:Str):(rz ws g b).length<=g.length+1:=by
 unfold rz zi;split
 ·omega
 ·split
  ·omega
  ·simp
noncomputable def upTo(ws:List Str)(w:Str)(ks:List Str)(n:Nat):List Str:=((waD n).map λi=>dE w (1+i)).foldl (rz ws) ks
theorem gH(ws:List Str)(w:Str)(g:List Str)(n:Nat):upTo ws w g (n+1)=rz ws (upTo ws w g n) (dE w (1+n)):=by
 unfold upTo;rw[wdf,wan,wf9];rfl
theorem uT(ws:List Str)(w:Str)(g:List Str):∀n,(upTo ws w g n).length<=g.length+n
 |0=>waa _
 |n+1=>by
  rw[gH];have:=uT ws w g n;have:=HA ws (upTo ws w g n) (dE w (1+n));omega
noncomputable def addW(ws:List Str)(ks:List Str)(w:Str):List Str:=upTo ws w ks (w.length-1)
noncomputable def bS(ws:List Str)(e:Str)(us:List Str):List Str:=us.foldl (addW ws) [e]
theorem Cq(ws:List Str)(e:Str)(us:List Str)(w:Str):bS ws e (us++[w])=addW ws (bS ws e us) w:=by
 unfold bS;rw[wf9];rfl
theorem nV(h:∀w∈us,w.length<=5):(bS ws e us).length<=1+4*us.length:=by
 have key:∀(us a:List Str),(∀w∈us,w.length<=5)->(us.foldl (addW ws) a).length<=a.length+4*us.length:=by
  intro us
  induction us with
  |nil=>grind
  |cons w us b=>
   grind [addW,wac,uT]
 exact key us [e] h
theorem Cr(h:g.Nodup):(zi g b).Nodup:=by
 unfold zi;split
 ·exact h
 ·rename_i d;refine wfa.mpr ⟨h,by simp,λa ha c hc=>?_⟩;have:c=b:=by simpa using hc
  subst this;rintro rfl;exact d ha
theorem Ct(h:g.Nodup):(rz ws g b).Nodup:=by
 unfold rz;split
 ·exact h
 ·exact Cr h
theorem uU(h:g.Nodup):∀n,(upTo ws w g n).Nodup
 |0=>h
 |n+1=>by rw[gH];exact Ct (uU h n)
theorem sM(us:List Str):(bS ws e us).Nodup:=by
 have key:∀(us a:List Str),a.Nodup->(us.foldl (addW ws) a).Nodup:=by
  intro us
  induction us with
  |nil=>intro a h;exact h
  |cons w us b=>intro a h;exact b _ (uU h _)
 exact key us [e] (by simp)
theorem HB(h:k∈g):k∈rz ws g b:=by grind [rz,zi,waW]
theorem mem_upTo(h:k∈g):∀n,k∈upTo ws w g n
 |0=>h
 |n+1=>by rw[gH];exact HB (mem_upTo h n)
theorem cy(us:List Str):e∈bS ws e us:=by
 have key:∀(us a:List Str),e∈a->e∈us.foldl (addW ws) a:=by
  intro us
  induction us with
  |nil=>intro a h;exact h
  |cons w us b=>intro a h;exact b _ (mem_upTo h _)
 exact key us [e] (by simp)
end Bs
namespace L2
open PySem PySem.Spec PyProof.Rows
noncomputable def oU(sc scope:wd8)(N:List Str)(x:Str)(ys:List Str)(ix:List Nat):Bool:=
 (match scope.kind with |.function=>true |_=>false) &&
 (scope.names.all λy=>!decide (y.2=.cell))&&(scope.names.all λy=>!decide (y.2=.local) ||decide (scope.names.lookup y.1=some .local)) &&
 (scope.names.all λy=>!decide (y.2=.free) ||decide (sc.names.lookup y.1=some .cell) ||decide (sc.names.lookup y.1=some .free)) &&
 decide (scope.names.lookup x=some .local)&&decide ((x::ys).Nodup)&&decide (ix.length=ys.length) &&
 ((waD ys.length).all λj=>match ys[j]?,ix[j]? with
   |some y,some i=>decide (N[i]?=some y)&&(decide (sc.names.lookup y=some .cell) ||decide (sc.names.lookup y=some .free))&&decide (scope.names.lookup y=some .free)
   |_,_=>false)
theorem Cu{X:Cx}(g:X.env.scope=l)(r:X.N=N)(h:oU l scope N x ys p=true):bZ X scope x ys p:=by
 unfold oU at h;simp only[wbU]at h;obtain⟨⟨⟨⟨⟨⟨⟨b,d⟩,f⟩,k⟩,m⟩,n⟩,o⟩,s⟩:=h;refine⟨?_,λy a=>?_,λy a e=>?_,of_decide_eq_true m,λy a e=>?_,of_decide_eq_true n,of_decide_eq_true o,λj y c=>?_⟩
 ·cases e:scope.kind<;>rw[e]at b<;>first |rfl |cases b
 ·have:=waU.mp d y a;simpa using this
 ·have:=waU.mp f y a;simpa [e] using this
 ·have:=waU.mp k y a;have q:l.names.lookup y.1=some .cell\/l.names.lookup y.1=some .free:=by simpa [e] using this
  show X.env.scope.names.lookup y.1=some .cell\/X.env.scope.names.lookup y.1=some .free;rw[g];exact q
 ·have hl:j<ys.length:=(wa6.mp c).1;have:=waU.mp s j (wb1.mpr hl);rw[c]at this
  cases e:p[j]? with
  |none=>rw[e]at this;cases this
  |some i=>
   rw[e]at this;simp only[wbU,whF,decide_eq_true_eq]at this;exact⟨i,rfl,by rw[r];exact this.1.1,by rw[g];exact this.1.2,this.2⟩
theorem comp_map{Ok:Hp->Prop}{Q:Hp->Prop}(g:V->V)(I:ml J Ok xs)(hl:H l=none)(T:xs.length<=sizeLine)(t:∀j,a9 H j->Ok j)
 (U:∀x p r,x∈xs->a9 H p->(∀j,a9 p j->r (g x) j)->te (some x::C) p r)
 (hd:∀j,a9 H j->j l=some (.lst (xs.map g))->Q j):o8 J l C wY te H Q:=
 ee (λ_=>true) g I hl T t (λx p r _ _ q=>q p (a9.refl _)) (λx p r a _ s q=>U x p r a s q) (λj s h=>hd j s (by rw[h,wb8.mpr (λ_ _=>rfl)]))
structure FnAt(K:wa2)(mg:Str->Option Value)(nm:Str)(st:Stmt)(ps:List Str)(f:Addr)(fd:wad):Prop where
 F:Ar K nm nm st f fd
 b:Binds K fd ps []
 g:mg nm=some (.ref f)
theorem j3{X:Cx}{K:wa2}(g:X.K=K):nT X (wbm .In) (RK K false):=by
 subst g;exact rq
theorem x9{X:Cx}{K:wa2}(g:X.K=K):nT X (wbm .NotIn) (RK K true):=by
 subst g;exact ku
theorem i6{X:Cx}{K:wa2}(g:X.K=K):OB X (PB K):=by
 subst g;exact bf
theorem xa{X:Cx}{K:wa2}(g:X.K=K):eN X (.builtin "len") (λxs H Q=>∃p ys,xs=[.ref p]/\(aL K H p ys\/ig K H p ys)/\Q (.int ys.length) H):=by
 subst g;exact b4
theorem E7{X:Cx}{K:wa2}{o:Expr}{t:TE}{name:Str}{apos g:Pos}{T id:String}{r:V->List V->Hp->VK->Prop}(C:X.K=K)(I:wgv T)(slot:Slot T name id)(p:typeOf (.builtin id)=pure (.type "method_descriptor"))(J:M4 X id r)(U:PE X o t)
 (j:wcw o name X.env (eval o X.env)=eval o X.env:=by rfl) (l:(apos.endLine==g.line)=true:=by rfl):PE X (.Call (.Attribute o name apos) [] [] g) (PH K T r t):=by
 subst C;exact Hg I slot p J U j l
theorem nW{X:Cx}{K:wa2}{e:Expr}{f:Str}{pos:Pos}{g:TE}(j:X.K=K)(l:PE X e g)(p:wcw e f X.env (eval e X.env)=eval e X.env):PE X (.Attribute e f pos) (Pu K g f):=by
 subst j;exact aE l p
theorem HC{c A B:Prop}[Decidable c](h:¬c)(b:B):if c then A else B:=by
 grind
theorem Tu{c A B:Prop}[Decidable c](h:c)(a:A):if c then A else B:=by
 grind
theorem aw(h:n<=1000000):n<=sizeLine:=wal h (by rw[wcc];decide)
theorem jN(y:Str)(ps:List Str):pJ (.str y) (ps.map V.str)=decide (y∈ps):=by
 unfold pJ;rw[wfu]
 induction ps with
 |nil=>rfl
 |cons p ps a=>
  rw[wd5,a];show ((p==y) ||decide (y∈ps))=decide (y∈p::ps)
  by_cases e:p=y
  ·subst e;simp
  ·grind
theorem fD(ps:List Str):(ps.map V.str).all eO=true:=by
 rw[wfs];exact waU.mpr λ_ _=>rfl
noncomputable def RO(r:Str):V->V:=λv=>match v with
 |.str y=>.bl (Bs.N9 y r)
 |_=>.non
theorem HD(r:Str)(ws:List Str):(ws.map V.str).map (RO r)=(ws.map λw=>Bs.N9 w r).map V.bl:=by
 rw[wah,wah];rfl
theorem Fe(a b:Str):(fh a).map (RO b)=((Bs.ch a).map λc=>decide (c∈Bs.ch b)).map V.bl:=by
 unfold fh;rw[wah,wah];refine wb2 λc _=>?_;show V.bl (Bs.N9 ⟨#[c]⟩ b)=V.bl (decide (c∈Bs.ch b));rw[Bs.E6]
noncomputable def lQ(ks:List Str):List (Key×V):=ks.map λk=>((waj k:Key),V.bl true)
theorem Cv(g:List Str):(lQ g).map (·.1)=g.map (waj:Str->Key):=by
 unfold lQ;rw[wah];rfl
theorem Ff(g:List Str)(b:Str):putK (lQ g) (waj b:Key) (.bl true)=lQ (Bs.zi g b):=by
 unfold putK Bs.zi
 by_cases h:b∈g
 ·have a:((lQ g).any λc=>decide (c.1=(waj b:Key)))=true:=by
   refine wci.mpr ⟨(waj b,.bl true),?_,decide_eq_true rfl⟩;exact wab.mpr ⟨b,h,rfl⟩
  rw[if_pos a,if_pos h];unfold lQ;rw[wah];refine wb2 λk _=>?_;show (if (waj k:Key)=waj b then((waj k:Key),V.bl true) else((waj k:Key),V.bl true))=_;split<;>rfl
 ·have a:¬((lQ g).any λc=>decide (c.1=(waj b:Key)))=true:=by
   intro z;obtain⟨p,d,e⟩:=wci.mp z;obtain⟨k,hk,rfl⟩:=wab.mp d;have:(waj k:Key)=waj b:=of_decide_eq_true e;have:k=b:=wca this;subst this;exact h hk
  rw[if_neg a,if_neg h];unfold lQ;rw[wan];rfl
theorem Fg(g:List Str):(lQ g).length=g.length:=by unfold lQ;rw[wa0]
theorem pL(h:(Bs.ch x).Nodup):∀i,i<=x.cps.size->dh (fv x) i=(waD i).map (fv x)
 |0,_=>rfl
 |i+1,hi=>by
  have c:=pL h i (by omega);rw[jo,c,wdf,wan];unfold sL;rw[if_neg]
  ·rfl
  ·intro z;obtain⟨y,d,e⟩:=wci.mp z;obtain⟨j,f,rfl⟩:=wab.mp d;have l:j<i:=wb1.mp f;have a:fv x j=fv x i:=eq_of_beq e;unfold fv at a
   have b:x.cps.getD j 0=x.cps.getD i 0:=by
    injection a with m
    have:=congrArg Array.toList m;simpa using this
   have g:∀k,(hk:k<x.cps.size)->x.cps.getD k 0=(Bs.ch x)[k]'(by simpa using hk):=λk hk=>by
    simp[Array.getD,hk]
   rw[g j (by omega),g i (by omega)]at b;have:=(wch h).mp b;omega
theorem AD(h:(Bs.ch x).Nodup):(dh (fv x) x.cps.size).length=x.length:=by
 rw[pL h _ (waa _),wa0,waK];rfl
section
variable{X:Cx}
end
theorem HE{κ:Type}(f:κ->V)(g:κ->Str)(j:∀a b,g a=g b->f a=f b):∀{l:List κ} {c:κ},c∈l->bE (l.map λc=>((waj (g c):Key),f c)) (waj (g c):Key)=some (f c):=by intro a;induction a<;>grind [cw,cx,wca]
end L2
namespace L2
open PySem
structure d8(K:wa2)(C:Addr)(nm qual:Str)(st:Stmt)(ps:List Str)(f:Addr)(fd:wad):Prop where
 F:Ar K nm qual st f fd
 b:Binds K fd ps []
 m:K9 K C nm f
end L2
namespace Sx
open PySem L2 Bs
theorem Q1:waX "all"=some (.builtin "all"):=by decide+kernel
theorem Q2:waX "any"=some (.builtin "any"):=by decide+kernel
theorem Kp:waX "sorted"=some (.builtin "sorted"):=by decide+kernel
theorem xc:waX "isinstance"=some (.builtin "isinstance"):=by decide+kernel
theorem Kq:waX "str"=some (.type "str"):=by decide+kernel
theorem gz:waX "list"=some (.type "list"):=by decide+kernel
theorem Tv:waX "set"=some (.type "set"):=by decide+kernel
section
variable{P:wat}{w:World}{K:wa2}{mg:Str->Option Value}{base:Heap}{f:Addr}{fd:wad}
inductive Kr(vs:List V)(H:Hp)(Q:VK)(eE:XK):Prop
 |mk (a b) (_:vs=[.str a,.str b]) (_:a.length<=1000) (_:∀H',a9 H H'->Q (.bl ((ch a).all λc=>decide (c∈ch b))) H')
inductive Ks(K:wa2)(vs:List V)(H:Hp)(Q:VK)(eE:XK):Prop
 |mk (r a ws) (_:vs=[.str r,.ref a]) (_:aL K H a (ws.map V.str)) (_:ws.length<=1000) (_:∀H',a9 H H'->Q (.bl (bears ws r)) H')
end
section
variable{P:wat}{w:World}{K:wa2}{mg:Str->Option Value}{base:Heap}{f:Addr}{fd:wad}
inductive Q3(vs:List V)(H:Hp)(Q:VK)(eE:XK):Prop
 |mk (x) (_:vs=[.str x]) (_:AA x) (_:∀H',a9 H H'->Q (.bl true) H')
inductive Q4(vs:List V)(H:Hp)(Q:VK)(eE:XK):Prop
 |mk (t g) (_:vs=[.str t,.str g]) (_:zh g t) (_:∀H',a9 H H'->Q (.bl true) H')
inductive Kt(K:wa2)(vs:List V)(H:Hp)(Q:VK)(eE:XK):Prop
 |mk (a:Addr) (g:Str) (ws:List Str) (_:vs=[.ref a,.str g]) (_:aL K H a (ws.map V.str)) (_:ws.length<=6) (_:(∀w∈ws,zh g w)) (_:∀H',a9 H H'->Q .non H')
end
end Sx
namespace Bs
open PySem
noncomputable def dj(r:Str)(n:Nat):Str:=wb9 r (some (n:Int)) none
theorem rA(r:Str):dj r r.length="":=by
 refine cR ?_;show ch (wb9 r (some (r.length:Int)) none)=[];rw[oS];exact we7 (wdM (aW r))
noncomputable def HF(ps:List Str)(r:Str):Nat:=((waD (r.length+1)).find? λn=>decide (dj r n∈ps)).getD 0
noncomputable def lend(ps:List Str)(r:Str):Str:=dj r (HF ps r)
theorem uV(g:dj r n∈ps)(j:∀m,m<n->dj r m∉ps)(l:n<=r.length):HF ps r=n:=by
 unfold HF
 have e:(waD (r.length+1)).find? (λn=>decide (dj r n∈ps))=some n:=by
  grind [List.find?_range_eq_some]
 rw[e];rfl
end Bs
namespace L2
open PySem Bs
noncomputable def uo(ws ps:List Str)(p:Str)(c:Nat):V:=if bears ws (p++⟨#[c]⟩)=true then .non else .str (lend ps (p++⟨#[c]⟩))
noncomputable def rowOf(g:Str)(ws ps:List Str)(p:Str):List (Key×V):=(ch g).map λc=>((waj (⟨#[c]⟩:Str):Key),uo ws ps p c)
theorem Fh(g:Str)(ws ps:List Str)(p:Str):(rowOf g ws ps p).length=g.length:=by unfold rowOf;rw[wa0,aW]
theorem Cw(g:Str)(ws ps:List Str)(p:Str):((rowOf g ws ps p).map (·.2)).all eO=true:=by
 unfold rowOf;rw[wah];refine waU.mpr λv a=>?_;obtain⟨c,_,rfl⟩:=wab.mp a;show eO (uo ws ps p c)=true;unfold uo;split<;>rfl
end L2
namespace Sx
open PySem L2 Bs
section
variable{P:wat}{w:World}{K:wa2}{mg:Str->Option Value}{base:Heap}{f:Addr}{fd:wad}
inductive HG(K:wa2)(vs:List V)(H:Hp)(Q:VK)(eE:XK):Prop
 |mk (a ws) (_:vs=[.ref a]) (_:aL K H a (ws.map V.str)) (_:ws.length<=6) (_:(∀w∈ws,w.length<=5)) (_:∀(l:Addr) (ss:List Str) (H':Hp),a9 H H'->H l=none->H' l=some (.lst (ss.map V.str))->ss.Perm (bS ws "" ws)->wfE ss=true->Q (.ref l) H')
inductive Nb(K:wa2)(vs:List V)(H:Hp)(Q:VK)(eE:XK):Prop
 |mk (r a ps) (_:vs=[.str r,.ref a]) (_:aL K H a (ps.map V.str)) (_:("":Str)∈ps) (_:r.length<=1000) (_:∀H',a9 H H'->Q (.str (lend ps r)) H')
inductive Ku(K:wa2)(vs:List V)(H:Hp)(Q:VK)(eE:XK):Prop
 |mk (p g a b ws ps) (_:vs=[.str p,.str g,.ref a,.ref b]) (_:aL K H a (ws.map V.str)) (_:aL K H b (ps.map V.str)) (_:("":Str)∈ps) (_:p.length<=100) (_:g.length<=10) (_:(ch g).Nodup) (_:ws.length<=1000) (_:∀(d:Addr) (H':Hp),a9 H H'->H d=none->H' d=some (.dK (rowOf g ws ps p))->Q (.ref d) H')
end
end Sx
namespace L2
open PySem Bs
noncomputable def mD(es:List (Key×V))(Nc:List Str):Bool:=(es.map (·.2)).any λe=>pJ e (Nc.map V.str)
theorem HH{e:V}{a b:List Str}(h:∀k∈a,k∈b)(q:pJ e (a.map V.str)=true):pJ e (b.map V.str)=true:=by grind [pJ]
theorem Cy{g:List (Key×V)}{a b:List Str}(h:∀k∈a,k∈b)(q:mD g a=true):mD g b=true:=by
 unfold mD at q ⊢;obtain⟨y,c,d⟩:=wci.mp q;exact wci.mpr ⟨y,c,HH h d⟩
structure Q6(ks:List Str)(es:Str->List (Key×V))(ls:List Str):Prop where
 sub:ls.Sublist ks
 Fi:∀k∈ls,mD (es k) ls=true
 most:∀Nc:List Str,(∀k∈Nc,k∈ks/\mD (es k) Nc=true)->∀k∈Nc,k∈ls
theorem ya:∀(a b:List Str),oQ (a.map V.str) (b.map V.str)=decide (a=b)
 |[],[]=>rfl
 |[],_::_=>rfl
 |_::_,[]=>rfl
 |x::c,y::d=>by
  show ((x==y)&&oQ (c.map V.str) (d.map V.str))=_;rw[ya c d]
  by_cases e:x=y
  ·grind
  ·grind
noncomputable def cD(mv:List (Str×Addr)):List (Key×V):=mv.map λm=>((waj m.1:Key),V.ref m.2)
theorem j4(mv:List (Str×Addr)):((cD mv).map λg=>kV g.1)=(mv.map (·.1)).map V.str:=by
 unfold cD;rw[wah,wah];rfl
theorem iT(h:k∈mv.map (·.1)):∃a,(k,a)∈mv/\bE (cD mv) (waj k:Key)=some (.ref a):=by
 induction mv with
 |nil=>simp at h
 |cons m mv b=>
  grind [cw,cD,cx]
theorem oV(h:k∉mv.map (·.1)):bE (cD mv) (waj k:Key)=none:=by
 cases q:bE (cD mv) (waj k:Key) with
 |none=>rfl
 |some v=>
  have:=z9 q;unfold cD at this;rw[wah]at this;obtain⟨m,a,e⟩:=wab.mp this;have b:m.1=k:=wca e;exact absurd (wab.mpr ⟨m,a,b⟩) h
end L2
namespace Sx
open PySem L2 Bs
section
variable{P:wat}{w:World}{K:wa2}{mg:Str->Option Value}{base:Heap}{f:Addr}{fd:wad}
noncomputable def Q9(ls:List V):V->V:=λv=>.bl (pJ v ls)
inductive Kv(K:wa2)(vs:List V)(H:Hp)(Q:VK)(eE:XK):Prop
 |mk (a b es ls) (_:vs=[.ref a,.ref b]) (_:aL K H a es) (_:aL K H b ls) (_:es.all eO=true) (_:ls.all eO=true) (_:es.length<=1000) (_:∀H',a9 H H'->Q (.bl (es.any λe=>pJ e ls)) H')
inductive Nf(K:wa2)(vs:List V)(H:Hp)(Q:VK)(eE:XK):Prop
 |mk (d mv es) (_:vs=[.ref d]) (_:H d=some (.dK (cD mv))) (_:mv.length<=1000) (_:(∀m∈mv,H m.2=some (.dK (es m.1)))) (_:(∀k,((es k).map (·.2)).all eO=true)) (_:(∀k,(es k).length<=1000)) (_:∀(l:Addr) (ls:List Str) (H':Hp),a9 H H'->H l=none->H' l=some (.lst (ls.map V.str))->Q6 (mv.map (·.1)) es ls->Q (.ref l) H')
end
noncomputable def Cz(g:Str)(b d q:Addr):List (Str×V):=[("signs",.str g),("barred",.ref b),("moves",.ref d),("lasting",.ref q)]
noncomputable def RP(g:Str):List (Str×V):=[("signs",.str g)]
noncomputable def OD(g:Str)(b:Addr):List (Str×V):=[("signs",.str g),("barred",.ref b)]
noncomputable def Ng(g:Str)(b d:Addr):List (Str×V):=[("signs",.str g),("barred",.ref b),("moves",.ref d)]
theorem Nh(g:Str):cQ "signs" (.str g) []=RP g:=rfl
theorem put2(g:Str)(b:Addr):cQ "barred" (.ref b) (RP g)=OD g b:=by
 show (if ("signs":Str)="barred" then(("signs":Str),V.ref b)::[] else(("signs":Str),V.str g)::cQ "barred" (.ref b) [])=_;rw[if_neg (by decide+kernel)];rfl
theorem put3(g:Str)(b d:Addr):cQ "moves" (.ref d) (OD g b)=Ng g b d:=by
 show (if ("signs":Str)="moves" then(("signs":Str),V.ref d)::[(("barred":Str),V.ref b)] else(("signs":Str),V.str g)::(if ("barred":Str)="moves" then(("barred":Str),V.ref d)::[] else(("barred":Str),V.ref b)::cQ "moves" (.ref d) []))=_;rw[if_neg (by decide+kernel),if_neg (by decide+kernel)];rfl
theorem Fj(g:Str)(b d q:Addr):cQ "lasting" (.ref q) (Ng g b d)=Cz g b d q:=by
 show (if ("signs":Str)="lasting" then(("signs":Str),V.ref q)::[(("barred":Str),V.ref b),(("moves":Str),V.ref d)] else(("signs":Str),V.str g)::(if ("barred":Str)="lasting" then(("barred":Str),V.ref q)::[(("moves":Str),V.ref d)] else(("barred":Str),V.ref b)::(if ("moves":Str)="lasting" then(("moves":Str),V.ref q)::[] else(("moves":Str),V.ref d)::cQ "lasting" (.ref q) [])))=_;rw[if_neg (by decide+kernel),if_neg (by decide+kernel),if_neg (by decide+kernel)];rfl
theorem mE(g:Str)(b d:Addr):(Ng g b d).lookup ("moves":Str)=some (.ref d):=by
 rw[<-put3,aF,if_pos rfl]
theorem kF(g:Str)(b d q:Addr):(Cz g b d q).lookup ("moves":Str)=some (.ref d):=by
 rw[<-Fj,aF,if_neg (by decide+kernel)];exact mE g b d
structure aY(C:Addr)(H:Hp)(x:Addr)(g:Str)(ws ss ls:List Str):Prop where
 ex:∃(dx b d q:Addr) (mv:List (Str×Addr)),H x=some (.ins C dx (Cz g b d q))/\H b=some (.lst (ws.map V.str))/\H d=some (.dK (cD mv))/\mv.map (·.1)=ss/\(∀m∈mv,H m.2=some (.dK (rowOf g ws ss m.1)))/\H q=some (.lst (ls.map V.str))
 pm:ss.Perm (bS ws "" ws)
 so:wfE ss=true
 lv:Q6 ss (rowOf g ws ss) ls
theorem aY.same(B:aY C H x g ws ss ls)(s:a9 H j):aY C j x g ws ss ls:=by
 obtain⟨⟨a,b,d,q,c,e,f,h,i,k,n⟩,p,o,l⟩:=B;exact⟨⟨a,b,d,q,c,s _ _ e,s _ _ f,s _ _ h,i,λm r=>s _ _ (k m r),s _ _ n⟩,p,o,l⟩
section
variable{P:wat}{w:World}{K:wa2}{mg:Str->Option Value}{base:Heap}{f:Addr}{fd:wad}
inductive Ni(K:wa2)(C:Addr)(vs:List V)(H:Hp)(Q:VK)(eE:XK):Prop
 |mk (x dx g a ws) (_:vs=[.ref x,.str g,.ref a]) (_:H x=some (.ins C dx [])) (_:aL K H a (ws.map V.str)) (_:AA g) (_:ws.length<=6) (_:(∀w∈ws,zh g w)) (_:∀(ss ls:List Str) (H':Hp),aY C H' x g ws ss ls->(∀b o,H b=some o->b≠x->H' b=some o)->Q .non H')
theorem Fl(hw:∀w∈ws,w.length<=5):∀k∈bS ws "" ws,k.length<=5:=by
 have h1:∀(w:Str),w.length<=5->∀(n:Nat) (ks:List Str),(∀k∈ks,k.length<=5)->∀k∈upTo ws w ks n,k.length<=5:=by
  intro w AF n
  induction n with
  |zero=>intro ks h;exact h
  |succ n ih=>
   intro ks h k hk;rw[gH]at hk;unfold rz zi at hk;split at hk
   ·exact ih ks h k hk
   ·split at hk
    ·exact ih ks h k hk
    ·rcases waE.mp hk with z |z
     ·exact ih ks h k z
     ·have:k=dE w (1+n):=by simpa using z
      rw[this];exact wal (Fd _ _) AF
 have h2:∀(us ks:List Str),(∀w∈us,w.length<=5)->(∀k∈ks,k.length<=5)->∀k∈us.foldl (addW ws) ks,k.length<=5:=by
  intro us
  induction us with
  |nil=>intro ks _ h;exact h
  |cons w us ih=>intro ks hu h;exact ih _ (λv hv=>hu v (wac _ hv)) (h1 w (hu w (wag ..)) _ ks h)
 exact h2 ws [""] hw (λk hk=>by have:k="":=by simpa using hk
                                subst this
                                decide+kernel)
inductive HI(C:Addr)(vs:List V)(H:Hp)(Q:VK)(eE:XK):Prop
 |mk (x g ws ss ls) (_:vs=[.ref x]) (_:aY C H x g ws ss ls) (_:∀(l:Addr) (H':Hp),a9 H H'->H l=none->H' l=some (.lst (ss.map V.str))->Q (.ref l) H')
end
section
variable{P:wat}{w:World}{K:wa2}{mg:Str->Option Value}{base:Heap}{f:Addr}{fd:wad}
end
end Sx
namespace L2
open PySem PySem.Spec PyProof.Rows
theorem HJ{Ok:Hp->Prop}{Q:Hp->Prop}(R:V->Prop)(r:ml J Ok xs)(hl:H l=none)(C:xs.length<=sizeLine)(j:∀g,a9 H g->Ok g)
 (T:∀x p I,x∈xs->a9 H p->(∀y g,R y->a9 p g->I y g)->U (some x::t) p I)
 (hd:∀ys g,a9 H g->ys.length=xs.length->(∀y∈ys,R y)->g l=some (.lst ys)->Q g):o8 J l t wY U H Q:=by
 refine⟨λi m ys a=>m=xs.length-i/\i<=xs.length/\a9 H a/\a l=some (.lst ys)/\ys.length=i/\∀y∈ys,R y,⟨xs.length,by simp,waA _,a9.upd hl,a7,rfl,λy f=>(nomatch f)⟩,?_⟩;rintro i m ys a ⟨rfl,hi,d,h,k,n⟩;refine⟨h,?_⟩
 by_cases c:i<xs.length
 ·refine .inr ⟨r.go i a (j _ d) c,by omega,λx p y=>?_⟩;obtain⟨e,u⟩:=r.uG i a x p (j _ d) c y;subst e;unfold wY;dsimp only;rw[if_pos rfl];refine T x _ _ (wa8 u) d λz v C s=>?_;refine⟨s _ _ h,xs.length-(i+1),by omega,rfl,c,?_,a7,by simp[k],λy f=>?_⟩
  ·intro b o e;rw[ae (ag e hl)];exact s _ _ (d _ _ e)
  ·rcases waE.mp f with q |q
   ·exact n y q
   ·have:y=z:=by simpa using q
    subst this;exact C
 ·have e:i=xs.length:=by omega
  subst e;exact .inl ⟨r.stop a (j _ d),hd ys a d k n h⟩
theorem E8{R:Str->Prop}:∀{ys:List V},(∀y∈ys,∃t,y=.str t/\R t)->∃ts:List Str,ys=ts.map V.str/\∀t∈ts,R t
 |[],_=>⟨[],rfl,λ_ h=>nomatch h⟩
 |y::ys,h=>by
  obtain⟨t,rfl,c⟩:=h y (wag ..);obtain⟨ts,rfl,a⟩:=E8 (R:=R) (ys:=ys) λy d=>h y (wac _ d);refine⟨t::ts,rfl,λu b=>?_⟩;rcases waH.mp b with rfl |b
  ·exact c
  ·exact a u b
end L2
namespace Sx
open PySem L2 Bs
section
variable{P:wat}{w:World}{K:wa2}{mg:Str->Option Value}{base:Heap}{f:Addr}{fd:wad}
end
end Sx
namespace L2
open PySem Bs
noncomputable def roundF(ss:List Str)(es:Str->List (Key×V))(Nc:List Str):List Str:=ss.filter λp=>mD (es p) Nc
noncomputable def rounds(ss:List Str)(es:Str->List (Key×V)):Nat->List Str
 |0=>ss
 |n+1=>roundF ss es (rounds ss es n)
theorem E9(h:c∈ch g):bE (rowOf g ws ps p) (waj (⟨#[c]⟩:Str):Key)=some (uo ws ps p c):=
 HE (uo ws ps p) (λc=>(⟨#[c]⟩:Str)) (λa b e=>by
  grind) h
end L2
namespace Sx
open PySem L2 Bs
theorem yc(g:Str)(b d q:Addr):(Cz g b d q).lookup ("lasting":Str)=some (.ref q):=by
 rw[<-Fj,aF,if_pos rfl]
theorem CA(g:Str)(b d q:Addr){m:Str}(j:¬m="signs")(l:¬m="barred")(p:¬m="moves")(r:¬m="lasting"):(Cz g b d q).lookup m=none:=by
 rw[<-Fj,aF,if_neg r,<-put3,aF,if_neg p,<-put2,aF,if_neg l,<-Nh,aF,if_neg j];rfl
theorem aY.nd(B:aY C H x g ws ss ls):ss.Nodup:=B.pm.nodup_iff.mpr (sM ws)
section
variable{P:wat}{w:World}{K:wa2}{mg:Str->Option Value}{base:Heap}{f:Addr}{fd:wad}
inductive Kw(C:Addr)(vs:List V)(H:Hp)(Q:VK)(eE:XK):Prop
 |mk (x g ws ss ls) (_:vs=[.ref x]) (_:aY C H x g ws ss ls) (_:∀(l:Addr) (H':Hp),a9 H H'->H l=none->H' l=some (.lst (ls.map V.str))->Q (.ref l) H')
inductive Tw(C:Addr)(vs:List V)(H:Hp)(Q:VK)(eE:XK):Prop
 |mk (x p g ws ss ls) (_:vs=[.ref x,.str p]) (_:aY C H x g ws ss ls) (_:p∈ss) (_:Q .non H)
inductive Qa(C:Addr)(vs:List V)(H:Hp)(Q:VK)(eE:XK):Prop
 |mk (x p c g ws ss ls) (_:vs=[.ref x,.str p,.str ⟨#[c]⟩]) (_:aY C H x g ws ss ls) (_:p∈ss) (_:c∈ch g) (_:Q (uo ws ss p c) H)
end
structure Raw(K:wa2)(nm qual:Str)(st:Stmt)(f:Addr):Prop where
 ex:∃(oc:Value) (od:Option Addr) (kV doc pm:Value) (an:Option Addr) (i5 ct:Value) (Hr:Array (Option Value)),
  K.lookup f=some ⟨oc,od,.func (wcr nm qual (dQ st) (cm st) (aJ st) .none kV doc pm an i5 ct),Hr⟩/\we0 K i5 qual=true
 kp:wcT K (.ref f)=true
theorem CC{K:wa2}{nm g:Str}{st:Stmt}{f:Addr}{t:Value}{C I:Option Addr}{p:Array (Option Value)}{kV r pm j ct:Value}(l:K.lookup f=some ⟨t,C,.func (wcr nm g (dQ st) (cm st) (aJ st) .none kV r pm I j ct),p⟩)
 (c:we0 K j g=true) (k:wcT K (.ref f)=true):Raw K nm g st f:=⟨⟨t,C,kV,r,pm,I,j,ct,p,l,c⟩,k⟩
theorem Raw.fn(R:Raw K nm g st f)
 (h:∀(kV j pm:Value) (r:Option Addr) (p ct:Value) (us:List Value),us.length=ps.length->bindArgs (wcr nm g (dQ st) (cm st) (aJ st) .none kV j pm r p ct) ⟨us,[]⟩=pure (ps.zip us)) :
 ∃fd,Ar K nm g st f fd/\Binds K fd ps []:=by
 obtain⟨⟨b,d,kV,j,pm,r,p,ct,a,l,c⟩,k⟩:=R;have F:=Hs (st:=st) l c k;exact⟨_,F,F.binds h⟩
theorem Raw.at_{mg:Str->Option Value}(X:K.In l)(G:l.Ns waR mg)(a:PySem.W.nsIn K waR nm=some (some (.ref f)))(R:Raw K nm nm st f)
 (h:∀(kV g pm:Value) (p:Option Addr) (j ct:Value) (us:List Value),us.length=ps.length->bindArgs (wcr nm nm (dQ st) (cm st) (aJ st) .none kV g pm p j ct) ⟨us,[]⟩=pure (ps.zip us)) :
 ∃fd,FnAt K mg nm st ps f fd:=by
 obtain⟨fd,F,b⟩:=R.fn h;exact⟨fd,F,b,PySem.W.mg_of X G a⟩
theorem i7{ss:List Str}{i:Nat}{y:V}(h:(ss.map V.str)[i]?=some y):∃p,ss[i]?=some p/\y=.str p/\i<ss.length/\p∈ss/\ss.take (i+1)=ss.take i++[p]:=by
 rw[wa4]at h
 cases e:ss[i]? with
 |none=>rw[e]at h;cases h
 |some z=>
  rw[e]at h;exact⟨z,rfl,(wae h).symm,(wa6.mp e).1,wa8 e,by rw[waP,e];rfl⟩
theorem Fm(h:(fh g)[i]?=some y):∃c,(ch g)[i]?=some c/\y=.str ⟨#[c]⟩/\i<(ch g).length/\c∈ch g/\(ch g).take (i+1)=(ch g).take i++[c]:=by
 unfold fh at h;rw[wa4]at h
 cases e:(ch g)[i]? with
 |none=>rw[show g.cps.toList[i]?=none from e]at h;cases h
 |some z=>
  rw[show g.cps.toList[i]?=some z from e]at h;exact⟨z,rfl,(wae h).symm,(wa6.mp e).1,wa8 e,by rw[waP,e];rfl⟩
theorem CD(g:Str):(fh g).length=g.length:=by grind [fh,aW]
inductive Ea(K:wa2)(vs:List V)(H:Hp)(Q:VK)(eE:XK):Prop
 |mk (a:Addr) (ns:List Int) (_:vs=[.ref a]) (_:aL K H a (ns.map V.int)) (_:ns.length<=63) (_:∀H',Q (.bl true) H')
end Sx
namespace L2
open PySem PySem.Spec PyProof.Rows
section
variable{X:Cx}{st:Stmt}{rest:List Stmt}{t u:TS}
inductive Tx(t u:TS)(D:Ends)(σ:St)(H:Hp):Prop
 |mk (Z) (_:t {D with nx:=Z} σ H) (_:∀σ' H',Z σ' H'->u D σ' H')
theorem Eb(g:PS X st t)(j:wR X rest u):wR X (st::rest) (Tx t u):=by
 intro a s σ H D I h;obtain⟨Z,d,e⟩:=h;refine wcV (bY (g a s σ H {D with nx:=Z} I d) λf i q=>?_)
 cases f with
 |next=>
  obtain⟨b,c,k,q⟩:=q;exact j a i b c D k (e b c q)
 |ret v=>exact q
 |brk=>exact q
 |cont=>exact q
end
theorem Ec(xs:List V)(n:Nat):mw xs none (some (n:Int))=xs.take n:=by simp_all [mw,HT.Al,weO,Nat.sub_zero,if_neg,wdG,Nat.min_eq_right,waI,wbf]
end L2
namespace Sx
open PySem L2 Bs
noncomputable def one(c:Nat):Str:=⟨#[c]⟩
theorem fE(nx:g x=none)(j:g l=none):a9 g (upd (upd g l p) x o2):=λb o e=>by rw[ae (ag e nx),ae (ag e j)];exact e
theorem aY.few(B:aY C H x g ws ss ls)(hl:ws.length<=6)(hw:∀w∈ws,zh g w):ss.length<=25:=by
 have:=nV (ws:=ws) (e:="") (us:=ws) λw a=>(hw w a).hi;rw[B.pm.length_eq];omega
end Sx
namespace L2
open PySem PySem.Spec PyProof.Rows PySem.W
section
variable{prog:wat}{w:World}{A:Around}{R:wd9->Shared->Prop}{h:Heap}{g:Array wds}{d:Drawn}{t:Nat}{os:wbS}
variable{nm q:Str}{C N:Addr}{bs bm bmB:List Value}{hdct:Bool}{sn:List Str}{sub:List Value}{ab:Bool}{col:Option Bool}{dd:Option Addr}{k0 k1 k2 k3 k5:Option Value}{B newId Tz:String}
noncomputable abbrev fz(C t:Addr):Obj:={cls:=.ref C,data:=.fields #[.ref t,.none,.none,.none,.bool false,.none]}
noncomputable abbrev rB(vs:List Value):Obj:={cls:=.type "tuple",data:=.seq vs.toArray}
end
end L2
namespace L2
open PySem PySem.Spec PyProof.Rows PySem.W
open Builtin Builtin.ObjectAttr
noncomputable abbrev RQ:List Value:=[.type "ValueError",.type "Exception",.type "BaseException",.type "object"]
noncomputable abbrev oW(CB:Addr):List Value:=.ref CB::RQ
section
variable{prog:wat}{w:World}{A:Around}{E:Value->Shared->Prop}{s:Shared}{K:wa2}{x dx C CB f:Addr}{mA:Str->Option Value}{name:Str}{v:Value}{R:wd9->Shared->Prop}
theorem yd(X:K.In s.heap)(I:InstAt s.heap x ox C od)(hc:clsIn K C=some cd)(hm:cd.mro=.ref C::oW CB)(ha:findIn K (.ref C) name=some none)
 (h:wpAny (model prog w) A.in1 (storeInOwnDict (.ref x) (.ref C) (.str name tk) name v false)
   (λfin s'=>match fin with |.done f=>R (.ok f) s' |.again c'=>c'.quiet=true/\codeAny (model prog w) A c' R s') (λe s'=>R (.error e) s') s) :
 codeAny (model prog w) A (.call (.builtin "object.__setattr__") ⟨[.ref x,.str name tk,v],[]⟩) R s:=by
 have SF:=PySem.F.store_object;have sub:Looks (model prog w) s.heap (isInstance (.ref x) (.type "object")) true:=I.type.andThen (looks_mroIn X (by unfold mroIn;rw[hc,Option.bind_some,hm];rfl));refine wcS SF.slot.plain SF.entry (@check_slot (model prog w) _ _ s "object.__setattr__" "object" "__setattr__" (.ref x) [.str name tk,v] [] _ SF.kind SF.split sub (SF.args (.ref x) (.str name tk) v) ?_);have TB:Looks (model prog w) s.heap (mroOf (.ref C)) cd.mro:=(we3 X hc).andThen .now;have L3:Looks (model prog w) s.heap (storeTaker? none) none:=.now;rw[osa_eq,refuse_eq];refine wa7 (wa7 (I.type.here (wa7 (TB.here ?_))));rw[hm,refuseLoop_ref,refuseLoop_ref,PySem.F.store_ValueError.passes];refine waz (wa7 (I.type.here (wa7 ((weN X ha).here (wa7 (L3.here ?_))))));exact h
theorem HK{Q:Unit->Shared->Prop}(X:K.In s.heap)(hx:s.heap.get? x=some (fz C t))(hc:clsIn K C=some cd)(hm:cd.mro=.ref C::oW CB)(hh:cd.hasDict=true)(ha:findIn K (.ref C) name=some none)
 (hs:findIn K (.ref C) "__setattr__"=some (some (.builtin "object.__setattr__")))
 (h:∀h' d tk,s.heap.objs.size<=d->(∀b o,b≠x->s.heap.get? b=some o->h'.get? b=some o)->h'.get? x=some {cls:=.ref C,dict:=some d,data:=.fields #[.ref t,.none,.none,.none,.bool false,.none]}->h'.Ns1 d (λy=>if y=name then some v else none)->Q () {s with heap:=h',toks:=tk}) :
 wpAny (model prog w) A (setAttr (.ref x) name v) Q E s:=by
 have J:InstAt s.heap x (fz C t) C none:=⟨hx,rfl,rfl,trivial⟩;refine wf5 X J hs (yd (s:={s with toks:=s.toks+1}) X J hc hm ha ?_);unfold storeInOwnDict;refine wa7 (waz ?_);rw[if_neg (by simp)];unfold ownDictForStores instanceDict;refine wa7 (wa7 (wgf hx ?_));dsimp only;refine wa7 (weT (s:={s with toks:=s.toks+1}) (we3 X hc) ?_);rw[hh];have VY:(s.heap.push {cls:=.type "dict",data:=.dict #[]}).get? x=some (fz C t):=wa9 _ hx;have VZ:x≠s.heap.objs.size:=war (waf hx);simp only[wgG,wbV,if_false,Bool.not_false,Bool.false_or];rw[if_neg (by simp[typeHasDict])];refine wa7 (wpAny_alloc ?_);refine wa7 (wpAny_update VY ?_);refine waz ?_
 have RT:((s.heap.push {cls:=.type "dict",data:=.dict #[]}).update x λo=>{cls:=o.cls,dict:=some s.heap.objs.size,data:=o.data,slots:=o.slots}).get? s.heap.objs.size
  =some {cls:=.type "dict",data:=.dict #[]}:=(wgJ _ _ _ _ VZ.symm).trans (Heap.get?_push_at rfl rfl)
 have TC:((s.heap.push {cls:=.type "dict",data:=.dict #[]}).update x λo=>{cls:=o.cls,dict:=some s.heap.objs.size,data:=o.data,slots:=o.slots}).Ns s.heap.objs.size (λ_=>none):=
  ⟨_,#[],_,RT,rfl,λe he=>absurd he (by simp),λ_=>rfl⟩
 show wpAny _ _ (storeInDict s.heap.objs.size (.str name s.toks) name v) _ _ _;unfold storeInDict newKeyGuard;refine wa7 (waz (wa7 (wgT (wh6 TC) λh' BX M8=>?_)));obtain⟨oD,Yt,Yu,TF,W2,W3⟩:=BX.count (wfQ name v Within.nil);refine wa7 (wfn TF (by rw[W2];exact wfo (wal W3 (by grind))) ?_)
 wp_walk
 refine h h' s.heap.objs.size _ (waa _) (λb ob Yv hb=>?_) ?_ BX
 ·exact(M8.2 b (war (waf hb))).trans ((wgJ _ _ _ _ Yv).trans (wa9 _ hb))
 ·exact(M8.2 x VZ).trans (wbB _ VY rfl)
end
section
variable{prog:wat}{w:World}{A:Around}{E:Value->Shared->Prop}{s:Shared}{K:wa2}{x dx C CB f:Addr}{mA:Str->Option Value}{name:Str}{v:Value}{R:wd9->Shared->Prop}
end
section
variable{prog:wat}{w:World}{A:Around}{E:Value->Shared->Prop}{s:Shared}{K:wa2}{x dx C CB f:Addr}{mA:Str->Option Value}{name:Str}{v:Value}{R:wd9->Shared->Prop}{nm q:Str}{N:Addr}{bs:List Value}{sn:List Str}{sub:List Value}{ab:Bool}{col:Option Bool}{dd:Option Addr}{k0 k1 k2 k3 k5:Option Value}
theorem uW(X:K.In s.heap)(j:s.heap.get? x=some (fz C t))(hk:K.lookup C=some (wbs nm q C N bs (oW CB) true sn sub ab col dd k0 k1 k2 k3 k5 "ValueError.__new__"))
 (h:∀h' t',(∀b o,b≠x->s.heap.get? b=some o->h'.get? b=some o)->h'.get? x=some (fz C t')->R (.ok (.ret .none)) {s with heap:=h'}) :
 codeAny (model prog w) A (.call (.builtin "ValueError.__init__") ⟨[.ref x,u],[]⟩) R s:=by
 have F:=wcg;have f:=X _ _ hk;have J:InstAt s.heap x (fz C t) C none:=⟨j,rfl,rfl,trivial⟩;have sub:Looks (model prog w) s.heap (isInstance (.ref x) (.type "ValueError")) true:=J.type.andThen (looks_mroIn X (by unfold mroIn clsIn;rw[hk];rfl));refine wcS F.init.plain F.initEntry ?_;simp only[weg,F.initKind,F.initSplit,F.initRow];refine wa7 (sub.here ?_);simp only[wgG,wbV,if_false];have a:=F.noStar;obtain⟨c,g,d,l,os⟩:=s
 repeat (first |with_reducible refine wbd f ?_ |wp_step)
 have i:x≠c.objs.size:=war (waf j);refine h _ c.objs.size (λb o k e=>?_) ?_
 ·rw[waS _ _ (wbc k)];exact wa9 _ e
 ·exact wbB _ (wa9 _ j) rfl
theorem CF{Q:Value->Shared->Prop}(X:K.In s.heap)(g:s.heap.get? x=some (fz C t))(hk:K.lookup C=some (wbs nm q C N bs (oW CB) true sn sub ab col dd k0 k1 k2 k3 k5 "ValueError.__new__"))
 (h:∀h' t',(∀b o,b≠x->s.heap.get? b=some o->h'.get? b=some o)->h'.get? x=some (fz C t')->Q .none {s with heap:=h'}) :
 wpAny (model prog w) A (call (.builtin "ValueError.__init__") [.ref x,u]) Q E s:=wdb (uW X g hk h)
end
end L2
namespace L2
open PySem PySem.Spec PyProof.Rows
structure JS(lo:Nat)(H:Hp)(h:Heap)(e C:Addr)(od:Option Addr):Prop where
 ge:lo<=e
 nt:H e=none
 ob:∃vs sl,h.get? e=some ⟨.ref C,od,.fields vs,sl⟩/\1<vs.size /\
  (vs[1]?=some .none\/∃T oT ts,vs[1]?=some (.ref T)/\lo<=T/\H T=none/\T≠e/\h.get? T=some oT/\oT.data=.fields ts/\ts[3]?=some .none)
theorem JS.low{lo j:Nat}{H:Hp}{h:Heap}{e C:Addr}{l:Option Addr}(F:JS lo H h e C l)(hl:j<=lo):JS j H h e C l:=by
 obtain⟨g,n,i,sl,k,m,f⟩:=F;refine⟨wal hl g,n,i,sl,k,m,?_⟩;rcases f with f |⟨T,o,p,a,b,c,d⟩
 ·exact .inl f
 ·exact .inr ⟨T,o,p,a,wal hl b,c,d⟩
section
variable{M:Model}{A:Around}{E:Value->Shared->Prop}{s:Shared}{base:Heap}{env:Env}{outer:List Env}{L e C:Addr}{od:Option Addr}{lo:Nat}{H:Hp}
structure Fn(lo:Nat)(H:Hp)(fs:List Addr)(h h':Heap):Prop where
 keep:∀b o,h.get? b=some o->(b<lo\/H b≠none)->b∉fs->h'.get? b=some o
 slot:∀b o,h.get? b=some o->b∈fs->∃sl,h'.get? b=some {o with slots:=sl}
theorem ye{Q:Unit->Shared->Prop}
 (Qb:A.frames=some (env::outer)) (hl:s.heap.FunFrames base (env::outer)) (hf:env.frame=some L) (Ma:lo<=s.heap.objs.size) (Qc:∀b,s.heap.objs.size<=b->H b=none) (Qe:lo<=e) (W4:H e=none)
 (he:s.heap.get? e=some oe) (y4:oe.cls=.ref C) (W6:oe.dict=od) (hd:oe.data=.fields vs) (hsz:1<vs.size)
 (h:∀h',JS lo H h' e C od->Fn lo H ((env::outer).filterMap (·.frame)) s.heap h'->Q () {s with heap:=h'}) :
 wpAny M A (do let a <-frameOf env;let pl <-entryPlaceOf L RU;let b <-wgK head a .none (rawInt L) .none pl;setField (.ref e) 1 b) (λ_ s'=>wpAny M A (wfU (.ref e) none) Q E s') E s:=by
 have Qf:e∉(env::outer).filterMap (·.frame):=λhm=>by
  obtain⟨_,o,ho,TH⟩:=hl.mem hm;rw[he]at ho;injection ho with ho;subst ho;exact TH vs hd
 refine wa7 (wpAny_frameOf_fun Qb hl hf λh₁ Qg=>?_);refine wa7 (wpAny_entryPlaceOf λpl Kx=>?_);unfold wgK newFields;refine wa7 (wf8 ?_ (Kx.sizeOk5 _ _ _ _ _));have W8:h₁.get? e=some oe:=(Qg.2.1 e Qf).trans he;have Wa:=wa9 (h:=h₁) {cls:=.type "traceback",dict:=none,data:=.fields ([head,.ref L,.none,rawInt L,.none]++(if pl.isEmpty then wak 6 wbA else pl)).toArray} W8;refine weP Wa hd hsz ?_;have Km:h₁.objs.size≠e:=wcb (waf W8);have Wb:=wdg hd (·.setIfInBounds 1 (wam h₁.objs.size));have Wc:=wbB (wd6 (·.setIfInBounds 1 (wam h₁.objs.size))) Wa (wem Wb)
 have Wd:=(waS (h₁.push {cls:=.type "traceback",dict:=none,data:=.fields ([head,.ref L,.none,rawInt L,.none]++(if pl.isEmpty then wak 6 wbA else pl)).toArray})
  (wd6 (·.setIfInBounds 1 (wam h₁.objs.size))) (wbc Km)).trans (wav h₁ rfl)
 unfold wfU;refine wa7 (we8 Wc Wb (x:=.ref h₁.objs.size) (by simp[hsz]) ?_);rw[if_pos (show (wam h₁.objs.size != wbA)=true from by simp)];refine weP Wd rfl (by simp only[waB,wa5,waM,wfS]<;>omega) (h _ ?_ ?_)
 ·refine⟨Qe,W4,vs.setIfInBounds 1 (.ref h₁.objs.size),oe.slots,?_,by simpa using hsz,.inr ⟨h₁.objs.size,_,_,by simp[hsz],by rw[Qg.1];exact Ma,Qc _ (by rw[Qg.1];exact waa _),Km,
   wbB _ Wd (wem (wdg rfl _)),wdg rfl _,by first |(simp;done) |(rcases Kx with rfl |⟨_,_,_,_,_,_,_,rfl⟩<;>simp)⟩⟩
  rw[waS _ _ Km,Wc];obtain⟨c,d,dt,sl⟩:=oe;dsimp only at y4 W6 hd;subst y4 W6 hd;rfl
 ·have keep:∀b o,b≠e->h₁.get? b=some o ->
   (((h₁.push {cls:=.type "traceback",dict:=none,data:=.fields ([head,.ref L,.none,rawInt L,.none]++(if pl.isEmpty then wak 6 wbA else pl)).toArray}).update e (wd6 (·.setIfInBounds 1 (wam h₁.objs.size)))).update h₁.objs.size
     (wd6 (·.setIfInBounds 3 ((none:Option Addr).elim wbA λf=>rawInt f)))).get? b=some o:=λb o Yw hb=>by
   have Yx:h₁.objs.size≠b:=wcb (waf hb);rw[waS _ _ Yx,waS _ _ (wbc Yw)];exact wa9 _ hb
  refine⟨λb o hb hx TH=>keep b o ?_ ((Qg.2.1 b TH).trans hb),λb o hb hm=>?_⟩
  ·rintro rfl;rcases hx with hx |hx
   ·exact absurd (waw hx Qe) (wbj _)
   ·exact hx W4
  ·obtain⟨sl,hs⟩:=Qg.2.2 b o hb;exact⟨sl,keep b _ (λz=>Qf (z ▸ hm)) hs⟩
theorem AG{Q:Unit->Shared->Prop}(p:A.frames=some (env::outer))(hl:s.heap.FunFrames base (env::outer))(I:env.frame=some L)(r:lo<=s.heap.objs.size)(g:∀b,s.heap.objs.size<=b->H b=none)
 (F:JS lo H s.heap e C od) (h:∀h',JS lo H h' e C od->Fn lo H ((env::outer).filterMap (·.frame)) s.heap h'->Q () {s with heap:=h'}) :
 wpAny M A (noteFrame (.ref e) env) (λ_ s'=>wpAny M A (wfU (.ref e) none) Q E s') E s:=by
 obtain⟨m,n,z,sl,v,t,k⟩:=F;unfold noteFrame;simp only[I];rcases k with k |⟨T,N,B,G,u,x,y,w,i,k⟩
 ·refine wa7 (we8 v rfl k ?_);rw[if_neg (by decide)];exact ye p hl I r g m n v rfl rfl rfl t h
 ·refine wa7 (we8 v rfl G ?_);rw[if_pos (show (wam T != wbA)=true from by simp)];refine wa7 (we8 w i k ?_);rw[if_neg (show ¬((wbA==rawInt L)=true) from by simp[rawInt])];refine wa7 (weP w i (wf1.mp k).1 ?_);have other:∀b,b≠T->(s.heap.update T (wd6 (·.setIfInBounds 3 wbA))).get? b=s.heap.get? b:=λb a=>waS _ _ (wbc a)
  have c:∀b o,s.heap.get? b=some o->(∀z,o.data≠.fields z)->b≠T:=λb o a d q=>by
   rw[q,w]at a;injection a with a;subst a;exact d B i
  have f:(s.heap.update T (wd6 (·.setIfInBounds 3 wbA))).objs.size=s.heap.objs.size:=Heap.size_after_update ..;refine ye (s:={s with heap:=s.heap.update T (wd6 (·.setIfInBounds 3 wbA))}) p (hl.of_keeps λb o a d=>⟨o,(other b (c b o a d)).trans a,rfl⟩) I (by show lo<=_;rw[f];exact r) (λb a=>g b (by rw[<-f];exact a)) m n ((other e (wbc y)).trans v) rfl rfl rfl t λh' J P=>h h' J ⟨λb o a l hn=>P.keep b o ((other b ?_).trans a) l hn,λb o a D=>P.slot b o ((other b ?_).trans a) D⟩
  ·rintro rfl;rcases l with l |l
   ·exact absurd (waw l u) (wbj _)
   ·exact l x
  ·rintro rfl;obtain⟨_,O,j,d⟩:=hl.mem D;rw[w]at j;injection j with j;subst j
   exact d B i
end
noncomputable def BZ(P:wat)(w:World):GA:=λouter H s E ev s'=>∃e C od H',ev=.ref e/\s'.os=s.os/\AllBare s'.gens/\Un (sD outer) [] H H' s.heap s'.heap/\jI P w H' s'.heap/\JS s.heap.objs.size H' s'.heap e C od/\E (.ref C) od H'
def Ed(X:Cx)(E:XK):Prop:=∀(pins:List (Addr×Obj)) (σ:St) (H:Hp) (s:Shared) (e C:Addr) (od:Option Addr),Inv X pins σ H s->JS X.s₀.heap.objs.size H s.heap e C od->E (.ref C) od H->X.xe (.ref e) s
theorem yf{X:Cx}(g:Ed X E):Passes (BZ X.prog X.w) X E:=λa σ H s k d I h=>by
 obtain⟨e,C,f,i,rfl,c,bare,un,b9,F,j⟩:=h;exact g a σ i d e C f (I.xO c un b9 bare λb z=>absurd z (by simp)) (F.low I.sz) j
section
variable{P:wat}{w:World}{K:wa2}{mg:Str->Option Value}{base:Heap}{N:List Str}{qual:Str}{scope:wd8}{f:Addr}{cd:Value}{A:Around}{outer:List Env}{s:Shared}{H:Hp}{E:XK}
theorem jI.past{lo:Nat}{H:Hp}{fs:List Addr}{h h':Heap}(x:jI P w H h)(p:Fn lo H fs h h')(g:∀b∈fs,H b=none):jI P w H h':=λa o e=>
 (x a o e).tW (λb u c q=>p.keep b u q (.inr (by grind)) λd=>by
   grind) (λ_ q=>q) λ_ _ q=>q
theorem d9:Ed (uK (BZ P w) P w K mg base N qual scope f cd A outer s H E) E:=by
 intro v σ l x e C y I F B;show wpAny (model P w) _ («leaving» _ (.ref e)) (λ_ d=>BZ P w outer H s E (.ref e) d) (λD d=>BZ P w outer H s E D d) x;unfold «leaving»;have g:∀b,x.heap.objs.size<=b->l b=none:=λb a=>I.b9.fresh a;refine wa7 (AG (lo:=s.heap.objs.size) (H:=l) (base:=base) (outer:=outer) I.ok.frames I.stack rfl I.sz g F λJ G p=>?_);have m:=I.uh
 have h:∀b o,s.heap.get? b=some o->b∉sD outer->b∉(envOfC qual scope s.heap.objs.size f cd::outer).filterMap (·.frame):=λb o a hn j=>by
  rcases waH.mp (show b∈s.heap.objs.size::sD outer from j) with z |z
  ·exact absurd (waf a) (by rw[z];exact wbj _)
  ·exact hn z
 refine⟨e,C,y,l,rfl,I.os,I.bare,?_,I.b9.past p m,G,B⟩;have u:=I.base;refine⟨λb o a n c i=>?_,λb o a n c i=>?_,λb o a n i=>u.free b o a n i,λb o a i=>?_,u.uC,u.tX,u.uD⟩
 ·exact p.keep b o (u.keep b o a n c i) (.inl (waf a)) (h b o a c)
 ·obtain⟨sl,k⟩:=u.slot b o a n c i;obtain⟨q,r⟩:=p.slot b _ k (show b∈s.heap.objs.size::sD outer from wac _ c);exact⟨q,r⟩
 ·obtain⟨t,k⟩:=u.there b o a i
  by_cases j:b∈(envOfC qual scope s.heap.objs.size f cd::outer).filterMap (·.frame)
  ·obtain⟨sl,r⟩:=p.slot b t k j;exact⟨_,r⟩
  ·exact⟨t,p.keep b t k (.inl (waf a)) j⟩
theorem Ar.Yy{x qual:Str}{st:Stmt}{f:Addr}{fd:wad}{N ps:List Str}{k:Nat}{sp:Sp}(F:Ar K x qual st f fd)(S:uk N ps (aJ st))(len:∀vs H Q E,sp vs H Q E->vs.length=ps.length)
 (j:∀(g:Value) (A:Around) (outer:List Env) (s:Shared) (H:Hp) (vs:List V) (Q:VK) (E:XK),eT k (A.deeper (envOfC qual (aJ st) s.heap.objs.size f g))->sp vs H Q E ->
   ∃t,wR (uK (BZ P w) P w K mg base N qual (aJ st) f g A outer s H E) (cm st) t/\t {nx:=λ_ l=>Q .non l,rt:=Q} (start N vs) H):aT P w K mg base (BZ P w) (k+1) f fd ps sp:=by
 obtain⟨h,i,kV,c,pm,m,g,ct,d,rfl,lk,a⟩:=F.ex;exact M3 lk a S len λA outer s H vs Q E e b=>j g A outer s H vs Q E e b
end
open PySem.W (Looks looks_findIn looks_typeIn InitBack bind_fn findIn clsIn specialIn readsIn findCls keepIn isFn typeIn InstAt)
section
variable{prog:wat}{w:World}{A:Around}{R:wd9->Shared->Prop}{h:Heap}{g:Array wds}{d:Drawn}{t:Nat}{os:wbS}
variable{nm q:Str}{C CB N:Addr}{bs:List Value}{hdct:Bool}{sn:List Str}{sub:List Value}{ab:Bool}{col:Option Bool}{dd:Option Addr}{k0 k1 k2 k3 k5:Option Value}
theorem Ky{M:Model}{E:Value->Shared->Prop}{rest:List Value}{Q:Unit->Shared->Prop}(j:h.get? C=some (wbs nm q C N bs (oW CB) hdct sn sub ab col dd k0 k1 k2 k3 k5 "ValueError.__new__"))
 (l:Q () ⟨h,g,d,t,os⟩):wpAny M A (weg "ValueError.__new__" ⟨.ref C::rest,[]⟩) Q E ⟨h,g,d,t,os⟩:=by
 have F:=wcg;have a:(wam C::oW CB).contains (.type "ValueError")=true:=rfl;have b:=F.noStar;simp only[weg,F.newKind,F.newSplit,F.newRow]
 repeat (first |refine wbd j ?_ |(refine wbP j ?_;rw[a]) |refine wpAny_staticBase_exc j ?_ |refine wpAny_madeBy_exc j ?_ |simp only[bne_self_eq_false,wbV,if_false] |wp_step)
 exact l
theorem Kz{rest:List Value}(j:h.get? C=some (wbs nm q C N bs (oW CB) hdct sn sub ab col dd k0 k1 k2 k3 k5 "ValueError.__new__"))
 (r:R (.ok (.ret (.ref (h.objs.size+1)))) ⟨(h.push {cls:=.type "tuple",data:=.seq rest.toArray}).push
   {cls:=.ref C,data:=.fields #[.ref h.objs.size,.none,.none,.none,.bool false,.none]},g,d,t,os⟩) (l:rest.length<=sizeLine:=by size_fits) :
 codeAny (model prog w) A (.builtin "ValueError.__new__" ⟨.ref C::rest,[]⟩) R ⟨h,g,d,t,os⟩:=by
 have F:=wcg;have a:=F.ends;have b:(wam C::oW CB).contains (.type "ValueError")=true:=rfl;have c:(wam C::oW CB).contains (.type "AttributeError")=false:=rfl;have e:(wam C::oW CB).contains (.type "NameError")=false:=rfl;refine codeAny_builtinAt F.entry ?_;unfold weL.«BaseException.__new__»;refine whG ?_;show PySem.wpAt _ _ _ (PySem.stack >>= _) _ _ _;refine whG (PySem.wpAt_stack λp f=>wgL ?_)
 wp_walk
 refine wgL ?_;rw[F.owner]
 repeat (first |with_reducible refine wpAny_madeHere_exc F.canon j ?_ |with_reducible refine wbd j ?_ |(with_reducible refine wbP j ?_;first |rw[b] |rw[c] |rw[e]) |wp_step)
 show R _ _;rw[wbK];exact r
theorem HL{rest:List Value}{init:Value}{p:Around}(l:h.get? C=some (wbs nm q C N bs (oW CB) hdct sn sub ab col dd k0 k1 k2 k3 k5 "ValueError.__new__"))
 (hi:Looks (model prog w) h (wfe (.ref C) "__init__") (some init)) (J:∀self,Looks (model prog w) h (bindSpecial init self) (init,[self])) (j:rest.length<=sizeLine)
 (T:codeAny (model prog w) p (.call init ⟨.ref (h.objs.size+1)::rest,[]⟩) (InitBack (h.objs.size+1) R) ⟨(h.push (rB rest)).push (fz C h.objs.size),g,d,t,os⟩) :
 wpAny (model prog w) p (weL.«type.__call__» ⟨.ref C::rest,[]⟩) (λfin s'=>match fin with |.done f=>R (.ok f) s' |.again I=>I.quiet=true/\codeAny (model prog w) A I R s') (λe s'=>R (.error e) s') ⟨h,g,d,t,os⟩:=by
 have F:=wcg
 repeat (first |with_reducible refine wbd l ?_ |with_reducible refine wpAny_madeBy_exc l ?_ |wp_step)
 refine codeAny_call_builtin_code (wdU _ F.quiet) (Ky l ?_);refine Kz l ?_ j;show wpAny _ _ _ _ _ _;have k:∀b o,h.get? b=some o->((h.push (rB rest)).push (fz C h.objs.size)).get? b=some o:=λb o e=>wa9 _ (wa9 _ e)
 have a:=wa9 {cls:=.ref C,data:=.fields #[.ref h.objs.size,.none,.none,.none,.bool false,.none]}
  (wa9 {cls:=.type "tuple",data:=.seq rest.toArray} l)
 have c:((h.push {cls:=.type "tuple",data:=.seq rest.toArray}).push {cls:=.ref C,data:=.fields #[.ref h.objs.size,.none,.none,.none,.bool false,.none]}).get? (h.objs.size+1)=some {cls:=.ref C,data:=.fields #[.ref h.objs.size,.none,.none,.none,.bool false,.none]}:=by heap_get
 have i:(wam C::oW CB).contains (.ref C)=true:=by simp
 have m:=hi.keeps k;have b1:=(J (.ref (h.objs.size+1))).keeps k;unfold isInstance
 repeat (first |with_reducible refine wbd c ?_ |(with_reducible refine wbP a ?_;rw[i]) |wp_step)
 show wpAny _ _ (wfe (.ref C) _) _ _ _;refine m.at ?_;refine wbn (wa7 (b1.at ?_));refine wa7 (wdb (wcd T λr s' z=>?_));rcases r with e |(v |_ |_ |_)<;>first |exact z |exact z.elim |skip
 obtain⟨rfl,z⟩:=z
 wp_walk
 exact z
theorem AH{rest:List Value}{init:Value}(l:h.get? C=some (wbs nm q C N bs (oW CB) hdct sn sub ab col dd k0 k1 k2 k3 k5 "ValueError.__new__"))
 (hi:Looks (model prog w) h (wfe (.ref C) "__init__") (some init)) (p:∀self,Looks (model prog w) h (bindSpecial init self) (init,[self])) (j:rest.length<=sizeLine)
 (r:codeAny (model prog w) (A.under (.builtin "type.__call__" ⟨.ref C::rest,[]⟩)) (.call init ⟨.ref (h.objs.size+1)::rest,[]⟩) (InitBack (h.objs.size+1) R) ⟨(h.push (rB rest)).push (fz C h.objs.size),g,d,t,os⟩) :
 codeAny (model prog w) A (.call (.ref C) ⟨rest,[]⟩) R ⟨h,g,d,t,os⟩:=by
 have f1:=tc_lookup;have f2:=PySem.tc_bind (.ref C);have a:(⟨h,g,d,t,os⟩:Shared).TypeIs (.ref C) "type":=⟨_,l,rfl⟩;refine wfT ?_;show wpAny _ _ (callAny (.ref C) _) _ _ _
 repeat (any_goals (first |assumption |with_reducible refine wbd l ?_ |wp_step))
 refine⟨rfl,?_⟩;exact codeAny_call_builtin_at (wdU _ (by decide+kernel)) entry_typeCall (wpAny_check_type_call_sub l (HL l hi p j r))
theorem sN{E:Value->Shared->Prop}{Q:Flow->Shared->Prop}(p:A.handled=none)
 (h:wpAny M A (eval x env) (λv j=>∃e l t,v=.ref e/\j.heap.get? C=some (wbs nm q C N bs (oW CB) hdct sn sub ab col dd k0 k1 k2 k3 k5 "ValueError.__new__") /\
   j.heap.get? e=some {cls:=.ref C,dict:=l,data:=.fields #[.ref t,.none,.none,.none,.bool false,.none]}/\E (.ref e) j) E s) :
 wpAny M A (exec (.Raise (some x) none pos) env) Q E s:=by
 have key:wpAny M A (raiseStmt env (some (do let v <-eval x env;standAt pos;pure v)) none) Q E s:=by
  have b:(wam C::oW CB).contains (.type "BaseException")=true:=rfl;unfold raiseStmt;refine wa7 (wa7 (wba h (λv j a=>wa7 (wdz (waz ?_))) λ_ _ x=>x));obtain⟨e,l,t,rfl,c,f,i⟩:=a;obtain⟨k,g,d,m,os⟩:=j
  repeat (first |with_reducible refine wbd f ?_ |with_reducible refine wbd c ?_ |(with_reducible refine wbP c ?_;rw[b]) |wp_step)
  exact wpAny_raiseNew_none p i
 rw[arm_exec_Raise];exact wa7 (wdz key)
end
end L2
namespace L2
open PySem PySem.Spec PyProof.Rows
open PySem.W (Looks looks_findIn looks_typeIn InitBack bind_fn findIn clsIn specialIn readsIn findCls keepIn isFn typeIn InstAt)
structure fi(K:wa2)(C CB:Addr)(nm:Str):Prop where
 lk:∃(q:Str) (N:Addr) (bs:List Value) (sn:List Str) (sub:List Value) (ab:Bool) (col:Option Bool) (dd:Option Addr) (k0 k1 k2 k3 k5:Option Value),
  K.lookup C=some (wbs nm q C N bs (oW CB) true sn sub ab col dd k0 k1 k2 k3 k5 "ValueError.__new__")
 sa:findIn K (.ref C) "__setattr__"=some (some (.builtin "object.__setattr__"))
 ga:findIn K (.ref C) "__getattribute__"=some (some (.builtin "BaseException.__getattribute__"))
 gh:findIn K (.ref C) "__getattr__"=some none
 kp:keepIn K (.ref C)=true
structure HM(K:wa2)(CB:Addr):Prop where
 sp:weX K (.ref CB) "__getattribute__"=some (some (.builtin "type.__getattribute__"))
 rd:readsIn K CB (.type "type")=true
 fc:findCls K (.ref CB) (.type "type") "__init__"=some (.val (.builtin "ValueError.__init__"))
noncomputable def XN(x C:Addr):HO:=.ext λh=>∃t,h.get? x=some (fz C t)
noncomputable abbrev uq(C d t:Addr):Obj:={cls:=.ref C,dict:=some d,data:=.fields #[.ref t,.none,.none,.none,.bool false,.none]}
noncomputable def XD(x C d:Addr):HO:=.ext λh=>∃t,h.get? x=some (uq C d t)
section
variable{P:wat}{w:World}{H:Hp}{h:Heap}{x C d t:Addr}
theorem Nj(e:h.get? x=some (fz C t)):cq P w H h x (XN x C):=⟨⟨t,e⟩,⟨_,e⟩,λc d ⟨a,b⟩ k=>⟨a,k _ b⟩⟩
theorem TK(e:h.get? x=some (uq C d t)):cq P w H h x (XD x C d):=⟨⟨t,e⟩,⟨_,e⟩,λc f ⟨a,b⟩ k=>⟨a,k _ b⟩⟩
end
theorem Nk(h:H x=some o):upd H x o=H:=by grind [upd]
noncomputable def del(H:Hp)(x:Addr):Hp:=λb=>if b=x then none else H b
theorem i9:del H x x=none:=if_pos rfl
theorem j5(h:b≠x):del H x b=H b:=if_neg h
theorem Ee(h:H x=none):del (upd H x o) x=H:=by grind [i9,j5,ae]
theorem CG(h:d≠x):del (upd H d o) x=upd (del H x) d o:=by
 funext b
 by_cases e:b=x
 ·subst e;rw[i9,ae (wbc h),i9]
 ·rw[j5 e]
  by_cases a:b=d
  ·subst a;rw[a7,a7]
  ·rw[ae a,ae a,j5 e]
theorem zj:del (upd H x o) x=del H x:=by grind [i9,j5,ae]
section
variable{X:Cx}{pins:List (Addr×Obj)}{σ:St}{H:Hp}{s:Shared}{x:Addr}{φ:Heap->Prop}
theorem Inv.del(I:Inv X pins σ H s)(g:H x=some (.ext φ)):Inv X pins σ (L2.del H x) s:=by
 have ne:∀{b:Addr} {o:HO},H b=some o->(∀ψ,o≠.ext ψ)->b≠x:=λe n z=>by rw[z,g]at e;exact n φ (wae e).symm
 have nn:∀{b:Addr},H b=none->L2.del H x b=none:=λ{b} e=>by
  by_cases z:b=x
  ·rw[z];exact i9
  ·rw[j5 z];exact e
 have u:=I.base;refine⟨I.ok,I.os,I.bare,⟨u.keep,u.slot,λb o q n d=>nn (u.free b o q n d),u.there,λb f q=>?_,λb o v q=>?_,λb ps q=>?_⟩,I.loc,I.cell,nn I.free,λy c e=>nn (I.jJ y c e),λp h=>?_,λa o e=>?_,I.len⟩
 ·have e:=u.uC b f q;rw[j5 (ne e λψ z=>by cases z)];exact e
 ·have e:=u.tX b o v q;rw[j5 (ne e λψ z=>by cases z)];exact e
 ·obtain⟨m,e⟩:=u.uD b ps q;exact⟨m,by rw[j5 (ne e λψ z=>by cases z)];exact e⟩
 ·obtain⟨a1,a2,a3⟩:=I.pin p h;exact⟨a1,nn a2,a3⟩
 ·have i:H a=some o:=by
   by_cases z:a=x
   ·rw[z,i9]at e;cases e
   ·rw[j5 z]at e;exact e
  refine(I.b9 a o i).tW (λb u _ q=>q) (λb q=>?_) λb f q=>?_
  ·rw[j5 (ne q λψ z=>by cases z)];exact q
  ·rw[j5 (ne q λψ z=>by cases z)];exact q
end
def Nm(K:wa2)(CB:Addr)(t:TA):TE:=λσ H Q=>t σ H λvs H1=>∃x C nm m,vs=[.ref x,m]/\H1 x=some (XN x C)/\fi K C CB nm/\Q .non H1
section
variable{X:Cx}{CB C f:Addr}{p pos apos fg:Pos}{e e2:Expr}{es:List Expr}{t:TA}{Mb name:Str}{ta tv:TE}{o value:Expr}{pos':Pos}
theorem HN(J:Gl X Mb)(T:X.mg Mb=some (.ref CB))(B:HM X.K CB)(ha:PA X [e,e2] t)(g:(Mb==("__debug__":Str))=false:=by decide)
 (he:starEach [e,e2] X.env=(false,eval e X.env)::starEach [e2] X.env:=by rfl) (j:(backTo pos (starEach [e2] X.env)).any (·.1)=false:=by rfl)
 (l:eval (.Call (.Attribute (.Name Mb p) "__init__" apos) [e,e2] [] pos) X.env=(do
   let r <-eval (.Name Mb p) X.env
   standAt apos.atName
   let (f,first) <-holding [r] (wfO r "__init__" pl)
   callWith pos f first (backTo pos (starEach [e,e2] X.env)) (backToKw pos (wdC [] X.env))):=by rfl) :
 PE X (.Call (.Attribute (.Name Mb p) "__init__" apos) [e,e2] [] pos) (Nm X.K CB t):=by
 intro a s σ H Q I h;refine wej (pl:=pl) (gW I J T ?_ g) l;refine PySem.W.method_cls I.iL B.sp (PySem.W.cls_value I.iL B.rd B.fc rfl ?_);refine weu (bY (ha pos a _ σ H _ (I.tok _) h) λG i n=>?_) he j;obtain⟨L,v,c,w,x,C,M,m,y,d,U,q⟩:=n;subst y;obtain⟨O,R,rfl,A,S⟩:=vals2 w;cases A;obtain⟨⟨t,l⟩,_⟩:=c.b9 x _ d;obtain⟨V,N,bs,Y,sub,ab,D,Z,k0,k1,k2,k3,k5,lk⟩:=U.lk;refine CF c.iL l lk λh' t' k ex=>⟨.non,v,?_,rfl,q⟩;have:=c.write (x:=x) (e:=x) (o:=XN x C) (h':=h') (t':=i.toks) (by rw[d];exact wbu) (.inl rfl) (λb u E z=>k b u E z) ⟨_,ex⟩ (Nj ex);rw[Nk d]at this;exact this
def Qh(K:wa2)(CB:Addr)(ta tv:TE)(name:Str):TS:=λD σ H=>tv σ H λy H1=>ta σ H1 λz H2=>∃x C nm,z=.ref x/\H2 x=some (XN x C)/\fi K C CB nm/\findIn K (.ref C) name=some none /\
 ∀d,H2 d=none->D.nx σ (upd (upd H2 d (.xd [(name,y)])) x (XD x C d))
theorem KA(ha:PE X o ta)(T:PE X value tv)(hs:wc6 value (some (.Attribute o name pos')) pos.line X.env=pure false):PS X (.Assign [.Attribute o name pos'] value pos) (Qh X.K CB ta tv name):=by
 intro g s σ H D I h;refine wcY (bY (T g s σ H _ I h) λu L ⟨y,M,O,Q,q⟩=>bY (ha g L σ M _ O q) λR G S=>?_) hs;obtain⟨z,m,i,V,x,C,Y,Z,l,U,hn,q2⟩:=S;subst Z;obtain rfl:R=wam x:=V;obtain⟨⟨t,ht⟩,_⟩:=i.b9 x _ l;obtain⟨qn,N,bs,sn,sub,ab,r,dd,k0,k1,k2,k3,k5,lk⟩:=U.lk;refine HK (CB:=CB) i.iL ht (cd:={name:=Y,bases:=bs,mro:=.ref C::oW CB,ns:=N,qualname:=qn,hasDict:=true,slotNames:=sn,subclasses:=sub,abstract:=ab,collection:=r,hasDel:=false}) (by unfold clsIn;rw[lk]) rfl rfl hn U.sa λA d tk hd k ex ns=>⟨σ,_,?_,q2 d (i.b9.fresh hd)⟩;have We:d≠x:=λz=>by rw[z]at hd;exact absurd (waw (i.b9.lt l) hd) (wbj _)
 have c:=i.b9.fresh hd
 have un:Un (sD X.stack) [] m (upd (upd m d (.xd [(name,y)])) x (XD x C d)) G.heap A:=by
  have nx:∀{b:Addr} {o:HO},m b=some o->(∀ψ,o≠.ext ψ)->b≠x:=λe n z=>by rw[z,l]at e;exact n _ (wae e).symm
  have B:∀{b:Addr},m b=none->b≠x:=λe z=>by rw[z,l]at e;cases e
  refine⟨λb o q n _ _=>k b o (B n) q,λb o q n _ _=>⟨o.slots,k b o (B n) q⟩,λb o q n _=>?_,λb o q _=>?_,λb vs q=>?_,λb o v q=>?_,λb ps q=>?_⟩
  ·rw[ae (B n),ae (λz=>by rw[z]at q;exact absurd (waw (waf q) hd) (wbj _))];exact n
  ·by_cases z:b=x
   ·rw[z];exact⟨_,ex⟩
   ·exact⟨o,k b o z q⟩
  ·rw[ae (nx q λψ z=>by cases z),ae (ag q c)];exact q
  ·rw[ae (nx q λψ z=>by cases z),ae (ag q c)];exact q
  ·exact⟨#[],by rw[ae (nx q λψ z=>by cases z),ae (ag q c),q];simp⟩
 have b9:jI X.prog X.w (upd (upd m d (.xd [(name,y)])) x (XD x C d)) A:=λa o e=>by
  by_cases z:a=x
  ·subst z;rw[a7]at e;cases e;exact TK ex
  ·rw[ae z]at e
   by_cases J:a=d
   ·subst J;rw[a7]at e;cases e;refine⟨_,ns,λf=>?_⟩
    by_cases p:f=name
    ·have j:(f==name)=true:=beq_iff_eq.mpr p;simp only[wfZ,j,if_pos p];exact Q
    ·have j:(f==name)=false:=beq_eq_false_iff_ne.mpr p;simp only[wfZ,j,if_neg p]
     trivial
   ·rw[ae J]at e;refine(i.b9 a o e).tW (λb u j q=>k b u ?_ q) (λb q=>?_) λb vs q=>?_
    ·rintro rfl;rcases j with rfl |j
     ·exact z rfl
     ·rw[l]at j;cases j
    ·have:b≠x:=λE=>by rw[E,l]at q;cases q
     rw[ae this,ae (ag q c)];exact q
    ·have:b≠x:=λE=>by rw[E,l]at q;cases q
     rw[ae this,ae (ag q c)];exact q
 exact i.xO (s':={G with heap:=A,toks:=tk}) rfl un b9 i.bare λb z=>absurd z (by simp)
end
end L2
namespace L2
open PySem PySem.Spec PyProof.Rows
open PySem.W (Looks looks_findIn looks_typeIn InitBack bind_fn findIn clsIn specialIn readsIn findCls keepIn isFn typeIn InstAt)
def Nn(K:wa2)(C:Addr)(sp:Sp)(E:XK)(t:TA):TS:=λ_ σ H=>t σ H λvs H1=>vs.length<=sizeLine/\∀x,H1 x=none ->
 sp (.ref x::vs) (upd H1 x (XN x C)) (λv H2=>v=.non/\((H2 x=some (XN x C)/\E (.ref C) none (del H2 x))\/∃d,H2 x=some (XD x C d)/\E (.ref C) (some d) (del H2 x))) E0
def KB(C:Addr)(E:XK)(t:TA):TS:=λ_ σ H=>t σ H λvs H1=>vs.length=1/\E (.ref C) none H1
section
variable{X:Cx}{CB C f:Addr}{fd:wad}{ps:List Str}{sp:Sp}{E:XK}{k:Nat}{p pos fg:Pos}{e:Expr}{es:List Expr}{t:TA}{x nm:Str}
theorem Inv.newExc(I:Inv X g σ H s)(us:List Value)(C:Addr) :
 Inv X g σ (upd H (s.heap.objs.size+1) (XN (s.heap.objs.size+1) C)) {s with heap:=(s.heap.push (rB us)).push (fz C s.heap.objs.size)}:=by
 have c:=I.kept (h':=s.heap.push (rB us)) (t':=s.toks) λb u q=>wa9 _ q;refine c.laid (a:=s.heap.objs.size+1) (t':=s.toks) (λb u q=>wa9 _ q) (wdM (wbK _ _)) (Nj (t:=s.heap.objs.size) ?_);have:=wav (s.heap.push (rB us)) (o:=fz C s.heap.objs.size) rfl;rwa[wbK]at this
theorem HP(hT:Ed X E)(hc:X.calm=true)(U:fi X.K C CB nm)(hi:findIn X.K (.ref C) "__init__"=some (some (.ref f)))(J:isFn X.K (.ref f)=true)
 (F:aT X.prog X.w X.K X.mg X.base df k f fd ps sp) (hr:eT (k+1) X.A) (hb:Binds X.K fd ps []) (hg:Gl X x) (hm:X.mg x=some (.ref C)) (ha:PA X (e::es) t)
 (T:(x==("__debug__":Str))=false:=by decide) (he:starEach (e::es) X.env=(false,eval e X.env)::starEach es X.env:=by rfl) (Kx:(backTo fg (starEach es X.env)).any (·.1)=false:=by rfl) :
 PS X (.Raise (some (.Call (.Name x p) (e::es) [] fg)) none pos) (Nn X.K C sp E t):=by
 intro a s σ H D I h;obtain⟨Z,N,bs,sn,sub,ab,col,dd,k0,k1,k2,k3,k5,lk⟩:=U.lk;refine sN (C:=C) (CB:=CB) (nm:=nm) (q:=Z) (N:=N) (bs:=bs) (hdct:=true) (sn:=sn) (sub:=sub) (ab:=ab) (col:=col) (dd:=dd) (k0:=k0) (k1:=k1) (k2:=k2) (k3:=k3) (k5:=k5) (I.ok.hd hc) ?_;refine wbv (gW I hg hm ?_ T);refine wcG (h₀:=X.base) I.ok.mod.LV U.kp (bY (ha fg a s σ H _ I h) λc i ⟨vs,H1,j,r,m,q⟩=>⟨j.iL,?_⟩) he Kx;have B:=j.b9.fresh (wc1 i.heap.objs.size);have Q:=q (i.heap.objs.size+1) B;have G:=Inv.newExc j c C;have R:Vals (V.ref (i.heap.objs.size+1)::vs) (wam (i.heap.objs.size+1)::c):=.cons rfl r
 have hl:(wam (i.heap.objs.size+1)::c++[]).length=ps.length:=by
  have S:=R.length;rw[F.len _ _ _ _ Q]at S;rw[waZ];exact S.symm
 have n:=hb _ (wam (i.heap.objs.size+1)::c) G.iL hl;rw[waZ]at n;obtain⟨L,g,dr,tk,os⟩:=i;refine wdb (AH (j.iL _ _ lk) (weN j.iL hi) (λself=>bind_fn j.iL self (beq_iff_eq.mp J)) (by show c.length<=sizeLine;rw[<-r.length];exact m) ?_);refine wcd (F.run _ X.stack _ _ ⟨wam (L.objs.size+1)::c,[]⟩ (wam (L.objs.size+1)::c) _ _ E0 (hr.make C c []) (G.Kb.make C c []) n R Q) λrr Y b=>?_
 cases rr with
 |error e=>exact wb3 b
 |ok fl=>
  cases fl with
  |next=>exact wb3 b
  |brk=>exact wb3 b
  |cont=>exact wb3 b
  |ret u=>
   obtain⟨v,H',l,rv,ev,q3⟩:=G.after b;subst ev;refine⟨rv,?_⟩;have o:X.s₀.heap.objs.size<=L.objs.size+1:=wal j.sz (wc1 _);rcases q3 with⟨y,M⟩ |⟨d,y,M⟩
   ·obtain⟨⟨O,z⟩,_⟩:=l.b9 _ _ y;exact⟨_,none,O,rfl,l.iL _ _ lk,z,hT a σ _ Y _ C none (l.del y) ⟨o,i9,_,_,z,by show 1<6;decide,.inl rfl⟩ M⟩
   ·obtain⟨⟨O,z⟩,_⟩:=l.b9 _ _ y;exact⟨_,some d,O,rfl,l.iL _ _ lk,z,hT a σ _ Y _ C (some d) (l.del y) ⟨o,i9,_,_,z,by show 1<6;decide,.inl rfl⟩ M⟩
theorem gJ(T:Ed X E)(hc:X.calm=true)(U:fi X.K C CB nm)(hi:findIn X.K (.ref C) "__init__"=some (some (.builtin "ValueError.__init__")))(hg:Gl X x)(hm:X.mg x=some (.ref C))(ha:PA X (e::es) t)
 (l:(x==("__debug__":Str))=false:=by decide) (he:starEach (e::es) X.env=(false,eval e X.env)::starEach es X.env:=by rfl) (J:(backTo fg (starEach es X.env)).any (·.1)=false:=by rfl) :
 PS X (.Raise (some (.Call (.Name x p) (e::es) [] fg)) none pos) (KB C E t):=by
 intro a s σ H D I h;obtain⟨y,N,bs,sn,sub,ab,col,dd,k0,k1,k2,k3,k5,lk⟩:=U.lk;refine sN (C:=C) (CB:=CB) (nm:=nm) (q:=y) (N:=N) (bs:=bs) (hdct:=true) (sn:=sn) (sub:=sub) (ab:=ab) (col:=col) (dd:=dd) (k0:=k0) (k1:=k1) (k2:=k2) (k3:=k3) (k5:=k5) (I.ok.hd hc) ?_;refine wbv (gW I hg hm ?_ l);refine wcG (h₀:=X.base) I.ok.mod.LV U.kp (bY (ha fg a s σ H _ I h) λA c ⟨Q,B,d,r,f,q⟩=>⟨d.iL,?_⟩) he J
 obtain⟨u,rfl⟩:∃u,A=[u]:=by
  have:=r.length;rw[f]at this;exact List.length_eq_one_iff.mp this.symm
 have m:=Inv.newExc d [u] C;have i:(upd B (c.heap.objs.size+1) (XN (c.heap.objs.size+1) C)) (c.heap.objs.size+1)=some (XN (c.heap.objs.size+1) C):=a7;have j:=d.b9.fresh (wc1 c.heap.objs.size);obtain⟨k,g,R,G,os⟩:=c;refine wdb (AH (d.iL _ _ lk) (weN d.iL hi) (λself=>Looks.of_pure (wcg.init.bind self)) (by show 1<=sizeLine;decide) ?_);obtain⟨⟨S,L⟩,_⟩:=m.b9 _ _ i;refine uW m.iL L lk λh' t' M ex=>⟨rfl,?_⟩;have w:=m.write (x:=k.objs.size+1) (e:=k.objs.size+1) (o:=XN (k.objs.size+1) C) (h':=h') (t':=G) (by rw[i];exact wbu) (.inl rfl) (λb u O z=>M b u O z) ⟨_,ex⟩ (Nj ex);rw[DS]at w;have n:=w.del (x:=k.objs.size+1) a7;rw[Ee j]at n;have v:X.s₀.heap.objs.size<=k.objs.size+1:=wal d.sz (wc1 _);exact⟨_,none,t',rfl,n.iL _ _ lk,ex,T a σ _ _ _ C none n ⟨v,j,_,_,ex,by show 1<6;decide,.inl rfl⟩ q⟩
end
end L2
namespace L2
open PySem PySem.Spec PyProof.Rows
noncomputable abbrev TJ:=Str->St->Hp->(Str->Hp->Prop)->Prop
def PJ(X:Cx)(es:List Expr)(t:TJ):Prop:=∀(pins:List (Addr×Obj)) (s:Shared) (σ:St) (H:Hp) (acc:Str) (Q:Str->Hp->Prop),Inv X pins σ H s->t acc σ H Q ->
 wpAny (model X.prog X.w) X.A (joinParts acc (evalEach es X.env)) (λu s'=>∃z H',Inv X pins σ H' s'/\(∃tk,u=.str z tk)/\Q z H') X.xe s
section
variable{X:Cx}{e:Expr}{es:List Expr}{te:TE}{t:TJ}{pos:Pos}
noncomputable def TL:TJ:=λacc _ H Q=>acc.length<=sizeLine/\Q acc H
theorem Np:PJ X [] TL:=λb s σ H a Q I h=>joinParts_nil ⟨a,H,I.tok _,⟨_,rfl⟩,h.2⟩ h.1
noncomputable def TN(z:Str)(t:TJ):TJ:=λacc σ H Q=>(acc++z).length<=sizeLine/\t (acc++z) σ H Q
theorem CH(h:PJ X es t):PJ X (.Constant (.str z) j pos::es) (TN z t):=λa s σ H b Q I q=>
 joinParts_cons (wgS ⟨q.1,h a _ σ H _ Q (I.tok _) q.2⟩)
noncomputable def TQ(te:TE)(t:TJ):TJ:=λacc σ H Q=>te σ H λv H1=>(∃i,v=.int i/\i.natAbs.log2<1920/\(acc++(toString i:String)).length<=sizeLine/\t (acc++(toString i:String)) σ H1 Q)\/(∃z,v=.str z/\z.length<=sizeLine/\(acc++z).length<=sizeLine/\t (acc++z) σ H1 Q)
theorem HQ(j:PE X e te)(h:PJ X es t):PJ X (.FormattedValue e (-1) none pos::es) (TQ te t):=λa s σ H k Q I q=>by
 refine joinParts_cons (FormattedValue_plain (bY (j a s σ H _ I q) λv o ⟨y,d,f,g,l⟩=>?_));rcases l with⟨i,rfl,hl,b,c⟩ |⟨z,rfl,hl,b,c⟩
 ·obtain⟨m,rfl⟩:=g;exact formatField_int_small hl ⟨b,h a _ σ d _ Q (f.tok _) c⟩
 ·obtain⟨m,rfl⟩:=g;exact formatField_str (λp n=>⟨b,h a _ σ d _ Q (f.tok _) c⟩) hl
theorem KC(h:PJ X (e::g::es) t):PE X (.JoinedStr (e::g::es) pos) (λσ H Q=>t whQ σ H λz j=>Q (.str z) j):=λa s σ H Q I q=>
 JoinedStr_many (bY (h a s σ H _ _ I q) λu f ⟨z,b,c,r,d⟩=>⟨.str z,b,c,r,d⟩)
end
noncomputable abbrev RV:=XK->TE
noncomputable abbrev Md:=(St->XK)->TS
def Wf(X:Cx)(pins:List (Addr×Obj))(σ:St)(E:XK)(ev:Value)(s':Shared):Prop:=∃H0 s0,Inv X pins σ H0 s0/\BZ X.prog X.w X.stack H0 s0 E ev s'
def Wg(X:Cx)(pins:List (Addr×Obj))(E:St->XK)(ev:Value)(s':Shared):Prop:=∃σ,Wf X pins σ (E σ) ev s'
def Wh(X:Cx)(e:Expr)(t:RV):Prop:=∀(pins:List (Addr×Obj)) (s:Shared) (σ:St) (H:Hp) (Q:VK) (E:XK),Inv X pins σ H s->t E σ H Q->wpAny (model X.prog X.w) X.A (eval e X.env) (EP X pins σ Q) (Wf X pins σ E) s
def Wi(X:Cx)(st:Stmt)(t:Md):Prop:=∀(pins:List (Addr×Obj)) (s:Shared) (σ:St) (H:Hp) (D:Ends) (E:St->XK),Inv X pins σ H s->t E D σ H->wpAny (model X.prog X.w) X.A (exec st X.env) (SP X pins D) (Wg X pins E) s
def Qi(X:Cx)(st:List Stmt)(t:Md):Prop:=∀(pins:List (Addr×Obj)) (s:Shared) (σ:St) (H:Hp) (D:Ends) (E:St->XK),Inv X pins σ H s->t E D σ H->wpAny (model X.prog X.w) X.A (execs st X.env) (SP X pins D) (Wg X pins E) s
section
variable{X:Cx}{k:Nat}{f C:Addr}{fd:wad}{ps:List Str}{sp:Sp}{x m:Str}{p pos apos:Pos}{e o:Expr}{es:List Expr}{ta:TE}{t:TA}{st:Stmt}{rest:List Stmt}
theorem Nq{α:Type}{M:Model}{A:Around}{m:Sem α}{Q:α->Shared->Prop}{E:Value->Shared->Prop}{s:Shared}(h:wpAny M A m Q (λ_ _=>False) s):wpAny M A m Q E s:=wba h (λ_ _ x=>x) λ_ _ z=>z.elim
theorem AP.gF{E:Value->Shared->Prop}{Q:List V->Hp->Prop}(h:AP (X.oM E) g σ Q us s'):AP X g σ Q us s':=by
 obtain⟨a,b,I,r,q⟩:=h;exact⟨a,b,I.gF,r,q⟩
noncomputable def Nr(C:Addr)(sp:Sp)(t:TA):RV:=λE σ H Q=>t σ H λvs H1=>∀x dx,H1 x=none->H1 dx=none->dx≠x ->
 sp (.ref x::vs) (upd (upd H1 dx (.own x)) x (.ins C dx [])) (λv H2=>v=.non/\Q (.ref x) H2) E
theorem HR(M:Mk X.K C f)(F:aT X.prog X.w X.K X.mg X.base (BZ X.prog X.w) k f fd ps sp)(T:eT (k+1) X.A)(U:Gl X x)(hm:X.mg x=some (.ref C))(hb:Binds X.K fd ps [])
 (ha:PA X.LW (e::es) t) (l:(x==("__debug__":Str))=false:=by decide) (he:starEach (e::es) X.env=(false,eval e X.env)::starEach es X.env:=by rfl) (J:(backTo pos (starEach es X.env)).any (·.1)=false:=by rfl) :
 Wh X (.Call (.Name x p) (e::es) [] pos) (Nr C sp t):=by
 intro d s σ H Q E I h;refine wbv (gW I U hm ?_ l);refine wcG (h₀:=X.base) I.ok.mod.LV M.kp (Nq (bY (ha pos d s σ H _ (I.oM _) h) λc b o=>?_)) he J;obtain⟨y,N,g,r,q⟩:=o.gF;refine⟨g.iL,?_⟩;have m:=q (b.heap.objs.size+1) b.heap.objs.size (g.b9.fresh (wc1 _)) (g.b9.fresh (waa _)) (war (wbI _));have j:=Inv.made (C:=C) g;have n:Vals (V.ref (b.heap.objs.size+1)::y) (wam (b.heap.objs.size+1)::c):=.cons rfl r
 have hl:(wam (b.heap.objs.size+1)::c++[]).length=ps.length:=by
  have e:=n.length;rw[F.len _ _ _ _ m]at e;rw[waZ];exact e.symm
 have i:=hb _ (wam (b.heap.objs.size+1)::c) j.iL hl;rw[waZ]at i
 refine wdb (Ai (f:=f) g.iL M.makes M.init (beq_iff_eq.mp M.fn) (wcd (F.run _ X.stack _ _ ⟨wam (b.heap.objs.size+1)::c,[]⟩ (wam (b.heap.objs.size+1)::c) _ _ E (T.make C c [])
  (j.Kb.make C c []) i n m) λr O a=>?_))
 cases r with
 |error e=>exact⟨_,_,j,a⟩
 |ok fl=>
  cases fl with
  |ret u=>
   obtain⟨v,z,B,D,G,L⟩:=j.after a;subst G;exact⟨D,⟨V.ref (b.heap.objs.size+1),z,B,rfl,L⟩⟩
  |next=>exact wb3 a
  |brk=>exact wb3 a
  |cont=>exact wb3 a
variable{te:RV}{i:Nat}{pos':Pos}{tx ty:Md}{tc:TT}{c:Expr}{a b:List Stmt}{ts:TS}
noncomputable def TR(te:RV)(i:Nat):Md:=λE D σ H=>te (E σ) σ H λv H1=>D.nx (σ.set i (some v)) H1
theorem KD(g:X.N.Nodup)(hi:X.N[i]?=some x)(j:Loc X.env.scope x)(l:Wh X e te)(hs:wc6 e (some (.Name x pos')) pos.line X.env=pure false:=by rfl)(r:X.fn x=true\/X.env.scope.names.lookup x=some .local:=by first |exact .inl rfl |exact .inr rfl |assumption) :
 Wi X (.Assign [.Name x pos'] e pos) (TR te i):=by
 intro a s σ H D E I h;refine we2 (wba (l a s σ H _ (E σ) I h) (λv b ⟨y,c,d,f,k⟩=>?_) λn b z=>⟨σ,z⟩) hs;exact jK d g hi j f (λo m=>⟨_,c,m,k⟩) r
theorem HS(g:Wi X st tx):Qi X [st] tx:=by
 intro a s σ H D E I h;refine wcV (wba (g a s σ H D E I h) (λf b q=>?_) λ_ _ z=>z)
 cases f with
 |next=>exact wcq q
 |ret v=>exact q
 |brk=>exact q
 |cont=>exact q
end
section
variable{M:Model}{A:Around}{E:Value->Shared->Prop}{s:Shared}{e C CB:Addr}{od:Option Addr}{lo:Nat}{H:Hp}
theorem uX{Q:Unit->Shared->Prop}(F:JS lo H s.heap e C od)(h:∀h',JS lo H h' e C od->(∀b o,s.heap.get? b=some o->(b<lo\/H b≠none)->h'.get? b=some o)->Q () {s with heap:=h'}) :
 wpAny M A (wfU (.ref e) none) Q E s:=by
 obtain⟨g,i,p,sl,n,j,f⟩:=F;unfold wfU;rcases f with f |⟨T,v,u,r,a,k,l,t,d,f⟩
 ·refine wa7 (we8 n rfl f ?_);rw[if_neg (by decide)];exact waz (h _ ⟨g,i,p,sl,n,j,.inl f⟩ λb o q _=>q)
 ·have c:3<u.size:=(wf1.mp f).1;refine wa7 (we8 n rfl r ?_);rw[if_pos (show (wam T != wbA)=true from by simp)];refine weP t d c (h _ ⟨g,i,p,sl,?_,j,.inr ⟨T,_,_,r,a,k,l,wbB _ t (wem (wdg d _)),wdg d _,by simp[c]⟩⟩ λb o q m=>?_)
  ·exact(waS _ _ l).trans n
  ·refine(waS _ _ ?_).trans q;rintro rfl;rcases m with m |m
   ·exact absurd (waw m a) (wbj _)
   ·exact m k
variable{nm q Mb qB:Str}{N NB:Addr}{bs bsB:List Value}{hdct hdB:Bool}{sn snB:List Str}{sub subB:List Value}{ab abB:Bool}{col Yz:Option Bool}{dd ddB:Option Addr}{k0 k1 k2 k3 k5 l0 l1 l2 l3 l5:Option Value}
end
noncomputable abbrev Cx.marked(X:Cx)(e:Addr):Cx:={X with A:=X.A.mark (some (.ref e)),calm:=false}
section
variable{X:Cx}{pins:List (Addr×Obj)}{σ:St}{H:Hp}{s:Shared}{e:Addr}
theorem Cx.Ok.marked(ok:X.Ok):(X.marked e).Ok:=
 ⟨ok.mod,ok.kind,ok.glob,ok.blt,ok.above,ok.inj,ok.has,ok.MO,λz=>Bool.noConfusion z,ok.frames,ok.Oy,ok.RC,ok.bs,ok.GJ,ok.C0,ok.EV,ok.pE,ok.K3⟩
theorem Inv.marked(I:Inv X pins σ H s):Inv (X.marked e) pins σ H s:=⟨I.ok.marked,I.os,I.bare,I.base,I.loc,I.cell,I.free,I.jJ,I.pin,I.b9,I.len⟩
theorem Inv.unmarked(ok:X.Ok)(I:Inv (X.marked e) pins σ H s):Inv X pins σ H s:=⟨ok,I.os,I.bare,I.base,I.loc,I.cell,I.free,I.jJ,I.pin,I.b9,I.len⟩
theorem Inv.CI{l g:Hp}{j s1:Shared}{h':Heap}(C:Inv X pins σ l j)(r:s1.os=j.os)(bare:AllBare s1.gens)(un:Un (sD X.stack) [] l g j.heap s1.heap)(b9:jI X.prog X.w g s1.heap)
 (p:Fn j.heap.objs.size g (sD X.stack) s1.heap h') (t:∀b∈sD X.stack,g b=none):Un (sD X.stack) [] l g j.heap h'/\jI X.prog X.w g h'/\∀tk,Inv X pins σ g {s1 with heap:=h',toks:=tk}:=by
 have e:Un (sD X.stack) [] l g j.heap h':=by
  refine⟨λb o d n a f=>p.keep b o (un.keep b o d n a f) (.inl (waf d)) a,λb o d n a f=>?_,un.free,λb o d f=>?_,un.uC,un.tX,un.uD⟩
  ·obtain⟨sl,h⟩:=un.slot b o d n a f;obtain⟨i,k⟩:=p.slot b _ h a;exact⟨i,k⟩
  ·obtain⟨m,h⟩:=un.there b o d f
   by_cases q:b∈sD X.stack
   ·obtain⟨sl,k⟩:=p.slot b m h q;exact⟨_,k⟩
   ·exact⟨m,p.keep b m h (.inl (waf d)) q⟩
 have c:=b9.past p t;exact⟨e,c,λtk=>C.xO (s':={s1 with heap:=h',toks:=tk}) r e c bare λb z=>absurd z (by simp)⟩
end
structure HU(K:wa2)(CB:Addr)(nm:Str):Prop where
 lk:∃(q:Str) (N:Addr) (bs:List Value) (hd:Bool) (sn:List Str) (sub:List Value) (ab:Bool) (col:Option Bool) (dd:Option Addr) (k0 k1 k2 k3 k5:Option Value),
  K.lookup CB=some (wbs nm q CB N bs RQ hd sn sub ab col dd k0 k1 k2 k3 k5 "ValueError.__new__")
section
variable{X:Cx}{CB:Addr}{Mb n x Wj:Str}{body:List Stmt}{tb:Md}{i j:Nat}{p1 p2 p3 p4 Nt pos:Pos}
end
open PySem.W (Looks looks_findIn looks_typeIn looks_find looks_hook looks_mroIn findIn clsIn specialIn takesIn mroIn typeIn subIn InstAt KitX kitOne kitCls kia_one findObj findObj_data class_get handed_on handedOut_of)
open Builtin Builtin.ObjectAttr
theorem fi.ne{K:wa2}{C D CB j:Addr}{nm g:Str}(U:fi K C CB nm)(l:fi K D j g)(h:¬nm=g):C≠D:=λe=>by
 subst e;obtain⟨q,N,bs,r,sub,ab,d,s,t,u,v,w,x,l1⟩:=U.lk;obtain⟨y,z,f,i,b,k,c,m,A,n,B,E,G,a⟩:=l.lk;rw[l1]at a;have:=congrArg (λo=>match o with |some (⟨_,_,.cls p,_⟩:Obj)=>p.name |_=>nm) a;exact h this
theorem fi.neT{K:wa2}{C CB g:Addr}{nm j:Str}(U:fi K C CB nm)(T:HU K g j)(h:¬nm=j):C≠g:=λe=>by
 subst e;obtain⟨q,N,bs,r,sub,ab,d,s,t,u,v,w,x,l1⟩:=U.lk;obtain⟨y,z,f,i,k,b,l,c,m,A,n,B,D,E,a⟩:=T.lk;rw[l1]at a;have:=congrArg (λo=>match o with |some (⟨_,_,.cls p,_⟩:Obj)=>p.name |_=>nm) a;exact h this
section
variable{prog:wat}{w:World}{A:Around}{E:Value->Shared->Prop}{s:Shared}{K:wa2}{x C CB D:Addr}{nm Qj Wj:Str}{od:Option Addr}
structure HV(K:wa2)(C:Addr):Prop where
 ha:findIn K (.ref C) "__class__"=some (some (.builtin "object.__class__"))
 hn:weX K (.builtin "object.__class__") "__get__"=some (some (.builtin "getset_descriptor.__get__"))
 rg:takesIn K (.builtin "object.__class__")=some true
end
section
variable{X:Cx}
end
end L2
namespace L2
open PySem
end L2
namespace Sx
open PySem L2 Bs
theorem Qk:waX "int"=some (.type "int"):=by decide+kernel
theorem Ql:waX "dict"=some (.type "dict"):=by decide+kernel
theorem Mf:waX "bool"=some (.type "bool"):=by decide+kernel
theorem Fo:waX "sum"=some (.builtin "sum"):=by decide+kernel
theorem Nu:waX "min"=some (.builtin "min"):=by decide+kernel
structure TU(K:wa2)(C CB:Addr)(nm:Str):Prop where
 lk:∃(q:Str) (N:Addr) (bs:List Value) (sn:List Str) (sub:List Value) (ab:Bool) (col:Option Bool) (dd:Option Addr) (k0 k1 k2 k3 k5:Option Value),
  K.lookup C=some (wbs nm q C N bs (oW CB) true sn sub ab col dd k0 k1 k2 k3 k5 "ValueError.__new__")
theorem KG
 (l:K.lookup C=some (wbs nm q C N bs (oW CB) true sn sub ab col dd k0 k1 k2 k3 k5 "ValueError.__new__")):TU K C CB nm:=⟨q,N,bs,sn,sub,ab,col,dd,k0,k1,k2,k3,k5,l⟩
theorem KH
 (l:K.lookup CB=some (wbs nm q CB N bs RQ hd sn sub ab col dd k0 k1 k2 k3 k5 "ValueError.__new__")):HU K CB nm:=⟨q,N,bs,hd,sn,sub,ab,col,dd,k0,k1,k2,k3,k5,l⟩
end Sx
namespace Sx
open PySem PySem.Spec PyProof.Rows L2
open PySem.W (clsIn mroIn typeIn subIn kitOne kitCls)
section
variable{K:wa2}{C CB D:Addr}{nm Qj Wj:Str}
end
end Sx
namespace AC
section
variable{W:List (List Nat)}{P:List Nat->Bool}{l m p q u:List Nat}{c:Nat}
def Good(W:List (List Nat))(l:List Nat):Prop:=∀w∈W,¬w <:+: l
def Pl(W:List (List Nat))(p:List Nat):Prop:=p=[]\/((∃w∈W,p <+: w/\p.length<w.length)/\Good W p)
theorem Good.sub(h:Good W l)(hs:m <:+: l):Good W m:=λw hw hi=>h w hw (hi.trans hs)
theorem Pl.init(h:Pl W (u++[c])):Pl W u:=by
 rcases h with h |⟨⟨w,hw,a,hl⟩,b⟩
 ·simp at h
 ·by_cases e:u=[]
  ·exact .inl e
  ·refine .inr ⟨⟨w,hw,(wdV u [c]).trans a,?_⟩,b.sub (wdV u [c]).isInfix⟩;rw[wa5]at hl;simp at hl;omega
noncomputable def kG(P:List Nat->Bool):List Nat->List Nat
 |[]=>[]
 |a::l=>if P (a::l)=true then a::l else kG P l
theorem jO:∀l,kG P l <:+ l
 |[]=>wfv _
 |a::l=>by
  unfold kG;split
  ·exact wfv _
  ·exact(jO l).trans (List.suffix_cons a l)
theorem uY(h0:P []=true):∀l,P (kG P l)=true
 |[]=>h0
 |a::l=>by
  unfold kG;split
  ·assumption
  ·exact uY h0 l
theorem jP(g:P q=true):∀{l},q <:+ l->q <:+ kG P l
 |[],h=>h
 |a::l,h=>by
  unfold kG;split
  ·exact h
  ·rename_i hn;rcases List.suffix_cons_iff.mp h with e |h
   ·grind
   ·exact jP g h
theorem HW(g:p <:+ q)(j:q <:+ p):p=q:=g.eq_of_length (whH g.length_le j.length_le)
theorem AI:∀{q l:List Nat},q <:+ l++[c]->q=[]\/∃u,q=u++[c]/\u <:+ l:=λ{q l} h=>by
 rcases wgj q with e |⟨u,d,e⟩
 ·exact .inl e
 ·right
  rw[List.concat_eq_append]at e;obtain⟨t,a⟩:=h;subst e;rw[<-waT]at a;have b:=whx a rfl;have hd:d=c:=by grind
  exact⟨u,by rw[hd],t,b.1⟩
theorem CJ(h:w <:+: l++[c]):w <:+: l\/w <:+ l++[c]:=by
 obtain⟨a,b,e⟩:=h;rcases wgj b with f |⟨g,d,f⟩
 ·grind
 ·grind [whx]
theorem Fp(r:∀x,P x=true↔Pl W x)(j:Good W l)(g:∀w∈W,w≠[]):Good W (kG P l++[c])↔Good W (l++[c]):=by
 have f:=jO (P:=P) l;constructor
 ·intro h w hw hi;rcases CJ hi with z |z
  ·exact j w hw z
  ·rcases AI z with e |⟨u,rfl,d⟩
   ·exact g w hw e
   ·have a:Pl W u:=by
     by_cases e:u=[]
     ·exact .inl e
     ·exact .inr ⟨⟨_,hw,wdV u [c],by simp⟩,j.sub d.isInfix⟩
    have:=jP ((r u).mpr a) d;obtain⟨t,b⟩:=this;exact h _ hw (show u++[c] <:+ kG P l++[c] from ⟨t,by rw[<-waT,b]⟩).isInfix
 ·intro h;obtain⟨t,b⟩:=f;exact h.sub (show kG P l++[c] <:+ l++[c] from ⟨t,by rw[<-waT,b]⟩).isInfix
theorem CK(g:∀x,P x=true↔Pl W x)(j:Good W l):kG P (kG P l++[c])=kG P (l++[c]):=by
 have d:=jO (P:=P) l;have h0:P []=true:=(g []).mpr (.inl rfl)
 have b:kG P l++[c] <:+ l++[c]:=by
  obtain⟨t,f⟩:=d;exact⟨t,by grind⟩
 refine HW (jP (uY h0 _) ((jO _).trans b)) (jP (uY h0 _) ?_);rcases AI (jO (P:=P) (l++[c])) with e |⟨u,e,h⟩
 ·rw[e];exact List.nil_suffix
 ·have a:=(g _).mp (uY h0 (l++[c]));rw[e]at a ⊢;obtain⟨t,f⟩:=jP ((g u).mpr a.init) h;exact⟨t,by grind⟩
end
end AC
namespace Bs
open PySem AC
theorem yg(x y:Str)(i:Nat):wh9 x y i=true↔((ch x).drop i).take y.length=ch y:=by
 unfold wh9;rw[beq_iff_eq];constructor
 ·intro h;have:=congrArg Array.toList h;rw[wgy,wfg,wcy]at this;exact this
 ·intro h;refine wft.mp ?_;rw[wgy,wfg,wcy];exact h
theorem KI(y x:Str):N9 y x=true↔ch y <:+: ch x:=by
 unfold N9;rw[StrLaws.found_iff];constructor
 ·grind [yg,wfw,List.drop_suffix]
 ·rintro⟨a,b,e⟩;refine⟨a.length,?_,(yg x y _).mpr ?_⟩
  ·rw[<-aW x,<-e,wa5,wa5,aW];omega
  ·rw[<-e,waT,wgk,<-aW y,wgl]
noncomputable def wl(ws:List Str):List (List Nat):=ws.map ch
theorem eh(ws:List Str)(r:Str):bears ws r=false↔Good (wl ws) (ch r):=by simp_all [bears,Good,wl,wh5,KI,ch]
theorem jq(w:Str)(n:Nat):ch (dE w n)=(ch w).take n:=Az w n
theorem kH(w:Str)(n:Nat):ch (dj w n)=(ch w).drop n:=oS w n
theorem zk:k∈rz ws g b↔k∈g\/(k=b/\bears ws b=false):=by
 unfold rz zi
 by_cases a:bears ws b=true
 ·grind
 ·grind
theorem pM:∀n,k∈upTo ws w g n↔k∈g\/∃i,i<n/\k=dE w (1+i)/\bears ws k=false
 |0=>by
  show k∈g↔_;simp
 |n+1=>by
  rw[gH,zk,pM n];constructor
  ·grind
  ·grind
theorem jC(us:List Str):k∈bS ws e us↔k=e\/∃w∈us,∃i,i<w.length-1/\k=dE w (1+i)/\bears ws k=false:=by
 have key:∀(us b:List Str),k∈us.foldl (addW ws) b↔k∈b\/∃w∈us,∃i,i<w.length-1/\k=dE w (1+i)/\bears ws k=false:=by
  intro us
  induction us with
  |nil=>intro b;simp
  |cons w us d=>
   intro b;rw[wdF,d];unfold addW;rw[pM];constructor
   ·rintro((h |⟨i,h⟩) |⟨c,a,h⟩)
    ·exact .inl h
    ·exact .inr ⟨w,wag ..,i,h⟩
    ·exact .inr ⟨c,wac _ a,h⟩
   ·rintro(h |⟨c,a,h⟩)
    ·exact .inl (.inl h)
    ·rcases waH.mp a with rfl |a
     ·exact .inl (.inr h)
     ·exact .inr ⟨c,a,h⟩
 unfold bS;rw[key];simp
theorem mem_keys:k∈bS ws "" ws↔Pl (wl ws) (ch k):=by
 rw[jC];constructor
 ·rintro(rfl |⟨w,hw,i,hi,e,a⟩)
  ·exact .inl rfl
  ·right
   refine⟨⟨ch w,wab.mpr ⟨w,hw,rfl⟩,?_,?_⟩,(eh ws k).mp a⟩
   ·rw[e,jq];exact wfw _ _
   ·rw[e,jq,wai,aW];omega
 ·rintro(h |⟨⟨v,b,c,hl⟩,d⟩)
  ·exact .inl (cR h)
  ·by_cases h0:ch k=[]
   ·exact .inl (cR h0)
   obtain⟨w,hw,rfl⟩:=wab.mp b
   right
   rw[aW,aW]at hl;have f:k.length≠0:=λz=>h0 (uS z);refine⟨w,hw,k.length-1,by omega,cR ?_,(eh ws k).mpr d⟩;rw[jq,show 1+(k.length-1)=k.length by omega,<-aW k];exact(List.prefix_iff_eq_take.mp c)
noncomputable def Qm(ss:List Str)(l:List Nat):Bool:=decide (l∈ss.map ch)
theorem kJ:Qm ss (ch k)=true↔k∈ss:=by
 unfold Qm;rw[decide_eq_true_iff];constructor
 ·grind [cR]
 ·grind
theorem HX(g:ss.Perm (bS ws "" ws))(l:List Nat):Qm ss l=true↔Pl (wl ws) l:=by
 have e:ch ⟨l.toArray⟩=l:=rfl;rw[<-e,kJ,g.mem_iff,mem_keys]
theorem yh{P:List Nat->Bool}(h0:P []=true):∀{l:List Nat} {n:Nat},P (l.drop n)=true->(∀m,m<n->P (l.drop m)=false)->kG P l=l.drop n
 |[],n,_,_=>by simp[kG]
 |a::l,0,b,_=>by
  unfold kG;rw[weO]at b;rw[if_pos b];rfl
 |a::l,n+1,b,c=>by
  have:=c 0 (by omega);rw[weO]at this;unfold kG;rw[this,if_neg (by simp),List.drop_succ_cons];exact yh h0 (by grind) λm d=>by grind
theorem kK(g:("":Str)∈ss)(r:Str):ch (lend ss r)=kG (Qm ss) (ch r):=by
 have c:∃n,n<=r.length/\dj r n∈ss/\∀m,m<n->dj r m∉ss:=by
  have f:∃n,dj r n∈ss:=⟨r.length,by rw[rA];exact g⟩
  have key:∀k,(∃n,n<k/\dj r n∈ss/\∀m,m<n->dj r m∉ss)\/∀m,m<k->dj r m∉ss:=by
   intro k
   induction k with
   |zero=>right;intro m a;omega
   |succ k d=>
    rcases d with⟨n,hn,h⟩ |h
    ·exact .inl ⟨n,by omega,h⟩
    ·by_cases hk:dj r k∈ss
     ·exact .inl ⟨k,by omega,hk,h⟩
     ·right
      intro m a
      by_cases e:m=k
      ·rw[e];exact hk
      ·exact h m (by omega)
  rcases key (r.length+1) with⟨n,hn,h⟩ |h
  ·exact⟨n,by omega,h⟩
  ·exact absurd (by rw[rA];exact g) (h r.length (by omega))
 obtain⟨n,hn,a,hl⟩:=c;unfold lend;rw[uV a hl hn,kH];refine(yh (kJ (k:="").mpr g) ?_ λm b=>?_).symm
 ·rw[<-kH];exact kJ.mpr a
 ·rw[<-kH];have:=hl m b;rw[<-kJ]at this;simpa using this
section
variable{ws ss:List Str}{r:Str}{c:Nat}
theorem HY(g:("":Str)∈ss):lend ss ""="":=by
 refine cR ?_;rw[kK g];rfl
theorem nX(g:ss.Perm (bS ws "" ws))(j:bears ws r=false):lend ss (lend ss r++⟨#[c]⟩)=lend ss (r++⟨#[c]⟩):=by
 have a:("":Str)∈ss:=g.mem_iff.mpr (cy ws);refine cR ?_;rw[kK a,aZ,kK a,kK a,aZ];exact CK (HX g) ((eh ws r).mp j)
theorem kL(g:ss.Perm (bS ws "" ws))(j:bears ws r=false)(hw:∀w∈ws,1<=w.length):bears ws (lend ss r++⟨#[c]⟩)=bears ws (r++⟨#[c]⟩):=by
 have b:("":Str)∈ss:=g.mem_iff.mpr (cy ws)
 have a:∀w∈wl ws,w≠[]:=by
  intro w d z;obtain⟨v,e,rfl⟩:=wab.mp d;have:=hw v e;rw[<-aW,z]at this;simp at this
 have:=Fp (c:=c) (HX g) ((eh ws r).mp j) a;rw[show [c]=ch (⟨#[c]⟩:Str) from rfl,<-kK b,<-aZ,<-aZ,<-eh,<-eh]at this;cases f:bears ws (lend ss r++⟨#[c]⟩)<;>cases h:bears ws (r++⟨#[c]⟩)<;>simp[f,h]at this ⊢
theorem jQ(h:ch a <:+: ch b)(g:bears ws b=false):bears ws a=false:=(eh ws a).mpr (((eh ws b).mp g).sub h)
end
end Bs
namespace L2
open PySem PySem.Spec PyProof.Rows
section
variable{X:Cx}
theorem sP:eN X (.type "range") (λxs H Q=>∃j:Int,xs=[.int j]/\∀p,H p=none->Q (.ref p) (upd H p (.rng 0 j))):=by
 intro a s σ H xs c Q I r h;obtain⟨j,rfl,q⟩:=h;obtain⟨u,rfl,t,rfl⟩:=vals1 r;refine call_range_1 ⟨.ref s.heap.objs.size,_,I.laid (λb ob q=>wa9 _ q) (waa _) (show cq X.prog X.w _ _ _ (.rng 0 j) from ⟨_,_,_,wav _ rfl⟩),rfl,q _ (I.b9.fresh (waa _))⟩
theorem uZ(hc:X.calm=true):eN X (.type "list") (λxs H Q=>∃(p:Addr) (n:Nat),xs=[.ref p]/\H p=some (.rng 0 (n:Int))/\n<=sizeLine/\∀l,H l=none->Q (.ref l) (upd H l (.lst ((waD n).map λi=>V.int (i:Nat))))):=by
 intro m s σ H xs b Q I r h;obtain⟨p,n,rfl,x,hn,q⟩:=h;obtain⟨u,rfl,y⟩:=vals1 r;cases y;obtain⟨t,u,v,e⟩:=I.b9 p _ x;have f:n<=2^24:=by rw[wcc]at hn;omega
 refine call_list_range (I.ok.hd hc) (n:=n) (show IsRange s.heap p 0 (n:Int) 1 t u v from e) (small_one (by omega) (by omega) (by omega) (by omega)) (by rw[rangeSize_one];split<;>omega) f λg z d c kp A a=>?_
 have B:∀(b:List Value) (k:Nat),(∀(j:Nat) (u:Value),b[j]?=some u->∃t,u=.int ((k+j:Nat):Int) t)->Vals ((wg6 k b.length).map λi=>V.int (i:Nat)) b:=by
  intro b
  induction b with
  |nil=>intro k _;exact .nil
  |cons u b C=>
   intro k h;obtain⟨t,e⟩:=h 0 u rfl;rw[waM,why,wax];refine .cons ⟨t,e⟩ (C (k+1) λj u g=>?_);obtain⟨t,e⟩:=h (j+1) u (by simpa using g);exact⟨t,by rw[e];congr 1;omega⟩
 have hl:d.toList.length=n:=by rw[wcz];exact a.1
 have o:=B d.toList 0 λj u e=>by
  obtain⟨t,D⟩:=a.2 j u (by rw[<-wck];exact e);exact⟨t,by rw[D];congr 1;omega⟩
 rw[hl,<-List.range_eq_range']at o;refine⟨.ref s.heap.objs.size,_,I.laid (t':=z) kp (waa _) (show cq X.prog X.w _ g _ (.lst ((waD n).map λi=>V.int (i:Nat))) from ⟨?_,d.toList,c,o,?_⟩),rfl,q _ (I.b9.fresh (waa _))⟩
 ·rw[wa0,waK];exact hn
 ·rw[wdw];exact A
end
noncomputable def HZ(z:Str):It:=⟨λi _=>i<z.cps.size,λi H x H'=>∃T,H T=none/\x=.ref T/\H'=upd H T (.tup [.int (i:Nat),sH z i]),λi _=>z.cps.size<=i⟩
theorem CL{P:wat}{w:World}{K:wa2}{C:List Expr}{k:Nat}{pos:Pos}(z:Str)(t:Tok)(nm:String)(e it:Addr)(l:e≠it)
 (D:∀A:Around,A.handled=none->Draws P w A it [it] z.cps.size (λi v=>∃c u,z.cps[i]?=some c/\v=.str ⟨#[c]⟩ u) (λi h=>h.IsStrIter it nm z t i)) :
 Turn P w K (.Tuple C k pos) (HZ z) [e,it] e (λi h=>((∃old,IsEnum h e it (i:Nat) old)/\h.IsStrIter it nm z t i)/\i<=z.cps.size) where
 mem:=by simp
 obj:=λi h st b a=>by
  obtain⟨⟨⟨old,d⟩,o,B,hc,hd⟩,_⟩:=st;rcases waH.mp a with rfl |a
  ·exact⟨_,d,λv z=>by
    have z':we6 _=wfN v:=z
    cases z'⟩
  ·have p:b=it:=by simpa using a
   subst p;exact⟨o,B,λv z=>by rw[hd]at z;cases z⟩
 keep:=λi h h' st k=>⟨⟨st.1.1.imp λold d=>k e (by simp) _ d,let ⟨o,B,r⟩:=st.1.2;⟨o,k it (by simp) o B,r⟩⟩,st.2⟩
 item:=by
  intro X Q hw R hc i j s σ H E I G st S;subst Q hw R;obtain⟨⟨⟨old,d⟩,hit⟩,_⟩:=st;have J:i<z.cps.size:=S;obtain⟨f0,f1,f2,f3,f4,f5⟩:=G e (by simp);obtain⟨T,g1,g2,g3,U,V⟩:=G it (by simp);refine wfH (D X.A.in1 (I.ok.hd hc)) d hit J l (by simpa using l) λu h' Y hu B L hT hsz hk=>?_;obtain⟨c,O,Z,rfl⟩:=hu
  have ru:RelV (sH z i) (.str ⟨#[c]⟩ O):=⟨O,by
   rw[wcH,Z]
   rfl⟩
  refine⟨_,rfl,wdA B λf Ts x=>?_⟩;have kp:∀b o,b≠e->b≠it->s.heap.get? b=some o->f.get? b=some o:=λb o h1 h2 q=>(x.2 b h1).trans (hk b o h1 h2 q);have M:e<s.heap.objs.size:=waf d;have Km:s.heap.objs.size≠e:=wcb M;have N8:f.get? s.heap.objs.size=some {cls:=.type "tuple",data:=.seq #[.int i Y,.str ⟨#[c]⟩ O]}:=(x.2 _ Km).trans hT;have y:=I.b9.fresh (waa s.heap.objs.size);have g:∀b o,H b=some o->b≠e/\b≠it:=λb o q=>⟨(λz=>by rw[z,f0]at q;cases q),(λz=>by rw[z,T]at q;cases q)⟩
  have N:jI X.prog X.w (upd H s.heap.objs.size (.tup [.int (i:Nat),sH z i])) f:=by
   intro b o q
   by_cases a:b=s.heap.objs.size
   ·subst a;rw[a7]at q;cases q;exact⟨by show 2<=sizeLine;decide,[.int i Y,.str ⟨#[c]⟩ O],.cons ⟨_,rfl⟩ (.cons ru .nil),⟨_,N8,rfl,_,rfl⟩⟩
   ·rw[ae a]at q;refine(I.b9 b o q).tW (λc v hc r=>?_) (λc r=>by rw[ae (ag r y)];exact r) λc ys r=>by rw[ae (ag r y)];exact r
    rcases hc with z |z
    ·rw[z]at r ⊢;exact kp b v (g b o q).1 (g b o q).2 r
    ·exact kp c v (g c _ z).1 (g c _ z).2 r
  have I1:Inv X j σ (upd H s.heap.objs.size (.tup [.int (i:Nat),sH z i])) {s with heap:=f,gens:=s.gens,drawn:=s.drawn,toks:=Y+1}:=by
   refine I.step (ch:=[e,it]) (λb a=>?_) (λb o _ _ hc q _=>kp b o (λz=>hc (by simp[z])) (λz=>hc (by simp[z])) q) (λb o _ _ hc q _=>⟨o.slots,kp b o (λz=>hc (by simp[z])) (λz=>hc (by simp[z])) q⟩)
    (λb o _ q n=>by rw[ae (war (waf q))];exact n) (λb o hc q=>⟨o,kp b o (λz=>hc (by simp[z])) (λz=>hc (by simp[z])) q⟩)
    (λb ys r=>by rw[ae (ag r y)];exact r) (λb o u r=>by rw[ae (ag r y)];exact r) (λb ps r=>⟨#[],by rw[ae (ag r y),r];simp⟩)
    (λm ⟨o,es,ep,PZ,r⟩=>⟨o,es,ep,kp _ o (wbc f1) (wbc g1) PZ,r⟩) N I.bare
   rcases waH.mp a with rfl |a
   ·exact⟨f3,f1,f4,f5⟩
   ·have p:b=it:=by simpa using a
    subst p;exact⟨g3,g1,U,V⟩
  refine⟨.ref s.heap.objs.size,_,I1,rfl,⟨s.heap.objs.size,y,rfl,rfl⟩,⟨⟨⟨_,by simpa using Ts⟩,?_⟩,J⟩,λb a=>?_⟩
  ·obtain⟨o,YB,r⟩:=L;exact⟨o,(x.2 it (wbc l)).trans YB,r⟩
  ·have:b<s.heap.objs.size:=by
    rcases waH.mp a with rfl |a
    ·exact M
    ·have p:b=it:=by simpa using a
     subst p;obtain⟨o,q,_⟩:=hit;exact waf q
   rw[ae (war this)];exact(G b a).1
 done:=by
   intro X Q hw R hc i j s σ H E I G st S;subst Q hw R;obtain⟨⟨⟨old,d⟩,hit⟩,hle⟩:=st;have Qe:z.cps.size<=i:=S;have p:i=z.cps.size:=by omega
   subst p;obtain⟨T,g1,g2,g3,U,V⟩:=G it (by simp);exact wg7 (D X.A.in1 (I.ok.hd hc)) d hit λh' eb=>⟨rfl,I.turned (t':=s.toks) (λb o a e=>eb b o a e) T g1 g3 U V⟩
 self:=λ_ _ _ _ _ st h=>let ⟨⟨⟨_,d⟩,_⟩,_⟩:=st;wcO d h
section
variable{X:Cx}
def Nv(ta:TA):TI:=λσ H R=>ta σ H λvs H1=>∃z,vs=[.str z]/\R (HZ z) H1
theorem AJ{g:List Expr}{k:Nat}{j:Pos}{l:Expr}{C:TA}{p pos:Pos}(J:Gl X "enumerate")(T:X.mg "enumerate"=none)(ha:PA X [l] C)(hs:starEach [l] X.env=[(false,eval l X.env)]:=by rfl) :
 PI X (.Tuple g k j) (.Call (.Name "enumerate" p) [l] [] pos) (Nv C):=by
 intro d s σ H R I h;refine Call_ (gE I J T ik (wbr (bY (ha pos d s σ H _ I h) λQ a ⟨S,B,o,G,L⟩=>?_) hs rfl));obtain⟨z,e,q⟩:=L;subst e;obtain⟨u,rfl,t,rfl⟩:=vals1 G;refine call_enumerate_str λr E hit M kp=>wcO E ?_;have N:Inv X d σ B {a with heap:=r}:=o.kept (t':=a.toks) kp
 have fin:∀n,(∀A:Around,A.handled=none->Draws X.prog X.w A a.heap.objs.size [a.heap.objs.size] z.cps.size (λi v=>∃c u,z.cps[i]?=some c/\v=.str ⟨#[c]⟩ u) (λi h=>h.IsStrIter a.heap.objs.size n z t i)) ->
  r.IsStrIter a.heap.objs.size n z t 0->Oz X d σ (.Tuple g k j) R (.ref (a.heap.objs.size+1)) {a with heap:=r}:=by
  intro n D f;refine⟨a.heap.objs.size+1,[a.heap.objs.size+1,a.heap.objs.size],_,_,B,rfl,N,CL z t n _ _ (wcb (wbI _)) D,⟨⟨⟨_,E⟩,f⟩,waA _⟩,λb x=>?_,q⟩
  have m:a.heap.objs.size<=b:=by
   rcases waH.mp x with rfl |x
   ·exact wc1 _
   ·have O:b=a.heap.objs.size:=by simpa using x
    subst O;exact waa _
  exact o.yX m (o.b9.fresh m)
 cases ha:z.cps.all (· < 128)
 ·exact fin "str_iterator" (λA y=>Draws.strWide y _ z t) (by simpa [strIterType,ha] using hit)
 ·exact fin "str_ascii_iterator" (λA y=>Draws.strAscii y _ z t) (by simpa [strIterType,ha] using hit)
end
theorem yi{z:Str}{g:TG}{C:TS}{D:Ends}{σ:St}{H:Hp}(Pv:Nat->St->Hp->Prop)(h0:Pv 0 σ H)
 (hs:∀i c σ H T,(Bs.ch z)[i]?=some c->Pv i σ H->H T=none->g (.ref T) σ (upd H T (.tup [.int (i:Nat),.str ⟨#[c]⟩])) λj t=>C {D with nx:=Pv (i+1),ct:=Pv (i+1),bk:=D.nx} j t) (hd:∀σ H,Pv z.length σ H->D.nx σ H) :
 ∃W:Nat->Nat->St->Hp->Prop,(∃m,W 0 m σ H)/\∀i m σ H,W i m σ H ->
  ((HZ z).stop i H/\D.nx σ H)\/((HZ z).go i H/\∃N:St->Hp->Prop,(∀l r,N l r->∃I,I<m/\W (i+1) I l r)/\∀x r,(HZ z).uG i H x r->g x σ r λj t=>C {D with nx:=N,ct:=N,bk:=D.nx} j t):=by
 refine⟨λi m σ H=>m=z.length-i/\i<=z.length/\Pv i σ H,⟨z.length,by simp,waA _,h0⟩,?_⟩;rintro i m σ H ⟨rfl,hi,p⟩
 by_cases a:i<z.length
 ·refine .inr ⟨a,Pv (i+1),λl r b=>⟨z.length-(i+1),by omega,rfl,a,b⟩,λx r y=>?_⟩;obtain⟨T,d,f,h⟩:=y;subst f h
  have hc:(Bs.ch z)[i]?=some (z.cps.getD i 0):=by
   have:i<z.cps.size:=a;rw[wck];simp[this]
  exact hs i _ σ _ T hc p d
 ·have e:i=z.length:=by omega
  subst e;exact .inl ⟨waa _,hd σ H p⟩
end L2
namespace Sx
open PySem L2
theorem Ia:waX "max"=some (.builtin "max"):=by decide+kernel
theorem Ef:waX "range"=some (.type "range"):=by decide+kernel
end Sx
namespace Sx
open PySem L2 Bs
theorem CM(j:H e=none)(hd:(upd H e g) d=none):d≠e/\H d=none/\del (upd (upd (upd H e g) d o2) e o3) e=upd H d o2:=by grind [a7,ae,zj,CG,Ee]
section
variable{P:wat}{w:World}{K:wa2}{mg:Str->Option Value}{base:Heap}{f:Addr}{fd:wad}
end
end Sx
namespace PySem.SeqAt
open AutoSeq1 (wpAny_loadPart')
open MeetsSeq
section
variable{A:Around}{s:Shared}
end
end PySem.SeqAt
namespace L2
open PySem PySem.Spec PyProof.Rows Sx
section
variable{X:Cx}
end
end L2
namespace L2
open PySem PySem.Spec PyProof.Rows
section
variable{X:Cx}
end
theorem Ib(v:V):V.bl (decide (v=v))=V.bl true:=by simp
theorem Ic(v:V):V.bl (!decide (v=v))=V.bl false:=by simp
end L2
namespace Bs
open PySem AC
theorem pN(g:("":Str)∈ss)(r:Str):lend ss r∈ss:=by
 rw[<-kJ,kK g];exact uY (kJ (k:="").mpr g) _
theorem take_snoc(h:(ch r)[i]?=some c):dE r (i+1)=dE r i++⟨#[c]⟩:=by grind [cR,aZ,jq,waP]
theorem take_zero(r:Str):dE r 0="":=cR (by rw[jq];rfl)
theorem take_all(r:Str):dE r r.length=r:=cR (by rw[jq,<-aW,waI])
theorem AK(r:Str)(n:Nat):ch (dE r n) <:+: ch r:=by rw[jq];exact(wfw _ _).isInfix
theorem Fq(hw:∀w∈ws,1<=w.length):bears ws ""=false:=by
 refine(eh ws "").mpr λw a hi=>?_;obtain⟨v,b,rfl⟩:=wab.mp a;have d:=hw v b;have c:=hi.length_le;rw[aW]at c;have:(ch ("":Str)).length=0:=rfl;omega
end Bs
namespace L2
open PySem Bs
theorem KJ(g:ss.Perm (bS ws "" ws))(hw:∀w∈ws,1<=w.length)(j:bears ws r=false) :
 uo ws ss (lend ss r) c=if bears ws (r++⟨#[c]⟩)=true then .non else .str (lend ss (r++⟨#[c]⟩)):=by grind [uo,kL,nX]
end L2
namespace Sx
open PySem L2 Bs
theorem kM(g:Str)(b d q:Addr):(Cz g b d q).lookup ("signs":Str)=some (.str g):=by
 rw[<-Fj,aF,if_neg (by decide+kernel),<-put3,aF,if_neg (by decide+kernel),<-put2,aF,if_neg (by decide+kernel),<-Nh,aF,if_pos rfl]
section
variable{P:wat}{w:World}{K:wa2}{mg:Str->Option Value}{base:Heap}{f:Addr}{fd:wad}
inductive CQ(C:Addr)(vs:List V)(H:Hp)(Q:VK)(eE:XK):Prop
 |mk (x r g ws ss ls) (_:vs=[.ref x,.str r]) (_:aY C H x g ws ss ls) (_:(∀c∈ch r,c∈ch g)) (_:∀H',a9 H H'->Q .non H')
inductive Fs(C:Addr)(vs:List V)(H:Hp)(Q:VK)(eE:XK):Prop
 |mk (x r g ws ss ls) (_:vs=[.ref x,.str r]) (_:aY C H x g ws ss ls) (_:(∀c∈ch r,c∈ch g)) (_:bears ws r=false) (_:(∀w∈ws,1<=w.length)) (_:∀H',a9 H H'->Q (.str (lend ss r)) H')
end
end Sx
namespace L2
open PySem PySem.Spec PyProof.Rows
section
variable{X:Cx}
end
end L2
namespace Bs
open PySem
theorem len_app(a b:Str):(a++b).length=a.length+b.length:=by grind [aW,aZ]
end Bs
namespace Sx
open PySem L2 Bs
theorem none_of(s:a9 H g)(h:g d=none):H d=none:=by
 cases q:H d with
 |none=>rfl
 |some o=>rw[s _ _ q]at h;cases h
end Sx
namespace Bs
open PySem
end Bs
namespace Sx
open PySem L2 Bs
theorem sQ(g:Str)(b d q:Addr):(Cz g b d q).lookup ("barred":Str)=some (.ref b):=by
 rw[<-Fj,aF,if_neg (by decide+kernel),<-put3,aF,if_neg (by decide+kernel),<-put2,aF,if_pos rfl]
end Sx
namespace L2
open PySem
end L2
namespace L2
open PySem PySem.Spec PyProof.Rows
section
variable{P:wat}{w:World}{K:wa2}{mg:Str->Option Value}{base:Heap}{x qual:Str}{st:Stmt}{f:Addr}{fd:wad}{N ps:List Str}{k:Nat}{sp:Sp}
theorem Ar.dJ(F:Ar K x qual st f fd)
 (l:∀(j:Value) (A:Around) (outer:List Env) (s:Shared) (H:Hp) (vs:List V) (Q:VK) (E:XK),N.Nodup->eT k (A.deeper (envOfC qual (aJ st) s.heap.objs.size f j))->sp vs H Q E ->
   ∃t,wR (uK df P w K mg base N qual (aJ st) f j A outer s H E).LW (cm st) t/\t {nx:=λ_ p=>Q .non p,rt:=Q} (start N vs) H)
 (a:(aJ st).kind=.function:=by rfl) (b:(aJ st).isCoroutine=false:=by rfl) (c:(aJ st).isGenerator=false:=by rfl) (nd:N.Nodup:=by decide+kernel) (e:N.take ps.length=ps:=by rfl)
 (g:∀x∈ps,(aJ st).names.lookup x=some .local\/(aJ st).names.lookup x=some .cell:=by decide+kernel) (h:∀y∈(aJ st).names,y.2≠.free:=by decide+kernel)
 (len:∀vs H Q E,sp vs H Q E->vs.length=ps.length:=by intro _ _ _ _ h;cases h;subst_vars;rfl):aT P w K mg base df (k+1) f fd ps sp:=
 F.ok ⟨a,b,c,nd,e,g,h⟩ len λj A outer s H vs Q E=>l j A outer s H vs Q E nd
theorem Ar.Ft(F:Ar K x qual st f fd)
 (l:∀(j:Value) (A:Around) (outer:List Env) (s:Shared) (H:Hp) (vs:List V) (Q:VK) (E:XK),N.Nodup->eT k (A.deeper (envOfC qual (aJ st) s.heap.objs.size f j))->sp vs H Q E ->
   ∃t,wR (uK (BZ P w) P w K mg base N qual (aJ st) f j A outer s H E) (cm st) t/\t {nx:=λ_ p=>Q .non p,rt:=Q} (start N vs) H)
 (a:(aJ st).kind=.function:=by rfl) (b:(aJ st).isCoroutine=false:=by rfl) (c:(aJ st).isGenerator=false:=by rfl) (nd:N.Nodup:=by decide+kernel) (e:N.take ps.length=ps:=by rfl)
 (g:∀x∈ps,(aJ st).names.lookup x=some .local\/(aJ st).names.lookup x=some .cell:=by decide+kernel) (h:∀y∈(aJ st).names,y.2≠.free:=by decide+kernel)
 (len:∀vs H Q E,sp vs H Q E->vs.length=ps.length:=by intro _ _ _ _ h;cases h;subst_vars;rfl):aT P w K mg base (BZ P w) (k+1) f fd ps sp:=
 F.Yy ⟨a,b,c,nd,e,g,h⟩ len λj A outer s H vs Q E=>l j A outer s H vs Q E nd
end
section
variable{X:Cx}
theorem aq(F:aT X.prog X.w X.K X.mg X.base df k f fd ps sp)(a:FnAt X.K X.mg x sm ps f fd)(ha:PA X (e::j) t)(C:eT k X.A:=by exact eT.mono (by assumption) (by decide))(I:Gl X x:=by rfl)(l:(x==("__debug__":Str))=false:=by decide)
 (J:starEach (e::j) X.env=(false,eval e X.env)::starEach j X.env:=by rfl) (r:(backTo pos (starEach j X.env)).any (·.1)=false:=by rfl):PE X (.Call (.Name x p) (e::j) [] pos) (LZ sp [] E0 t):=
 kr F C I a.g a.F.kp a.b .nil bj ha l J r
theorem aj{i:Nat}{x:Str}{e:Expr}{j:TE}{g:Pos}(l:PE X e j)(p:X.N.Nodup:=by assumption)(hi:X.N[i]?=some x:=by rfl)(r:Loc X.env.scope x:=by first |exact wdQ rfl |exact Or.inr rfl)(hs:wc6 e (some (.Name x g)) pos.line X.env=pure false:=by rfl)
 (t:X.fn x=true\/X.env.scope.names.lookup x=some .local:=by first |exact .inl rfl |exact .inr rfl |assumption):PS X (.Assign [.Name x g] e pos) (K5 j (d5 i)):=
 GP p hi r l hs t
theorem ay{i:Nat}{x:Str}(g:X.N.Nodup:=by assumption)(hi:X.N[i]?=some x:=by rfl)(j:Loc X.env.scope x:=by first |exact wdQ rfl |exact Or.inr rfl)(l:X.fn x=true\/X.env.scope.names.lookup x=some .local:=by first |exact .inl rfl |exact .inr rfl |assumption):PG X (.Name x pos) (d5 i):=
 km g hi j l
end
section
variable{X:Cx}
theorem kP:∀{ns:List Int} {g:List Value},Vals (ns.map V.int) g->∃xs:List (Int×Tok),g=xs.map (λp=>wfL p.1 p.2)/\xs.map (·.1)=ns
 |[],g,r=>by cases r;exact⟨[],rfl,rfl⟩
 |n::ns,g,r=>by
  cases r with
  |cons h t=>
   obtain⟨a,rfl⟩:=h;obtain⟨xs,rfl,e⟩:=kP t;exact⟨(n,a)::xs,rfl,by grind⟩
theorem mF(hc:X.calm=true):eN X (.builtin "sum") (λxs H Q=>∃p ns,xs=[.ref p]/\aL X.K H p (wdl V.int ns)/\Q (.int ns.sum) H):=by
 intro b s σ H xs j Q I r h;obtain⟨p,ns,rfl,d,q⟩:=h;obtain⟨u,rfl,f⟩:=vals1 r;cases f;obtain⟨a,g,pl,k⟩:=I.list d;obtain⟨c,e,rfl⟩:=kP g
 have hl:s.heap.IsList p (intItems c.toArray):=by
  have:intItems c.toArray=a.toArray:=by rw[e];unfold intItems;simp
  rw[this];exact pl.isList
 refine sum_intListG (I.ok.hd hc) hl λl m i hk=>?_;refine⟨.int _,H,I.kept hk,⟨i,?_⟩,q⟩;rw[preSum_eq,wbf (by simp)]
end
theorem Inv.freeze{X:Cx}(I:Inv X g σ H s)(e:H d=some (.dK kvs)):∃o,s.heap.get? d=some o/\Inv X g σ (upd H d (.frz o (.dK kvs))) s:=by
 have ok:=I.b9 d _ e;obtain⟨z,y,f,rel,o,h,i,a,j⟩:=id ok;refine⟨o,a,?_⟩;exact I.write (x:=d) (e:=d) (h':=s.heap) (t':=s.toks) (by rw[e];exact trivial) (.inl rfl) (λb u _ c=>c) ⟨_,a⟩ ⟨a,ok⟩
noncomputable def KL(d:Addr)(o:Obj)(kvs:List (Key×V)):It:=⟨λi H=>H d=some (.frz o (.dK kvs))/\i<kvs.length,λi H x H'=>H'=H/\∃kv,kvs[i]?=some kv/\x=kV kv.1,λi H=>H d=some (.frz o (.dK kvs))/\kvs.length<=i⟩
theorem jR(d:Addr)(o:Obj)(kvs:List (Key×V)):ml (KL d o kvs) (λH=>H d=some (.frz o (.dK kvs))) (kvs.map λg=>kV g.1) where
 go:=λi H ok h=>⟨ok,by rwa[wa0]at h⟩
 uG:=λi H x a ok h q=>by
  obtain⟨rfl,g,e,rfl⟩:=q;refine⟨rfl,?_⟩;rw[wa4,e];rfl
 stop:=λH ok=>⟨ok,by rw[wa0];exact waa _⟩
theorem Ie{κ:Type}:∀{kvs:List (κ×V)} {vs:List (κ×Value)},KV kvs vs->∀{i:Nat} {p:κ×V},kvs[i]?=some p->∃q,vs[i]?=some q/\p.1=q.1/\RelV p.2 q.2
 |_,_,.nil,i,p,h=>by simp at h
 |_,_,.cons r t,i,p,h=>by
  cases i with
  |zero=>exact⟨_,rfl,by have:=wae h;subst this;exact r⟩
  |succ i=>exact Ie t h
theorem CT{X:Cx}(I:Inv X g σ H s)(e:H d=some (.frz o (.dK kvs)))(j:o.data=.dict p ep) :
 ∃vs,KV kvs vs/\s.heap.DictAt (bz X.prog X.w) d vs ep:=by
 obtain⟨f,_⟩:=I.b9 d _ e;obtain⟨_,_,vs,rel,h,a,i,b,k,c,l⟩:=lP I.b9 (.inr ⟨o,e⟩);refine⟨vs,rel,h,a,b,k,?_,l⟩;rw[f]at b;cases b;rw[c]at j;cases j;exact c
theorem Fu{P:wat}{w:World}{K:wa2}{T:Expr}(d it:Addr)(o:Obj)(kvs:List (Key×V))(U:Array DictEntry)(ep:Nat)(J:o.data=.dict U ep):Turn P w K T (KL d o kvs) [it] it (λi h=>h.IsKeyIter it d i kvs.length ep) where
 mem:=by simp
 obj:=λi h st b j=>by
  have e:b=it:=by grind
  subst e;obtain⟨o,e,c,D⟩:=st;exact⟨o,e,λv z=>by grind⟩
 keep:=λi h m st k=>st.at λo e=>k it (by simp) o e
 item:=by
  intro X p hw q hc i a s σ H E I n st r;subst p hw q;obtain⟨u,hi⟩:=r;obtain⟨L,rel,f⟩:=CT I u J;have G:kvs[i]?=some kvs[i]:=by simp[hi]
  obtain⟨⟨k,v⟩,M,N,_⟩:=Ie rel G;obtain⟨x,f1,f2,A,B,C⟩:=n it (by simp);rw[rel.length]at st;refine wpAny_pyNext_dict_item st f M λkey m l g sb=>?_;have O:Inv X a σ H {s with heap:=m}:=I.turned (t':=s.toks) (λb o j e=>(sb.2 b j).trans e) x f1 A B C;obtain⟨S,e,c,D⟩:=id g;rw[<-rel.length]at g;refine⟨key,rfl,xP (s:={s with heap:=m}) e c D (by decide) ⟨kV kvs[i].1,H,O,?_,⟨rfl,_,G,rfl⟩,g,λb j=>(n b j).1⟩⟩;have Q:kvs[i].1=k:=N;rw[Q];rcases cp l with⟨i,t,rfl,rfl⟩ |⟨y,t,rfl,rfl⟩
  ·exact⟨t,rfl⟩
  ·exact⟨t,rfl⟩
 done:=by
   intro X p hw q hc i a s σ H E I n st r;subst p hw q;obtain⟨u,hi⟩:=r;obtain⟨L,rel,f⟩:=CT I u J;obtain⟨x,f1,f2,A,B,C⟩:=n it (by simp);rw[rel.length]at st hi;exact wpAny_pyNext_dict_end (I.ok.hd hc) st f (by simp;omega) λm R=>⟨rfl,I.turned (t':=s.toks) (λb o j e=>R b o j e) x f1 A B C⟩
 self:=λ_ _ _ _ _ st h=>wpAny_pyIter_keyiter st h
section
variable{X:Cx}{tg:Expr}
def Qn(tl:TE):TI:=λσ H R=>tl σ H λx H1=>∃d kvs,x=.ref d/\((H1 d=some (.dK kvs)/\∀o,R (KL d o kvs) (upd H1 d (.frz o (.dK kvs))))\/∃o,H1 d=some (.frz o (.dK kvs))/\R (KL d o kvs) H1)
theorem ur{l:Expr}{p:TE}(hl:PE X l p):PI X tg l (Qn p):=by
 intro a s σ H R I h;refine bY (hl a s σ H _ I h) λv g ⟨x,D,m,t,j⟩=>?_;obtain⟨d,f,e,q⟩:=j;subst e;cases t
 have key:∀{i:Hp} {o:Obj},Inv X a σ i g->i d=some (.frz o (.dK f))->R (KL d o f) i->wpAny (model X.prog X.w) X.A (pyIter (.ref d)) (Oz X a σ tg R) X.xe g:=λ{i o} c hd u=>by
  obtain⟨E,lo,y,n,G,z,B,j,J,r,L⟩:=lP c.b9 (.inr ⟨o,hd⟩);obtain⟨C,_⟩:=c.b9 d _ hd;rw[C]at j;cases j;obtain⟨M,rel,k⟩:=CT c hd r;refine wpAny_pyIter_dict lo k ?_;refine⟨g.heap.objs.size,[g.heap.objs.size],_,_,i,rfl,c.kept (t':=g.toks) λb o e=>wa9 _ e,Fu d _ o f z B r,⟨_,wav _ rfl,rfl,by rw[rel.length];rfl⟩,λb N=>?_,u⟩;have e:b=g.heap.objs.size:=by grind
  subst e;exact c.yX (waa _) (c.b9.fresh (waa _))
 rcases q with⟨hd,q⟩ |⟨o,hd,q⟩
 ·obtain⟨o,O,c⟩:=m.freeze hd;exact key c a7 (q o)
 ·exact key m hd q
end
end L2
namespace L2
open PySem Bs
theorem eM.f{H:Hp}{a:Addr}{o:Obj}{kvs:List (Key×V)}{k:Key}(e:H a=some (.frz o (.dK kvs))):eM H a (kV k) (bE kvs k):=.inl ⟨kvs,k,.inr ⟨o,e⟩,rfl,rfl⟩
noncomputable def ip(g:Str)(ws ss:List Str)(p:Str):List Str:=(ch g).filterMap λc=>if bears ws (p++⟨#[c]⟩)=true then none else some (lend ss (p++⟨#[c]⟩))
noncomputable def CU(v:V):Bool:=!decide (v=.non)
theorem AO(ws ss:List Str)(p:Str)(g:List Nat):((g.map (uo ws ss p)).filter CU)=(g.filterMap λc=>if bears ws (p++⟨#[c]⟩)=true then none else some (lend ss (p++⟨#[c]⟩))).map V.str:=by
 induction g with
 |nil=>rfl
 |cons c g a=>
  grind [uo,lend,CU]
theorem CV(g:Str)(ws ss:List Str)(p:Str):(ip g ws ss p).length<=g.length:=by
 unfold ip;have:=wdW (λc=>if bears ws (p++⟨#[c]⟩)=true then none else some (lend ss (p++(⟨#[c]⟩:Str)))) (ch g);rw[aW]at this;exact this
theorem CW(j:("":Str)∈ss)(h:t∈ip g ws ss p):t∈ss:=by grind [ip,pN]
noncomputable def iM(g:Str)(ws ss:List Str):Nat->Str->Int
 |0,_=>1
 |n+1,p=>((ip g ws ss p).map (iM g ws ss n)).sum
noncomputable def rD(f:Str->V)(ks:List Str):List (Key×V):=ks.map λp=>((waj p:Key),f p)
theorem va(f:Str->V)(h:k∈g):bE (rD f g) (waj k:Key)=some (f k):=by
 induction g with
 |nil=>simp at h
 |cons j g a=>
  by_cases e:j=k
  ·subst e;exact cw rfl
  ·unfold rD;rw[wax,cx (λz=>e (wca z))];exact a (by grind)
theorem yj(f:Str->V)(h:k∉g):bE (rD f g) (waj k:Key)=none:=by
 cases q:bE (rD f g) (waj k:Key) with
 |none=>rfl
 |some v=>
  have:=z9 q;unfold rD at this;rw[wah]at this;obtain⟨m,a,e⟩:=wab.mp this;have b:m=k:=wca e;subst b;exact absurd a h
theorem AQ(f:Str->V)(g:List Str):(rD f g).length=g.length:=by unfold rD;rw[wa0]
theorem yk(f:Str->V)(g:List Str)(k:Str):rD f (g++[k])=rD f g++[((waj k:Key),f k)]:=by unfold rD;rw[wan];rfl
theorem j6{ss:List Str}(nd:ss.Nodup){i:Nat}{p:Str}(h:ss[i]?=some p):p∉ss.take i:=by
 intro b;obtain⟨j,c,a⟩:=weA.mp b;rw[wfb]at a;rw[wai]at c;have d:=(wa6.mp h).2;have:=(wch nd).mp (a.trans d.symm);omega
noncomputable abbrev Nw(g:Str)(ws ss:List Str)(n:Nat):List (Key×V):=rD (λp=>.int (iM g ws ss n p)) ss
noncomputable def Wk(ws ss:List Str)(p:Str):V->V:=λv=>match v with
 |.str z=>uo ws ss p (z.cps.getD 0 0)
 |_=>.non
theorem Fv(g:Str)(ws ss:List Str)(p:Str):(fh g).map (Wk ws ss p)=(ch g).map (uo ws ss p):=by
 unfold fh;rw[wah];rfl
noncomputable def KM(f:Str->Int):V->V:=λv=>match v with
 |.str z=>.int (f z)
 |_=>.non
theorem rE(f:Str->Int)(g:List Str):(g.map V.str).map (KM f)=(g.map f).map V.int:=by
 rw[wah,wah];rfl
end L2
namespace Sx
open PySem L2 Bs
inductive CY(C:Addr)(vs:List V)(H:Hp)(Q:VK)(eE:XK):Prop
 |mk (x p g ws ss ls) (_:vs=[.ref x,.str p]) (_:aY C H x g ws ss ls) (_:p∈ss) (_:g.length<=10) (_:∀(l:Addr) (H':Hp),a9 H H'->H l=none->H' l=some (.lst ((ip g ws ss p).map V.str))->Q (.ref l) H')
inductive Fw(C:Addr)(vs:List V)(H:Hp)(Q:VK)(eE:XK):Prop
 |mk (x g ws ss ls) (_:vs=[.ref x]) (_:aY C H x g ws ss ls) (_:g.length<=10) (_:ss.length<=900) (_:∀(d:Addr) (ev:List (Str×Addr)) (H':Hp),a9 H H'->H d=none->H' d=some (.dK (cD ev))->ev.map (·.1)=ss->(∀m∈ev,H' m.2=some (.lst ((ip g ws ss m.1).map V.str)))->(∀m∈ev,H m.2=none)->Q (.ref d) H')
inductive KN(C:Addr)(vs:List V)(H:Hp)(Q:VK)(eE:XK):Prop
 |mk (x n g ws ss ls) (_:vs=[.ref x,.int n]) (_:aY C H x g ws ss ls) (_:g.length<=10) (_:ss.length<=900) (_:0<=n) (_:n<=100000) (_:∀(l:Addr) (ts:List Addr) (H':Hp),a9 H H'->H l=none->H' l=some (.lst (ts.map V.ref))->ts.length=n.toNat+1->(∀i t,ts[i]?=some t->H' t=some (.dK (Nw g ws ss i)))->Q (.ref l) H')
inductive KO(C:Addr)(vs:List V)(H:Hp)(Q:VK)(eE:XK):Prop
 |mk (x n g ws ss ls) (_:vs=[.ref x,.int n]) (_:aY C H x g ws ss ls) (_:g.length<=10) (_:ss.length<=900) (_:0<=n) (_:n<=100000) (_:∀H',a9 H H'->Q (.int (iM g ws ss n.toNat "")) H')
end Sx
namespace L2
open PySem PySem.Spec PyProof.Rows
section
variable{X:Cx}
noncomputable def YC:Pb:=λx y H Q=>∃i j,x=.int i/\y=.int j/\K7 i j/\Q (.int (i*j)) H
theorem Ig:RG X .Mult YC:=by
 intro a s σ H x y v u Q I b c h;obtain⟨i,j,d,e,hc,q⟩:=h;subst d;subst e;obtain⟨t,rfl⟩:=b;obtain⟨f,rfl⟩:=c;exact imul_int ⟨.int _,H,I.tok _,⟨_,rfl⟩,q⟩ hc.ok
end
end L2
namespace Sx
open PySem L2 Bs
inductive Ih(vs:List V)(H:Hp)(Q:VK)(eE:XK):Prop
 |mk (i) (_:vs=[.int i]) (_:Q (.bl true) H)
inductive Fx(C:Addr)(vs:List V)(H:Hp)(Q:VK)(eE:XK):Prop
 |mk (x n g ws ss ls) (_:vs=[.ref x,.int n]) (_:aY C H x g ws ss ls) (_:g.length<=10) (_:0<=n) (_:n<=10) (_:Q (.int ((g.length:Int)^n.toNat)) H)
structure gK(m:Nat)(many wide:Int):Prop where
 a:2<=many
 b:many<=8
 c:1<=wide
 d:wide<=6
 e:(m:Int)^wide.toNat<=64
inductive AR(C:Addr)(vs:List V)(H:Hp)(Q:VK)(eE:XK):Prop
 |mk (x many wide g ws ss ls) (_:vs=[.ref x,.int many,.int wide]) (_:aY C H x g ws ss ls) (_:g.length<=10) (_:gK g.length many wide) (_:Q (.bl true) H)
end Sx
namespace L2
open PySem PySem.Spec PyProof.Rows
theorem AU(ns:List Int)(lo hi:Option Int):∃g:List Int,mw (ns.map V.int) lo hi=g.map V.int/\g.length<=ns.length:=by
 refine⟨_,by unfold mw;rw[<-web,<-wdB],?_⟩;rw[wai,wbp];omega
section
variable{X:Cx}
inductive TV(K:wa2)(x y:V)(H:Hp)(Q:VK):Prop
 |mk (a b xs ys) (_:x=.ref a) (_:y=.ref b) (_:aL K H a xs) (_:aL K H b ys) (_:xs.all eO=true) (_:ys.all eO=true) (_:Q (.bl (!oQ xs ys)) H)
theorem CZ(l:X.A.units<wcF):nT X (wbm .NotEq) (TV X.K):=by
 intro m s σ H x y v u Q I D E h;obtain⟨a,b,f,g,rfl,rfl,ha,G,J,L,q⟩:=h;cases D;cases E;obtain⟨d,n,o,_⟩:=I.list ha;obtain⟨c,p,r,_⟩:=I.list G;have M:=n.length;have V:=p.length
 by_cases hl:f.length=g.length
 ·refine SeqAt.RcNeAt.lists (e:=λj=>rp (f.getD j .non) (g.getD j .non)) o.isList r.isList (by simp only[waB];omega) l (λj N O=>?_) X.prog X.w _ _ ?_
  ·have i:j<d.length:=by simpa using N
   have k:j<c.length:=by simpa using O
   have t:f[j]?=some (f.getD j .non):=by rw[wa3];simp[show j<f.length by omega]
   have z:g[j]?=some (g.getD j .non):=by rw[wa3];simp[show j<g.length by omega]
   obtain⟨R,B,S⟩:=n.get t;obtain⟨T,C,U⟩:=p.get z
   have g1:d.toArray[j]=R:=by
    have:d[j]?=some d[j]:=by simp[i]
    rw[this]at B;simpa using wae B
   have g2:c.toArray[j]=T:=by
    have:c[j]?=some c[j]:=by simp[k]
    rw[this]at C;simpa using wae C
   rw[g1,g2];exact z7 S U (waU.mp J _ (wa8 t)) (waU.mp L _ (wa8 z))
  ·rw[oR hl]at q;refine⟨.bl _,H,I,rfl,?_⟩;rw[waB,<-M];exact q
 ·refine SeqAt.RcNeAt.lists_lengths o.isList r.isList (by simp only[waB,bne_iff_ne];omega) l X.prog X.w _ _ ⟨.bl true,H,I,rfl,?_⟩;rw[Av hl]at q;exact q
theorem Fy(hc:X.calm=true):eN X (.builtin "max") (λxs H Q=>∃p ns,xs=[.ref p]/\aL X.K H p (wdl V.int ns)/\ns≠[]/\∀M,M∈ns->(∀a∈ns,a<=M)->Q (.int M) H):=by
 intro g s σ H xs w Q I r h;obtain⟨p,ns,rfl,i,c,q⟩:=h;obtain⟨u,rfl,k⟩:=vals1 r;cases k;obtain⟨d,l,pl,x⟩:=I.list i;obtain⟨b,e,rfl⟩:=kP l
 have hl:s.heap.IsList p (intItems b.toArray):=by
  have:intItems b.toArray=d.toArray:=by grind [intItems]
  rw[this];exact pl.isList
 have f:0<b.toArray.size:=by
  rw[waB];exact Nat.pos_of_ne_zero λz=>c (by grind)
 refine max_intList (I.ok.hd hc) hl f λv y A m hk=>?_;obtain⟨t,rfl⟩:=whm m;obtain⟨B,n⟩:=argBest_gt (numAt b.toArray) (b.toArray.size-1);refine⟨.int _,H,I.kept hk,⟨t,rfl⟩,q _ ?_ λa ha=>?_⟩
 ·rw[numAt_eq];exact getD_mem (by grind)
 ·obtain⟨j,o,rfl⟩:=mem_getD ha;rw[wa0]at o;have:=n j (by grind);rw[numAt_eq]at this;exact this
end
end L2
namespace Bs
open PySem L2
noncomputable def mG(st sp n:Nat):List Nat:=(waD n).map λk=>(ch fS).getD ((st+k*sp)%36) 0
theorem AV{P:Nat->Prop}:∀{ts:List Str},(∀t∈ts,∃c,t=⟨#[c]⟩/\P c)->(ts.map (·.length)).sum=ts.length
 |[],_=>rfl
 |t::ts,h=>by
  obtain⟨c,rfl,_⟩:=h t (wag ..);rw[wax,wbt,AV λt a=>h t (wac _ a),waM];show 1+ts.length=_;omega
noncomputable def KP(st sp:Nat):V->V:=λv=>match v with
 |.int k=>.str ⟨#[(ch fS).getD ((st+k.toNat*sp)%36) 0]⟩
 |_=>.non
end Bs
namespace Sx
open PySem L2 Bs
inductive Qo(K:wa2)(vs:List V)(H:Hp)(Q:VK)(eE:XK):Prop
 |mk (a:Addr) (ns:List Int) (p:Int) (_:vs=[.ref a,.int p]) (_:aL K H a (ns.map V.int)) (_:∀(c:Int) (H':Hp),a9 H H'->Q (.int c) H')
end Sx
namespace Bs
theorem vc{α:Type}[DecidableEq α]:∀{g l:List α},g.Nodup->(∀k∈g,k∈l)->g.length<=l.length
 |[],l,_,_=>waA _
 |k::g,l,nd,h=>by
  rw[wbF]at nd;have hk:=h k (wag ..);have:=vc (l:=l.erase k) nd.2 λj a=>(List.mem_erase_of_ne (λz=>nd.1 (by rw[<-z];exact a))).mpr (h j (wac _ a));rw[List.length_erase_of_mem hk]at this;have:0<l.length:=List.length_pos_of_mem hk;rw[waM];omega
theorem vd{α β:Type}(f:α->List β)(b:Nat):∀(g:List α),(∀c∈g,(f c).length<=b)->(g.flatMap f).length<=g.length*b
 |[],_=>waA _
 |c::g,h=>by
  rw[we5,wa5,waM,Nat.succ_mul];have:=vd f b g λd hd=>h d (wac _ hd);have:=h c (wag ..);omega
section
variable{κ:Type}[DecidableEq κ]
end
end Bs
namespace Bs
open PySem L2 AC
variable{ws ss:List Str}
noncomputable def bI(m:List (Str×Int)):List (Key×V):=m.map λp=>((waj p.1:Key),V.int p.2)
theorem jS(m:List (Str×Int)):(bI m).length=m.length:=wa0 ..
noncomputable def sR:List (Str×Int)->Str->Option Int
 |[],_=>none
 |(j,u)::m,k=>if j=k then some u else sR m k
theorem eU(k:Str):∀m:List (Str×Int),bE (bI m) (waj k:Key)=(sR m k).map V.int
 |[]=>rfl
 |(j,u)::m=>by
  unfold sR
  by_cases h:j=k
  ·rw[if_pos h,h];exact cw rfl
  ·rw[if_neg h,<-eU k m];exact cx (λz=>h (wca z))
theorem ve:∀{m:List (Str×Int)},k∉m.map (·.1)->sR m k=none
 |[],_=>rfl
 |(j,u)::m,h=>by
  unfold sR;rw[if_neg (λz=>h (by rw[z];exact wag ..))];exact ve λz=>h (wac _ z)
end Bs
namespace L2
open PySem
theorem AW{R:It->Hp->Prop}(h:g d=some (.dK kvs)\/∃o,g d=some (.frz o (.dK kvs)))
 (k:∀o j,j d=some (.frz o (.dK kvs))->(∀c,c≠d->j c=g c)->R (KL d o kvs) j) :
 (g d=some (.dK kvs)/\∀o,R (KL d o kvs) (upd g d (.frz o (.dK kvs))))\/∃o,g d=some (.frz o (.dK kvs))/\R (KL d o kvs) g:=by
 rcases h with h |⟨o,h⟩
 ·exact .inl ⟨h,λo=>k o _ a7 λc hc=>ae hc⟩
 ·exact .inr ⟨o,h,k o _ h λc _=>rfl⟩
end L2
namespace Sx
open PySem L2 Bs
end Sx
namespace L2
open PySem PySem.Spec PyProof.Rows
def kQ(K:wa2)(J:It)(l:Addr)(σf:St)(tt:TT)(te:TE)(H:Hp)(Q:Hp->Prop):Prop:=
 ∃W:Nat->Nat->List V->Hp->Prop,(∃m,W 0 m [] (upd H l (.lst [])))/\∀i m ys H2,W i m ys H2->H2 l=some (.lst ys) /\
  ((J.stop i H2/\Q H2)\/(J.go i H2/\ys.length<sizeLine/\∀x H3,J.uG i H2 x H3->∃p a b,x=.ref p/\ig K H3 p [a,b]/\tt (some a::some b::σf) H3 λok H4=>
    if ok=true then te (some a::some b::σf) H4 λy H5=>H5 l=some (.lst ys)/\∃m',m'<m/\W (i+1) m' (ys++[y]) (upd H5 l (.lst (ys++[y])))
    else ∃m',m'<m/\W (i+1) m' ys H4))
def Nx(K:wa2)(wi:TI)(ix:List Nat)(tt:TT)(te:TE):TE:=λσ H Q=>wi σ H λJ H1=>∀l,H1 l=none->kQ K J l (pick σ ix) tt te H1 (λH2=>Q (.ref l) H2)
section
variable{X:Cx}{pins:List (Addr×Obj)}{σ:St}{H:Hp}{s₂:Shared}{scope:wd8}{x x2:Str}{ys:List Str}{ix:List Nat}{cl:List (Str×Addr)}{fp:List Addr}{L:Addr}
theorem AX(hc:X.calm=true)(B:bZ X scope x ys ix)(g:bZ X scope x2 ys ix)(j:x≠x2)(cl L s H ex pn):PG (bH X scope ([x,x2]++ys) cl L s H ex pn) (.Tuple [.Name x p,.Name x2 l] r pt) (GO X.K 2 (mn (d5 0) (mn (d5 1) GN))):=by
 have c:(relabel scope X.env).names.lookup x=some .local:=wcs B.var;have a:(relabel scope X.env).names.lookup x2=some .local:=wcs g.var
 have b:(x::x2::ys).Nodup:=by
  have:=B.nd;have:=g.nd
  grind
 exact eB hc (aO (km b rfl (.inl c) (.inr c)) (aO (km b rfl (.inl a) (.inr a)) cT))
theorem AY{K:wa2}{J:It}(h:kQ K J l g j r H Q):y2 (GO K 2 (mn (d5 0) (mn (d5 1) GN))) 2 J l g j r H Q:=
 let ⟨W,a,t⟩:=h
 ⟨W,a,λi m ys f w=>let ⟨p,q⟩:=t i m ys f w;⟨p,q.imp id λ⟨a,b,c⟩=>⟨a,b,λx k n u y=>by revert n;refine ji 2 _ ?_;exact λ_ _=>let ⟨p,v,d,e,o,s⟩:=c x k y;⟨p,[v,d],e,o,rfl,v,[d],rfl,d,[],rfl,rfl,⟨[some v,some d],rfl,rfl⟩,s⟩⟩⟩⟩
theorem fT(hc:X.calm=true)(B:bZ X scope x ys ix)(T:bZ X scope x2 ys ix)(g:x≠x2)(hi:PI X (.Tuple [.Name x U,.Name x2 j] kt pt) iter wi)
 (ht:∀cl L s H ex pn,JR (bH X scope (x::x2::ys) cl L s H ex pn) p t) (he:∀cl L s H ex pn,PE (bH X scope (x::x2::ys) cl L s H ex pn) r I)
 (hs:∀v,wc4 iter X.env v=pure v:=by intro _;rfl):PE X (.ListComp r [⟨.Tuple [.Name x U,.Name x2 j] kt pt,iter,p,0⟩] scope pos) (Nx X.K wi ix t I):=
 uR (C:=λJ l a H Q=>kQ X.K J l a t I H Q) (xs:=[x,x2]) hc B (AX hc B T g) (λ_ _ _ _ _=>AY) hi ht he hs
end
def bc(H:Hp)(rs:List Addr)(Wl:List (List V)):Prop:=rs.length=Wl.length/\∀(i:Nat) (r:Addr) (xs:List V),rs[i]?=some r->Wl[i]?=some xs->H r=some (.tup xs)
theorem bc.nil(H:Hp):bc H [] []:=⟨rfl,λi r a h=>by simp at h⟩
theorem bc.keep(t:bc H rs g)(k:∀r xs,H r=some (.tup xs)->j r=some (.tup xs)):bc j rs g:=⟨t.1,λi r xs a b=>k _ _ (t.2 i r xs a b)⟩
theorem bc.same(t:bc H rs g)(s:a9 H j):bc j rs g:=t.keep λr a h=>s _ _ h
theorem bc.snoc(t:bc H rs g)(h:H r=some (.tup xs)):bc H (rs++[r]) (g++[xs]):=by
 refine⟨by rw[wa5,wa5,t.1];rfl,λi a b c d=>?_⟩
 by_cases hi:i<rs.length
 ·rw[waG hi]at c;rw[waG (by rw[<-t.1];exact hi)]at d;exact t.2 i a b c d
 ·have e:i=rs.length:=by
   have:=(wa6.mp c).1;rw[wa5,wcj]at this;omega
  subst e;rw[waC (waa _),wbC]at c;rw[waC (by rw[t.1];exact waa _),t.1,wbC]at d;cases c;cases d;exact h
noncomputable def jT(q:V×V):List V:=[q.1,q.2]
theorem oX{K:wa2}{J:It}{Ok:Hp->Prop}{rs:List Addr}{prs:List (V×V)}{l:Addr}{t:St}{U:TT}{te:TE}{H:Hp}{Q:Hp->Prop}(p:V×V->Bool)(g:V×V->V)(T:ml J Ok (rs.map V.ref))(hT:bc H rs (prs.map jT))(hl:H l=none)(hz:rs.length<=sizeLine)(C:∀j,a9 H j->Ok j)
 (ht:∀q r I,q∈prs->a9 H r->(∀j,a9 r j->I (p q) j)->U (some q.1::some q.2::t) r I)
 (he:∀q r I,q∈prs->p q=true->a9 H r->(∀j,a9 r j->I (g q) j)->te (some q.1::some q.2::t) r I)
 (hd:∀j,a9 H j->j l=some (.lst ((prs.filter p).map g))->Q j):kQ K J l t U te H Q:=by
 have f:rs.length=prs.length:=by rw[hT.1,wa0]
 refine⟨λi m s d=>m=rs.length-i/\i<=rs.length/\a9 H d/\d l=some (.lst s)/\s=((prs.take i).filter p).map g,⟨rs.length,by simp,waA _,a9.upd hl,a7,by simp⟩,?_⟩;rintro i m s d ⟨rfl,hi,c,k,n⟩;refine⟨k,?_⟩
 by_cases a:i<rs.length
 ·refine .inr ⟨T.go i d (C _ c) (by rw[wa0];exact a),?_,λx r y=>?_⟩
  ·rw[n,wa0];refine wbg (wb7 _ _) ?_;rw[wai];omega
  ·obtain⟨e,v⟩:=T.uG i d x r (C _ c) (by rw[wa0];exact a) y;subst e;have w:prs[i]?=some prs[i]:=wa1 (by omega);have z:rs[i]?=some rs[i]:=wa1 a;rw[wa4,z]at v;obtain rfl:V.ref rs[i]=x:=wae v;have mem:prs[i]∈prs:=waN _;have A:prs.take (i+1)=prs.take i++[prs[i]]:=by rw[waP,w];rfl
   refine⟨rs[i],prs[i].1,prs[i].2,rfl,ig.of (c _ _ (hT.2 i rs[i] _ z (by rw[wa4,w];rfl))),ht prs[i] _ _ mem c λD h=>?_⟩
   cases u:p prs[i] with
   |false=>
    rw[if_neg wap];refine⟨rs.length-(i+1),by omega,rfl,a,c.trans h,h _ _ k,?_⟩;rw[A,wbw,n];simp[u]
   |true=>
    rw[if_pos rfl];refine he prs[i] _ _ mem u (c.trans h) λE B=>⟨B _ _ (h _ _ k),rs.length-(i+1),by omega,rfl,a,λb o e=>?_,a7,?_⟩
    ·rw[ae (ag e hl)];exact B _ _ (h _ _ (c _ _ e))
    ·rw[A,wbw,n];simp[u]
 ·have e:i=rs.length:=by omega
  subst e;refine .inl ⟨?_,hd d c ?_⟩
  ·have:=T.stop d (C _ c);rwa[wa0]at this
  ·rw[k,n,f,waI]
theorem Fz{K:wa2}{J:It}{Ok:Hp->Prop}{rs:List Addr}{prs:List (V×V)}{l:Addr}{C:St}{tt:TT}{te:TE}{H:Hp}{Q:Hp->Prop}(p:V×V->Bool)(g:V×V->List V)(U:ml J Ok (rs.map V.ref))(hT:bc H rs (prs.map jT))(hl:H l=none)(hz:rs.length<=sizeLine)(I:∀j,a9 H j->Ok j)
 (ht:∀q t T,q∈prs->a9 H t->(∀j,a9 t j->T (p q) j)->tt (some q.1::some q.2::C) t T)
 (he:∀q t T,q∈prs->p q=true->a9 H t->(∀r j,a9 t j->j r=some (.tup (g q))->T (.ref r) j)->te (some q.1::some q.2::C) t T)
 (hd:∀ys j,a9 H j->j l=some (.lst (ys.map V.ref))->bc j ys ((prs.filter p).map g)->Q j):kQ K J l C tt te H Q:=by
 have h:rs.length=prs.length:=by rw[hT.1,wa0]
 refine⟨λi m B d=>m=rs.length-i/\i<=rs.length/\a9 H d/\∃ys:List Addr,B=ys.map V.ref/\d l=some (.lst (ys.map V.ref))/\bc d ys (((prs.take i).filter p).map g),⟨rs.length,by simp,waA _,a9.upd hl,[],rfl,a7,by simpa using bc.nil _⟩,?_⟩;rintro i m B d ⟨rfl,hi,c,ys,rfl,k,n⟩;refine⟨k,?_⟩
 by_cases a:i<rs.length
 ·refine .inr ⟨U.go i d (I _ c) (by rw[wa0];exact a),?_,λx t y=>?_⟩
  ·rw[wa0,n.1,wa0];refine wbg (wb7 _ _) ?_;rw[wai];omega
  ·obtain⟨e,D⟩:=U.uG i d x t (I _ c) (by rw[wa0];exact a) y;subst e;have E:prs[i]?=some prs[i]:=wa1 (by omega);have G:rs[i]?=some rs[i]:=wa1 a;rw[wa4,G]at D;obtain rfl:V.ref rs[i]=x:=wae D;have mem:prs[i]∈prs:=waN _;have L:prs.take (i+1)=prs.take i++[prs[i]]:=by rw[waP,E];rfl
   refine⟨rs[i],prs[i].1,prs[i].2,rfl,ig.of (c _ _ (hT.2 i rs[i] _ G (by rw[wa4,E];rfl))),ht prs[i] _ _ mem c λN f=>?_⟩
   cases u:p prs[i] with
   |false=>
    rw[if_neg wap];refine⟨rs.length-(i+1),by omega,rfl,a,c.trans f,ys,rfl,f _ _ k,?_⟩
    have e:((prs.take (i+1)).filter p).map g=((prs.take i).filter p).map g:=by
     rw[L,wbw];simp[u]
    rw[e];exact n.same f
   |true=>
    rw[if_pos rfl];refine he prs[i] _ _ mem u (c.trans f) λr O s v=>⟨s _ _ (f _ _ k),rs.length-(i+1),by omega,rfl,a,λb o e=>?_,ys++[r],by rw[wan];rfl,by rw[a7,wan];rfl,?_⟩
    ·rw[ae (ag e hl)];exact s _ _ (f _ _ (c _ _ e))
    ·have e:((prs.take (i+1)).filter p).map g=((prs.take i).filter p).map g++[g prs[i]]:=by
      rw[L,wbw];simp[u]
     rw[e];have w:=s _ _ (f _ _ k);refine bc.keep ((n.same (f.trans s)).snoc v) λR M A=>?_;rw[ae (λz=>by rw[z,w]at A;cases A)];exact A
 ·have e:i=rs.length:=by omega
  subst e;refine .inl ⟨?_,hd ys d c k ?_⟩
  ·have:=U.stop d (I _ c);rwa[wa0]at this
  ·rw[h,waI]at n;exact n
theorem Rd.same(h:Rd H a u)(s:a9 H g):Rd g a u:=by
 rcases h with h |⟨o,h⟩
 ·exact .inl (s _ _ h)
 ·exact .inr ⟨o,s _ _ h⟩
theorem eM.rd{H:Hp}{a:Addr}{kvs:List (Key×V)}{k:Key}(e:Rd H a (.dK kvs)):eM H a (kV k) (bE kvs k):=.inl ⟨kvs,k,e,rfl,rfl⟩
def Ny(tl:TE):TI:=λσ H R=>tl σ H λx H1=>∃d kvs,x=.ref d/\(H1 d=some (.dK kvs)\/∃o,H1 d=some (.frz o (.dK kvs)))/\∀o H',H' d=some (.frz o (.dK kvs))->(∀c,c≠d->H' c=H1 c)->R (KL d o kvs) H'
theorem AZ{X:Cx}(hl:PE X l g)(r:∀{σ H} {Q p:VK},(∀x j,Q x j->p x j)->g σ H Q->g σ H p:=by intro _ _ _ _ h q;obtain⟨v,e,q⟩:=q;exact⟨v,e,h _ _ q⟩):PI X t l (Ny g):=by
 intro c s σ H R I h;refine ur hl c s σ H R I (r (λx j q=>?_) h);obtain⟨d,f,e,a,b⟩:=q;exact⟨d,f,e,AW a b⟩
noncomputable def hitsD(kb ka:List (Key×V)):Bool:=ka.all λkv=>match bE kb kv.1 with
 |some y=>rp kv.2 y
 |none=>false
noncomputable def TX(ka kb:List (Key×V)):Bool:=ka.length==kb.length&&hitsD kb ka
noncomputable def vf(kvs:List (Key×V)):Bool:=kvs.all λkv=>eO kv.2
theorem FA(h:vf kvs=true)(e:bE kvs k=some v):eO v=true:=by
 unfold bE at e
 cases q:kvs.find? λa=>decide (a.1=k) with
 |none=>rw[q]at e;cases e
 |some a=>
  rw[q]at e;have:=waU.mp h a (List.mem_of_find?_eq_some q);cases e;exact this
section
variable{X:Cx}{A:Around}{s:Shared}
theorem vg(r:KV g j)(C:vf g=true):∀{l:List (Key×V)} {I:List (Key×Value)},KV l I->vf l=true->whI A s j I (hitsD g l)
 |_,_,.nil,_=>.nil
 |_,_,@Paired.cons _ _ _ p q ps c h t,fa=>by
  obtain⟨k,v⟩:=p;obtain⟨d,u⟩:=q;obtain⟨f,i⟩:=h;obtain rfl:k=d:=f;have f1:eO v=true:=waU.mp fa (k,v) (wag ..);have f2:vf ps=true:=waU.mpr λz m=>waU.mp fa z (wac _ m);have n:=vg r C t f2;have a:=r.val k;unfold hitsD;rw[weZ];show whI A s j ((k,u)::c) ((match bE g k with |some y=>rp v y |none=>false)&&_)
  cases e:bE g k with
  |none=>
   rw[e]at a
   cases b:valueAt j k with
   |none=>exact .miss b
   |some y=>rw[b]at a;exact wb3 a
  |some y=>
   rw[e]at a
   cases b:valueAt j k with
   |none=>rw[b]at a;exact wb3 a
   |some o=>
    rw[b]at a;exact .hit b (z7 i a f1 (FA C e)) n
inductive TY(x y:V)(H:Hp)(Q:VK):Prop
 |mk (a b ka kb) (_:x=.ref a) (_:y=.ref b) (_:Rd H a (.dK ka)) (_:Rd H b (.dK kb)) (_:vf ka=true) (_:vf kb=true) (_:Q (.bl (TX ka kb)) H)
theorem Nz(g:X.A.units<wcF):nT X (wbm .Eq) TY:=by
 intro c s σ H x y v u Q I f i h;obtain⟨a,b,p,r,rfl,rfl,ha,j,fa,k,q⟩:=h;cases f;cases i;obtain⟨_,l,t,d,m⟩:=lP I.b9 ha;obtain⟨_,n,w,e,o⟩:=lP I.b9 j;refine PySem.W.keq_eq l n m o g (λ_=>vg e k d fa) ⟨.bl _,H,I,rfl,?_⟩;rw[<-d.length,<-e.length];exact q
end
end L2
namespace Bs
open PySem L2
noncomputable def rF(g:Str)(ws ss:List Str)(q:Str×Str):List (Str×Str):=(ch g).filterMap λc=>if bears ws (q.2++⟨#[c]⟩)=true then none else some (q.1++⟨#[c]⟩,lend ss (q.2++⟨#[c]⟩))
noncomputable def fU(g:Str)(ws ss:List Str)(qs:List (Str×Str)):List (Str×Str):=qs.flatMap (rF g ws ss)
noncomputable def vh(g:Str)(ws ss:List Str)(p:Str):Nat->List (Str×Str)
 |0=>[("",p)]
 |n+1=>fU g ws ss (vh g ws ss p n)
noncomputable def aV(g:Str)(ws ss ls:List Str)(n:Nat)(p:Str):List (Str×Str):=(vh g ws ss p n).filter λq=>decide (q.2∈ls)
theorem D0(g:Str)(ws ss:List Str)(q:Str×Str):(rF g ws ss q).length<=g.length:=by
 unfold rF;have:=wdW (λc=>if bears ws (q.2++⟨#[c]⟩)=true then none else some (q.1++(⟨#[c]⟩:Str),lend ss (q.2++(⟨#[c]⟩:Str)))) (ch g);rw[aW]at this;exact this
theorem sS(g:Str)(ws ss:List Str)(j:List (Str×Str)):(fU g ws ss j).length<=j.length*g.length:=vd _ _ _ λq _=>D0 g ws ss q
theorem pO(g:Str)(ws ss:List Str)(p:Str):∀n,(vh g ws ss p n).length<=g.length^n
 |0=>waa 1
 |n+1=>wal (sS g ws ss _) (by rw[Nat.pow_succ];exact weB _ (pO g ws ss p n))
theorem D1(j:("":Str)∈ss)(h:r∈rF g ws ss q):r.2∈ss/\r.1.length=q.1.length+1:=by
 unfold rF at h;obtain⟨c,_,e⟩:=wdL.mp h;split at e
 ·cases e
 ·cases e;exact⟨pN j _,len_app _ _⟩
theorem vi(j:("":Str)∈ss)(l:p∈ss):∀n,∀r∈vh g ws ss p n,r.2∈ss/\r.1.length=n
 |0,r,h=>by
  rw[waq.mp h];exact⟨l,rfl⟩
 |n+1,r,h=>by
  obtain⟨q,a,b⟩:=wcD.mp h;have:=D1 j b;have:=(vi j l n q a).2;exact⟨‹r.2∈ss/\_›.1,by omega⟩
theorem dU(h:r∈aV g ws ss ls n p):r.2∈ls:=of_decide_eq_true (wau.mp h).2
theorem gL(g:Str)(ws ss ls:List Str)(n:Nat)(p:Str):(aV g ws ss ls n p).length<=g.length^n:=wal (wb7 _ _) (pO g ws ss p n)
noncomputable def mH(q:Str×Str):List V:=[.str q.1,.str q.2]
noncomputable def pP(q:Str×Str):V×V:=(.str q.1,.str q.2)
theorem Eg(g:List (Str×Str)):(g.map pP).map jT=g.map mH:=by
 rw[wah];rfl
structure eP(H:Hp)(l:Addr)(rs:List Addr)(qs:List (Str×Str)):Prop where
 l:H l=some (.lst (rs.map V.ref))
 t:bc H rs (qs.map mH)
theorem eP.same{H g:Hp}{l:Addr}{rs:List Addr}{j:List (Str×Str)}(r:eP H l rs j)(s:a9 H g):eP g l rs j:=⟨s _ _ r.l,r.t.same s⟩
theorem eP.len{H:Hp}{l:Addr}{rs:List Addr}{g:List (Str×Str)}(r:eP H l rs g):rs.length=g.length:=by rw[r.t.1,wa0]
theorem eP.push{H:Hp}{l:Addr}{rs:List Addr}{g:List (Str×Str)}(R:eP H l rs g){r:Addr}(j:H r=none)(q:Str×Str):eP (upd (upd H r (.tup (mH q))) l (.lst (rs.map V.ref++[.ref r]))) l (rs++[r]) (g++[q]):=by
 have hl:(upd H r (.tup (mH q))) l=some (.lst (rs.map V.ref)):=a9.upd j _ _ R.l;refine⟨by rw[a7,wan];rfl,?_⟩;rw[wan];refine bc.keep ((R.t.same (a9.upd j)).snoc a7) λa b h=>?_;rw[ae (λz=>by rw[z,hl]at h;cases h)];exact h
theorem B1(ls:List Str)(g:List (Str×Str)):((g.map pP).filter λq=>pJ q.2 (ls.map V.str)).map jT=(g.filter λq=>decide (q.2∈ls)).map mH:=by
 induction g with
 |nil=>rfl
 |cons q g a=>
  have e:pJ (pP q).2 (ls.map V.str)=decide (q.2∈ls):=jN q.2 ls;rw[wax]
  by_cases h:q.2∈ls
  ·rw[wb6 (by rw[e];exact decide_eq_true h),wb6 (by exact decide_eq_true h),wax,wax,a];rfl
  ·rw[wbb (by rw[e];simpa using h),wbb (by simpa using h),a]
noncomputable def iJ(g:Str)(ws ss ls:List Str)(n:Nat)(f:Str->Int)(p:Str):Int:=((aV g ws ss ls n p).map λq=>f q.2).sum
def NA(m:List (Str×Int))(ls:List Str)(f:Str->Int):Prop:=∀p∈ls,sR m p=some (f p)
theorem vj(m:List (Str×Int)):vf (bI m)=true:=waU.mpr λa h=>by
 obtain⟨p,_,rfl⟩:=wab.mp h;rfl
theorem rG(h:k∉m.map (·.1))(v:Int):putK (bI m) (waj k:Key) (.int v)=bI (m++[(k,v)]):=by
 rw[fR _ (by rw[eU,ve h];rfl)];unfold bI;rw[wan];rfl
theorem ym{f:Str->Int}:∀{os:List Str},k∈os->sR (os.map λp=>(p,f p)) k=some (f k)
 |[],h=>nomatch h
 |j::os,h=>by
  show (if j=k then some (f j) else sR (os.map λp=>(p,f p)) k)=_
  by_cases e:j=k
  ·rw[if_pos e,e]
  ·rw[if_neg e];rcases waH.mp h with z |z
   ·grind
   ·exact ym z
end Bs
namespace Sx
open PySem L2 Bs
inductive TZ(C:Addr)(vs:List V)(H:Hp)(Q:VK)(eE:XK):Prop
 |mk (x p g ws ss ls) (_:vs=[.ref x,.str p]) (_:aY C H x g ws ss ls) (_:p∈ls) (_:Q .non H)
inductive Ii(C:Addr)(vs:List V)(H:Hp)(Q:VK)(eE:XK):Prop
 |mk (x l rs qs g ws ss ls) (_:vs=[.ref x,.ref l]) (_:aY C H x g ws ss ls) (_:eP H l rs qs) (_:(∀q∈qs,q.2∈ss/\q.1.length<=100)) (_:qs.length<=100) (_:g.length<=10) (_:∀(l':Addr) (RW:List Addr) (H':Hp),a9 H H'->H l'=none->eP H' l' RW (fU g ws ss qs)->Q (.ref l') H')
inductive Ij(C:Addr)(vs:List V)(H:Hp)(Q:VK)(eE:XK):Prop
 |mk (x:Addr) (p:Str) (n:Nat) (g:Str) (ws ss ls:List Str) (_:vs=[.ref x,.str p,.int (n:Int)]) (_:aY C H x g ws ss ls) (_:p∈ls) (_:g.length^n<=100) (_:n<=10) (_:2<=g.length) (_:g.length<=10) (_:∀(l':Addr) (RW:List Addr) (H':Hp),a9 H H'->H l'=none->eP H' l' RW (aV g ws ss ls n p)->Q (.ref l') H')
inductive B4(C:Addr)(vs:List V)(H:Hp)(Q:VK)(eE:XK):Prop
 |mk (x:Addr) (n:Nat) (g:Str) (ws ss ls:List Str) (_:vs=[.ref x,.int (n:Int)]) (_:aY C H x g ws ss ls) (_:g.length^n<=100) (_:n<=10) (_:2<=g.length) (_:g.length<=10) (_:ss.length<=900) (_:∀(d:Addr) (ev:List (Str×Addr)) (H':Hp),a9 H H'->H d=none->H' d=some (.dK (cD ev))->ev.map (·.1)=ls->(∀m∈ev,H' m.2=some (.lst (((aV g ws ss ls n m.1).map (·.2)).map V.str)))->(∀m∈ev,H m.2=none)->Q (.ref d) H')
inductive Ik(K:wa2)(vs:List V)(H:Hp)(Q:VK)(eE:XK):Prop
 |mk (l d es m f) (_:vs=[.ref l,.ref d]) (_:aL K H l (es.map V.str)) (_:es.length<=1000) (_:Rd H d (.dK (bI m))) (_:NA m es f) (_:∀H',a9 H H'->Q (.int ((es.map f).sum)) H')
end Sx
namespace Bs
open PySem L2 AC
section
variable{g:Str}{ws ss ls:List Str}
theorem D2{α:Type}{a b:α->Int}:∀{l:List α},(∀x∈l,a x<=b x)->(l.map a).sum<=(l.map b).sum
 |[],_=>weR _
 |x::l,h=>by
  rw[wax,wax,wbt,wbt];exact Int.add_le_add (h x (wag ..)) (D2 λy c=>h y (wac _ c))
theorem vk{α:Type}{a:α->Int}{l:List α}(h:∀x∈l,0<=a x):0<=(l.map a).sum:=by
 have:=D2 (a:=λ_=>(0:Int)) (b:=a) h
 have e:∀l:List α,(l.map λ_=>(0:Int)).sum=0:=by
  intro l
  induction l with
  |nil=>rfl
  |cons x l c=>grind
 rw[e]at this;exact this
theorem NF(n:Nat):∀p,0<=iM g ws ss n p:=by
 induction n with
 |zero=>intro p;show (0:Int)<=1;decide
 |succ n a=>intro p;exact vk λe _=>a e
theorem oY(j:ss.Perm (bS ws "" ws))(hw:∀w∈ws,1<=w.length)(h:p∈ss):bears ws p=false/\lend ss p=p:=by
 have a:("":Str)∈ss:=j.mem_iff.mpr (cy ws);constructor
 ·rcases mem_keys.mp (j.mem_iff.mp h) with z |z
  ·have:p="":=cR (by rw[z];exact(uS rfl).symm);rw[this];exact Fq hw
  ·exact(eh ws p).mpr z.2
 ·refine cR ?_;rw[kK a];have b:Qm ss (ch p)=true:=kJ.mpr h;exact HW (jO _) (jP b (wfv _))
def GB(g:Str)(ws ss ls:List Str)(many:Int)(n:Nat)(f:Str->Int):Prop:=∀p∈ls,many*f p<=iJ g ws ss ls n f p
noncomputable def cI(f:Str->Int)(ls:List Str):List (Str×Int):=ls.map λp=>(p,f p)
theorem rH(f:Str->Int)(ls:List Str):(cI f ls).map (·.1)=ls:=by
 unfold cI;rw[wah];exact List.map_id _
theorem kR(f:Str->Int)(ls:List Str):NA (cI f ls) ls f:=λp a=>ym a
theorem Mg{f h:Str->Int}:TX (bI (cI f ls)) (bI (cI h ls))=true↔∀p∈ls,f p=h p:=by
 unfold TX;rw[jS,jS];have e:(cI f ls).length=(cI h ls).length:=by unfold cI;rw[wa0,wa0]
 rw[e,beq_self_eq_true,wec];unfold hitsD;rw[waU];constructor
 ·intro q p a;have:=q ((waj p:Key),.int (f p)) (wab.mpr ⟨(p,f p),wab.mpr ⟨p,a,rfl⟩,rfl⟩);have this:(match bE (bI (cI h ls)) (waj p:Key) with |some y=>rp (.int (f p)) y |none=>false)=true:=this;rw[eU,kR h ls p a]at this;have this:rp (.int (f p)) (.int (h p))=true:=this;unfold rp at this;simpa using this
 ·intro q d b;obtain⟨z,c,rfl⟩:=wab.mp b;obtain⟨p,a,rfl⟩:=wab.mp c;show (match bE (bI (cI h ls)) (waj p:Key) with |some y=>rp (.int (f p)) y |none=>false)=true;rw[eU,kR h ls p a];show rp (.int (f p)) (.int (h p))=true;rw[q p a];unfold rp;simp
noncomputable def mI(g:Str)(ws ss ls:List Str)(many:Int)(n:Nat)(f:Str->Int)(p:Str):Int:=if iJ g ws ss ls n f p/many<f p then iJ g ws ss ls n f p/many else f p
theorem Il{n:Nat}{f:Str->Int}(h:∀p∈ls,0<=f p)(p:Str):0<=iJ g ws ss ls n f p:=vk λq a=>h _ (dU a)
theorem D3{f h:Str->Int}(e:∀p∈ls,f p<=h p)(p:Str):iJ g ws ss ls n f p<=iJ g ws ss ls n h p:=D2 λq a=>e _ (dU a)
theorem Im(many:Int)(n:Nat)(f:Str->Int)(p:Str):mI g ws ss ls many n f p<=f p:=by
 unfold mI;split<;>omega
theorem Io{f:Str->Int}(j:2<=many)(h:∀p∈ls,0<=f p):∀p∈ls,0<=mI g ws ss ls many n f p:=λp a=>by
 have b:=whJ (Il (g:=g) (ws:=ws) (ss:=ss) (n:=n) h p) (show 0<=many by omega);have c:=h p a;unfold mI;split<;>omega
theorem FC{f h:Str->Int}(l:2<=many)(j:GB g ws ss ls many n f)(e:∀p∈ls,f p<=h p):∀p∈ls,f p<=mI g ws ss ls many n h p:=λp a=>by
 have b:=j p a;have c:=D3 (g:=g) (ws:=ws) (ss:=ss) (n:=n) e p;have d:f p<=iJ g ws ss ls n h p/many:=(wg8 (by omega)).mpr (by grind);have i:=e p a;unfold mI;split<;>omega
theorem KQ{f:Str->Int}(j:2<=many)(e:∀p∈ls,mI g ws ss ls many n f p=f p):GB g ws ss ls many n f:=λp a=>by
 have h:=e p a;unfold mI at h
 have b:f p<=iJ g ws ss ls n f p/many:=by
  grind
 have:=(wg8 (show 0<many by omega)).mp b;rw[wdn]at this;exact this
theorem NI{f:Str->Int}(j:2<=many)(h0:∀p∈ls,0<=f p)(e:¬∀p∈ls,mI g ws ss ls many n f p=f p):(ls.map λp=>(mI g ws ss ls many n f p).toNat).sum<(ls.map λp=>(f p).toNat).sum:=by
 have b:∀p∈ls,mI g ws ss ls many n f p<=f p:=λp _=>Im many n f p;have c:=Io (g:=g) (ws:=ws) (ss:=ss) (n:=n) j h0;generalize mI g ws ss ls many n f=h at e b c
 have key:∀l:List Str,(∀p∈l,h p<=f p/\0<=h p)->(l.map λp=>(h p).toNat).sum<=(l.map λp=>(f p).toNat).sum/\((∃p∈l,h p≠f p)->(l.map λp=>(h p).toNat).sum<(l.map λp=>(f p).toNat).sum):=by
  intro l
  induction l with
  |nil=>intro _;exact⟨waa _,λ⟨p,a,_⟩=>nomatch a⟩
  |cons x l i=>
   intro hl;obtain⟨m,k⟩:=i λp a=>hl p (wac _ a);obtain⟨o,r⟩:=hl x (wag ..);rw[wax,wax,wbt,wbt];refine⟨by omega,λ⟨p,a,d⟩=>?_⟩;rcases waH.mp a with z |z
   ·rw[z]at d;omega
   ·have:=k ⟨p,z,d⟩;omega
 refine(key ls λp a=>⟨b p a,c p a⟩).2 ?_;apply wcm;intro q;exact e λp a=>wcm λz=>q ⟨p,a,z⟩
end
end Bs
namespace Sx
open PySem L2 Bs
inductive Ip(C:Addr)(vs:List V)(H:Hp)(Q:VK)(eE:XK):Prop
 |mk (x p n g ws ss ls) (_:vs=[.ref x,.str p,.int n]) (_:aY C H x g ws ss ls) (_:p∈ss) (_:g.length<=10) (_:ss.length<=900) (_:0<=n) (_:n<=100000) (_:∀H',a9 H H'->Q (.int (iM g ws ss n.toNat p)) H')
inductive FD(vs:List V)(H:Hp)(Q:VK)(eE:XK):Prop
 |mk (de dw many n o ev f g ws ss ls) (_:vs=[.ref de,.int many,.ref dw]) (_:H de=some (.frz o (.dK (cD ev)))) (_:ev.map (·.1)=ls) (_:(∀m∈ev,H m.2=some (.lst (((aV g ws ss ls n m.1).map (·.2)).map V.str)))) (_:g.length^n<=100) (_:ls.Nodup) (_:ls.length<=900) (_:2<=many) (_:many<=8) (_:Rd H dw (.dK (bI (cI f ls)))) (_:∀(d:Addr) (H':Hp),a9 H H'->H d=none->H' d=some (.dK (bI (cI (mI g ws ss ls many n f) ls)))->Q (.ref d) H')
structure o9(g:Str)(ws ss ls:List Str)(many:Int)(n:Nat)(most:Int)(f:Str->Int):Prop where
 nn:∀p∈ls,0<=f p
 le:∀p∈ls,f p<=most
 fit:GB g ws ss ls many n f
 top:∀h:Str->Int,(∀p∈ls,h p<=most)->GB g ws ss ls many n h->∀p∈ls,h p<=f p
inductive KR(C:Addr)(vs:List V)(H:Hp)(Q:VK)(eE:XK):Prop
 |mk (x:Addr) (many:Int) (n:Nat) (most:Int) (g:Str) (ws ss ls:List Str) (_:vs=[.ref x,.int many,.int (n:Int),.int most]) (_:aY C H x g ws ss ls) (_:2<=g.length) (_:g.length<=10) (_:ss.length<=900) (_:gK g.length many n) (_:0<=most) (_:∀(d:Addr) (f:Str->Int) (H':Hp),a9 H H'->H d=none->H' d=some (.dK (bI (cI f ls)))->o9 g ws ss ls many n most f->Q (.ref d) H')
set_option genInjectivity true in
inductive RX(g:Str)(ws ss:List Str)(many:Int)(n:Nat)(most:Int):V->Prop where
 |some (k:Nat) (a:1<=k) (b:(k:Int)<=most) (c:iM g ws ss (k*n) "" < many^k) (d:∀j:Nat,1<=j->j<k->¬iM g ws ss (j*n) "" < many^j):RX g ws ss many n most (.int (k:Nat))
 |none (a:∀j:Nat,1<=j->(j:Int)<=most->¬iM g ws ss (j*n) "" < many^j):RX g ws ss many n most .non
inductive FE(C:Addr)(vs:List V)(H:Hp)(Q:VK)(eE:XK):Prop
 |mk (x many wide most g ws ss ls) (_:vs=[.ref x,.int many,.int wide,.int most]) (_:aY C H x g ws ss ls) (_:g.length<=10) (_:ss.length<=900) (_:gK g.length many wide) (_:0<=most) (_:most<=100) (_:∀v H',a9 H H'->RX g ws ss many wide.toNat most v->Q v H')
end Sx
namespace Bs
open PySem L2
end Bs
namespace L2
open PySem PySem.Spec PyProof.Rows
section
variable{X:Cx}
theorem D4:eN X (.type "dict") (λxs H Q=>∃d kvs,xs=[.ref d]/\Rd H d (.dK kvs)/\∀l,H l=none->Q (.ref l) (upd H l (.dK kvs))):=by
 intro a s σ H xs n Q I r h;obtain⟨d,kvs,rfl,hd,q⟩:=h;obtain⟨u,rfl,f⟩:=vals1 r;cases f;obtain⟨c,lo,g,rel,i⟩:=lP I.b9 hd;refine kt_call_dict (knd:=bz X.prog X.w) lo i (by rw[<-rel.length];exact c) λp j k=>?_;have m:=(uN (P:=X.prog) (w:=X.w) (H:=H) s.heap I.big);refine⟨.ref s.heap.objs.size,upd H s.heap.objs.size (.dK kvs),I.laid (t':=s.toks) (λb o e=>?_) (waa _) ⟨c,m.2.1,g,rel,j⟩,rfl,q _ (I.b9.fresh (waa _))⟩;exact k.extBut b o (war (waf e)) (wa9 _ e)
end
end L2
namespace Bs
open PySem L2
end Bs
namespace Sx
open PySem L2 Bs
end Sx
namespace Bs
open PySem L2
section
variable{g:Str}{ws ss ls:List Str}
end
end Bs
namespace Sx
open PySem L2 Bs
section
variable{g:Str}{ws ss ls:List Str}{many Wm most Wn:Int}{n:Nat}{f f':Str->Int}
end
end Sx
namespace Bs
open PySem L2 AC
section
variable{g:Str}{ws ss:List Str}
theorem kT(r:Str):r++("":Str)=r:=cR (by rw[aZ,uS (z:="") rfl,waZ])
theorem uv(r:Str):("":Str)++r=r:=cR (by rw[aZ,uS (z:="") rfl,wdH])
theorem eV(a b c:Str):a++b++c=a++(b++c):=by grind [cR,aZ,waT]
noncomputable def NK(g:Str):Nat->List Str
 |0=>[""]
 |n+1=>(ch g).flatMap λc=>(NK g n).map λr=>(⟨#[c]⟩:Str)++r
noncomputable def JT(g:Str):Nat->List Str
 |0=>[""]
 |n+1=>(JT g n).flatMap λr=>(ch g).map λc=>r++(⟨#[c]⟩:Str)
theorem uw:∀n,JT g n=NK g n
 |0=>rfl
 |1=>by
  show ([""]:List Str).flatMap (λr=>(ch g).map λc=>r++(⟨#[c]⟩:Str))=(ch g).flatMap λc=>([""]:List Str).map λr=>(⟨#[c]⟩:Str)++r;rw[List.flatMap_singleton]
  have:∀a:List Nat,(a.map λc=>("":Str)++(⟨#[c]⟩:Str))=a.flatMap λc=>([""]:List Str).map λr=>(⟨#[c]⟩:Str)++r:=by
   intro a
   induction a with
   |nil=>rfl
   |cons c a b=>
    grind [uv,kT]
  exact this _
 |n+2=>by
  show (JT g (n+1)).flatMap (λr=>(ch g).map λc=>r++(⟨#[c]⟩:Str))=(ch g).flatMap λc=>(NK g (n+1)).map λr=>(⟨#[c]⟩:Str)++r;rw[uw (n+1)];show ((ch g).flatMap λc=>(NK g n).map λr=>(⟨#[c]⟩:Str)++r).flatMap (λr=>(ch g).map λc=>r++(⟨#[c]⟩:Str))=_;rw[List.flatMap_assoc];congr 1;funext c;rw[<-uw (n+1)];show _=((JT g n).flatMap λr=>(ch g).map λc=>r++(⟨#[c]⟩:Str)).map λr=>(⟨#[c]⟩:Str)++r;rw[uw n,List.map_flatMap,List.flatMap_map];congr 1;funext r;rw[wah];refine wb2 λd _=>?_;exact eV _ _ _
theorem yn(nd:(ch g).Nodup):∀n,(NK g n).Nodup
 |0=>wbF.mpr ⟨λz=>(nomatch z),wdo⟩
 |n+1=>by
  show ((ch g).flatMap λc=>(NK g n).map λr=>(⟨#[c]⟩:Str)++r).Nodup;have l:=yn nd n
  have key:∀f:List Nat,f.Nodup->(f.flatMap λc=>(NK g n).map λr=>(⟨#[c]⟩:Str)++r).Nodup:=by
   intro f
   induction f with
   |nil=>intro _;exact wdo
   |cons c f i=>
    intro hn;rw[wbF]at hn;rw[we5];refine wfa.mpr ⟨?_,i hn.2,λa ha b m z=>?_⟩
    ·refine List.Pairwise.map _ ?_ l;intro a b j z;have:=congrArg ch z;rw[aZ,aZ]at this;exact j (cR (List.append_cancel_left this))
    ·obtain⟨r,_,rfl⟩:=wab.mp ha;obtain⟨d,hd,k⟩:=wcD.mp m;obtain⟨q,_,rfl⟩:=wab.mp k;have:=congrArg ch z;rw[aZ,aZ,Hy,Hy]at this
     have e:c=d:=by
      have h:=this;rw[wgm,wgm]at h;exact(wf2 h).1
     exact hn.1 (by rw[e];exact hd)
  exact key _ nd
end
end Bs
namespace L2
open PySem PySem.Spec PyProof.Rows
section
variable{X:Cx}
theorem KS:RG X .Add (λx y H Q=>∃i j,x=.str i/\y=.str j/\i.length+j.length<=sizeLine/\Q (.str (i++j)) H):=λa s σ H x y v u Q I b c h=>Ah a s σ H x y v u Q I b c h
end
end L2
namespace Bs
open PySem L2
end Bs
namespace Sx
open PySem L2 Bs
end Sx
namespace L2
open PySem PySem.Spec PyProof.Rows
section
variable{X:Cx}
def Qp(i j:Int):Prop:=0<j/\j.natAbs.log2<9000
theorem vm:nT X (binaryOp .FloorDiv) (rI Qp λi j=>.int (i/j)):=RJ λi j _ _ _ _ _ hc q=>by
 have a:(0:Int)<j:=hc.1;exact floordiv_int (by omega) (by grind) (.inl (PyProof.noPylong_of_log2 hc.2))
end
theorem B5(xs:List V)(k:Nat):mw xs (some (k:Int)) none=xs.drop k:=by
 unfold mw HT.Al;simp only;split
 ·omega
 ·by_cases h:k<=xs.length
  ·rw[show min ((k:Int)).toNat xs.length=k by omega];exact wbf (by rw[wbp];exact waa _)
  ·rw[show min ((k:Int)).toNat xs.length=xs.length by omega,wbC,wdp,wby (by omega)]
theorem KU(xs:List V){i j:Nat}(h:i<=j):mw xs (some (i:Int)) (some (j:Int))=(xs.drop i).take (j-i):=by
 unfold mw HT.Al;simp only;rw[if_neg (by omega),if_neg (by omega)]
 by_cases a:i<=xs.length
 ·by_cases b:j<=xs.length
  ·rw[show min ((i:Int)).toNat xs.length=i by omega,show min ((j:Int)).toNat xs.length=j by omega]
  ·rw[show min ((i:Int)).toNat xs.length=i by omega,show min ((j:Int)).toNat xs.length=xs.length by omega];rw[wbf (by rw[wbp];exact waa _),wbf (by rw[wbp];omega)]
 ·rw[show min ((i:Int)).toNat xs.length=xs.length by omega,wby (waa _),wby (by omega),List.take_nil,List.take_nil]
end L2
namespace Sx
open PySem L2 Bs
inductive Iq(vs:List V)(H:Hp)(Q:VK)(eE:XK):Prop
 |mk (c:Int) (m:Nat) (_:vs=[.int c,.int (m:Int)]) (_:m<=1000) (_:∀(l:Addr) (xs:List Int) (H':Hp),a9 H H'->H l=none->H' l=some (.lst (xs.map V.int))->xs.length=m->Q (.ref l) H')
inductive KW(K:wa2)(vs:List V)(H:Hp)(Q:VK)(eE:XK):Prop
 |mk (a:Addr) (ns:List Int) (_:vs=[.ref a]) (_:aL K H a (ns.map V.int)) (_:∀(p lw:Addr) (g:Str) (ws:List Str) (H':Hp),a9 H H'->H p=none->H lw=none->H' p=some (.tup [.str g,.ref lw])->H' lw=some (.lst (ws.map V.str))->AA g->ws.length<=6->(∀w∈ws,zh g w)->Q (.ref p) H')
inductive KY(K:wa2)(vs:List V)(H:Hp)(Q:VK)(eE:XK):Prop
 |mk (a:Addr) (ns:List Int) (g:Str) (_:vs=[.ref a,.str g]) (_:aL K H a (ns.map V.int)) (_:2<=g.length) (_:g.length<=4) (_:∀(p:Addr) (many wide:Int) (H':Hp),a9 H H'->H p=none->H' p=some (.tup [.int many,.int wide])->gK g.length many wide->Q (.ref p) H')
end Sx
namespace L2
open PySem PySem.Spec PyProof.Rows
noncomputable def KZ(lo c:Int)(n:Nat):It:=⟨λi _=>i<n,λi H x H'=>H'=H/\x=.int (lo+(i:Nat)*c),λi _=>n<=i⟩
theorem B6(lo c:Int)(n:Nat):ml (KZ lo c n) (λ_=>True) ((waD n).map λi=>V.int (lo+(i:Nat)*c)):=by
 refine⟨λi H _ hi=>(show i<n by simpa using hi),λi H x b _ hi y=>⟨y.1,?_⟩,λH _=>?_⟩
 ·have a:i<n:=by simpa using hi
  rw[y.2];simp[a]
 ·show n<=_;simp
theorem B8{P:wat}{w:World}{K:wa2}{C:Expr}(it:Addr)(lo c:Int)(n:Nat):Turn P w K C (KZ lo c n) [it] it (λi h=>wfV h it (lo+(i:Nat)*c) ((n:Int)-(i:Nat)) c) where
 mem:=by simp
 obj:=λi h st b d=>by
  have e:b=it:=by simpa using d
  subst e
  exact⟨_,st,λv z=>by
   have A:we6 _=wfN v:=z
   cases A⟩
 keep:=λi h g st k=>k it (by simp) _ st
 item:=by
  intro X l hw m hc i a s σ H E I j st p;subst l hw m;obtain⟨q,f1,f2,r,u,x⟩:=j it (by simp);have B:=Walks.range (prog:=X.prog) (w:=X.w) (I.ok.hd hc) it lo c n;refine B.item i s _ _ p st λv g y D f G=>?_;obtain⟨t,rfl⟩:=D;have J:Inv X a σ H {s with heap:=g,toks:=y}:=I.turned (λb o d e=>G b o (by simpa using d) e) q f1 r u x;exact⟨_,rfl,xP (s:={s with heap:=g,toks:=y}) (n:="range_iterator") f rfl rfl (by decide) ⟨.int (lo+(i:Nat)*c),H,J,⟨t,rfl⟩,⟨rfl,rfl⟩,f,λb d=>(j b d).1⟩⟩
 done:=by
   intro X l hw m hc i a s σ H E I j st p;subst l hw m;obtain⟨q,f1,f2,r,u,x⟩:=j it (by simp);exact wfW (I.ok.hd hc) st (by have:n<=i:=p;omega) λg L=>⟨rfl,I.turned (t':=s.toks) (λb o d e=>L b o d e) q f1 r u x⟩
 self:=λ_ _ _ _ _ st h=>wfX st h
section
variable{X:Cx}{tg:Expr}
end
end L2
namespace Bs
open PySem L2
section
variable{ws ss:List Str}
end
end Bs
namespace Sx
open PySem L2 Bs
end Sx
namespace L2
open PySem PySem.Spec PyProof.Rows
section
variable{M:Model}{A:Around}{E:Value->Shared->Prop}{e C CB:Addr}{nm q:Str}{N:Addr}{bs:List Value}{hdct:Bool}{sn:List Str}{sub:List Value}{ab:Bool}{col:Option Bool}{dd:Option Addr}{k0 k1 k2 k3 k5:Option Value}
theorem sT{h:Heap}{g:Array wds}{d:Drawn}{t:Nat}{os:wbS}{p:Obj}{Q:Bool->Shared->Prop}(l:h.get? C=some (wbs nm q C N bs (oW CB) hdct sn sub ab col dd k0 k1 k2 k3 k5 "ValueError.__new__"))
 (r:h.get? e=some p) (j:p.cls=.ref C) (I:Q true ⟨h,g,d,t,os⟩) :
 wpAny M A (wgz (.ref e) (.ref C)) Q E ⟨h,g,d,t,os⟩:=by
 have a:(wam C::oW CB).contains (.type "BaseException")=true:=by grind
 have b:(wam C::oW CB).contains (.ref C)=true:=by grind
 have f:=tc_notTuple;unfold wgz
 repeat (first |(with_reducible refine wbd r ?_;rw[j]) |with_reducible refine wbd l ?_ |(with_reducible refine wbP l ?_;rw[b]) |(with_reducible refine wbP l ?_;rw[a]) |wp_step)
 exact I
end
section
variable{X:Cx}{CB C:Addr}{Qq x nm:Str}{b:Bool}{body:List Stmt}{tb:Md}{i jj:Nat}{p1 p2 p3 p4 Nt pos:Pos}
theorem Ir{X:Cx}{K:wa2}{o e:Expr}{l:List Expr}{to:TE}{t:TA}{name:Str}{apos g:Pos}{T id:String}{r:V->List V->Hp->VK->Prop}(hK:X.K=K)(pa:wgv T)(slot:Slot T name id)(U:typeOf (.builtin id)=pure (.type "method_descriptor"))(hm:M4 X id r)(ho:PE X o to)(ha:PA X (e::l) t)
 (p:wcw o name X.env (eval o X.env)=eval o X.env:=by rfl)
 (J:((backTo g (starEach (e::l) X.env)).all (λx=>!x.1)&&(backToKw g (wdC [] X.env)).all (λx=>x.1.isSome)
   && decide ((e::l).length+([]:List wek).length+(if ([]:List wek).isEmpty then 0 else 1)<30))=true:=by rfl)
 (I:(apos.endLine==g.line)=true:=by rfl) (hs:starEach (e::l) X.env=(false,eval e X.env)::starEach l X.env:=by rfl) (j:(backTo g (starEach l X.env)).any (·.1)=false:=by rfl) :
 PE X (.Call (.Attribute o name apos) (e::l) [] g) (VN K T r to t):=by
 subst hK;exact iZ pa slot U hm ho ha p J I hs j
end
end L2
namespace Bs
open PySem L2
section
variable{g:Str}{ws ss:List Str}
end
end Bs
namespace Sx
open PySem L2 Bs
end Sx
namespace L2
open PySem PySem.Spec PyProof.Rows
section
variable{prog:wat}{w:World}{A:Around}{R:wd9->Shared->Prop}{s:Shared}{d it l t:Addr}{i:Nat}{items:Array Value}
end
section
variable{prog:wat}{w:World}{K:Type}[DecidableEq K]{knd:KeyKind prog w K}{A:Around}{E:Value->Shared->Prop}{s:Shared}{l:Addr}{o:Obj}{items:Array Value}{n:Nat}
end
section
variable{X:Cx}{A:Around}{pins:List (Addr×Obj)}{σ:St}{H:Hp}{d it l:Addr}{ts:List Addr}{ps:List (Key×V)}{R:wd9->Shared->Prop}
end
end L2
namespace Bs
open PySem L2
end Bs
namespace Sx
open PySem L2 Bs
end Sx
namespace L2
open PySem PySem.Spec PyProof.Rows
section
variable{X:Cx}
end
end L2
namespace Bs
open PySem L2
section
variable{g:Str}{ws ss ss':List Str}
end
noncomputable def isInt:V->Bool
 |.int _=>true
 |_=>false
end Bs
namespace Sx
open PySem L2 Bs
end Sx
namespace L2
open PySem PySem.Spec PyProof.Rows
noncomputable def ux:List Expr->Option (List Int)
 |[]=>some []
 |.Constant (.int i) _ _::es=>(ux es).map (i :: ·)
 |_::_=>none
def Mh:List Int->TA
 |[]=>GY
 |i::is=>Aj (tC (.int i)) (Mh is)
theorem pQ{X:Cx}:∀{g:List Expr} {is:List Int},ux g=some is->PA X g (Mh is)
 |[],is,h=>by
  obtain rfl:[]=is:=wae h;exact a8
 |e::g,is,h=>by
  unfold ux at h;split at h
  ·rename_i heq;exact nomatch heq
  ·rename_i i j p a heq;cases heq
   cases q:ux g with
   |none=>rw[q]at h;cases h
   |some b=>
    rw[q]at h;obtain rfl:=wae h;exact a5 ao (pQ q)
  ·cases h
def vn:List (Int×Int)->TA
 |[]=>GY
 |p::ps=>Aj (Pw (Aj (tC (.int p.1)) (Aj (tC (.int p.2)) GY))) (vn ps)
theorem L1{X:Cx}{ps:List (Int×Int)}(h:PA X g (vn ps)):PA X (.Tuple [.Constant (.int i) l p,.Constant (.int j) r t] C pt::g) (vn ((i,j)::ps)):=a5 (eC (a5 ao (a5 ao a8))) h
theorem Eh{σ:St}:∀{ps:List (Int×Int)} {H Q},(∀g j,a9 H g->j.length=ps.length->(∀(i:Nat) p,ps[i]?=some p->∃q,j[i]?=some (.ref q)/\g q=some (.tup [.int p.1,.int p.2]))->Q j g)->vn ps σ H Q
 |[],H,_,k=>k H [] (a9.refl _) rfl λ_ _ h=>nomatch h
 |_::_,_,_,k=>⟨(by show 2<=sizeLine;decide),λq f=>Eh λg j s e a=>k g (.ref q::j) ((a9.upd f).trans s) (congrArg (· + 1) e) λ
  |0,_,h=>⟨q,rfl,by cases h;exact s _ _ a7⟩
  |i+1,p,h=>a i p h⟩
set_option genInjectivity true in
inductive kU where
 |at (v:V)
 |tup (ds:List kU)
 |lst (ds:List kU)
noncomputable def NM:V->Bool
 |.non=>true
 |.bl _=>true
 |.int _=>true
 |.str _=>true
 |_=>false
mutual
def bK(K:wa2)(H:Hp):kU->V->Prop
 |.at x,v=>v=x/\NM x=true
 |.tup ds,v=>∃a xs,v=.ref a/\H a=some (.tup xs)/\bx K H ds xs
 |.lst ds,v=>∃a xs,v=.ref a/\Rd H a (.lst xs)/\bx K H ds xs
def bx(K:wa2)(H:Hp):List kU->List V->Prop
 |[],xs=>xs=[]
 |d::ds,xs=>∃v vs,xs=v::vs/\bK K H d v/\bx K H ds vs
end
section
variable{K:wa2}{H:Hp}
end
section
variable{X:Cx}{pins:List (Addr×Obj)}{σ:St}{H:Hp}{s:Shared}
end
end L2
namespace L2
open PySem PySem.Spec PyProof.Rows Sx
section
variable{X:Cx}
end
end L2
namespace Bs
open PySem L2 AC
section
variable{g:Str}{ws ss ls:List Str}{p:Str}
noncomputable def kW(ws ss:List Str)(p:Str)(r:Str):Option (Str×Str):=if bears ws (p++r)=true then none else some (r,lend ss (p++r))
theorem Iu(h:bears ws (p++a)=true):kW ws ss p (a++c)=none:=by
 unfold kW;rw[if_pos]
 cases e:bears ws (p++(a++c)) with
 |true=>rfl
 |false=>
  have:=jQ (a:=p++a) (b:=p++(a++c)) (by rw[<-eV,aZ (p++a) c];exact⟨[],ch c,by simp⟩) e;rw[h]at this;cases this
theorem vo{α β:Type}{f:α->Option β}:∀{l:List α},(∀a∈l,f a=none)->l.filterMap f=[]:=by intro l;induction l<;>grind [wag,wac]
theorem yo(l:ss.Perm (bS ws "" ws))(hw:∀w∈ws,1<=w.length)(h:bears ws (p++r)=false):∀j:List Nat,(j.filterMap λc=>if bears ws (lend ss (p++r)++⟨#[c]⟩)=true then none else some (r++(⟨#[c]⟩:Str),lend ss (lend ss (p++r)++(⟨#[c]⟩:Str))))=(j.map λc=>r++(⟨#[c]⟩:Str)).filterMap (kW ws ss p)
 |[]=>rfl
 |c::j=>by
  rw[wax,wbi,wbi,yo l hw h j]
  have e:(if bears ws (lend ss (p++r)++⟨#[c]⟩)=true then none else some (r++(⟨#[c]⟩:Str),lend ss (lend ss (p++r)++(⟨#[c]⟩:Str))))=kW ws ss p (r++⟨#[c]⟩):=by
   unfold kW;rw[kL l h hw,nX l h,eV]
  rw[e]
theorem B9(j:ss.Perm (bS ws "" ws))(hw:∀w∈ws,1<=w.length):∀L:List Str,fU g ws ss (L.filterMap (kW ws ss p))=(L.flatMap λr=>(ch g).map λc=>r++(⟨#[c]⟩:Str)).filterMap (kW ws ss p)
 |[]=>rfl
 |r::L=>by
  rw[we5,wgn,<-B9 j hw L,wbi]
  cases h:bears ws (p++r) with
  |true=>
   have e:kW ws ss p r=none:=by unfold kW;rw[if_pos h]
   rw[e,vo (l:=(ch g).map λc=>r++(⟨#[c]⟩:Str)) λa ha=>by grind [Iu]];rfl
  |false=>
   have e:kW ws ss p r=some (r,lend ss (p++r)):=by unfold kW;rw[if_neg (by rw[h];exact wap)]
   rw[e,<-yo j hw h];exact we5 ..
theorem vp(l:ss.Perm (bS ws "" ws))(hw:∀w∈ws,1<=w.length)(j:p∈ss):∀n,vh g ws ss p n=(JT g n).filterMap (kW ws ss p)
 |0=>by
  obtain⟨b,a⟩:=oY l hw j;show [(("":Str),p)]=[("":Str)].filterMap (kW ws ss p);have e:kW ws ss p ""=some (("":Str),p):=by unfold kW;rw[kT,a,if_neg (by grind)]
  rw[wbi,e];rfl
 |n+1=>by
  show fU g ws ss (vh g ws ss p n)=((JT g n).flatMap λr=>(ch g).map λc=>r++(⟨#[c]⟩:Str)).filterMap (kW ws ss p);rw[vp l hw j n,B9 l hw]
noncomputable def L4(ws ss ls:List Str)(p:Str)(r:Str):Option (Str×Str):=if bears ws (p++r)=true then none else if lend ss (p++r)∈ls then some (r,lend ss (p++r)) else none
theorem D5(l:ss.Perm (bS ws "" ws))(hw:∀w∈ws,1<=w.length)(j:p∈ss)(n:Nat):(JT g n).filterMap (L4 ws ss ls p)=aV g ws ss ls n p:=by
 unfold aV;rw[vp l hw j]
 have:∀L:List Str,L.filterMap (L4 ws ss ls p)=(L.filterMap (kW ws ss p)).filter λq=>decide (q.2∈ls):=by
  intro L
  induction L with
  |nil=>rfl
  |cons r L a=>
   rw[wbi,wbi,a];unfold L4 kW
   cases h:bears ws (p++r) with
   |true=>rfl
   |false=>
    rw[if_neg wap,if_neg wap]
    by_cases hl:lend ss (p++r)∈ls
    ·rw[if_pos hl,wb6 (by exact decide_eq_true hl)]
    ·rw[if_neg hl,wbb (by simpa using hl)]
 exact this _
end
end Bs
namespace L2
open PySem Bs
noncomputable def Mi(q:Str×Str):kU:=.tup [.at (.str q.1),.at (.str q.2)]
theorem yp:∀(rs:List Addr) (g:List (Str×Str)),bc H rs (g.map mH)->bx K H (g.map Mi) (rs.map V.ref)
 |[],[],_=>rfl
 |[],_::_,h=>by have:=h.1;simp at this
 |_::_,[],h=>by have:=h.1;simp at this
 |r::rs,q::g,h=>by
  refine⟨.ref r,rs.map V.ref,rfl,⟨r,mH q,rfl,h.2 0 r (mH q) rfl rfl,?_⟩,yp rs g ⟨by have:=h.1;simpa using this,λi a b c d=>h.2 (i+1) a b c d⟩⟩;exact⟨.str q.1,[.str q.2],rfl,⟨rfl,rfl⟩,⟨.str q.2,[],rfl,⟨rfl,rfl⟩,rfl⟩⟩
theorem U0.Bs.eP.rds(R:eP H l rs g):bK K H (.lst (g.map Mi)) (.ref l):=⟨l,_,rfl,.inl R.l,yp rs g R.t⟩
end L2
namespace Sx
open PySem L2 Bs
end Sx
namespace L2
open PySem PySem.Spec PyProof.Rows Sx
section
variable{X:Cx}
end
theorem bx.rJ{K:wa2}{H:Hp}:∀(g:List kU) (ys:List V),g.length=ys.length->(∀(i:Nat) (d:kU) (y:V),g[i]?=some d->ys[i]?=some y->bK K H d y)->bx K H g ys
 |[],[],_,_=>rfl
 |[],_::_,h,_=>by simp at h
 |_::_,[],h,_=>by simp at h
 |d::g,y::ys,h,r=>⟨y,ys,rfl,r 0 d y rfl rfl,bx.rJ g ys (by simpa using h) λi a b c e=>r (i+1) a b c e⟩
theorem vq{Ok:Hp->Prop}{Q:Hp->Prop}(R:Nat->V->Hp->Prop)(C:∀i y I g ys,R i y I->I l=some (.lst ys)->(∀b o,I b=some o->b≠l->g b=some o)->R i y g)(T:ml J Ok xs)(hl:H l=none)(hz:xs.length<=sizeLine)(r:∀p,a9 H p->Ok p)
 (he:∀i x t ys Q',xs[i]?=some x->a9 H t->t l=some (.lst ys)->(∀y p,a9 t p->R i y p->Q' y p)->te (some x::U) t Q')
 (hd:∀ys p,a9 H p->p l=some (.lst ys)->ys.length=xs.length->(∀i y,ys[i]?=some y->R i y p)->Q p):o8 J l U wY te H Q:=by
 refine⟨λi m a g=>m=xs.length-i/\i<=xs.length/\a9 H g/\g l=some (.lst a)/\a.length=i/\∀j y,a[j]?=some y->R j y g,⟨xs.length,by simp,waA _,a9.upd hl,a7,rfl,λj y h=>by simp at h⟩,?_⟩;rintro i m a g ⟨rfl,hi,f,k,c,B⟩;refine⟨k,?_⟩
 by_cases d:i<xs.length
 ·refine .inr ⟨T.go i g (r _ f) d,by rw[c];omega,λx t y=>?_⟩;obtain⟨e,D⟩:=T.uG i g x t (r _ f) d y;subst e;unfold wY;dsimp only;rw[if_pos rfl];refine he i x _ a _ D f k λy s u v=>⟨u _ _ k,xs.length-(i+1),by omega,rfl,d,λb o e=>?_,a7,by rw[wa5,c];rfl,λj z n=>?_⟩
  ·rw[ae (ag e hl)];exact u _ _ (f _ _ e)
  ·have q:=u _ _ k;have kp:∀b o,s b=some o->b≠l->(upd s l (.lst (a++[y]))) b=some o:=λb o e E=>by rw[ae E];exact e
   by_cases w:j<a.length
   ·rw[waG w]at n;exact C j z s _ _ (C j z _ _ _ (B j z n) k λb o e _=>u _ _ e) q kp
   ·rw[waC (by omega)]at n
    have A:j-a.length=0:=by
     have:=(wa6.mp n).1;simp at this;omega
    rw[A]at n;cases n;have:j=i:=by omega
    rw[this];exact C i y s _ _ v q kp
 ·have e:i=xs.length:=by omega
  subst e;exact .inl ⟨T.stop g (r _ f),hd a g f k c B⟩
section
variable{X:Cx}
theorem FG{K:wa2}(J:X.K=K):M4 X "list.index" (λx xs H Q=>∃l g k i,x=.ref l/\xs=[.str k]/\aL K H l (wdl V.str g)/\g.length<=1000/\g[i]?=some k/\(∀j:Nat,j<i->g[j]?≠some k)/\Q (.int (i:Nat)) H):=by
 subst J;intro A s σ H x xs v Y Q I E G h;obtain⟨l,g,k,i,rfl,rfl,L,M,hi,f,q⟩:=h;cases E;obtain⟨u,rfl,N,rfl⟩:=G.one;obtain⟨a,B,pl,Z⟩:=I.list L;obtain⟨⟨cls,O,data,sl⟩,C,hc,n,hd⟩:=pl.isList;simp only at hc hd;subst hc hd;have c:=B.length;rw[wa0]at c;have R:i<g.length:=(wa6.mp hi).1
 have at_:∀m (b:m<a.length),∃t,a[m]=.str (g[m]'(by omega)) t:=λm b=>by
  obtain⟨w,D,S⟩:=B.get (i:=m) (x:=.str (g[m]'(by omega))) (by rw[wa4,wa1 (by omega)];rfl);rw[wa1 b]at D;obtain⟨t,rfl⟩:=S;exact⟨t,wae D⟩
 refine wew wd3 ⟨_,C,rfl⟩ wfx (wfh _ _)
  (wfy l a.toArray n O sl (.str k N) (λw=>match w with |.str z _=>z==k |_=>false) i (by simp;omega) (by omega) ?_ ?_) ⟨C,λy T=>?_,?_⟩
 ·obtain⟨t,e⟩:=at_ i (by omega);have U:g[i]=k:=(wa6.mp hi).2;simp only[wdy];rw[e,U];simp
 ·intro m b o;have p:m<a.length:=by simpa using b
  obtain⟨t,e⟩:=at_ m p;simp only[wdy];rw[e];have d:=f m o;rw[wa1 (by omega)]at d;simp only[beq_eq_false_iff_ne,ne_eq];exact λz=>d (by rw[z])
 ·have r:y∈a:=by simpa using T
  obtain⟨m,b,rfl⟩:=wbQ r;obtain⟨t,e⟩:=at_ m b;rw[e];exact wgh _ _ _ _
 ·exact⟨.int (i:Nat),H,I.tok _,⟨_,rfl⟩,q⟩
end
end L2
namespace L2
open PySem PySem.Spec PyProof.Rows Sx Bs
theorem pR(s:a9 H g)(h:Rd H a o):Rd g a o:=by
 rcases h with e |⟨z,e⟩
 ·exact .inl (s _ _ e)
 ·exact .inr ⟨z,s _ _ e⟩
theorem a9.L5{K:wa2}{H g:Hp}{a:Addr}{xs:List V}(s:a9 H g)(h:ig K H a xs):ig K g a xs:=by
 rcases h with e |e
 ·exact .inl (pR s e)
 ·exact .inr e
mutual
theorem bK.same{K:wa2}{H g:Hp}(s:a9 H g):∀(d:kU) (v:V),bK K H d v->bK K g d v
 |.at _,_,h=>h
 |.tup c,_,h=>by
  obtain⟨a,b,e,f,hl⟩:=h;exact⟨a,b,e,s _ _ f,bx.same s c b hl⟩
 |.lst c,_,h=>by
  obtain⟨a,b,e,f,hl⟩:=h;exact⟨a,b,e,pR s f,bx.same s c b hl⟩
theorem bx.same{K:wa2}{H j:Hp}(s:a9 H j):∀(g:List kU) (xs:List V),bx K H g xs->bx K j g xs
 |[],_,h=>h
 |d::g,_,h=>by
  obtain⟨v,a,e,b,hl⟩:=h;exact⟨v,a,e,bK.same s d v b,bx.same s g a hl⟩
end
theorem bx.len{K:wa2}{H:Hp}:∀{g:List kU} {xs:List V},bx K H g xs->xs.length=g.length
 |[],xs,h=>by
  have e:xs=[]:=h;subst e;rfl
 |d::g,_,h=>by
  obtain⟨v,a,rfl,_,hl⟩:=h;rw[waM,waM,bx.len hl]
theorem bx.get{K:wa2}{H:Hp}:∀{g:List kU} {xs:List V},bx K H g xs->∀(i:Nat) (x:V),xs[i]?=some x->∃d,g[i]?=some d/\bK K H d x
 |[],_,h,i,x,e=>by
  rw[show _=[] from h]at e;simp at e
 |d::g,_,h,i,x,e=>by
  obtain⟨v,a,rfl,b,hl⟩:=h
  cases i with
  |zero=>grind
  |succ i=>exact bx.get hl i x e
theorem bx.at{K:wa2}{H:Hp}{g:List kU}{xs:List V}(h:bx K H g xs){i:Nat}{d:kU}(e:g[i]?=some d):∃x,xs[i]?=some x/\bK K H d x:=by
 have hi:i<g.length:=(wa6.mp e).1;have a:xs[i]?=some (xs[i]'(by rw[h.len];exact hi)):=wa1 _;obtain⟨c,b,r⟩:=h.get i _ a;rw[e]at b;cases b;exact⟨_,a,r⟩
noncomputable def aM(H H':Hp):Hp:=λa=>match H a with
 |none=>H' a
 |some _=>none
theorem cj(H g:Hp):a9 (aM H g) g:=λa o e=>by
 grind [aM]
theorem eW(s:a9 g H):a9 (aM H j) (aM g j):=λa o e=>by
 unfold aM at e ⊢
 cases h:H a with
 |none=>rw[h]at e;rw[none_of s h];exact e
 |some z=>rw[h]at e;cases e
theorem j7(s:a9 g j):a9 (aM H g) (aM H j):=by grind [a9,aM]
theorem bT(hl:H l=some o)(kp:∀b o,g b=some o->b≠l->j b=some o):a9 (aM H g) (aM H j):=by grind [a9,aM]
theorem cf(h:H a=none)(e:g a=some o):aM H g a=some o:=by
 grind [aM]
theorem vr{K:wa2}{J:It}{Ok:Hp->Prop}{xs:List V}{l:Addr}{t:St}{U:TE}{H:Hp}{Q:Hp->Prop}(p:List kU)(hJ:ml J Ok xs)(hl:H l=none)(hz:xs.length<=sizeLine)(C:p.length=xs.length)(I:∀g,a9 H g->Ok g)
 (he:∀(i:Nat) (x:V) (d:kU) j T,xs[i]?=some x->p[i]?=some d->a9 H j->(∀y g,a9 j g->bK K (aM j g) d y->T y g)->U (some x::t) j T)
 (hd:∀g,a9 H g->bK K (aM H g) (.lst p) (.ref l)->Q g):o8 J l t wY U H Q:=by
 refine vq (λi y g=>∀d,p[i]?=some d->∃j o,a9 H j/\j l=some o/\bK K (aM j g) d y) ?_ hJ hl hz I (λi x j f T k b c m=>?_) (λf g h n e q=>?_)
 ·intro i y v w f r s kp d a;obtain⟨j,o,b,c,r⟩:=r d a;exact⟨j,o,b,c,bK.same (bT c kp) d y r⟩
 ·have hi:i<p.length:=by rw[C];exact(wa6.mp k).1
  refine he i x p[i] j _ k (wa1 hi) b λy g h r=>m y g h λd a=>?_;rw[wa1 hi]at a;cases a;exact⟨j,_,b,c,r⟩
 ·refine hd g h ⟨l,f,rfl,.inl (cf hl n),bx.rJ p f (by rw[C,e]) λi d y a u=>?_⟩;obtain⟨j,o,b,c,r⟩:=q i y u d a;exact bK.same (eW b) d y r
theorem jU{K:wa2}{J:It}{Ok:Hp->Prop}{xs:List V}{prs:List (V×V)}{l:Addr}{I:St}{tt:TT}{te:TE}{H:Hp}{Q:Hp->Prop}(p:V×V->Bool)(D:V×V->kU)(hJ:ml J Ok xs)(C:xs.length=prs.length)
 (hT:∀(i:Nat) (q:V×V),prs[i]?=some q->∃r,xs[i]?=some (.ref r)/\ig K H r [q.1,q.2]) (hl:H l=none) (hz:xs.length<=sizeLine) (T:∀t,a9 H t->Ok t)
 (ht:∀q g U,q∈prs->a9 H g->(∀t,a9 g t->U (p q) t)->tt (some q.1::some q.2::I) g U)
 (he:∀q g U,q∈prs->p q=true->a9 H g->(∀y t,a9 g t->bK K (aM g t) (D q) y->U y t)->te (some q.1::some q.2::I) g U)
 (hd:∀t,a9 H t->bK K (aM H t) (.lst ((prs.filter p).map D)) (.ref l)->Q t):kQ K J l I tt te H Q:=by
 refine⟨λi m c s=>m=xs.length-i/\i<=xs.length/\a9 H s/\s l=some (.lst c)/\c.length=((prs.take i).filter p).length/\∀(j:Nat) (d:kU) (y:V),(((prs.take i).filter p).map D)[j]?=some d->c[j]?=some y->∃g o,a9 H g/\g l=some o/\bK K (aM g s) d y,
  ⟨xs.length,by simp,waA _,a9.upd hl,a7,by simp,λj d y h=>by simp at h⟩,?_⟩
 rintro i m c s ⟨rfl,hi,k,N,f,Z⟩;refine⟨N,?_⟩
 by_cases n:i<xs.length
 ·have hfl:((prs.take i).filter p).length<=i:=wal (wb7 _ _) (by rw[wai];omega);refine .inr ⟨hJ.go i s (T _ k) n,by omega,λx g y=>?_⟩;obtain⟨e,hx⟩:=hJ.uG i s x g (T _ k) n y;subst e;have hq:prs[i]?=some prs[i]:=wa1 (by omega);obtain⟨r,A,hr⟩:=hT i _ hq;rw[hx]at A;cases A;have mem:prs[i]∈prs:=waN _;have tk:prs.take (i+1)=prs.take i++[prs[i]]:=by rw[waP,hq];rfl
  refine⟨r,prs[i].1,prs[i].2,rfl,k.L5 hr,ht prs[i] _ _ mem k λH4 v=>?_⟩
  have B:∀(j:Nat) (d:kU) (y:V),(((prs.take i).filter p).map D)[j]?=some d->c[j]?=some y->∃g o,a9 H g/\g l=some o/\bK K (aM g H4) d y:=λj d y h1 h3=>by
   obtain⟨O,o,E,h5,R⟩:=Z j d y h1 h3;exact⟨O,o,E,h5,bK.same (j7 v) d y R⟩
  cases S:p prs[i] with
  |false=>
   rw[if_neg wap];have G:(prs.take (i+1)).filter p=(prs.take i).filter p:=by rw[tk,wbw];simp[S]
   exact⟨xs.length-(i+1),by omega,rfl,n,k.trans v,v _ _ N,by rw[G];exact f,by rw[G];exact B⟩
  |true=>
   rw[if_pos rfl];have G:(prs.take (i+1)).filter p=(prs.take i).filter p++[prs[i]]:=by rw[tk,wbw];simp[S]
   have w:=v _ _ N;refine he prs[i] _ _ mem S (k.trans v) λy O E R=>⟨E _ _ w,xs.length-(i+1),by omega,rfl,n,λb o e=>?_,a7,by rw[G,wa5,wa5,f];rfl,λj d z u a=>?_⟩
   ·rw[ae (ag e hl)];exact E _ _ (v _ _ (k _ _ e))
   ·have kp:∀b o,O b=some o->b≠l->(upd O l (.lst (c++[y]))) b=some o:=λb o e hb=>by rw[ae hb];exact e
    rw[G,wan]at u;have X:(((prs.take i).filter p).map D).length=c.length:=by rw[wa0,f]
    by_cases Y:j<c.length
    ·rw[waG (by omega)]at u;rw[waG Y]at a;obtain⟨H6,o,s6,h6,r6⟩:=B j d z u a;exact⟨H6,o,s6,h6,bK.same ((j7 E).trans (bT h6 kp)) d z r6⟩
    ·rw[waC (by omega)]at u a
     have L:j-c.length=0:=by
      have:=(wa6.mp a).1;simp at this;omega
     rw[X,L]at u;rw[L]at a;cases u;cases a;exact⟨H4,_,k.trans v,w,bK.same (bT w kp) _ _ R⟩
 ·have e:i=xs.length:=by omega
  subst e;refine .inl ⟨hJ.stop s (T _ k),hd s k ⟨l,c,rfl,.inl (cf hl N),bx.rJ _ c ?_ λj d y u hy=>?_⟩⟩
  ·rw[C,waI]at f;rw[wa0,f]
  ·have M:=Z j d y;rw[C,waI]at M;obtain⟨g,o,s3,h3,r3⟩:=M u hy;exact bK.same (eW s3) d y r3
noncomputable def fP(H:Hp)(x:Addr):Hp:=λd=>if d=x then none else H d
theorem gM(h:H d=some o)(hd:d≠x):fP H x d=some o:=by
 unfold fP;rw[if_neg hd];exact h
theorem fq(kp:∀b o,H b=some o->b≠x->g b=some o):a9 (fP H x) g:=λd o e=>by
 unfold fP at e
 by_cases hd:d=x
 ·grind
 ·grind
theorem NN(j:H x=some (.ins C g fs))(h:Rd H d o)(l:∀z,o≠.ins C g z)(p:∀a b,HO.frz a b≠.ins C g fs):Rd (fP H x) d o:=by grind [Rd,fP,gM,wae]
theorem zm{K:wa2}{H:Hp}{x C g:Addr}{fs:List (Str×V)}(j:H x=some (.ins C g fs)){d:Addr}{ys:List V}(h:aL K H d ys):aL K (fP H x) d ys:=by
 rcases h with(e |⟨o,e⟩) |e
 ·exact .inl (.inl (gM e λz=>by grind))
 ·exact .inl (.inr ⟨o,gM e λz=>by grind⟩)
 ·exact .inr e
mutual
theorem bK.off{K:wa2}{H:Hp}{x C j:Addr}{fs:List (Str×V)}(g:H x=some (.ins C j fs)):∀(d:kU) (v:V),bK K H d v->bK K (fP H x) d v
 |.at _,_,h=>h
 |.tup c,_,h=>by
  obtain⟨a,b,e,f,hl⟩:=h;exact⟨a,b,e,gM f (λz=>by grind),bx.off g c b hl⟩
 |.lst c,_,h=>by
  obtain⟨a,b,e,f,hl⟩:=h;exact⟨a,b,e,NN g f (λ_ z=>by cases z) (λ_ _ z=>by cases z),bx.off g c b hl⟩
theorem bx.off{K:wa2}{H:Hp}{x C l:Addr}{fs:List (Str×V)}(j:H x=some (.ins C l fs)):∀(g:List kU) (xs:List V),bx K H g xs->bx K (fP H x) g xs
 |[],_,h=>h
 |d::g,_,h=>by
  obtain⟨v,a,e,b,hl⟩:=h;exact⟨v,a,e,bK.off j d v b,bx.off j g a hl⟩
end
theorem iU{K:wa2}{H:Hp}{d:kU}{v:V}:∀{g:List kU} {xs:List V},bx K H g xs->bK K H d v->bx K H (g++[d]) (xs++[v])
 |[],xs,h,r=>by
  have e:xs=[]:=h;subst e;exact⟨v,[],rfl,r,rfl⟩
 |c::g,_,h,r=>by
  obtain⟨v0,a,rfl,b,hl⟩:=h;exact⟨v0,a++[v],rfl,b,iU hl r⟩
end L2
namespace Bs
open PySem L2 Sx
noncomputable def lR(q:Str×Nat):kU:=.tup [.at (.str q.1),.at (.int (q.2:Int))]
noncomputable def cg(qs:List (Str×Nat)):kU:=.lst (qs.map lR)
noncomputable def kX(lns:List (List (Str×Nat))):kU:=.lst (lns.map cg)
noncomputable def sU(hs:List Str):kU:=.lst (hs.map λh=>.at (.str h))
noncomputable def oa(ws:List Int):kU:=.lst (ws.map λw=>.at (.int w))
theorem Iv(h:bK K H (sU hs) v):∃a,v=.ref a/\aL K H a (hs.map V.str):=by
 obtain⟨a,b,rfl,f,hl⟩:=h;refine⟨a,rfl,?_⟩
 have:b=hs.map V.str:=by
  refine wha λi=>?_
  cases e:b[i]? with
  |none=>
   have:=hl.len;rw[wa0]at this;rw[wcl (by rw[wa0];have:=wfi.mp e;omega)]
  |some x=>
   obtain⟨d,hd,r⟩:=hl.get i x e;rw[wa4]at hd ⊢
   cases c:hs[i]? with
   |none=>rw[c]at hd;cases hd
   |some z=>
    rw[c]at hd;cases hd;rw[r.1];rfl
 rw[<-this];exact .inl f
theorem j8(h:bK K H (oa ws) v):∃a,v=.ref a/\aL K H a (ws.map V.int):=by
 obtain⟨a,b,rfl,f,hl⟩:=h;refine⟨a,rfl,?_⟩
 have:b=ws.map V.int:=by
  refine wha λi=>?_
  cases e:b[i]? with
  |none=>
   have:=hl.len;rw[wa0]at this;rw[wcl (by rw[wa0];have:=wfi.mp e;omega)]
  |some x=>
   obtain⟨d,hd,r⟩:=hl.get i x e;rw[wa4]at hd ⊢
   cases c:ws[i]? with
   |none=>rw[c]at hd;cases hd
   |some z=>
    rw[c]at hd;cases hd;rw[r.1];rfl
 rw[<-this];exact .inl f
theorem pT(h:H a=some (.lst (hs.map V.str))):bK K H (sU hs) (.ref a):=
 ⟨a,_,rfl,.inl h,bx.rJ _ _ (by simp) λi d y hd b=>by
   rw[wa4]at hd b
   cases e:hs[i]? with
   |none=>rw[e]at hd;cases hd
   |some z=>rw[e]at hd b;cases hd;cases b;exact⟨rfl,rfl⟩⟩
theorem jV(h:H a=some (.lst (ws.map V.int))):bK K H (oa ws) (.ref a):=
 ⟨a,_,rfl,.inl h,bx.rJ _ _ (by simp) λi d y hd b=>by
   rw[wa4]at hd b
   cases e:ws[i]? with
   |none=>rw[e]at hd;cases hd
   |some z=>rw[e]at hd b;cases hd;cases b;exact⟨rfl,rfl⟩⟩
noncomputable def eQ(q:Str×Nat):V×V:=(.str q.1,.int (q.2:Int))
theorem kY(h:bK K H (cg g) v):∃a xs,v=.ref a/\aL K H a xs/\xs.length=(g.map eQ).length/\∀(i:Nat) (q:V×V),(g.map eQ)[i]?=some q->∃r,xs[i]?=some (.ref r)/\H r=some (.tup [q.1,q.2]):=by
 obtain⟨a,xs,rfl,j,hl⟩:=h;refine⟨a,xs,rfl,.inl j,by rw[hl.len,wa0,wa0],λi q b=>?_⟩;rw[wa4]at b
 cases e:g[i]? with
 |none=>rw[e]at b;cases b
 |some z=>
  rw[e]at b;cases b;obtain⟨x,k,r⟩:=hl.at (i:=i) (d:=lR z) (by grind);obtain⟨l,p,rfl,f,m⟩:=r;obtain⟨v1,s,rfl,⟨rfl,_⟩,n⟩:=m;obtain⟨t,c,rfl,⟨rfl,_⟩,o⟩:=n;rw[show c=[] from o]at f;exact⟨l,k,f⟩
theorem mJ(g:H r=none)(q:Str×Nat):bK K (aM H (upd H r (.tup [.str q.1,.int (q.2:Int)]))) (lR q) (.ref r):=
 ⟨r,_,rfl,cf g a7,.str q.1,[.int (q.2:Int)],rfl,⟨rfl,rfl⟩,.int (q.2:Int),[],rfl,⟨rfl,rfl⟩,rfl⟩
noncomputable def sV(a:Addr):List (Str×V):=[("homes",.ref a)]
noncomputable def pU(a b:Addr):List (Str×V):=[("homes",.ref a),("weights",.ref b)]
noncomputable def D6(a b c:Addr):List (Str×V):=[("homes",.ref a),("weights",.ref b),("lines",.ref c)]
theorem Mj(a:Addr):cQ "homes" (.ref a) []=sV a:=rfl
theorem Iw(a b:Addr):cQ "weights" (.ref b) (sV a)=pU a b:=by
 show (if ("homes":Str)="weights" then(("homes":Str),V.ref b)::[] else(("homes":Str),V.ref a)::cQ "weights" (.ref b) [])=_;rw[if_neg (by decide+kernel)];rfl
theorem Ei(a b c:Addr):cQ "lines" (.ref c) (pU a b)=D6 a b c:=by
 show (if ("homes":Str)="lines" then(("homes":Str),V.ref c)::[(("weights":Str),V.ref b)] else(("homes":Str),V.ref a)::(if ("weights":Str)="lines" then(("weights":Str),V.ref c)::[] else(("weights":Str),V.ref b)::cQ "lines" (.ref c) []))=_;rw[if_neg (by decide+kernel),if_neg (by decide+kernel)];rfl
theorem fF(a b c:Addr):(D6 a b c).lookup ("homes":Str)=some (.ref a):=by
 rw[<-Ei,aF,if_neg (by decide+kernel),<-Iw,aF,if_neg (by decide+kernel),<-Mj,aF,if_pos rfl]
theorem cN(a b c:Addr):(D6 a b c).lookup ("weights":Str)=some (.ref b):=by
 rw[<-Ei,aF,if_neg (by decide+kernel),<-Iw,aF,if_pos rfl]
theorem bV(a b c:Addr):(D6 a b c).lookup ("lines":Str)=some (.ref c):=by
 rw[<-Ei,aF,if_pos rfl]
structure cn(K:wa2)(C:Addr)(H:Hp)(x:Addr)(hs:List Str)(ws:List Int)(lns:List (List (Str×Nat))):Prop where
 ex:∃dx a b c,H x=some (.ins C dx (D6 a b c))/\bK K H (sU hs) (.ref a)/\bK K H (oa ws) (.ref b)/\bK K H (kX lns) (.ref c)
theorem cn.same(h:cn K C H x hs ws lns)(s:a9 H g):cn K C g x hs ws lns:=by
 obtain⟨d,a,b,c,e,f,i,j⟩:=h;exact⟨d,a,b,c,s _ _ e,bK.same s _ _ f,bK.same s _ _ i,bK.same s _ _ j⟩
end Bs
namespace Sx
open PySem L2 Bs
inductive Iy(K:wa2)(vs:List V)(H:Hp)(Q:VK)(eE:XK):Prop
 |mk (v qs) (_:vs=[v]) (_:bK K H (cg qs) v) (_:qs.length<=10000) (_:∀y H',a9 H H'->bK K (aM H H') (cg qs) y->Q y H')
inductive Iz(K:wa2)(C:Addr)(vs:List V)(H:Hp)(Q:VK)(eE:XK):Prop
 |mk (x dx u v w hs ws lns) (_:vs=[.ref x,u,v,w]) (_:H x=some (.ins C dx [])) (_:bK K H (sU hs) u) (_:bK K H (oa ws) v) (_:bK K H (kX lns) w) (_:hs.length<=10000) (_:ws.length<=10000) (_:lns.length<=10000) (_:(∀l∈lns,l.length<=10000)) (_:∀a b c H',H' x=some (.ins C dx (D6 a b c))->bK K (aM H H') (sU hs) (.ref a)->bK K (aM H H') (oa ws) (.ref b)->bK K (aM H H') (kX lns) (.ref c)->(∀b o,H b=some o->b≠x->H' b=some o)->Q .non H')
end Sx
namespace Bs
open PySem L2 Sx
noncomputable def au(ls:List Str)(f:Str->Int):List Str:=ls.filter λp=>decide (0<f p)
noncomputable def gN(g:Str)(ws ss ls:List Str)(n:Nat)(hs:List Str)(p:Str):List (Str×Nat):=((aV g ws ss ls n p).filter λq=>decide (q.2∈hs)).map λq=>(q.1,hs.idxOf q.2)
noncomputable def bF(g:Str)(ws ss ls:List Str)(n:Nat)(hs:List Str):List (List (Str×Nat)):=hs.map (gN g ws ss ls n hs)
theorem D7(g:Str)(ws ss ls:List Str)(n:Nat)(hs:List Str)(p:Str):(gN g ws ss ls n hs p).length<=g.length^n:=by
 unfold gN;rw[wa0];exact wal (wb7 _ _) (gL g ws ss ls n p)
theorem sW:∀{hs:List Str} {j:Nat} (h:j<hs.length),hs.idxOf hs[j]<=j
 |[],j,h=>absurd h (wcL _)
 |a::hs,0,h=>by
  show (a::hs).idxOf a<=0;rw[wgA];exact waa 0
 |a::hs,j+1,h=>by
  have b:j<hs.length:=by simpa using h
  show (a::hs).idxOf hs[j]<=j+1;rw[whK];have:=sW b
  cases(a==hs[j]) with
  |true=>grind
  |false=>grind
theorem rK{hs:List Str}{k:Str}(h:k∈hs):hs[hs.idxOf k]?=some k/\∀j:Nat,j<hs.idxOf k->hs[j]?≠some k:=by grind [wa1,wae,sW]
end Bs
namespace Sx
open PySem L2 Bs
inductive L6(K:wa2)(C CS:Addr)(vs:List V)(H:Hp)(Q:VK)(eE:XK):Prop
 |mk (x d:Addr) (many:Int) (n:Nat) (m:List (Str×Int)) (f:Str->Int) (g:Str) (ws ss ls:List Str) (_:vs=[.ref x,.int many,.int (n:Int),.ref d]) (_:aY C H x g ws ss ls) (_:2<=g.length) (_:g.length<=10) (_:ss.length<=900) (_:gK g.length many n) (_:Rd H d (.dK (bI m))) (_:NA m ls f) (_:∀(y:Addr) (H':Hp),a9 H H'->cn K CS (aM H H') y (au ls f) ((au ls f).map f) (bF g ws ss ls n (au ls f))->Q (.ref y) H')
end Sx
namespace L2
open PySem PySem.Spec PyProof.Rows Sx
section
variable{X:Cx}
end
end L2
namespace L2
open PySem
end L2
namespace PySem
section
variable{P:wat}{W0:World}{B:Around}{R:wd9->Shared->Prop}{I:Addr}{fp wr:List Addr}{n:Nat}{Pr:Nat->Value->Prop}{St:Nat->Heap->Prop}
theorem xf(W:Walks P W0 B.in1 I fp wr n Pr St)(bt:Nat->Nat->Bool)(cmp:CmpOf P W0 B.in1 .Gt Pr bt)(S:Addr)(nS:S∉fp)(kw:List (Str×Value)) :
 ∀(k j:Nat) (z:Shared) (best:Value) (c:Nat),n-(j+1)=k->j+1<=n->St (j+1) z.heap->Pr (argBest bt j) best->z.heap.get? S=some {cls:=.type "list",dict:=none,data:=.seq #[best,best] c,slots:=#[]} ->
 (∀v h' tk,Pr (argBest bt (n-1)) v->(∀b o,b∉wr->b≠S->z.heap.get? b=some o->h'.get? b=some o)->R (.ok (.ret v)) {z with heap:=h',toks:=tk}) ->
 codeAny (model P W0) B (.builtin "max.loop" ⟨[.ref I,.none,.ref S],kw⟩) R z:=by
 have RY:S∉wr:=λh=>nS (W.sub _ h);have nm:(toString "max"++toString ".loop":String)="max.loop":=by decide
 intro k
 induction k with
 |zero=>
  intro j z best c hk hj st pb gS fin;have last:j+1=n:=by omega
  refine wbG weh ?_;rw[wbx wbY _];show wpAny _ B.in1 (wen (.ref S) >>= _) _ _ z;refine wa7 (wcU gS rfl ?_);show wpAny _ B.in1 (tryCatch (pyNext (.ref I)) _ >>= _) _ _ z;refine wa7 (wbL (W.done z _ _ (last ▸ st) λh' tk kp=>?_));have Ml:=kp S _ RY gS;show wpAny _ B.in1 (wh1 S (λ_=>#[]) >>= _) _ _ _;refine wa7 (wdh Ml rfl (wa7 (wdm (waz ?_))));exact fin best _ tk (by rw[<-last];exact pb) λb o h1 h2 e=>(waS _ _ (wbc h2)).trans (kp b o h1 e)
 |succ k ih=>
  intro j z best c hk hj st pb gS fin;have more:j+1<n:=by omega
  refine wbG weh ?_;rw[wbx wbY _];show wpAny _ B.in1 (wen (.ref S) >>= _) _ _ z;refine wa7 (wcU gS rfl ?_);show wpAny _ B.in1 (tryCatch (pyNext (.ref I)) _ >>= _) _ _ z;refine wa7 (wbL (W.item (j+1) z _ _ more st λv h' tk hP RZ kp=>?_));have Ml:=kp S _ RY gS;show wpAny _ B.in1 (tryCatch (holding [v,v] (richCompare .Gt v best >>= _)) _ >>= _) _ _ _;refine wa7 (wbL (wbn (wa7 (cmp (j+1) (argBest bt j) v best _ _ _ hP pb ?_))));refine wa7 (wbn (wbN (wa7 (wdm (waz ?_)))))
  cases hb:bt (j+1) (argBest bt j) with
  |true=>
   simp only[if_true];refine wa7 (wdh Ml rfl (wa7 (wdm ?_)));rw[nm];refine waz ⟨wcf wbY _,ih (j+1) _ v _ (by omega) more (W.frame _ _ _ RZ λb Wo o e=>?_) (by simp only[argBest,hb,if_true];exact hP) (wbB _ Ml rfl) λv' h2 Qr Qs Qt=>?_⟩
   ·exact(waS _ _ (λh:S=b=>nS (by rw[h];exact Wo))).trans e
   ·exact fin v' h2 Qr Qs λb o h1 h3 e=>Qt b o h1 h3 ((waS _ _ (wbc h3)).trans (kp b o h1 e))
  |false=>
   simp only[wbV,if_false];refine wa7 (wdm ?_);rw[nm];refine waz ⟨wcf wbY _,ih (j+1) _ best c (by omega) more RZ (by simp only[argBest,hb,wbV,if_false];exact pb) Ml λv' h2 Qr Qs Qt=>?_⟩;exact fin v' h2 Qr Qs λb o h1 h3 e=>Qt b o h1 h3 (kp b o h1 e)
theorem vt(W:Walks P W0 B.in1 I fp wr n Pr St)(bt:Nat->Nat->Bool)(cmp:CmpOf P W0 B.in1 .Gt Pr bt)(S:Addr)(nS:S∉fp)(kw:List (Str×Value))(pos:0<n)(st:St 0 z.heap)(gS:z.heap.get? S=some {cls:=.type "list",dict:=none,data:=.seq #[] c,slots:=#[]})
 (fin:∀v h' tk,Pr (argBest bt (n-1)) v->(∀b o,b∉wr->b≠S->z.heap.get? b=some o->h'.get? b=some o)->R (.ok (.ret v)) {z with heap:=h',toks:=tk}):codeAny (model P W0) B (.builtin "max.loop" ⟨[.ref I,.none,.ref S],kw⟩) R z:=by
 have RY:S∉wr:=λh=>nS (W.sub _ h);have nm:(toString "max"++toString ".loop":String)="max.loop":=by decide
 refine wbG weh ?_;rw[wbx wbY _];show wpAny _ B.in1 (wen (.ref S) >>= _) _ _ z;refine wa7 (wcU gS rfl ?_);show wpAny _ B.in1 (tryCatch (pyNext (.ref I)) _ >>= _) _ _ z;refine wa7 (wbL (W.item 0 z _ _ pos st λv h' tk hP RZ kp=>?_));have Ml:=kp S _ RY gS;show wpAny _ B.in1 (wh1 S (λ_=>#[v,v]) >>= _) _ _ _;refine wa7 (wdh Ml rfl ?_);rw[nm];refine waz ⟨wcf wbY _,xf W bt cmp S nS kw _ 0 _ v _ rfl pos (W.frame _ _ _ RZ λb Wo o e=>?_) hP (wbB _ Ml rfl) λv' h2 Qr Qs Qt=>?_⟩
 ·exact(waS _ _ (λh:S=b=>nS (by grind))).trans e
 ·exact fin v' h2 Qr Qs λb o h1 h3 e=>Qt b o h1 h3 ((waS _ _ (wbc h3)).trans (kp b o h1 e))
theorem xg(W:Walks P W0 B.in1 I fp wr n Pr St)(S:Addr)(nS:S∉fp)(dv:Value)(Qu:n=0)(st:St 0 z.heap)(gS:z.heap.get? S=some {cls:=.type "list",dict:=none,data:=.seq #[] c,slots:=#[]})
 (fin:∀h' tk,(∀b o,b∉wr->b≠S->z.heap.get? b=some o->h'.get? b=some o)->R (.ok (.ret dv)) {z with heap:=h',toks:=tk}):codeAny (model P W0) B (.builtin "max.loop" ⟨[.ref I,.none,.ref S],[(wct "default",dv)]⟩) R z:=by
 refine wbG weh ?_;rw[wbx wbY _];show wpAny _ B.in1 (wen (.ref S) >>= _) _ _ z;refine wa7 (wcU gS rfl ?_);show wpAny _ B.in1 (tryCatch (pyNext (.ref I)) _ >>= _) _ _ z;refine wa7 (wbL (W.done z _ _ (Qu ▸ st) λh' tk kp=>?_));have done:=fin h' tk λb o h1 _ e=>kp b o h1 e
 wp_walk
 exact done
end
section
variable{P:wat}{W0:World}{B:Around}{E:Value->Shared->Prop}{z:Shared}
theorem xh(a v:Value):argsOk "max" ⟨[a],[(wct "default",v)]⟩:=by unfold argsOk;kernel_rfl
theorem xi{Q:Value->Shared->Prop}(hh:B.handled=none)(il:z.heap.IsList l (intItems xs))
 (he:xs.size=0->∀h' tk,(∀b o,z.heap.get? b=some o->h'.get? b=some o)->Q dv {z with heap:=h',toks:=tk})
 (hn:0<xs.size->∀v h' tk,(intItems xs)[argBest (λi j=>decide (numAt xs i>numAt xs j)) (xs.size-1)]?=some v->(∀b o,z.heap.get? b=some o->h'.get? b=some o)->Q v {z with heap:=h',toks:=tk}) :
 wpAny (model P W0) B (call (.builtin "max") [.ref l] [(wct "default",dv)]) Q E z:=by
 have nm:(toString "max"++toString ".loop":String)="max.loop":=by decide
 refine whN F.kind_max F.plain_max F.entry_max (xh _ _) ?_;show wpAny _ B.in1 (wcJ "max" ["key","default"] 0 ⟨[],[(wct "default",dv)]⟩ >>= _) _ _ z;refine wa7 (whn (show wcJ "max" ["key","default"] 0 ⟨[],[(wct "default",dv)]⟩=pure [none,some dv] from rfl) ?_);refine wa7 (waz (wa7 (iter_intList il λs₂ e st YD Qv=>?_)));subst e;refine wa7 (wf8 ?_);rw[nm];have W:=wff (prog:=P) (w:=W0) (A:=B.in1) hh z.heap.objs.size l Qv (intItems xs);have nS:(z.heap.push {cls:=.type "list_iterator",data:=.fields #[.ref l,.int 0 0]}).objs.size∉[z.heap.objs.size,l]:=λhm=>wbj _ (YD _ hm)
 have keep:∀{h':Heap},(∀b o,b∉[z.heap.objs.size]->b≠(z.heap.push {cls:=.type "list_iterator",data:=.fields #[.ref l,.int 0 0]}).objs.size->((z.heap.push {cls:=.type "list_iterator",data:=.fields #[.ref l,.int 0 0]}).push {cls:=.type "list",data:=.seq #[]}).get? b=some o->h'.get? b=some o)->∀b o,z.heap.get? b=some o->h'.get? b=some o:=λ{h'} hk b o e=>by
  have lt:=waf e;refine hk b o (λhm=>?_) (λh=>?_) (wa9 _ (wa9 _ e))
  ·rw[waq.mp hm]at lt;exact wbj _ lt
  ·rw[wbK]at h;rw[h]at lt;exact absurd (show z.heap.objs.size+1<z.heap.objs.size from lt) (by omega)
 by_cases h0:xs.size=0
 ·refine waz ⟨wcf wbY _,xg W _ nS dv (by simp[intItems,h0]) (W.frame _ _ _ st λb _ o e=>wa9 _ e) (wav _ rfl) λh' tk hk=>?_⟩;exact he h0 h' tk (keep hk)
 ·refine waz ⟨wcf wbY _,vt W _ (CmpOf.ints_gt (numAt xs) (λ_ _=>whm)) _ nS _ (by simp[intItems];omega) (W.frame _ _ _ st λb _ o e=>wa9 _ e) (wav _ rfl) λv h' tk hP hk=>?_⟩;exact hn (by omega) v h' tk (by simpa [intItems] using hP) (keep hk)
end
end PySem
namespace L2
open PySem PySem.Spec PyProof.Rows Sx
section
variable{X:Cx}{e e2:Expr}{te t2:TE}{p kp pos:Pos}
theorem FH(hc:X.calm=true)(I:Inv X g σ H s)(l:RelV (.int d) v)(C:aL X.K H a (wdl V.int ns))(h0:ns=[]->Q (.int d) H)(J:∀M,M∈ns->(∀a∈ns,a<=M)->Q (.int M) H) :
 wpAny (model X.prog X.w) X.A (call (.builtin "max") [.ref a] [(wct "default",v)]) (EP X g σ Q) X.xe s:=by
 obtain⟨f,r,pl,q⟩:=I.list C;obtain⟨c,e,rfl⟩:=kP r
 have hl:s.heap.IsList a (intItems c.toArray):=by
  have:intItems c.toArray=f.toArray:=by rw[e];unfold intItems;simp
  rw[this];exact pl.isList
 refine xi (I.ok.hd hc) hl (λh i k hk=>?_) (λh u i k m hk=>?_)
 ·have:c=[]:=by
   rw[waB]at h;exact wbz h
  subst this;exact⟨.int d,H,I.kept hk,l,h0 rfl⟩
 ·obtain⟨t,rfl⟩:=whm m;obtain⟨x,n⟩:=argBest_gt (numAt c.toArray) (c.toArray.size-1);refine⟨.int _,H,I.kept hk,⟨t,rfl⟩,J _ ?_ λb o=>?_⟩
  ·rw[numAt_eq];exact getD_mem (by rw[wa0];simp only[waB]at *;omega)
  ·obtain⟨j,p,rfl⟩:=mem_getD o;rw[wa0]at p;have:=n j (by simp only[waB]at *;omega);rw[numAt_eq]at this;exact this
end
section
variable{X:Cx}{e e2:Expr}{t:TA}{t2:TE}{p kp pos:Pos}
def Qw(K:wa2)(t:TA)(t2:TE):TE:=λσ H Q=>t σ H λvs H1=>t2 σ H1 λy H2=>∃a ns d,vs=[.ref a]/\y=.int d/\aL K H2 a (wdl V.int ns)/\(ns=[]->Q (.int d) H2)/\(∀M,M∈ns->(∀a∈ns,a<=M)->Q (.int M) H2)
theorem L7(hc:X.calm=true)(g:Gl X "max")(j:X.mg "max"=none)(ha:PA X [e] t)(hd:PE X e2 t2)(hs:starEach [e] X.env=[(false,eval e X.env)]:=by rfl):PE X (.Call (.Name "max" p) [e] [⟨some "default",e2,kp⟩] pos) (Qw X.K t t2):=by
 intro b s σ H Q I h;refine wbv (gE I g j (show waX "max"=some (.builtin "max") from Ia) ?_ (by decide) (by decide));refine wfz (bY (ha pos b s σ H _ I h) λx c ⟨z,f,i,k,l⟩=>?_) (by rw[hs];rfl) (by rw[hs];rfl);refine weo (bY (hd b c σ f _ i l) λv A ⟨y,B,m,n,o⟩=>weC ?_);obtain⟨a,ns,d,rfl,rfl,q,h0,r⟩:=o;obtain⟨u,rfl,w⟩:=vals1 k;cases w;exact FH hc m n q h0 r
end
end L2
namespace L2
open PySem PySem.Spec PyProof.Rows Sx Bs
def L8(K:wa2)(wi:TI)(ix:List Nat)(tt:TT)(te:TE)(i:Nat):TS:=λD σ H=>wi σ H λJ H1=>∀l,H1 l=none->kQ K J l (pick σ ix) tt te H1 (λH2=>D.nx (σ.set i (some (.ref l))) H2)
section
variable{X:Cx}{scope:wd8}{x x2:Str}{ys:List Str}{ix:List Nat}
theorem sX(hc:X.calm=true)(B:bZ X scope x ys ix)(hN:X.N.Nodup)(hy:X.N[i]?=some y)(t:X.env.scope.names.lookup y=some .local)(B2:bZ X scope x2 ys ix)(I:x≠x2)(hi:PI X (.Tuple [.Name x U,.Name x2 g] kt pt) iter wi)
 (ht:∀cl L s H ex pn,JR (bH X scope (x::x2::ys) cl L s H ex pn) j tt) (he:∀cl L s H ex pn,PE (bH X scope (x::x2::ys) cl L s H ex pn) p te)
 (T:wc6 (.ListComp p [⟨.Tuple [.Name x U,.Name x2 g] kt pt,iter,j,0⟩] scope pos) (some (.Name y py)) r.line X.env=pure true:=by rfl)
 (hs:∀v,wc4 iter X.env v=pure v:=by intro _;rfl):PS X (.Assign [.Name y py] (.ListComp p [⟨.Tuple [.Name x U,.Name x2 g] kt pt,iter,j,0⟩] scope pos) r) (L8 X.K wi ix tt te i):=
 sI (C:=λJ l a H Q=>kQ X.K J l a tt te H Q) (xs:=[x,x2]) hc B hN hy t (AX hc B B2 I) (λ_ _ _ _ _=>AY) hi ht he T hs
inductive Qx(x y:V)(H:Hp)(Q:VK):Prop
 |mk (l b xs zs) (_:x=.ref l) (_:y=.ref b) (_:Rd H l (.lst xs)) (_:Rd H b (.lst zs)) (_:xs.length+zs.length<=sizeLine) (_:∀p,H p=none->Q (.ref p) (upd H p (.lst (xs++zs))))
theorem zo:nT X (binaryOp .Add) Qx:=by
 intro d s σ H x y v u Q I g i h;obtain⟨l,b,t,w,rfl,rfl,j,k,A,q⟩:=h;cases g;cases i;obtain⟨z,c,n,r,e⟩:=j.ok I.b9;obtain⟨B,a,C,f,m⟩:=k.ok I.b9;have hl:=r.length;have o:=f.length;refine whs e m ?_ (by grind);have p:c.toArray++a.toArray=(c++a).toArray:=by simp
 rw[p];exact⟨.ref _,_,I.N0 (t':=s.toks) (r.append f) (by grind),rfl,q _ I.fresh⟩
theorem xj{K:wa2}(g:X.K=K):eN X (.type "list") (λxs H Q=>∃p ys,xs=[.ref p]/\(aL K H p ys\/ig K H p ys)/\∀l,H l=none->Q (.ref l) (upd H l (.lst ys))):=by
 subst g;exact cK
end
noncomputable def bu{α:Type}(p:Nat->Bool):Nat->List α->List α
 |_,[]=>[]
 |i,x::xs=>if p i then x::bu p (i+1) xs else bu p (i+1) xs
theorem oZ{α:Type}(p:Nat->Bool)(x:α):∀(k:Nat) (xs:List α),bu p k (xs++[x])=bu p k xs++(if p (k+xs.length) then[x] else[])
 |k,[]=>by
  show (if p k then x::[] else[])=[]++_;rw[wdH];rfl
 |k,y::xs=>by
  have e:k+(y::xs).length=k+1+xs.length:=by grind
  rw[e];show (if p k then y::bu p (k+1) (xs++[x]) else bu p (k+1) (xs++[x]))=(if p k then y::bu p (k+1) xs else bu p (k+1) xs)++_;rw[oZ p x (k+1) xs];cases p k<;>rfl
theorem nY{α:Type}(p:Nat->Bool):∀(k:Nat) (xs:List α),(bu p k xs).length<=xs.length
 |_,[]=>waa _
 |k,x::xs=>by
  have:=nY p (k+1) xs;show (if p k then x::bu p (k+1) xs else bu p (k+1) xs).length<=xs.length+1
  cases p k with
  |true=>grind
  |false=>grind
theorem yq{α β:Type}(f:α->β)(p:Nat->Bool):∀(k:Nat) (xs:List α),bu p k (xs.map f)=(bu p k xs).map f
 |_,[]=>rfl
 |k,x::xs=>by
  show (if p k then f x::bu p (k+1) (xs.map f) else bu p (k+1) (xs.map f))=(if p k then x::bu p (k+1) xs else bu p (k+1) xs).map f;rw[yq f p (k+1) xs];cases p k<;>rfl
theorem rL{α:Type}(p:Nat->Bool):∀(k:Nat) (xs:List α),(bu p k xs).Sublist xs
 |_,[]=>wfc _
 |k,x::xs=>by
  show (if p k then x::bu p (k+1) xs else bu p (k+1) xs).Sublist (x::xs)
  cases p k with
  |true=>exact(rL p (k+1) xs).cons₂ x
  |false=>exact(rL p (k+1) xs).cons x
theorem et{α:Type}{p:Nat->Bool}{k:Nat}{xs:List α}{x:α}(h:x∈bu p k xs):x∈xs:=(rL p k xs).subset h
theorem bx.pick{K:wa2}{H:Hp}(p:Nat->Bool):∀(k:Nat) (g:List kU) (xs:List V),bx K H g xs->bx K H (bu p k g) (bu p k xs)
 |_,[],xs,h=>by
  have e:xs=[]:=h;subst e;rfl
 |k,d::g,_,h=>by
  obtain⟨v,a,rfl,c,hl⟩:=h;have b:=bx.pick p (k+1) g a hl;show bx K H (if p k then d::bu p (k+1) g else bu p (k+1) g) (if p k then v::bu p (k+1) a else bu p (k+1) a)
  cases p k with
  |true=>exact⟨v,_,rfl,c,b⟩
  |false=>exact b
theorem bx.set{K:wa2}{H:Hp}{d:kU}{v:V}:∀{g:List kU} {xs:List V},bx K H g xs->∀i:Nat,bK K H d v->bx K H (g.set i d) (xs.set i v)
 |[],xs,h,i,r=>by
  have e:xs=[]:=h;subst e;exact h
 |c::g,_,h,0,r=>by
  obtain⟨v0,a,rfl,b,hl⟩:=h;exact⟨v,a,rfl,r,hl⟩
 |c::g,_,h,i+1,r=>by
  obtain⟨v0,a,rfl,b,hl⟩:=h;exact⟨v0,a.set i v,rfl,b,bx.set hl i r⟩
theorem yr{K:wa2}{a l:Addr}{xs:List V}{r:St}{I:TT}{J:TE}{H:Hp}{Q:Hp->Prop}(p:Nat->Bool)(C:aL K H a xs)(hl:H l=none)(hz:xs.length<=sizeLine)
 (U:∀(i:Nat) (x:V) j t,xs[i]?=some x->a9 H j->(∀g,a9 j g->t (p i) g)->I (some (.int (i:Nat))::some x::r) j t)
 (he:∀(i:Nat) (x:V) j t,xs[i]?=some x->a9 H j->(∀g,a9 j g->t x g)->J (some (.int (i:Nat))::some x::r) j t)
 (hd:∀g,a9 H g->g l=some (.lst (bu p 0 xs))->Q g):kQ K (OC K a) l r I J H Q:=by
 refine⟨λi m u f=>m=xs.length-i/\i<=xs.length/\a9 H f/\f l=some (.lst u)/\u=bu p 0 (xs.take i),⟨xs.length,by simp,waA _,a9.upd hl,a7,rfl⟩,?_⟩;rintro i m u f ⟨rfl,hi,c,v,k⟩;refine⟨v,?_⟩
 by_cases d:i<xs.length
 ·refine .inr ⟨⟨xs,xs[i],c.seq C,wa1 d⟩,?_,λx j y=>?_⟩
  ·rw[k];refine wbg (nY p 0 _) ?_;rw[wai];omega
  ·obtain⟨T,h,E,G,L,y⟩:=y;subst G L;have w:xs[i]?=some h:=y xs (c.seq C);have n:a9 f (upd f T (.tup [.int (i:Nat),h])):=a9.upd E;have z:xs.take (i+1)=xs.take i++[h]:=by rw[waP,w];rfl
   have q:(xs.take i).length=i:=by rw[wai];omega
   refine⟨T,.int (i:Nat),h,rfl,ig.of a7,U i h _ _ w (c.trans n) λM s=>?_⟩;have A:=s _ _ (n _ _ v)
   cases B:p i with
   |false=>
    rw[if_neg wap];exact⟨xs.length-(i+1),by omega,rfl,d,(c.trans n).trans s,A,by rw[z,oZ,q,wh2,B,if_neg wap,waZ];exact k⟩
   |true=>
    rw[if_pos rfl];refine he i h _ _ w ((c.trans n).trans s) λN D=>⟨D _ _ A,xs.length-(i+1),by omega,rfl,d,λb o e=>?_,a7,?_⟩
    ·rw[ae (ag e hl)];exact D _ _ (s _ _ (n _ _ (c _ _ e)))
    ·rw[z,oZ,q,wh2,B,if_pos rfl,k]
 ·have e:i=xs.length:=by omega
  subst e;rw[waI]at k;exact .inl ⟨⟨xs,c.seq C,waa _⟩,hd f c (by rw[v,k])⟩
theorem vv(y:Int)(ns:List Int):pJ (.int y) (ns.map V.int)=decide (y∈ns):=by
 unfold pJ;rw[wfu]
 induction ns with
 |nil=>rfl
 |cons a l b=>
  rw[wd5,b];show ((a==y) ||decide (y∈l))=decide (y∈a::l)
  by_cases e:a=y
  ·subst e;simp
  ·grind
theorem d2(ns:List Int):(ns.map V.int).all eO=true:=by grind [eO]
end L2
namespace Bs
open PySem L2 Sx
noncomputable def fm(i:Int)(n:Nat):Bool:=decide (0<=i)&&decide (i<(n:Int))
noncomputable def bg(ws:List Int)(qs:List (Str×Nat)):Int:=(qs.map λq=>ws.getD q.2 0).sum
noncomputable def fj(ws:List Int)(many:Int)(qs:List (Str×Nat))(w:Int):Bool:=!qs.isEmpty&&(decide (1<=w)&&decide (many*w<=bg ws qs))
noncomputable def b0{α:Type}(ns:List Int)(l:List α):List α:=bu (λi=>decide ((i:Int)∈ns)) 0 l
noncomputable def aX{α:Type}(ns:List Int)(l:List α):List α:=bu (λi=>!decide ((i:Int)∈ns)) 0 l
noncomputable def eZ(d t:Nat)(l:List (Str×Nat)):List (Str×Nat):=l.flatMap λq=>if q.2=d then[q,(q.1,t)] else[q]
noncomputable def eF(ws:List Int)(lns:List (List (Str×Nat)))(many tZ:Int)(ns:List Int)(w:Int):Bool:=
 fm tZ lns.length&&(ns.all (λi=>fm i (lns.getD tZ.toNat []).length)&&(fj ws many (b0 ns (lns.getD tZ.toNat [])) w&&fj ws many (aX ns (lns.getD tZ.toNat [])) (ws.getD tZ.toNat 0-w)))
noncomputable def cY(hs:List Str)(d:Nat):List Str:=hs++[hs.getD d ""]
noncomputable def cG(ws:List Int)(d:Nat)(w:Int):List Int:=(ws++[ws.getD d 0-w]).set d w
noncomputable def dW(lns:List (List (Str×Nat)))(d:Nat)(ns:List Int):List (List (Str×Nat)):=((lns++[aX ns (lns.getD d [])]).set d (b0 ns (lns.getD d []))).map (eZ d lns.length)
theorem rM(d t:Nat):∀l:List (Str×Nat),(eZ d t l).length<=2*l.length
 |[]=>waa _
 |q::l=>by
  have:=rM d t l;show ((if q.2=d then[q,(q.1,t)] else[q])++eZ d t l).length<=2*(l.length+1);rw[wa5];split
  ·grind
  ·grind
theorem vx(d t:Nat)(l:List (Str×Nat))(q:Str×Nat):eZ d t (l++[q])=eZ d t l++(if q.2=d then[q,(q.1,t)] else[q]):=by simp_all [eZ,weI,congr,waZ]
theorem Ba(p:Nat->Bool)(h:bx K H (g.map lR) xs):bx K H ((bu p 0 g).map lR) (bu p 0 xs):=by
 rw[<-yq];exact h.pick p 0 _ _
theorem zp{α:Type}{K:wa2}{H:Hp}(f:α->V):∀(g:List α) (xs:List V),bx K H (g.map λz=>kU.at (f z)) xs->xs=g.map f
 |[],xs,h=>h
 |z::g,_,h=>by
  obtain⟨v,a,rfl,⟨rfl,_⟩,hl⟩:=h;rw[zp f g a hl];rfl
theorem uz(h:bK K H (sU hs) (.ref a)):Rd H a (.lst (hs.map V.str)):=by
 obtain⟨d,b,e,c,hl⟩:=h;cases e;rwa[zp V.str hs b hl]at c
theorem La(h:bK K H (oa ws) (.ref a)):Rd H a (.lst (ws.map V.int)):=by
 obtain⟨d,b,e,c,hl⟩:=h;cases e;rwa[zp V.int ws b hl]at c
theorem ez(h:bK K H (cg j) v):∃a rs,v=.ref a/\aL K H a (rs.map V.ref)/\bc H rs ((j.map eQ).map jT):=by
 obtain⟨a,d,rfl,m,b,k⟩:=kY h
 have ex:d=(d.map λv=>match v with |.ref r=>r |_=>0).map V.ref:=by
  rw[wah];refine(wdX d).symm.trans (wb2 λv n=>?_);obtain⟨i,hi,rfl⟩:=wbQ n;obtain⟨r,l,_⟩:=k i _ (wa1 (by rw[<-b];exact hi));rw[wa1 hi]at l;rw[wae l];rfl
 refine⟨a,_,rfl,by rw[<-ex];exact m,by rw[wa0,wa0,b],λi r p f c=>?_⟩;rw[wa4]at f c
 cases e:(j.map eQ)[i]? with
 |none=>rw[e]at c;cases c
 |some q=>
  rw[e]at c;cases c;obtain⟨s,g,o⟩:=k i q e;rw[g]at f;cases f;exact o
structure Mm(hs:List Str)(ws:List Int)(lns:List (List (Str×Nat))):Prop where
 w:ws.length=hs.length
 l:lns.length=hs.length
 e:∀l∈lns,∀q∈l,q.2<hs.length
 n:hs.length<=1000
 m:∀l∈lns,l.length<=5000
end Bs
namespace Sx
open PySem L2 Bs
inductive Lb(K:wa2)(vs:List V)(H:Hp)(Q:VK)(eE:XK):Prop
 |mk (i a xs) (_:vs=[.int i,.ref a]) (_:aL K H a xs) (_:Q (.bl (fm i xs.length)) H)
inductive NP(K:wa2)(CS CN:Addr)(vs:List V)(H:Hp)(Q:VK)(E:XK):Prop
 |mk (x many v w hs ws lns qs) (_:vs=[.ref x,.int many,v,.int w]) (_:cn K CS H x hs ws lns) (_:bK K H (cg qs) v) (_:qs.length<=10000) (_:(∀q∈qs,q.2<ws.length)) (_:0<=many) (_:many<=1000) (_:((fj ws many qs w=true/\∀H',a9 H H'->Q .non H')\/(fj ws many qs w=false/\∀H',a9 H H'->E (.ref CN) none H')))
inductive Lc(K:wa2)(vs:List V)(H:Hp)(Q:VK)(eE:XK):Prop
 |mk (v:V) (d t:Nat) (qs:List (Str×Nat)) (_:vs=[v,.int (d:Int),.int (t:Int)]) (_:bK K H (cg qs) v) (_:qs.length<=5000) (_:∀y H',a9 H H'->bK K (aM H H') (cg (eZ d t qs)) y->Q y H')
inductive Ld(K:wa2)(CS CN:Addr)(vs:List V)(H:Hp)(Q:VK)(E:XK):Prop
 |mk (x a many tZ w ns hs ws lns) (_:vs=[.ref x,.int many,.int tZ,.ref a,.int w]) (_:cn K CS H x hs ws lns) (_:aL K H a (ns.map V.int)) (_:ns.length<=10000) (_:Mm hs ws lns) (_:0<=many) (_:many<=1000) (_:((eF ws lns many tZ ns w=true/\∀y H',a9 H H'->cn K CS (aM H H') y (cY hs tZ.toNat) (cG ws tZ.toNat w) (dW lns tZ.toNat ns)->Q (.ref y) H')\/(eF ws lns many tZ ns w=false/\∀H',a9 H H'->E (.ref CN) none H')))
end Sx
namespace L2
open PySem PySem.Spec PyProof.Rows Sx Bs
section
variable{X:Cx}
end
end L2
namespace Bs
open PySem L2 Sx
end Bs
namespace Sx
open PySem L2 Bs
end Sx
namespace Bs
open PySem L2 Sx
end Bs
namespace Sx
open PySem L2 Bs
end Sx
namespace Bs
open PySem L2 Sx
theorem pV(hi:i<ws.length)(g:i≠d):(cG ws d w).getD i 0=ws.getD i 0:=by grind [cG,wcQ,waG]
theorem sY(hd:d<ws.length):(cG ws d w).getD d 0=w:=by
 unfold cG;rw[wa3,wcE (by rw[wa5];omega)];rfl
theorem sZ(hd:d<ws.length):(cG ws d w).getD ws.length 0=ws.getD d 0-w:=by
 unfold cG;rw[wa3,wcQ (by omega),waC (waa _),wbC];rfl
theorem D8(ws:List Int)(d:Nat)(w:Int):(cG ws d w).length=ws.length+1:=by
 unfold cG;rw[wc7,wa5];rfl
theorem cL(ws:List Int)(q:Str×Nat)(g:List (Str×Nat)):bg ws (q::g)=ws.getD q.2 0+bg ws g:=rfl
theorem vy(ws:List Int)(ps g:List (Str×Nat)):bg ws (ps++g)=bg ws ps+bg ws g:=by
 unfold bg;rw[wan,whL]
theorem og(hd:d<ws.length):∀g:List (Str×Nat),(∀q∈g,q.2<ws.length)->bg (cG ws d w) (eZ d ws.length g)=bg ws g
 |[],_=>rfl
 |q::g,h=>by
  have c:=og (w:=w) hd g λq b=>h q (wac _ b);have b:=h q (wag ..);have e:eZ d ws.length (q::g)=(if q.2=d then[q,(q.1,ws.length)] else[q])++eZ d ws.length g:=rfl;rw[e,vy,c,cL]
  by_cases a:q.2=d
  ·rw[if_pos a,cL,cL,a,sY hd];have f:(cG ws d w).getD ((q.1,ws.length):Str×Nat).2 0=ws.getD d 0-w:=sZ hd;rw[f];show w+(ws.getD d 0-w+0)+_=_;omega
  ·rw[if_neg a,cL,pV b a];show ws.getD q.2 0+0+_=_;omega
theorem Ej:∀(ws:List Int) (d:Nat) (w:Int),d<ws.length->(ws.set d w).sum=ws.sum-ws.getD d 0+w
 |[],_,_,h=>absurd h (wcL _)
 |x::ws,0,w,_=>by
  show w+ws.sum=x+ws.sum-x+w;omega
 |x::ws,d+1,w,h=>by
  have a:=Ej ws d w (by simpa using h);show x+(ws.set d w).sum=x+ws.sum-ws.getD d 0+w;rw[a];omega
theorem Dc(hd:d<ws.length):(cG ws d w).sum=ws.sum:=by grind [cG,Ej,wa5,waG]
structure jr(many:Int)(hs:List Str)(ws:List Int)(lns:List (List (Str×Nat))):Prop where
 w:ws.length=hs.length
 l:lns.length=hs.length
 p:∀w∈ws,1<=w
 e:∀l∈lns,∀q∈l,q.2<hs.length
 b:∀(i:Nat) (l:List (Str×Nat)),lns[i]?=some l->many*ws.getD i 0<=bg ws l
theorem Dd(h:q∈eZ d t l):q.2=t\/q∈l:=by grind [eZ]
theorem vz(h:fj ws many g w=true):g≠[]/\1<=w/\many*w<=bg ws g:=by simp_all [fj,wbU,of_decide_eq_true]
theorem jr.split{many:Int}{hs:List Str}{ws:List Int}{lns:List (List (Str×Nat))}(S:jr many hs ws lns){d:Nat}{ns:List Int}{w:Int}(h:eF ws lns many (d:Int) ns w=true):jr many (cY hs d) (cG ws d w) (dW lns d ns)/\d<hs.length:=by
 unfold eF at h;simp only[wbU]at h;obtain⟨n,A,v,x⟩:=h;rw[waF]at A v x;obtain⟨c1,E,B⟩:=vz v;obtain⟨G,H,C⟩:=vz x;have j:=S.w;have o:=S.l
 have hd:d<lns.length:=by
  unfold fm at n;rw[wbU]at n;have:=of_decide_eq_true n.2;omega
 have f:d<ws.length:=by omega
 have r:(cY hs d).length=hs.length+1:=by unfold cY;rw[wa5];rfl
 have a:lns.getD d []∈lns:=by
  rw[wa3,wa1 hd];exact waN hd
 have k:=S.e _ a
 have c:∀l∈(lns++[aX ns (lns.getD d [])]).set d (b0 ns (lns.getD d [])),∀q∈l,q.2<hs.length:=λl hl=>by
  rcases wcn hl with z |z
  ·rcases waE.mp z with z |z
   ·exact S.e l z
   ·rw[waq.mp z];exact λq a=>k q (et a)
  ·rw[z];exact λq a=>k q (et a)
 refine⟨⟨by rw[r,D8,j],?_,λz y=>?_,λl hl q a=>?_,λi l hl=>?_⟩,by omega⟩
 ·unfold dW;rw[r,wa0,wc7,wa5,o];rfl
 ·unfold cG at y;rcases wcn y with q |q
  ·rcases waE.mp q with q |q
   ·exact S.p z q
   ·rw[waq.mp q];omega
  ·rw[q];omega
 ·rw[r];unfold dW at hl;obtain⟨m,s,rfl⟩:=wab.mp hl;rcases Dd a with e |e
  ·omega
  ·have:=c m s q e;omega
 ·unfold dW at hl;rw[wa4]at hl
  cases e:((lns++[aX ns (lns.getD d [])]).set d (b0 ns (lns.getD d [])))[i]? with
  |none=>rw[e]at hl;cases hl
  |some m=>
   rw[e]at hl;cases hl;have D:=c m (wa8 e);rw[show lns.length=ws.length by omega,og f m (λq a=>by rw[j];exact D q a)]
   by_cases g:i=d
   ·subst g;rw[wcE (by rw[wa5];omega)]at e;cases e;rw[sY f];exact B
   ·rw[wcQ (λz=>g z.symm)]at e
    by_cases t:i<lns.length
    ·rw[waG t]at e;rw[pV (by omega) g];exact S.b i m e
    ·have u:i=lns.length:=by
      have:=(wa6.mp e).1;rw[wa5]at this;simp at this;omega
     subst u;rw[waC (waa _),wbC]at e;cases e;rw[show lns.length=ws.length by omega,sZ f];exact C
noncomputable def pre(ls:List Int)(k:Nat):Int:=(ls.take k).sum
end Bs
namespace L2
open PySem PySem.Spec PyProof.Rows
section
variable{prog:wat}{w:World}{κ:Type}[DecidableEq κ]{knd:HeapKind prog w κ}{A:Around}{E:Value->Shared->Prop}{s:Shared}
end
section
variable{X:Cx}
end
end L2
namespace Bs
open PySem L2 Sx
theorem S0{a b:Prop}[Decidable a][Decidable b]{α:Type}{x y:α}(h:a↔b):(if a then x else y)=if b then x else y:=by simp_all [if_pos,if_neg]
noncomputable def ia(p:Str)(z:Str×Nat):List Str->List (List (Str×Nat))->Nat
 |h::hs,l::lns=>(if h=p then l.count z else 0)+ia p z hs lns
 |_,_=>0
theorem yt(p:Str)(z:Str×Nat)(h:Str)(l:List (Str×Nat)):∀(hs:List Str) (lns:List (List (Str×Nat))),hs.length=lns.length->ia p z (hs++[h]) (lns++[l])=ia p z hs lns+(if h=p then l.count z else 0)
 |[],[],_=>by
  show (if h=p then l.count z else 0)+0=0+_;omega
 |[],_::_,e=>by cases e
 |_::_,[],e=>by cases e
 |x::hs,y::lns,e=>by
  show (if x=p then y.count z else 0)+ia p z (hs++[h]) (lns++[l])=_;rw[yt p z h l hs lns (by simpa using e)];show _=(if x=p then y.count z else 0)+ia p z hs lns+_;omega
theorem Bb(p:Str)(z:Str×Nat)(g:List (Str×Nat)):∀(hs:List Str) (lns:List (List (Str×Nat))) (d:Nat),hs.length=lns.length->d<lns.length ->
 ia p z hs (lns.set d g)+(if hs.getD d ""=p then(lns.getD d []).count z else 0)=ia p z hs lns+(if hs.getD d ""=p then g.count z else 0)
 |_,[],d,_,h=>absurd h (wcL _)
 |[],_::_,_,e,_=>by cases e
 |x::hs,y::lns,0,_,_=>by
  show (if x=p then g.count z else 0)+ia p z hs lns+(if x=p then y.count z else 0)=(if x=p then y.count z else 0)+ia p z hs lns+(if x=p then g.count z else 0);omega
 |x::hs,y::lns,d+1,e,h=>by
  have a:=Bb p z g hs lns d (by simpa using e) (by simpa using h);show (if x=p then y.count z else 0)+ia p z hs (lns.set d g)+(if hs.getD d ""=p then(lns.getD d []).count z else 0)=(if x=p then y.count z else 0)+ia p z hs lns+(if hs.getD d ""=p then g.count z else 0);omega
theorem Bc(p:Str){f:List (Str×Nat)->List (Str×Nat)}:∀(hs:List Str) (lns:List (List (Str×Nat))),(∀l∈lns,(f l).count z=l.count z')->ia p z hs (lns.map f)=ia p z' hs lns
 |_,[],_=>by cases ‹List Str›<;>rfl
 |[],_::_,_=>rfl
 |x::hs,y::lns,h=>by
  show (if x=p then(f y).count z else 0)+ia p z hs (lns.map f)=(if x=p then y.count z' else 0)+ia p z' hs lns;rw[Bc p hs lns λl hl=>h l (wac _ hl),h y (wag ..)]
theorem kZ:∀{hs:List Str} {lns:List (List (Str×Nat))} {i:Nat} {l:List (Str×Nat)},hs[i]?=some p->lns[i]?=some l->l.count z<=ia p z hs lns
 |y::hs,x::lns,0,l,a,b=>by
  cases a;cases b;show _<=(if p=p then x.count z else 0)+_;rw[if_pos rfl];omega
 |h::hs,x::lns,i+1,l,a,b=>by
  have:=kZ (z:=z) (hs:=hs) (lns:=lns) (i:=i) (by simpa using a) (by simpa using b);show _<=_+ia p z hs lns;omega
 |[],_,_,_,a,_=>by simp at a
 |_::_,[],_,_,_,b=>by simp at b
theorem cnt_cons(q z:Str×Nat)(l:List (Str×Nat)):(q::l).count z=l.count z+if q=z then 1 else 0:=by simp_all [List.count_cons,if_pos,beq_self_eq_true,if_neg]
theorem p0(f:Nat->Bool)(z:Str×Nat):∀(k:Nat) (l:List (Str×Nat)),(bu f k l).count z+(bu (λi=>!f i) k l).count z=l.count z
 |_,[]=>rfl
 |k,q::l=>by
  have a:=p0 f z (k+1) l;show (if f k then q::bu f (k+1) l else bu f (k+1) l).count z+(if !f k then q::bu (λi=>!f i) (k+1) l else bu (λi=>!f i) (k+1) l).count z=_;rw[cnt_cons]
  cases f k with
  |true=>
   grind
  |false=>
   grind
theorem t5(hd:d<t)(w:Str)(e:Nat):∀l:List (Str×Nat),(∀q∈l,q.2<t)->(eZ d t l).count (w,e)=l.count (w,if e=t then d else e)
 |[],_=>rfl
 |q::l,h=>by
  have f:=t5 hd w e l λq c=>h q (wac _ c);have c:=h q (wag ..);have g:eZ d t (q::l)=(if q.2=d then[q,(q.1,t)] else[q])++eZ d t l:=rfl;rw[g,List.count_append,f,cnt_cons];obtain⟨a,b⟩:=q;have c:b<t:=c;show (if b=d then[(a,b),(a,t)] else[(a,b)]).count (w,e)+_=_
  by_cases i:b=d
  ·grind
  ·grind
def xk(B:Str->List (Str×Str))(hs:List Str)(lns:List (List (Str×Nat))):Prop:=
 ∀(p w:Str) (e:Nat),ia p (w,e) hs lns=if e<hs.length/\p∈hs/\(w,hs.getD e "")∈B p then 1 else 0
theorem xk.split{B:Str->List (Str×Str)}(h:xk B hs lns)(hl:lns.length=hs.length)(r:∀l∈lns,∀q∈l,q.2<hs.length)(hd:d<hs.length)(ns:List Int):xk B (cY hs d) (dW lns d ns):=by
 intro p w e
 have u:lns.getD d []∈lns:=by
  rw[wa3,wa1 (by omega)];exact waN _
 have k:∀l∈(lns++[aX ns (lns.getD d [])]).set d (b0 ns (lns.getD d [])),∀q∈l,q.2<lns.length:=λl b=>by
  rw[hl];rcases wcn b with z |z
  ·rcases waE.mp z with z |z
   ·exact r l z
   ·rw[waq.mp z];exact λq c=>r _ u q (et c)
  ·rw[z];exact λq c=>r _ u q (et c)
 have n:(hs++[hs.getD d ""]).getD d ""=hs.getD d "":=by
  rw[wa3,waG hd,<-wa3]
 have o:(lns++[aX ns (lns.getD d [])]).getD d []=lns.getD d []:=by
  rw[wa3,waG (by omega),<-wa3]
 unfold cY dW;rw[Bc p (z':=(w,if e=lns.length then d else e)) _ _ λl b=>t5 (by omega) w e l (k l b)];have s:=Bb p (w,if e=lns.length then d else e) (b0 ns (lns.getD d [])) (hs++[hs.getD d ""]) (lns++[aX ns (lns.getD d [])]) d (by rw[wa5,wa5];simp[hl]) (by rw[wa5];omega);rw[n,o,yt p _ _ _ hs lns hl.symm]at s;have v:=p0 (λi=>decide ((i:Int)∈ns)) (w,if e=lns.length then d else e) 0 (lns.getD d []);have A:(b0 ns (lns.getD d [])).count (w,if e=lns.length then d else e)+(aX ns (lns.getD d [])).count (w,if e=lns.length then d else e)=(lns.getD d []).count (w,if e=lns.length then d else e):=v;have x:=h p w (if e=lns.length then d else e)
 have y:ia p (w,if e=lns.length then d else e) (hs++[hs.getD d ""]) ((lns++[aX ns (lns.getD d [])]).set d (b0 ns (lns.getD d [])))=ia p (w,if e=lns.length then d else e) hs lns:=by
  by_cases j:hs.getD d ""=p
  ·rw[if_pos j,if_pos j,if_pos j]at s;omega
  ·rw[if_neg j,if_neg j,if_neg j]at s;omega
 rw[y,x]
 have m:p∈hs++[hs.getD d ""]↔p∈hs:=by
  rw[waE,waq];refine⟨λz=>z.elim id λz=>?_,.inl⟩;rw[z,wa3,wa1 hd];exact waN _
 have a:(hs++[hs.getD d ""]).length=hs.length+1:=by rw[wa5];rfl
 by_cases f:e=lns.length
 ·rw[if_pos f]
  have t:(hs++[hs.getD d ""]).getD e ""=hs.getD d "":=by
   rw[f,hl,wa3,waC (waa _),wbC];rfl
  rw[t,a];refine S0 ⟨λz=>⟨by omega,m.mpr z.2.1,z.2.2⟩,λz=>⟨hd,m.mp z.2.1,z.2.2⟩⟩
 ·rw[if_neg f]
  by_cases g:e<hs.length
  ·have t:(hs++[hs.getD d ""]).getD e ""=hs.getD e "":=by
    rw[wa3,waG g,<-wa3]
   rw[t,a];refine S0 ⟨λz=>⟨by omega,m.mpr z.2.1,z.2.2⟩,λz=>⟨g,m.mp z.2.1,z.2.2⟩⟩
  ·rw[if_neg (λz=>g z.1),if_neg (λz=>by have:=z.1;omega)]
theorem xk.line{B:Str->List (Str×Str)}(h:xk B hs lns)(hl:lns.length=hs.length)(g:∀p,(B p).length<=b):∀l∈lns,l.length<=b*hs.length:=by
 intro l j;obtain⟨i,hi,e⟩:=wbQ j;have f:lns[i]?=some l:=by rw[wa1 hi,e]
 have a:hs[i]?=some (hs[i]'(by omega)):=wa1 _;generalize hs[i]'(by omega)=p at a
 have one:∀z,l.count z<=1:=λz=>by
  have c:=kZ (z:=z) a f;have d:=h p z.1 z.2;rw[show ((z.1,z.2):Str×Nat)=z from rfl]at d;rw[d]at c;split at c<;>omega
 have nd:l.Nodup:=List.nodup_iff_count.mpr one
 have sub:∀z∈l,z∈((B p).map (·.1)).flatMap λw=>(waD hs.length).map λe=>(w,e):=λz k=>by
  have c:=kZ (z:=z) a f;have d:=h p z.1 z.2;rw[show ((z.1,z.2):Str×Nat)=z from rfl]at d;rw[d]at c;have m:0<l.count z:=wbZ.mpr k
  by_cases hc:z.2<hs.length/\p∈hs/\(z.1,hs.getD z.2 "")∈B p
  ·exact wcD.mpr ⟨z.1,wab.mpr ⟨_,hc.2.2,rfl⟩,wab.mpr ⟨z.2,wb1.mpr hc.1,rfl⟩⟩
  ·rw[if_neg hc]at c;omega
 have c:=vc nd sub
 have d:(((B p).map (·.1)).flatMap λw=>(waD hs.length).map λe=>(w,e)).length<=(B p).length*hs.length:=by
  have:=vd (λw=>(waD hs.length).map λe=>((w,e):Str×Nat)) hs.length ((B p).map (·.1)) λw _=>by rw[wa0,waK];exact waa _
  rwa[wa0]at this
 exact wal c (wal d (weB _ (g p)))
theorem vA(p:Str)(z:Str×Nat)(f:Str->List (Str×Nat)):∀hs:List Str,hs.Nodup->ia p z hs (hs.map f)=if p∈hs then(f p).count z else 0
 |[],_=>rfl
 |h::hs,nd=>by
  rw[wbF]at nd;show (if h=p then(f h).count z else 0)+ia p z hs (hs.map f)=_;rw[vA p z f hs nd.2]
  by_cases e:h=p
  ·grind
  ·grind
theorem jD{f:Str->Option (Str×Str)}(g:∀r x,f r=some x->x.1=r):∀L:List Str,((L.filterMap f).map (·.1)).Sublist L
 |[]=>.slnil
 |r::L=>by
  rw[wbi]
  cases e:f r with
  |none=>exact(jD g L).cons _
  |some x=>
   show (x.1::(L.filterMap f).map (·.1)).Sublist _;rw[g r x e];exact(jD g L).cons₂ _
theorem zq(nd:(ch g).Nodup)(l:ss.Perm (bS ws "" ws))(hw:∀w∈ws,1<=w.length)(j:p∈ss)(n:Nat):((aV g ws ss ls n p).map (·.1)).Nodup:=by
 rw[<-D5 l hw j n];refine List.Nodup.sublist (jD (λr x e=>?_) _) (by rw[uw];exact yn nd n);unfold L4 at e;split at e
 ·cases e
 ·grind
theorem zr:∀{l:List (Str×Str)},(l.map (·.1)).Nodup->l.Nodup:=by intro l;induction l<;>grind [wdo,wbF]
theorem De{g:List (Str×Str)}{hs:List Str}(nd:g.Nodup)(hn:hs.Nodup)(w:Str)(e:Nat) :
 (((g.filter λq=>decide (q.2∈hs)).map λq=>(q.1,hs.idxOf q.2)):List (Str×Nat)).count (w,e)=if e<hs.length/\(w,hs.getD e "")∈g then 1 else 0:=by
 have inj:∀q∈g.filter (λq=>decide (q.2∈hs)),((q.1,hs.idxOf q.2):Str×Nat)=(w,e)↔(e<hs.length/\q=(w,hs.getD e "")):=λq a=>by
  grind
 have gen:∀L:List (Str×Str),L.Nodup->(∀q∈L,((q.1,hs.idxOf q.2):Str×Nat)=(w,e)↔(e<hs.length/\q=(w,hs.getD e "")))->(L.map λq=>((q.1,hs.idxOf q.2):Str×Nat)).count (w,e)=if e<hs.length/\(w,hs.getD e "")∈L then 1 else 0:=by
  intro L
  induction L with
  |nil=>grind
  |cons q L b=>
   grind
 rw[gen _ (nd.filter _) inj];refine S0 ⟨λz=>⟨z.1,(wau.mp z.2).1⟩,λz=>⟨z.1,wau.mpr ⟨z.2,decide_eq_true ?_⟩⟩⟩;rw[wa3,wa1 z.1];exact waN _
theorem xk.first{g:Str}{ws ss ls:List Str}{n:Nat}{hs:List Str}(nd:(ch g).Nodup)(l:ss.Perm (bS ws "" ws))(hw:∀w∈ws,1<=w.length)(j:∀p∈hs,p∈ss)(hn:hs.Nodup):xk (aV g ws ss ls n) hs (bF g ws ss ls n hs):=by
 intro p w e;unfold bF;rw[vA p (w,e) _ hs hn]
 by_cases h:p∈hs
 ·rw[if_pos h];unfold gN;rw[De (zr (zq nd l hw (j p h) n)) hn];exact S0 ⟨λz=>⟨z.1,h,z.2⟩,λz=>⟨z.1,z.2.2⟩⟩
 ·rw[if_neg h,if_neg (λz=>h z.2.1)]
theorem pW{α:Type}(f:α->Int):∀l:List α,(∀x∈l,0<=f x)->(l.map f).sum=((l.filter λx=>decide (0<f x)).map f).sum:=by intro l;induction l<;>grind [wac,wag,wb6,decide_eq_true,wbb,decide_eq_false]
theorem yu{f:Str->Int}(h:∀p∈ls,0<=f p):((au ls f).map f).sum=(ls.map f).sum:=(pW f ls h).symm
theorem IA{f:Str->Int}(hn:∀p∈ls,0<=f p)(p:Str):bg ((au ls f).map f) (gN g ws ss ls n (au ls f) p)=iJ g ws ss ls n f p:=by
 unfold iJ;rw[pW (λq:Str×Str=>f q.2) (aV g ws ss ls n p) λq a=>hn _ (dU a)];unfold bg gN;rw[wah]
 have e:(aV g ws ss ls n p).filter (λq=>decide (q.2∈au ls f))=(aV g ws ss ls n p).filter λq=>decide (0<f q.2):=whb λq a=>by
  unfold au;exact decide_eq_decide.mpr (by rw[wau];exact⟨λz=>of_decide_eq_true z.2,λz=>⟨dU a,decide_eq_true z⟩⟩)
 rw[e];refine congrArg List.sum (wb2 λq a=>?_)
 have b:q.2∈au ls f:=by
  unfold au;have:=wau.mp a;exact wau.mpr ⟨dU this.1,this.2⟩
 show ((au ls f).map f).getD ((au ls f).idxOf q.2) 0=f q.2;rw[wa3,wa4,(rK b).1];rfl
theorem jr.first{f:Str->Int}(hn:∀p∈ls,0<=f p)(j:GB g ws ss ls many n f):jr many (au ls f) ((au ls f).map f) (bF g ws ss ls n (au ls f)):=by
 have a:∀p∈au ls f,p∈ls/\0<f p:=λp b=>⟨(wau.mp b).1,of_decide_eq_true (wau.mp b).2⟩;refine⟨wa0 _,wa0 _,λw hw=>?_,λl hl q c=>?_,λi l hl=>?_⟩
 ·obtain⟨p,b,rfl⟩:=wab.mp hw;have:=(a p b).2;omega
 ·obtain⟨p,b,rfl⟩:=wab.mp hl;obtain⟨z,d,rfl⟩:=wab.mp c;exact List.idxOf_lt_length_of_mem (of_decide_eq_true (wau.mp d).2)
 ·unfold bF at hl;rw[wa4]at hl
  cases e:(au ls f)[i]? with
  |none=>rw[e]at hl;cases hl
  |some p=>
   rw[e]at hl;cases hl;rw[IA hn,wa3,wa4,e];exact j p (a p (wa8 e)).1
end Bs
namespace L2
open PySem PySem.Calls PySem.Spec PyProof.Rows
theorem t6:∀ns:List Int,preSum (λi=>ns.getD i 0) ns.length=ns.sum
 |[]=>rfl
 |n::ns=>by
  show preSum (λi=>(n::ns).getD i 0) (ns.length+1)=n+ns.sum;rw[PySem.W.kdu_shift,<-t6 ns];rfl
section
variable{X:Cx}
theorem FI(hc:X.calm=true):eN X (.builtin "sum") (λxs H Q=>∃v d kvs ns,xs=[.ref v]/\H v=some (mz v d)/\H d=some (.dK kvs)/\kvs.map (·.2)=wdl V.int ns/\Q (.int ns.sum) H):=by
 intro m s σ H xs U Q I r h;obtain⟨v,d,kvs,ns,rfl,D,hd,hn,q⟩:=h;obtain⟨u,rfl,E⟩:=vals1 r;cases E;obtain⟨Y,lo,c,rel,G⟩:=sG I.b9 hd;obtain⟨ep,f⟩:=G.dictAt;obtain⟨a,_⟩:=(show cq X.prog X.w H s.heap v (mz v d) from I.b9 v _ D);have J:=I.ok.hd hc
 have g:c.length=ns.length:=by
  have:=congrArg wdD hn;rw[wa0,wa0]at this;rw[<-rel.length];exact this
 have L:∀{kvs:List (Key×V)} {c:List (Key×Value)} {ns:List Int},KV kvs c->kvs.map (·.2)=ns.map V.int->∀(i:Nat) (k:Key) (x:Value),c[i]?=some (k,x)->∃t,x=.int (ns.getD i 0) t:=by
  intro kvs c ns r
  induction r generalizing ns with
  |nil=>intro _ i k x e;simp at e
  |@cons p q ps Z h t M=>
   intro e i k x j
   cases ns with
   |nil=>cases e
   |cons n ns=>
    rw[wax,wax]at e;injection e with N O
    cases i with
    |zero=>
     simp at j;have y:=h.2;rw[N,j]at y;exact y
    |succ i=>exact M O i k x (by simpa using j)
 have z:=wgZ (prog:=X.prog) (w:=X.w) (r:=v) (d:=d) (knd:=bz X.prog X.w) (kvs:=c) (ep:=ep);refine call_sum_walkAnyS ?_;obtain⟨R,St,hit,S,st⟩:=z.iter X.A.in1 s J ⟨a,f⟩;refine hit _ _ ⟨s.heap.objs.size,_,_,_,c.length,_,_,λi=>ns.getD i 0,rfl,S.toS,st,λb l=>?_,λi x ⟨k,e⟩=>L rel hn i k x e,λB t' C=>?_⟩
 ·show b<(s.heap.push R).objs.size;rw[size_push'];rcases waH.mp l with e |l
  ·rw[e];exact wbI _
  ·rw[waq.mp l];exact we4 (z.there _ ⟨a,f⟩).2
 ·have hk:∀b o,s.heap.get? b=some o->B.heap.get? b=some o:=λb o e=>
   C.heap b o (λT=>absurd (waf e) (by rw[waq.mp T];exact wbj _)) (wa9 _ e)
  rw[Moved.eq_with C];refine⟨.int ns.sum,H,I.kept (t':=B.toks) hk,⟨t',?_⟩,q⟩;rw[g,t6]
end
section
variable{prog:wat}{w:World}{A:Around}{E:Value->Shared->Prop}{s:Shared}{l I S:Addr}{vs:List Value}{R:wd9->Shared->Prop}{Q:Value->Shared->Prop}
theorem ib{h h':Heap}{p:Addr}{g:Array Value}(e:h.IsList p g)(hk:∀b o,h.get? b=some o->h'.get? b=some o):h'.IsList p g:=let ⟨o,a,r⟩:=e;⟨o,hk _ _ a,r⟩
theorem zt(kf:Nat->Int)(hh:A.handled=none)(hl:s.heap.IsList l vs.toArray)(hI:I=s.heap.objs.size)(NQ:S≠I)(YF:s.heap.objs.size<=S)
 (turn:∀(i:Nat) (v:Value),vs[i]?=some v->∃p items,v=.ref p/\s.heap.IsList p items/\(items.size:Int)=kf i/\(items.size:Int)<2^63)
 (hR:∀(v:Value) (h':Heap) (Df:Nat),v∈vs->(∀b o,s.heap.get? b=some o->h'.get? b=some o)->R (.ok (.ret v)) {s with heap:=h',toks:=Df}) :
 ∀(r j i:Nat) (h:Heap) (tk:Nat) (vb:Value) (tb:Tok) (c:Nat),vs.length-(j+1)=r->j+1<=vs.length->(∀b o,s.heap.get? b=some o->h.get? b=some o) ->
  h.get? S=some (seqObj "list" #[vb,.int (kf i) tb] c)->h.IsListIter I l (j+1)->vs[i]?=some vb ->
  codeAny (model prog w) A (.builtin "min.loop" ⟨[.ref I,.builtin "len",.ref S],[]⟩) R {s with heap:=h,toks:=tk}:=by
 have Bd:(toString "min"++toString ".loop":String)="min.loop":=by decide
 have Dg:l<s.heap.objs.size:=let ⟨o,ho,_⟩:=hl;waf ho
 have Qv:l≠I:=by rw[hI];exact war Dg
 have W:=wff (prog:=prog) (w:=w) (A:=A.in1) hh I l Qv vs.toArray;have hsz:vs.toArray.size=vs.length:=waB ..
 have old:∀{b:Addr} {o:Obj},s.heap.get? b=some o->b≠S/\b≠I:=λ{b o} e=>by
  have hb:b<s.heap.objs.size:=waf e;exact⟨war (waw hb YF),by rw[hI];exact war hb⟩
 intro r
 induction r with
 |zero=>
  intro j i h tk vb tb c hr hj mono nS hit U1;have YG:j+1=vs.length:=by omega
  refine wbG we9 ?_;rw[wbx wbM _];show wpAny _ A.in1 (wen (.ref S) >>= _) _ _ _;refine wa7 (wcU nS rfl ?_);show wpAny _ A.in1 (tryCatch (pyNext (.ref I)) _ >>= _) _ _ _;refine wa7 (wbL (W.done _ _ _ ⟨by rw[hsz,<-YG];exact hit,ib hl mono⟩ λh' Df JU=>?_));have YH:=JU S _ (by simpa using NQ) nS;have s1:=weJ h' S (wcR λ_=>(#[]:Array Value));show wpAny _ A.in1 (wh1 S (λ_=>#[]) >>= _) _ _ _;refine wa7 ?_;refine wdh YH rfl (wa7 (wdm (waz ?_)));exact hR vb _ _ (wa8 U1) λb o e=>(s1.2 b (old e).1).trans (JU b o (by simpa using(old e).2) (mono b o e))
 |succ r ih=>
  intro j i h tk vb tb c hr hj mono nS hit U1;have NR:j+1<vs.length:=by omega
  refine wbG we9 ?_;rw[wbx wbM _];show wpAny _ A.in1 (wen (.ref S) >>= _) _ _ _;refine wa7 (wcU nS rfl ?_);show wpAny _ A.in1 (tryCatch (pyNext (.ref I)) _ >>= _) _ _ _;refine wa7 (wbL (W.item (j+1) _ _ _ (by rw[hsz];exact NR) ⟨hit,ib hl mono⟩ λv h' Df hP Le JU=>?_));have hv:vs[j+1]?=some v:=by simpa using hP
  have yv:∀b o,s.heap.get? b=some o->h'.get? b=some o:=λb o e=>JU b o (by simpa using(old e).2) (mono b o e);have OG:=JU S _ (by simpa using NQ) nS;obtain⟨p,items,rfl,hp,U2,FJ⟩:=turn (j+1) v hv;show wpAny _ A.in1 (tryCatch (holding [wam p] (call (.builtin "len") [.ref p])) _ >>= _) _ _ _;refine wa7 (wbL (wbn (weH (ib hp yv) FJ ?_)));rw[U2];show wpAny _ A.in1 (tryCatch (holding [wam p,.int (kf (j+1)) _] (richCompare .Lt (.int (kf (j+1)) _) (.int (kf i) tb) >>= _)) _ >>= _) _ _ _;refine wa7 (wbL (wbn (wa7 (CmpOf.ints_lt (prog:=prog) (w:=w) (A:=A.in1) (P:=λi v=>∃t,v=.int (kf i) t) kf (λi v h=>h) (j+1) i _ _ _ _ _ ⟨_,rfl⟩ ⟨tb,rfl⟩ ?_))));refine wa7 (wbn (wbN ?_));refine wa7 (wdm (waz ?_))
  by_cases IB:kf (j+1)<kf i
  ·simp only[IB,decide_true,if_true];refine wa7 ?_;refine wdh OG rfl (wa7 (wdm ?_));rw[Bd];have s1:=weJ h' S (wcR λ_=>#[wam p,.int (kf (j+1)) (Df+1)]);obtain⟨c2,U3⟩:∃c2,(h'.update S (wcR λ_=>#[wam p,.int (kf (j+1)) (Df+1)])).get? S=some (seqObj "list" #[wam p,.int (kf (j+1)) (Df+1)] c2):=⟨_,get?_update_seq OG λ_=>#[wam p,.int (kf (j+1)) (Df+1)]⟩;refine waz ⟨wcf wbM _,ih (j+1) (j+1) _ _ _ _ c2 (by omega) NR (λb o e=>(s1.2 b (old e).1).trans (yv b o e)) U3 ?_ hv⟩;obtain⟨U4,NS,U5⟩:=id Le.1;exact⟨U4,(s1.2 I NQ.symm).trans NS,U5⟩
  ·simp only[IB,decide_false,wbV,if_false];refine wa7 (wdm ?_);rw[Bd];exact waz ⟨wcf wbM _,ih (j+1) i _ _ vb tb c (by omega) NR yv OG Le.1 U1⟩
theorem Lf(kf:Nat->Int)(hh:A.handled=none)(hl:s.heap.IsList l vs.toArray)(wZ:0<vs.length)
 (turn:∀(i:Nat) (v:Value),vs[i]?=some v->∃p items,v=.ref p/\s.heap.IsList p items/\(items.size:Int)=kf i/\(items.size:Int)<2^63)
 (hQ:∀(v:Value) (h':Heap) (Df:Nat),v∈vs->(∀b o,s.heap.get? b=some o->h'.get? b=some o)->Q v {s with heap:=h',toks:=Df}) :
 wpAny (model prog w) A (call (.builtin "min") [.ref l] [(wct "key",.builtin "len")]) Q E s:=by
 have Bd:(toString "min"++toString ".loop":String)="min.loop":=by decide
 have Dg:l<s.heap.objs.size:=let ⟨o,ho,_⟩:=hl;waf ho
 refine whN PySem.F.kind_min PySem.F.plain_min PySem.F.entry_min (kmk_min_key _ _) ?_;show wpAny _ A.in1 (wcJ "min" ["key","default"] 0 ⟨[],[(wct "key",.builtin "len")]⟩ >>= _) _ _ s;refine wa7 (whn (show wcJ "min" ["key","default"] 0 ⟨[],[(wct "key",.builtin "len")]⟩=pure [some (.builtin "len"),none] from rfl) ?_);refine wa7 (waz ?_);refine wa7 (wcN hl ?_);refine wa7 (wpAny_newList ?_ (waA _));rw[Bd];have hS:(s.heap.push {cls:=.type "list_iterator",data:=.fields #[.ref l,.int 0 0]}).objs.size=s.heap.objs.size+1:=size_push' ..;have Qv:l≠s.heap.objs.size:=war Dg;have NQ:(s.heap.push {cls:=.type "list_iterator",data:=.fields #[.ref l,.int 0 0]}).objs.size≠s.heap.objs.size:=by rw[hS];exact wcb (wbI _)
 refine waz ⟨wcf wbM _,?_⟩
 have gI:((s.heap.push {cls:=.type "list_iterator",data:=.fields #[.ref l,.int 0 0]}).push (seqObj "list" #[] 0)).get? s.heap.objs.size=some {cls:=.type "list_iterator",data:=.fields #[.ref l,.int 0 0]}:=
  wa9 _ (wav _ rfl)
 have gS:((s.heap.push {cls:=.type "list_iterator",data:=.fields #[.ref l,.int 0 0]}).push (seqObj "list" #[] 0)).get? (s.heap.push {cls:=.type "list_iterator",data:=.fields #[.ref l,.int 0 0]}).objs.size=some (seqObj "list" #[] 0):=wav _ rfl;have Mo:∀b o,s.heap.get? b=some o->((s.heap.push {cls:=.type "list_iterator",data:=.fields #[.ref l,.int 0 0]}).push (seqObj "list" #[] 0)).get? b=some o:=λb o e=>wa9 _ (wa9 _ e)
 have old:∀{b:Addr} {o:Obj},s.heap.get? b=some o->b≠s.heap.objs.size+1/\b≠s.heap.objs.size:=λ{b o} e=>by
  have hb:b<s.heap.objs.size:=waf e;exact⟨war (we4 hb),war hb⟩
 have W:=wff (prog:=prog) (w:=w) (A:=A.in1) hh s.heap.objs.size l Qv vs.toArray;have hsz:vs.toArray.size=vs.length:=waB ..;refine wbG we9 ?_;rw[wbx wbM _];show wpAny _ A.in1 (wen (.ref _) >>= _) _ _ _;refine wa7 (wcU gS rfl ?_);show wpAny _ A.in1 (tryCatch (pyNext (.ref s.heap.objs.size)) _ >>= _) _ _ _;refine wa7 (wbL (W.item 0 _ _ _ (by rw[hsz];exact wZ) ⟨⟨_,gI,rfl,rfl⟩,ib hl Mo⟩ λv h' Df hP Le JU=>?_));have hv:vs[0]?=some v:=by simpa using hP
 have yv:∀b o,s.heap.get? b=some o->h'.get? b=some o:=λb o e=>JU b o (by simpa using(old e).2) (Mo b o e);have OG:=JU _ _ (by simpa using NQ) gS;obtain⟨p,items,rfl,hp,U2,FJ⟩:=turn 0 v hv;show wpAny _ A.in1 (tryCatch (holding [wam p] (call (.builtin "len") [.ref p])) _ >>= _) _ _ _;refine wa7 (wbL (wbn (weH (ib hp yv) FJ ?_)));rw[U2];have s1:=weJ h' (s.heap.push {cls:=.type "list_iterator",data:=.fields #[.ref l,.int 0 0]}).objs.size (wcR λ_=>#[wam p,.int (kf 0) (Df+1)]);obtain⟨c2,U3⟩:∃c2,(h'.update (s.heap.push {cls:=.type "list_iterator",data:=.fields #[.ref l,.int 0 0]}).objs.size (wcR λ_=>#[wam p,.int (kf 0) (Df+1)])).get? (s.heap.push {cls:=.type "list_iterator",data:=.fields #[.ref l,.int 0 0]}).objs.size=some (seqObj "list" #[wam p,.int (kf 0) (Df+1)] c2):=⟨_,get?_update_seq OG λ_=>#[wam p,.int (kf 0) (Df+1)]⟩;show wpAny _ A.in1 (wh1 (s.heap.push {cls:=.type "list_iterator",data:=.fields #[.ref l,.int 0 0]}).objs.size (λ_=>#[wam p,.int (kf 0) (Df+1)]) >>= _) _ _ _;refine wa7 ?_;refine wdh OG rfl ?_;rw[Bd];obtain⟨U4,NS,U5⟩:=id Le.1;refine waz ⟨wcf wbM _,zt kf hh hl rfl NQ (by rw[hS];exact wc1 _) turn hQ _ 0 0 _ _ _ _ c2 rfl wZ (λb o e=>(s1.2 b (by rw[hS];exact(old e).1)).trans (yv b o e)) U3 ⟨U4,(s1.2 _ NQ.symm).trans NS,U5⟩ hv⟩
end
section
variable{X:Cx}{e:Expr}{t:TA}{p p2 kp pos:Pos}
def Qy(K:wa2)(t:TA):TE:=λσ H Q=>t σ H λvs H1=>∃(a:Addr) (ps:List Addr),vs=[.ref a]/\aL K H1 a (ps.map V.ref)/\ps≠[]/\(∀q∈ps,∃ys,aL K H1 q ys)/\∀q∈ps,Q (.ref q) H1
theorem Lg(hc:X.calm=true)(J:Gl X "min")(T:X.mg "min"=none)(l:Gl X "len")(C:X.mg "len"=none)(ha:PA X [e] t)(hs:starEach [e] X.env=[(false,eval e X.env)]:=by rfl):PE X (.Call (.Name "min" p) [e] [⟨some "key",.Name "len" p2,kp⟩] pos) (Qy X.K t):=by
 intro f s σ H Q I h;refine wbv (gE I J T (show waX "min"=some (.builtin "min") from Sx.Nu) ?_ (by decide) (by decide));refine wfz (bY (ha pos f s σ H _ I h) λO z ⟨R,A,g,B,D⟩=>?_) (by rw[hs];rfl) (by rw[hs];rfl);refine weo (gE g l C (show waX "len"=some (.builtin "len") from waJ) (weC ?_) (by decide) (by decide));obtain⟨a,ps,rfl,E,m,n,q⟩:=D;obtain⟨u,rfl,G⟩:=vals1 B;cases G;obtain⟨b,k,pl,w⟩:=g.list E;have hl:b.length=ps.length:=by have:=k.length;rw[wa0]at this;exact this.symm
 have j:∀{ps:List Addr} {b:List Value},Vals (ps.map V.ref) b->b=ps.map wam:=by
  intro ps
  induction ps with
  |nil=>intro b r;cases r;rfl
  |cons x ps L=>
   intro b r
   cases r with
   |cons h t=>rw[L t];cases h;rfl
 have e:=j k;subst e
 have sz:∀q∈ps,∃b:List Value,z.heap.IsList q b.toArray/\b.length<=sizeLine:=λq c=>by
  obtain⟨S,M⟩:=n q c;obtain⟨b,k,pl,w⟩:=g.list M;exact⟨b,pl.isList,by rw[<-k.length];exact w⟩
 have hn:=oN;refine Lf (kf:=λi=>match ps[i]? with |some q=>if c:q∈ps then((Classical.choose (sz q c)).length:Int) else 0 |none=>0) (g.ok.hd hc) pl.isList (by rw[wa0];cases ps with |nil=>exact absurd rfl m |cons _ _=>exact Nat.succ_pos _) (λi v d=>?_) λv U o d hk=>?_
 ·rw[wa4]at d
  cases e:ps[i]? with
  |none=>rw[e]at d;cases d
  |some q=>
   rw[e]at d;cases d;have c:q∈ps:=wa8 e;obtain⟨N,Y⟩:=Classical.choose_spec (sz q c);refine⟨q,_,rfl,N,?_,?_⟩
   ·show _=if c:q∈ps then _ else _
    rw[dif_pos c,waB]
   ·rw[waB];omega
 ·obtain⟨y,c,rfl⟩:=wab.mp d;exact⟨.ref y,A,g.kept (t':=o) hk,rfl,q y c⟩
end
open AutoSeq1 (wpAny_loadPart')
noncomputable abbrev Mp(t:Tok):List (Str×Value):=[(wct "start",.int 1 t)]
theorem FK(l:Addr)(items:Array Value)(n:Nat)(j:Option Addr)(sl:Array (Option Value))(t:Tok) :
 Meets (weL.«enumerate.__new__» ⟨[.type "enumerate",.ref l],Mp t⟩) (λ_ R s=>s.heap.get? l=some {cls:=.type "list",dict:=j,data:=.seq items n,slots:=sl} /\
  R (.ok (.ret (.ref (s.heap.objs.size+1)))) {s with heap:=(s.heap.push {cls:=.type "list_iterator",data:=.fields #[.ref l,.int 0 0]}).push {cls:=.type "enumerate",data:=.fields #[.none,.bool false,.ref s.heap.objs.size,rawInt 1,.none,.none]}}):=
 .of_wp λprog w A R s h=>by
  obtain⟨a,g,d,i,os⟩:=s;obtain⟨hl,h⟩:=h;have b:(a.push {cls:=.type "list_iterator",data:=.fields #[.ref l,.int 0 0]}).objs.size=a.objs.size+1:=wbK ..;have e:=sub_enumerate;have f:Heap.IsList (Shared.heap ⟨a,g,d,i,os⟩) l items:=⟨_,hl,rfl,n,rfl⟩
  wp_walk using wpAny_loadPart' hl
  refine wpAny_stack_any λst=>waz ?_;split
  ·rename_i c _ _ _ _ _;cases(c==weq "enumerate")<;>(wp_walk using wpAny_loadPart' hl,wcN f;exact⟨_,rfl,by rw[b];exact h⟩)
  ·wp_walk using wpAny_loadPart' hl,wcN f
   exact⟨_,rfl,by rw[b];exact h⟩
section
variable{prog:wat}{w:World}{A:Around}{E:Value->Shared->Prop}{s:Shared}
theorem IC(l:Addr)(t:Tok):checkTypeCall "enumerate" ⟨[.ref l],Mp t⟩=pure ():=by kernel_rfl
theorem IE(l:Addr)(t:Tok):weg "enumerate.__new__" ⟨[.type "enumerate",.ref l],Mp t⟩=pure ():=by kernel_rfl
theorem Dh(o l:Addr)(t:Tok):argsOk "object.__init__" ⟨[.ref o,.ref l],Mp t⟩:=by unfold argsOk;kernel_rfl
theorem Di(o l:Addr)(t:Tok):Meets (weL.«object.__init__» ⟨[.ref o,.ref l],Mp t⟩) (λ_ R s=>s.TypeIs (.ref o) "enumerate"/\R (.ok (.ret .none)) s):=by
 have hl:=weU.init.lookup;have c:=weU.made;have a:(some "enumerate.__new__" != some "object.__new__")=true:=by decide
 refine Meets.of_wp λprog w A R s ⟨d,b⟩=>?_
 repeat (any_goals (first |assumption |wp_step))
 exact⟨_,rfl,b⟩
theorem Dj{Q:Value->Shared->Prop}(C:s.heap.IsList l items)
 (h:∀h',IsEnum h' (s.heap.objs.size+1) s.heap.objs.size 1 .none->h'.IsListIter s.heap.objs.size l 0->(∀b o,s.heap.get? b=some o->h'.get? b=some o)->Q (.ref (s.heap.objs.size+1)) {s with heap:=h'}) :
 wpAny (model prog w) A (call (.type "enumerate") [.ref l] (Mp t)) Q E s:=by
 obtain⟨⟨c,f,x,sl⟩,hl,hc,n,hd⟩:=C;have y:c=.type "list":=hc;have z:x=.seq items n:=hd;subst y z;have B:(s.heap.push {cls:=.type "list_iterator",data:=.fields #[.ref l,.int 0 0]}).objs.size=s.heap.objs.size+1:=wbK ..;have a:=weU;obtain⟨c,J,k⟩:=a.mro;have g:=a.made;have m:=a.sub;have L:=a.notType;have M:=a.canCreate;have D:=IC l t;refine wdb (wfT (show wpAny _ _ (callAny (.type "enumerate") _) _ _ _ from waz ⟨wdU _ (by decide+kernel),wbG wgw ?_⟩));rw[wh0 (wgi "enumerate" [.ref l] (Mp t)) (units_type_call_type "enumerate" [.ref l] (Mp t))]
 repeat (any_goals (first |assumption |wp_step))
 have p:((s.heap.push {cls:=.type "list_iterator",data:=.fields #[.ref l,.int 0 0]}).push {cls:=.type "enumerate",data:=.fields #[.none,.bool false,.ref s.heap.objs.size,rawInt 1,.none,.none]}).get? (s.heap.objs.size+1)=some {cls:=.type "enumerate",data:=.fields #[.none,.bool false,.ref s.heap.objs.size,rawInt 1,.none,.none]}:=by
  rw[<-B];exact wav _ rfl
 refine wcd (wcS a.plain F.entry_enumerate_new (whn (IE l t) ((FK l items n f sl t) prog w A.in1 (wants (λv i=>v=.ref (s.heap.objs.size+1)/\i={s with heap:=(s.heap.push {cls:=.type "list_iterator",data:=.fields #[.ref l,.int 0 0]}).push {cls:=.type "enumerate",data:=.fields #[.none,.bool false,.ref s.heap.objs.size,rawInt 1,.none,.none]}}) E) s ⟨hl,rfl,rfl⟩))) λr q j=>?_
 cases r with
 |error e=>exact j
 |ok fl=>
  cases fl with
  |ret obj=>
   obtain⟨rfl,rfl⟩:=j;have u:whR {s with heap:=(s.heap.push {cls:=.type "list_iterator",data:=.fields #[.ref l,.int 0 0]}).push {cls:=.type "enumerate",data:=.fields #[.none,.bool false,.ref s.heap.objs.size,rawInt 1,.none,.none]}} (.ref (s.heap.objs.size+1)) "enumerate":=⟨_,p,rfl⟩;have G:=a.init.lookup;have H:=a.init.bind (.ref (s.heap.objs.size+1));have N:=h _ p ⟨_,wa9 _ (wav _ rfl),rfl,rfl⟩ λb o e=>wa9 _ (wa9 _ e)
   repeat (any_goals (first |assumption |wp_step))
   refine wcd (wcS a.init.plain F.entry_object_init (a.init.check _ _ _ _ _ _ _ _ u (Dh _ l t) ((Di (s.heap.objs.size+1) l t) prog w A.in1 (wants (λv i=>v=.none/\i={s with heap:=(s.heap.push {cls:=.type "list_iterator",data:=.fields #[.ref l,.int 0 0]}).push {cls:=.type "enumerate",data:=.fields #[.none,.bool false,.ref s.heap.objs.size,rawInt 1,.none,.none]}}) E) _ ⟨u,rfl,rfl⟩))) λI O d=>?_
   cases I with
   |error e=>exact d
   |ok OD=>
    cases OD with
    |ret r=>
     obtain⟨rfl,rfl⟩:=d
     repeat (any_goals (first |assumption |wp_step))
    |_=>exact d.elim
  |_=>exact j.elim
theorem Dk{P:Nat->Value->Prop}{St:Nat->Heap->Prop}(D:Draws prog w A it g n P St):Draws prog w A it g (n+1) (λj v=>∃i,j=i+1/\P i v) (λj h=>∃i,j=i+1/\St i h) where
 live:=λ_ _ ⟨i,_,st⟩=>D.live i _ st
 frame:=λ_ h a ⟨i,e,st⟩ hk=>⟨i,e,D.frame i h a st hk⟩
 item:=λ_ s Q E l ⟨i,e,st⟩ b=>D.item i s Q E (by omega) st λx a c d f sb=>b x a c ⟨i,e,d⟩ ⟨i+1,by omega,f⟩ sb
 done:=λs Q E ⟨i,e,st⟩ k=>D.done s Q E ((show n=i by omega) ▸ st) k
theorem FL(g:A.handled=none)(it l:Addr)(items:Array Value)(i:Nat)(p:items[i]?=none):Draws prog w A it [it,l] (i+1) (λ_ _=>False) (λj h=>j=i+1/\h.IsListIter it l i/\h.IsList l items) where
 live:=λ_ _ ⟨_,st,_⟩=>let ⟨o,a,_⟩:=st;⟨o,a⟩
 frame:=λ_ _ _ ⟨e,st,sl⟩ hk=>⟨e,st.at λo q=>hk it (by simp) o q,sl.at λo q=>hk l (by simp) o q⟩
 item:=λ_ _ _ _ b ⟨e,_⟩ _=>absurd e (war b)
 done:=λ_ _ _ ⟨_,st,sl⟩ c=>wpAny_nextOf_list_end g st sl p c
end
noncomputable def IG(K:wa2)(a:Addr):It:=
 ⟨λi H=>∃xs x,aL K H a xs/\xs[i]?=some x,λi H x H'=>∃T xv,H T=none/\x=.ref T/\H'=upd H T (.tup [.int ((i+1:Nat):Int),xv])/\∀xs,aL K H a xs->xs[i]?=some xv,λi H=>∃xs,aL K H a xs/\xs.length<=i⟩
theorem Dl{P:wat}{w:World}{K:wa2}{T:List Expr}{k:Nat}{pos:Pos}(a e it:Addr)(C:e≠it)(U:a≠it):Turn P w K (.Tuple T k pos) (IG K a) [e,it] e (λi h=>(∃old,IsEnum h e it ((i+1:Nat):Int) old)/\h.IsListIter it a i) where
 mem:=by simp
 obj:=λi h st b d=>by
  obtain⟨⟨old,f⟩,o,G,hc,hd⟩:=st;rcases waH.mp d with z |d
  ·exact⟨_,z ▸ f,λv q=>by
    have q':we6 _=wfN v:=q
    cases q'⟩
  ·exact⟨o,waq.mp d ▸ G,λv q=>by rw[hd]at q;cases q⟩
 keep:=λi h h' st k=>⟨st.1.imp λold f=>k e (by simp) _ f,st.2.at λo q=>k it (by simp) o q⟩
 item:=by
  intro X V hw Y hc i B s σ H E I M st Z;subst V hw Y;obtain⟨xs,x,S,hx⟩:=Z;obtain⟨g,rv,p,hz⟩:=I.list S;obtain⟨u,hu,ru⟩:=rv.get hx;obtain⟨⟨old,f⟩,hit⟩:=st;obtain⟨f0,f1,f2,f3,f4,f5⟩:=M e (by simp);obtain⟨g0,g1,g2,g3,g4,g5⟩:=M it (by simp)
  have wZ:e≠a:=λz=>by
   obtain⟨o,G,YJ,_⟩:=p.isList;have j:=f;rw[z]at j;rw[j]at G;cases G;have q:weq "enumerate"=.type "list":=YJ;injection q with q
   exact absurd q (by decide)
  have YK:i<g.length:=(wa6.mp hu).1;refine wfH (i:=i+1) (Dk (Draws.list (A:=X.A.in1) (I.ok.hd hc) it a U g.toArray)) f ⟨i,rfl,hit,p.isList⟩ (by rw[waB];omega) C (by simp[C,wZ]) λy h' tk J G U6 hT hsz hk=>?_;obtain⟨N,e1,J⟩:=J;obtain⟨i2,e2,O,YL⟩:=U6;have e1:N=i:=by omega
  have e2:i2=i+1:=by omega
  subst e1 e2
  have ey:y=u:=by
   rw[List.getElem?_toArray,hu]at J;exact(wae J).symm
  subst ey;refine⟨_,rfl,wdA G λl j D=>?_⟩;have kp:∀b o,b≠e->b≠it->s.heap.get? b=some o->l.get? b=some o:=λb o h1 h2 q=>(D.2 b h1).trans (hk b o h1 h2 q);have Q:e<s.heap.objs.size:=waf f;have Km:s.heap.objs.size≠e:=wcb Q;have N8:l.get? s.heap.objs.size=some {cls:=.type "tuple",data:=.seq #[.int ((N+1:Nat):Int) tk,y]}:=(D.2 _ Km).trans hT;have L:=I.b9.fresh (waa s.heap.objs.size);have t:∀b o,H b=some o->b≠e/\b≠it:=λb o q=>⟨(λz=>by rw[z,f0]at q;cases q),(λz=>by rw[z,g0]at q;cases q)⟩
  have R:jI X.prog X.w (upd H s.heap.objs.size (.tup [.int ((N+1:Nat):Int),x])) l:=by
   intro b o q
   by_cases d:b=s.heap.objs.size
   ·subst d;rw[a7]at q;cases q;exact⟨by show 2<=sizeLine;decide,[.int ((N+1:Nat):Int) tk,y],.cons ⟨_,rfl⟩ (.cons ru .nil),⟨_,N8,rfl,_,rfl⟩⟩
   ·rw[ae d]at q;refine(I.b9 b o q).tW (λc v hc r=>?_) (λc r=>by rw[ae (ag r L)];exact r) λc ys r=>by rw[ae (ag r L)];exact r
    rcases hc with z |z
    ·rw[z]at r ⊢;exact kp b v (t b o q).1 (t b o q).2 r
    ·exact kp c v (t c _ z).1 (t c _ z).2 r
  have I1:Inv X B σ (upd H s.heap.objs.size (.tup [.int ((N+1:Nat):Int),x])) {s with heap:=l,gens:=s.gens,drawn:=s.drawn,toks:=tk+1}:=by
   refine I.step (ch:=[e,it]) (λb d=>?_) (λb o _ _ hc q _=>kp b o (λz=>hc (by simp[z])) (λz=>hc (by simp[z])) q) (λb o _ _ hc q _=>⟨o.slots,kp b o (λz=>hc (by simp[z])) (λz=>hc (by simp[z])) q⟩)
    (λb o _ q n=>by rw[ae (war (waf q))];exact n) (λb o hc q=>⟨o,kp b o (λz=>hc (by simp[z])) (λz=>hc (by simp[z])) q⟩)
    (λb ys r=>by rw[ae (ag r L)];exact r) (λb o u r=>by rw[ae (ag r L)];exact r) (λb ps r=>⟨#[],by rw[ae (ag r L),r];simp⟩)
    (λm ⟨o,es,ep,PZ,r⟩=>⟨o,es,ep,kp _ o (wbc f1) (wbc g1) PZ,r⟩) R I.bare
   rcases waH.mp d with rfl |d
   ·exact⟨f3,f1,f4,f5⟩
   ·have e':b=it:=by simpa using d
    subst e';exact⟨g3,g1,g4,g5⟩
  refine⟨.ref s.heap.objs.size,_,I1,rfl,⟨s.heap.objs.size,x,L,rfl,rfl,λys J=>by rw[I.pF J S];exact hx⟩,⟨⟨y,by simpa using j⟩,?_⟩,λb d=>?_⟩
  ·exact O.at λo q=>(D.2 it (wbc C)).trans q
  ·have:b<s.heap.objs.size:=by
    rcases waH.mp d with rfl |d
    ·exact Q
    ·have e':b=it:=by simpa using d
     subst e';obtain⟨o,q,_⟩:=hit;exact waf q
   rw[ae (war this)];exact(M b d).1
 done:=by
   intro X V hw Y hc i B s σ H E I M st Z;subst V hw Y;obtain⟨xs,S,hx⟩:=Z;obtain⟨g,rv,p,hz⟩:=I.list S;have hl:=rv.length;obtain⟨⟨old,f⟩,hit⟩:=st;obtain⟨g0,g1,g2,g3,g4,g5⟩:=M it (by simp);exact wg7 (FL (A:=X.A.in1) (I.ok.hd hc) it a g.toArray i (wg4 (by simp;omega))) f ⟨rfl,hit,p.isList⟩ λh' eb=>⟨rfl,I.turned (t':=s.toks) (λb o d e=>eb b o d e) g0 g1 g3 g4 g5⟩
 self:=λ_ _ _ _ _ st h=>let ⟨⟨_,f⟩,_⟩:=st;wcO f h
theorem zu{E:Value->Shared->Prop}{Q:Value->Shared->Prop}(l:args.any (·.1)=false)(p:j.any (·.1.isNone)=false)
 (h:wpAny M A (evalArgs (.type T) true args j) (λa g=>wpAny M A (call (.type T) (first++a.pos) a.kw) Q E g) E s):wpAny M A (callWith pos (.type T) first args j) Q E s:=by
 unfold callWith;refine wa7 (wbn (wba h (λa g b=>wa7 (wdz ?_)) λ_ _ x=>x));simp only[l,p,Bool.or_false];exact wa7 (waz (wa7 (wba b (λr c d=>wa7 (wbn (wpAny_point (waz d)))) λ_ _ x=>x)))
section
variable{X:Cx}
def NT(K:wa2)(ta:TA):TI:=λσ H R=>ta σ H λvs H1=>∃a xs,vs=[.ref a]/\aL K H1 a xs/\R (IG K a) H1
theorem IH{g:List Expr}{k j:Nat}{r:Pos}{l:Expr}{C:TA}{p J kp pos:Pos}(T:Gl X "enumerate")(U:X.mg "enumerate"=none)(ha:PA X [l] C)(hs:starEach [l] X.env=[(false,eval l X.env)]:=by rfl) :
 PI X (.Tuple g k r) (.Call (.Name "enumerate" p) [l] [⟨some "start",.Constant (.int 1) j J,kp⟩] pos) (NT X.K C):=by
 intro c s σ H R I h;refine wbv (gE I T U ik ?_ (by decide) (by decide));refine zu (by rw[hs];rfl) rfl ?_
 have w:backTo pos (starEach [l] X.env)=(false,(backTo pos (starEach [l] X.env)).head (by rw[hs];exact λz=>nomatch z) |>.2)::[]:=by
  simp only[hs];rfl
 rw[w];refine evalArgs_kwB rfl ?_;rw[<-w];refine bY (ha pos c s σ H _ I h) λus E ⟨vs,A,G,L,M⟩=>?_;refine weo (bY (ao (X:=X) (i:=1) c E σ A (λx m=>x=.int 1/\m=A) G ⟨rfl,rfl⟩) λv d ⟨y,m,n,N,O,Q⟩=>weC ?_);subst O Q;obtain⟨t,rfl⟩:=N;obtain⟨a,xs,e,S,q⟩:=M;subst e;obtain⟨u,rfl,V⟩:=vals1 L;cases V;obtain⟨Y,rv,pl,hz⟩:=n.list S;refine Dj pl.isList λZ B hit kp=>wcO B ?_;have I3:Inv X c σ m {d with heap:=Z}:=n.kept (t':=d.toks) kp;have o:a<d.heap.objs.size:=let ⟨_,ho,_⟩:=pl.isList;waf ho
 refine⟨d.heap.objs.size+1,[d.heap.objs.size+1,d.heap.objs.size],_,_,m,rfl,I3,Dl a _ _ (wcb (wbI _)) (war o),⟨⟨_,B⟩,hit⟩,λb D=>?_,q⟩
 have f:d.heap.objs.size<=b:=by
  rcases waH.mp D with rfl |D
  ·grind
  ·grind
 exact n.yX f (n.b9.fresh f)
end
theorem FN{K:wa2}{a:Addr}{xs:List V}{g:TG}{C:TS}{D:Ends}{σ:St}{H:Hp}(Pv:Nat->St->Hp->Prop)(h0:Pv 0 σ H)(hl:∀i σ H,i<=xs.length->Pv i σ H->aL K H a xs)
 (hs:∀i x σ H T,xs[i]?=some x->Pv i σ H->H T=none->g (.ref T) σ (upd H T (.tup [.int ((i+1:Nat):Int),x])) λj t=>C {D with nx:=Pv (i+1),ct:=Pv (i+1),bk:=D.nx} j t) (hd:∀σ H,Pv xs.length σ H->D.nx σ H) :
 ∃W:Nat->Nat->St->Hp->Prop,(∃m,W 0 m σ H)/\∀i m σ H,W i m σ H ->
  ((IG K a).stop i H/\D.nx σ H)\/((IG K a).go i H/\∃N:St->Hp->Prop,(∀l r,N l r->∃I,I<m/\W (i+1) I l r)/\∀x r,(IG K a).uG i H x r->g x σ r λj t=>C {D with nx:=N,ct:=N,bk:=D.nx} j t):=by
 refine⟨λi m σ H=>m=xs.length-i/\i<=xs.length/\Pv i σ H,⟨xs.length,by simp,waA _,h0⟩,?_⟩;rintro i m σ H ⟨rfl,hi,p⟩;have q:=hl i σ H hi p
 by_cases b:i<xs.length
 ·refine .inr ⟨⟨xs,xs[i],q,by simp[b]⟩,Pv (i+1),λl r c=>⟨xs.length-(i+1),by omega,rfl,b,c⟩,λx r y=>?_⟩;obtain⟨T,d,f,h,k,y⟩:=y;subst h k;exact hs i d σ _ T (y xs q) p f
 ·have e:i=xs.length:=by omega
  subst e;exact .inl ⟨⟨xs,q,waa _⟩,hd σ H p⟩
end L2
namespace L2
open PySem PySem.Spec PyProof.Rows
def vB(K:wa2)(J:It)(l:Addr)(σf:St)(tt:TT)(te:TE)(H:Hp)(Q:Hp->Prop):Prop:=
 ∃W:Nat->Nat->List V->Hp->Prop,(∃m,W 0 m [] (upd H l (.lst [])))/\∀i m ys H2,W i m ys H2->H2 l=some (.lst ys) /\
  ((J.stop i H2/\Q H2)\/(J.go i H2/\ys.length<sizeLine/\∀x H3,J.uG i H2 x H3->∃p a b c,x=.ref p/\ig K H3 p [a,b,c]/\tt (some a::some b::some c::σf) H3 λok H4=>
    if ok=true then te (some a::some b::some c::σf) H4 λy H5=>H5 l=some (.lst ys)/\∃m',m'<m/\W (i+1) m' (ys++[y]) (upd H5 l (.lst (ys++[y])))
    else ∃m',m'<m/\W (i+1) m' ys H4))
def NU(K:wa2)(wi:TI)(ix:List Nat)(tt:TT)(te:TE):TE:=λσ H Q=>wi σ H λJ H1=>∀l,H1 l=none->vB K J l (pick σ ix) tt te H1 (λH2=>Q (.ref l) H2)
section
variable{X:Cx}{pins:List (Addr×Obj)}{σ:St}{H:Hp}{s₂:Shared}{scope:wd8}{x x2 x3:Str}{ys:List Str}{ix:List Nat}{cl:List (Str×Addr)}{fp:List Addr}{L:Addr}
theorem II(hc:X.calm=true)(B:bZ X scope x ys ix)(g:bZ X scope x2 ys ix)(j:bZ X scope x3 ys ix)(l:x≠x2/\x≠x3/\x2≠x3)(cl L s H ex pn):PG (bH X scope ([x,x2,x3]++ys) cl L s H ex pn) (.Tuple [.Name x t,.Name x2 p,.Name x3 r] C pt) (GO X.K 3 (mn (d5 0) (mn (d5 1) (mn (d5 2) GN)))):=by
 have d:(relabel scope X.env).names.lookup x=some .local:=wcs B.var;have b:(relabel scope X.env).names.lookup x2=some .local:=wcs g.var;have c:(relabel scope X.env).names.lookup x3=some .local:=wcs j.var
 have a:(x::x2::x3::ys).Nodup:=by
  have:=B.nd;have:=g.nd;have:=j.nd
  grind
 exact eB hc (aO (km a rfl (.inl d) (.inr d)) (aO (km a rfl (.inl b) (.inr b)) (aO (km a rfl (.inl c) (.inr c)) cT)))
theorem IJ{K:wa2}{J:It}(h:vB K J l g j r H Q):y2 (GO K 3 (mn (d5 0) (mn (d5 1) (mn (d5 2) GN)))) 3 J l g j r H Q:=
 let ⟨W,a,t⟩:=h
 ⟨W,a,λi m ys k w=>let ⟨p,q⟩:=t i m ys k w;⟨p,q.imp id λ⟨a,b,c⟩=>⟨a,b,λx n o z y=>by revert o;refine ji 3 _ ?_;exact λ_ _ _=>let ⟨p,v,f,d,e,u,s⟩:=c x n y;⟨p,[v,f,d],e,u,rfl,v,[f,d],rfl,f,[d],rfl,d,[],rfl,rfl,⟨[some v,some f,some d],rfl,rfl⟩,s⟩⟩⟩⟩
theorem IK(hc:X.calm=true)(B:bZ X scope x ys ix)(U:bZ X scope x2 ys ix)(B3:bZ X scope x3 ys ix)(g:x≠x2/\x≠x3/\x2≠x3)(hi:PI X (.Tuple [.Name x px,.Name x2 j,.Name x3 p] kt pt) iter wi)
 (ht:∀cl L s H ex pn,JR (bH X scope (x::x2::x3::ys) cl L s H ex pn) r I) (he:∀cl L s H ex pn,PE (bH X scope (x::x2::x3::ys) cl L s H ex pn) t T)
 (hs:∀v,wc4 iter X.env v=pure v:=by intro _;rfl):PE X (.ListComp t [⟨.Tuple [.Name x px,.Name x2 j,.Name x3 p] kt pt,iter,r,0⟩] scope pos) (NU X.K wi ix I T):=
 uR (C:=λJ l a H Q=>vB X.K J l a I T H Q) (xs:=[x,x2,x3]) hc B (II hc B U B3 g) (λ_ _ _ _ _=>IJ) hi ht he hs
end
end L2
namespace Bs
open PySem L2 Sx
noncomputable def cZ(ds:List Nat)(qs:List (Str×Nat)):List (Str×Nat):=qs.filter λq=>decide (q.2∈ds)
theorem yw(h:∀d∈S,d∈T):∀g:List (Str×Nat),(cZ S g).length<=(cZ T g).length
 |[]=>waa _
 |q::g=>by
  have a:=yw h g;unfold cZ at a ⊢
  by_cases b:q.2∈S
  ·rw[wb6 (by exact decide_eq_true b),wb6 (by exact decide_eq_true (h _ b))];exact Nat.succ_le_succ a
  ·rw[wbb (by simpa using b)]
   by_cases c:q.2∈T
   ·rw[wb6 (by exact decide_eq_true c)];exact whc a
   ·rw[wbb (by simpa using c)];exact a
theorem IL(j:List Nat)(g:List (Str×Nat)):(cZ j g).length<=g.length:=wb7 _ _
noncomputable def vC(lns:List (List (Str×Nat)))(many:Int)(ds:List Nat):List Nat:=ds.filter λd=>decide (many<=((cZ ds (lns.getD d [])).length:Int))
def Ek(lns:List (List (Str×Nat)))(many:Int)(S:List Nat):Prop:=∀d∈S,d<lns.length/\many<=((cZ S (lns.getD d [])).length:Int)
structure Above(lns:List (List (Str×Nat)))(many:Int)(ks:List Nat):Prop where
 sub:ks.Sublist (waD lns.length)
 top:∀S,Ek lns many S->∀d∈S,d∈ks
theorem Above.start(lns:List (List (Str×Nat)))(many:Int):Above lns many (waD lns.length):=⟨wfc _,λS h d hd=>wb1.mpr (h d hd).1⟩
theorem Above.next(h:Above lns many g):Above lns many (vC lns many g):=by
 refine⟨wdE.trans h.sub,λS a d hd=>wau.mpr ⟨h.top S a d hd,decide_eq_true ?_⟩⟩;have b:=(a d hd).2;have c:=yw (h.top S a) (lns.getD d []);omega
theorem Above.stays(h:Above lns many g)(e:vC lns many g=g):Ek lns many g:=λd hd=>by
 refine⟨wb1.mp (h.sub.subset hd),?_⟩;rw[<-e]at hd;exact of_decide_eq_true (wau.mp hd).2
theorem IM(e:vC lns many g≠g):(vC lns many g).length<g.length:=by
 have a:(vC lns many g).Sublist g:=wdE;exact Nat.lt_of_le_of_ne a.length_le λz=>e (a.eq_of_length z)
structure p5(lns:List (List (Str×Nat)))(many:Int)(ks:List Nat):Prop where
 ab:Above lns many ks
 st:Ek lns many ks
theorem p6:∀g:List (Str×Nat),(∀q∈g,ws.getD q.2 0<=h)->bg ws g<=(g.length:Int)*h
 |[],_=>by show (0:Int)<=(0:Nat)*h;simp
 |q::g,a=>by
  have c:=p6 g λp b=>a p (wac _ b);have h0:=a q (wag ..);rw[cL,waM,wcu,wg9];show _<=_+1*h;omega
theorem getD_mem{ws:List Int}{i:Nat}(h:i<ws.length):ws.getD i 0∈ws:=by
 grind
theorem Be{many h:Int}{hs:List Str}{ws:List Int}{lns:List (List (Str×Nat))}(S:jr many hs ws lns)(K:p5 lns many [])(t:h∈ws)(C:∀w∈ws,w<=h)(m1:1<=many) :
 ∃(d i:Nat) (g:List (Str×Nat)) (q:Str×Nat),lns[d]?=some g/\g[i]?=some q/\ws.getD d 0=h/\ws.getD q.2 0<h:=by
 have f:=S.w;have v:=S.l
 by_cases s:∃(d i:Nat) (g:List (Str×Nat)) (q:Str×Nat),lns[d]?=some g/\g[i]?=some q/\ws.getD d 0=h/\ws.getD q.2 0<h
 ·exact s
 exfalso
 have all:∀(d:Nat) (g:List (Str×Nat)),lns[d]?=some g->ws.getD d 0=h->∀q∈g,ws.getD q.2 0=h:=λd g hd hw q c=>by
  obtain⟨i,hi,e⟩:=wbQ c;have x:¬ws.getD q.2 0<h:=λz=>s ⟨d,i,g,q,hd,by rw[wa1 hi,e],hw,z⟩;have o:=C _ (getD_mem (ws:=ws) (i:=q.2) (by rw[f];exact S.e g (wa8 hd) q c));omega
 obtain⟨y,j,A⟩:=wbQ t;have x:1<=h:=S.p h t
 have r:Ek lns many ((waD ws.length).filter λd=>decide (ws.getD d 0=h)):=λd hd=>by
  obtain⟨u,n⟩:=wau.mp hd;have u:=wb1.mp u;have n:ws.getD d 0=h:=of_decide_eq_true n;have k:d<lns.length:=by omega
  have c:lns[d]?=some (lns.getD d []):=by rw[wa3,wa1 k];rfl
  refine⟨k,?_⟩;have m:=all d _ c n;have B:cZ ((waD ws.length).filter λd=>decide (ws.getD d 0=h)) (lns.getD d [])=lns.getD d []:=wb8.mpr λq a=>decide_eq_true (wau.mpr ⟨wb1.mpr (by rw[f];exact S.e _ (wa8 c) q a),decide_eq_true (m q a)⟩);rw[B];have o:=S.b d _ c;have D:=p6 (lns.getD d []) λq a=>Int.le_of_eq (m q a);rw[n]at o;have E:many*h<=((lns.getD d []).length:Int)*h:=wdY o D;exact wf3 E (by omega)
 have:=K.ab.top _ r y (wau.mpr ⟨wb1.mpr j,decide_eq_true (by rw[wa3,wa1 j,A];rfl)⟩);cases this
theorem yx(f:Nat->Bool)(ws:List Int):∀(k:Nat) (g:List (Str×Nat)),bg ws (bu f k g)=(((wg6 k g.length).filter f).map λi=>ws.getD (g.getD (i-k) ("",0)).2 0).sum
 |_,[]=>rfl
 |k,q::g=>by
  have a:=yx f ws (k+1) g
  have e:((wg6 (k+1) g.length).filter f).map (λi=>ws.getD ((q::g).getD (i-k) ("",0)).2 0)=((wg6 (k+1) g.length).filter f).map λi=>ws.getD (g.getD (i-(k+1)) ("",0)).2 0:=wb2 λi hi=>by
   have:=(whd.mp (wau.mp hi).1).1;rw[show i-k=(i-(k+1))+1 by omega];rfl
  show bg ws (if f k then q::bu f (k+1) g else bu f (k+1) g)=_;rw[waM,why]
  cases b:f k with
  |true=>
   rw[if_pos rfl,wb6 b,wax,e,cL,a,wbt,wbC];rfl
  |false=>
   rw[if_neg (by decide),wbb (by grind),e,a]
theorem IP{a b:List Int}(h:a.Perm b):a.sum=b.sum:=by
 induction h with
 |nil=>rfl
 |cons x _ c=>grind
 |swap x y l=>grind
 |trans _ _ d e=>grind
theorem Dm{a b:List Nat}(na:a.Nodup)(g:b.Nodup)(h:∀x,x∈a↔x∈b):a.Perm b:=by grind [whH]
theorem Dn(ws:List Int)(g:List (Str×Nat)){ns:List Nat}(nd:ns.Nodup)(j:∀n∈ns,n<g.length):bg ws (b0 (ns.map λn:Nat=>(n:Int)) g)=(ns.map λi=>ws.getD (g.getD i ("",0)).2 0).sum:=by
 unfold b0;rw[yx];refine IP (List.Perm.map _ (Dm ((List.nodup_range' ..).filter _) nd λx=>?_));rw[wau,whd,decide_eq_true_eq,wab];constructor
 ·grind
 ·grind
theorem FO(ws:List Int)(ns:List Int)(g:List (Str×Nat)):bg ws (b0 ns g)+bg ws (aX ns g)=bg ws g:=by
 have gen:∀(f:Nat->Bool) (k:Nat) (l:List (Str×Nat)),bg ws (bu f k l)+bg ws (bu (λi=>!f i) k l)=bg ws l:=by
  intro f k l
  induction l generalizing k with
  |nil=>rfl
  |cons q l a=>
   have a:=a (k+1);show bg ws (if f k then q::bu f (k+1) l else bu f (k+1) l)+bg ws (if !f k then q::bu (λi=>!f i) (k+1) l else bu (λi=>!f i) (k+1) l)=_;rw[cL]
   cases f k with
   |true=>
    rw[if_pos (by decide),if_neg (by decide),cL];omega
   |false=>
    rw[if_neg (by decide),if_pos (by decide),cL];omega
 exact gen _ 0 g
theorem p7{f:Nat->Int}:∀ns:List Nat,(∀n∈ns,f n<=h)->(ns.map f).sum<=(ns.length:Int)*h
 |[],_=>by show (0:Int)<=(0:Nat)*h;simp
 |n::ns,a=>by
  have c:=p7 ns λp b=>a p (wac _ b);have h0:=a n (wag ..);rw[wax,wbt,waM,wcu,wg9];show _<=_+1*h;omega
theorem vD{f:Nat->Int}:∀ns:List Nat,(∀n∈ns,f n<=h)->x∈ns->f x<h->(ns.map f).sum<(ns.length:Int)*h
 |[],_,a,_=>nomatch a
 |n::ns,c,a,b=>by
  have h0:=c n (wag ..);rw[wax,wbt,waM,wcu,wg9];show _<_+1*h;rcases waH.mp a with e |a
  ·have g:=p7 ns λp d=>c p (wac _ d);rw[e]at b;omega
  ·have g:=vD ns (λp d=>c p (wac _ d)) a b;omega
theorem vE{f:Nat->Int}:∀ns:List Nat,(∀n∈ns,1<=f n)->ns≠[]->1<=(ns.map f).sum
 |[],_,h=>absurd rfl h
 |[n],a,_=>by
  have:=a n (wag ..);show 1<=f n+0;omega
 |n::m::ns,a,_=>by
  have h0:=a n (wag ..);have c:=vE (m::ns) (λp b=>a p (wac _ b)) (λz=>nomatch z);rw[wax,wbt];omega
theorem FP{many h w:Int}{hs:List Str}{ws:List Int}{lns:List (List (Str×Nat))}(S:jr many hs ws lns){d i0:Nat}{g:List (Str×Nat)}{ns:List Nat}(T:∀w∈ws,w<=h)(hd:lns[d]?=some g)(hw:ws.getD d 0=h)(m1:1<=many)
 (nd:ns.Nodup) (t:∀n∈ns,n<g.length) (C:ns≠[]) (J:(ns.length:Int)<=many) (r:(ns.length:Int)=many->i0∈ns) (I:ws.getD (g.getD i0 ("",0)).2 0<h)
 (j:(ns.map λi=>ws.getD (g.getD i ("",0)).2 0).sum=many*w):eF ws lns many (d:Int) (ns.map λn:Nat=>(n:Int)) w=true:=by
 have k:=S.w;have q:=S.l;have s:d<lns.length:=(wa6.mp hd).1;have m:lns.getD d []=g:=by rw[wa3,hd];rfl
 have o:g∈lns:=wa8 hd
 have a:∀i,i<g.length->ws.getD (g.getD i ("",0)).2 0∈ws:=λi hi=>by
  have e:g.getD i ("",0)=g[i]:=by rw[wa3,wa1 hi];rfl
  rw[e];exact getD_mem (by rw[k];exact S.e g o _ (waN hi))
 have c:∀n∈ns,1<=ws.getD (g.getD n ("",0)).2 0:=λn hn=>S.p _ (a n (t n hn));have f:∀n∈ns,ws.getD (g.getD n ("",0)).2 0<=h:=λn hn=>T _ (a n (t n hn));have u:=vE ns c C;rw[j]at u
 have x:1<=w:=by
  by_cases z:1<=w
  ·exact z
  ·have:=Int.mul_nonpos_of_nonneg_of_nonpos (show 0<=many by omega) (show w<=0 by omega);omega
 have H:1<=h:=by rw[<-hw];exact S.p _ (getD_mem (by omega))
 have L:w<h:=by
  have lt:many*w<many*h:=by
   rw[<-j]
   by_cases z:(ns.length:Int)=many
   ·have:=vD ns f (r z) I;rw[z]at this;exact this
   ·have y:=p7 ns f;have A:((ns.length:Int)+1)*h<=many*h:=Int.mul_le_mul_of_nonneg_right (by omega) (by omega);rw[wg9]at A;omega
  exact Int.lt_of_mul_lt_mul_left lt (by omega)
 have c1:=Dn ws g nd t;rw[j]at c1;have M:=FO ws (ns.map λn:Nat=>(n:Int)) g;have b:=S.b d g hd;rw[hw]at b
 have B:many*(h-w)<=bg ws (aX (ns.map λn:Nat=>(n:Int)) g):=by
  rw[Int.mul_sub];omega
 have part:∀(l:List (Str×Nat)) (v:Int),1<=v->many*v<=bg ws l->fj ws many l v=true:=λl v D hl=>by
  have hn:l≠[]:=λz=>by
   rw[z]at hl;have y:many*v<=0:=hl;have:=whp (show 0<many by omega) (show 0<v by omega);omega
  unfold fj;rw[decide_eq_true D,decide_eq_true hl]
  cases l with
  |nil=>exact absurd rfl hn
  |cons _ _=>rfl
 unfold eF;rw[waF,m,hw,part _ w x (Int.le_of_eq c1.symm),part _ (h-w) (by omega) B];have E:fm (d:Int) lns.length=true:=by unfold fm;rw[decide_eq_true (by omega),decide_eq_true (by omega)];rfl
 have G:(ns.map λn:Nat=>(n:Int)).all (λi=>fm i g.length)=true:=waU.mpr λi hi=>by
  obtain⟨n,hn,rfl⟩:=wab.mp hi;have:=t n hn;unfold fm;rw[decide_eq_true (by omega),decide_eq_true (by omega)];rfl
 rw[E,G];rfl
noncomputable def nI(ds:List Nat):List Int:=ds.map λn:Nat=>(n:Int)
theorem NV{g:List Nat}{e:Nat}:(e:Int)∈nI g↔e∈g:=by grind [nI]
theorem Bf(e:Nat)(g:List Nat):pJ (.int (e:Int)) ((nI g).map V.int)=decide (e∈g):=by
 rw[vv];exact decide_eq_decide.mpr NV
theorem cH(g:List Nat):(nI g).length=g.length:=wa0 _
theorem vF{g:List Nat}{i n:Nat}(h:g[i]?=some n):((nI g).map V.int)[i]?=some (.int (n:Int)):=by
 unfold nI;rw[wa4,wa4,h];rfl
theorem IQ:∀{a b:List Nat},nI a=nI b->a=b
 |[],[],_=>rfl
 |[],_::_,h=>nomatch h
 |_::_,[],h=>nomatch h
 |x::a,y::b,h=>by
  unfold nI at h;rw[wax,wax]at h;injection h with d c
  rw[IQ (a:=a) (b:=b) c,show x=y by omega]
theorem rN(a b:List Nat):nI (a++b)=nI a++nI b:=wan
structure Reach(lns:List (List (Str×Nat)))(rs:List Nat):Prop where
 cl:∀d∈rs,∀q∈lns.getD d [],q.2∈rs
 lt:∀d∈rs,d<lns.length
 ne:rs≠[]
 nd:rs.Nodup
noncomputable def di(M8:List Str)(f:Str->Int):Str->Int:=λp=>if p∈M8 then f p else 0
theorem vG{α:Type}{f g:α->Int}:∀l:List α,(∀x∈l,f x<=g x)->(l.map f).sum<=(l.map g).sum
 |[],_=>weR _
 |x::l,h=>by
  have:=h x (wag ..);have:=vG l λy a=>h y (wac _ a);rw[wax,wax,wbt,wbt];omega
theorem vH{α:Type}{f:α->Int}{x:α}:∀l:List α,(∀x∈l,0<=f x)->x∈l->0<f x->0<(l.map f).sum
 |y::l,h,a,c=>by
  have h0:=h y (wag ..);have hn:=vk λz b=>h z (wac _ b);rw[wax,wbt];rcases waH.mp a with e |a
  ·rw[<-e];omega
  ·have:=vH l (λz b=>h z (wac _ b)) a c;omega
theorem vI{ls g:List Str}{f:Str->Int}(h:∀p∈ls,0<=f p):∀p∈ls,0<=di g f p:=λp a=>by
 unfold di;split
 ·exact h p a
 ·grind
theorem Bg{ls g:List Str}{f:Str->Int}(h:∀p∈ls,0<=f p):∀p∈ls,di g f p<=f p:=λp a=>by
 unfold di;split
 ·grind
 ·exact h p a
theorem FQ{ls g:List Str}{f:Str->Int}(h:∀p∈ls,0<=f p):(ls.map (di g f)).sum<=(ls.map f).sum:=vG ls (Bg h)
theorem FR{ls:List Str}{f:Str->Int}{rs:List Nat}(h:∀p∈ls,0<=f p)(hl:∀d∈rs,d<(au ls f).length)(g:rs≠[]):0<(ls.map (di (rs.map λd=>(au ls f).getD d "") f)).sum:=by
 cases rs with
 |nil=>exact absurd rfl g
 |cons d rs=>
  have hd:=hl d (wag ..)
  have a:(au ls f).getD d ""∈au ls f:=by
   grind
  obtain⟨b,c⟩:=wau.mp a;refine vH ls (vI h) b ?_;unfold di;rw[if_pos (wab.mpr ⟨d,wag ..,rfl⟩)];exact of_decide_eq_true c
theorem FT{g:Str}{ws ss ls:List Str}{n:Nat}{many:Int}{f:Str->Int}{rs:List Nat}(hn:∀p∈ls,0<=f p)(l:GB g ws ss ls many n f)(R:Reach (bF g ws ss ls n (au ls f)) rs) :
 GB g ws ss ls many n (di (rs.map λd=>(au ls f).getD d "") f):=by
 intro p m
 by_cases h:p∈rs.map λd=>(au ls f).getD d ""
 ·obtain⟨d,hd,rfl⟩:=wab.mp h;have b:=R.lt d hd;have c:d<(au ls f).length:=by unfold bF at b;rwa[wa0]at b
  have j:(bF g ws ss ls n (au ls f)).getD d []=gN g ws ss ls n (au ls f) ((au ls f).getD d ""):=by
   unfold bF;rw[wa3,wa4,wa1 c,wa3,wa1 c];rfl
  have e:iJ g ws ss ls n (di (rs.map λd=>(au ls f).getD d "") f) ((au ls f).getD d "")=iJ g ws ss ls n f ((au ls f).getD d ""):=by
   unfold iJ;refine congrArg List.sum (wb2 λq i=>?_);unfold di
   by_cases a:q.2∈rs.map λd=>(au ls f).getD d ""
   ·rw[if_pos a]
   ·rw[if_neg a]
    by_cases h0:0<f q.2
    ·exfalso;have k:q.2∈au ls f:=wau.mpr ⟨dU i,decide_eq_true h0⟩
     have o:(q.1,(au ls f).idxOf q.2)∈(bF g ws ss ls n (au ls f)).getD d []:=by
      rw[j];unfold gN;exact wab.mpr ⟨q,wau.mpr ⟨i,decide_eq_true k⟩,rfl⟩
     have:=R.cl d hd _ o;refine a (wab.mpr ⟨_,this,?_⟩);show (au ls f).getD ((au ls f).idxOf q.2) ""=q.2;rw[wa3,(rK k).1];rfl
    ·have:=hn _ (dU i);omega
  rw[e];unfold di;rw[if_pos h];exact l _ m
 ·have e:di (rs.map λd=>(au ls f).getD d "") f p=0:=by unfold di;rw[if_neg h]
  rw[e,Int.mul_zero];unfold iJ;exact vk λq i=>vI hn _ (dU i)
end Bs
namespace Sx
open PySem L2 Bs
inductive NW(K:wa2)(vs:List V)(H:Hp)(Q:VK)(eE:XK):Prop
 |mk (v a ds qs) (_:vs=[v,.ref a]) (_:bK K H (cg qs) v) (_:aL K H a ((nI ds).map V.int)) (_:qs.length<=10000) (_:∀y H',a9 H H'->bK K (aM H H') (cg (cZ ds qs)) y->Q y H')
inductive NX(K:wa2)(C:Addr)(vs:List V)(H:Hp)(Q:VK)(eE:XK):Prop
 |mk (x many hs ws lns) (_:vs=[.ref x,.int many]) (_:cn K C H x hs ws lns) (_:lns.length<=1000) (_:(∀l∈lns,l.length<=10000)) (_:∀(l:Addr) (ks:List Nat) (H':Hp),a9 H H'->H l=none->H' l=some (.lst ((nI ks).map V.int))->p5 lns many ks->Q (.ref l) H')
inductive FU(K:wa2)(C:Addr)(vs:List V)(H:Hp)(Q:VK)(eE:XK):Prop
 |mk (x:Addr) (d:Nat) (hs:List Str) (ws:List Int) (lns:List (List (Str×Nat))) (_:vs=[.ref x,.int (d:Int)]) (_:cn K C H x hs ws lns) (_:d<lns.length) (_:(∀l∈lns,∀q∈l,q.2<lns.length)) (_:lns.getD d []≠[]) (_:lns.length<=1000) (_:∀(l:Addr) (rs:List Nat) (H':Hp),a9 H H'->H l=none->H' l=some (.lst ((nI rs).map V.int))->Reach lns rs->Q (.ref l) H')
structure Down(ws:List Int)(lns:List (List (Str×Nat)))(h:Int)(d i:Nat)(qs:List (Str×Nat))(q:Str×Nat):Prop where
 m:h∈ws
 t:∀w∈ws,w<=h
 l:lns[d]?=some qs
 s:qs[i]?=some q
 e:ws.getD d 0=h
 lt:ws.getD q.2 0<h
inductive NY(K:wa2)(C:Addr)(vs:List V)(H:Hp)(Q:VK)(eE:XK):Prop
 |mk (x hs ws lns) (_:vs=[.ref x]) (_:cn K C H x hs ws lns) (_:ws.length=lns.length) (_:(∀l∈lns,∀q∈l,q.2<ws.length)) (_:ws≠[]) (_:(∀h∈ws,(∀w∈ws,w<=h)->∃d i qs q,Down ws lns h d i qs q)) (_:∀(t:Addr) (h:Int) (d i:Nat) (qs:List (Str×Nat)) (q:Str×Nat) (H':Hp),a9 H H'->H' t=some (.tup [.int (d:Int),.int (i:Int)])->Down ws lns h d i qs q->Q (.ref t) H')
inductive Qz(K:wa2)(vs:List V)(H:Hp)(Q:VK)(eE:XK):Prop
 |mk (a b:Addr) (many:Int) (wl:List Int) (nums:List Nat) (_:vs=[.ref a,.ref b,.int many]) (_:aL K H a (wl.map V.int)) (_:aL K H b ((nI nums).map V.int)) (_:1<=many) (_:many<=1000) (_:(nums.length:Int)=many) (_:(∀n∈nums,n<wl.length)) (_:∀(l:Addr) (i j:Nat) (H':Hp),a9 H H'->H l=none->i<j->j<=nums.length->(((nums.take j).drop i).map λn=>wl.getD n 0).sum%many=0->H' l=some (.lst ((nI ((nums.take j).drop i)).map V.int))->Q (.ref l) H')
inductive NZ(K:wa2)(C:Addr)(vs:List V)(H:Hp)(Q:VK)(eE:XK):Prop
 |mk (x many hs ws lns) (_:vs=[.ref x,.int many]) (_:cn K C H x hs ws lns) (_:jr many hs ws lns) (_:p5 lns many []) (_:hs≠[]) (_:hs.length<=1000) (_:(∀l∈lns,l.length<=10000)) (_:1<=many) (_:many<=1000) (_:∀(t l:Addr) (d:Nat) (ns:List Nat) (w:Int) (H':Hp),a9 H H'->H l=none->H t=none->H' t=some (.tup [.int (d:Int),.ref l,.int w])->H' l=some (.lst ((nI ns).map V.int))->eF ws lns many (d:Int) (nI ns) w=true->d<hs.length->ns.length<=1000->Q (.ref t) H')
end Sx
namespace Bs
open PySem L2 Sx
theorem yy:∀(a b:List Int),oQ (a.map V.int) (b.map V.int)=decide (a=b)
 |[],[]=>rfl
 |[],_::_=>rfl
 |_::_,[]=>rfl
 |x::a,y::b=>by
  have d:=yy a b;show (rp (.int x) (.int y)&&oQ (a.map V.int) (b.map V.int))=_;rw[d]
  by_cases h:x=y
  ·subst h
   by_cases c:a=b
   ·subst c;have:rp (.int x) (.int x)=true:=by simp[rp]
    rw[this,decide_eq_true rfl,decide_eq_true rfl];rfl
   ·rw[decide_eq_false c,we1,decide_eq_false λz=>c (wf2 z).2]
  ·have:rp (.int x) (.int y)=false:=by simp[rp,h]
   rw[this,wdq,decide_eq_false λz=>h (wf2 z).1]
theorem jW(a b:List Nat):oQ ((nI a).map V.int) ((nI b).map V.int)=decide (a=b):=by
 rw[yy];exact decide_eq_decide.mpr ⟨IQ,λe=>by rw[e]⟩
theorem yz{p:V->Bool}{f:Nat->Bool}(h:∀n:Nat,p (.int (n:Int))=f n):∀g:List Nat,((nI g).map V.int).filter p=(nI (g.filter f)).map V.int:=by intro n;induction n<;>grind [nI,wb6,wbb]
theorem rP(h:x∈(nI g).map V.int):∃n∈g,x=.int (n:Int):=by grind [nI]
theorem vJ(n:Nat):((waD n).map λi=>V.int (i:Nat))=(nI (waD n)).map V.int:=by
 unfold nI;rw[wah];rfl
noncomputable def dB(rs:List Nat):List (Key×V):=rs.map λn:Nat=>((wb4 (n:Int):Key),V.bl true)
theorem zv(e:Nat):∀rs:List Nat,bE (dB rs) (wb4 (e:Int):Key)=if e∈rs then some (.bl true) else none
 |[]=>rfl
 |r::rs=>by
  have a:=zv e rs
  by_cases h:r=e
  ·subst h;rw[if_pos (wag ..)];exact cw (p:=((wb4 (r:Int):Key),V.bl true)) (r:=dB rs) rfl
  ·have hn:¬(wb4 (r:Int):Key)=wb4 (e:Int):=λz=>h (by grind);rw[show dB (r::rs)=((wb4 (r:Int):Key),V.bl true)::dB rs from rfl,cx hn,a]
   by_cases b:e∈rs
   ·grind
   ·grind
theorem IU{e:Nat}{rs:List Nat}(h:e∉rs):putK (dB rs) (wb4 (e:Int):Key) (.bl true)=dB (rs++[e]):=by
 rw[fR _ (by rw[zv,if_neg h])];unfold dB;rw[wan];rfl
theorem El(rs:List Nat):((dB rs).map λg=>kV g.1)=(nI rs).map V.int:=by
 unfold dB nI;rw[wah,wah];rfl
theorem mK{n:Nat}{rs:List Nat}(nd:rs.Nodup)(h:∀r∈rs,r<n):rs.length<=n:=by
 have:=vc nd λr a=>wb1.mpr (h r a);rwa[waK]at this
theorem Lh(h:g≠[]):∃(z:Nat) (ys:List Nat),g=ys++[z]/\((nI g).map V.int)[((nI g).map V.int).length-1]?=some (.int (z:Int))/\((nI g).map V.int).dropLast=(nI ys).map V.int:=by
 refine⟨g.getLast h,g.dropLast,(wdr h).symm,?_,?_⟩
 ·have e:nI g=nI g.dropLast++[((g.getLast h:Nat):Int)]:=by
   conv=>lhs;rw[<-wdr h]
   exact rN _ _
  rw[e,wan,wa5];show (_++[V.int _])[_+1-1]?=_;rw[Nat.add_sub_cancel,waC (waa _),wbC];rfl
 ·unfold nI;rw[<-whe,<-whe]
noncomputable def lq(wl:List Int)(nums:List Nat)(j:Nat):Int:=((nums.take j).map λn=>wl.getD n 0).sum
theorem FV{wl:List Int}{g:List Nat}{j n:Nat}(h:g[j]?=some n):lq wl g (j+1)=lq wl g j+wl.getD n 0:=by
 unfold lq;rw[waP,h,wan,whL];show _+(wl.getD n 0+0)=_;omega
theorem IV(wl:List Int)(g:List Nat)(h:i<=j):(((g.take j).drop i).map λn=>wl.getD n 0).sum=lq wl g j-lq wl g i:=by grind [lq,wbT,wdG]
theorem IW{wl:List Int}{g:List Nat}{i j:Nat}{many:Int}(h:i<=j)(e:lq wl g i%many=lq wl g j%many):(((g.take j).drop i).map λn=>wl.getD n 0).sum%many=0:=by
 rw[IV wl g h];exact Int.emod_eq_emod_iff_emod_sub_eq_zero.mp e.symm
noncomputable def dR(many:Int)(p:Nat->Int)(n:Nat):List (Key×V):=(waD n).map λi:Nat=>((wb4 (p i%many):Key),V.int (i:Int))
theorem FW{κ:Type}[DecidableEq κ]{k:κ}{v:V}:∀{kvs:List (κ×V)},bE kvs k=some v->(k,v)∈kvs:=by intro kvs;induction kvs<;>grind [Hl,cw,wag,cx,wac]
theorem IX(many:Int)(p:Nat->Int)(n:Nat)(r:Int):(bE (dR many p n) (wb4 r:Key)=none/\∀i,i<n->p i%many≠r)\/∃i,i<n/\p i%many=r/\bE (dR many p n) (wb4 r:Key)=some (.int (i:Int)):=by
 cases h:bE (dR many p n) (wb4 r:Key) with
 |none=>
  refine .inl ⟨rfl,λi hi e=>?_⟩;refine Ht h (wab.mpr ⟨((wb4 (p i%many):Key),V.int (i:Int)),wab.mpr ⟨i,wb1.mpr hi,rfl⟩,?_⟩);show (wb4 (p i%many):Key)=_;rw[e]
 |some v=>
  obtain⟨i,hi,e⟩:=wab.mp (FW h);have a:p i%many=r:=Sum.inl.inj (wc9 e).1;have b:V.int (i:Int)=v:=(wc9 e).2;exact .inr ⟨i,wb1.mp hi,a,by rw[b]⟩
theorem O0{p:Nat->Int}(h:bE (dR many p n) (wb4 (p n%many):Key)=none):putK (dR many p n) (wb4 (p n%many):Key) (.int (n:Int))=dR many p (n+1):=by
 rw[fR _ h];unfold dR;rw[wdf,wan];rfl
theorem O1(many:Int)(p:Nat->Int)(n:Nat):(dR many p n).length=n:=by unfold dR;rw[wa0,waK]
theorem nodup_map_on{α β:Type}{f:α->β}:∀{l:List α},l.Nodup->(∀a∈l,∀b∈l,f a=f b->a=b)->(l.map f).Nodup:=by intro l;induction l<;>grind [wdo,wac,wag]
theorem Dp{many:Int}{p:Nat->Int}{n:Nat}(h0:0<many)(hn:(n:Int)=many)(hd:∀i k,i<k->k<=n->p i%many≠p k%many):False:=by
 have nd:((waD (n+1)).map λi=>(p i%many).toNat).Nodup:=nodup_map_on wfA λa ha b c e=>by
  have ha:=wb1.mp ha;have c:=wb1.mp c;have a0:=wb5 (p a) (show many≠0 by omega);have f:=wb5 (p b) (show many≠0 by omega);have g:p a%many=p b%many:=by grind
  rcases wfd a b with h |h |h
  ·grind
  ·exact h
  ·grind
 have:=mK (n:=n) nd λr d=>by
  obtain⟨i,_,rfl⟩:=wab.mp d;have a0:=wb5 (p i) (show many≠0 by omega);have a1:=wb0 (p i) h0;show (p i%many).toNat<n;omega
 rw[wa0,waK]at this;omega
theorem IY(xs:List Int)(g:i<=j)(l:j<=xs.length):mw (xs.map V.int) (some (i:Int)) (some (j:Int))=((xs.take j).drop i).map V.int:=by grind [mw,HT.Kc,wa0,wdG,web,wdB,wgo]
theorem Em(ns:List Nat)(j:Nat):(nI ns).take j=nI (ns.take j):=by unfold nI;rw[wdB]
theorem Li(ns:List Nat)(j:Nat):(nI ns).drop j=nI (ns.drop j):=by unfold nI;rw[web]
noncomputable def restOf(m i0:Nat):List Nat:=(waD m).filter λn=>decide (n≠i0)
noncomputable def numsOf(m i0 k:Nat):List Nat:=i0::(restOf m i0).take k
theorem Bh:∀{m:Nat},i0<m->(restOf m i0).length=m-1
 |m+1,h=>by
  unfold restOf;rw[wdf,wbw,wa5]
  by_cases e:i0=m
  ·subst e;have b:(waD i0).filter (λn=>decide (n≠i0))=waD i0:=wb8.mpr λn hn=>decide_eq_true (by grind);rw[b,wbb (by simp),waK];rfl
  ·have a:=Bh (i0:=i0) (m:=m) (by omega);unfold restOf at a;rw[a,wb6 (by grind)];show m-1+1=_;omega
theorem Dq(m i0 k:Nat):(numsOf m i0 k).Nodup:=by
 unfold numsOf;refine wbF.mpr ⟨λh=>?_,(wfA.filter _).sublist (wbk _ _)⟩;have:=of_decide_eq_true (wau.mp ((wbk _ _).subset h)).2;exact this rfl
theorem zx(h:i0<m):∀n∈numsOf m i0 k,n<m:=λn hn=>by
 rcases waH.mp hn with rfl |hn
 ·exact h
 ·exact wb1.mp (wau.mp ((wbk _ _).subset hn)).1
theorem Bi(h:i0<m)(hk:k+1<=m):(numsOf m i0 k).length=k+1:=by
 grind [numsOf,waM,Bh]
theorem yA(S:jr many hs ws lns)(D:Down ws lns h d i g q):many<=(g.length:Int):=by
 have a:g∈lns:=wa8 D.l;have c:=S.b d g D.l;have f:=p6 (ws:=ws) (h:=h) g λp j=>D.t _ (getD_mem (by rw[S.w];exact S.e g a p j));rw[D.e]at c;have k:1<=h:=S.p h D.m;exact wf3 (wdY c f) (by omega)
theorem O2(ws:List Int){g:List (Str×Nat)}{n:Nat}(h:n<g.length):(g.map λq=>ws.getD q.2 0).getD n 0=ws.getD (g.getD n ("",0)).2 0:=by
 rw[wa3,wa4,wa1 h,wa3 (l:=g),wa1 h];rfl
theorem Lj{many h:Int}{hs:List Str}{ws:List Int}{lns:List (List (Str×Nat))}(S:jr many hs ws lns)(m1:1<=many){d i0:Nat}{g:List (Str×Nat)}{q:Str×Nat}(D:Down ws lns h d i0 g q){i j:Nat}(p:i<j)(C:j<=(numsOf g.length i0 (many-1).toNat).length)
 (r:((((numsOf g.length i0 (many-1).toNat).take j).drop i).map λn=>(g.map λq=>ws.getD q.2 0).getD n 0).sum%many=0) :
 eF ws lns many (d:Int) (nI (((numsOf g.length i0 (many-1).toNat).take j).drop i)) (((((numsOf g.length i0 (many-1).toNat).take j).drop i).map λn=>(g.map λq=>ws.getD q.2 0).getD n 0).sum/many)=true:=by
 have b:i0<g.length:=(wa6.mp D.s).1;have hl:=yA S D;have u:=Bi (k:=(many-1).toNat) b (by omega);have c:=Dq g.length i0 (many-1).toNat;have f:=zx (k:=(many-1).toNat) b;have m:i0∈numsOf g.length i0 (many-1).toNat:=wag ..;generalize numsOf g.length i0 (many-1).toNat=a at *;have sub:((a.take j).drop i).Sublist a:=(whf _ _).trans (wbk _ _);have len:((a.take j).drop i).length=j-i:=by rw[wbp,wai];omega
 have o:∀n∈(a.take j).drop i,n<g.length:=λn hn=>f n (sub.subset hn);have e:((a.take j).drop i).map (λn=>(g.map λq=>ws.getD q.2 0).getD n 0)=((a.take j).drop i).map λn=>ws.getD (g.getD n ("",0)).2 0:=wb2 λn hn=>O2 ws (o n hn);rw[e]at r ⊢;have v:g.getD i0 ("",0)=q:=by rw[wa3,D.s];rfl
 refine FP S (i0:=i0) D.t D.l D.e m1 (c.sublist sub) o (λz=>?_) ?_ (λz=>?_) (by rw[v];exact D.lt) ?_
 ·rw[z]at len;have:(0:Nat)=j-i:=len;omega
 ·rw[len];omega
 ·have w:(a.take j).drop i=a:=sub.eq_of_length (by grind);rw[w];exact m
 ·have:=wgp ((((a.take j).drop i).map λn=>ws.getD (g.getD n ("",0)).2 0).sum) many;omega
end Bs
namespace L2
open PySem
theorem Ln{X:Cx}(g:X.K=K):OB X (PD K):=by
 subst g;exact fQ
end L2
namespace Bs
open PySem L2 Sx
structure uA(g:Str)(ws ss ls:List Str)(many:Int)(n:Nat)(f:Str->Int):Prop where
 gr:∃most:Int,1<=most/\most<=8/\o9 g ws ss ls many n most f/\∀(m:Int) (h:Str->Int),1<=m->m<most->o9 g ws ss ls many n m h->(ls.map h).sum=0
 ps:0<(ls.map f).sum
 le:(ls.map f).sum<=40
def zy(g:Str)(ws ss ls:List Str)(many:Int)(n:Nat):Prop:=∃most:Int,1<=most/\most<=9/\(∀(m:Int) (h:Str->Int),1<=m->m<most->o9 g ws ss ls many n m h->(ls.map h).sum=0)/\(most=9\/∃f,o9 g ws ss ls many n most f/\40<(ls.map f).sum)
theorem FX{f h:Str->Int}(a:o9 g ws ss ls many n most f)(b:o9 g ws ss ls many n most h):∀p∈ls,f p=h p:=λp c=>by
 have d:=a.top h b.le b.fit p c;have e:=b.top f a.le a.fit p c;omega
theorem FY{f h:Str->Int}(a:o9 g ws ss ls many n most f)(b:o9 g ws ss ls many n most h):(ls.map f).sum=(ls.map h).sum:=congrArg List.sum (wb2 λp c=>FX a b p c)
theorem Dr(f:Str->Int)(ls:List Str):(bI (cI f ls)).map (·.2)=(ls.map f).map V.int:=by simp_all [bI,cI,wah]
theorem Lp{R:Addr->Prop}:(∀y∈ys,∃q,y=.ref q/\R q)->∃ps:List Addr,ys=ps.map V.ref/\∀q∈ps,R q:=by
 induction ys with
 |nil=>exact λ_=>⟨[],rfl,λq h=>nomatch h⟩
 |cons y ys a=>
  intro h;obtain⟨q,rfl,c⟩:=h y (wag ..);obtain⟨ps,rfl,d⟩:=a λz b=>h z (wac _ b)
  exact⟨q::ps,rfl,λr e=>by
   grind⟩
end Bs
namespace Sx
open PySem L2 Bs
inductive IZ(C CO:Addr)(vs:List V)(H:Hp)(Q:VK)(E:XK):Prop
 |mk (x:Addr) (many:Int) (n:Nat) (g:Str) (ws ss ls:List Str) (_:vs=[.ref x,.int many,.int (n:Int)]) (_:aY C H x g ws ss ls) (_:2<=g.length) (_:g.length<=10) (_:ss.length<=900) (_:gK g.length many n) (_:(∀(d:Addr) (f:Str->Int) (H':Hp),a9 H H'->H d=none->H' d=some (.dK (bI (cI f ls)))->uA g ws ss ls many n f->Q (.ref d) H')) (_:(zy g ws ss ls many n->∀H',a9 H H'->E (.ref CO) none H'))
inductive J0(C:Addr)(vs:List V)(H:Hp)(Q:VK)(eE:XK):Prop
 |mk (x d:Addr) (many:Int) (n:Nat) (f:Str->Int) (g:Str) (ws ss ls:List Str) (_:vs=[.ref x,.int many,.int (n:Int),.ref d]) (_:aY C H x g ws ss ls) (_:(∀w∈ws,1<=w.length)) (_:(ch g).Nodup) (_:2<=g.length) (_:g.length<=10) (_:ss.length<=900) (_:gK g.length many n) (_:H d=some (.dK (bI (cI f ls)))) (_:(∀p∈ls,0<=f p)) (_:GB g ws ss ls many n f) (_:0<(ls.map f).sum) (_:∀(dl:Addr) (f':Str->Int) (H':Hp),(∀c o,H c=some o->c≠d->H' c=some o)->H dl=none->H' dl=some (.dK (bI (cI f' ls)))->(∀p∈ls,0<=f' p)->GB g ws ss ls many n f'->0<(ls.map f').sum->(∀p∈ls,f' p<=f p)->(ls.map f').sum<=(ls.map f).sum->Q (.ref dl) H')
end Sx
namespace L2
open PySem Sx Bs
theorem FZ{Ok:Hp->Prop}{Q:Hp->Prop}(R:Nat->V->Hp->Prop)(I:∀i y T g ys,R i y T->T l=some (.lst ys)->(∀b o,T b=some o->b≠l->g b=some o)->R i y g)(U:ml J Ok xs)(hl:H l=none)(hz:xs.length<=sizeLine)(t:∀r,a9 H r->Ok r)
 (he:∀i x C ys,xs[i]?=some x->a9 H C->C l=some (.lst ys)->∃p a b c,x=.ref p/\ig K C p [a,b,c]/\∀Q',(∀y r,a9 C r->R i y r->Q' y r)->te (some a::some b::some c::σf) C Q')
 (hd:∀ys r,a9 H r->r l=some (.lst ys)->ys.length=xs.length->(∀i y,ys[i]?=some y->R i y r)->Q r):vB K J l σf wY te H Q:=by
 refine⟨λi m d g=>m=xs.length-i/\i<=xs.length/\a9 H g/\g l=some (.lst d)/\d.length=i/\∀j y,d[j]?=some y->R j y g,⟨xs.length,by simp,waA _,a9.upd hl,a7,rfl,λj y h=>by simp at h⟩,?_⟩;rintro i m d g ⟨rfl,hi,n,q,f,E⟩;refine⟨q,?_⟩
 by_cases k:i<xs.length
 ·refine .inr ⟨U.go i g (t _ n) k,by rw[f];omega,λx C y=>?_⟩;obtain⟨e,G⟩:=U.uG i g x C (t _ n) k y;subst e;obtain⟨p,a,b,c,rfl,L,M⟩:=he i x _ d G n q;refine⟨p,a,b,c,rfl,L,?_⟩;unfold wY;dsimp only;rw[if_pos rfl];refine M _ λy v w A=>⟨w _ _ q,xs.length-(i+1),by omega,rfl,k,λb o e=>?_,a7,by rw[wa5,f];rfl,λj z s=>?_⟩
  ·rw[ae (ag e hl)];exact w _ _ (n _ _ e)
  ·have u:=w _ _ q;have kp:∀b o,v b=some o->b≠l->(upd v l (.lst (d++[y]))) b=some o:=λb o e N=>by rw[ae N];exact e
   by_cases B:j<d.length
   ·rw[waG B]at s;exact I j z v _ _ (I j z _ _ _ (E j z s) q λb o e _=>w _ _ e) u kp
   ·rw[waC (by omega)]at s
    have D:j-d.length=0:=by
     have:=(wa6.mp s).1;simp at this;omega
    rw[D]at s;cases s;have:j=i:=by omega
    rw[this];exact I i y v _ _ A u kp
 ·have e:i=xs.length:=by omega
  subst e;exact .inl ⟨U.stop g (t _ n),hd d g n q f E⟩
theorem J1{Ok:Hp->Prop}{Q:Hp->Prop}(t:List kU)(hJ:ml J Ok xs)(hl:H l=none)(hz:xs.length<=sizeLine)(C:t.length=xs.length)(T:∀g,a9 H g->Ok g)
 (he:∀(i:Nat) (x:V) (d:kU) j,xs[i]?=some x->t[i]?=some d->a9 H j->∃p a b c,x=.ref p/\ig K j p [a,b,c]/\∀I,(∀y g,a9 j g->bK K (aM j g) d y->I y g)->te (some a::some b::some c::U) j I)
 (hd:∀g,a9 H g->bK K (aM H g) (.lst t) (.ref l)->Q g):vB K J l U wY te H Q:=by
 refine FZ (λi y g=>∀d,t[i]?=some d->∃j o,a9 H j/\j l=some o/\bK K (aM j g) d y) ?_ hJ hl hz T (λi x j n s h k=>?_) (λn g q u m v=>?_)
 ·intro i y E G n r w kp d f;obtain⟨j,o,h,k,r⟩:=r d f;exact⟨j,o,h,k,bK.same (bT k kp) d y r⟩
 ·have hi:i<t.length:=by rw[C];exact(wa6.mp s).1
  obtain⟨p,a,b,c,e,z,A⟩:=he i x t[i] j s (wa1 hi) h;refine⟨p,a,b,c,e,z,λI B=>A I λy g q r=>B y g q λd f=>?_⟩;rw[wa1 hi]at f;cases f;exact⟨j,_,h,k,r⟩
 ·refine hd g q ⟨l,n,rfl,.inl (cf hl u),bx.rJ t n (by rw[C,m]) λi d y f D=>?_⟩;obtain⟨j,o,h,k,r⟩:=v i y D d f;exact bK.same (eW h) d y r
end L2
namespace Bs
open PySem L2 Sx
noncomputable abbrev zz:=Nat×List Nat×Int
noncomputable def zA(s:zz):kU:=.tup [.at (.int (s.1:Int)),oa (nI s.2.1),.at (.int s.2.2)]
set_option genInjectivity true in
inductive Runs(many:Int)(S2:List Str)(Sa:List Int)(Lq:List (List (Str×Nat))):List zz->List Str->List Int->List (List (Str×Nat))->Prop
 |nil:Runs many S2 Sa Lq [] S2 Sa Lq
 |snoc {l:List zz} {hs:List Str} {ws:List Int} {lns:List (List (Str×Nat))} {d:Nat} {ns:List Nat} {w:Int}:Runs many S2 Sa Lq l hs ws lns->eF ws lns many (d:Int) (nI ns) w=true->Runs many S2 Sa Lq (l++[(d,ns,w)]) (cY hs d) (cG ws d w) (dW lns d (nI ns))
noncomputable def t7(a:Addr):List (Str×V):=[("weights",.ref a)]
noncomputable def pX(a b:Addr):List (Str×V):=[("weights",.ref a),("splits",.ref b)]
noncomputable def t8(a b c:Addr):List (Str×V):=[("weights",.ref a),("splits",.ref b),("kept",.ref c)]
noncomputable def vK(a b c d:Addr):List (Str×V):=[("weights",.ref a),("splits",.ref b),("kept",.ref c),("last",.ref d)]
theorem QA(a:Addr):cQ "weights" (.ref a) []=t7 a:=rfl
theorem Mq(a b:Addr):cQ "splits" (.ref b) (t7 a)=pX a b:=by
 show (if ("weights":Str)="splits" then _ else(("weights":Str),V.ref a)::cQ "splits" (.ref b) [])=_;rw[if_neg (by decide+kernel)];rfl
theorem J4(a b c:Addr):cQ "kept" (.ref c) (pX a b)=t8 a b c:=by
 show (if ("weights":Str)="kept" then _ else(("weights":Str),V.ref a)::(if ("splits":Str)="kept" then _ else(("splits":Str),V.ref b)::cQ "kept" (.ref c) []))=_;rw[if_neg (by decide+kernel),if_neg (by decide+kernel)];rfl
theorem En(a b c d:Addr):cQ "last" (.ref d) (t8 a b c)=vK a b c d:=by
 show (if ("weights":Str)="last" then _ else(("weights":Str),V.ref a)::(if ("splits":Str)="last" then _ else(("splits":Str),V.ref b)::(if ("kept":Str)="last" then _ else(("kept":Str),V.ref c)::cQ "last" (.ref d) [])))=_;rw[if_neg (by decide+kernel),if_neg (by decide+kernel),if_neg (by decide+kernel)];rfl
theorem Ds(a b c d:Addr):(vK a b c d).lookup ("last":Str)=some (.ref d):=by
 rw[<-En,aF,if_pos rfl]
theorem Dt(a b c d:Addr):(vK a b c d).lookup ("kept":Str)=some (.ref c):=by
 rw[<-En,aF,if_neg (by decide+kernel),<-J4,aF,if_pos rfl]
theorem zB(a b c d:Addr):(vK a b c d).lookup ("splits":Str)=some (.ref b):=by
 rw[<-En,aF,if_neg (by decide+kernel),<-J4,aF,if_neg (by decide+kernel),<-Mq,aF,if_pos rfl]
structure p8(K:wa2)(C CS:Addr)(H:Hp)(x:Addr)(m:List (Str×Int))(ri:List zz)(ks:List Nat)(hs:List Str)(ws:List Int)(lns:List (List (Str×Nat))):Prop where
 ex:∃dx a b c d,H x=some (.ins C dx (vK a b c d))/\H a=some (.dK (bI m))/\bK K H (.lst (ri.map zA)) (.ref b)/\bK K H (oa (nI ks)) (.ref c)/\cn K CS H d hs ws lns
theorem p8.same(h:p8 K C j H x m g l hs ws lns)(s:a9 H p):p8 K C j p x m g l hs ws lns:=by
 obtain⟨e,a,b,c,d,f,i,k,n,o⟩:=h;exact⟨e,a,b,c,d,s _ _ f,s _ _ i,bK.same s _ _ k,bK.same s _ _ n,o.same s⟩
theorem pY(s:a9 H g):a9 (fP H b) (fP g b):=λc o e=>by
 unfold fP at e ⊢
 by_cases h:c=b
 ·rw[if_pos h]at e;cases e
 ·rw[if_neg h]at e ⊢;exact s _ _ e
theorem Lr:fP (upd H b o) b=fP H b:=by
 funext c;unfold fP
 by_cases h:c=b
 ·rw[if_pos h,if_pos h]
 ·rw[if_neg h,if_neg h,ae h]
theorem vL:a9 (fP H b) H:=fq λ_ _ e _=>e
theorem Eo(h:H b=some o):a9 (aM H g) (fP g b):=by grind [a9,fP,cj,gM,aM]
theorem Bj(s:a9 H g)(h:H b=none):a9 H (fP g b):=λc o e=>gM (s _ _ e) (ag e h)
theorem Ep(g:H t=some (.tup [.int (d:Int),.ref l,.int w]))(j:H l=some (.lst ((nI ns).map V.int))):bK K H (zA (d,ns,w)) (.ref t):=
 ⟨t,_,rfl,g,_,_,rfl,⟨rfl,rfl⟩,_,_,rfl,jV j,_,_,rfl,⟨rfl,rfl⟩,rfl⟩
structure iq(g:Str)(bw ss ls:List Str)(many:Int)(n:Nat)(f:Str->Int)(ri:List zz)(ks:List Nat)(hs:List Str)(ws:List Int)(lns:List (List (Str×Nat))):Prop where
 nn:∀p∈ls,0<=f p
 le:∀p∈ls,f p<=8
 fit:GB g bw ss ls many n f
 ps:0<(ls.map f).sum
 m:(ls.map f).sum<=40
 rn:Runs many (au ls f) ((au ls f).map f) (bF g bw ss ls n (au ls f)) ri hs ws lns
 b:jr many hs ws lns
 cv:xk (aV g bw ss ls n) hs lns
 ln:hs.length<=40
 ko:p5 lns many ks
 ne:ks≠[]
 sl:ri.length<=40
 sb:∀p∈hs,p∈ls
end Bs
namespace Sx
open PySem L2 Bs
inductive J5(K:wa2)(C:Addr)(vs:List V)(H:Hp)(Q:VK)(eE:XK):Prop
 |mk (x hs ws lns) (_:vs=[.ref x]) (_:cn K C H x hs ws lns) (_:hs.length<=10000) (_:ws.length<=10000) (_:lns.length<=10000) (_:(∀l∈lns,l.length<=10000)) (_:∀y H',a9 H H'->cn K C (aM H H') y hs ws lns->Q (.ref y) H')
inductive Ls(K:wa2)(C CS:Addr)(vs:List V)(H:Hp)(Q:VK)(eE:XK):Prop
 |mk (x dx d z:Addr) (u v:V) (m:List (Str×Int)) (ri:List zz) (ks:List Nat) (hs:List Str) (ws:List Int) (lns:List (List (Str×Nat))) (_:vs=[.ref x,.ref d,u,v,.ref z]) (_:H x=some (.ins C dx [])) (_:Rd H d (.dK (bI m))) (_:bK K H (.lst (ri.map zA)) u) (_:bK K H (oa (nI ks)) v) (_:cn K CS H z hs ws lns) (_:hs.length<=10000) (_:ws.length<=10000) (_:lns.length<=10000) (_:(∀l∈lns,l.length<=10000)) (_:ri.length<=10000) (_:∀a b c y H',H' x=some (.ins C dx (vK a b c y))->H a=none->H' a=some (.dK (bI m))->bK K (aM H H') (.lst (ri.map zA)) (.ref b)->bK K (aM H H') (oa (nI ks)) (.ref c)->cn K CS (aM H H') y hs ws lns->(∀b o,H b=some o->b≠x->H' b=some o)->Q .non H')
inductive G0(K:wa2)(C CS:Addr)(vs:List V)(H:Hp)(Q:VK)(eE:XK):Prop
 |mk (x m ri ks hs ws lns) (_:vs=[.ref x]) (_:p8 K C CS H x m ri ks hs ws lns) (_:hs.length<=10000) (_:ws.length<=10000) (_:lns.length<=10000) (_:(∀l∈lns,l.length<=10000)) (_:∀y H',a9 H H'->cn K CS (aM H H') y hs ws lns->Q (.ref y) H')
end Sx
namespace L2
open PySem PySem.Spec PyProof.Rows
theorem under(n:Nat){P:Int->Prop}(h:∀k:Fin n,P ((k.val:Nat):Int))(d:Int)(a:0<=d)(b:d<(n:Int)):P d:=by
 obtain⟨k,rfl⟩:=wfI a;exact h ⟨k,Int.ofNat_lt.mp b⟩
theorem bU{t u:TS}{D:Ends}{σ:St}{H:Hp}(h:∀R:St->Hp->Prop,(∀σ H,u D σ H->R σ H)->t {D with nx:=R} σ H):MR t u D σ H:=h (u D) λ_ _ x=>x
theorem ax{X:Cx}(ys:List Str)(ix:List Nat)(h:oU X.env.scope scope X.N x ys ix=true:=by kernel_rfl):bZ X scope x ys ix:=Cu rfl rfl h
end L2
namespace Bs
open PySem L2 Sx
theorem vM:∀{ws:List Int},(∀w∈ws,1<=w)->(ws.length:Int)<=ws.sum
 |[],_=>weR _
 |w::ws,h=>by
  have h0:=h w (wag ..);have b:=vM (ws:=ws) λx a=>h x (wac _ a);rw[wbt,waM];omega
structure fA(g:Str)(bw ss ls:List Str)(many:Int)(n:Nat)(f:Str->Int)(ri:List zz)(hs:List Str)(ws:List Int)(lns:List (List (Str×Nat))):Prop where
 rn:Runs many (au ls f) ((au ls f).map f) (bF g bw ss ls n (au ls f)) ri hs ws lns
 b:jr many hs ws lns
 cv:xk (aV g bw ss ls n) hs lns
 sm:ws.sum=(ls.map f).sum
 sl:ri.length+(au ls f).length=hs.length
 sb:∀p∈hs,p∈ls
theorem fA.start{f:Str->Int}(nd:(ch g).Nodup)(j:ss.Perm (bS bw "" bw))(hw:∀w∈bw,1<=w.length)(l:∀p∈ls,p∈ss)(hl:ls.Nodup)(hn:∀p∈ls,0<=f p)(r:GB g bw ss ls many n f) :
 fA g bw ss ls many n f [] (au ls f) ((au ls f).map f) (bF g bw ss ls n (au ls f)):=
 ⟨.nil,jr.first hn r,xk.first nd j hw (λp j=>l p (wau.mp j).1) (hl.filter _),yu hn,wh2 _,λp j=>(wau.mp j).1⟩
theorem fA.step{g:Str}{bw ss ls:List Str}{many:Int}{n:Nat}{f:Str->Int}{j:List zz}{hs:List Str}{ws:List Int}{lns:List (List (Str×Nat))}(h:fA g bw ss ls many n f j hs ws lns){d:Nat}{ns:List Nat}{w:Int}(ok:eF ws lns many (d:Int) (nI ns) w=true) :
 fA g bw ss ls many n f (j++[(d,ns,w)]) (cY hs d) (cG ws d w) (dW lns d (nI ns)):=by
 obtain⟨b,hd⟩:=h.b.split ok;have hw:=h.b.w;have hl:=h.b.l;refine⟨.snoc h.rn ok,b,h.cv.split hl h.b.e hd (nI ns),?_,?_,λp a=>?_⟩
 ·rw[Dc (by omega)];exact h.sm
 ·have:=h.sl;unfold cY;rw[wa5,wa5];show j.length+1+_=hs.length+1;omega
 ·unfold cY at a;rcases waE.mp a with a |a
  ·exact h.sb p a
  ·rw[waq.mp a,wa3,wa1 hd];exact h.sb _ (waN hd)
theorem fA.len{f:Str->Int}(h:fA g bw ss ls many n f j hs ws lns):(hs.length:Int)<=(ls.map f).sum:=by
 have:=vM h.b.p;have a:=h.sm;have c:=h.b.w;omega
theorem fA.whole{f:Str->Int}(h:fA g bw ss ls many n f r hs ws lns)(t:(ls.map f).sum<=40)(j:g.length^n<=64):Mm hs ws lns:=by
 have hl:=h.len;refine⟨h.b.w,h.b.l,h.b.e,by omega,λl a=>?_⟩;have c:=h.cv.line h.b.l (b:=64) (λp=>wal (gL g bw ss ls n p) j) l a;have d:64*hs.length<=64*40:=wc8 _ (by omega);omega
def G1(g:Str)(bw ss:List Str)(many:Int)(n:Nat):Prop:=∀j:Nat,1<=j->(j:Int)<=24->¬iM g bw ss (j*n) "" < many^j
end Bs
namespace Sx
open PySem L2 Bs
def U7(CX:Addr)(g:Str)(bw ss:List Str)(many:Int)(n:Nat)(H:Hp)(E:XK):Prop:=∀(k:Nat) (d:Addr) (H':Hp),RX g bw ss many n 24 (.int (k:Nat))->a9 H H'->H d=none->H' d=some (.xd [("length",.int (k:Nat)),("rows",.int (iM g bw ss (k*n) ""))])->E (.ref CX) (some d) H'
inductive Lv(C CX:Addr)(vs:List V)(H:Hp)(Q:VK)(E:XK):Prop
 |mk (x:Addr) (many:Int) (n:Nat) (g:Str) (bw ss ls:List Str) (_:vs=[.ref x,.int many,.int (n:Int)]) (_:aY C H x g bw ss ls) (_:g.length<=10) (_:ss.length<=900) (_:gK g.length many n) (_:(G1 g bw ss many n->∀H',a9 H H'->Q .non H')) (_:U7 CX g bw ss many n H E)
inductive J6(K:wa2)(C CP CS CX CO:Addr)(vs:List V)(H:Hp)(Q:VK)(E:XK):Prop
 |mk (x:Addr) (many:Int) (n:Nat) (g:Str) (bw ss ls:List Str) (_:vs=[.ref x,.int many,.int (n:Int)]) (_:aY C H x g bw ss ls) (_:(∀w∈bw,1<=w.length)) (_:(ch g).Nodup) (_:2<=g.length) (_:g.length<=10) (_:ss.length<=900) (_:gK g.length many n) (_:(G1 g bw ss many n->∀(y:Addr) (f0 f:Str->Int) (ri:List zz) (ks:List Nat) (hs:List Str) (ws:List Int) (lns:List (List (Str×Nat))) (H':Hp),a9 H H'->p8 K CP CS (aM H H') y (cI f ls) ri ks hs ws lns->uA g bw ss ls many n f0->(∀p∈ls,f p<=f0 p)->iq g bw ss ls many n f ri ks hs ws lns->Q (.ref y) H')) (_:U7 CX g bw ss many n H E) (_:(G1 g bw ss many n->zy g bw ss ls many n->∀H',a9 H H'->E (.ref CO) none H'))
end Sx
namespace K50
open PySem L2 Bs Sx
noncomputable def top(i:Nat):Stmt:=PySem.Challenge.pw_bandscribe_k50_whole_read_again.main.body.getD i (.Pass ⟨0,0,0,0⟩)
theorem dm{CX P w K mg base N q g f cd A o s H E}:(uK CX P w K mg base N q g f cd A o s H E).K=K:=rfl
theorem dn{X:Cx}{f}:(X.oM f).K=X.K:=rfl
theorem b5{x p y q e}:(wdt [.Name x p,.Name y q] e).length=2:=rfl
theorem b6{x p y q z r e}:(wdt [.Name x p,.Name y q,.Name z r] e).length=3:=rfl
structure Txt(mg:Str->Option Value):Prop where
 «all»:mg "all"=none
 «any»:mg "any"=none
 «bool»:mg "bool"=none
 «dict»:mg "dict"=none
 «enum»:mg "enumerate"=none
 «int»:mg "int"=none
 «JV»:mg "isinstance"=none
 «len»:mg "len"=none
 «list»:mg "list"=none
 «max»:mg "max"=none
 «min»:mg "min"=none
 «range»:mg "range"=none
 «reversed»:mg "reversed"=none
 «set»:mg "set"=none
 «sorted»:mg "sorted"=none
 «str»:mg "str"=none
 «sum»:mg "sum"=none
structure G2(K:wa2)(C:Addr):Prop where
 cl:BW K C
 bJ:bW K C "writer"
 Er:bW K C "pairs"
structure Lw(K:wa2)(C:Addr):Prop where
 cl:BW K C
 pZ:bW K C "signs"
 vN:bW K C "barred"
 lu:bW K C "moves"
 rQ:bW K C "lasting"
structure J7(K:wa2)(C:Addr):Prop where
 cl:BW K C
 fV:bW K C "homes"
 dF:bW K C "weights"
 cV:bW K C "lines"
structure Lx(K:wa2)(C:Addr):Prop where
 cl:BW K C
 dF:bW K C "weights"
 Bk:bW K C "splits"
 J8:bW K C "kept"
 J9:bW K C "last"
structure G3(K:wa2)(C:Addr):Prop where
 cl:BW K C
 q0:bW K C "scheme"
 vO:bW K C "band"
 Ja:bW K C "many"
 mL:bW K C "wide"
 fV:bW K C "homes"
 cV:bW K C "lines"
 rR:bW K C "opening"
 Es:bW K C "first"
structure Lk(K:wa2)(mg:Str->Option Value) where
 T:Txt mg
 vP:Addr
 vQ:wad
 j9:FnAt K mg "is_whole" (top 16) ["thing"] vP vQ
 lS:Addr
 lT:wad
 ir:FnAt K mg "steps_by_word" (top 18) ["writer"] lS lT
 q9:Addr
 qc:wad
 lz:FnAt K mg "desks_into" (top 19) ["pairs","ends"] q9 qc
 fW:Addr
 js:wad
 f7:Addr
 f9:wad
 fG:Addr
 fH:wad
 gA:Addr
 gB:wad
 jt:Addr
 ju:wad
 oh:Addr
 oi:wad
 t9:Addr
 tf:wad
 jv:FnAt K mg "all_among" (top 23) ["text","signs"] t9 tf
 tj:Addr
 tm:wad
 mM:FnAt K mg "are_signs" (top 24) ["thing"] tj tm
 yB:Addr
 yC:wad
 rS:FnAt K mg "is_word" (top 25) ["thing","signs"] yB yC
 mN:Addr
 mO:wad
 ja:FnAt K mg "check_barred" (top 26) ["barred","signs"] mN mO
 mP:Addr
 mQ:wad
 eR:FnAt K mg "bears_barred" (top 27) ["row","barred"] mP mQ
 lU:Addr
 lV:wad
 iu:FnAt K mg "sorted_places" (top 28) ["barred"] lU lV
 oj:Addr
 om:wad
 jE:FnAt K mg "longest_end" (top 29) ["row","places"] oj om
 qe:Addr
 qf:wad
 lA:FnAt K mg "moves_from" (top 30) ["place","signs","barred","places"] qe qf
 qg:Addr
 qh:wad
 lB:FnAt K mg "leads_into" (top 31) ["ends","lot"] qg qh
 lC:Addr
 qi:wad
 lD:FnAt K mg "live_among" (top 32) ["moves"] lC qi
 iw:Addr
 lW:wad
 jX:Addr
 jY:wad
 jb:Addr
 jc:wad
 jw:Addr
 jx:wad
 mR:Addr
 mS:wad
 oo:Addr
 oq:wad
 tq:Addr
 tu:wad
 lX:Addr
 lY:wad
 vR:Addr
 vS:wad
 mU:Addr
 mV:wad
 vT:Addr
 vU:wad
 p9:FnAt K mg "all_rows" (top 35) ["band","wide"] vT vU
 yD:Addr
 yE:wad
 rT:FnAt K mg "is_rate" (top 36) ["band","many","wide"] yD yE
 qj:Addr
 qk:wad
 eX:FnAt K mg "check_rate" (top 37) ["band","many","wide"] qj qk
 ot:Addr
 ou:wad
 jF:FnAt K mg "longer_rows" (top 38) ["band","rows"] ot ou
 ow:Addr
 oy:wad
 hF:FnAt K mg "blocks_from" (top 39) ["band","place","wide"] ow oy
 tD:Addr
 tE:wad
 mW:FnAt K mg "ends_from" (top 41) ["band","place"] tD tE
 vV:Addr
 vW:wad
 pd:FnAt K mg "all_ends" (top 42) ["band"] vV vW
 mX:Addr
 mY:wad
 fX:FnAt K mg "counts_up_to" (top 43) ["band","length"] mX mY
 ql:Addr
 qm:wad
 lE:FnAt K mg "count_from" (top 44) ["band","place","length"] ql qm
 Et:Addr
 Eu:wad
 zC:FnAt K mg "count" (top 45) ["band","length"] Et Eu
 qo:Addr
 qp:wad
 lF:FnAt K mg "block_ends" (top 47) ["band","wide"] qo qp
 tF:Addr
 tG:wad
 mZ:FnAt K mg "weight_of" (top 48) ["places","weights"] tF tG
 yF:Addr
 yG:wad
 rV:FnAt K mg "lowered" (top 49) ["ends","many","weights"] yF yG
 pe:Addr
 vX:wad
 pf:FnAt K mg "greatest" (top 50) ["band","many","wide","most"] pe vX
 Bl:Addr
 Bm:wad
 vY:FnAt K mg "scarce" (top 51) ["band","many","wide","most"] Bl Bm
 n0:Addr
 n6:wad
 jd:FnAt K mg "copied_steps" (top 53) ["line"] n0 n6
 gO:Addr
 jZ:wad
 oz:Addr
 oA:wad
 hH:FnAt K mg "first_sheet" (top 55) ["band","many","wide","weights"] oz oA
 n7:Addr
 n8:wad
 fY:FnAt K mg "is_number_of" (top 56) ["number","things"] n7 n8
 qt:Addr
 qu:wad
 da:FnAt K mg "check_part" (top 57) ["sheet","many","steps","weight"] qt qu
 qw:Addr
 qx:wad
 lG:FnAt K mg "with_twins" (top 58) ["line","desk","twin"] qw qx
 Ew:Addr
 Ex:wad
 qy:FnAt K mg "split" (top 59) ["sheet","many","desk","numbers","weight"] Ew Ex
 n9:Addr
 nc:wad
 fZ:FnAt K mg "copied_sheet" (top 64) ["sheet"] n9 nc
 iy:Addr
 lZ:wad
 qz:Addr
 qA:wad
 je:Addr
 jf:wad
 cS:FnAt K mg "check_not_scarce" (top 66) ["band","many","wide"] je jf
 fI:Addr
 fJ:wad
 bL:FnAt K mg "weights_of_least_most" (top 67) ["band","many","wide"] fI fJ
 ng:Addr
 nh:wad
 jg:FnAt K mg "reached_from" (top 68) ["sheet","desk"] ng nh
 k6:Addr
 k8:wad
 gP:FnAt K mg "closed_weights" (top 69) ["band","many","wide","weights"] k6 k8
 qE:Addr
 qF:wad
 iN:FnAt K mg "steps_into" (top 70) ["line","desks"] qE qF
 lH:Addr
 qG:wad
 iO:FnAt K mg "kept_desks" (top 71) ["sheet","many"] lH qG
 tH:Addr
 tI:wad
 ni:FnAt K mg "step_down" (top 72) ["sheet"] tH tI
 Bn:Addr
 Bo:wad
 vZ:FnAt K mg "run_by" (top 73) ["weights","numbers","many"] Bn Bo
 qH:Addr
 qI:wad
 lI:FnAt K mg "next_split" (top 74) ["sheet","many"] qH qI
 yH:Addr
 yI:wad
 k9:FnAt K mg "plan_of" (top 75) ["band","many","wide"] yH yI
 m3:Addr
 m4:wad
 iz:FnAt K mg "blocks_behind" (top 77) ["band","wide"] m3 m4
 g7:Addr
 g8:wad
 dX:FnAt K mg "steps_by_new_numbers" (top 78) ["line","kept","many"] g7 g8
 qJ:Addr
 qK:wad
 lJ:FnAt K mg "check_data" (top 79) ["data","many"] qJ qK
 Bp:Addr
 Bq:wad
 qL:FnAt K mg "walked" (top 80) ["lines","desk","data"] Bp Bq
 g9:Addr
 jy:wad
 m6:Addr
 m7:wad
 nj:Addr
 nk:wad
 w4:Addr
 w5:wad
 oB:Addr
 oC:wad
 nq:Addr
 nr:wad
 jz:Addr
 jA:wad
 nu:Addr
 nv:wad
 nA:Addr
 nB:wad
 tJ:Addr
 tK:wad
 fK:FnAt K mg "_law_here" (top 83) ["_law_script","_law_place"] tJ tK
 oE:Addr
 oF:wad
 hO:FnAt K mg "_law_shaken" (top 84) ["_law_cell","_law_many"] oE oF
 tL:Addr
 tM:wad
 nC:FnAt K mg "_law_band" (top 85) ["_law_script"] tL tM
 tN:Addr
 tO:wad
 nD:FnAt K mg "_law_rate" (top 86) ["_law_script","_law_signs"] tN tO
 tP:Addr
 tQ:wad
 nE:FnAt K mg "_law_told" (top 87) ["_law_signs","_law_words","_law_many","_law_wide"] tP tQ
 nF:Addr
 tR:wad
 fL:FnAt K mg "_law_same" (top 88) ["_law_found","_law_data"] nF tR
 aH:Addr
 Br:mg "Reader"=some (.ref aH)
 av:G2 K aH
 yJ:Mk K aH fW
 aB:Addr
 Jb:mg "Band"=some (.ref aB)
 aI:Lw K aB
 Ey:Mk K aB iw
 aD:Addr
 uB:mg "Sheet"=some (.ref aD)
 az:J7 K aD
 qM:Mk K aD gO
 aR:Addr
 Jc:mg "Plan"=some (.ref aR)
 dq:Lx K aR
 Ez:Mk K aR iy
 ak:Addr
 Bt:mg "Writer"=some (.ref ak)
 ai:G3 K ak
 yK:Mk K ak g9
 gb:d8 K aH "__init__" "Reader.__init__" (inClass (top 20) 0) ["self","writer"] fW js
 c9:d8 K aH "blocks_in_window" "Reader.blocks_in_window" (inClass (top 20) 1) ["self"] f7 f9
 cE:d8 K aH "desks_ahead_of" "Reader.desks_ahead_of" (inClass (top 20) 2) ["self","row"] fG fH
 cW:d8 K aH "word_fitting" "Reader.word_fitting" (inClass (top 20) 3) ["self","window"] gA gB
 eG:d8 K aH "words_in" "Reader.words_in" (inClass (top 20) 5) ["self","length"] jt ju
 bP:d8 K aH "read" "Reader.read" (inClass (top 20) 6) ["self","row"] oh oi
 iA:d8 K aB "__init__" "Band.__init__" (inClass (top 33) 0) ["self","signs","barred"] iw lW
 bM:d8 K aB "check_row" "Band.check_row" (inClass (top 33) 1) ["self","row"] jX jY
 ck:d8 K aB "check_place" "Band.check_place" (inClass (top 33) 2) ["self","place"] jb jc
 eI:d8 K aB "check_live" "Band.check_live" (inClass (top 33) 3) ["self","place"] jw jx
 gf:d8 K aB "is_good" "Band.is_good" (inClass (top 33) 4) ["self","row"] mR mS
 hU:d8 K aB "places" "Band.places" (inClass (top 33) 5) ["self"] oo oq
 dM:d8 K aB "live" "Band.live" (inClass (top 33) 6) ["self"] tq tu
 fu:d8 K aB "place_of" "Band.place_of" (inClass (top 33) 7) ["self","row"] lX lY
 gQ:d8 K aB "led" "Band.led" (inClass (top 33) 8) ["self","place","sign"] vR vS
 gg:d8 K aB "longest" "Band.longest" (inClass (top 33) 9) ["self"] mU mV
 dG:d8 K aD "__init__" "Sheet.__init__" (inClass (top 54) 0) ["self","homes","weights","lines"] gO jZ
 iB:d8 K aR "__init__" "Plan.__init__" (inClass (top 65) 0) ["self","weights","splits","kept","last"] iy lZ
 iP:d8 K aR "sheet" "Plan.sheet" (inClass (top 65) 1) ["self"] qz qA
 gi:d8 K ak "__init__" "Writer.__init__" (inClass (top 81) 0) ["self","band","many","wide"] g9 jy
 bB:d8 K ak "behind" "Writer.behind" (inClass (top 81) 1) ["self"] m6 m7
 cz:d8 K ak "ahead" "Writer.ahead" (inClass (top 81) 2) ["self"] nj nk
 w6:d8 K ak "start" "Writer.start" (inClass (top 81) 3) ["self"] w4 w5
 eA:d8 K ak "lead" "Writer.lead" (inClass (top 81) 4) ["self"] oB oC
 cA:d8 K ak "desks" "Writer.desks" (inClass (top 81) 5) ["self"] nq nr
 eJ:d8 K ak "place_at" "Writer.place_at" (inClass (top 81) 6) ["self","desk"] jz jA
 dH:d8 K ak "steps" "Writer.steps" (inClass (top 81) 7) ["self","desk"] nu nv
 cB:d8 K ak "write" "Writer.write" (inClass (top 81) 8) ["self","data"] nA nB
 dN:Addr
 tS:mg "BandError"=some (.ref dN)
 XT:HU K dN "BandError"
 XB:HM K dN
 fM:Addr
 iV:mg "NoSplit"=some (.ref fM)
 iW:fi K fM dN "NoSplit"
 G4:HV K fM
 gR:wbh K (.ref fM) "__init__"=some (some (.builtin "ValueError.__init__"))
 cJ:Addr
 w9:mg "Scarce"=some (.ref cJ)
 ic:fi K cJ dN "Scarce"
 Jd:HV K cJ
 eK:Addr
 gj:wad
 qN:Ar K "__init__" "Scarce.__init__" (inClass (top 12) 0) eK gj
 qO:Binds K gj ["self","length","rows"] []
 yL:wbh K (.ref cJ) "__init__"=some (some (.ref eK))
 yM:wfm K (.ref eK)=true
 m9:wbh K (.ref cJ) "length"=some none
 oG:wbh K (.ref cJ) "rows"=some none
 ph:Addr
 zD:mg "Open"=some (.ref ph)
 we:fi K ph dN "Open"
 O3:HV K ph
 zE:wbh K (.ref ph) "__init__"=some (some (.builtin "ValueError.__init__"))
 nG:∃t,mg "MOST_BLOCKS"=some (.int 24 t)
 nH:∃t,mg "MOST_WEIGHT"=some (.int 8 t)
 gC:∃t,mg "MOST_WEIGHT_IN_ALL"=some (.int 40 t)
 known:∃t,mg "KNOWN_SIGNS"=some (.str fS t)
section
variable{P:wat}{w:World}{K:wa2}{mg:Str->Option Value}{base:Heap}
theorem qP(L:Lk K mg):aT P w K mg base df 1 L.t9 L.tf ["text","signs"] Kr:=by
 have T:=L.T;refine L.jv.F.dJ (N:=["text","signs"]) (λf A outer s H n Q E nd o h=>?_);obtain⟨a,b,rfl,hl,k⟩:=h;refine⟨_,(af (aA (aC (Au rfl) (by rfl) T.all Q1 (a5 (cU rfl (ax ["signs"] [1]) (za (pv 0)) (λ_ _ _ _ _ _=>bo) (λ_ _ _ _ _ _=>(jm xQ (pv 0) (pv 1) rfl))) a8)))),?_⟩
 try dsimp only[dn,dm,b5,b6]
 refine⟨_,rfl,a,rfl,λl e=>comp_map (RO b) (pK a) e (by unfold fh;rw[wa0];exact aw (wal (wdM (aW a)) (by omega))) (λ_ _=>trivial) (λx g p i _ q=>?_) (λj m d=>?_)⟩
 ·obtain⟨c,_,rfl⟩:=wab.mp i;exact⟨_,rfl,_,rfl,_,_,rfl,rfl,q g (a9.refl _)⟩
 ·rw[Fe]at d;refine⟨l,_,rfl,aL.of d,?_⟩;have:=k j m;rw[wfs];exact this
theorem iC(L:Lk K mg):aT P w K mg base df 1 L.mP L.mQ ["row","barred"] (Ks K):=by
 have T:=L.T;refine L.eR.F.dJ (N:=["row","barred"]) (λi A outer s H o Q E nd p h=>?_);obtain⟨r,a,j,rfl,f,hl,k⟩:=h;refine⟨_,(af (aA (aC (As rfl) (by rfl) T.any Q2 (a5 (cU rfl (ax ["row"] [0]) (aP (pv 1)) (λ_ _ _ _ _ _=>bo) (λ_ _ _ _ _ _=>(jm xQ (pv 0) (pv 1) rfl))) a8)))),?_⟩
 try dsimp only[dn,dm,b5,b6]
 refine⟨_,rfl,a,rfl,⟨_,f⟩,λl d=>comp_map (RO r) (aQ K a (j.map V.str)) d (by rw[wa0];exact aw (by omega)) (λg e=>e.seq f) (λx m t n _ q=>?_) (λg e b=>?_)⟩
 ·obtain⟨c,_,rfl⟩:=wab.mp n;exact⟨_,rfl,_,rfl,_,_,rfl,rfl,q m (a9.refl _)⟩
 ·rw[HD]at b;refine⟨l,_,rfl,aL.of b,?_⟩;have:=k g e;rw[wfu];exact this
theorem zF(L:Lk K mg):aT P w K mg base df 2 L.tj L.tm ["thing"] Q3:=by
 have T:=L.T;refine L.mM.F.dJ (N:=["thing"]) (λd A outer s H l Q E nd m h=>?_);obtain⟨x,rfl,S,k⟩:=h;have a:x.length<=sizeLine:=aw (by have:=S.hi;omega);obtain⟨f,b⟩:=L.known
 refine⟨_,(a6 (bD (PW.pt (hZ (dO (cF (aC cM (by rfl) T.JV xc (a5 (pv 0) (a5 (gX (v:=.ty "str") (by rfl) T.str Kq rfl) a8))))) (hZ (aG mr (aC bC (by rfl) T.len waJ (a5 (pv 0) a8)) ao (aU _)) (iX (aG o6 (aC bC (by rfl) T.len waJ (a5 (pv 0) a8)) ao (aU _)))))) (af (aA gy)) aN)
  (af (aA (yW (jm pH (aC Ay (by rfl) T.len waJ (a5 (bp (Ax rfl) (by rfl) T.set Tv (a5 (pv 0) a8)) a8)) (aC bC (by rfl) T.len waJ (a5 (pv 0) a8)) (aU _)) (yV (aq (qP L) L.jv (a5 (pv 0) (a5 (ui (v:=.str fS) (by rfl) b ⟨f,rfl⟩) a8)))))))),?_⟩
 try dsimp only[dn,dm,b5,b6]
 refine⟨_,rfl,_,_,_,true,rfl,iY.str x,rfl,true,rfl,?_⟩;refine cb ?_;refine⟨_,rfl,x,rfl,a,_,_,rfl,rfl,_,rfl,?_⟩;refine HC (by have:=S.lo;simp;omega) ?_;refine⟨_,rfl,x,rfl,a,_,_,rfl,rfl,_,rfl,?_⟩;refine HC (by have:=S.hi;simp;omega) ?_;refine⟨_,rfl,x,rfl,?_,λp g=>?_⟩
 ·have:=S.hi;show x.length+1<wdS;unfold wdS;omega
 refine⟨p,_,rfl,a7,_,rfl,x,rfl,a,rfl,?_⟩;refine⟨_,rfl,?_⟩;refine Tu (by rw[AD S.nd];simp) ?_;refine⟨_,rfl,x,fS,rfl,by have:=S.hi;omega,λi j=>?_⟩;have e:((ch x).all λc=>decide (c∈ch fS))=true:=waU.mpr λc hc=>decide_eq_true (S.sub c hc);rw[e];exact k i ((a9.upd g).trans j)
theorem Du(L:Lk K mg):aT P w K mg base df 2 L.yB L.yC ["thing","signs"] Q4:=by
 have T:=L.T;refine L.rS.F.dJ (N:=["thing","signs"]) (λb A outer s H i Q E nd j h=>?_);obtain⟨x,g,rfl,S,k⟩:=h;have a:x.length<=sizeLine:=aw (by have:=S.hi;omega)
 refine⟨_,(a6 (bD (PW.pt (hZ (dO (cF (aC cM (by rfl) T.JV xc (a5 (pv 0) (a5 (gX (v:=.ty "str") (by rfl) T.str Kq rfl) a8))))) (hZ (aG mr (aC bC (by rfl) T.len waJ (a5 (pv 0) a8)) ao (aU _)) (iX (aG o6 (aC bC (by rfl) T.len waJ (a5 (pv 0) a8)) ao (aU _)))))) (af (aA gy)) aN)
  (af (aA (aq (qP L) L.jv (a5 (pv 0) (a5 (pv 1) a8)))))),?_⟩
 try dsimp only[dn,dm,b5,b6]
 refine⟨_,rfl,_,_,_,true,rfl,iY.str x,rfl,true,rfl,?_⟩;refine cb ?_;refine⟨_,rfl,x,rfl,a,_,_,rfl,rfl,_,rfl,?_⟩;refine HC (by have:=S.lo;simp;omega) ?_;refine⟨_,rfl,x,rfl,a,_,_,rfl,rfl,_,rfl,?_⟩;refine HC (by have:=S.hi;simp;omega) ?_;refine⟨_,rfl,_,rfl,x,g,rfl,by have:=S.hi;omega,λd f=>?_⟩;have e:((ch x).all λc=>decide (c∈ch g))=true:=waU.mpr λc hc=>decide_eq_true (S.sub c hc);rw[e];exact k d f
theorem u0(L:Lk K mg):aT P w K mg base df 3 L.mN L.mO ["barred","signs"] (Kt K):=by
 have T:=L.T;refine L.ja.F.dJ (N:=["barred","signs","number","thing"]) (λj A outer s H q Q E nd r h=>?_);obtain⟨a,g,d,rfl,c,hl,hw,k⟩:=h
 refine⟨_,(a6 (bD (aG o6 (aC b4 (by rfl) T.len waJ (a5 (pv 0) a8)) ao (aU _)) du aN)
  (af (b7 wao rfl (kE (by rfl) T.enum (a5 (pv 0) a8)) (eB rfl (aO (ay (i:=2)) (aO (ay (i:=3)) cT))) (af (bD (dO (cF (aq (Du L) L.rS (a5 (pv 3) (a5 (pv 1) a8))))) du aN))))),?_⟩
 try dsimp only[dn,dm,b5,b6]
 refine⟨_,rfl,a,_,rfl,.inl c,_,_,rfl,rfl,_,rfl,?_⟩;refine HC (by grind) ?_;refine⟨_,rfl,a,_,rfl,c,mB (K:=K) (a:=a) (xs:=d.map V.str) (λi σ b=>a9 H b/\∃e f,σ=[some (.ref a),some (.str g),e,f]) ⟨a9.refl _,none,none,rfl⟩ (λi σ b _ p=>p.1.seq c) ?_ (λσ b p=>k b p.1)⟩;rintro i x σ b T u ⟨l,e,f,rfl⟩ m
 obtain⟨t,rfl,n⟩:∃t,x=.str t/\t∈d:=by
  grind
 refine⟨T,_,rfl,ig.of a7,rfl,_,_,rfl,_,_,rfl,rfl,?_⟩;refine⟨_,rfl,_,rfl,t,g,rfl,hw t n,λv o=>⟨true,rfl,?_⟩⟩;refine cb ?_;exact⟨(l.trans (a9.upd m)).trans o,_,_,rfl⟩
theorem rW(L:Lk K mg):aT P w K mg base df 2 L.lU L.lV ["barred"] (HG K):=by
 have T:=L.T;refine L.iu.F.dJ (N:=["barred","found","word","length","beginning"]) (λM A outer s H vs Q E nd O h=>?_);obtain⟨a,ws,rfl,y,hl,hw,k⟩:=h;have R:=fk O
 refine⟨_,(a6 (aj (i:=1) (E1 (Ap fb gy DZ) rfl rfl (by simp) (by decide)))
  (a6 (b7 wao rfl (aP (pv 0)) (ay (i:=2)) (af (b7 wao rfl (rm rfl T.range (a5 ao (a5 (aC bC (by rfl) T.len waJ (a5 (pv 2) a8)) a8))) (ay (i:=3)) (a6 (aj (i:=4) (cu kD (pv 2) gY (bN (pv 3))))
  (af (bD (dO (cF (aq (iC L) L.eR (a5 (pv 4) (a5 (pv 0) a8))))) (af (eD R (pv 1) (pv 4) gy rfl)) aN))))))
  (af (aA (aC (zc rfl) (by rfl) T.sorted Kp (a5 (pv 1) a8)))))),?_⟩
 try dsimp only[dn,dm,b5,b6]
 intro d hd;refine⟨a7,[((waj "":Key),V.bl true)],rfl,by decide,?_⟩
 have G:a9 H (upd (upd H d (.dK [])) d (.dK (kz [] [((waj "":Key),V.bl true)]))):=by
  rw[DS];exact a9.upd hd
 refine⟨_,rfl,a,rfl,⟨_,G.seq y⟩,dA (K:=K) (a:=a) (xs:=ws.map V.str) (λi σ m=>∃B c v4,σ=[some (.ref a),some (.ref d),B,c,v4]/\a9 H m/\m d=some (.dK (lQ (bS ws "" (ws.take i)))))
  ⟨none,none,none,rfl,G,a7⟩ (λi σ m _ ⟨_,_,_,_,f,_⟩=>f.seq y) ?_ ?_⟩
 ·rintro i x σ m g ⟨B,c,v4,rfl,f,t⟩;have hi:i<ws.length:=by have:=(wa6.mp g).1;rwa[wa0]at this
  obtain⟨wd,p,rfl⟩:∃wd,ws[i]?=some wd/\x=.str wd:=by
   rw[wa4]at g
   cases e:ws[i]? with
   |none=>rw[e]at g;cases g
   |some z=>rw[e]at g;exact⟨z,rfl,(wae g).symm⟩
  have S:wd∈ws:=wa8 p;have U:=hw wd S;have X:ws.take (i+1)=ws.take i++[wd]:=by rw[waP,p];rfl
  have Y:(bS ws "" (ws.take i)).length<=30:=by
   have:=nV (ws:=ws) (e:="") (us:=ws.take i) λv Z=>hw v (wc2 Z);rw[wai]at this;omega
  refine⟨_,rfl,wd,rfl,aw (by omega),1,_,rfl,⟨by decide,by decide,by omega,by omega⟩,?_⟩;have en:((wd.length:Int)-1).toNat=wd.length-1:=by omega
  refine dC (lo:=1) (n:=((wd.length:Int)-1).toNat) (λj σ u=>∃c v4,σ=[some (.ref a),some (.ref d),some (.str wd),c,v4]/\a9 H u/\u d=some (.dK (lQ (upTo ws wd (bS ws "" (ws.take i)) j))))
   ⟨c,v4,rfl,f,t⟩ ?_ ?_
  ·rintro j σ u hj ⟨c,v4,rfl,q,C⟩;have ec:(1+(j:Int))=((1+j:Nat):Int):=by omega
   refine⟨_,rfl,_,rfl,_,rfl,wd,rfl,aw (by omega),?_⟩;rw[ec];have Sb:=uT ws wd (bS ws "" (ws.take i)) j;refine⟨_,rfl,_,rfl,dE wd (1+j),a,ws,rfl,q.seq y,by omega,λH4 D=>⟨_,rfl,?_⟩⟩;have I:=D _ _ C
   cases J:bears ws (dE wd (1+j)) with
   |true=>
    refine cb ?_;refine⟨_,_,rfl,q.trans D,?_⟩;rw[I,gH];unfold rz;rw[if_pos J]
   |false=>
    refine fO ?_;refine⟨_,rfl,_,rfl,d,_,rfl,ky.k (k:=waj (dE wd (1+j))) I (by rw[Fg];exact bq (by omega)),?_⟩;refine⟨_,_,rfl,λb o e=>?_,?_⟩
    ·rw[ae (ag e hd)];exact D _ _ (q _ _ e)
    ·rw[a7,Ff,gH];unfold rz;rw[if_neg (by rw[J];exact wap)]
  ·rintro σ u ⟨c,v4,rfl,q,C⟩;refine⟨_,c,v4,rfl,q,?_⟩;rw[C,X,Cq,en];rfl
 ·rintro σ m ⟨B,c,v4,rfl,f,t⟩;rw[wa0,waI]at t;have Wq:=nV (ws:=ws) (e:="") (us:=ws) hw;refine⟨_,rfl,d,_,_,rfl,t,Cv _,by omega,λl ss r hp hs=>?_⟩;exact k l ss _ (f.trans (a9.upd r)) (f.free r) a7 hp hs
theorem wg(L:Lk K mg):aT P w K mg base df 1 L.oj L.om ["row","places"] (Nb K):=by
 refine L.jE.F.dJ (N:=["row","places","cut"]) (λq A outer s H x Q E nd y h=>?_);obtain⟨r,a,ps,rfl,t,u,hl,k⟩:=h
 refine⟨_,(a6 (aj (i:=2) ao)
  (a6 (jL wao (aG ku (cu kD (pv 0) (bN (pv 2)) gY) (pv 1) rfl) (af (uF (i:=2) nd rfl (wdQ rfl) ao GQ)))
  (af (aA (cu kD (pv 0) (bN (pv 2)) gY))))),?_⟩
 try dsimp only[dn,dm,b5,b6]
 refine⟨λm σ c=>∃n:Nat,n<=r.length/\m=r.length-n/\σ=[some (.str r),some (.ref a),some (.int (n:Int))]/\a9 H c/\∀j,j<n->dj r j∉ps,⟨r.length,0,waA _,rfl,rfl,a9.refl _,λj d=>absurd d (wcL j)⟩,?_⟩;rintro m σ c ⟨n,hn,rfl,rfl,f,o⟩;refine⟨_,rfl,_,rfl,_,rfl,r,rfl,aw (by omega),_,rfl,a,_,rfl,.inl (f.seq t),rfl,fD ps,_,rfl,?_⟩;rw[if_pos rfl,jN]
 by_cases h:dj r n∈ps
 ·have e:decide (wb9 r (some (n:Int)) none∈ps)=true:=decide_eq_true h;rw[e];refine cb ?_;refine⟨_,rfl,_,rfl,_,rfl,r,rfl,aw (by omega),?_⟩;have:=k c f;unfold lend at this;rw[uV h o hn]at this;exact this
 ·have e:decide (wb9 r (some (n:Int)) none∈ps)=false:=decide_eq_false h;rw[e];refine fO ?_
  have g:n<r.length:=by
   rcases weV hn with z |z
   ·exact z
   ·subst z;rw[rA]at h;exact absurd u h
  refine⟨λb p=>∃l:Nat,l=n+1/\b=[some (.str r),some (.ref a),some (.int (l:Int))]/\a9 H p,?_,?_⟩
  ·rintro b p ⟨l,rfl,rfl,v⟩;refine⟨r.length-(n+1),by omega,n+1,g,rfl,rfl,v,λj d=>?_⟩;rcases weV (Nat.le_of_lt_succ d) with z |z
   ·exact o j z
   ·rw[z];exact h
  ·exact⟨_,rfl,_,_,rfl,rfl,n+1,rfl,rfl,f⟩
theorem xm(L:Lk K mg):aT P w K mg base df 2 L.qe L.qf ["place","signs","barred","places"] (Ku K):=by
 refine L.lA.F.dJ (N:=["place","signs","barred","places","moves","sign","row"]) (λR A outer s H vs Q E nd S h=>?_);obtain⟨p,g,a,b,l,ps,rfl,T,U,V,X,Y,B,C,k⟩:=h;have Z:=fk S
 refine⟨_,(a6 (aj (i:=4) dD)
  (a6 (b7 wao rfl (za (pv 1)) (ay (i:=5)) (a6 (aj (i:=6) (aK oO (pv 0) (pv 5)))
  (af (eD Z (pv 4) (pv 5) (Af (cF (aq (iC L) L.eR (a5 (pv 6) (a5 (pv 2) a8)))) gD (aq (wg L) L.jE (a5 (pv 6) (a5 (pv 3) a8)))) rfl))))
  (af (aA (pv 4))))),?_⟩
 try dsimp only[dn,dm,b5,b6]
 intro d hd
 refine⟨_,rfl,g,rfl,my (pK g) (λi σ f=>∃r v6,σ=[some (.str p),some (.str g),some (.ref a),some (.ref b),some (.ref d),r,v6]/\a9 H f/\f d=some (.dK (((ch g).take i).map λc=>((waj (⟨#[c]⟩:Str):Key),uo l ps p c))))
  ⟨none,none,rfl,a9.upd hd,a7⟩ (λ_ _ _ _ _=>trivial) ?_ ?_⟩
 ·rintro i x σ f m ⟨r,v6,rfl,t,y⟩
  obtain⟨c,hc,rfl⟩:∃c,(ch g)[i]?=some c/\x=.str ⟨#[c]⟩:=by
   unfold fh at m;rw[wa4]at m
   cases e:(ch g)[i]? with
   |none=>rw[show g.cps.toList[i]?=none from e]at m;cases m
   |some z=>rw[show g.cps.toList[i]?=some z from e]at m;exact⟨z,rfl,(wae m).symm⟩
  have hi:i<(ch g).length:=(wa6.mp hc).1;have J:=aW g;have EA:(p++(⟨#[c]⟩:Str)).length=p.length+1:=by rw[<-aW,aZ,wa5,aW];rfl
  refine⟨_,rfl,_,rfl,p,⟨#[c]⟩,rfl,rfl,aw (by show p.length+1<=_;omega),?_⟩
  have fin:∀u,a9 f u->M6 (K4 4) (K4 5) (λ_ D Q5=>Q5 (uo l ps p c) D) {nx:=λσ f=>∃r v6,σ=[some (.str p),some (.str g),some (.ref a),some (.ref b),some (.ref d),r,v6]/\a9 H f/\f d=some (.dK (((ch g).take (i+1)).map λc=>((waj (⟨#[c]⟩:Str):Key),uo l ps p c))),rt:=Q}
   [some (.str p),some (.str g),some (.ref a),some (.ref b),some (.ref d),some (.str ⟨#[c]⟩),some (.str (p++⟨#[c]⟩))] u:=by
   intro u n;have h4:=n _ _ y;refine⟨_,rfl,_,rfl,d,_,rfl,ky.k (k:=waj (⟨#[c]⟩:Str)) h4 (by rw[wa0,wai];exact bq (by omega)),?_⟩;refine⟨_,_,rfl,λb o e=>?_,?_⟩
   ·rw[ae (ag e hd)];exact n _ _ (t _ _ e)
   ·rw[a7,fR]
    ·have:(ch g).take (i+1)=(ch g).take i++[c]:=by rw[waP,hc];rfl
     rw[this,wan];rfl
    ·cases q:bE (((ch g).take i).map λc=>((waj (⟨#[c]⟩:Str):Key),uo l ps p c)) (waj (⟨#[c]⟩:Str):Key) with
     |none=>rfl
     |some v=>
      have:=z9 q;rw[wah]at this;obtain⟨G,I,e⟩:=wab.mp this;have e':(⟨#[G]⟩:Str)=⟨#[c]⟩:=wca e
      have:G=c:=by
       have:=congrArg ch e';simpa [ch] using this
      subst this;obtain⟨j,hj,M⟩:=weA.mp I;rw[wfb]at M;rw[wai]at hj;have e1:(ch g)[i]=G:=(wa6.mp hc).2;have:=(wch B).mp (M.trans e1.symm);omega
  refine⟨_,rfl,_,rfl,_,a,l,rfl,t.seq T,C,λu n=>⟨_,rfl,?_⟩⟩
  cases O:bears l (p++⟨#[c]⟩) with
  |true=>
   refine fO ?_;have:=fin u n;unfold uo at this;rw[if_pos O]at this;unfold uo;exact this
  |false=>
   refine cb ?_;refine⟨_,rfl,_,rfl,_,b,ps,rfl,(t.trans n).seq U,V,by omega,λD s5=>?_⟩;have:=fin D (n.trans s5);unfold uo at this;rw[if_neg (by rw[O];exact wap)]at this;unfold uo;exact this
 ·rintro σ f ⟨r,v6,rfl,t,y⟩;have e:(fh g).length=(ch g).length:=by unfold fh;rw[wa0]
  rw[e,waI]at y;exact⟨_,rfl,k d f t hd y⟩
theorem xn(L:Lk K mg):aT P w K mg base df 1 L.qg L.qh ["ends","lot"] (Kv K):=by
 have T:=L.T;refine L.lB.F.dJ (N:=["ends","lot"]) (λm A outer s H u Q E nd v h=>?_);obtain⟨a,b,d,ls,rfl,i,n,fa,o,hl,k⟩:=h;refine⟨_,(af (aA (aC (As rfl) (by rfl) T.any Q2 (a5 (cU rfl (ax ["lot"] [1]) (aP (pv 0)) (λ_ _ _ _ _ _=>bo) (λ_ _ _ _ _ _=>(jm (j3 (K:=K) rfl) (pv 0) (pv 1) rfl))) a8)))),?_⟩
 try dsimp only[dn,dm,b5,b6]
 refine⟨_,rfl,a,rfl,⟨_,i⟩,λl f=>comp_map (Q9 ls) (aQ K a d) f (aw (by omega)) (λj g=>g.seq i) (λx p y r t q=>?_) (λj g c=>?_)⟩
 ·exact⟨_,rfl,_,rfl,b,ls,rfl,.inl (t.seq n),waU.mp fa x r,o,q p (a9.refl _)⟩
 ·have e:d.map (Q9 ls)=(d.map λe=>pJ e ls).map V.bl:=by rw[wah];rfl
  rw[e]at c;refine⟨l,_,rfl,aL.of c,?_⟩;have:=k j g;rw[wfu];exact this
theorem xo(L:Lk K mg):aT P w K mg base df 2 L.lC L.qi ["moves"] (Nf K):=by
 have T:=L.T;refine L.lD.F.dJ (N:=["moves","lot","left"]) (λY A outer s H vs Q E nd hr h=>?_);obtain⟨d,Z,o,rfl,hd,hl,hm,hf,YM,k⟩:=h;have hu:=fk hr;have O4:(A.deeper (wcX "live_among" (aJ (top 32)) s.heap.objs.size L.lC Y)).units<wcF:=hr.uJ
 refine⟨_,(a6 (aj (i:=1) (bp (kC rfl) (by rfl) T.list gz (a5 (pv 0) a8)))
  (af (jL wao (cF gy) (a6 (dS (i:=2) rfl (ax ["moves","lot"] [0,1]) nd rfl rfl (aP (pv 1)) (λ_ _ _ _ _ _=>gZ (cF (aq (xn L) L.lB (a5 (bp (Cm rfl) (by rfl) T.list gz (a5 (E7 (K:=K) rfl wd1 wdR wfB y8 (dk hu (pv 1) (pv 0) (λ_ _=>rfl))) a8)) (a5 (pv 2) a8))))) (λ_ _ _ _ _ _=>(pv 0)))
  (a6 (bD (aG (Cp O4) (pv 2) (pv 1) (aU _)) (af (aA (pv 1))) aN)
  (af (aj (i:=1) (pv 2)))))))),?_⟩
 try dsimp only[dn,dm,b5,b6]
 refine⟨_,rfl,d,_,rfl,hd,λl0 t=>?_⟩
 refine⟨λm σ H2=>∃(l:Addr) (ls:List Str) (v:Option V),m=ls.length/\σ=[some (.ref d),some (.ref l),v]/\a9 H H2/\H l=none/\H2 l=some (.lst (ls.map V.str))/\ls.Sublist (Z.map (·.1)) /\
  ∀b:List Str,(∀k∈b,k∈Z.map (·.1)/\mD (o k) b=true)->∀k∈b,k∈ls,
  ⟨_,l0,Z.map (·.1),none,rfl,rfl,a9.upd t,t,by rw[a7,j4],wfc _,λb h k hk=>(h k hk).1⟩,?_⟩
 rintro m σ H2 ⟨l,ls,v,rfl,rfl,S,Mr,U,f,c⟩;refine⟨true,rfl,fO ?_⟩;have Dg:ls.length<=1000:=by have:=f.length_le;rw[wa0]at this;omega
 let p:V->Bool:=λx=>match x with
  |.str k=>mD (o k) ls
  |_=>false
 let g:List Str:=ls.filter λk=>mD (o k) ls
 have u:(ls.map V.str).filter p=g.map V.str:=by
  rw[weD];rfl
 refine⟨λy r=>∃(B:Addr) (v:Option V),y=[some (.ref d),some (.ref B),v]/\a9 H r/\H B=none/\r B=some (.lst (g.map V.str))/\g.length<ls.length,?_,?_⟩
 ·rintro y r ⟨B,v,rfl,n,BX,C,NR⟩;refine⟨g.length,NR,B,g,v,rfl,rfl,n,BX,C,(wdE).trans f,λb h k hk=>?_⟩;have YN:=c b h k hk;exact wau.mpr ⟨YN,Cy (c b h) (h k hk).2⟩
 ·refine⟨_,rfl,l,rfl,⟨_,aL.of U⟩,λl2 D=>ee p (λx=>x) (aQ K l (ls.map V.str)) D (by rw[wa0];exact aw (by omega)) (λr n=>n.seq (aL.of U)) (λx G Q' hx s3 q=>?_) (λx G Q' hx _ s3 q=>⟨_,rfl,q G (a9.refl _)⟩) (λr n C=>?_)⟩
  ·obtain⟨X,YQ,rfl⟩:=wab.mp hx;obtain⟨a,ha,I⟩:=iT (f.subset YQ);have J:a9 H G:=S.trans s3;have Sd:=J _ _ hd;have j:=J _ _ (hm _ ha);refine⟨_,rfl,_,rfl,d,.ref a,rfl,?_,?_⟩
   ·have:=eM.k (k:=(waj X:Key)) Sd;rw[I]at this;exact this
   refine⟨.inr (.inr (.inl ⟨rfl,.inl ⟨_,j⟩⟩)),a,_,rfl,rfl,j,λvw M=>?_⟩;refine⟨vw,a,_,rfl,a7,by rw[ae (ag j M)];exact j,λl3 Hw=>?_⟩;have s4:a9 G (upd (upd G vw (mz vw a)) l3 (.lst ((o X).map (·.2)))):=(a9.upd M).trans (a9.upd Hw);refine⟨_,rfl,l3,l,_,_,rfl,aL.of a7,aL.of (s4 _ _ (s3 _ _ U)),hf X,fD ls,by rw[wa0];exact YM X,λH5 s5=>⟨_,rfl,?_⟩⟩;exact q H5 (s4.trans s5)
  ·rw[wdX,u]at C;have O:=n _ _ U;refine⟨_,rfl,_,rfl,l2,l,_,_,rfl,rfl,aL.of C,aL.of O,fD _,fD _,_,rfl,?_⟩;rw[ya];have R:H l2=none:=S.free D
   by_cases e:g=ls
   ·rw[decide_eq_true e];refine fO ?_;refine⟨_,rfl,k l ls r (S.trans n) Mr O ⟨f,λkk hk=>?_,c⟩⟩;have:=e ▸ hk;exact(wau.mp this).2
   ·rw[decide_eq_false e];refine cb ?_;refine⟨_,rfl,l2,_,rfl,S.trans n,R,C,?_⟩;rcases weV (wb7 (λk=>mD (o k) ls) ls) with z |z
    ·exact z
    ·exact absurd ((wdE (p:=λk=>mD (o k) ls)).eq_of_length z) e
theorem rX(L:Lk K mg):aT P w K mg base df 4 L.iw L.lW ["self","signs","barred"] (Ni K L.aB):=by
 have T:=L.T;refine L.iA.F.dJ (N:=["self","signs","barred","places","place"]) (λi5 A outer s H vs Q E nd hr h=>?_);obtain⟨x,t,g,a,ws,rfl,hx,hS,sg,hl,hw,k⟩:=h;have Z:∀w∈ws,w.length<=5:=λw h=>(hw w h).hi;have hu:=fk hr
 refine⟨_,(a6 (bD (dO (cF (aq (zF L) L.mM (a5 (pv 1) a8)))) du aN)
  (a6 (bA (aq (u0 L) L.ja (a5 (pv 2) (a5 (pv 1) a8))))
  (a6 (dg (pv 0) (pv 1) rfl)
  (a6 (dg (pv 0) (bp cK (by rfl) T.list gz (a5 (pv 2) a8)) rfl)
  (a6 (dg (pv 0) dD rfl)
  (a6 (aj (i:=3) (aq (rW L) L.iu (a5 (pv 2) a8)))
  (a6 (b7 wao rfl (aP (pv 3)) (ay (i:=4)) (af (eD hu (aE (pv 0) rfl) (pv 4) (aq (xm L) L.lA (a5 (pv 4) (a5 (pv 1) (a5 (pv 2) (a5 (pv 3) a8))))) rfl)))
  (af (dg (pv 0) (aq (xo L) L.lD (a5 (aE (pv 0) rfl) a8)) rfl))))))))),?_⟩
 try dsimp only[dn,dm,b5,b6]
 refine⟨_,rfl,g,rfl,sg,λH1 s1=>⟨true,rfl,cb ?_⟩⟩;refine⟨_,rfl,_,rfl,a,g,ws,rfl,s1.seq hS,hl,hw,λH2 s2=>?_⟩;have D:a9 H H2:=s1.trans s2;have YR:=D _ _ hx;refine⟨_,rfl,_,rfl,x,L.aB,t,_,rfl,YR,L.aI.cl,L.aI.pZ,by decide,?_⟩;rw[Nh];have QB:∀(o:HO) b ob,H b=some ob->b≠x->(upd H2 x o) b=some ob:=λo b ob e hb=>by rw[ae hb];exact D _ _ e
 have G:∀{H':Hp} (h:∀b o,H b=some o->b≠x->H' b=some o),aL K H' a (ws.map V.str):=λ{H'} h=>by
  have Ws:∀o,H a=some o->(∀fs,o≠.ins L.aB t fs)->a≠x:=λo e ne z=>by
   subst z;rw[hx]at e;exact ne [] (wae e).symm
  rcases hS with(e |⟨o,e⟩) |e
  ·exact .inl (.inl (h _ _ e (Ws _ e (λ_ z=>by cases z))))
  ·exact .inl (.inr ⟨o,h _ _ e (Ws _ e (λ_ z=>by cases z))⟩)
  ·exact .inr e
 refine⟨_,rfl,a,_,rfl,.inl (G (QB _)),λb hb=>?_⟩;have v:x≠b:=ag a7 hb;have U8:H2 b=none:=by rw[ae v.symm]at hb;exact hb
 refine⟨_,rfl,x,L.aB,t,RP g,rfl,by rw[ae v,a7],L.aI.cl,L.aI.vN,(show 1<1000 by decide),?_⟩;rw[put2];intro d hd;have r:x≠d:=ag a7 hd
 have QC:b≠d:=by
  intro z;subst z;rw[ae v.symm,a7]at hd;cases hd
 have I:H2 d=none:=by rw[ae r.symm,ae QC.symm,ae r.symm]at hd;exact hd
 refine⟨_,rfl,x,L.aB,t,OD g b,rfl,by rw[ae r,a7],L.aI.cl,L.aI.lu,(show 2<1000 by decide),?_⟩;rw[put3];generalize J:upd (upd (upd (upd (upd H2 x (.ins L.aB t (RP g))) b (.lst (ws.map V.str))) x (.ins L.aB t (OD g b))) d (.dK [])) x (.ins L.aB t (Ng g b d))=H3;have x3:H3 x=some (.ins L.aB t (Ng g b d)):=by rw[<-J,a7]
 have d3:H3 d=some (.dK []):=by rw[<-J,ae r.symm,a7]
 have b3:H3 b=some (.lst (ws.map V.str)):=by rw[<-J,ae v.symm,ae QC,ae v.symm,a7]
 have k3:∀c o,H c=some o->c≠x->H3 c=some o:=λc o e hc=>by
  have e2:=D _ _ e;rw[<-J,ae hc,ae (ag e2 I),ae hc,ae (ag e2 U8),ae hc];exact e2
 clear J;refine⟨_,rfl,a,ws,rfl,G k3,hl,Z,λl ss H4 s4 R h4 hp YS=>?_⟩;have TC:ss.Nodup:=hp.nodup_iff.mpr (sM ws);have EB:ss.length<=25:=by have:=nV (ws:=ws) (e:="") (us:=ws) Z;rw[hp.length_eq];omega
 have QD:∀p∈ss,p.length<=5:=λp Dv=>Fl Z p (hp.mem_iff.mp Dv);have U9:("":Str)∈ss:=hp.mem_iff.mpr (cy ws);have Se:l≠d:=λz=>by rw[z,d3]at R;cases R
 have nlx:l≠x:=λz=>by rw[z,x3]at R;cases R
 refine⟨_,rfl,l,rfl,⟨_,aL.of h4⟩,dA (K:=K) (a:=l) (xs:=ss.map V.str) (λi σ S=>∃v4 B,σ=[some (.ref x),some (.str g),some (.ref a),some (.ref l),v4]/\S d=some (.dK (cD B))/\B.map (·.1)=ss.take i/\(∀m∈B,S m.2=some (.dK (rowOf g ws ss m.1)))/\(∀m∈B,H4 m.2=none)/\(∀c o,H4 c=some o->c≠d->S c=some o))
  ⟨none,[],rfl,s4 _ _ d3,rfl,λm u=>(nomatch u),λm u=>(nomatch u),λc o e _=>e⟩ (λi σ S _ ⟨_,_,_,_,_,_,_,M⟩=>aL.of (M _ _ h4 Se)) ?_ ?_⟩
 ·rintro i y σ S hy ⟨v4,B,rfl,C,n,f,Qb,M⟩
  obtain⟨p,U,rfl⟩:∃p,ss[i]?=some p/\y=.str p:=by
   rw[wa4]at hy
   cases e:ss[i]? with
   |none=>rw[e]at hy;cases hy
   |some z=>rw[e]at hy;exact⟨z,rfl,(wae hy).symm⟩
  have hi:i<ss.length:=(wa6.mp U).1;have Dv:p∈ss:=wa8 U
  have k5:∀c o,H c=some o->c≠x->S c=some o:=λc o e hc=>M _ _ (s4 _ _ (k3 c o e hc)) (λz=>by
   subst z;have:=D _ _ e
   rw[I]at this;cases this)
  have x5:S x=some (.ins L.aB t (Ng g b d)):=M _ _ (s4 _ _ x3) r;refine⟨_,rfl,_,rfl,_,rfl,_,rfl,p,g,a,l,ws,ss,rfl,G k5,aL.of (M _ _ h4 Se),U9,by have:=QD p Dv;omega,by have:=sg.hi;omega,sg.nd,by omega,λe H6 O X h6=>?_⟩;have d6:=O _ _ C
  have Je:p∉B.map (·.1):=by
   rw[n];intro u;obtain⟨j,hj,ej⟩:=weA.mp u;rw[wfb]at ej;rw[wai]at hj;have e1:ss[i]=p:=(wa6.mp U).2;have:=(wch TC).mp (ej.trans e1.symm);omega
  have Y:B.length<=25:=by have:=congrArg wdD n;rw[wa0,wai]at this;omega
  refine⟨_,rfl,x,L.aB,t,_,_,rfl,O _ _ x5,L.aI.cl,L.aI.lu,mE g b d,_,rfl,d,_,rfl,ky.k (k:=waj p) d6 (by unfold cD;rw[wa0];exact bq (by omega)),?_⟩;have OH:e≠d:=λz=>by rw[z,C]at X;cases X
  have e4:H4 e=none:=by
   cases q:H4 e with
   |none=>rfl
   |some o=>
    have:=M _ _ q OH;rw[this]at X;cases X
  refine⟨_,B++[(p,e)],rfl,?_,?_,?_,?_,?_⟩
  ·rw[a7,fR _ (oV Je)];unfold cD;rw[wan];rfl
  ·rw[wan,n];have:ss.take (i+1)=ss.take i++[p]:=by rw[waP,U];rfl
   rw[this];rfl
  ·intro m u;rcases waE.mp u with z |z
   ·have nm:m.2≠d:=λq=>by
     have:=f m z;rw[q,C]at this;have:=Qb m z;rw[q]at this;rw[s4 _ _ d3]at this;cases this
    rw[ae nm];exact O _ _ (f m z)
   ·have:m=(p,e):=by simpa using z
    subst this;rw[ae OH];exact h6
  ·intro m u;rcases waE.mp u with z |z
   ·exact Qb m z
   ·have:m=(p,e):=by simpa using z
    subst this;exact e4
  ·intro c o hc Wt;rw[ae Wt];exact O _ _ (M c o hc Wt)
 ·rintro σ S ⟨v4,B,rfl,C,n,f,Qb,M⟩;rw[wa0,waI]at n;have x5:S x=some (.ins L.aB t (Ng g b d)):=M _ _ (s4 _ _ x3) r;have Y:B.length<=1000:=by have:=congrArg wdD n;rw[wa0]at this;omega
  refine⟨_,rfl,x,L.aB,t,_,_,rfl,x5,L.aI.cl,L.aI.lu,mE g b d,d,B,rowOf g ws ss,rfl,C,Y,f,λkx=>Cw g ws ss kx,λkx=>by rw[Fh];have:=sg.hi;omega,λq ls H6 O hq h6 lv=>?_⟩;refine⟨_,rfl,x,L.aB,t,_,rfl,O _ _ x5,L.aI.cl,L.aI.rQ,(show 3<1000 by decide),?_⟩;rw[Fj];have Ua:q≠x:=λz=>by rw[z,x5]at hq;cases hq
  have YT:∀m∈B,m.2≠x:=λm u z=>by
   have:=f m u;rw[z,x5]at this;cases this
  refine k ss ls _ ⟨⟨t,b,d,q,B,a7,?_,?_,n,λm u=>?_,?_⟩,hp,YS,n ▸ lv⟩ λc o e hc=>?_
  ·rw[ae v.symm];exact O _ _ (M _ _ (s4 _ _ b3) QC)
  ·rw[ae r.symm];exact O _ _ C
  ·rw[ae (YT m u)];exact O _ _ (f m u)
  ·rw[ae Ua];exact h6
  ·rw[ae hc]
   exact O _ _ (M _ _ (s4 _ _ (k3 c o e hc)) (λz=>by
    subst z;have:=D _ _ e
    rw[I]at this;cases this))
theorem wh(L:Lk K mg):aT P w K mg base df 1 L.oo L.oq ["self"] (HI L.aB):=by
 have T:=L.T;refine L.hU.F.dJ (N:=["self"]) (λa A outer s H j Q E nd m h=>?_);obtain⟨x,g,n,ss,ls,rfl,B,k⟩:=h;obtain⟨⟨c,b,d,q,o,e,p,f,i,r,t⟩,_,_,_⟩:=B;refine⟨_,(af (aA (bp (kC rfl) (by rfl) T.list gz (a5 (aE (pv 0) rfl) a8)))),?_⟩
 try dsimp only[dn,dm,b5,b6]
 refine⟨_,rfl,x,L.aB,c,_,_,rfl,e,L.aI.cl,L.aI.lu,kF g b d q,d,_,rfl,f,λl hl=>?_⟩;rw[j4,i];exact k l _ (a9.upd hl) hl a7
theorem lK(L:Lk K mg):aT P w K mg base df 1 L.tq L.tu ["self"] (Kw L.aB):=by
 have T:=L.T;refine L.dM.F.dJ (N:=["self"]) (λa A outer s H i Q E nd j h=>?_);obtain⟨x,g,m,ss,ls,rfl,B,k⟩:=h;obtain⟨⟨c,b,d,q,n,e,o,p,r,t,f⟩,_,_,_⟩:=B;refine⟨_,(af (aA (bp cK (by rfl) T.list gz (a5 (aE (pv 0) rfl) a8)))),?_⟩
 try dsimp only[dn,dm,b5,b6]
 refine⟨_,rfl,x,L.aB,c,_,_,rfl,e,L.aI.cl,L.aI.rQ,yc g b d q,q,_,rfl,.inl (aL.of f),λl hl=>?_⟩;exact k l _ (a9.upd hl) hl a7
theorem iK(L:Lk K mg):aT P w K mg base df 1 L.jb L.jc ["self","place"] (Tw L.aB):=by
 have T:=L.T;refine L.ck.F.dJ (N:=["self","place"]) (λc A outer s H r Q E nd e h=>?_);obtain⟨x,p,g,t,ss,ls,rfl,B,f,k⟩:=h;obtain⟨⟨i,b,d,q,mv,j,u,l,m,y,z⟩,_,_,_⟩:=B;obtain⟨a,ha,n⟩:=iT (mv:=mv) (k:=p) (by rw[m];exact f);have o:=fk e;refine⟨_,(af (bD (PW.pt (hZ (dO (cF (aC cM (by rfl) T.JV xc (a5 (pv 1) (a5 (gX (v:=.ty "str") (by rfl) T.str Kq rfl) a8))))) (iX (yT (xY o (pv 1) (aE (pv 0) rfl)))))) du aN)),?_⟩
 try dsimp only[dn,dm,b5,b6]
 refine⟨_,rfl,_,_,_,true,rfl,iY.str p,rfl,true,rfl,cb ?_⟩;refine⟨_,rfl,_,rfl,x,L.aB,i,_,_,rfl,j,L.aI.cl,L.aI.lu,kF g b d q,d,_,rfl,eM.k (k:=(waj p:Key)) l,_,rfl,?_⟩;rw[n];exact cb k
theorem tT(L:Lk K mg):aT P w K mg base df 2 L.vR L.vS ["self","place","sign"] (Qa L.aB):=by
 refine L.gQ.F.dJ (N:=["self","place","sign"]) (λr A outer s H C Q E nd e h=>?_);obtain⟨x,p,c,g,t,ss,ls,rfl,B,f,hc,k⟩:=h;obtain⟨⟨i,b,d,q,mv,j,D,u,v,y,G⟩,_,_,_⟩:=id B;obtain⟨a,ha,z⟩:=iT (mv:=mv) (k:=p) (by rw[v];exact f);have l:=fk e
 refine⟨_,(a6 (bA (bQ (pv 0) L.aI.cl L.ck.m (iK L) (e.mono (by decide)) L.ck.b .nil bj (a5 (pv 1) a8)))
  (af (aA (dk l (dk l (aE (pv 0) rfl) (pv 1) (λ_ _=>rfl)) (pv 2) (λ_ _=>rfl))))),?_⟩
 try dsimp only[dn,dm,b5,b6]
 refine⟨_,rfl,x,i,_,rfl,j,CA _ _ _ _ (by decide+kernel) (by decide+kernel) (by decide+kernel) (by decide+kernel),_,rfl,x,p,g,t,ss,ls,rfl,B,f,?_⟩;have n:=eM.k (k:=(waj p:Key)) u;rw[z]at n;have o:=eM.k (k:=(waj (⟨#[c]⟩:Str):Key)) (y _ ha);rw[E9 hc]at o;exact⟨_,rfl,x,L.aB,i,_,_,rfl,j,L.aI.cl,L.aI.lu,kF g b d q,_,rfl,d,_,rfl,n,_,rfl,a,_,rfl,o,k⟩
theorem zG(L:Lk K mg):aT P w K mg base df 3 L.tD L.tE ["band","place"] (CY L.aB):=by
 refine L.mW.F.dJ (N:=["band","place","ends"]) (λJ A outer s H Z Q E nd M h=>?_);obtain⟨x,p,g,C,ss,ls,rfl,B,O,R,k⟩:=h
 refine⟨_,(a6 (dS (i:=2) rfl (ax ["band","place"] [0,1]) nd rfl rfl (za (aE (pv 0) rfl)) (λ_ _ _ _ _ _=>bo) (λ_ _ _ _ _ _=>(bQ (pv 1) L.aI.cl L.gQ.m (tT L) (M.mono (by decide)) L.gQ.b .nil bj (a5 (pv 2) (a5 (pv 0) a8)))))
  (af (aA (cU rfl (ax [] []) (aP (pv 2)) (λ_ _ _ _ _ _=>gZ (aG yY (pv 0) gD (aU _))) (λ_ _ _ _ _ _=>(pv 0)))))),?_⟩
 try dsimp only[dn,dm,b5,b6]
 obtain⟨⟨S,b,d,q,mv,T,h2,h3,h4,h5,h6⟩,pm,_,_⟩:=id B;refine⟨_,rfl,x,L.aB,S,_,_,rfl,T,L.aI.cl,L.aI.pZ,kM g b d q,g,rfl,λl hl=>?_⟩;refine comp_map (Wk C ss p) (pK g) hl (by rw[CD];exact aw (by omega)) (λ_ _=>trivial) (λz D G U o e=>?_) (λD o a=>?_)
 ·obtain⟨c,hc,rfl⟩:=wab.mp U;have I:=B.same o;obtain⟨⟨r,_,_,_,_,t,_⟩,_⟩:=id I;exact⟨_,rfl,x,r,_,rfl,t,CA _ _ _ _ (by decide+kernel) (by decide+kernel) (by decide+kernel) (by decide+kernel),_,rfl,_,rfl,x,p,c,g,C,ss,ls,rfl,I,O,hc,e D (a9.refl _)⟩
 ·rw[Fv]at a;refine⟨_,rfl,l,rfl,⟨_,aL.of a⟩,λV f=>?_⟩;refine ee CU (λv=>v) (aQ K l _) f (by rw[wa0,aW];exact aw (by omega)) (λH' X=>aL.of (X _ _ a)) (λy j G Y u e=>⟨_,rfl,rfl,_,rfl,e j (a9.refl _)⟩) (λy j G Y _ u e=>⟨_,rfl,e j (a9.refl _)⟩) (λj u n=>?_);rw[wdX,AO]at n;exact k V j (o.trans u) (none_of o f) n
theorem Bu(L:Lk K mg):aT P w K mg base df 4 L.vV L.vW ["band"] (Fw L.aB):=by
 refine L.pd.F.dJ (N:=["band","ends","place"]) (λi5 A outer s H vs Q E nd hr h=>?_);obtain⟨x,g,U,ss,ls,rfl,B,X,EB,k⟩:=h;have hu:=fk hr
 refine⟨_,(a6 (aj (i:=1) dD)
  (a6 (b7 wao rfl (aP (bR (pv 0) L.aI.cl L.hU.m (wh L) (hr.mono (by decide)) L.hU.b .nil bj)) (ay (i:=2)) (af (eD hu (pv 1) (pv 2) (aq (zG L) L.mW (a5 (pv 0) (a5 (pv 2) a8))) rfl)))
  (af (aA (pv 1))))),?_⟩
 try dsimp only[dn,dm,b5,b6]
 refine λn r=>?_;have R:a9 H (upd H n (.dK [])):=a9.upd r;have B0:=B.same R;obtain⟨⟨dx,b,d,q,mv,h1,h2,h3,h4,h5,h6⟩,pm,_,_⟩:=id B0;refine⟨_,rfl,x,dx,_,rfl,h1,CA _ _ _ _ (by decide+kernel) (by decide+kernel) (by decide+kernel) (by decide+kernel),x,g,U,ss,ls,rfl,B0,λY S G f1 I=>?_⟩;have Z:Y≠n:=λz=>by rw[z,a7]at f1;cases f1
 have nd:=B.nd
 refine⟨Y,rfl,⟨_,aL.of I⟩,dA (K:=K) (a:=Y) (xs:=ss.map V.str) (λi σ T=>∃v2 l,σ=[some (.ref x),some (.ref n),v2]/\T n=some (.dK (cD l))/\l.map (·.1)=ss.take i/\(∀m∈l,T m.2=some (.lst ((ip g U ss m.1).map V.str)))/\(∀m∈l,S m.2=none)/\(∀c o,S c=some o->c≠n->T c=some o))
  ⟨none,[],rfl,G _ _ a7,rfl,λm t=>(nomatch t),λm t=>(nomatch t),λc o e _=>e⟩ (λi σ T _ ⟨_,_,_,_,_,_,_,D⟩=>aL.of (D _ _ I Z)) ?_ ?_⟩
 ·rintro i y σ H5 hy ⟨v2,l,rfl,u,f,j,v,D⟩;obtain⟨p,O5,rfl,hi,Dv,rg⟩:=i7 hy;have Ub:a9 H H5:=λc o e=>D _ _ (G _ _ (R _ _ e)) (ag e r);refine⟨_,rfl,_,rfl,x,p,g,U,ss,ls,rfl,B.same Ub,Dv,X,λe H6 s6 C YV=>?_⟩;have d6:=s6 _ _ u;have J:p∉l.map (·.1):=by rw[f];exact j6 nd O5
  have Uc:l.length<=900:=by have:=congrArg wdD f;rw[wa0,wai]at this;omega
  refine⟨_,rfl,_,rfl,n,_,rfl,ky.k (k:=waj p) d6 (by unfold cD;rw[wa0];exact bq (by omega)),?_⟩;have M:e≠n:=λz=>by rw[z,u]at C;cases C
  have e1:S e=none:=by
   cases q:S e with
   |none=>rfl
   |some o=>
    have:=D _ _ q M;rw[this]at C;cases C
  refine⟨_,l++[(p,e)],rfl,?_,?_,?_,?_,?_⟩
  ·rw[a7,fR _ (oV J)];unfold cD;rw[wan];rfl
  ·rw[wan,f,rg];rfl
  ·intro m t;rcases waE.mp t with z |z
   ·have nm:m.2≠n:=λq=>by
     have:=v m z;rw[q,G _ _ a7]at this;cases this
    rw[ae nm];exact s6 _ _ (j m z)
   ·have:m=(p,e):=by simpa using z
    subst this;rw[ae M];exact YV
  ·intro m t;rcases waE.mp t with z |z
   ·exact v m z
   ·have:m=(p,e):=by simpa using z
    subst this;exact e1
  ·intro c o hc O;rw[ae O];exact s6 _ _ (D c o hc O)
 ·rintro σ H5 ⟨v2,l,rfl,u,f,j,v,D⟩;rw[wa0,waI]at f;exact⟨_,rfl,k n l H5 (λc o e=>D _ _ (G _ _ (R _ _ e)) (ag e r)) r u f j λm t=>none_of R (none_of G (v m t))⟩
theorem mc(L:Lk K mg):aT P w K mg base df 5 L.mX L.mY ["band","length"] (KN L.aB):=by
 have T:=L.T;refine L.fX.F.dJ (N:=["band","length","ends","counts","place","table","step","longer"]) (λi5 A outer s H vs Q E nd hr h=>?_);obtain⟨x,n,g,G,ss,ls,rfl,B,EC,EB,hn0,hn1,k⟩:=h;have hu:=fk hr
 refine⟨_,(a6 (aj (i:=2) (aq (Bu L) L.pd (a5 (pv 0) a8)))
  (a6 (aj (i:=3) dD)
  (a6 (b7 wao rfl (ur (pv 2)) (ay (i:=4)) (af (eD hu (pv 3) (pv 4) ao rfl)))
  (a6 (aj (i:=5) (bX (a5 (pv 3) a8)))
  (a6 (b7 wao rfl (d1 rfl T.range (a5 (pv 1) a8)) (ay (i:=6)) (a6 (aj (i:=7) dD)
  (a6 (b7 wao rfl (ur (pv 2)) (ay (i:=4)) (af (eD hu (pv 7) (pv 4) (aC (mF rfl) (by rfl) T.sum Fo (a5 (cU rfl (ax ["counts"] [3]) (aP (dk hu (pv 2) (pv 4) (λ_ _=>rfl))) (λ_ _ _ _ _ _=>bo) (λ_ _ _ _ _ _=>(dk hu (pv 1) (pv 0) (λ_ _=>rfl)))) a8)) rfl)))
  (a6 (bA (iZ waO waV waY cP (pv 5) (a5 (pv 7) a8)))
  (af (aj (i:=3) (pv 7)))))))
  (af (aA (pv 5)))))))),?_⟩
 try dsimp only[dn,dm,b5,b6]
 have nd:=B.nd;have he:("":Str)∈ss:=B.pm.mem_iff.mpr (cy G);refine⟨_,rfl,x,g,G,ss,ls,rfl,B,EC,EB,λd l H1 s1 Ud h1 ek er ef=>?_⟩;refine λq v=>?_;have Ue:d≠q:=ag h1 v;have I:((cD l).map λkv=>kV kv.1)=ss.map V.str:=by rw[j4,ek]
 have YW:∀m∈l,m.2≠d:=λm r z=>by have:=er m r;rw[z,h1]at this;cases this
 refine⟨_,rfl,d,_,rfl,.inl ⟨(a9.upd v) _ _ h1,λo=>?_⟩⟩;have J:=jR d o (cD l);rw[I]at J;have U:(upd (upd H1 q (.dK [])) d (.frz o (.dK (cD l)))) q=some (.dK []):=by rw[ae (wbc Ue),a7]
 have X:(upd (upd H1 q (.dK [])) d (.frz o (.dK (cD l)))) d=some (.frz o (.dK (cD l))):=a7
 have sz:a9 H (upd (upd H1 q (.dK [])) d (.frz o (.dK (cD l)))):=λc u e=>by
  rw[ae (ag e Ud)];exact a9.upd v _ _ (s1 _ _ e)
 have Y:∀m∈l,(upd (upd H1 q (.dK [])) d (.frz o (.dK (cD l)))) m.2=some (.lst ((ip g G ss m.1).map V.str)):=λm r=>by
  rw[ae (YW m r)];exact a9.upd v _ _ (er m r)
 have f0:H q=none:=none_of s1 v;generalize upd (upd H1 q (.dK [])) d (.frz o (.dK (cD l)))=Hz at U X sz Y;have Ug:∀m∈l,m.2≠q:=λm r z=>by have:=Y m r;rw[z,U]at this;cases this
 refine my J (λi σ H3=>∃v4,σ=[some (.ref x),some (.int n),some (.ref d),some (.ref q),v4,none,none,none]/\H3 q=some (.dK (rD (λp=>.int (iM g G ss 0 p)) (ss.take i)))/\∀c u,Hz c=some u->c≠q->H3 c=some u) ⟨none,rfl,U,λc u e _=>e⟩ (λi σ H3 _ ⟨_,_,_,b⟩=>b _ _ X Ue) ?_ ?_
 ·rintro i y σ H3 hy ⟨v4,rfl,h3,b⟩;obtain⟨p,O5,rfl,hi,Dv,rg⟩:=i7 hy;refine⟨_,rfl,_,rfl,q,_,rfl,ky.k (k:=waj p) h3 (by rw[AQ,wai];exact bq (by omega)),?_⟩;refine⟨_,rfl,?_,λc u e hc=>by rw[ae hc];exact b c u e hc⟩;rw[a7,fR _ (yj _ (j6 nd O5)),rg,yk];rfl
 rintro σ H3 ⟨v4,rfl,h3,b⟩;rw[wa0,waI]at h3;have s3:a9 H H3:=λc u e=>b _ _ (sz _ _ e) (ag e f0);have Uh:=b _ _ X Ue;have Sf:∀m∈l,H3 m.2=some (.lst ((ip g G ss m.1).map V.str)):=λm r=>b _ _ (Y m r) (Ug m r);clear b U X sz Y J v h1 er;refine⟨_,rfl,by show 1<=sizeLine;decide,λlt C=>?_⟩;have flt:H lt=none:=none_of s3 C
 refine⟨_,rfl,n,rfl,by omega,by omega,dC (lo:=0) (n:=n.toNat) (λi σ M=>∃(Z:List Addr) (dc:Addr) (v4 v6 v7:Option V),σ=[some (.ref x),some (.int n),some (.ref d),some (.ref dc),v4,some (.ref lt),v6,v7]/\Z.length=i+1/\Z[i]?=some dc/\M lt=some (.lst (Z.map V.ref))/\(∀j t,Z[j]?=some t->M t=some (.dK (Nw g G ss j)))/\M d=some (.frz o (.dK (cD l)))/\(∀m∈l,M m.2=some (.lst ((ip g G ss m.1).map V.str)))/\a9 H M)
  ⟨[q],q,_,none,none,rfl,rfl,rfl,a7,?_,a9.upd C _ _ Uh,λm r=>a9.upd C _ _ (Sf m r),s3.trans (a9.upd C)⟩ ?_ ?_⟩
 ·intro j t S
  cases j with
  |zero=>
   obtain rfl:q=t:=wae S;exact a9.upd C _ _ h3
  |succ j=>simp at S
 ·rintro i σ M hi ⟨Z,dc,v4,v6,v7,rfl,O,Wu,Ui,Sg,D,Ms,s4⟩;refine λdl G5=>?_;have sd:a9 M (upd M dl (.dK [])):=a9.upd G5;have T9:=Sg i dc Wu;have J:=jR d o (cD l);rw[I]at J;have nle:d≠dl:=ag D G5;refine⟨_,rfl,d,_,rfl,.inr ⟨o,sd _ _ D,?_⟩⟩;refine my J (λj σ H5=>∃v4,σ=[some (.ref x),some (.int n),some (.ref d),some (.ref dc),v4,some (.ref lt),some (.int (0+(i:Int))),some (.ref dl)]/\H5 dl=some (.dK (rD (λp=>.int (iM g G ss (i+1) p)) (ss.take j)))/\∀c u,M c=some u->H5 c=some u) ⟨_,rfl,a7,λc u e=>sd _ _ e⟩ (λj σ H5 _ ⟨_,_,_,b⟩=>b _ _ D) ?_ ?_
  ·rintro j y σ H5 hy ⟨v4,rfl,h5,b⟩;obtain⟨p,OI,rfl,hj,Dv,rg⟩:=i7 hy;obtain⟨a,ha,hv⟩:=iT (mv:=l) (k:=p) (by rw[ek];exact Dv);have e1:=eM.f (k:=(waj p:Key)) (b _ _ D);rw[hv]at e1;have Ww:=b _ _ (Ms _ ha);have Uj:=b _ _ T9;have el:=CV g G ss p;refine⟨_,rfl,_,rfl,d,_,rfl,e1,a,rfl,⟨_,aL.of Ww⟩,λlm YX=>?_⟩;refine comp_map (KM (iM g G ss i)) (aQ K a ((ip g G ss p).map V.str)) YX (by rw[wa0];exact aw (by omega)) (λH' s'=>aL.of (s' _ _ Ww)) (λz H6 Q' hz s6 qq=>?_) (λH6 s6 h6=>?_)
   ·obtain⟨t,S,rfl⟩:=wab.mp hz;have e2:=eM.k (k:=(waj t:Key)) (s6 _ _ Uj);rw[va _ (CW he S)]at e2;exact⟨_,rfl,_,rfl,dc,_,rfl,e2,qq H6 (a9.refl _)⟩
   ·rw[rE]at h6;refine⟨lm,_,rfl,aL.of h6,?_⟩;have YY:=s6 _ _ h5;refine⟨_,rfl,_,rfl,dl,_,rfl,ky.k (k:=waj p) YY (by rw[AQ,wai];exact bq (by omega)),?_⟩;refine⟨_,rfl,?_,λc u e=>by rw[ae (ag e G5)];exact s6 _ _ (b c u e)⟩;rw[a7,fR _ (yj _ (j6 nd OI)),rg,yk];rfl
  rintro σ H5 ⟨v4',rfl,h5,b⟩;rw[wa0,waI]at h5;have R:=b _ _ Ui;refine⟨_,rfl,.inl ⟨rfl,_,aL.of R⟩,_,rfl,lt,_,_,rfl,rfl,R,by rw[wa0];exact wbg (m:=200000) (by omega) (by rw[wcc];decide),?_⟩;have YZ:∀t,H5 t=some (.dK (Nw g G ss (i+1)))->t≠lt:=λt e z=>by rw[z,R]at e;cases e
  refine⟨_,rfl,Z++[dl],dl,_,_,_,rfl,by rw[wa5,O];rfl,by rw[waC (by omega),O,wbC];rfl,by rw[a7,wan];rfl,?_,?_,?_,?_⟩
  ·intro j t S
   by_cases hj:j<Z.length
   ·rw[waG hj]at S;have e:=b _ _ (Sg j t S);rw[ae (λz=>by rw[z,R]at e;cases e)];exact e
   ·have Z0:j=i+1:=by
     have:=(wa6.mp S).1;rw[wa5,wcj]at this;omega
    subst Z0;rw[waC (by omega),O,wbC]at S;obtain rfl:dl=t:=wae S;rw[ae (YZ _ h5)];exact h5
  ·have e:=b _ _ D;rw[ae (λz=>by rw[z,R]at e;cases e)];exact e
  ·intro m r;have e:=b _ _ (Ms m r)
   by_cases z:m.2=lt
   ·exfalso;have f:=Sf m r;rw[z,C]at f;cases f
   ·rw[ae z];exact e
  ·exact λc u e=>by rw[ae (ag e flt)];exact b _ _ (s4 _ _ e)
 ·rintro σ M ⟨Z,dc,v4,v6,v7,rfl,O,Wu,Ui,Sg,D,Ms,s4⟩;exact⟨_,rfl,k lt Z M s4 flt Ui O Sg⟩
theorem xq(L:Lk K mg):aT P w K mg base df 6 L.ql L.qm ["band","place","length"] (Ip L.aB):=by
 refine L.lE.F.dJ (N:=["band","place","length"]) (λD A outer s H U Q E nd u h=>?_);obtain⟨x,p,n,g,v,ss,ls,rfl,B,y,e,f,i,j,k⟩:=h;have G:=fk u
 refine⟨_,(a6 (bA (bQ (pv 0) L.aI.cl L.ck.m (iK L) (u.mono (by decide)) L.ck.b .nil bj (a5 (pv 1) a8)))
  (af (aA (dk G (b8 bf (aq (mc L) L.fX (a5 (pv 0) (a5 (pv 2) a8))) (Pk MX ao) (λ_ _=>rfl)) (pv 1) (λ_ _=>rfl))))),?_⟩
 try dsimp only[dn,dm,b5,b6]
 obtain⟨⟨I,b,d,q,X,J,Y,Z,h4,h5,h6⟩,_,_,_⟩:=id B;refine⟨_,rfl,x,I,_,rfl,J,CA _ _ _ _ (by decide+kernel) (by decide+kernel) (by decide+kernel) (by decide+kernel),_,rfl,x,p,g,v,ss,ls,rfl,B,y,?_⟩;refine⟨_,rfl,_,rfl,x,n,g,v,ss,ls,rfl,B,e,f,i,j,λl o M O f1 hl a R=>?_⟩;obtain⟨c,t,rfl⟩:∃l t,o=l++[t]:=⟨o.dropLast,o.getLast (by intro z;rw[z]at a;simp at a),(wdr _).symm⟩;have S:z4 ((c++[t]).map V.ref) (-1)=some (.ref t):=by rw[wan];exact Hc _ _
 have r:c.length=n.toNat:=by rw[wa5,wcj]at a;omega
 have T:=R n.toNat t (by rw[waC (by omega),r,wbC];rfl);have C:=eM.k (k:=(waj p:Key)) T;rw[va _ y]at C;exact⟨_,rfl,l,_,-1,_,rfl,rfl,aL.of hl,S,_,rfl,t,_,rfl,C,k M O⟩
theorem Jf(L:Lk K mg):aT P w K mg base df 7 L.Et L.Eu ["band","length"] (KO L.aB):=by
 refine L.zC.F.dJ (N:=["band","length"]) (λf A outer s H j Q E nd l h=>?_);obtain⟨x,n,g,e,ss,ls,rfl,B,a,b,c,d,k⟩:=h;refine⟨_,(af (aA (aq (xq L) L.lE (a5 (pv 0) (a5 fb (a5 (pv 1) a8)))))),?_⟩
 try dsimp only[dn,dm,b5,b6]
 have i:("":Str)∈ss:=B.pm.mem_iff.mpr (cy e);exact⟨_,rfl,_,rfl,x,"",n,g,e,ss,ls,rfl,B,i,a,b,c,d,k⟩
theorem nJ(L:Lk K mg):aT P w K mg base df 1 L.vP L.vQ ["thing"] Ih:=by
 have T:=L.T;refine L.j9.F.dJ (N:=["thing"]) (λa A outer s H b Q E nd c h=>?_);obtain⟨i,rfl,k⟩:=h;refine⟨_,(af (aA (yW (aC cM (by rfl) T.JV xc (a5 (pv 0) (a5 (gX (v:=.ty "int") (by rfl) T.int Qk rfl) a8))) (yV (GL (aC cM (by rfl) T.JV xc (a5 (pv 0) (a5 (gX (v:=.ty "bool") (by rfl) T.bool Mf rfl) a8)))))))),?_⟩
 try dsimp only[dn,dm,b5,b6]
 refine⟨_,rfl,_,_,_,true,rfl,iY.int i,rfl,true,rfl,fO ?_⟩;exact⟨_,rfl,_,_,_,false,rfl,iY.int i,rfl,false,rfl,k⟩
theorem Bv(L:Lk K mg):aT P w K mg base df 1 L.vT L.vU ["band","wide"] (Fx L.aB):=by
 have T:=L.T;refine L.p9.F.dJ (N:=["band","wide","rows","step"]) (λf A outer s H r Q E nd t h=>?_);obtain⟨x,n,g,u,ss,ls,rfl,B,j,l,m,k⟩:=h
 refine⟨_,(a6 (aj (i:=2) ao)
  (a6 (b7 wao rfl (d1 rfl T.range (a5 (pv 1) a8)) (ay (i:=3)) (af (uF (i:=2) nd rfl (wdQ rfl) (aC bC (by rfl) T.len waJ (a5 (aE (pv 0) rfl) a8)) Ig)))
  (af (aA (pv 2))))),?_⟩
 try dsimp only[dn,dm,b5,b6]
 obtain⟨⟨o,b,d,q,v,p,y,z,C,D,G⟩,_,_,_⟩:=id B;refine⟨_,rfl,n,rfl,by omega,by omega,dC (lo:=0) (n:=n.toNat) (λi σ a=>a=H/\∃c,σ=[some (.ref x),some (.int n),some (.int ((g.length:Int)^i)),c]) ⟨rfl,none,rfl⟩ ?_ ?_⟩
 ·rintro i σ a hi ⟨e,c,rfl⟩;rw[e];refine⟨_,rfl,_,rfl,x,L.aB,o,_,_,rfl,p,L.aI.cl,L.aI.pZ,kM g b d q,g,rfl,aw (by omega),_,_,rfl,rfl,.inr ⟨by omega,by omega⟩,rfl,some (.int (0+(i:Int))),?_⟩;rw[wfC];rfl
 ·rintro σ a ⟨e,c,rfl⟩;rw[e];exact⟨_,rfl,k⟩
theorem Dw(L:Lk K mg):aT P w K mg base df 2 L.yD L.yE ["band","many","wide"] (AR L.aB):=by
 refine L.rT.F.dJ (N:=["band","many","wide"]) (λc A outer s H f Q E nd i h=>?_);obtain⟨x,many,wide,g,d,ss,ls,rfl,B,a,b,k⟩:=h
 refine⟨_,(a6 (bD (PW.pt (hZ (dO (cF (aq (nJ L) L.j9 (a5 (pv 1) a8)))) (hZ (aG mr (pv 1) ao (aU _)) (iX (aG o6 (pv 1) ao (aU _)))))) (af (aA gy)) aN)
  (a6 (bD (PW.pt (hZ (dO (cF (aq (nJ L) L.j9 (a5 (pv 2) a8)))) (hZ (aG mr (pv 2) ao (aU _)) (iX (aG o6 (pv 2) ao (aU _)))))) (af (aA gy)) aN)
  (af (aA (jm Pp (aq (Bv L) L.p9 (a5 (pv 0) (a5 (pv 2) a8))) ao (aU _)))))),?_⟩
 try dsimp only[dn,dm,b5,b6]
 obtain⟨ha,j,hc,hd,e⟩:=id b;refine⟨_,rfl,many,rfl,true,rfl,cb ?_⟩;refine⟨_,rfl,_,_,rfl,rfl,false,congrArg V.bl (decide_eq_false (by omega)),cb ?_⟩;refine⟨_,rfl,_,_,rfl,rfl,false,congrArg V.bl (decide_eq_false (by omega)),cb ?_⟩;refine⟨_,rfl,wide,rfl,true,rfl,cb ?_⟩;refine⟨_,rfl,_,_,rfl,rfl,false,congrArg V.bl (decide_eq_false (by omega)),cb ?_⟩;refine⟨_,rfl,_,_,rfl,rfl,false,congrArg V.bl (decide_eq_false (by omega)),cb ?_⟩;refine⟨_,rfl,_,rfl,x,wide,g,d,ss,ls,rfl,B,a,by omega,by omega,_,_,rfl,rfl,?_⟩;show Q (V.bl (decide ((g.length:Int)^wide.toNat<=64))) H;rw[decide_eq_true e];exact k
theorem hV(L:Lk K mg):aT P w K mg base df 3 L.qj L.qk ["band","many","wide"] (AR L.aB):=by
 refine L.eX.F.dJ (N:=["band","many","wide"]) (λc A outer s H e Q E nd f h=>?_);obtain⟨x,many,wide,g,d,ss,ls,rfl,B,a,b,k⟩:=h
 refine⟨_,(a6 (bD (dO (cF (aq (Dw L) L.rT (a5 (pv 0) (a5 (pv 1) (a5 (pv 2) a8)))))) du aN)
  (af (aA gy))),?_⟩
 try dsimp only[dn,dm,b5,b6]
 exact⟨_,rfl,_,rfl,_,rfl,x,many,wide,g,d,ss,ls,rfl,B,a,b,true,rfl,cb k⟩
theorem G6(L:Lk K mg):aT P w K mg base df 6 L.Bl L.Bm ["band","many","wide","most"] (FE L.aB):=by
 have T:=L.T;refine L.vY.F.dJ (N:=["band","many","wide","most","table","rows_of_data","length"]) (λi5 A outer s H vs Q E nd hr h=>?_);obtain⟨x,many,wide,most,g,m,ss,ls,rfl,B,q,D,r,Wx,Z1,Z⟩:=h;have k1:∀k:Nat,1<=k->(k:Int)<=most->iM g m ss (k*wide.toNat) "" < many^k->(∀j:Nat,1<=j->j<k->¬iM g m ss (j*wide.toNat) "" < many^j)->∀f,a9 H f->Q (.int (k:Nat)) f:=λk a b c d f G=>Z _ f G (.some k a b c d);have k2:(∀j:Nat,1<=j->(j:Int)<=most->¬iM g m ss (j*wide.toNat) "" < many^j)->∀f,a9 H f->Q .non f:=λa f G=>Z _ f G (.none a);have hu:=fk hr
 refine⟨_,(a6 (bA (aq (hV L) L.eX (a5 (pv 0) (a5 (pv 1) (a5 (pv 2) a8)))))
  (a6 (aj (i:=4) (aq (mc L) L.fX (a5 (pv 0) (a5 (aK gG (pv 3) (pv 2)) a8))))
  (a6 (aj (i:=5) ao)
  (a6 (b7 wao rfl (rm rfl T.range (a5 ao (a5 (aK dP (pv 3) ao) a8))) (ay (i:=6)) (a6 (uF (i:=5) nd rfl (wdQ rfl) (pv 1) Ig)
  (af (bD (aG mr (dk hu (b8 bf (pv 4) (aK gG (pv 6) (pv 2)) (λ_ _=>rfl)) fb (λ_ _=>rfl)) (pv 5) (aU _)) (af (aA (pv 6))) aN))))
  (af (aA gD)))))),?_⟩
 try dsimp only[dn,dm,b5,b6]
 have he:("":Str)∈ss:=B.pm.mem_iff.mpr (cy m);obtain⟨ha,hb,hc,hd,_⟩:=id r;obtain⟨e,t⟩:∃w:Nat,wide=(w:Int):=⟨wide.toNat,by omega⟩;obtain⟨u,I⟩:∃w:Nat,most=(w:Int):=⟨most.toNat,by omega⟩;have o:most*wide=((u*e:Nat):Int):=by rw[t,I,wbo]
 have bmw:u*e<=600:=by
  have p:u<=100:=by omega
  have h2:e<=6:=by omega
  exact wal (wc3 p h2) (by decide)
 have ew:wide.toNat=e:=by omega
 rw[ew]at k1 k2;refine⟨_,rfl,_,rfl,_,rfl,x,many,wide,g,m,ss,ls,rfl,B,q,r,?_⟩;refine⟨_,rfl,_,rfl,_,rfl,_,_,rfl,rfl,.inl ⟨by omega,by omega⟩,x,most*wide,g,m,ss,ls,rfl,B,q,D,by rw[o];omega,by rw[o];omega,λl J M s1 f1 hl O ht=>?_⟩;rw[o,waF]at O;refine⟨_,rfl,_,_,rfl,rfl,1,most+1,rfl,⟨by omega,by omega,by omega,by omega⟩,dC (lo:=1) (n:=(most+1-1).toNat) (λi σ R=>R=M/\(∃v6,σ=[some (.ref x),some (.int many),some (.int wide),some (.int most),some (.ref l),some (.int (many^i)),v6])/\∀j:Nat,1<=j->j<=i->¬iM g m ss (j*e) "" < many^j) ⟨rfl,⟨none,by rw[Int.pow_zero];rfl⟩,λj p h2=>by omega⟩ ?_ ?_⟩
 ·rintro i σ R hi ⟨S,⟨v6,rfl⟩,lo⟩;rw[S];have U:i+1<=u:=by omega
  have Wy:(i+1)*e<=u*e:=weB _ U;have v:(i+1)*e<J.length:=by omega
  have e1:(J.map V.ref)[(i+1)*e]?=some (.ref J[(i+1)*e]):=by rw[wa4,wa1 v];rfl
  have y:=bO e1;have ei:((((i+1)*e:Nat)):Int)=(1+(i:Int))*wide:=by rw[t,wbo,wcu,Int.add_comm];rfl
  rw[ei]at y;have X:=ht _ _ (wa1 v);have e3:=eM.k (k:=(waj "":Key)) X;rw[va _ he]at e3;refine⟨_,rfl,_,rfl,_,_,rfl,rfl,.inr ⟨by omega,by omega⟩,?_⟩;refine⟨_,rfl,_,rfl,_,rfl,_,_,rfl,rfl,.inr ⟨by omega,by omega⟩,l,_,_,_,rfl,rfl,aL.of hl,y,_,_,rfl,e3,_,rfl,_,_,rfl,rfl,_,rfl,?_⟩;refine uP (λp=>?_) (λp=>⟨rfl,⟨_,by rw[wfC];rfl⟩,λj C q2=>?_⟩)
  ·have Y:=of_decide_eq_true p;have:=k1 (i+1) (by omega) (by omega) (by rw[wfC];exact Y) (λj C q2=>lo j C (by omega)) M s1;rw[show (((i+1:Nat):Nat):Int)=1+(i:Int) by omega]at this;exact⟨_,rfl,this⟩
  ·by_cases hj:j<=i
   ·exact lo j C hj
   ·obtain rfl:j=i+1:=by omega
    rw[wfC];exact λz=>p (decide_eq_true z)
 ·rintro σ R ⟨S,⟨v6,rfl⟩,lo⟩;rw[S];exact k2 (λj C q2=>lo j C (by omega)) M s1
theorem u3(L:Lk K mg):aT P w K mg base df 1 L.n0 L.n6 ["line"] (Iy K):=by
 refine L.jd.F.dJ (N:=["line"]) (λo A outer s H D Q E nd c h=>?_);obtain⟨v,p,rfl,t,hn,k⟩:=h;refine⟨_,(af (aA (fT rfl (ax [] []) (ax [] []) (by decide) (aP (pv 0)) (λ_ _ _ _ _ _=>bo) (λ_ _ _ _ _ _=>(eC (a5 (pv 0) (a5 (pv 1) a8))))))),?_⟩
 try dsimp only[dn,dm,b5,b6]
 obtain⟨a,u,rfl,j,b,x⟩:=kY t;have d:=b;rw[wa0]at d;refine⟨_,rfl,a,rfl,⟨_,j⟩,λl hl=>?_⟩;refine jU (prs:=p.map eQ) (λ_=>true) (λq=>.tup [.at q.1,.at q.2]) (aQ K a u) b (λi q e=>let ⟨r,y,B⟩:=x i q e;⟨r,y,ig.of B⟩) hl (aw (by omega)) (λm f=>f.seq j) (λq n C _ _ g=>g n (a9.refl _)) (λq n C e _ G g=>?_) (λm f r=>?_)
 ·obtain⟨z,I,rfl⟩:=wab.mp e;exact⟨_,rfl,_,rfl,by show 2<=sizeLine;decide,λr c=>g _ _ (a9.upd c) (mJ c z)⟩
 ·rw[wb8.mpr (λ_ _=>rfl),wah]at r;exact k _ m f r
theorem gk(L:Lk K mg):aT P w K mg base df 2 L.gO L.jZ ["self","homes","weights","lines"] (Iz K L.aD):=by
 have T:=L.T;refine L.dG.F.dJ (N:=["self","homes","weights","lines"]) (λi5 A outer s H vs Q E nd hr h=>?_);obtain⟨x,j,u,v,w,C,D,t,rfl,J,Z,Uk,Mt,n1,n2,n3,n4,k⟩:=h
 refine⟨_,(a6 (dg (pv 0) (bp cK (by rfl) T.list gz (a5 (pv 1) a8)) rfl)
  (a6 (dg (pv 0) (bp cK (by rfl) T.list gz (a5 (pv 2) a8)) rfl)
  (af (dg (pv 0) (cU rfl (ax [] []) (aP (pv 3)) (λ_ _ _ _ _ _=>bo) (λ_ _ _ _ _ _=>(aq (u3 L) L.jd (a5 (pv 0) a8)))) rfl)))),?_⟩
 try dsimp only[dn,dm,b5,b6]
 obtain⟨a,rfl,ha⟩:=Iv Z;obtain⟨b,rfl,hb⟩:=j8 Uk;obtain⟨c,xs,rfl,hc,M⟩:=Mt;have xl:xs.length=t.length:=by rw[M.len,wa0]
 have l:∀{d:Addr} {ys:List V} {H':Hp},aL K H d ys->(∀b o,H b=some o->b≠x->H' b=some o)->aL K H' d ys:=λhS kp=>(fq kp).seq (zm J hS);refine⟨_,rfl,a,_,rfl,.inl ha,λf B=>?_⟩;have m:x≠f:=ag J B;refine⟨_,rfl,x,L.aD,j,[],rfl,by rw[ae m];exact J,L.az.cl,L.az.fV,(show 0<1000 by decide),?_⟩;rw[Mj];have X:∀d o,H d=some o->d≠x->(upd (upd H f (.lst (C.map V.str))) x (.ins L.aD j (sV f))) d=some o:=λd o e hd=>by rw[ae hd];exact a9.upd B _ _ e
 have x1:(upd (upd H f (.lst (C.map V.str))) x (.ins L.aD j (sV f))) x=some (.ins L.aD j (sV f)):=a7;have a1:(upd (upd H f (.lst (C.map V.str))) x (.ins L.aD j (sV f))) f=some (.lst (C.map V.str)):=by rw[ae m.symm,a7]
 generalize upd (upd H f (.lst (C.map V.str))) x (.ins L.aD j (sV f))=O at X x1 a1 ⊢;refine⟨_,rfl,b,_,rfl,.inl (l hb X),λg n=>?_⟩;have p:x≠g:=ag x1 n;have Z2:f≠g:=ag a1 n
 have Ul:H g=none:=by
  cases q:H g with
  |none=>rfl
  |some o=>have:=X _ _ q p.symm;rw[n]at this;cases this
 refine⟨_,rfl,x,L.aD,j,sV f,rfl,by rw[ae p];exact x1,L.az.cl,L.az.dF,(show 1<1000 by decide),?_⟩;rw[Iw];have G:∀d o,H d=some o->d≠x->(upd (upd O g (.lst (D.map V.int))) x (.ins L.aD j (pU f g))) d=some o:=λd o e hd=>by rw[ae hd];exact a9.upd n _ _ (X _ _ e hd)
 have Y:(upd (upd O g (.lst (D.map V.int))) x (.ins L.aD j (pU f g))) x=some (.ins L.aD j (pU f g)):=a7;have a2:(upd (upd O g (.lst (D.map V.int))) x (.ins L.aD j (pU f g))) f=some (.lst (C.map V.str)):=by rw[ae m.symm,ae Z2];exact a1
 have b2:(upd (upd O g (.lst (D.map V.int))) x (.ins L.aD j (pU f g))) g=some (.lst (D.map V.int)):=by rw[ae p.symm,a7]
 generalize upd (upd O g (.lst (D.map V.int))) x (.ins L.aD j (pU f g))=H2 at G Y a2 b2 ⊢;have R:=bx.same (fq G) _ _ (bx.off J _ _ M);refine⟨_,rfl,c,rfl,⟨_,l (.inl hc) G⟩,λc' S=>?_⟩;refine vr (K:=K) (t.map cg) (aQ K c xs) S (aw (by omega)) (by rw[wa0,xl]) (λH' s'=>s'.seq (l (.inl hc) G)) (λi y d U Q' hy hd I qq=>?_) (λU I r3=>?_)
 ·obtain⟨d',e',r⟩:=R.get i y hy;rw[hd]at e';cases e';rw[wa4]at hd
  cases e:t[i]? with
  |none=>rw[e]at hd;cases hd
  |some qs=>
   rw[e]at hd;cases hd;exact⟨_,rfl,y,qs,rfl,bK.same I _ _ r,n4 qs (wa8 e),λz H4 s4 r4=>qq z H4 s4 r4⟩
 ·have ncx:x≠c':=ag Y S;refine⟨_,rfl,x,L.aD,j,pU f g,rfl,I _ _ Y,L.az.cl,L.az.cV,(show 2<1000 by decide),?_⟩;rw[Ei];have up:a9 (aM H U) (aM H (upd U x (.ins L.aD j (D6 f g c')))):=bT J λd o e hd=>by rw[ae hd];exact e
  have old:a9 (aM H2 U) (aM H U):=λd o e=>by
   unfold aM at e ⊢
   cases q:H d with
   |none=>
    cases q2:H2 d with
    |none=>rw[q2]at e;exact e
    |some z=>rw[q2]at e;cases e
   |some z=>
    by_cases hd:d=x
    ·rw[hd,Y]at e;cases e
    ·rw[G _ _ q hd]at e;cases e
  refine k f g c' _ a7 ?_ ?_ (bK.same (old.trans up) _ _ r3) λd o e hd=>by rw[ae hd];exact I _ _ (G _ _ e hd)
  ·exact pT ((cf B (by rw[ae m.symm];exact I _ _ a2)))
  ·exact jV ((cf Ul (by rw[ae p.symm];exact I _ _ b2)))
theorem md(L:Lk K mg):aT P w K mg base df 1 L.n7 L.n8 ["number","things"] (Lb K):=by
 have T:=L.T;refine L.fY.F.dJ (N:=["number","things"]) (λc A outer s H f Q E nd g h=>?_);obtain⟨i,a,b,rfl,d,k⟩:=h;refine⟨_,(af (aA (yW (jm GV (pv 0) ao (aU _)) (yV (jm mr (pv 0) (aC b4 (by rfl) T.len waJ (a5 (pv 1) a8)) (aU _)))))),?_⟩
 try dsimp only[dn,dm,b5,b6]
 by_cases h0:0<=i
 ·have e:fm i b.length=decide (i<(b.length:Int)):=by unfold fm;rw[decide_eq_true h0,wec]
  rw[e]at k;exact⟨_,rfl,_,_,rfl,rfl,true,congrArg V.bl (decide_eq_true h0),fO ⟨_,rfl,_,rfl,a,b,rfl,.inl d,_,_,rfl,rfl,k⟩⟩
 ·have e:fm i b.length=false:=by unfold fm;rw[decide_eq_false h0,wdq]
  rw[e]at k;exact⟨_,rfl,_,_,rfl,rfl,false,congrArg V.bl (decide_eq_false h0),cb k⟩
theorem oH(L:Lk K mg):aT P w K mg base (BZ P w) 1 L.qt L.qu ["sheet","many","steps","weight"] (NP K L.aD L.fM):=by
 have T:=L.T;refine L.da.F.Ft (N:=["sheet","many","steps","weight"]) (λU A outer s H vs Q E nd hr h=>?_);obtain⟨x,many,v,w,hs,c,X,b,rfl,S,Y,Z,t,m0,m1,k⟩:=h
 refine⟨_,(a6 (bD (aG pH (aC b4 (by rfl) T.len waJ (a5 (pv 2) a8)) ao (aU _)) (af (gJ d9 rfl L.iW L.gR rfl L.iV (a5 fb a8))) aN)
  (a6 (bD (aG mr (pv 3) ao (aU _)) (af (gJ d9 rfl L.iW L.gR rfl L.iV (a5 fb a8))) aN)
  (af (bD (aG mr (aC (mF rfl) (by rfl) T.sum Fo (a5 (fT rfl (ax ["sheet"] [0]) (ax ["sheet"] [0]) (by decide) (aP (pv 2)) (λ_ _ _ _ _ _=>bo) (λ_ _ _ _ _ _=>(b8 (i6 (K:=K) rfl) (nW (K:=K) rfl (pv 2) rfl) (pv 1) (λ_ _=>rfl)))) a8)) (aK gG (pv 1) (pv 3)) (aU _)) (af (gJ d9 rfl L.iW L.gR rfl L.iV (a5 fb a8))) aN)))),?_⟩
 try dsimp only[dn,dm,b5,b6]
 obtain⟨dx,ah,bw,cl,hx,rh,u,rl⟩:=id S;obtain⟨Wz,eb,hb⟩:=j8 u;cases eb;obtain⟨a,o,rfl,p,J⟩:=ez Y;have g:o.length=b.length:=by rw[J.1,wa0,wa0]
 have no:fj c many b w=false->∀y,a9 H y->E (.ref L.fM) none y:=λh=>by
  rcases k with⟨r,_⟩ |⟨_,i⟩
  ·rw[h]at r;cases r
  ·exact i
 by_cases B:b=[]
 ·subst B;have r0:o=[]:=wbz g;subst r0;exact⟨_,rfl,a,_,rfl,.inl p,rfl,true,Ib _,fO ⟨rfl,no rfl H (a9.refl _)⟩⟩
 have hq1:o.length≠0:=by rw[g];exact λz=>B (wbz z)
 have j:b.isEmpty=false:=by cases b with |nil=>exact absurd rfl B |cons _ _=>rfl
 refine⟨_,rfl,a,_,rfl,.inl p,rfl,false,congrArg V.bl (decide_eq_false λz=>by have:=V.int.inj z;rw[wa0]at this;omega),cb ?_⟩
 by_cases M:w<1
 ·refine⟨_,rfl,_,_,rfl,rfl,true,congrArg V.bl (decide_eq_true M),fO ⟨rfl,no ?_ H (a9.refl _)⟩⟩;unfold fj;rw[decide_eq_false (show ¬1<=w by omega),wdq,we1]
 refine⟨_,rfl,_,_,rfl,rfl,false,congrArg V.bl (decide_eq_false M),cb ?_⟩;refine⟨_,rfl,a,rfl,⟨_,p⟩,λlc C=>?_⟩;refine oX (prs:=b.map eQ) (λ_=>true) (λq=>match q.2 with |.int e=>.int (c.getD e.toNat 0) |_=>.non) (aQ K a (o.map V.ref)) J C (aw (by omega)) (λy s'=>s'.seq p) (λq d O _ _ D=>D d (a9.refl _)) (λq d O hq _ l D=>?_) (λd l R=>?_)
 ·obtain⟨f,G,rfl⟩:=wab.mp hq;have m:=t f G;have I:z4 (c.map V.int) (f.2:Int)=some (.int (c.getD f.2 0)):=bO (by rw[wa4,wa1 m,wa3,wa1 m];rfl)
  have q2:O (.int (c.getD f.2 0)) d:=by
   have:=D d (a9.refl _);rwa[show (eQ f).2=.int (f.2:Int) from rfl]at this
  exact⟨_,rfl,x,L.aD,dx,_,_,rfl,l _ _ hx,L.az.cl,L.az.dF,cN ah bw cl,_,rfl,bw,_,_,_,rfl,rfl,l.seq hb,I,q2⟩
 have e7:((b.map eQ).filter λ_=>true).map (λq=>match q.2 with |.int e=>V.int (c.getD e.toNat 0) |_=>.non)=(b.map λq=>c.getD q.2 0).map V.int:=by
  rw[wb8.mpr (λ_ _=>rfl),wah,wah];rfl
 rw[e7]at R;refine⟨lc,_,rfl,aL.of R,_,rfl,_,rfl,_,_,rfl,rfl,.inl ⟨by omega,by omega⟩,_,_,rfl,rfl,?_⟩
 by_cases n:bg c b<many*w
 ·refine⟨true,congrArg V.bl (decide_eq_true n),fO ⟨rfl,no ?_ d l⟩⟩;unfold fj;rw[decide_eq_false (show ¬many*w<=bg c b by omega),we1,we1]
 ·refine⟨false,congrArg V.bl (decide_eq_false n),cb ?_⟩;rcases k with⟨_,r⟩ |⟨i,_⟩
  ·exact r d l
  ·unfold fj at i;rw[j,decide_eq_true (show 1<=w by omega),decide_eq_true (show many*w<=bg c b by omega)]at i;cases i
theorem xr(L:Lk K mg):aT P w K mg base df 1 L.qw L.qx ["line","desk","twin"] (Lc K):=by
 refine L.lG.F.dJ (N:=["line","desk","twin","steps","word","end"]) (λi5 A outer s H vs Q E nd u h=>?_);obtain⟨v,d,t,p,rfl,hL,Mu,k⟩:=h
 refine⟨_,(a6 (aj (i:=3) (bX a8))
  (a6 (b7 wao rfl (aP (pv 0)) (eB rfl (aO (ay (i:=4)) (aO (ay (i:=5)) cT))) (a6 (bA (iZ waO waV waY cP (pv 3) (a5 (eC (a5 (pv 4) (a5 (pv 5) a8))) a8)))
  (af (bD (aG pH (pv 5) (pv 1) (aU _)) (af (bA (iZ waO waV waY cP (pv 3) (a5 (eC (a5 (pv 4) (a5 (pv 2) a8))) a8)))) aN))))
  (af (aA (pv 3))))),?_⟩
 try dsimp only[dn,dm,b5,b6]
 obtain⟨a,S,rfl,hS,hT⟩:=ez hL;have EA:S.length=p.length:=by rw[hT.1,wa0,wa0]
 refine⟨waA _,λb M=>?_⟩;have sb:a9 H (upd H b (.lst [])):=a9.upd M;have x:(upd H b (.lst [])) b=some (.lst []):=a7;generalize upd H b (.lst [])=B at sb x;have keep:∀{g:Hp},(∀c o,B c=some o->c≠b->g c=some o)->a9 H g:=λC c o e=>C _ _ (sb _ _ e) (ag e M)
 refine⟨_,rfl,a,rfl,⟨_,sb.seq hS⟩,dA (K:=K) (a:=a) (xs:=S.map V.ref) (λj σ g=>∃(v4 v5:Option V) (as:List V),σ=[some (.ref a),some (.int (d:Int)),some (.int (t:Int)),some (.ref b),v4,v5]/\g b=some (.lst as)/\(∀c o,B c=some o->c≠b->g c=some o)/\bx K (aM B g) ((eZ d t (p.take j)).map lR) as)
  ⟨none,none,[],rfl,x,λc o e _=>e,rfl⟩ (λj σ g _ ⟨_,_,_,_,_,C,_⟩=>(keep C).seq hS) ?_ ?_⟩
 ·rintro j y σ g hy ⟨v4,v5,as,rfl,l,C,T⟩;have hj:j<S.length:=by have:=(wa6.mp hy).1;rwa[wa0]at this
  have U:j<p.length:=by omega
  rw[wa4,wa1 hj]at hy;cases hy;have X:H S[j]=some (.tup [.str p[j].1,.int (p[j].2:Int)]):=hT.2 j S[j] (jT (eQ p[j])) (wa1 hj) (by rw[wa4,wa4,wa1 U];rfl);have rg:p.take (j+1)=p.take j++[p[j]]:=by rw[waP,wa1 U];rfl
  have Sh:as.length<=2*j:=by
   rw[T.len,wa0];exact wal (rM d t _) (wc8 2 (by rw[wai];omega))
  generalize p[j]=q at X rg;refine⟨S[j],_,rfl,ig.of (keep C _ _ X),rfl,_,_,rfl,_,_,rfl,rfl,?_⟩;refine⟨_,rfl,.inl ⟨rfl,_,aL.of l⟩,_,rfl,_,rfl,by show 2<=sizeLine;decide,λr u=>?_⟩;have I:∀n:Nat,n<=20000->n<sizeLine:=λn hn=>wbg hn (by rw[wcc];decide);have Si:=a9.upd (o:=.tup [.str q.1,.int (q.2:Int)]) u _ _ l;refine⟨b,_,_,rfl,rfl,Si,I _ (by omega),?_⟩;have Y:∀c o,(upd g r (.tup [.str q.1,.int (q.2:Int)])) c=some o->c≠b->(upd (upd g r (.tup [.str q.1,.int (q.2:Int)])) b (.lst (as++[.ref r]))) c=some o:=λc o e hc=>by rw[ae hc];exact e
  have D:∀c o,B c=some o->c≠b->(upd (upd g r (.tup [.str q.1,.int (q.2:Int)])) b (.lst (as++[.ref r]))) c=some o:=λc o e hc=>Y _ _ (a9.upd u _ _ (C c o e hc)) hc
  have r0:B r=none:=by
   cases z:B r with
   |none=>rfl
   |some o=>
    by_cases hc:r=b
    ·rw[hc,l]at u;cases u
    ·rw[C _ _ z hc]at u;cases u
  have O:bx K (aM B (upd (upd g r (.tup [.str q.1,.int (q.2:Int)])) b (.lst (as++[.ref r])))) ((eZ d t (p.take j)).map lR++[lR q]) (as++[.ref r]):=by
   refine iU (bx.same ((j7 (a9.upd u)).trans (bT x Y)) _ _ T) ?_;have R:r≠b:=λz=>by rw[z,l]at u;cases u
   exact⟨r,_,rfl,cf r0 (by rw[ae R,a7]),.str q.1,[.int (q.2:Int)],rfl,⟨rfl,rfl⟩,.int (q.2:Int),[],rfl,⟨rfl,rfl⟩,rfl⟩
  have m:(upd (upd g r (.tup [.str q.1,.int (q.2:Int)])) b (.lst (as++[.ref r]))) b=some (.lst (as++[.ref r])):=a7;generalize upd (upd g r (.tup [.str q.1,.int (q.2:Int)])) b (.lst (as++[.ref r]))=H4 at D O m
  by_cases G:q.2=d
  ·refine⟨_,rfl,_,rfl,rfl,true,congrArg V.bl (decide_eq_true (by rw[G])),fO ?_⟩;refine⟨_,rfl,.inl ⟨rfl,_,aL.of m⟩,_,rfl,_,rfl,by show 2<=sizeLine;decide,λJ f=>?_⟩;have Ms:=a9.upd (o:=.tup [.str q.1,.int (t:Int)]) f _ _ m;refine⟨b,_,_,rfl,rfl,Ms,I _ (by rw[wa5,wcj];omega),?_⟩;have Z:∀c o,(upd H4 J (.tup [.str q.1,.int (t:Int)])) c=some o->c≠b->(upd (upd H4 J (.tup [.str q.1,.int (t:Int)])) b (.lst (as++[.ref r]++[.ref J]))) c=some o:=λc o e hc=>by rw[ae hc];exact e
   have Z3:B J=none:=by
    cases z:B J with
    |none=>rfl
    |some o=>
     by_cases hc:J=b
     ·rw[hc,m]at f;cases f
     ·rw[D _ _ z hc]at f;cases f
   refine⟨_,_,_,rfl,a7,λc o e hc=>Z _ _ (a9.upd f _ _ (D c o e hc)) hc,?_⟩;rw[rg,vx,if_pos G,wan];have em:([q,(q.1,t)]:List (Str×Nat)).map lR=[lR q]++[lR (q.1,t)]:=rfl;rw[em,<-waT];refine iU (bx.same ((j7 (a9.upd f)).trans (bT x Z)) _ _ O) ?_;have R:J≠b:=λz=>by rw[z,m]at f;cases f
   exact⟨J,_,rfl,cf Z3 (by rw[ae R,a7]),.str q.1,[.int (t:Int)],rfl,⟨rfl,rfl⟩,.int (t:Int),[],rfl,⟨rfl,rfl⟩,rfl⟩
  ·refine⟨_,rfl,_,rfl,rfl,false,congrArg V.bl (decide_eq_false λz=>G (by have:=V.int.inj z;omega)),cb ?_⟩;refine⟨_,_,_,rfl,m,D,?_⟩;rw[rg,vx,if_neg G,wan];exact O
 ·rintro σ g ⟨v4,v5,as,rfl,l,C,T⟩;rw[wa0,EA,waI]at T;exact⟨_,rfl,k _ _ (keep C) ⟨b,as,rfl,.inl (cf M l),bx.same (eW sb) _ _ T⟩⟩
theorem Jg(L:Lk K mg):aT P w K mg base (BZ P w) 4 L.Ew L.Ex ["sheet","many","desk","numbers","weight"] (Ld K L.aD L.fM):=by
 have T:=L.T;refine L.qy.F.Ft (N:=["sheet","many","desk","numbers","weight","line","chosen","others","rest","lines","weights","twin"]) (λi5 A outer s H vs Q E nd hr h=>?_);obtain⟨x,a,many,B,w,ns,u,j,f,rfl,S,hA,OJ,Wv,m0,m1,k⟩:=h
 refine⟨_,(a6 (bD (dO (cF (aq (md L) L.fY (a5 (pv 2) (a5 (aE (pv 0) rfl) a8))))) (af (gJ d9 rfl L.iW L.gR rfl L.iV (a5 fb a8))) aN)
  (a6 (aj (i:=5) (b8 bf (aE (pv 0) rfl) (pv 2) (λ_ _=>rfl)))
  (a6 (bD (dO (cF (aC (Au rfl) (by rfl) T.all Q1 (a5 (cU rfl (ax ["line"] [5]) (aP (pv 3)) (λ_ _ _ _ _ _=>bo) (λ_ _ _ _ _ _=>(aq (md L) L.fY (a5 (pv 0) (a5 (pv 1) a8))))) a8)))) (af (gJ d9 rfl L.iW L.gR rfl L.iV (a5 fb a8))) aN)
  (a6 (sX (i:=6) rfl (ax ["numbers"] [3]) nd rfl rfl (ax ["numbers"] [3]) (by decide) (kE (by rfl) T.enum (a5 (pv 5) a8)) (λ_ _ _ _ _ _=>gZ (aG (j3 (K:=K) rfl) (pv 0) (pv 2) rfl)) (λ_ _ _ _ _ _=>(pv 1)))
  (a6 (sX (i:=7) rfl (ax ["numbers"] [3]) nd rfl rfl (ax ["numbers"] [3]) (by decide) (kE (by rfl) T.enum (a5 (pv 5) a8)) (λ_ _ _ _ _ _=>gZ (aG (x9 (K:=K) rfl) (pv 0) (pv 2) rfl)) (λ_ _ _ _ _ _=>(pv 1)))
  (a6 (aj (i:=8) (aK mq (b8 bf (aE (pv 0) rfl) (pv 2) (λ_ _=>rfl)) (pv 4)))
  (a6 (bA (kr (oH L) (hr.mono (by decide)) rfl L.da.g L.da.F.kp L.da.b .nil (yf d9) (a5 (pv 0) (a5 (pv 1) (a5 (pv 6) (a5 (pv 4) a8))))))
  (a6 (bA (kr (oH L) (hr.mono (by decide)) rfl L.da.g L.da.F.kp L.da.b .nil (yf d9) (a5 (pv 0) (a5 (pv 1) (a5 (pv 7) (a5 (pv 8) a8))))))
  (a6 (aj (i:=9) (aK zo (aE (pv 0) rfl) (bX (a5 (pv 7) a8))))
  (a6 (rk (pv 6) (C4 (pv 9) (pv 2) set_list))
  (a6 (aj (i:=10) (aK zo (aE (pv 0) rfl) (bX (a5 (pv 8) a8))))
  (a6 (rk (pv 4) (C4 (pv 10) (pv 2) set_list))
  (a6 (aj (i:=11) (aC b4 (by rfl) T.len waJ (a5 (aE (pv 0) rfl) a8)))
  (af (aA (nU L.qM (gk L) (hr.mono (by decide)) rfl L.uB L.dG.b .nil bj (a5 (aK zo (aE (pv 0) rfl) (bX (a5 (b8 bf (aE (pv 0) rfl) (pv 2) (λ_ _=>rfl)) a8))) (a5 (pv 10) (a5 (cU rfl (ax ["desk","twin"] [2,11]) (aP (pv 9)) (λ_ _ _ _ _ _=>bo) (λ_ _ _ _ _ _=>(aq (xr L) L.lG (a5 (pv 0) (a5 (pv 1) (a5 (pv 2) a8)))))) a8))))))))))))))))))),?_⟩
 try dsimp only[dn,dm,b5,b6]
 refine bU λR1 c1=>?_;obtain⟨dx,M,bw,cl,hx,rh,JW,rl⟩:=id S;have hh:=uz rh;have hw:=La JW;obtain⟨QE,t,ec,hc,y4⟩:=id rl;cases ec;have xl:t.length=f.length:=by rw[y4.len,wa0]
 have hn:=Wv.n;have AF:=Wv.w;have Dg:=Wv.l
 have no:eF j f many B ns w=false->∀H',a9 H H'->E (.ref L.fM) none H':=λh=>by
  rcases k with⟨k1,_⟩ |⟨_,k2⟩
  ·rw[h]at k1;cases k1
  ·exact k2
 cases h1:fm B f.length with
 |false=>
  refine⟨_,rfl,_,rfl,x,L.aD,dx,_,_,rfl,hx,L.az.cl,L.az.cV,bV M bw cl,B,cl,t,rfl,.inl hc,false,congrArg V.bl (by rw[xl];exact h1),fO ⟨rfl,no ?_ H (a9.refl _)⟩⟩;unfold eF;rw[h1,wdq]
 |true=>
 obtain⟨d,rfl,hd⟩:∃d:Nat,B=(d:Int)/\d<f.length:=by
  unfold fm at h1;rw[wbU]at h1;have a1:=of_decide_eq_true h1.1;have a2:=of_decide_eq_true h1.2;exact⟨B.toNat,by omega,by omega⟩
 refine⟨_,rfl,_,rfl,x,L.aD,dx,_,_,rfl,hx,L.az.cl,L.az.cV,bV M bw cl,_,cl,t,rfl,.inl hc,true,congrArg V.bl (by rw[xl];exact h1),cb ?_⟩;refine c1 _ _ (bU λR2 c2=>?_);rw[waF]at k;have We:d<t.length:=by omega
 have WB:t[d]?=some t[d]:=wa1 We;obtain⟨dd,OM,rd⟩:=y4.get d _ WB;have QF:f[d]?=some f[d]:=wa1 hd;rw[wa4,QF]at OM;cases OM;have RT:f.getD d []=f[d]:=by rw[wa3,QF];rfl
 have OO:f[d]∈f:=waN hd;have Um:=Wv.m _ OO;have Uo:=Wv.e _ OO
 have WC:eF j f many (d:Int) ns w=(ns.all (λi=>fm i f[d].length)&&(fj j many (b0 ns f[d]) w&&fj j many (aX ns f[d]) (j.getD d 0-w))):=by
  unfold eF;rw[h1,wec,waF,RT]
 unfold dW at k;rw[RT]at k;rw[WC]at k no;refine⟨_,rfl,x,L.aD,dx,_,_,rfl,hx,L.az.cl,L.az.cV,bV M bw cl,_,rfl,cl,t,_,t[d],rfl,rfl,.inl hc,bO WB,?_⟩;obtain⟨al,ys,el,O,Mv⟩:=rd;rw[el];have yl:ys.length=f[d].length:=by rw[Mv.len,wa0]
 generalize f[d]=p at WC OO Um Uo Mv yl k no;refine c2 _ _ (bU λR3 c3=>?_);refine⟨_,rfl,a,rfl,⟨_,hA⟩,λl1 O6=>?_⟩;refine comp_map (λv=>match v with |.int i=>V.bl (fm i ys.length) |_=>.non) (aQ K a (ns.map V.int)) O6 (by rw[wa0];exact aw (by omega)) (λH' s'=>s'.seq hA) (λz H2 Q' hz s2 R=>?_) (λH2 s2 h2=>?_)
 ·obtain⟨i,_,rfl⟩:=wab.mp hz;exact⟨_,rfl,_,rfl,i,al,ys,rfl,s2.seq (.inl O),R H2 (a9.refl _)⟩
 have e2:(ns.map V.int).map (λv=>match v with |.int i=>V.bl (fm i ys.length) |_=>.non)=(ns.map λi=>fm i p.length).map V.bl:=by
  rw[wah,wah,yl];rfl
 rw[e2]at h2
 have QG:((ns.map λi=>fm i p.length).all id)=ns.all (λi=>fm i p.length):=by
  rw[wfs];rfl
 cases h3:ns.all (λi=>fm i p.length) with
 |false=>
  refine⟨l1,_,rfl,aL.of h2,false,congrArg V.bl (QG.trans h3),fO ⟨rfl,no ?_ H2 s2⟩⟩;rw[h3,wdq]
 |true=>
 refine⟨l1,_,rfl,aL.of h2,true,congrArg V.bl (QG.trans h3),cb ?_⟩;refine c3 _ _ (bU λR4 c4=>?_);rw[h3,wec]at k no;refine⟨_,rfl,al,ys,rfl,s2.seq (.inl O),λlc Ly=>?_⟩;refine yr (λi=>pJ (.int (i:Nat)) (ns.map V.int)) (s2.seq (.inl O)) Ly (aw (by omega)) (λi y H3 Q' _ s3 R=>?_) (λi y H3 Q' _ s3 R=>⟨_,rfl,R H3 (a9.refl _)⟩) (λH3 s3 WD=>?_)
 ·exact⟨_,rfl,_,rfl,a,_,rfl,.inl ((s2.trans s3).seq hA),rfl,d2 ns,_,rfl,R H3 (a9.refl _)⟩
 have Z4:(λi:Nat=>pJ (.int (i:Nat)) (ns.map V.int))=λi:Nat=>decide ((i:Int)∈ns):=funext λi=>vv _ ns;rw[Z4]at WD;have wO:=s2.trans s3;refine c4 _ _ (bU λR5 c5=>?_);refine⟨_,rfl,al,ys,rfl,wO.seq (.inl O),λlo Ma=>?_⟩;refine yr (λi=>!pJ (.int (i:Nat)) (ns.map V.int)) (wO.seq (.inl O)) Ma (aw (by omega)) (λi y H4 Q' _ s4 R=>?_) (λi y H4 Q' _ s4 R=>⟨_,rfl,R H4 (a9.refl _)⟩) (λH4 s4 WG=>?_)
 ·exact⟨_,rfl,_,rfl,a,_,rfl,.inl ((wO.trans s4).seq hA),rfl,d2 ns,_,rfl,R H4 (a9.refl _)⟩
 have Up:(λi:Nat=>!pJ (.int (i:Nat)) (ns.map V.int))=λi:Nat=>!decide ((i:Int)∈ns):=funext λi=>congrArg (!·) (vv _ ns);rw[Up]at WG;have C:=wO.trans s4;refine c5 _ _ (bU λR6 c6=>?_);have Z5:=s4 _ _ WD;have rC:bK K H4 (cg (b0 ns p)) (.ref lc):=⟨lc,_,rfl,.inl Z5,Ba _ (bx.same C _ _ Mv)⟩;have rO:bK K H4 (cg (aX ns p)) (.ref lo):=⟨lo,_,rfl,.inl WG,Ba _ (bx.same C _ _ Mv)⟩;have WH:(b0 ns p).length<=5000:=wal (nY _ _ _) Um;have Z6:(aX ns p).length<=5000:=wal (nY _ _ _) Um;have ce:∀q∈b0 ns p,q.2<j.length:=λq hq=>by rw[AF];exact Uo q (et hq)
 have oe:∀q∈aX ns p,q.2<j.length:=λq hq=>by rw[AF];exact Uo q (et hq)
 have WK:d<j.length:=by omega
 have Uq:z4 (j.map V.int) (d:Int)=some (.int (j.getD d 0)):=bO (by rw[wa4,wa1 WK,wa3,wa1 WK];rfl);refine⟨_,rfl,x,L.aD,dx,_,_,rfl,C _ _ hx,L.az.cl,L.az.dF,cN M bw cl,_,rfl,bw,_,_,_,rfl,rfl,C.seq (.inl hw),Uq,_,rfl,_,_,rfl,rfl,?_⟩;show d5 8 (V.int (j.getD d 0-w)) _ _ _;refine c6 _ _ (bU λR7 c7=>?_);have S4:=S.same C;refine⟨_,rfl,_,rfl,_,rfl,_,rfl,x,many,.ref lc,w,u,j,f,b0 ns p,rfl,S4,rC,by omega,ce,m0,m1,?_⟩
 cases h5:fj j many (b0 ns p) w with
 |false=>exact .inr ⟨rfl,λH5 s5=>no (by rw[h5,wdq]) H5 (C.trans s5)⟩
 |true=>
 refine .inl ⟨rfl,λH5 s5=>?_⟩;refine c7 _ _ (bU λR8 c8=>?_);rw[h5,wec]at k no;refine⟨_,rfl,_,rfl,_,rfl,_,rfl,x,many,.ref lo,j.getD d 0-w,u,j,f,aX ns p,rfl,S4.same s5,bK.same s5 _ _ rO,by omega,oe,m0,m1,?_⟩
 cases h6:fj j many (aX ns p) (j.getD d 0-w) with
 |false=>exact .inr ⟨rfl,λH6 s6=>no h6 H6 ((C.trans s5).trans s6)⟩
 |true=>
 refine .inl ⟨rfl,λH6 s6=>?_⟩;refine c8 _ _ ?_;obtain⟨_,kk⟩:True/\_:=⟨trivial,k⟩;rcases kk with⟨_,k⟩ |⟨k1,_⟩
 rotate_left
 ·rw[h6]at k1;cases k1
 have Ur:=s5.trans s6;have QH:=C.trans Ur;have Z7:=bK.same Ur _ _ rC;have Z8:=bK.same Ur _ _ rO;have big:∀n:Nat,n<=20000->n<=sizeLine:=λn hn=>wal hn (by rw[wcc];decide);refine⟨_,rfl,x,L.aD,dx,_,_,rfl,QH _ _ hx,L.az.cl,L.az.cV,bV M bw cl,_,rfl,by show 1<=sizeLine;decide,λl7 WL=>?_⟩;refine⟨cl,l7,t,[.ref lo],rfl,rfl,pR (QH.trans (a9.upd WL)) hc,.inl a7,big _ (by show t.length+1<=_;omega),λU I=>?_⟩;have WM:a9 H6 (upd H6 l7 (.lst [V.ref lo])):=a9.upd WL;generalize upd H6 l7 (.lst [V.ref lo])=X at WM I;have s6b:a9 X (upd X U (.lst (t++[V.ref lo]))):=a9.upd I
 have Wy:DX (t++[V.ref lo]).length (d:Int)=some d:=by
  have Y:(t++[V.ref lo]).length=t.length+1:=by rw[wa5];rfl
  unfold DX;rw[Y,if_pos (by omega),if_pos (by omega),waF]
 refine⟨_,rfl,_,rfl,_,rfl,U,_,_,d,rfl,rfl,a7,Wy,?_⟩;have RN:(upd (upd X U (.lst (t++[V.ref lo]))) U (.lst ((t++[V.ref lo]).set d (V.ref lc)))) U=some (.lst ((t++[V.ref lo]).set d (V.ref lc))):=a7
 have Sj:a9 H6 (upd (upd X U (.lst (t++[V.ref lo]))) U (.lst ((t++[V.ref lo]).set d (V.ref lc)))):=λc o e=>by
  have J:=WM _ _ e;rw[ae (ag J I),ae (ag J I)];exact J
 generalize upd (upd X U (.lst (t++[V.ref lo]))) U (.lst ((t++[V.ref lo]).set d (V.ref lc)))=H8 at RN Sj;have OQ:=QH.trans Sj
 have Z9:bx K H8 (((f++[aX ns p]).set d (b0 ns p)).map cg) ((t++[V.ref lo]).set d (V.ref lc)):=by
  have r1:bx K H8 (f.map cg++[cg (aX ns p)]) (t++[V.ref lo]):=iU (bx.same OQ _ _ y4) (bK.same Sj _ _ Z8)
  have e:((f++[aX ns p]).set d (b0 ns p)).map cg=(f.map cg++[cg (aX ns p)]).set d (cg (b0 ns p)):=by
   rw[wfD,wan];rfl
  rw[e];exact r1.set d (bK.same Sj _ _ Z7)
 refine⟨_,rfl,x,L.aD,dx,_,_,rfl,OQ _ _ hx,L.az.cl,L.az.dF,cN M bw cl,_,rfl,by show 1<=sizeLine;decide,λl9 WN=>?_⟩;refine⟨bw,l9,_,[.int (j.getD d 0-w)],rfl,rfl,pR (OQ.trans (a9.upd WN)) hw,.inl a7,big _ (by rw[wa0];show j.length+1<=_;omega),λlw O7=>?_⟩;have WO:a9 H8 (upd H8 l9 (.lst [.int (j.getD d 0-w)])):=a9.upd WN;generalize upd H8 l9 (.lst [.int (j.getD d 0-w)])=Us at WO O7;have Ut:j.map V.int++[V.int (j.getD d 0-w)]=(j++[j.getD d 0-w]).map V.int:=by rw[wan];rfl
 rw[Ut]
 have Uu:DX ((j++[j.getD d 0-w]).map V.int).length (d:Int)=some d:=by
  have Y:((j++[j.getD d 0-w]).map V.int).length=j.length+1:=by rw[wa0,wa5];rfl
  unfold DX;rw[Y,if_pos (by omega),if_pos (by omega),waF]
 refine⟨_,rfl,_,rfl,_,rfl,lw,_,_,d,rfl,rfl,a7,Uu,?_⟩
 have Uv:((j++[j.getD d 0-w]).map V.int).set d (.int w)=(cG j d w).map V.int:=by
  unfold cG;rw[wfD]
 rw[Uv];have WQ:(upd (upd Us lw (.lst ((j++[j.getD d 0-w]).map V.int))) lw (.lst ((cG j d w).map V.int))) lw=some (.lst ((cG j d w).map V.int)):=a7
 have Uw:a9 H8 (upd (upd Us lw (.lst ((j++[j.getD d 0-w]).map V.int))) lw (.lst ((cG j d w).map V.int))):=λc o e=>by
  have J:=WO _ _ e;rw[ae (ag J O7),ae (ag J O7)];exact J
 generalize upd (upd Us lw (.lst ((j++[j.getD d 0-w]).map V.int))) lw (.lst ((cG j d w).map V.int))=H9 at WQ Uw;have D:=OQ.trans Uw;refine⟨_,rfl,x,L.aD,dx,_,_,rfl,D _ _ hx,L.az.cl,L.az.cV,bV M bw cl,cl,t,rfl,.inl (D.seq (.inl hc)),?_⟩;rw[xl];have WR:d<u.length:=by omega
 have Ux:z4 (u.map V.str) (d:Int)=some (.str (u.getD d "")):=bO (by rw[wa4,wa1 WR,wa3,wa1 WR];rfl);refine⟨_,rfl,x,L.aD,dx,_,_,rfl,D _ _ hx,L.az.cl,L.az.fV,fF M bw cl,_,rfl,x,L.aD,dx,_,_,rfl,D _ _ hx,L.az.cl,L.az.fV,fF M bw cl,_,rfl,M,_,_,_,rfl,rfl,D.seq (.inl hh),Ux,by show 1<=sizeLine;decide,λl10 QI=>?_⟩;refine⟨M,l10,_,[.str (u.getD d "")],rfl,rfl,pR (D.trans (a9.upd QI)) hh,.inl a7,big _ (by rw[wa0];show u.length+1<=_;omega),λlh OS=>?_⟩;have WT:a9 H9 (upd H9 l10 (.lst [.str (u.getD d "")])):=a9.upd QI;generalize upd H9 l10 (.lst [.str (u.getD d "")])=WU at WT OS;have QJ:u.map V.str++[V.str (u.getD d "")]=(cY u d).map V.str:=by unfold cY;rw[wan];rfl
 rw[QJ];have Sl:=WT.trans (a9.upd (o:=.lst ((cY u d).map V.str)) OS);have QK:(upd WU lh (.lst ((cY u d).map V.str))) lh=some (.lst ((cY u d).map V.str)):=a7;generalize upd WU lh (.lst ((cY u d).map V.str))=OT at Sl QK;have Mw:=Uw.trans Sl;have Z:=Mw _ _ RN;have Uy:=bx.same Mw _ _ Z9;have zl:((t++[V.ref lo]).set d (V.ref lc)).length=f.length+1:=by rw[wc7,wa5,xl];rfl
 refine⟨_,rfl,_,rfl,U,rfl,⟨_,aL.of Z⟩,λlt NR=>?_⟩
 have QL:∀l∈(f++[aX ns p]).set d (b0 ns p),l.length<=5000:=λl hl=>by
  rcases wcn hl with z |z
  ·rcases waE.mp z with z |z
   ·exact Wv.m l z
   ·rw[waq.mp z];exact Z6
  ·rw[z];exact WH
 refine vr (K:=K) ((((f++[aX ns p]).set d (b0 ns p)).map (eZ d f.length)).map cg) (aQ K U ((t++[V.ref lo]).set d (V.ref lc))) NR (big _ (by rw[zl];omega)) (by rw[wa0,wa0,wc7,wa5,zl];rfl) (λH' s'=>aL.of (s' _ _ Z)) (λi y dt GC Q' hy JX G R=>?_) (λGC G Za=>?_)
 ·obtain⟨d',J,r⟩:=Uy.get i y hy;rw[wa4]at J JX;rw[wa4]at JX
  cases e:((f++[aX ns p]).set d (b0 ns p))[i]? with
  |none=>rw[e]at J;cases J
  |some l=>
   rw[e]at J JX;cases J;cases JX;exact⟨_,rfl,_,rfl,_,rfl,y,d,f.length,l,rfl,bK.same G _ _ r,QL l (wa8 e),λz Mx ED Zb=>R z Mx ED Zb⟩
 intro y dy ny Uz Zc;have sm:a9 GC (upd (upd GC dy (.own y)) y (.ins L.aD dy [])):=fE ny Uz;have Jh:=D.trans Sl;refine⟨y,dy,.ref lh,.ref lw,.ref lt,cY u d,cG j d w,((f++[aX ns p]).set d (b0 ns p)).map (eZ d f.length),rfl,a7,pT (sm _ _ (G _ _ QK)),jV (sm _ _ (G _ _ (Sl _ _ WQ))),bK.same ((cj _ _).trans sm) _ _ Za,?_,?_,?_,?_,λa' b' c' Mx UA q1 q2 q3 UB=>⟨rfl,?_⟩⟩
 ·unfold cY;rw[wa5];show u.length+1<=_;omega
 ·unfold cG;rw[wc7,wa5];show j.length+1<=_;omega
 ·rw[wa0,wc7,wa5];show f.length+1<=_;omega
 ·intro l hl;obtain⟨l',QM,rfl⟩:=wab.mp hl;have:=rM d f.length l';have:=QL l' QM;omega
 ·have ED:a9 GC Mx:=λc o e=>UB _ _ (sm _ _ e) (ag e ny);refine k y Mx (Jh.trans (G.trans ED)) ?_;have UC:H y=none:=none_of (Jh.trans G) ny;have nw:=λ(dd:kU) (v:V) (r:bK K (aM _ Mx) dd v)=>bK.same (eW ((Jh.trans G).trans sm)) dd v r;exact⟨dy,a',b',c',cf UC UA,nw _ _ q1,nw _ _ q2,nw _ _ q3⟩
theorem oI(L:Lk K mg):aT P w K mg base df 1 L.qE L.qF ["line","desks"] (NW K):=by
 refine L.iN.F.dJ (N:=["line","desks"]) (λy A outer s H R Q E nd g h=>?_);obtain⟨v,b,f,j,rfl,B,C,hn,k⟩:=h;refine⟨_,(af (aA (fT rfl (ax ["desks"] [1]) (ax ["desks"] [1]) (by decide) (aP (pv 0)) (λ_ _ _ _ _ _=>gZ (aG (j3 (K:=K) rfl) (pv 1) (pv 2) rfl)) (λ_ _ _ _ _ _=>(eC (a5 (pv 0) (a5 (pv 1) a8))))))),?_⟩
 try dsimp only[dn,dm,b5,b6]
 obtain⟨a,D,rfl,p,c,G⟩:=kY B;have m:=c;rw[wa0]at m;refine⟨_,rfl,a,rfl,⟨_,p⟩,λl hl=>?_⟩
 refine jU (prs:=j.map eQ) (λq=>pJ q.2 ((nI f).map V.int)) (λq=>.tup [.at q.1,.at q.2]) (aQ K a D) c (λi q d=>let ⟨r,I,J⟩:=G i q d;⟨r,I,ig.of J⟩) hl (aw (by omega)) (λt n=>n.seq p) (λq u M d x o=>by
  obtain⟨z,O,rfl⟩:=wab.mp d
  exact⟨_,rfl,_,rfl,b,_,rfl,.inl (x.seq C),rfl,d2 _,_,rfl,o u (a9.refl _)⟩) (λq u M d _ x o=>?_) (λt n r=>?_)
 ·obtain⟨z,O,rfl⟩:=wab.mp d;exact⟨_,rfl,_,rfl,by show 2<=sizeLine;decide,λr g=>o _ _ (a9.upd g) (mJ g z)⟩
 ·have e:((j.map eQ).filter λq=>pJ q.2 ((nI f).map V.int))=(cZ f j).map eQ:=by
   unfold cZ;rw[weD];refine congrArg _ (whb λq _=>?_);exact Bf q.2 f
  rw[e,wah]at r;exact k _ t n r
theorem oJ(L:Lk K mg):aT P w K mg base df 2 L.lH L.qG ["sheet","many"] (NX K L.aD):=by
 have T:=L.T;refine L.iO.F.dJ (N:=["sheet","many","kept","left"]) (λG A outer s H vs Q E nd hr h=>?_);obtain⟨x,many,hs,ws,b,rfl,S,hn,hm,k⟩:=h;have I:(A.deeper (wcX "kept_desks" (aJ (top 71)) s.heap.objs.size L.lH G)).units<wcF:=hr.uJ
 refine⟨_,(a6 (aj (i:=2) (bp (uZ rfl) (by rfl) T.list gz (a5 (bp sP (by rfl) T.range Ef (a5 (aC b4 (by rfl) T.len waJ (a5 (aE (pv 0) rfl) a8)) a8)) a8)))
  (af (jL wao (cF gy) (a6 (dS (i:=3) rfl (ax ["sheet","kept","many"] [0,2,1]) nd rfl rfl (aP (pv 2)) (λ_ _ _ _ _ _=>gZ (aG GV (aC (xa (K:=K) rfl) (by rfl) T.len waJ (a5 (aq (oI L) L.iN (a5 (b8 (i6 (K:=K) rfl) (nW (K:=K) rfl (pv 1) rfl) (pv 0) (λ_ _=>rfl)) (a5 (pv 2) a8))) a8)) (pv 3) (aU _))) (λ_ _ _ _ _ _=>(pv 0)))
  (a6 (bD (aG (Cp I) (pv 3) (pv 2) (aU _)) (af (aA (pv 2))) aN)
  (af (aj (i:=2) (pv 3)))))))),?_⟩
 try dsimp only[dn,dm,b5,b6]
 obtain⟨dx,ah,bw,cl,hx,rh,JW,rl⟩:=id S;obtain⟨QE,J,ec,hc,m⟩:=id rl;cases ec;have xl:J.length=b.length:=by rw[m.len,wa0]
 refine⟨_,rfl,x,L.aD,dx,_,_,rfl,hx,L.az.cl,L.az.cV,bV ah bw cl,cl,J,rfl,.inl (.inl hc),?_⟩;rw[xl];refine⟨_,rfl,λp hp=>?_⟩;refine⟨p,b.length,rfl,a7,aw (by omega),λl hl=>?_⟩;have s1:a9 H (upd H p (.rng 0 (b.length:Int))):=a9.upd hp;have fl:H l=none:=none_of s1 hl;have s2:=s1.trans (a9.upd (o:=.lst ((waD b.length).map λi=>V.int (i:Nat))) hl);have h2:(upd (upd H p (.rng 0 (b.length:Int))) l (.lst ((waD b.length).map λi=>V.int (i:Nat)))) l=some (.lst ((nI (waD b.length)).map V.int)):=by rw[a7,vJ]
 generalize upd (upd H p (.rng 0 (b.length:Int))) l (.lst ((waD b.length).map λi=>V.int (i:Nat)))=H2 at s2 h2;refine⟨λq σ M=>∃(l:Addr) (c:List Nat) (v3:Option V),q=c.length/\σ=[some (.ref x),some (.int many),some (.ref l),v3]/\a9 H M/\H l=none/\M l=some (.lst ((nI c).map V.int))/\Above b many c,⟨_,l,_,none,rfl,rfl,s2,fl,h2,Above.start b many⟩,?_⟩;rintro q σ M ⟨l,c,v3,rfl,rfl,O,fl,r,t⟩;refine⟨true,rfl,fO ?_⟩;refine⟨λu C=>∃(g:Addr),u=[some (.ref x),some (.int many),some (.ref g),some (.ref g)]/\a9 H C/\H g=none/\C g=some (.lst ((nI (vC b many c)).map V.int))/\vC b many c≠c,?_,?_⟩
 ·rintro u C ⟨g,rfl,R,U,h',X⟩;exact⟨_,IM X,g,_,_,rfl,rfl,R,U,h',t.next⟩
 have Y:∀d∈c,d<b.length:=λd hd=>wb1.mp (t.sub.subset hd);have Wq:c.length<=1000:=by have:=t.sub.length_le;rw[waK]at this;omega
 refine⟨_,rfl,l,rfl,⟨_,aL.of r⟩,λg z=>?_⟩;refine ee (λv=>match v with |.int d=>decide (many<=((cZ c (b.getD d.toNat [])).length:Int)) |_=>false) (λv=>v) (aQ K l _) z (aw (by rw[wa0,cH];omega)) (λC R=>aL.of (R _ _ r)) (λy D Q' hy j Z=>?_) (λy D Q' hy _ j Z=>⟨_,rfl,Z D (a9.refl _)⟩) (λD j h4=>?_)
 ·obtain⟨n,BX,rfl⟩:=rP hy;have OJ:=Y n BX;have hq:b[n]?=some (b.getD n []):=by rw[wa3,wa1 OJ];rfl
  obtain⟨v,O8,rd⟩:=m.at (i:=n) (d:=cg (b.getD n [])) (by rw[wa4,hq];rfl);have e:=O.trans j;refine⟨_,rfl,x,L.aD,dx,_,_,rfl,e _ _ hx,L.az.cl,L.az.cV,bV ah bw cl,_,rfl,cl,J,_,_,rfl,rfl,e.seq (.inl hc),bO O8,_,rfl,v,l,c,b.getD n [],rfl,bK.same e _ _ rd,aL.of (j _ _ r),hm _ (wa8 hq),λy H5 s5 r5=>?_⟩;obtain⟨a,rs,rfl,hS,hT⟩:=ez r5;have EA:rs.length=(cZ c (b.getD n [])).length:=by rw[hT.1,wa0,wa0]
  refine⟨a,_,rfl,.inl ((cj _ _).seq hS),?_⟩;rw[wa0,EA];exact⟨_,rfl,_,_,rfl,rfl,_,rfl,Z H5 s5⟩
 rw[wdX,yz (f:=λn=>decide (many<=((cZ c (b.getD n [])).length:Int))) (λn=>rfl)]at h4;have e:=O.trans j;refine⟨_,rfl,_,rfl,g,l,_,_,rfl,rfl,aL.of h4,aL.of (j _ _ r),d2 _,d2 _,_,rfl,?_⟩;refine uP (λB=>?_) (λB=>?_)
 ·rw[jW,decide_eq_true_eq]at B;exact⟨_,rfl,k l c D e fl (j _ _ r) ⟨t,t.stays B⟩⟩
 ·rw[jW,decide_eq_true_eq]at B;exact⟨_,rfl,g,rfl,e,none_of O z,h4,B⟩
theorem u5(L:Lk K mg):aT P w K mg base df 1 L.ng L.nh ["sheet","desk"] (FU K L.aD):=by
 have T:=L.T;refine L.jg.F.dJ (N:=["sheet","desk","reached","waiting","line","word","end"]) (λi5 A outer s H vs Q E nd n h=>?_);obtain⟨x,d,hs,ws,c,rfl,S,hd,he,wZ,hn,k⟩:=h;have hu:=fk n
 refine⟨_,(a6 (aj (i:=2) dD)
  (a6 (aj (i:=3) (bX (a5 (pv 1) a8)))
  (a6 (jL wao (aG o6 (aC b4 (by rfl) T.len waJ (a5 (pv 3) a8)) ao (aU _)) (a6 (aj (i:=4) (b8 bf (aE (pv 0) rfl) (Hg waO wgW PySem.F.type_list_pop N1 (pv 3)) (λ_ _=>rfl)))
  (af (b7 wao rfl (aP (pv 4)) (eB rfl (aO (ay (i:=5)) (aO (ay (i:=6)) cT))) (af (bD (yT (xY hu (pv 6) (pv 2))) (a6 (eD hu (pv 2) (pv 6) gy rfl)
  (af (bA (iZ waO waV waY cP (pv 3) (a5 (pv 6) a8))))) aN))))))
  (af (aA (bp (kC rfl) (by rfl) T.list gz (a5 (pv 2) a8))))))),?_⟩
 try dsimp only[dn,dm,b5,b6]
 obtain⟨dx,ah,bw,cl,hx,rh,JW,rl⟩:=id S;obtain⟨QE,xs,ec,hc,y4⟩:=id rl;cases ec;have xl:xs.length=c.length:=by rw[y4.len,wa0]
 refine λrd UD=>?_;refine⟨_,rfl,by show 1<=sizeLine;decide,λwl AF=>?_⟩;have M:rd≠wl:=ag a7 AF;have s0:a9 H (upd (upd H rd (.dK [])) wl (.lst [.int (d:Int)])):=(a9.upd UD).trans (a9.upd AF);have WV:(upd (upd H rd (.dK [])) wl (.lst [.int (d:Int)])) rd=some (.dK (dB [])):=by rw[ae M,a7];rfl
 have WW:(upd (upd H rd (.dK [])) wl (.lst [.int (d:Int)])) wl=some (.lst ((nI [d]).map V.int)):=a7;have WX:H wl=none:=none_of (a9.upd UD) AF;generalize upd (upd H rd (.dK [])) wl (.lst [.int (d:Int)])=H0 at s0 WV WW
 refine⟨λq σ Y=>∃(f Z:List Nat) (v4 B v6:Option V),q=2*(c.length-f.length)+Z.length/\σ=[some (.ref x),some (.int (d:Int)),some (.ref rd),some (.ref wl),v4,B,v6]/\a9 H Y/\Y rd=some (.dK (dB f))/\Y wl=some (.lst ((nI Z).map V.int))/\f.Nodup/\(∀r∈f,r<c.length)/\(∀w∈Z,w<c.length)/\(∀r∈f,r∉Z->∀q∈c.getD r [],q.2∈f)/\(d∉Z->∀q∈c.getD d [],q.2∈f)/\Z.length<=f.length+1,
  ⟨_,[],[d],none,none,none,rfl,rfl,s0,WV,WW,wdo,λr h=>absurd h wbX,λw h=>by rw[waq.mp h];exact hd,λr h=>absurd h wbX,λh=>absurd (waq.mpr rfl) h,waa _⟩,?_⟩
 rintro q σ Y ⟨f,Z,v4,B,v6,rfl,rfl,s3,Si,O,nd,UE,UG,QN,Sd,R⟩;have EA:=mK nd UE
 by_cases WY:Z=[]
 ·subst WY;refine⟨_,rfl,wl,_,rfl,.inl (aL.of O),_,_,rfl,rfl,false,rfl,cb ?_⟩;refine⟨_,rfl,rd,_,rfl,Si,λl hl=>?_⟩;rw[El];refine k l f _ (s3.trans (a9.upd hl)) (none_of s3 hl) a7 ⟨λr n=>QN r n wbX,UE,λz=>?_,nd⟩
  cases e:c.getD d [] with
  |nil=>exact wZ e
  |cons q qs=>
   have:=Sd wbX q (by rw[e];exact wag ..);rw[z]at this;cases this
 obtain⟨z,t,rfl,hz,G5⟩:=Lh WY;refine⟨_,rfl,wl,_,rfl,.inl (aL.of O),_,_,rfl,rfl,true,congrArg V.bl (decide_eq_true (by rw[wa0,cH,wa5];show (0:Int)<((_+1:Nat):Int);omega)),fO ?_⟩;have Zd:z<c.length:=UG z (waL _ (waq.mpr rfl));have WZ:c[z]?=some (c.getD z []):=by rw[wa3,wa1 Zd];rfl
 have UH:∀q∈c.getD z [],q.2<c.length:=he _ (wa8 WZ);obtain⟨v,O8,Ze⟩:=y4.at (i:=z) (d:=cg (c.getD z [])) (by rw[wa4,WZ];rfl);obtain⟨a,rr,rfl,hS,hT⟩:=ez Ze;have X0:rr.length=(c.getD z []).length:=by rw[hT.1,wa0,wa0]
 refine⟨λσ' H'=>∃(ad:List Nat) (B v6:Option V),σ'=[some (.ref x),some (.int (d:Int)),some (.ref rd),some (.ref wl),some (.ref a),B,v6]/\a9 H H'/\H' rd=some (.dK (dB (f++ad)))/\H' wl=some (.lst ((nI (t++ad)).map V.int))/\(f++ad).Nodup/\(∀r∈f++ad,r<c.length)/\(∀q∈c.getD z [],q.2∈f++ad),?_,?_⟩
 ·rintro σ' H' ⟨ad,B,v6,rfl,s',UI,Zf,X1,IB,j⟩;have QM:=mK X1 IB;rw[wa5]at QM;refine⟨_,?_,f++ad,t++ad,_,B,v6,rfl,rfl,s',UI,Zf,X1,IB,λw hw=>?_,λr n U q J=>?_,λU q J=>?_,?_⟩
  ·rw[wa5,wa5,wa5];show _<2*(c.length-f.length)+(t.length+1);omega
  ·rcases waE.mp hw with hw |hw
   ·exact UG w (waW _ hw)
   ·exact IB w (waL _ hw)
  ·rcases waE.mp n with n |n
   ·by_cases C:r=z
    ·rw[C]at J;exact j q J
    ·refine waW _ (QN r n (λm=>?_) q J);rcases waE.mp m with m |m
     ·exact U (waW _ m)
     ·exact C (waq.mp m)
   ·exact absurd (waL _ n) U
  ·by_cases C:d=z
   ·rw[C]at J;exact j q J
   ·refine waW _ (Sd (λm=>?_) q J);rcases waE.mp m with m |m
    ·exact U (waW _ m)
    ·exact C (waq.mp m)
  ·rw[wa5]at R;rw[wa5,wa5];have:t.length+1<=f.length+1:=R;omega
 refine⟨_,rfl,x,L.aD,dx,_,_,rfl,s3 _ _ hx,L.az.cl,L.az.cV,bV ah bw cl,_,rfl,.inl ⟨rfl,_,aL.of O⟩,wl,_,_,rfl,rfl,O,hz,?_⟩;rw[G5];have s4:a9 H (upd Y wl (.lst ((nI t).map V.int))):=λb o e=>by rw[ae (ag e WX)];exact s3 _ _ e
 have Ms:(upd Y wl (.lst ((nI t).map V.int))) rd=some (.dK (dB f)):=by rw[ae M];exact Si
 have QO:(upd Y wl (.lst ((nI t).map V.int))) wl=some (.lst ((nI t).map V.int)):=a7;generalize upd Y wl (.lst ((nI t).map V.int))=H4 at s4 Ms QO;refine⟨cl,xs,_,_,rfl,rfl,s4.seq (.inl hc),bO O8,?_⟩;refine⟨_,rfl,a,rfl,⟨_,s4.seq hS⟩,dA (K:=K) (a:=a) (xs:=rr.map V.ref) (λi σ H5=>∃(ad:List Nat) (B v6:Option V),σ=[some (.ref x),some (.int (d:Int)),some (.ref rd),some (.ref wl),some (.ref a),B,v6]/\a9 H H5/\H5 rd=some (.dK (dB (f++ad)))/\H5 wl=some (.lst ((nI (t++ad)).map V.int))/\(f++ad).Nodup/\(∀r∈f++ad,r<c.length)/\(∀q∈(c.getD z []).take i,q.2∈f++ad)) ⟨[],_,_,rfl,s4,by rw[waZ];exact Ms,by rw[waZ];exact QO,by rw[waZ];exact nd,by rw[waZ];exact UE,λq J=>by rw[wdp]at J;cases J⟩ (λi σ H5 _ ⟨_,_,_,_,s5,_⟩=>s5.seq hS) ?_ ?_⟩
 ·rintro i y σ H5 hy ⟨ad,B,v6,rfl,s5,D,X,G,I,j⟩;have hi:i<rr.length:=by have:=(wa6.mp hy).1;rwa[wa0]at this
  have UJ:i<(c.getD z []).length:=by omega
  rw[wa4,wa1 hi]at hy;cases hy;have QP:H rr[i]=some (.tup [.str (c.getD z [])[i].1,.int ((c.getD z [])[i].2:Int)]):=hT.2 i rr[i] (jT (eQ (c.getD z [])[i])) (wa1 hi) (by rw[wa4,wa4,wa1 UJ];rfl);have QQ:(c.getD z []).take (i+1)=(c.getD z []).take i++[(c.getD z [])[i]]:=by rw[waP,wa1 UJ];rfl
  have Mu:=UH _ (waN UJ);generalize (c.getD z [])[i]=q at QP QQ Mu;have Zg:=mK G I;refine⟨rr[i],_,rfl,ig.of (s5 _ _ QP),rfl,_,_,rfl,_,_,rfl,rfl,?_⟩;have g:=eM.k (k:=(wb4 (q.2:Int):Key)) D;rw[zv]at g
  by_cases m:q.2∈f++ad
  ·rw[if_pos m]at g;refine⟨_,rfl,_,rfl,rd,_,rfl,g,false,rfl,cb ?_⟩;refine⟨ad,_,_,rfl,s5,D,X,G,I,λp u=>?_⟩;rw[QQ]at u;rcases waE.mp u with u |u
   ·exact j p u
   ·rw[waq.mp u];exact m
  ·rw[if_neg m]at g;refine⟨_,rfl,_,rfl,rd,_,rfl,g,true,rfl,fO ?_⟩;refine⟨_,rfl,_,rfl,rd,_,rfl,ky.k (k:=wb4 (q.2:Int)) D (bq (by unfold dB;rw[wa0];omega)),?_⟩;rw[IU m];have X2:(upd H5 rd (.dK (dB (f++ad++[q.2])))) wl=some (.lst ((nI (t++ad)).map V.int)):=by rw[ae M.symm];exact X
   refine⟨_,rfl,.inl ⟨rfl,_,aL.of X2⟩,_,rfl,wl,_,_,rfl,rfl,X2,?_,?_⟩
   ·rw[wa5]at R Zg;rw[wa0,cH,wa5];have:t.length+1<=f.length+1:=R;exact bq (by omega)
   refine⟨ad++[q.2],_,_,rfl,λb o e=>by rw[ae (ag e WX),ae (ag e UD)];exact s5 _ _ e,by rw[ae M,a7,waT],by rw[a7,<-waT,rN (t++ad),wan];rfl,?_,λr n=>?_,λp u=>?_⟩
   ·rw[<-waT];refine wfa.mpr ⟨G,by simp,λa ha b hb e=>?_⟩;rw[waq.mp hb]at e;rw[e]at ha;exact m ha
   ·rw[<-waT]at n;rcases waE.mp n with n |n
    ·exact I r n
    ·rw[waq.mp n];exact Mu
   ·rw[<-waT];rw[QQ]at u;rcases waE.mp u with u |u
    ·exact waW _ (j p u)
    ·rw[waq.mp u];exact waL _ (waq.mpr rfl)
 ·rintro σ H5 ⟨ad,B,v6,rfl,s5,D,X,G,I,j⟩;rw[wa0,X0,waI]at j;exact⟨ad,B,v6,rfl,s5,D,X,G,I,j⟩
end
end K50
namespace L2
open PySem PySem.Spec PyProof.Rows PySem.W
open Builtin Builtin.ObjectAttr
section
variable{prog:wat}{w:World}{A:Around}{E:Value->Shared->Prop}{s:Shared}{K:wa2}{x dx C CB f:Addr}{mA:Str->Option Value}{name:Str}{v:Value}{R:wd9->Shared->Prop}
theorem G7{Q:Unit->Shared->Prop}(X:K.In s.heap)(hx:s.heap.get? x=some (uq C d t))(hd:s.heap.Ns1 d mA)(hw:wdK mA ns)(hl:ns.length<=100)(hc:clsIn K C=some cd)(hm:cd.mro=.ref C::oW CB)(hh:cd.hasDict=true)(ha:findIn K (.ref C) name=some none)
 (hs:findIn K (.ref C) "__setattr__"=some (some (.builtin "object.__setattr__")))
 (h:∀h' tk,(∀b,b≠d->h'.get? b=s.heap.get? b)->h'.Ns1 d (λy=>if y=name then some v else mA y)->Q () {s with heap:=h',toks:=tk}) :
 wpAny (model prog w) A (setAttr (.ref x) name v) Q E s:=by
 obtain⟨od,es,ep,e1,_⟩:=id hd;have J:InstAt s.heap x (uq C d t) C (some od):=⟨hx,rfl,rfl,e1⟩;refine wf5 X J hs (yd (s:={s with toks:=s.toks+1}) X J hc hm ha ?_);unfold storeInOwnDict;refine wa7 (waz ?_);rw[if_neg (by simp)];unfold ownDictForStores instanceDict;refine wa7 (wa7 (wgf hx ?_));dsimp only;refine wa7 (weT (s:={s with toks:=s.toks+1}) (we3 X hc) ?_);rw[hh];simp only[wgG,wbV,if_false];refine waz ?_;show wpAny _ _ (storeInDict d (.str name s.toks) name v) _ _ _;unfold storeInDict newKeyGuard;refine wa7 (waz (wa7 (wgT hd λh' BX M8=>?_)));obtain⟨oD,Yt,Yu,TF,W2,W3⟩:=BX.count (wfQ name v hw);refine wa7 (wfn TF (by grind [wfo,wal,wcc]) ?_)
 wp_walk
 exact h h' _ (λb hb=>M8.2 b hb) BX
end
section
variable{X:Cx}{CB:Addr}{o value:Expr}{ta tv:TE}{name:Str}{pos pos':Pos}
theorem G8{fs:List (Str×V)}{g:Str->Option Value}(r:∀f,jB (fs.lookup f) (g f)):wdK g (fs.map (·.1)):=by grind [jB,wdK,wag,wac]
theorem Bw(h:fs.lookup name=none)(f:Str):(fs++[(name,y)]).lookup f=if f=name then some y else fs.lookup f:=by
 grind
def O9(K:wa2)(CB:Addr)(ta tv:TE)(name:Str):TS:=λD σ H=>tv σ H λy H1=>ta σ H1 λz H2=>∃x C nm d fs,z=.ref x/\H2 x=some (XD x C d)/\H2 d=some (.xd fs)/\fs.length<=50/\fi K C CB nm/\findIn K (.ref C) name=some none/\fs.lookup name=none/\D.nx σ (upd H2 d (.xd (fs++[(name,y)])))
theorem Ji(ha:PE X o ta)(J:PE X value tv)(hs:wc6 value (some (.Attribute o name pos')) pos.line X.env=pure false):PS X (.Assign [.Attribute o name pos'] value pos) (O9 X.K CB ta tv name):=by
 intro c s σ H D I h;refine wcY (bY (J c s σ H _ I h) λu G ⟨y,L,M,O,q⟩=>bY (ha c G σ L _ M q) λQ E R=>?_) hs;obtain⟨z,i,g,S,x,C,T,d,fs,V,Y,hd,hl,U,hn,Z,q2⟩:=R;subst V;obtain rfl:Q=wam x:=S;obtain⟨⟨t,ht⟩,_⟩:=g.b9 x _ Y;obtain⟨mA,ns,r⟩:=g.b9 d _ hd;obtain⟨qn,N,bs,sn,sub,ab,m,dd,k0,k1,k2,k3,k5,lk⟩:=U.lk;refine G7 (CB:=CB) g.iL ht ns (G8 r) (by rw[wa0];omega) (cd:={name:=T,bases:=bs,mro:=.ref C::oW CB,ns:=N,qualname:=qn,hasDict:=true,slotNames:=sn,subclasses:=sub,abstract:=ab,collection:=m,hasDel:=false}) (by unfold clsIn;rw[lk]) rfl rfl hn U.sa λp tk k j=>⟨σ,_,?_,q2⟩;obtain⟨o',_,_,eo,_⟩:=id j;have nx:∀{b:Addr} {o:HO},i b=some o->(∀fs,o≠.xd fs)->b≠d:=λe n z=>by rw[z,hd]at e;exact n _ (wae e).symm
 have A:∀{b:Addr},i b=none->b≠d:=λe z=>by rw[z,hd]at e;cases e
 have un:Un (sD X.stack) [] i (upd i d (.xd (fs++[(name,y)]))) E.heap p:=by
  refine⟨λb o q n _ _=>by rw[k b (A n)];exact q,λb o q n _ _=>⟨o.slots,by rw[k b (A n)];exact q⟩,λb o q n _=>?_,λb o q _=>?_,λb vs q=>?_,λb o v q=>?_,λb ps q=>?_⟩
  ·rw[ae (A n)];exact n
  ·by_cases z:b=d
   ·rw[z];exact⟨_,eo⟩
   ·exact⟨o,by rw[k b z];exact q⟩
  ·rw[ae (nx q λψ z=>by cases z)];exact q
  ·rw[ae (nx q λψ z=>by cases z)];exact q
  ·exact⟨#[],by rw[ae (nx q λψ z=>by cases z),q];simp⟩
 have b9:jI X.prog X.w (upd i d (.xd (fs++[(name,y)]))) p:=λa o e=>by
  by_cases z:a=d
  ·subst z;rw[a7]at e;cases e;refine⟨_,j,λf=>?_⟩;rw[Bw Z]
   by_cases e:f=name
   ·rw[if_pos e,if_pos e];exact O
   ·rw[if_neg e,if_neg e];exact r f
  ·rw[ae z]at e;refine(g.b9 a o e).tW (λb u l q=>?_) (λb q=>?_) λb vs q=>?_
   ·rw[k b ?_]
    ·exact q
    ·rintro rfl;rcases l with rfl |l
     ·exact z rfl
     ·rw[hd]at l;cases l
   ·rw[ae (λB=>by rw[B,hd]at q;cases q)];exact q
   ·rw[ae (λB=>by rw[B,hd]at q;cases q)];exact q
 exact g.xO (s':={E with heap:=p,toks:=tk}) rfl un b9 g.bare λb z=>absurd z (by simp)
end
end L2
namespace Sx
open PySem L2 Bs
def My(v:V):Prop:=∃i:Int,v=.int i/\i.natAbs.log2<1920
inductive UK(C:Addr)(n1 n2:Str)(dJ Zh:V->Prop)(vs:List V)(H:Hp)(Q:VK)(eE:XK):Prop
 |mk (x u v) (_:vs=[.ref x,u,v]) (_:dJ u) (_:Zh v) (_:H x=some (XN x C)) (_:∀d,H d=none->Q .non (upd (upd H d (.xd [(n1,u),(n2,v)])) x (XD x C d)))
end Sx
namespace Bs
open PySem L2 Sx
theorem gm{a b:Str}{m n:Nat}(g:a.length<=m)(j:b.length<=n):(a++b).length<=m+n:=by
 rw[len_app];exact Nat.add_le_add g j
theorem Dx{m j N:Nat}{many wide:Int}{g:Str}{bw ss:List Str}(l:gK m many wide)(b:(j:Int)<=24)(c:iM g bw ss N "" < many^j):(iM g bw ss N "").natAbs.log2<1920:=by
 have h0:0<=iM g bw ss N "":=NF N "";obtain⟨k,hk⟩:∃k:Nat,many=k:=⟨many.toNat,by have:=l.a;omega⟩;have d:k<=8:=by have:=l.b;omega
 rw[hk,<-wdI]at c;have e:k^j<=8^24:=wal (Nat.pow_le_pow_left d j) (wgB (by decide) (by omega))
 have f:(iM g bw ss N "").natAbs<2^72:=by
  grind
 have h:=Nat.log2_lt (n:=(iM g bw ss N "").natAbs) (k:=72)
 by_cases z:(iM g bw ss N "").natAbs=0
 ·rw[z];decide
 ·grind
end Bs
namespace L2
open PySem PySem.Spec PyProof.Rows Sx
section
variable{X:Cx}
theorem G9{K:wa2}(J:X.K=K):M4 X "list.index" (λx xs H Q=>∃l g k i,x=.ref l/\xs=[.int k]/\aL K H l (wdl V.int g)/\g.length<=1000/\g[i]?=some k/\(∀j:Nat,j<i->g[j]?≠some k)/\Q (.int (i:Nat)) H):=by
 subst J;intro B s σ H x xs v Z Q I G L h;obtain⟨l,g,k,i,rfl,rfl,M,N,hi,o,q⟩:=h;cases G;obtain⟨u,rfl,O,rfl⟩:=L.one;obtain⟨a,C,pl,hz⟩:=I.list M;obtain⟨⟨cls,R,data,sl⟩,D,hc,n,hd⟩:=pl.isList;simp only at hc hd;subst hc hd;have d:=C.length;rw[wa0]at d;have S:i<g.length:=(wa6.mp hi).1
 have b:∀m (c:m<a.length),∃t,a[m]=.int (g[m]'(by omega)) t:=λm c=>by
  obtain⟨w,E,T⟩:=C.get (i:=m) (x:=.int (g[m]'(by omega))) (by rw[wa4,wa1 (by omega)];rfl);rw[wa1 c]at E;obtain⟨t,rfl⟩:=T;exact⟨t,wae E⟩
 refine wew wd3 ⟨_,D,rfl⟩ wfx (wfh _ _)
  (wfy l a.toArray n R sl (.int k O) (λw=>match w with |.int z _=>z==k |_=>false) i (by simp;omega) (by omega) ?_ ?_) ⟨D,λy U=>?_,?_⟩
 ·obtain⟨t,e⟩:=b i (by omega);have Y:g[i]=k:=(wa6.mp hi).2;simp only[wdy];rw[e,Y];simp
 ·intro m c p;have r:m<a.length:=by simpa using c
  obtain⟨t,e⟩:=b m r;simp only[wdy];rw[e];have f:=o m p;rw[wa1 (by omega)]at f;simp only[beq_eq_false_iff_ne,ne_eq];exact λz=>f (by rw[z])
 ·have A:y∈a:=by simpa using U
  obtain⟨m,c,rfl⟩:=wbQ A;obtain⟨t,e⟩:=b m c;rw[e];exact wgg _ _ _ _
 ·exact⟨.int (i:Nat),H,I.tok _,⟨_,rfl⟩,q⟩
end
end L2
namespace Bs
open PySem L2 Sx
noncomputable def gn(ks:List Nat)(m:Nat)(qs:List (Str×Nat)):List (Str×Nat):=((cZ ks qs).take m).map λq=>(q.1,ks.idxOf q.2)
noncomputable def fB(lns:List (List (Str×Nat)))(ks:List Nat)(m:Nat):List (List (Str×Nat)):=ks.map λd=>gn ks m (lns.getD d [])
noncomputable def me(wl:List (List (Str×Nat)))(s:Str×Nat)(t:Nat):Str×Nat:=(s.1++((wl.getD s.2 []).getD t ("",0)).1,((wl.getD s.2 []).getD t ("",0)).2)
noncomputable def cO(wl:List (List (Str×Nat)))(d:Nat)(ts:List Nat):Str×Nat:=ts.foldl (me wl) ("",d)
structure GD(many:Int)(n:Nat)(wl:List (List (Str×Nat))):Prop where
 ne:wl≠[]
 ln:∀l∈wl,(l.length:Int)=many
 e:∀l∈wl,∀q∈l,q.2<wl.length
 wd:∀l∈wl,∀q∈l,q.1.length=n
theorem yN(wl:List (List (Str×Nat)))(d:Nat)(ts:List Nat)(t:Nat):cO wl d (ts++[t])=me wl (cO wl d ts) t:=by
 grind [cO]
theorem d4{wl:List (List (Str×Nat))}{d:Nat}(h:d<wl.length):wl[d]?=some (wl.getD d []):=by
 grind
theorem rY{l:List (Str×Nat)}{t:Nat}(h:t<l.length):l[t]?=some (l.getD t ("",0)):=by
 grind
theorem EE{many:Int}{n:Nat}{wl:List (List (Str×Nat))}(g:GD many n wl):∀(ts:List Nat) (s:Str×Nat),s.2<wl.length->(∀t∈ts,(t:Int)<many)->(ts.foldl (me wl) s).2<wl.length/\(ts.foldl (me wl) s).1.length=s.1.length+n*ts.length
 |[],s,h,_=>⟨h,rfl⟩
 |t::ts,s,h,c=>by
  have j:=c t (wag ..);have hl:=wa8 (d4 h);have f:=g.ln _ hl;have d:=wa8 (rY (l:=wl.getD s.2 []) (t:=t) (by omega));obtain⟨a,b⟩:=EE g ts (me wl s t) (g.e _ hl ((wl.getD s.2 []).getD t ("",0)) d) λx i=>c x (wac _ i);refine⟨a,?_⟩;rw[wdF,b];show (s.1++_).length+_=_;rw[len_app,g.wd _ hl _ d,waM,wea,Nat.mul_one];omega
theorem qQ{many:Int}{n:Nat}{wl:List (List (Str×Nat))}(W:GD many n wl){d:Nat}(hd:d<wl.length){ts:List Nat}(g:∀t∈ts,(t:Int)<many):(cO wl d ts).2<wl.length/\(cO wl d ts).1.length=n*ts.length:=by
 obtain⟨a,b⟩:=EE W ts ("",d) hd g;refine⟨a,b.trans ?_⟩;show 0+_=_;omega
theorem xk.word(h:xk (aV g bw ss ls n) hs lns)(hl:lns.length=hs.length)(j:∀p∈hs,p∈ss)(r:("":Str)∈ss):∀l∈lns,∀q∈l,q.1.length=n:=by
 intro l d q f;obtain⟨i,hi,e⟩:=wbQ d;have a:i<hs.length:=by omega
 have b:0<ia hs[i] (q.1,q.2) hs lns:=by
  have k:hs[i]?=some hs[i]:=wa1 a;have m:lns[i]?=some l:=by rw[wa1 hi,e]
  have:=kZ (z:=(q.1,q.2)) k m;have hc:0<l.count (q.1,q.2):=wbZ.mpr f;omega
 rw[h hs[i] q.1 q.2]at b
 by_cases c:q.2<hs.length/\hs[i]∈hs/\(q.1,hs.getD q.2 "")∈aV g bw ss ls n hs[i]
 ·exact(vi r (j _ (waN a)) n _ (wau.mp c.2.2).1).2
 ·rw[if_neg c]at b;omega
theorem QR{many:Int}{n:Nat}{lns:List (List (Str×Nat))}{g:List Nat}(h:p5 lns many g)(j:g≠[])(t:0<=many)(r:∀l∈lns,∀q∈l,q.1.length=n):GD many n (fB lns g many.toNat):=by
 refine⟨λz=>j (wgM.mp z),λl hl=>?_,λl hl q a=>?_,λl hl q a=>?_⟩
 ·obtain⟨d,hd,rfl⟩:=wab.mp hl;have:=(h.st d hd).2;unfold gn;rw[wa0,wai];omega
 ·obtain⟨d,hd,rfl⟩:=wab.mp hl;unfold gn at a;obtain⟨p,b,rfl⟩:=wab.mp a;have c:=of_decide_eq_true (wau.mp ((wbk _ _).subset b)).2;unfold fB;rw[wa0];exact wc0.mpr c
 ·obtain⟨d,hd,rfl⟩:=wab.mp hl;unfold gn at a;obtain⟨p,b,rfl⟩:=wab.mp a;have e:=(wau.mp ((wbk _ _).subset b)).1;exact r _ (wa8 (d4 (h.st d hd).1)) p e
theorem wj:∀{hs:List Nat} {j:Nat} (h:j<hs.length),hs.idxOf hs[j]<=j
 |[],j,h=>absurd h (wcL _)
 |a::hs,0,h=>by
  show (a::hs).idxOf a<=0;rw[wgA];exact waa 0
 |a::hs,j+1,h=>by
  have b:j<hs.length:=by simpa using h
  show (a::hs).idxOf hs[j]<=j+1;rw[whK];have:=wj b
  cases(a==hs[j]) with
  |true=>grind
  |false=>grind
theorem Lz(h:k∈g):(nI g)[g.idxOf k]?=some (k:Int)/\∀j:Nat,j<g.idxOf k->(nI g)[j]?≠some (k:Int):=by
 have hl:g.idxOf k<g.length:=wc0.mpr h;unfold nI;refine⟨by grind,λj c e=>?_⟩;have a:j<g.length:=by omega
 rw[wa4,wa1 a]at e;have b:g[j]=k:=by grind
 have:=wj a;rw[b]at this;omega
end Bs
namespace Sx
open PySem L2 Bs
inductive LA(K:wa2)(vs:List V)(H:Hp)(Q:VK)(eE:XK):Prop
 |mk (v b many ks qs) (_:vs=[v,.ref b,.int many]) (_:bK K H (cg qs) v) (_:aL K H b ((nI ks).map V.int)) (_:ks.length<=1000) (_:qs.length<=10000) (_:0<=many) (_:∀y H',a9 H H'->bK K (aM H H') (cg (gn ks many.toNat qs)) y->Q y H')
inductive Jj(K:wa2)(vs:List V)(H:Hp)(Q:VK)(eE:XK):Prop
 |mk (v:V) (d:Nat) (a:Addr) (many:Int) (n:Nat) (wl:List (List (Str×Nat))) (ts:List Nat) (_:vs=[v,.int (d:Int),.ref a]) (_:bK K H (kX wl) v) (_:aL K H a ((nI ts).map V.int)) (_:GD many n wl) (_:d<wl.length) (_:(∀t∈ts,(t:Int)<many)) (_:ts.length<=100000) (_:n<=10) (_:∀p H',a9 H H'->H' p=some (.tup [.str (cO wl d ts).1,.int ((cO wl d ts).2:Int)])->Q (.ref p) H')
structure Jk(bw:List Str)(M:Int):Prop where
 u:∀w∈bw,(w.length:Int)<=M
 a:M=0/\bw=[]\/∃w∈bw,(w.length:Int)=M
structure nK(bw:List Str)(n:Nat)(b:Nat):Prop where
 le:b<=1000
 is:∃M:Int,Jk bw M/\(b:Int)=((if 0>M-1 then 0 else M-1)+(n:Int)-1)/(n:Int)
inductive LC(C:Addr)(vs:List V)(H:Hp)(Q:VK)(eE:XK):Prop
 |mk (x g bw ss ls) (_:vs=[.ref x]) (_:aY C H x g bw ss ls) (_:bw.length<=1000) (_:(∀w∈bw,w.length<=1000)) (_:∀(M:Int) (H':Hp),a9 H H'->Jk bw M->Q (.int M) H')
inductive Jl(C:Addr)(vs:List V)(H:Hp)(Q:VK)(eE:XK):Prop
 |mk (x:Addr) (n:Nat) (g:Str) (bw ss ls:List Str) (_:vs=[.ref x,.int (n:Int)]) (_:aY C H x g bw ss ls) (_:1<=n) (_:n<=10) (_:(∀w∈bw,w.length<=900)) (_:bw.length<=1000) (_:∀(b:Nat) (H':Hp),a9 H H'->nK bw n b->Q (.int (b:Int)) H')
end Sx
namespace K50
open PySem L2 Bs Sx
section
variable{P:wat}{w:World}{K:wa2}{mg:Str->Option Value}{base:Heap}
theorem kc(L:Lk K mg):aT P w K mg base df 2 L.g7 L.g8 ["line","kept","many"] (LA K):=by
 refine L.dX.F.dJ (N:=["line","kept","many"]) (λX A outer s H vs Q E nd t h=>?_);obtain⟨v,b,many,c,g,rfl,Y,S,u,x,m0,k⟩:=h;refine⟨_,(af (aA (fT rfl (ax ["kept"] [1]) (ax ["kept"] [1]) (by decide) (aP (cu jn (aq (oI L) L.iN (a5 (pv 0) (a5 (pv 1) a8))) gY (bN (pv 2)))) (λ_ _ _ _ _ _=>bo) (λ_ _ _ _ _ _=>(eC (a5 (pv 0) (a5 (Ir (K:=K) rfl waO wd3 wfJ (G9 (K:=K) rfl) (pv 2) (a5 (pv 1) a8)) a8))))))),?_⟩
 try dsimp only[dn,dm,b5,b6]
 have B:many=((many.toNat:Nat):Int):=by omega
 refine⟨_,rfl,_,rfl,v,b,c,g,rfl,Y,S,x,λy C D Z=>?_⟩;obtain⟨a,f,rfl,hS,T⟩:=ez (bK.same (cj _ _) _ _ Z);have EA:f.length=(cZ c g).length:=by rw[T.1,wa0,wa0]
 have YK:=IL c g;refine⟨_,rfl,((many.toNat:Nat):Int),congrArg V.int B,a,_,rfl,hS,λm G=>?_⟩;rw[Ec,<-wdB];have n:=a9.upd (H:=C) (o:=.lst ((f.take many.toNat).map V.ref)) G;have I:(upd C m (.lst ((f.take many.toNat).map V.ref))) m=some (.lst ((f.take many.toNat).map V.ref)):=a7;generalize upd C m (.lst ((f.take many.toNat).map V.ref))=H2 at n I;refine⟨m,rfl,⟨_,aL.of I⟩,λl hl=>?_⟩;refine jU (prs:=((cZ c g).take many.toNat).map eQ) (λ_=>true) (λq=>match q.2 with |.int e=>.tup [.at q.1,.at (.int (c.idxOf e.toNat:Int))] |_=>.at .non) (aQ K m _) (by grind) (λi q j=>?_) hl (aw (by grind)) (λU J=>aL.of (J _ _ I)) (λq M Q' _ _ O=>O M (a9.refl _)) (λq M Q' j _ s3 O=>?_) (λU J r=>?_)
 ·rw[wa4]at j
  have hi:i<((cZ c g).take many.toNat).length:=by
   cases e:((cZ c g).take many.toNat)[i]? with
   |none=>rw[e]at j;cases j
   |some z=>exact(wa6.mp e).1
  have d:i<many.toNat/\i<f.length:=by rw[wai]at hi;omega
  rw[wdN d.1,wa1 (by omega)]at j;cases j;refine⟨f[i],by rw[wa4,wdN d.1,wa1 d.2];rfl,ig.of (n _ _ ?_)⟩;exact T.2 i f[i] (jT (eQ (cZ c g)[i])) (wa1 d.2) (by rw[wa4,wa4,wa1 (by omega)];rfl)
 ·obtain⟨z,hz,rfl⟩:=wab.mp j;have R:=of_decide_eq_true (wau.mp ((wbk _ _).subset hz)).2;have p:aL K M b ((nI c).map V.int):=((D.trans n).trans s3).seq S;obtain⟨i1,i2⟩:=Lz R;refine⟨_,rfl,_,rfl,.inl ⟨rfl,_,p⟩,_,rfl,b,nI c,(z.2:Int),c.idxOf z.2,rfl,rfl,p,by rw[cH];exact u,i1,i2,by show 2<=sizeLine;decide,λr t=>?_⟩;exact O _ _ (a9.upd t) (mJ t (z.1,c.idxOf z.2))
 ·rw[wb8.mpr (λ_ _=>rfl),wah]at r;refine k _ U ((D.trans n).trans J) (bK.same (eW (D.trans n)) _ _ ?_);unfold gn cg;rw[wah];exact r
theorem yO(L:Lk K mg):aT P w K mg base df 1 L.Bp L.Bq ["lines","desk","data"] (Jj K):=by
 refine L.qL.F.dJ (N:=["lines","desk","data","row","thing","step"]) (λX A outer s H vs Q E nd hr h=>?_);obtain⟨v,d,a,many,n,wl,ts,rfl,Y,T,z,hd,m,Z,hn,k⟩:=h
 refine⟨_,(a6 (aj (i:=3) fb)
  (a6 (b7 wao rfl (aP (pv 2)) (ay (i:=4)) (a6 (aj (i:=5) (b8 bf (b8 bf (pv 0) (pv 1) (λ_ _=>rfl)) (pv 4) (λ_ _=>rfl)))
  (a6 (uF (i:=3) nd rfl (wdQ rfl) (b8 fQ (pv 5) ao (λ_ _=>rfl)) KS)
  (af (aj (i:=1) (b8 fQ (pv 5) ao (λ_ _=>rfl)))))))
  (af (aA (eC (a5 (pv 3) (a5 (pv 1) a8))))))),?_⟩
 try dsimp only[dn,dm,b5,b6]
 obtain⟨cl,xs,rfl,hc,B⟩:=id Y;refine⟨_,rfl,a,rfl,⟨_,T⟩,dA (K:=K) (a:=a) (xs:=(nI ts).map V.int) (λi σ u=>∃(v4 C:Option V),σ=[some (.ref cl),some (.int ((cO wl d (ts.take i)).2:Int)),some (.ref a),some (.str (cO wl d (ts.take i)).1),v4,C]/\a9 H u) ⟨none,none,rfl,a9.refl _⟩ (λi σ u _ ⟨_,_,_,c⟩=>c.seq T) ?_ ?_⟩
 ·rintro i y σ u D ⟨v4,C,rfl,c⟩;have hi:i<ts.length:=by have:=(wa6.mp D).1;rwa[wa0,cH]at this
  have g:ts[i]?=some ts[i]:=wa1 hi;rw[vF g]at D;cases D;have G:=m _ (waN hi);have rg:ts.take (i+1)=ts.take i++[ts[i]]:=by rw[waP,g];rfl
  generalize ts[i]=t at g G rg;obtain⟨w1,w2⟩:=qQ z hd (ts:=ts.take i) λx hx=>m x ((wbk _ _).subset hx);have e:=yN wl d (ts.take i) t;rw[<-rg]at e;have I:=d4 w1;have Mr:=z.ln _ (wa8 I);have J:=z.wd _ (wa8 I);have M:me wl (cO wl d (ts.take i)) t=((cO wl d (ts.take i)).1++((wl.getD (cO wl d (ts.take i)).2 []).getD t ("",0)).1,((wl.getD (cO wl d (ts.take i)).2 []).getD t ("",0)).2):=rfl;rw[M]at e;generalize cO wl d (ts.take i)=O at *;obtain⟨v,R,rd⟩:=B.at (i:=O.2) (d:=cg (wl.getD O.2 [])) (by rw[wa4,I];rfl);generalize wl.getD O.2 []=f at *;obtain⟨b,j,rfl,hS,U⟩:=ez rd;have EA:j.length=f.length:=by rw[U.1,wa0,wa0]
  have l:t<f.length:=by omega
  have o:t<j.length:=by omega
  have r:H j[t]=some (.tup [.str f[t].1,.int (f[t].2:Int)]):=U.2 t j[t] (jT (eQ f[t])) (wa1 o) (by rw[wa4,wa4,wa1 l];rfl);have eq:f.getD t ("",0)=f[t]:=by rw[wa3,wa1 l];rfl
  have S:=J _ (waN l);rw[eq]at e;generalize f[t]=q at *;refine⟨_,rfl,_,rfl,cl,xs,_,_,rfl,rfl,c.seq (.inl hc),bO R,_,rfl,b,_,_,_,rfl,rfl,c.seq hS,bO (v:=.ref j[t]) (by rw[wa4,wa1 o];rfl),?_⟩;refine⟨_,rfl,_,rfl,j[t],_,_,_,rfl,rfl,ig.of (c _ _ r),rfl,_,_,rfl,rfl,aw ?_,?_⟩
  ·rw[w2,S,wai];have h1:n*min i ts.length<=10*99999:=wc3 hn (by omega);omega
  refine⟨_,rfl,j[t],_,_,_,rfl,rfl,ig.of (c _ _ r),rfl,?_⟩;rw[e];exact⟨_,_,rfl,c⟩
 ·rintro σ u ⟨v4,C,rfl,c⟩;rw[wa0,cH,waI];refine⟨_,rfl,_,rfl,by show 2<=sizeLine;decide,λp hp=>?_⟩;exact k p _ (c.trans (a9.upd hp)) a7
theorem u9(L:Lk K mg):aT P w K mg base df 1 L.mU L.mV ["self"] (LC L.aB):=by
 have T:=L.T;refine L.gg.F.dJ (N:=["self"]) (λo A outer s H R Q E nd S h=>?_);obtain⟨x,g,bw,ss,ls,rfl,B,p,e,k⟩:=h;refine⟨_,(af (aA (L7 rfl (by rfl) T.max (a5 (cU rfl (ax [] []) (aP (aE (pv 0) rfl)) (λ_ _ _ _ _ _=>bo) (λ_ _ _ _ _ _=>(aC bC (by rfl) T.len waJ (a5 (pv 0) a8)))) a8) ao))),?_⟩
 try dsimp only[dn,dm,b5,b6]
 obtain⟨r,b,d,q,U,t,l,f,X,Y,Z⟩:=id B.ex;refine⟨_,rfl,x,L.aB,r,_,_,rfl,t,L.aI.cl,L.aI.vN,sQ g b d q,b,rfl,⟨_,aL.of l⟩,λu i=>?_⟩;refine ee (λ_=>true) (λv=>match v with |.str z=>.int (z.length:Int) |_=>.non) (aQ K b _) i (aw (by rw[wa0];omega)) (λH' C=>aL.of (C _ _ l)) (λy a D m c j=>j a (a9.refl _)) (λy a D m _ c j=>?_) (λa c f=>?_)
 ·obtain⟨w,hw,rfl⟩:=wab.mp m;exact⟨_,rfl,w,rfl,aw (by have:=e w hw;omega),j a (a9.refl _)⟩
 have G:((bw.map V.str).filter λ_=>true).map (λv=>match v with |.str z=>V.int (z.length:Int) |_=>.non)=(bw.map λw=>(w.length:Int)).map V.int:=by
  rw[wb8.mpr (λ_ _=>rfl),wah,wah];rfl
 rw[G]at f;refine⟨u,_,0,rfl,rfl,aL.of f,λhn=>?_,λM I J=>?_⟩
 ·have n:bw=[]:=wgM.mp hn;exact k 0 a c ⟨(λw hw=>by rw[n]at hw;cases hw),.inl ⟨rfl,n⟩⟩
 ·obtain⟨w,hw,rfl⟩:=wab.mp I;exact k _ a c ⟨λz O=>J _ (wab.mpr ⟨z,O,rfl⟩),.inr ⟨w,hw,rfl⟩⟩
theorem rZ(L:Lk K mg):aT P w K mg base df 2 L.m3 L.m4 ["band","wide"] (Jl L.aB):=by
 have T:=L.T;refine L.iz.F.dJ (N:=["band","wide","signs"]) (λj A outer s H z Q E nd l h=>?_);obtain⟨x,n,g,bw,ss,ls,rfl,B,n1,wQ,c,e,k⟩:=h
 refine⟨_,(a6 (aj (i:=2) (aC (EY rfl) (by rfl) T.max Ia (a5 (aK mq (bR (pv 0) L.aI.cl L.gg.m (u9 L) (l.mono (by decide)) L.gg.b .nil bj) ao) (a5 ao a8))))
  (af (aA (aK kq (aK mq (aK dP (pv 2) (pv 1)) ao) (pv 1))))),?_⟩
 try dsimp only[dn,dm,b5,b6]
 obtain⟨o,b,d,q,C,p,D,G,I,J,O⟩:=id B.ex;refine⟨_,rfl,x,o,_,rfl,p,CA g b d q (by decide+kernel) (by decide+kernel) (by decide+kernel) (by decide+kernel),x,g,bw,ss,ls,rfl,B,e,(λw hw=>by have:=c w hw;omega),λM r t f=>?_⟩;refine⟨_,_,rfl,rfl,_,_,rfl,?_⟩
 have u:0<=M/\M<=900:=by
  rcases f.a with⟨h,_⟩ |⟨w,hw,h⟩
  ·omega
  ·have:=c w hw;omega
 have v:0<=((if 0>M-1 then 0 else M-1)+(n:Int)-1)/(n:Int):=whJ (by split<;>omega) (by omega)
 have y:((if 0>M-1 then 0 else M-1)+(n:Int)-1)/(n:Int)<=1000:=by
  refine wdY (Int.ediv_le_self _ (by split<;>omega)) (by split<;>omega)
 refine⟨_,rfl,_,rfl,_,_,rfl,rfl,_,_,rfl,rfl,_,rfl,_,_,rfl,rfl,⟨by omega,by omega⟩,?_⟩;have:=k (((if 0>M-1 then 0 else M-1)+(n:Int)-1)/(n:Int)).toNat r t ⟨by omega,M,f,by omega⟩;rwa[show ((((if 0>M-1 then 0 else M-1)+(n:Int)-1)/(n:Int)).toNat:Int)=((if 0>M-1 then 0 else M-1)+(n:Int)-1)/(n:Int) by omega]at this
theorem pj(L:Lk K mg):aT P w K mg base df 1 L.jw L.jx ["self","place"] (TZ L.aB):=by
 have T:=L.T;refine L.eI.F.dJ (N:=["self","place"]) (λa A outer s H l Q E nd m h=>?_);obtain⟨x,p,g,n,ss,ls,rfl,B,c,k⟩:=h;obtain⟨⟨f,b,d,q,o,i,r,t,u,y,j⟩,_,_,_⟩:=B;refine⟨_,(af (bD (PW.pt (hZ (dO (cF (aC cM (by rfl) T.JV xc (a5 (pv 1) (a5 (gX (v:=.ty "str") (by rfl) T.str Kq rfl) a8))))) (iX (aG ku (pv 1) (aE (pv 0) rfl) rfl)))) du aN)),?_⟩
 try dsimp only[dn,dm,b5,b6]
 refine⟨_,rfl,_,_,_,true,rfl,iY.str p,rfl,true,rfl,cb ?_⟩;refine⟨_,rfl,_,rfl,x,L.aB,f,_,_,rfl,i,L.aI.cl,L.aI.rQ,yc g b d q,q,_,rfl,.inl (aL.of j),rfl,fD _,?_⟩;have e:pJ (.str p) (ls.map V.str)=true:=by rw[jN];exact decide_eq_true c
 refine⟨false,?_,cb k⟩;show V.bl (!pJ (.str p) (ls.map V.str))=V.bl false;rw[e];rfl
theorem wk(L:Lk K mg):aT P w K mg base df 3 L.ot L.ou ["band","rows"] (Ii L.aB):=by
 refine L.jF.F.dJ (N:=["band","rows","longer","word","place","sign","end"]) (λi5 A outer s H vs Q E nd hr h=>?_);obtain⟨x,l,rs,n,g,u,ss,ls,rfl,B,R,hq,Mu,EC,k⟩:=h
 refine⟨_,(a6 (aj (i:=2) (bX a8))
  (a6 (b7 wao rfl (aP (pv 1)) (eB rfl (aO (ay (i:=3)) (aO (ay (i:=4)) cT))) (af (b7 wao rfl (za (aE (pv 0) rfl)) (ay (i:=5)) (a6 (aj (i:=6) (bQ (pv 0) L.aI.cl L.gQ.m (tT L) (hr.mono (by decide)) L.gQ.b .nil bj (a5 (pv 4) (a5 (pv 5) a8))))
  (af (bD (aG yY (pv 6) gD (aU _)) (af (bA (iZ waO waV waY cP (pv 2) (a5 (eC (a5 (aK oO (pv 3) (pv 5)) (a5 (pv 6) a8))) a8)))) aN))))))
  (af (aA (pv 2))))),?_⟩
 try dsimp only[dn,dm,b5,b6]
 refine⟨waA _,λv z=>?_⟩;have s0:a9 H (upd H v (.lst [])):=a9.upd z;refine⟨_,rfl,l,rfl,⟨_,aL.of (s0 _ _ R.l)⟩,dA (K:=K) (a:=l) (xs:=rs.map V.ref) (λi σ O=>∃(v3 v4 C v6:Option V) (f:List Addr),σ=[some (.ref x),some (.ref l),some (.ref v),v3,v4,C,v6]/\a9 H O/\eP O v f (fU g u ss (n.take i))) ⟨none,none,none,none,[],rfl,s0,⟨a7,bc.nil _⟩⟩ (λi σ O _ ⟨_,_,_,_,_,_,D,_⟩=>aL.of (D _ _ R.l)) ?_ ?_⟩
 ·rintro i y σ O G ⟨v3,v4,C,v6,f,rfl,D,R2⟩;rw[wa4]at G
  obtain⟨r,S,rfl⟩:∃r,rs[i]?=some r/\y=.ref r:=by
   cases q:rs[i]? with
   |none=>rw[q]at G;cases G
   |some r=>rw[q]at G;exact⟨r,rfl,(wae G).symm⟩
  have T:i<n.length:=by have:=(wa6.mp S).1;rw[R.len]at this;exact this
  have U:n[i]?=some n[i]:=wa1 T;obtain⟨X,Y⟩:=hq n[i] (waN T);have hT:=R.t.2 i r (mH n[i]) S (by rw[wa4,U];rfl);have rg:n.take (i+1)=n.take i++[n[i]]:=by rw[waP,U];rfl
  have I:fU g u ss (n.take (i+1))=fU g u ss (n.take i)++rF g u ss n[i]:=by
   unfold fU;rw[rg,weI];simp
  have Mz:(fU g u ss (n.take i)).length<=1000:=by
   have h1:=sS g u ss (n.take i);have h2:(n.take i).length<=100:=by rw[wai];omega
   exact wal h1 (wc3 h2 EC)
  generalize n[i]=q at X Y hT I;obtain⟨w,p⟩:=q;generalize fU g u ss (n.take i)=M at R2 I Mz;refine⟨r,_,rfl,ig.of (D _ _ hT),rfl,_,_,rfl,_,_,rfl,rfl,?_⟩;have B2:=B.same D;obtain⟨⟨dx,b,d,qq,mv,h1,h2,h3,h4,h5,h6⟩,pm,_,_⟩:=id B2;refine⟨_,rfl,x,L.aB,dx,_,_,rfl,h1,L.aI.cl,L.aI.pZ,kM g b d qq,g,rfl,my (pK g) (λj σ Z=>∃(C v6:Option V) (f:List Addr),σ=[some (.ref x),some (.ref l),some (.ref v),some (.str w),some (.str p),C,v6]/\a9 H Z/\eP Z v f (M++((ch g).take j).filterMap λc=>if bears u (p++⟨#[c]⟩)=true then none else some (w++⟨#[c]⟩,lend ss (p++⟨#[c]⟩)))) ⟨_,_,f,rfl,D,by rw[wdp,List.filterMap_nil,waZ];exact R2⟩ (λ_ _ _ _ _=>trivial) ?_ ?_⟩
  ·rintro j y σ Z G ⟨C,v6,f,rfl,s3,R3⟩;obtain⟨c,hci,rfl,hj,Zi,QQ⟩:=Fm G;have B3:=B.same s3;obtain⟨⟨Zj,_,_,_,_,Zk,_⟩,_⟩:=id B3;refine⟨_,rfl,x,Zj,_,rfl,Zk,CA _ _ _ _ (by decide+kernel) (by decide+kernel) (by decide+kernel) (by decide+kernel),_,rfl,_,rfl,x,p,c,g,u,ss,ls,rfl,B3,X,Zi,?_⟩
   have UL:(M++((ch g).take j).filterMap λc=>if bears u (p++⟨#[c]⟩)=true then none else some (w++(⟨#[c]⟩:Str),lend ss (p++(⟨#[c]⟩:Str)))).length<=1010:=by
    have:=wdW (λc=>if bears u (p++⟨#[c]⟩)=true then none else some (w++(⟨#[c]⟩:Str),lend ss (p++(⟨#[c]⟩:Str)))) ((ch g).take j);rw[wai,aW]at this;rw[wa5];omega
   refine⟨_,rfl,rfl,_,rfl,?_⟩;rw[QQ,wgn,<-waT];generalize (M++((ch g).take j).filterMap λc=>if bears u (p++⟨#[c]⟩)=true then none else some (w++(⟨#[c]⟩:Str),lend ss (p++(⟨#[c]⟩:Str))))=M2 at R3 UL
   cases hb:bears u (p++⟨#[c]⟩) with
   |true=>
    have e:uo u ss p c=.non:=by unfold uo;rw[hb];rfl
    rw[e];refine cb ⟨_,_,f,rfl,s3,?_⟩
    have e2:([c].filterMap λc=>if bears u (p++⟨#[c]⟩)=true then none else some (w++(⟨#[c]⟩:Str),lend ss (p++(⟨#[c]⟩:Str))))=[]:=by
     rw[wbi,hb];rfl
    rw[e2,waZ];exact R3
   |false=>
    have e:uo u ss p c=.str (lend ss (p++⟨#[c]⟩)):=by unfold uo;rw[hb];rfl
    rw[e]
    have e2:([c].filterMap λc=>if bears u (p++⟨#[c]⟩)=true then none else some (w++(⟨#[c]⟩:Str),lend ss (p++(⟨#[c]⟩:Str))))=[(w++⟨#[c]⟩,lend ss (p++⟨#[c]⟩))]:=by
     rw[wbi,hb];rfl
    rw[e2];have EA:=R3.len;have Zm:w.length<=100:=Y;refine fO ⟨_,rfl,.inl ⟨rfl,_,aL.of R3.l⟩,_,rfl,_,rfl,_,_,rfl,rfl,aw (by show w.length+1<=_;omega),_,rfl,by show 2<=sizeLine;decide,λr' J=>?_⟩;refine⟨v,_,_,rfl,rfl,a9.upd J _ _ R3.l,by rw[wa0,EA];exact wbg UL (by rw[wcc];decide),?_⟩;have key:=R3.push J (w++⟨#[c]⟩,lend ss (p++⟨#[c]⟩))
    have sk:a9 H (upd (upd Z r' (.tup [.str (w++⟨#[c]⟩),.str (lend ss (p++⟨#[c]⟩))])) v (.lst (f.map V.ref++[.ref r']))):=λa o ea=>by
     rw[ae (ag ea z)];exact a9.upd J _ _ (s3 _ _ ea)
    unfold mH at key;generalize lend ss (p++⟨#[c]⟩)=le at key sk ⊢;refine⟨some (.str ⟨#[c]⟩),some (.str le),f++[r'],?_,?_,?_⟩
    ·rfl
    ·exact sk
    ·exact key
  ·rintro σ Z ⟨C,v6,f,rfl,s3,R3⟩;refine⟨_,_,_,_,f,rfl,s3,?_⟩;have:(fh g).length=(ch g).length:=by unfold fh;rw[wa0]
   rw[this,waI]at R3;rw[I];exact R3
 ·rintro σ O ⟨v3,v4,C,v6,f,rfl,D,R2⟩;rw[wa0,R.len,waI]at R2;exact⟨_,rfl,k v f O D z R2⟩
theorem nL(L:Lk K mg):aT P w K mg base df 4 L.ow L.oy ["band","place","wide"] (Ij L.aB):=by
 have T:=L.T;refine L.hF.F.dJ (N:=["band","place","wide","rows","step","live"]) (λi5 A outer s H vs Q E nd C h=>?_);obtain⟨x,p,n,g,a,ss,ls,rfl,B,hp,j,hn,EF,O,k⟩:=h
 refine⟨_,(a6 (bA (bQ (pv 0) L.aI.cl L.eI.m (pj L) (C.mono (by decide)) L.eI.b .nil bj (a5 (pv 1) a8)))
  (a6 (aj (i:=3) (bX (a5 (eC (a5 fb (a5 (pv 1) a8))) a8)))
  (a6 (b7 wao rfl (d1 rfl T.range (a5 (pv 2) a8)) (ay (i:=4)) (af (aj (i:=3) (aq (wk L) L.jF (a5 (pv 0) (a5 (pv 3) a8))))))
  (a6 (aj (i:=5) (bR (pv 0) L.aI.cl L.dM.m (lK L) (C.mono (by decide)) L.dM.b .nil bj))
  (af (aA (fT rfl (ax ["live"] [5]) (ax ["live"] [5]) (by decide) (aP (pv 3)) (λ_ _ _ _ _ _=>gZ (aG (j3 (K:=K) rfl) (pv 1) (pv 2) rfl)) (λ_ _ _ _ _ _=>(eC (a5 (pv 0) (a5 (pv 1) a8))))))))))),?_⟩
 try dsimp only[dn,dm,b5,b6]
 have he:("":Str)∈ss:=B.pm.mem_iff.mpr (cy a);have R:p∈ss:=B.lv.sub.subset hp;obtain⟨⟨dx,b,d,q,mv,o,D,h3,h4,h5,h6⟩,pm,_,_⟩:=id B;refine⟨_,rfl,x,dx,_,rfl,o,CA _ _ _ _ (by decide+kernel) (by decide+kernel) (by decide+kernel) (by decide+kernel),_,rfl,x,p,g,a,ss,ls,rfl,B,hp,?_⟩;refine⟨_,rfl,by show 2<=sizeLine;decide,λe S=>⟨by show 1<=sizeLine;decide,λG u=>?_⟩⟩
 have R0:eP (upd (upd H e (.tup [.str "",.str p])) G (.lst [.ref e])) G [e] (vh g a ss p 0):=by
  refine⟨a7,rfl,λi r xs o D=>?_⟩
  match i,o,D with
  |0,o,D=>
   cases o;cases D;exact a9.upd u _ _ a7
 have s0:a9 H (upd (upd H e (.tup [.str "",.str p])) G (.lst [.ref e])):=(a9.upd S).trans (a9.upd u);refine⟨_,rfl,(n:Int),rfl,by omega,by omega,?_⟩;rw[waF];refine dC (lo:=0) (n:=n) (λi σ I=>∃(l:Addr) (v:List Addr) (v4:Option V),σ=[some (.ref x),some (.str p),some (.int (n:Int)),some (.ref l),v4,none]/\a9 H I/\eP I l v (vh g a ss p i)) ⟨G,[e],none,rfl,s0,R0⟩ ?_ ?_
 ·rintro i σ I hi ⟨l,v,v4,rfl,f,R2⟩;have c:(vh g a ss p i).length<=100:=wal (pO g a ss p i) (wal (wgB (by omega) (by omega)) j);refine⟨_,rfl,_,rfl,x,l,v,_,g,a,ss,ls,rfl,B.same f,R2,λr C=>?_,c,O,λl' U H3 y f3 R3=>⟨l',U,_,rfl,f.trans y,R3⟩⟩;obtain⟨a1,a2⟩:=vi he R i r C;exact⟨a1,by omega⟩
 ·rintro σ I ⟨l,v,v4,rfl,f,R2⟩;have B2:=B.same f;obtain⟨⟨X,_,_,_,_,Y,_⟩,_⟩:=id B2;refine⟨_,rfl,x,X,_,rfl,Y,CA _ _ _ _ (by decide+kernel) (by decide+kernel) (by decide+kernel) (by decide+kernel),x,g,a,ss,ls,rfl,B2,λlv H3 y f3 Z=>?_⟩;have R3:=R2.same y;have c:(vh g a ss p n).length<=100:=wal (pO g a ss p n) j;have EA:=R3.len;refine⟨_,rfl,l,rfl,⟨_,aL.of R3.l⟩,λlr z=>?_⟩;refine Fz (prs:=(vh g a ss p n).map pP) (λq=>pJ q.2 (ls.map V.str)) jT (aQ K l (v.map V.ref)) (by rw[Eg];exact R3.t) z (aw (by omega)) (λH' s'=>aL.of (s' _ _ R3.l)) (λqv J Q' hq M qq=>?_) (λqv J Q' hq _ M qq=>?_) (λys J M Zn t4=>?_)
  ·obtain⟨q',_,rfl⟩:=wab.mp hq;exact⟨_,rfl,_,rfl,lv,_,rfl,.inl (aL.of (M _ _ Z)),rfl,fD _,_,rfl,qq J (a9.refl _)⟩
  ·exact⟨_,rfl,_,rfl,by show 2<=sizeLine;decide,λr' UI=>qq r' _ (a9.upd UI) a7⟩
  ·rw[B1]at t4;exact k lr ys J ((f.trans y).trans M) (none_of (f.trans y) z) ⟨Zn,t4⟩
theorem xt(L:Lk K mg):aT P w K mg base df 5 L.qo L.qp ["band","wide"] (B4 L.aB):=by
 refine L.lF.F.dJ (N:=["band","wide","ends","place"]) (λi5 A outer s H vs Q E nd hr h=>?_);obtain⟨x,n,g,J,ss,ls,rfl,B,JY,hn,EF,EC,EB,k⟩:=h;have hu:=fk hr
 refine⟨_,(a6 (aj (i:=2) dD)
  (a6 (b7 wao rfl (aP (bR (pv 0) L.aI.cl L.dM.m (lK L) (hr.mono (by decide)) L.dM.b .nil bj)) (ay (i:=3)) (af (eD hu (pv 2) (pv 3) (fT rfl (ax [] []) (ax [] []) (by decide) (aP (aq (nL L) L.hF (a5 (pv 0) (a5 (pv 3) (a5 (pv 1) a8))))) (λ_ _ _ _ _ _=>bo) (λ_ _ _ _ _ _=>(pv 1))) rfl)))
  (af (aA (pv 2))))),?_⟩
 try dsimp only[dn,dm,b5,b6]
 refine λu v=>?_;have Y:a9 H (upd H u (.dK [])):=a9.upd v;have B0:=B.same Y;obtain⟨⟨dx,b,d,q,mv,h1,h2,h3,h4,h5,h6⟩,pm,_,_⟩:=id B0;refine⟨_,rfl,x,dx,_,rfl,h1,CA _ _ _ _ (by decide+kernel) (by decide+kernel) (by decide+kernel) (by decide+kernel),x,g,J,ss,ls,rfl,B0,λlp Z R f1 S=>?_⟩;have Se:lp≠u:=λz=>by rw[z,a7]at f1;cases f1
 have nd:ls.Nodup:=B.nd.sublist B.lv.sub;have Dg:ls.length<=900:=wal B.lv.sub.length_le EB
 refine⟨lp,rfl,⟨_,aL.of S⟩,dA (K:=K) (a:=lp) (xs:=ls.map V.str) (λi σ H2=>∃v3 r,σ=[some (.ref x),some (.int (n:Int)),some (.ref u),v3]/\H2 u=some (.dK (cD r))/\r.map (·.1)=ls.take i/\(∀m∈r,H2 m.2=some (.lst (((aV g J ss ls n m.1).map (·.2)).map V.str)))/\(∀m∈r,Z m.2=none)/\(∀c o,Z c=some o->c≠u->H2 c=some o))
  ⟨none,[],rfl,R _ _ a7,rfl,λm C=>(nomatch C),λm C=>(nomatch C),λc o e _=>e⟩ (λi σ H2 _ ⟨_,_,_,_,_,_,_,M⟩=>aL.of (M _ _ S Se)) ?_ ?_⟩
 ·rintro i y σ H5 hy ⟨v3,r,rfl,D,f,j,G,M⟩;obtain⟨p,O5,rfl,hi,Dv,rg⟩:=i7 hy;have Ub:a9 H H5:=λc o e=>M _ _ (R _ _ (Y _ _ e)) (ag e v);refine⟨_,rfl,_,rfl,_,rfl,x,p,n,g,J,ss,ls,rfl,B.same Ub,Dv,JY,hn,EF,EC,λlb rs H6 s6 f6 R6=>?_⟩;have Oa:=gL g J ss ls n p;have EA:=R6.len;refine⟨lb,rfl,⟨_,aL.of R6.l⟩,λe he=>?_⟩;refine oX (prs:=(aV g J ss ls n p).map pP) (λ_=>true) (λq=>q.2) (aQ K lb (rs.map V.ref)) (by rw[Eg];exact R6.t) he (aw (by omega)) (λH' s'=>aL.of (s' _ _ R6.l)) (λq H7 Q' _ _ qq=>qq H7 (a9.refl _)) (λq H7 Q' _ _ _ qq=>⟨_,rfl,qq H7 (a9.refl _)⟩) (λH7 s7 h7=>?_)
  have e7:(((aV g J ss ls n p).map pP).filter λ_=>true).map (λq=>q.2)=((aV g J ss ls n p).map (·.2)).map V.str:=by
   rw[wb8.mpr (λ_ _=>rfl),wah,wah];rfl
  rw[e7]at h7;have O:=s6.trans s7;have d6:=O _ _ D;have I:H5 e=none:=none_of s6 he;have T:p∉r.map (·.1):=by rw[f];exact j6 nd O5
  have Uc:r.length<=900:=by have:=congrArg wdD f;rw[wa0,wai]at this;omega
  refine⟨_,rfl,_,rfl,u,_,rfl,ky.k (k:=waj p) d6 (by unfold cD;rw[wa0];exact bq (by omega)),?_⟩;have U:e≠u:=λz=>by rw[z,D]at I;cases I
  have e1:Z e=none:=by
   cases q:Z e with
   |none=>rfl
   |some o=>
    have:=M _ _ q U;rw[this]at I;cases I
  refine⟨_,r++[(p,e)],rfl,?_,?_,?_,?_,?_⟩
  ·rw[a7,fR _ (oV T)];unfold cD;rw[wan];rfl
  ·rw[wan,f,rg];rfl
  ·intro m C;rcases waE.mp C with z |z
   ·have nm:m.2≠u:=λq=>by
     have:=G m z;rw[q,R _ _ a7]at this;cases this
    rw[ae nm];exact O _ _ (j m z)
   ·have:m=(p,e):=by simpa using z
    subst this;rw[ae U];exact h7
  ·intro m C;rcases waE.mp C with z |z
   ·exact G m z
   ·have:m=(p,e):=by simpa using z
    subst this;exact e1
  ·intro c o hc X;rw[ae X];exact O _ _ (M c o hc X)
 ·rintro σ H5 ⟨v3,r,rfl,D,f,j,G,M⟩;rw[wa0,waI]at f;exact⟨_,rfl,k u r H5 (λc o e=>M _ _ (R _ _ (Y _ _ e)) (ag e v)) v D f j λm C=>none_of Y (none_of R (G m C))⟩
theorem zH(L:Lk K mg):aT P w K mg base df 1 L.tF L.tG ["places","weights"] (Ik K):=by
 have T:=L.T;refine L.mZ.F.dJ (N:=["places","weights"]) (λj A outer s H y Q E nd n h=>?_);obtain⟨l,d,o,m,f,rfl,g,p,hd,hw,k⟩:=h;have q:=fk n;refine⟨_,(af (aA (aC (mF rfl) (by rfl) T.sum Fo (a5 (cU rfl (ax ["weights"] [1]) (aP (pv 0)) (λ_ _ _ _ _ _=>bo) (λ_ _ _ _ _ _=>(dk q (pv 1) (pv 0) (λ_ _=>rfl)))) a8)))),?_⟩
 try dsimp only[dn,dm,b5,b6]
 refine⟨_,rfl,l,rfl,⟨_,g⟩,λr a=>?_⟩;refine comp_map (KM f) (aQ K l (o.map V.str)) a (by rw[wa0];exact aw (by omega)) (λB t=>t.seq g) (λz b C u c v=>?_) (λb c i=>?_)
 ·obtain⟨e,x,rfl⟩:=wab.mp u;have g3:=eM.rd (k:=(waj e:Key)) (hd.same c);rw[eU,hw e x]at g3;exact⟨_,rfl,_,rfl,d,_,rfl,g3,v b (a9.refl _)⟩
 ·rw[rE]at i;exact⟨r,_,rfl,aL.of i,k b c⟩
theorem Dy(L:Lk K mg):aT P w K mg base df 2 L.yF L.yG ["ends","many","weights"] FD:=by
 have T:=L.T;refine L.rV.F.dJ (N:=["ends","many","weights","lower","place"]) (λX A outer s H vs Q E nd Y h=>?_);obtain⟨x,B,many,n,o,M,f,g,r,ss,ls,rfl,l,O,Z,JY,nd,Dg,hm2,Zo,C,k⟩:=h;have D:=fk Y
 refine⟨_,(a6 (aj (i:=3) dD)
  (a6 (b7 wao rfl (ur (pv 0)) (ay (i:=4)) (af (eD D (pv 3) (pv 4) (aC (xR rfl) (by rfl) T.min Nu (a5 (dk D (pv 2) (pv 4) (λ_ _=>rfl)) (a5 (aK kq (aq (zH L) L.mZ (a5 (dk D (pv 0) (pv 4) (λ_ _=>rfl)) (a5 (pv 2) a8))) (pv 1)) a8))) rfl)))
  (af (aA (pv 3))))),?_⟩
 try dsimp only[dn,dm,b5,b6]
 refine λdl m=>?_;have R:a9 H (upd H dl (.dK [])):=a9.upd m;have J:=jR x o (cD M);rw[j4,O]at J;refine⟨_,rfl,x,_,rfl,.inr ⟨o,R _ _ l,?_⟩⟩;refine my J (λj σ t=>∃(v4:Option V),σ=[some (.ref x),some (.int many),some (.ref B),some (.ref dl),v4]/\t dl=some (.dK (bI (cI (mI g r ss ls many n f) (ls.take j))))/\a9 H t) ⟨none,rfl,a7,R⟩ (λj σ t _ ⟨_,_,_,b⟩=>b _ _ l) ?_ ?_
 ·rintro j y σ t hy ⟨v4,rfl,z,b⟩;obtain⟨p,G,rfl,hj,u,rg⟩:=i7 hy;have d:=C.same b;have g3:=eM.rd (k:=(waj p:Key)) d;rw[eU,kR f ls p u]at g3;obtain⟨a,ha,hv⟩:=iT (mv:=M) (k:=p) (by rw[O];exact u);have S:=eM.f (k:=(waj p:Key)) (b _ _ l);rw[hv]at S;have I:=b _ _ (Z _ ha);have Oa:=gL g r ss ls n p;refine⟨_,rfl,_,rfl,B,_,rfl,g3,_,rfl,_,rfl,x,_,rfl,S,_,rfl,a,B,(aV g r ss ls n p).map (·.2),_,f,rfl,aL.of I,by rw[wa0];omega,d,λe he=>?_,λH4 U=>?_⟩
  ·obtain⟨q,hq,rfl⟩:=wab.mp he;exact kR f ls _ (dU hq)
  have eb:(((aV g r ss ls n p).map (·.2)).map f).sum=iJ g r ss ls n f p:=by unfold iJ;rw[wah];rfl
  refine⟨_,rfl,_,_,rfl,rfl,⟨by omega,by omega⟩,_,_,rfl,?_⟩;have h4:=U _ _ z;have v:p∉(cI (mI g r ss ls many n f) (ls.take j)).map (·.1):=by rw[rH];exact j6 nd G
  refine⟨_,rfl,_,rfl,dl,_,rfl,ky.k (k:=waj p) h4 (by rw[jS];unfold cI;rw[wa0,wai];exact bq (by omega)),?_⟩;refine⟨_,rfl,?_,λc oc e=>?_⟩
  ·rw[a7,rG v,eb,rg];unfold cI;rw[wan];rfl
  ·rw[ae (ag e m)];exact U _ _ (b _ _ e)
 ·rintro σ t ⟨v4,rfl,z,b⟩;rw[wa0,waI]at z;exact⟨_,rfl,k dl t b m z⟩
theorem Bx(L:Lk K mg):aT P w K mg base df 6 L.pe L.vX ["band","many","wide","most"] (KR L.aB):=by
 refine L.pf.F.dJ (N:=["band","many","wide","most","ends","weights","place","lower"]) (λi5 A outer s H vs Q E nd hr h=>?_);obtain⟨x,many,n,most,g,v,ss,ls,rfl,B,EF,U,X,Y,Wx,k⟩:=h;have hu:=fk hr;have O4:(A.deeper (wcX "greatest" (aJ (top 50)) s.heap.objs.size L.pe i5)).units<wcF:=hr.uJ
 refine⟨_,(a6 (bA (aq (hV L) L.eX (a5 (pv 0) (a5 (pv 1) (a5 (pv 2) a8)))))
  (a6 (aj (i:=4) (aq (xt L) L.lF (a5 (pv 0) (a5 (pv 2) a8))))
  (a6 (aj (i:=5) dD)
  (a6 (b7 wao rfl (AZ (pv 4)) (ay (i:=6)) (af (eD hu (pv 5) (pv 6) (pv 3) rfl)))
  (af (jL wao (cF gy) (a6 (aj (i:=7) (aq (Dy L) L.rV (a5 (pv 4) (a5 (pv 1) (a5 (pv 5) a8)))))
  (a6 (bD (aG (Nz O4) (pv 7) (pv 5) (aU _)) (af (aA (pv 5))) aN)
  (af (aj (i:=5) (pv 7))))))))))),?_⟩
 try dsimp only[dn,dm,b5,b6]
 obtain⟨Z,rb,rc,rd,re⟩:=id Y
 have JY:g.length^n<=64:=by
  rw[waF]at re;have:((g.length^n:Nat):Int)<=64:=by rw[wdI];exact re
  omega
 have nd:ls.Nodup:=B.nd.sublist B.lv.sub;have Dg:ls.length<=900:=wal B.lv.sub.length_le X;refine⟨_,rfl,_,rfl,_,rfl,x,many,n,g,v,ss,ls,rfl,B,U,Y,?_⟩;refine⟨_,rfl,_,rfl,x,n,g,v,ss,ls,rfl,B,by omega,by omega,EF,U,X,λd G H1 s1 Ud h1 ek er ef=>?_⟩;have Zq:∀q∈G,q.2≠d:=λq hq z=>by have:=er q hq;rw[z,h1]at this;cases this
 refine λa b=>?_;have I:d≠a:=ag h1 b;have X3:(upd H1 a (.dK [])) d=some (.dK (cD G)):=a9.upd b _ _ h1;refine⟨_,rfl,d,_,rfl,.inl X3,λo H2 h2 l=>?_⟩;have M:H2 a=some (.dK []):=by rw[l a (wbc I),a7]
 have s2:a9 H H2:=λc O e=>by
  rw[l c (ag e Ud)];exact a9.upd b _ _ (s1 _ _ e)
 have R:∀m∈G,H2 m.2=some (.lst (((aV g v ss ls n m.1).map (·.2)).map V.str)):=λm r=>by
  rw[l _ (Zq m r)];exact a9.upd b _ _ (er m r)
 have t:H a=none:=none_of s1 b;have J:=jR d o (cD G);rw[j4,ek]at J;refine my J (λj σ u=>∃(v6:Option V),σ=[some (.ref x),some (.int many),some (.int (n:Int)),some (.int most),some (.ref d),some (.ref a),v6,none]/\u a=some (.dK (bI (cI (λ_=>most) (ls.take j))))/\∀c O,H2 c=some O->c≠a->u c=some O) ⟨none,rfl,M,λc O e _=>e⟩ (λj σ u _ ⟨_,_,_,C⟩=>C _ _ h2 I) ?_ ?_
 ·rintro j y σ u hy ⟨v6,rfl,h3,C⟩;obtain⟨p,OI,rfl,hj,Dv,rg⟩:=i7 hy;have Je:p∉(cI (λ_=>most) (ls.take j)).map (·.1):=by rw[rH];exact j6 nd OI
  refine⟨_,rfl,_,rfl,_,rfl,a,_,rfl,ky.k (k:=waj p) h3 (by rw[jS];unfold cI;rw[wa0,wai];exact bq (by omega)),?_⟩;refine⟨_,rfl,?_,λc O e hc=>by rw[ae hc];exact C c O e hc⟩;rw[a7,rG Je,rg];unfold cI;rw[wan];rfl
 rintro σ u ⟨v6,rfl,h3,C⟩;rw[wa0,waI]at h3;have Uh:=C _ _ h2 I;have s3:a9 H u:=λc O e=>C _ _ (s2 _ _ e) (ag e t);have UM:∀m∈G,m.2≠a:=λm r z=>by have:=R m r;rw[z,M]at this;cases this
 have Sf:∀m∈G,u m.2=some (.lst (((aV g v ss ls n m.1).map (·.2)).map V.str)):=λm r=>C _ _ (R m r) (UM m r);clear C h2 M R er h1 l X3 J b
 refine⟨λq σ H4=>∃(a:Addr) (f:Str->Int) (v6 v7:Option V),q=(ls.map λp=>(f p).toNat).sum/\σ=[some (.ref x),some (.int many),some (.int (n:Int)),some (.int most),some (.ref d),some (.ref a),v6,v7]/\a9 u H4/\H a=none/\H4 a=some (.dK (bI (cI f ls)))/\(∀p∈ls,0<=f p)/\(∀p∈ls,f p<=most)/\(∀h:Str->Int,(∀p∈ls,h p<=most)->GB g v ss ls many n h->∀p∈ls,h p<=f p),
  ⟨_,a,λ_=>most,v6,none,rfl,rfl,a9.refl _,t,h3,λ_ _=>Wx,λ_ _=>weR _,λh hh _ p hp=>hh p hp⟩,?_⟩
 rintro q σ H4 ⟨a,f,v6,v7,rfl,rfl,s4,t,h4,S,X4,X5⟩;refine⟨true,rfl,fO ?_⟩;refine⟨λσ' H'=>∃(dl:Addr) (v6 v7:Option V),σ'=[some (.ref x),some (.int many),some (.int (n:Int)),some (.int most),some (.ref d),some (.ref dl),v6,v7]/\a9 u H'/\H dl=none/\H' dl=some (.dK (bI (cI (mI g v ss ls many n f) ls)))/\¬∀p∈ls,mI g v ss ls many n f p=f p,?_,?_⟩
 ·rintro σ' H' ⟨dl,v6,v7,rfl,s',T,h',wZ⟩;exact⟨_,NI Z S wZ,dl,_,_,_,rfl,rfl,s',T,h',Io Z S,λp hp=>wdY (Im many n f p) (X4 p hp),λh hh D=>FC Z D (X5 h hh D)⟩
 ·refine⟨_,rfl,_,rfl,_,rfl,d,a,many,n,o,G,f,g,v,ss,ls,rfl,s4 _ _ Uh,ek,λm r=>s4 _ _ (Sf m r),by omega,nd,Dg,Z,rb,.inl h4,λdl H5 s5 T h5=>?_⟩;have X6:=s5 _ _ h4;refine⟨_,rfl,_,rfl,dl,a,_,_,rfl,rfl,.inl h5,.inl X6,vj _,vj _,_,rfl,?_⟩;refine uP (λhe=>?_) (λhe=>?_)
  ·have e:=Mg.mp he;exact⟨_,rfl,k a f H5 ((s3.trans s4).trans s5) t X6 ⟨S,X4,KQ Z e,X5⟩⟩
  ·exact⟨_,rfl,dl,_,_,rfl,s4.trans s5,none_of s3 (none_of s4 T),h5,λe=>he (Mg.mpr e)⟩
theorem nM(L:Lk K mg):aT P w K mg base df 5 L.oz L.oA ["band","many","wide","weights"] (L6 K L.aB L.aD):=by
 refine L.hH.F.dJ (N:=["band","many","wide","weights","homes","lines","place","blocks"]) (λi5 A outer s H vs Q E nd hr h=>?_);obtain⟨x,d,many,n,m,f,g,u,ss,ls,rfl,B,EF,EC,EB,Jm,hd,hw,k⟩:=h;have hu:=fk hr
 refine⟨_,(a6 (bA (aq (hV L) L.eX (a5 (pv 0) (a5 (pv 1) (a5 (pv 2) a8)))))
  (a6 (aj (i:=4) (cU rfl (ax ["weights"] [3]) (aP (bR (pv 0) L.aI.cl L.dM.m (lK L) (hr.mono (by decide)) L.dM.b .nil bj)) (λ_ _ _ _ _ _=>gZ (aG o6 (dk hu (pv 1) (pv 0) (λ_ _=>rfl)) ao (aU _))) (λ_ _ _ _ _ _=>(pv 0))))
  (a6 (aj (i:=5) (bX a8))
  (a6 (b7 wao rfl (aP (pv 4)) (ay (i:=6)) (a6 (aj (i:=7) (aq (nL L) L.hF (a5 (pv 0) (a5 (pv 6) (a5 (pv 2) a8)))))
  (af (bA (iZ waO waV waY cP (pv 5) (a5 (fT rfl (ax ["homes"] [4]) (ax ["homes"] [4]) (by decide) (aP (pv 7)) (λ_ _ _ _ _ _=>gZ (aG (j3 (K:=K) rfl) (pv 1) (pv 2) rfl)) (λ_ _ _ _ _ _=>(eC (a5 (pv 0) (a5 (Ir (K:=K) rfl waO wd3 wfJ (FG (K:=K) rfl) (pv 2) (a5 (pv 1) a8)) a8))))) a8))))))
  (af (aA (nU L.qM (gk L) (hr.mono (by decide)) rfl L.uB L.dG.b .nil bj (a5 (pv 4) (a5 (cU rfl (ax ["weights"] [3]) (aP (pv 4)) (λ_ _ _ _ _ _=>bo) (λ_ _ _ _ _ _=>(dk hu (pv 1) (pv 0) (λ_ _=>rfl)))) (a5 (pv 5) a8)))))))))),?_⟩
 try dsimp only[dn,dm,b5,b6]
 obtain⟨ra,rb,rc,rd,re⟩:=id Jm
 have JY:g.length^n<=64:=by
  rw[waF]at re;have:((g.length^n:Nat):Int)<=64:=by rw[wdI];exact re
  omega
 have Dg:ls.length<=900:=wal B.lv.sub.length_le EB;refine⟨_,rfl,_,rfl,_,rfl,x,many,n,g,u,ss,ls,rfl,B,EC,Jm,?_⟩;obtain⟨⟨dx,b,d0,q,mv,h1,h2,h3,h4,h5,h6⟩,pm,_,_⟩:=id B;refine⟨_,rfl,x,dx,_,rfl,h1,CA _ _ _ _ (by decide+kernel) (by decide+kernel) (by decide+kernel) (by decide+kernel),x,g,u,ss,ls,rfl,B,λlv H1 s1 f1 hv=>?_⟩;refine⟨lv,rfl,⟨_,aL.of hv⟩,λS OS=>?_⟩;refine ee (λv=>match v with |.str p=>decide (0<f p) |_=>false) (λv=>v) (aQ K lv (ls.map V.str)) OS (by rw[wa0];exact aw (by omega)) (λH' s'=>aL.of (s' _ _ hv)) (λz J Q' hz s2 Y=>?_) (λz J Q' hz _ s2 Y=>⟨_,rfl,Y J (a9.refl _)⟩) (λJ s2 hh=>?_)
 ·obtain⟨p,hp,rfl⟩:=wab.mp hz;have g3:=eM.rd (k:=(waj p:Key)) (hd.same (s1.trans s2));rw[eU,hw p hp]at g3;have q2:Q' (decide (0<f p)) J:=Y J (a9.refl _);exact⟨_,rfl,_,rfl,d,_,rfl,g3,_,_,rfl,rfl,_,rfl,q2⟩
 have Zr:((ls.map V.str).filter (λv=>match v with |.str p=>decide (0<f p) |_=>false)).map (λv=>v)=(au ls f).map V.str:=by
  rw[wdX,weD];rfl
 rw[Zr]at hh;have X7:(au ls f).length<=900:=wal (wb7 _ _) Dg;have QS:∀p∈au ls f,p∈ls:=λp hp=>(wau.mp hp).1;have OU:=s1.trans s2;refine⟨waA _,λC D=>?_⟩;have sb:a9 J (upd J C (.lst [])):=a9.upd D;have Z:(upd J C (.lst [])) C=some (.lst []):=a7;generalize upd J C (.lst [])=Hb at sb Z;have Zt:S≠C:=ag hh D
 refine⟨_,rfl,S,rfl,⟨_,aL.of (sb _ _ hh)⟩,dA (K:=K) (a:=S) (xs:=(au ls f).map V.str) (λj σ H3=>∃(v6 v7:Option V) (as:List V),σ=[some (.ref x),some (.int many),some (.int (n:Int)),some (.ref d),some (.ref S),some (.ref C),v6,v7]/\H3 C=some (.lst as)/\(∀c o,Hb c=some o->c≠C->H3 c=some o)/\bx K (aM Hb H3) (((au ls f).take j).map λp=>cg (gN g u ss ls n (au ls f) p)) as)
  ⟨none,none,[],rfl,Z,λc o e _=>e,rfl⟩ (λj σ H3 _ ⟨_,_,_,_,_,kk,_⟩=>aL.of (kk _ _ (sb _ _ hh) Zt)) ?_ ?_⟩
 ·rintro j y σ H3 hy ⟨v6,v7,as,rfl,UN,kk,hR⟩;obtain⟨p,OI,rfl,hj,Dv,rg⟩:=i7 hy;have M:a9 J H3:=λc o e=>kk _ _ (sb _ _ e) (ag e D);have B3:=B.same (OU.trans M);refine⟨_,rfl,_,rfl,_,rfl,x,p,n,g,u,ss,ls,rfl,B3,QS p Dv,by omega,by omega,EF,EC,λlb rb T G f4 R4=>?_⟩;have I:=G _ _ UN;have Oa:=gL g u ss ls n p
  have Sh:as.length=j:=by
   rw[hR.len,wa0,wai];omega
  refine⟨_,rfl,.inl ⟨rfl,_,aL.of I⟩,_,rfl,lb,rfl,⟨_,aL.of R4.l⟩,λlc Ly=>?_⟩;have O:T S=some (.lst ((au ls f).map V.str)):=G _ _ (M _ _ hh);refine jU (prs:=(aV g u ss ls n p).map pP) (λq=>pJ q.2 ((au ls f).map V.str)) (λq=>.tup [.at q.1,.at (.int (match q.2 with |.str e=>((au ls f).idxOf e:Nat) |_=>0))]) (aQ K lb (rb.map V.ref)) (by rw[wa0,wa0,R4.len]) (λi q U=>?_) Ly (by rw[wa0,R4.len];exact aw (by omega)) (λH' s'=>aL.of (s' _ _ R4.l)) (λq R Q' U X Y=>?_) (λq R Q' U Zu X Y=>?_) (λR X r5=>?_)
  ·have hi:i<rb.length:=by have:=(wa6.mp U).1;rw[wa0,<-R4.len]at this;exact this
   rw[wa4]at U
   cases e:(aV g u ss ls n p)[i]? with
   |none=>rw[e]at U;cases U
   |some z=>
    rw[e]at U;cases U;refine⟨rb[i],by rw[wa4,wa1 hi];rfl,ig.of (R4.t.2 i rb[i] (mH z) (wa1 hi) (by rw[wa4,e];rfl))⟩
  ·obtain⟨z,hz,rfl⟩:=wab.mp U;exact⟨_,rfl,_,rfl,S,_,rfl,.inl (aL.of (X _ _ O)),rfl,fD _,_,rfl,Y R (a9.refl _)⟩
  ·obtain⟨z,hz,rfl⟩:=wab.mp U
   have hm:z.2∈au ls f:=by
    have:pJ (.str z.2) ((au ls f).map V.str)=true:=Zu;rw[jN]at this;exact of_decide_eq_true this
   obtain⟨i1,i2⟩:=rK hm;refine⟨_,rfl,_,rfl,.inl ⟨rfl,_,aL.of (X _ _ O)⟩,_,rfl,S,au ls f,z.2,(au ls f).idxOf z.2,rfl,rfl,aL.of (X _ _ O),by omega,i1,i2,by show 2<=sizeLine;decide,λr hr=>?_⟩;exact Y _ _ (a9.upd hr) (mJ hr (z.1,(au ls f).idxOf z.2))
  have el:((((aV g u ss ls n p).map pP).filter λq=>pJ q.2 ((au ls f).map V.str)).map λq=>kU.tup [.at q.1,.at (.int (match q.2 with |.str e=>((au ls f).idxOf e:Nat) |_=>0))])=(gN g u ss ls n (au ls f) p).map lR:=by
   unfold gN;rw[weD,wah,wah]
   have ep:((λq:V×V=>pJ q.2 ((au ls f).map V.str)) ∘ pP)=λq:Str×Str=>decide (q.2∈au ls f):=by
    funext q;exact jN q.2 _
   rw[ep];rfl
  rw[el]at r5;refine⟨C,_,_,rfl,rfl,X _ _ I,by rw[Sh];exact wbg (show j<=900 by omega) (by rw[wcc];decide),?_⟩;have X8:=G.trans X;have X9:=X _ _ I;have kp:∀c o,R c=some o->c≠C->(upd R C (.lst (as++[.ref lc]))) c=some o:=λc o e hc=>by rw[ae hc];exact e
  refine⟨_,_,as++[.ref lc],rfl,a7,λc o e hc=>kp _ _ (X8 _ _ (kk c o e hc)) hc,?_⟩;rw[rg,wan];refine iU (bx.same ((j7 X8).trans (bT Z kp)) _ _ hR) ?_
  have old:a9 (aM T R) (aM Hb R):=λc o e=>by
   unfold aM at e ⊢
   cases q:Hb c with
   |none=>
    cases q2:T c with
    |none=>rw[q2]at e;exact e
    |some z=>rw[q2]at e;cases e
   |some z=>
    by_cases hc:c=C
    ·rw[hc,I]at e;cases e
    ·rw[G _ _ (kk _ _ q hc)]at e;cases e
  exact bK.same (old.trans (bT Z kp)) _ _ r5
 ·rintro σ H3 ⟨v6,v7,as,rfl,UN,kk,hR⟩;rw[wa0,waI]at hR;have M:a9 J H3:=λc o e=>kk _ _ (sb _ _ e) (ag e D);have wO:=OU.trans M;have UO:=M _ _ hh;refine⟨_,rfl,_,rfl,S,rfl,⟨_,aL.of UO⟩,λlw O7=>?_⟩;refine comp_map (KM f) (aQ K S ((au ls f).map V.str)) O7 (by rw[wa0];exact aw (by omega)) (λH' s'=>aL.of (s' _ _ UO)) (λz T Q' hz G Y=>?_) (λT G QO=>?_)
  ·obtain⟨p,hp,rfl⟩:=wab.mp hz;have g3:=eM.rd (k:=(waj p:Key)) (hd.same (wO.trans G));rw[eU,hw p (QS p hp)]at g3;exact⟨_,rfl,_,rfl,d,_,rfl,g3,Y T (a9.refl _)⟩
  rw[rE]at QO;have I:=G _ _ UN;have Zv:=G _ _ UO;refine⟨_,rfl,λy dy ny Uz Zc=>?_⟩;have sm:a9 T (upd (upd T dy (.own y)) y (.ins L.aD dy [])):=fE ny Uz;refine⟨y,dy,.ref S,.ref lw,.ref C,au ls f,(au ls f).map f,bF g u ss ls n (au ls f),rfl,a7,pT (sm _ _ Zv),jV (sm _ _ QO),?_,by omega,by rw[wa0];omega,by unfold bF;rw[wa0];omega,?_,λa' b' c' R UP r1 r2 r3 Zw=>⟨rfl,?_⟩⟩
  ·have Zx:bx K T ((au ls f).map λp=>cg (gN g u ss ls n (au ls f) p)) as:=bx.same ((cj _ _).trans G) _ _ hR;refine⟨C,as,rfl,.inl (sm _ _ I),?_⟩
   have e:(bF g u ss ls n (au ls f)).map cg=(au ls f).map λp=>cg (gN g u ss ls n (au ls f) p):=by
    unfold bF;rw[wah];rfl
   rw[e];exact bx.same sm _ _ Zx
  ·intro l hl;obtain⟨p,_,rfl⟩:=wab.mp hl;have:=D7 g u ss ls n (au ls f) p;omega
  ·have X:a9 T R:=λc o e=>Zw _ _ (sm _ _ e) (ag e ny);refine k y R (wO.trans (G.trans X)) ?_;have UC:H y=none:=none_of (wO.trans G) ny;have nw:=λ(d:kU) (v:V) (r:bK K (aM _ R) d v)=>bK.same (eW ((wO.trans G).trans sm)) d v r;exact⟨dy,a',b',c',cf UC UP,nw _ _ r1,nw _ _ r2,nw _ _ r3⟩
theorem zI(L:Lk K mg):aT P w K mg base df 1 L.tH L.tI ["sheet"] (NY K L.aD):=by
 have T:=L.T;refine L.ni.F.dJ (N:=["sheet","heaviest","desk","line","number","step"]) (λi5 A outer s H vs Q E nd hr h=>?_);obtain⟨x,hs,g,b,rfl,S,AF,he,wZ,hex,k⟩:=h
 refine⟨_,(a6 (aj (i:=1) (aC (Fy rfl) (by rfl) T.max Ia (a5 (aE (pv 0) rfl) a8)))
  (a6 (b7 wao rfl (kE (by rfl) T.enum (a5 (aE (pv 0) rfl) a8)) (eB rfl (aO (ay (i:=2)) (aO (ay (i:=3)) cT))) (af (b7 wao rfl (kE (by rfl) T.enum (a5 (pv 3) a8)) (eB rfl (aO (ay (i:=4)) (aO (ay (i:=5)) cT))) (af (bD (PW.pt (C3 (aG pH (b8 bf (aE (pv 0) rfl) (pv 2) (λ_ _=>rfl)) (pv 1) (aU _)) (yU (aG mr (b8 bf (aE (pv 0) rfl) (b8 fQ (pv 5) ao (λ_ _=>rfl)) (λ_ _=>rfl)) (pv 1) (aU _))))) (af (aA (eC (a5 (pv 2) (a5 (pv 4) a8))))) aN)))))
  (af (aA gD)))),?_⟩
 try dsimp only[dn,dm,b5,b6]
 obtain⟨dx,ah,bw,cl,hx,rh,JW,rl⟩:=id S;obtain⟨Wz,eb,hb⟩:=j8 JW;cases eb;obtain⟨QE,xs,ec,hc,R⟩:=id rl;cases ec;have xl:xs.length=b.length:=by rw[R.len,wa0]
 refine⟨_,rfl,x,L.aD,dx,_,_,rfl,hx,L.az.cl,L.az.dF,cN ah bw cl,bw,g,rfl,hb,wZ,λM hM hT=>?_⟩;have U:∀n:Nat,n<g.length->z4 (g.map V.int) (n:Int)=some (.int (g.getD n 0)):=λn hn=>bO (by rw[wa4,wa1 hn,wa3,wa1 hn];rfl);refine⟨_,rfl,x,L.aD,dx,_,_,rfl,hx,L.az.cl,L.az.cV,bV ah bw cl,cl,xs,rfl,.inl hc,mB (K:=K) (a:=cl) (xs:=xs) (λi σ X=>a9 H X/\(∃v2 v3 v4 O,σ=[some (.ref x),some (.int M),v2,v3,v4,O])/\∀d f c q,Down g b M d f c q->i<=d) ⟨a9.refl _,⟨none,none,none,none,rfl⟩,λ_ _ _ _ _=>waA _⟩ (λi σ X _ p=>p.1.seq (.inl hc)) ?_ (λσ X p=>?_)⟩
 ·rintro d y σ X T hy ⟨s2,⟨v2,v3,v4,O,rfl⟩,C⟩ Zy;have hd:d<xs.length:=(wa6.mp hy).1;have G5:d<b.length:=by omega
  have Y:b[d]?=some (b.getD d []):=by rw[wa3,wa1 G5];rfl
  obtain⟨v,Z,rd⟩:=R.at (i:=d) (d:=cg (b.getD d [])) (by rw[wa4,Y];rfl);rw[hy]at Z;cases Z;obtain⟨a,B,rfl,hS,QT⟩:=ez rd;have X0:B.length=(b.getD d []).length:=by rw[QT.1,wa0,wa0]
  have UH:∀q∈b.getD d [],q.2<g.length:=he _ (wa8 Y);have s3:=s2.trans (a9.upd (o:=.tup [.int (d:Nat),.ref a]) Zy);refine⟨T,_,rfl,ig.of a7,rfl,_,_,rfl,_,_,rfl,rfl,?_⟩;generalize upd X T (.tup [.int (d:Nat),.ref a])=H3 at s3;refine⟨_,rfl,a,_,rfl,s3.seq hS,mB (K:=K) (a:=a) (xs:=B.map V.ref) (λi σ H4=>a9 H H4/\(∃v4 O,σ=[some (.ref x),some (.int M),some (.int (d:Int)),some (.ref a),v4,O])/\∀f c q,Down g b M d f c q->i<=f) ⟨s3,⟨_,_,rfl⟩,λ_ _ _ _=>waA _⟩ (λi σ H4 _ p=>p.1.seq hS) ?_ (λσ H4 p=>?_)⟩
  ·rintro i y σ H4 T2 G ⟨s4,⟨v4,O,rfl⟩,j⟩ Zz;have hi:i<B.length:=by have:=(wa6.mp G).1;rwa[wa0]at this
   have I:i<(b.getD d []).length:=by omega
   rw[wa4,wa1 hi]at G;cases G;have QP:H B[i]=some (.tup [.str (b.getD d [])[i].1,.int ((b.getD d [])[i].2:Int)]):=QT.2 i B[i] (jT (eQ (b.getD d [])[i])) (wa1 hi) (by rw[wa4,wa4,wa1 I];rfl);have J:(b.getD d [])[i]?=some (b.getD d [])[i]:=wa1 I;have Mu:=UH _ (waN I);generalize (b.getD d [])[i]=q at QP J Mu;have m:=s4.trans (a9.upd (o:=.tup [.int (i:Nat),.ref B[i]]) Zz);refine⟨T2,_,rfl,ig.of a7,rfl,_,_,rfl,_,_,rfl,rfl,?_⟩;generalize upd H4 T2 (.tup [.int (i:Nat),.ref B[i]])=H5 at m
   have Xa:(¬∃c q,Down g b M d i c q)->∀f c q,Down g b M d f c q->i+1<=f:=λhn f c q hD=>by
    have:=j f c q hD
    by_cases e:f=i
    ·subst e;exact absurd ⟨c,q,hD⟩ hn
    ·omega
   refine⟨_,rfl,x,L.aD,dx,_,_,rfl,m _ _ hx,L.az.cl,L.az.dF,cN ah bw cl,_,rfl,bw,_,_,_,rfl,rfl,m.seq hb,U d (by omega),_,rfl,?_⟩
   by_cases r:g.getD d 0=M
   ·refine⟨rfl,true,congrArg V.bl (decide_eq_true (by rw[r])),fO ?_⟩;refine⟨_,rfl,x,L.aD,dx,_,_,rfl,m _ _ hx,L.az.cl,L.az.dF,cN ah bw cl,_,rfl,B[i],_,_,_,rfl,rfl,ig.of (m _ _ QP),rfl,bw,_,_,_,rfl,rfl,m.seq hb,U q.2 Mu,_,rfl,_,_,rfl,rfl,?_⟩
    by_cases u:g.getD q.2 0<M
    ·refine⟨true,congrArg V.bl (decide_eq_true u),fO ?_⟩;refine⟨_,rfl,_,rfl,by show 2<=sizeLine;decide,λt ht=>?_⟩;exact k t M d i _ q _ (m.trans (a9.upd ht)) a7 ⟨hM,hT,Y,J,r,u⟩
    ·refine⟨false,congrArg V.bl (decide_eq_false u),cb ?_⟩;refine⟨m,⟨_,_,rfl⟩,Xa ?_⟩;rintro⟨c,q',D⟩;have e1:=D.l;rw[Y]at e1;cases e1;have e2:=D.s;rw[J]at e2;cases e2;exact u D.lt
   ·refine⟨rfl,false,congrArg V.bl (decide_eq_false λz=>r (V.int.inj z)),cb ?_⟩;refine cb ⟨m,⟨_,_,rfl⟩,Xa ?_⟩;rintro⟨c,q',D⟩;exact r D.e
  ·obtain⟨s4,⟨v4,O,rfl⟩,j⟩:=p;refine⟨s4,⟨_,_,_,_,rfl⟩,λd' f c q D=>?_⟩;have:=C d' f c q D
   by_cases e:d'=d
   ·subst e;have:=j f c q D;have e1:=D.l;rw[Y]at e1;cases e1;have:=(wa6.mp D.s).1;rw[wa0]at *;omega
   ·omega
 ·obtain⟨s2,_,C⟩:=p;obtain⟨d,i,c,q,D⟩:=hex M hM hT;have:=C d i c q D;have:=(wa6.mp D.l).1;omega
theorem Ga(L:Lk K mg):aT P w K mg base df 1 L.Bn L.Bo ["weights","numbers","many"] (Qz K):=by
 have T:=L.T;refine L.vZ.F.dJ (N:=["weights","numbers","many","taken_at","total","taken","number"]) (λi5 A outer s H vs Q E nd hr h=>?_);obtain⟨a,b,many,wl,d,rfl,hA,I,m1,m2,J,M,k⟩:=h;have O:=fk hr
 refine⟨_,(a6 (aj (i:=3) (E1 (Ap ao ao DZ) rfl rfl (by simp) (by decide)))
  (a6 (aj (i:=4) ao)
  (a6 (b7 wao rfl (IH (by rfl) T.enum (a5 (pv 1) a8)) (eB rfl (aO (ay (i:=5)) (aO (ay (i:=6)) cT))) (a6 (uF (i:=4) nd rfl (wdQ rfl) (b8 bf (pv 0) (pv 6) (λ_ _=>rfl)) GQ)
  (a6 (bD (yT (Hm O (aK cX (pv 4) (pv 2)) (pv 3))) (af (aA (cu jn (pv 1) (bN (dk O (pv 3) (aK cX (pv 4) (pv 2)) (λ_ _=>rfl))) (bN (pv 5))))) aN)
  (af (eD O (pv 3) (aK cX (pv 4) (pv 2)) (pv 5) rfl)))))
  (af (aA (bX a8)))))),?_⟩
 try dsimp only[dn,dm,b5,b6]
 have l:(0:Int)<many:=by omega
 refine λg m=>⟨a7,[((wb4 0:Key),V.int 0)],rfl,by decide,?_⟩;have R:a9 H (upd (upd H g (.dK [])) g (.dK (kz [] [((wb4 0:Key),V.int 0)]))):=λc o e=>by rw[ae (ag e m),ae (ag e m)];exact e
 have h0:(upd (upd H g (.dK [])) g (.dK (kz [] [((wb4 0:Key),V.int 0)]))) g=some (.dK (dR many (lq wl d) 1)):=by
  rw[a7];refine congrArg (λz=>some (HO.dK z)) ?_;show [((wb4 0:Key),V.int 0)]=[((wb4 (0%many):Key),V.int 0)];rw[Int.zero_emod]
 generalize upd (upd H g (.dK [])) g (.dK (kz [] [((wb4 0:Key),V.int 0)]))=H0 at R h0;refine⟨_,rfl,b,_,rfl,R.seq I,FN (K:=K) (a:=b) (xs:=(nI d).map V.int) (λj σ q=>a9 H q/\(∃S v6,σ=[some (.ref a),some (.ref b),some (.int many),some (.ref g),some (.int (lq wl d j)),S,v6])/\q g=some (.dK (dR many (lq wl d) (j+1)))/\∀i k,i<k->k<=j->lq wl d i%many≠lq wl d k%many) ⟨R,⟨none,none,rfl⟩,h0,λi k Y C=>by omega⟩ (λi σ q _ p=>p.1.seq I) ?_ (λσ q p=>?_)⟩
 ·rintro j y σ q T U ⟨Z,⟨S,v6,rfl⟩,C,f⟩ hT;have hj:j<d.length:=by have:=(wa6.mp U).1;rwa[wa0,cH]at this
  have r:d[j]?=some d[j]:=wa1 hj;rw[vF r]at U;cases U;have t:=M _ (waN hj);have x:=FV (wl:=wl) r;generalize d[j]=n at r t x;have u:=Z.trans (a9.upd (o:=.tup [.int ((j+1:Nat):Int),.int (n:Int)]) hT);have D:(upd q T (.tup [.int ((j+1:Nat):Int),.int (n:Int)])) g=some (.dK (dR many (lq wl d) (j+1))):=a9.upd hT _ _ C;refine⟨T,_,rfl,ig.of a7,rfl,_,_,rfl,_,_,rfl,rfl,?_⟩;generalize upd q T (.tup [.int ((j+1:Nat):Int),.int (n:Int)])=H3 at u D;refine⟨_,rfl,_,rfl,_,rfl,a,_,_,_,rfl,rfl,u.seq hA,bO (v:=.int (wl.getD n 0)) (by rw[wa4,wa1 t,wa3,wa1 t];rfl),_,_,rfl,rfl,?_⟩;dsimp only;rw[<-x];refine⟨_,rfl,_,rfl,_,_,rfl,rfl,l,_,rfl,g,_,rfl,eM.k (k:=(wb4 (lq wl d (j+1)%many):Key)) D,?_⟩;rcases IX many (lq wl d) (j+1) (lq wl d (j+1)%many) with⟨G,B⟩ |⟨i,hi,X,G⟩
  ·rw[G];refine⟨false,rfl,cb ?_⟩;refine⟨_,rfl,_,rfl,_,rfl,_,rfl,_,_,rfl,rfl,l,g,_,rfl,ky.k (k:=wb4 (lq wl d (j+1)%many)) D (by rw[O1];exact bq (by omega)),?_⟩;rw[O0 G];refine⟨λc o e=>by rw[ae (ag e m)];exact u _ _ e,⟨_,_,rfl⟩,a7,λi k Y C=>?_⟩
   by_cases e:k=j+1
   ·subst e;exact B i (by omega)
   ·exact f i k Y (by omega)
  ·have hg:=eM.k (k:=(wb4 (lq wl d (j+1)%many):Key)) D;rw[G]at hg ⊢;refine⟨true,rfl,fO ?_⟩;refine⟨_,rfl,_,rfl,_,rfl,_,rfl,_,_,rfl,rfl,l,g,_,rfl,hg,_,rfl,_,rfl,_,rfl,b,_,rfl,u.seq I,λp hp=>?_⟩;rw[IY _ (by omega) (by rw[cH];omega),Em,Li];exact k p i (j+1) _ (u.trans (a9.upd hp)) (none_of u hp) (by omega) (by omega) (IW (by omega) X) a7
 ·obtain⟨Z,⟨S,v6,rfl⟩,C,f⟩:=p;rw[wa0,cH]at f;exact absurd (Dp l J f) id
theorem xu(L:Lk K mg):aT P w K mg base df 2 L.qH L.qI ["sheet","many"] (NZ K L.aD):=by
 have T:=L.T;refine L.lI.F.dJ (N:=["sheet","many","found","desk","weights","others","numbers"]) (λi5 A outer s H vs Q E nd hr h=>?_);obtain⟨x,many,hs,c,u,rfl,S,B,hK,wZ,hn,hm,m1,m2,k⟩:=h
 refine⟨_,(a6 (aj (i:=2) (aq (zI L) L.ni (a5 (pv 0) a8)))
  (a6 (aj (i:=3) (b8 fQ (pv 2) ao (λ_ _=>rfl)))
  (a6 (aj (i:=4) (fT rfl (ax ["sheet"] [0]) (ax ["sheet"] [0]) (by decide) (aP (b8 bf (aE (pv 0) rfl) (pv 3) (λ_ _=>rfl))) (λ_ _ _ _ _ _=>bo) (λ_ _ _ _ _ _=>(b8 (i6 (K:=K) rfl) (nW (K:=K) rfl (pv 2) rfl) (pv 1) (λ_ _=>rfl)))))
  (a6 (dS (i:=5) rfl (ax ["found"] [2]) nd rfl rfl (d1 rfl T.range (a5 (aC b4 (by rfl) T.len waJ (a5 (pv 4) a8)) a8)) (λ_ _ _ _ _ _=>gZ (aG GU (pv 0) (b8 (Ln (K:=K) rfl) (pv 1) ao (λ_ _=>rfl)) (aU _))) (λ_ _ _ _ _ _=>(pv 0)))
  (a6 (aj (i:=6) (aq (Ga L) L.vZ (a5 (pv 4) (a5 (aK Hj (bX (a5 (b8 fQ (pv 2) ao (λ_ _=>rfl)) a8)) (cu jn (pv 5) gY (bN (aK mq (pv 1) ao)))) (a5 (pv 1) a8)))))
  (af (aA (eC (a5 (pv 3) (a5 (pv 6) (a5 (aK kq (aC (mF rfl) (by rfl) T.sum Fo (a5 (cU rfl (ax ["weights"] [4]) (aP (pv 6)) (λ_ _ _ _ _ _=>bo) (λ_ _ _ _ _ _=>(b8 (i6 (K:=K) rfl) (pv 1) (pv 0) (λ_ _=>rfl)))) a8)) (pv 1)) a8))))))))))),?_⟩
 try dsimp only[dn,dm,b5,b6]
 obtain⟨dx,ah,bw,cl,hx,rh,JW,rl⟩:=id S;obtain⟨Wz,eb,hb⟩:=j8 JW;cases eb;obtain⟨QE,xs,ec,hc,y4⟩:=id rl;cases ec;have O:=B.w;have Dg:=B.l;have xl:xs.length=u.length:=by rw[y4.len,wa0]
 have ZA:c≠[]:=λz=>wZ (wbz (by rw[<-O,z];rfl));refine⟨_,rfl,x,hs,c,u,rfl,S,by omega,λl hl q hq=>by rw[O];exact B.e l hl q hq,ZA,λh hh ht=>?_,λt h d i b q H1 R ht D=>?_⟩
 ·obtain⟨d,i,b,q,e1,e2,e3,e4⟩:=Be B hK hh ht m1;exact⟨d,i,b,q,hh,ht,e1,e2,e3,e4⟩
 have hd:d<u.length:=(wa6.mp D.l).1;have hi:i<b.length:=(wa6.mp D.s).1;have OO:b∈u:=wa8 D.l;have Mu:=hm b OO;have Xb:=yA B D;have hT:=ig.of (K:=K) ht;refine⟨_,rfl,t,_,_,_,rfl,rfl,hT,rfl,?_⟩;obtain⟨v,O8,rd⟩:=y4.at (i:=d) (d:=cg b) (by rw[wa4,D.l];rfl);obtain⟨a,rs,rfl,hS,QT⟩:=ez rd;have EA:rs.length=b.length:=by rw[QT.1,wa0,wa0]
 refine⟨_,rfl,x,L.aD,dx,_,_,rfl,R _ _ hx,L.az.cl,L.az.cV,bV ah bw cl,_,rfl,cl,xs,_,_,rfl,rfl,R.seq (.inl hc),bO O8,a,rfl,⟨_,R.seq hS⟩,λlc Ly=>?_⟩;refine oX (prs:=b.map eQ) (λ_=>true) (λq=>match q.2 with |.int e=>.int (c.getD e.toNat 0) |_=>.non) (aQ K a (rs.map V.ref)) (QT.same R) Ly (aw (by omega)) (λH' s'=>(R.trans s').seq hS) (λq H7 Q' _ _ m=>m H7 (a9.refl _)) (λq H7 Q' hq _ s7 m=>?_) (λH7 s7 h7=>?_)
 ·obtain⟨U,ZB,rfl⟩:=wab.mp hq;have C:U.2<c.length:=by rw[O];exact B.e b OO U ZB
  have MA:z4 (c.map V.int) (U.2:Int)=some (.int (c.getD U.2 0)):=bO (by rw[wa4,wa1 C,wa3,wa1 C];rfl)
  have q2:Q' (.int (c.getD U.2 0)) H7:=by
   have:=m H7 (a9.refl _);rwa[show (eQ U).2=.int (U.2:Int) from rfl]at this
  have G:=R.trans s7;exact⟨_,rfl,x,L.aD,dx,_,_,rfl,G _ _ hx,L.az.cl,L.az.dF,cN ah bw cl,_,rfl,bw,_,_,_,rfl,rfl,G.seq hb,MA,q2⟩
 have e7:((b.map eQ).filter λ_=>true).map (λq=>match q.2 with |.int e=>V.int (c.getD e.toNat 0) |_=>.non)=(b.map λq=>c.getD q.2 0).map V.int:=by
  rw[wb8.mpr (λ_ _=>rfl),wah,wah];rfl
 rw[e7]at h7;have G:=R.trans s7;have Xc:=s7.L5 hT;have g:(b.map λq=>c.getD q.2 0).length=b.length:=wa0 _;refine⟨_,rfl,lc,_,rfl,.inl (aL.of h7),_,rfl,by omega,by rw[wa0,g];omega,λlo Ma=>?_⟩;have en:((((b.map λq=>c.getD q.2 0).map V.int).length:Nat):Int).toNat=b.length:=by rw[wa0,g,waF]
 rw[en];refine ee (λv=>!decide (v=.int (i:Int))) (λv=>v) (kA 0 b.length) Ma (aw (by rw[wa0,waK];omega)) (λ_ _=>wbu) (λy I Q' hy X m=>?_) (λy I Q' hy _ X m=>⟨_,rfl,m I (a9.refl _)⟩) (λI X h8=>?_)
 ·obtain⟨n,BX,rfl⟩:=wab.mp hy;exact⟨_,rfl,_,rfl,t,_,_,_,rfl,rfl,X.L5 Xc,rfl,rfl,_,rfl,m I (a9.refl _)⟩
 have e8:(((waD b.length).map λi:Nat=>V.int (0+(i:Nat))).filter λv=>!decide (v=.int (i:Int)))=(nI (restOf b.length i)).map V.int:=by
  have e9:((waD b.length).map λi:Nat=>V.int (0+(i:Nat)))=(nI (waD b.length)).map V.int:=by
   rw[<-vJ];exact wb2 λn _=>by rw[wcv]
  rw[e9,yz (f:=λn=>decide (n≠i)) λn=>?_]
  ·rfl
  ·by_cases z:n=i
   ·subst z;simp
   ·have:¬V.int (n:Int)=V.int (i:Int):=λy=>z (by have:=V.int.inj y;omega);rw[decide_eq_false this,decide_eq_true z];rfl
 rw[wdX,e8]at h8;have QU:=G.trans X;have ZC:=X.L5 Xc;have Xd:=X _ _ h7;refine⟨_,rfl,_,rfl,t,_,_,_,rfl,rfl,ZC,rfl,by show 1<=sizeLine;decide,λl1 O6=>?_⟩;have s9:=a9.upd (H:=I) (o:=.lst [V.int (i:Int)]) O6;have h9:(upd I l1 (.lst [V.int (i:Int)])) l1=some (.lst [V.int (i:Int)]):=a7;generalize upd I l1 (.lst [V.int (i:Int)])=H9 at s9 h9;have ZD:many-1=(((many-1).toNat:Nat):Int):=by omega
 refine⟨_,rfl,_,rfl,_,_,rfl,rfl,(((many-1).toNat:Nat):Int),congrArg V.int ZD,lo,_,rfl,aL.of (s9 _ _ h8),λl2 OV=>?_⟩;rw[Ec,<-wdB,Em];have Y:=a9.upd (H:=H9) (o:=.lst ((nI ((restOf b.length i).take (many-1).toNat)).map V.int)) OV;have Jn:(upd H9 l2 (.lst ((nI ((restOf b.length i).take (many-1).toNat)).map V.int))) l2=some (.lst ((nI ((restOf b.length i).take (many-1).toNat)).map V.int)):=a7;generalize upd H9 l2 (.lst ((nI ((restOf b.length i).take (many-1).toNat)).map V.int))=Z at Y Jn;have OJ:=Bi (k:=(many-1).toNat) hi (by omega);refine⟨l1,l2,_,_,rfl,rfl,Y _ _ h9,Jn,aw ?_,λl3 Hw=>?_⟩
 ·rw[wa0,cH,wai];show 1+_<=_;omega
 rw[show [V.int (i:Int)]++(nI ((restOf b.length i).take (many-1).toNat)).map V.int=(nI (numsOf b.length i (many-1).toNat)).map V.int from rfl];have JZ:=a9.upd (H:=Z) (o:=.lst ((nI (numsOf b.length i (many-1).toNat)).map V.int)) Hw;have QV:(upd Z l3 (.lst ((nI (numsOf b.length i (many-1).toNat)).map V.int))) l3=some (.lst ((nI (numsOf b.length i (many-1).toNat)).map V.int)):=a7;generalize upd Z l3 (.lst ((nI (numsOf b.length i (many-1).toNat)).map V.int))=GC at JZ QV;have j:=(s9.trans Y).trans JZ;refine⟨_,rfl,lc,l3,many,b.map λq=>c.getD q.2 0,numsOf b.length i (many-1).toNat,rfl,aL.of (j _ _ Xd),aL.of QV,m1,m2,by rw[OJ];omega,λn hn=>by rw[g];exact zx hi n hn,λl i' j' Mx ED UQ ZE hj hz p=>?_⟩;have b9:=Lj B m1 D ZE hj hz;have C:∀n∈((numsOf b.length i (many-1).toNat).take j').drop i',n<b.length:=λn hn=>zx hi n (((whf _ _).trans (wbk _ _)).subset hn)
 have Mr:(((numsOf b.length i (many-1).toNat).take j').drop i').length<=1000:=by
  rw[wbp,wai];omega
 generalize ((numsOf b.length i (many-1).toNat).take j').drop i'=ns at *;have J:=QU.trans (j.trans ED);have QW:=ED _ _ (j _ _ Xd);refine⟨_,rfl,_,rfl,_,rfl,l,rfl,⟨_,aL.of p⟩,λls UR=>?_⟩;refine ee (λ_=>true) (λv=>match v with |.int n=>.int ((b.map λq=>c.getD q.2 0).getD n.toNat 0) |_=>.non) (aQ K l _) UR (aw (by rw[wa0,cH];omega)) (λH' s'=>aL.of (s' _ _ p)) (λy I Q' hy X m=>m I (a9.refl _)) (λy OW Q' hy _ r m=>?_) (λOW r Sn=>?_)
 ·obtain⟨n,BX,rfl⟩:=rP hy;have M:n<(b.map λq=>c.getD q.2 0).length:=by rw[g];exact C n BX
  exact⟨_,rfl,_,rfl,lc,_,_,_,rfl,rfl,aL.of (r _ _ QW),bO (v:=.int ((b.map λq=>c.getD q.2 0).getD n 0)) (by rw[wa4,wa1 M,wa3,wa1 M];rfl),m OW (a9.refl _)⟩
 have ZF:(((nI ns).map V.int).filter λ_=>true).map (λv=>match v with |.int n=>V.int ((b.map λq=>c.getD q.2 0).getD n.toNat 0) |_=>.non)=(ns.map λn=>(b.map λq=>c.getD q.2 0).getD n 0).map V.int:=by
  rw[wb8.mpr (λ_ _=>rfl)];unfold nI;rw[wah,wah,wah];rfl
 rw[ZF]at Sn;refine⟨ls,_,rfl,aL.of Sn,_,rfl,_,_,rfl,rfl,⟨by omega,by omega⟩,by show 3<=sizeLine;decide,λt' UT=>?_⟩;exact k t' l d ns _ _ (J.trans (r.trans (a9.upd UT))) (none_of (QU.trans j) UQ) (none_of (J.trans r) UT) a7 (a9.upd UT _ _ (r _ _ p)) b9 (by omega) Mr
theorem jG(L:Lk K mg):aT P w K mg base (BZ P w) 7 L.fI L.fJ ["band","many","wide"] (IZ L.aB L.ph):=by
 have T:=L.T;refine L.bL.F.Ft (N:=["band","many","wide","most","weights","in_all"]) (λX A outer s H vs Q E nd hr h=>?_);obtain⟨x,many,n,g,M,ss,ls,rfl,B,r,t,u,y,k,O⟩:=h
 refine⟨_,(a6 (b7 whg rfl (rm rfl T.range (a5 ao (a5 (aK dP (ui (v:=.int 8) (by rfl) L.nH.choose_spec ⟨_,rfl⟩) ao) a8))) (ay (i:=3)) (a6 (aj (i:=4) (aq (Bx L) L.pf (a5 (pv 0) (a5 (pv 1) (a5 (pv 2) (a5 (pv 3) a8))))))
  (a6 (aj (i:=5) (aC (FI rfl) (by rfl) T.sum Fo (a5 (E7 (K:=K) rfl wd1 wdR wfB y8 (pv 4)) a8)))
  (a6 (bD (aG o6 (pv 5) (ui (v:=.int 40) (by rfl) L.gC.choose_spec ⟨_,rfl⟩) (aU _)) (af (gJ d9 rfl L.we L.zE rfl L.zD (a5 fb a8))) aN)
  (af (bD (aG o6 (pv 5) ao (aU _)) (af (aA (pv 4))) aN))))))
  (af (gJ d9 rfl L.we L.zE rfl L.zD (a5 fb a8)))),?_⟩
 try dsimp only[dn,dm,b5,b6]
 refine⟨_,_,rfl,rfl,1,9,rfl,by decide,?_⟩;refine dC (lo:=1) (n:=8) (λi σ q=>∃z v4 C:Option V,σ=[some (.ref x),some (.int many),some (.int (n:Int)),z,v4,C]/\a9 H q/\∀(m:Int) (h:Str->Int),1<=m->m<1+(i:Int)->o9 g M ss ls many n m h->(ls.map h).sum=0) ⟨none,none,none,rfl,a9.refl _,λm h R Y=>by omega⟩ ?_ ?_
 ·rintro i σ q hi ⟨z,v4,C,rfl,j,l⟩;refine⟨_,rfl,_,rfl,_,rfl,_,rfl,x,many,n,1+(i:Int),g,M,ss,ls,rfl,B.same j,r,t,u,y,by omega,λd f S Z fd D G=>?_⟩;refine⟨_,rfl,.inr (.inr (.inl ⟨rfl,.inl ⟨_,D⟩⟩)),d,_,rfl,rfl,D,λv hv=>?_⟩;have I:=a9.upd (o:=mz v d) hv;have J:=I _ _ D;have p:(upd S v (mz v d)) v=some (mz v d):=a7;generalize upd S v (mz v d)=U at I J p;have a:=j.trans (Z.trans I);refine⟨v,d,_,ls.map f,rfl,p,J,Dr f ls,?_⟩
  by_cases b:(40:Int)<(ls.map f).sum
  ·refine⟨_,rfl,_,_,rfl,rfl,true,congrArg V.bl (decide_eq_true b),fO ⟨rfl,?_⟩⟩;exact O ⟨1+(i:Int),by omega,by omega,l,.inr ⟨f,G,b⟩⟩ U a
  refine⟨_,rfl,_,_,rfl,rfl,false,congrArg V.bl (decide_eq_false b),cb ?_⟩
  by_cases h0:(0:Int)<(ls.map f).sum
  ·refine⟨_,rfl,_,_,rfl,rfl,true,congrArg V.bl (decide_eq_true h0),fO ⟨_,rfl,?_⟩⟩;exact k d f U a (none_of j fd) J ⟨⟨1+(i:Int),by omega,by omega,G,l⟩,h0,by omega⟩
  ·refine⟨_,rfl,_,_,rfl,rfl,false,congrArg V.bl (decide_eq_false h0),cb ?_⟩;refine⟨_,_,_,rfl,a,λm h R Y c=>?_⟩
   by_cases e:m=1+(i:Int)
   ·subst e;have:=FY G c;have:=vk c.nn;omega
   ·exact l m h R (by omega) c
 ·rintro σ q ⟨z,v4,C,rfl,j,l⟩;exact⟨rfl,O ⟨9,by decide,by decide,l,.inl rfl⟩ q j⟩
theorem qR(L:Lk K mg):aT P w K mg base df 6 L.k6 L.k8 ["band","many","wide","weights"] (J0 L.aB):=by
 have T:=L.T;refine L.gP.F.dJ (N:=["band","many","wide","weights","sheet","lots","homes","closed","place"]) (λi5 A outer s H vs Q E nd hr h=>?_);obtain⟨x,d,many,n,f,g,ws,ss,ls,rfl,B,Mt,QX,EF,EC,EB,Jm,hd,D,Z,Xe,k⟩:=h;have hu:=fk hr
 refine⟨_,(a6 (aj (i:=4) (aq (nM L) L.hH (a5 (pv 0) (a5 (pv 1) (a5 (pv 2) (a5 (pv 3) a8))))))
  (a6 (dS (i:=5) rfl (ax ["sheet"] [4]) nd rfl rfl (d1 rfl T.range (a5 (aC b4 (by rfl) T.len waJ (a5 (aE (pv 4) rfl) a8)) a8)) (λ_ _ _ _ _ _=>bo) (λ_ _ _ _ _ _=>(aq (u5 L) L.jg (a5 (pv 1) (a5 (pv 0) a8)))))
  (a6 (dS (i:=6) rfl (ax ["sheet"] [4]) nd rfl rfl (aP (Lg rfl (by rfl) T.min (by rfl) T.len (a5 (pv 5) a8))) (λ_ _ _ _ _ _=>bo) (λ_ _ _ _ _ _=>(b8 (i6 (K:=K) rfl) (nW (K:=K) rfl (pv 1) rfl) (pv 0) (λ_ _=>rfl))))
  (a6 (aj (i:=7) dD)
  (a6 (b7 wao rfl (AZ (pv 3)) (ay (i:=8)) (af (eD hu (pv 7) (pv 8) (Af (aG rq (pv 8) (pv 6) rfl) (dk hu (pv 3) (pv 8) (λ_ _=>rfl)) ao) rfl)))
  (af (aA (pv 7)))))))),?_⟩
 try dsimp only[dn,dm,b5,b6]
 have nd:ls.Nodup:=B.nd.sublist B.lv.sub;have Dg:ls.length<=900:=wal B.lv.sub.length_le EB;refine⟨_,rfl,_,rfl,_,rfl,_,rfl,x,d,many,n,cI f ls,f,g,ws,ss,ls,rfl,B,EF,EC,EB,Jm,.inl hd,kR f ls,λy H1 s1 S1=>?_⟩;have S:=S1.same (cj _ _);have hB:=jr.first (g:=g) (ws:=ws) (ss:=ss) (n:=n) (many:=many) D Z;have X7:(au ls f).length<=ls.length:=wb7 _ _;have I:=hB.l;have hmn:(1:Int)<=many:=by have:=Jm.a;omega
 generalize Xf:au ls f=m at S hB X7 I;generalize UU:bF g ws ss ls n m=G at S hB I
 have UW:m≠[]:=λz=>by
  have h1:=yu D;rw[Xf,z]at h1;have:(0:Int)=(ls.map f).sum:=h1;omega
 have Mz:0<m.length:=wbR.mpr UW
 have UX:∀i,i<G.length->G.getD i []≠[]:=λi hi z=>by
  have U:G[i]?=some (G.getD i []):=by rw[wa3,wa1 hi];rfl
  have h1:=hB.b i _ U;rw[z]at h1;have h2:many*(m.map f).getD i 0<=0:=h1;have hw:=hB.w;have h3:=hB.p _ (getD_mem (ws:=m.map f) (i:=i) (by omega));have:=whp (show 0<many by omega) (show 0<(m.map f).getD i 0 by omega);omega
 obtain⟨dx,ah,bw,cl,hx,rh,JW,rl⟩:=id S;have hh:=uz rh;refine⟨_,rfl,y,L.aD,dx,_,_,rfl,hx,L.az.cl,L.az.fV,fF ah bw cl,ah,_,rfl,.inl (.inl hh),_,rfl,by omega,by rw[wa0];omega,λll UY=>?_⟩;have en:(((m.map V.str).length:Nat):Int).toNat=m.length:=by rw[wa0,waF]
 rw[en];refine vq (λi v H'=>∃q r,v=.ref q/\q≠ll/\H' q=some (.lst ((nI r).map V.int))/\Reach G r) (λi v Ha Hb ys h hl kp=>?_) (kA 0 m.length) UY (aw (by rw[wa0,waK];omega)) (λ_ _=>wbu) (λi v H3 ys Q' hv s3 Hw qq=>?_) (λys H3 s3 h3 Mv hR=>?_)
 ·obtain⟨q,r,rfl,U,ZG,X⟩:=h;exact⟨q,r,rfl,U,kp _ _ ZG U,X⟩
 ·have hi:i<m.length:=by have:=(wa6.mp hv).1;rwa[wa0,waK]at this
  rw[wa4,wgN hi]at hv
  have hv:v=.int (i:Int):=by
   rw[<-wae hv];show V.int (0+(i:Int))=_;rw[wcv]
  subst hv;refine⟨_,rfl,_,rfl,y,i,m,_,G,rfl,S.same s3,by omega,λl hl q U=>by rw[I];exact hB.e l hl q U,UX i (by omega),by omega,λl r H' s' fl QM t=>?_⟩;exact qq _ H' s' ⟨l,r,rfl,(λz=>by rw[z,Hw]at fl;cases fl),QM,t⟩
 obtain⟨ps,rfl,Sq⟩:=Lp (ys:=ys) (R:=λq=>∃r,H3 q=some (.lst ((nI r).map V.int))/\Reach G r) λv hv=>by
  obtain⟨i,hi,e⟩:=wbQ hv;obtain⟨q,r,e1,_,e2,e3⟩:=hR i v (by rw[wa1 hi,e]);exact⟨q,e1,r,e2,e3⟩
 have Kx:ps≠[]:=λz=>by
  rw[wa0,wa0,waK,z]at Mv;have:0=m.length:=Mv;omega
 refine⟨_,rfl,ll,ps,rfl,aL.of h3,Kx,λq U=>by obtain⟨r,e,_⟩:=Sq q U;exact⟨_,aL.of e⟩,λq U=>?_⟩;obtain⟨r,X,t⟩:=Sq q U;have EA:=mK t.nd t.lt;refine⟨q,rfl,⟨_,aL.of X⟩,λlh OS=>?_⟩;refine ee (λ_=>true) (λv=>match v with |.int d=>.str (m.getD d.toNat "") |_=>.non) (aQ K q _) OS (aw (by rw[wa0,cH];omega)) (λH' s'=>aL.of (s' _ _ X)) (λv H8 Q' hy s8 qq=>qq H8 (a9.refl _)) (λv H4 Q' hy _ s4 qq=>?_) (λH4 s4 h4=>?_)
 ·obtain⟨n',BX,rfl⟩:=rP hy;have QY:n'<m.length:=by rw[<-I];exact t.lt n' BX
  have Y:=s3.trans s4;exact⟨_,rfl,y,L.aD,dx,_,_,rfl,Y _ _ hx,L.az.cl,L.az.fV,fF ah bw cl,_,rfl,ah,_,_,_,rfl,rfl,Y.seq (.inl hh),bO (v:=.str (m.getD n' "")) (by rw[wa4,wa1 QY,wa3,wa1 QY];rfl),qq H4 (a9.refl _)⟩
 have e4:(((nI r).map V.int).filter λ_=>true).map (λv=>match v with |.int d=>V.str (m.getD d.toNat "") |_=>.non)=(r.map λd=>m.getD d "").map V.str:=by
  rw[wb8.mpr (λ_ _=>rfl)];unfold nI;rw[wah,wah,wah];rfl
 rw[e4]at h4;have Y:=s3.trans s4;refine λdl C=>?_;have M:=s1.trans Y;have OH:d≠dl:=ag (M _ _ hd) C;have JX:(upd H4 dl (.dK [])) d=some (.dK (bI (cI f ls))):=a9.upd C _ _ (M _ _ hd);refine⟨_,rfl,d,_,rfl,.inl JX,λo H5 h5 Ob=>?_⟩;have X9:H5 dl=some (.dK []):=by rw[Ob dl (wbc OH),a7]
 have ZH:lh≠d:=λz=>by rw[z]at h4;rw[M _ _ hd]at h4;cases h4
 have ZI:H5 lh=some (.lst ((r.map λd=>m.getD d "").map V.str)):=by rw[Ob lh ZH];exact a9.upd C _ _ h4
 have k5:∀c O,H c=some O->c≠d->H5 c=some O:=λc O e hc=>by rw[Ob c hc];exact a9.upd C _ _ (M _ _ e)
 have UZ:H dl=none:=none_of M C;have V0:dl≠lh:=λz=>by rw[z]at C;rw[h4]at C;cases C
 have J:=jR d o (bI (cI f ls));rw[show ((bI (cI f ls)).map λkv=>kV kv.1)=ls.map V.str by unfold bI cI;rw[wah,wah];rfl]at J;refine my J (λj σ H6=>∃(v8:Option V),σ=[some (.ref x),some (.int many),some (.int (n:Int)),some (.ref d),some (.ref y),some (.ref ll),some (.ref lh),some (.ref dl),v8]/\H6 dl=some (.dK (bI (cI (di (r.map λd=>m.getD d "") f) (ls.take j))))/\∀c O,H5 c=some O->c≠dl->H6 c=some O) ⟨none,rfl,X9,λc O e _=>e⟩ (λj σ H6 _ ⟨_,_,_,kk⟩=>kk _ _ h5 OH) ?_ ?_
 ·rintro j v σ H6 hy ⟨v8,rfl,h6,kk⟩;obtain⟨p,OI,rfl,hj,Dv,rg⟩:=i7 hy;have Je:p∉(cI (di (r.map λd=>m.getD d "") f) (ls.take j)).map (·.1):=by rw[rH];exact j6 nd OI
  have put:∀u,u=di (r.map λd=>m.getD d "") f p->putK (bI (cI (di (r.map λd=>m.getD d "") f) (ls.take j))) (waj p:Key) (.int u)=bI (cI (di (r.map λd=>m.getD d "") f) (ls.take (j+1))):=λu ZJ=>by
   rw[rG Je,rg,ZJ];unfold cI;rw[wan];rfl
  have hlen:(bI (cI (di (r.map λd=>m.getD d "") f) (ls.take j))).length<sizeLine:=by rw[jS];unfold cI;rw[wa0,wai];exact bq (by omega)
  have g6:=eM.f (k:=(waj p:Key)) (kk _ _ h5 OH);rw[eU,kR f ls p Dv]at g6;refine⟨_,rfl,_,rfl,lh,_,rfl,.inl (aL.of (kk _ _ ZI (wbc V0))),rfl,fD _,decide (p∈r.map λd=>m.getD d ""),congrArg V.bl (jN p _),?_⟩
  by_cases hp:p∈r.map λd=>m.getD d ""
  ·rw[decide_eq_true hp];refine fO ⟨_,rfl,_,rfl,d,_,rfl,g6,_,rfl,_,rfl,dl,_,rfl,ky.k (k:=waj p) h6 hlen,?_⟩;exact⟨_,rfl,by rw[a7,put (f p) (by unfold di;rw[if_pos hp])],λc O e hc=>by rw[ae hc];exact kk c O e hc⟩
  ·rw[decide_eq_false hp];refine cb ⟨_,rfl,_,rfl,dl,_,rfl,ky.k (k:=waj p) h6 hlen,?_⟩;exact⟨_,rfl,by rw[a7,put 0 (by unfold di;rw[if_neg hp])],λc O e hc=>by rw[ae hc];exact kk c O e hc⟩
 rintro σ H6 ⟨v8,rfl,h6,kk⟩;rw[wa0,waI]at h6;subst Xf;subst UU;exact⟨_,rfl,k dl _ H6 (λc o e hc=>kk _ _ (k5 c o e hc) (ag e UZ)) UZ h6 (vI D) (FT D Z t) (FR D (λd hd=>by rw[<-I];exact t.lt d hd) t.ne) (Bg D) (FQ D)⟩
theorem pk(L:Lk K mg):aT P w K mg base df 1 L.eK L.gj ["self","length","rows"] (UK L.cJ "length" "rows" My My):=by
 refine L.qN.dJ (N:=["self","length","rows"]) (λm A outer s H n Q E nd o h=>?_);obtain⟨x,u,v,rfl,⟨i,rfl,a⟩,⟨j,rfl,b⟩,g,k⟩:=h
 refine⟨_,(a6 (bA (HN rfl L.tS L.XB (a5 (pv 0) (a5 (KC (CH (HQ (pv 1) (CH (HQ (pv 2) (CH Np)))))) a8))))
  (a6 (KA (CB:=L.dN) (pv 0) (pv 1) rfl)
  (af (Ji (CB:=L.dN) (pv 0) (pv 2) rfl)))),?_⟩
 try dsimp only[dn,dm,b5,b6]
 have l1:=weE a;have l:=weE b;refine⟨_,rfl,aw ?_,_,rfl,.inl ⟨i,rfl,a,aw ?_,aw ?_,_,rfl,.inl ⟨j,rfl,b,aw ?_,aw ?_,aw ?_,x,L.cJ,_,_,rfl,g,L.ic,?_⟩⟩⟩
 ·exact wal (show _<=1000 by decide+kernel) (by decide)
 ·exact wal (gm (show _<=1000 by decide+kernel) l1) (by decide)
 ·exact wal (gm (gm (show _<=1000 by decide+kernel) l1) (show _<=1000 by decide+kernel)) (by decide)
 ·exact wal (gm (gm (gm (show _<=1000 by decide+kernel) l1) (show _<=1000 by decide+kernel)) l) (by decide)
 ·exact wal (gm (gm (gm (gm (show _<=1000 by decide+kernel) l1) (show _<=1000 by decide+kernel)) l) (show _<=1000 by decide+kernel)) (by decide)
 ·exact wal (gm (gm (gm (gm (show _<=1000 by decide+kernel) l1) (show _<=1000 by decide+kernel)) l) (show _<=1000 by decide+kernel)) (by decide)
 refine⟨_,rfl,_,rfl,x,L.cJ,_,rfl,g,L.ic,L.m9,λd hd=>?_⟩;have f:d≠x:=λz=>by rw[z,g]at hd;cases hd
 refine⟨_,rfl,_,rfl,x,L.cJ,_,d,[("length",.int i)],rfl,a7,by rw[ae f,a7],by show 1<=50;decide,L.ic,L.oG,by rw[wdv,show (("rows":Str) == "length")=false by decide+kernel];rfl,?_⟩
 have e:upd (upd (upd H d (.xd [(("length":Str),V.int i)])) x (XD x L.cJ d)) d (.xd ([(("length":Str),V.int i)]++[(("rows":Str),V.int j)]))=upd (upd H d (.xd [(("length":Str),V.int i),(("rows":Str),V.int j)])) x (XD x L.cJ d):=by
  funext c
  by_cases a:c=d
  ·subst a;rw[a7,ae f,a7];rfl
  ·rw[ae a]
   by_cases b:c=x
   ·subst b;rw[a7,a7]
   ·rw[ae b,ae b,ae a,ae a]
 rw[e];exact k d hd
theorem o4(L:Lk K mg):aT P w K mg base (BZ P w) 8 L.je L.jf ["band","many","wide"] (Lv L.aB L.cJ):=by
 refine L.cS.F.Ft (N:=["band","many","wide","length"]) (λC A outer s H S Q E nd D h=>?_);obtain⟨x,many,n,g,bw,ss,ls,rfl,B,l,m,f,k,G⟩:=h
 refine⟨_,(a6 (aj (i:=3) (aq (G6 L) L.vY (a5 (pv 0) (a5 (pv 1) (a5 (pv 2) (a5 (ui (v:=.int 24) (by rfl) L.nG.choose_spec ⟨_,rfl⟩) a8))))))
  (af (bD (aG yY (pv 3) gD (aU _)) (af (HP d9 rfl L.ic L.yL L.yM (pk L) (D.mono (by decide)) L.qO rfl L.w9 (a5 (pv 3) (a5 (aq (Jf L) L.zC (a5 (pv 0) (a5 (aK gG (pv 3) (pv 2)) a8))) a8)))) aN))),?_⟩
 try dsimp only[dn,dm,b5,b6]
 refine⟨_,rfl,_,rfl,_,rfl,x,many,(n:Int),24,g,bw,ss,ls,rfl,B,l,m,f,by decide,by decide,λv I o p=>?_⟩;rw[waF]at p;have q:=p
 cases p with
 |none a=>exact⟨_,rfl,rfl,false,rfl,cb (k (λj u J=>a j u J) I o)⟩
 |some j a b c d=>
  refine⟨_,rfl,rfl,true,rfl,fO ?_⟩
  have hk:(j:Int)*(n:Int)<=100000:=by
   have u:(j:Int)*(n:Int)<=24*6:=Int.mul_le_mul b f.d (by omega) (by omega);omega
  have r:0<=(j:Int)*(n:Int):=Int.mul_nonneg (by omega) (by omega);have M:((j:Int)*(n:Int)).toNat=j*n:=by rw[<-wbo,waF]
  refine⟨_,rfl,_,rfl,_,rfl,_,rfl,_,_,rfl,rfl,?_,x,(j:Int)*(n:Int),g,bw,ss,ls,rfl,B.same o,l,m,r,hk,λT y=>?_⟩
  ·exact .inl ⟨by omega,by omega⟩
  rw[M];refine⟨by show 2<=sizeLine;decide,λe O=>⟨e,_,_,rfl,⟨_,rfl,?_⟩,⟨_,rfl,?_⟩,a7,λt hd=>⟨rfl,.inr ⟨t,a7,?_⟩⟩⟩⟩
  ·have:=Nat.log2_le_self ((j:Nat):Int).natAbs;omega
  ·exact Dx f b c
  obtain⟨U,z,R⟩:=CM (o2:=.xd [("length",.int (j:Nat)),("rows",.int (iM g bw ss (j*n) ""))]) (o3:=XD e L.cJ t) O hd;rw[R];exact G j t _ q ((o.trans y).trans (a9.upd z)) (none_of (o.trans y) z) a7
theorem mh(L:Lk K mg):aT P w K mg base df 4 L.n9 L.nc ["sheet"] (J5 K L.aD):=by
 refine L.fZ.F.dJ (N:=["sheet"]) (λB A outer s H vs Q E nd C h=>?_);obtain⟨x,D,G,j,rfl,S,n1,I,J,M,k⟩:=h;refine⟨_,(af (aA (nU L.qM (gk L) (C.mono (by decide)) rfl L.uB L.dG.b .nil bj (a5 (aE (pv 0) rfl) (a5 (aE (pv 0) rfl) (a5 (aE (pv 0) rfl) a8)))))),?_⟩
 try dsimp only[dn,dm,b5,b6]
 obtain⟨l,g,bw,cl,m,O,n,R⟩:=id S;refine⟨_,rfl,x,L.aD,l,_,_,rfl,m,L.az.cl,L.az.fV,fF g bw cl,_,rfl,x,L.aD,l,_,_,rfl,m,L.az.cl,L.az.dF,cN g bw cl,_,rfl,x,L.aD,l,_,_,rfl,m,L.az.cl,L.az.cV,bV g bw cl,?_⟩;intro y i p q T;have sm:a9 H (upd (upd H i (.own y)) y (.ins L.aD i [])):=fE p q;refine⟨y,i,.ref g,.ref bw,.ref cl,D,G,j,rfl,a7,bK.same sm _ _ O,bK.same sm _ _ n,bK.same sm _ _ R,n1,I,J,M,λU X Y a d Z q2 q3 f=>⟨rfl,?_⟩⟩;have t:a9 H a:=λc o e=>f _ _ (sm _ _ e) (ag e p);have u:=λ(z:kU) (v:V) (r:bK K (aM _ a) z v)=>bK.same (eW sm) z v r;exact k y a t ⟨i,U,X,Y,cf p d,u _ _ Z,u _ _ q2,u _ _ q3⟩
theorem se(L:Lk K mg):aT P w K mg base df 5 L.iy L.lZ ["self","weights","splits","kept","last"] (Ls K L.aR L.aD):=by
 have T:=L.T;refine L.iB.F.dJ (N:=["self","weights","splits","kept","last"]) (λi5 A outer s H vs Q E nd hr h=>?_);obtain⟨x,f,d,z,u,v,m,p,Y,hs,ws,Z,rfl,D,hd,ZK,Uk,S,n1,n2,n3,n4,n5,k⟩:=h
 refine⟨_,(a6 (dg (pv 0) (bp D4 (by rfl) T.dict Ql (a5 (pv 1) a8)) rfl)
  (a6 (dg (pv 0) (IK rfl (ax [] []) (ax [] []) (ax [] []) ⟨by decide,by decide,by decide⟩ (aP (pv 2)) (λ_ _ _ _ _ _=>bo) (λ_ _ _ _ _ _=>(eC (a5 (pv 0) (a5 (bp (xj (K:=K) rfl) (by rfl) T.list gz (a5 (pv 1) a8)) (a5 (pv 2) a8)))))) rfl)
  (a6 (dg (pv 0) (bp cK (by rfl) T.list gz (a5 (pv 3) a8)) rfl)
  (af (dg (pv 0) (aq (mh L) L.fZ (a5 (pv 4) a8)) rfl))))),?_⟩
 try dsimp only[dn,dm,b5,b6]
 obtain⟨c,rfl,hc⟩:=j8 Uk;obtain⟨b,xs,rfl,hb,Oa⟩:=ZK;have xl:xs.length=p.length:=by rw[Oa.len,wa0]
 have G:∀{d:Addr} {ys:List V} {H':Hp},aL K H d ys->(∀b o,H b=some o->b≠x->H' b=some o)->aL K H' d ys:=λhS kp=>(fq kp).seq (zm D hS);refine⟨_,rfl,d,_,rfl,hd,λa I=>?_⟩;have B:x≠a:=ag D I;refine⟨_,rfl,x,L.aR,f,[],rfl,by rw[ae B];exact D,L.dq.cl,L.dq.dF,(show 0<1000 by decide),?_⟩;rw[QA];have k1:∀d o,H d=some o->d≠x->(upd (upd H a (.dK (bI m))) x (.ins L.aR f (t7 a))) d=some o:=λd o e hd=>by rw[ae hd];exact a9.upd I _ _ e
 have x1:(upd (upd H a (.dK (bI m))) x (.ins L.aR f (t7 a))) x=some (.ins L.aR f (t7 a)):=a7;have a1:(upd (upd H a (.dK (bI m))) x (.ins L.aR f (t7 a))) a=some (.dK (bI m)):=by rw[ae B.symm,a7]
 generalize upd (upd H a (.dK (bI m))) x (.ins L.aR f (t7 a))=H1 at k1 x1 a1 ⊢;have V1:=bx.same (fq k1) _ _ (bx.off D _ _ Oa);have Xg:aL K H1 b xs:=G (.inl hb) k1;refine⟨_,rfl,b,rfl,⟨_,Xg⟩,λg IB=>?_⟩;refine J1 (K:=K) (p.map zA) (aQ K b xs) IB (aw (by omega)) (by rw[wa0,xl]) (λH' s'=>s'.seq Xg) (λi v dd n hv l U=>?_) (λn U r3=>?_)
 ·obtain⟨d',e',r⟩:=V1.get i v hv;rw[l]at e';cases e';rw[wa4]at l
  cases e:p[i]? with
  |none=>rw[e]at l;cases l
  |some sp=>
   rw[e]at l;cases l;obtain⟨r0,ys,rfl,hT,h2⟩:=r;obtain⟨v1,vs1,rfl,⟨rfl,_⟩,h3⟩:=h2;obtain⟨v2,ZL,rfl,r2,h4⟩:=h3;obtain⟨v3,ZM,rfl,⟨rfl,_⟩,h5⟩:=h4;cases(show ZM=[] from h5);obtain⟨l2,rfl,OV⟩:=j8 r2;refine⟨r0,_,_,_,rfl,ig.of (U _ _ hT),λQ' qq=>?_⟩;refine⟨_,rfl,_,rfl,l2,_,rfl,.inl (U.seq OV),λl3 J=>?_⟩;refine⟨_,rfl,by show 3<=sizeLine;decide,λt ht=>?_⟩;have s4:a9 (upd n l3 (.lst ((nI sp.2.1).map V.int))) (upd (upd n l3 (.lst ((nI sp.2.1).map V.int))) t (.tup [.int (sp.1:Int),.ref l3,.int sp.2.2])):=a9.upd ht;refine qq _ _ ((a9.upd J).trans s4) ?_;exact Ep (d:=sp.1) (ns:=sp.2.1) (w:=sp.2.2) (cf (none_of (a9.upd J) ht) a7) (cf J (s4 _ _ a7))
 have nbx:x≠g:=ag x1 IB;have x3:=U _ _ x1;have a3:=U _ _ a1;refine⟨_,rfl,x,L.aR,f,t7 a,rfl,x3,L.dq.cl,L.dq.Bk,(show 1<1000 by decide),?_⟩;rw[Mq];have k3:∀d o,H d=some o->d≠x->(upd n x (.ins L.aR f (pX a g))) d=some o:=λd o e hd=>by rw[ae hd];exact U _ _ (k1 _ _ e hd)
 have x4:(upd n x (.ins L.aR f (pX a g))) x=some (.ins L.aR f (pX a g)):=a7;have a4:(upd n x (.ins L.aR f (pX a g))) a=some (.dK (bI m)):=by rw[ae B.symm];exact a3
 have old:a9 (aM H1 n) (aM H n):=λd o e=>by
  unfold aM at e ⊢
  cases q:H d with
  |none=>
   cases M:H1 d with
   |none=>rw[M]at e;exact e
   |some z=>rw[M]at e;cases e
  |some z=>
   by_cases hd:d=x
   ·rw[hd,x1]at e;cases e
   ·rw[k1 _ _ q hd]at e;cases e
 have r4:bK K (aM H (upd n x (.ins L.aR f (pX a g)))) (.lst (p.map zA)) (.ref g):=bK.same (old.trans (bT D λd o e hd=>by rw[ae hd];exact e)) _ _ r3;generalize upd n x (.ins L.aR f (pX a g))=X at k3 x4 a4 r4 ⊢;refine⟨_,rfl,c,_,rfl,.inl (G hc k3),λj O=>?_⟩;have C:x≠j:=ag x4 O
 have ZN:H j=none:=by
  cases q:H j with
  |none=>rfl
  |some o=>have:=k3 _ _ q C.symm;rw[O]at this;cases this
 refine⟨_,rfl,x,L.aR,f,pX a g,rfl,by rw[ae C];exact x4,L.dq.cl,L.dq.J8,(show 2<1000 by decide),?_⟩;rw[J4];have s5:∀d o,X d=some o->d≠x->(upd (upd X j (.lst ((nI Y).map V.int))) x (.ins L.aR f (t8 a g j))) d=some o:=λd o e hd=>by rw[ae hd];exact a9.upd O _ _ e
 have x5:(upd (upd X j (.lst ((nI Y).map V.int))) x (.ins L.aR f (t8 a g j))) x=some (.ins L.aR f (t8 a g j)):=a7;have c5:(upd (upd X j (.lst ((nI Y).map V.int))) x (.ins L.aR f (t8 a g j))) j=some (.lst ((nI Y).map V.int)):=by rw[ae C.symm,a7]
 generalize upd (upd X j (.lst ((nI Y).map V.int))) x (.ins L.aR f (t8 a g j))=H5 at s5 x5 c5 ⊢;have k5:∀d o,H d=some o->d≠x->H5 d=some o:=λd o e hd=>s5 _ _ (k3 _ _ e hd) hd
 have S5:cn K L.aD H5 z hs ws Z:=by
  obtain⟨dz,ah,bw,cl,hz,rh,JW,rl⟩:=id S;have ZO:z≠x:=λq=>by rw[q,D]at hz;have:=wae hz;injection this with _ _ M;cases M
  have go:=λ(dd:kU) (v:V) (r:bK K H dd v)=>bK.same (fq k5) dd v (bK.off D dd v r);exact⟨dz,ah,bw,cl,k5 _ _ hz ZO,go _ _ rh,go _ _ JW,go _ _ rl⟩
 refine⟨_,rfl,z,hs,ws,Z,rfl,S5,n1,n2,n3,n4,λy R s6 S6=>?_⟩;refine⟨_,rfl,x,L.aR,f,t8 a g j,rfl,s6 _ _ x5,L.dq.cl,L.dq.J9,(show 3<1000 by decide),?_⟩;rw[En];have up:∀{Ha:Hp},(∀d o,Ha d=some o->d≠x->(upd R x (.ins L.aR f (vK a g j y))) d=some o)->a9 (aM H Ha) (aM H (upd R x (.ins L.aR f (vK a g j y)))):=λh=>bT D h;have u6:∀d o,R d=some o->d≠x->(upd R x (.ins L.aR f (vK a g j y))) d=some o:=λd o e hd=>by rw[ae hd];exact e
 have u4:∀d o,X d=some o->d≠x->(upd R x (.ins L.aR f (vK a g j y))) d=some o:=λd o e hd=>u6 _ _ (s6 _ _ (s5 _ _ e hd)) hd
 have V2:a9 (aM H5 R) (aM H R):=λd o e=>by
  unfold aM at e ⊢
  cases q:H d with
  |none=>
   cases M:H5 d with
   |none=>rw[M]at e;exact e
   |some z=>rw[M]at e;cases e
  |some z=>
   by_cases hd:d=x
   ·rw[hd,x5]at e;cases e
   ·rw[k5 _ _ q hd]at e;cases e
 exact k a g j y _ a7 I (u4 _ _ a4 B.symm) (bK.same (up u4) _ _ r4) (jV (cf ZN (u6 _ _ (s6 _ _ c5) C.symm))) (S6.same (V2.trans (up u6))) λd o e hd=>u6 _ _ (s6 _ _ (k5 _ _ e hd)) hd
theorem xx(L:Lk K mg):aT P w K mg base df 5 L.qz L.qA ["self"] (G0 K L.aR L.aD):=by
 refine L.iP.F.dJ (N:=["self"]) (λe A outer s H u Q E nd v h=>?_);obtain⟨x,m,f,B,g,i,d,rfl,⟨j,a,b,c,z,l,ha,C,hc,S⟩,n1,n,o,p,k⟩:=h;refine⟨_,(af (aA (aq (mh L) L.fZ (a5 (aE (pv 0) rfl) a8)))),?_⟩
 try dsimp only[dn,dm,b5,b6]
 exact⟨_,rfl,x,L.aR,j,_,_,rfl,l,L.dq.cl,L.dq.J9,Ds a b c z,z,g,i,d,rfl,S,n1,n,o,p,λy q r t=>k y q r t⟩
theorem Dz(L:Lk K mg):aT P w K mg base (BZ P w) 9 L.yH L.yI ["band","many","wide"] (J6 K L.aB L.aR L.aD L.cJ L.ph):=by
 have T:=L.T;refine L.k9.F.Ft (N:=["band","many","wide","weights","sheet","splits","kept","part"]) (λi5 A outer s H vs Q E nd hr h=>?_);obtain⟨x,many,n,g,bw,ss,ls,rfl,B,Mt,QX,EF,J,U,D,k,kS,kO⟩:=h
 refine⟨_,(a6 (bA (aq (hV L) L.eX (a5 (pv 0) (a5 (pv 1) (a5 (pv 2) a8)))))
  (a6 (bA (kr (o4 L) (hr.mono (by decide)) rfl L.cS.g L.cS.F.kp L.cS.b .nil (yf d9) (a5 (pv 0) (a5 (pv 1) (a5 (pv 2) a8)))))
  (a6 (aj (i:=3) (aq (qR L) L.gP (a5 (pv 0) (a5 (pv 1) (a5 (pv 2) (a5 (kr (jG L) (hr.mono (by decide)) rfl L.bL.g L.bL.F.kp L.bL.b .nil (yf d9) (a5 (pv 0) (a5 (pv 1) (a5 (pv 2) a8)))) a8))))))
  (a6 (aj (i:=4) (aq (nM L) L.hH (a5 (pv 0) (a5 (pv 1) (a5 (pv 2) (a5 (pv 3) a8))))))
  (a6 (aj (i:=5) (bX a8))
  (a6 (aj (i:=6) (aq (oJ L) L.iO (a5 (pv 4) (a5 (pv 1) a8))))
  (a6 (jL whg (aG pH (aC b4 (by rfl) T.len waJ (a5 (pv 6) a8)) ao (aU _)) (a6 (aj (i:=7) (aq (xu L) L.lI (a5 (pv 4) (a5 (pv 1) a8))))
  (a6 (aj (i:=4) (kr (Jg L) (hr.mono (by decide)) rfl L.qy.g L.qy.F.kp L.qy.b .nil (yf d9) (a5 (pv 4) (a5 (pv 1) (a5 (b8 fQ (pv 7) ao (λ_ _=>rfl)) (a5 (b8 fQ (pv 7) ao (λ_ _=>rfl)) (a5 (b8 fQ (pv 7) ao (λ_ _=>rfl)) a8)))))))
  (a6 (bA (iZ waO waV waY cP (pv 5) (a5 (pv 7) a8)))
  (af (aj (i:=6) (aq (oJ L) L.iO (a5 (pv 4) (a5 (pv 1) a8)))))))))
  (af (aA (nU L.Ez (se L) (hr.mono (by decide)) rfl L.Jc L.iB.b .nil bj (a5 (pv 3) (a5 (pv 5) (a5 (pv 6) (a5 (pv 4) a8)))))))))))))),?_⟩
 try dsimp only[dn,dm,b5,b6]
 obtain⟨ra,rb,rc,rd,re⟩:=id D
 have JY:g.length^n<=64:=by
  rw[waF]at re;have:((g.length^n:Nat):Int)<=64:=by rw[wdI];exact re
  omega
 have nd:ls.Nodup:=B.nd.sublist B.lv.sub;refine⟨_,rfl,_,rfl,_,rfl,x,many,n,g,bw,ss,ls,rfl,B,J,D,?_⟩;refine⟨_,rfl,_,rfl,_,rfl,x,many,n,g,bw,ss,ls,rfl,B,J,U,D,λQZ H1 s1=>?_,kS⟩;refine⟨_,rfl,_,rfl,_,rfl,_,rfl,_,rfl,_,rfl,x,many,n,g,bw,ss,ls,rfl,B.same s1,EF,J,U,D,λd f0 H2 s2 fd h2 hL=>?_,λZP H2 s2=>kO QZ ZP H2 (s1.trans s2)⟩;obtain⟨most,Z1,Zo,hG,_⟩:=id hL.gr;refine⟨x,d,many,n,f0,g,bw,ss,ls,rfl,B.same (s1.trans s2),Mt,QX,EF,J,U,D,h2,hG.nn,hG.fit,hL.ps,λdl f H3 k3 UZ h3 Xh FJ Sq hle V3=>?_⟩;have s3:a9 H H3:=λc o e=>k3 c o (s2 _ _ (s1 _ _ e)) (ag (s1 _ _ e) fd);have X:(ls.map f).sum<=40:=wdY V3 hL.le;refine⟨_,rfl,_,rfl,_,rfl,_,rfl,x,dl,many,n,cI f ls,f,g,bw,ss,ls,rfl,B.same s3,EF,J,U,D,.inl h3,kR f ls,λy H4 s4 S4=>?_⟩;have S4:=S4.same (cj _ _);have L0:fA g bw ss ls many n f [] _ _ _:=fA.start QX B.pm Mt (λp hp=>B.lv.sub.subset hp) nd Xh FJ;refine⟨waA _,λb hb=>?_⟩;have s5:a9 H4 (upd H4 b (.lst [])):=a9.upd hb;have h5:(upd H4 b (.lst [])) b=some (.lst []):=a7;have o5:a9 H4 (fP (upd H4 b (.lst [])) b):=Bj s5 hb;generalize upd H4 b (.lst [])=H5 at s5 h5 o5;have W0:=L0.whole X JY;generalize au ls f=v at S4 L0 W0;generalize v.map f=C at S4 L0 W0;generalize bF g bw ss ls n v=a at S4 L0 W0;have Mr:a.length<=1000:=by rw[W0.l];exact W0.n
 refine⟨_,rfl,_,rfl,y,many,v,C,a,rfl,S4.same s5,Mr,λl hl=>by have:=W0.m l hl;omega,λu G H6 s6 I Y hK=>?_⟩;have V4:u≠b:=λz=>by rw[z,h5]at I;cases I
 refine⟨λq σ M=>∃(y u:Addr) (v:List Str) (C:List Int) (a:List (List (Str×Nat))) (j:List zz) (r:List V) (G:List Nat) (v7:Option V),q=40-v.length/\σ=[some (.ref x),some (.int many),some (.int (n:Int)),some (.ref dl),some (.ref y),some (.ref b),some (.ref u),v7]/\a9 H M/\M dl=some (.dK (bI (cI f ls)))/\cn K L.aD (fP M b) y v C a/\fA g bw ss ls many n f j v C a/\M b=some (.lst r)/\bx K (fP M b) (j.map zA) r/\u≠b/\M u=some (.lst ((nI G).map V.int))/\p5 a many G,
  ⟨_,y,u,v,C,a,[],[],G,none,rfl,rfl,s3.trans (s4.trans (s5.trans s6)),s6 _ _ (s5 _ _ (s4 _ _ h3)),S4.same (o5.trans (pY s6)),L0,s6 _ _ h5,rfl,V4,Y,hK⟩,?_⟩
 clear hK Y V4 I s6 Mr W0 L0 o5 h5 s5 S4;have Ul:H b=none:=none_of (s3.trans s4) hb;have QC:dl≠b:=ag (s4 _ _ h3) hb;rintro q σ M ⟨y,u,v,C,a,j,r,G,v7,rfl,rfl,s7,Xi,S7,O,Z,r7,V4,V5,hK⟩;have W7:=O.whole X JY;have hlen:=O.len;have AF:=O.b.w;have Mr:a.length<=1000:=by rw[W7.l];exact W7.n
 have Mv:r.length=j.length:=by rw[r7.len,wa0]
 have ZQ:=O.sl
 by_cases R9:G=[]
 ·subst R9
  have wZ:v≠[]:=λz=>by
   have h1:=O.sm;rw[z]at AF;rw[wbz AF]at h1;have:(0:Int)=(ls.map f).sum:=h1;omega
  refine⟨_,rfl,u,_,rfl,.inl (aL.of V5),rfl,true,Ib _,fO ?_⟩;refine⟨λσ' H'=>∃(y u:Addr) (R:List Str) (C:List Int) (a:List (List (Str×Nat))) (j:List zz) (r:List V) (G:List Nat) (v7:Option V),R.length=v.length+1/\σ'=[some (.ref x),some (.int many),some (.int (n:Int)),some (.ref dl),some (.ref y),some (.ref b),some (.ref u),v7]/\a9 H H'/\H' dl=some (.dK (bI (cI f ls)))/\cn K L.aD (fP H' b) y R C a/\fA g bw ss ls many n f j R C a/\H' b=some (.lst r)/\bx K (fP H' b) (j.map zA) r/\u≠b/\H' u=some (.lst ((nI G).map V.int))/\p5 a many G,?_,?_⟩
  ·rintro σ' H' ⟨y,u,R,C,a,j,r,G,v7,e1,rfl,s',JX,S',L',IB,r',ZR,JU,V6⟩;have:=L'.len;exact⟨_,by omega,y,u,R,C,a,j,r,G,v7,rfl,rfl,s',JX,S',L',IB,r',ZR,JU,V6⟩
  refine⟨_,rfl,_,rfl,y,many,v,C,a,rfl,S7.same vL,O.b,hK,wZ,by omega,λl hl=>by have:=W7.m l hl;omega,by omega,by omega,λt l d ns w H8 s8 fl ft Xj Xk ok G5 OJ=>?_⟩;have hT:=ig.of (K:=K) Xj;have S8:=(S7.same vL).same s8;refine⟨_,rfl,_,rfl,_,rfl,t,_,_,_,rfl,rfl,hT,rfl,_,rfl,t,_,_,_,rfl,rfl,hT,rfl,_,rfl,t,_,_,_,rfl,rfl,hT,rfl,y,l,many,(d:Int),w,nI ns,v,C,a,rfl,S8,aL.of Xk,by rw[cH];omega,W7,by omega,by omega,.inl ⟨ok,λy' H9 s9 S9=>?_⟩⟩;rw[waF]at S9;have Xl:=s8 _ _ Z;have Xm:=s9 _ _ Xl;have L9:=O.step ok;have W9:=L9.whole X JY;have V7:(dW a d (nI ns)).length<=1000:=by rw[W9.l];exact W9.n
  have ZS:l≠b:=λz=>by rw[z,Z]at fl;cases fl
  have ZT:t≠b:=λz=>by rw[z,Z]at ft;cases ft
  have r9:bx K (fP H9 b) ((j++[(d,ns,w)]).map zA) (r++[.ref t]):=by
   rw[wan];exact iU (bx.same (pY (s8.trans s9)) _ _ r7) (Ep (gM (s9 _ _ Xj) ZT) (gM (s9 _ _ Xk) ZS))
  have Sr:cn K L.aD (fP H9 b) y' _ _ _:=S9.same (Eo Xl);refine⟨_,rfl,.inl ⟨rfl,_,aL.of Xm⟩,_,rfl,b,_,_,rfl,rfl,Xm,bq (by omega),?_⟩;have eo:fP (upd H9 b (.lst (r++[.ref t]))) b=fP H9 b:=Lr;rw[<-eo]at r9 Sr;have Gb:a9 H (upd H9 b (.lst (r++[.ref t]))):=λc o e=>by rw[ae (ag e Ul)];exact s9 _ _ (s8 _ _ (s7 _ _ e))
  have Xn:(upd H9 b (.lst (r++[.ref t]))) dl=some (.dK (bI (cI f ls))):=by rw[ae QC];exact s9 _ _ (s8 _ _ Xi)
  have V8:(upd H9 b (.lst (r++[.ref t]))) b=some (.lst (r++[.ref t])):=a7;generalize upd H9 b (.lst (r++[.ref t]))=OT at Gb Xn V8 r9 Sr;refine⟨_,rfl,_,rfl,y',many,_,_,_,rfl,Sr.same vL,V7,λl hl=>by have:=W9.m l hl;omega,λZU ZV GC S I Y V6=>?_⟩;refine⟨y',ZU,_,_,_,j++[(d,ns,w)],r++[.ref t],ZV,_,?_,rfl,Gb.trans S,S _ _ Xn,Sr.same (pY S),L9,S _ _ V8,bx.same (pY S) _ _ r9,(λz=>by rw[z,V8]at I;cases I),Y,V6⟩;unfold cY;rw[wa5];rfl
 ·refine⟨_,rfl,u,_,rfl,.inl (aL.of V5),rfl,false,congrArg V.bl (decide_eq_false λz=>R9 (wbz (by have:=V.int.inj z;rw[wa0,cH]at this;omega))),cb ?_⟩;refine⟨_,rfl,_,rfl,_,rfl,_,rfl,?_⟩;intro z dz nz Ss Xo;have sm:a9 M (upd (upd M dz (.own z)) z (.ins L.aR dz [])):=fE nz Ss;refine⟨z,dz,dl,y,.ref b,.ref u,cI f ls,j,G,v,C,a,rfl,a7,.inl (sm _ _ Xi),⟨b,r,rfl,.inl (sm _ _ Z),bx.same (vL.trans sm) _ _ r7⟩,jV (sm _ _ V5),(S7.same vL).same sm,by omega,by omega,by omega,λl hl=>by have:=W7.m l hl;omega,by omega,λa' b' c' y' H8 h8 fa ZW r8 ZX S8 ZY=>⟨rfl,?_⟩⟩;have s8:a9 M H8:=λc o e=>ZY _ _ (sm _ _ e) (ag e nz);have nw:a9 (aM (upd (upd M dz (.own z)) z (.ins L.aR dz [])) H8) (aM H H8):=eW (s7.trans sm);refine k QZ z f0 f j G v C a H8 (s7.trans s8) ⟨dz,a',b',c',y',cf (none_of s7 nz) h8,cf (none_of (s7.trans sm) fa) ZW,bK.same nw _ _ r8,bK.same nw _ _ ZX,S8.same nw⟩ hL hle ⟨Xh,λp hp=>?_,FJ,Sq,X,O.rn,O.b,O.cv,by omega,hK,R9,by omega,O.sb⟩;have h1:=hle p hp;have h2:=hG.le p hp;omega
end
end K50
namespace Bs
open PySem L2 Sx
theorem fN:∀{fs:List (Str×V)},n∉fs.map (·.1)->cQ n v fs=fs++[(n,v)]
 |[],_=>rfl
 |(a,u)::fs,h=>by
  have b:¬a=n:=λz=>h (by grind);show (if a=n then _ else _)=_;rw[if_neg b,fN (fs:=fs) λz=>h (by grind)];rfl
theorem dZ:∀{fs:List (Str×V)},n∉fs.map (·.1)->(fs++(n,v)::g).lookup n=some v:=by grind [wfZ,wag,wac]
theorem ie:∀{fs:List (Str×V)},n∉fs.map (·.1)->fs.lookup n=none:=by grind [wag,wac]
noncomputable def Oc(p:Addr):List (Str×V):=[("scheme",.ref p)]
noncomputable def OX(p b:Addr):List (Str×V):=[("scheme",.ref p),("band",.ref b)]
noncomputable def Od(p b:Addr)(many:Int):List (Str×V):=[("scheme",.ref p),("band",.ref b),("many",.int many)]
noncomputable def MC(p b:Addr)(many wide:Int):List (Str×V):=[("scheme",.ref p),("band",.ref b),("many",.int many),("wide",.int wide)]
noncomputable def MD(p b:Addr)(many wide:Int)(h:Addr):List (Str×V):=[("scheme",.ref p),("band",.ref b),("many",.int many),("wide",.int wide),("homes",.ref h)]
noncomputable def Jo(p b:Addr)(many wide:Int)(h l:Addr):List (Str×V):=[("scheme",.ref p),("band",.ref b),("many",.int many),("wide",.int wide),("homes",.ref h),("lines",.ref l)]
noncomputable def OY(p b:Addr)(many wide:Int)(h l:Addr)(o:Str):List (Str×V):=[("scheme",.ref p),("band",.ref b),("many",.int many),("wide",.int wide),("homes",.ref h),("lines",.ref l),("opening",.str o)]
noncomputable def nN(p b:Addr)(many wide:Int)(h l:Addr)(o:Str)(i:Int):List (Str×V):=[("scheme",.ref p),("band",.ref b),("many",.int many),("wide",.int wide),("homes",.ref h),("lines",.ref l),("opening",.str o),("first",.int i)]
section
variable(p b h l:Addr)(many wide i:Int)(o:Str)
theorem Ra:cQ "scheme" (.ref p) []=Oc p:=rfl
theorem Rb:cQ "band" (.ref b) (Oc p)=OX p b:=fN (by show ("band":Str)∉[("scheme":Str)];decide+kernel)
theorem Rc:cQ "many" (.int many) (OX p b)=Od p b many:=fN (by show ("many":Str)∉[("scheme":Str),"band"];decide+kernel)
theorem Rf:cQ "wide" (.int wide) (Od p b many)=MC p b many wide:=fN (by show ("wide":Str)∉[("scheme":Str),"band","many"];decide+kernel)
theorem Rg:cQ "homes" (.ref h) (MC p b many wide)=MD p b many wide h:=fN (by show ("homes":Str)∉[("scheme":Str),"band","many","wide"];decide+kernel)
theorem Rh:cQ "lines" (.ref l) (MD p b many wide h)=Jo p b many wide h l:=fN (by show ("lines":Str)∉[("scheme":Str),"band","many","wide","homes"];decide+kernel)
theorem Ri:cQ "opening" (.str o) (Jo p b many wide h l)=OY p b many wide h l o:=fN (by show ("opening":Str)∉[("scheme":Str),"band","many","wide","homes","lines"];decide+kernel)
theorem Rj:cQ "first" (.int i) (OY p b many wide h l o)=nN p b many wide h l o i:=fN (by show ("first":Str)∉[("scheme":Str),"band","many","wide","homes","lines","opening"];decide+kernel)
theorem qS:(MC p b many wide).lookup ("scheme":Str)=some (.ref p):=dZ (fs:=[]) (by decide+kernel)
theorem DA:(Jo p b many wide h l).lookup ("band":Str)=some (.ref b):=dZ (fs:=Oc p) (by show ("band":Str)∉[("scheme":Str)];decide+kernel)
theorem DB:(Jo p b many wide h l).lookup ("wide":Str)=some (.int wide):=dZ (fs:=Od p b many) (by show ("wide":Str)∉[("scheme":Str),"band","many"];decide+kernel)
theorem By:(Jo p b many wide h l).lookup ("lines":Str)=some (.ref l):=dZ (fs:=MD p b many wide h) (by show ("lines":Str)∉[("scheme":Str),"band","many","wide","homes"];decide+kernel)
theorem zJ:(Jo p b many wide h l).lookup ("behind":Str)=none:=ie (by show ("behind":Str)∉[("scheme":Str),"band","many","wide","homes","lines"];decide+kernel)
theorem zK:(nN p b many wide h l o i).lookup ("scheme":Str)=some (.ref p):=dZ (fs:=[]) (by decide+kernel)
theorem lL:(nN p b many wide h l o i).lookup ("band":Str)=some (.ref b):=dZ (fs:=Oc p) (by show ("band":Str)∉[("scheme":Str)];decide+kernel)
theorem DC:(nN p b many wide h l o i).lookup ("many":Str)=some (.int many):=dZ (fs:=OX p b) (by show ("many":Str)∉[("scheme":Str),"band"];decide+kernel)
theorem fC:(nN p b many wide h l o i).lookup ("wide":Str)=some (.int wide):=dZ (fs:=Od p b many) (by show ("wide":Str)∉[("scheme":Str),"band","many"];decide+kernel)
theorem tU:(nN p b many wide h l o i).lookup ("homes":Str)=some (.ref h):=dZ (fs:=MC p b many wide) (by show ("homes":Str)∉[("scheme":Str),"band","many","wide"];decide+kernel)
theorem tV:(nN p b many wide h l o i).lookup ("lines":Str)=some (.ref l):=dZ (fs:=MD p b many wide h) (by show ("lines":Str)∉[("scheme":Str),"band","many","wide","homes"];decide+kernel)
theorem oK:(nN p b many wide h l o i).lookup ("opening":Str)=some (.str o):=dZ (fs:=Jo p b many wide h l) (by show ("opening":Str)∉[("scheme":Str),"band","many","wide","homes","lines"];decide+kernel)
theorem Bz:(nN p b many wide h l o i).lookup ("first":Str)=some (.int i):=dZ (fs:=OY p b many wide h l o) (by show ("first":Str)∉[("scheme":Str),"band","many","wide","homes","lines","opening"];decide+kernel)
theorem cC(hn:n∉[("scheme":Str),"band","many","wide","homes","lines","opening","first"]):(nN p b many wide h l o i).lookup n=none:=ie hn
end
structure BA(K:wa2)(C CP CS:Addr)(H:Hp)(x xb:Addr)(many:Int)(n:Nat)(m:List (Str×Int))(ri:List zz)(ks:List Nat)(hs:List Str)(ws:List Int)(lns:List (List (Str×Nat)))(b:Nat):Prop where
 ex:∃dx p a l,H x=some (.ins C dx (nN p xb many (n:Int) a l (cO (fB lns ks many.toNat) 0 (wak b 0)).1 ((cO (fB lns ks many.toNat) 0 (wak b 0)).2:Int)))/\p8 K CP CS H p m ri ks hs ws lns/\bK K H (sU (ks.map λd=>hs.getD d "")) (.ref a)/\bK K H (kX (fB lns ks many.toNat)) (.ref l)
end Bs
namespace Sx
open PySem L2 Bs
inductive Jp(C CB:Addr)(vs:List V)(H:Hp)(Q:VK)(eE:XK):Prop
 |mk (x xb dx:Addr) (fs:List (Str×V)) (n:Nat) (g:Str) (bw ss ls:List Str) (_:vs=[.ref x]) (_:H x=some (.ins C dx fs)) (_:fs.lookup ("band":Str)=some (.ref xb)) (_:fs.lookup ("wide":Str)=some (.int (n:Int))) (_:aY CB H xb g bw ss ls) (_:1<=n) (_:n<=10) (_:(∀w∈bw,w.length<=900)) (_:bw.length<=1000) (_:∀(b:Nat) (H':Hp),a9 H H'->nK bw n b->Q (.int (b:Int)) H')
inductive Gd(K:wa2)(C CB CP CS CX CO:Addr)(vs:List V)(H:Hp)(Q:VK)(E:XK):Prop
 |mk (x dx xb:Addr) (many:Int) (n:Nat) (g:Str) (bw ss ls:List Str) (_:vs=[.ref x,.ref xb,.int many,.int (n:Int)]) (_:H x=some (.ins C dx [])) (_:aY CB H xb g bw ss ls) (_:(∀w∈bw,1<=w.length/\w.length<=900)) (_:bw.length<=1000) (_:("":Str)∈ss) (_:(ch g).Nodup) (_:2<=g.length) (_:g.length<=10) (_:ss.length<=900) (_:gK g.length many n) (_:(G1 g bw ss many n->∀(p a l:Addr) (f0 f:Str->Int) (ri:List zz) (ks:List Nat) (hs:List Str) (ws:List Int) (lns:List (List (Str×Nat))) (b:Nat) (H':Hp),(∀c o,H c=some o->c≠x->H' c=some o)->H' x=some (.ins C dx (nN p xb many (n:Int) a l (cO (fB lns ks many.toNat) 0 (wak b 0)).1 ((cO (fB lns ks many.toNat) 0 (wak b 0)).2:Int)))->p8 K CP CS (aM H H') p (cI f ls) ri ks hs ws lns->bK K (aM H H') (sU (ks.map λd=>hs.getD d "")) (.ref a)->bK K (aM H H') (kX (fB lns ks many.toNat)) (.ref l)->uA g bw ss ls many n f0->(∀p∈ls,f p<=f0 p)->iq g bw ss ls many n f ri ks hs ws lns->GD many n (fB lns ks many.toNat)->nK bw n b->Q .non H')) (_:U7 CX g bw ss many n H E) (_:(G1 g bw ss many n->zy g bw ss ls many n->∀H',a9 H H'->E (.ref CO) none H'))
end Sx
namespace Bs
open PySem L2 Sx
theorem Jq(B:aY C H j g bw ss ls)(I:H x=some (.ins J T fs))(hn:j≠x):aY C (fP H x) j g bw ss ls:=by
 obtain⟨⟨f,b,d,q,t,u,h,i,v,k,r⟩,p,o,l⟩:=B;have ne:∀{c:Addr} {o:HO},H c=some o->(∀a b e,o≠.ins a b e)->c≠x:=λe n z=>by grind
 exact⟨⟨f,b,d,q,t,gM u hn,gM h (ne h λ_ _ _ z=>by cases z),gM i (ne i λ_ _ _ z=>by cases z),v,λm s=>gM (k m s) (ne (k m s) λ_ _ _ z=>by cases z),gM r (ne r λ_ _ _ z=>by cases z)⟩,p,o,l⟩
theorem wm:∀b:Nat,(wak b [V.int 0]).flatten=(nI (wak b 0)).map V.int
 |0=>rfl
 |b+1=>by
  rw[wcB,wc5,wm b,wcB];rfl
theorem DE(h:∀c o,H c=some o->∃g,j c=some g):a9 (aM j l) (aM H l):=by grind [a9,aM]
end Bs
namespace K50
open PySem L2 Bs Sx
section
variable{P:wat}{w:World}{K:wa2}{mg:Str->Option Value}{base:Heap}
theorem eY(L:Lk K mg):aT P w K mg base df 3 L.m6 L.m7 ["self"] (Jp L.ak L.aB):=by
 refine L.bB.F.dJ (N:=["self"]) (λe A outer s H l Q E nd m h=>?_);obtain⟨x,f,c,fs,n,g,bw,ss,ls,rfl,d,i,j,B,n1,wQ,a,b,k⟩:=h;refine⟨_,(af (aA (aq (rZ L) L.iz (a5 (aE (pv 0) rfl) (a5 (aE (pv 0) rfl) a8))))),?_⟩
 try dsimp only[dn,dm,b5,b6]
 exact⟨_,rfl,x,L.ak,c,_,_,rfl,d,L.ai.cl,L.ai.vO,i,_,rfl,x,L.ak,c,_,_,rfl,d,L.ai.cl,L.ai.mL,j,f,n,g,bw,ss,ls,rfl,B,n1,wQ,a,b,k⟩
theorem pq(L:Lk K mg):aT P w K mg base (BZ P w) 10 L.g9 L.jy ["self","band","many","wide"] (Gd K L.ak L.aB L.aR L.aD L.cJ L.ph):=by
 refine L.gi.F.Ft (N:=["self","band","many","wide","sheet","kept","found"]) (λi5 A outer s H vs Q E nd hr h=>?_);obtain⟨x,a,j,many,n,g,bw,ss,ls,rfl,hx,B,Mt,Oa,ZZ,QX,EF,EC,EB,Jm,k,kS,kO⟩:=h
 refine⟨_,(a6 (dg (pv 0) (kr (Dz L) (hr.mono (by decide)) rfl L.k9.g L.k9.F.kp L.k9.b .nil (yf d9) (a5 (pv 1) (a5 (pv 2) (a5 (pv 3) a8)))) rfl)
  (a6 (dg (pv 0) (pv 1) rfl)
  (a6 (dg (pv 0) (pv 2) rfl)
  (a6 (dg (pv 0) (pv 3) rfl)
  (a6 (aj (i:=4) (bR (aE (pv 0) rfl) L.dq.cl L.iP.m (xx L) (hr.mono (by decide)) L.iP.b .nil bj))
  (a6 (aj (i:=5) (aE (aE (pv 0) rfl) rfl))
  (a6 (dg (pv 0) (cU rfl (ax ["sheet"] [4]) (aP (pv 5)) (λ_ _ _ _ _ _=>bo) (λ_ _ _ _ _ _=>(b8 (i6 (K:=K) rfl) (nW (K:=K) rfl (pv 1) rfl) (pv 0) (λ_ _=>rfl)))) rfl)
  (a6 (dg (pv 0) (cU rfl (ax ["sheet","kept","many"] [4,5,2]) (aP (pv 5)) (λ_ _ _ _ _ _=>bo) (λ_ _ _ _ _ _=>(aq (kc L) L.dX (a5 (b8 (i6 (K:=K) rfl) (nW (K:=K) rfl (pv 1) rfl) (pv 0) (λ_ _=>rfl)) (a5 (pv 2) (a5 (pv 3) a8)))))) rfl)
  (a6 (aj (i:=6) (aq (yO L) L.qL (a5 (aE (pv 0) rfl) (a5 ao (a5 (aK Hk (bX (a5 ao a8)) (bR (pv 0) L.ai.cl L.bB.m (eY L) (hr.mono (by decide)) L.bB.b .nil bj)) a8)))))
  (a6 (dg (pv 0) (b8 fQ (pv 6) ao (λ_ _=>rfl)) rfl)
  (af (dg (pv 0) (b8 fQ (pv 6) ao (λ_ _=>rfl)) rfl)))))))))))),?_⟩
 try dsimp only[dn,dm,b5,b6]
 obtain⟨ra,rb,rc,rd,re⟩:=id Jm
 have nxb:j≠x:=λz=>by
  obtain⟨dx',b,d,q,mv,h1,_⟩:=id B.ex;rw[z,hx]at h1;have:=wae h1;injection this with _ _ q2
  cases q2
 refine⟨_,rfl,_,rfl,_,rfl,j,many,n,g,bw,ss,ls,rfl,B,λw hw=>(Mt w hw).1,QX,EF,EC,EB,Jm,λQZ p f0 f ri D T ws u H1 s1 P1 hL hle G=>?_,kS,kO⟩;have W0:=QR (n:=n) G.ko G.ne (show 0<=many by omega) (G.cv.word G.b.l (λq M=>B.lv.sub.subset (G.sb q M)) ZZ);have P1':=P1.same (cj _ _);have za1:=G.ln;have hwL:=G.b.w;have To:=G.b.l
 have JY:g.length^n<=64:=by
  rw[waF]at re;have:((g.length^n:Nat):Int)<=64:=by rw[wdI];exact re
  omega
 have QL:∀l∈u,l.length<=10000:=λl hm=>by
  have h1:=G.cv.line G.b.l (b:=64) (λp=>wal (gL g bw ss ls n p) JY) l hm;have h2:64*T.length<=64*40:=wc8 _ (by omega);omega
 have Wq:D.length<=40:=by have:=G.ko.ab.sub.length_le;rw[waK]at this;omega
 have Xp:∀d∈D,d<u.length:=λd hd=>(G.ko.st d hd).1;refine⟨_,rfl,x,L.ak,a,[],rfl,s1 _ _ hx,L.ai.cl,L.ai.q0,(show 0<1000 by decide),?_⟩;rw[Ra];refine⟨_,rfl,_,rfl,x,L.ak,a,_,rfl,a7,L.ai.cl,L.ai.vO,(show 1<1000 by decide),?_⟩;rw[Rb];refine⟨_,rfl,_,rfl,x,L.ak,a,_,rfl,a7,L.ai.cl,L.ai.Ja,(show 2<1000 by decide),?_⟩;rw[Rc];refine⟨_,rfl,_,rfl,x,L.ak,a,_,rfl,a7,L.ai.cl,L.ai.mL,(show 3<1000 by decide),?_⟩;rw[Rf];have x2:(upd (upd (upd (upd H1 x (.ins L.ak a (Oc p))) x (.ins L.ak a (OX p j))) x (.ins L.ak a (Od p j many))) x (.ins L.ak a (MC p j many (n:Int)))) x=some (.ins L.ak a (MC p j many (n:Int))):=a7;have k2:∀c o,H1 c=some o->c≠x->(upd (upd (upd (upd H1 x (.ins L.ak a (Oc p))) x (.ins L.ak a (OX p j))) x (.ins L.ak a (Od p j many))) x (.ins L.ak a (MC p j many (n:Int)))) c=some o:=λc o e hc=>by rw[ae hc,ae hc,ae hc,ae hc];exact e
 generalize upd (upd (upd (upd H1 x (.ins L.ak a (Oc p))) x (.ins L.ak a (OX p j))) x (.ins L.ak a (Od p j many))) x (.ins L.ak a (MC p j many (n:Int)))=H2 at x2 k2;have V9:∀c o,H c=some o->c≠x->H2 c=some o:=λc o e hc=>k2 c o (s1 _ _ e) hc;have n2:a9 (aM H H1) (aM H H2):=bT hx k2;have P2:=P1.same (n2.trans (cj _ _));obtain⟨dp,wa,wb,U,wz,Rk,_,_,rc2,_⟩:=id P2;refine⟨_,rfl,x,L.ak,a,_,_,rfl,x2,L.ai.cl,L.ai.q0,qS p j many n,p,dp,_,rfl,Rk,ie (by show ("sheet":Str)∉[("weights":Str),"splits","kept","last"];decide+kernel),p,cI f ls,ri,D,T,ws,u,rfl,P2,by omega,by omega,by omega,QL,λy H3 s3 S3=>?_⟩;have x3:=s3 _ _ x2;refine⟨_,rfl,x,L.ak,a,_,_,rfl,x3,L.ai.cl,L.ai.q0,qS p j many n,p,L.aR,dp,_,_,rfl,s3 _ _ Rk,L.dq.cl,L.dq.J8,Dt wa wb U wz,?_⟩
 have Va:aL K H3 U ((nI D).map V.int):=by
  obtain⟨c',e,h⟩:=j8 (bK.same s3 _ _ rc2);cases e;exact h
 have S3':=S3.same (cj _ _);obtain⟨dy,ah,Xq,cl,hy,rh,rwt,rl⟩:=id S3';have hh:=uz rh;obtain⟨QE,xs,ec,hc,y4⟩:=id rl;cases ec;refine⟨_,rfl,U,rfl,⟨_,Va⟩,λr Vb=>?_⟩;refine ee (λ_=>true) (λv=>match v with |.int d=>.str (T.getD d.toNat "") |_=>.non) (aQ K U _) Vb (aw (by rw[wa0,cH];omega)) (λH' s'=>s'.seq Va) (λv H8 Q' hy s8 qq=>qq H8 (a9.refl _)) (λv H4 Q' hv _ O qq=>?_) (λH4 O h4=>?_)
 ·obtain⟨n',BX,rfl⟩:=rP hv;have X:n'<T.length:=by rw[<-To];exact Xp n' BX
  exact⟨_,rfl,y,L.aD,dy,_,_,rfl,O _ _ hy,L.az.cl,L.az.fV,fF ah Xq cl,_,rfl,ah,_,_,_,rfl,rfl,O.seq (.inl hh),bO (v:=.str (T.getD n' "")) (by rw[wa4,wa1 X,wa3,wa1 X];rfl),qq H4 (a9.refl _)⟩
 have e4:(((nI D).map V.int).filter λ_=>true).map (λv=>match v with |.int d=>V.str (T.getD d.toNat "") |_=>.non)=(D.map λd=>T.getD d "").map V.str:=by
  rw[wb8.mpr (λ_ _=>rfl)];unfold nI;rw[wah,wah,wah];rfl
 rw[e4]at h4;have Y:r≠x:=wbc (ag x3 Vb);refine⟨_,rfl,x,L.ak,a,_,rfl,O _ _ x3,L.ai.cl,L.ai.fV,(show 4<1000 by decide),?_⟩;rw[Rg];have x5:(upd H4 x (.ins L.ak a (MD p j many (n:Int) r))) x=some (.ins L.ak a (MD p j many (n:Int) r)):=a7;have k5:∀c o,H4 c=some o->c≠x->(upd H4 x (.ins L.ak a (MD p j many (n:Int) r))) c=some o:=λc o e hc=>by rw[ae hc];exact e
 generalize upd H4 x (.ins L.ak a (MD p j many (n:Int) r))=H5 at x5 k5;have x4:=O _ _ x3
 have nyx:y≠x:=λz=>by
  obtain⟨_,_,_,_,h,_⟩:=id S3;rw[z]at h;unfold aM at h;rw[x2]at h;cases h
 have Ob:aL K H5 U ((nI D).map V.int):=(fq k5).seq (zm x4 (O.seq Va));have UP:=k5 _ _ (O _ _ hy) nyx;have rl5:bK K H5 (kX u) (.ref cl):=bK.same (fq k5) _ _ (bK.off x4 _ _ (bK.same O _ _ rl));obtain⟨WH,xs5,ec5,hc5,Vc⟩:=id rl5;cases ec5;refine⟨_,rfl,U,rfl,⟨_,Ob⟩,λC Dg=>?_⟩;refine vr (K:=K) ((fB u D many.toNat).map cg) (aQ K U _) Dg (aw (by rw[wa0,cH];omega)) (by unfold fB;rw[wa0,wa0,wa0,cH]) (λH' s'=>s'.seq Ob) (λi v dd H6 Q' hv OM Z qq=>?_) (λH6 Z r6=>?_)
 ·have hi:i<D.length:=by have:=(wa6.mp hv).1;rwa[wa0,cH]at this
  rw[vF (wa1 hi)]at hv;cases hv;unfold fB at OM;rw[wa4,wa4,wa1 hi]at OM;cases OM;have G5:=Xp _ (waN hi);generalize D[i]=d at qq G5;have M:=d4 G5;obtain⟨v',O8,rd'⟩:=Vc.at (i:=d) (d:=cg (u.getD d [])) (by rw[wa4,M];rfl);exact⟨_,rfl,y,L.aD,dy,_,_,rfl,Z _ _ UP,L.az.cl,L.az.cV,bV ah Xq cl,_,rfl,cl,xs5,_,_,rfl,rfl,Z.seq (.inl hc5),bO O8,_,rfl,_,rfl,v',U,many,D,u.getD d [],rfl,bK.same Z _ _ rd',Z.seq Ob,by omega,QL _ (wa8 M),by omega,λz R s7 r7=>qq z R s7 r7⟩
 have x6:=Z _ _ x5;refine⟨_,rfl,x,L.ak,a,_,rfl,x6,L.ai.cl,L.ai.cV,(show 5<1000 by decide),?_⟩;rw[Rh];have x7:(upd H6 x (.ins L.ak a (Jo p j many (n:Int) r C))) x=some (.ins L.ak a (Jo p j many (n:Int) r C)):=a7;have k7:∀c o,H6 c=some o->c≠x->(upd H6 x (.ins L.ak a (Jo p j many (n:Int) r C))) c=some o:=λc o e hc=>by rw[ae hc];exact e
 generalize upd H6 x (.ins L.ak a (Jo p j many (n:Int) r C))=R at x7 k7;have Xr:∀c o,H c=some o->c≠x->H5 c=some o:=λc o e hc=>k5 _ _ (O _ _ (s3 _ _ (V9 c o e hc))) hc;have kH7:∀c o,H c=some o->c≠x->R c=some o:=λc o e hc=>k7 _ _ (Z _ _ (Xr c o e hc)) hc;have r7:bK K R (kX (fB u D many.toNat)) (.ref C):=bK.same ((Eo x5).trans (fq k7)) _ _ r6;have B7:aY L.aB R j g bw ss ls:=(Jq B hx nxb).same (fq kH7);refine⟨_,rfl,x,L.ak,a,_,_,rfl,x7,L.ai.cl,L.ai.cV,By p j r C many n,by show 1<=sizeLine;decide,λl0 Mz=>?_⟩;have s8:=a9.upd (H:=R) (o:=.lst [V.int 0]) Mz;have h8:(upd R l0 (.lst [V.int 0])) l0=some (.lst [V.int 0]):=a7;generalize upd R l0 (.lst [V.int 0])=H8 at s8 h8;have x8:=s8 _ _ x7;refine⟨_,rfl,x,a,_,rfl,x8,zJ p j r C many n,x,j,a,_,n,g,bw,ss,ls,rfl,x8,DA p j r C many n,DB p j r C many n,B7.same s8,by omega,by omega,λw hw=>(Mt w hw).2,Oa,λb H9 s9 hb=>?_⟩;have hb1:=hb.le;refine⟨l0,(b:Int),[V.int 0],rfl,rfl,s9 _ _ h8,by omega,by omega,aw (by show 1*((b:Int)).toNat<=_;omega),λpr Vd=>?_⟩;rw[waF,wm];have Gb:=a9.upd (H:=H9) (o:=.lst ((nI (wak b 0)).map V.int)) Vd;have Jn:(upd H9 pr (.lst ((nI (wak b 0)).map V.int))) pr=some (.lst ((nI (wak b 0)).map V.int)):=a7;generalize upd H9 pr (.lst ((nI (wak b 0)).map V.int))=OT at Gb Jn;have Rl:=s8.trans (s9.trans Gb);refine⟨.ref C,0,pr,many,n,fB u D many.toNat,wak b 0,rfl,bK.same Rl _ _ r7,aL.of Jn,W0,wbR.mpr W0.ne,λt ht=>by rw[(wdi.mp ht).2];omega,by rw[waQ];omega,by omega,λq S JZ M=>?_⟩;have Rm:=Rl.trans JZ;have Xs:=Rm _ _ x7;have Ua:q≠x:=λz=>by rw[z,Xs]at M;cases M
 generalize hwk:cO (fB u D many.toNat) 0 (wak b 0)=I at M;refine⟨_,rfl,q,_,_,_,rfl,rfl,ig.of M,rfl,_,rfl,x,L.ak,a,_,rfl,Xs,L.ai.cl,L.ai.rR,(show 6<1000 by decide),?_⟩;rw[Ri];refine⟨_,rfl,q,_,_,_,rfl,rfl,ig.of (by rw[ae Ua];exact M),rfl,_,rfl,x,L.ak,a,_,rfl,a7,L.ai.cl,L.ai.Es,(show 7<1000 by decide),?_⟩;rw[Rj];have Ve:(upd (upd S x (.ins L.ak a (OY p j many (n:Int) r C I.1))) x (.ins L.ak a (nN p j many (n:Int) r C I.1 (I.2:Int)))) x=some (.ins L.ak a (nN p j many (n:Int) r C I.1 (I.2:Int))):=a7;have Xu:∀c o,S c=some o->c≠x->(upd (upd S x (.ins L.ak a (OY p j many (n:Int) r C I.1))) x (.ins L.ak a (nN p j many (n:Int) r C I.1 (I.2:Int)))) c=some o:=λc o e hc=>by rw[ae hc,ae hc];exact e
 generalize upd (upd S x (.ins L.ak a (OY p j many (n:Int) r C I.1))) x (.ins L.ak a (nN p j many (n:Int) r C I.1 (I.2:Int)))=J at Ve Xu;have Rn:∀c o,R c=some o->c≠x->J c=some o:=λc o e hc=>Xu _ _ (Rm _ _ e) hc;have Vf:∀c o,H5 c=some o->c≠x->J c=some o:=λc o e hc=>Rn _ _ (k7 _ _ (Z _ _ e) hc) hc;have Ro:∀c o,H4 c=some o->c≠x->J c=some o:=λc o e hc=>Vf _ _ (k5 _ _ e hc) hc;have Rp:∀c o,H2 c=some o->c≠x->J c=some o:=λc o e hc=>Ro _ _ (O _ _ (s3 _ _ e)) hc
 have fla:H r=none:=by
  cases e:H r with
  |none=>rfl
  |some o=>have:=s3 _ _ (V9 r o e Y);rw[Vb]at this;cases this
 have m5:∀c o,H c=some o->∃o',H5 c=some o':=λc o e=>by
  by_cases z:c=x
  ·rw[z];exact⟨_,x5⟩
  ·exact⟨o,Xr c o e z⟩
 rw[<-hwk]at Ve;refine k QZ p r C f0 f ri D T ws u b J (λc o e hc=>Rp _ _ (V9 c o e hc) hc) Ve (P1.same (n2.trans (bT hx Rp))) (pT (cf fla (Ro _ _ h4 Y))) (bK.same ((DE m5).trans (bT hx λc o e hc=>Rn _ _ (k7 _ _ e hc) hc)) _ _ r6) hL hle G W0 hb
end
end K50
namespace L2
open PySem PySem.Spec PyProof.Rows Sx
section
variable{X:Cx}{e:Expr}{es:List Expr}{te:TE}{t:TJ}{pos:Pos}
end
end L2
namespace Sx
open PySem L2 Bs
noncomputable def LD(wl:List (List (Str×Nat)))(b c:Nat)(ts:List Nat):Str:=(cO wl 0 (wak b 0)).1++(cO wl (cO wl 0 (wak b 0)).2 (ts++wak c 0)).1
end Sx
namespace L2
open PySem PySem.Spec PyProof.Rows
section
variable{M:Model}{A:Around}{E:Value->Shared->Prop}{e C C1 CB:Addr}{nm q:Str}{N:Addr}{bs:List Value}{hdct:Bool}{sn:List Str}{sub:List Value}{ab:Bool}{col:Option Bool}{dd:Option Addr}{k0 k1 k2 k3 k5:Option Value}
 {Qj q':Str} {N':Addr} {bs':List Value} {Rq:Bool} {sn':List Str} {Vg:List Value} {ab':Bool} {Vh:Option Bool} {dd':Option Addr} {k0' k1' k2' k3' k5':Option Value}
theorem zL{h:Heap}{g:Array wds}{d:Drawn}{t:Nat}{os:wbS}{I:Obj}{Q:Bool->Shared->Prop}(j:h.get? C1=some (wbs Qj q' C1 N' bs' (oW CB) Rq sn' Vg ab' Vh dd' k0' k1' k2' k3' k5' "ValueError.__new__"))
 (J:h.get? C=some (wbs nm q C N bs (oW CB) hdct sn sub ab col dd k0 k1 k2 k3 k5 "ValueError.__new__"))
 (T:h.get? e=some I) (l:I.cls=.ref C) (p:C1≠C) (r:C1≠CB) (U:Q false ⟨h,g,d,t,os⟩) :
 wpAny M A (wgz (.ref e) (.ref C1)) Q E ⟨h,g,d,t,os⟩:=by
 have a:(wam C1::oW CB).contains (.type "BaseException")=true:=by simp[wh3,oW]
 have b:(wam C::oW CB).contains (.ref C1)=false:=by simp[wh3,oW,p,r]
 have f:=tc_notTuple;unfold wgz
 repeat (first |(with_reducible refine wbd T ?_;rw[l]) |with_reducible refine wbd j ?_ |with_reducible refine wbd J ?_ |(with_reducible refine wbP J ?_;rw[b]) |(with_reducible refine wbP j ?_;rw[a]) |wp_step)
 exact U
end
def Rr(C1 C2:Addr)(tb:Md)(i:Nat):TS:=λD σ H=>tb (λσ' cv od H'=>(cv=.ref C1\/cv=.ref C2)/\D.nx (σ'.set i (some .non)) H') D σ H
section
variable{X:Cx}{CB C1 C2:Addr}{Qq Su x nm Qj:Str}{body:List Stmt}{tb:Md}{i jj jk:Nat}{p1 p2 p3 p4 Nt q1 q2 q3 q4 Vi pos:Pos}
theorem LI(l:X.stack=X.env::X.outer/\X.env.frame=some X.env.locals)(g:Qi X body tb)(hg:Gl X Qq)(hm:X.mg Qq=some (.ref C1))(hg':Gl X Su)(TB:X.mg Su=some (.ref C2))(U:fi X.K C1 CB nm)(U':fi X.K C2 CB Qj)(wZ:C1≠C2)(hnb:C1≠CB)(hN:X.N.Nodup)(hi:X.N[i]?=some x)
 (hx:Loc X.env.scope x) (J:(Qq==("__debug__":Str))=false:=by decide) (T:(Su==("__debug__":Str))=false:=by decide)
 (hf:X.fn x=true\/X.env.scope.names.lookup x=some .local:=by first |exact .inl rfl |exact .inr rfl |assumption) (Tq:wc6 (.Constant .none jj p3) (some (.Name x p2)) p4.line X.env=pure false:=by rfl) (Vj:wc6 (.Constant .none jk q3) (some (.Name x q2)) q4.line X.env=pure false:=by rfl) :
 PS X (.Try body [.ExceptHandler (some (.Name Qq p1)) none [.Assign [.Name x p2] (.Constant .none jj p3) p4] Nt,.ExceptHandler (some (.Name Su q1)) none [.Assign [.Name x q2] (.Constant .none jk q3) q4] Vi] [] [] pos) (Rr C1 C2 tb i):=by
 intro a s σ H D I h;refine wpAny_Try_except (wba (g a s σ H D _ I h) (λf s1 q=>?_) λY s1 q=>?_)
 ·cases f with
  |next=>exact wcq q
  |ret v=>exact q
  |brk=>exact q
  |cont=>exact q
 obtain⟨r,H0,G,d,e,C',od,m,rfl,k,bare,un,b9,F,c,hD⟩:=q;have I1:Inv X a r m s1:=d.xO k un b9 bare λb z=>absurd z (by simp);have hfs:(X.env::X.outer).filterMap (·.frame)=sD X.stack:=by rw[l.1];rfl
 have t:=I1.uh
 have L:G.heap.objs.size<=s1.heap.objs.size:=wht λz=>by
  obtain⟨Qe,_,vs,sl,he,_⟩:=F;exact absurd (waw (wbg Qe (waf he)) (wfk z)) (wbj _)
 refine AG (lo:=G.heap.objs.size) (H:=m) (base:=X.base) (outer:=X.outer) (by rw[<-l.1];exact d.ok.frames) (by rw[<-l.1];exact I1.stack) l.2 L (λb g=>b9.fresh g) F λZ F2 p=>?_;rw[hfs]at p;obtain⟨M,n,J2⟩:=d.CI k bare un b9 p t;have u:=J2 s1.toks;obtain⟨qC,NC,bsC,snC,zao,abC,zap,ddC,c0,c1,c2,c3,c5,O⟩:=U.lk;obtain⟨qD,ND,bsD,snD,zaq,abD,zar,ddD,e0,e1,e2,e3,e5,Q⟩:=U'.lk;obtain⟨ZL,sl2,w,_⟩:=id F2.ob;rcases c with c |c
 ·cases c;refine weK (wep (gW (X:=X.marked e) (u.marked (e:=e)) hg hm ?_ J)) (by intro z;cases z);refine sT (u.iL _ _ O) w rfl ?_;refine wga ?_;refine uX F2 λR F3 S=>?_;have A:Fn G.heap.objs.size m (sD X.stack) Z R:=⟨λb o q g _=>S b o q g,λb o q g=>⟨o.slots,S b o q (.inl ?_)⟩⟩
  rotate_left
  ·have:∃o,G.heap.get? b=some o:=by
    obtain⟨_,o,B,_⟩:=d.stack.mem g;exact⟨o,B⟩
   obtain⟨o,B⟩:=this;exact waf B
  obtain⟨un3,V,J3⟩:=d.CI (s1:={s1 with heap:=Z}) k bare M n A t;have I3:=J3 s1.toks;have Y:=gD (X:=(X.marked e).LW) (j:=jj) (pos:=p3) a {s1 with heap:=R} r m (λv C=>v=.non/\C=m) ((I3.marked (e:=e)).oM _) ⟨rfl,rfl⟩;refine wcV (we2 (Nq (bY Y λv s5 ⟨y,H5,E,r5,ey,eH⟩=>?_)) Tq);subst ey;subst eH;have E:=(E.gF).unmarked d.ok;refine jK E hN hi hx r5 (λs6 I6=>wcq ?_) hf;exact⟨_,_,I6,hD⟩
 ·cases c;refine weK (wep (gW (X:=X.marked e) (u.marked (e:=e)) hg hm ?_ J)) (by intro z;cases z);refine zL (u.iL _ _ O) (u.iL _ _ Q) w rfl wZ hnb ?_;refine weK (wep (gW (X:=X.marked e) (u.marked (e:=e)) hg' TB ?_ T)) (by intro z;cases z);refine sT (u.iL _ _ Q) w rfl ?_;refine wga ?_;refine uX F2 λR F3 S=>?_;have A:Fn G.heap.objs.size m (sD X.stack) Z R:=⟨λb o q g _=>S b o q g,λb o q g=>⟨o.slots,S b o q (.inl ?_)⟩⟩
  rotate_left
  ·have:∃o,G.heap.get? b=some o:=by
    obtain⟨_,o,B,_⟩:=d.stack.mem g;exact⟨o,B⟩
   obtain⟨o,B⟩:=this;exact waf B
  obtain⟨un3,V,J3⟩:=d.CI (s1:={s1 with heap:=Z}) k bare M n A t;have I3:=J3 s1.toks;have Y:=gD (X:=(X.marked e).LW) (j:=jk) (pos:=q3) a {s1 with heap:=R} r m (λv C=>v=.non/\C=m) ((I3.marked (e:=e)).oM _) ⟨rfl,rfl⟩;refine wcV (we2 (Nq (bY Y λv s5 ⟨y,H5,E,r5,ey,eH⟩=>?_)) Vj);subst ey;subst eH;have E:=(E.gF).unmarked d.ok;refine jK E hN hi hx r5 (λs6 I6=>wcq ?_) hf;exact⟨_,_,I6,hD⟩
end
end L2
namespace Bs
open PySem L2 Sx
structure Oe(K:wa2)(C CB CP CS:Addr)(H:Hp)(x:Addr)(g:Str)(bw:List Str)(many:Int)(n:Nat):Prop where
 ex:∃(xb:Addr) (ss ls:List Str) (f0 f:Str->Int) (ri:List zz) (ks:List Nat) (hs:List Str) (ws:List Int) (lns:List (List (Str×Nat))) (b:Nat),aY CB H xb g bw ss ls/\BA K C CP CS H x xb many n (cI f ls) ri ks hs ws lns b/\G1 g bw ss many n/\uA g bw ss ls many n f0/\(∀p∈ls,f p<=f0 p)/\iq g bw ss ls many n f ri ks hs ws lns/\GD many n (fB lns ks many.toNat)/\nK bw n b
end Bs
namespace Sx
open PySem L2 Bs
inductive LJ(K:wa2)(C CB CP CS:Addr)(vs:List V)(H:Hp)(Q:VK)(eE:XK):Prop
 |mk (g:Str) (a:Addr) (many:Int) (n:Nat) (bw:List Str) (_:vs=[.str g,.ref a,.int many,.int (n:Int)]) (_:aL K H a (bw.map V.str)) (_:AA g) (_:bw.length<=6) (_:(∀w∈bw,zh g w)) (_:gK g.length many n) (_:∀(v:V) (H':Hp),a9 H H'->(v=.non\/∃x,v=.ref x/\Oe K C CB CP CS H' x g bw many n)->Q v H')
end Sx
namespace Bs
open PySem L2 Sx AC
section
variable{ws ss:List Str}{r:Str}
theorem BC(g:ss.Perm (bS ws "" ws))(hw:∀w∈ws,1<=w.length)(l:bears ws r=false)(w:Str):∀i,i<=w.length->bears ws (lend ss r++dE w i)=bears ws (r++dE w i)/\(bears ws (r++dE w i)=false->lend ss (lend ss r++dE w i)=lend ss (r++dE w i))
 |0,_=>by
  have n:("":Str)∈ss:=g.mem_iff.mpr (cy ws);rw[take_zero,kT,kT];obtain⟨o,p⟩:=oY g hw (pN n r);exact⟨by rw[o,l],λ_=>p⟩
 |i+1,hi=>by
  obtain⟨f,j⟩:=BC g hw l w i (by omega);have hc:(ch w)[i]?=some ((ch w)[i]'(by rw[aW];omega)):=wa1 _;generalize (ch w)[i]'(by rw[aW];omega)=c at hc;rw[take_snoc hc,<-eV,<-eV]
  cases d:bears ws (r++dE w i) with
  |true=>
   have up:∀q:Str,bears ws q=true->bears ws (q++⟨#[c]⟩)=true:=λq s=>by
    cases e:bears ws (q++⟨#[c]⟩) with
    |true=>rfl
    |false=>
     have:=jQ (a:=q) (b:=q++⟨#[c]⟩) (by rw[aZ];exact(wdV _ _).isInfix) e;rw[s]at this;cases this
   rw[up _ d,up _ (f.trans d)];exact⟨rfl,λz=>by cases z⟩
  |false=>
   have hl:=j d;have h:=f.trans d;have t:=kL (c:=c) g d hw;have k:=kL (c:=c) g h hw;have u:=nX (c:=c) g d;have m:=nX (c:=c) g h;rw[hl]at k m;exact⟨k.symm.trans t,λ_=>m.symm.trans u⟩
theorem Of(g:ss.Perm (bS ws "" ws))(hw:∀w∈ws,1<=w.length)(j:bears ws r=false){w:Str}(h:bears ws (lend ss r++w)=false):bears ws (r++w)=false/\lend ss (r++w)=lend ss (lend ss r++w):=by
 obtain⟨a,b⟩:=BC g hw j w w.length (waa _);rw[take_all]at a b;rw[h]at a;exact⟨a.symm,(b a.symm).symm⟩
end
theorem snoc_ind{α:Type}{P:List α->Prop}(h0:P [])(g:∀l a,P l->P (l++[a]))(l:List α):P l:=by
 have h:∀m:List α,P m.reverse:=λm=>by
  induction m with
  |nil=>exact h0
  |cons a m b=>rw[List.reverse_cons];exact g _ _ b
 rw[<-List.reverse_reverse l];exact h _
theorem Jr(wl:List (List (Str×Nat))):∀(b:List Nat) (r:Str) (e:Nat),b.foldl (me wl) (r,e)=(r++(b.foldl (me wl) ("",e)).1,(b.foldl (me wl) ("",e)).2):=by intro b;induction b<;>grind [kT,wdF,me,wl,uv,eV]
def Js(bw ss hk:List Str)(wl:List (List (Str×Nat))):Prop:=∀d,d<wl.length->∀q∈wl.getD d [],bears bw (hk.getD d ""++q.1)=false/\lend ss (hk.getD d ""++q.1)=hk.getD q.2 ""
theorem Ge{many:Int}{n:Nat}{bw ss hk:List Str}{wl:List (List (Str×Nat))}(g:GD many n wl)(j:ss.Perm (bS bw "" bw))(hw:∀w∈bw,1<=w.length)(G:Js bw ss hk wl){d:Nat}(hd:d<wl.length)(p:hk.getD d ""∈ss):∀ts:List Nat,(∀t∈ts,(t:Int)<many)->bears bw (hk.getD d ""++(cO wl d ts).1)=false/\lend ss (hk.getD d ""++(cO wl d ts).1)=hk.getD (cO wl d ts).2 "":=by
 intro ts;refine snoc_ind (P:=λ(ts:List Nat)=>(∀t∈ts,(t:Int)<many)->bears bw (hk.getD d ""++(cO wl d ts).1)=false/\lend ss (hk.getD d ""++(cO wl d ts).1)=hk.getD (cO wl d ts).2 "") ?_ ?_ ts
 ·intro _;obtain⟨c,e⟩:=oY j hw p;show bears bw (hk.getD d ""++("":Str))=false/\lend ss (hk.getD d ""++("":Str))=hk.getD d "";rw[kT];exact⟨c,e⟩
 ·intro ts t f h;obtain⟨i,k⟩:=f λx a=>h x (waW _ a);have r:=h t (waL _ (waq.mpr rfl));obtain⟨b,_⟩:=qQ g hd (ts:=ts) λx a=>h x (waW _ a);rw[yN];unfold me;have hl:=wa8 (d4 b);have m:=g.ln _ hl;have o:=wa8 (rY (l:=wl.getD (cO wl d ts).2 []) (t:=t) (by omega));obtain⟨g1,g2⟩:=G _ b _ o;rw[<-k]at g1 g2;obtain⟨c1,q⟩:=Of j hw i g1;dsimp only;rw[<-eV];exact⟨c1,q.trans g2⟩
theorem xk.Fi{g:Str}{bw ss ls:List Str}{n:Nat}{hs:List Str}{lns:List (List (Str×Nat))}(h:xk (aV g bw ss ls n) hs lns)(hl:lns.length=hs.length)(j:∀p∈hs,p∈ss)(l:ss.Perm (bS bw "" bw))(hw:∀w∈bw,1<=w.length){i:Nat}(hi:i<hs.length){q:Str×Nat}(r:q∈lns.getD i []):bears bw (hs.getD i ""++q.1)=false/\lend ss (hs.getD i ""++q.1)=hs.getD q.2 ""/\q.1∈JT g n:=by
 have k:hs.getD i ""=hs[i]:=by rw[wa3,wa1 hi];rfl
 have m:hs[i]?=some hs[i]:=wa1 hi;have o:lns[i]?=some (lns.getD i []):=by rw[wa3,wa1 (by omega)];rfl
 have a:0<ia hs[i] (q.1,q.2) hs lns:=by
  have:=kZ (z:=(q.1,q.2)) m o;have hc:0<(lns.getD i []).count (q.1,q.2):=wbZ.mpr r;omega
 rw[h hs[i] q.1 q.2]at a
 by_cases c:q.2<hs.length/\hs[i]∈hs/\(q.1,hs.getD q.2 "")∈aV g bw ss ls n hs[i]
 ·have e:=(wau.mp c.2.2).1;rw[vp l hw (j _ (waN hi))]at e;obtain⟨z,s,d⟩:=wdL.mp e;unfold kW at d;rw[k]
  by_cases b:bears bw (hs[i]++z)=true
  ·rw[if_pos b]at d;cases d
  ·rw[if_neg b]at d;have f:=wae d;have t:z=q.1:=congrArg Prod.fst f;have u:lend ss (hs[i]++z)=hs.getD q.2 "":=congrArg Prod.snd f;subst t;exact⟨by simpa using b,u,s⟩
 ·rw[if_neg c]at a;omega
noncomputable def pw(hs:List Str)(ks:List Nat):List Str:=ks.map λd=>hs.getD d ""
theorem kd{hs:List Str}{g:List Nat}{i:Nat}(hi:i<g.length):(pw hs g).getD i ""=hs.getD g[i] "":=by
 unfold pw;rw[wa3,wa4,wa1 hi];rfl
theorem iq.steps{g:Str}{bw ss ls:List Str}{many:Int}{n:Nat}{f:Str->Int}{r:List zz}{j:List Nat}{hs:List Str}{ws:List Int}{lns:List (List (Str×Nat))}(P:iq g bw ss ls many n f r j hs ws lns)(C:ss.Perm (bS bw "" bw))(hw:∀w∈bw,1<=w.length)(t:∀p∈ls,p∈ss)(m:Nat){d:Nat}(hd:d<j.length):j[d]<hs.length/\∀q∈(fB lns j m).getD d [],∃e,(q.1,e)∈lns.getD j[d] []/\e∈j/\q.2=j.idxOf e/\bears bw (hs.getD j[d] ""++q.1)=false/\lend ss (hs.getD j[d] ""++q.1)=hs.getD e ""/\q.1∈JT g n:=by
 have hk:=(P.ko.st j[d] (waN hd)).1;rw[P.b.l]at hk;refine⟨hk,λq c=>?_⟩
 have i:(fB lns j m).getD d []=gn j m (lns.getD j[d] []):=by
  unfold fB;rw[wa3,wa4,wa1 hd];rfl
 rw[i]at c;unfold gn at c;obtain⟨z,k,rfl⟩:=wab.mp c;have a:=wau.mp ((wbk _ _).subset k);obtain⟨c1,o,s⟩:=P.cv.Fi P.b.l (λp h=>t p (P.sb p h)) C hw hk a.1;exact⟨z.2,a.1,of_decide_eq_true a.2,rfl,c1,o,s⟩
theorem iq.Fi{g:Str}{bw ss ls:List Str}{many:Int}{n:Nat}{f:Str->Int}{l:List zz}{j:List Nat}{hs:List Str}{ws:List Int}{lns:List (List (Str×Nat))}(P:iq g bw ss ls many n f l j hs ws lns)(t:ss.Perm (bS bw "" bw))(hw:∀w∈bw,1<=w.length)(r:∀p∈ls,p∈ss)(m:Nat):Js bw ss (pw hs j) (fB lns j m):=by
 intro d hd q i
 have a:d<j.length:=by
  unfold fB at hd;rwa[wa0]at hd
 obtain⟨hk,h⟩:=P.steps t hw r m a;obtain⟨e,o,b,c,c1,k,_⟩:=h q i;have hi:=wc0.mpr b;rw[kd a,c,kd hi,wdZ hi];exact⟨c1,k⟩
end Bs
namespace Bs
open PySem L2 Sx
theorem wo{p:Str}{z:Str×Nat}:∀{hs:List Str} {lns:List (List (Str×Nat))} {i j:Nat} {l m:List (Str×Nat)},i<j->hs[i]?=some p->hs[j]?=some p->lns[i]?=some l->lns[j]?=some m->l.count z+m.count z<=ia p z hs lns
 |[],_,_,_,_,_,_,h,_,_,_=>nomatch h
 |_,[],_,_,_,_,_,_,_,h,_=>nomatch h
 |h::hs,k::lns,0,j+1,l,m,_,a,b,c,d=>by
  cases a;cases c;have:=kZ (z:=z) (p:=p) (hs:=hs) (lns:=lns) (i:=j) (by simpa using b) (by simpa using d);show _<=(if p=p then k.count z else 0)+_;rw[if_pos rfl];omega
 |h::hs,k::lns,i+1,j+1,l,m,q,a,b,c,d=>by
  have:=wo (z:=z) (hs:=hs) (lns:=lns) (i:=i) (j:=j) (l:=l) (m:=m) (by omega) (by simpa using a) (by simpa using b) (by simpa using c) (by simpa using d);show _<=(if h=p then k.count z else 0)+_;omega
theorem getD_some{α:Type}{l:List α}{i:Nat}(x:α)(h:i<l.length):l[i]?=some (l.getD i x):=by
 rw[wa3,wa1 h];rfl
theorem xk.most{B:Str->List (Str×Str)}{hs:List Str}{lns:List (List (Str×Nat))}(h:xk B hs lns)(p:Str)(z:Str×Nat):ia p z hs lns<=1:=by
 have:=h p z.1 z.2;rw[show (z.1,z.2)=z from rfl]at this;rw[this];split<;>omega
theorem xk.one{B:Str->List (Str×Str)}{hs:List Str}{lns:List (List (Str×Nat))}(h:xk B hs lns)(hl:lns.length=hs.length){d d':Nat}(hd:d<hs.length)(g:d'<hs.length)(e:hs.getD d ""=hs.getD d' ""){q:Str×Nat}(j:q∈lns.getD d [])(l:q∈lns.getD d' []):d=d':=by
 have c1:=wbZ.mpr j;have f:=wbZ.mpr l;have a:=getD_some ("":Str) hd;have b:=getD_some ("":Str) g;rw[<-e]at b;have m:=h.most (hs.getD d "") q;have l1:=getD_some [] (show d<lns.length by omega);have c:=getD_some [] (show d'<lns.length by omega);rcases wfd d d' with z |z |z
 ·have:=wo (z:=q) z a b l1 c;omega
 ·exact z
 ·have:=wo (z:=q) z b a c l1;omega
theorem xk.cnt{B:Str->List (Str×Str)}{hs:List Str}{lns:List (List (Str×Nat))}(h:xk B hs lns)(hl:lns.length=hs.length){d:Nat}(hd:d<hs.length)(q:Str×Nat):(lns.getD d []).count q<=1:=
 wal (kZ (getD_some ("":Str) hd) (getD_some [] (show d<lns.length by omega))) (h.most _ q)
def ke(lns:List (List (Str×Nat))):Nat->List Str->Prop
 |_,[]=>True
 |d,w::ws=>∃e,(w,e)∈lns.getD d []/\ke lns e ws
def Gf(hs:List Str)(lns:List (List (Str×Nat)))(s:Nat):Prop:=∀d d' ws,d<lns.length->d'<lns.length->hs.getD d ""=hs.getD d' ""->ws.length=s->ke lns d ws->ke lns d' ws->d=d'
noncomputable def ua(d t e:Nat):Nat:=if e=t then d else e
theorem wq{l:List (Str×Nat)}{w:Str}{d t e:Nat}(hl:∀q∈l,q.2<t)(h:(w,e)∈eZ d t l):(w,ua d t e)∈l:=by
 unfold eZ at h;obtain⟨q,a,h⟩:=wcD.mp h;have:=hl q a;unfold ua
 by_cases c:q.2=d
 ·rw[if_pos c]at h;rcases waH.mp h with z |z
  ·rw[<-z]at a this;rw[if_neg (show ¬e=t from war this)];exact a
  ·have z:=waq.mp z;obtain⟨rfl,rfl⟩:=wc9 z;rw[if_pos rfl,<-c];exact a
 ·rw[if_neg c]at h;have z:=waq.mp h;rw[<-z]at a this;rw[if_neg (show ¬e=t from war this)];exact a
theorem Gg{lns:List (List (Str×Nat))}{d i:Nat}{ns:List Int}(hd:d<lns.length)(hi:i<lns.length+1):(dW lns d ns).getD i []=eZ d lns.length (if i=d then b0 ns (lns.getD d []) else if i=lns.length then aX ns (lns.getD d []) else lns.getD i []):=by
 unfold dW;rw[wa3,wa4,List.getElem?_set]
 by_cases a:i=d
 ·subst a;rw[if_pos rfl,if_pos rfl,if_pos (by rw[wa5];omega)];rfl
 ·rw[if_neg (λz=>a z.symm),if_neg a]
  by_cases b:i=lns.length
  ·subst b;rw[if_pos rfl,waC (waa _),wbC];rfl
  ·rw[if_neg b,waG (by omega),getD_some [] (show i<lns.length by omega)];rfl
theorem nZ{lns:List (List (Str×Nat))}{d i e:Nat}{ns:List Int}{w:Str}(hd:d<lns.length)(hi:i<lns.length+1)(p:∀l∈lns,∀q∈l,q.2<lns.length)(h:(w,e)∈(dW lns d ns).getD i []) :
 (w,ua d lns.length e)∈lns.getD (ua d lns.length i) []/\(i=d->(w,ua d lns.length e)∈b0 ns (lns.getD d []))/\(i=lns.length->(w,ua d lns.length e)∈aX ns (lns.getD d [])):=by
 have g:∀j,∀q∈lns.getD j [],q.2<lns.length:=λj q f=>by
  by_cases z:j<lns.length
  ·exact p _ (wa8 (getD_some [] z)) q f
  ·rw[wa3,wcl (by omega)]at f;cases f
 rw[Gg hd hi]at h
 by_cases a:i=d
 ·rw[if_pos a]at h;have c:=wq (λq f=>g d q (et f)) h;refine⟨?_,λ_=>c,λz=>absurd z (by omega)⟩;have:ua d lns.length i=d:=by unfold ua;rw[if_neg (by omega)];exact a
  rw[this];exact et c
 ·rw[if_neg a]at h
  by_cases b:i=lns.length
  ·rw[if_pos b]at h;have c:=wq (λq f=>g d q (et f)) h;refine⟨?_,λz=>absurd z a,λ_=>c⟩;have:ua d lns.length i=d:=by unfold ua;rw[if_pos b]
   rw[this];exact et c
  ·rw[if_neg b]at h;refine⟨?_,λz=>absurd z a,λz=>absurd z b⟩;have:ua d lns.length i=i:=by unfold ua;rw[if_neg b]
   rw[this];exact wq (g i) h
theorem sf{lns:List (List (Str×Nat))}{d i e:Nat}{ns:List Int}{w:Str}(hd:d<lns.length)(hi:i<lns.length+1)(g:∀l∈lns,∀q∈l,q.2<lns.length)(h:(w,e)∈(dW lns d ns).getD i []):e<lns.length+1:=by
 have a:=(nZ hd hi g h).1
 by_cases z:e=lns.length
 ·omega
 ·have:ua d lns.length e=e:=by unfold ua;rw[if_neg z]
  rw[this]at a;have b:ua d lns.length i<lns.length:=by unfold ua;split<;>omega
  have:=g _ (wa8 (getD_some [] b)) _ a;have:e<lns.length:=this;omega
theorem zM{lns:List (List (Str×Nat))}{d:Nat}{ns:List Int}(hd:d<lns.length)(g:∀l∈lns,∀q∈l,q.2<lns.length):∀(ws:List Str) (i:Nat),i<lns.length+1->ke (dW lns d ns) i ws->ke lns (ua d lns.length i) ws
 |[],_,_,_=>trivial
 |w::ws,i,hi,⟨e,h,r⟩=>⟨ua d lns.length e,(nZ hd hi g h).1,zM hd g ws e (sf hd hi g h) r⟩
theorem Gh{hs:List Str}{d i:Nat}(hi:i<hs.length+1):(cY hs d).getD i ""=hs.getD (ua d hs.length i) "":=by
 unfold cY ua;rw[wa3]
 by_cases z:i=hs.length
 ·rw[if_pos z,z,waC (waa _),wbC];rfl
 ·rw[if_neg z,waG (by omega),getD_some ("":Str) (show i<hs.length by omega)];rfl
theorem Gf.split{B:Str->List (Str×Str)}{hs:List Str}{lns:List (List (Str×Nat))}{m d:Nat}{F:Str->Str->Str}(D:Gf hs lns m)(C:xk B hs lns)(hl:lns.length=hs.length)(g:∀l∈lns,∀q∈l,q.2<hs.length)(hd:d<hs.length)(I:∀i,i<hs.length->∀q∈lns.getD i [],hs.getD q.2 ""=F (hs.getD i "") q.1)(ns:List Int):Gf (cY hs d) (dW lns d ns) (m+1):=by
 intro i j f hi b o a r s;have sl:(dW lns d ns).length=lns.length+1:=by unfold dW;rw[wa0,wc7,wa5];rfl
 rw[sl]at hi b;rw[<-hl]at g hd;have H:=λk (hk:k<lns.length+1)=>Gh (hs:=hs) (d:=d) (i:=k) (by omega)
 cases f with
 |nil=>cases a
 |cons w f=>
  obtain⟨e,v,p⟩:=r;obtain⟨z,A,t⟩:=s;obtain⟨a1,a2,a3⟩:=nZ hd hi g v;obtain⟨b1,E,G⟩:=nZ hd b g A;have p:=zM hd g f e (sf hd hi g v) p;have t:=zM hd g f z (sf hd b g A) t;rw[H i hi,H j b,<-hl]at o;have lt:∀k,k<lns.length+1->ua d lns.length k<lns.length:=λk hk=>by unfold ua;split<;>omega
  have J:=I _ (by have:=lt i hi;omega) _ a1;have L:=I _ (by have:=lt j b;omega) _ b1;have M:=g _ (wa8 (getD_some [] (lt i hi))) _ a1;have N:=g _ (wa8 (getD_some [] (lt j b))) _ b1;have u:=D _ _ f M N (by rw[J,L,o]) (wgY a) p t;have u:ua d lns.length e=ua d lns.length z:=u;rw[<-u]at b1 E G;have c:=C.one hl (by have:=lt i hi;omega) (by have:=lt j b;omega) o a1 b1
  have hc:∀{q},q∈b0 ns (lns.getD d [])->q∈aX ns (lns.getD d [])->False:=λ{q} x y=>by
   have c1:=wbZ.mpr x;have O:=wbZ.mpr y;have:=C.cnt hl (by omega:d<hs.length) q;have:=p0 (λi=>decide ((i:Int)∈ns)) q 0 (lns.getD d []);unfold b0 at c1;unfold aX at O;omega
  unfold ua at c
  by_cases n:i=lns.length
  ·by_cases h:j=lns.length
   ·omega
   ·rw[if_pos n,if_neg h]at c;exact(hc (E c.symm) (a3 n)).elim
  ·by_cases h:j=lns.length
   ·rw[if_neg n,if_pos h]at c;exact(hc (a2 c) (G h)).elim
   ·rw[if_neg n,if_neg h]at c;exact c
theorem iq.det{g:Str}{bw ss ls:List Str}{many:Int}{n:Nat}{f:Str->Int}{j:List zz}{I:List Nat}{hs:List Str}{ws:List Int}{lns:List (List (Str×Nat))}(P:iq g bw ss ls many n f j I hs ws lns)(nd:(ch g).Nodup)(C:ss.Perm (bS bw "" bw))(hw:∀w∈bw,1<=w.length)(t:∀p∈ls,p∈ss)(hl:ls.Nodup):Gf hs lns j.length:=by
 have key:∀{j hs ws lns},Runs many (au ls f) ((au ls f).map f) (bF g bw ss ls n (au ls f)) j hs ws lns->fA g bw ss ls many n f j hs ws lns/\Gf hs lns j.length:=by
  intro j hs ws lns h
  induction h with
  |nil=>
   refine⟨fA.start nd C hw t hl P.nn P.fit,λd o ws a b e _ _ _=>?_⟩;have hn:(au ls f).Nodup:=hl.filter _;have c:(bF g bw ss ls n (au ls f)).length=(au ls f).length:=by unfold bF;rw[wa0]
   rw[c]at a b;rw[wa3,wa3,wa1 a,wa1 b]at e;exact(wch hn).mp e
  |@snoc l hs ws lns d ns w r ok k=>
   obtain⟨L,D⟩:=k;refine⟨L.step ok,?_⟩;rw[wa5];exact D.split L.cv L.b.l L.b.e (L.b.split ok).2 (F:=λp w=>lend ss (p++w)) (λi hi q m=>((L.cv.Fi L.b.l (λp h=>t p (L.sb p h)) C hw hi m).2.1).symm) _
 exact(key P.rn).2
theorem ME{lns:List (List (Str×Nat))}{g:List Nat}{m d:Nat}(hd:d<g.length):(fB lns g m).getD d []=gn g m (lns.getD (g.getD d 0) []):=by
 unfold fB;rw[wa3,wa4,getD_some 0 hd];rfl
theorem wt(lns:List (List (Str×Nat)))(g:List Nat)(m:Nat):(fB lns g m).length=g.length:=wa0 ..
theorem Jt{lns:List (List (Str×Nat))}{g:List Nat}{m d:Nat}{q:Str×Nat}(h:q∈(fB lns g m).getD d []):d<g.length:=by
 refine wcm λz=>?_;rw[wa3,wcl (by rw[wt];omega)]at h;cases h
theorem zN{lns:List (List (Str×Nat))}{g:List Nat}{m d e:Nat}{w:Str}(h:(w,e)∈(fB lns g m).getD d []):e<g.length/\(w,g.getD e 0)∈lns.getD (g.getD d 0) []:=by
 rw[ME (Jt h)]at h;unfold gn at h;obtain⟨q,b,c⟩:=wab.mp h;obtain⟨f,a⟩:=wau.mp (wc2 b);have a:=of_decide_eq_true a;obtain⟨rfl,rfl⟩:=wc9 c;have hl:=wc0.mpr a;refine⟨hl,?_⟩;have:g.getD (g.idxOf q.2) 0=q.2:=by rw[wa3,wa1 hl];exact wdZ hl
 rw[this];exact f
theorem zO{lns:List (List (Str×Nat))}{g:List Nat}{m:Nat}:∀(ws:List Str) (d:Nat),ke (fB lns g m) d ws->ke lns (g.getD d 0) ws
 |[],_,_=>trivial
 |_::ws,_,⟨e,h,r⟩=>⟨g.getD e 0,(zN h).2,zO ws e r⟩
theorem yP:∀{l:List (Str×Nat)},(∀q,l.count q<=1)->l.Nodup
 |[],_=>wdo
 |a::l,h=>by
  refine wbF.mpr ⟨λz=>?_,yP λq=>wal (List.count_le_count_cons ..) (h q)⟩;have b:=h a;rw[List.count_cons_self]at b;have:=wbZ.mpr z;omega
structure yQ(bw ss hk:List Str)(wl:List (List (Str×Nat)))(s:Nat):Prop where
 det:Gf hk wl s
 go:Js bw ss hk wl
 inj:∀(d i j:Nat) (z:Str×Nat),(wl.getD d [])[i]?=some z->(wl.getD d [])[j]?=some z->i=j
 e:∀(d:Nat),∀q∈wl.getD d [],q.2<wl.length
theorem iq.read{g:Str}{bw ss ls:List Str}{many:Int}{n:Nat}{f:Str->Int}{I:List zz}{t:List Nat}{hs:List Str}{ws:List Int}{lns:List (List (Str×Nat))}(P:iq g bw ss ls many n f I t hs ws lns)(nd:(ch g).Nodup)(J:ss.Perm (bS bw "" bw))(hw:∀w∈bw,1<=w.length)(C:∀p∈ls,p∈ss)(hl:ls.Nodup)(m:Nat):yQ bw ss (pw hs t) (fB lns t m) I.length:=by
 have D:=P.det nd J hw C hl;have E:t.Nodup:=P.ko.ab.sub.nodup wfA;have s:∀{d},d<t.length->t.getD d 0<lns.length:=λ{d} hd=>(P.ko.st _ (wa8 (getD_some 0 hd))).1;refine⟨λd S G a b e l r H=>?_,P.Fi J hw C m,λd i j z c k=>?_,λd q u=>?_⟩
 ·rw[wt]at a b
  have h:=D _ _ G (s a) (s b) (by
   have v:=kd (hs:=hs) a;have A:=kd (hs:=hs) b;rw[v,A]at e;rw[wa3 (l:=t),wa1 a,wa3 (l:=t),wa1 b]
   exact e) l (zO _ _ r) (zO _ _ H)
  rw[wa3,wa1 a,wa3,wa1 b]at h;exact(wch E).mp h
 ·have hd:=Jt (wa8 c);rw[ME hd]at c k;have o:(lns.getD (t.getD d 0) []).Nodup:=yP λq=>P.cv.cnt P.b.l (by have:=s hd;have:=P.b.l;omega) q;generalize lns.getD (t.getD d 0) []=B at c k o;have nt:((cZ t B).take m).Nodup:=(o.filter _).sublist (wbk _ _);have mem:∀q∈(cZ t B).take m,q.2∈t:=λq u=>of_decide_eq_true (wau.mp (wc2 u)).2;unfold gn at c k;generalize (cZ t B).take m=l at c k nt mem;rw[wa4]at c k;obtain⟨p,c,v⟩:=wdj.mp c;obtain⟨q,k,A⟩:=wdj.mp k;have L:=v.trans A.symm;obtain⟨a,b⟩:=wc9 L;have M:=wc0.mpr (mem p (wa8 c));have N:=wc0.mpr (mem q (wa8 k))
  have b:p.2=q.2:=by
   have x:=wdZ M;have y:=wdZ N;rw[<-x,<-y];congr 1
  have O:p=q:=wed a b;rw[<-O]at k;obtain⟨T,Q⟩:=wa6.mp c;obtain⟨U,R⟩:=wa6.mp k;exact(wch nt).mp (Q.trans R.symm)
 ·rw[wt];exact(zN (w:=q.1) (e:=q.2) u).1
theorem o1{wl:List (List (Str×Nat))}:∀(k:Nat) (ws:List Str) (d:Nat),ke wl d ws->ke wl d (ws.take k)
 |0,_,_,_=>trivial
 |_+1,[],_,_=>trivial
 |k+1,_::ws,_,⟨e,h,r⟩=>⟨e,h,o1 k ws e r⟩
theorem yQ.one{bw ss hk:List Str}{wl:List (List (Str×Nat))}{s:Nat}(R:yQ bw ss hk wl s){d d' i l e g:Nat}{w:Str}{us:List Str}(hd:d<wl.length)(j:d'<wl.length)(r:hk.getD d ""=hk.getD d' "")(t:(wl.getD d [])[i]?=some (w,e))(p:(wl.getD d' [])[l]?=some (w,g))(hl:us.length=s)(C:ke wl e us)(I:ke wl g us):i=l:=by
 have m1:=wa8 t;have c:=wa8 p;have a:=(R.go d hd _ m1).2;have b:=(R.go d' j _ c).2
 have f:e=g:=R.det e g us (R.e d _ m1) (R.e d' _ c) (by
  show hk.getD (w,e).2 ""=hk.getD (w,g).2 ""
  rw[<-a,<-b,r]) hl C I
 have h:=o1 s (w::us) d ⟨e,m1,C⟩;have k:=o1 s (w::us) d' ⟨g,c,I⟩;have m:=R.det d d' _ hd j r (by rw[wai,waM];omega) h k;rw[<-f,<-m]at p;exact R.inj d i l _ t p
end Bs
namespace L2
open PySem PySem.Spec PyProof.Rows
inductive Vk(a:Addr)(y z:V)(H:Hp)(Q:VK):Prop
 |mk (kvs k) (_:H a=some (.dK kvs)) (_:y=kV k) (_:(putK kvs k z).length<=sizeLine) (_:∀v,bE kvs k=some v->Q v H) (_:bE kvs k=none->Q z (upd H a (.dK (putK kvs k z))))
def Rt(td ty tx:TE):TE:=λσ H Q=>td σ H λx H1=>∃a,x=.ref a/\Tl H1 a/\ty σ H1 λy H2=>tx σ H2 λz H3=>Vk a y z H3 Q
section
variable{X:Cx}{o e f:Expr}{apos fg:Pos}{td ty tx:TE}
theorem DF(t:PE X o td)(C:PE X e ty)(J:PE X f tx)(m:M2 X o "setdefault" apos e f fg):PE X (.Call (.Attribute o "setdefault" apos) [e,f] [] fg) (Rt td ty tx):=by
 intro b s σ H Q I h;refine wpAny_Call_method m.base m.few m.line wd1 weQ PySem.F.type_dict_setdefault (bY (t b s σ H _ I h) λu A ⟨x,B,j,D,a,ex,d,E⟩=>?_);subst ex;obtain rfl:u=wam a:=D;obtain⟨G,L,_⟩:=Hn j d;refine⟨G,L,?_⟩;rw[m.trees]
 refine wdk rfl (wev (wda (bY (C b A σ B _ j E) λiv M ⟨y,N,O,R,S⟩=>
  wda (bY (J b M σ N _ O S) λT s3 ⟨z,U,i,l,V⟩=>wf6 ?_))))
 obtain⟨c,k,n,Y,Z,qa,qb⟩:=V;subst Y;obtain⟨z0,hd,vs,rel,p⟩:=sG i.b9 n;refine wfq weQ p.typeIs PySem.F.entry_dict_setdefault (PySem.F.args_dict_setdefault_3 _ _ _) (kt_meets_setdefault (bz X.prog X.w) a (sF R) hd T) ⟨vs,p,by rw[<-rel.length];exact z0,λv hv=>?_,λhn h' g hs=>?_⟩
 ·have r:=rel.val k;rw[hv]at r
  cases q:bE c k with
  |none=>rw[q]at r;exact(show False from r).elim
  |some x=>rw[q]at r;exact⟨x,U,i.tok _,r,qa x q⟩
 ·have r:=rel.val k;rw[hn]at r
  have q:bE c k=none:=by
   cases q:bE c k with
   |none=>rfl
   |some x=>rw[q]at r;exact(show False from r).elim
  have hx:∃q,h'.get? a=some q:=let ⟨q,_,_,hq,_⟩:=g;⟨q,hq⟩
  exact⟨z,_,um i (by rw[n];exact wbu) hs hx (Ch Z hd (rel.put k l) g),l,qb q⟩
end
noncomputable def Og(K:wa2)(a:Addr)(n:Nat):It:=
 ⟨λi H=>∃xs x,aL K H a xs/\xs.length=n/\i<n/\xs[n-1-i]?=some x,λi H x H'=>H'=H/\∀xs,aL K H a xs->xs[n-1-i]?=some x,λi _=>i=n⟩
theorem Ju(K:wa2)(a:Addr)(xs:List V):ml (Og K a xs.length) (λH=>aL K H a xs) xs.reverse:=
 ⟨λi H q hi=>⟨xs,xs[xs.length-1-i]'(by rw[wcC]at hi;omega),q,rfl,by rwa[wcC]at hi,wa1 _⟩,λi H x b q hi y=>⟨y.1,by rw[wgq (by rwa[wcC]at hi)];exact y.2 xs q⟩,λH _=>wcC ..⟩
theorem Jv{P:wat}{w:World}{K:wa2}{J:Expr}(a it:Addr)(n:Nat):Turn P w K J (Og K a n) [it] it (λi h=>h.IsRevIter it a ((n:Int)-1-(i:Int))) where
 mem:=by simp
 obj:=λi h st b j=>by
  have e:b=it:=by simpa using j
  subst e;obtain⟨o,e,c,d⟩:=st;exact⟨o,e,λv z=>by rw[d]at z;cases z⟩
 keep:=λi h l st k=>st.at λo e=>k it (by simp) o e
 item:=by
  intro X r hw t hc i g s σ H E I m st q;subst r hw t;obtain⟨V,x,D,hn,hi,G⟩:=q;obtain⟨L,M,p,Y⟩:=I.list D;obtain⟨u,N,O⟩:=M.get G;obtain⟨y,f1,f2,A,B,C⟩:=m it (by simp);have Q:(n:Int)-1-(i:Int)=((n-1-i:Nat):Int):=by omega
  have f:s.heap.IsRevIter it a ((n-1-i:Nat):Int):=by rw[<-Q];exact st
  refine wpAny_pyNext_rev_item f p.isList (x:=u) (by simpa using N) λl f sb=>?_;have R:((n-1-i:Nat):Int)-1=(n:Int)-1-((i+1:Nat):Int):=by omega
  rw[R]at f;have S:Inv X g σ H {s with heap:=l}:=I.turned (t':=s.toks) (λb o j e=>(sb.2 b j).trans e) y f1 A B C;obtain⟨o,e,c,d⟩:=id f;exact⟨u,rfl,xP (s:={s with heap:=l}) e c d (by decide) ⟨x,H,S,O,⟨rfl,λZ T=>by rw[I.pF T D];exact G⟩,f,λb j=>(m b j).1⟩⟩
 done:=by
   intro X r hw t hc i g s σ H E I m st q;subst r hw t;have q:i=n:=q;obtain⟨y,f1,f2,A,B,C⟩:=m it (by simp);have f:s.heap.IsRevIter it a (-1):=by rw[show (-1:Int)=(n:Int)-1-(i:Int) by omega];exact st
   exact wpAny_pyNext_rev_end (I.ok.hd hc) f λl U=>⟨rfl,I.turned (t':=s.toks) (λb o j e=>U b o j e) y f1 A B C⟩
 self:=λ_ _ _ _ _ st h=>wgC st h
inductive Vl(K:wa2)(vs:List V)(H:Hp)(R:It->Hp->Prop):Prop
 |mk (a xs) (_:vs=[.ref a]) (_:aL K H a xs) (_:R (Og K a xs.length) H)
def Vm(K:wa2)(ta:TA):TI:=λσ H R=>ta σ H λvs H1=>Vl K vs H1 R
theorem Oh{X:Cx}{tg l:Expr}{ta:TA}{p pos:Pos}(hg:Gl X "reversed")(hm:X.mg "reversed"=none)(ha:PA X [l] ta)(hs:starEach [l] X.env=[(false,eval l X.env)]:=by rfl) :
 PI X tg (.Call (.Name "reversed" p) [l] [] pos) (Vm X.K ta):=by
 intro pins s σ H R I h;refine Call_ (gE I hg hm PyProof.Rows.boot_reversed (wbr (bY (ha pos pins s σ H _ I h) λus s1 ⟨vs,H1,I1,r1,q1⟩=>?_) hs rfl));obtain⟨a,xs,e,hq,q⟩:=q1;subst e;obtain⟨u,rfl,ru⟩:=vals1 r1;cases ru;obtain⟨its,rv,pl,hz⟩:=I1.list hq;have hl:its.toArray.size=xs.length:=by rw[waB];exact rv.length.symm
 refine call_reversed_list pl.isList ?_
 have hit:(s1.heap.push (revObj a ((its.toArray.size:Int)-1))).IsRevIter s1.heap.objs.size a ((xs.length:Int)-1-((0:Nat):Int)):=by
  refine⟨_,wav _ rfl,rfl,?_⟩;show we6 _=_;rw[hl];rw[show (xs.length:Int)-1-((0:Nat):Int)=(xs.length:Int)-1 by omega]
 refine wgC hit ?_;refine⟨s1.heap.objs.size,[s1.heap.objs.size],_,_,H1,rfl,I1.kept (t':=s1.toks) λb o e=>wa9 _ e,Jv a _ _,hit,λb hb=>?_,q⟩;have e:b=s1.heap.objs.size:=by simpa using hb
 subst e;exact I1.yX (waa _) (I1.b9.fresh (waa _))
end L2
namespace Bs
open PySem L2 Sx
noncomputable def cat:List Str->Str
 |[]=>""
 |w::ws=>w++cat ws
theorem Jw:∀ws:List Str,ch (cat ws)=(ws.map ch).flatten
 |[]=>rfl
 |w::ws=>by
  show ch (w++cat ws)=_;rw[aZ,Jw ws,wax,wc5]
theorem hX{n:Nat}:∀{ws:List Str},(∀w∈ws,w.length=n)->(cat ws).length=n*ws.length
 |[],_=>rfl
 |w::ws,h=>by
  show (w++cat ws).length=_;rw[len_app,hX λx a=>h x (wac _ a),h w (wag ..),waM,wea,Nat.mul_one,wgX]
theorem qT:∀a b:List Str,cat (a++b)=cat a++cat b
 |[],b=>(uv _).symm
 |w::a,b=>by
  show w++cat (a++b)=w++cat a++cat b;rw[qT a b,eV]
theorem BD{n:Nat}{ws:List Str}(h:∀w∈ws,w.length=n)(i:Nat):(ch (cat ws)).drop (n*i)=ch (cat (ws.drop i)):=by
 by_cases c:i<=ws.length
 ·have e:ch (cat ws)=ch (cat (ws.take i))++ch (cat (ws.drop i)):=by rw[<-aZ,<-qT,wbT]
  have hl:(ch (cat (ws.take i))).length=n*i:=by rw[aW,hX λw hw=>h w (wc2 hw),wai,wdG c]
  rw[e,wcx (by omega),<-hl,whz,wdH]
 ·rw[wby (show ws.length<=i by omega),wby]
  ·rfl
  ·rw[aW,hX h];exact wc8 _ (by omega)
theorem BE{n:Nat}{ws:List Str}(h:∀w∈ws,w.length=n)(i:Nat):(ch (cat ws)).take (n*i)=ch (cat (ws.take i)):=by
 by_cases c:i<=ws.length
 ·have e:ch (cat ws)=ch (cat (ws.take i))++ch (cat (ws.drop i)):=by rw[<-aZ,<-qT,wbT]
  have hl:(ch (cat (ws.take i))).length=n*i:=by rw[aW,hX λw hw=>h w (wc2 hw),wai,wdG c]
  rw[e,List.take_append_of_le_length (by omega),<-hl,waI]
 ·rw[wbf (show ws.length<=i by omega),wbf];rw[aW,hX h];exact wc8 _ (by omega)
theorem Gi(x:Str){i j:Nat}(h:i<=j)(g:j<=x.length):ch (wb9 x (some (i:Int)) (some (j:Int)))=((ch x).take j).drop i:=by
 rw[mC,StrLaws.sliceText_nat x h g,wgo]
theorem zP{n:Nat}{ws:List Str}(h:∀w∈ws,w.length=n){i j:Nat}(g:i<=j)(l:j<=ws.length):wb9 (cat ws) (some ((n*i:Nat):Int)) (some ((n*j:Nat):Int))=cat ((ws.take j).drop i):=by
 refine cR ?_;rw[Gi _ (wc8 _ g) (by rw[hX h];exact wc8 _ l),BE h,BD λw hw=>h w (wc2 hw)]
theorem Oi{n:Nat}{ws:List Str}(h:∀w∈ws,w.length=n)(j:Nat):wb9 (cat ws) none (some ((n*j:Nat):Int))=cat (ws.take j):=by
 refine cR ?_;rw[Az,BE h]
theorem Jx{n:Nat}{ws:List Str}(h:∀w∈ws,w.length=n)(j:Nat):wb9 (cat ws) (some ((n*j:Nat):Int)) none=cat (ws.drop j):=by
 refine cR ?_;rw[oS,BD h]
theorem EG(w:Str):cat [w]=w:=kT w
noncomputable def gp(wl:List (List (Str×Nat)))(d t:Nat):Str×Nat:=(wl.getD d []).getD t ("",0)
noncomputable def eS(wl:List (List (Str×Nat))):Nat->List Nat->List Str
 |_,[]=>[]
 |d,t::ts=>(gp wl d t).1::eS wl (gp wl d t).2 ts
noncomputable def qU(wl:List (List (Str×Nat))):Nat->List Nat->Nat
 |d,[]=>d
 |d,t::ts=>qU wl (gp wl d t).2 ts
theorem lM(wl:List (List (Str×Nat))):∀(ts:List Nat) (d:Nat),cO wl d ts=(cat (eS wl d ts),qU wl d ts)
 |[],_=>rfl
 |t::ts,d=>by
  have h:=lM wl ts (gp wl d t).2;unfold cO at h ⊢;rw[wdF,show me wl ("",d) t=(("":Str)++(gp wl d t).1,(gp wl d t).2) from rfl,uv,Jr,h];rfl
theorem kg(wl:List (List (Str×Nat))):∀(ts:List Nat) (d:Nat),(eS wl d ts).length=ts.length
 |[],_=>rfl
 |_::ts,_=>congrArg (· + 1) (kg wl ts _)
theorem step_at{many:Int}{n:Nat}{wl:List (List (Str×Nat))}(g:GD many n wl){d t:Nat}(hd:d<wl.length)(j:(t:Int)<many):(wl.getD d [])[t]?=some (gp wl d t):=by
 have:=g.ln _ (wa8 (d4 hd));exact rY (by omega)
theorem wu{many:Int}{n:Nat}{wl:List (List (Str×Nat))}(g:GD many n wl):∀(ts:List Nat) (d:Nat),d<wl.length->(∀t∈ts,(t:Int)<many)->(∀w∈eS wl d ts,w.length=n)/\ke wl d (eS wl d ts)/\qU wl d ts<wl.length
 |[],d,hd,_=>⟨(λw h=>nomatch h),trivial,hd⟩
 |t::ts,d,hd,h=>by
  have f:=wa8 (step_at g hd (h t (wag ..)));have hl:=wa8 (d4 hd);obtain⟨a,b,c⟩:=wu g ts (gp wl d t).2 (g.e _ hl _ f) λx i=>h x (wac _ i);refine⟨λw hw=>?_,⟨_,f,b⟩,c⟩;rcases waH.mp hw with rfl |hw
  ·exact g.wd _ hl _ f
  ·exact a w hw
theorem Gj{ss:List Str}{a p:Str}(l:("":Str)∈ss)(h:∀s∈ss,s.length<=p.length):lend ss (a++p)=lend ss p:=by
 have key:∀r:Str,∃k,k<=r.length/\lend ss r=dj r k/\dj r k∈ss/\∀m,m<k->dj r m∉ss:=by
  intro r
  have i:∃k,k<=r.length/\dj r k∈ss/\∀m,m<k->dj r m∉ss:=by
   have:∀j,j<=r.length->(∃k,k<=j/\dj r k∈ss)->∃k,k<=j/\dj r k∈ss/\∀m,m<k->dj r m∉ss:=by
    intro j
    induction j with
    |zero=>rintro _ ⟨k,hk,f⟩;exact⟨k,hk,f,λm d=>absurd d (by omega)⟩
    |succ j n=>
     rintro w ⟨k,hk,f⟩
     by_cases c:∃k,k<=j/\dj r k∈ss
     ·obtain⟨k,a,b⟩:=n (by omega) c;exact⟨k,by omega,b⟩
     ·exact⟨k,hk,f,λm d z=>c ⟨m,by omega,z⟩⟩
   obtain⟨k,a,b⟩:=this r.length (waa _) ⟨r.length,waa _,by
    have:dj r r.length="":=cR (by rw[kH];exact we7 (wdM (aW r)))
    rw[this];exact l⟩
   exact⟨k,a,b⟩
  obtain⟨k,a,b,c⟩:=i;exact⟨k,a,by unfold lend;rw[uV b c a],b,c⟩
 obtain⟨k,x,o,g,q⟩:=key (a++p);obtain⟨m,m1,t,u,v⟩:=key p;rw[o,t];have hd:∀j,dj (a++p) (a.length+j)=dj p j:=λj=>cR (by rw[kH,kH,aZ,<-aW a,whA];simp)
 have hk:a.length<=k:=by
  have:=h _ g;rw[<-aW,kH,wbp,aW,len_app]at this;omega
 have e:a.length+m=k:=by
  rcases wfd (a.length+m) k with z |z |z
  ·exact absurd (by rw[hd];exact u) (q _ z)
  ·exact z
  ·have:=hd (k-a.length);rw[show a.length+(k-a.length)=k by omega]at this;exact absurd (by rw[<-this];exact g) (v (k-a.length) (by omega))
 rw[<-e,hd]
theorem kh(wl:List (List (Str×Nat)))(b:List Nat):∀(a:List Nat) (d:Nat),eS wl d (a++b)=eS wl d a++eS wl (qU wl d a) b/\qU wl d (a++b)=qU wl (qU wl d a) b
 |[],_=>⟨rfl,rfl⟩
 |_::a,_=>⟨congrArg (_ :: ·) (kh wl b a _).1,(kh wl b a _).2⟩
def nO(ss hk:List Str)(wl:List (List (Str×Nat)))(p w:Str)(as:List Str)(i:Nat):Prop:=∃d e,d<wl.length/\hk.getD d ""=lend ss p/\(wl.getD d [])[i]?=some (w,e)/\ke wl e as
theorem nO.one{bw ss hk:List Str}{wl:List (List (Str×Nat))}{c:Nat}{p w:Str}{as:List Str}{i j:Nat}(R:yQ bw ss hk wl c)(hl:as.length=c)(g:nO ss hk wl p w as i)(l:nO ss hk wl p w as j):i=j:=by
 obtain⟨d,e,a1,a2,a3,a⟩:=g;obtain⟨k,m,b1,b,f,h⟩:=l;exact R.one a1 b1 (a2.trans b.symm) a3 f hl a h
noncomputable def iD(b c:Nat)(ts:List Nat):List Nat:=wak b 0++(ts++wak c 0)
theorem Gk(wl:List (List (Str×Nat)))(b c:Nat)(ts:List Nat):LD wl b c ts=cat (eS wl 0 (iD b c ts)):=by
 unfold LD iD;rw[(kh wl _ _ 0).1,qT,lM,lM]
theorem si{many:Int}(m1:1<=many){ts:List Nat}(h:∀t∈ts,(t:Int)<many)(b c:Nat):∀t∈iD b c ts,(t:Int)<many:=λt a=>by
 unfold iD at a;rcases waE.mp a with z |z
 ·rw[(wdi.mp z).2];omega
 ·rcases waE.mp z with z |z
  ·exact h t z
  ·rw[(wdi.mp z).2];omega
theorem DG{bw ss hk:List Str}{wl:List (List (Str×Nat))}{many:Int}{n b c:Nat}(R:yQ bw ss hk wl c)(j:GD many n wl)(m1:1<=many)(I:ss.Perm (bS bw "" bw))(hw:∀w∈bw,1<=w.length)(h0:hk.getD 0 ""∈ss)(hs:∀s∈ss,s.length<=n*b){ts:List Nat}(J:∀t∈ts,(t:Int)<many){k:Nat}(p:k<ts.length) :
 ∃bs w as,((eS wl 0 (iD b c ts)).take (k+(b+1+c))).drop k=bs++w::as/\bs.length=b/\as.length=c/\bears bw (cat bs)=false/\nO ss hk wl (cat bs) w as ts[k]:=by
 have g:=si m1 J b c
 have E:(iD b c ts).drop (k+b)=ts[k]::(ts.drop (k+1)++wak c 0):=by
  unfold iD;rw[whA,wby (by rw[waQ];omega),wdH,waQ,show k+b-b=k by omega,wcx (by omega),wfj p];rfl
 have m:(iD b c ts).length=b+(ts.length+c):=by unfold iD;rw[wa5,wa5,waQ,waQ]
 generalize iD b c ts=l at g E m;have i:l=l.take k++((l.drop k).take b++l.drop (k+b)):=by rw[<-List.drop_drop,wbT,wbT]
 generalize H:l.take k=d at i;generalize L:(l.drop k).take b=f at i;have M:d.length=k:=by rw[<-H,wai];omega
 have N:f.length=b:=by rw[<-L,wai,wbp];omega
 rw[E]at i;generalize O:ts.drop (k+1)++wak c 0=rest at i;have U:c<=rest.length:=by rw[<-O,wa5,waQ];omega
 have o:0<wl.length:=wbR.mpr j.ne;have q:∀t∈d++f,(t:Int)<many:=λt h=>g t (by rw[i,<-waT];exact waW _ h);have v:∀t∈rest,(t:Int)<many:=λt h=>g t (by rw[i,<-waT];exact waL _ (wac _ h));obtain⟨a1,a2⟩:=kh wl (ts[k]::rest) (d++f) 0;obtain⟨b1,V⟩:=kh wl f d 0;obtain⟨G,_,u⟩:=wu j (d++f) 0 o q;obtain⟨g1,g2⟩:=Ge j I hw R.go o h0 (d++f) q;rw[lM]at g1 g2;generalize X:qU wl 0 (d++f)=D at a1 u g2;have x:=J _ (waN p);have a:=step_at j u x;have y:=wa8 (d4 u);have z:=j.e _ y _ (wa8 a);obtain⟨v1,Q,_⟩:=wu j rest (gp wl D ts[k]).2 z v;rw[b1]at g1 g2 a1 G;generalize A:eS wl 0 d=S at *;generalize B:eS wl (qU wl 0 d) f=bs at *;have T:S.length=k:=by rw[<-A,kg,M]
 have r:bs.length=b:=by rw[<-B,kg,N]
 have C:(cat bs).length=n*b:=by rw[hX λw h=>G w (waL _ h),r]
 rw[qT,<-eV]at g1 g2;refine⟨bs,(gp wl D ts[k]).1,(eS wl (gp wl D ts[k]).2 rest).take c,?_,r,by rw[wai,kg];omega,jQ (by rw[aZ];exact⟨_,[],by rw[waZ]⟩) g1,D,(gp wl D ts[k]).2,u,?_,a,o1 c _ _ Q⟩
 ·rw[i,<-waT,a1,show eS wl D (ts[k]::rest)=(gp wl D ts[k]).1::eS wl (gp wl D ts[k]).2 rest from rfl,wgo,waT,wcx (by omega),wby (by omega),wdH,show k+(b+1+c)-k=bs.length+(c+1) by omega,List.take_length_add_append,List.take_succ_cons]
 ·rw[<-g2];exact(Gj (I.mem_iff.mpr (cy bw)) (λs h=>by rw[C];exact hs s h))
structure Wr where
 g:Str
 bw:List Str
 ss:List Str
 ls:List Str
 hk:List Str
 many:Int
 n:Nat
 b:Nat
 c:Nat
 wl:List (List (Str×Nat))
noncomputable def Wr.o(R:Wr):Str×Nat:=cO R.wl 0 (wak R.b 0)
structure DH(R:Wr):Prop where
 w:GD R.many R.n R.wl
 m1:1<=R.many
 m8:R.many<=8
 n1:1<=R.n
 wQ:R.n<=10
 b1:R.b<=1000
 c1:R.c<=1000
 hl:R.hk.length=R.wl.length
 l1:R.wl.length<=40
 bh:nK R.bw R.n R.b
 hw:∀w∈R.bw,1<=w.length/\w.length<=900
 bl:R.bw.length<=1000
 gl:R.g.length<=10
 rd:yQ R.bw R.ss R.hk R.wl R.c
 gd:∀(d:Nat),∀q∈R.wl.getD d [],∀c∈ch q.1,c∈ch R.g
 h0:R.hk.getD 0 ""∈R.ss
 sh:∀s∈R.ss,s.length<=R.n*R.b
 pm:R.ss.Perm (bS R.bw "" R.bw)
structure sj(K:wa2)(C CB CP:Addr)(H:Hp)(x:Addr)(R:Wr):Prop where
 ex:∃dx p xb a l dp wa wb wc wz ys,H x=some (.ins C dx (nN p xb R.many (R.n:Int) a l R.o.1 (R.o.2:Int)))/\H p=some (.ins CP dp (vK wa wb wc wz))/\aL K H wb ys/\ys.length=R.c/\bK K H (kX R.wl) (.ref l)/\aL K H a (R.hk.map V.str)/\aY CB H xb R.g R.bw R.ss R.ls
 ok:DH R
theorem sj.same(h:sj K C CB g H x R)(s:a9 H j):sj K C CB g j x R:=by
 obtain⟨⟨b,p,c,a,l,dp,d,e,f,i,k,m,n,o,q,r,t,u⟩,v⟩:=h;exact⟨⟨b,p,c,a,l,dp,d,e,f,i,k,s _ _ m,s _ _ n,s.seq o,q,bK.same s _ _ r,s.seq t,u.same s⟩,v⟩
theorem nK.one(h:nK bw n b)(h':nK bw n g):b=g:=by
 obtain⟨_,M,⟨u,a⟩,e⟩:=h;obtain⟨_,N,⟨v,c⟩,f⟩:=h'
 have:M=N:=by
  rcases a with⟨a1,a2⟩ |⟨w,hw,a⟩<;>rcases c with⟨c1,i⟩ |⟨j,d,c⟩
  ·omega
  ·rw[a2]at d;cases d
  ·rw[i]at hw;cases hw
  ·have:=u j d;have:=v w hw;omega
 rw[this]at e;omega
theorem Gm{ss:List Str}(h:nK bw n b)(hn:1<=n)(g:ss.Perm (bS bw "" bw)):∀s∈ss,s.length<=n*b:=by
 intro s a;obtain⟨_,M,⟨u,_⟩,e⟩:=h;rcases(jC _).mp (g.mem_iff.mp a) with rfl |⟨w,hw,i,hi,rfl,_⟩
 ·exact waA _
 ·have d:=u w hw;have f:(dE w (1+i)).length=min (1+i) w.length:=by rw[<-aW,jq,wai,aW]
  have j:M-1<=(n:Int)*(b:Int):=by
   rw[if_neg (by omega)]at e;have c:=wgp (M-1+(n:Int)-1) (n:Int);have k:=wb0 (M-1+(n:Int)-1) (show 0<(n:Int) by omega);rw[<-e]at c;omega
  have l:((n*b:Nat):Int)=(n:Int)*(b:Int):=wbo ..;omega
noncomputable def ki(p:Nat×Nat):List V:=[.int (p.1:Int),.int (p.2:Int)]
structure iQ(H:Hp)(a:Addr)(wl:List (List (Str×Nat))):Prop where
 ex:∃kvs:List (Key×V),H a=some (.dK kvs)/\∀w:Str,(bE kvs (waj w:Key)=none/\∀(i e:Nat),(w,e)∉wl.getD i [])\/∃(l:Addr) (rs:List Addr) (ps:List (Nat×Nat)),bE kvs (waj w:Key)=some (.ref l)/\H l=some (.lst (rs.map V.ref))/\bc H rs (ps.map ki)/\ps.length<=1000/\∀i e:Nat,(i,e)∈ps↔(w,e)∈wl.getD i []
theorem bc.same(h:bc H rs g)(s:a9 H j):bc j rs g:=⟨h.1,λi r c a b=>s _ _ (h.2 i r c a b)⟩
theorem iQ.same{wl:List (List (Str×Nat))}(h:iQ H a wl)(s:a9 H g):iQ g a wl:=by
 obtain⟨e,f,i⟩:=h;refine⟨e,s _ _ f,λw=>?_⟩;rcases i w with z |⟨l,j,ps,a,b,c,d⟩
 ·exact .inl z
 ·exact .inr ⟨l,j,ps,a,s _ _ b,c.same s,d⟩
theorem iQ.put{wl:List (List (Str×Nat))}(h:iQ H a wl)(j:H z=some (.ins C d f))(o:HO):iQ (upd H z o) a wl:=by
 obtain⟨g,k,m⟩:=h;have n:∀{c u},H c=some u->(∀x y q,u≠.ins x y q)->(upd H z o) c=some u:=λ{c u} e q=>by rw[ae (λy=>by rw[y,j]at e;cases e;exact q _ _ _ rfl)];exact e
 refine⟨g,n k (λ_ _ _ z=>nomatch z),λw=>?_⟩;rcases m w with z |⟨l,p,ps,a,b,c,d⟩
 ·exact .inl z
 ·exact .inr ⟨l,p,ps,a,n b (λ_ _ _ z=>nomatch z),⟨c.1,λi r s x y=>n (c.2 i r s x y) (λ_ _ _ z=>nomatch z)⟩,d⟩
noncomputable abbrev xA:=Nat×Str×Nat
noncomputable def pairsOf(done:List xA)(w:Str):List (Nat×Nat):=(done.filter λt=>decide (t.2.1=w)).map λt=>(t.1,t.2.2)
theorem BF(done:List xA)(w:Str)(i e:Nat):(i,e)∈pairsOf done w↔(i,w,e)∈done:=by
 unfold pairsOf;constructor
 ·intro h;obtain⟨⟨a,b,c⟩,f,g⟩:=wab.mp h;obtain⟨j,d⟩:=wau.mp f;have d:b=w:=of_decide_eq_true d;obtain⟨rfl,rfl⟩:=wc9 g;rw[<-d];exact j
 ·intro h;exact wab.mpr ⟨(i,w,e),wau.mpr ⟨h,decide_eq_true rfl⟩,rfl⟩
theorem zQ(done:List xA)(i e:Nat)(w v:Str):pairsOf (done++[(i,w,e)]) v=if v=w then pairsOf done v++[(i,e)] else pairsOf done v:=by
 unfold pairsOf;rw[wbw,wan]
 by_cases h:v=w
 ·subst h;rw[if_pos rfl,wb6 (by exact decide_eq_true rfl)];rfl
 ·rw[if_neg h,wbb (by exact λz=>h (of_decide_eq_true z).symm)];exact waZ _
structure eL(H0 H:Hp)(a:Addr)(done:List xA):Prop where
 s:a9 H0 H
 fa:H0 a=none
 ex:∃kvs:List (Key×V),H a=some (.dK kvs)/\kvs.length<=done.length /\
  (∀w:Str,(bE kvs (waj w:Key)=none/\pairsOf done w=[])\/∃(l:Addr) (rs:List Addr),bE kvs (waj w:Key)=some (.ref l)/\H0 l=none/\H l=some (.lst (rs.map V.ref))/\bc H rs ((pairsOf done w).map ki)) /\
  ∀(w v:Str) (l:Addr),bE kvs (waj w:Key)=some (.ref l)->bE kvs (waj v:Key)=some (.ref l)->w=v
theorem eL.start{H:Hp}(h:H a=none):eL H (upd H a (.dK [])) a []:=
 ⟨a9.upd h,h,[],a7,waa _,λ_=>.inl ⟨rfl,rfl⟩,λ_ _ _ h=>nomatch h⟩
theorem eL.same{g H j:Hp}{done:List xA}(h:eL g H a done)(s:a9 H j):eL g j a done:=by
 obtain⟨h0,fa,e,f,i,k,m⟩:=h;refine⟨h0.trans s,fa,e,s _ _ f,i,λw=>?_,m⟩;rcases k w with z |⟨l,n,a,b,c,d⟩
 ·exact .inl z
 ·exact .inr ⟨l,n,a,b,s _ _ c,d.same s⟩
theorem bc.app{H:Hp}{rs:List Addr}{g:List (List V)}(h:bc H rs g)(j:H r=some (.tup xs)):bc H (rs++[r]) (g++[xs]):=by
 refine⟨by rw[wa5,wa5,h.1];rfl,λi q c a b=>?_⟩
 by_cases z:i<rs.length
 ·rw[waG z]at a;rw[waG (by rw[<-h.1];exact z)]at b;exact h.2 i q c a b
 ·rw[waC (by omega)]at a;rw[waC (by rw[<-h.1];omega)]at b
  have e:i-rs.length=0:=by
   have:=(wa6.mp a).1;rw[wcj]at this;omega
  rw[<-h.1]at b;rw[e]at a b;cases a;cases b;exact j
theorem eL.add{p H:Hp}{done:List xA}{w:Str}{i e:Nat}{l:Addr}{rs:List Addr}{g:List (Key×V)}(s:a9 p H)(fa:p a=none)(hk:H a=some (.dK g))(hl:g.length<=done.length+1)
 (hw:bE g (waj w:Key)=some (.ref l)) (fl:p l=none) (t:H l=some (.lst (rs.map V.ref))) (C:bc H rs ((pairsOf done w).map ki))
 (I:∀v:Str,v≠w->(bE g (waj v:Key)=none/\pairsOf done v=[])\/∃(l:Addr) (rs:List Addr),bE g (waj v:Key)=some (.ref l)/\p l=none/\H l=some (.lst (rs.map V.ref))/\bc H rs ((pairsOf done v).map ki))
 (hi:∀(w v:Str) (l:Addr),bE g (waj w:Key)=some (.ref l)->bE g (waj v:Key)=some (.ref l)->w=v) (j:H r=none) :
 eL p (upd (upd H r (.tup (ki (i,e)))) l (.lst (rs.map V.ref++[.ref r]))) a (done++[(i,w,e)]):=by
 have k:r≠l:=λz=>by rw[z,t]at j;cases j
 have m:a≠l:=λz=>by rw[z,t]at hk;cases hk
 have n:a≠r:=λz=>by rw[z,j]at hk;cases hk
 have c:∀{q:Addr} {d:List V},H q=some (.tup d)->(upd (upd H r (.tup (ki (i,e)))) l (.lst (rs.map V.ref++[.ref r]))) q=some (.tup d):=λ{q d} h=>by
  have n1:q≠l:=λz=>by rw[z,t]at h;cases h
  have f:q≠r:=λz=>by rw[z,j]at h;cases h
  rw[ae n1,ae f];exact h
 refine⟨λb o h=>?_,fa,g,by rw[ae m,ae n];exact hk,by rw[wa5];exact hl,λv=>?_,hi⟩
 ·have n1:b≠l:=λz=>by rw[z,fl]at h;cases h
  have f:b≠r:=λz=>by have:=s _ _ h;rw[z,j]at this;cases this
  rw[ae n1,ae f];exact s _ _ h
 rw[zQ]
 by_cases z:v=w
 ·subst z;rw[if_pos rfl];refine .inr ⟨l,rs++[r],hw,fl,by rw[a7,wan];rfl,?_⟩;rw[wan];have B:bc (upd (upd H r (.tup (ki (i,e)))) l (.lst (rs.map V.ref++[.ref r]))) rs ((pairsOf done v).map ki):=⟨C.1,λi q d a b=>c (C.2 i q d a b)⟩;exact bc.app B (by rw[ae k,a7])
 ·rw[if_neg z];rcases I v z with y |⟨u,x,a1,a2,a3,A⟩
  ·exact .inl y
  ·have n1:u≠l:=λy=>z (hi v w l (by rw[<-y];exact a1) hw);have f:u≠r:=λy=>by rw[y,j]at a3;cases a3
   exact .inr ⟨u,x,a1,a2,by rw[ae n1,ae f];exact a3,⟨A.1,λi q d a b=>c (A.2 i q d a b)⟩⟩
theorem eL.step{B H:Hp}{done:List xA}{g:Addr}(M:eL B H a done)(h0:H g=none)(w:Str)(i e:Nat):∃kvs:List (Key×V),(upd H g (.lst [])) a=some (.dK kvs)/\kvs.length<=done.length /\
 (∀v,bE kvs (waj w:Key)=some v->∃(l:Addr) (rs:List Addr),v=.ref l/\(upd H g (.lst [])) l=some (.lst (rs.map V.ref))/\rs.length<=done.length/\∀r,(upd H g (.lst [])) r=none->eL B (upd (upd (upd H g (.lst [])) r (.tup (ki (i,e)))) l (.lst (rs.map V.ref++[.ref r]))) a (done++[(i,w,e)])) /\
 (bE kvs (waj w:Key)=none->(upd (upd H g (.lst [])) a (.dK (putK kvs (waj w:Key) (.ref g)))) g=some (.lst (([]:List Addr).map V.ref))/\∀r,(upd (upd H g (.lst [])) a (.dK (putK kvs (waj w:Key) (.ref g)))) r=none->eL B (upd (upd (upd (upd H g (.lst [])) a (.dK (putK kvs (waj w:Key) (.ref g)))) r (.tup (ki (i,e)))) g (.lst (([]:List Addr).map V.ref++[.ref r]))) a (done++[(i,w,e)])):=by
 have t:a9 H (upd H g (.lst [])):=a9.upd h0;have I:(upd H g (.lst [])) g=some (.lst []):=a7;have M1:=M.same t;have J:B g=none:=none_of M.s h0;have nl:∀{c o},H c=some o->c≠g:=λh z=>by rw[z,h0]at h;cases h
 obtain⟨_,_,b,A,_,L,_⟩:=id M;generalize upd H g (.lst [])=G at *;obtain⟨s,fa,kvs,j,C,m,D⟩:=M1;have N:b=kvs:=by have:=t _ _ A;rw[j]at this;cases this;rfl
 subst N;refine⟨b,j,C,λv d=>?_,λhn=>?_⟩
 ·rcases m w with⟨z,_⟩ |⟨l,rs,a1,a2,a3,f⟩
  ·rw[z]at d;cases d
  ·rw[a1]at d;cases d;refine⟨l,rs,rfl,a3,?_,λr n=>eL.add s fa j (whc C) a1 a2 a3 f (λv _=>m v) D n⟩;have:=f.1;rw[wa0]at this;rw[this];unfold pairsOf;rw[wa0];exact wb7 ..
 ·have na:a≠g:=nl A;have E:(upd G a (.dK (putK b (waj w:Key) (.ref g)))) g=some (.lst []):=by rw[ae na.symm];exact I
  have O:a9 B (upd G a (.dK (putK b (waj w:Key) (.ref g)))):=λc o h=>by rw[ae (ag h fa)];exact s _ _ h
  refine⟨E,λr n=>eL.add (rs:=[]) O fa a7 ?_ (by rw[uL,if_pos rfl]) J E ?_ (λv d=>?_) (λu v l x y=>?_) n⟩
  ·have:=i3 b (waj w:Key) (.ref g);omega
  ·rcases m w with⟨_,z⟩ |⟨l,rs,a1,_⟩
   ·rw[z];exact bc.nil _
   ·rw[hn]at a1;cases a1
  ·rw[uL,if_neg (λz=>d (wca z))];rcases m v with z |⟨l,rs,a1,a2,a3,f⟩
   ·exact .inl z
   ·have n1:l≠a:=λz=>by rw[z,j]at a3;cases a3
    exact .inr ⟨l,rs,a1,a2,by rw[ae n1];exact a3,f.1,λi q Q x y=>by
     have h:=f.2 i q Q x y
     rw[ae (λz=>by rw[z,j]at h;cases h)];exact h⟩
  ·rw[uL]at x y
   have old:∀{v:Str} {l:Addr},bE b (waj v:Key)=some (.ref l)->l≠g:=λ{v l} h=>by
    rcases L v with⟨z,_⟩ |⟨R,rs,a1,a2,a3,f⟩
    ·rw[z]at h;cases h
    ·rw[a1]at h;cases h;exact nl a3
   by_cases p:u=w
   ·by_cases k:v=w
    ·rw[p,k]
    ·rw[if_pos (congrArg waj p)]at x;rw[if_neg (λz=>k (wca z))]at y;cases x;exact absurd rfl (old y)
   ·rw[if_neg (λz=>p (wca z))]at x
    by_cases k:v=w
    ·rw[if_pos (congrArg waj k)]at y;cases y;exact absurd rfl (old x)
    ·rw[if_neg (λz=>k (wca z))]at y;exact D u v l x y
noncomputable def nP(H0 H2 H3:Hp):Hp:=λc=>match H2 c with
 |none=>H3 c
 |some _=>H0 c
theorem Jy{g j l:Hp}(s:a9 g j):a9 g (nP g j l):=λc o h=>by
 unfold nP;rw[s _ _ h];exact h
theorem Jz{l g j:Hp}:a9 (aM g j) (nP l g j):=λc o h=>by
 unfold aM at h;unfold nP
 cases e:g c with
 |none=>rw[e]at h;exact h
 |some u=>rw[e]at h;cases h
theorem eL.over{p g j:Hp}{done:List xA}(M:eL p g a done)(s:a9 g j):eL (nP p g j) j a done:=by
 obtain⟨h0,fa,b,d,i,k,m⟩:=id M;obtain⟨_,_,f,g1,_,g3,_⟩:=M.same s;have n:f=b:=by have:=s _ _ d;rw[g1]at this;cases this;rfl
 subst n;refine⟨λc o h=>?_,by unfold nP;rw[d];exact fa,f,g1,i,λw=>?_,m⟩
 ·unfold nP at h
  cases e:g c with
  |none=>rw[e]at h;exact h
  |some u=>rw[e]at h;exact s _ _ (h0 _ _ h)
 ·rcases k w with z |⟨l,q,a1,a2,a3,r⟩
  ·exact .inl z
  ·exact .inr ⟨l,q,a1,by unfold nP;rw[a3];exact a2,s _ _ a3,r.same s⟩
theorem eL.back{g B H:Hp}{done:List xA}(M:eL B H a done)(s:a9 g B):eL g H a done:=by
 obtain⟨h0,fa,b,c,d,e,f⟩:=M;refine⟨s.trans h0,none_of s fa,b,c,d,λw=>?_,f⟩;rcases e w with z |⟨l,h,a1,a2,a3⟩
 ·exact .inl z
 ·exact .inr ⟨l,h,a1,none_of s a2,a3⟩
noncomputable def dY(wl:List (List (Str×Nat)))(k:Nat):List xA:=(waD k).flatMap λd=>(wl.getD d []).map λq=>(d,q.1,q.2)
theorem wx(wl:List (List (Str×Nat)))(k:Nat):dY wl (k+1)=dY wl k++(wl.getD k []).map λq=>(k,q.1,q.2):=by
 unfold dY;rw[wdf,weI];simp
theorem Gn{wl:List (List (Str×Nat))}{i e:Nat}{w:Str}:(i,w,e)∈dY wl wl.length↔(w,e)∈wl.getD i []:=by
 unfold dY;constructor
 ·intro h;obtain⟨d,_,h⟩:=wcD.mp h;obtain⟨q,a,b⟩:=wab.mp h;obtain⟨rfl,c⟩:=wc9 b;obtain⟨rfl,rfl⟩:=wc9 c;exact a
 ·intro h;refine wcD.mpr ⟨i,wb1.mpr ?_,wab.mpr ⟨(w,e),h,rfl⟩⟩;refine wcm λz=>?_;rw[wa3,wcl (by omega)]at h;cases h
theorem eL.done{g H:Hp}{wl:List (List (Str×Nat))}(h:eL g H a (dY wl wl.length))(hl:(dY wl wl.length).length<=1000):iQ H a wl:=by
 obtain⟨_,_,b,d,m,f,n⟩:=h;refine⟨b,d,λw=>?_⟩;have c:=λi e=>(BF (dY wl wl.length) w i e).trans Gn;rcases f w with⟨z,y⟩ |⟨l,j,a1,a2,a3,k⟩
 ·refine .inl ⟨z,λi e q=>?_⟩;have:=(c i e).mpr q;rw[y]at this;cases this
 ·refine .inr ⟨l,j,_,a1,a3,k,?_,c⟩;unfold pairsOf;rw[wa0];exact wal (wb7 ..) hl
end Bs
namespace L2
open PySem PySem.Spec PyProof.Rows
section
variable{X:Cx}{tg:Expr}
theorem EH{c:Int}(hc:0<c)(m:Nat):wcZ 0 (c*(m:Int)) c=(m:Int):=by
 unfold wcZ;rw[if_pos hc]
 cases m with
 |zero=>rw[if_neg (by simp)];rfl
 |succ m=>
  have a:0<c*((m+1:Nat):Int):=whp hc (by omega);rw[if_pos a,show c*((m+1:Nat):Int)-0-1=(c-1)+c*(m:Int) by rw[wcu,Int.mul_add];omega,Int.add_mul_ediv_left _ _ (by omega),Int.ediv_eq_zero_of_lt (by omega) (by omega)];omega
theorem JA{g:List (Addr×Obj)}{σ:St}{H:Hp}{s:Shared}{R:It->Hp->Prop}{E:Value->Shared->Prop}{c:Int}{m:Nat}{t u v:Tok}(I:Inv X g σ H s)(j:1<=c)(l:c<=1000)(p:c*(m:Int)<=1000000)(r:m<=1000000)
 (q:R (KZ 0 c m) H):wpAny (model X.prog X.w) X.A (pyIter (.ref s.heap.objs.size)) (Oz X g σ tg R) E {s with heap:=s.heap.push {cls:=.type "range",data:=.fields #[.int 0 t,.int (c*(m:Int)) u,.int c v]}}:=by
 have h0:0<=c*(m:Int):=Int.mul_nonneg (by omega) (by omega)
 have a:wgO 0 (c*(m:Int)) c=true:=by
  unfold wgO;rw[EH (by omega)];simp only[Builtin.Range.rangeFitsLong,wbU,whF,decide_eq_true_eq,beq_iff_eq,show c>0 by omega,if_true];omega
 refine wpAny_pyIter_range (whS ..) a ?_;have d:Inv X g σ H {s with heap:=s.heap.push {cls:=.type "range",data:=.fields #[.int 0 t,.int (c*(m:Int)) u,.int c v]}}:=I.kept (t':=s.toks) λb o e=>wa9 _ e
 refine⟨(s.heap.push {cls:=.type "range",data:=.fields #[.int 0 t,.int (c*(m:Int)) u,.int c v]}).objs.size,[(s.heap.push {cls:=.type "range",data:=.fields #[.int 0 t,.int (c*(m:Int)) u,.int c v]}).objs.size],_,_,H,rfl,
  d.kept (t':=s.toks) λb o e=>wa9 _ e,B8 _ 0 c m,?_,λb f=>?_,q⟩
 ·have h:(0:Int)+((0:Nat):Int)*c=0:=by simp
  have i:((m:Nat):Int)-((0:Nat):Int)=wcZ 0 (c*(m:Int)) c:=by rw[EH (by omega)];simp
  show wfV _ _ ((0:Int)+((0:Nat):Int)*c) (((m:Nat):Int)-((0:Nat):Int)) c;rw[h,i];exact wav _ rfl
 ·have e:b=(s.heap.push {cls:=.type "range",data:=.fields #[.int 0 t,.int (c*(m:Int)) u,.int c v]}).objs.size:=by simpa using f
  subst e;exact d.yX (waa _) (d.b9.fresh (waa _))
inductive Vn(vs:List V)(H:Hp)(R:It->Hp->Prop):Prop
 |mk (c:Int) (m:Nat) (_:vs=[.int 0,.int (c*(m:Int)),.int c]) (_:1<=c) (_:c<=1000) (_:c*(m:Int)<=1000000) (_:m<=1000000) (_:R (KZ 0 c m) H)
def Ru(ta:TA):TI:=λσ H R=>ta σ H λvs H1=>Vn vs H1 R
theorem Go(l:Gl X "range")(C:X.mg "range"=none)(ha:PA X [a,b,c] J)(hs:starEach [a,b,c] X.env=[(false,eval a X.env),(false,eval b X.env),(false,eval c X.env)]:=by rfl)(g:starEach [b,c] X.env=[(false,eval b X.env),(false,eval c X.env)]:=by rfl) :
 PI X tg (.Call (.Name "range" p) [a,b,c] [] pos) (Ru J):=by
 intro d s σ H R I h;refine Call_ (gE I l C boot_range (wbr (bY (ha pos d s σ H _ I h) λy z ⟨A,B,k,n,i⟩=>?_) (by rw[hs,g]) (by rw[g];rfl)));obtain⟨c,m,e,i,o,u,v,q⟩:=i;subst e
 cases n with
 |cons r f=>
  cases f with
  |cons w f=>
   cases f with
   |cons j f=>
    cases f;obtain⟨t,rfl⟩:=r;obtain⟨D,rfl⟩:=w;obtain⟨x,rfl⟩:=j;exact call_range_3 (by omega) (JA k i o u v q) (.inl (wfY (by omega)))
end
end L2
namespace L2
open PySem Bs
theorem JB(e:Nat)(rs:List Nat):∃g,putK (dB rs) (wb4 (e:Int):Key) (.bl true)=dB g/\(∀x,x∈g↔x∈rs\/x=e)/\g.length<=rs.length+1:=by
 by_cases h:e∈rs
 ·refine⟨rs,?_,λx=>⟨.inl,λz=>z.elim id λz=>z ▸ h⟩,wc1 _⟩;unfold putK;rw[if_pos (show ((dB rs).any λb=>decide (b.1=(wb4 (e:Int):Key)))=true from wci.mpr ⟨((wb4 (e:Int):Key),V.bl true),wab.mpr ⟨e,h,rfl⟩,decide_eq_true rfl⟩)];refine(wb2 λb a=>?_).trans (List.map_id _);obtain⟨n,_,rfl⟩:=wab.mp a;show (if _ then _ else _)=_;split<;>rfl
 ·exact⟨rs++[e],IU h,λx=>by rw[waE,waq],by rw[wa5];exact waa _⟩
end L2
namespace L2
open PySem
noncomputable def yR(a:Addr):List (Str×V):=[("writer",.ref a)]
noncomputable def Gp(a b:Addr):List (Str×V):=[("writer",.ref a),("pairs",.ref b)]
theorem MF(a:Addr):cQ "writer" (.ref a) []=yR a:=rfl
theorem JC(a b:Addr):cQ "pairs" (.ref b) (yR a)=Gp a b:=by
 show (if ("writer":Str)="pairs" then _ else(("writer":Str),V.ref a)::cQ "pairs" (.ref b) [])=_;rw[if_neg (by decide+kernel)];rfl
theorem BG(a b:Addr):(Gp a b).lookup ("pairs":Str)=some (.ref b):=by
 rw[<-JC,aF,if_pos rfl]
theorem aS(a b:Addr):(Gp a b).lookup ("writer":Str)=some (.ref a):=by
 rw[<-JC,aF,if_neg (by decide+kernel),<-MF,aF,if_pos rfl]
end L2
namespace Bs
open PySem L2 Sx
structure zR(K:wa2)(C CB CP CR:Addr)(H:Hp)(z:Addr)(R:Wr):Prop where
 ex:∃dz x a,H z=some (.ins CR dz (Gp x a))/\iQ H a R.wl/\sj K C CB CP H x R
theorem zR.same{CR:Addr}(h:zR K C CB g CR H z R)(s:a9 H j):zR K C CB g CR j z R:=by
 obtain⟨b,x,a,c,d,e⟩:=h;exact⟨b,x,a,s _ _ c,d.same s,e.same s⟩
end Bs
namespace K50
open PySem L2 Bs Sx
section
variable{P:wat}{w:World}{K:wa2}{mg:Str->Option Value}{base:Heap}
inductive JD(vs:List V)(H:Hp)(Q:VK)(eE:XK):Prop
 |mk (a ts many) (_:vs=[.ref a,.int many]) (_:H a=some (.lst ((nI ts).map V.int))) (_:(∀t∈ts,(t:Int)<many)) (_:∀H',a9 H H'->Q .non H')
theorem xB(L:Lk K mg):aT P w K mg base df 2 L.qJ L.qK ["data","many"] JD:=by
 have T:=L.T;refine L.lJ.F.dJ (N:=["data","many","number","thing"]) (λg A outer s H t Q E nd u h=>?_);obtain⟨a,j,many,rfl,ha,c,k⟩:=h
 refine⟨_,(a6 (bD (dO (cF (aC cM (by rfl) T.JV xc (a5 (pv 0) (a5 (gX (v:=.ty "list") (by rfl) T.list gz rfl) a8))))) du aN)
  (af (b7 wao rfl (kE (by rfl) T.enum (a5 (pv 0) a8)) (eB rfl (aO (ay (i:=2)) (aO (ay (i:=3)) cT))) (af (bD (PW.pt (hZ (dO (cF (aq (nJ L) L.j9 (a5 (pv 3) a8)))) (hZ (aG mr (pv 3) ao (aU _)) (iX (aG GV (pv 3) (pv 1) (aU _)))))) du aN))))),?_⟩
 try dsimp only[dn,dm,b5,b6]
 refine⟨_,rfl,_,_,_,true,rfl,iY.lst ha,rfl,true,rfl,cb ?_⟩;refine⟨_,rfl,a,_,rfl,aL.of ha,mB (K:=K) (a:=a) (xs:=(nI j).map V.int) (λi σ b=>a9 H b/\∃d e,σ=[some (.ref a),some (.int many),d,e]) ⟨a9.refl _,none,none,rfl⟩ (λi σ b _ p=>p.1.seq (aL.of ha)) ?_ (λσ b p=>k b p.1)⟩;rintro i x σ b T l ⟨m,d,e,rfl⟩ q;obtain⟨n,hn,rfl⟩:=rP (wa8 l);have r:=c n hn;refine⟨T,_,rfl,ig.of a7,rfl,_,_,rfl,_,_,rfl,rfl,?_⟩;have f:=m.trans (a9.upd (o:=.tup [.int (i:Nat),.int (n:Int)]) q);generalize upd b T (.tup [.int (i:Nat),.int (n:Int)])=y at f;refine⟨_,rfl,(n:Int),rfl,true,rfl,cb ?_⟩;refine⟨_,rfl,_,_,rfl,rfl,false,congrArg V.bl (decide_eq_false (by omega)),cb ?_⟩;refine⟨_,rfl,_,rfl,_,_,rfl,rfl,false,congrArg V.bl (decide_eq_false (by omega)),cb ?_⟩;exact⟨f,_,_,rfl⟩
inductive DI(K:wa2)(C CB CP:Addr)(u:Wr->V)(vs:List V)(H:Hp)(Q:VK)(eE:XK):Prop
 |mk (x R) (_:vs=[.ref x]) (_:sj K C CB CP H x R) (_:Q (u R) H)
theorem iE(L:Lk K mg):aT P w K mg base df 1 L.nj L.nk ["self"] (DI K L.ak L.aB L.aR (λR=>.int (R.c:Int))):=by
 have T:=L.T;refine L.cz.F.dJ (N:=["self"]) (λd A outer s H r Q E nd t h=>?_);obtain⟨x,R,rfl,⟨⟨e,p,u,a,l,dp,f,b,g,i,j,m,n,o,q,_⟩,_⟩,k⟩:=h;refine⟨_,(af (aA (aC b4 (by rfl) T.len waJ (a5 (aE (aE (pv 0) rfl) rfl) a8)))),?_⟩
 try dsimp only[dn,dm,b5,b6]
 refine⟨_,rfl,x,L.ak,e,_,_,rfl,m,L.ai.cl,L.ai.q0,zK ..,p,L.aR,dp,_,_,rfl,n,L.dq.cl,L.dq.Bk,zB f b g i,b,j,rfl,.inl o,?_⟩;rw[q];exact k
theorem nQ(L:Lk K mg):aT P w K mg base df 1 L.oB L.oC ["self"] (DI K L.ak L.aB L.aR (λR=>.str R.o.1)):=by
 refine L.eA.F.dJ (N:=["self"]) (λb A outer s H e Q E nd f h=>?_);obtain⟨x,R,rfl,⟨⟨c,p,g,a,l,dp,i,j,m,n,q,d,_⟩,_⟩,k⟩:=h;refine⟨_,(af (aA (aE (pv 0) rfl))),?_⟩
 try dsimp only[dn,dm,b5,b6]
 exact⟨_,rfl,x,L.ak,c,_,_,rfl,d,L.ai.cl,L.ai.rR,oK ..,k⟩
theorem iF(L:Lk K mg):aT P w K mg base df 1 L.nq L.nr ["self"] (DI K L.ak L.aB L.aR (λR=>.int (R.wl.length:Int))):=by
 have T:=L.T;refine L.cA.F.dJ (N:=["self"]) (λb A outer s H f Q E nd g h=>?_);obtain⟨x,R,rfl,⟨⟨c,p,i,a,l,dp,j,m,n,o,q,d,_,_,_,_,e,_⟩,ok⟩,k⟩:=h;refine⟨_,(af (aA (aC b4 (by rfl) T.len waJ (a5 (aE (pv 0) rfl) a8)))),?_⟩
 try dsimp only[dn,dm,b5,b6]
 refine⟨_,rfl,x,L.ak,c,_,_,rfl,d,L.ai.cl,L.ai.fV,tU ..,a,_,rfl,.inl e,?_⟩;rw[wa0,ok.hl];exact k
inductive JE(K:wa2)(C CB CP:Addr)(vs:List V)(H:Hp)(Q:VK)(eE:XK):Prop
 |mk (x:Addr) (R:Wr) (d:Nat) (_:vs=[.ref x,.int (d:Int)]) (_:sj K C CB CP H x R) (_:d<R.wl.length) (_:Q (.str (R.hk.getD d "")) H)
theorem pz(L:Lk K mg):aT P w K mg base df 1 L.jz L.jA ["self","desk"] (JE K L.ak L.aB L.aR):=by
 refine L.eJ.F.dJ (N:=["self","desk"]) (λb A outer s H i Q E nd j h=>?_);obtain⟨x,R,d,rfl,⟨⟨c,p,m,a,l,dp,n,o,q,r,t,f,_,_,_,_,g,_⟩,ok⟩,hd,k⟩:=h;refine⟨_,(af (aA (b8 bf (aE (pv 0) rfl) (pv 1) (λ_ _=>rfl)))),?_⟩
 try dsimp only[dn,dm,b5,b6]
 have e:=getD_some ("":Str) (show d<R.hk.length by rw[ok.hl];exact hd);exact⟨_,rfl,x,L.ak,c,_,_,rfl,f,L.ai.cl,L.ai.fV,tU ..,_,rfl,a,_,_,_,rfl,rfl,g,bO (v:=.str (R.hk.getD d "")) (by rw[wa4,e];rfl),k⟩
inductive JF(K:wa2)(C CB CP:Addr)(vs:List V)(H:Hp)(Q:VK)(eE:XK):Prop
 |mk (x:Addr) (R:Wr) (d:Nat) (_:vs=[.ref x,.int (d:Int)]) (_:sj K C CB CP H x R) (_:d<R.wl.length) (_:∀y H',a9 H H'->bK K (aM H H') (cg (R.wl.getD d [])) y->Q y H')
theorem mj(L:Lk K mg):aT P w K mg base df 1 L.nu L.nv ["self","desk"] (JF K L.ak L.aB L.aR):=by
 refine L.dH.F.dJ (N:=["self","desk"]) (λD A outer s H Y Q E nd e h=>?_);obtain⟨x,R,d,rfl,⟨⟨G,p,Z,a,l,dp,wa,wb,wc,wz,ys,I,_,_,_,hl,_⟩,ok⟩,hd,k⟩:=h;refine⟨_,(af (aA (fT rfl (ax [] []) (ax [] []) (by decide) (aP (b8 bf (aE (pv 0) rfl) (pv 1) (λ_ _=>rfl))) (λ_ _ _ _ _ _=>bo) (λ_ _ _ _ _ _=>(eC (a5 (pv 0) (a5 (pv 1) a8))))))),?_⟩
 try dsimp only[dn,dm,b5,b6]
 obtain⟨l',J,M,f,g⟩:=id hl;cases M;have c:=d4 hd;obtain⟨v,j,rd⟩:=g.at (i:=d) (d:=cg (R.wl.getD d [])) (by rw[wa4,c];rfl);have O:=ok.w.ln _ (wa8 c);have m8:=ok.m8;obtain⟨u,S,rfl,y,b,T⟩:=kY rd;have m:=b;rw[wa0]at m;refine⟨_,rfl,x,L.ak,G,_,_,rfl,I,L.ai.cl,L.ai.cV,tV ..,_,rfl,l,J,_,_,rfl,rfl,.inl f,bO j,u,rfl,⟨_,y⟩,λlc n=>?_⟩;refine jU (prs:=(R.wl.getD d []).map eQ) (λ_=>true) (λq=>.tup [.at q.1,.at q.2]) (aQ K u S) b (λi q c=>let ⟨r,U,V⟩:=T i q c;⟨r,U,ig.of V⟩) n (aw (by omega)) (λB o=>o.seq y) (λq C X _ _ t=>t C (a9.refl _)) (λq C X c _ s3 t=>?_) (λB o r=>?_)
 ·obtain⟨z,hz,rfl⟩:=wab.mp c;exact⟨_,rfl,_,rfl,by show 2<=sizeLine;decide,λr e=>t _ _ (a9.upd e) (mJ e z)⟩
 ·rw[wb8.mpr (λ_ _=>rfl),wah]at r;exact k _ B o r
inductive Oj(K:wa2)(C CB CP:Addr)(vs:List V)(H:Hp)(Q:VK)(eE:XK):Prop
 |mk (x a R ts) (_:vs=[.ref x,.ref a]) (_:sj K C CB CP H x R) (_:H a=some (.lst ((nI ts).map V.int))) (_:(∀t∈ts,(t:Int)<R.many)) (_:ts.length<=10000) (_:∀H',a9 H H'->Q (.str (LD R.wl R.b R.c ts)) H')
theorem iG(L:Lk K mg):aT P w K mg base df 3 L.nA L.nB ["self","data"] (Oj K L.ak L.aB L.aR):=by
 refine L.cB.F.dJ (N:=["self","data","found"]) (λi5 A outer s H vs Q E nd hr h=>?_);obtain⟨x,a,R,ts,rfl,T,ha,e,Vo,k⟩:=h
 refine⟨_,(a6 (bA (aq (xB L) L.lJ (a5 (pv 1) (a5 (aE (pv 0) rfl) a8))))
  (a6 (aj (i:=2) (aq (yO L) L.qL (a5 (aE (pv 0) rfl) (a5 (aE (pv 0) rfl) (a5 (aK Hj (pv 1) (aK Hk (bX (a5 ao a8)) (bR (pv 0) L.ai.cl L.cz.m (iE L) (hr.mono (by decide)) L.cz.b .nil bj))) a8)))))
  (af (aA (aK oO (aE (pv 0) rfl) (b8 fQ (pv 2) ao (λ_ _=>rfl))))))),?_⟩
 try dsimp only[dn,dm,b5,b6]
 obtain⟨⟨f,p,xb,aa,ll,dp,wa,wb,wc,wz,ys,u,_,_,_,rl,_⟩,ok⟩:=id T;have m1:=ok.m1;have hb:=ok.b1;have EB:=ok.c1;have v:=qQ ok.w (wbR.mpr ok.w.ne) (ts:=wak R.b 0) λt C=>by rw[(wdi.mp C).2];omega
 rw[waQ]at v;refine⟨_,rfl,_,rfl,x,L.ak,f,_,_,rfl,u,L.ai.cl,L.ai.Ja,DC ..,a,ts,R.many,rfl,ha,e,λD U=>?_⟩;have X:=U _ _ u;refine⟨_,rfl,x,L.ak,f,_,_,rfl,X,L.ai.cl,L.ai.cV,tV ..,_,rfl,x,L.ak,f,_,_,rfl,X,L.ai.cl,L.ai.Es,Bz ..,_,rfl,by show 1<=sizeLine;decide,λy G=>?_⟩;have Y:=a9.upd (H:=D) (o:=.lst [V.int 0]) G;have I:(upd D y (.lst [V.int 0])) y=some (.lst [V.int 0]):=a7;generalize upd D y (.lst [V.int 0])=J at Y I;have d:=U.trans Y;refine⟨_,rfl,x,f,_,rfl,d _ _ u,cC _ _ _ _ _ _ _ _ (by decide+kernel),x,R,rfl,T.same d,?_⟩;refine⟨y,(R.c:Int),[V.int 0],rfl,rfl,I,by omega,by omega,aw (by show 1*((R.c:Int)).toNat<=_;omega),λz M=>?_⟩;rw[waF,wm];have Z:=a9.upd (H:=J) (o:=.lst ((nI (wak R.c 0)).map V.int)) M;have h3:(upd J z (.lst ((nI (wak R.c 0)).map V.int))) z=some (.lst ((nI (wak R.c 0)).map V.int)):=a7;generalize upd J z (.lst ((nI (wak R.c 0)).map V.int))=O at Z h3;have g:=d.trans Z;refine⟨a,z,_,_,rfl,rfl,g _ _ ha,h3,aw ?_,λB S=>?_⟩
 ·rw[wa0,wa0,cH,cH,waQ];omega
 rw[<-wan,<-rN];have s4:=a9.upd (H:=O) (o:=.lst ((nI (ts++wak R.c 0)).map V.int)) S;have h4:(upd O B (.lst ((nI (ts++wak R.c 0)).map V.int))) B=some (.lst ((nI (ts++wak R.c 0)).map V.int)):=a7;generalize upd O B (.lst ((nI (ts++wak R.c 0)).map V.int))=H4 at s4 h4;have j:=g.trans s4;have l:∀t:Nat,t∈ts++wak R.c 0->(t:Int)<R.many:=λt C=>si m1 e R.b R.c t (waL _ C);have w1:=qQ ok.w v.1 l;rw[wa5,waQ]at w1;refine⟨.ref ll,_,B,R.many,R.n,R.wl,ts++wak R.c 0,rfl,bK.same j _ _ rl,aL.of h4,ok.w,v.1,l,by rw[wa5,waQ];omega,ok.wQ,λq H5 s5 hq=>?_⟩;have r:=j.trans s5;refine⟨_,rfl,x,L.ak,f,_,_,rfl,r _ _ u,L.ai.cl,L.ai.rR,oK ..,_,rfl,q,_,_,_,rfl,rfl,ig.of hq,rfl,_,_,rfl,rfl,aw ?_,k H5 r⟩;show R.o.1.length+_<=_;unfold Wr.o;rw[v.2,w1.2];have h1:R.n*R.b<=10*1000:=wc3 ok.wQ hb;have I:R.n*(ts.length+R.c)<=10*11000:=wc3 ok.wQ (by omega);omega
theorem DJ{H:Hp}{x:Addr}{R:Wr}{Q:VK}{E:XK}(W:sj K C CB l H x R)(k:∀j,a9 H j->Q (.int (R.b:Int)) j):Jp C CB [.ref x] H Q E:=by
 obtain⟨⟨a,p,c,h,i,dp,m,o,q,r,s,d,_,_,_,t,_,B⟩,ok⟩:=W;exact⟨x,c,a,_,R.n,R.g,R.bw,R.ss,R.ls,rfl,d,lL ..,fC ..,B,ok.n1,ok.wQ,λw hw=>(ok.hw w hw).2,ok.bl,λb j e f=>by rw[Bs.nK.one f ok.bh];exact k j e⟩
inductive Gq(K:wa2)(C CB CP:Addr)(vs:List V)(H:Hp)(Q:VK)(eE:XK):Prop
 |mk (x R) (_:vs=[.ref x]) (_:sj K C CB CP H x R) (_:∀a H',a9 H H'->iQ H' a R.wl->Q (.ref a) H')
theorem sq{R:Wr}(ok:DH R):∀k,k<=R.wl.length->(dY R.wl k).length<=k*8
 |0,_=>waA _
 |k+1,h=>by
  have a:=sq ok k (by omega);have:=ok.w.ln _ (wa8 (d4 (show k<R.wl.length by omega)));have:=ok.m8;rw[wx,wa5,wa0];omega
theorem sr(L:Lk K mg):aT P w K mg base df 2 L.lS L.lT ["writer"] (Gq K L.ak L.aB L.aR):=by
 have T:=L.T;refine L.ir.F.dJ (N:=["writer","steps","desk","word","end"]) (λi5 A outer s H vs Q E nd g h=>?_);obtain⟨x,R,rfl,O,k⟩:=h
 refine⟨_,(a6 (aj (i:=1) dD)
  (a6 (b7 wao rfl (d1 rfl T.range (a5 (bR (pv 0) L.ai.cl L.cA.m (iF L) (g.mono (by decide)) L.cA.b .nil bj) a8)) (ay (i:=2)) (af (b7 wao rfl (aP (bQ (pv 0) L.ai.cl L.dH.m (mj L) (g.mono (by decide)) L.dH.b .nil bj (a5 (pv 2) a8))) (eB rfl (aO (ay (i:=3)) (aO (ay (i:=4)) cT))) (af (bA (iZ waO waV waY cP (DF (pv 1) (pv 3) (bX a8) ⟨rfl,rfl,rfl,rfl⟩) (a5 (eC (a5 (pv 2) (a5 (pv 4) a8))) a8)))))))
  (af (aA (pv 1))))),?_⟩
 try dsimp only[dn,dm,b5,b6]
 refine λa ha=>?_;have s0:a9 H (upd H a (.dK [])):=a9.upd ha;obtain⟨⟨dx,p,xb,aa,ll,dp,wa,wb,wc,wz,ys,hx,_⟩,ok⟩:=id O;have O6:=ok.l1;have m8:=ok.m8;refine⟨_,rfl,x,dx,_,rfl,s0 _ _ hx,cC _ _ _ _ _ _ _ _ (by decide+kernel),x,R,rfl,O.same s0,?_⟩;refine⟨(R.wl.length:Int),rfl,by omega,by omega,?_⟩;rw[waF];refine dC (lo:=0) (n:=R.wl.length) (λi σ e=>i<=R.wl.length/\eL H e a (dY R.wl i)/\∃S o v4,σ=[some (.ref x),some (.ref a),S,o,v4]) ⟨waA _,eL.start ha,none,none,none,rfl⟩ ?_ ?_
 ·rintro i σ e hi ⟨_,M,S,o,v4,rfl⟩;show d5 2 (V.int (0+(i:Int))) _ _ _;rw[wcv];refine⟨_,rfl,x,dx,_,rfl,M.s _ _ hx,cC _ _ _ _ _ _ _ _ (by decide+kernel),_,rfl,x,R,i,rfl,O.same M.s,hi,λy z s3 r3=>?_⟩;obtain⟨yb,u,rfl,hS,U⟩:=ez r3;have X:=ok.w.ln _ (wa8 (d4 hi));have Y:=sq ok i (by omega);have C:u.length=(R.wl.getD i []).length:=by rw[U.1,wa0,wa0]
  have MB:=M.over s3;have Z:a9 (aM e z) (nP H e z):=Jz;have sO:a9 H (nP H e z):=Jy M.s;have d:=wx R.wl i;generalize nP H e z=B at MB Z sO;generalize R.wl.getD i []=c at U X C d;refine⟨yb,rfl,⟨_,(cj _ _).seq hS⟩,dA (K:=K) (a:=yb) (xs:=u.map V.ref) (λj σ J=>eL B J a (dY R.wl i++(c.take j).map λq=>(i,q.1,q.2))/\∃o v4,σ=[some (.ref x),some (.ref a),some (.int (i:Int)),o,v4]) ⟨by rw[wdp,wdP,waZ];exact MB,o,v4,rfl⟩ (λj σ J _ q=>(Z.trans q.1.s).seq hS) ?_ ?_⟩
  ·rintro j y σ J hy ⟨t,o,v4,rfl⟩;have hj:j<u.length:=by have:=(wa6.mp hy).1;rwa[wa0]at this
   have D:j<c.length:=by omega
   rw[wa4,wa1 hj]at hy;cases hy;have G:(aM e z) u[j]=some (.tup [.str c[j].1,.int (c[j].2:Int)]):=U.2 j u[j] (jT (eQ c[j])) (wa1 hj) (by rw[wa4,wa4,wa1 D];rfl);have f:dY R.wl i++(c.take (j+1)).map (λq=>(i,q.1,q.2))=(dY R.wl i++(c.take j).map λq=>(i,q.1,q.2))++[(i,c[j].1,c[j].2)]:=by rw[waP,wa1 D,wan,waT];rfl
   have G5:(dY R.wl i++(c.take j).map λq=>(i,q.1,q.2)).length<=400:=by rw[wa5,wa0,wai];omega
   generalize c[j]=q at G f;generalize dY R.wl i++(c.take j).map (λq=>(i,q.1,q.2))=done at t f G5;refine⟨u[j],_,rfl,ig.of (Z.trans t.s _ _ G),rfl,_,_,rfl,_,_,rfl,rfl,?_⟩;obtain⟨_,_,kv0,R9,_⟩:=id t;refine⟨_,rfl,a,rfl,.inl ⟨_,.inl R9⟩,_,rfl,waA _,λl0 Mz=>?_⟩;obtain⟨I,k1,k2,k3,k4⟩:=t.step Mz q.1 i q.2;refine⟨I,waj q.1,k1,rfl,?_,λv hv=>?_,λhn=>?_⟩
   ·have:=i3 I (waj q.1:Key) (.ref l0);exact aw (by omega)
   ·obtain⟨l,RW,rfl,a1,a2,a3⟩:=k3 v hv;refine⟨.inl ⟨rfl,_,aL.of a1⟩,_,rfl,_,rfl,by show 2<=sizeLine;decide,λr g=>⟨l,_,_,rfl,rfl,a9.upd g _ _ a1,by rw[wa0];exact bq (by omega),?_⟩⟩;rw[f];exact⟨a3 r g,_,_,rfl⟩
   ·obtain⟨a1,a3⟩:=k4 hn;refine⟨.inl ⟨rfl,_,aL.of a1⟩,_,rfl,_,rfl,by show 2<=sizeLine;decide,λr g=>⟨l0,_,_,rfl,rfl,a9.upd g _ _ a1,by show 0<sizeLine;decide,?_⟩⟩;rw[f];exact⟨a3 r g,_,_,rfl⟩
  ·rintro σ J ⟨t,o,v4,rfl⟩;rw[wa0,C,waI,<-d]at t;exact⟨hi,t.back sO,_,_,_,rfl⟩
 ·rintro σ e ⟨_,M,S,o,v4,rfl⟩;have Y:=sq ok _ (waa _);exact⟨_,rfl,k a e M.s (M.done (by omega))⟩
inductive LK(K:wa2)(vs:List V)(H:Hp)(Q:VK)(eE:XK):Prop
 |mk (l b:Addr) (rs:List Addr) (ps:List (Nat×Nat)) (es:List Nat) (_:vs=[.ref l,.ref b]) (_:aL K H l (rs.map V.ref)) (_:bc H rs (ps.map ki)) (_:aL K H b ((nI es).map V.int)) (_:ps.length<=1000) (_:es.length<=1000) (_:∀y ds H',a9 H H'->H' y=some (.lst ((nI ds).map V.int))->(∀i:Nat,i∈ds↔∃e∈es,(i,e)∈ps)->ds.length<=ps.length->Q (.ref y) H')
theorem xC(L:Lk K mg):aT P w K mg base df 1 L.q9 L.qc ["pairs","ends"] (LK K):=by
 have T:=L.T;refine L.lz.F.dJ (N:=["pairs","ends","wanted","end","found","desk"]) (λi5 A outer s H vs Q E nd hr h=>?_);obtain⟨l,b,x,ps,B,rfl,hL,hT,hE,pl,el,k⟩:=h;have f:=fk hr
 refine⟨_,(a6 (aj (i:=2) dD)
  (a6 (b7 wao rfl (aP (pv 1)) (ay (i:=3)) (af (eD f (pv 2) (pv 3) gy rfl)))
  (a6 (aj (i:=4) dD)
  (a6 (b7 wao rfl (aP (pv 0)) (eB rfl (aO (ay (i:=5)) (aO (ay (i:=3)) cT))) (af (bD (yT (Hm f (pv 3) (pv 2))) (af (eD f (pv 4) (pv 5) gy rfl)) aN)))
  (af (aA (bp (kC rfl) (by rfl) T.list gz (a5 (pv 4) a8)))))))),?_⟩
 try dsimp only[dn,dm,b5,b6]
 refine λm hw=>?_;have X:x.length=ps.length:=by rw[hT.1,wa0]
 refine⟨_,rfl,b,rfl,⟨_,(a9.upd hw).seq hE⟩,dA (K:=K) (a:=b) (xs:=(nI B).map V.int) (λi σ t=>a9 H t/\(∃n,t m=some (.dK (dB n))/\(∀e,e∈n↔e∈B.take i)/\n.length<=i)/\∃u,σ=[some (.ref l),some (.ref b),some (.ref m),u,none,none]) ⟨a9.upd hw,⟨[],a7,λe=>by rw[wdp],waa _⟩,none,rfl⟩ (λi σ t _ q=>q.1.seq hE) ?_ ?_⟩
 ·rintro i y σ t j ⟨J,⟨n,M,f,ul⟩,u,rfl⟩;have hi:i<B.length:=by have:=(wa6.mp j).1;rwa[wa0,cH]at this
  rw[vF (wa1 hi)]at j;cases j;obtain⟨Y,Z,e2,e3⟩:=JB B[i] n;refine⟨_,rfl,_,rfl,m,_,rfl,ky.k (k:=wb4 (B[i]:Int)) M (bq (by unfold dB;rw[wa0];omega)),?_⟩;rw[Z];refine⟨λc o e=>by rw[ae (ag e hw)];exact J _ _ e,⟨Y,a7,λe=>?_,by omega⟩,_,rfl⟩;rw[e2,f,waP,wa1 hi,waE];simp
 ·rintro σ t ⟨J,⟨n,M,f,ul⟩,u,rfl⟩;rw[wa0,cH,waI]at f;refine λfd O=>?_;have nwf:m≠fd:=ag M O;have s3:=J.trans (a9.upd (o:=.dK []) O);have h3:=a9.upd (o:=.dK []) O _ _ M;have g3:(upd t fd (.dK [])) fd=some (.dK (dB [])):=a7;have ff:=none_of J O;generalize upd t fd (.dK [])=H3 at s3 h3 g3;refine⟨_,rfl,l,rfl,⟨_,s3.seq hL⟩,dA (K:=K) (a:=l) (xs:=x.map V.ref) (λi σ C=>a9 H C/\C m=some (.dK (dB n))/\(∃r,C fd=some (.dK (dB r))/\(∀d,d∈r↔∃e∈B,(d,e)∈ps.take i)/\r.length<=i)/\∃u v5,σ=[some (.ref l),some (.ref b),some (.ref m),u,some (.ref fd),v5]) ⟨s3,h3,⟨[],g3,λd=>⟨(λz=>nomatch z),λ⟨e,_,z⟩=>by rw[wdp]at z;cases z⟩,waa _⟩,_,none,rfl⟩ (λi σ C _ q=>q.1.seq hL) ?_ ?_⟩
  ·rintro i y σ C j ⟨D,R,⟨r,S,hd,dl⟩,u,v5,rfl⟩;have hi:i<x.length:=by have:=(wa6.mp j).1;rwa[wa0]at this
   have G:i<ps.length:=by omega
   rw[wa4,wa1 hi]at j;cases j;have I:H x[i]=some (.tup (ki ps[i])):=hT.2 i x[i] _ (wa1 hi) (by rw[wa4,wa1 G];rfl);have v:ps.take (i+1)=ps.take i++[ps[i]]:=by rw[waP,wa1 G];rfl
   generalize ps[i]=p at I v;refine⟨x[i],_,rfl,ig.of (D _ _ I),rfl,_,_,rfl,_,_,rfl,rfl,?_⟩;have g:=eM.k (k:=(wb4 (p.2:Int):Key)) R;rw[zv]at g
   by_cases U:p.2∈n
   ·rw[if_pos U]at g;obtain⟨ds',Z,e2,e3⟩:=JB p.1 r;refine⟨_,rfl,_,rfl,m,_,rfl,g,true,rfl,fO ?_⟩;refine⟨_,rfl,_,rfl,fd,_,rfl,ky.k (k:=wb4 (p.1:Int)) S (bq (by unfold dB;rw[wa0];omega)),?_⟩;rw[Z];refine⟨λc o e=>by rw[ae (ag e ff)];exact D _ _ e,by rw[ae nwf];exact R,⟨ds',a7,λd=>?_,by omega⟩,_,_,rfl⟩;rw[e2,hd,v];constructor
    ·rintro(⟨e,a,c⟩ |rfl)
     ·exact⟨e,a,waW _ c⟩
     ·exact⟨p.2,(f _).mp U,waL _ (waq.mpr rfl)⟩
    ·rintro⟨e,a,c⟩;rcases waE.mp c with c |c
     ·exact .inl ⟨e,a,c⟩
     ·exact .inr (congrArg Prod.fst (waq.mp c))
   ·rw[if_neg U]at g;refine⟨_,rfl,_,rfl,m,_,rfl,g,false,rfl,cb ⟨D,R,⟨r,S,λd=>?_,by omega⟩,_,_,rfl⟩⟩;rw[hd,v];constructor
    ·rintro⟨e,a,c⟩;exact⟨e,a,waW _ c⟩
    ·rintro⟨e,a,c⟩;rcases waE.mp c with c |c
     ·exact⟨e,a,c⟩
     ·have:=congrArg Prod.snd (waq.mp c);exact absurd ((f _).mpr (this ▸ a)) U
  ·rintro σ C ⟨D,R,⟨r,S,hd,dl⟩,u,v5,rfl⟩;rw[wa0,X]at hd dl;rw[waI]at hd;refine⟨_,rfl,fd,_,rfl,S,λy j=>?_⟩;rw[El];exact k y r _ (D.trans (a9.upd j)) a7 hd dl
theorem gq(L:Lk K mg):aT P w K mg base df 1 L.jX L.jY ["self","row"] (CQ L.aB):=by
 have T:=L.T;refine L.bM.F.dJ (N:=["self","row","number","sign"]) (λm A outer s H z Q E nd C h=>?_);obtain⟨x,r,g,D,ss,ls,rfl,B,n,k⟩:=h;obtain⟨⟨t,b,d,q,G,u,I,J,M,O,R⟩,_,_,_⟩:=id B;refine⟨_,(af (b7 wao rfl (AJ (by rfl) T.enum (a5 (pv 1) a8)) (eB rfl (aO (ay (i:=2)) (aO (ay (i:=3)) cT))) (af (bD (aG z8 (pv 3) (aE (pv 0) rfl) rfl) du aN)))),?_⟩
 try dsimp only[dn,dm,b5,b6]
 refine⟨_,rfl,r,rfl,yi (λi σ a=>a9 H a/\∃f j,σ=[some (.ref x),some (.str r),f,j]) ⟨a9.refl _,none,none,rfl⟩ ?_ (λσ a p=>k a p.1)⟩;rintro i c σ a T hc ⟨v,f,j,rfl⟩ y;have l:=v.trans (a9.upd (o:=.tup [.int (i:Nat),.str ⟨#[c]⟩]) y);refine⟨T,_,rfl,ig.of a7,rfl,_,_,rfl,_,_,rfl,rfl,?_⟩;refine⟨_,rfl,_,rfl,x,L.aB,t,_,_,rfl,l _ _ u,L.aI.cl,L.aI.pZ,kM g b d q,_,_,rfl,rfl,_,rfl,?_⟩
 have e:(!(wd0 g ⟨#[c]⟩ 0 g.length 1).isEmpty)=true:=by
  have:=E6 g c;rw[decide_eq_true (n c (wa8 hc))]at this;exact this
 rw[e];exact cb ⟨l,_,_,rfl⟩
theorem su(L:Lk K mg):aT P w K mg base df 2 L.lX L.lY ["self","row"] (Fs L.aB):=by
 have T:=L.T;refine L.fu.F.dJ (N:=["self","row","place","number","sign"]) (λJ A outer s H X Q E nd p h=>?_);obtain⟨x,r,g,t,ss,ls,rfl,B,u,v,hw,k⟩:=h;obtain⟨⟨y,b,d,q,mv,z,Y,M,O,R,Z⟩,pm,_,_⟩:=id B;have C:("":Str)∈ss:=pm.mem_iff.mpr (cy t);have D:=fk p
 refine⟨_,(a6 (bA (bQ (pv 0) L.aI.cl L.bM.m (gq L) (p.mono (by decide)) L.bM.b .nil bj (a5 (pv 1) a8)))
  (a6 (aj (i:=2) fb)
  (a6 (b7 wao rfl (AJ (by rfl) T.enum (a5 (pv 1) a8)) (eB rfl (aO (ay (i:=3)) (aO (ay (i:=4)) cT))) (a6 (aj (i:=2) (dk D (dk D (aE (pv 0) rfl) (pv 2) (λ_ _=>rfl)) (pv 4) (λ_ _=>rfl)))
  (af (bD (aG GW (pv 2) gD (aU _)) du aN))))
  (af (aA (pv 2)))))),?_⟩
 try dsimp only[dn,dm,b5,b6]
 refine⟨_,rfl,x,y,_,rfl,z,CA _ _ _ _ (by decide+kernel) (by decide+kernel) (by decide+kernel) (by decide+kernel),_,rfl,x,r,g,t,ss,ls,rfl,B,u,λH1 S=>?_⟩;refine⟨_,rfl,r,rfl,yi (λi σ e=>a9 H e/\∃j v4,σ=[some (.ref x),some (.str r),some (.str (lend ss (dE r i))),j,v4]) ⟨S,none,none,?_⟩ ?_ ?_⟩
 ·rw[take_zero,HY C];rfl
 ·rintro i c σ e T hc ⟨l,j,v4,rfl⟩ U;have f:=l.trans (a9.upd (o:=.tup [.int (i:Nat),.str ⟨#[c]⟩]) U);have n:=u c (wa8 hc);obtain⟨a,ha,V⟩:=iT (mv:=mv) (k:=lend ss (dE r i)) (by rw[O];exact pN C _);have G:=eM.k (k:=(waj (lend ss (dE r i)):Key)) (f _ _ M);rw[V]at G;have I:=eM.k (k:=(waj (⟨#[c]⟩:Str):Key)) (f _ _ (R _ ha));rw[E9 n,KJ pm hw (jQ (AK r i) v),<-take_snoc hc,jQ (AK r (i+1)) v,if_neg (by simp)]at I;refine⟨T,_,rfl,ig.of a7,rfl,_,_,rfl,_,_,rfl,rfl,?_⟩;refine⟨_,rfl,x,L.aB,y,_,_,rfl,f _ _ z,L.aI.cl,L.aI.lu,kF g b d q,_,rfl,d,_,rfl,G,_,rfl,a,_,rfl,I,?_⟩;exact⟨_,rfl,rfl,_,rfl,cb ⟨f,_,_,rfl⟩⟩
 ·rintro σ e ⟨l,j,v4,rfl⟩;have:=k e l;rw[<-take_all r]at this;exact⟨_,rfl,by rw[take_all]at this ⊢;exact this⟩
inductive LL(C:Addr)(vs:List V)(H:Hp)(Q:VK)(eE:XK):Prop
 |mk (x r g ws ss ls) (_:vs=[.ref x,.str r]) (_:aY C H x g ws ss ls) (_:(∀c∈ch r,c∈ch g)) (_:ws.length<=1000) (_:∀H',a9 H H'->Q (.bl (!bears ws r)) H')
theorem ub(L:Lk K mg):aT P w K mg base df 2 L.mR L.mS ["self","row"] (LL L.aB):=by
 refine L.gf.F.dJ (N:=["self","row"]) (λi A outer s H t Q E nd j h=>?_);obtain⟨x,r,g,c,ss,ls,rfl,B,l,hw,k⟩:=h
 refine⟨_,(a6 (bA (bQ (pv 0) L.aI.cl L.bM.m (gq L) (j.mono (by decide)) L.bM.b .nil bj (a5 (pv 1) a8)))
  (af (aA (GL (aq (iC L) L.eR (a5 (pv 1) (a5 (aE (pv 0) rfl) a8))))))),?_⟩
 try dsimp only[dn,dm,b5,b6]
 obtain⟨⟨e,b,d,q,u,f,n,v,y,z,C⟩,_,_,_⟩:=id B;refine⟨_,rfl,x,e,_,rfl,f,CA _ _ _ _ (by decide+kernel) (by decide+kernel) (by decide+kernel) (by decide+kernel),_,rfl,x,r,g,c,ss,ls,rfl,B,l,λD a=>?_⟩;exact⟨_,rfl,_,rfl,x,L.aB,e,_,_,rfl,a _ _ f,L.aI.cl,L.aI.vN,sQ g b d q,r,b,c,rfl,aL.of (a _ _ n),hw,λo p=>⟨_,rfl,k o (a.trans p)⟩⟩
inductive Gr(K:wa2)(C CB CP CE:Addr)(vs:List V)(H:Hp)(Q:VK)(eE:XK):Prop
 |mk (z dz x R) (_:vs=[.ref z,.ref x]) (_:H z=some (.ins CE dz [])) (_:sj K C CB CP (fP H z) x R) (_:∀H',(∀c o,H c=some o->c≠z->H' c=some o)->zR K C CB CP CE H' z R->Q .non H')
theorem pA(L:Lk K mg):aT P w K mg base df 3 L.fW L.js ["self","writer"] (Gr K L.ak L.aB L.aR L.aH):=by
 refine L.gb.F.dJ (N:=["self","writer"]) (λj A outer s H n Q E nd p h=>?_);obtain⟨z,b,x,R,rfl,l,g,k⟩:=h
 refine⟨_,(a6 (dg (pv 0) (pv 1) rfl)
  (af (dg (pv 0) (aq (sr L) L.ir (a5 (pv 1) a8)) rfl))),?_⟩
 try dsimp only[dn,dm,b5,b6]
 refine⟨_,rfl,_,rfl,z,L.aH,b,[],rfl,l,L.av.cl,L.av.bJ,(show 0<1000 by decide),?_⟩;rw[MF];have g2:(upd H z (.ins L.aH b (yR x))) z=some (.ins L.aH b (yR x)):=a7;have d:∀c o,H c=some o->c≠z->(upd H z (.ins L.aH b (yR x))) c=some o:=λc o e hc=>by rw[ae hc];exact e
 generalize upd H z (.ins L.aH b (yR x))=q at g2 d;refine⟨_,rfl,x,R,rfl,g.same (fq d),λa m f P3=>?_⟩;refine⟨_,rfl,z,L.aH,b,_,rfl,f _ _ g2,L.av.cl,L.av.Er,(show 1<1000 by decide),?_⟩;rw[JC];have i:∀c o,H c=some o->c≠z->(upd m z (.ins L.aH b (Gp x a))) c=some o:=λc o e hc=>by rw[ae hc];exact f _ _ (d c o e hc)
 exact k _ i ⟨b,x,a,a7,P3.put (f _ _ g2) _,g.same (fq i)⟩
inductive LN(K:wa2)(C CB CP CE:Addr)(u:Wr->V)(vs:List V)(H:Hp)(Q:VK)(eE:XK):Prop
 |mk (z R) (_:vs=[.ref z]) (_:zR K C CB CP CE H z R) (_:∀H',a9 H H'->Q (u R) H')
theorem jh(L:Lk K mg):aT P w K mg base df 4 L.f7 L.f9 ["self"] (LN K L.ak L.aB L.aR L.aH (λR=>.int ((R.b:Int)+1+(R.c:Int)))):=by
 refine L.c9.F.dJ (N:=["self"]) (λn A outer s H q Q E nd f h=>?_);obtain⟨z,R,rfl,⟨g,x,a,i,r,e⟩,k⟩:=h;refine⟨_,(af (aA (aK dP (aK dP (bR (aE (pv 0) rfl) L.ai.cl L.bB.m (eY L) (f.mono (by decide)) L.bB.b .nil bj) ao) (bR (aE (pv 0) rfl) L.ai.cl L.cz.m (iE L) (f.mono (by decide)) L.cz.b .nil bj)))),?_⟩
 try dsimp only[dn,dm,b5,b6]
 obtain⟨⟨j,p,t,u,v,dp,y,B,C,D,G,l,_⟩,ok⟩:=id e;refine⟨_,rfl,z,L.aH,g,_,_,rfl,i,L.av.cl,L.av.bJ,aS x a,x,j,_,rfl,l,cC _ _ _ _ _ _ _ _ (by decide+kernel),DJ e λo d=>?_⟩;exact⟨_,_,rfl,rfl,_,rfl,z,L.aH,g,_,_,rfl,d _ _ i,L.av.cl,L.av.bJ,aS x a,x,j,_,rfl,d _ _ l,cC _ _ _ _ _ _ _ _ (by decide+kernel),x,R,rfl,e.same d,_,_,rfl,rfl,k o d⟩
inductive Gs(K:wa2)(C CB CP CE:Addr)(vs:List V)(H:Hp)(Q:VK)(eE:XK):Prop
 |mk (z R us) (_:vs=[.ref z,.str (cat us)]) (_:zR K C CB CP CE H z R) (_:(∀u∈us,u.length=R.n)) (_:us.length<=2000) (_:∀l ds H',a9 H H'->H' l=some (.lst ((nI ds).map V.int))->(∀e:Nat,e∈ds↔e<R.wl.length/\ke R.wl e us)->Q (.ref l) H')
theorem jH(L:Lk K mg):aT P w K mg base df 2 L.fG L.fH ["self","row"] (Gs K L.ak L.aB L.aR L.aH):=by
 have T:=L.T;refine L.cE.F.dJ (N:=["self","row","wide","blocks","desks","block"]) (λi5 A outer s H vs Q E nd hr h=>?_);obtain⟨z,R,c,rfl,⟨dz,x,a,hz,hP,Wv⟩,X,ul,k⟩:=h;have hu:=fk hr
 refine⟨_,(a6 (aj (i:=2) (aE (aE (pv 0) rfl) rfl))
  (a6 (dS (i:=3) rfl (ax ["row","wide"] [1,2]) nd rfl rfl (Go rfl T.range (a5 ao (a5 (aC bC (by rfl) T.len waJ (a5 (pv 1) a8)) (a5 (pv 2) a8)))) (λ_ _ _ _ _ _=>bo) (λ_ _ _ _ _ _=>(cu kD (pv 1) (bN (pv 0)) (bN (aK dP (pv 0) (pv 2))))))
  (a6 (aj (i:=4) (bp (uZ rfl) (by rfl) T.list gz (a5 (bp sP (by rfl) T.range Ef (a5 (bR (aE (pv 0) rfl) L.ai.cl L.cA.m (iF L) (hr.mono (by decide)) L.cA.b .nil bj) a8)) a8)))
  (a6 (b7 wao rfl (Oh (by rfl) T.reversed (a5 (pv 3) a8)) (ay (i:=5)) (af (aj (i:=4) (aq (xC L) L.lz (a5 (Ho hu (aE (pv 0) rfl) (pv 5) (bX a8) ⟨rfl,rfl,rfl,rfl⟩) (a5 (pv 4) a8))))))
  (af (aA (pv 4))))))),?_⟩
 try dsimp only[dn,dm,b5,b6]
 obtain⟨⟨dx,p,xb,aa,ll,dp,wa,wb,wc,wz,ys,hx,_⟩,ok⟩:=id Wv;have n1:=ok.n1;have wQ:=ok.wQ;have l1:=ok.l1;have y4:(cat c).length=R.n*c.length:=hX X;have OJ:R.n*c.length<=10*2000:=wc3 wQ ul;refine⟨_,rfl,z,L.aH,dz,_,_,rfl,hz,L.av.cl,L.av.bJ,aS x a,x,L.ak,dx,_,_,rfl,hx,L.ai.cl,L.ai.mL,fC ..,?_⟩;refine⟨_,rfl,cat c,rfl,aw (by omega),?_⟩;rw[y4,wbo];refine⟨_,rfl,(R.n:Int),c.length,rfl,by omega,by omega,by rw[<-wbo];omega,by omega,λlb hlb=>?_⟩;refine comp_map (λv=>match v with |.int i=>.str (wb9 (cat c) (some i) (some (i+(R.n:Int)))) |_=>.non) (B6 0 (R.n:Int) c.length) hlb (by rw[wa0,waK];exact aw (by omega)) (λ_ _=>trivial) (λv I Q' hv Y q=>?_) (λI Y J=>?_)
 ·obtain⟨i,hi,rfl⟩:=wab.mp hv;exact⟨_,rfl,_,rfl,_,rfl,_,rfl,_,rfl,_,_,rfl,rfl,_,rfl,cat c,rfl,aw (by omega),q I (a9.refl _)⟩
 have em:((waD c.length).map λ(i:Nat)=>V.int (0+(i:Int)*(R.n:Int))).map (λv=>match v with |.int i=>V.str (wb9 (cat c) (some i) (some (i+(R.n:Int)))) |_=>.non)=c.map V.str:=by
  rw[wah];refine wei (by rw[wa0,wa0,waK]) λi h1 J=>?_;rw[wa0]at J;rw[wcW,wcW,weW];show V.str (wb9 (cat c) (some (0+(i:Int)*(R.n:Int))) (some (0+(i:Int)*(R.n:Int)+(R.n:Int))))=_;rw[show (0:Int)+(i:Int)*(R.n:Int)=((R.n*i:Nat):Int) by rw[wcv,wbo,wdn],show ((R.n*i:Nat):Int)+(R.n:Int)=((R.n*(i+1):Nat):Int) by rw[wea];omega,zP X (wc1 i) J];rw[show (c.take (i+1)).drop i=[c[i]] by rw[waP,wa1 J,wcx (by rw[wai];omega),wby (by rw[wai];omega)];rfl,EG]
 rw[em]at J;refine⟨_,rfl,z,L.aH,dz,_,_,rfl,Y _ _ hz,L.av.cl,L.av.bJ,aS x a,x,dx,_,rfl,Y _ _ hx,cC _ _ _ _ _ _ _ _ (by decide+kernel),x,R,rfl,Wv.same Y,?_⟩;refine⟨_,rfl,λpg hpg=>⟨pg,R.wl.length,rfl,a7,aw (by omega),λZ Mz=>?_⟩⟩;have s3:a9 I (upd (upd I pg (.rng 0 (R.wl.length:Int))) Z (.lst ((waD R.wl.length).map λi=>V.int (i:Nat)))):=(a9.upd hpg).trans (a9.upd Mz);have h3:(upd (upd I pg (.rng 0 (R.wl.length:Int))) Z (.lst ((waD R.wl.length).map λi=>V.int (i:Nat)))) Z=some (.lst ((nI (waD R.wl.length)).map V.int)):=by rw[a7,vJ]
 generalize upd (upd I pg (.rng 0 (R.wl.length:Int))) Z (.lst ((waD R.wl.length).map λi=>V.int (i:Nat)))=H3 at s3 h3;have wO:=Y.trans s3;have Xv:=s3 _ _ J;refine⟨_,rfl,lb,_,rfl,aL.of Xv,my (Ju K lb (c.map V.str)) (λi σ j=>i<=c.length/\a9 H3 j/\∃l r v5,σ=[some (.ref z),some (.str (cat c)),some (.int (R.n:Int)),some (.ref lb),some (.ref l),v5]/\j l=some (.lst ((nI r).map V.int))/\(∀e:Nat,e∈r↔e<R.wl.length/\ke R.wl e (c.drop (c.length-i)))/\r.length<=1000) ⟨waA _,a9.refl _,Z,_,none,rfl,h3,λe=>?_,by rw[waK];omega⟩ (λi σ j _ q=>aL.of (q.2.1 _ _ Xv)) ?_ ?_⟩
 ·rw[wb1,Nat.sub_zero,whz];exact⟨λh=>⟨h,trivial⟩,λh=>h.1⟩
 ·rintro i y σ j hy ⟨_,s4,l,r,v5,rfl,h4,hd,dl⟩;have hi:i<c.length:=by have:=(wa6.mp hy).1;rwa[wcC,wa0]at this
  rw[wgq (by rw[wa0];exact hi),wa0,wa4,wa1 (show c.length-1-i<c.length by omega)]at hy;cases hy
  have D:c.drop (c.length-(i+1))=c[c.length-1-i]::c.drop (c.length-i):=by
   rw[show c.length-(i+1)=c.length-1-i by omega,wfj (show c.length-1-i<c.length by omega),show c.length-1-i+1=c.length-i by omega]
  generalize c[c.length-1-i]'(by omega)=w at D;generalize c.drop (c.length-i)=rest at hd D;have G:=wO.trans s4;obtain⟨kvs,p1,p2⟩:=id hP
  have fin:∀(M:Addr) (O:List Addr) (ps:List (Nat×Nat)) (t:Hp),a9 j t->t M=some (.lst (O.map V.ref))->bc t O (ps.map ki)->ps.length<=1000->(∀i e:Nat,(i,e)∈ps↔(w,e)∈R.wl.getD i [])->∀(y:Addr) (d:List Nat) (H':Hp),a9 t H'->(∀i:Nat,i∈d↔∃e∈r,(i,e)∈ps)->∀e:Nat,e∈d↔e<R.wl.length/\ke R.wl e (c.drop (c.length-(i+1))):=by
   intro M O ps t _ _ _ _ S y d H' _ JX e;rw[JX,D];constructor
   ·rintro⟨e',u,B⟩;have U:=(S _ _).mp B;refine⟨wcm λq=>?_,e',U,((hd _).mp u).2⟩;rw[wa3,wcl (by omega)]at U;cases U
   ·rintro⟨_,e',u,B⟩;exact⟨e',(hd _).mpr ⟨ok.rd.e _ _ u,B⟩,(S _ _).mpr u⟩
  refine⟨_,rfl,z,L.aH,dz,_,_,rfl,G _ _ hz,L.av.cl,L.av.Er,BG x a,a,rfl,.inl ⟨_,.inl (G _ _ p1)⟩,_,rfl,waA _,λle hle=>?_⟩;have C:=a9.upd (H:=j) (o:=.lst []) hle;have h5:(upd j le (.lst [])) le=some (.lst (([]:List Addr).map V.ref)):=a7;generalize upd j le (.lst [])=t at C h5;have f:=G.trans C;have g:=eM.k (k:=(waj w:Key)) (f _ _ p1);rcases p2 w with⟨u,B⟩ |⟨M,O,ps,u,B,U,q4,q5⟩
  ·rw[u]at g;refine⟨none,g,_,rfl,le,l,[],[],r,rfl,aL.of h5,bc.nil _,aL.of (C _ _ h4),waA _,dl,λy d H6 s6 h6 S hl=>?_⟩;exact⟨hi,s4.trans (C.trans s6),y,d,_,rfl,h6,fin le [] [] t C h5 (bc.nil _) (waA _) (λi e=>⟨(λh=>nomatch h),λh=>absurd h (B i e)⟩) y d H6 s6 S,wal hl (waA _)⟩
  ·rw[u]at g;refine⟨some (.ref M),g,_,rfl,M,l,O,ps,r,rfl,aL.of (f _ _ B),U.same f,aL.of (C _ _ h4),q4,dl,λy d H6 s6 h6 S hl=>?_⟩;exact⟨hi,s4.trans (C.trans s6),y,d,_,rfl,h6,fin M O ps t C (f _ _ B) (U.same f) q4 q5 y d H6 s6 S,wal hl q4⟩
 ·rintro σ j ⟨_,s4,l,r,v5,rfl,h4,hd,dl⟩;rw[wcC,wa0,wbC,weO]at hd;exact⟨_,rfl,k l r j (wO.trans s4) h4 hd⟩
inductive Gu(K:wa2)(C CB CP CE:Addr)(vs:List V)(H:Hp)(Q:VK)(eE:XK):Prop
 |mk (z R bs w us) (_:vs=[.ref z,.str (cat (bs++w::us))]) (_:zR K C CB CP CE H z R) (_:(∀u∈bs++w::us,u.length=R.n/\∀c∈ch u,c∈ch R.g)) (_:bs.length=R.b) (_:us.length=R.c) (_:(bears R.bw (cat bs)=true->∀H',a9 H H'->Q .non H')) (_:(∀i:Nat,bears R.bw (cat bs)=false->nO R.ss R.hk R.wl (cat bs) w us i->∀H',a9 H H'->Q (.int (i:Int)) H')) (_:(bears R.bw (cat bs)=false->(∀i,¬nO R.ss R.hk R.wl (cat bs) w us i)->∀H',a9 H H'->Q .non H'))
theorem JG{ws:List Str}{g:Str}(h:∀u∈ws,∀c∈ch u,c∈ch g):∀c∈ch (cat ws),c∈ch g:=λc hc=>by
 rw[Jw]at hc;obtain⟨l,a,b⟩:=List.mem_flatten.mp hc;obtain⟨u,d,rfl⟩:=wab.mp a;exact h u d c b
theorem lN(L:Lk K mg):aT P w K mg base df 4 L.gA L.gB ["self","window"] (Gu K L.ak L.aB L.aR L.aH):=by
 have T:=L.T;refine L.cW.F.dJ (N:=["self","window","start","end","place","desks","desk","number","step"]) (λi5 A outer s H vs Q E nd hr h=>?_);obtain⟨z,R,bs,w,k,rfl,D,hw,hb,hc,kB,kI,kN⟩:=h
 refine⟨_,(a6 (aj (i:=2) (aK gG (bR (aE (pv 0) rfl) L.ai.cl L.bB.m (eY L) (hr.mono (by decide)) L.bB.b .nil bj) (aE (aE (pv 0) rfl) rfl)))
  (a6 (aj (i:=3) (aK dP (pv 2) (aE (aE (pv 0) rfl) rfl)))
  (a6 (bD (dO (cF (bQ (aE (aE (pv 0) rfl) rfl) L.aI.cl L.gf.m (ub L) (hr.mono (by decide)) L.gf.b .nil bj (a5 (cu kD (pv 1) gY (bN (pv 2))) a8)))) (af (aA gD)) aN)
  (a6 (aj (i:=4) (bQ (aE (aE (pv 0) rfl) rfl) L.aI.cl L.fu.m (su L) (hr.mono (by decide)) L.fu.b .nil bj (a5 (cu kD (pv 1) gY (bN (pv 2))) a8)))
  (a6 (aj (i:=5) (bQ (pv 0) L.av.cl L.cE.m (jH L) (hr.mono (by decide)) L.cE.b .nil bj (a5 (cu kD (pv 1) (bN (pv 3)) gY) a8)))
  (a6 (b7 wao rfl (d1 rfl T.range (a5 (bR (aE (pv 0) rfl) L.ai.cl L.cA.m (iF L) (hr.mono (by decide)) L.cA.b .nil bj) a8)) (ay (i:=6)) (af (bD (aG pH (bQ (aE (pv 0) rfl) L.ai.cl L.eJ.m (pz L) (hr.mono (by decide)) L.eJ.b .nil bj (a5 (pv 6) a8)) (pv 4) (aU _)) (af (b7 wao rfl (kE (by rfl) T.enum (a5 (bQ (aE (pv 0) rfl) L.ai.cl L.dH.m (mj L) (hr.mono (by decide)) L.dH.b .nil bj (a5 (pv 6) a8)) a8)) (eB rfl (aO (ay (i:=7)) (aO (ay (i:=8)) cT))) (af (bD (PW.pt (C3 (aG pH (b8 fQ (pv 8) ao (λ_ _=>rfl)) (cu kD (pv 1) (bN (pv 2)) (bN (pv 3))) (aU _)) (yU (aG rq (b8 fQ (pv 8) ao (λ_ _=>rfl)) (pv 5) rfl)))) (af (aA (pv 7))) aN)))) aN)))
  (af (aA gD)))))))),?_⟩
 try dsimp only[dn,dm,b5,b6]
 obtain⟨M,x,a,O,hP,Wv⟩:=id D;obtain⟨⟨dx,p,xb,aa,ll,dp,wa,wb,wc,wz,ys,hx,_,_,_,_,_,B⟩,ok⟩:=id Wv;obtain⟨⟨Sv,bb,db,qb,mv,Sw,_⟩,_,_,_⟩:=id B;have n1:=ok.n1;have wQ:=ok.wQ;have l1:=ok.l1;have b1:=ok.b1;have c1:=ok.c1;have f:∀u∈bs++w::k,u.length=R.n:=λu h=>(hw u h).1;have AF:(cat (bs++w::k)).length=R.n*(R.b+(R.c+1)):=by rw[hX f,wa5,waM,hb,hc]
 have UG:R.n*(R.b+(R.c+1))<=10*3000:=wc3 wQ (by omega);have e1:wb9 (cat (bs++w::k)) none (some ((R.n*R.b:Nat):Int))=cat bs:=by rw[Oi f,<-hb,wgl]
 have e2:wb9 (cat (bs++w::k)) (some ((R.n*(R.b+1):Nat):Int)) none=cat k:=by
  rw[Jx f,<-hb,show bs++w::k=(bs++[w])++k by rw[waT];rfl,show bs.length+1=(bs++[w]).length by rw[wa5];rfl,wgk]
 have e3:wb9 (cat (bs++w::k)) (some ((R.n*R.b:Nat):Int)) (some ((R.n*(R.b+1):Nat):Int))=w:=by
  rw[zP f (show R.b<=R.b+1 by omega) (by rw[wa5,waM];omega),<-hb,show bs++w::k=(bs++[w])++k by rw[waT];rfl,show bs.length+1=(bs++[w]).length by rw[wa5];rfl,wgl,wgk,EG]
 have Xw:∀c∈ch (cat bs),c∈ch R.g:=JG λu h=>(hw u (waW _ h)).2;have Sb:∀u∈k,u.length=R.n:=λu h=>f u (waL _ (wac _ h));generalize Vp:cat (bs++w::k)=v at AF e1 e2 e3;clear f hw Vp;refine bU λR1 q1=>?_;refine⟨_,rfl,z,L.aH,M,_,_,rfl,O,L.av.cl,L.av.bJ,aS x a,x,dx,_,rfl,hx,cC _ _ _ _ _ _ _ _ (by decide+kernel),DJ Wv λH1 S=>?_⟩;refine⟨_,rfl,z,L.aH,M,_,_,rfl,S _ _ O,L.av.cl,L.av.bJ,aS x a,x,L.ak,dx,_,_,rfl,S _ _ hx,L.ai.cl,L.ai.mL,fC ..,_,_,rfl,rfl,.inl ⟨by omega,by omega⟩,?_⟩;show d5 2 (V.int ((R.b:Int)*(R.n:Int))) _ _ _;rw[show (R.b:Int)*(R.n:Int)=((R.n*R.b:Nat):Int) by rw[wbo,wdn]];refine q1 _ _ (bU λR2 q2=>?_);refine⟨_,rfl,_,rfl,z,L.aH,M,_,_,rfl,S _ _ O,L.av.cl,L.av.bJ,aS x a,x,L.ak,dx,_,_,rfl,S _ _ hx,L.ai.cl,L.ai.mL,fC ..,_,_,rfl,rfl,?_⟩;show d5 3 (V.int (((R.n*R.b:Nat):Int)+(R.n:Int))) _ _ _;rw[show ((R.n*R.b:Nat):Int)+(R.n:Int)=((R.n*(R.b+1):Nat):Int) by rw[wea];omega];refine q2 _ _ (bU λR3 q3=>?_);refine⟨_,rfl,z,L.aH,M,_,_,rfl,S _ _ O,L.av.cl,L.av.bJ,aS x a,x,L.ak,dx,_,_,rfl,S _ _ hx,L.ai.cl,L.ai.vO,lL ..,xb,Sv,_,rfl,S _ _ Sw,CA _ _ _ _ (by decide+kernel) (by decide+kernel) (by decide+kernel) (by decide+kernel),_,rfl,_,rfl,_,rfl,v,rfl,aw (by omega),?_⟩;rw[e1];refine⟨xb,cat bs,R.g,R.bw,R.ss,R.ls,rfl,B.same S,Xw,ok.bl,λH2 s2=>?_⟩;have C:=S.trans s2
 cases U:bears R.bw (cat bs) with
 |true=>exact⟨false,rfl,fO (kB U H2 C)⟩
 |false=>
  refine⟨true,rfl,cb ?_⟩;refine q3 _ _ (bU λR4 q4=>?_);refine⟨_,rfl,z,L.aH,M,_,_,rfl,C _ _ O,L.av.cl,L.av.bJ,aS x a,x,L.ak,dx,_,_,rfl,C _ _ hx,L.ai.cl,L.ai.vO,lL ..,xb,Sv,_,rfl,C _ _ Sw,CA _ _ _ _ (by decide+kernel) (by decide+kernel) (by decide+kernel) (by decide+kernel),_,rfl,_,rfl,_,rfl,v,rfl,aw (by omega),?_⟩;rw[e1];refine⟨xb,cat bs,R.g,R.bw,R.ss,R.ls,rfl,B.same C,Xw,U,λw hw=>(ok.hw w hw).1,λH3 s3=>?_⟩;have wO:=C.trans s3;refine q4 _ _ (bU λR5 q5=>?_);refine⟨_,rfl,z,M,_,rfl,wO _ _ O,ie (by show ("desks_ahead_of":Str)∉[("writer":Str),"pairs"];decide+kernel),_,rfl,_,rfl,_,rfl,v,rfl,aw (by omega),?_⟩;rw[e2];refine⟨z,R,k,rfl,D.same wO,Sb,by omega,λld ds H4 s4 h4 hd=>?_⟩;have J:=wO.trans s4;generalize Kx:lend R.ss (cat bs)=pl;refine q5 _ _ ?_;clear q1 q2 q3 q4 q5;refine⟨_,rfl,z,L.aH,M,_,_,rfl,J _ _ O,L.av.cl,L.av.bJ,aS x a,x,dx,_,rfl,J _ _ hx,cC _ _ _ _ _ _ _ _ (by decide+kernel),x,R,rfl,Wv.same J,(R.wl.length:Int),rfl,by omega,by omega,?_⟩;rw[waF];refine dC (lo:=0) (n:=R.wl.length) (λi σ H5=>i<=R.wl.length/\a9 H4 H5/\(∀d j e:Nat,d<i->R.hk.getD d ""=pl->(R.wl.getD d [])[j]?=some (w,e)->¬ke R.wl e k)/\∃v6 v7 v8,σ=[some (.ref z),some (.str v),some (.int ((R.n*R.b:Nat):Int)),some (.int ((R.n*(R.b+1):Nat):Int)),some (.str pl),some (.ref ld),v6,v7,v8]) ⟨waA _,a9.refl _,λd j e h=>absurd h (wcL _),none,none,none,rfl⟩ ?_ ?_
  ·rintro i σ H5 hi ⟨_,s5,X,v6,v7,v8,rfl⟩;show d5 6 (V.int (0+(i:Int))) _ _ _;rw[wcv];have l:=J.trans s5;refine⟨_,rfl,z,L.aH,M,_,_,rfl,l _ _ O,L.av.cl,L.av.bJ,aS x a,x,dx,_,rfl,l _ _ hx,cC _ _ _ _ _ _ _ _ (by decide+kernel),_,rfl,x,R,i,rfl,Wv.same l,hi,_,rfl,rfl,_,rfl,uP (λh1=>?_) (λh1=>?_)⟩
   ·have O5:R.hk.getD i ""=pl:=V.str.inj (of_decide_eq_true h1);refine⟨_,rfl,z,L.aH,M,_,_,rfl,l _ _ O,L.av.cl,L.av.bJ,aS x a,x,dx,_,rfl,l _ _ hx,cC _ _ _ _ _ _ _ _ (by decide+kernel),_,rfl,x,R,i,rfl,Wv.same l,hi,λy H6 s6 r6=>?_⟩;obtain⟨yb,Y,rfl,hS,hT⟩:=ez (bK.same (cj _ _) _ _ r6);have EA:Y.length=(R.wl.getD i []).length:=by rw[hT.1,wa0,wa0]
    refine⟨yb,_,rfl,hS,mB (K:=K) (a:=yb) (xs:=Y.map V.ref) (λj σ H7=>a9 H6 H7/\(∀Z e:Nat,Z<j->(R.wl.getD i [])[Z]?=some (w,e)->¬ke R.wl e k)/\∃v7 v8,σ=[some (.ref z),some (.str v),some (.int ((R.n*R.b:Nat):Int)),some (.int ((R.n*(R.b+1):Nat):Int)),some (.str pl),some (.ref ld),some (.int (i:Int)),v7,v8]) ⟨a9.refl _,λj e h=>absurd h (wcL _),v7,v8,rfl⟩ (λj σ H7 _ q=>q.1.seq hS) ?_ (λσ H7 q=>?_)⟩
    ·rintro j y σ H7 T hy ⟨s7,t,v7,v8,rfl⟩ N8;have hj:j<Y.length:=by have:=(wa6.mp hy).1;rwa[wa0]at this
     have Xx:j<(R.wl.getD i []).length:=by omega
     rw[wa4,wa1 hj]at hy;cases hy;have Vq:H6 Y[j]=some (.tup [.str (R.wl.getD i [])[j].1,.int ((R.wl.getD i [])[j].2:Int)]):=hT.2 j Y[j] (jT (eQ (R.wl.getD i [])[j])) (wa1 hj) (by rw[wa4,wa4,wa1 Xx];rfl);have MA:(R.wl.getD i [])[j]?=some (R.wl.getD i [])[j]:=wa1 Xx;generalize (R.wl.getD i [])[j]=q at Vq MA;have s8:=a9.upd (H:=H7) (o:=.tup [.int (j:Nat),.ref Y[j]]) N8;refine⟨T,_,rfl,ig.of a7,rfl,_,_,rfl,_,_,rfl,rfl,?_⟩;generalize upd H7 T (.tup [.int (j:Nat),.ref Y[j]])=H8 at s8;have G:=s7.trans s8;have OQ:=l.trans (s6.trans G)
     have next:¬(q.1=w/\ke R.wl q.2 k)->∀Z e:Nat,Z<j+1->(R.wl.getD i [])[Z]?=some (w,e)->¬ke R.wl e k:=λhn Z e h1 I r=>by
      by_cases c:Z<j
      ·exact t Z e c I r
      ·obtain rfl:Z=j:=by omega
       rw[MA]at I;have I:=wae I;exact hn ⟨congrArg Prod.fst I,by rw[show q.2=e from congrArg Prod.snd I];exact r⟩
     refine⟨_,rfl,Y[j],_,_,_,rfl,rfl,ig.of (G _ _ Vq),rfl,_,rfl,_,rfl,_,rfl,_,rfl,_,rfl,v,rfl,aw (by omega),?_⟩;rw[e3];refine⟨rfl,_,rfl,uP (λI=>?_) (λI=>?_)⟩
     ·have hqw:q.1=w:=V.str.inj (of_decide_eq_true I);refine⟨_,rfl,Y[j],_,_,_,rfl,rfl,ig.of (G _ _ Vq),rfl,_,rfl,ld,_,rfl,.inl (aL.of ((s5.trans (s6.trans G)) _ _ h4)),rfl,d2 _,_,rfl,?_⟩;rw[Bf];refine uP (λr=>?_) (λr=>?_)
      ·have r:=(hd _).mp (of_decide_eq_true r);exact⟨_,rfl,kI j U ⟨i,q.2,hi,by rw[Kx];exact O5,by rw[MA,<-hqw],r.2⟩ H8 OQ⟩
      ·exact⟨G,next λh=>r (decide_eq_true ((hd _).mpr ⟨ok.rd.e _ _ (wa8 MA),h.2⟩)),_,_,rfl⟩
     ·exact⟨G,next λh=>I (decide_eq_true (congrArg V.str h.1)),_,_,rfl⟩
    ·obtain⟨s7,t,v7',v8',rfl⟩:=q;rw[wa0]at t;refine⟨hi,s5.trans (s6.trans s7),λd j e h1 I r=>?_,_,_,_,rfl⟩
     by_cases c:d<i
     ·exact X d j e c I r
     ·obtain rfl:d=i:=by omega
      exact t j e (by have:=(wa6.mp r).1;omega) r
   ·refine⟨hi,s5,λd j e I r h4=>?_,_,_,_,rfl⟩
    by_cases c:d<i
    ·exact X d j e c r h4
    ·obtain rfl:d=i:=by omega
     exact absurd (decide_eq_true (congrArg V.str r)) h1
  ·rintro σ H5 ⟨_,s5,X,v6,v7,v8,rfl⟩;refine kN U (λi h=>?_) H5 (J.trans s5);obtain⟨d,e,q1,q2,q3,q4⟩:=h;exact X d i e q1 (by rw[q2,Kx]) q3 q4
inductive Gv(K:wa2)(C CB CP CE:Addr)(vs:List V)(H:Hp)(Q:VK)(eE:XK):Prop
 |mk (z R m) (_:vs=[.ref z,.int ((R.n*(R.b+m+R.c):Nat):Int)]) (_:zR K C CB CP CE H z R) (_:∀H',a9 H H'->Q (.int (m:Int)) H')
theorem MG{R:Wr}(ok:DH R):R.o.1.length=R.n*R.b:=by
 have m1:=ok.m1;have a:=qQ ok.w (wbR.mpr ok.w.ne) (ts:=wak R.b 0) λt c=>by rw[(wdi.mp c).2];omega
 rw[waQ]at a;exact a.2
theorem pB(L:Lk K mg):aT P w K mg base df 2 L.jt L.ju ["self","length"] (Gv K L.ak L.aB L.aR L.aH):=by
 have T:=L.T;refine L.eG.F.dJ (N:=["self","length","signs","words"]) (λq A outer s H u Q E nd l h=>?_);obtain⟨z,R,m,rfl,D,k⟩:=h
 refine⟨_,(a6 (aj (i:=2) (aK mq (pv 1) (aC bC (by rfl) T.len waJ (a5 (bR (aE (pv 0) rfl) L.ai.cl L.eA.m (nQ L) (l.mono (by decide)) L.eA.b .nil bj) a8))))
  (a6 (aj (i:=3) (aK mq (aK kq (pv 2) (aE (aE (pv 0) rfl) rfl)) (bR (aE (pv 0) rfl) L.ai.cl L.cz.m (iE L) (l.mono (by decide)) L.cz.b .nil bj)))
  (a6 (bD (PW.pt (hZ (aG GU (aK cX (pv 2) (aE (aE (pv 0) rfl) rfl)) ao (aU _)) (iX (aG mr (pv 3) ao (aU _))))) du aN)
  (af (aA (pv 3)))))),?_⟩
 try dsimp only[dn,dm,b5,b6]
 obtain⟨d,x,a,e,v,W⟩:=id D;obtain⟨⟨f,p,y,B,C,dp,G,I,J,M,O,g,_⟩,ok⟩:=id W;have n1:=ok.n1;have wQ:=ok.wQ;have b1:=ok.b1;have c1:=ok.c1;have j:=MG ok;have r:R.n*R.b<=10*1000:=wc3 wQ b1;refine⟨_,rfl,_,rfl,z,L.aH,d,_,_,rfl,e,L.av.cl,L.av.bJ,aS x a,x,f,_,rfl,g,cC _ _ _ _ _ _ _ _ (by decide+kernel),x,R,rfl,W,R.o.1,rfl,aw (by omega),_,_,rfl,rfl,?_⟩;show d5 2 (V.int (((R.n*(R.b+m+R.c):Nat):Int)-(R.o.1.length:Int))) _ _ _
 have t:((R.n*(R.b+m+R.c):Nat):Int)-(R.o.1.length:Int)=(R.n:Int)*((m:Int)+(R.c:Int)):=by
  rw[j,Nat.add_assoc,wea,<-wcu,<-wbo];omega
 rw[t];refine⟨_,rfl,_,rfl,z,L.aH,d,_,_,rfl,e,L.av.cl,L.av.bJ,aS x a,x,L.ak,f,_,_,rfl,g,L.ai.cl,L.ai.mL,fC ..,_,_,rfl,rfl,⟨by omega,by omega⟩,_,rfl,z,L.aH,d,_,_,rfl,e,L.av.cl,L.av.bJ,aS x a,x,f,_,rfl,g,cC _ _ _ _ _ _ _ _ (by decide+kernel),x,R,rfl,W,_,_,rfl,rfl,?_⟩;show d5 3 (V.int ((R.n:Int)*((m:Int)+(R.c:Int))/(R.n:Int)-(R.c:Int))) _ _ _;rw[Int.mul_ediv_cancel_left _ (show (R.n:Int)≠0 by omega),show (m:Int)+(R.c:Int)-(R.c:Int)=(m:Int) by omega];refine⟨_,rfl,_,rfl,z,L.aH,d,_,_,rfl,e,L.av.cl,L.av.bJ,aS x a,x,L.ak,f,_,_,rfl,g,L.ai.cl,L.ai.mL,fC ..,_,_,rfl,rfl,(show (0:Int)<(R.n:Int) by omega),rfl,false,?_,cb ?_⟩
 ·show V.bl (!decide (V.int ((R.n:Int)*((m:Int)+(R.c:Int))%(R.n:Int))=V.int 0))=_;rw[Int.mul_emod_right];exact Ic _
 refine⟨_,rfl,_,_,rfl,rfl,false,congrArg V.bl (decide_eq_false (by omega)),cb ?_⟩;exact⟨_,rfl,k H (a9.refl _)⟩
inductive Ol(K:wa2)(C CB CP CE:Addr)(vs:List V)(H:Hp)(Q:VK)(eE:XK):Prop
 |mk (z R all m res) (_:vs=[.ref z,.str (cat all)]) (_:zR K C CB CP CE H z R) (_:(∀u∈all,u.length=R.n/\∀c∈ch u,c∈ch R.g)) (_:all.length=R.b+m+R.c) (_:m<=1000) (_:(∀k,k<m->∃bs w us,(all.take (k+(R.b+1+R.c))).drop k=bs++w::us/\bs.length=R.b/\us.length=R.c/\(bears R.bw (cat bs)=true->res k=.non)/\(∀i:Nat,bears R.bw (cat bs)=false->nO R.ss R.hk R.wl (cat bs) w us i->res k=.int (i:Int))/\(bears R.bw (cat bs)=false->(∀i,¬nO R.ss R.hk R.wl (cat bs) w us i)->res k=.non))) (_:∀l H',a9 H H'->H l=none->H' l=some (.lst ((waD m).map res))->Q (.ref l) H')
theorem gu(L:Lk K mg):aT P w K mg base df 5 L.oh L.oi ["self","row"] (Ol K L.ak L.aB L.aR L.aH):=by
 have T:=L.T;refine L.bP.F.dJ (N:=["self","row","wide","signs","first","starts"]) (λi5 A outer s H vs Q E nd C h=>?_);obtain⟨z,R,all,m,res,rfl,D,hw,Sh,m1,G,k⟩:=h
 refine⟨_,(a6 (bA (bQ (aE (aE (pv 0) rfl) rfl) L.aI.cl L.bM.m (gq L) (C.mono (by decide)) L.bM.b .nil bj (a5 (pv 1) a8)))
  (a6 (aj (i:=2) (aE (aE (pv 0) rfl) rfl))
  (a6 (aj (i:=3) (aK gG (bR (pv 0) L.av.cl L.c9.m (jh L) (C.mono (by decide)) L.c9.b .nil bj) (pv 2)))
  (a6 (aj (i:=4) (aK mq (aC bC (by rfl) T.len waJ (a5 (bR (aE (pv 0) rfl) L.ai.cl L.eA.m (nQ L) (C.mono (by decide)) L.eA.b .nil bj) a8)) (aK gG (bR (aE (pv 0) rfl) L.ai.cl L.bB.m (eY L) (C.mono (by decide)) L.bB.b .nil bj) (pv 2))))
  (a6 (dS (i:=5) rfl (ax ["first","wide"] [4,2]) nd rfl rfl (d1 rfl T.range (a5 (bQ (pv 0) L.av.cl L.eG.m (pB L) (C.mono (by decide)) L.eG.b .nil bj (a5 (aC bC (by rfl) T.len waJ (a5 (pv 1) a8)) a8)) a8)) (λ_ _ _ _ _ _=>bo) (λ_ _ _ _ _ _=>(aK dP (pv 1) (aK gG (pv 0) (pv 2)))))
  (af (aA (cU rfl (ax ["self","row","signs"] [0,1,3]) (aP (pv 5)) (λ_ _ _ _ _ _=>bo) (λ_ _ _ _ _ _=>(bQ (pv 1) L.av.cl L.cW.m (lN L) (C.mono (by decide)) L.cW.b .nil bj (a5 (cu kD (pv 2) (bN (pv 0)) (bN (aK dP (pv 0) (pv 3)))) a8))))))))))),?_⟩
 try dsimp only[dn,dm,b5,b6]
 obtain⟨f,x,a,l,hP,Wv⟩:=id D;obtain⟨⟨dx,p,xb,aa,ll,dp,wa,wb,wc,wz,ys,hx,_,_,_,_,_,B⟩,ok⟩:=id Wv;obtain⟨⟨Sv,bb,db,qb,mv,Sw,_⟩,_,_,_⟩:=id B;have n1:=ok.n1;have wQ:=ok.wQ;have b1:=ok.b1;have c1:=ok.c1;have hol:=MG ok;have hob:R.n*R.b<=10*1000:=wc3 wQ b1;have e:∀u∈all,u.length=R.n:=λu h=>(hw u h).1;have y4:(cat all).length=R.n*(R.b+m+R.c):=by rw[hX e,Sh]
 have hcb:R.n*(R.b+m+R.c)<=10*3000:=wc3 wQ (by omega);refine⟨_,rfl,z,L.aH,f,_,_,rfl,l,L.av.cl,L.av.bJ,aS x a,x,L.ak,dx,_,_,rfl,hx,L.ai.cl,L.ai.vO,lL ..,xb,Sv,_,rfl,Sw,CA _ _ _ _ (by decide+kernel) (by decide+kernel) (by decide+kernel) (by decide+kernel),_,rfl,xb,cat all,R.g,R.bw,R.ss,R.ls,rfl,B,JG λu h=>(hw u h).2,λH1 I=>?_⟩;refine⟨_,rfl,z,L.aH,f,_,_,rfl,I _ _ l,L.av.cl,L.av.bJ,aS x a,x,L.ak,dx,_,_,rfl,I _ _ hx,L.ai.cl,L.ai.mL,fC ..,?_⟩;refine⟨_,rfl,z,f,_,rfl,I _ _ l,ie (by show ("blocks_in_window":Str)∉[("writer":Str),"pairs"];decide+kernel),z,R,rfl,D.same I,λH2 s2=>?_⟩;have d:=I.trans s2;refine⟨_,rfl,_,_,rfl,rfl,.inl ⟨by omega,by omega⟩,?_⟩;show d5 3 (V.int (((R.b:Int)+1+(R.c:Int))*(R.n:Int))) _ _ _;rw[show ((R.b:Int)+1+(R.c:Int))*(R.n:Int)=((R.n*(R.b+1+R.c):Nat):Int) by rw[wbo,wdn];rfl];refine⟨_,rfl,z,L.aH,f,_,_,rfl,d _ _ l,L.av.cl,L.av.bJ,aS x a,x,dx,_,rfl,d _ _ hx,cC _ _ _ _ _ _ _ _ (by decide+kernel),x,R,rfl,Wv.same d,R.o.1,rfl,aw (by omega),?_⟩;refine⟨_,rfl,z,L.aH,f,_,_,rfl,d _ _ l,L.av.cl,L.av.bJ,aS x a,x,dx,_,rfl,d _ _ hx,cC _ _ _ _ _ _ _ _ (by decide+kernel),DJ (Wv.same d) λH3 s3=>?_⟩;have r:=d.trans s3;refine⟨_,rfl,_,_,rfl,rfl,.inl ⟨by omega,by omega⟩,_,_,rfl,rfl,?_⟩;show d5 4 (V.int ((R.o.1.length:Int)-(R.b:Int)*(R.n:Int))) _ _ _;rw[show (R.o.1.length:Int)-(R.b:Int)*(R.n:Int)=0 by rw[hol,wbo,wdn];omega];refine⟨_,rfl,z,f,_,rfl,r _ _ l,ie (by show ("words_in":Str)∉[("writer":Str),"pairs"];decide+kernel),_,rfl,cat all,rfl,aw (by omega),?_⟩;rw[y4];refine⟨z,R,m,rfl,D.same r,λH4 s4=>?_⟩;have Sy:=r.trans s4;refine⟨(m:Int),rfl,by omega,by omega,λls UR=>?_⟩;rw[waF];refine comp_map (λv=>match v with |.int i=>.int (0+i*(R.n:Int)) |_=>.non) (kA 0 m) UR (by rw[wa0,waK];exact aw (by omega)) (λ_ _=>trivial) (λv H5 Q' J s5 q=>?_) (λH5 s5 h5=>?_)
 ·obtain⟨i,hi,rfl⟩:=wab.mp J;have:=wb1.mp hi;exact⟨_,rfl,_,rfl,_,rfl,_,_,rfl,rfl,.inl ⟨by omega,by omega⟩,_,_,rfl,rfl,q H5 (a9.refl _)⟩
 have em:((waD m).map λ(i:Nat)=>V.int (0+(i:Int))).map (λv=>match v with |.int i=>V.int (0+i*(R.n:Int)) |_=>.non)=(waD m).map λ(i:Nat)=>V.int ((R.n*i:Nat):Int):=by
  rw[wah];refine wb2 λi _=>?_;show V.int (0+(0+(i:Int))*(R.n:Int))=_;rw[wcv,wcv,wbo,wdn]
 rw[em]at h5;have t:=Sy.trans s5;refine⟨_,rfl,ls,rfl,⟨_,aL.of h5⟩,λlr M=>?_⟩;refine vq (λi y _=>y=res i) (λ_ _ _ _ _ h _ _=>h) (aQ K ls _) M (by rw[wa0,waK];exact aw (by omega)) (λH' s'=>aL.of (s' _ _ h5)) (λi v H6 O Q' J s6 _ q=>?_) (λO H6 s6 h6 S hy=>?_)
 ·have hi:i<m:=by have:=(wa6.mp J).1;rwa[wa0,waK]at this
  rw[wa4,wgN hi]at J;cases J;obtain⟨bs,w,us,e1,e2,e3,r1,r2,r3⟩:=G i hi;have U:=t.trans s6
  have esl:wb9 (cat all) (some ((R.n*i:Nat):Int)) (some (((R.n*i:Nat):Int)+((R.n*(R.b+1+R.c):Nat):Int)))=cat (bs++w::us):=by
   rw[<-wcu,<-wea,zP e (by omega) (by omega),e1]
  refine⟨_,rfl,z,f,_,rfl,U _ _ l,ie (by show ("word_fitting":Str)∉[("writer":Str),"pairs"];decide+kernel),_,rfl,_,rfl,_,rfl,_,rfl,_,rfl,_,_,rfl,rfl,_,rfl,cat all,rfl,aw (by omega),?_⟩;rw[esl];refine⟨z,R,bs,w,us,rfl,D.same U,λu h=>hw u (wc2 (List.mem_of_mem_drop (by rw[e1];exact h))),e2,e3,λX Y Z=>?_,λj X hf Y Z=>?_,λX hf Y Z=>?_⟩
  ·exact q _ Y Z (r1 X).symm
  ·exact q _ Y Z (r2 j X hf).symm
  ·exact q _ Y Z (r3 X hf).symm
 ·have ey:O=(waD m).map res:=by
   rw[wa0,waK]at S;refine wei (by rw[S,wa0,waK]) λi h1 h2=>?_;rw[wcW,weW];exact hy i _ (wa1 h1)
  rw[ey]at h6;exact k lr H6 (t.trans s6) (none_of t M) h6
theorem zS(L:Lk K mg):aT P w K mg base df 12 L.tP L.tQ ["_law_signs","_law_words","_law_many","_law_wide"] (LJ K L.ak L.aB L.aR L.aD):=by
 refine L.nE.F.dJ (N:=["_law_signs","_law_words","_law_many","_law_wide","_law_told_here"]) (λY A outer s H vs Q E nd T h=>?_);obtain⟨g,a,many,n,bw,rfl,Z,q,m,d,v,k⟩:=h
 refine⟨_,(a6 (aj (i:=4) gD)
  (a6 (LI ⟨rfl,rfl⟩ (HS (KD (i:=4) nd rfl (wdQ rfl) (HR L.yK (pq L) (T.mono (by decide)) rfl L.Bt L.gi.b (a5 (nU L.Ey (rX L) (T.mono (by decide)) rfl L.Jb L.iA.b .nil bj (a5 (pv 0) (a5 (pv 1) a8))) (a5 (pv 2) (a5 (pv 3) a8)))))) rfl L.w9 rfl L.zD L.ic L.we (L.ic.ne L.we (by decide+kernel)) (L.ic.neT L.XT (by decide+kernel)) nd (i:=4) rfl (wdQ rfl))
  (af (aA (pv 4))))),?_⟩
 try dsimp only[dn,dm,b5,b6]
 have g2:=q.lo;have g4:=q.hi;have w1:∀w∈bw,1<=w.length/\w.length<=900:=λw h=>⟨(d w h).lo,by have:=(d w h).hi;omega⟩;refine⟨_,rfl,_,rfl,λy z l j U=>?_⟩;refine⟨y,z,g,a,bw,rfl,a7,(fE l j).seq Z,q,m,d,λss ls r t B=>⟨rfl,?_⟩⟩;have C:a9 H r:=λb o e=>B b o (fE l j _ _ e) (ag e l);have EB:ss.length<=25:=t.few m d;have D:("":Str)∈ss:=t.pm.mem_iff.mpr ((jC _).mpr (.inl rfl));refine⟨_,rfl,_,rfl,λx u nx G nex=>?_⟩;have sm:a9 r (upd (upd r u (.own x)) x (.ins L.ak u [])):=fE nx G;refine⟨x,u,y,many,n,g,bw,ss,ls,rfl,a7,t.same sm,w1,by omega,D,q.nd,g2,by omega,by omega,v,λI p la ll f0 f J ks hs ws M b V k2 x2 P2 r2 l2 hL O hP W0 hB=>⟨rfl,?_⟩,?_,?_⟩
 ·have X:a9 r V:=λc o e=>k2 _ _ (sm _ _ e) (ag e nx);refine⟨_,rfl,k _ V (C.trans X) (.inr ⟨x,rfl,y,ss,ls,f0,f,J,ks,hs,ws,M,b,t.same X,⟨u,p,la,ll,x2,P2.same (cj _ _),bK.same (cj _ _) _ _ r2,bK.same (cj _ _) _ _ l2⟩,I,hL,O,hP,W0,hB⟩)⟩
 ·exact λk' d' R _ S _ _=>⟨.inl rfl,_,rfl,k .non R (C.trans (sm.trans S)) (.inl rfl)⟩
 ·exact λ_ _ R S=>⟨.inr rfl,_,rfl,k .non R (C.trans (sm.trans S)) (.inl rfl)⟩
theorem iR(L:Lk K mg):aT P w K mg base df 1 L.tJ L.tK ["_law_script","_law_place"] (Qo K):=by
 have T:=L.T;refine L.fK.F.dJ (N:=["_law_script","_law_place"]) (λb A outer s H f Q E nd g h=>?_);obtain⟨a,ns,p,rfl,c,k⟩:=h;refine⟨_,(af (aA (aC (mF rfl) (by rfl) T.sum Fo (a5 (cu jn (pv 0) (bN (pv 1)) (bN (aK dP (pv 1) ao))) a8)))),?_⟩
 try dsimp only[dn,dm,b5,b6]
 refine⟨_,rfl,_,rfl,_,rfl,_,rfl,_,_,rfl,rfl,_,rfl,a,_,rfl,c,λl hl=>?_⟩;obtain⟨d,e,_⟩:=AU ns (some p) (some (p+1));rw[e];exact⟨l,d,rfl,aL.of a7,k _ _ (a9.upd hl)⟩
theorem nR(L:Lk K mg):aT P w K mg base df 1 L.oE L.oF ["_law_cell","_law_many"] Iq:=by
 have T:=L.T;refine L.hO.F.dJ (N:=["_law_cell","_law_many","_law_found","_law_one","_law_turn","_law_two","_law_more"]) (λx A outer s H C Q E nd D h=>?_);obtain⟨c,m,rfl,G,k⟩:=h
 refine⟨_,(a6 (aj (i:=2) (bX a8))
  (a6 (aj (i:=3) (aK vm (pv 0) ao))
  (a6 (bD (aG pH (aK cX (pv 0) ao) ao (aU _)) (a6 (b7 wao rfl (d1 rfl T.range (a5 (pv 1) a8)) (ay (i:=4)) (a6 (bA (iZ waO waV waY cP (pv 2) (a5 (aK cX (pv 3) ao) a8)))
  (af (aj (i:=3) (aK vm (pv 3) ao)))))
  (af (aA (pv 2)))) aN)
  (a6 (aj (i:=5) (aK cX (aK vm (pv 3) ao) ao))
  (a6 (aj (i:=3) (aK cX (pv 3) ao))
  (a6 (b7 wao rfl (d1 rfl T.range (a5 (aK dP (pv 1) ao) a8)) (ay (i:=4)) (a6 (aj (i:=6) (aK dP (aK dP (aK dP (aK gG (pv 3) ao) (aK gG (pv 5) (pv 5))) (aK gG ao (pv 4))) ao))
  (a6 (aj (i:=3) (pv 5))
  (a6 (aj (i:=5) (aK cX (pv 6) ao))
  (af (bA (iZ waO waV waY cP (pv 2) (a5 (pv 5) a8))))))))
  (af (aA (cu jn (pv 2) (bN ao) gY))))))))),?_⟩
 try dsimp only[dn,dm,b5,b6]
 refine⟨waA _,λl hl=>?_⟩;have t:a9 H (upd H l (.lst [])):=a9.upd hl;have app:∀{f:Hp} {d:List Int} {v:Int},a9 H f->f l=some (.lst (d.map V.int))->a9 H (upd f l (.lst (d.map V.int++[.int v])))/\(upd f l (.lst (d.map V.int++[.int v]))) l=some (.lst ((d++[v]).map V.int)):=λ{f d v} j g=>⟨λb I e=>by rw[ae (ag e hl)];exact j _ _ e,by rw[a7,wan];rfl⟩;refine⟨_,rfl,_,_,rfl,rfl,⟨by decide,by decide+kernel⟩,?_⟩;refine⟨_,rfl,_,_,rfl,rfl,(by show (0:Int)<2;decide),rfl,_,rfl,uP (λ_=>?_) (λ_=>?_)⟩
 ·refine⟨_,rfl,(m:Int),rfl,by omega,by omega,?_⟩;rw[waF];refine dC (lo:=0) (n:=m) (λi σ f=>∃(one:Int) (d:List Int) (v4:Option V),σ=[some (.int c),some (.int (m:Int)),some (.ref l),some (.int one),v4,none,none]/\a9 H f/\f l=some (.lst (d.map V.int))/\d.length=i) ⟨_,[],none,rfl,t,a7,rfl⟩ ?_ ?_
  ·rintro i σ f hi ⟨one,d,v4,rfl,j,g,o⟩;refine⟨_,rfl,.inl ⟨rfl,_,aL.of g⟩,_,rfl,_,_,rfl,rfl,(by show (0:Int)<1999999973;decide),l,_,_,rfl,rfl,g,by rw[wa0];exact bq (by omega),?_⟩;exact⟨_,rfl,_,_,rfl,rfl,⟨by decide,by decide+kernel⟩,_,d++[one%1999999973],_,rfl,(app j g).1,(app j g).2,by rw[wa5,o];rfl⟩
  ·rintro σ f ⟨one,d,v4,rfl,j,g,o⟩;exact⟨_,rfl,k l d f j hl g o⟩
 ·refine⟨_,rfl,_,_,rfl,rfl,⟨by decide,by decide+kernel⟩,_,_,rfl,rfl,(by show (0:Int)<1999999943;decide),?_⟩;have q:=wb5 (c/2/1999999973) (show (1999999943:Int)≠0 by decide);have u:=wb0 (c/2/1999999973) (show (0:Int)<1999999943 by decide);refine⟨_,rfl,_,_,rfl,rfl,(by show (0:Int)<1999999973;decide),?_⟩;refine⟨_,rfl,_,_,rfl,rfl,_,rfl,by omega,by omega,?_⟩;rw[show ((m:Int)+2).toNat=m+2 by omega];refine dC (lo:=0) (n:=m+2) (λi σ f=>∃(one a:Int) (d:List Int) (v4 v6:Option V),σ=[some (.int c),some (.int (m:Int)),some (.ref l),some (.int one),v4,some (.int a),v6]/\0<=a/\a<2000000000/\a9 H f/\f l=some (.lst (d.map V.int))/\d.length=i) ⟨c/2%1999999973,c/2/1999999973%1999999943,[],none,none,rfl,q,by omega,t,a7,rfl⟩ ?_ ?_
  ·rintro i σ f hi ⟨one,a,d,v4,v6,rfl,q,u,j,g,o⟩;refine⟨_,rfl,_,_,rfl,rfl,.inr ⟨by decide,by decide⟩,_,rfl,_,rfl,_,_,rfl,rfl,.inl ⟨by omega,by omega⟩,_,_,rfl,rfl,_,rfl,_,_,rfl,rfl,.inl ⟨by decide,by decide⟩,_,_,rfl,rfl,_,_,rfl,rfl,?_⟩;refine⟨_,rfl,?_⟩;refine⟨_,rfl,_,_,rfl,rfl,(by show (0:Int)<1999999973;decide),?_⟩;have y:=wb5 (one*1664525+a*a+97*(0+(i:Int))+40503) (show (1999999973:Int)≠0 by decide);have J:=wb0 (one*1664525+a*a+97*(0+(i:Int))+40503) (show (0:Int)<1999999973 by decide);refine⟨_,rfl,.inl ⟨rfl,_,aL.of g⟩,_,rfl,l,_,_,rfl,rfl,g,by rw[wa0];exact wbg (m:=2000) (by omega) (by rw[wcc];decide),?_⟩;exact⟨_,_,d++[(one*1664525+a*a+97*(0+(i:Int))+40503)%1999999973],_,_,rfl,y,by omega,(app j g).1,(app j g).2,by rw[wa5,o];rfl⟩
  ·rintro σ f ⟨one,a,d,v4,v6,rfl,q,u,j,g,o⟩;refine⟨_,rfl,_,rfl,l,_,rfl,aL.of g,λz p=>?_⟩;have B:=B5 (d.map V.int) 2;have r:mw (d.map V.int) (some 2) none=(d.drop 2).map V.int:=by rw[web];exact B
   rw[r];exact k z (d.drop 2) _ (j.trans (a9.upd p)) (none_of j p) a7 (by rw[wbp];omega)
theorem Rv:∀st:Fin 36,∀sp∈[1,5,7,11,13,35],∀n∈[2,3,4],((mG st sp n).Nodup/\∀c∈mG st sp n,c∈ch fS):=by decide+kernel
theorem BH{st sp n:Nat}{x:Str}(j:st<36)(hs:sp∈[1,5,7,11,13,35])(hn:n∈[2,3,4])(g:ch x=mG st sp n):AA x:=by
 obtain⟨a,b⟩:=Rv ⟨st,j⟩ sp hs n hn;have hl:x.length=n:=by grind [aW,mG,wa0]
 have c:n=2\/n=3\/n=4:=by simpa using hn
 exact⟨by omega,by omega,by rw[g];exact a,by rw[g];exact b⟩
theorem Om:∀d:Int,0<=d->d<8->∃n:Nat,z4 ([.int 2,.int 2,.int 2,.int 3,.int 2,.int 4,.int 2,.int 3]:List V) d=some (.int (n:Int))/\n∈[2,3,4]:=under 8 λk=>⟨[2,2,2,3,2,4,2,3].getD k.val 0,by revert k;decide,by revert k;decide⟩
theorem Oo:∀d:Int,0<=d->d<6->∃n:Nat,z4 ([.int 1,.int 5,.int 7,.int 11,.int 13,.int 35]:List V) d=some (.int (n:Int))/\n∈[1,5,7,11,13,35]:=under 6 λk=>⟨[1,5,7,11,13,35].getD k.val 0,by revert k;decide,by revert k;decide⟩
theorem Oq:∀d:Int,0<=d->d<8->∃n:Nat,z4 ([.int 0,.int 1,.int 2,.int 3,.int 1,.int 2,.int 3,.int 6]:List V) d=some (.int (n:Int))/\n<=6:=under 8 λk=>⟨[0,1,2,3,1,2,3,6].getD k.val 0,by revert k;decide,by revert k;decide⟩
theorem Ot:∀d:Int,0<=d->d<8->∃n:Nat,z4 ([.int 2,.int 3,.int 4,.int 2,.int 3,.int 4,.int 1,.int 5]:List V) d=some (.int (n:Int))/\1<=n/\n<=5:=under 8 λk=>⟨[2,3,4,2,3,4,1,5].getD k.val 0,by revert k;decide,by revert k;decide⟩
theorem LO{xs:List Int}(h:xs.length=4):∃a b c d,xs=[a,b,c,d]:=by
 match xs,h with
 |[a,b,c,d],_=>exact⟨a,b,c,d,rfl⟩
theorem zT(L:Lk K mg):aT P w K mg base df 2 L.tL L.tM ["_law_script"] (KW K):=by
 have T:=L.T;refine L.nC.F.dJ (N:=["_law_script","_law_known","_law_xs","_law_size","_law_step","_law_signs","_law_words","_law_k","_law_ys","_law_long"]) (λi5 A outer s H vs Q E nd hr h=>?_);obtain⟨a,ns,rfl,hS,k⟩:=h
 refine⟨_,(a6 (aj (i:=1) fb)
  (a6 (aj (i:=2) (aq (nR L) L.hO (a5 (aq (iR L) L.fK (a5 (pv 0) (a5 ao a8))) (a5 ao a8))))
  (a6 (aj (i:=3) (b8 bf (bX (pQ (is:=[2,2,2,3,2,4,2,3]) (by decide+kernel))) (aK cX (b8 bf (pv 2) ao (λ_ _=>rfl)) ao) (λ_ _=>rfl)))
  (a6 (aj (i:=4) (b8 bf (bX (pQ (is:=[1,5,7,11,13,35]) (by decide+kernel))) (aK cX (b8 bf (pv 2) ao (λ_ _=>rfl)) ao) (λ_ _=>rfl)))
  (a6 (aj (i:=5) (iZ wgb wgr wgs E5 fb (a5 (cU rfl (ax ["_law_known","_law_xs","_law_step"] [1,2,4]) (d1 rfl T.range (a5 (pv 3) a8)) (λ_ _ _ _ _ _=>bo) (λ_ _ _ _ _ _=>(b8 Hd (pv 1) (aK cX (aK dP (b8 (i6 (K:=K) rfl) (pv 2) ao (λ_ _=>rfl)) (aK gG (pv 3) (pv 0))) ao) (λ_ _=>rfl)))) a8)))
  (a6 (aj (i:=6) (bX a8))
  (a6 (b7 wao rfl (d1 rfl T.range (a5 (b8 bf (bX (pQ (is:=[0,1,2,3,1,2,3,6]) (by decide+kernel))) (aK cX (b8 bf (pv 2) ao (λ_ _=>rfl)) ao) (λ_ _=>rfl)) a8)) (ay (i:=7)) (a6 (aj (i:=8) (cu jn (aq (nR L) L.hO (a5 (aq (iR L) L.fK (a5 (pv 0) (a5 (aK dP ao (aK cX (pv 7) ao)) a8))) (a5 ao a8))) (bN (aK gG (aK kq (pv 7) ao) ao)) gY))
  (a6 (aj (i:=9) (b8 bf (bX (pQ (is:=[2,3,4,2,3,4,1,5]) (by decide+kernel))) (aK cX (b8 bf (pv 8) ao (λ_ _=>rfl)) ao) (λ_ _=>rfl)))
  (af (bA (iZ waO waV waY cP (pv 6) (a5 (iZ wgb wgr wgs E5 fb (a5 (cU rfl (ax ["_law_signs","_law_size"] [5,3]) (aP (cu jn (pv 8) (bN ao) (bN (aK dP ao (pv 9))))) (λ_ _ _ _ _ _=>bo) (λ_ _ _ _ _ _=>(b8 Hd (pv 1) (aK cX (pv 0) (pv 2)) (λ_ _=>rfl)))) a8)) a8)))))))
  (af (aA (eC (a5 (pv 5) (a5 (pv 6) a8)))))))))))),?_⟩
 try dsimp only[dn,dm,b5,b6]
 refine⟨_,rfl,a,ns,0,rfl,hS,λc1 H1 s1=>?_⟩;refine⟨c1,4,rfl,by decide,λlx xs H2 s2 fx h2 hx=>?_⟩;obtain⟨x0,x1,x2,x3,rfl⟩:=LO hx;clear hx;have OU:=s1.trans s2;obtain⟨n,hn,n1⟩:=Om _ (wb5 x0 (show (8:Int)≠0 by decide)) (wb0 x0 (show (0:Int)<8 by decide));refine⟨by decide,λp hp=>?_⟩;have G:=a9.upd (o:=.lst [.int 2,.int 2,.int 2,.int 3,.int 2,.int 4,.int 2,.int 3]) hp _ _ h2;have wO:=OU.trans (a9.upd (o:=.lst [.int 2,.int 2,.int 2,.int 3,.int 2,.int 4,.int 2,.int 3]) hp);refine⟨_,rfl,lx,_,0,_,rfl,rfl,aL.of G,rfl,_,_,rfl,rfl,(by show (0:Int)<8;decide),p,_,_,_,rfl,rfl,aL.of a7,hn,?_⟩;generalize upd H2 p _=H3 at G wO;obtain⟨sp,Xe,Xy⟩:=Oo _ (wb5 x2 (show (6:Int)≠0 by decide)) (wb0 x2 (show (0:Int)<6 by decide));refine⟨by decide,λp2 Rk=>?_⟩;have f:=a9.upd (o:=.lst [.int 1,.int 5,.int 7,.int 11,.int 13,.int 35]) Rk _ _ G;have Sy:=wO.trans (a9.upd (o:=.lst [.int 1,.int 5,.int 7,.int 11,.int 13,.int 35]) Rk);refine⟨_,rfl,lx,_,2,_,rfl,rfl,aL.of f,rfl,_,_,rfl,rfl,(by show (0:Int)<6;decide),p2,_,_,_,rfl,rfl,aL.of a7,Xe,?_⟩;generalize upd H3 p2 _=H4 at f Sy
 have Xz:sp<=35:=by
  simp only[waH,wbX,or_false]at Xy;omega
 have hn4:n<=4:=by
  simp only[waH,wbX,or_false]at n1;omega
 obtain⟨st,est⟩:∃st:Nat,x1%36=(st:Int):=⟨(x1%36).toNat,by omega⟩;have U6:st<36:=by omega
 refine⟨rfl,_,rfl,(n:Int),rfl,by omega,by omega,λl hl=>?_⟩;rw[waF];refine comp_map (KP st sp) (kA 0 n) hl (by rw[wa0,waK];exact aw (by omega)) (λ_ _=>trivial) (λx H5 Q' hx s5 q=>?_) (λH5 s5 m=>?_)
 ·obtain⟨i,hi,rfl⟩:=wab.mp hx;have hi':i<n:=wb1.mp hi;have hd:(st+i*sp)%36<(ch fS).length:=by rw[aW,AB];exact Nat.mod_lt _ (by decide)
  have e1:(ch fS)[(st+i*sp)%36]?=some ((ch fS).getD ((st+i*sp)%36) 0):=by rw[wa3,wa1 hd];rfl
  have e2:=bO e1
  have e3:(((st+i*sp)%36:Nat):Int)=(x1+(sp:Int)*(0+(i:Int)))%36:=by
   rw[wcv,wdn (sp:Int),Int.natCast_emod,wcu,wbo,<-est];show (x1%36+(i:Int)*(sp:Int))%36=_;rw[Int.emod_add_emod]
  rw[e3]at e2
  have e4:KP st sp (.int (0+(i:Int)))=.str ⟨#[(ch fS).getD ((st+i*sp)%36) 0]⟩:=by
   rw[wcv];rfl
  have q':=q H5 (a9.refl _);rw[e4]at q';exact⟨_,rfl,_,rfl,lx,_,1,_,rfl,rfl,aL.of (s5 _ _ f),rfl,_,rfl,_,rfl,_,_,rfl,rfl,.inl ⟨by omega,by omega⟩,_,_,rfl,rfl,_,_,rfl,rfl,(by show (0:Int)<36;decide),fS,_,_,rfl,rfl,aw (by rw[AB];decide),e2,q'⟩
 have XA:((waD n).map λ(i:Nat)=>V.int (0+(i:Int))).map (KP st sp)=((mG st sp n).map λc=>(⟨#[c]⟩:Str)).map V.str:=by
  unfold mG;rw[wah,wah,wah];refine wb2 λi _=>?_;show KP st sp (.int (0+(i:Int)))=_;rw[wcv];rfl
 have d:(mG st sp n).length=n:=by unfold mG;rw[wa0,waK]
 rw[XA]at m;refine⟨_,l,_,rfl,rfl,aL.of m,?_,?_⟩
 ·have u:∀r:List Nat,((r.map λc=>(⟨#[c]⟩:Str)).map (·.length)).sum=r.length:=by
   intro r
   induction r with
   |nil=>rfl
   |cons c r ih=>rw[wax,wax,wbt,ih,waM];show 1+r.length=_;omega
  rw[u,wa0,d];show n+n*0<=16777216;omega
 have I:∀r:List Nat,((r.map λc=>(⟨#[c]⟩:Str)).map ch).flatten=r:=by
  intro r
  induction r with
  |nil=>rfl
  |cons c r ih=>rw[wax,wax,wc5,ih];rfl
 have XC:=BH U6 Xy n1 (x:=wdx "" ((mG st sp n).map λc=>(⟨#[c]⟩:Str))) (by rw[ry (by decide+kernel),I]);have EC:(wdx "" ((mG st sp n).map λc=>(⟨#[c]⟩:Str))).length=n:=by rw[<-aW,ry (by decide+kernel),I,d]
 generalize wdx "" ((mG st sp n).map λc=>(⟨#[c]⟩:Str))=g at XC EC ⊢;clear m XA d I;have Sz:=Sy.trans s5;have h5x:=s5 _ _ f;obtain⟨nw,hnw,nw6⟩:=Oq _ (wb5 x3 (show (8:Int)≠0 by decide)) (wb0 x3 (show (0:Int)<8 by decide));refine⟨waA _,λJ M=>?_⟩;have fw:H J=none:=none_of Sz M;have h6x:=a9.upd (o:=.lst []) M _ _ h5x;have QH:=Sz.trans (a9.upd (o:=.lst []) M);refine⟨by decide,λp3 O=>?_⟩;have XE:=a9.upd (o:=.lst [.int 0,.int 1,.int 2,.int 3,.int 1,.int 2,.int 3,.int 6]) O _ _ h6x;have XF:=a9.upd (o:=.lst [.int 0,.int 1,.int 2,.int 3,.int 1,.int 2,.int 3,.int 6]) O _ _ (a7 (H:=H5) (a:=J) (o:=.lst []));have XG:=QH.trans (a9.upd (o:=.lst [.int 0,.int 1,.int 2,.int 3,.int 1,.int 2,.int 3,.int 6]) O);refine⟨_,rfl,lx,_,3,_,rfl,rfl,aL.of XE,rfl,_,_,rfl,rfl,(by show (0:Int)<8;decide),p3,_,_,_,rfl,rfl,aL.of a7,hnw,?_⟩;generalize upd (upd H5 J _) p3 _=H7 at XE XF XG;refine⟨_,rfl,by omega,by omega,?_⟩;rw[waF]
 refine dC (lo:=0) (n:=nw) (λi σ H8=>∃(R:List Str) (v7 v8 v9:Option V),σ=[some (.ref a),some (.str fS),some (.ref lx),some (.int (n:Int)),some (.int (sp:Int)),some (.str g),some (.ref J),v7,v8,v9]/\a9 H H8/\H8 J=some (.lst (R.map V.str))/\R.length=i/\∀w∈R,zh g w)
  ⟨[],none,none,none,rfl,XG,XF,rfl,(λw h=>nomatch h)⟩ ?_ ?_
 ·rintro i σ H8 hi ⟨R,v7,v8,v9,rfl,s8,h8,AF,S⟩;refine⟨_,rfl,_,rfl,_,_,rfl,rfl,(by show (0:Int)<3;decide),_,_,rfl,rfl,a,ns,_,rfl,s8.seq hS,λcc H9 s9=>?_⟩;refine⟨cc,12,rfl,by decide,λly ys OT Gb fy Jn hy=>?_⟩;have hq:(0+(i:Int))/3*6=((i/3*6:Nat):Int):=by omega
  have hq6:i/3*6<=6:=by omega
  refine⟨_,rfl,_,_,rfl,rfl,⟨by decide,by decide⟩,_,_,rfl,rfl,.inr ⟨by decide,by decide⟩,_,rfl,ly,_,rfl,aL.of Jn,λl2 m=>?_⟩
  have ec:mw (ys.map V.int) (some ((0+(i:Int))/3*6)) none=(ys.drop (i/3*6)).map V.int:=by
   rw[web,hq];exact B5 _ _
  rw[ec];have U:(ys.drop (i/3*6)).length ≥ 6:=by rw[wbp];omega
  generalize ys.drop (i/3*6)=zs at U;have B:(upd OT l2 (.lst (zs.map V.int))) l2=some (.lst (zs.map V.int)):=a7;have JZ:=((s8.trans s9).trans Gb).trans (a9.upd (o:=.lst (zs.map V.int)) m);have QV:=a9.upd (o:=.lst (zs.map V.int)) m _ _ (Gb _ _ (s9 _ _ h8));generalize upd OT l2 _=GC at B JZ QV
  obtain⟨C,D,rfl⟩:∃C D,zs=C::D:=by
   cases zs with
   |nil=>exact absurd U (by decide)
   |cons C D=>exact⟨C,D,rfl⟩
  obtain⟨lg,hlg,lg1,lg5⟩:=Ot _ (wb5 C (show (8:Int)≠0 by decide)) (wb0 C (show (0:Int)<8 by decide));refine⟨by decide,λp4 X=>?_⟩;have v:=a9.upd (o:=.lst [.int 2,.int 3,.int 4,.int 2,.int 3,.int 4,.int 1,.int 5]) X _ _ B;have ED:=JZ.trans (a9.upd (o:=.lst [.int 2,.int 3,.int 4,.int 2,.int 3,.int 4,.int 1,.int 5]) X);have Y:=a9.upd (o:=.lst [.int 2,.int 3,.int 4,.int 2,.int 3,.int 4,.int 1,.int 5]) X _ _ QV;refine⟨_,rfl,l2,_,0,_,rfl,rfl,aL.of v,(bO (xs:=(C::D).map V.int) (j:=0) rfl),_,_,rfl,rfl,(by show (0:Int)<8;decide),p4,_,_,_,rfl,rfl,aL.of a7,hlg,?_⟩;generalize upd GC p4 _=Mx at v ED Y;refine⟨_,rfl,.inl ⟨rfl,_,aL.of Y⟩,rfl,_,rfl,?_⟩;refine⟨_,rfl,_,rfl,_,_,rfl,rfl,_,rfl,l2,_,rfl,aL.of v,λl3 Hw=>?_⟩
  obtain⟨ms,em,UL⟩:∃ms:List Int,mw ((C::D).map V.int) (some 1) (some (1+(lg:Int)))=ms.map V.int/\ms.length=lg:=by
   refine⟨D.take lg,?_,by rw[wai];rw[waM]at U;omega⟩;rw[show (1+(lg:Int))=((1+lg:Nat):Int) by omega,show (1:Int)=((1:Nat):Int) from rfl,KU _ (by omega),wdB];show (((D.map V.int).take (1+lg-1)))=_;rw[wcy]
  rw[em];have SA:=ED.trans (a9.upd (o:=.lst (ms.map V.int)) Hw);have Sn:=a9.upd (o:=.lst (ms.map V.int)) Hw _ _ Y;refine⟨l3,rfl,⟨_,aL.of a7⟩,λlc Ly=>?_⟩
  have XH:0<(n:Int):=by
   simp only[waH,wbX,or_false]at n1;omega
  refine HJ (λy=>∃t,y=.str t/\∃cc,t=⟨#[cc]⟩/\cc∈ch g) (aQ K l3 (ms.map V.int)) Ly (by rw[wa0];exact aw (by omega)) (λH' s'=>s'.seq (aL.of a7)) (λx XI Q' hx Z q=>?_) (λus XI Z d hR h14=>?_)
  ·obtain⟨y,hy,rfl⟩:=wab.mp hx;have y0:=wb5 y (show (n:Int)≠0 by omega);have y1:=wb0 y XH;obtain⟨dd,edd⟩:∃dd:Nat,y%(n:Int)=(dd:Int):=⟨(y%(n:Int)).toNat,by omega⟩;have hd:dd<(ch g).length:=by rw[aW];omega
   have e1:(ch g)[dd]?=some (ch g)[dd]:=by simp[hd]
   have e2:=bO e1;rw[<-edd]at e2;exact⟨_,rfl,_,rfl,_,rfl,_,_,rfl,rfl,XH,g,_,_,rfl,rfl,aw (by omega),e2,q _ XI ⟨_,rfl,_,rfl,waN hd⟩ (a9.refl _)⟩
  obtain⟨ts,rfl,Rw⟩:=E8 hR;rw[wa0,wa0]at d;have u:=AV Rw;refine⟨_,lc,ts,rfl,rfl,aL.of h14,?_,?_⟩
  ·rw[u];show ts.length+ts.length*0<=16777216;omega
  have XJ:zh g (wdx "" ts):=Fc (by decide+kernel) (by omega) (by omega) Rw;generalize wdx "" ts=wd at XJ;have s15:=SA.trans Z;have SD:=Z _ _ Sn;refine⟨J,_,_,rfl,rfl,SD,by rw[wa0];exact bq (by omega),?_⟩;refine⟨R++[wd],_,_,_,rfl,λb o e=>?_,?_,by simp[AF],λw hw=>?_⟩
  ·rw[ae (ag e fw)];exact s15 _ _ e
  ·rw[a7,wan];rfl
  ·rcases waE.mp hw with z |z
   ·exact S w z
   ·rw[waq.mp z];exact XJ
 ·rintro σ H8 ⟨R,v7,v8,v9,rfl,s8,h8,AF,S⟩;refine⟨_,rfl,_,rfl,by show 2<=sizeLine;decide,λq hq=>?_⟩;exact k q J g R _ (s8.trans (a9.upd hq)) (none_of s8 hq) fw a7 (a9.upd hq _ _ h8) XC (by omega) S
theorem JH{n:Nat}{many wide:Int}(r:2<=n)(l:n<=4)(p:2<=many)(m8:many<=8)(g:1<=wide)(j:wide<=6)(h:2<n->wide<=3):gK n many wide:=by
 have key:∀(m:Fin 5) (k:Fin 7),(2<m.val->k.val<=3)->(m.val:Int)^k.val<=64:=by decide
 obtain⟨k,rfl⟩:=wfI (wdY (by decide) g);exact⟨p,m8,g,j,key ⟨n,whh l⟩ ⟨k,whh (Int.ofNat_le.mp j)⟩ λz=>Int.ofNat_le.mp (h z)⟩
noncomputable def Vr:List (Int×Int):=[(2,2),(2,3),(4,3),(3,3),(2,4),(3,2),(5,3),(8,5),(2,1),(6,4),(7,5),(7,6)]
theorem Ou:∀d:Int,0<=d->d<12->∃p,Vr[d.toNat]?=some p/\2<=p.1/\p.1<=8/\1<=p.2/\p.2<=6:=under 12 λk=>⟨Vr.getD k.val (0,0),by revert k;decide⟩
theorem JI{X:Cx}{x:Str}{i:Nat}{g:List Expr}{ps:List (Int×Int)}{rest:List Stmt}{b:TS}{j l p:Pos}(r:X.N.Nodup)(hi:X.N[i]?=some x)(t:Loc X.env.scope x)(C:∀X,PA X g (vn ps))(I:wR X rest b)
 (hs:wc6 (.List g l) (some (.Name x j)) p.line X.env=pure false:=by rfl) (J:X.fn x=true\/X.env.scope.names.lookup x=some .local:=by first |exact .inl rfl |exact .inr rfl |assumption) :
 wR X (.Assign [.Name x j] (.List g l) p::rest) (MR (K5 (Px (vn ps)) (d5 i)) b):=a6 (GP (i:=i) r hi t (bX (C _)) hs J) I
theorem zU(L:Lk K mg):aT P w K mg base df 2 L.tN L.tO ["_law_script","_law_signs"] (KY K):=by
 have T:=L.T;refine L.nD.F.dJ (N:=["_law_script","_law_signs","_law_some","_law_many","_law_wide"]) (λV A outer s H vs Q E nd hr h=>?_);obtain⟨a,ns,g,rfl,Y,u,v,k⟩:=h;obtain⟨x,l,y,B,Z,C,D⟩:∃(x:Pos) (l:List Expr) (y B:Pos),cm (top 86)=.Assign [.Name "_law_some" x] (.List l y) B::(cm (top 86)).tail/\(∀X,PA X l (vn Vr))/\∀env,wc6 (.List l y) (some (.Name "_law_some" x)) B.line env=pure false:=⟨_,_,_,_,rfl,λ_=>by repeat first |exact a8 |refine L1 ?_,λ_=>rfl⟩;rw[Z]
 refine⟨_,(JI (i:=2) nd rfl (wdQ rfl) C (a6 (rk (b8 bf (pv 2) (aK cX (aq (iR L) L.fK (a5 (pv 0) (a5 ao a8))) ao) (λ_ _=>rfl)) (eB rfl (aO (ay (i:=3)) (aO (ay (i:=4)) cT))))
  (Eb (bD (aG o6 (aC bC (by rfl) T.len waJ (a5 (pv 1) a8)) ao (aU _)) (af (aj (i:=4) (aC (xR rfl) (by rfl) T.min Nu (a5 (pv 4) (a5 ao a8))))) aN)
  (af (aA (eC (a5 (pv 3) (a5 (pv 4) a8))))))) (D _)),?_⟩
 try dsimp only[dn,dm,b5,b6]
 refine Eh λe G I hl hI=>⟨hl ▸ (by show 12<=sizeLine;decide),λb f=>?_⟩;have d:=I.trans (a9.upd (o:=.lst G) f);have M:=a7 (H:=e) (a:=b) (o:=.lst G);have O:=a9.upd (o:=.lst G) f;generalize upd e b _=G12 at d M O;refine⟨_,rfl,_,rfl,a,ns,4,rfl,d.seq Y,λc H2 J=>?_⟩;have R:=wb5 c (show (12:Int)≠0 by decide);obtain⟨⟨many,wide⟩,m,m2,m8,n,r⟩:=Ou _ R (wb0 c (show (0:Int)<12 by decide));obtain⟨q,t,hm⟩:=hI _ _ m;have t:=bO t;rw[wgP R]at t;have j:=d.trans J;refine⟨_,_,rfl,rfl,(by show (0:Int)<12;decide),b,_,_,_,rfl,rfl,aL.of (J _ _ M),t,q,_,rfl,ig.of (J _ _ (O _ _ hm)),rfl,_,_,rfl,_,_,rfl,rfl,?_⟩;refine⟨λσ S=>S=H2/\∃(wd:Int),σ=[some (.ref a),some (.str g),some (.ref b),some (.int many),some (.int wd)]/\1<=wd/\wd<=6/\(2<g.length->wd<=3),?_,?_⟩
 ·refine⟨_,rfl,g,rfl,aw (by omega),_,_,rfl,rfl,_,rfl,uP (λU=>?_) (λU=>?_)⟩
  ·refine⟨_,rfl,wide,3,rfl,?_⟩
   by_cases z:(3:Int)<wide
   ·rw[if_pos z];exact⟨rfl,3,rfl,by decide,by decide,λ_=>weR _⟩
   ·rw[if_neg z];exact⟨rfl,wide,rfl,n,r,λ_=>by omega⟩
  ·exact⟨rfl,wide,rfl,n,r,λz=>absurd (decide_eq_true (by omega)) U⟩
 ·rintro σ S ⟨rfl,wd,rfl,n,r,w3⟩;refine⟨_,rfl,_,rfl,by show 2<=sizeLine;decide,λp m=>?_⟩;exact k p many wd _ (j.trans (a9.upd m)) (none_of j m) a7 (JH u v m2 m8 n r w3)
end
end K50
namespace Bs
open PySem L2 Sx
theorem JK{g:Str}:∀(n:Nat) (r:Str),r∈JT g n->∀c∈ch r,c∈ch g
 |0,r,h,c,hc=>by
  rw[waq.mp h]at hc;exact nomatch hc
 |n+1,r,h,c,hc=>by
  obtain⟨p,a,h⟩:=wcD.mp h;obtain⟨d,hd,rfl⟩:=wab.mp h;rw[aZ]at hc;rcases waE.mp hc with z |z
  ·exact JK n p a c z
  ·rw[waq.mp z];exact hd
theorem LQ{K:wa2}{C CB J T:Addr}{H:Hp}{x t:Addr}{g:Str}{bw ss ls:List Str}{many:Int}{n:Nat}{f:Str->Int}{r:List zz}{j:List Nat}{hs:List Str}{ws:List Int}{lns:List (List (Str×Nat))}{b:Nat}(B:aY CB H t g bw ss ls)(W:BA K C J T H x t many n (cI f ls) r j hs ws lns b)(P:iq g bw ss ls many n f r j hs ws lns)(U:GD many n (fB lns j many.toNat))(I:nK bw n b)(nd:(ch g).Nodup)(hw:∀w∈bw,1<=w.length/\w.length<=900)(bl:bw.length<=1000)(gl:g.length<=10)(m1:1<=many)(m8:many<=8)(n1:1<=n)(wQ:n<=10):sj K C CB J H x ⟨g,bw,ss,ls,pw hs j,many,n,b,r.length,fB lns j many.toNat⟩:=by
 obtain⟨u,p,a,l,v,⟨dp,y,z,A,D,E,_,G,_,_⟩,L,M⟩:=W;obtain⟨S,N,O,Q,k⟩:=id G;cases O;have c:∀p∈ls,p∈ss:=λp h=>B.lv.sub.subset h;have i:∀w∈bw,1<=w.length:=λw h=>(hw w h).1
 have R:j.length<=40:=by
  have m:=P.ko.ab.sub.length_le;have o:=P.b.l;have V:=P.ln;rw[waK]at m;omega
 have sl:=P.sl;have kp:0<j.length:=wbR.mpr P.ne;refine⟨⟨u,p,t,a,l,dp,y,z,A,D,N,v,E,.inl Q,by rw[k.len,wa0],M,.inl (uz L),B⟩,U,m1,m8,n1,wQ,I.le,by show r.length<=1000;omega,?_,?_,I,hw,bl,gl,P.read nd B.pm i c (B.nd.sublist B.lv.sub) _,λd q s=>?_,?_,Gm I n1 B.pm,B.pm⟩
 ·show (pw hs j).length=_;rw[wt];exact wa0 ..
 ·show (fB lns j many.toNat).length<=40;rw[wt];exact R
 ·have hd:=Jt s;have m:=(zN (w:=q.1) (e:=q.2) s).2;have o:j.getD d 0<hs.length:=by have:=(P.ko.st _ (wa8 (getD_some 0 hd))).1;have:=P.b.l;omega
  exact JK n _ (P.cv.Fi P.b.l (λp h=>c p (P.sb p h)) B.pm i o m).2.2
 ·show (pw hs j).getD 0 ""∈ss;rw[kd kp];have hk:=(P.steps B.pm i c many.toNat kp).1;rw[wa3,wa1 hk];exact c _ (P.sb _ (waN hk))
theorem EI{R:Wr}(ok:DH R):∀(ts:List Nat) (d:Nat),d<R.wl.length->(∀t∈ts,(t:Int)<R.many)->∀u∈eS R.wl d ts,u.length=R.n/\∀c∈ch u,c∈ch R.g
 |[],_,_,_,_,h=>nomatch h
 |t::ts,d,hd,b,u,h=>by
  have a:=wa8 (step_at ok.w hd (b t (wag ..)));have hl:=wa8 (d4 hd);rcases waH.mp h with rfl |h
  ·exact⟨ok.w.wd _ hl _ a,ok.gd d _ a⟩
  ·exact EI ok ts _ (ok.w.e _ hl _ a) (λx f=>b x (wac _ f)) u h
structure DK(R:Wr)(ts:List Nat)(all:List Str):Prop where
 row:LD R.wl R.b R.c ts=cat all
 u:∀u∈all,u.length=R.n/\∀c∈ch u,c∈ch R.g
 l:all.length=R.b+ts.length+R.c
 r:∀k,k<ts.length->∃bs w us,(all.take (k+(R.b+1+R.c))).drop k=bs++w::us/\bs.length=R.b/\us.length=R.c/\bears R.bw (cat bs)=false/\nO R.ss R.hk R.wl (cat bs) w us (ts.getD k 0)
theorem Ov{R:Wr}(ok:DH R){ts:List Nat}(g:∀t∈ts,(t:Int)<R.many):∃all,DK R ts all:=by
 refine⟨eS R.wl 0 (iD R.b R.c ts),Gk ..,EI ok _ 0 (wbR.mpr ok.w.ne) (si ok.m1 g _ _),?_,λk hk=>?_⟩
 ·rw[kg];unfold iD;rw[wa5,wa5,waQ,waQ];omega
 ·obtain⟨bs,w,a,d,e,f,i,j⟩:=DG ok.rd ok.w ok.m1 ok.pm (λw h=>(ok.hw w h).1) ok.h0 ok.sh g hk;refine⟨bs,w,a,d,e,f,i,?_⟩;rw[wa3,wa1 hk];exact j
theorem EJ{n:Nat}:∀{a b:List Str},a.length=b.length->(∀w∈a,w.length=n)->(∀w∈b,w.length=n)->cat a=cat b->a=b
 |[],[],_,_,_,_=>rfl
 |x::a,y::b,hl,ha,c,e=>by
  have e:ch (x++cat a)=ch (y++cat b):=congrArg ch e;rw[aZ,aZ]at e;obtain⟨d,f⟩:=whM e (by rw[aW,aW,ha x (wag ..),c y (wag ..)]);rw[cR d,EJ (wgY hl) (λw h=>ha w (wac _ h)) (λw h=>c w (wac _ h)) (cR f)]
theorem DK.inj{R:Wr}(ok:DH R){ts j:List Nat}{all g:List Str}(h:DK R ts all)(h':DK R j g)(hl:ts.length=j.length)(e:cat all=cat g):ts=j:=by
 have c:=EJ (by rw[h.l,h'.l,hl]) (λw hw=>(h.u w hw).1) (λw hw=>(h'.u w hw).1) e;subst c;refine wei hl λk a b=>?_;obtain⟨bs,w,p,a1,a2,a3,q,d⟩:=h.r k a;obtain⟨f,s,i,b1,m,t,v,n⟩:=h'.r k b;obtain⟨rfl,o⟩:=whM (a1.symm.trans b1) (by rw[a2,m]);obtain⟨rfl,rfl⟩:=wf2 o;have:=d.one ok.rd a3 n;rwa[wa3,wa1 a,wa3,wa1 b]at this
theorem DK.res{R:Wr}(ok:DH R){ts:List Nat}{all:List Str}(h:DK R ts all):∀k,k<ts.length->∃bs w us,(all.take (k+(R.b+1+R.c))).drop k=bs++w::us/\bs.length=R.b/\us.length=R.c/\(bears R.bw (cat bs)=true->V.int ((ts.getD k 0:Nat):Int)=.non)/\(∀i:Nat,bears R.bw (cat bs)=false->nO R.ss R.hk R.wl (cat bs) w us i->V.int ((ts.getD k 0:Nat):Int)=.int (i:Int))/\(bears R.bw (cat bs)=false->(∀i,¬nO R.ss R.hk R.wl (cat bs) w us i)->V.int ((ts.getD k 0:Nat):Int)=.non):=λk hk=>by
 obtain⟨bs,w,us,a1,a2,a3,d,a⟩:=h.r k hk;exact⟨bs,w,us,a1,a2,a3,(λz=>by rw[d]at z;cases z),λi _ hi=>by rw[a.one ok.rd a3 hi],λ_ hn=>absurd a (hn _)⟩
theorem sv(ts:List Nat):(waD ts.length).map (λk=>V.int ((ts.getD k 0:Nat):Int))=(nI ts).map V.int:=by
 refine wei (by rw[wa0,waK,wa0,cH]) λi b a=>?_;rw[wa0,cH]at a;rw[wcW,weW,wcW];unfold nI;rw[wcW,wa3,wa1 a];rfl
end Bs
namespace K50
open PySem L2 Bs Sx
section
variable{P:wat}{w:World}{K:wa2}{mg:Str->Option Value}{base:Heap}
inductive Ow(K:wa2)(vs:List V)(H:Hp)(Q:VK)(eE:XK):Prop
 |mk (a b ts) (_:vs=[.ref a,.ref b]) (_:H a=some (.lst ((nI ts).map V.int))) (_:H b=some (.lst ((nI ts).map V.int))) (_:∀H',a9 H H'->Q (.bl true) H')
theorem iS(L:Lk K mg):aT P w K mg base df 1 L.nF L.tR ["_law_found","_law_data"] (Ow K):=by
 have T:=L.T;refine L.fL.F.dJ (N:=["_law_found","_law_data","_law_number"]) (λd A outer s H o Q E nd l h=>?_);obtain⟨a,b,m,rfl,ha,j,k⟩:=h;have e:(A.deeper (wcX "_law_same" (aJ (top 88)) s.heap.objs.size L.nF d)).units<wcF:=l.uJ
 refine⟨_,(a6 (bD (PW.pt (hZ (dO (cF (aC cM (by rfl) T.JV xc (a5 (pv 0) (a5 (gX (v:=.ty "list") (by rfl) T.list gz rfl) a8))))) (iX (aG GU (aC b4 (by rfl) T.len waJ (a5 (pv 0) a8)) (aC b4 (by rfl) T.len waJ (a5 (pv 1) a8)) (aU _))))) (af (aA gy)) aN)
  (a6 (b7 wao rfl (aP (pv 0)) (ay (i:=2)) (af (bD (PW.pt (hZ (dO (cF (aC cM (by rfl) T.JV xc (a5 (pv 2) (a5 (gX (v:=.ty "int") (by rfl) T.int Qk rfl) a8))))) (iX (cF (aC cM (by rfl) T.JV xc (a5 (pv 2) (a5 (gX (v:=.ty "bool") (by rfl) T.bool Mf rfl) a8))))))) (af (aA gy)) aN)))
  (af (aA (jm (Cp e) (pv 0) (pv 1) (aU _)))))),?_⟩
 try dsimp only[dn,dm,b5,b6]
 refine⟨_,rfl,_,_,_,true,rfl,iY.lst ha,rfl,true,rfl,cb ?_⟩;refine⟨_,rfl,a,_,rfl,.inl (aL.of ha),_,rfl,b,_,rfl,.inl (aL.of j),rfl,false,Ic _,cb ?_⟩;refine⟨_,rfl,a,rfl,⟨_,aL.of ha⟩,dA (K:=K) (a:=a) (xs:=(nI m).map V.int) (λi σ c=>c=H/\∃f,σ=[some (.ref a),some (.ref b),f]) ⟨rfl,none,rfl⟩ (λi σ c _ q=>by rw[q.1];exact aL.of ha) ?_ ?_⟩
 ·rintro i y σ c n ⟨g,f,rfl⟩;rw[g];obtain⟨t,_,rfl⟩:=rP (wa8 n);exact⟨_,rfl,_,_,_,true,rfl,iY.int _,rfl,true,rfl,cb ⟨_,rfl,_,_,_,false,rfl,iY.int _,rfl,false,rfl,cb ⟨rfl,_,rfl⟩⟩⟩
 ·rintro σ c ⟨g,f,rfl⟩;rw[g];refine⟨_,rfl,_,rfl,a,b,_,_,rfl,rfl,aL.of ha,aL.of j,d2 _,d2 _,?_⟩;rw[jW,decide_eq_true rfl];exact k H (a9.refl _)
theorem JL{many c t:Int}(j:2<=many)(l:0<=t)(p:t<many):∃u:Nat,(t+1+c%(many-1))%many=(u:Int)/\(u:Int)<many/\(u:Int)≠t:=by
 have a:=wb5 c (show many-1≠0 by omega);have b:=wb0 c (show 0<many-1 by omega);generalize c%(many-1)=d at a b;have e:=wb5 (t+1+d) (show many≠0 by omega);have f:=wb0 (t+1+d) (show 0<many by omega);refine⟨((t+1+d)%many).toNat,by omega,by omega,?_⟩
 have g:(t+1+d)%many=t+1+d\/(t+1+d)%many=t+1+d-many:=by
  by_cases h:t+1+d<many
  ·exact .inl (whi (by omega) h)
  ·right
   rw[<-Int.sub_emod_right,whi (by omega) (by omega)]
 omega
theorem Ox{f:Addr}{fd:wad}(L:Lk K mg)(F:Ar K "law" "law" (top 89) f fd):aT P w K mg base df 13 f fd ["_law_script"] (Ea K):=by
 have T:=L.T;refine F.dJ (N:=["_law_script","_law_signs","_law_words","_law_many","_law_wide","_law_told_here","_law_data","_law_other","_law_cell","_law_at","_law_reader","_law_rows","_law_found"]) (λi5 A outer s H vs Q E nd hr h=>?_);obtain⟨a,ns,rfl,hS,hlen,k⟩:=h;have O4:(A.deeper (wcX "law" (aJ (top 89)) s.heap.objs.size f i5)).units<wcF:=hr.uJ
 refine⟨_,(a6 (rk (aq (zT L) L.nC (a5 (pv 0) a8)) (eB rfl (aO (ay (i:=1)) (aO (ay (i:=2)) cT))))
  (a6 (rk (aq (zU L) L.nD (a5 (pv 0) (a5 (pv 1) a8))) (eB rfl (aO (ay (i:=3)) (aO (ay (i:=4)) cT))))
  (a6 (aj (i:=5) (aq (zS L) L.nE (a5 (pv 1) (a5 (pv 2) (a5 (pv 3) (a5 (pv 4) a8))))))
  (a6 (bD (aG GW (pv 5) gD (aU _)) (af (aA gy)) aN)
  (a6 (dS (i:=6) rfl (ax ["_law_many"] [3]) nd rfl rfl (aP (cu jn (pv 0) (bN ao) (bN ao))) (λ_ _ _ _ _ _=>bo) (λ_ _ _ _ _ _=>(aK cX (pv 0) (pv 1))))
  (a6 (aj (i:=7) (bp cK (by rfl) T.list gz (a5 (pv 6) a8)))
  (a6 (aj (i:=8) (aK cX (aK kq (aq (iR L) L.fK (a5 (pv 0) (a5 ao a8))) ao) ao))
  (Eb (bD (aG (CZ O4) (pv 6) (bX a8) (aU _)) (a6 (aj (i:=9) (aK cX (pv 8) (aC b4 (by rfl) T.len waJ (a5 (pv 6) a8))))
  (af (rk (aK cX (aK dP (aK dP (b8 bf (pv 7) (pv 9) (λ_ _=>rfl)) ao) (aK cX (aK kq (pv 8) (aC b4 (by rfl) T.len waJ (a5 (pv 6) a8))) (aK mq (pv 3) ao))) (pv 3)) (C4 (pv 7) (pv 9) set_list)))) aN)
  (a6 (aj (i:=10) (nU L.yJ (pA L) (hr.mono (by decide)) rfl L.Br L.gb.b .nil bj (a5 (pv 5) a8)))
  (a6 (aj (i:=11) (bX (a5 (bQ (pv 5) L.ai.cl L.cB.m (iG L) (hr.mono (by decide)) L.cB.b .nil bj (a5 (bp cK (by rfl) T.list gz (a5 (pv 6) a8)) a8)) (a5 (bQ (pv 5) L.ai.cl L.cB.m (iG L) (hr.mono (by decide)) L.cB.b .nil bj (a5 (bp cK (by rfl) T.list gz (a5 (pv 7) a8)) a8)) a8))))
  (a6 (bD (PW.pt (C3 (aG (CZ O4) (pv 6) (bX a8) (aU _)) (yU (aG pH (b8 bf (pv 11) ao (λ_ _=>rfl)) (b8 bf (pv 11) ao (λ_ _=>rfl)) (aU _))))) (af (aA gy)) aN)
  (a6 (aj (i:=12) (bQ (pv 10) L.av.cl L.bP.m (gu L) (hr.mono (by decide)) L.bP.b .nil bj (a5 (b8 bf (pv 11) ao (λ_ _=>rfl)) a8)))
  (a6 (bD (PW.pt (hZ (dO (cF (aq (iS L) L.fL (a5 (pv 12) (a5 (pv 6) a8))))) (hZ (dO (cF (aq (iS L) L.fL (a5 (bQ (pv 10) L.av.cl L.bP.m (gu L) (hr.mono (by decide)) L.bP.b .nil bj (a5 (b8 bf (pv 11) ao (λ_ _=>rfl)) a8)) (a5 (pv 7) a8))))) (iX (aG (CZ O4) (pv 12) (pv 6) (aU _)))))) (af (aA gy)) aN)
  (a6 (bA (iZ waO waV waY cP (pv 12) (a5 ao a8)))
  (af (aA (yW (aq (iS L) L.fL (a5 (bQ (pv 10) L.av.cl L.bP.m (gu L) (hr.mono (by decide)) L.bP.b .nil bj (a5 (b8 bf (pv 11) ao (λ_ _=>rfl)) a8)) (a5 (pv 6) a8))) (yV (aq (iS L) L.fL (a5 (bQ (pv 10) L.av.cl L.bP.m (gu L) (hr.mono (by decide)) L.bP.b .nil bj (a5 (bQ (pv 5) L.ai.cl L.cB.m (iG L) (hr.mono (by decide)) L.cB.b .nil bj (a5 (bX a8) a8)) a8)) (a5 (bX a8) a8))))))))))))))))))))),?_⟩
 try dsimp only[dn,dm,b5,b6]
 refine bU λR1 c1=>?_;refine⟨_,rfl,a,ns,rfl,hS,λpt lw g ws H1 s1 fpt flw hpt O7 sg Sb Vs=>?_⟩;have g2:=sg.lo;have g4:=sg.hi;refine⟨pt,_,rfl,ig.of hpt,rfl,_,_,rfl,_,_,rfl,rfl,?_⟩;refine c1 _ _ (bU λR2 c2=>?_);refine⟨_,rfl,_,rfl,a,ns,g,rfl,s1.seq hS,g2,g4,λpr many wide H2 s2 fpr Vd Jm=>?_⟩;refine⟨pr,_,rfl,ig.of Vd,rfl,_,_,rfl,_,_,rfl,rfl,?_⟩;refine c2 _ _ (bU λR3 c3=>?_);obtain⟨ra,rb,rc,rd,re⟩:=id Jm;obtain⟨wd,rfl⟩:∃w:Nat,wide=(w:Int):=⟨wide.toNat,by omega⟩;have OU:=s1.trans s2;refine⟨_,rfl,_,rfl,_,rfl,_,rfl,g,lw,many,wd,ws,rfl,aL.of (s2 _ _ O7),sg,Sb,Vs,Jm,λv H3 s3 hv=>?_⟩;have wO:=OU.trans s3;refine c3 _ _ (bU λR4 c4=>?_);rcases hv with rfl |⟨x,rfl,hT⟩
 ·exact⟨_,rfl,rfl,true,rfl,fO (k H3)⟩
 refine⟨_,rfl,rfl,false,rfl,cb ?_⟩;refine c4 _ _ (bU λR5 c5=>?_)
 obtain⟨R,Wv,em⟩:∃R:Wr,sj K L.ak L.aB L.aR H3 x R/\R.many=many:=by
  obtain⟨xb,ss,ls,f0,f,ri,ks,hs,wss,lns,b,B,Wv,QZ,hL,hle,hP,W0,hB⟩:=hT;exact⟨_,LQ B Wv hP W0 hB sg.nd (λw h=>⟨(Vs w h).lo,by have:=(Vs w h).hi;omega⟩) (by omega) (by omega) (by omega) rb (by omega) (by omega),rfl⟩
 subst em;have ok:=Wv.ok;refine⟨_,rfl,_,rfl,_,rfl,a,_,rfl,wO.seq hS,λlc Ly=>?_⟩;obtain⟨ms,em,eml⟩:=AU ns (some 5) (some 105);rw[em];refine⟨lc,rfl,⟨_,aL.of a7⟩,λld QF=>?_⟩;have t1:=a9.upd (H:=H3) (o:=.lst (ms.map V.int)) Ly;have g1:(upd H3 lc (.lst (ms.map V.int))) lc=some (.lst (ms.map V.int)):=a7;generalize upd H3 lc (.lst (ms.map V.int))=H4 at QF t1 g1;refine comp_map (λv=>match v with |.int c=>.int (c%R.many) |_=>.non) (aQ K lc _) QF (by rw[wa0];exact aw (by omega)) (λH' s'=>aL.of (s' _ _ g1)) (λz H5 Q' hz s5 q=>?_) (λH5 s5 h5=>?_)
 ·obtain⟨c,hc,rfl⟩:=wab.mp hz;exact⟨_,rfl,_,rfl,_,_,rfl,rfl,by omega,q H5 (a9.refl _)⟩
 obtain⟨ts,Rw,Vo,M⟩:∃ts:List Nat,(ms.map V.int).map (λv=>match v with |.int c=>V.int (c%R.many) |_=>.non)=(nI ts).map V.int/\ts.length<=1000/\∀t∈ts,(t:Int)<R.many:=by
  refine⟨ms.map λc=>(c%R.many).toNat,?_,by rw[wa0];omega,λt ht=>?_⟩
  ·unfold nI;rw[wah,wah,wah];refine wb2 λc hc=>?_;have:=wb5 c (show R.many≠0 by omega);show V.int (c%R.many)=V.int (((c%R.many).toNat:Nat):Int);rw[wgP this]
  ·obtain⟨c,_,rfl⟩:=wab.mp ht;have:=wb5 c (show R.many≠0 by omega);have:=wb0 c (show 0<R.many by omega);omega
 rw[Rw]at h5;have Sz:=wO.trans (t1.trans s5);have W5:=Wv.same (t1.trans s5);clear Rw hT Wv g1 t1;refine c5 _ _ (bU λR6 c6=>?_);refine⟨_,rfl,ld,_,rfl,.inl (aL.of h5),λlo Ma=>?_⟩;have s6:=a9.upd (H:=H5) (o:=.lst ((nI ts).map V.int)) Ma;have h6:(upd H5 lo (.lst ((nI ts).map V.int))) lo=some (.lst ((nI ts).map V.int)):=a7;generalize upd H5 lo (.lst ((nI ts).map V.int))=H6 at s6 h6;refine c6 _ _ (bU λR7 c7=>?_);refine⟨_,rfl,a,ns,4,rfl,(Sz.trans s6).seq hS,λc4 H7 s7=>?_⟩;refine⟨_,_,rfl,rfl,⟨by decide,by decide+kernel⟩,_,_,rfl,rfl,(by show (0:Int)<1000003;decide),?_⟩;show d5 _ (V.int (c4/12%1000003)) _ _ _;have c0:=wb5 (c4/12) (show (1000003:Int)≠0 by decide);have cl:=wb0 (c4/12) (show (0:Int)<1000003 by decide);generalize c4/12%1000003=c at c0 cl;have Vt:=s6.trans s7;have h7:=s7 _ _ h6;have d7:=Vt _ _ h5;have O:((nI ts).map V.int).length=ts.length:=by rw[wa0,cH]
 have Vu:∀{b:Bool},oQ ((nI ts).map V.int) []=b->(b=true↔ts=[]):=λ{b} e=>by
  have:oQ ((nI ts).map V.int) ((nI []).map V.int)=b:=e;rw[jW]at this;rw[<-this,decide_eq_true_eq]
 refine c7 _ _ ?_;refine⟨λσ H8=>∃(d:List Nat) (v9:Option V),σ=[some (.ref a),some (.str g),some (.ref lw),some (.int R.many),some (.int (wd:Int)),some (.ref x),some (.ref ld),some (.ref lo),some (.int c),v9,none,none,none]/\a9 H5 H8/\H8 lo=some (.lst ((nI d).map V.int))/\d.length=ts.length/\(∀t∈d,(t:Int)<R.many)/\(ts≠[]->d≠ts),?_,?_⟩
 ·refine⟨_,rfl,waA _,λe0 Vv=>?_⟩;have s8:=a9.upd (H:=H7) (o:=.lst []) Vv;have h8:(upd H7 e0 (.lst [])) e0=some (.lst []):=a7;generalize upd H7 e0 (.lst [])=H8 at s8 h8;have S:=s8 _ _ h7;have Vw:=s8 _ _ d7;refine⟨ld,e0,_,[],rfl,rfl,aL.of Vw,aL.of h8,d2 _,rfl,_,rfl,uP (λh=>?_) (λh=>?_)⟩
  ·have wZ:ts≠[]:=λz=>by
    rw[(Vu rfl).mpr z]at h;cases h
   have hp:0<ts.length:=wbR.mpr wZ;refine⟨_,rfl,_,rfl,ld,_,rfl,.inl (aL.of Vw),_,_,rfl,rfl,(by rw[O];show (0:Int)<(ts.length:Int);omega),?_⟩;rw[O];have j0:=wb5 c (show (ts.length:Int)≠0 by omega);have j1:=wb0 c (show 0<(ts.length:Int) by omega);obtain⟨j,hj⟩:∃j:Nat,c%(ts.length:Int)=(j:Int):=⟨(c%(ts.length:Int)).toNat,by omega⟩;show d5 _ (V.int (c%(ts.length:Int))) _ _ _;rw[hj]at j1 ⊢;have SE:j<ts.length:=by omega
   have MA:((nI ts).map V.int)[j]?=some (.int (ts[j]:Int)):=vF (wa1 SE);have htj:=M _ (waN SE);refine⟨_,rfl,_,rfl,lo,_,_,_,rfl,rfl,aL.of S,bO MA,_,_,rfl,rfl,_,rfl,_,rfl,ld,_,rfl,.inl (aL.of Vw),?_⟩;rw[O];refine⟨_,_,rfl,rfl,⟨by omega,by omega⟩,_,rfl,_,_,rfl,rfl,_,_,rfl,rfl,(show (0:Int)<R.many-1 by omega),_,_,rfl,rfl,_,rfl,_,_,rfl,rfl,(show (0:Int)<R.many by omega),?_⟩;obtain⟨u,eu,ul,un⟩:=JL (c:=c/(ts.length:Int)) ra (show (0:Int)<=(ts[j]:Int) by omega) htj;refine⟨_,rfl,_,rfl,lo,_,_,j,rfl,rfl,S,by rw[O];unfold DX;rw[if_pos (by omega),if_pos (by omega),waF],?_⟩
   have es:((nI ts).map V.int).set j (V.int ((ts[j]+1+c/(ts.length:Int)%(R.many-1))%R.many))=(nI (ts.set j u)).map V.int:=by
    rw[eu];unfold nI;rw[wfD,wfD]
   show ∃d v9,_/\_;refine⟨ts.set j u,_,rfl,λb o e=>by rw[ae (ag e Ma)];exact s8 _ _ (Vt _ _ e),by rw[a7];exact congrArg (λz=>some (HO.lst z)) es,wc7,λt ht=>?_,λ_ z=>?_⟩
   ·rcases wcn ht with q |q
    ·exact M t q
    ·rw[q];exact ul
   ·have:=congrArg (λl:List Nat=>l[j]?) z;simp only[wcE SE,wa1 SE]at this;exact un (by rw[wae this])
  ·exact⟨ts,none,rfl,Vt.trans s8,S,rfl,M,λz=>absurd ((Vu rfl).mp (by cases q:oQ ((nI ts).map V.int) [] with |true=>rfl |false=>rw[q]at h;exact absurd rfl h)) z⟩
 rintro σ H8 ⟨d,v9,rfl,XM,S,Vx,Rx,wZ⟩;refine bU λQ7 q7=>?_;refine⟨_,rfl,λz dz nz Ss Xo=>?_⟩;have sm:a9 H8 (upd (upd H8 dz (.own z)) z (.ins L.aH dz [])):=fE nz Ss;refine⟨z,dz,x,R,rfl,a7,W5.same (XM.trans (Bj sm nz)),λH9 kp D9=>⟨rfl,?_⟩⟩;have s9:a9 H8 H9:=λc o e=>kp _ _ (sm _ _ e) (ag e nz);clear kp sm nz Ss Xo;have XO:=XM.trans s9;have W9:=W5.same XO;have Vy:=XO _ _ h5;have Vz:=s9 _ _ S;obtain⟨⟨dx,p,xb',aa,ll,dp,wa,wb,wc,wz,ys,hx,_⟩,_⟩:=id W9;obtain⟨A1,r1⟩:=Ov ok M;obtain⟨A2,r2⟩:=Ov ok Rx;refine q7 _ _ (bU λQ8 q8=>?_);refine⟨_,rfl,x,dx,_,rfl,hx,cC _ _ _ _ _ _ _ _ (by decide+kernel),_,rfl,ld,_,rfl,.inl (aL.of Vy),λl1 O6=>?_⟩;have Gb:=a9.upd (H:=H9) (o:=.lst ((nI ts).map V.int)) O6;have Jn:(upd H9 l1 (.lst ((nI ts).map V.int))) l1=some (.lst ((nI ts).map V.int)):=a7;generalize upd H9 l1 (.lst ((nI ts).map V.int))=OT at Gb Jn;refine⟨x,l1,R,ts,rfl,W9.same Gb,Jn,M,by omega,λGC JZ=>?_⟩;have D:=Gb.trans JZ;refine⟨_,rfl,x,dx,_,rfl,D _ _ hx,cC _ _ _ _ _ _ _ _ (by decide+kernel),_,rfl,lo,_,rfl,.inl (aL.of (D _ _ Vz)),λl2 OV=>?_⟩;have ED:=a9.upd (H:=GC) (o:=.lst ((nI d).map V.int)) OV;have QW:(upd GC l2 (.lst ((nI d).map V.int))) l2=some (.lst ((nI d).map V.int)):=a7;generalize upd GC l2 (.lst ((nI d).map V.int))=Mx at ED QW;refine⟨x,l2,R,d,rfl,W9.same (D.trans ED),QW,Rx,by omega,λOW SA=>?_⟩;rw[r1.row,r2.row];refine⟨by show 2<=sizeLine;decide,λlr XQ=>?_⟩;have VA:=a9.upd (H:=OW) (o:=.lst [.str (cat A1),.str (cat A2)]) XQ;have I:(upd OW lr (.lst [.str (cat A1),.str (cat A2)])) lr=some (.lst [.str (cat A1),.str (cat A2)]):=a7;show d5 11 (V.ref lr) _ _ _;generalize upd OW lr (.lst [.str (cat A1),.str (cat A2)])=J at VA I;have G:=D.trans (ED.trans (SA.trans VA));have U:=D9.same G;have W14:=W9.same G;have SG:=G _ _ Vy;have o14:=G _ _ Vz;have VB:=G _ _ hx;obtain⟨SH,x',a',hz,_⟩:=id U;clear Gb JZ ED SA VA Jn QW D XQ O6 OV Vy Vz D9 W9 hx;have SJ:=ie (fs:=Gp x' a') (n:="read") (by show ("read":Str)∉[("writer":Str),"pairs"];decide+kernel);refine q8 _ _ (bU λR8 c8=>?_)
 have key:∀H',a9 J H'->R8 [some (.ref a),some (.str g),some (.ref lw),some (.int R.many),some (.int (wd:Int)),some (.ref x),some (.ref ld),some (.ref lo),some (.int c),v9,some (.ref z),some (.ref lr),none] H':=by
  intro VC r;refine c8 _ _ ?_;have D15:=U.same r;have VD:=r _ _ hz;refine⟨_,rfl,z,SH,_,rfl,VD,SJ,_,rfl,lr,_,_,_,rfl,rfl,aL.of (r _ _ I),rfl,z,R,A1,ts.length,_,rfl,D15,r1.u,r1.l,Vo,r1.res ok,λlf H16 s16 ff VE=>?_⟩;rw[sv]at VE;have X:=r.trans s16;have f14:J lf=none:=none_of r ff;refine⟨_,rfl,_,rfl,lf,ld,ts,rfl,VE,X _ _ SG,λH17 XR=>⟨true,rfl,cb ?_⟩⟩;have y:=X.trans XR;refine⟨_,rfl,z,SH,_,rfl,y _ _ hz,SJ,_,rfl,lr,_,_,_,rfl,rfl,aL.of (y _ _ I),rfl,z,R,A2,d.length,_,rfl,U.same y,r2.u,r2.l,by omega,r2.res ok,λlg H18 QU _ XS=>?_⟩;rw[sv]at XS;have Y:=y.trans QU;refine⟨_,rfl,lg,lo,d,rfl,XS,Y _ _ o14,λXU XV=>⟨true,rfl,cb ?_⟩⟩;have Z:=Y.trans XV;have VF:=(XR.trans (QU.trans XV)) _ _ VE;refine⟨_,rfl,_,rfl,lf,ld,_,_,rfl,rfl,aL.of VF,aL.of (Z _ _ SG),d2 _,d2 _,false,by rw[jW,decide_eq_true rfl];rfl,cb ?_⟩;refine⟨_,rfl,.inl ⟨rfl,_,aL.of VF⟩,lf,_,_,rfl,rfl,VF,by rw[O];exact bq (by omega),?_⟩;have Ry:a9 J (upd XU lf (.lst ((nI ts).map V.int++[.int 0]))):=λc o e=>by rw[ae (ag e f14)];exact Z _ _ e
  generalize upd XU lf (.lst ((nI ts).map V.int++[.int 0]))=H20 at Ry;refine⟨_,rfl,z,SH,_,rfl,Ry _ _ hz,SJ,_,rfl,lr,_,_,_,rfl,rfl,aL.of (Ry _ _ I),rfl,z,R,A1,ts.length,_,rfl,U.same Ry,r1.u,r1.l,Vo,r1.res ok,λlh H21 s21 _ XW=>?_⟩;rw[sv]at XW;have MH:=Ry.trans s21;refine⟨_,rfl,lh,ld,ts,rfl,XW,MH _ _ SG,λVG s22=>⟨true,rfl,fO ?_⟩⟩;have C:=MH.trans s22;obtain⟨A3,r3⟩:=Ov (ts:=[]) ok (λt h=>nomatch h);refine⟨_,rfl,z,SH,_,rfl,C _ _ hz,SJ,_,rfl,x,dx,_,rfl,C _ _ VB,cC _ _ _ _ _ _ _ _ (by decide+kernel),waA _,λl3 Hw=>?_⟩;have VH:=a9.upd (H:=VG) (o:=.lst []) Hw;have XX:(upd VG l3 (.lst [])) l3=some (.lst ((nI []).map V.int)):=a7;generalize upd VG l3 (.lst [])=H23 at VH XX;refine⟨x,l3,R,[],rfl,W14.same (C.trans VH),XX,(λt h=>nomatch h),waA _,λH24 s24=>?_⟩;rw[r3.row];have Rz:=C.trans (VH.trans s24);refine⟨z,R,A3,0,_,rfl,U.same Rz,r3.u,r3.l,waA _,r3.res ok,λlj H25 s25 _ h25=>?_⟩;refine⟨waA _,λl4 hl4=>?_⟩;have s26:=a9.upd (H:=H25) (o:=.lst []) hl4;exact⟨lj,l4,[],rfl,s26 _ _ h25,a7,λH27 _=>k H27⟩
 refine⟨_,rfl,waA _,λe0 Vv=>?_⟩;have r:=a9.upd (H:=J) (o:=.lst []) Vv;have SD:(upd J e0 (.lst [])) e0=some (.lst []):=a7;generalize upd J e0 (.lst [])=VC at r SD;refine⟨ld,e0,_,[],rfl,rfl,aL.of (r _ _ SG),aL.of SD,d2 _,rfl,_,rfl,uP (λh=>?_) (λh=>key VC r)⟩
 have hn:ts≠[]:=λz=>by
  rw[(Vu rfl).mpr z]at h;cases h
 refine⟨_,rfl,lr,_,_,_,rfl,rfl,aL.of (r _ _ I),rfl,_,rfl,lr,_,_,_,rfl,rfl,aL.of (r _ _ I),rfl,rfl,_,rfl,uP (λh2=>?_) (λ_=>key VC r)⟩;exact absurd (DK.inj ok r1 r2 Vx.symm (V.str.inj (of_decide_eq_true h2))).symm (wZ hn)
end
end K50
namespace K50
open PySem PySem.W L2 Bs Sx
theorem nz{K:Frag}{mg:Str->Option Value}{hp:Heap}{x:Str}(X:K.In hp)(G:hp.Ns waR mg)(a:nsIn K waR x=some none:=by k_is):mg x=none:=mg_none_of X G a
theorem na{K:Frag}{C:Addr}{f:Str}(a:findIn K (.ref C) f=some none:=by k_is):bW K C f:=a
theorem gT{K:Frag}{mg:Str->Option Value}{hp:Heap}{f:Addr}{oc:Value}{od an:Option Addr}{Hr:Array (Option Value)}{kV doc pm i5 ct:Value}(nm:Str)(st:Stmt)(ps:List Str)(X:K.In hp)(G:hp.Ns waR mg)(a:nsIn K waR nm=some (some (.ref f)):=by k_is)(l:K.lookup f=some ⟨oc,od,.func (fnOf nm nm (dQ st) (cm st) (aJ st) .none kV doc pm an i5 ct),Hr⟩:=by k_is)(c:codeIn K i5 nm=true:=by k_is)(k:keepIn K (.ref f)=true:=by k_is)(b:∀(kV doc pm:Value) (an:Option Addr) (i5 ct:Value) (us:List Value),us.length=ps.length->bindArgs (fnOf nm nm (dQ st) (cm st) (aJ st) .none kV doc pm an i5 ct) ⟨us,[]⟩=pure (ps.zip us):=by first |exact λ_ _ _ _ _ _=>L2.ji _ _ λ_=>rfl |exact λ_ _ _ _ _ _=>L2.ji _ _ λ_ _=>rfl |exact λ_ _ _ _ _ _=>L2.ji _ _ λ_ _ _=>rfl |exact λ_ _ _ _ _ _=>L2.ji _ _ λ_ _ _ _=>rfl |exact λ_ _ _ _ _ _=>L2.ji _ _ λ_ _ _ _ _=>rfl |exact λ_ _ _ _ _ _=>L2.ji _ _ λ_ _ _ _ _ _=>rfl):∃fd,FnAt K mg nm st ps f fd:=Raw.at_ X G a (CC l c k) b
structure XY(K:Frag)(mg:Str->Option Value)(x:Str)(C:Addr):Prop where
 g:mg x=some (.ref C)
 c:BW K C
 mi:makesIn K C=true
 kp:keepIn K (.ref C)=true
theorem RA{K:Frag}{mg:Str->Option Value}{hp:Heap}{C:Addr}(x:Str)(X:K.In hp)(G:hp.Ns waR mg)(a:nsIn K waR x=some (some (.ref C)):=by k_is)(b:plainGet K C whQ=true:=by k_is)(c:wet K C=true:=by k_is)(d:wgc K C=true:=by k_is)(e:findIn K (.ref C) "__setattr__"=some (some (.builtin "object.__setattr__")):=by k_is)(f:makesIn K C=true:=by k_is)(g:keepIn K (.ref C)=true:=by k_is):XY K mg x C:=⟨mg_of X G a,⟨b,c,d,e⟩,f,g⟩
theorem rj{K:Frag}{mg:Str->Option Value}{x:Str}{C f:Addr}{oc:Value}{od an:Option Addr}{Hr:Array (Option Value)}{kV doc pm i5 ct:Value}(P:XY K mg x C)(nm q:Str)(st:Stmt)(ps:List Str)(a:findIn K (.ref C) nm=some (some (.ref f)):=by k_is)(i:isFn K (.ref f)=true:=by k_is)(l:K.lookup f=some ⟨oc,od,.func (fnOf nm q (dQ st) (cm st) (aJ st) .none kV doc pm an i5 ct),Hr⟩:=by k_is)(c:codeIn K i5 q=true:=by k_is)(k:keepIn K (.ref f)=true:=by k_is)(b:∀(kV doc pm:Value) (an:Option Addr) (i5 ct:Value) (us:List Value),us.length=ps.length->bindArgs (fnOf nm q (dQ st) (cm st) (aJ st) .none kV doc pm an i5 ct) ⟨us,[]⟩=pure (ps.zip us):=by first |exact λ_ _ _ _ _ _=>L2.ji _ _ λ_=>rfl |exact λ_ _ _ _ _ _=>L2.ji _ _ λ_ _=>rfl |exact λ_ _ _ _ _ _=>L2.ji _ _ λ_ _ _=>rfl |exact λ_ _ _ _ _ _=>L2.ji _ _ λ_ _ _ _=>rfl |exact λ_ _ _ _ _ _=>L2.ji _ _ λ_ _ _ _ _=>rfl |exact λ_ _ _ _ _ _=>L2.ji _ _ λ_ _ _ _ _ _=>rfl):∃fd,d8 K C nm q st ps f fd:=by
 obtain⟨fd,F,B⟩:=(CC l c k).fn b;exact⟨fd,F,B,a,i,k⟩
theorem knA{K:Frag}{mg:Str->Option Value}{hp:Heap}{x:Str}{t:Tok}(X:K.In hp)(G:hp.Ns waR mg)(a:nsIn K waR "KNOWN_SIGNS"=some (some (.str x t)):=by k_is)(e:x=fS:=by first |rfl |decide+kernel):∃t,mg "KNOWN_SIGNS"=some (.str fS t):=⟨t,e ▸ mg_of X G a⟩
theorem beA{K:Frag}{mg:Str->Option Value}{hp:Heap}{C:Addr}{q:Str}{N:Addr}{bs:List Value}{hd:Bool}{sn:List Str}{sub:List Value}{ab:Bool}{col:Option Bool}{dd:Option Addr}{k0 k1 k2 k3 k5:Option Value}(X:K.In hp)(G:hp.Ns waR mg)(a:nsIn K waR "BandError"=some (some (.ref C)):=by k_is)(l:K.lookup C=some (wbs "BandError" q C N bs RQ hd sn sub ab col dd k0 k1 k2 k3 k5 "ValueError.__new__"):=by k_is)(b:weX K (.ref C) "__getattribute__"=some (some (.builtin "type.__getattribute__")):=by k_is)(c:readsIn K C (.type "type")=true:=by k_is)(d:findCls K (.ref C) (.type "type") "__init__"=some (.val (.builtin "ValueError.__init__")):=by k_is):mg "BandError"=some (.ref C)/\HU K C "BandError"/\HM K C:=⟨mg_of X G a,KH l,b,c,d⟩
theorem VI{K:Frag}{mg:Str->Option Value}{hp:Heap}{C CB:Addr}{q:Str}{N:Addr}{bs:List Value}{sn:List Str}{sub:List Value}{ab:Bool}{col:Option Bool}{dd:Option Addr}{k0 k1 k2 k3 k5:Option Value}(x:Str)(X:K.In hp)(G:hp.Ns waR mg)(B:HU K CB "BandError")(a:nsIn K waR x=some (some (.ref C)):=by k_is)(l:K.lookup C=some (wbs x q C N bs (oW CB) true sn sub ab col dd k0 k1 k2 k3 k5 "ValueError.__new__"):=by k_is)(s:findIn K (.ref C) "__setattr__"=some (some (.builtin "object.__setattr__")):=by k_is)(g:findIn K (.ref C) "__getattribute__"=some (some (.builtin "BaseException.__getattribute__")):=by k_is)(h:findIn K (.ref C) "__getattr__"=some none:=by k_is)(k:keepIn K (.ref C)=true:=by k_is)(c:findIn K (.ref C) "__class__"=some (some (.builtin "object.__class__")):=by k_is)(n:weX K (.builtin "object.__class__") "__get__"=some (some (.builtin "getset_descriptor.__get__")):=by k_is)(t:takesIn K (.builtin "object.__class__")=some true:=by k_is):mg x=some (.ref C)/\fi K C CB x/\HV K C:=⟨mg_of X G a,⟨(KG l).lk,s,g,h,k⟩,c,n,t⟩
theorem xiA{K:Frag}{C f:Addr}{oc:Value}{od an:Option Addr}{Hr:Array (Option Value)}{kV doc pm i5 ct:Value}(Y:HV K C)(q:Str)(st:Stmt)(ps:List Str)(nm:Str)(a:findIn K (.ref C) nm=some (some (.ref f)):=by k_is)(i:isFn K (.ref f)=true:=by k_is)(l:K.lookup f=some ⟨oc,od,.func (fnOf nm q (dQ st) (cm st) (aJ st) .none kV doc pm an i5 ct),Hr⟩:=by k_is)(c:codeIn K i5 q=true:=by k_is)(k:keepIn K (.ref f)=true:=by k_is)(b:∀(kV doc pm:Value) (an:Option Addr) (i5 ct:Value) (us:List Value),us.length=ps.length->bindArgs (fnOf nm q (dQ st) (cm st) (aJ st) .none kV doc pm an i5 ct) ⟨us,[]⟩=pure (ps.zip us):=by first |exact λ_ _ _ _ _ _=>L2.ji _ _ λ_=>rfl |exact λ_ _ _ _ _ _=>L2.ji _ _ λ_ _=>rfl |exact λ_ _ _ _ _ _=>L2.ji _ _ λ_ _ _=>rfl |exact λ_ _ _ _ _ _=>L2.ji _ _ λ_ _ _ _=>rfl |exact λ_ _ _ _ _ _=>L2.ji _ _ λ_ _ _ _ _=>rfl |exact λ_ _ _ _ _ _=>L2.ji _ _ λ_ _ _ _ _ _=>rfl):∃fd,Ar K nm q st f fd/\Binds K fd ps []/\findIn K (.ref C) nm=some (some (.ref f))/\isFn K (.ref f)=true:=by
 obtain⟨fd,F,B⟩:=(CC l c k).fn b;exact⟨fd,F,B,a,i⟩
theorem walk{l:weF}{q:wat}{loose:List Str}{XP:(Str->Option Value)->Heap->Prop}{YP:World->Heap->Prop}{d:DefRec}{K:Params->wa2}(hn:l.most=some 63)(hdf:d.params.defaults=[])
 (hY:∀(w:World) (h:Heap),YP w h->(K w.params).In h)
 (F:∀(w:World) (mg:Str->Option Value) (fa:Addr) (h:Heap),(K w.params).In h->h.Ns waR mg->mg d.name=some (.ref fa) ->
   ∃fd:wad,(∀(s:Shared) (u:Value),BindsTo s fd ⟨[u],[]⟩ [("_law_script",u)])/\∀base:Heap,(K w.params).In base->base.Ns waR mg->aT l.prog w (K w.params) mg base df 13 fa fd ["_law_script"] (Ea (K w.params))) :
 whB q loose XP YP l.row.toRowW d [] (λf vs=>whE f vs):=
 L2.Kk (n:=63) (k:=13) (x:="_law_script") (CX:=λ_=>df) (sp:=λw=>Ea (K w.params)) hn (by decide) hdf ⟨rfl,by decide,by decide⟩ hY F (λ_ _ a ns hl _ hS=>⟨a,ns,rfl,hS,hl,λ_=>rfl⟩) λ_ _ _ _ _ z=>z
theorem VJ{K:Frag}{mg:Str->Option Value}{hp:Heap}{f:Addr}{oc:Value}{od an:Option Addr}{Hr:Array (Option Value)}{kV doc pm i5 ct:Value}(l:weF)(w:World)(fa:Addr)(hfa:mg "law"=some (.ref fa))(X:K.In hp)(G:hp.Ns waR mg)(L:Lk K mg)(a:nsIn K waR "law"=some (some (.ref f)):=by k_is)(lk:K.lookup f=some ⟨oc,od,.func (fnOf "law" "law" (dQ (top 89)) (cm (top 89)) (aJ (top 89)) .none kV doc pm an i5 ct),Hr⟩:=by k_is)(c:codeIn K i5 "law"=true:=by k_is)(k:keepIn K (.ref f)=true:=by k_is) :
 ∃fd:wad,(∀(s:Shared) (v:Value),BindsTo s fd ⟨[v],[]⟩ [("_law_script",v)])/\∀base:Heap,K.In base->base.Ns waR mg->aT l.prog w K mg base df 13 fa fd ["_law_script"] (Ea K):=by
 have e:=hfa.symm.trans (mg_of X G a);cases e;exact⟨_,λs v=>.of_eq rfl,λbase _ _=>Ox L (Hs (st:=top 89) lk c k)⟩
end K50
open PySem PySem.W PyProof.Rows
local macro_rules |`(tactic|o_head $H)=>`(tactic|(refine PySem.W.holds_open (q:=K50.view) (loose:=[]) (Xt:=λs=>PySem.W.xlAt K50.view [] s&&PySem.W.recOk (PySem.W.RowW.records (PySem.W.OpenRow.toRowW (PySem.W.OpenLaw.row PySem.Challenge.rw_bandscribe_k50_whole_read_again))) s) (XP:=PySem.W.XL K50.view []) (Yf:=PySem.W.Hook.obs $H) (Ya:=PySem.W.Hook.val $H) (YP:=PySem.W.Hook.says $H) (N:=8100) ?hl (PySem.W.Hook.of $H) (PySem.W.Hook.keeps $H) (λs e=>PySem.W.xl_of s (Bool.and_eq_true_iff.mp e).1) PySem.W.XL.keeps (by rfl) (by rfl) (by rfl) (λs e=>PySem.W.recFacts_of (Bool.and_eq_true_iff.mp e).2) (by rfl) (by first |assumption |decide+kernel) (by decide+kernel) ⟨rfl,rfl,rfl,rfl,rfl,by decide+kernel⟩ ?hw ?hc;(case hl=>(intro w;exact K50.whole w))))
set_option maxRecDepth 100000 in
set_option maxHeartbeats 0 in
theorem PySem.Challenge.cw_bandscribe_k50_whole_read_again_holds : PySem.Challenge.rw_bandscribe_k50_whole_read_again.Holds := by
 w_on;o_law;o_head (PySem.W.kHook K50.pre.heap_39 K50.addrs (λ_=>by kernel_rfl));(case hw=>w_witness2)
 k_fill
 refine K50.walk (l:=PySem.Challenge.rw_bandscribe_k50_whole_read_again) rfl rfl (λw h Y=>PySem.W.kIn_of Y) ?F
 case F=>
  intro w mg fa h X G hmg;obtain⟨_,DL⟩:=K50.gT "is_whole" (K50.top 16) ["thing"] X G;obtain⟨_,uc⟩:=K50.gT "steps_by_word" (K50.top 18) ["writer"] X G;obtain⟨_,zV⟩:=K50.gT "desks_into" (K50.top 19) ["pairs","ends"] X G;obtain⟨_,BI⟩:=K50.gT "all_among" (K50.top 23) ["text","signs"] X G;obtain⟨_,BJ⟩:=K50.gT "are_signs" (K50.top 24) ["thing"] X G;obtain⟨_,Gw⟩:=K50.gT "is_word" (K50.top 25) ["thing","signs"] X G;obtain⟨_,wy⟩:=K50.gT "check_barred" (K50.top 26) ["barred","signs"] X G;obtain⟨_,wA⟩:=K50.gT "bears_barred" (K50.top 27) ["row","barred"] X G;obtain⟨_,ud⟩:=K50.gT "sorted_places" (K50.top 28) ["barred"] X G;obtain⟨_,xD⟩:=K50.gT "longest_end" (K50.top 29) ["row","places"] X G;obtain⟨_,zW⟩:=K50.gT "moves_from" (K50.top 30) ["place","signs","barred","places"] X G;obtain⟨_,zX⟩:=K50.gT "leads_into" (K50.top 31) ["ends","lot"] X G;obtain⟨_,zY⟩:=K50.gT "live_among" (K50.top 32) ["moves"] X G;obtain⟨_,DM⟩:=K50.gT "all_rows" (K50.top 35) ["band","wide"] X G;obtain⟨_,Gx⟩:=K50.gT "is_rate" (K50.top 36) ["band","many","wide"] X G;obtain⟨_,zZ⟩:=K50.gT "check_rate" (K50.top 37) ["band","many","wide"] X G;obtain⟨_,xE⟩:=K50.gT "longer_rows" (K50.top 38) ["band","rows"] X G;obtain⟨_,xF⟩:=K50.gT "blocks_from" (K50.top 39) ["band","place","wide"] X G;obtain⟨_,BK⟩:=K50.gT "ends_from" (K50.top 41) ["band","place"] X G;obtain⟨_,DN⟩:=K50.gT "all_ends" (K50.top 42) ["band"] X G;obtain⟨_,wB⟩:=K50.gT "counts_up_to" (K50.top 43) ["band","length"] X G;obtain⟨_,A0⟩:=K50.gT "count_from" (K50.top 44) ["band","place","length"] X G;obtain⟨_,LR⟩:=K50.gT "count" (K50.top 45) ["band","length"] X G;obtain⟨_,A4⟩:=K50.gT "block_ends" (K50.top 47) ["band","wide"] X G;obtain⟨_,BL⟩:=K50.gT "weight_of" (K50.top 48) ["places","weights"] X G;obtain⟨_,Gy⟩:=K50.gT "lowered" (K50.top 49) ["ends","many","weights"] X G;obtain⟨_,DP⟩:=K50.gT "greatest" (K50.top 50) ["band","many","wide","most"] X G;obtain⟨_,JM⟩:=K50.gT "scarce" (K50.top 51) ["band","many","wide","most"] X G;obtain⟨_,wC⟩:=K50.gT "copied_steps" (K50.top 53) ["line"] X G;obtain⟨_,xG⟩:=K50.gT "first_sheet" (K50.top 55) ["band","many","wide","weights"] X G;obtain⟨_,wD⟩:=K50.gT "is_number_of" (K50.top 56) ["number","things"] X G;obtain⟨_,A5⟩:=K50.gT "check_part" (K50.top 57) ["sheet","many","steps","weight"] X G;obtain⟨_,A6⟩:=K50.gT "with_twins" (K50.top 58) ["line","desk","twin"] X G;obtain⟨_,LU⟩:=K50.gT "split" (K50.top 59) ["sheet","many","desk","numbers","weight"] X G;obtain⟨_,wF⟩:=K50.gT "copied_sheet" (K50.top 64) ["sheet"] X G;obtain⟨_,pC⟩:=K50.gT "check_not_scarce" (K50.top 66) ["band","many","wide"] X G;obtain⟨_,kj⟩:=K50.gT "weights_of_least_most" (K50.top 67) ["band","many","wide"] X G;obtain⟨_,wG⟩:=K50.gT "reached_from" (K50.top 68) ["sheet","desk"] X G;obtain⟨_,sx⟩:=K50.gT "closed_weights" (K50.top 69) ["band","many","wide","weights"] X G;obtain⟨_,A7⟩:=K50.gT "steps_into" (K50.top 70) ["line","desks"] X G;obtain⟨_,A8⟩:=K50.gT "kept_desks" (K50.top 71) ["sheet","many"] X G;obtain⟨_,BM⟩:=K50.gT "step_down" (K50.top 72) ["sheet"] X G;obtain⟨_,JN⟩:=K50.gT "run_by" (K50.top 73) ["weights","numbers","many"] X G;obtain⟨_,A9⟩:=K50.gT "next_split" (K50.top 74) ["sheet","many"] X G;obtain⟨_,Gz⟩:=K50.gT "plan_of" (K50.top 75) ["band","many","wide"] X G;obtain⟨_,ue⟩:=K50.gT "blocks_behind" (K50.top 77) ["band","wide"] X G;obtain⟨_,lO⟩:=K50.gT "steps_by_new_numbers" (K50.top 78) ["line","kept","many"] X G;obtain⟨_,Aa⟩:=K50.gT "check_data" (K50.top 79) ["data","many"] X G;obtain⟨_,JO⟩:=K50.gT "walked" (K50.top 80) ["lines","desk","data"] X G;obtain⟨_,BO⟩:=K50.gT "_law_here" (K50.top 83) ["_law_script","_law_place"] X G;obtain⟨_,xH⟩:=K50.gT "_law_shaken" (K50.top 84) ["_law_cell","_law_many"] X G;obtain⟨_,BP⟩:=K50.gT "_law_band" (K50.top 85) ["_law_script"] X G;obtain⟨_,BQ⟩:=K50.gT "_law_rate" (K50.top 86) ["_law_script","_law_signs"] X G;obtain⟨_,BR⟩:=K50.gT "_law_told" (K50.top 87) ["_law_signs","_law_words","_law_many","_law_wide"] X G;obtain⟨_,BU⟩:=K50.gT "_law_same" (K50.top 88) ["_law_found","_law_data"] X G;have fo:=K50.RA "Reader" X G;have gv:=K50.RA "Band" X G;have qV:=K50.RA "Sheet" X G;have sy:=K50.RA "Plan" X G;have dI:=K50.RA "Writer" X G;obtain⟨_,gw⟩:=K50.rj fo "__init__" "Reader.__init__" (L2.inClass (K50.top 20) 0) ["self","writer"];obtain⟨_,jl⟩:=K50.rj fo "blocks_in_window" "Reader.blocks_in_window" (L2.inClass (K50.top 20) 1) ["self"];obtain⟨_,kl⟩:=K50.rj fo "desks_ahead_of" "Reader.desks_ahead_of" (L2.inClass (K50.top 20) 2) ["self","row"];obtain⟨_,mm⟩:=K50.rj fo "word_fitting" "Reader.word_fitting" (L2.inClass (K50.top 20) 3) ["self","window"];obtain⟨_,qW⟩:=K50.rj fo "words_in" "Reader.words_in" (L2.inClass (K50.top 20) 5) ["self","length"];obtain⟨_,xI⟩:=K50.rj fo "read" "Reader.read" (L2.inClass (K50.top 20) 6) ["self","row"];obtain⟨_,iH⟩:=K50.rj gv "__init__" "Band.__init__" (L2.inClass (K50.top 33) 0) ["self","signs","barred"];obtain⟨_,sA⟩:=K50.rj gv "check_row" "Band.check_row" (L2.inClass (K50.top 33) 1) ["self","row"];obtain⟨_,pD⟩:=K50.rj gv "check_place" "Band.check_place" (L2.inClass (K50.top 33) 2) ["self","place"];obtain⟨_,qX⟩:=K50.rj gv "check_live" "Band.check_live" (L2.inClass (K50.top 33) 3) ["self","place"];obtain⟨_,wH⟩:=K50.rj gv "is_good" "Band.is_good" (L2.inClass (K50.top 33) 4) ["self","row"];obtain⟨_,xJ⟩:=K50.rj gv "places" "Band.places" (L2.inClass (K50.top 33) 5) ["self"];obtain⟨_,BV⟩:=K50.rj gv "live" "Band.live" (L2.inClass (K50.top 33) 6) ["self"];obtain⟨_,uf⟩:=K50.rj gv "place_of" "Band.place_of" (L2.inClass (K50.top 33) 7) ["self","row"];obtain⟨_,DQ⟩:=K50.rj gv "led" "Band.led" (L2.inClass (K50.top 33) 8) ["self","place","sign"];obtain⟨_,wI⟩:=K50.rj gv "longest" "Band.longest" (L2.inClass (K50.top 33) 9) ["self"];obtain⟨_,gU⟩:=K50.rj qV "__init__" "Sheet.__init__" (L2.inClass (K50.top 54) 0) ["self","homes","weights","lines"];obtain⟨_,iI⟩:=K50.rj sy "__init__" "Plan.__init__" (L2.inClass (K50.top 65) 0) ["self","weights","splits","kept","last"];obtain⟨_,Ab⟩:=K50.rj sy "sheet" "Plan.sheet" (L2.inClass (K50.top 65) 1) ["self"];obtain⟨_,gx⟩:=K50.rj dI "__init__" "Writer.__init__" (L2.inClass (K50.top 81) 0) ["self","band","many","wide"];obtain⟨_,ug⟩:=K50.rj dI "behind" "Writer.behind" (L2.inClass (K50.top 81) 1) ["self"];obtain⟨_,wJ⟩:=K50.rj dI "ahead" "Writer.ahead" (L2.inClass (K50.top 81) 2) ["self"];obtain⟨_,wK⟩:=K50.rj dI "start" "Writer.start" (L2.inClass (K50.top 81) 3) ["self"];obtain⟨_,xK⟩:=K50.rj dI "lead" "Writer.lead" (L2.inClass (K50.top 81) 4) ["self"];obtain⟨_,wL⟩:=K50.rj dI "desks" "Writer.desks" (L2.inClass (K50.top 81) 5) ["self"];obtain⟨_,qY⟩:=K50.rj dI "place_at" "Writer.place_at" (L2.inClass (K50.top 81) 6) ["self","desk"];obtain⟨_,wM⟩:=K50.rj dI "steps" "Writer.steps" (L2.inClass (K50.top 81) 7) ["self","desk"];obtain⟨_,wN⟩:=K50.rj dI "write" "Writer.write" (L2.inClass (K50.top 81) 8) ["self","data"];have B:=K50.beA X G;have sC:=K50.VI "NoSplit" X G B.2.1;have qZ:=K50.VI "Scarce" X G B.2.1;obtain⟨_,qN,qO,JP,JQ⟩:=K50.xiA qZ.2.2 "Scarce.__init__" (L2.inClass (K50.top 12) 0) ["self","length","rows"] "__init__";have DR:=K50.VI "Open" X G B.2.1;exact K50.VJ _ w fa hmg X G {T:=⟨K50.nz X G,K50.nz X G,K50.nz X G,K50.nz X G,K50.nz X G,K50.nz X G,K50.nz X G,K50.nz X G,K50.nz X G,K50.nz X G,K50.nz X G,K50.nz X G,K50.nz X G,K50.nz X G,K50.nz X G,K50.nz X G,K50.nz X G⟩,j9:=DL,ir:=uc,lz:=zV,jv:=BI,mM:=BJ,rS:=Gw,ja:=wy,eR:=wA,iu:=ud,jE:=xD,lA:=zW,lB:=zX,lD:=zY,p9:=DM,rT:=Gx,eX:=zZ,jF:=xE,hF:=xF,mW:=BK,pd:=DN,fX:=wB,lE:=A0,zC:=LR,lF:=A4,mZ:=BL,rV:=Gy,pf:=DP,vY:=JM,jd:=wC,hH:=xG,fY:=wD,da:=A5,lG:=A6,qy:=LU,fZ:=wF,cS:=pC,bL:=kj,jg:=wG,gP:=sx,iN:=A7,iO:=A8,ni:=BM,vZ:=JN,lI:=A9,k9:=Gz,iz:=ue,dX:=lO,lJ:=Aa,qL:=JO,fK:=BO,hO:=xH,nC:=BP,nD:=BQ,nE:=BR,fL:=BU,gb:=gw,c9:=jl,cE:=kl,cW:=mm,eG:=qW,bP:=xI,iA:=iH,bM:=sA,ck:=pD,eI:=qX,gf:=wH,hU:=xJ,dM:=BV,fu:=uf,gQ:=DQ,gg:=wI,dG:=gU,iB:=iI,iP:=Ab,gi:=gx,bB:=ug,cz:=wJ,w6:=wK,eA:=xK,cA:=wL,eJ:=qY,dH:=wM,cB:=wN,Br:=fo.g,av:=⟨fo.c,K50.na,K50.na⟩,yJ:=⟨fo.mi,gw.m.1,gw.m.2,fo.kp⟩,Jb:=gv.g,aI:=⟨gv.c,K50.na,K50.na,K50.na,K50.na⟩,Ey:=⟨gv.mi,iH.m.1,iH.m.2,gv.kp⟩,uB:=qV.g,az:=⟨qV.c,K50.na,K50.na,K50.na⟩,qM:=⟨qV.mi,gU.m.1,gU.m.2,qV.kp⟩,Jc:=sy.g,dq:=⟨sy.c,K50.na,K50.na,K50.na,K50.na⟩,Ez:=⟨sy.mi,iI.m.1,iI.m.2,sy.kp⟩,Bt:=dI.g,ai:=⟨dI.c,K50.na,K50.na,K50.na,K50.na,K50.na,K50.na,K50.na,K50.na⟩,yK:=⟨dI.mi,gx.m.1,gx.m.2,dI.kp⟩,tS:=B.1,XT:=B.2.1,XB:=B.2.2,iV:=sC.1,iW:=sC.2.1,G4:=sC.2.2,gR:=by k_is,w9:=qZ.1,ic:=qZ.2.1,Jd:=qZ.2.2,qN:=qN,qO:=qO,yL:=JP,yM:=JQ,m9:=K50.na,oG:=K50.na,zD:=DR.1,we:=DR.2.1,O3:=DR.2.2,zE:=by k_is,nG:=⟨_,mg_of X G (by k_is)⟩,nH:=⟨_,mg_of X G (by k_is)⟩,gC:=⟨_,mg_of X G (by k_is)⟩,known:=K50.knA X G,..}
#print axioms PySem.Challenge.cw_bandscribe_k50_whole_read_again_holds
