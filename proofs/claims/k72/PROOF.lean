import PyProof.Rows.All
import KE.KDictOf
import KE.KIsAll
import KE.KFromBytes
import KE.KDictSum
import KE.KEqDict
import KE.LcSums
import KE.KItem
import Lean
import PyProof.EqAt
import PyProof.EqKinds
import PyProof.TupleCall
import PyProof.Rows.SortStr
import PyProof.StrLawsReplace
import PyProof.StrLawsIdx
import PyProof.StrLawsIn
import PyProof.StrBlockI
import PyProof.StrBlockL
import PyProof.SliceList
import PyProof.InstStoreFacts
import PyProof.NsDelKeeps
import PyProof.StationsW
import PyProof.ExcArgs
import PyProof.ExcBaseAll.ValueError
import PyProof.StrCalls
import PyProof.ListRange
import PyProof.EnumMake
import PyProof.Draws
import PyProof.FactsAll.dict
import PyProof.StrBlock2
import PyProof.Rows.SumAny
import PyProof.NeKinds
import PyProof.Rows.MinMaxN
import PyProof.Rows.Range3
import PyProof.StrLawsFirst
import PyProof.AttrMissHeap
import PyProof.Rows.CallKwBuiltin
import KE.KMinKey
import PyProof.FString2
import KE.KDictLaws
import KE.KRevIter
import PyProof.DictItems
import PySem.Challenge.RW_bandscribe_k72_whole_numbers_of_what_is
set_option genInjectivity false
set_option genSizeOfSpec false
open List renaming length_map→wa0,getElem?_eq_getElem→wa1,getD_eq_getElem?_getD→wa3,getElem?_map→wa4,getElem?_eq_some_iff→wa5,length_append→wa7,mem_of_getElem?→wa8,mem_map→waa,mem_cons_of_mem→wac,mem_cons_self→wad,map_map→waf,replicate→wah,length_take→wak,map_append→wal,mem_singleton→wan,map_cons→wao,getElem?_append_right→waq,mem_filter→wau,size_toArray→waz,getElem?_append_left→waB,mem_append→waC,mem_cons→waD,getElem_mem→waE,length_cons→waF,take_length→waG,mem_append_right→waH,range→waI,length_replicate→waM,length_range→waO,append_assoc→waP,all_eq_true→waR,take_add_one→waS,append_nil→waW,filter_cons_of_pos→waX,map_congr_left→waY,sum_cons→waZ,mem_append_left→wb0,mem_range→wb3,filterMap_cons→wb5,filter_eq_self→wb6,length_filter_le→wbe,filter_cons_of_neg→wbf,take_sublist→wbg,length_drop→wbm,getElem_of_mem→wbp,not_mem_nil→wbu,take_of_length_le→wbv,drop_eq_getElem_cons→wbw,eq_nil_of_length_eq_zero→wbx,idxOf_lt_length_iff→wbC,nodup_cons→wbF,filter_append→wbG,getElem_inj→wbI,drop_eq_nil_of_le→wbN,mem_flatMap→wbW,count_pos_iff→wbY,flatten_cons→wbZ,flatMap_cons→wc0,length_pos_iff→wc3,length_set→wcg,replicate_succ→wcn,any_eq_true→wco,mem_replicate→wct,take_append_drop→wcu,length_singleton→wcx,map→wcA,getElem?_set_ne→wcD,mem_or_eq_of_mem_set→wcG,mem_of_mem_take→wcH,any_cons→wcU,map_take→wcW,mem_filterMap→wd0,find?_cons→wd2,getElem_idxOf→wd8,getElem?_set_self→wdb,nodup_nil→wdf,getElem?_eq_none→wdg,dropLast_concat_getLast→wdi,lookup_cons→wdn,mem_iff_getElem→wdq,getElem_toArray→wdr,length→wdu,filter_sublist→wdv,foldl_cons→wdw,range_succ→wdx,filter_map→wdz,getElem?_take_of_lt→wdG,prefix_append→wdO,length_filterMap_le→wdP,map_id'→wdQ,drop_zero→wdW,foldl_append→we1,drop_of_length_le→we2,map_drop→we5,getElem?_toArray→wei,map_nil→weq,any_map→wes,nil_append→weu,drop_append_of_le_length→weB,toList_toArray→weE,all_cons→weT,nodup_append→wf3,getElem_take→wf4,filter_congr→wf5,extract_eq_take_drop→wf9,getElem?_eq_none_iff→wfb,pairwise_iff_getElem→wfc,all_map→wfm,suffix_refl→wfo,take_prefix→wfp,nodup_range→wft,length_eq_zero_iff→wfx,of_mem_zip→wfI,length_nil→wfJ,lookup→wfO,range'→wfW,eq_nil_or_concat→wg9,singleton_append→wga,take_zero→wgb,filterMap_append→wgc,idxOf_cons_self→wgp,flatMap_append→wgz,map_eq_nil_iff→wgA,contains_cons→wgQ,any_eq_false→wgS,ext_getElem?→wgX,mem_range'_1→wgY,map_dropLast→wgZ,drop_sublist→wh0,append_inj'→whe,range'_succ→whf,drop_append→whh,foldl→whk,idxOf_cons→whr,sum_append→whs,append_inj→wht,drop_take→whx
open PySem.W renaming Frag→wa2,findIn→wbd,kia_one→wbE,emptyDict→wbR,recOk→wc7,xlAt→wcc,instObj→wcd,fnOf→wcf,callWith_K→wcp,keepIn→wcK,boot_heap→wcX,codeIn→wdU,looks_clsIn→wdZ,plainGet→we9,methodCall_KW→wee,hasDictIn→wen,OpenLaw→weA,plainGet_of→weC,lookIn→weI,looks_findIn→weJ,specialIn→weQ,methodObj→weY,set_plain→weZ,isFn→wff,takerIn→wfG,cellsFrom_some→wfP,plainOver→wg2,SharedT→wg3,kdl_values→wgN,kitx_list→wgU,kitx_dict→wgV,boot_o_0→wh8,handedIn→wh9,kdl_dict→whc,kdl_call→whd,WalkO→whi,makesIn→whj,KeqHits→whp,kitOne→whv
open PySem renaming wpAny_bind→wa6,Program→wap,wpAny_pure→wax,mainGlobals→waK,bootBuiltins→waQ,FuncData→waT,wpAny_mono→wb1,compareOp→wb4,wpAny_loadPart_at→wb8,wpAny_holding→wbj,codeAny_builtin→wbk,wpAny_truthy_bool→wbq,excClassObj→wbr,wpAny_Call_Name_kw→wbt,importedModules→wbD,strKind→wbK,plainId_quiet→wbL,wpAny_tryCatch→wbO,foldedSetIterable→wbQ,wpAny_isSubtype_exc→wbS,OsState→wbT,swapsWith→wc1,sizeLine_eq→wc5,codeAny_mono→wc6,wpAny_execs_nil→wce,lookup_relabel_local→wch,mem_of_lookup→wcm,wpAny_passesOwn→wcv,cLine→wcw,attributeBase→wcy,wpAny_pyIter_list→wcB,wpAny_pyIter_enum→wcC,codeAny_call_builtin→wcF,keywordEach→wcJ,wpAny_seqItems→wcL,wpAny_execs_cons→wcM,Result→wcN,plainObj_wpAny_Assign_Attribute→wcP,wpAny_getItem_str_slice→wcR,behindInMarks→wcT,sysModules→wcY,Scope→wcZ,wpAny_call→wd1,wpAny_updateSeq→wd6,wpAny_letGo→wdc,GenState→wdk,assignEach→wdl,wpAny_standAt→wds,wpAny_letOwnedTupleGo_enum→wdt,Within→wdE,tupleKind_room_in1→wdI,scanBound→wdL,Builtin→wdS,Keyword→wdT,boot_len→wdX,wpAny_Assign_Name→wdY,wpAny_field→we3,NameKind→wea,checkBuiltinCall→web,getMethod→wed,seqItems?→weg,codeAny_handlers_test→wej,letOwnedTupleGo→wel,call_meets→wep,post_val_or_str→wer,wpAny_handleBy_cons→weH,wpAny_setField→weK,slicePick→weN,slot_list_getitem→wf0,wpAny_newObj_type→wf2,typeLookup→wf7,wpAny_lookBehind→wfg,pastItsLine_dict→wfh,wpAny_getItem_list_slice→wfj,wpAny_comprehension_free→wfk,wpAny_pyNext_enum_itemD→wfy,treeTable→wfC,tupleKind→wfF,codeAny_of_tree→wfK,setFlight→wfM,subscripted→wfQ,sliceBounds→wfS,wpAny_pyNext_enum_endD→wfX,codeAny_handlers_suite→wg0,wpAny_isTrue_Compare1→wg4,wpAny_loadPart→wg5,weight_type_call_type→wg8,wpAny_loadName_local→wgh,typeIs_str→wgj,PlainAttrs→wgk,excMatches→wgo,wpAny_loadName_cell→wgv,wpAt_of_wpAny→wgy,wpAny_nsSet1→wgG,updateSeq→wgP,seqIndex_of→wh5,intItems_at→wh6,wpAny_of_eq→wh7,call→whl,wpAt_bind→whm
open PySem.Heap renaming get?_push_of_some→wa9,lt_size→wag,get?_push_size→waw,get?_update_other→waL,get?_update_self→wbB,size_push→wbM,SameBut→wfe,get?_update_ne→wgw
open Nat renaming le_refl→wab,le_trans→wai,lt_of_lt_of_le→war,ne_of_lt→wat,zero_le→waJ,lt_irrefl→wb7,lt_of_le_of_lt→wbc,sub_self→wbn,lt_succ_self→wbJ,ne_of_gt→wc4,le_succ→wcb,add_sub_cancel_left→wck,lt_trichotomy→wde,mul_le_mul→wdj,not_lt_zero→wdA,le_of_eq→wdF,lt_succ_of_lt→we0,mul_le_mul_right→wet,zero_add→wev,mul_le_mul_left→weG,lt_or_eq_of_le→weP,le_of_lt→wfd,min_eq_left→wfL,pow_le_pow_right→wgq,add_comm→wgL,lt_succ_of_le→wh3,le_of_not_lt→whb,le_antisymm→whn
open Option.some renaming inj→wae
open PySem.Value renaming ref→waj,none→wbz,type→wek,int→wfD,str→wfE,bool→wgg,isStrOf→wgr,isStrOf_shape→wgu,float→wh4
open Bool renaming false_ne_true→wam,false_eq_true→wbU,and_eq_true→wc9,false_and→wdh,and_false→wdV,true_and→we6,eq_iff_iff→wem,not_true→wgt,eq_false_iff→wh2
open Sum renaming inr→wav,inl→wbb
open Int renaming toNat_natCast→waA,emod_lt_of_pos→wbi,emod_nonneg→wbl,natCast_add→wci,natCast_mul→wdB,natCast_pow→wdC,le_trans→wdR,zero_add→wey,le_refl→weL,le_of_mul_le_mul_right→weW,pow_succ→wfv,eq_ofNat_of_zero_le→wfz,le_ediv_iff_mul_le→wfY,add_mul→wfZ,mul_ediv_add_emod→wgd,toNat_of_nonneg→wgB,ediv_nonneg→whq
open PySem.F renaming plainAttrs_list→waN,slot_list_append→waV,type_list_append→wb2,plain_min_loop→wbP,called_set→wbV,plain_max_loop→wbX,excBase_ValueError→wc8,slot_list_index→wcS,plainAttrs_str→wdd,slot_dict_values→wdJ,entry_min_loop→we4,entry_max_loop→wec,slot_str_index→wew,called_enumerate→weO,args_list_index_2→wfa,entry_list_index→wfq,type_dict_values→wfu,plainAttrs_dict→wfA,type_list_index→wfB,type_str_index→wg1,slot_str_join→wge,type_str_join→wgf,entry_type_call→wgl,slot_list_pop→wgK
open False renaming elim→waU
open PySem.W.OpenRow renaming toRowW→wb9
open PySem.Around renaming under_plainId→wba,under→wgH,under_plain→wgO
open PySem.W.RowW renaming records→wbh
open PySem.W.OpenLaw renaming row→wbo
open Ne renaming symm→wbs
open PySem.Txt renaming slice→wby,join→wdp,slice_le→wdK
open True renaming intro→wbA
open PySem.Builtin.Str renaming strSliceIndices→wbH,occurrences→wcQ,subAt→wgW
open PyProof.Rows renaming callWith_type1→wc2,envOfC→wcO,kws_cons→weh,callWith_builtin1→weo,kws_nil→wex,int_text_len_1921→wez,subscriptTail→weS,callWith_kw→wfs,sortedS→wfw,subscriptTail_builtinR→wfR,Subscript_→wgi,kmk_tree→whu
open Array renaming getElem?_toList→wca,length_toList→wcl,getD_eq_getD_getElem?→wcq,toArray_toList→wdo,getElem?_eq_some_iff→weV,toList_inj→wfn,getElem?_eq_none→wfU,toList_extract→wgn
open PySem.Str renaming ofString→wcj,length→wdm,empty→why
open PyProof.Rows.F renaming plain_set_update_loop→wcr,entry_set_update_loop→wdM
open PySem.Builtin.Builtins renaming bindParams→wcs
open PySem.NameKind renaming free→wcz,cell→weU
open PySem.Obj renaming mapSeq→wcE,mapFields→wcV,data_mapFields→wd5,isFreed_of_fields→wef
open Prod.mk renaming inj→wcI
open Or renaming inl→wd3
open ForInStep renaming yield→wd4
open PySem.PassesOwn renaming never→wd7,leaving→wh1
open Option renaming map_eq_some_iff→wd9,isSome_map→wf1,isSome_iff_exists→wfi,getD_some→wfl
open Sum.inr renaming inj→wda
open Classical renaming byContradiction→wdy,choose→whg
open Eq renaming trans→wdD
open PySem.Builtin.List renaming listTooLong→wdH
open PySem.Code renaming quiet_builtin→wdN,isFrame→wgI
open List.cons renaming inj→we7
open Prod renaming ext→we8
open PySem.Calls renaming call_len_list→weD,Name_function_global→weR,callWith_builtin→wfT,Constant_str→wgE
open PySem.Heap.SameBut renaming update→weF
open PySem.W.Looks renaming here→weM
open PySem.MeetsSeq3 renaming plain_eq_loop→weX
open List.Sublist renaming refl→wf6
open PySem.Walks renaming list→wf8
open PySem.SeqAt renaming list_indexAt→wfr
open PySem.Within renaming cons→wfH
open PySem.Data renaming fields→wfN,cell→wgF
open PySem.StrLaws renaming sliceText_from→wfV,sliceText_to→wgm
open PySem.SeqAt.EqAt renaming int_int→wg6,str_str→wg7,int_str→wgC,str_int→wgD
open PySem.Paired renaming length→wgs
open PySem.EntryCells renaming newEntry→wgx
open PySem.Heap.IsSliceOf renaming new→wgJ
open Nat.succ renaming inj→wgM
open PySem.Flt renaming mathRow→wgR
open PySem.Heap.Ns1 renaming of_empty→wgT
open PySem.P renaming add_list→wha
open PySem.Builtin.Frozenset renaming updateFrom→whw
open PySem.Shared renaming TypeIs→whz
set_option Elab.async false
set_option linter.all false
set_option maxRecDepth 100000
set_option maxHeartbeats 4000000
namespace Tt
open PySem PySem.W PySem.Calls PyProof.Rows
noncomputable def FZ(tb:String->Option wdS)(p:wap)(w:World)(n₀:Nat)(ann:Option Value):Nat->wg3->Thread->Option wg3
 |0,_,_=>none
 |n+1,s,t=>match through t with
  |true=>some s
  |false=>match stepOk n₀ ann t with
   |false=>none
   |true=>match stepT (denote tb) p w s t with
    |some (s',t')=>FZ tb p w n₀ ann n s' t'
    |none=>none
theorem G0{tb:String->Option wdS}{p:wap}{w:World}{n₀:Nat}{ann:Option Value}:∀{n:Nat} {s s':wg3} {t:Thread},FZ tb p w n₀ ann n s t=some s'->topRun tb p w n₀ ann n s.abs t=some s'.abs
 |0,_,_,_,h=>by cases h
 |n+1,s,s',t,h=>by
  unfold FZ at h;unfold topRun
  cases ht:through t with
  |true=>rw[ht]at h;cases h;rfl
  |false=>
   rw[ht]at h
   cases hk:stepOk n₀ ann t with
   |false=>rw[hk]at h;cases h
   |true=>
    rw[hk]at h
    cases hs:stepT (denote tb) p w s t with
    |none=>rw[hs]at h;cases h
    |some r=>obtain⟨s₂,t₂⟩:=r;rw[hs]at h;rw[stepT_spec hs];exact G0 h
noncomputable def sound(p:wap)(h₀:Heap)(s:wg3):Bool:=staticsOk (wbD p.main.body) h₀ s.abs.heap&&namesBound p s.abs.heap&&gensDone s.abs&&laidKept h₀ s.abs.heap
theorem Jh{p q:wap}{loose:List Str}{Xt:Shared->Bool}{α:Type}{Yf:Shared->α}{Ya:World->α}{N n m₀:Nat}{life:Params->Life}{g0:Bool}{H₀:Params->Heap}{T₀:Params->BT}{Rg:Array wdk}{d₀:Drawn}{k₀:Nat}{ann:Option Value}
 (Om:∀w:World,(fencedOpening wfC p w N).map (λs=>(s.heap,s.gens,s.drawn,s.toks))=some (H₀ w.params,Rg,d₀,k₀))
 (size:∀P:Params,((H₀ P).isNs waK&&Rg.size==0,(H₀ P).objs.size,(H₀ P).nsMap waK "__annotations__")=(true,m₀,ann))
 (tree:∀P:Params,absHeap (T₀ P) n (life P)=H₀ P)
 (run:∀(w:World) (os:wbT),∃s,FZ wfC p w m₀ ann N ⟨T₀ w.params,n,life w.params,Rg,d₀,k₀,os⟩ (topStub p)=some s/\sound p (H₀ w.params) s=true/\openSeen q loose (wbD p.main.body) Xt g0 s.abs=openGood q loose/\Yf s.abs=Ya w):LeftO p q loose Xt Yf Ya N g0:=λw=>by
 obtain⟨⟨h,gs,d,k,os⟩,e,e'⟩:=wd9.mp (Om w);obtain⟨rfl,rfl,rfl,rfl⟩:h=H₀ w.params/\gs=Rg/\d=d₀/\k=k₀:=by simpa using e'
 obtain⟨z1,z2,z3⟩:_/\_/\_:=by simpa only[Prod.mk.injEq] using size w.params
 obtain⟨s,r,l1,l2,l3⟩:=run w os;have r:=G0 r
 have ea:(SharedT.mk (T₀ w.params) n (life w.params) gs d k os).abs=⟨H₀ w.params,gs,d,k,os⟩:=by
  unfold SharedT.abs;rw[tree]
 rw[ea]at r
 have t:topFrom wfC p w N ⟨H₀ w.params,gs,d,k,os⟩=some s.abs:=by
  unfold topFrom;dsimp only;rw[z1,z2,z3,r];show (match sound p (H₀ w.params) s with |true=>_ |false=>_)=_;rw[l1]
 unfold openEnds;rw[e];show (topFrom wfC p w N _).map _=_;rw[t];exact congrArg some (we8 l2 l3)
theorem LY{S A B C:Type}{o:Option S}{f:S->A}{g:S->B}{h:S->C}{a:A}{b:B}{c:C}(x:o.map f=some a)(y:o.map g=some b)(z:o.map h=some c):∃s,o=some s/\f s=a/\g s=b/\h s=c:=by
 cases o with
 |none=>cases x
 |some s=>exact⟨s,rfl,wae x,wae y,wae z⟩
theorem four{S A B C D E F G:Type}{o:Option S}{f:S->A×B×C×D×E×F×G}{a:A×B×C×D×E×F×G}(h1:o.map (λs=>(f s).1)=some a.1)(h2:o.map (λs=>((f s).2.1,(f s).2.2.1))=some (a.2.1,a.2.2.1))(h3:o.map (λs=>((f s).2.2.2.1,(f s).2.2.2.2.1))=some (a.2.2.2.1,a.2.2.2.2.1))(h5:o.map (λs=>(f s).2.2.2.2.2.1)=some a.2.2.2.2.2.1)(h4:o.map (λs=>(f s).2.2.2.2.2.2)=some a.2.2.2.2.2.2):o.map f=some a:=by
 cases o with
 |none=>cases h1
 |some s=>
  have e1:(f s).1=a.1:=wae h1;have e2:((f s).2.1,(f s).2.2.1)=(a.2.1,a.2.2.1):=wae h2;have e3:((f s).2.2.2.1,(f s).2.2.2.2.1)=(a.2.2.2.1,a.2.2.2.2.1):=wae h3;have e5:(f s).2.2.2.2.2.1=a.2.2.2.2.2.1:=wae h5;have e4:(f s).2.2.2.2.2.2=a.2.2.2.2.2.2:=wae h4;exact congrArg some (we8 e1 (we8 (wcI e2).1 (we8 (wcI e2).2 (we8 (wcI e3).1 (we8 (wcI e3).2 (we8 e5 e4))))))
theorem cut(n:Nat){o:Option wg3}{as:List Addr}{v:List (Option Obj)}(h:o.map (λs=>(as.take n).map s.abs.heap.get?)=some (v.take n))(h':o.map (λs=>(as.drop n).map s.abs.heap.get?)=some (v.drop n)):o.map (λs=>as.map s.abs.heap.get?)=some v:=by
 cases o with
 |none=>cases h
 |some s=>
  have h1:(as.take n).map s.abs.heap.get?=v.take n:=wae h;have h2:(as.drop n).map s.abs.heap.get?=v.drop n:=wae h';show some (as.map s.abs.heap.get?)=some v;rw[<-wcu n as,wal,h1,h2,wcu]
end Tt
namespace K72
open PySem PySem.W
noncomputable def tp(i:Nat):Stmt:=PySem.Challenge.pw_bandscribe_k72_whole_numbers_of_what_is.main.body.getD i (.Pass ⟨0,0,0,0⟩)
noncomputable def view:wap:={PySem.Challenge.pw_bandscribe_k72_whole_numbers_of_what_is with main:={PySem.Challenge.pw_bandscribe_k72_whole_numbers_of_what_is.main with body:=[tp 0,tp 2,tp 3,tp 4,tp 5,tp 6,tp 8,tp 9,tp 10,tp 11,tp 12,tp 13,tp 14,tp 15,tp 16,tp 17,tp 18,tp 19,tp 20,tp 22,tp 24,tp 25,tp 26,tp 28,tp 29,tp 30,tp 31,tp 32,tp 33,tp 34,tp 35,tp 36,tp 37,tp 38,tp 39,tp 41,tp 42,tp 43,tp 44,tp 45,tp 47,tp 48,tp 49,tp 50,tp 51,tp 53,tp 54,tp 55,tp 56,tp 57,tp 58,tp 59,tp 61,tp 62,tp 63,tp 64,tp 65,tp 66,tp 67,tp 68,tp 69,tp 70,tp 71,tp 72,tp 73,tp 74,tp 75,tp 77,tp 78,tp 79,tp 80,tp 81,tp 83,tp 84,tp 85,tp 86,tp 87,tp 88,tp 89,tp 90,tp 91,tp 92]}}
noncomputable def tree0(P:Params):BT:=(.node (boot_o_0 P) (.node (boot_o_1 P) (.node (boot_o_3 P) (.node (boot_o_7 P) .nil .nil) .nil) (.node (boot_o_5 P) (.node (boot_o_9 P) .nil .nil) .nil)) (.node (boot_o_2 P) (.node (boot_o_4 P) (.node (boot_o_8 P) .nil .nil) .nil) (.node (boot_o_6 P) (.node (boot_o_10 P) .nil .nil) .nil)))
noncomputable def run(w:World)(os:wbT):Option wg3:=(Tt.FZ wfC PySem.Challenge.pw_bandscribe_k72_whole_numbers_of_what_is w 11 (some (waj 6)) 8100 ⟨tree0 w.params,11,(wcX w.params).life,Array.mk [],boot_drawn,boot_toks,os⟩ (topStub PySem.Challenge.pw_bandscribe_k72_whole_numbers_of_what_is))
noncomputable def lhsS(w:World)(os:wbT):=(run w os).map (λs=>Tt.sound PySem.Challenge.pw_bandscribe_k72_whole_numbers_of_what_is (wcX w.params) s)
noncomputable def lhsA1(w:World)(os:wbT):=(run w os).map (λs=>(openSeen view [] (wbD PySem.Challenge.pw_bandscribe_k72_whole_numbers_of_what_is.main.body) (λs=>wcc view [] s&&wc7 (wbh (wb9 (wbo PySem.Challenge.rw_bandscribe_k72_whole_numbers_of_what_is))) s) true s.abs).1)
noncomputable def lhsA2(w:World)(os:wbT):=(run w os).map (λs=>((openSeen view [] (wbD PySem.Challenge.pw_bandscribe_k72_whole_numbers_of_what_is.main.body) (λs=>wcc view [] s&&wc7 (wbh (wb9 (wbo PySem.Challenge.rw_bandscribe_k72_whole_numbers_of_what_is))) s) true s.abs).2.1,(openSeen view [] (wbD PySem.Challenge.pw_bandscribe_k72_whole_numbers_of_what_is.main.body) (λs=>wcc view [] s&&wc7 (wbh (wb9 (wbo PySem.Challenge.rw_bandscribe_k72_whole_numbers_of_what_is))) s) true s.abs).2.2.1))
noncomputable def lhsA3(w:World)(os:wbT):=(run w os).map (λs=>((openSeen view [] (wbD PySem.Challenge.pw_bandscribe_k72_whole_numbers_of_what_is.main.body) (λs=>wcc view [] s&&wc7 (wbh (wb9 (wbo PySem.Challenge.rw_bandscribe_k72_whole_numbers_of_what_is))) s) true s.abs).2.2.2.1,(openSeen view [] (wbD PySem.Challenge.pw_bandscribe_k72_whole_numbers_of_what_is.main.body) (λs=>wcc view [] s&&wc7 (wbh (wb9 (wbo PySem.Challenge.rw_bandscribe_k72_whole_numbers_of_what_is))) s) true s.abs).2.2.2.2.1))
noncomputable def lhsA5(w:World)(os:wbT):=(run w os).map (λs=>(openSeen view [] (wbD PySem.Challenge.pw_bandscribe_k72_whole_numbers_of_what_is.main.body) (λs=>wcc view [] s&&wc7 (wbh (wb9 (wbo PySem.Challenge.rw_bandscribe_k72_whole_numbers_of_what_is))) s) true s.abs).2.2.2.2.2.1)
noncomputable def lhsA4(w:World)(os:wbT):=(run w os).map (λs=>(openSeen view [] (wbD PySem.Challenge.pw_bandscribe_k72_whole_numbers_of_what_is.main.body) (λs=>wcc view [] s&&wc7 (wbh (wb9 (wbo PySem.Challenge.rw_bandscribe_k72_whole_numbers_of_what_is))) s) true s.abs).2.2.2.2.2.2)
noncomputable def lhsB(as:List Addr)(w:World)(os:wbT):=(run w os).map (λs=>as.map s.abs.heap.get?)
end K72
noncomputable def PySem.W.Fast.tw14598715356260435866:=wh8
theorem PySem.W.Fast.te14598715356260435866:wh8=PySem.W.Fast.tw14598715356260435866:=rfl
noncomputable def PySem.W.Fast.tw2907535499146689303:=PySem.Challenge.pw_bandscribe_k72_whole_numbers_of_what_is
theorem PySem.W.Fast.te2907535499146689303:PySem.Challenge.pw_bandscribe_k72_whole_numbers_of_what_is=PySem.W.Fast.tw2907535499146689303:=rfl
noncomputable def PySem.W.Fast.tw13899100880601395773:=wgR
theorem PySem.W.Fast.te13899100880601395773:wgR=PySem.W.Fast.tw13899100880601395773:=rfl
lay_quick K72.lhsS K72.lhsA1 K72.lhsA2 K72.lhsA3 K72.lhsA4 K72.lhsA5 K72.lhsB
section
open PySem PySem.W PyProof.Rows
local macro_rules |`(tactic|o_head $H)=>`(tactic|(refine PySem.W.holds_open (q:=K72.view) (loose:=[]) (Xt:=λs=>PySem.W.xlAt K72.view [] s&&PySem.W.recOk (PySem.W.RowW.records (PySem.W.OpenRow.toRowW (PySem.W.OpenLaw.row PySem.Challenge.rw_bandscribe_k72_whole_numbers_of_what_is))) s) (XP:=PySem.W.XL K72.view []) (Yf:=PySem.W.Hook.obs $H) (Ya:=PySem.W.Hook.val $H) (YP:=PySem.W.Hook.says $H) (N:=8100) ?hl (PySem.W.Hook.of $H) (PySem.W.Hook.keeps $H) (λs e=>PySem.W.xl_of s (Bool.and_eq_true_iff.mp e).1) PySem.W.XL.keeps (by rfl) (by rfl) (by rfl) (λs e=>PySem.W.recFacts_of (Bool.and_eq_true_iff.mp e).2) (by rfl) (by first |assumption |decide+kernel) (by decide+kernel) ⟨rfl,rfl,rfl,rfl,rfl,by decide+kernel⟩ ?hw ?hc;(case hl=>(intro w;contradiction))))
theorem K72.pre(h:False):(PySem.Challenge.rw_bandscribe_k72_whole_numbers_of_what_is).Holds:=by
 w_on;o_law;k_head
 all_goals contradiction
end
namespace K72
open PySem PySem.W
noncomputable def addrs:List Addr:=[2,3,15,17,18,20,21,22,25,26,27,29,30,32,33,34,37,38,39,41,42,44,45,46,48,49,51,52,53,60,61,62,63,66,73,74,75,78,85,87,88,90,91,92,93,94,97,104,106,107,109,110,111,112,113,116,123,125,126,128,129,130,131,132,135,142,144,145,147,148,149,150,151,154,161,163,164,166,167,168,169,170,173,180,181,182,185,192,193,194,197,204,205,206,209,216,218,219,221,222,223,224,225,228,235,236,237,240,247,249,250,252,253,254,255,256,259,261,262,264,265,266,268,269,271,272,273,275,276,278,279,280,283,284,285,288,289,290,292,293,295,296,297,299,300,302,303,304,306,307,309,310,311,314,315,316,318,319,321,322,323,325,326,328,329,330,332,333,335,336,337,340,341,342,345,346,354,356,357,359,360,361,363,364,366,367,368,370,371,373,374,375,377,378,380,381,382,384,385,387,388,389,391,392,394,395,396,398,399,401,402,403,405,406,408,409,410,412,413,415,416,417,420,421,422,423,424,425,426,429,431,432,434,435,436,438,439,441,442,443,445,446,448,449,450,452,453,455,456,457,460,461,462,465,466,467,470,471,472,474,475,477,478,479,481,482,484,485,486,488,489,491,492,493,496,497,505,508,509,510,511,512,513,514,517,520,521,522,524,525,527,528,529,532,533,534,536,537,539,540,541,544,545,546,548,549,551,552,560,563,564,565,567,568,570,571,572,573,574,575,576,579,581,582,584,585,586,588,589,591,592,593,595,596,598,599,600,603,604,605,608,609,610,613,614,615,617,618,620,621,622,624,625,627,628,629,632,633,634,636,637,639,640,641,643,644,646,647,648,651,652,653,655,656,658,659,660,662,663,665,666,674,677,678,679,681,682,684,685,686,688,689,691,692,693,695,696,698,699,700,702,703,705,706,707,709,710,712,713,714,716,717,719,720,721,724,725,726,728,729,731,732,733,735,736,738,739,740,741,742,743,744,747,749,750,752,753,754,756,757,759,760,761,764,765,766,768,769,771,772,773,775,776,778,779,780,783,784,790,793,794,795,797,798,800,801,802,805,806]
open PyProof.Rows in
theorem pS(w:World)(os:wbT):lhsS w os=some true:=wdD (congrFun (congrFun PySem.W.Fast.te12363314461583800390 w) os) (by kernel_rfl)
open PyProof.Rows in
theorem Xq(w:World)(os:wbT):lhsA5 w os=some (plainGoodE view (looseW view [])):=wdD (congrFun (congrFun PySem.W.Fast.te17391333469070242643 w) os) (by kernel_rfl)
open PyProof.Rows in
theorem Xr(w:World)(os:wbT):lhsA3 w os=some (true,pinGoodD (drecsOf view)):=wdD (congrFun (congrFun PySem.W.Fast.te360119380082378209 w) os) (by kernel_rfl)
open PyProof.Rows in
theorem Xs(w:World)(os:wbT):lhsA4 w os=some (plainGoodD view [],wideGood view,clsGoodW view []):=wdD (congrFun (congrFun PySem.W.Fast.te5525525125371506612 w) os) (by kernel_rfl)
open PyProof.Rows in
theorem Xu(w:World)(os:wbT):lhsA1 w os=some (expectedOf view):=wdD (congrFun (congrFun PySem.W.Fast.te6887727871085409703 w) os) (by kernel_rfl)
open PyProof.Rows in
theorem Xv(w:World)(os:wbT):lhsA2 w os=some (bltViewBooted,true):=wdD (congrFun (congrFun PySem.W.Fast.te6828347155537221171 w) os) (by kernel_rfl)
theorem Xw(w:World)(os:wbT):lhsB (K72.addrs.take 160) w os=some (((K72.pre.heap_39 w.params).map λp=>some p.2).take 160):=wdD (congrFun (congrFun (congrFun PySem.W.Fast.te7558766029528067517 _) w) os) (by kernel_rfl)
theorem Xx(w:World)(os:wbT):lhsB (K72.addrs.drop 160) w os=some (((K72.pre.heap_39 w.params).map λp=>some p.2).drop 160):=wdD (congrFun (congrFun (congrFun PySem.W.Fast.te7558766029528067517 _) w) os) (by kernel_rfl)
theorem op:opening PySem.Challenge.pw_bandscribe_k72_whole_numbers_of_what_is=plainProg PySem.Challenge.pw_bandscribe_k72_whole_numbers_of_what_is.main.scope.names:=by kernel_rfl
theorem fe(s:Shared):fenceModules? PySem.Challenge.pw_bandscribe_k72_whole_numbers_of_what_is s=some s:=by kernel_rfl
theorem tr(P:Params):absHeap (tree0 P) 11 (wcX P).life=wcX P:=by kernel_rfl
theorem sz(P:Params):((wcX P).isNs waK&&(Array.mk []:Array wdk).size==0,(wcX P).objs.size,(wcX P).nsMap waK "__annotations__")=(true,11,(some (waj 6))):=by kernel_rfl
theorem whole:LeftO PySem.Challenge.pw_bandscribe_k72_whole_numbers_of_what_is view [] (λs=>wcc view [] s&&wc7 (wbh (wb9 (wbo PySem.Challenge.rw_bandscribe_k72_whole_numbers_of_what_is))) s) (λs=>K72.addrs.map s.heap.get?) (λw=>((K72.pre.heap_39 w.params).map λp=>some p.2)) 8100:=Tt.Jh (H₀:=wcX) (T₀:=tree0) (life:=λP=>(wcX P).life) (boot_open op (by decide+kernel) fe) sz tr λw os=>Tt.LY (o:=run w os) (f:=λs=>Tt.sound PySem.Challenge.pw_bandscribe_k72_whole_numbers_of_what_is (wcX w.params) s) (g:=λs=>openSeen view [] (wbD PySem.Challenge.pw_bandscribe_k72_whole_numbers_of_what_is.main.body) (λs=>wcc view [] s&&wc7 (wbh (wb9 (wbo PySem.Challenge.rw_bandscribe_k72_whole_numbers_of_what_is))) s) true s.abs) (h:=λs=>K72.addrs.map s.abs.heap.get?) (pS w os) (Tt.four (o:=run w os) (f:=λs=>openSeen view [] (wbD PySem.Challenge.pw_bandscribe_k72_whole_numbers_of_what_is.main.body) (λs=>wcc view [] s&&wc7 (wbh (wb9 (wbo PySem.Challenge.rw_bandscribe_k72_whole_numbers_of_what_is))) s) true s.abs) (a:=openGood view []) (Xu w os) (Xv w os) (Xr w os) (Xq w os) (Xs w os)) (Tt.cut (o:=run w os) 160 (Xw w os) (Xx w os))
end K72
namespace L2
open PySem PySem.Spec PyProof.Rows
noncomputable abbrev Key:=Sum Int Str
noncomputable def wx:Key->Value->Bool
 |.inl k,v=>Value.isInt k v
 |.inr x,v=>wgr x v
noncomputable def RZ(w:World):Key->Int
 |.inl k=>hashInt k
 |.inr x=>hashStr w x
theorem bO:∀{k:Key} {v:Value},wx k v=true->(∃i t,k=wbb i/\v=wfD i t)\/(∃x t,k=wav x/\v=wfE x t)
 |.inl i,v,h=>by
  obtain⟨t,e⟩:=Value.isInt_shape (k:=i) (v:=v) h;exact .inl ⟨i,t,rfl,e⟩
 |.inr x,v,h=>by
  obtain⟨t,e⟩:=wgu (x:=x) (v:=v) h;exact .inr ⟨x,t,rfl,e⟩
theorem Ee(i:Int)(t:Tok):wx (.inl i) (.int i t)=true:=by simp[wx,Value.isInt]
theorem Ef(x:Str)(t:Tok):wx (.inr x) (.str x t)=true:=by simp[wx,wgr]
theorem LZ(a b:Int):decide ((wbb a:Key)=wbb b)=(a==b):=by
 grind
theorem M0(a b:Str):decide ((wav a:Key)=wav b)=decide (a=b):=by simp_all [Key,wda,decide_eq_false]
theorem M1(a:Int)(b:Str):decide ((wbb a:Key)=wav b)=false:=decide_eq_false (λq=>nomatch q)
theorem M3(a:Str)(b:Int):decide ((wav a:Key)=wbb b)=false:=decide_eq_false (λq=>nomatch q)
noncomputable def bq(prog:wap)(w:World):PySem.KeyKind prog w Key where
 is:=wx
 hash:=RZ w
 inj:=λv a b ha hb=>by
  rcases bO ha with⟨i,t,rfl,rfl⟩ |⟨x,t,rfl,rfl⟩
  ·rcases bO hb with⟨j,u,rfl,e⟩ |⟨y,u,rfl,e⟩
   ·injection e with e1 _;rw[e1]
   ·exact nomatch e
  ·rcases bO hb with⟨j,u,rfl,e⟩ |⟨y,u,rfl,e⟩
   ·exact nomatch e
   ·injection e with e1 _;rw[e1]
 byValue:=λk v h=>by
   rcases bO h with⟨i,t,rfl,rfl⟩ |⟨x,t,rfl,rfl⟩<;>rfl
 pyHash:=λhv h=>by
  rcases bO hv with⟨i,t,rfl,rfl⟩ |⟨x,t,rfl,rfl⟩
  ·exact wpAny_pyHash_int h
  ·exact wpAny_pyHash_str h
 eqBool:=λhu hv h=>by
  rcases bO hu with⟨i,t,rfl,rfl⟩ |⟨x,t,rfl,rfl⟩
  ·rcases bO hv with⟨j,u,rfl,rfl⟩ |⟨y,u,rfl,rfl⟩
   ·rw[LZ]at h;exact wpAny_eqBool_int h
   ·rw[M1]at h;exact wgC i t y u _ _ _ _ h
  ·rcases bO hv with⟨j,u,rfl,rfl⟩ |⟨y,u,rfl,rfl⟩
   ·rw[M3]at h;exact wgD x t j u _ _ _ _ h
   ·rw[M0]at h;exact wpAny_eqBool_str h
 «strs»:=λk x t v h=>by
  rcases bO h with⟨i,u,rfl,e⟩ |⟨y,u,rfl,e⟩
  ·exact nomatch e
  ·injection e with e1 _
   subst e1;cases v<;>rfl
theorem zg(prog:wap)(w:World)(i:Int)(t:Tok):(bq prog w).is (.inl i) (.int i t)=true:=Ee i t
theorem zh(prog:wap)(w:World)(x:Str)(t:Tok):(bq prog w).is (.inr x) (.str x t)=true:=Ef x t
set_option genInjectivity true in
inductive V where
 |non |bl (b:Bool) |int (i:Int) |str (x:Str) |byt (b:Array UInt8) |flt (b:UInt64) |ref (a:Addr) |ty (n:String)
 deriving DecidableEq
def RelV:V->Value->Prop
 |.non,u=>u=wbz
 |.bl b,u=>u=wgg b
 |.int i,u=>∃t,u=wfD i t
 |.str x,u=>∃t,u=wfE x t
 |.byt b,u=>∃t,u=Value.bytes b t
 |.flt b,u=>∃t,u=wh4 b t
 |.ref a,u=>u=waj a
 |.ty n,u=>u=wek n
abbrev Vals:List V->List Value->Prop:=Paired RelV
theorem Vals.length{xs:List V}{us:List Value}(r:Vals xs us):xs.length=us.length:=wgs r
theorem Vals.get:∀{xs:List V} {us:List Value} {i:Nat} {x:V},Vals xs us->xs[i]?=some x->∃u,us[i]?=some u/\RelV x u
 |_,_,_,_,.nil,e=>by simp at e
 |_,_,0,_,.cons r _,e=>by simp at e;subst e;exact⟨_,rfl,r⟩
 |_,_,i+1,x,.cons _ t,e=>by
  obtain⟨u,a,b⟩:=Vals.get (i:=i) (x:=x) t (by simpa using e);exact⟨u,by simpa using a,b⟩
theorem Vals.set(r:RelV x u):∀{xs:List V} {us:List Value} (i:Nat),Vals xs us->Vals (xs.set i x) (us.set i u)
 |_,_,_,.nil=>.nil
 |_,_,0,.cons _ t=>.cons r t
 |_,_,i+1,.cons q t=>.cons q (Vals.set r i t)
theorem Vals.append:∀{xs ys:List V} {us ws:List Value},Vals xs us->Vals ys ws->Vals (xs++ys) (us++ws)
 |_,_,_,_,.nil,s=>s
 |_,_,_,_,.cons r t,s=>.cons r (Vals.append t s)
theorem Vals.take:∀{xs:List V} {us:List Value} (n:Nat),Vals xs us->Vals (xs.take n) (us.take n)
 |_,_,0,_=>.nil
 |_,_,_+1,.nil=>.nil
 |_,_,n+1,.cons r t=>.cons r (Vals.take n t)
theorem Vals.drop:∀{xs:List V} {us:List Value} (n:Nat),Vals xs us->Vals (xs.drop n) (us.drop n)
 |_,_,0,r=>r
 |_,_,_+1,.nil=>.nil
 |_,_,n+1,.cons _ t=>Vals.drop n t
def jw:Option V->Option Value->Prop
 |some v,some u=>RelV v u
 |none,none=>True
 |_,_=>False
def KV{κ:Type}:List (κ×V)->List (κ×Value)->Prop:=Paired λ(p:κ×V) (q:κ×Value)=>p.1=q.1/\RelV p.2 q.2
noncomputable def kV:Key->V
 |.inl i=>.int i
 |.inr x=>.str x
set_option genInjectivity true in
inductive HO where
 |lst (xs:List V)
 |tup (xs:List V)
 |dK (kvs:List (Key×V)) |dT (kvs:List (List Key×V))
 |set (S:Int->Bool) (n:Nat)
 |ins (C dx:Addr) (fs:List (Str×V))
 |own (x:Addr)
 |xd (fs:List (Str×V))
 |met (f x:Addr)
 |rng (lo hi:Int)
 |frz (o:Obj) (u:HO)
 |tbl (ps:Array Value)
 |ext (φ:Heap->Prop)
noncomputable abbrev Hp:=Addr->Option HO
noncomputable def upd(H:Hp)(a:Addr)(o:HO):Hp:=λb=>if b=a then some o else H b
theorem a6:upd H a o a=some o:=by unfold upd;rw[if_pos rfl]
theorem ae(h:b≠a):upd H a o b=H b:=by unfold upd;rw[if_neg h]
theorem Dm:upd (upd H a o) a u=upd H a u:=by
 funext b;unfold upd;split<;>rfl
theorem Oo{H:Hp}{a b:Addr}{o u:HO}(h:H a=some o)(h':H b=some u)(d:o≠u):a≠b:=by grind [wae]
theorem af{H:Hp}{a b:Addr}{o:HO}(h:H a=some o)(h':H b=none):a≠b:=by
 grind
section
variable(P:wap)(w:World)
def bP(H:Hp)(h:Heap)(a:Addr):HO->Prop
 |.lst xs=>xs.length<=sizeLine/\∃(its:List Value) (n:Nat),Vals xs its/\h.get? a=some {cls:=.type "list",data:=.seq its.toArray n}
 |.tup xs=>xs.length<=sizeLine/\∃its:List Value,Vals xs its/\IsTup h a its.toArray
 |.dK kvs=>kvs.length<=sizeLine/\(a==wcY)=false/\∃vs,KV kvs vs/\h.DictOf (bq P w) a vs
 |.dT kvs=>kvs.length<=sizeLine/\(a==wcY)=false/\∃xs:List (List Key×Addr×Value),
   Paired (λ(p:List Key×V) (q:List Key×Addr×Value)=>p.1=q.1/\H q.2.1=some (.tup (p.1.map kV))/\RelV p.2 q.2.2) kvs xs /\
   ∃o es ep,h.get? a=some o/\o.ExactDict/\o.data=.dict es ep/\es.toList=xs.map (entryOfKey (wfF (bq P w)))/\(xs.map (·.1)).Nodup
 |.set S n=>h.SetOf (intKind P w) a S n
 |.ins C dx fs=>H dx=some (.own a)/\fs.length<=1000/\dx≠a/\h.get? a=some (wcd C dx) /\
   ∃mA,h.Ns1 dx mA/\(∀f,jw (fs.lookup f) (mA f))/\wdE mA (fs.map (·.1))
 |.own _=>∃o,h.get? a=some o
 |.xd fs=>∃mA,h.Ns1 a mA/\∀f,jw (fs.lookup f) (mA f)
 |.rng lo hi=>∃t u v,h.get? a=some {cls:=.type "range",data:=.fields #[.int lo t,.int hi u,.int 1 v]}
 |.frz o u=>h.get? a=some o/\bP H h a u
 |.tbl ps=>h.get? a=some {cls:=.none,data:=.fields ps}
 |.met f x=>h.get? a=some (weY (.ref f) (.ref x))
 |.ext φ=>φ h/\(∃o,h.get? a=some o)/\∀h1 h2:Heap,φ h1->(∀o,h1.get? a=some o->h2.get? a=some o)->φ h2
def jx(H:Hp)(h:Heap):Prop:=∀a o,H a=some o->bP P w H h a o
end
section
variable{P:wap}{w:World}{H H':Hp}{h h':Heap}{a:Addr}{o:HO}
theorem bP.lt(x:bP P w H h a o):a<h.objs.size:=by
 cases o with
 |lst c=>obtain⟨_,_,_,_,e⟩:=x;exact wag e
 |tup c=>obtain⟨_,_,_,p⟩:=x;exact p.lt
 |dK b=>obtain⟨_,_,_,_,o,_,_,e,_⟩:=x;exact wag e
 |dT b=>obtain⟨_,_,_,_,o,_,_,e,_⟩:=x;exact wag e
 |set S n=>obtain⟨o,_,_,_,e,_⟩:=x;exact wag e
 |ins C d fs=>obtain⟨_,_,_,e,_⟩:=x;exact wag e
 |own y=>obtain⟨_,e⟩:=x;exact wag e
 |xd fs=>obtain⟨_,⟨_,_,_,e,_⟩,_⟩:=x;exact wag e
 |rng lo hi=>obtain⟨_,_,_,e⟩:=x;exact wag e
 |frz ob u=>obtain⟨e,_⟩:=x;exact wag e
 |tbl ps=>exact wag (show h.get? a=some _ from x)
 |met f y=>exact wag (show h.get? a=some _ from x)
 |ext φ=>obtain⟨_,⟨_,e⟩,_⟩:=x;exact wag e
theorem Paired.M4{α β:Type}{F G:α->β->Prop}:∀{g:List α} {j:List β},Paired F g j->(∀a b,F a b->G a b)->Paired G g j
 |_,_,.nil,_=>.nil
 |_,_,.cons r t,f=>.cons (f _ _ r) (Paired.M4 t f)
theorem bP.vF(x:bP P w H h a o)(k:∀b u,(b=a\/H b=some (.own a))->h.get? b=some u->h'.get? b=some u)
 (I:∀b,H b=some (.own a)->H' b=some (.own a)) (J:∀b xs,H b=some (.tup xs)->H' b=some (.tup xs)):bP P w H' h' a o:=by
 induction o with
 |lst xs=>obtain⟨z,j,n,r,e⟩:=x;exact⟨z,j,n,r,k _ _ (.inl rfl) e⟩
 |tup xs=>obtain⟨z,j,r,ob,e,c⟩:=x;exact⟨z,j,r,ob,k _ _ (.inl rfl) e,c⟩
 |dK l=>obtain⟨z,y,A,r,ob,g,i,e,c⟩:=x;exact⟨z,y,A,r,ob,g,i,k _ _ (.inl rfl) e,c⟩
 |dT l=>
  obtain⟨z,y,xs,r,ob,g,i,e,c⟩:=x;exact⟨z,y,xs,Paired.M4 r λp q z=>⟨z.1,J _ _ z.2.1,z.2.2⟩,ob,g,i,k _ _ (.inl rfl) e,c⟩
 |set S n=>obtain⟨ob,g,i,t,e,c⟩:=x;exact⟨ob,g,i,t,k _ _ (.inl rfl) e,c⟩
 |ins C E fs=>
  obtain⟨d,z,ne,e,m,⟨s,g,i,B,c⟩,r⟩:=x;exact⟨I _ d,z,ne,k _ _ (.inl rfl) e,m,⟨s,g,i,k _ _ (.inr d) B,c⟩,r⟩
 |own y=>obtain⟨ob,e⟩:=x;exact⟨ob,k _ _ (.inl rfl) e⟩
 |xd fs=>obtain⟨m,⟨s,g,i,e,c⟩,r⟩:=x;exact⟨m,⟨s,g,i,k _ _ (.inl rfl) e,c⟩,r⟩
 |rng lo hi=>obtain⟨t,u,v,e⟩:=x;exact⟨t,u,v,k _ _ (.inl rfl) e⟩
 |frz ob u D=>obtain⟨e,q⟩:=x;exact⟨k _ _ (.inl rfl) e,D q⟩
 |tbl ps=>
  have e:h.get? a=some {cls:=.none,data:=.fields ps}:=x;show h'.get? a=some {cls:=.none,data:=.fields ps};exact k a _ (.inl rfl) e
 |met f y=>
  have e:h.get? a=some (weY (.ref f) (.ref y)):=x;show h'.get? a=some (weY (.ref f) (.ref y));exact k a _ (.inl rfl) e
 |ext φ=>obtain⟨p,⟨o,e⟩,st⟩:=x;exact⟨st _ _ p λo q=>k _ _ (.inl rfl) q,⟨o,k _ _ (.inl rfl) e⟩,st⟩
theorem jx.lt(x:jx P w H h)(e:H a=some o):a<h.objs.size:=(x a o e).lt
theorem jx.fresh(x:jx P w H h)(e:h.objs.size<=a):H a=none:=by
 cases q:H a with
 |none=>rfl
 |some u=>exact absurd (war (x.lt q) e) (wb7 _)
theorem jx.kept(x:jx P w H h)(k:∀b u,h.get? b=some u->h'.get? b=some u):jx P w H h':=λa o e=>
 (x a o e).vF (λb u _ q=>k b u q) (λ_ q=>q) λ_ _ q=>q
theorem jx.laid(x:jx P w H h)(k:∀b u,h.get? b=some u->h'.get? b=some u)(g:h.objs.size<=a)(new:bP P w (upd H a o) h' a o):jx P w (upd H a o) h':=λb u e=>by
 have hn:=x.fresh g
 by_cases d:b=a
 ·grind [a6]
 ·rw[ae d]at e;exact(x b u e).vF (λc v _ q=>k c v q) (λc q=>by rw[ae (af q hn)];exact q) λc f q=>by rw[ae (af q hn)];exact q
end
def Rd(H:Hp)(a:Addr)(u:HO):Prop:=H a=some u\/∃o,H a=some (.frz o u)
theorem Rd.ok{P:wap}{w:World}{H:Hp}{h:Heap}{a:Addr}{u:HO}(r:Rd H a u)(x:jx P w H h):bP P w H h a u:=by
 rcases r with r |⟨o,r⟩
 ·exact x a u r
 ·obtain⟨_,q⟩:=x a _ r;exact q
def Oq:Option HO->Prop
 |some (.lst _)=>True
 |some (.dK _)=>True
 |some (.dT _)=>True
 |some (.set _ _)=>True
 |some (.ins _ _ _)=>True
 |some (.ext _)=>True
 |_=>False
section
variable{P:wap}{w:World}{H:Hp}{h h':Heap}{x e:Addr}{o':HO}
theorem jx.write(ok:jx P w H h)(g:Oq (H x))(he:e=x\/H e=some (.own x))(k:∀b u,b≠e->h.get? b=some u->h'.get? b=some u)(l:∃u,h'.get? e=some u)
 (new:bP P w (upd H x o') h' x o'):jx P w (upd H x o') h':=λb u q=>by
 have d:∀c y,H c=some (.own y)->c≠x:=λc y r z=>by subst z;rw[r]at g;exact g
 have f:∀c i,H c=some (.tup i)->c≠x:=λc i r z=>by subst z;rw[r]at g;exact g
 by_cases j:b=x
 ·subst j;rw[a6]at q;cases q;exact new
 ·rw[ae j]at q
  by_cases a:b=e
  ·have m:H b=some (.own x):=by
    rcases he with z |z
    ·exact absurd (a.trans z) j
    ·rw[a];exact z
   rw[q]at m;cases m;obtain⟨v,n⟩:=l;exact⟨v,by rw[a];exact n⟩
  ·refine(ok b u q).vF (λc v hc r=>k c v ?_ r) (λc r=>by rw[ae (d c b r)];exact r) λc i r=>by rw[ae (f c i r)];exact r
   rcases hc with rfl |hc
   ·exact a
   ·rintro rfl;rcases he with z |z
    ·exact d c b hc z
    ·rw[hc]at z;cases z;exact j rfl
end
structure Un(fs ex:List Addr)(H H':Hp)(h h':Heap):Prop where
 keep:∀b o,h.get? b=some o->H b=none->b∉fs->b∉ex->h'.get? b=some o
 slot:∀b o,h.get? b=some o->H b=none->b∈fs->b∉ex->∃sl,h'.get? b=some {o with slots:=sl}
 free:∀b o,h.get? b=some o->H b=none->b∉ex->H' b=none
 there:∀b o,h.get? b=some o->b∉ex->∃o',h'.get? b=some o'
 sR:∀b xs,H b=some (.tup xs)->H' b=some (.tup xs)
 rS:∀b o u,H b=some (.frz o u)->H' b=some (.frz o u)
 sS:∀b ps,H b=some (.tbl ps)->∃more,H' b=some (.tbl (ps++more))
section
variable{fs Xy ex ex':List Addr}{H H1 H2:Hp}{h h1 h2 h':Heap}{a x e:Addr}{o:HO}
theorem Un.any(u:Un fs ex H H1 h h1){b:Addr}{ob:Obj}(q:h.get? b=some ob)(n:H b=none)(g:b∉ex):∃sl,h1.get? b=some {ob with slots:=sl}:=by
 by_cases a:b∈fs
 ·exact u.slot b ob q n a g
 ·exact⟨ob.slots,u.keep b ob q n a g⟩
theorem Un.kept(k:∀b u,h.get? b=some u->h'.get? b=some u):Un fs ex H H h h':=
 ⟨λb ob q _ _ _=>k b ob q,λb ob q _ _ _=>⟨ob.slots,k b ob q⟩,λ_ _ _ n _=>n,λb ob q _=>⟨ob,k b ob q⟩,λ_ _ q=>q,λ_ _ _ q=>q,λ_ ps q=>⟨#[],by rw[q];simp⟩⟩
theorem Un.refl:Un fs ex H H h h:=Un.kept λ_ _ q=>q
theorem Un.laid(k:∀b u,h.get? b=some u->h'.get? b=some u)(g:h.objs.size<=a)(hn:H a=none):Un fs ex H (upd H a o) h h' where
 keep:=λb u q _ _ _=>k b u q
 slot:=λb u q _ _ _=>⟨u.slots,k b u q⟩
 free:=λb u q n _=>by rw[ae (wat (war (wag q) g))];exact n
 there:=λb u q _=>⟨u,k b u q⟩
 sR:=λb c q=>by rw[ae (af q hn)];exact q
 rS:=λb u c q=>by rw[ae (af q hn)];exact q
 sS:=λb ps q=>⟨#[],by rw[ae (af q hn),q];simp⟩
theorem Un.write(g:Oq (H x))(he:e=x\/H e=some (.own x))(k:∀b u,b≠e->h.get? b=some u->h'.get? b=some u)(j:∃u,h'.get? e=some u):Un fs ex H (upd H x o) h h':=by
 have f:∀b,H b=none->b≠x:=λb n z=>by subst z;rw[n]at g;exact g
 have d:∀b,H b=none->b≠e:=λb n z=>by
  subst z;rcases he with r |r
  ·grind
  ·grind
 have c:∀b u,H b=some u->¬Oq (some u)->b≠x:=λb u q i z=>by subst z;rw[q]at g;exact i g
 refine⟨λb u q n _ _=>k b u (d b n) q,λb u q n _ _=>⟨u.slots,k b u (d b n) q⟩,λb u q n _=>by rw[ae (f b n)];exact n,λb u q _=>?_,
  λb l q=>by rw[ae (c b _ q λz=>z)];exact q,λb u l q=>by rw[ae (c b _ q λz=>z)];exact q,λb ps q=>⟨#[],by rw[ae (c b _ q λz=>z),q];simp⟩⟩
 by_cases a:b=e
 ·subst a;exact j
 ·exact⟨u,k b u a q⟩
end
noncomputable def S0(h:Heap)(H:Hp):List Addr:=(waI h.objs.size).filter λa=>(H a).isSome
noncomputable def xY(h:Heap)(H:Hp):Heap:=PySem.W.hideAll h (S0 h H)
theorem Eg(h:Heap)(H:Hp):(xY h H).objs.size=h.objs.size:=PySem.W.hideAll_size _ _
theorem G1(e:h.get? b=some o)(n:H b=none):(xY h H).get? b=some o:=
 PySem.W.hideAll_get _ e λa=>by
  have q:(H b).isSome=true:=(wau.mp a).2;rw[n]at q;simp at q
theorem Ji(e:(xY h H).get? b=some o):h.get? b=some o/\H b=none:=by
 have a:h.get? b=some o:=PySem.W.of_hideAll (S0 h H) e;refine⟨a,?_⟩
 cases q:H b with
 |none=>rfl
 |some x=>
  grind [S0,wag,xY,PySem.W.hideAll_none]
noncomputable def Jj(g h:Heap)(L:Addr):List (Addr×Obj):=(waI h.objs.size).filterMap λa=>if a=L\/(g.get? a).isSome=true then none else(h.get? a).map λo=>(a,o)
noncomputable def rest(g h:Heap)(L d:Addr):List (Addr×Obj):=(Jj g h L).filter λp=>decide (p.1≠d)
structure Mod(K:wa2)(mg:Str->Option Value)(base:Heap):Prop where
 L5:K.In base
 glob:base.Ns waK mg
 blt:∃mb,base.Ns builtinsNs mb/\∀x:Str,x≠"__name__"->mb x=waQ x
 nolimit:base.NoLimit
structure Cx where
 prog:wap
 w:World
 K:wa2
 mg:Str->Option Value
 base:Heap
 A:Around
 N:List Str
 s₀:Shared
 H₀:Hp
 env:Env
 outer:List Env
 stack:List Env
 ex:List Addr
 fn:Str->Bool
 calm:Bool
 pn:List (Addr×Obj)
 xe:Value->Shared->Prop
noncomputable def qF(l:List Env):List Addr:=l.filterMap (·.frame)
noncomputable abbrev Cx.fs(X:Cx):List Addr:=qF X.outer
def Ot(sc:wcZ)(x:Str):Prop:=sc.names.lookup x=some .local\/sc.names.lookup x=some .cell\/sc.names.lookup x=some .free
def Loc(sc:wcZ)(x:Str):Prop:=sc.names.lookup x=some .local\/sc.names.lookup x=some .cell
def Look(env:Env)(h:Heap)(m:Str->Option Value)(x:Str)(u:Value):Prop:=
 (env.kindOf x=some .local/\m x=some u)\/((env.kindOf x=some .cell\/env.kindOf x=some .free)/\∃c,env.cells.lookup x=some c/\h.IsCell c (some u))
structure Cx.Ok(X:Cx):Prop where
 mod:Mod X.K X.mg X.base
 kind:X.env.scope.kind=.function
 glob:X.env.globals=waK
 blt:X.env.builtins=builtinsNs
 above:X.s₀.heap.objs.size<=X.env.locals
 inj:∀x y c,X.env.cells.lookup x=some c->X.env.cells.lookup y=some c->x=y
 has:∀x,(X.env.kindOf x=some .cell\/X.env.kindOf x=some .free)->∃c,X.env.cells.lookup x=some c
 M5:∀x c,X.fn x=true->X.env.cells.lookup x=some c->X.s₀.heap.objs.size<=c
 hd:X.calm=true->X.A.handled=none
 frames:X.A.frames=some X.stack
 NW:X.stack=X.outer\/(X.stack=X.env::X.outer/\X.env.frame=some X.env.locals)
 Rh:∀b∈X.ex,b≠X.env.locals/\∀x c,X.env.cells.lookup x=some c->c≠b
 bs:∀b o,X.base.get? b=some o->X.s₀.heap.get? b=some o/\X.H₀ b=none
 G2:X.base.objs.size<=X.s₀.heap.objs.size
 Bf:∀b o,X.base.get? b=some o->b∉X.ex
 Eh:∀b∈X.ex,b∉X.fs
 nU:X.s₀.heap.FunFrames X.base X.outer
 Jk:∀b∈X.fs,X.H₀ b=none
structure Inv(X:Cx)(pins:List (Addr×Obj))(σ:List (Option V))(H:Hp)(s:Shared):Prop where
 ok:X.Ok
 os:s.os=X.s₀.os
 bare:AllBare s.gens
 base:Un X.fs X.ex X.H₀ H X.s₀.heap s.heap
 loc:∃m,s.heap.Ns X.env.locals m/\∀(i:Nat) (x:Str) (v:V),X.N[i]?=some x->σ[i]?=some (some v)->Ot X.env.scope x->∃u,RelV v u/\Look X.env s.heap m x u
 cell:∀x c,X.env.cells.lookup x=some c->∃v,s.heap.IsCell c v
 free:H X.env.locals=none
 j6:∀x c,X.env.cells.lookup x=some c->H c=none
 pin:∀p∈X.pn++pins,s.heap.get? p.1=some p.2/\H p.1=none/\p.1≠X.env.locals/\p.1∉X.fs/\∀v,p.2.data≠.cell v
 b7:jx X.prog X.w H s.heap
 len:σ.length=X.N.length
section
variable{X:Cx}{pins:List (Addr×Obj)}{σ:List (Option V)}{H H':Hp}{s:Shared}{h':Heap}
theorem Cx.Ok.S2(ok:X.Ok)(e:X.base.get? b=some o):b∉X.fs:=λa=>by
 have:=(ok.nU.mem a).1;rw[e]at this;cases this
theorem Inv.bs(I:Inv X pins σ H s):∀b o,X.base.get? b=some o->s.heap.get? b=some o/\H b=none:=λb o e=>
 ⟨I.base.keep b o (I.ok.bs b o e).1 (I.ok.bs b o e).2 (I.ok.S2 e) (I.ok.Bf b o e),I.base.free b o (I.ok.bs b o e).1 (I.ok.bs b o e).2 (I.ok.Bf b o e)⟩
theorem Inv.bk(I:Inv X pins σ H s):∀b o,X.base.get? b=some o->s.heap.get? b=some o:=λb o e=>(I.bs b o e).1
theorem Inv.mod(I:Inv X pins σ H s):Mod X.K X.mg X.base:=I.ok.mod
theorem Inv.hE(I:Inv X pins σ H s):X.K.In s.heap:=I.ok.mod.L5.keeps I.bk
theorem Inv.lt(I:Inv X pins σ H s):X.env.locals<s.heap.objs.size:=let ⟨_,hn,_⟩:=I.loc;hn.lt
theorem Inv.sz(I:Inv X pins σ H s):X.s₀.heap.objs.size<=s.heap.objs.size:=wai I.ok.above (wfd I.lt)
theorem Inv.Sa(I:Inv X pins σ H s)(h:s.heap.objs.size<=a):a∉X.fs:=λb=>by
 obtain⟨_,o,c,_⟩:=I.ok.nU.mem b;exact absurd (war (wag c) (wai I.sz h)) (wb7 _)
theorem Inv.M6(I:Inv X pins σ H s):∀x c,X.env.cells.lookup x=some c->c≠X.env.locals:=λx c e z=>by
 obtain⟨v,o,d,hd⟩:=I.cell x c e;obtain⟨m,⟨f,g,h,a,b,_⟩,_⟩:=I.loc;rw[z,a]at d;cases d;rw[b]at hd;cases hd
theorem Inv.nU(I:Inv X pins σ H s):s.heap.FunFrames X.base X.outer:=by
 have all:∀(l:List Env),(∀b∈qF l,b∈X.fs)->X.s₀.heap.FunFrames X.base l->s.heap.FunFrames X.base l:=by
  intro l
  induction l with
  |nil=>intro _ _;trivial
  |cons env r g=>
   intro f hl;obtain⟨hk,⟨L,o,a,hn,h,hd⟩,i⟩:=hl;have c:L∈X.fs:=f L (by unfold qF;rw[wb5,a];exact wad);obtain⟨sl,e⟩:=I.base.slot L o h (I.ok.Jk L c) c λz=>I.ok.Eh L z c;exact⟨hk,⟨L,_,a,hn,e,hd⟩,g (λb d=>f b (by unfold qF;rw[wb5,a];exact wac _ d)) i⟩
 exact all X.outer (λ_ d=>d) I.ok.nU
theorem Inv.stack(I:Inv X pins σ H s):s.heap.FunFrames X.base X.stack:=by
 rcases I.ok.NW with e |⟨e,a⟩
 ·rw[e];exact I.nU
 ·rw[e];obtain⟨m,hn,_⟩:=I.loc;refine .cons (by rw[I.ok.kind];decide) a hn ?_ I.nU;exact Heap.get?_none_of_le (wai I.ok.G2 I.ok.above)
theorem Inv.sT(I:Inv X pins σ H s):∀b∈qF X.stack,b∈X.env.locals::X.fs:=λb a=>by
 rcases I.ok.NW with e |⟨e,c⟩
 ·grind
 ·grind [qF]
theorem Inv.sx(I:Inv X pins σ H s):∀b∈qF X.stack,H b=none:=λb a=>by
 rcases waD.mp (I.sT b a) with e |a
 ·rw[e];exact I.free
 ·obtain⟨_,o,c,_⟩:=I.ok.nU.mem a;exact I.base.free b o c (I.ok.Jk b a) λz=>I.ok.Eh b z a
theorem Inv.step{g':Array wdk}{t':Nat}{d':Drawn}{ch:List Addr}(I:Inv X pins σ H s)
 (g:∀b∈ch,(b∈X.ex\/X.s₀.heap.objs.size<=b)/\b≠X.env.locals/\(∀x c,X.env.cells.lookup x=some c->c≠b)/\∀p∈X.pn++pins,p.1≠b)
 (keep:∀b o,b≠X.env.locals->b∉X.fs->b∉ch->s.heap.get? b=some o->H b=none->h'.get? b=some o)
 (slot:∀b o,b≠X.env.locals->b∈X.fs->b∉ch->s.heap.get? b=some o->H b=none->∃sl,h'.get? b=some {o with slots:=sl}) (free:∀b o,b∉ch->s.heap.get? b=some o->H b=none->H' b=none)
 (there:∀b o,b∉ch->s.heap.get? b=some o->∃C,h'.get? b=some C)
 (sR:∀b xs,H b=some (.tup xs)->H' b=some (.tup xs)) (rS:∀b o u,H b=some (.frz o u)->H' b=some (.frz o u)) (sS:∀b ps,H b=some (.tbl ps)->∃more,H' b=some (.tbl (ps++more)))
 (ns:∀m,s.heap.Ns X.env.locals m->h'.Ns X.env.locals m) (b7:jx X.prog X.w H' h') (T:AllBare g') :
 Inv X pins σ H' {s with heap:=h',gens:=g',drawn:=d',toks:=t'}:=by
 have B:∀b o,X.s₀.heap.get? b=some o->b≠X.env.locals:=λb o e=>wat (war (wag e) I.ok.above)
 have j:∀b o,X.s₀.heap.get? b=some o->b∉X.ex->b∉ch:=λb o e a y=>by
  rcases(g b y).1 with z |z
  ·exact a z
  ·exact absurd (war (wag e) z) (wb7 _)
 have f:∀x c,X.env.cells.lookup x=some c->∀v,s.heap.IsCell c v->h'.IsCell c v:=λx c e v ⟨o,A,hd⟩=>by
  have h:c∉ch:=λz=>(g c z).2.2.1 x c e rfl
  by_cases hc:c∈X.fs
  ·obtain⟨sl,q⟩:=slot c o (I.M6 x c e) hc h A (I.j6 x c e);exact⟨_,q,hd⟩
  ·exact⟨o,keep c o (I.M6 x c e) hc h A (I.j6 x c e),hd⟩
 refine⟨I.ok,I.os,T,⟨λb o e n y a=>?_,λb o e n y a=>?_,λb o e n a=>?_,λb o e a=>?_,λb xs e=>sR b xs (I.base.sR b xs e),λb o xs e=>rS b o xs (I.base.rS b o xs e),λb ps e=>?_⟩,?_,λx c e=>?_,?_,λx c e=>?_,λp G=>?_,b7,I.len⟩
 ·exact keep b o (B b o e) y (j b o e a) (I.base.keep b o e n y a) (I.base.free b o e n a)
 ·obtain⟨sl,t⟩:=I.base.slot b o e n y a;obtain⟨E,D⟩:=slot b _ (B b o e) y (j b o e a) t (I.base.free b o e n a);exact⟨E,D⟩
 ·obtain⟨C,t⟩:=I.base.there b o e a;exact free b C (j b o e a) t (I.base.free b o e n a)
 ·obtain⟨C,t⟩:=I.base.there b o e a;exact there b C (j b o e a) t
 ·obtain⟨m1,t⟩:=I.base.sS b ps e;obtain⟨L,D⟩:=sS b _ t;exact⟨m1++L,by rw[D,Array.append_assoc]⟩
 ·obtain⟨m,hn,hl⟩:=I.loc;refine⟨m,ns m hn,λi x v t D M=>?_⟩;obtain⟨u,r,l⟩:=hl i x v t D M;refine⟨u,r,?_⟩;rcases l with l |⟨k,c,e,z⟩
  ·exact .inl l
  ·exact .inr ⟨k,c,e,f x c e _ z⟩
 ·obtain⟨v,z⟩:=I.cell x c e;exact⟨v,f x c e v z⟩
 ·obtain⟨m,⟨o,_,_,A,_⟩,_⟩:=I.loc;exact free _ o (λz=>(g _ z).2.1 rfl) A I.free
 ·obtain⟨v,o,A,hd⟩:=I.cell x c e;exact free c o (λz=>(g c z).2.2.1 x c e rfl) A (I.j6 x c e)
 ·obtain⟨e,n,ne,J,d⟩:=I.pin p G;have h:p.1∉ch:=λz=>(g p.1 z).2.2.2 p G rfl;exact⟨keep p.1 p.2 ne J h e n,free p.1 p.2 h e n,ne,J,d⟩
theorem Inv.un{t':Nat}(I:Inv X pins σ H s)(u:Un X.fs [] H H' s.heap h')(b7:jx X.prog X.w H' h'):Inv X pins σ H' {s with heap:=h',toks:=t'}:=by
 obtain⟨m,⟨o,k,l,g,r⟩,_⟩:=id I.loc;obtain⟨sl,h⟩:=u.any g I.free (by simp)
 exact I.step (g':=s.gens) (d':=s.drawn) (ch:=[]) (λ_ z=>nomatch z) (λb o _ c _ e n=>u.keep b o e n c (by simp)) (λb o _ c _ e n=>u.slot b o e n c (by simp)) (λb o _ e n=>u.free b o e n (by simp)) (λb o _ e=>u.there b o e (by simp)) u.sR u.rS u.sS (λp i=>by
  obtain⟨q,d,f,a,j⟩:=i;rw[g]at a;cases a
  exact⟨_,d,f,h,j⟩) b7 I.bare
theorem Inv.call{g':Array wdk}{t':Nat}{d':Drawn}{ch:List Addr}(I:Inv X pins σ H s)(u:Un (qF X.stack) ch H H' s.heap h')(b7:jx X.prog X.w H' h')(j:AllBare g')
 (g:∀b∈ch,(b∈X.ex\/X.s₀.heap.objs.size<=b)/\b≠X.env.locals/\(∀x c,X.env.cells.lookup x=some c->c≠b)/\∀p∈X.pn++pins,p.1≠b) :
 Inv X pins σ H' {s with heap:=h',gens:=g',drawn:=d',toks:=t'}:=by
 obtain⟨m,⟨o,t,v,i,r⟩,_⟩:=id I.loc;obtain⟨sl,d⟩:=u.any i I.free λz=>(g _ z).2.1 rfl
 exact I.step (ch:=ch) g (λb o d k hc e n=>u.keep b o e n (λz=>(waD.mp (I.sT b z)).elim d k) hc) (λb o _ _ hc e n=>u.any e n hc) (λb o hc e n=>u.free b o e n hc) (λb o hc e=>u.there b o e hc) u.sR u.rS u.sS (λy l=>by
  obtain⟨A,f,h,a,q⟩:=l;rw[i]at a;cases a
  exact⟨_,f,h,d,q⟩) b7 j
theorem Inv.turned{t':Nat}{it:Addr}(I:Inv X pins σ H s)(k:∀b o,b≠it->s.heap.get? b=some o->h'.get? b=some o)(hn:H it=none)(g:it≠X.env.locals)
 (j:it∈X.ex\/X.s₀.heap.objs.size<=it) (l:∀x c,X.env.cells.lookup x=some c->c≠it) (t:∀p∈X.pn++pins,p.1≠it):Inv X pins σ H {s with heap:=h',toks:=t'}:=by
 have a:∀b u,H b=some u->b≠it:=λb u e z=>by rw[z,hn]at e;cases e
 refine I.step (g':=s.gens) (d':=s.drawn) (ch:=[it]) (λb d=>?_) (λb o _ _ hc e _=>k b o (λz=>hc (by simp[z])) e) (λb o _ _ hc e _=>⟨o.slots,k b o (λz=>hc (by simp[z])) e⟩) (λ_ _ _ _ n=>n)
  (λb o hc e=>⟨o,k b o (λz=>hc (by simp[z])) e⟩) (λ_ _ e=>e) (λ_ _ _ e=>e) (λb ps e=>⟨#[],by rw[e];simp⟩) (λm f=>?_) (λb u e=>?_) I.bare
 ·have e:b=it:=by simpa using d
  subst e;exact⟨j,g,l,t⟩
 ·obtain⟨o,h,i,w,r⟩:=f;exact⟨o,h,i,k _ o (wbs g) w,r⟩
 ·refine(I.b7 b u e).vF (λc v hc q=>k c v ?_ q) (λ_ q=>q) λ_ _ q=>q;rcases hc with z |z
  ·rw[z];exact a b u e
  ·exact a c _ z
theorem Inv.tok(I:Inv X pins σ H s)(t:Nat):Inv X pins σ H {s with toks:=t}:=I.un (h':=s.heap) (t':=t) Un.refl I.b7
theorem Inv.kept(I:Inv X pins σ H s)(k:∀b u,s.heap.get? b=some u->h'.get? b=some u):Inv X pins σ H {s with heap:=h',toks:=t'}:=I.un (Un.kept k) (I.b7.kept k)
theorem Inv.laid(I:Inv X pins σ H s)(k:∀b u,s.heap.get? b=some u->h'.get? b=some u)(g:s.heap.objs.size<=a)(new:bP X.prog X.w (upd H a o) h' a o) :
 Inv X pins σ (upd H a o) {s with heap:=h',toks:=t'}:=I.un (Un.laid k g (I.b7.fresh g)) (I.b7.laid k g new)
theorem Inv.write(I:Inv X pins σ H s)(j:Oq (H x))(he:e=x\/H e=some (.own x))(k:∀b u,b≠e->s.heap.get? b=some u->h'.get? b=some u)(g:∃u,h'.get? e=some u)
 (new:bP X.prog X.w (upd H x o) h' x o):Inv X pins σ (upd H x o) {s with heap:=h',toks:=t'}:=I.un (Un.write j he k g) (I.b7.write j he k g new)
theorem Inv.Dn(I:Inv X pins σ H s)(h:∀p∈g,s.heap.get? p.1=some p.2/\H p.1=none/\p.1≠X.env.locals/\p.1∉X.fs/\∀v,p.2.data≠.cell v):Inv X g σ H s:=
 ⟨I.ok,I.os,I.bare,I.base,I.loc,I.cell,I.free,I.j6,λp a=>(waC.mp a).elim (λz=>I.pin p (wb0 _ z)) (h p),I.b7,I.len⟩
theorem zi{N:List Str}(g:N.Nodup){i j:Nat}{x:Str}(a:N[i]?=some x)(b:N[j]?=some x):i=j:=by
 obtain⟨e,c⟩:=wa5.mp a;obtain⟨f,d⟩:=wa5.mp b;exact(wbI g).mp (c.trans d.symm)
theorem wy{M:Model}{A:Around}{E:Value->Shared->Prop}{i:Nat}{x:Str}{v:V}{u:Value}{Q:Unit->Shared->Prop}(I:Inv X pins σ H s)(hN:X.N.Nodup)(hi:X.N[i]?=some x)(t:Loc X.env.scope x)(r:RelV v u)
 (h:∀s',Inv X pins (σ.set i (some v)) H s'->(∃a,wfe a s.heap s'.heap/\(a=X.env.locals\/X.env.cells.lookup x=some a))->Q () s') (hf:X.fn x=true\/X.env.scope.names.lookup x=some .local:=by first |exact .inl rfl |exact .inr rfl |assumption):wpAny M A (storeName X.env x u) Q E s:=by
 obtain⟨m,hn,hl⟩:=id I.loc;have L:(X.env.scope.kind == .class ||(X.env.scope.kind == .module&&X.env.locals != X.env.globals))=false:=by rw[I.ok.kind];rfl
 have hiσ:i<σ.length:=by rw[I.len];exact(wa5.mp hi).1
 have M6:=I.M6
 have g:∀{a:Addr} {h':Heap},(∃o,s.heap.get? a=some o/\H a=none)->wfe a s.heap h'->jx X.prog X.w H h':=λ{a h'} ha f b ob e=>by
  obtain⟨_,_,B⟩:=ha;refine(I.b7 b ob e).vF (λc U hc q=>(f.2 c ?_).trans q) (λ_ q=>q) λ_ _ q=>q;rintro rfl;rcases hc with rfl |hc
  ·rw[B]at e;cases e
  ·rw[B]at hc;cases hc
 rcases t with hk |hk
 ·refine wpAny_storeName_local hk hn (λh' Z f=>?_) L;obtain⟨oL,_,_,Xz,_⟩:=id hn;refine h _ ⟨I.ok,I.os,I.bare,⟨λb o e n D t=>?_,λb o e n D t=>?_,I.base.free,λb o e t=>?_,I.base.sR,I.base.rS,I.base.sS⟩,⟨_,Z,λj y v' l C e3=>?_⟩,λy c e=>?_,I.free,I.j6,λp hp=>?_,g ⟨oL,Xz,I.free⟩ f,by simpa using I.len⟩ ⟨_,f,.inl rfl⟩
  ·exact(f.2 b (wat (war (wag e) I.ok.above))).trans (I.base.keep b o e n D t)
  ·obtain⟨sl,l⟩:=I.base.slot b o e n D t;exact⟨sl,(f.2 b (wat (war (wag e) I.ok.above))).trans l⟩
  ·obtain⟨o',l⟩:=I.base.there b o e t;exact⟨o',(f.2 b (wat (war (wag e) I.ok.above))).trans l⟩
  ·by_cases G:j=i
   ·subst G;rw[hi]at l;cases l;rw[wdb hiσ]at C;cases C;exact⟨u,r,.inl ⟨hk,by simp⟩⟩
   ·rw[wcD (wbs G)]at C;obtain⟨u',r',q⟩:=hl j y v' l C e3;refine⟨u',r',?_⟩;rcases q with⟨k,e⟩ |⟨k,c,e,z⟩
    ·refine .inl ⟨k,?_⟩;have:y≠x:=λe=>G (zi hN l (e ▸ hi));simp[this,e]
    ·exact .inr ⟨k,c,e,z.sameBut f (M6 y c e)⟩
  ·obtain⟨U,z⟩:=I.cell y c e;exact⟨U,z.sameBut f (M6 y c e)⟩
  ·obtain⟨e,n,ne,nf,d⟩:=I.pin p hp;exact⟨(f.2 p.1 ne).trans e,n,ne,nf,d⟩
 ·have J:X.fn x=true:=by
   rcases hf with z |z
   ·exact z
   ·rw[z]at hk;cases hk
  obtain⟨c,hc⟩:=I.ok.has x (.inl hk);obtain⟨U,z⟩:=I.cell x c hc;refine wpAny_storeName_cell I.ok.kind hk hc z (λh' O f=>?_);obtain⟨oc,R,S⟩:=id z;refine h {s with heap:=h'} ⟨I.ok,I.os,I.bare,⟨λb o e n D t=>?_,λb o e n D t=>?_,I.base.free,λb o e t=>?_,I.base.sR,I.base.rS,I.base.sS⟩,⟨m,hn.sameBut f (wbs (M6 x c hc)),λj y v' l C e3=>?_⟩,λy Y e=>?_,I.free,I.j6,λp hp=>?_,g ⟨oc,R,I.j6 x c hc⟩ f,by simpa using I.len⟩ ⟨c,f,.inr hc⟩
  ·exact(f.2 b (wat (war (wag e) (I.ok.M5 x c J hc)))).trans (I.base.keep b o e n D t)
  ·obtain⟨sl,l⟩:=I.base.slot b o e n D t;exact⟨sl,(f.2 b (wat (war (wag e) (I.ok.M5 x c J hc)))).trans l⟩
  ·obtain⟨o',l⟩:=I.base.there b o e t;exact⟨o',(f.2 b (wat (war (wag e) (I.ok.M5 x c J hc)))).trans l⟩
  ·by_cases G:j=i
   ·subst G;rw[hi]at l;cases l;rw[wdb hiσ]at C;cases C;exact⟨u,r,.inr ⟨.inl hk,c,hc,O⟩⟩
   ·rw[wcD (wbs G)]at C;obtain⟨u',r',q⟩:=hl j y v' l C e3;refine⟨u',r',?_⟩;rcases q with q |⟨k,Y,e,z'⟩
    ·exact .inl q
    ·refine .inr ⟨k,Y,e,z'.sameBut f ?_⟩;rintro rfl;exact G (zi hN l (I.ok.inj _ _ _ e hc ▸ hi))
  ·by_cases T:Y=c
   ·subst T;exact⟨_,O⟩
   ·obtain⟨w2,z2⟩:=I.cell y Y e;exact⟨w2,z2.sameBut f T⟩
  ·obtain⟨e,n,ne,nf,d⟩:=I.pin p hp;refine⟨(f.2 p.1 ?_).trans e,n,ne,nf,d⟩;intro q;rw[q,R]at e;have q':oc=p.2:=wae e;exact d U (by rw[<-q'];exact S)
theorem j7{E:Value->Shared->Prop}{Q:Unit->Shared->Prop}(I:Inv X pins σ H s)(g:X.N.Nodup)(hi:X.N[i]?=some x)(j:Loc X.env.scope x)(r:RelV v u)
 (h:∀s',Inv X pins (σ.set i (some v)) H s'->Q () s') (l:X.fn x=true\/X.env.scope.names.lookup x=some .local:=by first |exact .inl rfl |exact .inr rfl |assumption):wpAny M A (storeName X.env x u) Q E s:=
 wy I g hi j r (λs' a _=>h s' a) l
theorem Inv.wA(I:Inv X pins σ H s)(j:s'.os=s.os)(u:Un (qF X.stack) ch H H' s.heap s'.heap)(b7:jx X.prog X.w H' s'.heap)(l:AllBare s'.gens)
 (g:∀b∈ch,(b∈X.ex\/X.s₀.heap.objs.size<=b)/\b≠X.env.locals/\(∀x c,X.env.cells.lookup x=some c->c≠b)/\∀p∈X.pn++pins,p.1≠b):Inv X pins σ H' s':=by
 obtain⟨h',g',d',t',a⟩:=s';have e:a=s.os:=j;subst e;exact I.call (g':=g') (t':=t') (d':=d') u b7 l g
end
noncomputable abbrev XK:=Value->Option Addr->Hp->Prop
noncomputable abbrev St:=List (Option V)
noncomputable abbrev VK:=V->Hp->Prop
noncomputable abbrev TE:=St->Hp->VK->Prop
noncomputable abbrev TT:=St->Hp->(Bool->Hp->Prop)->Prop
noncomputable abbrev TA:=St->Hp->(List V->Hp->Prop)->Prop
structure Ends where
 nx:St->Hp->Prop
 rt:VK
 bk:St->Hp->Prop:=λ_ _=>False
 ct:St->Hp->Prop:=λ_ _=>False
noncomputable abbrev Ends.L6(D:Ends)(N:St->Hp->Prop):Ends:=⟨N,D.rt,D.bk,D.ct⟩
noncomputable abbrev Ends.lp(D:Ends)(N:St->Hp->Prop):Ends:=⟨N,D.rt,D.nx,N⟩
noncomputable abbrev Ends.fn(Q:VK):Ends:=⟨λ_ H'=>Q .non H',Q,λ_ _=>False,λ_ _=>False⟩
noncomputable abbrev TS:=Ends->St->Hp->Prop
def EP(X:Cx)(pins:List (Addr×Obj))(σ:St)(Q:VK)(u:Value)(s':Shared):Prop:=∃v H',Inv X pins σ H' s'/\RelV v u/\Q v H'
def TP(X:Cx)(pins:List (Addr×Obj))(σ:St)(Q:Bool->Hp->Prop)(b:Bool)(s':Shared):Prop:=∃H',Inv X pins σ H' s'/\Q b H'
def AP(X:Cx)(pins:List (Addr×Obj))(σ:St)(Q:List V->Hp->Prop)(us:List Value)(s':Shared):Prop:=∃vs H',Inv X pins σ H' s'/\Vals vs us/\Q vs H'
def SP(X:Cx)(pins:List (Addr×Obj))(D:Ends)(f:Flow)(s':Shared):Prop:=
 match f with
 |.next=>∃σ' H',Inv X pins σ' H' s'/\D.nx σ' H'
 |.brk=>∃σ' H',Inv X pins σ' H' s'/\D.bk σ' H'
 |.cont=>∃σ' H',Inv X pins σ' H' s'/\D.ct σ' H'
 |.ret u=>∃v σ' H',Inv X pins σ' H' s'/\RelV v u/\D.rt v H'
abbrev V6(X:Cx)(e:Expr)(t:TE):Prop:=
 ∀(pins:List (Addr×Obj)) (s:Shared) (σ:St) (H:Hp) (Q:VK),Inv X pins σ H s->t σ H Q->wpAny (model X.prog X.w) X.A (eval e X.env) (EP X pins σ Q) X.xe s
structure PE(X:Cx)(e:Expr)(t:TE):Prop where
 go:V6 X e t
instance {X:Cx} {e:Expr} {t:TE}:CoeFun (PE X e t) λ_=>V6 X e t:=⟨PE.go⟩
abbrev V7(X:Cx)(e:Expr)(t:TT):Prop:=
 ∀(pins:List (Addr×Obj)) (s:Shared) (σ:St) (H:Hp) (Q:Bool->Hp->Prop),Inv X pins σ H s->t σ H Q->wpAny (model X.prog X.w) X.A (isTrue e X.env (eval e X.env)) (TP X pins σ Q) X.xe s
structure PT(X:Cx)(e:Expr)(t:TT):Prop where
 go:V7 X e t
instance {X:Cx} {e:Expr} {t:TT}:CoeFun (PT X e t) λ_=>V7 X e t:=⟨PT.go⟩
abbrev V8(X:Cx)(e:Expr)(t:TT):Prop:=
 ∀(whole:Sem Value) (pins:List (Addr×Obj)) (s:Shared) (σ:St) (H:Hp) (Q:Bool->Hp->Prop),Inv X pins σ H s->t σ H Q->wpAny (model X.prog X.w) X.A (isTrue e X.env whole) (TP X pins σ Q) X.xe s
structure PW(X:Cx)(e:Expr)(t:TT):Prop where
 go:V8 X e t
instance {X:Cx} {e:Expr} {t:TT}:CoeFun (PW X e t) λ_=>V8 X e t:=⟨PW.go⟩
theorem PW.pt{X:Cx}{e:Expr}{t:TT}(h:PW X e t):PT X e t:=⟨h _⟩
abbrev V9(X:Cx)(es:List Expr)(t:TA):Prop:=
 ∀(pos:Pos) (pins:List (Addr×Obj)) (s:Shared) (σ:St) (H:Hp) (Q:List V->Hp->Prop),Inv X pins σ H s->t σ H Q->wpAny (model X.prog X.w) X.A (spliced (backTo pos (starEach es X.env))) (AP X pins σ Q) X.xe s
structure PA(X:Cx)(es:List Expr)(t:TA):Prop where
 go:V9 X es t
instance {X:Cx} {es:List Expr} {t:TA}:CoeFun (PA X es t) λ_=>V9 X es t:=⟨PA.go⟩
abbrev Va(X:Cx)(st:Stmt)(t:TS):Prop:=
 ∀(pins:List (Addr×Obj)) (s:Shared) (σ:St) (H:Hp) (D:Ends),Inv X pins σ H s->t D σ H->wpAny (model X.prog X.w) X.A (exec st X.env) (SP X pins D) X.xe s
structure PS(X:Cx)(st:Stmt)(t:TS):Prop where
 go:Va X st t
instance {X:Cx} {st:Stmt} {t:TS}:CoeFun (PS X st t) λ_=>Va X st t:=⟨PS.go⟩
abbrev Ou(X:Cx)(st:List Stmt)(t:TS):Prop:=
 ∀(pins:List (Addr×Obj)) (s:Shared) (σ:St) (H:Hp) (D:Ends),Inv X pins σ H s->t D σ H->wpAny (model X.prog X.w) X.A (execs st X.env) (SP X pins D) X.xe s
structure sy(X:Cx)(st:List Stmt)(t:TS):Prop where
 go:Ou X st t
instance {X:Cx} {st:List Stmt} {t:TS}:CoeFun (sy X st t) λ_=>Ou X st t:=⟨sy.go⟩
theorem bI{α:Type}{t:Sem α}{Q g:α->Shared->Prop}{M:Model}{A:Around}{E:Value->Shared->Prop}{s:Shared}(h:wpAny M A t Q E s)(j:∀a s,Q a s->g a s):wpAny M A t g E s:=wb1 h j λ_ _ x=>x
section
variable{X:Cx}
inductive Jl(i:Nat)(σ:St)(H:Hp)(Q:VK):Prop
 |mk (v) (_:σ[i]?=some (some v)) (_:Q v H)
def tC(v:V):TE:=λ_ H Q=>Q v H
theorem M7(j:X.N[i]?=some x)(p:Ot X.env.scope x)(hd:(x==("__debug__":Str))=false:=by decide)(g:(x==("__classdict__":Str))=false:=by decide):PE X (.Name x pos) (Jl i):=by
 refine⟨?_⟩;intro b s σ H Q I h;obtain⟨v,e,h⟩:=h;obtain⟨m,hn,hl⟩:=I.loc;obtain⟨u,r,l⟩:=hl i x v j e p;have fin:EP X b σ Q u s:=⟨v,H,I,r,h⟩;rcases l with⟨hk,d⟩ |⟨hk,c,hc,a⟩
 ·exact wpAny_Name (wgh I.ok.kind hk hn d fin) hd
 ·rcases hk with hk |hk
  ·exact wpAny_Name (wgv I.ok.kind hk hc a fin) hd
  ·exact wpAny_Name (wpAny_loadName_free I.ok.kind hk hc a fin g) hd
theorem aj{i j pos}:PE X (.Constant (.int i) j pos) (tC (.int i)):=⟨λ_ _ _ H _ I h=>wpAny_Constant_int ⟨.int i,H,I.tok _,⟨_,rfl⟩,h⟩⟩
theorem iJ{b j pos}:PE X (.Constant (.bool b) j pos) (tC (.bl b)):=⟨λ_ _ _ H _ I h=>Constant_bool ⟨.bl b,H,I,rfl,h⟩⟩
theorem du{j pos}:PE X (.Constant .none j pos) (tC .non):=⟨λ_ _ _ H _ I h=>Constant_none ⟨.non,H,I,rfl,h⟩⟩
theorem cI{x j pos}:PE X (.Constant (.str x) j pos) (tC (.str x)):=⟨λ_ _ _ H _ I h=>wgE ⟨.str x,H,I.tok _,⟨_,rfl⟩,h⟩⟩
def Gl(X:Cx)(x:Str):Prop:=X.env.kindOf x=some .globalImplicit
theorem g9{E:Value->Shared->Prop}{Q:Value->Shared->Prop}(I:Inv X g σ H s)(j:Gl X x)(l:X.mg x=some u)(h:Q u s)
 (hd:(x==("__debug__":Str))=false:=by decide):wpAny (model X.prog X.w) X.A (eval (.Name x pos) X.env) Q E s:=
 weR I.ok.kind j (Calls.loadGlobal_global (by rw[I.ok.glob];exact I.mod.glob.keeps I.bk) l h) hd
theorem ib{E:Value->Shared->Prop}{Q:Value->Shared->Prop}(I:Inv X g σ H s)(j:Gl X x)(l:X.mg x=none)(p:waQ x=some u)(h:Q u s)
 (hn:x≠"__name__":=by decide) (hd:(x==("__debug__":Str))=false:=by decide):wpAny (model X.prog X.w) X.A (eval (.Name x pos) X.env) Q E s:=by
 obtain⟨c,a,b⟩:=I.mod.blt;exact weR I.ok.kind j (Calls.loadGlobal_builtin (by rw[I.ok.glob];exact I.mod.glob.keeps I.bk) l (by rw[I.ok.blt];exact a.keeps I.bk) ((b x hn).trans p) h) hd
theorem sA(g:Gl X x)(j:X.mg x=some u)(r:RelV v u)(hd:(x==("__debug__":Str))=false:=by decide):PE X (.Name x pos) (tC v):=
 ⟨λ_ _ _ H _ I h=>g9 I g j ⟨v,H,I,r,h⟩ hd⟩
theorem gf(g:Gl X x)(j:X.mg x=none)(l:waQ x=some u)(r:RelV v u)(hn:x≠"__name__":=by decide)(hd:(x==("__debug__":Str))=false:=by decide):PE X (.Name x pos) (tC v):=
 ⟨λ_ _ _ H _ I h=>ib I g j l ⟨v,H,I,r,h⟩ hn hd⟩
variable{a b:Expr}{ta tb:TE}{pos:Pos}
abbrev Vb(X:Cx)(op:CmpOp)(a b:Expr)(t:TE):Prop:=
 ∀(pins:List (Addr×Obj)) (s:Shared) (σ:St) (H:Hp) (Q:VK),Inv X pins σ H s->t σ H Q ->
  wpAny (model X.prog X.w) X.A (eval a X.env) (λv s₁=>wpAny (model X.prog X.w) X.A (eval b X.env) (λu s₂=>wpAny (model X.prog X.w) X.A (wb4 op v u) (EP X pins σ Q) X.xe s₂) X.xe s₁) X.xe s
structure PC(X:Cx)(op:CmpOp)(a b:Expr)(t:TE):Prop where
 go:Vb X op a b t
instance {X:Cx} {op:CmpOp} {a b:Expr} {t:TE}:CoeFun (PC X op a b t) λ_=>Vb X op a b t:=⟨PC.go⟩
theorem G3(b:Expr)(h:op≠.In)(g:op≠.NotIn):wcT op b=false:=by
 have a:(op==CmpOp.In)=false:=by grind
 have c:(op==CmpOp.NotIn)=false:=by grind
 cases b<;>simp[wcT,a,c]
inductive Vc(x:V)(H:Hp)(Q:Bool->Hp->Prop):Prop
 |mk (c) (_:x=.bl c) (_:Q c H)
def tB(t:TE):TT:=λσ H Q=>t σ H λx H1=>Vc x H1 Q
theorem Bg{op:CmpOp}{t:TE}(h:PC X op a b t)(g:wcT op b=false:=by first |exact G3 _ (by decide) (by decide) |rfl):PT X (.Compare a [op] [b] pos) (tB t):=by
 refine⟨?_⟩;intro e s σ H Q I hw;refine wg4 (bI (h e s σ H _ I hw) λv m g=>bI g λu n f=>bI f λc o ⟨x,i,j,k,l⟩=>?_) g;obtain⟨d,rfl,q⟩:=l;cases k;exact wbq ⟨i,j,q⟩
theorem bZ{e:Expr}{t:TE}(h:PE X e t)(he:∀whole,isTrue e X.env whole=(do let v <-whole;standAt e.pos;holding [v] (truthy v)):=by intro _;rfl):PT X e (tB t):=by
 refine⟨?_⟩;intro a s σ H Q I hw;refine isTrue_plain (bI (h a s σ H _ I hw) λv i ⟨x,b,c,f,g⟩=>?_) (he _);obtain⟨d,rfl,q⟩:=g;cases f;exact wbq ⟨b,c,q⟩
variable{tA Ri:TT}{rest:List Expr}
def Sb(t u:TT):TT:=λσ H Q=>t σ H λc H1=>if c=true then u σ H1 Q else Q false H1
def XA(t u:TT):TT:=λσ H Q=>t σ H λc H1=>if c=true then Q true H1 else u σ H1 Q
def Sd(t:TT):TT:=λσ H Q=>t σ H λc H1=>Q (!c) H1
theorem Jm(ha:PT X a tA):PW X (.BoolOp .And [a] pos) tA:=by
 refine⟨?_⟩;intro d b s σ H Q I h;refine isTrue_and (bI (ha b s σ H Q I h) λc f e=>?_)
 cases c with
 |true=>exact isTrue_and_nil e
 |false=>exact e
theorem fI(ha:PT X a tA):PW X (.BoolOp .Or [a] pos) tA:=by
 refine⟨?_⟩;intro d b s σ H Q I h;refine isTrue_or (bI (ha b s σ H Q I h) λc f e=>?_)
 cases c with
 |false=>exact isTrue_or_nil e
 |true=>exact e
theorem M8(ha:PT X a tA)(j:PW X (.BoolOp .And (b::rest) pos) Ri):PW X (.BoolOp .And (a::b::rest) pos) (Sb tA Ri):=by
 refine⟨?_⟩;intro i d s σ H Q I h;refine isTrue_and (bI (ha d s σ H _ I h) λc k ⟨e,f,g⟩=>?_)
 cases c with
 |true=>exact j i d k σ e Q f g
 |false=>exact⟨e,f,g⟩
theorem ee(ha:PT X a tA)(j:PW X (.BoolOp .Or (b::rest) pos) Ri):PW X (.BoolOp .Or (a::b::rest) pos) (XA tA Ri):=by
 refine⟨?_⟩;intro i d s σ H Q I h;refine isTrue_or (bI (ha d s σ H _ I h) λc k ⟨e,f,g⟩=>?_)
 cases c with
 |true=>exact⟨e,f,g⟩
 |false=>exact j i d k σ e Q f g
theorem cS(ha:PT X a tA):PT X (.UnaryOp .Not a pos) (Sd tA):=by
 refine⟨?_⟩;intro b s σ H Q I h;exact isTrue_not (ha b s σ H (λc d=>Q (!c) d) I h)
def Ov(ta tb:TE):TE:=λσ H Q=>ta σ H λx H1=>∃c,x=.bl c/\if c=true then tb σ H1 Q else Q (.bl false) H1
def Ow(ta:TE):TE:=λσ H Q=>ta σ H λx H1=>∃c,x=.bl c/\Q (.bl (!c)) H1
theorem Bh{op}(h:PE X a t):PE X (.BoolOp op [a] pos) t:=⟨λb s σ H Q I hw=>BoolOp_one (h b s σ H Q I hw)⟩
theorem Bi(ha:PE X a ta)(j:PE X (.BoolOp .And (b::rest) pos) tb):PE X (.BoolOp .And (a::b::rest) pos) (Ov ta tb):=by
 refine⟨?_⟩;intro d s σ H Q I h;refine BoolOp_and (bI (ha d s σ H _ I h) λv i ⟨x,f,g,k,e⟩=>?_);obtain⟨c,rfl,e⟩:=e;cases k;refine wbq ?_
 cases c with
 |true=>exact j d i σ f Q g e
 |false=>exact⟨.bl false,f,g,rfl,e⟩
theorem G4(ha:PE X a ta):PE X (.UnaryOp .Not a pos) (Ow ta):=by
 refine⟨?_⟩;intro b s σ H Q I h;refine UnaryOp_ (bI (ha b s σ H _ I h) λv i ⟨x,e,f,g,d⟩=>?_);obtain⟨c,rfl,d⟩:=d;cases g;exact not_of (wbq ⟨.bl (!c),e,f,rfl,d⟩)
def XC(t:TT)(ta tb:TE):TE:=λσ H Q=>t σ H λc H1=>if c=true then ta σ H1 Q else tb σ H1 Q
theorem sU{c:Expr}(hc:PT X c tA)(ha:PE X a ta)(l:PE X b tb):PE X (.IfExp c a b pos) (XC tA ta tb):=by
 refine⟨?_⟩;intro e s σ H Q I h;refine wpAny_IfExp (bI (hc e s σ H _ I h) λd f ⟨g,i,j⟩=>?_)
 cases d with
 |true=>exact ha e f σ g Q i j
 |false=>exact l e f σ g Q i j
end
def aE(K:wa2)(H:Hp)(a:Addr)(xs:List V):Prop:=
 Rd H a (.lst xs) \/
  ∃(o:Obj) (its:Array Value) (n:Nat),K.lookup a=some o/\o.cls=.type "list"/\o.dict=none/\o.data=.seq its n/\its.size<=sizeLine/\Vals xs its.toList
def hZ(K:wa2)(H:Hp)(a:Addr)(xs:List V):Prop:=
 Rd H a (.tup xs) \/
  ∃(o:Obj) (its:Array Value) (n:Nat),K.lookup a=some o/\o.cls=.type "tuple"/\o.data=.seq its n/\its.size<=sizeLine/\Vals xs its.toList
noncomputable def Se:Value->Option V
 |.none=>some .non
 |.bool b=>some (.bl b)
 |.int i _=>some (.int i)
 |.str x _=>some (.str x)
 |.bytes b _=>some (.byt b)
 |.float b _=>some (.flt b)
 |.ref a=>some (.ref a)
 |.type n=>some (.ty n)
 |_=>none
theorem RelV.abs{x:V}{u:Value}(r:RelV x u):Se u=some x:=by
 cases x with
 |non=>cases r;rfl
 |bl _=>cases r;rfl
 |int _=>obtain⟨t,rfl⟩:=r;rfl
 |str _=>obtain⟨t,rfl⟩:=r;rfl
 |byt _=>obtain⟨t,rfl⟩:=r;rfl
 |flt _=>obtain⟨t,rfl⟩:=r;rfl
 |ref _=>cases r;rfl
 |ty _=>cases r;rfl
theorem RelV.inj{x y:V}{u:Value}(r:RelV x u)(q:RelV y u):x=y:=wae (r.abs.symm.trans q.abs)
theorem Vals.inj:∀{xs ys:List V} {us:List Value},Vals xs us->Vals ys us->xs=ys
 |_,_,_,.nil,.nil=>rfl
 |_,_,_,.cons r t,.cons a b=>by rw[r.inj a,Vals.inj t b]
section
variable{X:Cx}{pins:List (Addr×Obj)}{σ:St}{H:Hp}{s:Shared}{a:Addr}{xs ys:List V}
theorem aE.of{K:wa2}(h:H a=some (.lst xs)):aE K H a xs:=.inl (.inl h)
theorem hZ.of{K:wa2}(h:H a=some (.tup xs)):hZ K H a xs:=.inl (.inl h)
theorem Inv.list(I:Inv X pins σ H s)(h:aE X.K H a xs):∃g:List Value,Vals xs g/\PlainL s.heap a g.toArray/\xs.length<=sizeLine:=by
 rcases h with h |⟨o,g,n,hk,hc,hd,b,c,r⟩
 ·obtain⟨z,g,n,r,e⟩:=h.ok I.b7;exact⟨g,r,⟨_,n,e,rfl,rfl,rfl⟩,z⟩
 ·refine⟨g.toList,r,⟨o,n,I.hE a o hk,hc,hd,by simpa using b⟩,?_⟩;have e:=r.length;simp only[wcl]at e
  lia
theorem Inv.tuple(I:Inv X pins σ H s)(h:hZ X.K H a xs):∃g:List Value,Vals xs g/\IsTup s.heap a g.toArray/\xs.length<=sizeLine:=by
 rcases h with h |⟨o,g,n,hk,hc,b,c,r⟩
 ·obtain⟨z,g,r,p⟩:=h.ok I.b7;exact⟨g,r,p,z⟩
 ·refine⟨g.toList,r,⟨o,I.hE a o hk,hc,n,by simpa using b⟩,?_⟩;have e:=r.length;simp only[wcl]at e;omega
theorem Inv.sV(I:Inv X pins σ H s)(h:aE X.K H a xs)(h':aE X.K H a ys):xs=ys:=by
 obtain⟨c,r,⟨o,n,e,_,_,d⟩,_⟩:=I.list h;obtain⟨b,i,⟨j,k,f,_,_,g⟩,_⟩:=I.list h';rw[e]at f;cases f;rw[d]at g;injection g with l _
 have:c=b:=by grind
 subst this;exact r.inj i
end
noncomputable abbrev Cx.n7(X:Cx)(E:Value->Shared->Prop):Cx:={X with xe:=E}
noncomputable abbrev Cx.L7(X:Cx):Cx:=X.n7 λ_ _=>False
theorem Cx.Ok.n7{X:Cx}(ok:X.Ok)(E:Value->Shared->Prop):(X.n7 E).Ok:=
 ⟨ok.mod,ok.kind,ok.glob,ok.blt,ok.above,ok.inj,ok.has,ok.M5,ok.hd,ok.frames,ok.NW,ok.Rh,ok.bs,ok.G2,ok.Bf,ok.Eh,ok.nU,ok.Jk⟩
theorem Cx.Ok.fJ{X:Cx}{E:Value->Shared->Prop}(ok:(X.n7 E).Ok):X.Ok:=
 ⟨ok.mod,ok.kind,ok.glob,ok.blt,ok.above,ok.inj,ok.has,ok.M5,ok.hd,ok.frames,ok.NW,ok.Rh,ok.bs,ok.G2,ok.Bf,ok.Eh,ok.nU,ok.Jk⟩
section
variable{X:Cx}{pins:List (Addr×Obj)}{σ:St}{H:Hp}{s:Shared}{E:Value->Shared->Prop}
theorem Inv.n7(I:Inv X pins σ H s)(E:Value->Shared->Prop):Inv (X.n7 E) pins σ H s:=⟨I.ok.n7 E,I.os,I.bare,I.base,I.loc,I.cell,I.free,I.j6,I.pin,I.b7,I.len⟩
theorem Inv.fJ(I:Inv (X.n7 E) pins σ H s):Inv X pins σ H s:=⟨I.ok.fJ,I.os,I.bare,I.base,I.loc,I.cell,I.free,I.j6,I.pin,I.b7,I.len⟩
theorem SP.fJ(h:SP (X.n7 E) pins D f s'):SP X pins D f s':=by
 cases f with
 |next=>obtain⟨a,b,I,q⟩:=h;exact⟨a,b,I.fJ,q⟩
 |brk=>obtain⟨a,b,I,q⟩:=h;exact⟨a,b,I.fJ,q⟩
 |cont=>obtain⟨a,b,I,q⟩:=h;exact⟨a,b,I.fJ,q⟩
 |ret u=>obtain⟨v,a,b,I,r,q⟩:=h;exact⟨v,a,b,I.fJ,r,q⟩
theorem sy.L7{st:List Stmt}{t:TS}(h:sy X.L7 st t):sy X st t:=⟨λpins s σ H D I hw=>
 wb1 (h pins s σ H D (I.n7 _) hw) (λ_ _ q=>q.fJ) λ_ _ z=>waU z⟩
end
section
variable{X:Cx}{st:Stmt}{rest:List Stmt}{t u:TS}{e:Expr}{te:TE}{pos:Pos}
def Ox:TS:=λD σ H=>D.nx σ H
def M9(t u:TS):TS:=λD σ H=>t (D.L6 (u D)) σ H
theorem aH:sy X [] Ox:=⟨λ_ _ σ H _ I h=>wce ⟨σ,H,I,h⟩⟩
theorem a5(g:PS X st t)(j:sy X rest u):sy X (st::rest) (M9 t u):=by
 refine⟨?_⟩;intro a s σ H D I h;refine wcM (bI (g a s σ H (D.L6 (u D)) I h) λf c q=>?_)
 cases f with
 |next=>
  obtain⟨b,d,e,q⟩:=q;exact j a c b d D e q
 |ret v=>exact q
 |brk=>exact q
 |cont=>exact q
theorem a9(g:PS X st t):sy X [st] t:=by
 refine⟨?_⟩;intro a s σ H D I h;refine wcM (bI (g a s σ H D I h) λf b q=>?_)
 cases f with
 |next=>exact wce q
 |ret v=>exact q
 |brk=>exact q
 |cont=>exact q
def Ma:TS:=λD σ H=>D.bk σ H
theorem G5:PS X (.Break pos) Ma:=⟨λ_ _ σ H _ I h=>wpAny_Break ⟨σ,H,I,h⟩⟩
theorem Inv.quiet(I:Inv X g σ H s):interactive X.env=false:=by simp[interactive,I.ok.kind]
def Oy(te:TE):TS:=λD σ H=>te σ H λ_ H1=>D.nx σ H1
theorem bu(he:PE X e te)(hs:wc1 e none pos.line X.env=pure false:=by rfl):PS X (.Expr e pos) (Oy te):=by
 refine⟨?_⟩;intro a s σ H D I h;exact wpAny_Expr_any (bI (he a s σ H _ I h) λv f ⟨x,b,c,g,d⟩=>⟨σ,b,c,d⟩) I.quiet hs
def Sf(te:TE):TS:=λD σ H=>te σ H D.rt
theorem ay(he:PE X e te):PS X (.Return (some e) pos) (Sf te):=by
 refine⟨?_⟩;intro a s σ H D I h;exact wpAny_Return_some (bI (he a s σ H _ I h) λv g ⟨x,b,c,d,f⟩=>⟨x,σ,b,c,d,f⟩)
def Sg(c:TT)(t u:TS):TS:=λD σ H=>c σ H λb H1=>if b=true then t D σ H1 else u D σ H1
theorem bj{c:Expr}{a b:List Stmt}{g:TT}(hc:PT X c g)(ha:sy X a t)(l:sy X b u):PS X (.If c a b pos) (Sg g t u):=by
 refine⟨?_⟩;intro e s σ H D I h;refine wpAny_If (bI (hc e s σ H _ I h) λd f ⟨i,j,k⟩=>?_)
 cases d with
 |true=>exact ha e f σ i D j k
 |false=>exact l e f σ i D j k
def Mb:TS:=λ_ _ _=>False
theorem cJ:sy X g Mb:=⟨λ_ _ _ _ _ _ h=>h.elim⟩
end
noncomputable abbrev TG:=V->St->Hp->(St->Hp->Prop)->Prop
noncomputable abbrev NX:=List V->St->Hp->(St->Hp->Prop)->Prop
abbrev Vd(X:Cx)(target:Expr)(t:TG):Prop:=
 ∀(pins:List (Addr×Obj)) (s:Shared) (σ:St) (H:Hp) (v:V) (u:Value) (Q:St->Hp->Prop),Inv X pins σ H s->RelV v u->t v σ H Q ->
  wpAny (model X.prog X.w) X.A (assign target X.env u) (λ_ s'=>∃σ' H',Inv X pins σ' H' s'/\Q σ' H') X.xe s
structure PG(X:Cx)(target:Expr)(t:TG):Prop where
 go:Vd X target t
instance {X:Cx} {target:Expr} {t:TG}:CoeFun (PG X target t) λ_=>Vd X target t:=⟨PG.go⟩
abbrev Oz(X:Cx)(ts:List Expr)(t:NX):Prop:=
 ∀(pins:List (Addr×Obj)) (s:Shared) (σ:St) (H:Hp) (vs:List V) (us:List Value) (Q:St->Hp->Prop),Inv X pins σ H s->Vals vs us->t vs σ H Q ->
  wpAny (model X.prog X.w) X.A (assignInOrder ((wdl ts X.env).map (·.2)) us) (λ_ s'=>∃σ' H',Inv X pins σ' H' s'/\Q σ' H') X.xe s
structure NY(X:Cx)(ts:List Expr)(t:NX):Prop where
 go:Oz X ts t
instance {X:Cx} {ts:List Expr} {t:NX}:CoeFun (NY X ts t) λ_=>Oz X ts t:=⟨NY.go⟩
noncomputable abbrev Md:=V->V->V->Hp->(Hp->Prop)->Prop
def OA(X:Cx)(t:Md):Prop:=
 ∀(pins:List (Addr×Obj)) (s:Shared) (σ:St) (H:Hp) (o i v:V) (ov iv u:Value) (Q:Hp->Prop),Inv X pins σ H s->RelV o ov->RelV i iv->RelV v u->t o i v H Q ->
  wpAny (model X.prog X.w) X.A (setItem ov iv u) (λ_ s'=>∃H',Inv X pins σ H' s'/\Q H') X.xe s
noncomputable abbrev OB:=V->V->Hp->VK->Prop
def OC(X:Cx)(op:Operator)(t:OB):Prop:=
 ∀(pins:List (Addr×Obj)) (s:Shared) (σ:St) (H:Hp) (x y:V) (v u:Value) (Q:VK),Inv X pins σ H s->RelV x v->RelV y u->t x y H Q ->
  wpAny (model X.prog X.w) X.A (inplaceOp op v u) (EP X pins σ Q) X.xe s
section
variable{X:Cx}{pos:Pos}
def eV(i:Nat):TG:=λv σ H Q=>Q (σ.set i (some v)) H
theorem jy(g:X.N.Nodup)(hi:X.N[i]?=some x)(j:Loc X.env.scope x)(l:X.fn x=true\/X.env.scope.names.lookup x=some .local:=by first |exact .inl rfl |exact .inr rfl |assumption):PG X (.Name x pos) (eV i):=by
 refine⟨?_⟩;intro a s σ H v u Q I r h;exact wpAny_assign_Name (j7 I g hi j r (λc b=>⟨_,H,b,h⟩) l)
inductive G6(vs:List V)(σ:St)(H:Hp)(Q:St->Hp->Prop):Prop
 |mk (_:vs=[]) (_:Q σ H)
inductive kJ(t:TG)(u:NX)(vs:List V)(σ:St)(H:Hp)(Q:St->Hp->Prop):Prop
 |mk (v r) (_:vs=v::r) (_:t v σ H λσ' H'=>u r σ' H' Q)
theorem cG:NY X [] G6:=by
 refine⟨?_⟩;intro a s σ H b c Q I r h;obtain⟨e,h⟩:=h;subst e;cases r;exact assignInOrder_nil ⟨σ,H,I,h⟩
theorem aL{e:Expr}{g:List Expr}{t:TG}{u:NX}(j:PG X e t)(l:NY X g u)
 (hs:(wdl (e::g) X.env).map (·.2)=assign e X.env::(wdl g X.env).map (·.2):=by rfl):NY X (e::g) (kJ t u):=by
 refine⟨?_⟩;intro a s σ H n o Q I r h;obtain⟨v,p,c,h⟩:=h;subst c
 cases r with
 |cons r d=>
  rw[hs];refine assignInOrder_cons (bI (j a s σ H _ _ _ I r h) λ_ f ⟨b,i,k,m⟩=>?_);exact l a f b i _ _ Q k d m
inductive G7(K:wa2)(n:Nat)(t:NX)(v:V)(σ:St)(H:Hp)(Q:St->Hp->Prop):Prop
 |mk (a xs) (_:v=.ref a) (_:hZ K H a xs) (_:xs.length=n) (_:t xs σ H Q)
theorem dU(hc:X.calm=true)(h:NY X g t)
 (hn:(wdl g X.env).length=n:=by rfl) (j:(wdl g X.env).findIdx? (·.1)=none:=by rfl):PG X (.Tuple g k pos) (G7 X.K n t):=by
 refine⟨?_⟩;intro c s σ H v u Q I r hw;obtain⟨a,f,i,l,hl,hw⟩:=hw;subst i;cases r;obtain⟨m,d,p,y⟩:=I.tuple l;refine assign_Tuple_tuple (I.ok.hd hc) p (by simp[hn,<-hl,d.length]) j λq w=>?_;have x:Inv X c σ H {s with heap:=q}:=I.kept (t':=s.toks) λb o e=>w b o (wat (wag e)) e;exact h c _ σ H f _ Q x (by simpa using d) hw
def Sh(to ti:TE)(t:Md):TG:=λv σ H Q=>to σ H λo H1=>ti σ H1 λi H2=>t o i v H2 λH3=>Q σ H3
theorem G8{o i:Expr}{l p:TE}{t:Md}(C:PE X o l)(hi:PE X i p)(hs:OA X t)
 (ha:∀v,assign (.Subscript o i pos) X.env v=(do
   let g <-holding [v] (eval o X.env)
   let j <-holding [v,g] (eval i X.env)
   standAt pos
   holding [v,g,j] (setItem g j v)
   release [v,g,j] []):=by intro _;rfl):PG X (.Subscript o i pos) (Sh l p t):=by
 refine⟨?_⟩;intro a s σ H v u Q I r h;rw[ha];refine wa6 (wbj (bI (C a s σ H _ I h) λg b ⟨x,c,d,e,f⟩=>?_));refine wa6 (wbj (bI (hi a b σ c _ d f) λj k ⟨y,m,n,q,w⟩=>?_));refine wa6 (wds (wa6 (wbj (bI (hs a k σ m x y v g j u _ n e q r w) λ_ D ⟨z,A,B⟩=>?_))));exact wpAny_release ⟨σ,z,A,B⟩
def Jn(te:TE)(g:TG):TS:=λD σ H=>te σ H λx H1=>g x σ H1 D.nx
theorem sW{j e:Expr}{l:TE}{g:TG}(he:PE X e l)(p:PG X j g)(hs:swapsWithSole [j] e pos.line X.env=pure false:=by rfl)(hw:swappedStores [j] e X.env=pure none:=by rfl)
 (r:(wdl [j] X.env).map (·.2)=[assign j X.env]:=by rfl):PS X (.Assign [j] e pos) (Jn l g):=by
 refine⟨?_⟩;intro a s σ H D I h;refine wpAny_Assign_stores (bI (he a s σ H _ I h) λv b ⟨x,c,d,f,i⟩=>?_) hs hw;rw[r];exact bI (p a b σ c x v _ d f i) λ_ k q=>q
theorem G9{i:Nat}{x:Str}{e:Expr}{j:TE}{g:Pos}(l:X.N.Nodup)(hi:X.N[i]?=some x)(p:Loc X.env.scope x)(he:PE X e j)(hs:wc1 e (some (.Name x g)) pos.line X.env=pure false:=by rfl)(r:X.fn x=true\/X.env.scope.names.lookup x=some .local:=by first |exact .inl rfl |exact .inr rfl |assumption) :
 PS X (.Assign [.Name x g] e pos) (Jn j (eV i)):=by
 refine⟨?_⟩;intro a s σ H D I h;refine wdY (bI (he a s σ H _ I h) λv m ⟨y,b,c,d,f⟩=>?_) hs;exact j7 c l hi p d (λn k=>⟨_,b,k,f⟩) r
inductive Si(i:Nat)(te:TE)(ti:OB)(D:Ends)(σ:St)(H:Hp):Prop
 |mk (x) (_:σ[i]?=some (some x)) (_:te σ H λy H1=>ti x y H1 λz H2=>D.nx (σ.set i (some z)) H2)
theorem kK{i:Nat}{x:Str}{e:Expr}{p:TE}{op:Operator}{t:OB}{g:Pos}(C:X.N.Nodup)(hi:X.N[i]?=some x)(j:Loc X.env.scope x)(he:PE X e p)(J:OC X op t)(T:X.fn x=true\/X.env.scope.names.lookup x=some .local:=by first |exact .inl rfl |exact .inr rfl |assumption) :
 PS X (.AugAssign (.Name x g) op e pos) (Si i p t):=by
 refine⟨?_⟩;intro a s σ H D I h;obtain⟨v,o,h⟩:=h;obtain⟨m,hn,hl⟩:=I.loc;have n:Ot X.env.scope x:=by rcases j with k |k;exact .inl k;exact .inr (.inl k)
 obtain⟨u,r,l⟩:=hl i x v hi o n;refine wpAny_AugAssign_Name ?_
 have go:wpAny (model X.prog X.w) X.A (eval e X.env) (λw d=>wpAny (model X.prog X.w) X.A (inplaceOp op u w) (λr f=>wpAny (model X.prog X.w) X.A (storeName X.env x r) (λ_=>SP X a D .next) X.xe f) X.xe d) X.xe s:=by
  refine bI (he a s σ H _ I h) λw q ⟨y,B,E,G,L⟩=>?_;refine bI (J a q σ B v y u w _ E r G L) λz V ⟨Y,M,O,Q,R⟩=>?_;exact j7 O C hi j Q (λZ S=>⟨_,M,S,R⟩) T
 rcases l with⟨hk,U⟩ |⟨hk,c,hc,b⟩
 ·exact wgh I.ok.kind hk hn U go
 ·rcases hk with hk |hk
  ·exact wgv I.ok.kind hk hc b go
  ·rcases j with k |k
   ·have:X.env.scope.names.lookup x=some .free:=hk;rw[k]at this;cases this
   ·have:X.env.scope.names.lookup x=some .free:=hk;rw[k]at this;cases this
noncomputable def Ve(f:Int->Int->Int):OB:=λx y H Q=>∃i j,x=.int i/\y=.int j/\Q (.int (f i j)) H
theorem Bj:OC X .Add (Ve λi j=>i+j):=by
 intro a s σ H x y v u Q I b c h;obtain⟨i,j,d,e,q⟩:=h;subst d;subst e;obtain⟨t,rfl⟩:=b;obtain⟨f,rfl⟩:=c;exact iadd_int ⟨.int _,H,I.tok _,⟨_,rfl⟩,q⟩
theorem Mf:OC X .Sub (Ve λi j=>i-j):=by
 intro a s σ H x y v u Q I b c h;obtain⟨i,j,d,e,q⟩:=h;subst d;subst e;obtain⟨t,rfl⟩:=b;obtain⟨f,rfl⟩:=c;exact isub_int ⟨.int _,H,I.tok _,⟨_,rfl⟩,q⟩
end
section
variable{X:Cx}{pos:Pos}
def Mg(c:TT)(tb:TS):TS:=λD σ H=>∃W:Nat->St->Hp->Prop,(∃m,W m σ H)/\∀m σ H,W m σ H ->
 c σ H λb H1=>if b=true then ∃N:St->Hp->Prop,(∀σ' H',N σ' H'->∃m',m'<m/\W m' σ' H')/\tb (D.lp N) σ H1 else D.nx σ H1
theorem j8{c:Expr}{body:List Stmt}{t:TT}{C:TS}(J:PassesOwn (model X.prog X.w) X.A X.env X.xe)(hc:PT X c t)(T:sy X body C):PS X (.While c body [] pos) (Mg t C):=by
 refine⟨?_⟩;intro a s σ H D I h;obtain⟨W,⟨E,G⟩,g⟩:=h;refine wpAny_While (codeAny_whileLoop (λn L=>∃i u,Inv X a i u L/\W n i u) ?_ E ⟨σ,H,I,G⟩);rintro n M ⟨e,x,O,Q⟩;refine wcv J (bI (hc a M e x _ O (g n e x Q)) λb R ⟨y,z,k⟩=>?_)
 cases b with
 |true=>
  obtain⟨N,B,k⟩:=k;rw[if_pos rfl];refine wcv J (bI (T a R e y _ z k) λf S l=>?_)
  cases f with
  |next=>
   obtain⟨d,j,m,o⟩:=l;obtain⟨p,q,r⟩:=B d j o;exact⟨p,q,d,j,m,r⟩
  |cont=>
   obtain⟨d,j,m,o⟩:=l;obtain⟨p,q,r⟩:=B d j o;exact⟨p,q,d,j,m,r⟩
  |brk=>exact l
  |ret v=>exact l
 |false=>
  rw[if_neg wam];exact wce ⟨e,y,z,k⟩
end
structure It where
 go:Nat->Hp->Prop
 sX:Nat->Hp->V->Hp->Prop
 stop:Nat->Hp->Prop
def sY(X:Cx)(pins:List (Addr×Obj))(H:Hp)(b:Addr):Prop:=
 H b=none/\b≠X.env.locals/\b∉X.fs/\(b∈X.ex\/X.s₀.heap.objs.size<=b)/\(∀x c,X.env.cells.lookup x=some c->c≠b)/\∀p∈X.pn++pins,p.1≠b
theorem Inv.Bk{X:Cx}(I:Inv X g σ H s)(j:s.heap.objs.size<=b)(hn:l b=none):sY X g l b:=by
 refine⟨hn,wc4 (war I.lt j),I.Sa j,.inr (wai I.sz j),λx c e z=>?_,λp a z=>?_⟩
 ·obtain⟨v,q⟩:=I.cell x c e;exact absurd (war q.lt (by rw[z];exact j)) (wb7 _)
 ·exact absurd (war (wag (I.pin p a).1) (by rw[z];exact j)) (wb7 _)
structure Turn(P:wap)(w:World)(K:wa2)(tg:Expr)(J:It)(fp:List Addr)(it:Addr)(tn:Nat->Heap->Prop):Prop where
 mem:it∈fp
 obj:∀i h,tn i h->∀b∈fp,∃o,h.get? b=some o/\∀v,o.data≠.cell v
 keep:∀i h h',tn i h->(∀b∈fp,∀o,h.get? b=some o->h'.get? b=some o)->tn i h'
 item:∀(X:Cx),X.prog=P->X.w=w->X.K=K->X.calm=true->∀(i:Nat) (pins:List (Addr×Obj)) (s:Shared) (σ:St) (H:Hp) (E:Value->Shared->Prop),Inv X pins σ H s->(∀b∈fp,sY X pins H b)->tn i s.heap->J.go i H ->
  wpAny (model P w) X.A (pyNext (.ref it)) (λr s1=>∃u,r=some u /\
   wpAny (model P w) X.A (wel tg (.ref it) u) (λ_ s2=>∃x H',Inv X pins σ H' s2/\RelV x u/\J.sX i H x H'/\tn (i+1) s2.heap/\∀b∈fp,H' b=none) E s1) E s
 done:∀(X:Cx),X.prog=P->X.w=w->X.K=K->X.calm=true->∀(i:Nat) (pins:List (Addr×Obj)) (s:Shared) (σ:St) (H:Hp) (E:Value->Shared->Prop),Inv X pins σ H s->(∀b∈fp,sY X pins H b)->tn i s.heap->J.stop i H ->
   wpAny (model P w) X.A (pyNext (.ref it)) (λr s1=>r=none/\Inv X pins σ H s1) E s
 self:∀(A:Around) (i:Nat) (s:Shared) (Q:Value->Shared->Prop) (E:Value->Shared->Prop),tn i s.heap->Q (.ref it) s->wpAny (model P w) A (pyIter (.ref it)) Q E s
noncomputable abbrev TI:=St->Hp->(It->Hp->Prop)->Prop
def OD(X:Cx)(pins:List (Addr×Obj))(σ:St)(tg:Expr)(R:It->Hp->Prop)(Sj:Value)(s2:Shared):Prop:=
 ∃(it:Addr) (fp:List Addr) (tn:Nat->Heap->Prop) (J:It) (H':Hp),Sj=.ref it/\Inv X pins σ H' s2/\Turn X.prog X.w X.K tg J fp it tn/\tn 0 s2.heap/\(∀b∈fp,sY X pins H' b)/\R J H'
abbrev Vf(X:Cx)(tg iter:Expr)(wi:TI):Prop:=
 ∀(pins:List (Addr×Obj)) (s:Shared) (σ:St) (H:Hp) (R:It->Hp->Prop),Inv X pins σ H s->wi σ H R ->
  wpAny (model X.prog X.w) X.A (eval iter X.env) (λv s1=>wpAny (model X.prog X.w) X.A (pyIter v) (OD X pins σ tg R) X.xe s1) X.xe s
structure PI(X:Cx)(tg iter:Expr)(wi:TI):Prop where
 go:Vf X tg iter wi
instance {X:Cx} {tg iter:Expr} {wi:TI}:CoeFun (PI X tg iter wi) λ_=>Vf X tg iter wi:=⟨PI.go⟩
theorem Dp{E:Value->Shared->Prop}{Q:Unit->Shared->Prop}(j:s.heap.get? it=some o)(hc:o.cls=.type n)(hd:o.data=.fields vs)
 (hn:["enumerate","zip","dict_itemiterator","dict_reverseitemiterator","odict_iterator","itertools.zip_longest","itertools.pairwise"].contains n=false) (g:Q () s):wpAny M A (wel l (.ref it) u) Q E s:=by
 unfold wel
 cases l<;>first
  |exact wax g
  |(cases u<;>first
     |exact wax g
     |(refine wa6 (wpAny_load j ?_)
       rw[hc,hd];show wpAny M A (if (["enumerate","zip","dict_itemiterator","dict_reverseitemiterator","odict_iterator","itertools.zip_longest","itertools.pairwise"].contains n&&vs[0]?==some (rawInt _))=true then _ else _) Q E s;rw[if_neg (by grind)]
       exact wax g))
noncomputable def NZ(K:wa2)(a:Addr):It:=
 ⟨λi H=>∃xs x,aE K H a xs/\xs[i]?=some x,λi H x H'=>H'=H/\∀xs,aE K H a xs->xs[i]?=some x,λi H=>∃xs,aE K H a xs/\xs.length<=i⟩
noncomputable def L8(lo:Int)(n:Nat):It:=⟨λi _=>i<n,λi H x H'=>H'=H/\x=.int (lo+i),λi _=>n<=i⟩
theorem Ei{P:wap}{w:World}{K:wa2}{T:Expr}(a it:Addr):Turn P w K T (NZ K a) [it] it (λi h=>h.IsListIter it a i) where
 mem:=by simp
 obj:=λi h st b g=>by
  have e:b=it:=by simpa using g
  subst e;obtain⟨o,e,c,d⟩:=st;exact⟨o,e,λv z=>by rw[d]at z;cases z⟩
 keep:=λi h l st k=>st.at λo e=>k it (by simp) o e
 item:=by
  intro X q hw r hc i f s σ H E I m st t;subst q hw r;obtain⟨L,x,n,y⟩:=t;obtain⟨A,B,p,M⟩:=I.list n;obtain⟨u,N,O⟩:=B.get y;obtain⟨C,f1,f2,D,G,J⟩:=m it (by simp);refine wpAny_pyNext_list_item st p.isList (x:=u) (by simpa using N) λl j sb=>?_;have Q:Inv X f σ H {s with heap:=l}:=I.turned (t':=s.toks) (λb o g e=>(sb.2 b g).trans e) C f1 D G J;obtain⟨o,e,c,d⟩:=id j;exact⟨u,rfl,Dp (s:={s with heap:=l}) e c d (by decide) ⟨x,H,Q,O,⟨rfl,λU R=>by rw[I.sV R n];exact y⟩,j,λb g=>(m b g).1⟩⟩
 done:=by
   intro X q hw r hc i f s σ H E I m st t;subst q hw r;obtain⟨L,n,y⟩:=t;obtain⟨A,B,p,M⟩:=I.list n;obtain⟨C,f1,f2,D,G,J⟩:=m it (by simp);have hl:=B.length;exact wpAny_pyNext_list_end (I.ok.hd hc) st p.isList (by simp;lia) λl S=>⟨rfl,I.turned (t':=s.toks) (λb o g e=>S b o g e) C f1 D G J⟩
 self:=λ_ _ _ _ _ st h=>wpAny_pyIter_listiter st h
theorem Bl{P:wap}{w:World}{K:wa2}{C:Expr}(it:Addr)(lo:Int)(n:Nat):Turn P w K C (L8 lo n) [it] it (λi h=>IsRangeIter h it (lo+(i:Nat)*1) ((n:Int)-(i:Nat)) 1) where
 mem:=by simp
 obj:=λi h st b c=>by
  have e:b=it:=by simpa using c
  subst e
  exact⟨_,st,λv z=>by
   have y:wfN _=wgF v:=z
   cases y⟩
 keep:=λi h f st k=>k it (by simp) _ st
 item:=by
  intro X j hw l hc i a s σ H E I g st m;subst j hw l;obtain⟨p,f1,f2,q,r,u⟩:=g it (by simp);have A:=Walks.range (prog:=X.prog) (w:=X.w) (I.ok.hd hc) it lo 1 n;refine A.item i s _ _ m st λv f x B d D=>?_;obtain⟨t,rfl⟩:=B;have G:Inv X a σ H {s with heap:=f,toks:=x}:=I.turned (λb o c e=>D b o (by simpa using c) e) p f1 q r u;refine⟨_,rfl,Dp (s:={s with heap:=f,toks:=x}) (n:="range_iterator") d rfl rfl (by decide) ⟨.int (lo+i),H,G,⟨t,?_⟩,⟨rfl,rfl⟩,d,λb c=>(g b c).1⟩⟩;rw[Int.mul_one]
 done:=by
   intro X j hw l hc i a s σ H E I g st m;subst j hw l;obtain⟨p,f1,f2,q,r,u⟩:=g it (by simp);exact wpAny_pyNext_range_end (I.ok.hd hc) st (by have:n<=i:=m;lia) λf J=>⟨rfl,I.turned (t':=s.toks) (λb o c e=>J b o c e) p f1 q r u⟩
 self:=λ_ _ _ _ _ st h=>wpAny_pyIter_rangeiter st h
section
variable{X:Cx}{tg:Expr}
def OG(K:wa2)(tl:TE):TI:=λσ H R=>tl σ H λx H1=>∃a,x=.ref a/\(∃xs,aE K H1 a xs)/\R (NZ K a) H1
theorem aK{l:Expr}{g:TE}(hl:PE X l g):PI X tg l (OG X.K g):=by
 refine⟨?_⟩;intro c s σ H R I h;refine bI (hl c s σ H _ I h) λv d ⟨x,i,f,j,k⟩=>?_;obtain⟨a,e,⟨t,m⟩,q⟩:=k;subst e;cases j;obtain⟨n,u,p,w⟩:=f.list m;refine wcB p.isList ?_;refine⟨d.heap.objs.size,[d.heap.objs.size],_,_,i,rfl,f.kept (t':=d.toks) λb o e=>wa9 _ e,Ei a _,⟨_,waw _ rfl,rfl,rfl⟩,λb r=>?_,q⟩;have e:b=d.heap.objs.size:=by simpa using r
 subst e;exact f.Bk (wab _) (f.b7.fresh (wab _))
theorem zj{g:List (Addr×Obj)}{σ:St}{H:Hp}{s:Shared}{R:It->Hp->Prop}{E:Value->Shared->Prop}{lo hi:Int}{t u v:Tok}{tk:Nat}(I:Inv X g σ H s)(j:-(2^62)<=lo)(l:lo<2^62)(p:-(2^62)<=hi)(r:hi<2^62)
 (q:R (L8 lo (hi-lo).toNat) H):wpAny (model X.prog X.w) X.A (pyIter (.ref s.heap.objs.size)) (OD X g σ tg R) E {s with heap:=s.heap.push {cls:=.type "range",data:=.fields #[.int lo t,.int hi u,.int 1 v]},toks:=tk}:=by
 refine wpAny_pyIter_range (IsRange.new ..) (small_one j l p r) ?_;have a:Inv X g σ H {s with heap:=s.heap.push {cls:=.type "range",data:=.fields #[.int lo t,.int hi u,.int 1 v]},toks:=tk}:=I.kept λb o e=>wa9 _ e
 refine⟨(s.heap.push {cls:=.type "range",data:=.fields #[.int lo t,.int hi u,.int 1 v]}).objs.size,[(s.heap.push {cls:=.type "range",data:=.fields #[.int lo t,.int hi u,.int 1 v]}).objs.size],_,_,H,rfl,
  a.kept (t':=tk) λb o e=>wa9 _ e,Bl _ lo (hi-lo).toNat,?_,λb c=>?_,q⟩
 ·have d:lo+((0:Nat):Int)*1=lo:=by simp
  have f:(((hi-lo).toNat:Nat):Int)-((0:Nat):Int)=Builtin.Range.rangeSize lo hi 1:=by rw[rangeSize_one];split<;>lia
  show IsRangeIter _ _ (lo+((0:Nat):Int)*1) ((((hi-lo).toNat:Nat):Int)-((0:Nat):Int)) 1;rw[d,f];exact waw _ rfl
 ·have e:b=(s.heap.push {cls:=.type "range",data:=.fields #[.int lo t,.int hi u,.int 1 v]}).objs.size:=by simpa using c
  subst e;exact a.Bk (wab _) (a.b7.fresh (wab _))
def OH(ta:TA):TI:=λσ H R=>ta σ H λvs H1=>∃j:Int,vs=[.int j]/\-(2^62)<=j/\j<2^62/\R (L8 0 j.toNat) H1
def OI(ta:TA):TI:=λσ H R=>ta σ H λvs H1=>∃i j:Int,vs=[.int i,.int j]/\(-(2^62)<=i/\i<2^62/\-(2^62)<=j/\j<2^62)/\R (L8 i (j-i).toNat) H1
theorem d8(g:Gl X "range")(l:X.mg "range"=none)(ha:PA X [a] C)(hs:starEach [a] X.env=[(false,eval a X.env)]:=by rfl):PI X tg (.Call (.Name "range" p) [a] [] pos) (OH C):=by
 refine⟨?_⟩;intro b s σ H R I h;refine Call_ (ib I g l boot_range (wc2 (bI (ha pos b s σ H _ I h) λm n ⟨o,u,d,f,c⟩=>?_) hs rfl));obtain⟨j,e,c,i,q⟩:=c;subst e
 cases f with
 |cons r k=>
  cases k;obtain⟨t,rfl⟩:=r;exact call_range_1 (zj d (by lia) (by lia) c i (by simpa using q))
theorem pI(l:Gl X "range")(C:X.mg "range"=none)(ha:PA X [a,b] J)(hs:starEach [a,b] X.env=[(false,eval a X.env),(false,eval b X.env)]:=by rfl)(g:starEach [b] X.env=[(false,eval b X.env)]:=by rfl) :
 PI X tg (.Call (.Name "range" p) [a,b] [] pos) (OI J):=by
 refine⟨?_⟩;intro c s σ H R I h;refine Call_ (ib I l C boot_range (wc2 (bI (ha pos c s σ H _ I h) λw x ⟨y,z,k,m,d⟩=>?_) (by rw[hs,g]) (by rw[g];rfl)));obtain⟨i,j,e,⟨d,n,o,u⟩,q⟩:=d;subst e
 cases m with
 |cons r f=>
  cases f with
  |cons v f=>
   cases f;obtain⟨t,rfl⟩:=r;obtain⟨A,rfl⟩:=v;exact call_range_2 (zj k d n o u q)
def OJ(wi:TI)(g:TG)(tb:TS):TS:=λD σ H=>wi σ H λJ H1=>∃W:Nat->Nat->St->Hp->Prop,(∃m,W 0 m σ H1)/\∀i m σ H,W i m σ H ->
 (J.stop i H/\D.nx σ H)\/(J.go i H/\∃N:St->Hp->Prop,(∀σ' H',N σ' H'->∃m',m'<m/\W (i+1) m' σ' H')/\∀x H',J.sX i H x H'->g x σ H' λσ2 H2=>tb (D.lp N) σ2 H2)
noncomputable def sZ(fp:List Addr)(h:Heap):List (Addr×Obj):=fp.filterMap λb=>(h.get? b).map λo=>(b,o)
theorem jz(g:b∈j)(e:h.get? b=some o):(b,o)∈sZ j h:=wd0.mpr ⟨b,g,by rw[e];rfl⟩
theorem Ej(g:p∈sZ j h):p.1∈j/\h.get? p.1=some p.2:=by
 obtain⟨b,a,e⟩:=wd0.mp g
 cases q:h.get? b with
 |none=>grind
 |some o=>
  grind
theorem Inv.pinned(I:Inv X g σ H s)(l:∀b∈j,sY X g H b)(r:∀b∈j,∃o,s.heap.get? b=some o/\∀v,o.data≠.cell v):Inv X (g++sZ j s.heap) σ H s:=
 I.Dn λp f=>(waC.mp f).elim (λz=>I.pin p (waH _ z)) λz=>by
  obtain⟨a,e⟩:=Ej z;obtain⟨h,f1,f2,_⟩:=l p.1 a;obtain⟨o,c,d⟩:=r p.1 a;rw[e]at c;cases c;exact⟨e,h,f1,f2,d⟩
theorem Inv.nV(I:Inv X (g++pl) σ H s):Inv X g σ H s:=I.Dn λp a=>I.pin p (waH _ (wb0 _ a))
theorem Ga(C:PassesOwn (model X.prog X.w) X.A X.env X.xe)(hc:X.calm=true)(hi:PI X tg iter wi)(hg:PG X tg g)(j:sy X body tb)
 (hs:∀x,wbQ iter X.env x=pure x:=by intro _;rfl):PS X (.For tg iter body [] pos) (OJ wi g tb):=by
 refine⟨?_⟩;intro a s σ H D I h;refine wpAny_For (bI (hi a s σ H _ I h) λv s1 h1=>bI h1 λSj s2 h2=>?_) hs;obtain⟨it,E,tn,J,H2,e,I2,T,R,f2,W,⟨m0,w0⟩,G⟩:=h2;subst e;have k:∀{y:Hp},(∀b∈E,y b=none)->∀b∈E,sY X a y b:=λhn b j=>⟨hn b j,(f2 b j).2⟩;refine codeAny_forLoop_any (λn s'=>∃i l y,Inv X a l y s'/\tn i s'.heap/\(∀b∈E,y b=none)/\W i n l y) ?_ m0 ⟨0,σ,H2,I2,R,λb j=>(f2 b j).1,w0⟩;rintro n s3 ⟨i,p,Q,I3,L,M,w3⟩;rcases G i n p Q w3 with⟨stop,qn⟩ |⟨go,N,hN,step⟩
 ·refine wcv C (bI (T.done X rfl rfl rfl hc i a s3 p Q X.xe I3 (k M) L stop) λr s4 ⟨S,I4⟩=>?_);subst S;exact wce ⟨p,Q,I4,qn⟩
 ·refine wcv C (bI (T.item X rfl rfl rfl hc i a s3 p Q X.xe I3 (k M) L go) λr s4 ⟨u,S,h4⟩=>?_);subst S;refine wcv C (bI h4 λ_ s5 ⟨x,H5,I5,r5,y5,B,U⟩=>?_);have V:=I5.pinned (k U) (T.obj _ _ B);refine wcv C (bI (hg _ s5 p H5 x u _ V r5 (step x H5 y5)) λ_ s6 ⟨Y,H6,I6,q6⟩=>?_);refine wcv C (bI (j _ s6 Y H6 _ I6 q6) λf Z z=>?_)
  have again:∀{c:St} {q:Hp},Inv X (a++sZ E s5.heap) c q Z->N c q->∃m,m<n/\∃i l y,Inv X a l y Z/\tn i Z.heap/\(∀b∈E,y b=none)/\W i m l y:=λ{c q} t O=>by
   obtain⟨m',hm,w7⟩:=hN c q O;refine⟨m',hm,i+1,c,q,t.nV,T.keep _ _ _ B λb j o e=>(t.pin (b,o) (waH _ (waH _ (jz j e)))).1,λb j=>?_,w7⟩;obtain⟨o,e,d⟩:=T.obj _ _ B b j;exact(t.pin (b,o) (waH _ (waH _ (jz j e)))).2.1
  cases f with
  |next=>obtain⟨c,q,t,O⟩:=z;exact again t O
  |cont=>obtain⟨c,q,t,O⟩:=z;exact again t O
  |brk=>obtain⟨c,q,t,z⟩:=z;exact⟨c,q,t.nV,z⟩
  |ret v=>obtain⟨x7,c,q,t,r7,z⟩:=z;exact⟨x7,c,q,t.nV,r7,z⟩
end
theorem eh{K:wa2}{a:Addr}{xs:List V}{g:TG}{C:TS}{D:Ends}{σ:St}{H:Hp}(Pv:Nat->St->Hp->Prop)(h0:Pv 0 σ H)(hl:∀i σ H,i<=xs.length->Pv i σ H->aE K H a xs)
 (hs:∀i x σ H,xs[i]?=some x->Pv i σ H->g x σ H λj t=>C (D.lp (Pv (i+1))) j t) (hd:∀σ H,Pv xs.length σ H->D.nx σ H) :
 ∃W:Nat->Nat->St->Hp->Prop,(∃m,W 0 m σ H)/\∀i m σ H,W i m σ H ->
  ((NZ K a).stop i H/\D.nx σ H)\/((NZ K a).go i H/\∃N:St->Hp->Prop,(∀l r,N l r->∃I,I<m/\W (i+1) I l r)/\∀x r,(NZ K a).sX i H x r->g x σ r λj t=>C (D.lp N) j t):=by
 refine⟨λi m σ H=>m=xs.length-i/\i<=xs.length/\Pv i σ H,⟨xs.length,by simp,waJ _,h0⟩,?_⟩;rintro i m σ H ⟨rfl,hi,p⟩;have q:=hl i σ H hi p
 by_cases b:i<xs.length
 ·refine .inr ⟨⟨xs,xs[i],q,by simp[b]⟩,Pv (i+1),λl r c=>⟨xs.length-(i+1),by lia,rfl,b,c⟩,λx r y=>?_⟩;obtain⟨e,y⟩:=y;subst e;exact hs i x σ _ (y xs q) p
 ·have e:i=xs.length:=by lia
  subst e;exact .inl ⟨⟨xs,q,wab _⟩,hd σ H p⟩
theorem da{lo:Int}{n:Nat}{g:TG}{C:TS}{D:Ends}{σ:St}{H:Hp}(Pv:Nat->St->Hp->Prop)(h0:Pv 0 σ H)
 (hs:∀i σ H,i<n->Pv i σ H->g (.int (lo+i)) σ H λj t=>C (D.lp (Pv (i+1))) j t) (hd:∀σ H,Pv n σ H->D.nx σ H) :
 ∃W:Nat->Nat->St->Hp->Prop,(∃m,W 0 m σ H)/\∀i m σ H,W i m σ H ->
  ((L8 lo n).stop i H/\D.nx σ H)\/((L8 lo n).go i H/\∃N:St->Hp->Prop,(∀l r,N l r->∃I,I<m/\W (i+1) I l r)/\∀x r,(L8 lo n).sX i H x r->g x σ r λj t=>C (D.lp N) j t):=by
 refine⟨λi m σ H=>m=n-i/\i<=n/\Pv i σ H,⟨n,by simp,waJ _,h0⟩,?_⟩;rintro i m σ H ⟨rfl,hi,p⟩
 by_cases a:i<n
 ·refine .inr ⟨a,Pv (i+1),λl r b=>⟨n-(i+1),by lia,rfl,a,b⟩,λx r y=>?_⟩;obtain⟨e,y⟩:=y;subst e y;exact hs i σ _ a p
 ·have e:i=n:=by lia
  subst e;exact .inl ⟨wab _,hd σ H p⟩
noncomputable abbrev R2:=V->V->Hp->VK->Prop
def kI(X:Cx)(f:Value->Value->Sem Value)(r:R2):Prop:=
 ∀(pins:List (Addr×Obj)) (s:Shared) (σ:St) (H:Hp) (x y:V) (v u:Value) (Q:VK),Inv X pins σ H s->RelV x v->RelV y u->r x y H Q ->
  wpAny (model X.prog X.w) X.A (f v u) (EP X pins σ Q) X.xe s
def Sl(X:Cx)(f:Value->Sem Value)(r:V->Hp->VK->Prop):Prop:=
 ∀(pins:List (Addr×Obj)) (s:Shared) (σ:St) (H:Hp) (x:V) (v:Value) (Q:VK),Inv X pins σ H s->RelV x v->r x H Q ->
  wpAny (model X.prog X.w) X.A (f v) (EP X pins σ Q) X.xe s
def dA(X:Cx)(f:Value)(r:List V->Hp->VK->Prop):Prop:=
 ∀(pins:List (Addr×Obj)) (s:Shared) (σ:St) (H:Hp) (xs:List V) (us:List Value) (Q:VK),Inv X pins σ H s->Vals xs us->r xs H Q ->
  wpAny (model X.prog X.w) X.A (call f us) (EP X pins σ Q) X.xe s
def OM(r:R2)(ta tb:TE):TE:=λσ H Q=>ta σ H λx H1=>tb σ H1 λy H2=>r x y H2 Q
def XE(r:V->Hp->VK->Prop)(ta:TE):TE:=λσ H Q=>ta σ H λx H1=>r x H1 Q
inductive rI(C:Int->Int->Prop)(g:Int->Int->V)(x y:V)(H:Hp)(Q:VK):Prop
 |mk (i j) (_:x=.int i) (_:y=.int j) (_:C i j) (_:Q (g i j) H)
inductive La(g:Int->Int->V)(x y:V)(H:Hp)(Q:VK):Prop
 |mk (i j) (_:x=.int i) (_:y=.int j) (_:Q (g i j) H)
inductive rU(g:Int->V)(x:V)(H:Hp)(Q:VK):Prop
 |mk (i) (_:x=.int i) (_:Q (g i) H)
section
variable{X:Cx}{a b c:Expr}{ta tb tc:TE}{pos:Pos}
theorem Mh(ha:PE X a ta)(C:PE X b tb){R:V->V->Hp->Prop}(I:Inv X g σ H s)
 (h:ta σ H λx t=>tb σ t λy j=>R x y j) {Q:Value->Shared->Prop} {f:Value->Value->Sem Value}
 (J:∀v u r x y j,Inv X g σ j r->RelV x v->RelV y u->R x y j->wpAny (model X.prog X.w) X.A (f v u) Q X.xe r) :
 wpAny (model X.prog X.w) X.A (eval a X.env) (λv l=>wpAny (model X.prog X.w) X.A (eval b X.env) (λu p=>wpAny (model X.prog X.w) X.A (f v u) Q X.xe p) X.xe l) X.xe s:=by
 refine bI (ha g s σ H _ I h) λv c ⟨x,t,d,e,i⟩=>?_;refine bI (C g c σ t _ d i) λu r ⟨y,j,k,m,n⟩=>?_;exact J v u r x y j k e m n
theorem aN(g:kI X (binaryOp op) r)(ha:PE X a ta)(j:PE X b tb):PE X (.BinOp a op b pos) (OM r ta tb):=by
 refine⟨?_⟩;intro c s σ H Q I h;exact wpAny_BinOp (Mh ha j I h λv u d x y e f i k q=>g c d σ e x y v u Q f i k q)
theorem OO{r:V->Hp->VK->Prop}(g:Sl X (unaryOp op) r)(ha:PE X a ta):PE X (.UnaryOp op a pos) (XE r ta):=by
 refine⟨?_⟩;intro b s σ H Q I h;exact UnaryOp_ (bI (ha b s σ H _ I h) λv c ⟨x,d,e,f,i⟩=>g b c σ d x v Q e f i)
theorem Rj{f:Value->Value->Sem Value}{C:Int->Int->Prop}{g:Int->Int->Int}
 (rule:∀(i j:Int) (t u:Tok) (s:Shared) (Q:Value->Shared->Prop) (E:Value->Shared->Prop),C i j->Q (.int (g i j) s.toks) {s with toks:=s.toks+1}->wpAny (model X.prog X.w) X.A (f (.int i t) (.int j u)) Q E s) :
 kI X f (rI C λi j=>.int (g i j)):=by
 intro a s σ H x y v u Q I b c h;obtain⟨i,j,rfl,rfl,hc,q⟩:=h;obtain⟨t,rfl⟩:=b;obtain⟨d,rfl⟩:=c;exact rule i j t d s _ _ hc ⟨.int (g i j),H,I.tok _,⟨_,rfl⟩,q⟩
theorem OQ{f:Value->Value->Sem Value}{g:Int->Int->Int}
 (rule:∀(i j:Int) (t u:Tok) (s:Shared) (Q:Value->Shared->Prop) (E:Value->Shared->Prop),Q (.int (g i j) s.toks) {s with toks:=s.toks+1}->wpAny (model X.prog X.w) X.A (f (.int i t) (.int j u)) Q E s) :
 kI X f (La λi j=>.int (g i j)):=by
 intro a s σ H x y v u Q I b c h;obtain⟨i,j,rfl,rfl,q⟩:=h;obtain⟨t,rfl⟩:=b;obtain⟨d,rfl⟩:=c;exact rule i j t d s _ _ ⟨.int (g i j),H,I.tok _,⟨_,rfl⟩,q⟩
theorem Jo{f:Value->Value->Sem Value}{g:Int->Int->Bool}
 (rule:∀(i j:Int) (t u:Tok) (s:Shared) (Q:Value->Shared->Prop) (E:Value->Shared->Prop),Q (.bool (g i j)) s->wpAny (model X.prog X.w) X.A (f (.int i t) (.int j u)) Q E s) :
 kI X f (La λi j=>.bl (g i j)):=by
 intro a s σ H x y v u Q I b c h;obtain⟨i,j,rfl,rfl,q⟩:=h;obtain⟨t,rfl⟩:=b;obtain⟨d,rfl⟩:=c;exact rule i j t d s _ _ ⟨.bl (g i j),H,I,rfl,q⟩
def Sn(i j:Int):Prop:=0<j/\j<1073741824
def Jp(i j:Int):Prop:=(-(2^64)<i/\i<2^64)\/(-(2^64)<j/\j<2^64)
theorem Jp.ok{i j:Int}(h:Jp i j):IntMulOk i j:=by
 rcases h with⟨a,b⟩ |⟨a,b⟩
 ·exact .of_left (intBits_le_64 a b)
 ·exact .of_right (intBits_le_64 a b)
theorem gD:kI X (binaryOp .Add) (La λi j=>.int (i+j)):=OQ λ_ _ _ _ _ _ _ q=>add_int q
theorem jA:kI X (binaryOp .Sub) (La λi j=>.int (i-j)):=OQ λ_ _ _ _ _ _ _ q=>sub_int q
theorem jB:kI X (binaryOp .Mult) (rI Jp λi j=>.int (i*j)):=Rj λ_ _ _ _ _ _ _ hc q=>mul_int q hc.ok
theorem sC:kI X (binaryOp .FloorDiv) (rI Sn λi j=>.int (i/j)):=Rj λi j _ _ _ _ _ hc q=>by
 have a:(0:Int)<j:=hc.1;have b:j<1073741824:=hc.2;exact floordiv_int (by omega) (by rw[Int.fdiv_eq_ediv_of_nonneg i (by omega)];exact q) (.inl (PyProof.noPylong_small (by omega)))
theorem dk:kI X (binaryOp .Mod) (rI (λ_ j=>0<j) λi j=>.int (i%j)):=Rj λi j _ _ _ _ _ hc q=>by
 have a:(0:Int)<j:=hc;exact mod_int' (by lia) (by rw[Int.fmod_eq_emod_of_nonneg i (by lia)];exact q)
theorem XF{f:Value->Sem Value}{g:Int->Int}
 (rule:∀(i:Int) (t:Tok) (s:Shared) (Q:Value->Shared->Prop) (E:Value->Shared->Prop),Q (.int (g i) s.toks) {s with toks:=s.toks+1}->wpAny (model X.prog X.w) X.A (f (.int i t)) Q E s) :
 Sl X f (rU λi=>.int (g i)):=by
 intro a s σ H x v Q I b h;obtain⟨i,rfl,q⟩:=h;obtain⟨t,rfl⟩:=b;exact rule i t s _ _ ⟨.int (g i),H,I.tok _,⟨_,rfl⟩,q⟩
theorem Mi:Sl X (unaryOp .USub) (rU λi=>.int (-i)):=XF λ_ _ _ _ _ q=>neg_int q
end
noncomputable def OS:V->V->Bool
 |.non,.non=>true |.non,.int _=>true |.int _,.non=>true |.non,.bl _=>true |.bl _,.non=>true |.non,.str _=>true |.str _,.non=>true
 |.int _,.int _=>true |.bl _,.bl _=>true |.str _,.str _=>true |.byt _,.byt _=>true
 |.int _,.str _=>true |.str _,.int _=>true |.bl _,.str _=>true |.str _,.bl _=>true
 |_,_=>false
inductive XG(x y:V)(H:Hp)(Q:VK):Prop
 |mk (_:OS x y=true) (_:Q (.bl (decide (x=y))) H)
inductive XH(x y:V)(H:Hp)(Q:VK):Prop
 |mk (_:OS x y=true) (_:Q (.bl (!decide (x=y))) H)
theorem Dq:decide (V.int i=V.int j)=(i==j):=by
 rw[wem];simp
theorem Gb:decide (V.bl i=V.bl j)=(i==j):=by
 rw[wem];simp
theorem Dr:decide (V.str i=V.str j)=(i==j):=by
 rw[wem];simp
theorem Ds:decide (V.byt i=V.byt j)=(i.toList==j.toList):=by
 rw[wem];cases i;cases j;simp
section
variable{X:Cx}{a b c:Expr}{ta tb tc:TE}{pos:Pos}
theorem bf(I:Inv X g σ H s)(q:Q (.bl k) H)(e:k=j):EP X g σ Q (.bool j) s:=by
 subst e;exact⟨.bl k,H,I,rfl,q⟩
theorem nW:kI X (wb4 .Eq) XG:=by
 intro e s σ H x y v u Q I d a h;obtain⟨c,q⟩:=h
 cases x with
 |non=>
  cases d
  cases y with
  |non=>cases a;exact PySem.EqNone.eq_none_none (bf I q (by simp))
  |bl j=>cases a;exact PySem.EqNone.eq_none_bool (bf I q (by simp))
  |int j=>obtain⟨b,rfl⟩:=a;exact PySem.EqNone.eq_none_int (bf I q (by simp))
  |str j=>obtain⟨b,rfl⟩:=a;exact PySem.EqNone.eq_none_str (bf I q (by simp))
  |_=>exact absurd (show false=true from c) wam
 |bl i=>
  cases d
  cases y with
  |non=>cases a;exact PySem.EqNone.eq_bool_none (bf I q (by simp))
  |bl j=>cases a;exact eq_bool (bf I q Gb)
  |str j=>obtain⟨b,rfl⟩:=a;exact PySem.EqMixed.eq_bool_str (bf I q (by simp))
  |_=>exact absurd (show false=true from c) wam
 |int i=>
  obtain⟨t,rfl⟩:=d
  cases y with
  |non=>cases a;exact PySem.EqNone.eq_int_none (bf I q (by simp))
  |int j=>obtain⟨b,rfl⟩:=a;exact eq_int (bf I q Dq)
  |str j=>obtain⟨b,rfl⟩:=a;exact PySem.EqMixed.eq_int_str (bf I q (by simp))
  |_=>exact absurd (show false=true from c) wam
 |str i=>
  obtain⟨t,rfl⟩:=d
  cases y with
  |non=>cases a;exact PySem.EqNone.eq_str_none (bf I q (by simp))
  |bl j=>cases a;exact PySem.EqMixed.eq_str_bool (bf I q (by simp))
  |int j=>obtain⟨b,rfl⟩:=a;exact PySem.EqMixed.eq_str_int (bf I q (by simp))
  |str j=>obtain⟨b,rfl⟩:=a;exact eq_str (bf I q Dr)
  |_=>exact absurd (show false=true from c) wam
 |byt i=>
  obtain⟨t,rfl⟩:=d
  cases y with
  |byt j=>obtain⟨b,rfl⟩:=a;exact PySem.W.eq_bytes (bf I q Ds)
  |_=>exact absurd (show false=true from c) wam
 |_=>cases y<;>exact absurd (show false=true from c) wam
theorem wB:kI X (wb4 .NotEq) XH:=by
 intro e s σ H x y v u Q I d a h;obtain⟨c,q⟩:=h
 cases x with
 |non=>
  cases d
  cases y with
  |non=>cases a;exact PySem.EqNone.ne_none_none (bf I q (by simp))
  |bl j=>cases a;exact PySem.EqNone.ne_none_bool (bf I q (by simp))
  |int j=>obtain⟨b,rfl⟩:=a;exact PySem.EqNone.ne_none_int (bf I q (by simp))
  |str j=>obtain⟨b,rfl⟩:=a;exact PySem.EqNone.ne_none_str (bf I q (by simp))
  |_=>exact absurd (show false=true from c) wam
 |bl i=>
  cases d
  cases y with
  |non=>cases a;exact PySem.EqNone.ne_bool_none (bf I q (by simp))
  |bl j=>cases a;exact ne_bool (bf I q (congrArg not Gb))
  |str j=>obtain⟨b,rfl⟩:=a;exact PySem.EqMixed.ne_bool_str (bf I q (by simp))
  |_=>exact absurd (show false=true from c) wam
 |int i=>
  obtain⟨t,rfl⟩:=d
  cases y with
  |non=>cases a;exact PySem.EqNone.ne_int_none (bf I q (by simp))
  |int j=>obtain⟨b,rfl⟩:=a;exact ne_int (bf I q (congrArg not Dq))
  |str j=>obtain⟨b,rfl⟩:=a;exact PySem.EqMixed.ne_int_str (bf I q (by simp))
  |_=>exact absurd (show false=true from c) wam
 |str i=>
  obtain⟨t,rfl⟩:=d
  cases y with
  |non=>cases a;exact PySem.EqNone.ne_str_none (bf I q (by simp))
  |bl j=>cases a;exact PySem.EqMixed.ne_str_bool (bf I q (by simp))
  |int j=>obtain⟨b,rfl⟩:=a;exact PySem.EqMixed.ne_str_int (bf I q (by simp))
  |str j=>obtain⟨b,rfl⟩:=a;exact ne_str (bf I q (congrArg not Dr))
  |_=>exact absurd (show false=true from c) wam
 |byt i=>
  obtain⟨t,rfl⟩:=d
  cases y with
  |byt j=>obtain⟨b,rfl⟩:=a;exact PySem.W.ne_bytes (bf I q (congrArg not Ds))
  |_=>exact absurd (show false=true from c) wam
 |_=>cases y<;>exact absurd (show false=true from c) wam
theorem gW:kI X (wb4 .Lt) (La λi j=>.bl (decide (i<j))):=Jo λ_ _ _ _ _ _ _ q=>lt_int q
theorem Gd:kI X (wb4 .LtE) (La λi j=>.bl (decide (i<=j))):=Jo λ_ _ _ _ _ _ _ q=>le_int q
theorem kL:kI X (wb4 .Gt) (La λi j=>.bl (decide (j<i))):=Jo λ_ _ _ _ _ _ _ q=>gt_int q
theorem Dt:kI X (wb4 .GtE) (La λi j=>.bl (decide (j<=i))):=Jo λ_ _ _ _ _ _ _ q=>ge_int q
theorem pJ:kI X (wb4 .In) (λx y H Q=>∃i j,x=.str i/\y=.str j/\Q (.bl (!(wcQ j i 0 j.length 1).isEmpty)) H):=by
 intro a s σ H x y v u Q I b c h;obtain⟨i,j,rfl,rfl,q⟩:=h;obtain⟨t,rfl⟩:=b;obtain⟨d,rfl⟩:=c;exact in_str (bf I q rfl)
theorem Bm:kI X (wb4 .Is) (λx y H Q=>y=.non/\Q (.bl (decide (x=.non))) H):=by
 intro a s σ H x y v u Q I b c h;obtain⟨rfl,q⟩:=h;cases c;refine is_none_gen (bf I q ?_)
 cases x<;>first
  |(cases b;rfl)
  |(obtain⟨t,rfl⟩:=b;rfl)
theorem xZ:kI X (wb4 .IsNot) (λx y H Q=>y=.non/\Q (.bl (!decide (x=.non))) H):=by
 intro a s σ H x y v u Q I b c h;obtain⟨rfl,q⟩:=h;cases c;refine isnot_none_gen (bf I q ?_)
 cases x<;>first
  |(cases b;rfl)
  |(obtain⟨t,rfl⟩:=b;rfl)
theorem gE(b:Expr)(h:op≠.In:=by decide)(g:op≠.NotIn:=by decide):wcT op b=false:=by
 have a:(op==CmpOp.In)=false:=by grind
 have c:(op==CmpOp.NotIn)=false:=by grind
 cases b<;>simp[wcT,a,c]
theorem cT(g:kI X (wb4 op) r)(ha:PE X a ta)(j:PE X b tb)(l:wcT op b=false):PE X (.Compare a [op] [b] pos) (OM r ta tb):=by
 refine⟨?_⟩;intro c s σ H Q I h;exact wpAny_Compare1 (Mh ha j I h λv u d x y e f i k q=>g c d σ e x y v u Q f i k q) l
def Ge(t:TE):TT:=λσ H Q=>t σ H λx H'=>Vc x H' Q
theorem eW(g:kI X (wb4 op) r)(ha:PE X a ta)(j:PE X b tb)(l:wcT op b=false):PT X (.Compare a [op] [b] pos) (Ge (OM r ta tb)):=by
 refine⟨?_⟩;intro d s σ H Q I h
 refine wg4 (bI (ha d s σ H _ I h) λv f ⟨x,i,m,n,o⟩=>bI (j d f σ i _ m o) λu p ⟨y,q,t,w,A⟩=>
  bI (g d p σ q x y v u _ t n w A) λc G ⟨z,B,C,D,k,e,E⟩=>?_) l
 subst e;cases D;exact wbq ⟨B,C,E⟩
def Mj(r r':R2)(ta tb tc:TE):TE:=λσ H Q=>ta σ H λx H1=>tb σ H1 λy H2=>r x y H2 λz H3=>∃k,z=.bl k /\
 (if k=true then tc σ H3 λw' H4=>r' y w' H4 Q else Q (.bl false) H3)
theorem zk(p:kI X (wb4 op) r)(j:kI X (wb4 g) t)(ha:PE X a ta)(C:PE X b tb)(hc:PE X c tc)
 (J:lastMarks [op,g] [b,c]=false:=by with_unfolding_all rfl):PT X (.Compare a [op,g] [b,c] pos) (Ge (Mj r t ta tb tc)):=by
 refine⟨?_⟩;intro f s σ H Q I h
 refine isTrue_chain (bI (ha f s σ H _ I h) λv o ⟨x,q,w,A,B⟩=>test_link (bI (C f o σ q _ w B) λu D ⟨y,E,G,i,L⟩=>
  bI (p f D σ E x y v u _ G A i L) λd M ⟨z,l,m,N,k,e,n⟩=>?_)) J
 subst e;cases N;refine wbq ?_
 cases k with
 |false=>
  obtain⟨k',O,R⟩:=n;cases O;exact ite_ff ⟨l,m,R⟩
 |true=>
  refine ite_tt (test_last (bI (hc f M σ l _ m n) λS T ⟨U,V,Y,Z,q4⟩=>bI (j f T σ V y U u S _ Y i Z q4) λd' s5 ⟨z2,H5,I5,r5,k2,e2,q5⟩=>?_));subst e2;cases r5;exact wbq ⟨H5,I5,q5⟩
theorem n8:(sizeLine:Nat)<2^63:=by rw[wc5];decide
theorem n9:kI X (binaryOp .Add) (λx y H Q=>∃i j,x=.str i/\y=.str j/\i.length+j.length<=sizeLine/\Q (.str (i++j)) H):=by
 intro a s σ H x y v u Q I b c h;obtain⟨i,j,rfl,rfl,d,q⟩:=h;obtain⟨t,rfl⟩:=b;obtain⟨e,rfl⟩:=c;exact add_str (λe f=>⟨.str (i++j),H,I.tok _,⟨_,rfl⟩,q⟩) d
theorem zm:kI X (inplaceOp .Add) (λx y H Q=>∃i j,x=.str i/\y=.str j/\i.length+j.length<=sizeLine/\Q (.str (i++j)) H):=by
 intro a s σ H x y v u Q I b c h;obtain⟨i,j,rfl,rfl,d,q⟩:=h;obtain⟨t,rfl⟩:=b;obtain⟨e,rfl⟩:=c;exact iadd_str (λe f=>⟨.str (i++j),H,I.tok _,⟨_,rfl⟩,q⟩) d
theorem vals1(r:Vals [x] us):∃u,us=[u]/\RelV x u:=by
 cases r with
 |cons a b=>cases b;exact⟨_,rfl,a⟩
theorem vals2(r:Vals [x,y] us):∃u g,us=[u,g]/\RelV x u/\RelV y g:=by
 cases r with
 |cons a b=>
  cases b with
  |cons c d=>cases d;exact⟨_,_,rfl,a,c⟩
theorem Ek(hc:X.calm=true):dA X (.builtin "max") (λxs H Q=>∃i j,xs=[.int i,.int j]/\Q (.int (if j>i then j else i)) H):=by
 intro b s σ H xs c Q I r h;obtain⟨i,j,rfl,q⟩:=h;obtain⟨u,d,rfl,⟨t,rfl⟩,⟨e,rfl⟩⟩:=vals2 r;refine max_two_ints (I.ok.hd hc) λf g k=>⟨_,H,I.kept k,?_,q⟩
 by_cases a:j>i
 ·rw[if_pos a,if_pos a];exact⟨_,rfl⟩
 ·rw[if_neg a,if_neg a];exact⟨_,rfl⟩
theorem wC(hc:X.calm=true):dA X (.builtin "min") (λxs H Q=>∃i j,xs=[.int i,.int j]/\Q (.int (if j<i then j else i)) H):=by
 intro b s σ H xs c Q I r h;obtain⟨i,j,rfl,q⟩:=h;obtain⟨u,d,rfl,⟨t,rfl⟩,⟨e,rfl⟩⟩:=vals2 r;refine min_two_ints (I.ok.hd hc) λf g k=>⟨_,H,I.kept k,?_,q⟩
 by_cases a:j<i
 ·rw[if_pos a,if_pos a];exact⟨_,rfl⟩
 ·rw[if_neg a,if_neg a];exact⟨_,rfl⟩
end
structure Bn(h:Heap)(x dx C:Addr)(mA:Str->Option Value):Prop where
 obj:h.get? x=some (wcd C dx)
 ns:h.Ns1 dx mA
 ne:dx≠x
theorem El{h:Heap}{g:Addr}{j:Str->Option Value}(n:h.Ns1 g j):∃l,h.get? g=some l/\∀name,weI name l=some (j name):=by
 obtain⟨o,c,m,d,hd,hk,_,f⟩:=n;refine⟨o,d,λname=>?_⟩;have e:=f name;unfold nsFind findBy at e;rw[<-Array.find?_toList]at e;unfold weI;rw[hd];dsimp only;split
 ·rename_i y q;rw[q]at e;exact congrArg some e
 ·rename_i q;rw[q]at e
  have a:c.toList.any (·.refKey)=false:=by
   rw[wgS];intro y i;obtain⟨z,t,b⟩:=hk y (Array.mem_toList_iff.mp i);simp[DictEntry.refKey,b]
  have k:¬c.toList.any (·.refKey)=true:=by rw[a];exact wam
  rw[if_neg k];exact congrArg some e
theorem Bn.look{h:Heap}{x j C:Addr}{l:Str->Option Value}(I:Bn h x j C l):∃g,PySem.W.InstAt h x (wcd C j) C (some g)/\∀name,weI name g=some (l name):=
 let ⟨g,a,hl⟩:=El I.ns
 ⟨g,⟨I.obj,rfl,rfl,a⟩,hl⟩
section
variable{prog:wap}{w:World}{A:Around}{E:Value->Shared->Prop}{s:Shared}{K:wa2}{x dx C f:Addr}{mA:Str->Option Value}{name:Str}{v:Value}
theorem get_map{Q:Value->Shared->Prop}(X:K.In s.heap)(I:Bn s.heap x dx C mA)(j:we9 K C name=true)(l:wen K C=true)
 (ha:wbd K (.ref C) name=some none) (p:mA name=some v) (g:wh9 v=true) (h:Q v {s with toks:=s.toks+1}) :
 wpAny (model prog w) A (getAttr (.ref x) name expr) Q E s:=by
 obtain⟨a,J,hl⟩:=I.look;exact PySem.W.get_value X J (weC j).1 (PySem.W.findObj_own l ha rfl (by rw[hl,p])) g h
theorem Gf{Q:Value×List Value->Shared->Prop}(X:K.In s.heap)(I:Bn s.heap x dx C mA)(g:we9 K C name=true)
 (j:wbd K (.ref C) name=some (some (.ref f))) (l:wff K (.ref f)=true) (p:mA name=none) (h:Q (.ref f,[.ref x]) s) :
 wpAny (model prog w) A (wed (.ref x) name pl) Q E s:=by
 obtain⟨a,J,hl⟩:=I.look;exact PySem.W.method_fn X J (weC g).1 (weC g).2 j (beq_iff_eq.mp l) (by show (weI name a).map (·.isSome)=some false;rw[hl,p];rfl) h
theorem Jq{Q:Unit->Shared->Prop}(X:K.In s.heap)(I:Bn s.heap x dx C mA)
 (hs:wbd K (.ref C) "__setattr__"=some (some (.builtin "object.__setattr__"))) (g:wg2 K C=true) (j:wfG K C name=some none) (l:wen K C=true)
 (hw:wdE mA ns) (hsz:ns.length<=sizeLine)
 (h:∀h',Bn h' x dx C (λy=>if y=name then some v else mA y)->wfe dx s.heap h'->Q () {s with heap:=h',toks:=s.toks+2}) :
 wpAny (model prog w) A (setAttr (.ref x) name v) Q E s:=by
 obtain⟨p,J,hl⟩:=I.look;refine weZ X J hs (PySem.W.osa_open (s:={s with toks:=s.toks+1}) (r:=none) X J g j λb=>?_);obtain⟨q,hc,e⟩:=PySem.W.any_some l;have i:s.heap.get? x=some ⟨.ref C,some dx,.plain,#[]⟩:=I.obj;refine wa6 (wax (wa6 (wa6 (wg5 i (wa6 (weM (s:={s with toks:=s.toks+1}) (wdZ X hc) ?_))))));rw[e];refine wax (a:=some dx) (wa6 (wax (wa6 ?_)));refine wgG (s:={s with toks:=s.toks+1}) I.ns λh' c d=>?_;obtain⟨t,k,m,f,n,o⟩:=c.count (wfH name v hw);refine wa6 (wfg f (by grind [wfh,wai]) ?_);exact wax (h _ ⟨(d.2 _ (wbs I.ne)).trans I.obj,c,I.ne⟩ d)
theorem zo{R:wcN->Shared->Prop}(X:K.In s.heap)(l:whj K C=true)
 (hi:wbd K (.ref C) "__init__"=some (some (.ref f))) (p:PySem.W.typeIn K (.ref f)=some (.type "function"))
 (h:codeAny (model prog w) (A.under (.builtin "type.__call__" ⟨.ref C::vs,j⟩)) (.call (.ref f) ⟨.ref (s.heap.objs.size+1)::vs,j⟩) (PySem.W.InitBack (s.heap.objs.size+1) R)
   {s with heap:=(s.heap.push wbR).push (wcd C s.heap.objs.size)}) :
 codeAny (model prog w) A (.call (.ref C) ⟨vs,j⟩) R s:=by
 obtain⟨a,g,d,t,os⟩:=s;exact PySem.W.make_core (PySem.W.makes_of X l) (weJ X hi) (λself=>PySem.W.bind_fn X self p) (.inl rfl) h
end
noncomputable def cz(f:Str)(v:V):List (Str×V)->List (Str×V)
 |[]=>[(f,v)]
 |(g,x)::r=>if g=f then(g,v)::r else(g,x)::cz f v r
theorem aC(f g:Str)(v:V):∀fs:List (Str×V),(cz f v fs).lookup g=if g=f then some v else fs.lookup g
 |[]=>by
  show wfO g [(f,v)]=_
  by_cases h:g=f
  ·grind
  ·grind
 |(k,x)::r=>by
  have a:=aC f g v r;rw[show cz f v ((k,x)::r)=(if k=f then(k,v)::r else(k,x)::cz f v r) from rfl]
  by_cases hk:k=f
  ·grind
  ·grind
theorem pK(f:Str)(v:V):∀fs:List (Str×V),f∈(cz f v fs).map (·.1)/\∀g,g∈fs.map (·.1)->g∈(cz f v fs).map (·.1)
 |[]=>⟨by simp[cz],λg h=>by simp at h⟩
 |(k,x)::r=>by
  obtain⟨a,b⟩:=pK f v r;rw[show cz f v ((k,x)::r)=(if k=f then(k,v)::r else(k,x)::cz f v r) from rfl]
  by_cases hk:k=f
  ·grind
  ·grind
theorem qG(f:Str)(v:V):∀fs:List (Str×V),(cz f v fs).length<=fs.length+1
 |[]=>by simp[cz]
 |(k,x)::r=>by
  have a:=qG f v r;rw[show cz f v ((k,x)::r)=(if k=f then(k,v)::r else(k,x)::cz f v r) from rfl]
  by_cases hk:k=f
  ·grind
  ·grind
theorem jw.y2(r:jw (some v) o):∃u,o=some u/\RelV v u:=by
 cases o with
 |none=>exact(show False from r).elim
 |some u=>exact⟨u,rfl,r⟩
theorem jw.none_of(r:jw none o):o=none:=by grind [jw,cases False]
theorem Em(r:RelV v u):wh9 u=true:=by
 cases v with
 |non=>cases(show u=wbz from r);rfl
 |bl b=>cases(show u=wgg b from r);rfl
 |int i=>obtain⟨t,e⟩:=(show ∃t,u=wfD i t from r);cases e;rfl
 |str x=>obtain⟨t,e⟩:=(show ∃t,u=wfE x t from r);cases e;rfl
 |byt b=>obtain⟨t,e⟩:=(show ∃t,u=Value.bytes b t from r);cases e;rfl
 |flt b=>obtain⟨t,e⟩:=(show ∃t,u=wh4 b t from r);cases e;rfl
 |ref a=>cases(show u=waj a from r);rfl
 |ty n=>cases(show u=wek n from r);rfl
section
variable{P:wap}{w:World}{H H':Hp}{h h':Heap}{a C dx:Addr}{fs Xy:List (Str×V)}
theorem sD(b7:jx P w H h)(e:H a=some (.ins C dx fs)):∃g,Bn h a dx C g/\(∀f,jw (fs.lookup f) (g f))/\wdE g (fs.map (·.1))/\fs.length<=1000/\H dx=some (.own a):=by
 obtain⟨d,z,ne,ob,g,n,r,q⟩:=(show bP P w H h a (.ins C dx fs) from b7 a _ e);exact⟨g,⟨ob,n,ne⟩,r,q,z,d⟩
end
structure zp(K:wa2)(C:Addr):Prop where
 pg:we9 K C why=true
 hd:wen K C=true
 po:wg2 K C=true
 sa:wbd K (.ref C) "__setattr__"=some (some (.builtin "object.__setattr__"))
theorem zp.get{K:wa2}{C:Addr}(c:zp K C)(f:Str):we9 K C f=true:=c.pg
def bQ(K:wa2)(C:Addr)(f:Str):Prop:=wbd K (.ref C) f=some none
theorem bQ.OT{K:wa2}{C:Addr}{f:Str}(n:bQ K C f):wfG K C f=some none:=by
 unfold wfG;rw[show wbd K (.ref C) f=some none from n];rfl
structure Jr(K:wa2)(C:Addr)(m:Str)(f:Addr):Prop where
 at_:wbd K (.ref C) m=some (some (.ref f))
 fn:wff K (.ref f)=true
 kp:wcK K (.ref f)=true
section
variable{X:Cx}{pins:List (Addr×Obj)}{σ:St}{H:Hp}{s:Shared}{a C dx:Addr}{fs:List (Str×V)}{f:Str}{v:V}{A:Around}{E:Value->Shared->Prop}
theorem Bo{Q:Value->Shared->Prop}(I:Inv X pins σ H s)(e:H a=some (.ins C dx fs))(c:zp X.K C)(n:bQ X.K C f)(l:fs.lookup f=some v)
 (h:∀u s',Inv X pins σ H s'->RelV v u->Q u s'):wpAny (model X.prog X.w) A (getAttr (.ref a) f b) Q E s:=by
 obtain⟨g,O,r,_,_,_⟩:=sD I.b7 e;obtain⟨u,i,d⟩:=jw.y2 (v:=v) (o:=g f) (by grind);exact get_map I.hE O (c.get f) c.hd n i (Em d) (h u _ (I.tok _) d)
theorem t5{Q:Value×List Value->Shared->Prop}(I:Inv X pins σ H s)(e:H a=some (.ins C dx fs))(c:zp X.K C)(k:Jr X.K C m g)(l:fs.lookup m=none)
 (h:Q (.ref g,[.ref a]) s):wpAny (model X.prog X.w) A (wed (.ref a) m pl) Q E s:=by
 obtain⟨b,O,r,_,_,_⟩:=sD I.b7 e;have hn:b m=none:=jw.none_of (by grind);exact Gf I.hE O (c.get m) k.at_ k.fn hn h
theorem Bp{Q:Unit->Shared->Prop}(I:Inv X pins σ H s)(e:H a=some (.ins C dx fs))(c:zp X.K C)(n:bQ X.K C f)(hl:fs.length<1000)(l:RelV y u)
 (h:∀s',Inv X pins σ (upd H a (.ins C dx (cz f y fs))) s'->Q () s'):wpAny (model X.prog X.w) A (setAttr (.ref a) f u) Q E s:=by
 obtain⟨i,O,r,j,_,k⟩:=sD I.b7 e;have m:(fs.map (·.1)).length<=sizeLine:=by rw[wa0,wc5];lia
 refine Jq I.hE O c.sa c.po n.OT c.hd j m λp d sb=>h _ ?_;have hd:∃o,p.get? dx=some o:=let ⟨o,_,_,t,_⟩:=d.ns;⟨o,t⟩
 refine I.write (x:=a) (e:=dx) (by rw[e];exact wbA) (.inr k) (λb q v z=>(sb.2 b v).trans z) hd ?_;refine⟨by rw[ae O.ne];exact k,?_,O.ne,d.obj,_,d.ns,λg=>?_,λg B=>?_⟩
 ·have:=qG f y fs;lia
 ·show jw ((cz f y fs).lookup g) (if g=f then some u else i g);rw[aC]
  by_cases q:g=f
  ·rw[if_pos q,if_pos q];exact l
  ·rw[if_neg q,if_neg q];exact r g
 ·by_cases q:g=f
  ·rw[q];exact(pK f y fs).1
  ·refine(pK f y fs).2 g (j g λz=>B ?_);show (if g=f then some u else i g)=none;rw[if_neg q];exact z
theorem Inv.made(I:Inv X pins σ H s):Inv X pins σ (upd (upd H s.heap.objs.size (.own (s.heap.objs.size+1))) (s.heap.objs.size+1) (.ins C s.heap.objs.size []))
 {s with heap:=(s.heap.push wbR).push (wcd C s.heap.objs.size)}:=by
 have c:(s.heap.push wbR).get? s.heap.objs.size=some wbR:=waw s.heap rfl
 have d:((s.heap.push wbR).push (wcd C s.heap.objs.size)).get? (s.heap.objs.size+1)=some (wcd C s.heap.objs.size):=by
  have:=waw (s.heap.push wbR) (o:=wcd C s.heap.objs.size) rfl;rwa[wbM]at this
 have f:(s.heap.push wbR).Ns s.heap.objs.size (λ_=>none):=⟨wbR,#[],_,c,rfl,(λe g=>absurd g (by simp)),λ_=>rfl⟩;have h:=I.laid (a:=s.heap.objs.size) (o:=.own (s.heap.objs.size+1)) (h':=s.heap.push wbR) (t':=s.toks) (λb u q=>wa9 _ q) (wab _) ⟨_,c⟩;refine h.laid (a:=s.heap.objs.size+1) (o:=.ins C s.heap.objs.size []) (t':=s.toks) (λb u q=>wa9 _ q) (wdF (wbM _ _)) ?_;have ne:s.heap.objs.size≠s.heap.objs.size+1:=wat (wbJ _);refine⟨by rw[ae ne,a6],waJ _,ne,d,λ_=>none,(wgT f).at λo q=>wa9 _ q,λ_=>wbA,λy i=>absurd rfl i⟩
theorem Js{Q:Value->Shared->Prop}(j:wcy e f env (eval e env)=eval e env)
 (h:wpAny (model prog w) A (eval e env) (λo g=>wpAny (model prog w) A (getAttr o f true) Q E g) E s):wpAny (model prog w) A (eval (.Attribute e f pos) env) Q E s:=
 Attribute_any_ h (by rw[arm_eval_Attribute,j])
end
inductive XI(K:wa2)(f:Str)(x:V)(H:Hp)(Q:VK):Prop
 |mk (a C dx fs v) (_:x=.ref a) (_:H a=some (.ins C dx fs)) (_:zp K C) (_:bQ K C f) (_:fs.lookup f=some v) (_:Q v H)
def OU(K:wa2)(ta:TE)(f:Str):TE:=λσ H Q=>ta σ H λx H1=>XI K f x H1 Q
def Sq(K:wa2)(ta tv:TE)(f:Str):TS:=λD σ H=>tv σ H λy H1=>ta σ H1 λx H2=>∃a C dx fs,x=.ref a/\H2 a=some (.ins C dx fs)/\zp K C/\bQ K C f/\fs.length<1000 /\
 D.nx σ (upd H2 a (.ins C dx (cz f y fs)))
section
variable{X:Cx}{o e value:Expr}{f:Str}{pos pos' OV:Pos}{ta tv:TE}
theorem aM(he:PE X e ta)(g:wcy e f X.env (eval e X.env)=eval e X.env):PE X (.Attribute e f pos) (OU X.K ta f):=by
 refine⟨?_⟩;intro b s σ H Q I h;refine Js g (bI (he b s σ H _ I h) λu p ⟨x,d,i,j,a,C,r,fs,v,ex,k,c,n,l,q⟩=>?_);subst ex;obtain rfl:u=waj a:=j;exact Bo i k c n l λt w m o=>⟨v,d,m,o,q⟩
theorem cU(ha:PE X o ta)(g:PE X value tv)(hs:wc1 value (some (.Attribute o f pos')) pos.line X.env=pure false):PS X (.Assign [.Attribute o f pos'] value pos) (Sq X.K ta tv f):=by
 refine⟨?_⟩;intro b s σ H D I h;refine wcP (bI (g b s σ H _ I h) λu d ⟨y,e,i,j,q⟩=>bI (ha b d σ e _ i q) λk z m=>?_) hs;obtain⟨x,A,p,r,a,C,B,fs,ex,t,c,n,l,v⟩:=m;subst ex;obtain rfl:k=waj a:=r;exact Bp p t c n l j λE w=>⟨σ,_,w,v⟩
end
section
variable{X:Cx}{pins:List (Addr×Obj)}{σ:St}{H:Hp}{s:Shared}{A:Around}{E:Value->Shared->Prop}{Q:Value->Shared->Prop}{c:Value}{b:Bool}
set_option genInjectivity true in
inductive ic(K:wa2)(H:Hp):V->Value->Prop where
 |non:ic K H .non (.type "NoneType")
 |bl (x:Bool):ic K H (.bl x) (.type "bool")
 |int (i:Int):ic K H (.int i) (.type "int")
 |str (x:Str):ic K H (.str x) (.type "str")
 |flt (x:UInt64):ic K H (.flt x) (.type "float")
 |lst {a:Addr} {xs:List V} (e:H a=some (.lst xs)):ic K H (.ref a) (.type "list")
 |frz {a:Addr} {o:Obj} {xs:List V} (e:H a=some (.frz o (.lst xs))):ic K H (.ref a) (.type "list")
 |tup {a:Addr} {xs:List V} (e:H a=some (.tup xs)):ic K H (.ref a) (.type "tuple")
 |dK {a:Addr} {kvs:List (Key×V)} (e:H a=some (.dK kvs)):ic K H (.ref a) (.type "dict")
 |dT {a:Addr} {kvs:List (List Key×V)} (e:H a=some (.dT kvs)):ic K H (.ref a) (.type "dict")
 |ins {a C dx:Addr} {fs:List (Str×V)} (e:H a=some (.ins C dx fs)) (cl:zp K C) (ha:wbd K (.ref C) "__class__"=some (some (.builtin "object.__class__")))
   (hn:weQ K (.builtin "object.__class__") "__get__"=some (some (.builtin "getset_descriptor.__get__"))) (pF:PySem.W.takesIn K (.builtin "object.__class__")=some true)
   (hm:PySem.W.mroIn K C (.type "object")=some true):ic K H (.ref a) (.ref C)
theorem En(I:Inv X pins σ H s)(g:RelV x u)(ty:ic X.K H x t)(e:whv X.K t c=some b)(h:∀tk,Q (.bool b) {s with toks:=tk}) :
 wpAny (model X.prog X.w) A (call (.builtin "isinstance") [u,c]) Q E s:=by
 cases ty with
 |non=>cases(show u=wbz from g);exact wbE PySem.W.kitx_none I.hE wbA e (λz=>nomatch z) h
 |bl y=>cases(show u=wgg y from g);exact wbE PySem.W.kitx_bool I.hE wbA e (λz=>nomatch z) h
 |int i=>obtain⟨t,q⟩:=(show ∃t,u=wfD i t from g);cases q;exact wbE PySem.W.kitx_int I.hE wbA e (λz=>nomatch z) h
 |str y=>obtain⟨t,q⟩:=(show ∃t,u=wfE y t from g);cases q;exact wbE PySem.W.kitx_str I.hE wbA e (λz=>nomatch z) h
 |flt y=>obtain⟨t,q⟩:=(show ∃t,u=wh4 y t from g);cases q;exact wbE PySem.W.kitx_float I.hE wbA e (λz=>nomatch z) h
 |@lst a k d=>
  cases(show u=waj a from g);obtain⟨_,_,n,_,f⟩:=(show bP X.prog X.w H s.heap a (.lst k) from I.b7 a _ d);exact wbE wgU I.hE ⟨_,f,rfl⟩ e (λz=>nomatch z) h
 |@frz a ob k d=>
  cases(show u=waj a from g);obtain⟨_,_,_,n,_,f⟩:=(show bP X.prog X.w H s.heap a (.frz ob (.lst k)) from I.b7 a _ d);exact wbE wgU I.hE ⟨_,f,rfl⟩ e (λz=>nomatch z) h
 |@tup a k d=>
  cases(show u=waj a from g);obtain⟨_,_,_,p⟩:=(show bP X.prog X.w H s.heap a (.tup k) from I.b7 a _ d);obtain⟨o,f,l,_⟩:=p;exact wbE PySem.W.kitx_tuple I.hE ⟨o,f,l⟩ e (λz=>nomatch z) h
 |@dK a j d=>
  cases(show u=waj a from g);obtain⟨_,_,B,_,p⟩:=(show bP X.prog X.w H s.heap a (.dK j) from I.b7 a _ d);obtain⟨o,m,r,f,l,_⟩:=p;exact wbE wgV I.hE ⟨o,f,l.1⟩ e (λz=>nomatch z) h
 |@dT a j d=>
  cases(show u=waj a from g);obtain⟨_,_,k,_,o,m,r,f,l,_⟩:=(show bP X.prog X.w H s.heap a (.dT j) from I.b7 a _ d);exact wbE wgV I.hE ⟨o,f,l.1⟩ e (λz=>nomatch z) h
 |@ins a C D fs d cl ha hn pF v=>
  cases(show u=waj a from g);obtain⟨G,O,_⟩:=sD I.b7 d;obtain⟨L,J,_⟩:=O.look;exact wbE (PySem.W.kitx_own (cl.get _) cl.hd ha hn pF v) I.hE J e (λz=>nomatch z) h
end
structure d2(k:Nat)(A:Around):Prop where
 hd:A.handled=none
 dp:A.depth+3*k+5<recursionLimit
 un:A.units+16*k+200<wcw
theorem d2.mono(r:d2 k A)(h:j<=k):d2 j A:=⟨r.hd,by have:=r.dp;lia,by have:=r.un;lia⟩
theorem d2.deeper(r:d2 (k+1) A)(env:Env):d2 k (A.deeper env):=
 ⟨r.hd,by have:=r.dp;show A.depth+1+3*k+5<_;lia,by have:=r.un;show A.units+3+16*k+200<_;lia⟩
theorem Bq{A:Around}{C:Addr}{us:List Value}{g:List (Str×Value)}:(A.under (.builtin "type.__call__" ⟨.ref C::us,g⟩)).depth=A.depth+1:=by
 first |rfl |simp[wgH,Code.weight,Code.isCreation,Code.isGuard,Code.isCaller,Code.frames,wgI,guardIds]
theorem Br{A:Around}{C:Addr}{us:List Value}{g:List (Str×Value)}:(A.under (.builtin "type.__call__" ⟨.ref C::us,g⟩)).units=A.units+1:=by
 first |rfl |simp[wgH,Code.cUnits,Code.frames,wgI]
theorem d2.make(r:d2 (k+1) A)(C:Addr)(us:List Value)(g:List (Str×Value)):d2 k (A.under (.builtin "type.__call__" ⟨.ref C::us,g⟩)):=
 ⟨r.hd,by have:=r.dp;rw[Bq];lia,by have:=r.un;rw[Br];lia⟩
theorem d2.depth(r:d2 k A):A.depth<recursionLimit:=by have:=r.dp;lia
theorem d2.units(r:d2 k A):A.units+64<wcw:=by have:=r.un;lia
theorem d2.t6(r:d2 k A):A.units<wcw:=by have:=r.un;lia
def y3:TA:=λ_ H Q=>Q [] H
def qH(ta:TE)(tr:TA):TA:=λσ H Q=>ta σ H λx H1=>tr σ H1 λxs H2=>Q (x::xs) H2
section
variable{X:Cx}{e:Expr}{es:List Expr}{te:TE}{t:TA}{pos:Pos}
theorem fK:PA X [] y3:=⟨λ_ _ _ _ H Q I h=>Calls.spliced_nil ⟨[],H,I,.nil,h⟩⟩
theorem a8(ha:PE X e te)(g:PA X es t)(hs:starEach (e::es) X.env=(false,eval e X.env)::starEach es X.env:=by rfl):PA X (e::es) (qH te t):=by
 refine⟨?_⟩;intro pos a s σ H Q I h;rw[hs];show wpAny _ _ (spliced ((false,eval e X.env)::backTo pos (starEach es X.env))) _ _ s;refine Calls.spliced_cons (bI (ha a s σ H _ I h) λu b ⟨x,c,d,f,i⟩=>?_);exact bI (g pos a b σ c _ d i) λo p ⟨j,k,l,m,n⟩=>⟨x::j,k,l,.cons f m,n⟩
inductive XJ(xs:List V)(H:Hp)(Q:VK):Prop
 |mk (_:xs.length<=sizeLine) (_:∀p,H p=none->Q (.ref p) (upd H p (.tup xs)))
def OW(t:TA):TE:=λσ H Q=>t σ H λxs H1=>XJ xs H1 Q
inductive XM(xs:List V)(H:Hp)(Q:VK):Prop
 |mk (_:xs.length<=sizeLine) (_:∀p,H p=none->Q (.ref p) (upd H p (.lst xs)))
def OX(t:TA):TE:=λσ H Q=>t σ H λxs H1=>XM xs H1 Q
theorem dW{g}(h:PA X es t):PE X (.Tuple es g pos) (OW t):=by
 refine⟨?_⟩;intro a s σ H Q I i;refine wpAny_Tuple_spliced (bI (h pos a s σ H _ I i) λj c ⟨k,d,f,r,z,q⟩=>⟨by rw[<-r.length];exact z,?_⟩);have l:d c.heap.objs.size=none:=f.b7.fresh (wab _);refine⟨.ref c.heap.objs.size,upd d c.heap.objs.size (.tup k),f.laid (t':=c.toks) (λb u e=>wa9 _ e) (wab _) ?_,rfl,q _ l⟩;exact⟨z,j,r,⟨_,waw _ rfl,rfl,_,rfl⟩⟩
theorem ck(h:PA X es t):PE X (.List es pos) (OX t):=by
 refine⟨?_⟩;intro a s σ H Q I g;refine wpAny_List_spliced (bI (h pos a s σ H _ I g) λi c ⟨j,d,f,r,z,q⟩=>⟨by rw[<-r.length];exact z,?_⟩);have k:d c.heap.objs.size=none:=f.b7.fresh (wab _);refine⟨.ref c.heap.objs.size,upd d c.heap.objs.size (.lst j),f.laid (t':=c.toks) (λb u e=>wa9 _ e) (wab _) ?_,rfl,q _ k⟩;exact⟨z,i,0,r,waw _ rfl⟩
end
noncomputable abbrev Sp:=List V->Hp->VK->XK->Prop
noncomputable abbrev FR:=List Env->Hp->Shared->XK->Value->Shared->Prop
structure Bt(P:wap)(w:World)(K:wa2)(mg:Str->Option Value)(base:Heap)(A:Around)(outer:List Env)(s:Shared)(H:Hp):Prop where
 frames:A.frames=some outer
 mod:Mod K mg base
 bs:∀b o,base.get? b=some o->s.heap.get? b=some o/\H b=none
 G2:base.objs.size<=s.heap.objs.size
 nU:s.heap.FunFrames base outer
 Jk:∀b∈qF outer,H b=none
 b7:jx P w H s.heap
 bare:AllBare s.gens
def CE(outer:List Env)(P:wap)(w:World)(H:Hp)(s:Shared)(Q:VK)(u:Value)(s':Shared):Prop:=
 ∃v H',s'.os=s.os/\AllBare s'.gens/\Un (qF outer) [] H H' s.heap s'.heap/\jx P w H' s'.heap/\RelV v u/\Q v H'
def CR(CX:FR)(outer:List Env)(P:wap)(w:World)(H:Hp)(s:Shared)(Q:VK)(E:XK)(r:wcN)(s':Shared):Prop:=
 match r with
 |.ok (.ret u)=>CE outer P w H s Q u s'
 |.ok _=>False
 |.error e=>CX outer H s E e s'
structure aO(P:wap)(w:World)(K:wa2)(mg:Str->Option Value)(base:Heap)(CX:FR)(k:Nat)(f:Addr)(fd:waT)(ps:List Str)(sp:Sp):Prop where
 len:∀vs H Q E,sp vs H Q E->vs.length=ps.length
 run:∀(A:Around) (outer:List Env) (s:Shared) (H:Hp) (args:Args) (us:List Value) (vs:List V) (Q:VK) (E:XK),d2 k A->Bt P w K mg base A outer s H->BindsTo s fd args (ps.zip us)->Vals vs us->sp vs H Q E ->
  codeAny (model P w) A (.call (.ref f) args) (CR CX outer P w H s Q E) s
theorem Bt.make{P:wap}{w:World}{K:wa2}{mg:Str->Option Value}{base:Heap}{A:Around}{outer:List Env}{s:Shared}{H:Hp}(e:Bt P w K mg base A outer s H)(C:Addr)(us:List Value)(g:List (Str×Value)) :
 Bt P w K mg base (A.under (.builtin "type.__call__" ⟨.ref C::us,g⟩)) outer s H:=⟨by first |exact e.frames |(simpa [wgH,Code.envs,wgI,pushEnvs] using e.frames),e.mod,e.bs,e.G2,e.nU,e.Jk,e.b7,e.bare⟩
section
variable{X:Cx}{pins:List (Addr×Obj)}{σ:St}{H:Hp}{s s':Shared}
theorem Inv.Jt(I:Inv X pins σ H s):Bt X.prog X.w X.K X.mg X.base X.A X.stack s H:=
 ⟨I.ok.frames,I.ok.mod,I.bs,wai I.ok.G2 I.sz,I.stack,I.sx,I.b7,I.bare⟩
theorem Inv.after(I:Inv X pins σ H s)(h:CE X.stack X.prog X.w H s Q u s'):EP X pins σ Q u s':=by
 obtain⟨v,c,os,bare,un,b7,r,q⟩:=h;obtain⟨e,g,d,t,a⟩:=s';obtain rfl:a=s.os:=os;exact⟨v,c,I.call (h':=e) (g':=g) (d':=d) (t':=t) (ch:=[]) un b7 bare (λb z=>absurd z (by simp)),r,q⟩
end
def Lb(sp:Sp)(vG:List V)(E:XK)(t:TA):TE:=λσ H Q=>t σ H λvs H1=>sp (vs++vG) H1 Q E
inductive XO(C:Addr)(m:Str)(x:V)(H:Hp)(k:Prop):Prop
 |mk (a dx fs) (_:x=.ref a) (_:H a=some (.ins C dx fs)) (_:fs.lookup m=none) (_:k)
def Du(C:Addr)(m:Str)(sp:Sp)(vG:List V)(E:XK)(ta:TE)(t:TA):TE:=λσ H Q=>ta σ H λx H1=>XO C m x H1 (t σ H1 λvs H2=>sp (x::(vs++vG)) H2 Q E)
def OY(C:Addr)(sp:Sp)(vG:List V)(E:XK)(t:TA):TE:=λσ H Q=>t σ H λvs H1=>∀x dx,H1 x=none->H1 dx=none->dx≠x ->
 sp (.ref x::(vs++vG)) (upd (upd H1 dx (.own x)) x (.ins C dx [])) (λv H2=>v=.non/\Q (.ref x) H2) E
def Binds(K:wa2)(fd:waT)(ps:List Str)(ds:List Value):Prop:=
 ∀(s:Shared) (us:List Value),K.In s.heap->(us++ds).length=ps.length->BindsTo s fd ⟨us,[]⟩ (ps.zip (us++ds))
theorem Binds.all{K:wa2}{fd:waT}{ps:List Str}(h:∀us:List Value,us.length=ps.length->bindArgs fd ⟨us,[]⟩=pure (ps.zip us)):Binds K fd ps []:=λs us _ hl=>by
 rw[waW]at hl ⊢;exact .of_eq (h us hl)
def Passes(CX:FR)(X:Cx)(E:XK):Prop:=∀(pins:List (Addr×Obj)) (σ:St) (H:Hp) (s:Shared) (e:Value) (s':Shared),Inv X pins σ H s->CX X.stack H s E e s'->X.xe e s'
section
variable{X:Cx}{CX:FR}{k:Nat}{f C:Addr}{fd:waT}{ps:List Str}{sp:Sp}{vG:List V}{ds:List Value}{E:XK}{x m:Str}{p pos apos:Pos}{e o:Expr}{es:List Expr}{ta:TE}{t:TA}
theorem Bu(F:aO X.prog X.w X.K X.mg X.base CX k f fd ps sp)(j:d2 k X.A)(l:Binds X.K fd ps ds)(hd:Vals vG ds)(J:Passes CX X E)
 (I:Inv X g σ H s) (r:Vals vs us) (h:sp (vs++vG) H Q E):wpAny (model X.prog X.w) X.A (call (.ref f) us) (EP X g σ Q) X.xe s:=by
 have b:Vals (vs++vG) (us++ds):=r.append hd;have hl:(us++ds).length=ps.length:=by rw[<-b.length];exact F.len _ _ _ _ h
 refine wd1 (wc6 (F.run X.A X.stack s H ⟨us,[]⟩ (us++ds) (vs++vG) Q E j I.Jt (l s us I.hE hl) b h) λr c a=>?_)
 cases r with
 |error e=>exact J g σ H s e c I a
 |ok fl=>
  cases fl with
  |ret u=>exact I.after a
  |next=>exact waU a
  |brk=>exact waU a
  |cont=>exact waU a
theorem jC(F:aO X.prog X.w X.K X.mg X.base CX k f fd ps sp)(j:d2 k X.A)(l:Gl X x)(J:X.mg x=some (.ref f))(hk:wcK X.K (.ref f)=true)(T:Binds X.K fd ps ds)(hd:Vals vG ds)(U:Passes CX X E)
 (ha:PA X (e::es) t) (g:(x==("__debug__":Str))=false:=by decide) (he:starEach (e::es) X.env=(false,eval e X.env)::starEach es X.env:=by rfl) (hpl:(backTo pos (starEach es X.env)).any (·.1)=false:=by rfl) :
 PE X (.Call (.Name x p) (e::es) [] pos) (Lb sp vG E t):=by
 refine⟨?_⟩;intro a s σ H Q I h;refine wbt (g9 I l J ?_ g);refine wcp (h₀:=X.base) I.ok.mod.L5 hk (bI (ha pos a s σ H _ I h) λc d ⟨i,m,b,r,q⟩=>⟨b.hE,?_⟩) he hpl;exact Bu F j T hd U b r q
theorem Ju(he:PE X o ta)(c:zp X.K C)(j:Jr X.K C m f)(F:aO X.prog X.w X.K X.mg X.base CX k f fd ps sp)(T:d2 k X.A)(U:Binds X.K fd ps ds)(hd:Vals vG ds)(hx:Passes CX X E)(ha:PA X (e::es) t)
 (g:starEach (e::es) X.env=(false,eval e X.env)::starEach es X.env:=by rfl) (hpl:(backTo pos (starEach es X.env)).any (·.1)=false:=by rfl)
 (ht:eval (.Call (.Attribute o m apos) (e::es) [] pos) X.env=(do
   let J <-eval o X.env
   standAt apos.atName
   let (f,first) <-holding [J] (wed J m pl)
   callWith pos f first (backTo pos (starEach (e::es) X.env)) (backToKw pos (wcJ [] X.env))):=by rfl) :
 PE X (.Call (.Attribute o m apos) (e::es) [] pos) (Du C m sp vG E ta t):=by
 refine⟨?_⟩;intro b s σ H Q I h;refine wee (pl:=pl) (bI (he b s σ H _ I h) λu n ⟨x,p,d,v,a,B,fs,ex,y,l,q⟩=>?_) ht;subst ex;obtain rfl:u=waj a:=v;refine t5 d y c j l ?_;refine wcp (first:=[.ref a]) (h₀:=X.base) I.ok.mod.L5 j.kp (bI (ha pos b n σ p _ d q) λus D ⟨vs,G,i,r,z⟩=>⟨i.hE,?_⟩) g hpl;exact Bu (us:=.ref a::us) (vs:=.ref a::vs) F T U hd hx i (.cons rfl r) z
theorem Gg(he:PE X o ta)(c:zp X.K C)(g:Jr X.K C m f)(F:aO X.prog X.w X.K X.mg X.base CX k f fd ps sp)(r:d2 k X.A)(J:Binds X.K fd ps ds)(hd:Vals vG ds)(T:Passes CX X E)
 (U:eval (.Call (.Attribute o m apos) [] [] pos) X.env=(do
   let j <-eval o X.env
   standAt apos.atName
   let (f,first) <-holding [j] (wed j m pl)
   callWith pos f first (backTo pos (starEach [] X.env)) (backToKw pos (wcJ [] X.env))):=by rfl) :
 PE X (.Call (.Attribute o m apos) [] [] pos) (Du C m sp vG E ta y3):=by
 refine⟨?_⟩;intro b s σ H Q I h;refine wee (pl:=pl) (bI (he b s σ H _ I h) λu n ⟨x,p,d,e,a,t,fs,ex,i,l,q⟩=>?_) U;subst ex;obtain rfl:u=waj a:=e;refine t5 d i c g l ?_;exact PySem.W.callWith_K0 (first:=[.ref a]) d.hE g.kp (Bu (us:=[.ref a]) (vs:=[.ref a]) F r J hd T d (.cons rfl .nil) q)
structure Mk(K:wa2)(C f:Addr):Prop where
 makes:whj K C=true
 init:wbd K (.ref C) "__init__"=some (some (.ref f))
 fn:wff K (.ref f)=true
 kp:wcK K (.ref C)=true
theorem Gh(M:Mk X.K C f)(F:aO X.prog X.w X.K X.mg X.base CX k f fd ps sp)(l:d2 (k+1) X.A)(J:Binds X.K fd ps ds)(hd:Vals vG ds)
 (T:Passes CX X E) (I:Inv X g σ H s) (r:Vals vs us)
 (h:∀x j,H x=none->H j=none->j≠x->sp (.ref x::(vs++vG)) (upd (upd H j (.own x)) x (.ins C j [])) (λv U=>v=.non/\Q (.ref x) U) E) :
 wpAny (model X.prog X.w) X.A (call (.ref C) us) (EP X g σ Q) X.xe s:=by
 have c:=h (s.heap.objs.size+1) s.heap.objs.size (I.b7.fresh (wcb _)) (I.b7.fresh (wab _)) (wat (wbJ _));have b:=Inv.made (C:=C) I;have d:Vals (V.ref (s.heap.objs.size+1)::(vs++vG)) (waj (s.heap.objs.size+1)::(us++ds)):=.cons rfl (r.append hd)
 have hl:(waj (s.heap.objs.size+1)::us++ds).length=ps.length:=by
  have e:=d.length;rw[F.len _ _ _ _ c]at e;exact e.symm
 refine wd1 (zo (f:=f) I.hE M.makes M.init (beq_iff_eq.mp M.fn) (wc6 (F.run _ X.stack _ _ ⟨waj (s.heap.objs.size+1)::us,[]⟩ (waj (s.heap.objs.size+1)::(us++ds)) _ _ E (l.make C us [])
  (b.Jt.make C us []) (J _ (waj (s.heap.objs.size+1)::us) b.hE hl) d c) λr i a=>?_))
 cases r with
 |error e=>exact T g σ _ _ e i b a
 |ok fl=>
  cases fl with
  |ret u=>
   obtain⟨v,m,n,o,p,q⟩:=b.after a;subst p;exact⟨o,⟨V.ref (s.heap.objs.size+1),m,n,rfl,q⟩⟩
  |next=>exact waU a
  |brk=>exact waU a
  |cont=>exact waU a
theorem mm(M:Mk X.K C f)(F:aO X.prog X.w X.K X.mg X.base CX k f fd ps sp)(j:d2 (k+1) X.A)(l:Gl X x)(J:X.mg x=some (.ref C))(T:Binds X.K fd ps ds)(hd:Vals vG ds)(U:Passes CX X E)
 (ha:PA X (e::es) t) (g:(x==("__debug__":Str))=false:=by decide) (he:starEach (e::es) X.env=(false,eval e X.env)::starEach es X.env:=by rfl) (hpl:(backTo pos (starEach es X.env)).any (·.1)=false:=by rfl) :
 PE X (.Call (.Name x p) (e::es) [] pos) (OY C sp vG E t):=by
 refine⟨?_⟩;intro a s σ H Q I h;refine wbt (g9 I l J ?_ g);refine wcp (h₀:=X.base) I.ok.mod.L5 M.kp (bI (ha pos a s σ H _ I h) λc d ⟨i,m,b,r,q⟩=>⟨b.hE,?_⟩) he hpl;exact Gh M F j T hd U b r q
end
abbrev Vg(X:Cx)(Ml:List wdT)(t:TA):Prop:=
 ∀(pos:Pos) (pins:List (Addr×Obj)) (s:Shared) (σ:St) (H:Hp) (Q:List V->Hp->Prop),Inv X pins σ H s->t σ H Q->wpAny (model X.prog X.w) X.A (evalAll ((backToKw pos (wcJ Ml X.env)).map (·.2))) (AP X pins σ Q) X.xe s
structure PK(X:Cx)(Ml:List wdT)(t:TA):Prop where
 go:Vg X Ml t
instance {X:Cx} {Ml:List wdT} {t:TA}:CoeFun (PK X Ml t) λ_=>Vg X Ml t:=⟨PK.go⟩
section
variable{X:Cx}{CX:FR}{k:Nat}{f C:Addr}{fd:waT}{ps ks:List Str}{sp:Sp}{E:XK}{x m:Str}{p pos apos XQ:Pos}{e o:Expr}{es:List Expr}{Ml:List wdT}{te ta:TE}{t tk:TA}{nm:Option Str}
variable{g:List Value->List Value->List Value}{gV:List V->List V->List V}
end
structure sE(N P:List Str)(sc:wcZ):Prop where
 kind:sc.kind=.function
 co:sc.isCoroutine=false
 gen:sc.isGenerator=false
 nd:N.Nodup
 pre:N.take P.length=P
 par:∀x∈P,sc.names.lookup x=some .local\/sc.names.lookup x=some .cell
 Mm:∀y∈sc.names,y.2≠.free
theorem wD{kindOf:Str->Option wea}:∀{binds:List (Str×Value)} {m:Str->Option Value},(∀v,(x,v)∉binds)->bindL kindOf binds m x=m x
 |[],_,_=>rfl
 |(n,v)::r,m,h=>by
  unfold bindL;rw[wD λw hw=>h w (wac _ hw)];split
  ·grind
  ·rfl
theorem wF{kindOf:Str->Option wea}:∀{binds:List (Str×Value)} {m:Str->Option Value},(∀v,(x,v)∉binds)->bindC kindOf binds m x=m x
 |[],_,_=>rfl
 |(n,v)::r,m,h=>by
  unfold bindC;rw[wF λw hw=>h w (wac _ hw)];split
  ·rfl
  ·grind
theorem wG{kindOf:Str->Option wea}:∀{P:List Str} {vs:List Value} {i:Nat} {m:Str->Option Value},P.Nodup->P[i]?=some x->vs[i]?=some v->kindOf x=some .local ->
 bindL kindOf (P.zip vs) m x=some v
 |[],_,_,_,_,h,_,_=>by simp at h
 |_::_,[],_,_,_,_,h,_=>by simp at h
 |p::P,w::vs,0,m,nd,a,b,hk=>by
  simp at a b;subst a;subst b;show bindL kindOf ((p,w)::P.zip vs) m p=_;unfold bindL;rw[wD λv c=>(wbF.mp nd).1 (wfI c).1,if_pos hk];simp
 |p::P,w::vs,i+1,m,nd,a,b,hk=>by
  show bindL kindOf ((p,w)::P.zip vs) m x=_;unfold bindL;exact wG (i:=i) (wbF.mp nd).2 (by simpa using a) (by simpa using b) hk
theorem wH{kindOf:Str->Option wea}:∀{P:List Str} {vs:List Value} {i:Nat} {m:Str->Option Value},P.Nodup->P[i]?=some x->vs[i]?=some v->kindOf x≠some .local ->
 bindC kindOf (P.zip vs) m x=some v
 |[],_,_,_,_,h,_,_=>by simp at h
 |_::_,[],_,_,_,_,h,_=>by simp at h
 |p::P,w::vs,0,m,nd,a,b,hk=>by
  simp at a b;subst a;subst b;show bindC kindOf ((p,w)::P.zip vs) m p=_;unfold bindC;rw[wF λv c=>(wbF.mp nd).1 (wfI c).1,if_neg hk];simp
 |p::P,w::vs,i+1,m,nd,a,b,hk=>by
  show bindC kindOf ((p,w)::P.zip vs) m x=_;unfold bindC;exact wH (i:=i) (wbF.mp nd).2 (by grind) (by grind) hk
noncomputable def start(N:List Str)(vs:List V):St:=vs.map some++wah (N.length-vs.length) none
noncomputable def t7(CX:FR)(P:wap)(w:World)(K:wa2)(mg:Str->Option Value)(base:Heap)(N:List Str)(qual:Str)(scope:wcZ)(f:Addr)(cd:Value)(A:Around)(outer:List Env)(s:Shared)(H:Hp)(E:XK):Cx where
 prog:=P
 w:=w
 K:=K
 mg:=mg
 base:=base
 A:=A.deeper (envOfC qual scope s.heap.objs.size f cd)
 N:=N
 s₀:=s
 H₀:=H
 env:=envOfC qual scope s.heap.objs.size f cd
 outer:=outer
 stack:=envOfC qual scope s.heap.objs.size f cd::outer
 ex:=[]
 calm:=true
 fn:=λ_=>true
 pn:=[]
 xe:=λe s'=>wpAny (model P w) (A.deeper (envOfC qual scope s.heap.objs.size f cd)) («leaving» (envOfC qual scope s.heap.objs.size f cd) e) (λ_ Sr=>CX outer H s E e Sr) (λe' Sr=>CX outer H s E e' Sr) s'
theorem zq{g:wcZ}{n:Nat}{x:Str}(h:g.names.lookup x=some .cell):∃c,(cellsFrom n g.names []).lookup x=some c:=by
 have q:=wfP g.names n [] (.inl h);exact wfi.mp q
theorem Eo{CX:FR}{P:wap}{w:World}{K:wa2}{mg:Str->Option Value}{base:Heap}{N ps:List Str}{g:Str}{scope:wcZ}{f:Addr}{cd:Value}{A:Around}{outer:List Env}{s s1:Shared}{H:Hp}{E:XK}{us:List Value}{vs:List V}
 (S:sE N ps scope) (hd:A.handled=none) (j:Bt P w K mg base A outer s H) (hl:vs.length=ps.length) (r:Vals vs us)
 (x:InCallC s s.heap.objs.size (bindL (envOfC g scope s.heap.objs.size f cd).kindOf (ps.zip us) λ_=>none) (cellsFrom (s.heap.objs.size+1) scope.names []) (bindC (envOfC g scope s.heap.objs.size f cd).kindOf (ps.zip us) λ_=>none) s1) :
 Inv (t7 CX P w K mg base N g scope f cd A outer s H E) [] (start N vs) H s1:=by
 have D:ps.length<=N.length:=by have:=congrArg wdu S.pre;rw[wak]at this;lia
 obtain⟨B,I,rfl,hk⟩:=x.done;have l:∀b:Addr,b∉(t7 CX P w K mg base N g scope f cd A outer s H E).ex:=λb z=>absurd (show b∈([]:List Addr) from z) (by simp)
 refine⟨⟨j.mod,S.kind,rfl,rfl,wab _,λy z c B d=>?_,λy m=>?_,λy c _ h=>?_,λ_=>hd,Around.frames_deeper j.frames,.inr ⟨rfl,rfl⟩,λb z=>absurd z (l b),j.bs,j.G2,λb _ _=>l b,λb z=>absurd z (l b),j.nU,j.Jk⟩,
  rfl,j.bare,Un.kept hk,⟨_,x.toInCall.ns,λi y v B d J=>?_⟩,λy c h=>⟨_,x.cell y c h⟩,j.b7.fresh (wab _),λy c h=>?_,λp o=>absurd (show p∈([]:List (Addr×Obj)) from o) (by simp),j.b7.kept hk,?_⟩
 ·exact name_of_addr x.apart (wcm B) (wcm d)
 ·have m:scope.names.lookup y=some .cell\/scope.names.lookup y=some .free:=m;rcases m with m |m
  ·exact zq m
  ·exact absurd rfl (S.Mm _ (wcm m))
 ·exact wfd (x.above y c (wcm h))
 ·have hi:i<vs.length:=by
   unfold start at d
   by_cases hi:i<vs.length
   ·exact hi
   ·rw[waq (by simpa using hi)]at d;rw[List.getElem?_replicate]at d;split at d<;>cases d
  have ha:vs[i]?=some v:=by
   unfold start at d;rw[waB (by simpa using hi),wa4]at d
   cases e:vs[i]? with
   |none=>rw[e]at d;cases d
   |some a=>rw[e]at d;cases d;rfl
  obtain⟨u,C,G⟩:=r.get ha
  have o:ps[i]?=some y:=by
   rw[<-S.pre,wdG (by lia)];exact B
  have t:ps.Nodup:=by rw[<-S.pre];exact S.nd.sublist (wbg _ _)
  refine⟨u,G,?_⟩;rcases S.par y (wa8 o) with k |k
  ·exact .inl ⟨k,wG t o C k⟩
  ·obtain⟨c,e⟩:=zq (n:=s.heap.objs.size+1) k;refine .inr ⟨.inl k,c,e,?_⟩;have q:=x.cell y c e;rw[wH t o C (by show scope.names.lookup y≠_;rw[k];decide)]at q;exact q
 ·exact j.b7.fresh (wfd (x.above y c (wcm h)))
 ·unfold start;show _=N.length;rw[wa7,wa0,waM]
  lia
theorem Lc{CX:FR}{P:wap}{w:World}{K:wa2}{mg:Str->Option Value}{base:Heap}{k:Nat}{f:Addr}{name g:Str}{l:Arguments}{body:List Stmt}{scope:wcZ}{dV kV C pm j ct oc:Value}{an od:Option Addr}
 {T:Array (Option Value)} {N ps:List Str} {sp:Sp} (lk:K.lookup f=some ⟨oc,od,.func (wcf name g l body scope dV kV C pm an j ct),T⟩) (U:wdU K j g=true) (S:sE N ps scope)
 (len:∀vs H Q E,sp vs H Q E->vs.length=ps.length)
 (p:∀(A:Around) (outer:List Env) (s:Shared) (H:Hp) (vs:List V) (Q:VK) (E:XK),d2 k (A.deeper (envOfC g scope s.heap.objs.size f j))->sp vs H Q E ->
   ∃t,sy (t7 CX P w K mg base N g scope f j A outer s H E) body t/\t (Ends.fn Q) (start N vs) H) :
 aO P w K mg base CX (k+1) f (wcf name g l body scope dV kV C pm an j ct) ps sp:=by
 refine⟨len,λA outer s H args O vs Q E z i R r m=>?_⟩;have hl:=len _ _ _ _ m;have L:K.In s.heap:=i.mod.L5.keeps λb o e=>(i.bs b o e).1;have B:s.heap.NoLimit:=i.mod.nolimit.keeps λb o e=>(i.bs b o e).1
 have c:∀y∈ps.zip O,scope.names.lookup y.1=some .local\/(scope.names.lookup y.1=some .cell/\((cellsFrom (s.heap.objs.size+1) scope.names []).lookup y.1).isSome=true):=λ⟨n,v⟩ X=>by
  rcases S.par n (wfI X).1 with q |q
  ·exact .inl q
  ·exact .inr ⟨q,wfP _ _ _ (.inl q)⟩
 refine codeAny_call_function z.depth (L _ _ lk) rfl S.co S.gen rfl (PySem.W.codeRec_of L U) (R _ _ _ _ ?_);refine wpAny_newFunctionEnv_cells S.kind c λenv Y M x=>?_;subst Y;refine⟨B.keeps x.toInCall.keep,codeAny_func ?_⟩;obtain⟨t,Z,hq⟩:=p A outer s H vs Q E (z.deeper _) m;have I:Inv (t7 CX P w K mg base N g scope f j A outer s H E) [] (start N vs) H M:=Eo S z.hd i hl r x;refine wb1 (Z [] M (start N vs) H _ I hq) (λfl D d=>?_) λe D d=>d
 have fin:∀{a:St} {h:Hp} {v:V} {u:Value},Inv (t7 CX P w K mg base N g scope f j A outer s H E) [] a h D->RelV v u->Q v h->CE outer P w H s Q u D:=
  λ{a h v u} J G q=>⟨v,h,J.os,J.bare,J.base,J.b7,G,q⟩
 cases fl with
 |ret u=>
  obtain⟨v,a,h,J,G,q⟩:=d;exact fin J G q
 |next=>
  obtain⟨a,h,J,q⟩:=d;exact fin (v:=V.non) (u:=wbz) J rfl q
 |brk=>
  obtain⟨_,_,_,q⟩:=d;exact waU q
 |cont=>
  obtain⟨_,_,_,q⟩:=d;exact waU q
section
variable{X:Cx}{x:Str}{p pos:Pos}{e:Expr}{es:List Expr}{t:TA}{id T:String}{r:List V->Hp->VK->Prop}
def Rk(r:List V->Hp->VK->Prop)(t:TA):TE:=λσ H Q=>t σ H λvs H1=>r vs H1 Q
theorem aP(hc:dA X (.builtin id) r)(j:Gl X x)(l:X.mg x=none)(C:waQ x=some (.builtin id))(ha:PA X (e::es) t)(hn:x≠"__name__":=by decide)(g:(x==("__debug__":Str))=false:=by decide)
 (he:starEach (e::es) X.env=(false,eval e X.env)::starEach es X.env:=by rfl) (hpl:(backTo pos (starEach es X.env)).any (·.1)=false:=by rfl):PE X (.Call (.Name x p) (e::es) [] pos) (Rk r t):=by
 refine⟨?_⟩;intro a s σ H Q I h;refine wbt (ib I j l C ?_ hn g);exact weo (bI (ha pos a s σ H _ I h) λb c ⟨d,f,i,k,m⟩=>hc a c σ f d b Q i k m) he hpl
theorem bE(hc:dA X (.type T) r)(j:Gl X x)(l:X.mg x=none)(C:waQ x=some (.type T))(ha:PA X (e::es) t)(hn:x≠"__name__":=by decide)(g:(x==("__debug__":Str))=false:=by decide)
 (he:starEach (e::es) X.env=(false,eval e X.env)::starEach es X.env:=by rfl) (hpl:(backTo pos (starEach es X.env)).any (·.1)=false:=by rfl):PE X (.Call (.Name x p) (e::es) [] pos) (Rk r t):=by
 refine⟨?_⟩;intro a s σ H Q I h;refine wbt (ib I j l C ?_ hn g);exact wc2 (bI (ha pos a s σ H _ I h) λb c ⟨d,f,i,k,m⟩=>hc a c σ f d b Q i k m) he hpl
end
end L2
namespace HT
open PySem PyProof.Rows
section
open PySem.SeqAt
open PySem.AutoSeq1 (wpAny_loadPart')
open PySem.MeetsSeq PySem.MeetsSeq2 PySem.MeetsSeq3
end
section
variable{prog:wap}{w:World}{A:Around}{E:Value->Shared->Prop}{s:Shared}
noncomputable def zf(n d:Nat):Option Int->Nat
 |none=>d
 |some v=>if v<0 then(v+(n:Int)).toNat else min v.toNat n
theorem Jv(n d k:Nat):zf n d (some (k:Int))=min k n:=by
 show (if (k:Int)<0 then((k:Int)+(n:Int)).toNat else min (k:Int).toNat n)=min k n;rw[if_neg (by lia),waA]
end
end HT
namespace L2
open PySem PySem.Spec PyProof.Rows
noncomputable abbrev TO:=St->Hp->(Option Int->Hp->Prop)->Prop
abbrev Vh(X:Cx)(e:Option Expr)(t:TO):Prop:=
 ∀(pins:List (Addr×Obj)) (s:Shared) (σ:St) (H:Hp) (Q:Option Int->Hp->Prop),Inv X pins σ H s->t σ H Q ->
  wpAny (model X.prog X.w) X.A (evalPart e X.env) (λu s'=>∃o H',Inv X pins σ H' s'/\IsPart u o/\Q o H') X.xe s
structure PO(X:Cx)(e:Option Expr)(t:TO):Prop where
 go:Vh X e t
instance {X:Cx} {e:Option Expr} {t:TO}:CoeFun (PO X e t) λ_=>Vh X e t:=⟨PO.go⟩
noncomputable def Jw:TO:=λ_ H Q=>Q none H
inductive XR(x:V)(H:Hp)(Q:Option Int->Hp->Prop):Prop
 |mk (i) (_:x=.int i) (_:Q (some i) H)
noncomputable def OZ(t:TE):TO:=λσ H Q=>t σ H λx H1=>XR x H1 Q
section
variable{X:Cx}{e:Expr}{te:TE}{lo hi:Option Expr}{tl th:TO}{pos p2:Pos}
theorem hF:PO X none Jw:=by
 refine⟨?_⟩;intro a s σ H Q I h;rw[evalPart_none];exact wax ⟨none,H,I,.none,h⟩
theorem bL(h:PE X e te):PO X (some e) (OZ te):=by
 refine⟨?_⟩;intro a s σ H Q I hw;rw[evalPart_some];refine bI (h a s σ H _ I hw) λu g ⟨x,b,c,d,f⟩=>?_;obtain⟨i,rfl,q⟩:=f;obtain⟨t,rfl⟩:=d;exact⟨some i,b,c,.int i t,q⟩
def Ss(X:Cx)(r:V->Option Int->Option Int->Hp->VK->Prop):Prop:=
 ∀(pins:List (Addr×Obj)) (s:Shared) (σ:St) (H:Hp) (x:V) (v vl vu:Value) (lo hi:Option Int) (sl:Addr) (Q:VK),Inv X pins σ H s->RelV x v->s.heap.IsSliceOf sl vl vu .none->IsPart vl lo->IsPart vu hi->r x lo hi H Q ->
  ∃T id,wf7 (.type T) "__getitem__"=pure (some (.builtin id))/\s.TypeIs v T/\wpAny (model X.prog X.w) X.A (getItem v (.ref sl)) (EP X pins σ Q) X.xe s
def XS(r:V->Option Int->Option Int->Hp->VK->Prop)(te:TE)(tl th:TO):TE:=λσ H Q=>te σ H λx H1=>tl σ H1 λl H2=>th σ H2 λu H3=>r x l u H3 Q
theorem d7{r:V->Option Int->Option Int->Hp->VK->Prop}(j:Ss X r)(he:PE X e te)(hl:PO X lo tl)(p:PO X hi th):PE X (.Subscript e (.Slice lo hi none p2) pos) (XS r te tl th):=by
 refine⟨?_⟩;intro a s σ H Q I h;refine wgi (bI (he a s σ H _ I h) λv i ⟨x,k,m,n,o⟩=>?_);refine wpAny_Slice (bI (hl a i σ k _ m o) λd t ⟨l,y,z,pl,B⟩=>bI (p a t σ y _ z B) λf c ⟨u,g,C,D,E⟩=>?_);rw[evalPart_none];refine wax ?_;have G:Inv X a σ g {c with heap:=c.heap.push {cls:=.type "slice",data:=.fields #[d,f,.none]}}:=C.kept (t':=c.toks) λb ob q=>wa9 _ q;obtain⟨T,id,J,L,M⟩:=j a {c with heap:=c.heap.push {cls:=.type "slice",data:=.fields #[d,f,.none]}} σ g x v d f l u c.heap.objs.size Q G n (wgJ ..) pl D E;show wpAny (model X.prog X.w) X.A (weS e (.Slice lo hi none p2) v (.ref c.heap.objs.size)) (EP X a σ Q) X.xe {c with heap:=c.heap.push {cls:=.type "slice",data:=.fields #[d,f,.none]}};exact tail_any (ops:=[.ref c.heap.objs.size,v]) L J M (by with_unfolding_all rfl)
noncomputable def j9(xs:List V)(lo hi:Option Int):List V:=(xs.drop (HT.zf xs.length 0 lo)).take (HT.zf xs.length xs.length hi-HT.zf xs.length 0 lo)
theorem zr(xs:List V)(lo hi:Option Int):(j9 xs lo hi).length<=xs.length:=by
 unfold j9;rw[wak,wbm]
 lia
end
noncomputable def Ep(n:Nat)(i:Int):Option Nat:=if 0<=i then(if i<n then some i.toNat else none) else if -(n:Int)<=i then some (i+n).toNat else none
noncomputable def rT{α:Type}(xs:List α)(i:Int):Option α:=(Ep xs.length i).bind λj=>xs[j]?
theorem Dv(h:Ep n i=some j):seqIndex? i n=some j/\j<n/\-(n:Int)<=i/\i<n:=by
 unfold Ep at h
 by_cases h0:0<=i
 ·rw[if_pos h0]at h
  by_cases a:i<n
  ·rw[if_pos a]at h;have e:i.toNat=j:=wae h;exact⟨by rw[wh5 h0 a,e],by lia,by lia,a⟩
  ·rw[if_neg a]at h;cases h
 ·rw[if_neg h0]at h
  by_cases a:-(n:Int)<=i
  ·rw[if_pos a]at h;have e:(i+n).toNat=j:=wae h;exact⟨by rw[seqIndex_neg (by lia) a,e],by lia,a,by lia⟩
  ·rw[if_neg a]at h;cases h
theorem y4{α:Type}{xs:List α}{i:Int}{v:α}(h:rT xs i=some v):∃j,seqIndex? i xs.length=some j/\xs[j]?=some v/\j<xs.length/\-(xs.length:Int)<=i/\i<xs.length:=by
 unfold rT at h
 cases e:Ep xs.length i with
 |none=>rw[e]at h;cases h
 |some j=>
  rw[e]at h;obtain⟨a,b,c,d⟩:=Dv e;exact⟨j,a,h,b,c,d⟩
theorem bB{α:Type}{xs:List α}{j:Nat}{v:α}(h:xs[j]?=some v):rT xs (j:Int)=some v:=by
 have a:j<xs.length:=(wa5.mp h).1
 have e:Ep xs.length (j:Int)=some j:=by
  unfold Ep;rw[if_pos (by lia),if_pos (by lia)];simp
 unfold rT;rw[e];exact h
theorem Gi{α:Type}(xs:List α)(v:α):rT (xs++[v]) (-1)=some v:=by
 have hl:(xs++[v]).length=xs.length+1:=by simp
 have e:Ep (xs++[v]).length (-1)=some xs.length:=by
  unfold Ep;rw[hl,if_neg (by decide),if_pos (by lia)];congr 1
  lia
 unfold rT;rw[e];show (xs++[v])[xs.length]?=some v;simp
def Jx(b:Expr):Prop:=∀o i,wfQ b false o i=operate [o,i] (getItem o i)
def O0(X:Cx)(r:R2):Prop:=
 ∀(value slice:Expr) (pins:List (Addr×Obj)) (s:Shared) (σ:St) (H:Hp) (x y:V) (v u:Value) (Q:VK),Inv X pins σ H s->RelV x v->RelV y u->r x y H Q ->
  wfQ slice false v u=operate [v,u] (getItem v u)->wpAny (model X.prog X.w) X.A (weS value slice v u) (EP X pins σ Q) X.xe s
def Jy(X:Cx)(id:String)(r:V->List V->Hp->VK->Prop):Prop:=
 ∀(pins:List (Addr×Obj)) (s:Shared) (σ:St) (H:Hp) (x:V) (xs:List V) (v:Value) (us:List Value) (Q:VK),Inv X pins σ H s->RelV x v->Vals xs us->r x xs H Q ->
  wpAny (model X.prog X.w) X.A (call (.builtin id) (v::us)) (EP X pins σ Q) X.xe s
section
variable{X:Cx}{a b:Expr}{ta tb:TE}{pos:Pos}
theorem aX(g:O0 X r)(ha:PE X a ta)(j:PE X b tb)(hs:Jx b):PE X (.Subscript a b pos) (OM r ta tb):=by
 refine⟨?_⟩;intro c s σ H Q I h;exact wgi (Mh ha j I h λv u d x y e f i k q=>g a b c d σ e x y v u Q f i k q (hs _ _))
inductive P0(K:wa2)(x y:V)(H:Hp)(Q:VK):Prop
 |mk (p xs i v) (_:x=.ref p) (_:y=.int i) (_:aE K H p xs) (_:rT xs i=some v) (_:Q v H)
inductive P4(K:wa2)(x y:V)(H:Hp)(Q:VK):Prop
 |mk (p xs i v) (_:x=.ref p) (_:y=.int i) (_:hZ K H p xs) (_:rT xs i=some v) (_:Q v H)
inductive Su(x y:V)(H:Hp)(Q:VK):Prop
 |mk (z i c) (_:x=.str z) (_:y=.int i) (_:z.length<=sizeLine) (_:rT z.cps.toList i=some c) (_:Q (.str ⟨#[c]⟩) H)
theorem aW:O0 X (P0 X.K):=by
 intro value slice a s σ H x y v u Q I k l h f;obtain⟨p,D,i,z,rfl,rfl,m,n,q⟩:=h;cases k;obtain⟨t,rfl⟩:=l;obtain⟨c,r,pl,E⟩:=I.list m;obtain⟨j,b,o,G,A,B⟩:=y4 n;obtain⟨w,g,d⟩:=r.get o;have hl:=r.length;have hn:=n8;have fin:EP X a σ Q w s:=⟨z,H,I,d,q⟩
 by_cases h0:0<=i
 ·have e:i.toNat=j:=by
   rw[wh5 h0 B]at b;exact wae b
  exact item_listR pl.isList h0 (by lia) (by rw[e];simpa using g) fin f
 ·have e:(i+(c.toArray.size:Int)).toNat=j:=by
   rw[seqIndex_neg (by lia) A]at b;rw[waz,<-hl];exact wae b
  exact wfR (x:=w) pl.isList.typeIs wf0.lookup
   (wpAny_getItem_list_neg (Q:=λr C=>r=w/\EP X a σ Q r C) pl.isList (by lia) (by rw[waz]<;>lia) (by lia) (by rw[e];simpa using g) ⟨rfl,fin⟩) f
theorem gF:O0 X (P4 X.K):=by
 intro value slice a s σ H x y v u Q I c d h e;obtain⟨p,A,i,z,rfl,rfl,f,g,q⟩:=h;cases c;obtain⟨t,rfl⟩:=d;obtain⟨k,r,pl,B⟩:=I.tuple f;obtain⟨j,l,m,C,D,E⟩:=y4 g;obtain⟨w,n,b⟩:=r.get m;have hl:=r.length;have hn:=n8;have fin:EP X a σ Q w s:=⟨z,H,I,b,q⟩
 exact wfR (x:=w) pl.typeIs slot_tuple_getitem.lookup
  (getItem_tuple (j:=j) (Q:=λr o=>r=w/\EP X a σ Q r o) pl (by lia) (by lia) (by rw[waz,<-hl];exact l) (by simpa using n) ⟨rfl,fin⟩) e
theorem Gj:O0 X Su:=by
 intro value slice a s σ H x y v u Q I b d h e;obtain⟨z,i,c,rfl,rfl,m,f,q⟩:=h;obtain⟨t,rfl⟩:=b;obtain⟨n,rfl⟩:=d;obtain⟨j,g,o,p,k,l⟩:=y4 f;have hl:z.cps.toList.length=z.length:=by simp[wdm]
 rw[hl]at g k l;have hn:=n8
 exact tail_any (wgj s z t) slot_str_getitem.lookup (getItem_str (c:=c) (by
  grind) (by grind) ⟨.str ⟨#[c]⟩,H,I.tok _,⟨_,rfl⟩,q⟩) e
theorem Bv(g:List Value)(n j:Nat)(u:Value):wcE (·.setIfInBounds j u) {cls:=.type "list",data:=.seq g.toArray n}={cls:=.type "list",data:=.seq (g.set j u).toArray n}:=by
 simp[wcE]
theorem Inv.lst(I:Inv X j σ H s)(h:H p=some (.lst xs)) :
 ∃(g:List Value) (n:Nat),Vals xs g/\s.heap.get? p=some {cls:=.type "list",data:=.seq g.toArray n}/\xs.length<=sizeLine:=by
 obtain⟨z,g,n,r,e⟩:=I.b7 p _ h;exact⟨g,n,r,e,z⟩
theorem Inv.Mo{g:List (Addr×Obj)}{σ:St}{H:Hp}{s:Shared}{p:Addr}{xs ys:List V}{j its':List Value}{n l:Nat}{f:Obj->Obj}(I:Inv X g σ H s)(h:H p=some (.lst xs))
 (J:s.heap.get? p=some {cls:=.type "list",data:=.seq j.toArray n}) (C:f {cls:=.type "list",data:=.seq j.toArray n}={cls:=.type "list",data:=.seq its'.toArray l}) (r:Vals ys its') (T:ys.length<=sizeLine) (t:Nat) :
 Inv X g σ (upd H p (.lst ys)) {s with heap:=s.heap.update p f,toks:=t}:=by
 have e:(s.heap.update p f).get? p=some {cls:=.type "list",data:=.seq its'.toArray l}:=by
  rw[wbB f J (by rw[C]<;>rfl),C]
 refine I.write (x:=p) (e:=p) (by rw[h];trivial) (.inl rfl) (λb u a q=>(waL _ _ (wbs a)).trans q) ⟨_,e⟩ ?_;exact⟨T,its',l,r,e⟩
inductive P5(o i v:V)(H:Hp)(Q:Hp->Prop):Prop
 |mk (p xs k j) (_:o=.ref p) (_:i=.int k) (_:H p=some (.lst xs)) (_:Ep xs.length k=some j) (_:Q (upd H p (.lst (xs.set j v))))
theorem set_list:OA X P5:=by
 intro a s σ H o i v B C u Q I m w x h;obtain⟨p,y,k,j,rfl,rfl,e,z,q⟩:=h;cases m;obtain⟨t,rfl⟩:=w;obtain⟨b,n,r,d,A⟩:=I.lst e;obtain⟨c,D,f,g⟩:=Dv z;have hl:=r.length;have hn:=n8
 have l:Inv X a σ (upd H p (.lst (y.set j v))) {s with heap:=s.heap.update p (wcE (·.setIfInBounds j u))}:=
  I.Mo e d (Bv b n j u) (r.set x j) (by rw[wcg];exact A) s.toks
 by_cases h0:0<=k
 ·have hk:k.toNat=j:=by
   rw[wh5 h0 g]at c;exact wae c
  exact PySem.W.ki_setAt d h0 (by lia) (by rw[waz,<-hl];exact g) (by rw[hk];exact⟨_,l,q⟩)
 ·have hk:(k+(b.toArray.size:Int)).toNat=j:=by
   rw[seqIndex_neg (by lia) f]at c;rw[waz,<-hl];exact wae c
  exact PySem.W.ki_setBack d (by lia) (by rw[waz,<-hl];exact f) (by lia) (by rw[hk];exact⟨_,l,q⟩)
theorem y6(lo hi:Option Int)(n:Nat):(wfS lo hi none n).1=((HT.zf n 0 lo:Nat):Int)/\(wfS lo hi none n).2.1=((HT.zf n n hi:Nat):Int)/\(wfS lo hi none n).2.2=1:=by
 have key:∀(i:Int) (d:Nat),max 0 (min (if i<0 then i+(n:Int) else i) (n:Int))=((HT.zf n d (some i):Nat):Int):=by
  intro i d
  by_cases h:i<0<;>simp only[HT.zf,h,if_true,if_false]<;>lia
 exact⟨by cases lo with |none=>rfl |some i=>exact key i 0,by cases hi with |none=>rfl |some i=>exact key i n,rfl⟩
theorem vH(g:List Value)(lo hi:Option Int):weN g.toArray lo hi none=((g.drop (HT.zf g.length 0 lo)).take (HT.zf g.length g.length hi-HT.zf g.length 0 lo)).toArray:=by
 obtain⟨a,b,c⟩:=y6 lo hi g.toArray.size;unfold weN;rw[a,b,c];simp only[sliceRange_one,pick_run,waz]<;>rfl
inductive Sv(K:wa2)(x:V)(lo hi:Option Int)(H:Hp)(Q:VK):Prop
 |mk (a xs) (_:x=.ref a) (_:aE K H a xs) (_:∀p,H p=none->Q (.ref p) (upd H p (.lst (j9 xs lo hi))))
theorem iK:Ss X (Sv X.K):=by
 intro e s σ H x v n p lo hi sl Q I g i pl j h;obtain⟨a,c,rfl,k,q⟩:=h;cases g;obtain⟨l,r,f,m⟩:=I.list k;have d:=r.length;refine⟨"list",_,wf0.lookup,f.isList.typeIs,?_⟩;refine wfj f.isList i pl j .none (by simp) ?_ (by grind);rw[vH,<-d];refine⟨.ref s.heap.objs.size,_,I.laid (t':=s.toks) (o:=.lst (j9 c lo hi)) (λb ob q=>wa9 _ q) (wab _) ?_,rfl,q _ (I.b7.fresh (wab _))⟩;exact⟨wai (zr c lo hi) m,_,0,(r.drop (HT.zf c.length 0 lo)).take (HT.zf c.length c.length hi-HT.zf c.length 0 lo),waw _ rfl⟩
noncomputable def et:V->Bool
 |.non=>true
 |.bl _=>true
 |.int _=>true
 |.str _=>true
 |_=>false
noncomputable def qI:V->V->Bool
 |.non,.non=>true
 |.bl a,.bl b=>a==b
 |.bl a,.int b=>(if a then 1 else 0)==b
 |.int a,.bl b=>a==(if b then 1 else 0)
 |.int a,.int b=>a==b
 |.str a,.str b=>a==b
 |_,_=>false
theorem y7(j:RelV y u)(g:RelV x v)(p:et y=true)(l:et x=true):SeqAt.EqAt A s u v (qI y x):=by
 cases y with
 |non=>
  cases j
  cases x with
  |non=>cases g;exact SeqAt.EqAt.same _
  |bl b=>cases g;exact SeqAt.EqAt.none_bool b
  |int b=>obtain⟨t,rfl⟩:=g;exact SeqAt.EqAt.none_int b t
  |str b=>obtain⟨t,rfl⟩:=g;exact SeqAt.EqAt.none_str b t
  |_=>exact absurd (show false=true from l) wam
 |bl a=>
  cases j
  cases x with
  |non=>cases g;exact SeqAt.EqAt.bool_none a
  |bl b=>cases g;exact SeqAt.EqAt.bool_bool a b
  |int b=>obtain⟨t,rfl⟩:=g;exact SeqAt.EqAt.bool_int a b t
  |str b=>obtain⟨t,rfl⟩:=g;exact SeqAt.EqAt.bool_str a b t
  |_=>exact absurd (show false=true from l) wam
 |int a=>
  obtain⟨c,rfl⟩:=j
  cases x with
  |non=>cases g;exact SeqAt.EqAt.int_none a c
  |bl b=>cases g;exact SeqAt.EqAt.int_bool a c b
  |int b=>obtain⟨t,rfl⟩:=g;exact wg6 a c b t
  |str b=>obtain⟨t,rfl⟩:=g;exact wgC a c b t
  |_=>exact absurd (show false=true from l) wam
 |str a=>
  obtain⟨c,rfl⟩:=j
  cases x with
  |non=>cases g;exact SeqAt.EqAt.str_none a c
  |bl b=>cases g;exact SeqAt.EqAt.str_bool a c b
  |int b=>obtain⟨t,rfl⟩:=g;exact wgD a c b t
  |str b=>obtain⟨t,rfl⟩:=g;exact wg7 a c b t
  |_=>exact absurd (show false=true from l) wam
 |_=>exact absurd (show false=true from p) wam
noncomputable def Bw(x:V)(u:Value):Bool:=match u with
 |.none=>qI .non x
 |.bool b=>qI (.bl b) x
 |.int i _=>qI (.int i) x
 |.str z _=>qI (.str z) x
 |_=>false
theorem Gk(r:RelV y u)(f:et y=true):Bw x u=qI y x:=by
 cases y with
 |non=>cases r;rfl
 |bl b=>cases r;rfl
 |int i=>obtain⟨t,rfl⟩:=r;rfl
 |str z=>obtain⟨t,rfl⟩:=r;rfl
 |_=>exact absurd (show false=true from f) wam
theorem nX:∀{xs:List V} {us:List Value},Vals xs us->xs.all et=true->us.any (Bw x)=xs.any λy=>qI y x
 |_,_,.nil,_=>rfl
 |y::xs,u::us,.cons r t,f=>by
  rw[weT,wc9]at f;rw[wcU,wcU,Gk r f.1,nX t f.2]
theorem kM(g:RelV x v)(j:et x=true):∀{xs:List V} {us:List Value},Vals xs us->xs.all et=true->∀u∈us,SeqAt.EqAt A s u v (Bw x u)
 |_,_,.nil,_=>λu a=>by cases a
 |y::xs,u::us,.cons r t,f=>λb a=>by
  rw[weT,wc9]at f;rcases waD.mp a with rfl |a
  ·rw[Gk r f.1];exact y7 r g f.1 j
  ·exact kM g j t f.2 b a
noncomputable def nY(x:V)(xs:List V):Bool:=xs.any λy=>qI y x
inductive Rl(K:wa2)(neg:Bool)(x y:V)(H:Hp)(Q:VK):Prop
 |mk (p xs) (_:y=.ref p) (_:(aE K H p xs\/hZ K H p xs)) (_:et x=true) (_:xs.all et=true) (_:Q (.bl (if neg then !nY x xs else nY x xs)) H)
theorem pL:kI X (wb4 .In) (Rl X.K false):=by
 intro c s σ H x y v u Q I d f h;obtain⟨p,i,rfl,b,e,fs,q⟩:=h;cases f;rcases b with b |b
 ·obtain⟨a,r,pl,g⟩:=I.list b;refine SeqAt.in_listAt (Bw x) pl.isList (λw hw=>kM d e r fs w (by grind)) ⟨.bl _,H,I,rfl,?_⟩;rw[show a.toArray.any (Bw x)=a.any (Bw x) by simp,nX r fs];exact q
 ·obtain⟨a,r,pl,g⟩:=I.tuple b;refine SeqAt.in_tupleAt (Bw x) pl (λw hw=>kM d e r fs w (by grind)) ⟨.bl _,H,I,rfl,?_⟩;rw[show a.toArray.any (Bw x)=a.any (Bw x) by simp,nX r fs];exact q
theorem jD:kI X (wb4 .NotIn) (Rl X.K true):=by
 intro c s σ H x y v u Q I d f h;obtain⟨p,i,rfl,b,e,fs,q⟩:=h;cases f;rcases b with b |b
 ·obtain⟨a,r,pl,g⟩:=I.list b;refine SeqAt.notIn_listAt (Bw x) pl.isList (λw hw=>kM d e r fs w (by grind)) ⟨.bl _,H,I,rfl,?_⟩;rw[show a.toArray.any (Bw x)=a.any (Bw x) by simp,nX r fs];exact q
 ·obtain⟨a,r,pl,g⟩:=I.tuple b;refine SeqAt.notIn_tupleAt (Bw x) pl (λw hw=>kM d e r fs w (by grind)) ⟨.bl _,H,I,rfl,?_⟩;rw[show a.toArray.any (Bw x)=a.any (Bw x) by simp,nX r fs];exact q
theorem y8:kI X (wb4 .NotIn) (λx y H Q=>∃i j,x=.str i/\y=.str j/\Q (.bl (!(!(wcQ j i 0 j.length 1).isEmpty))) H):=by
 intro a s σ H x y v u Q I b c h;obtain⟨i,j,rfl,rfl,q⟩:=h;obtain⟨t,rfl⟩:=b;obtain⟨d,rfl⟩:=c;exact notIn_str ⟨.bl _,H,I,rfl,q⟩
theorem nZ:dA X (.builtin "len") (λxs H Q=>∃p ys,xs=[.ref p]/\(aE X.K H p ys\/hZ X.K H p ys)/\Q (.int ys.length) H):=by
 intro e s σ H xs i Q I r h;obtain⟨p,ys,rfl,a,q⟩:=h;obtain⟨u,rfl,f⟩:=vals1 r;cases f;have hn:=n8;rcases a with a |a
 ·obtain⟨c,d,pl,g⟩:=I.list a;have b:=d.length;exact weD pl.isList (by grind) ⟨.int ys.length,H,I.tok _,⟨s.toks+1,by grind⟩,q⟩
 ·obtain⟨c,d,pl,g⟩:=I.tuple a;have b:=d.length;exact len_tuple pl (by grind) ⟨.int ys.length,H,I.tok _,⟨s.toks+1,by grind⟩,q⟩
theorem y9:dA X (.builtin "len") (λxs H Q=>∃z,xs=[.str z]/\z.length<=sizeLine/\Q (.int z.length) H):=by
 intro a s σ H xs b Q I r h;obtain⟨z,rfl,c,q⟩:=h;obtain⟨u,rfl,t,rfl⟩:=vals1 r;have hn:=n8;exact len_str (by lia) ⟨.int z.length,H,I.tok _,⟨_,rfl⟩,q⟩
theorem cA:dA X (.type "list") (λxs H Q=>∃p ys,xs=[.ref p]/\(aE X.K H p ys\/hZ X.K H p ys)/\∀l,H l=none->Q (.ref l) (upd H l (.lst ys))):=by
 intro g s σ H xs x Q I r h;obtain⟨p,ys,rfl,i,q⟩:=h;obtain⟨u,rfl,v⟩:=vals1 r;cases v
 have fin:∀(a:List Value),Vals ys a->ys.length<=sizeLine->∀(c:Heap) (d:Nat),(∀b t,s.heap.get? b=some t->c.get? b=some t) ->
  c.get? s.heap.objs.size=some {cls:=.type "list",dict:=none,data:=.seq a.toArray d,slots:=#[]}->EP X g σ Q (.ref s.heap.objs.size) {s with heap:=c}:=λa f j c d kp e=>
  ⟨.ref s.heap.objs.size,_,I.laid (t':=s.toks) kp (wab _) (show bP X.prog X.w _ c _ (.lst ys) from ⟨j,a,d,f,e⟩),rfl,q _ (I.b7.fresh (wab _))⟩
 rcases i with i |i
 ·obtain⟨a,f,pl,j⟩:=I.list i;have k:=f.length;obtain⟨o,m,hc,n,hd⟩:=pl.isList;exact call_list_seq p (.inl rfl) m hc hd (λc d kp e=>fin a f j c d kp e) (by grind)
 ·obtain⟨a,f,pl,j⟩:=I.tuple i;have k:=f.length;obtain⟨o,m,hc,n,hd⟩:=pl;exact call_list_seq p (.inr rfl) m hc hd (λc d kp e=>fin a f j c d kp e) (by grind)
def Sw(K:wa2)(T:String)(x:V)(H:Hp):Prop:=match x with
 |.str _=>T="str"
 |.int _=>T="int"
 |.ref p=>(T="list"/\∃xs,aE K H p xs)\/(T="tuple"/\∃o,K.lookup p=some o/\o.cls=.type "tuple"/\o.dict=none) \/
   (T="dict"/\((∃kvs,H p=some (.dK kvs))\/∃kvs,H p=some (.dT kvs)))\/(T="set"/\∃S n,H p=some (.set S n))
 |_=>False
theorem Gm(I:Inv X g σ H s)(r:RelV x v)(ty:Sw X.K T x H) :
 s.TypeIs v T/\∀a,v=.ref a->∃ob,s.heap.get? a=some ob/\ob.dict=none:=by
 cases x with
 |str z=>
  obtain⟨t,rfl⟩:=r;cases(show T="str" from ty);exact⟨wgj s z t,λ_ e=>nomatch e⟩
 |int i=>
  obtain⟨t,rfl⟩:=r;cases(show T="int" from ty);exact⟨typeIs_int s i t,λ_ e=>nomatch e⟩
 |ref p=>
  cases r;rcases ty with⟨rfl,j,f⟩ |⟨rfl,o,hk,hc,hd⟩ |⟨rfl,hk⟩ |⟨rfl,S,n,hk⟩
  ·obtain⟨h,_,pl,_⟩:=I.list f;refine⟨pl.isList.typeIs,λa e=>?_⟩;cases e;obtain⟨o,n,e,c,hd,_⟩:=pl;exact⟨o,e,hd⟩
  ·refine⟨⟨o,I.hE p o hk,hc⟩,λa e=>?_⟩;cases e;exact⟨o,I.hE _ o hk,hd⟩
  ·have z:∃o,s.heap.get? p=some o/\o.ExactDict:=by
    rcases hk with⟨b,hk⟩ |⟨b,hk⟩
    ·obtain⟨_,_,_,_,o,_,_,e,ex,_⟩:=I.b7 p _ hk;exact⟨o,e,ex⟩
    ·obtain⟨_,_,_,_,o,_,_,e,ex,_⟩:=I.b7 p _ hk;exact⟨o,e,ex⟩
   obtain⟨o,e,ex⟩:=z;refine⟨⟨o,e,ex.1⟩,λa d=>?_⟩;cases d;exact⟨o,e,ex.2.1⟩
  ·obtain⟨o,_,_,_,e,ex,_⟩:=I.b7 p _ hk;refine⟨⟨o,e,ex.1⟩,λa d=>?_⟩;cases d;exact⟨o,e,ex.2.1⟩
 |_=>exact waU ty
def P6(K:wa2)(T:String)(r:V->List V->Hp->VK->Prop)(to:TE):TE:=λσ H Q=>to σ H λx H1=>Sw K T x H1/\r x [] H1 Q
def Vi(K:wa2)(T:String)(r:V->List V->Hp->VK->Prop)(to:TE)(t:TA):TE:=λσ H Q=>to σ H λx H1=>Sw K T x H1/\t σ H1 λxs H2=>r x xs H2 Q
variable{o e:Expr}{es:List Expr}{to:TE}{t:TA}{name:Str}{apos hH:Pos}{T id:String}{r:V->List V->Hp->VK->Prop}
theorem Gn(p:wgk T)(slot:Slot T name id)(l:typeOf (.builtin id)=pure (.type "method_descriptor"))(C:Jy X id r)(J:PE X o to)
 (g:wcy o name X.env (eval o X.env)=eval o X.env:=by rfl) (j:(apos.endLine==hH.line)=true:=by rfl):PE X (.Call (.Attribute o name apos) [] [] hH) (P6 X.K T r to):=by
 refine⟨?_⟩;intro a s σ H Q I h;refine wpAny_Call_method0_late g j (bI (J a s σ H _ I h) λv d ⟨x,e,b,c,ty,f⟩=>?_);obtain⟨i,k⟩:=Gm b c ty;exact⟨T,id,p,slot,l,i,k,wfT rfl (PySem.evalArgs_none (C a d σ e x [] v [] Q b c .nil f))⟩
theorem iL(J:wgk T)(slot:Slot T name id)(C:typeOf (.builtin id)=pure (.type "method_descriptor"))(U:Jy X id r)(ho:PE X o to)(ha:PA X (e::es) t)
 (j:wcy o name X.env (eval o X.env)=eval o X.env:=by rfl)
 (p:((backTo hH (starEach (e::es) X.env)).all (λx=>!x.1)&&(backToKw hH (wcJ [] X.env)).all (λx=>x.1.isSome)
   && decide ((e::es).length+([]:List wdT).length+(if ([]:List wdT).isEmpty then 0 else 1)<30))=true:=by rfl)
 (l:(apos.endLine==hH.line)=true:=by rfl) (hs:starEach (e::es) X.env=(false,eval e X.env)::starEach es X.env:=by rfl) (g:(backTo hH (starEach es X.env)).any (·.1)=false:=by rfl) :
 PE X (.Call (.Attribute o name apos) (e::es) [] hH) (Vi X.K T r to t):=by
 refine⟨?_⟩;intro a s σ H Q I h;refine wpAny_Call_method_late j p l rfl (bI (ho a s σ H _ I h) λv f ⟨x,i,b,c,ty,k⟩=>?_);obtain⟨m,n⟩:=Gm b c ty;refine⟨T,id,J,slot,C,m,n,?_⟩;have d:=ha hH a f σ i _ b k;rw[hs]at d ⊢;refine wfT (by show (false ||(backTo hH (starEach es X.env)).any (·.1))=false;rw[g]<;>rfl) (Calls.evalArgs_plain ?_);exact bI d λq u ⟨w,y,z,A,B⟩=>U a u σ y x w v q Q z c A B
end
def Vj(X:Cx)(id:String)(r:V->List V->Hp->VK->Prop):Prop:=
 ∀(pins:List (Addr×Obj)) (s:Shared) (σ:St) (H:Hp) (x:V) (xs:List V) (v:Value) (us:List Value) (Q:VK),Inv X pins σ H s->RelV x v->Vals xs us->r x xs H Q ->
  wpAny (model X.prog X.w) X.A (call (.builtin id) (v::us)) (EP X pins σ Q) X.xe s
theorem Vals.one:∀{x:V} {us:List Value},Vals [x] us->∃u,us=[u]/\RelV x u
 |_,_,.cons r .nil=>⟨_,rfl,r⟩
theorem Vals.zero:∀{us:List Value},Vals [] us->us=[]
 |_,.nil=>rfl
theorem Vals.dropLast(h:Vals xs us):Vals xs.dropLast us.dropLast:=by
 induction h with
 |nil=>exact .nil
 |cons r t a=>
  cases t with
  |nil=>exact .nil
  |cons q b=>exact .cons r a
theorem Vals.rep(h:Vals xs us):∀k:Nat,Vals (wah k xs).flatten (wah k us).flatten
 |0=>.nil
 |k+1=>by
  rw[wcn,wcn,wbZ,wbZ];exact Vals.append h (Vals.rep h k)
theorem foldl_rep(g:List Value):∀(k:Nat) (j:List Value),
 whk (λl p=>l++p) j.toArray (wah k g.toArray)=(j++(wah k g).flatten).toArray
 |0,j=>by simp
 |k+1,j=>by
  have e:j.toArray++g.toArray=(j++g).toArray:=by simp
  have a:(j++g)++(wah k g).flatten=j++(wah (k+1) g).flatten:=by
   grind
  rw[<-a,<-foldl_rep g k (j++g),<-e,wcn,wdw]
section
variable{X:Cx}{pins:List (Addr×Obj)}{σ:St}{H:Hp}{s:Shared}{l b:Addr}{xs ys zs:List V}
theorem Inv.P7{g its':List Value}{n:Nat}{f:Array Value->Array Value}{t':Nat}(I:Inv X pins σ H s)(j:H l=some (.lst xs))
 (e:s.heap.get? l=some {cls:=.type "list",data:=.seq g.toArray n}) (p:f g.toArray=its'.toArray) (r:Vals ys its') (t:ys.length<=sizeLine) :
 Inv X pins σ (upd H l (.lst ys)) {s with heap:=s.heap.update l (wcE f),toks:=t'}:=by
 have q:=PySem.IsL.update e f;rw[p]at q;refine I.write (x:=l) (e:=l) (by rw[j];exact trivial) (.inl rfl) (λc u a b=>(waL s.heap (wcE f) (wbs a)).trans b) ⟨_,q⟩ ?_;exact⟨t,its',_,r,q⟩
theorem Inv.Mp(I:Inv X pins σ H s)(j:Vals ys g)(p:ys.length<=sizeLine) :
 Inv X pins σ (upd H s.heap.objs.size (.lst ys)) {s with heap:=s.heap.push {cls:=.type "list",data:=.seq g.toArray},toks:=t'}:=
 I.laid (λ_ _ q=>wa9 _ q) (wab _) ⟨p,g,0,j,waw _ rfl⟩
theorem Inv.fresh(I:Inv X pins σ H s):H s.heap.objs.size=none:=I.b7.fresh (wab _)
theorem Inv.Go(I:Inv X pins σ H s)(j:H l=some (.lst xs)):xs.length<=sizeLine/\∃(g:List Value) (n:Nat),Vals xs g/\xs.length=g.length/\s.heap.get? l=some {cls:=.type "list",data:=.seq g.toArray n}:=by
 obtain⟨z,g,n,r,e⟩:=I.b7 l _ j;exact⟨z,g,n,r,r.length,e⟩
theorem Gp(h:n<=sizeLine):wdH n=false:=by grind [wdH,decide_eq_false]
end
section
variable{X:Cx}
inductive Jz(x:V)(vs:List V)(H:Hp)(Q:VK):Prop
 |mk (l xs y) (_:x=.ref l) (_:vs=[y]) (_:H l=some (.lst xs)) (_:xs.length<sizeLine) (_:Q .non (upd H l (.lst (xs++[y]))))
theorem cK:Vj X "list.append" Jz:=by
 intro b s σ H x i v j Q I d f h;obtain⟨l,k,y,rfl,rfl,c,m,q⟩:=h;cases d;obtain⟨u,rfl,g⟩:=f.one;obtain⟨z,a,n,r,hl,e⟩:=I.Go c;refine wep waV ⟨_,e,rfl⟩ F.entry_list_append (F.args_list_append_2 _ _) (PySem.list_append l a.toArray n u (by grind)) ⟨e,?_⟩;refine⟨.non,_,I.P7 (its':=a++[u]) c e (by simp) (r.append (.cons g .nil)) ?_,rfl,q⟩;rw[wa7,wcx]
 lia
inductive Sy(x:V)(vs:List V)(H:Hp)(Q:VK):Prop
 |mk (l xs y) (_:x=.ref l) (_:vs=[]) (_:H l=some (.lst xs)) (_:xs[xs.length-1]?=some y) (_:Q y (upd H l (.lst xs.dropLast)))
theorem Mq:Vj X "list.pop" Sy:=by
 intro d s σ H x m v o Q I g i h;obtain⟨l,p,y,rfl,rfl,f,j,q⟩:=h;cases g;have b:=i.zero;subst b;obtain⟨z,a,n,r,hl,e⟩:=I.Go f;obtain⟨u,t,k⟩:=r.get j
 have c:a.toArray[a.toArray.size-1]?=some u:=by
  grind
 refine wep wgK ⟨_,e,rfl⟩ F.entry_list_pop (F.args_list_pop_1 _) (MeetsSeq.list_pop_last l a.toArray n u c (by grind)) ⟨e,?_⟩;refine⟨y,_,I.P7 (its':=a.dropLast) f e ?_ r.dropLast ?_,k,q⟩
 ·grind
 ·grind
inductive Sz(x y:V)(H:Hp)(Q:VK):Prop
 |mk (l b xs zs) (_:x=.ref l) (_:y=.ref b) (_:H l=some (.lst xs)) (_:H b=some (.lst zs)) (_:xs.length+zs.length<=sizeLine) (_:∀p,H p=none->Q (.ref p) (upd H p (.lst (xs++zs))))
theorem Gq:kI X (binaryOp .Add) Sz:=by
 intro d s σ H x y v u Q I f g h;obtain⟨l,b,t,w,rfl,rfl,i,j,A,q⟩:=h;cases f;cases g;obtain⟨z,c,n,r,hl,e⟩:=I.Go i;obtain⟨B,a,C,k,m,o⟩:=I.Go j;refine wha e o ?_ (by rw[waz,waz];omega);have p:c.toArray++a.toArray=(c++a).toArray:=by simp
 rw[p];exact⟨.ref _,_,I.Mp (t':=s.toks) (r.append k) (by rw[wa7];omega),rfl,q _ I.fresh⟩
inductive SA(x y:V)(H:Hp)(Q:VK):Prop
 |mk (l k xs) (_:x=.ref l) (_:y=.int k) (_:H l=some (.lst xs)) (_:-(2^63)<=k) (_:k<2^63) (_:xs.length*k.toNat<=sizeLine) (_:∀p,H p=none->Q (.ref p) (upd H p (.lst (wah k.toNat xs).flatten)))
theorem JA{α:Type}(xs:List α)(k:Nat):(wah k xs).flatten.length=k*xs.length:=by simp_all [wcn,wbZ,wa7,Nat.succ_mul,wgL]
theorem Gr:kI X (binaryOp .Mult) SA:=by
 intro p s σ H x y v u Q I A B h;obtain⟨l,k,L,rfl,rfl,C,D,E,w,q⟩:=h;cases A;obtain⟨t,rfl⟩:=B;obtain⟨z,b,n,r,hl,e⟩:=I.Go C;have d:b.toArray.size*k.toNat<=sizeLine:=by rw[waz,<-hl];exact w
 have f:¬b.toArray.size*k.toNat>(2^63-1)/8:=by
  have:(sizeLine:Nat)<=(2^63-1)/8:=by decide
  lia
 have g:¬(!Builtin.List.listFitsIndex k)=true:=by
  rw[fitsIndex_both D E];exact wam
 have c:¬wdH (b.toArray.size*k.toNat)=true:=by
  rw[Gp d];exact wam
 have i:whk (λj o=>j++o) #[] (wah (if b.toArray.isEmpty=true then 0 else k.toNat) b.toArray)=(wah k.toNat b).flatten.toArray:=by
  have G:∀m:Nat,whk (λj o=>j++o) #[] (wah m b.toArray)=(wah m b).flatten.toArray:=λm=>by
   grind [foldl_rep]
  rw[G]
  cases b with
  |nil=>simp
  |cons a M=>grind
 refine wpAny_binaryOp_repeat_ref (T:="list") (U:="int") (by decide) ⟨_,e,rfl⟩ (λJ=>typeIs_int J k t) noFill_list_mul F.fills_int_mul F.slot_int_rmul repeat_list F.slot_int_index.lookup
  (wep F.slot_int_rmul (typeIs_int s k t) F.entry_int_rmul (F.args_int_rmul_2 _ _) (int___rmul___int_list k t l b.toArray n)
    ⟨e,rfl,⟨_,e,rfl⟩,wep F.slot_list_mul ⟨_,e,rfl⟩ F.entry_list_mul (F.args_list_mul_2 _ _) (AutoListH.list___mul___list_int_3 l b.toArray n k t g f c) ⟨e,?_⟩⟩)
 rw[i];exact⟨.ref _,_,I.Mp (t':=s.toks) (r.rep k.toNat) (by rw[JA,Nat.mul_comm];exact w),rfl,q _ I.fresh⟩
end
section
variable{prog:wap}{w:World}{A:Around}{E:Value->Shared->Prop}{s:Shared}
set_option maxRecDepth 100000 in
end
section
variable{X:Cx}
end
section
variable{κ:Type}[DecidableEq κ]
noncomputable def cQ(kvs:List (κ×V))(k:κ):Option V:=(kvs.find? λkv=>decide (kv.1=k)).map (·.2)
noncomputable def putK(kvs:List (κ×V))(k:κ)(v:V):List (κ×V):=
 if (kvs.any λkv=>decide (kv.1=k))=true then kvs.map (λkv=>if kv.1=k then(kv.1,v) else kv) else kvs++[(k,v)]
theorem Gs:cQ ([]:List (κ×V)) k=none:=rfl
theorem eX{p:κ×V}{r:List (κ×V)}{k:κ}(e:p.1=k):cQ (p::r) k=some p.2:=by simp[cQ,wd2,e]
theorem eY{p:κ×V}{r:List (κ×V)}{k:κ}(e:¬p.1=k):cQ (p::r) k=cQ r k:=by simp[cQ,wd2,e]
theorem kN(k:κ):∀kvs:List (κ×V),(kvs.any λg=>decide (g.1=k))=(cQ kvs k).isSome
 |[]=>rfl
 |p::r=>by
  rw[wcU]
  by_cases e:p.1=k
  ·simp only[eX e,decide_eq_true e,Bool.true_or,Option.isSome_some]
  ·rw[eY e,decide_eq_false e,Bool.false_or];exact kN k r
theorem kP(kvs:List (κ×V))(k:κ)(v:V):(putK kvs k v).length<=kvs.length+1:=by
 unfold putK;split
 ·rw[wa0];lia
 ·rw[wa7,waF,wfJ];lia
theorem eZ{kvs:List (κ×V)}{k:κ}(v:V)(h:cQ kvs k=none):putK kvs k v=kvs++[(k,v)]:=by simp_all [putK,kN,if_neg]
theorem jw.ja(r:jw o u):o.isSome=u.isSome:=by
 cases o with
 |none=>cases u with
  |none=>rfl
  |some _=>exact(show False from r).elim
 |some _=>cases u with
  |none=>exact(show False from r).elim
  |some _=>rfl
theorem KV.val{kvs:List (κ×V)}{vs:List (κ×Value)}(r:KV kvs vs)(k:κ):jw (cQ kvs k) (valueAt vs k):=by
 unfold KV at r
 induction r with
 |nil=>exact wbA
 |@cons p q ps a h t f=>
  obtain⟨d,g⟩:=h
  by_cases e:p.1=k
  ·have c:q.1=k:=d.symm.trans e;have b:valueAt (q::a) k=some q.2:=by simp[valueAt,wd2,c]
   rw[eX e,b];exact g
  ·have c:¬q.1=k:=λz=>e (d.trans z);have b:valueAt (q::a) k=valueAt a k:=by simp[valueAt,wd2,c]
   rw[eY e,b];exact f
theorem KV.any{kvs:List (κ×V)}{vs:List (κ×Value)}(r:KV kvs vs)(k:κ):(kvs.any λg=>decide (g.1=k))=vs.any λg=>decide (g.1=k):=by
 unfold KV at r
 induction r with
 |nil=>rfl
 |cons h t a=>rw[wcU,wcU,a,h.1]
theorem KV.repl(r:KV kvs vs)(k:κ)(j:RelV y u) :
 KV (kvs.map λg=>if g.1=k then(g.1,y) else g) (vs.map λg=>if g.1=k then(g.1,u) else g):=by
 unfold KV at r ⊢
 induction r with
 |nil=>exact .nil
 |@cons p q ps d h t b=>
  rw[wao,wao];refine .cons ?_ b;obtain⟨a,c⟩:=h
  by_cases e:p.1=k
  ·rw[if_pos e,if_pos (a.symm.trans e)];exact⟨a,j⟩
  ·rw[if_neg e,if_neg (λz=>e (a.trans z))];exact⟨a,c⟩
theorem KV.put{kvs:List (κ×V)}{vs:List (κ×Value)}(r:KV kvs vs)(k:κ){y:V}{u:Value}(g:RelV y u):KV (putK kvs k y) (stored vs k u):=by
 unfold putK stored;rw[r.any k]
 by_cases e:(vs.any λa=>decide (a.1=k))=true
 ·rw[if_pos e,if_pos e];exact r.repl k g
 ·rw[if_neg e,if_neg e];exact Paired.snoc r ⟨rfl,g⟩
theorem KV.keys{kvs:List (κ×V)}{vs:List (κ×Value)}(r:KV kvs vs):kvs.map (·.1)=vs.map (·.1):=by
 unfold KV at r
 induction r with
 |nil=>rfl
 |cons h t a=>grind
theorem KV.length{kvs:List (κ×V)}{vs:List (κ×Value)}(r:KV kvs vs):kvs.length=vs.length:=wgs r
end
theorem wI(r:RelV (kV k) u):(bq P w).is k u=true:=by grind [RelV,kV,bq,zg,zh]
theorem wJ:∀{g:List Key} {us:List Value},Vals (g.map kV) us->ItemsAre (bq P w) g us
 |[],_,r=>by rw[weq]at r;cases r;exact .nil
 |k::g,_,r=>by
  rw[wao]at r
  cases r with
  |cons h t=>exact .cons (wI h) (wJ t)
abbrev KT(H:Hp):List (List Key×V)->List (List Key×Addr×Value)->Prop:=Paired λp q=>p.1=q.1/\H q.2.1=some (.tup (p.1.map kV))/\RelV p.2 q.2.2
theorem KT.val{H:Hp}{kvs:List (List Key×V)}{xs:List (List Key×Addr×Value)}(r:KT H kvs xs)(k:List Key):jw (cQ kvs k) ((atKey xs k).map (·.2)):=by
 induction r with
 |nil=>exact wbA
 |@cons p q ps a h t f=>
  obtain⟨d,_,g⟩:=h
  by_cases e:p.1=k
  ·have c:q.1=k:=d.symm.trans e;have b:atKey (q::a) k=some q.2:=by simp[atKey,wd2,c]
   rw[eX e,b];exact g
  ·have c:¬q.1=k:=λz=>e (d.trans z);have b:atKey (q::a) k=atKey a k:=by simp[atKey,wd2,c]
   rw[eY e,b];exact f
theorem KT.repl(r:KT H kvs xs)(k:List Key)(j:RelV y u) :
 KT H (kvs.map λg=>if g.1=k then(g.1,y) else g) (xs.map (putAt k u)):=by
 induction r with
 |nil=>exact .nil
 |@cons p q ps f h t c=>
  rw[wao,wao];refine .cons ?_ c;obtain⟨a,b,d⟩:=h;unfold putAt
  by_cases e:p.1=k
  ·rw[if_pos e,if_pos (a.symm.trans e)];exact⟨a,b,j⟩
  ·rw[if_neg e,if_neg (λz=>e (a.trans z))];exact⟨a,b,d⟩
theorem KT.put{H:Hp}{kvs:List (List Key×V)}{xs:List (List Key×Addr×Value)}(r:KT H kvs xs)(k:List Key){b:Addr}{y:V}{u:Value}(j:H b=some (.tup (k.map kV)))(g:RelV y u) :
 KT H (putK kvs k y) (storedH xs k b u):=by
 have e:(kvs.any λa=>decide (a.1=k))=(atKey xs k).isSome:=by
  rw[kN,(r.val k).ja,wf1]
 unfold putK storedH;rw[e]
 by_cases q:(atKey xs k).isSome=true
 ·rw[if_pos q,if_pos q];exact r.repl k g
 ·rw[if_neg q,if_neg q];exact Paired.snoc r ⟨rfl,j,g⟩
theorem KT.keeps(r:KT H kvs xs)(g:∀b ys,H b=some (.tup ys)->j b=some (.tup ys)):KT j kvs xs:=
 Paired.M4 r λ_ _ z=>⟨z.1,g _ _ z.2.1,z.2.2⟩
section
variable{P:wap}{w:World}{H:Hp}{h:Heap}{a:Addr}
theorem Ld(ok:jx P w H h)(e:Rd H a u):bP P w H h a u:=e.ok ok
theorem mF(ok:jx P w H h)(e:Rd H a (.dK kvs)):kvs.length<=sizeLine/\(a==wcY)=false/\∃vs,KV kvs vs/\h.DictOf (bq P w) a vs:=
 show bP P w H h a (.dK kvs) from Ld ok e
theorem t9(ok:jx P w H h)(e:H a=some (.dK kvs)):kvs.length<=sizeLine/\(a==wcY)=false/\∃vs,KV kvs vs/\h.DictOf (bq P w) a vs:=mF ok (.inl e)
theorem tf(ok:jx P w H h)(e:H a=some (.tup (g.map kV))):(wfF (bq P w)).is h g a:=by
 obtain⟨_,b,r,o,c,d,n,f⟩:=(show bP P w H h a (.tup (g.map kV)) from ok a _ e);exact⟨o,b.toArray,n,c,d,f,by simpa using wJ r⟩
theorem zt(ok:jx P w H h)(e:Rd H a (.dT kvs)):kvs.length<=sizeLine/\(a==wcY)=false /\
 ∃xs,KT H kvs xs/\h.DictOfH (wfF (bq P w)) a xs:=by
 obtain⟨z,y,xs,r,o,b,c,d,f,g,i,j⟩:=(show bP P w H h a (.dT kvs) from Ld ok e);refine⟨z,y,xs,r,o,b,c,d,f,g,i,λx k=>?_,j⟩
 have all:∀{l:List (List Key×V)} {m:List (List Key×Addr×Value)},KT H l m->∀x∈m,(wfF (bq P w)).is h x.1 x.2.1:=by
  intro l m q
  induction q with
  |nil=>grind
  |@cons p q ps n s t u=>
   grind [tf]
 exact all r x k
theorem P8(ok:jx P w H h)(e:H a=some (.dT kvs)):kvs.length<=sizeLine/\(a==wcY)=false /\
 ∃xs,KT H kvs xs/\h.DictOfH (wfF (bq P w)) a xs:=zt ok (.inl e)
end
def dG(H:Hp)(a:Addr)(y:V)(r:Option V):Prop:=
 (∃kvs k,Rd H a (.dK kvs)/\y=kV k/\r=cQ kvs k)\/∃kvs k b,Rd H a (.dT kvs)/\y=.ref b/\H b=some (.tup (k.map kV))/\r=cQ kvs k
def kQ(H:Hp)(a:Addr)(y v:V)(H':Hp):Prop:=
 (∃kvs k,H a=some (.dK kvs)/\y=kV k/\kvs.length<sizeLine/\H'=upd H a (.dK (putK kvs k v))) \/
 ∃kvs k b,H a=some (.dT kvs)/\y=.ref b/\H b=some (.tup (k.map kV))/\kvs.length<sizeLine/\H'=upd H a (.dT (putK kvs k v))
theorem dG.k{H:Hp}{a:Addr}{kvs:List (Key×V)}{k:Key}(e:H a=some (.dK kvs)):dG H a (kV k) (cQ kvs k):=.inl ⟨kvs,k,.inl e,rfl,rfl⟩
theorem kQ.k{H:Hp}{a:Addr}{kvs:List (Key×V)}{k:Key}{v:V}(e:H a=some (.dK kvs))(hl:kvs.length<sizeLine):kQ H a (kV k) v (upd H a (.dK (putK kvs k v))):=.inl ⟨kvs,k,e,rfl,hl,rfl⟩
section
variable{X:Cx}{pins:List (Addr×Obj)}{σ:St}{H:Hp}{s:Shared}{a:Addr}{y v:V}{u r:Value}{o:Option V}{A:Around}{E:Value->Shared->Prop}
theorem Inv.big(I:Inv X pins σ H s):wcY<s.heap.objs.size:=by
 have h:waK<s.heap.objs.size:=(I.mod.glob.keeps I.bk).lt;exact Nat.lt_trans (by decide) h
theorem Er{Q:Value->Shared->Prop}(C:A.units+1<wcw)(I:Inv X pins σ H s)(g:dG H a y (some v))(t:RelV y u)(h:∀j s',Inv X pins σ H s'->RelV v j->Q j s') :
 wpAny (model X.prog X.w) A (getItem (.ref a) u) Q E s:=by
 rcases g with⟨d,k,e,f,l⟩ |⟨d,k,b,e,f,n,l⟩
 ·subst f;obtain⟨z,hd,q,rel,i⟩:=mF I.b7 e;obtain⟨j,hw,c⟩:=jw.y2 (v:=v) (o:=valueAt q k) (by rw[l];exact rel.val k);exact wpAny_getItem_of (wI t) i.mapOf hw (h j _ (I.tok _) c)
 ·subst f;cases(show u=waj b from t);obtain⟨z,hd,r,rel,i⟩:=zt I.b7 e;obtain⟨j,hw,c⟩:=jw.y2 (v:=v) (o:=(atKey r k).map (·.2)) (by rw[l];exact rel.val k);obtain⟨p,x,m⟩:=wd9.mp hw;refine wpAny_getItem_heap (wdI C) (tf I.b7 n) i x ?_;rw[m];exact h j _ (I.tok _) c
theorem SD{Q:Value->Shared->Prop}(p:A.units+1<wcw)(I:Inv X pins σ H s)(g:dG H a y o)(j:RelV y u)(h:∀s',Inv X pins σ H s'->Q (.bool o.isSome) s') :
 wpAny (model X.prog X.w) A (wb4 .In u (.ref a)) Q E s:=by
 rcases g with⟨c,k,e,d,l⟩ |⟨c,k,b,e,d,i,l⟩
 ·subst d;obtain⟨z,hd,m,rel,f⟩:=mF I.b7 e;refine wpAny_in_of (wI j) hd f.mapOf ?_;rw[<-(rel.val k).ja,<-l];exact h _ (I.tok _)
 ·subst d;cases(show u=waj b from j);obtain⟨z,hd,n,rel,f⟩:=zt I.b7 e;refine wpAny_in_heap (wdI p) (tf I.b7 i) hd f ?_;have q:=(rel.val k).ja;rw[wf1]at q;rw[<-q,<-l];exact h _ (I.tok _)
theorem JB{Q:Value->Shared->Prop}(p:A.units+1<wcw)(I:Inv X pins σ H s)(g:dG H a y o)(j:RelV y u)(h:∀s',Inv X pins σ H s'->Q (.bool (!o.isSome)) s') :
 wpAny (model X.prog X.w) A (wb4 .NotIn u (.ref a)) Q E s:=by
 rcases g with⟨c,k,e,d,l⟩ |⟨c,k,b,e,d,i,l⟩
 ·subst d;obtain⟨z,hd,m,rel,f⟩:=mF I.b7 e;refine wpAny_notIn_of (wI j) hd f.mapOf ?_;rw[<-(rel.val k).ja,<-l];exact h _ (I.tok _)
 ·subst d;cases(show u=waj b from j);obtain⟨z,hd,n,rel,f⟩:=zt I.b7 e;refine wpAny_notIn_heap (wdI p) (tf I.b7 i) hd f ?_;have q:=(rel.val k).ja;rw[wf1]at q;rw[<-q,<-l];exact h _ (I.tok _)
theorem ya(I:Inv X pins σ H s)(g:Oq (H a))(hs:wfe a s.heap h')(he:∃q,h'.get? a=some q)(new:bP X.prog X.w (upd H a ob) h' a ob) :
 Inv X pins σ (upd H a ob) {s with heap:=h',toks:=t'}:=
 I.write (x:=a) (e:=a) g (.inl rfl) (λb q c z=>(hs.2 b c).trans z) he new
theorem Gu(z:kvs.length<=sizeLine)(hd:(a==wcY)=false)(rel:KV kvs vs)(dd:h'.DictOf (bq P w) a vs) :
 bP P w g h' a (.dK kvs):=⟨z,hd,vs,rel,dd⟩
theorem Es{Q:Unit->Shared->Prop}(J:A.units+1<wcw)(I:Inv X pins σ H s)(g:kQ H a y v T)(t:RelV y u)(C:RelV v r)(h:∀s',Inv X pins σ T s'->Q () s') :
 wpAny (model X.prog X.w) A (setItem (.ref a) u r) Q E s:=by
 rcases g with⟨d,k,e,j,l,m⟩ |⟨d,k,b,e,j,x,l,m⟩
 ·subst j m;obtain⟨z,hd,G,rel,n⟩:=t9 I.b7 e;have o:G.length<=sizeLine:=by rw[<-rel.length];exact z
  have hl:(putK d k v).length<=sizeLine:=by have:=kP d k v;lia
  refine wpAny_setItem_pairs (hsz:=o) (wI t) n λB f p=>h _ ?_;have L:∃q,B.get? a=some q:=let ⟨q,_,_,i,_⟩:=f;⟨q,i⟩
  exact ya I (by rw[e];exact wbA) p L (Gu hl hd (rel.put k C) f)
 ·subst j m;cases(show u=waj b from t);obtain⟨z,hd,M,rel,n⟩:=P8 I.b7 e;have o:M.length<=sizeLine:=by rw[<-wgs rel];exact z
  have hl:(putK d k v).length<=sizeLine:=by have:=kP d k v;lia
  refine wpAny_setItem_heap (hsz:=o) (wdI J) (tf I.b7 x) n λB f p=>h _ ?_;obtain⟨q,N,O,i,R,S,U,_,V⟩:=f;refine ya I (by rw[e];exact wbA) p ⟨q,i⟩ ⟨hl,hd,_,(rel.put k x C).keeps λc Y D=>?_,q,N,O,i,R,S,U,V⟩;rw[ae (Oo D e (λz=>nomatch z))];exact D
end
section
variable{X:Cx}{pins:List (Addr×Obj)}{σ:St}{H:Hp}{s:Shared}{a:Addr}{kvs:List (Key×V)}{k:Key}{u:Value}{A:Around}{E:Value->Shared->Prop}
end
def P9(i:Expr):Prop:=∀ov iv,wfQ i false ov iv=operate [ov,iv] (getItem ov iv)
theorem JC{prog:wap}{w:World}{A:Around}{E:Value->Shared->Prop}{s:Shared}{env:Env}{value slice:Expr}{pos:Pos}{T id:String}{Q:Value->Shared->Prop}
 (hl:wf7 (.type T) "__getitem__"=pure (some (.builtin id))) (hs:P9 slice)
 (h:wpAny (model prog w) A (eval value env) (λo j=>wpAny (model prog w) A (eval slice env) (λi g=>g.TypeIs o T/\wpAny (model prog w) A (getItem o i) Q E g) E j) E s) :
 wpAny (model prog w) A (eval (.Subscript value slice pos) env) Q E s:=by
 refine wgi (wb1 h (λo j c=>wb1 c (λi g a=>?_) λ_ _ x=>x) λ_ _ x=>x);obtain⟨e,a⟩:=a;unfold weS;refine wa6 ?_;rw[getitemInPython_of_ne e.not_modules];refine wa6 (wpAny_specialOf e hl ?_)
 have fin:wpAny (model prog w) A (wfQ slice false o i) (λr b=>wpAny (model prog w) A (letTemporaryGo value o r >>= λ_=>pure r) Q E b) E g:=by
  rw[hs o i];exact wpAny_operating (wb1 a (λr b d=>wa6 (wpAny_letTemporaryGo (wax d))) λ_ _ x=>x)
 first
  |exact wax (wa6 fin)
  |exact wa6 (wax (wa6 fin))
  |exact wa6 fin
theorem zu{X:Cx}(I:Inv X j σ H s)(g:dG H a y o):s.TypeIs (.ref a) "dict":=by
 rcases g with⟨c,k,e,_,_⟩ |⟨c,k,b,e,_,_,_⟩
 ·obtain⟨_,_,f,_,d⟩:=mF I.b7 e;exact d.typeIs
 ·obtain⟨_,_,h,_,d⟩:=zt I.b7 e;exact d.typeIs
def Pa(td ty:TE):TE:=λσ H Q=>td σ H λx H1=>ty σ H1 λy H2=>∃a v,x=.ref a/\dG H2 a y (some v)/\Q v H2
def SE(ty td:TE):TE:=λσ H Q=>ty σ H λy H1=>td σ H1 λx H2=>∃a o,x=.ref a/\dG H2 a y o/\Q (.bl o.isSome) H2
def JD(ty td:TE):TE:=λσ H Q=>ty σ H λy H1=>td σ H1 λx H2=>∃a o,x=.ref a/\dG H2 a y o/\Q (.bl (!o.isSome)) H2
def Le(td ty tv:TE):TS:=λD σ H=>tv σ H λv H1=>td σ H1 λx H2=>ty σ H2 λy H3=>∃a H4,x=.ref a/\kQ H3 a y v H4/\D.nx σ H4
section
variable{X:Cx}{o i e value:Expr}{pos pos' OV:Pos}{td ty tv:TE}
theorem cp(j:X.A.units+1<wcw)(l:PE X o td)(hi:PE X i ty)(hs:P9 i):PE X (.Subscript o i pos) (Pa td ty):=by
 refine⟨?_⟩;intro b s σ H Q I h;refine JC PySem.F.slot_dict_getitem.lookup hs (bI (l b s σ H _ I h) λu e ⟨x,f,k,m,n⟩=>bI (hi b e σ f _ k n) λw z ⟨y,p,d,q,a,v,ex,g,r⟩=>?_);subst ex;obtain rfl:u=waj a:=m;exact⟨zu d g,Er j d g q λB C t c=>⟨v,p,t,c,r⟩⟩
theorem Mr(j:X.A.units+1<wcw)(hi:PE X i ty)(l:PE X o td):PC X .In i o (SE ty td):=by
 refine⟨?_⟩;intro b s σ H Q I h;refine bI (hi b s σ H _ I h) λv c ⟨y,d,e,f,k⟩=>bI (l b c σ d _ e k) λu w ⟨x,m,n,p,a,q,ex,g,r⟩=>?_;subst ex;obtain rfl:u=waj a:=p;exact SD j n g f λz t=>⟨.bl q.isSome,m,t,rfl,r⟩
theorem wK(j:X.A.units+1<wcw)(hi:PE X i ty)(l:PE X o td):PC X .NotIn i o (JD ty td):=by
 refine⟨?_⟩;intro b s σ H Q I h;refine bI (hi b s σ H _ I h) λv c ⟨y,d,e,f,k⟩=>bI (l b c σ d _ e k) λu w ⟨x,m,n,p,a,q,ex,g,r⟩=>?_;subst ex;obtain rfl:u=waj a:=p;exact JB j n g f λz t=>⟨.bl (!q.isSome),m,t,rfl,r⟩
theorem eB(j:X.A.units+1<wcw)(l:PE X o td)(hi:PE X i ty)(p:PE X value tv)(hs:wc1 value (some (.Subscript o i pos')) pos.line X.env=pure false) :
 PS X (.Assign [.Subscript o i pos'] value pos) (Le td ty tv):=by
 refine⟨?_⟩;intro b s σ H D I h;refine wpAny_Assign_Subscript (bI (p b s σ H _ I h) λr c ⟨v,d,e,f,k⟩=>bI (l b c σ d _ e k) λu m ⟨x,n,q,t,w⟩=>bI (hi b m σ n _ q w) λJ L ⟨y,M,z,B,a,C,ex,g,E⟩=>?_) hs;subst ex;obtain rfl:u=waj a:=t;exact Es j z g B f λN G=>⟨σ,C,G,E⟩
end
theorem tj(h:Heap)(g:wcY<h.objs.size):bP P w H (h.push {cls:=.type "dict",data:=.dict #[]}) h.objs.size (.dK []):=
 ⟨waJ _,beq_eq_false_iff_ne.mpr (wbs (wat g)),[],.nil,Heap.DictOf.new h⟩
def Ms:TE:=λ_ H Q=>∀p,H p=none->Q (.ref p) (upd H p (.dK []))
section
variable{X:Cx}{pos:Pos}
theorem eu:PE X (.Dict [] [] pos) Ms:=⟨λb s σ H Q I h=>
 wpAny_Dict_empty ⟨.ref s.heap.objs.size,_,I.laid (a:=s.heap.objs.size) (o:=.dK []) (t':=s.toks) (λ_ _ q=>wa9 _ q) (wab _) (tj s.heap I.big),rfl,h _ (I.b7.fresh (wab _))⟩⟩
end
def Bx:List (TE×TE)->St->Hp->(List (V×V)->Hp->Prop)->Prop
 |[],_,H,Q=>Q [] H
 |(tk,tv)::r,σ,H,Q=>tk σ H λx H1=>tv σ H1 λy H2=>Bx r σ H2 λps H3=>Q ((x,y)::ps) H3
abbrev VV:List (V×V)->List (Value×Value)->Prop:=Paired λp q=>RelV p.1 q.1/\RelV p.2 q.2
abbrev Pb(X:Cx)(pos:Pos)(keys:List (Option Expr))(values:List Expr)(Lf:List (TE×TE)):Prop:=
 ∀(pins:List (Addr×Obj)) (s:Shared) (σ:St) (H:Hp) (Q:List (V×V)->Hp->Prop),Inv X pins σ H s->Bx Lf σ H Q ->
  wpAny (model X.prog X.w) X.A (evalPairs (pairTrees keys values X.env pos)) (λvs s'=>∃ps H',Inv X pins σ H' s'/\VV ps vs/\Q ps H') X.xe s
structure O1(X:Cx)(pos:Pos)(keys:List (Option Expr))(values:List Expr)(Lf:List (TE×TE)):Prop where
 go:Pb X pos keys values Lf
instance {X:Cx} {pos:Pos} {keys:List (Option Expr)} {values:List Expr} {Lf:List (TE×TE)}:CoeFun (O1 X pos keys values Lf) λ_=>Pb X pos keys values Lf:=⟨O1.go⟩
theorem Dw{X:Cx}:O1 X pos [] [] []:=⟨λa s σ H Q I h=>pairTrees_nil_walk ⟨[],H,I,.nil,h⟩⟩
theorem zv{X:Cx}(hk:PE X k tk)(j:PE X v l)(p:O1 X pos r vs g) :
 O1 X pos (some k::r) (v::vs) ((tk,l)::g):=⟨λa s σ H Q I h=>
 pairTrees_cons_walk (bI (hk a s σ H _ I h) λu b ⟨x,c,d,e,f⟩=>bI (j a b σ c _ d f) λA i ⟨y,m,n,o,q⟩=>
  bI (p a i σ m _ n q) λB C ⟨ps,t,w,rel,z⟩=>⟨(x,y)::ps,t,w,.cons ⟨e,o⟩ rel,z⟩)⟩
noncomputable def jE(kvs more:List (Key×V)):List (Key×V):=more.foldl (λacc kv=>putK acc kv.1 kv.2) kvs
theorem KV.merge:∀{more:List (Key×V)} {g:List (Key×Value)} {kvs:List (Key×V)} {vs:List (Key×Value)},KV more g->KV kvs vs->KV (jE kvs more) (merged vs g):=by
 intro more g kvs vs r;unfold KV at r
 induction r generalizing kvs vs with
 |nil=>intro q;exact q
 |@cons p q ps c h t a=>
  intro b
  have e:KV (putK kvs p.1 p.2) (stored vs q.1 q.2):=by
   have:=b.put p.1 h.2;rw[<-h.1];exact this
  exact a e
theorem vI:∀(more kvs:List (Key×V)),(jE kvs more).length<=kvs.length+more.length:=by intro more;induction more<;>grind [putK,kP,jE,waF]
theorem tq:∀{kvs:List (Key×V)} {ws:List (Value×Value)},VV (kvs.map λj=>(kV j.1,j.2)) ws->∃g,Carries (bq P w) ws g/\KV kvs g
 |[],_,r=>by rw[weq]at r;cases r;exact⟨[],wbA,.nil⟩
 |p::kvs,_,r=>by
  rw[wao]at r
  cases r with
  |@cons a b as bs h t=>
   obtain⟨g,c,q⟩:=tq (P:=P) (w:=w) t;obtain⟨b1,d⟩:=b;exact⟨(p.1,d)::g,⟨wI h.1,rfl,c⟩,.cons ⟨rfl,h.2⟩ q⟩
def Pg(Lf:List (TE×TE)):TE:=λσ H Q=>∀p,H p=none->Bx Lf σ (upd H p (.dK [])) λps H2=>H2 p=some (.dK [])/\∃kvs:List (Key×V),ps=kvs.map (λkv=>(kV kv.1,kv.2))/\kvs.length<=15/\Q (.ref p) (upd H2 p (.dK (jE [] kvs)))
theorem Dx{X:Cx}(h:O1 X pos keys values j)(g:keys.all (·.isSome)=true)(hl:keys.length=values.length)(h0:keys≠[])
 (l:keys.length<=15):PE X (.Dict keys values pos) (Pg j):=by
 refine⟨?_⟩;intro b s σ H Q I q;have hn:=I.b7.fresh (wab s.heap.objs.size);have k:=I.laid (a:=s.heap.objs.size) (o:=.dK []) (h':=s.heap.push {cls:=.type "dict",data:=.dict #[]}) (t':=s.toks) (λ_ _ q=>wa9 _ q) (wab _) (tj s.heap I.big);refine wpAny_Dict_walk (knd:=bq X.prog X.w) g hl h0 l (bI (h b _ σ _ _ k (q _ hn)) λD E ⟨ps,G,i,rel,e,d,m,lk,n⟩=>?_);subst m;obtain⟨p,c,r⟩:=tq (P:=X.prog) (w:=X.w) rel;obtain⟨z,hd,t,u,v⟩:=t9 i.b7 e;cases u;refine⟨p,c,v,λh' f x=>⟨.ref s.heap.objs.size,_,?_,rfl,n⟩⟩
 have y:(jE [] d).length<=sizeLine:=by
  have A:=vI d [];rw[wfJ]at A;rw[wc5];lia
 have B:∃q,h'.get? s.heap.objs.size=some q:=let ⟨q,_,_,C,_⟩:=f;⟨q,C⟩
 exact ya i (by rw[e];exact wbA) x B (Gu y hd (r.merge .nil) f)
structure M2(X:Cx)(o:Expr)(m:Str)(apos:Pos)(e f:Expr)(hH:Pos):Prop where
 base:wcy o m X.env (eval o X.env)=eval o X.env
 few:((backTo hH (starEach [e,f] X.env)).all (λx=>!x.1)&&(backToKw hH (wcJ [] X.env)).all (λx=>x.1.isSome)
  && decide (([e,f]:List Expr).length+([]:List wdT).length+(if ([]:List wdT).isEmpty then 0 else 1)<30))=true
 line:(apos.endLine==hH.line)=true
 trees:backTo hH (starEach [e,f] X.env)=[(false,eval e X.env),(false,eval f X.env)]
section
variable{X:Cx}{pins:List (Addr×Obj)}{σ:St}{H:Hp}{s:Shared}{a:Addr}{y d:V}{u r:Value}{o:Option V}{A:Around}{E:Value->Shared->Prop}
end
section
variable{X:Cx}{o e f:Expr}{apos hH:Pos}{td ty tx:TE}
end
section
variable{X:Cx}{pins:List (Addr×Obj)}{σ:St}{H:Hp}{s:Shared}{a:Addr}{kvs:List (Key×V)}{A:Around}{E:Value->Shared->Prop}
end
section
variable{X:Cx}{pins:List (Addr×Obj)}{σ:St}{H:Hp}{s:Shared}{a:Addr}{y:V}{u:Value}{A:Around}{E:Value->Shared->Prop}
end
end L2
namespace Vk
open PySem PySem.W PySem.Calls PyProof.Rows
theorem rV:∀(ns:List Int) (vs:List Value),WellAll P h vs (ns.map WData.int)->IntsAre vs ns:=by
 intro ns
 induction ns with
 |nil=>
  intro vs w;rw[weq]at w;cases w;exact .nil
 |cons n ns c=>
  intro vs w;rw[wao]at w
  cases w with
  |cons a b=>
   cases a;exact .cons _ _ (c _ b)
theorem Et{l:weA}{n:Nat}(hn:l.most=some n){P:Params}{h:Heap}{args:List WData}{g:List Value}
 (j:l.row.toRowW.claim.pre args=true) (p:WellAll P h g args) :
 ∃a vs ns,g=[waj a]/\args=[WData.list (ns.map WData.int)]/\h.get? a=some {cls:=.type "list",data:=.seq vs.toArray}/\IntsAre vs ns/\ns.length<=n:=by
 have i:WShape.hasAll [] args [.list .int]=true:=(pre_splitW j).1;have hc:l.pre.holds [] {args:=args}=true:=(pre_splitW j).2;obtain⟨d,r,rfl,k,m⟩:=hasAllW_cons i;obtain rfl:=hasAllW_nil m;obtain⟨w,rfl,o⟩:=hasW_list k;obtain⟨ns,rfl⟩:=items_int o
 have b:ns.length<=n:=by
  unfold OpenLaw.pre at hc
  have e:(WTm.not (.lt (.lit (.int (n:Int))) (.len (.arg 0)))).holds [] {args:=[.list (ns.map .int)]}=true:=by
   have e:=(holds_andW hc).1;rw[hn]at e;exact e
  have f:=condW_of e (w_not (w_lt w_lit (w_len_list (w_arg rfl))));rw[wa0]at f;refine whb λq=>?_;have s:(n:Int)<((ns.length:Nat):Int):=by omega
  first
   |(rw[decide_eq_true s]at f;exact absurd f (by decide))
   |(simp at f;omega)
 cases p with
 |cons t u=>
  cases u
  cases t with
  |list v c=>exact⟨_,_,ns,rfl,rfl,v,rV ns _ c,b⟩
theorem Eu(l:weA)(args:List WData):l.row.toRowW.claim.post args (.bool true) args=true:=
 postW_of (r:=l.row.toRowW) (X:=(true==true))
  (show WShape.has [] (.bool true) .bool=true by first |rfl |decide |simp[WShape.has,WShape.arms,WShape.armsAll])
  (show (WTm.eq .res (.lit (.bool true))).value [] {args:=args,res:=some (.bool true),after:=args}=some (.bool (true==true)) from w_eq_bool (w_res rfl) w_lit) rfl
theorem zx{l:weA}{n:Nat}{q:wap}{loose:List Str}{XP:(Str->Option Value)->Heap->Prop}{YP:World->Heap->Prop}{d:DefRec}
 (hn:l.most=some n) (t:d.params.defaults=[])
 (call:∀(w:World) (s₀ g:Shared) (mg C:Str->Option Value) (p:Addr) (o:Obj) (pm cd j:Value) (a:Addr) (vs:List Value) (ns:List Int),
   Ground q loose [] XP w s₀ mg C g.heap->YP w g.heap ->
   g.heap.get? p=some o->o.data=.func (docDef d.name d.params d.body d.scope pm cd j)->g.heap.CodeRec cd d.name->mg d.name=some (.ref p) ->
   g.heap.get? a=some {cls:=.type "list",data:=.seq vs.toArray}->IntsAre vs ns->ns.length<=n->g.gens=#[] ->
   codeAny (model l.prog w) callerA (.call (.ref p) ⟨[.ref a],[]⟩) (λr s'=>r=.ok (.ret (.bool true))/\OldK g.heap s'.heap/\s'.os=g.os/\AllBare s'.gens) g) :
 whi q loose XP YP l.row.toRowW d [] (λf vs=>whl f vs):=by
 intro w s₀ g mg C G Y p o pm cd j x kV y hd i s k z args u as c v A m B;obtain rfl:x=.none:=Dflts.none s t;obtain rfl:kV=.none:=Dflts.noKw s;obtain⟨a,vs,ns,rfl,rfl,e,b,h⟩:=Et hn c m;refine enter_call (wc6 (call w s₀ g mg C p o pm cd j a vs ns G Y y (fd_plain hd) i k e b h z) λr s' D=>?_);obtain⟨rfl,E,H,I⟩:=D;exact⟨.inl ⟨.bool true,.bool true,[],rfl,λ_=>rfl,.bool true,Eu l _,λ_=>⟨List.Pairwise.nil,λ_ J=>(nomatch J)⟩⟩,E,H,I⟩
section
variable{prog:wap}{w:World}{A:Around}{E:Value->Shared->Prop}{s:Shared}{K:Frag}
end
end Vk
namespace L2
open PySem PySem.Spec PyProof.Rows
theorem wL:∀{vs:List Value} {ns:List Int},IntsAre vs ns->Vals (ns.map V.int) vs
 |_,_,.nil=>.nil
 |_,_,.cons n t h=>.cons ⟨t,rfl⟩ (wL h)
def Only(H:Hp):Prop:=∀b,H b=none\/∃o xs,H b=some (.frz o (.lst xs))
theorem Gv{P:wap}{w:World}{K:wa2}{mg I:Str->Option Value}{CX:FR}{k:Nat}{J a:Addr}{fd:waT}{x:Str}{sp:Sp}{g:Shared}{vs:List Value}{ns:List Int}
 (KX:K.In g.heap) (p:g.heap.Ns waK mg) (j:g.heap.Ns builtinsNs I) (T:∀x:Str,x≠"__name__"->I x=waQ x) (t:g.heap.NoLimit) (hg:g.gens=#[])
 (ha:g.heap.get? a=some {cls:=.type "list",data:=.seq vs.toArray}) (hi:IntsAre vs ns) (hl:ns.length<=sizeLine) (hr:d2 k callerA)
 (F:∀base:Heap,K.In base->base.Ns waK mg->aO P w K mg base CX k J fd [x] sp) (l:∀(s:Shared) (u:Value),BindsTo s fd ⟨[u],[]⟩ [(x,u)])
 (U:∀H:Hp,Only H->aE K H a (ns.map V.int)->sp [.ref a] H (λv _=>v=.bl true) λ_ _ _=>False)
 (XU:∀H e s',CX [] H g (λ_ _ _=>False) e s'->False) :
 codeAny (model P w) callerA (.call (.ref J) ⟨[.ref a],[]⟩) (λr s'=>r=.ok (.ret (.bool true))/\OldK g.heap s'.heap/\s'.os=g.os/\AllBare s'.gens) g:=by
 have G:=wL hi;have f:=hi.length
 have core:∀H:Hp,Only H->aE K H a (ns.map V.int)->jx P w H g.heap->(∀b,H b≠none->b=a)->(H a≠none->K.lookup a=none) ->
  codeAny (model P w) callerA (.call (.ref J) ⟨[.ref a],[]⟩) (λr s'=>r=.ok (.ret (.bool true))/\OldK g.heap s'.heap/\s'.os=g.os/\AllBare s'.gens) g:=by
  intro H L O b7 M Q;have Dy:∀{b:Addr} {o:Obj},g.heap.get? b=some o->H b=none->(xY g.heap H).get? b=some o:=λe n=>G1 e n
  have D:∀{b:Addr} {o:Obj} {i:Array DictEntry} {y:Nat},g.heap.get? b=some o->o.data=.dict i y->H b=none:=λ{b o i y} e d=>by
   cases q:H b with
   |none=>rfl
   |some u=>
    have E:b=a:=M b (by rw[q];simp);subst E;rw[ha]at e;cases e;have R:Data.seq vs.toArray _=Data.dict i y:=d;cases R
  have c:∀{b:Addr} {m:Str->Option Value},g.heap.Ns b m->(xY g.heap H).Ns b m:=λ{b m} ⟨o,i,y,e,d,r⟩=>⟨o,i,y,Dy e (D e d),d,r⟩
  have A:K.In (xY g.heap H):=λb o e=>Dy (KX b o e) (by
   cases q:H b with
   |none=>rfl
   |some u=>
    have E:b=a:=M b (by rw[q];simp);subst E
    rw[Q (by rw[q];simp)]at e;cases e)
  have S:Mod K mg (xY g.heap H):=⟨A,c p,⟨I,c j,T⟩,let ⟨X,Y,Z⟩:=t;⟨X,c Y,Z⟩⟩;have e0:Bt P w K mg (xY g.heap H) callerA [] g H:=⟨rfl,S,λb o e=>Ji e,wdF (Eg _ _),trivial,λb j=>absurd (show b∈([]:List Addr) from j) (by simp),b7,.of_eq hg⟩;refine wc6 ((F _ A (c p)).run callerA [] g H ⟨[.ref a],[]⟩ [.ref a] [.ref a] _ _ hr e0 (l g (.ref a)) (.cons rfl .nil) (U H L O)) λr s' h=>?_
  cases r with
  |error e=>exact(XU H e s' h).elim
  |ok fl=>
   cases fl with
   |next=>exact waU h
   |brk=>exact waU h
   |cont=>exact waU h
   |ret u=>
    obtain⟨v,H',os,bare,un,B,r',q⟩:=h;have q':v=.bl true:=q;subst q';obtain rfl:u=wgg true:=r';refine⟨rfl,OldK.of_keep λb o e=>?_,os,bare⟩
    cases q:H b with
    |none=>exact un.keep b o e q (by intro z;exact absurd (show b∈([]:List Addr) from z) (by simp)) (by simp)
    |some u=>
     rcases L b with z |⟨ob,xs,z⟩
     ·rw[q]at z;cases z
     ·have z2:=un.rS b ob _ z;obtain⟨N,_⟩:=b7 b _ z;obtain⟨e2,_⟩:=B b _ z2;rw[e]at N;cases N;exact e2
 cases hk:K.lookup a with
 |some o=>
  have e:=KX a o hk;rw[ha]at e;cases e;refine core (λ_=>none) (λ_=>.inl rfl) (.inr ⟨_,vs.toArray,_,hk,rfl,rfl,rfl,by rw[waz,f];exact hl,by simpa using G⟩) (λb u z=>by have C:(none:Option HO)=some u:=z;cases C) (λb z=>absurd rfl z) λz=>absurd rfl z
 |none=>
  refine core (λb=>if b=a then some (.frz {cls:=.type "list",data:=.seq vs.toArray} (.lst (ns.map V.int))) else none) (λb=>?_) (.inl (.inr ⟨{cls:=.type "list",data:=.seq vs.toArray},if_pos rfl⟩)) (λb u z=>?_) (λb z=>?_) λ_=>hk
  ·by_cases j:b=a
   ·exact .inr ⟨_,_,if_pos j⟩
   ·exact .inl (if_neg j)
  ·by_cases j:b=a
   ·have C:=(if_pos j).symm.trans z;cases C;subst j;exact⟨ha,by rw[wa0];exact hl,vs,_,G,ha⟩
   ·have C:=(if_neg j).symm.trans z;cases C
  ·by_cases j:b=a
   ·exact j
   ·exact absurd (if_neg j) z
noncomputable abbrev KOf{K:wa2}{h:Heap}(_:K.In h):wa2:=K
theorem JE{l:weA}{n k:Nat}{q:wap}{loose:List Str}{XP:(Str->Option Value)->Heap->Prop}{YP:World->Heap->Prop}{d:DefRec}{K:Params->wa2}{CX:World->FR}{sp:World->Sp}{x:Str}
 (hn:l.most=some n) (r:n<=sizeLine) (t:d.params.defaults=[]) (J:d2 k callerA)
 (U:∀(w:World) (h:Heap),YP w h->(K w.params).In h)
 (F:∀(w:World) (mg:Str->Option Value) (p:Addr) (h:Heap),(K w.params).In h->h.Ns waK mg->mg d.name=some (.ref p) ->
   ∃fd:waT,(∀(s:Shared) (u:Value),BindsTo s fd ⟨[u],[]⟩ [(x,u)]) /\
    ∀base:Heap,(K w.params).In base->base.Ns waK mg->aO l.prog w (K w.params) mg base (CX w) k p fd [x] (sp w))
 (C:∀(w:World) (H:Hp) (a:Addr) (ns:List Int),ns.length<=n->Only H->aE (K w.params) H a (ns.map V.int)->sp w [.ref a] H (λv _=>v=.bl true) λ_ _ _=>False)
 (I:∀(w:World) (H:Hp) (s:Shared) (e:Value) (s':Shared),CX w [] H s (λ_ _ _=>False) e s'->False) :
 whi q loose XP YP l.row.toRowW d [] (λf vs=>whl f vs):=by
 refine Vk.zx hn t λw z j mg Q p o pm R B a vs ns G Y S hd D y m i c E=>?_;have A:=U w _ Y;obtain⟨fd,L,M⟩:=F w mg p _ A G.T.g y;exact Gv A G.T.g G.T.b G.T.builtins G.T.nolimit E m i (wai c r) J M L (λH N O=>C w H a ns c N O) λH e s'=>I w H j e s'
noncomputable def inClass(s:Stmt)(j:Nat):Stmt:=match s with
 |.ClassDef _ _ _ body _ _ _ _ _ _ _=>body.getD j (.Pass ⟨0,0,0,0⟩)
 |_=>.Pass ⟨0,0,0,0⟩
noncomputable def cV(s:Stmt):Arguments:=match s with
 |.FunctionDef _ a _ _ _ _ _ _ _ _=>a
 |_=>{posonlyargs:=[],args:=[],vararg:=none,kwonlyargs:=[],kw_defaults:=[],kwarg:=none,defaults:=[]}
noncomputable def bM(s:Stmt):List Stmt:=match s with
 |.FunctionDef _ _ b _ _ _ _ _ _ _=>b
 |_=>[]
noncomputable def aD(s:Stmt):wcZ:=match s with
 |.FunctionDef _ _ _ _ _ _ sc _ _ _=>sc
 |_=>{kind:=.function,names:=[],isGenerator:=false,isCoroutine:=false}
noncomputable abbrev cP:FR:=λ_ _ _ _ _ _=>False
abbrev E0:XK:=λ_ _ _=>False
theorem o1{X:Cx}:Passes cP X E0:=λ_ _ _ _ _ _ _ h=>h.elim
structure zy(K:wa2)(x qual:Str)(st:Stmt)(f:Addr)(fd:waT):Prop where
 ex:∃(oc:Value) (od:Option Addr) (kV doc pm:Value) (an:Option Addr) (gX ct:Value) (Gw:Array (Option Value)),
  fd=wcf x qual (cV st) (bM st) (aD st) .none kV doc pm an gX ct/\K.lookup f=some ⟨oc,od,.func fd,Gw⟩/\wdU K gX qual=true
 kp:wcK K (.ref f)=true
section
variable{P:wap}{w:World}{K:wa2}{mg:Str->Option Value}{base:Heap}
theorem zy.ok{x g:Str}{st:Stmt}{f:Addr}{fd:waT}{N ps:List Str}{k:Nat}{sp:Sp}(F:zy K x g st f fd)(S:sE N ps (aD st))(len:∀vs H Q E,sp vs H Q E->vs.length=ps.length)
 (l:∀(j:Value) (A:Around) (outer:List Env) (s:Shared) (H:Hp) (vs:List V) (Q:VK) (E:XK),d2 k (A.deeper (envOfC g (aD st) s.heap.objs.size f j))->sp vs H Q E ->
   ∃t,sy (t7 cP P w K mg base N g (aD st) f j A outer s H E).L7 (bM st) t/\t (Ends.fn Q) (start N vs) H):aO P w K mg base cP (k+1) f fd ps sp:=by
 obtain⟨i,m,kV,c,pm,n,j,ct,d,rfl,lk,a⟩:=F.ex;refine Lc lk a S len λA outer s H vs Q E e b=>?_;obtain⟨t,h,q⟩:=l j A outer s H vs Q E e b;exact⟨t,h.L7,q⟩
theorem zy.binds{x g:Str}{st:Stmt}{f:Addr}{fd:waT}{ps:List Str}(F:zy K x g st f fd)
 (h:∀(kV j pm:Value) (p:Option Addr) (l ct:Value) (us:List Value),us.length=ps.length->bindArgs (wcf x g (cV st) (bM st) (aD st) .none kV j pm p l ct) ⟨us,[]⟩=pure (ps.zip us)):Binds K fd ps []:=by
 obtain⟨c,d,kV,j,pm,p,l,ct,a,rfl,lk,b⟩:=F.ex;exact .all (h kV j pm p l ct)
theorem Gx{x g:Str}{st:Stmt}{f:Addr}{C:Value}{I t:Option Addr}{r:Array (Option Value)}{kV p pm j ct:Value}(l:K.lookup f=some ⟨C,I,.func (wcf x g (cV st) (bM st) (aD st) .none kV p pm t j ct),r⟩)
 (c:wdU K j g=true) (k:wcK K (.ref f)=true):zy K x g st f (wcf x g (cV st) (bM st) (aD st) .none kV p pm t j ct):=⟨⟨C,I,kV,p,pm,t,j,ct,r,rfl,l,c⟩,k⟩
end
theorem ez(g:d2 k A):A.units+1<wcw:=wbc (Nat.add_le_add_left (by decide:1<=64) _) g.units
theorem bF(h:n<=1000):n<sizeLine:=wbc h (by decide)
section
variable{X:Cx}
theorem pv(i:Nat)(j:X.N[i]?=some x:=by rfl)(l:Ot X.env.scope x:=by first |exact wd3 rfl |exact Or.inr (wd3 rfl) |exact Or.inr (Or.inr rfl))(hd:(x==("__debug__":Str))=false:=by decide)
 (g:(x==("__classdict__":Str))=false:=by decide):PE X (.Name x pos) (Jl i):=M7 j l hd g
end
theorem bx{A B:Prop}(h:B):if false=true then A else B:=by
 grind
theorem eE{A B:Prop}(h:A):if true=true then A else B:=by
 grind
theorem By{c A B:Prop}[Decidable c](g:c->A)(j:¬c->B):if c then A else B:=by
 by_cases h:c
 ·rw[if_pos h];exact g h
 ·rw[if_neg h];exact j h
def a7(H H':Hp):Prop:=∀b o,H b=some o->H' b=some o
theorem a7.refl(H:Hp):a7 H H:=λ_ _ h=>h
theorem a7.trans(a:a7 H g)(b:a7 g j):a7 H j:=λc o h=>b c o (a c o h)
theorem a7.free(e:a7 H g)(h:g l=Option.none):H l=Option.none:=by
 cases q:H l with
 |none=>rfl
 |some o=>
  rw[e l o q]at h;cases h
theorem a7.seq{K:wa2}{H g:Hp}{a:Addr}{xs:List V}(e:a7 H g)(h:aE K H a xs):aE K g a xs:=by
 rcases h with(h |⟨o,h⟩) |h
 ·exact .inl (.inl (e _ _ h))
 ·exact .inl (.inr ⟨o,e _ _ h⟩)
 ·exact .inr h
section
variable{κ:Type}[DecidableEq κ]
theorem Gy{kvs:List (κ×V)}{k:κ}(h:cQ kvs k=none):¬k∈kvs.map (·.1):=by
 intro m;obtain⟨p,a,e⟩:=waa.mp m;have q:(kvs.any λb=>decide (b.1=k))=true:=wco.mpr ⟨p,a,decide_eq_true e⟩;rw[kN,h]at q;exact absurd q (by simp)
theorem yc{kvs:List (κ×V)}{k:κ}{v:V}(h:cQ kvs k=some v):k∈kvs.map (·.1):=by
 have q:(kvs.any λa=>decide (a.1=k))=true:=by
  rw[kN,h]
  all_goals rfl
 obtain⟨p,b,e⟩:=wco.mp q;exact waa.mpr ⟨p,b,of_decide_eq_true e⟩
end
theorem a7.upd(h:H a=none):a7 H (upd H a o):=λb u e=>by rw[ae (af e h)];exact e
structure mD(J:It)(Ok:Hp->Prop)(xs:List V):Prop where
 go:∀i H,Ok H->i<xs.length->J.go i H
 sX:∀i H x H',Ok H->i<xs.length->J.sX i H x H'->H'=H/\xs[i]?=some x
 stop:∀H,Ok H->J.stop xs.length H
theorem aI(K:wa2)(a:Addr)(xs:List V):mD (NZ K a) (λH=>aE K H a xs) xs:=
 ⟨λi H q hi=>⟨xs,xs[i],q,by simp[hi]⟩,λi H x b q _ y=>⟨y.1,y.2 xs q⟩,λH q=>⟨xs,q,wab _⟩⟩
noncomputable def Rm(n:Nat)(val:Nat->V):It:=⟨λi _=>i<n,λi H x H'=>H'=H/\x=val i,λi _=>n<=i⟩
theorem Mt{val:Nat->V}(hn:xs.length=n)(g:∀i x,xs[i]?=some x->val i=x):mD (Rm n val) (λ_=>True) xs:=by
 subst hn;refine⟨λi H _ hi=>hi,λi H x a _ hi y=>⟨y.1,?_⟩,λH _=>wab _⟩;have e:xs[i]?=some xs[i]:=by simp[hi]
 rw[e,y.2,g i _ e]
theorem nc(lo:Int)(n:Nat):mD (L8 lo n) (λ_=>True) ((waI n).map λi=>V.int (lo+(i:Nat))):=by
 refine⟨λi H _ hi=>(show i<n by simpa using hi),λi H x b _ hi y=>⟨y.1,?_⟩,λH _=>?_⟩
 ·have a:i<n:=by simpa using hi
  rw[y.2];simp[a]
 ·show n<=_;simp
theorem kR{J:It}{Ok:Hp->Prop}{xs:List V}{g:TG}{I:TS}{D:Ends}{σ:St}{H:Hp}(t:mD J Ok xs)(Pv:Nat->St->Hp->Prop)(h0:Pv 0 σ H)(U:∀i σ H,i<=xs.length->Pv i σ H->Ok H)
 (hs:∀i x σ H,xs[i]?=some x->Pv i σ H->g x σ H λl C=>I (D.lp (Pv (i+1))) l C) (hd:∀σ H,Pv xs.length σ H->D.nx σ H) :
 ∃W:Nat->Nat->St->Hp->Prop,(∃m,W 0 m σ H)/\∀i m σ H,W i m σ H ->
  (J.stop i H/\D.nx σ H)\/(J.go i H/\∃N:St->Hp->Prop,(∀r j,N r j->∃T,T<m/\W (i+1) T r j)/\∀x j,J.sX i H x j->g x σ j λl C=>I (D.lp N) l C):=by
 refine⟨λi m σ H=>m=xs.length-i/\i<=xs.length/\Pv i σ H,⟨xs.length,by simp,waJ _,h0⟩,?_⟩;rintro i m σ H ⟨rfl,hi,p⟩;have q:=U i σ H hi p
 by_cases a:i<xs.length
 ·refine .inr ⟨t.go i H q a,Pv (i+1),λr j b=>⟨xs.length-(i+1),by lia,rfl,a,b⟩,λx j y=>?_⟩;obtain⟨e,c⟩:=t.sX i H x j q a y;subst e;exact hs i x σ _ c p
 ·have e:i=xs.length:=by lia
  subst e;exact .inl ⟨t.stop H q,hd σ H p⟩
abbrev Lg(nm:String):Prop:=["enumerate","zip","dict_itemiterator","dict_reverseitemiterator","odict_iterator","itertools.zip_longest","itertools.pairwise"].contains nm=false
theorem Bz{P:wap}{w:World}{K:wa2}{U:Expr}{it:Addr}{n:Nat}{Pv:Nat->Value->Prop}{St:Nat->Heap->Prop}{val:Nat->V}
 (T:∀A:Around,A.handled=none->Walks P w A it [it] [it] n Pv St)
 (g:∀i h,St i h->∃(o:Obj) (nm:String) (vs:Array Value),h.get? it=some o/\o.cls=.type nm/\o.data=.fields vs/\Lg nm)
 (j:∀i h h',St i h->(∀o,h.get? it=some o->h'.get? it=some o)->St i h')
 (l:∀(A:Around) (i:Nat) (s:Shared) (Q:Value->Shared->Prop) (E:Value->Shared->Prop),St i s.heap->Q (.ref it) s->wpAny (model P w) A (pyIter (.ref it)) Q E s)
 (p:∀i u,Pv i u->RelV (val i) u):Turn P w K U (Rm n val) [it] it (λi h=>St i h/\i<=n) where
 mem:=by simp
 obj:=λi h st b f=>by
  have e:b=it:=by simpa using f
  subst e;obtain⟨o,nm,vs,e,c,d,_⟩:=g i h st.1;exact⟨o,e,λv z=>by rw[d]at z;cases z⟩
 keep:=λi h h' st k=>⟨j i h h' st.1 λo e=>k it (by simp) o e,st.2⟩
 item:=by
  intro X t hw x hc i a s σ H E I q st r;subst t hw x;obtain⟨y,f1,f2,B,C,D⟩:=q it (by simp);refine(T X.A (I.ok.hd hc)).item i s _ _ r st.1 λv h' G L m J=>?_;have M:Inv X a σ H {s with heap:=h',toks:=G}:=I.turned (λb o f e=>J b o (by simpa using f) e) y f1 B C D;obtain⟨o,nm,vs,e,c,d,hn⟩:=g _ _ m;exact⟨_,rfl,Dp (s:={s with heap:=h',toks:=G}) e c d hn ⟨val i,H,M,p i v L,⟨rfl,rfl⟩,⟨m,r⟩,λb f=>(q b f).1⟩⟩
 done:=by
   intro X t hw x hc i a s σ H E I q st r;subst t hw x;obtain⟨y,f1,f2,B,C,D⟩:=q it (by simp)
   have e:i=n:=by
    have N:=st.2;have O:n<=i:=r
    lia
   subst e;exact(T X.A (I.ok.hd hc)).done s _ _ st.1 λh' G J=>⟨rfl,I.turned (λb o f e=>J b o (by simpa using f) e) y f1 B C D⟩
 self:=λA i s Q E st h=>l A i s Q E st.1 h
noncomputable def wM(z:Str)(i:Nat):V:=.str ⟨#[z.cps.getD i 0]⟩
noncomputable def cu(z:Str):List V:=z.cps.toList.map λc=>V.str ⟨#[c]⟩
theorem ie(z:Str):mD (Rm z.cps.size (wM z)) (λ_=>True) (cu z):=by simp_all [Mt,cu,wa4,wae,wca,wM,wcq]
def SG(tl:TE):TI:=λσ H R=>tl σ H λx H1=>∃z,x=.str z/\R (Rm z.cps.size (wM z)) H1
section
variable{X:Cx}{tg:Expr}
theorem ng{l:Expr}{C:TE}(hl:PE X l C):PI X tg l (SG C):=by
 refine⟨?_⟩;intro f s σ H R I h;refine bI (hl f s σ H _ I h) λv a ⟨x,B,n,D,G⟩=>?_;obtain⟨z,e,q⟩:=G;subst e;obtain⟨t,rfl⟩:=D
 have fin:∀(j:String) (o:Obj),(∀m:Around,m.handled=none->Walks X.prog X.w m a.heap.objs.size [a.heap.objs.size] [a.heap.objs.size] z.cps.size (SignAt z) (λi h=>h.IsStrIter a.heap.objs.size j z t i)) ->
  (∀(A:Around) (i:Nat) (s:Shared) (Q:Value->Shared->Prop) (E:Value->Shared->Prop),s.heap.IsStrIter a.heap.objs.size j z t i->Q (.ref a.heap.objs.size) s->wpAny (model X.prog X.w) A (pyIter (.ref a.heap.objs.size)) Q E s) ->
  Lg j->(a.heap.push o).IsStrIter a.heap.objs.size j z t 0->OD X f σ tg R (.ref a.heap.objs.size) {a with heap:=a.heap.push o}:=by
  intro j o J g p r
  refine⟨a.heap.objs.size,[a.heap.objs.size],_,_,B,rfl,n.kept (t':=a.toks) λb o e=>wa9 _ e,
   Bz (val:=wM z) J (λi h st=>?_) (λi h O st k=>?_) g (λi u L=>?_),⟨r,waJ _⟩,λb M=>?_,q⟩
  ·obtain⟨o,e,c,d⟩:=st;exact⟨o,j,_,e,c,d,p⟩
  ·obtain⟨o,e,c,d⟩:=st;exact⟨o,k o e,c,d⟩
  ·obtain⟨c,N,hc,e⟩:=L;refine⟨N,?_⟩;rw[e,wcq,hc];rfl
  ·have e:b=a.heap.objs.size:=by simpa using M
   subst e;exact n.Bk (wab _) (n.b7.fresh (wab _))
 cases ha:z.cps.all (· < 128)
 ·exact wpAny_pyIter_wide ha (fin "str_iterator" _ (λm y=>Walks.strWide y _ z t) (λA i s Q E st h=>wpAny_pyIter_striter_wide st h) (by decide) ⟨_,waw _ rfl,rfl,rfl⟩)
 ·exact wpAny_pyIter_ascii ha (fin "str_ascii_iterator" _ (λm y=>Walks.strAscii y _ z t) (λA i s Q E st h=>wpAny_pyIter_striter_ascii st h) (by decide) ⟨_,waw _ rfl,rfl,rfl⟩)
end
def Mu(scope:wcZ)(env:Env):Prop:=∀y∈scope.names,y.2=.free->env.kindOf y.1=some .cell\/env.kindOf y.1=some .free
theorem nh:∀{names:List (Str×wea)} (g:List (Str×Addr)),(∀y∈names,y.2=.free->∃c,env.cells.lookup y.1=some c)->(∀y c,g.lookup y=some c->env.cells.lookup y=some c) ->
 ∃cl:List (Str×Addr),(forIn names g (λ(x:Str×wea) p=>(match x with |(name,kind)=>if kind == .free then do let c <-cellOf env name;pure (wd4 ((name,c)::p)) else pure (wd4 p):Sem (ForInStep (List (Str×Addr))))))=pure cl /\
  (∀y c,cl.lookup y=some c->env.cells.lookup y=some c)/\(∀y c,g.lookup y=some c->∃j,cl.lookup y=some j)/\∀y∈names,y.2=.free->∃c,cl.lookup y.1=some c
 |[],g,_,ha=>⟨g,rfl,ha,λy c e=>⟨c,e⟩,λ_ h=>nomatch h⟩
 |(n,k)::r,g,f,ha=>by
  rw[List.forIn_cons]
  by_cases hk:k=.free
  ·obtain⟨c,hc⟩:=f (n,k) wad hk;have i:(k==wcz)=true:=by rw[hk];rfl
   obtain⟨cl,l,m,d,o⟩:=nh (env:=env) (names:=r) ((n,c)::g) (λy a=>f y (wac _ a)) (λy j e=>by
    rw[wdn]at e
    cases q:y==n with
    |true=>
     rw[q]at e;have:c=j:=wae e;subst this;have:y=n:=eq_of_beq q;subst this;exact hc
    |false=>
     rw[q]at e
     exact ha y j e)
   refine⟨cl,?_,m,λy j e=>?_,λy a b=>?_⟩
   ·rw[<-l];simp only[i,if_true];have s:cellOf env n=pure c:=by unfold cellOf;rw[hc]
    rw[s];rfl
   ·by_cases q:y=n
    ·subst q;exact d y c (by simp[wdn])
    ·refine d y j ?_;have:(y==n)=false:=beq_eq_false_iff_ne.mpr q;rw[wdn,this];exact e
   ·rcases waD.mp a with rfl |a
    ·exact d n c (by simp[wdn])
    ·exact o y a b
  ·have i:(k==wcz)=false:=by simpa using hk
   obtain⟨cl,l,m,d,o⟩:=nh (env:=env) (names:=r) g (λy a=>f y (wac _ a)) ha;refine⟨cl,?_,m,d,λy a b=>?_⟩
   ·rw[<-l];simp only[i,wbU,if_false];rfl
   ·rcases waD.mp a with rfl |a
    ·exact absurd b hk
    ·exact o y a b
theorem mG(g:∀y∈scope.names,y.2=.free->∃c,env.cells.lookup y.1=some c) :
 ∃cl,closureFor scope env=pure cl/\(∀y c,cl.lookup y=some c->env.cells.lookup y=some c)/\∀y∈scope.names,y.2=.free->∃c,cl.lookup y.1=some c:=by
 obtain⟨cl,b,d,_,f⟩:=nh (env:=env) (names:=scope.names) [] g (λy c e=>by simp at e);refine⟨cl,?_,d,f⟩;simp only[closureFor]
 first
  |(rw[b];rfl)
  |(have a:=b;simp only at a ⊢;rw[a];rfl)
  |(refine wdD (congrArg (λm=>m >>= λh=>pure h) ?_) ?_;exact pure cl;exact b;rfl)
theorem yd(g:∀y∈scope.names,y.2≠.cell)(h:(relabel scope env).names.lookup x=some .cell\/(relabel scope env).names.lookup x=some .free):∃k,(x,k)∈scope.names/\k=wcz:=by
 unfold relabel at h;dsimp only at h
 have key:∀(names:List (Str×wea)),(∀y∈names,y.2≠.cell) ->
  ((names.map λ(n,k)=>if (k==wcz&&env.scope.kind == .function&&env.kindOf n==some .cell) then(n,weU) else(n,k)).lookup x=some .cell \/
   (names.map λ(n,k)=>if (k==wcz&&env.scope.kind == .function&&env.kindOf n==some .cell) then(n,weU) else(n,k)).lookup x=some .free)->∃k,(x,k)∈names/\k=wcz:=by
  intro names
  induction names with
  |nil=>grind
  |cons y r a=>
   grind
 exact key scope.names g h
noncomputable def bg(X:Cx)(scope:wcZ)(N:List Str)(cl:List (Str×Addr))(L:Addr)(s:Shared)(H:Hp)(ex:List Addr)(pn:List (Addr×Obj)):Cx where
 prog:=X.prog
 w:=X.w
 K:=X.K
 mg:=X.mg
 base:=X.base
 A:=X.A
 N:=N
 s₀:=s
 H₀:=H
 env:=compEnvC scope cl L X.env
 outer:=X.stack
 stack:=X.stack
 ex:=ex
 fn:=λ_=>false
 calm:=X.calm
 pn:=pn
 xe:=λ_ _=>False
abbrev Ph(X:Cx)(ifs:List Expr)(t:TT):Prop:=
 ∀(pins:List (Addr×Obj)) (s:Shared) (σ:St) (H:Hp) (Q:Bool->Hp->Prop),Inv X pins σ H s->t σ H Q ->
  wpAny (model X.prog X.w) X.A (forIn ifs true λc r=>if r=true then do let ok <-isTrue c X.env (eval c X.env);pure (wd4 ok) else pure (wd4 r)) (TP X pins σ Q) X.xe s
structure FT(X:Cx)(ifs:List Expr)(t:TT):Prop where
 go:Ph X ifs t
instance {X:Cx} {ifs:List Expr} {t:TT}:CoeFun (FT X ifs t) λ_=>Ph X ifs t:=⟨FT.go⟩
def vJ:TT:=λ_ H Q=>Q true H
theorem aY{X:Cx}:FT X [] vJ:=⟨λ_ _ _ H _ I h=>wpAny_tests_nil ⟨H,I,h⟩⟩
theorem gg{X:Cx}(h:PT X c t):FT X [c] t:=⟨λa s σ H Q I hw=>wpAny_tests_one (h a s σ H Q I hw)⟩
section
variable{prog:wap}{w:World}{A:Around}{E:Value->Shared->Prop}{R:wcN->Shared->Prop}{s:Shared}
theorem Ew(I:Nat->Shared->Prop)
 (J:∀n s,I n s->wpAny (model prog w) A (pyNext it) (λr g=>match r with
   |none=>R (.ok .next) g
   |some v=>wpAny (model prog w) A (wel target it v) (λ_ j=>wpAny (model prog w) A (assign target env v) (λ_ p=>
     wpAny (model prog w) A (forIn T true λc r=>if r=true then do let ok <-isTrue c env (eval c env);pure (wd4 ok) else pure (wd4 r)) (λok l=>
      if ok=true then wpAny (model prog w) A (eval U env) (λx t=>
       wpAny (model prog w) A (call (.builtin "list.append") [acc,x]) (λ_ C=>∃m,m<n/\I m C) (notedBy (model prog w) A env λe s'=>R (.error e) s') t) (notedBy (model prog w) A env λe s'=>R (.error e) s') l
      else ∃m,m<n/\I m l) (notedBy (model prog w) A env λe s'=>R (.error e) s') p) (notedBy (model prog w) A env λe s'=>R (.error e) s') j) (notedBy (model prog w) A env λe s'=>R (.error e) s') g) (notedBy (model prog w) A env λe s'=>R (.error e) s') s)
 (n:Nat) (h:I n s) :
 codeAny (model prog w) A (.compLoop (.ListComp U [⟨target,iter,T,0⟩] scope pos) 0 it acc env) R s:=by
 refine codeAny_loop rfl I (λn s q=>?_) n h;show wpAny _ A ((compTurn (.ListComp U [⟨target,iter,T,0⟩] scope pos) 0 it acc env).onRaise (λx=>do noteFrame x env;theTreesLotGoes x)) _ _ s;refine wpAny_noted ?_;rw[compTurn_list];refine wa6 (wds (wa6 (wb1 (J n s q) (λr g b=>?_) λ_ _ a=>a)))
 cases r with
 |none=>exact wax b
 |some v=>
  refine wa6 (wb1 b (λ_ j f=>?_) λ_ _ a=>a);refine wa6 (wb1 f (λ_ p i=>wa6 (wb1 i (λok l d=>?_) λ_ _ a=>a)) λ_ _ a=>a)
  cases ok with
  |false=>exact wax ⟨rfl,d⟩
  |true=>
   exact wa6 (wa6 (wb1 d (λx t k=>wa6 (wb1 k (λ_ C o=>wax (wax ⟨rfl,o⟩)) λ_ _ a=>a)) λ_ _ a=>a))
end
def mH(J:It)(l:Addr)(σf:St)(tt:TT)(te:TE)(H:Hp)(Q:Hp->Prop):Prop:=
 ∃W:Nat->Nat->List V->Hp->Prop,(∃m,W 0 m [] (upd H l (.lst [])))/\∀i m ys H2,W i m ys H2->H2 l=some (.lst ys) /\
  ((J.stop i H2/\Q H2)\/(J.go i H2/\ys.length<sizeLine/\∀x H3,J.sX i H2 x H3->tt (some x::σf) H3 λb H4=>
    if b=true then te (some x::σf) H4 λy H5=>H5 l=some (.lst ys)/\∃m',m'<m/\W (i+1) m' (ys++[y]) (upd H5 l (.lst (ys++[y])))
    else ∃m',m'<m/\W (i+1) m' ys H4))
def wN(g:TG)(n:Nat)(J:It)(l:Addr)(σf:St)(tt:TT)(te:TE)(H:Hp)(Q:Hp->Prop):Prop:=
 ∃W:Nat->Nat->List V->Hp->Prop,(∃m,W 0 m [] (upd H l (.lst [])))/\∀i m ys H2,W i m ys H2->H2 l=some (.lst ys) /\
  ((J.stop i H2/\Q H2)\/(J.go i H2/\ys.length<sizeLine/\∀x H3 vs,vs.length=n->J.sX i H2 x H3->g x (vs++σf) H3 λσ' H'=>(∃Pj,Pj.length=n/\σ'=Pj++σf)/\tt σ' H' λb H4=>
    if b=true then te σ' H4 λy H5=>H5 l=some (.lst ys)/\∃m',m'<m/\W (i+1) m' (ys++[y]) (upd H5 l (.lst (ys++[y])))
    else ∃m',m'<m/\W (i+1) m' ys H4))
def Pk{α:Type}:Nat->(List α->Prop)->Prop
 |0,P=>P []
 |n+1,P=>∀a,Pk n λus=>P (a::us)
theorem iI{α:Type}:∀n P,Pk n P->∀us:List α,us.length=n->P us
 |0,_,h,[],_=>h
 |n+1,_,h,a::us,e=>iI n _ (h a) us (wgM e)
theorem Dz(h:mH J l g j r H Q):wN (eV 0) 1 J l g j r H Q:=
 let ⟨W,a,t⟩:=h
 ⟨W,a,λi m d e w=>let ⟨p,q⟩:=t i m d e w;⟨p,q.imp id λ⟨a,b,c⟩=>⟨a,b,λx f k n y=>by revert k;refine iI 1 _ ?_;exact λ_=>⟨⟨[some x],rfl,rfl⟩,c x f y⟩⟩⟩⟩
noncomputable def pick(σ:St)(ix:List Nat):St:=ix.map λi=>(σ[i]?).join
def Pm(wi:TI)(ix:List Nat)(tt:TT)(te:TE):TE:=λσ H Q=>wi σ H λJ H1=>∀l,H1 l=none->mH J l (pick σ ix) tt te H1 (λH2=>Q (.ref l) H2)
def Mv(wi:TI)(ix:List Nat)(tt:TT)(te:TE)(i:Nat):TS:=λD σ H=>wi σ H λJ H1=>∀l,H1 l=none->mH J l (pick σ ix) tt te H1 (λH2=>D.nx (σ.set i (some (.ref l))) H2)
structure bJ(X:Cx)(scope:wcZ)(x:Str)(ys:List Str)(ix:List Nat):Prop where
 kind:scope.kind=.function
 Gz:∀y∈scope.names,y.2≠.cell
 names:∀y∈scope.names,y.2=.local->scope.names.lookup y.1=some .local
 var:scope.names.lookup x=some .local
 free:Mu scope X.env
 nd:(x::ys).Nodup
 len:ix.length=ys.length
 slots:∀(j:Nat) (y:Str),ys[j]?=some y->∃i:Nat,ix[j]?=some i/\X.N[i]?=some y/\(X.env.scope.names.lookup y=some .cell\/X.env.scope.names.lookup y=some .free)/\scope.names.lookup y=some .free
theorem tu(h:scope.names.lookup x=some .free):(relabel scope env).names.lookup x=some .cell\/(relabel scope env).names.lookup x=some .free:=by
 unfold relabel;dsimp only
 have key:∀(names:List (Str×wea)),names.lookup x=some .free ->
  ((names.map λ(n,k)=>if (k==wcz&&env.scope.kind == .function&&env.kindOf n==some .cell) then(n,weU) else(n,k)).lookup x=some .cell \/
   (names.map λ(n,k)=>if (k==wcz&&env.scope.kind == .function&&env.kindOf n==some .cell) then(n,weU) else(n,k)).lookup x=some .free):=by
  intro names
  induction names with
  |nil=>grind
  |cons y r a=>
   grind
 exact key scope.names h
section
variable{X:Cx}{pins:List (Addr×Obj)}{σ:St}{H:Hp}{s₂:Shared}{scope:wcZ}{x:Str}{xs ys:List Str}{ix:List Nat}{cl:List (Str×Addr)}{fp:List Addr}{L:Addr}
theorem JF(B:bJ X scope x ys ix)(I:Inv X pins σ H s₂)(j:∀b∈fp,sY X pins H b)(l:∀b∈fp,b<s₂.heap.objs.size)(r:s₂.heap.objs.size<=L)
 (g:∀y c,cl.lookup y=some c->X.env.cells.lookup y=some c) (p:∀y∈scope.names,y.2=.free->∃c,cl.lookup y.1=some c):(bg X scope N cl L s₂ H fp (X.pn++pins)).Ok where
 mod:=I.ok.mod
 kind:=B.kind
 glob:=I.ok.glob
 blt:=I.ok.blt
 above:=r
 inj:=λa b c i m=>I.ok.inj a b c (g a c i) (g b c m)
 has:=λa ha=>by
  obtain⟨k,f,hk⟩:=yd (env:=X.env) B.Gz (x:=a) ha;exact p (a,k) f hk
 M5:=λ_ _ h=>nomatch h
 hd:=I.ok.hd
 frames:=I.ok.frames
 NW:=.inl rfl
 Rh:=λb d=>⟨wat (war (l b d) r),λy c h=>(j b d).2.2.2.2.1 y c (g y c h)⟩
 bs:=I.bs
 G2:=wai I.ok.G2 I.sz
 Bf:=λb o e d=>by
  rcases(j b d).2.2.2.1 with z |z
  ·exact I.ok.Bf b o e z
  ·exact absurd (war (war (wag e) I.ok.G2) z) (wb7 _)
 Eh:=λb d f=>by
  rcases waD.mp (I.sT b f) with z |z
  ·exact(j b d).2.1 z
  ·exact(j b d).2.2.1 z
 nU:=I.stack
 Jk:=I.sx
theorem GA{m₁:Str->Option Value}(B:bJ X scope x ys ix)(I:Inv X pins σ H s₂)(hf:∀b∈fp,sY X pins H b)(J:∀b∈fp,b<s₂.heap.objs.size)(T:s₂.heap.objs.size<=L)
 (g:∀y c,cl.lookup y=some c->X.env.cells.lookup y=some c) (C:∀y∈scope.names,y.2=.free->∃c,cl.lookup y.1=some c)
 (kp:∀b o,s₂.heap.get? b=some o->t.get? b=some o) (U:t.Ns L m₁) (hl:l=s₂.heap.objs.size) (SH:l≠L) (ho:t.get? l=some {cls:=.type "list",data:=.seq ([]:List Value).toArray n₀}) :
 Inv (bg X scope (xs++ys) cl L s₂ H fp (X.pn++pins)) [] (wah xs.length none++pick σ ix) (upd H l (.lst [])) {s₂ with heap:=t,toks:=tk}:=by
 subst hl;have Q:=I.b7.fresh (wab s₂.heap.objs.size);refine⟨JF B I hf J T g C,rfl,I.bare,Un.laid kp (wab _) Q,⟨m₁,U,λi y v D E Z=>?_⟩,λy c e=>?_,?_,λy c e=>?_,λp O=>?_,I.b7.laid kp (wab _) ⟨waJ _,[],n₀,.nil,ho⟩,?_⟩
 ·obtain⟨j,rfl⟩:∃j,i=xs.length+j:=by
   by_cases z:i<xs.length
   ·rw[waB (by simpa using z)]at E;simp[z]at E
   ·exact⟨i-xs.length,by lia⟩
  have G:ys[j]?=some y:=by
   have D:(xs++ys)[xs.length+j]?=some y:=D;rwa[waq (Nat.le_add_right _ _),wck]at D
  obtain⟨i,hi,R,hk,a⟩:=B.slots j y G
  have f:(σ[i]?).join=some v:=by
   have:(pick σ ix)[j]?=some (some v):=by rwa[waq (by simp),waM,wck]at E
   unfold pick at this;rw[wa4,hi]at this;exact wae this
  have s:σ[i]?=some (some v):=by
   cases q:σ[i]? with
   |none=>rw[q]at f;cases f
   |some z=>rw[q]at f;rw[show z=some v from f]
  obtain⟨m,hn,M⟩:=I.loc;have N:Ot X.env.scope y:=.inr (hk.imp id id);obtain⟨u,r,l⟩:=M i y v R s N;refine⟨u,r,.inr ⟨tu a,?_⟩⟩;rcases l with⟨k,_⟩ |⟨_,c,hc,h⟩
  ·have A:X.env.scope.names.lookup y=some .local:=k;rcases hk with z |z
   ·rw[z]at A;cases A
   ·rw[z]at A;cases A
  ·obtain⟨S,w⟩:=C (y,.free) (wcm a) rfl;have:=g y S w;rw[hc]at this;cases this;obtain⟨o,q,d⟩:=h;exact⟨c,w,o,kp c o q,d⟩
 ·obtain⟨v,o,q,d⟩:=I.cell y c (g y c e);exact⟨v,o,kp c o q,d⟩
 ·show upd H s₂.heap.objs.size (.lst []) L=none;rw[ae (wbs SH)];exact I.b7.fresh T
 ·obtain⟨v,o,q,d⟩:=I.cell y c (g y c e);rw[ae (wat (wag q))];exact I.j6 y c (g y c e)
 ·rw[waW]at O;obtain⟨q,n,ne,V,d⟩:=I.pin p O;have lt:=wag q;refine⟨kp _ _ q,by rw[ae (wat lt)];exact n,wat (war lt T),λY=>?_,d⟩;rcases waD.mp (I.sT p.1 Y) with z |z
  ·exact ne z
  ·exact V z
 ·simp[pick,B.len,bg]
theorem wO{tn:Nat->Heap->Prop}{Qd:Addr->Hp->Prop}{RR:Value->Addr->wcN->Shared->Prop}{E:Value->Shared->Prop}
 (hc:X.calm=true) (B:bJ X scope x ys ix) (I:Inv X pins σ H s₂) (T:Turn X.prog X.w X.K tg J fp it tn) (Vl:tn 0 s₂.heap) (U:∀b∈fp,sY X pins H b)
 (Bb:∀y c,cl.lookup y=some c->X.env.cells.lookup y=some c) (XV:∀y∈scope.names,y.2=.free->∃c,cl.lookup y.1=some c)
 (ht:∀L s H ex pn,FT (bg X scope (xs++ys) cl L s H ex pn) ifs tt) (he:∀L s H ex pn,PE (bg X scope (xs++ys) cl L s H ex pn) elt te)
 (hg:∀L s H ex pn,PG (bg X scope (xs++ys) cl L s H ex pn) tg g) (hw:∀l,H l=none->wN g xs.length J l (pick σ ix) tt te H (Qd l))
 (XW:∀D L H' s' m,Inv X pins σ H' s'->s'.heap.Ns L m->H' L=none->L≠X.env.locals->X.s₀.heap.objs.size<=L->(∀y c,X.env.cells.lookup y=some c->c≠L)->(∀p∈X.pn++pins,p.1≠L)->Qd D H'->RR (.ref D) L (.ok .next) s') :
 wpAny (model X.prog X.w) X.A (newList []) (λacc t=>wpAny (model X.prog X.w) X.A (newFunctionEnv scope X.env.globals cl [] X.env.qual none .none (some X.env)) (λPn s₄=>
  codeAny (model X.prog X.w) X.A (.compStart (.ListComp elt [⟨tg,iter,ifs,0⟩] scope pos) 0 (.ref it) acc {Pn with scope:=relabel scope X.env}) (RR acc Pn.locals) s₄) E t) E s₂:=by
 refine wf2 (wpAny_newFunctionEnv B.Gz (by intro y hy;simp at hy) (λk j a=>?_) B.kind);dsimp only at j a ⊢;generalize O:s₂.heap.push {cls:=.type "list",dict:=none,data:=.seq ([]:List Value).toArray}=C at j a ⊢;have hC:C.objs.size=s₂.heap.objs.size+1:=by rw[<-O,wbM]
 have Vm:s₂.heap.objs.size≠C.objs.size:=by rw[hC];exact wat (wbJ _)
 have f:s₂.heap.objs.size<=C.objs.size:=by rw[hC];exact wcb _
 have old:∀b o,s₂.heap.get? b=some o->k.get? b=some o:=λb o e=>a.extBut b o (wat (war (wag e) f)) (wa9 _ (O ▸ wa9 _ e));have SJ:k.get? s₂.heap.objs.size=some {cls:=.type "list",data:=.seq ([]:List Value).toArray}:=a.extBut _ _ Vm (wa9 _ (O ▸ waw _ rfl));have Q:∀b∈fp,b<s₂.heap.objs.size:=λb h=>let ⟨o,e,_⟩:=T.obj 0 _ Vl b h;wag e
 have XX:∀b∈fp,∀o,s₂.heap.get? b=some o->k.get? b=some o:=λb _ o e=>old b o e;have Vn:tn 0 k:=T.keep 0 _ _ Vl XX;obtain⟨W,⟨m0,w0⟩,turn⟩:=hw s₂.heap.objs.size (I.b7.fresh (wab _))
 have N:∀t:Shared,t={s₂ with heap:=k,toks:=s₂.toks+([]:List (Str×Value)).length} ->
  codeAny (model X.prog X.w) X.A (.compLoop (.ListComp elt [⟨tg,iter,ifs,0⟩] scope pos) 0 (.ref it) (.ref s₂.heap.objs.size) (compEnvC scope cl C.objs.size X.env))
   (RR (.ref s₂.heap.objs.size) C.objs.size) t:=by
  rintro t rfl;have I0:=GA (xs:=xs) (tk:=s₂.toks+([]:List (Str×Value)).length) (n₀:=0) (m₁:=_) (L:=C.objs.size) B I U Q f Bb XV old j rfl Vm SJ
  refine Ew (env:=compEnvC scope cl C.objs.size X.env)
   (λn s'=>∃i G vs H',vs.length=xs.length/\Inv (bg X scope (xs++ys) cl C.objs.size s₂ H fp (X.pn++pins)) [] (vs++pick σ ix) H' s'/\tn i s'.heap/\(∀b∈fp,H' b=none)/\W i n G H') ?_ m0
   ⟨0,[],_,_,waM,I0,Vn,λb h=>by rw[ae (wat (Q b h))];exact(U b h).1,w0⟩
  rintro n s3 ⟨i,G,vs,H3,hv,I3,Vo,Vp,w3⟩;obtain⟨JG,alt⟩:=turn i n G H3 w3
  have M:∀{H':Hp},(∀b∈fp,H' b=none)->∀b∈fp,sY (bg X scope (xs++ys) cl C.objs.size s₂ H fp (X.pn++pins)) [] H' b:=λhn b h=>
   ⟨hn b h,wat (war (Q b h) f),λhm=>by
     rcases waD.mp (I.sT b hm) with z |z
     ·exact(U b h).2.1 z
     ·exact(U b h).2.2.1 z,.inl h,λy c e=>(U b h).2.2.2.2.1 y c (Bb y c e),λp hp=>(U b h).2.2.2.2.2 p (by simpa [bg] using hp)⟩
  rcases alt with⟨stop,qd⟩ |⟨go,hsz,step⟩
  ·refine bI (T.done (bg X scope (xs++ys) cl C.objs.size s₂ H fp (X.pn++pins)) rfl rfl rfl hc i [] s3 _ H3 _ I3 (M Vp) Vo stop) λr s4 ⟨hr,Y⟩=>?_;subst hr;obtain⟨m,hn,_⟩:=Y.loc;refine XW s₂.heap.objs.size C.objs.size H3 s4 m ?_ hn Y.free (wc4 (war I.lt f)) (wai I.sz f) (λy c e=>?_) (λp hp=>?_) qd
   ·exact I.wA Y.os Y.base Y.b7 Y.bare λb h=>⟨(U b h).2.2.2.1,(U b h).2.1,(U b h).2.2.2.2.1,(U b h).2.2.2.2.2⟩
   ·obtain⟨v,o,q,d⟩:=I.cell y c e;exact wat (war (wag q) f)
   ·exact wat (war (wag (I.pin p hp).1) f)
  ·refine bI (T.item (bg X scope (xs++ys) cl C.objs.size s₂ H fp (X.pn++pins)) rfl rfl rfl hc i [] s3 _ H3 _ I3 (M Vp) Vo go) λr s4 ⟨u,hr,h4⟩=>?_;subst hr;refine bI h4 λ_ s5 ⟨xv,H5,I5,r5,y5,R,XY⟩=>?_;have XZ:=I5.pinned (M XY) (T.obj _ _ R);refine wb1 (hg _ _ _ _ _ _ s5 _ H5 xv u _ XZ r5 (step xv _ vs hv y5)) (λ_ s6 ⟨σ6,H6,I6,⟨Pj,Vq,e6⟩,q6⟩=>?_) λ_ _ z=>waU z;subst e6;refine wb1 (ht _ _ _ _ _ _ s6 _ _ _ I6 q6) (λb s7 ⟨H7,I7,q7⟩=>?_) λ_ _ z=>waU z
   have again:∀{S:St} {V:Hp} {Z:Shared},Inv (bg X scope (xs++ys) cl C.objs.size s₂ H fp (X.pn++pins)) ([]++sZ fp s5.heap) S V Z ->
    Inv (bg X scope (xs++ys) cl C.objs.size s₂ H fp (X.pn++pins)) [] S V Z/\tn (i+1) Z.heap/\∀b∈fp,V b=none:=λ{S V Z} I8=>by
    refine⟨I8.nV,T.keep _ _ _ R λb h o e=>(I8.pin (b,o) (waH _ (waH _ (jz h e)))).1,λb h=>?_⟩;obtain⟨o,e,d⟩:=T.obj _ _ R b h;exact(I8.pin (b,o) (waH _ (waH _ (jz h e)))).2.1
   cases b with
   |false=>
    rw[if_neg wam]at q7 ⊢;obtain⟨m',hm,w7⟩:=q7;obtain⟨a1,a2,a3⟩:=again I7;exact⟨m',hm,i+1,G,Pj,H7,Vq,a1,a2,a3,w7⟩
   |true=>
    rw[if_pos rfl]at q7 ⊢;refine wb1 (he _ _ _ _ _ _ s7 _ _ _ I7 q7) (λuy Z ⟨y,V,I8,r8,Rn,m',hm,w8⟩=>?_) λ_ _ z=>waU z
    refine wb1 (cK (X:=bg X scope (xs++ys) cl C.objs.size s₂ H fp (X.pn++pins)) _ Z _ V (.ref s₂.heap.objs.size) [y] (.ref s₂.heap.objs.size) [uy] (λ_ H9=>H9=upd V s₂.heap.objs.size (.lst (G++[y]))) I8 rfl (.cons r8 .nil) ⟨_,G,y,rfl,rfl,Rn,hsz,rfl⟩)
     (λ_ s9 ⟨v9,H9,I9,_,e9⟩=>?_) λ_ _ z=>waU z
    subst e9;obtain⟨a1,a2,a3⟩:=again I9;exact⟨m',hm,i+1,G++[y],Pj,_,Vq,a1,a2,a3,w8⟩
 exact codeAny_compStart_list (N _ rfl) (T.self X.A 0 _ _ _ Vn (N _ rfl))
theorem tD{C:It->Addr->St->Hp->(Hp->Prop)->Prop}(hc:X.calm=true)(B:bJ X scope x ys ix)(hg:∀cl L s H ex pn,PG (bg X scope (xs++ys) cl L s H ex pn) U g)(hC:∀J l j H Q,C J l j H Q->wN g xs.length J l j tt te H Q)(hi:PI X U iter wi)
 (ht:∀cl L s H ex pn,FT (bg X scope (xs++ys) cl L s H ex pn) p tt) (he:∀cl L s H ex pn,PE (bg X scope (xs++ys) cl L s H ex pn) r te)
 (hs:∀v,wbQ iter X.env v=pure v:=by intro _;rfl):PE X (.ListComp r [⟨U,iter,p,0⟩] scope pos) (λσ H Q=>wi σ H λJ H1=>∀l,H1 l=none->C J l (pick σ ix) H1 (λH2=>Q (.ref l) H2)):=by
 refine⟨?_⟩;intro pins s σ H Q I h;obtain⟨cl,a,d,f⟩:=mG (scope:=scope) (env:=X.env) (λy G i=>I.ok.has y.1 (B.free y G i));rw[eval_ListComp];refine wfk (use:=none) rfl hs a B.kind B.names (bI (hi pins s σ H _ I h) λZ s1 k=>bI k λM s2 n=>?_);obtain⟨it,fp,tn,J,H2,e,N,T,t,f2,hw⟩:=n;subst e;refine wO (RR:=λu C=>compPost (model X.prog X.w) X.A X.xe none (EP X pins σ Q) u C) (Qd:=λl z=>Q (.ref l) z) hc B N T t f2 d f (ht cl) (he cl) (hg cl) (λl h=>hC _ _ _ _ _ (hw l h)) ?_;intro D L z O m R hn c k n S V q;exact⟨m,hn,λh' E=>⟨.ref D,z,R.turned (it:=L) (t':=O.toks) (λb o Y e=>(E.2 b Y).trans e) c k (.inr n) S V,rfl,q⟩⟩
theorem DA(B:bJ X scope x ys ix)(cl L s H ex pn):PG (bg X scope ([x]++ys) cl L s H ex pn) (.Name x g) (eV 0):=
 have a:(relabel scope X.env).names.lookup x=some .local:=wch B.var
 jy B.nd rfl (.inl a) (.inr a)
theorem bS(hc:X.calm=true)(B:bJ X scope x ys ix)(hi:PI X (.Name x t) iter I)
 (T:∀cl L s H ex pn,FT (bg X scope (x::ys) cl L s H ex pn) g p) (he:∀cl L s H ex pn,PE (bg X scope (x::ys) cl L s H ex pn) j r)
 (hs:∀v,wbQ iter X.env v=pure v:=by intro _;rfl):PE X (.ListComp j [⟨.Name x t,iter,g,0⟩] scope pos) (Pm I ix p r):=
 tD (C:=λJ l a H Q=>mH J l a p r H Q) (xs:=[x]) hc B (DA B) (λ_ _ _ _ _=>Dz) hi T he hs
end
section
variable{X:Cx}{scope:wcZ}{x:Str}{xs ys:List Str}{ix:List Nat}
theorem qJ{C:It->Addr->St->Hp->(Hp->Prop)->Prop}(hc:X.calm=true)(B:bJ X scope x ys ix)(hN:X.N.Nodup)(hy:X.N[i]?=some y)(r:X.env.scope.names.lookup y=some .local)(hg:∀cl L s H ex pn,PG (bg X scope (xs++ys) cl L s H ex pn) tg g)(hC:∀J l t H Q,C J l t H Q->wN g xs.length J l t tt te H Q)(hi:PI X tg iter wi)
 (ht:∀cl L s H ex pn,FT (bg X scope (xs++ys) cl L s H ex pn) j tt) (he:∀cl L s H ex pn,PE (bg X scope (xs++ys) cl L s H ex pn) p te)
 (SK:wc1 (.ListComp p [⟨tg,iter,j,0⟩] scope pos) (some (.Name y py)) U.line X.env=pure true:=by rfl)
 (hs:∀v,wbQ iter X.env v=pure v:=by intro _;rfl):PS X (.Assign [.Name y py] (.ListComp p [⟨tg,iter,j,0⟩] scope pos) U) (λD σ H=>wi σ H λJ H1=>∀l,H1 l=none->C J l (pick σ ix) H1 (λH2=>D.nx (σ.set i (some (.ref l))) H2)):=by
 refine⟨?_⟩;intro c s σ H D I h;obtain⟨cl,d,u,E⟩:=mG (scope:=scope) (env:=X.env) (λy hy G=>I.ok.has y.1 (B.free y hy G));rw[exec_Assign_Name_used _ _ _ _ SK];refine wa6 (wds (wa6 ?_));show wpAny _ X.A (do let _ <-comprehension (.ListComp p [⟨tg,iter,j,0⟩] scope pos) scope X.env _ (newList []) false (eval iter X.env) (some (assign (.Name y py) X.env))) _ _ s
 refine wa6 (wb1 (wfk (use:=some (assign (.Name y py) X.env)) (Q:=λ_ k=>SP X c D .next k) rfl hs d B.kind B.names
  (bI (hi c s σ H _ I h) λxv s1 n=>bI n λSj s2 M=>?_)) (λ_ k hq=>wax (wax hq)) λ_ _ e=>e)
 obtain⟨it,fp,tn,J,H2,e,I2,T,O,f2,hw⟩:=M;subst e;refine wO (RR:=λR C=>compPost (model X.prog X.w) X.A X.xe (some (assign (.Name y py) X.env)) (λ_ k=>SP X c D .next k) R C) (Qd:=λl S=>D.nx (σ.set i (some (.ref l))) S) hc B I2 T O f2 u E (ht cl) (he cl) (hg cl) (λl h=>hC _ _ _ _ _ (hw l h)) ?_;intro D' L S k m I' hn f n M h3 h4 q;show wpAny _ X.A (assign (.Name y py) X.env (.ref D')) _ _ _;refine wpAny_assign_Name (wy I' hN hy (.inl r) (v:=.ref D') rfl (λV Y sb=>?_) (.inr r));obtain⟨a,Z,ha⟩:=sb
 have hL:L≠a:=by
  rcases ha with z |z
  ·rw[z];exact n
  ·exact(h3 y a z).symm
 refine⟨m,hn.sameBut Z hL,λh' Lh=>⟨_,S,Y.turned (it:=L) (t':=V.toks) (λb o hb e=>(Lh.2 b hb).trans e) f n (.inr M) h3 h4,q⟩⟩
theorem cW(hc:X.calm=true)(B:bJ X scope x ys ix)(hN:X.N.Nodup)(hy:X.N[i]?=some y)(r:X.env.scope.names.lookup y=some .local)(hi:PI X (.Name x I) iter wi)
 (ht:∀cl L s H ex pn,FT (bg X scope (x::ys) cl L s H ex pn) g T) (he:∀cl L s H ex pn,PE (bg X scope (x::ys) cl L s H ex pn) j U)
 (t:wc1 (.ListComp j [⟨.Name x I,iter,g,0⟩] scope pos) (some (.Name y py)) p.line X.env=pure true:=by rfl)
 (hs:∀v,wbQ iter X.env v=pure v:=by intro _;rfl):PS X (.Assign [.Name y py] (.ListComp j [⟨.Name x I,iter,g,0⟩] scope pos) p) (Mv wi ix T U i):=
 qJ (C:=λJ l a H Q=>mH J l a T U H Q) (xs:=[x]) hc B hN hy r (DA B) (λ_ _ _ _ _=>Dz) hi ht he t hs
end
theorem df{Ok:Hp->Prop}{Q:Hp->Prop}(p:V->Bool)(g:V->V)(T:mD J Ok xs)(hl:H l=none)(hz:xs.length<=sizeLine)(t:∀j,a7 H j->Ok j)
 (U:∀x r C,x∈xs->a7 H r->(∀j,a7 r j->C (p x) j)->tt (some x::I) r C)
 (he:∀x r C,x∈xs->p x=true->a7 H r->(∀j,a7 r j->C (g x) j)->te (some x::I) r C)
 (hd:∀j,a7 H j->j l=some (.lst ((xs.filter p).map g))->Q j):mH J l I tt te H Q:=by
 refine⟨λi m n d=>m=xs.length-i/\i<=xs.length/\a7 H d/\d l=some (.lst n)/\n=((xs.take i).filter p).map g,⟨xs.length,by simp,waJ _,a7.upd hl,a6,by simp⟩,?_⟩;rintro i m n d ⟨rfl,hi,c,h,k⟩;refine⟨h,?_⟩
 by_cases a:i<xs.length
 ·refine .inr ⟨T.go i d (t _ c) a,?_,λx r y=>?_⟩
  ·rw[k,wa0];refine wbc (wbe _ _) ?_;rw[wak];omega
  ·obtain⟨e,s⟩:=T.sX i d x r (t _ c) a y;subst e;have mem:x∈xs:=wa8 s;have u:xs.take (i+1)=xs.take i++[x]:=by rw[waS,s];rfl
   refine U x _ _ mem c λw f=>?_
   cases q:p x with
   |false=>
    rw[if_neg wam];refine⟨xs.length-(i+1),by omega,rfl,a,c.trans f,f _ _ h,?_⟩;rw[u,wbG,k];simp[q]
   |true=>
    rw[if_pos rfl];refine he x _ _ mem q (c.trans f) λz v=>?_;refine⟨v _ _ (f _ _ h),xs.length-(i+1),by omega,rfl,a,?_,a6,?_⟩
    ·intro b o e;rw[ae (af e hl)];exact v _ _ (f _ _ (c _ _ e))
    ·rw[u,wbG,k];simp[q]
 ·have e:i=xs.length:=by omega
  subst e;refine .inl ⟨T.stop d (t _ c),hd d c ?_⟩;rw[h,k,waG]
theorem qK:∀{us:List Value},Vals (bs.map V.bl) us->LSm.BoolsAre us bs:=by
 induction bs with
 |nil=>intro us r;rw[weq]at r;cases r;exact .nil
 |cons n ns a=>
  intro us r;rw[wao]at r
  cases r with
  |cons b c=>
   cases b;exact .cons n (a c)
theorem BA:∀{us:List Value},Vals (ns.map V.str) us->StrsAre us ns:=by
 induction ns with
 |nil=>intro us r;rw[weq]at r;cases r;exact .nil
 |cons n ns a=>
  intro us r;rw[wao]at r
  cases r with
  |cons b c=>
   obtain⟨t,e⟩:=b;subst e;exact .cons n t (a c)
theorem wQ:∀{vs:List Value} {ns:List Str},StrsAre vs ns->Vals (ns.map V.str) vs
 |_,_,.nil=>.nil
 |_,_,.cons n t h=>.cons ⟨t,rfl⟩ (wQ h)
section
variable{X:Cx}
theorem tE(hc:X.calm=true):dA X (.builtin "any") (λxs H Q=>∃p bs,xs=[.ref p]/\aE X.K H p (wcA V.bl bs)/\Q (.bl (bs.any id)) H):=by
 intro d s σ H xs o Q I r h;obtain⟨p,bs,rfl,j,q⟩:=h;obtain⟨u,rfl,k⟩:=vals1 r;cases k;obtain⟨a,l,pl,t⟩:=I.list j;have f:=qK l;have hl:=pl.isList;have m:=I.ok.hd hc;have c:p<s.heap.objs.size:=by obtain⟨_,e,_⟩:=hl;exact wag e
 refine call_any_walk (wcB hl ?_)
 refine⟨s.heap.objs.size,[s.heap.objs.size,p],[s.heap.objs.size],a.toArray.size,_,_,λi=>(bs[i]?).getD false,rfl,wf8 (A:=X.A.in1) m _ p (wat c) a.toArray,
  ⟨⟨_,waw _ rfl,rfl,rfl⟩,hl.push _⟩,λi v w x y n g=>?_,λz B hk=>?_⟩
 ·obtain⟨b,e,rfl⟩:=f.get i v (by simpa using n);simp only[e,wfl]at g;exact wbq g
 ·have e:((waI a.toArray.size).any λi=>(bs[i]?).getD false)=bs.any id:=by
   rw[waz,f.length];exact LSm.range_any bs
  rw[e];exact⟨.bl _,H,I.kept (LSm.kept_iter hk),rfl,q⟩
theorem zz(hc:X.calm=true):dA X (.builtin "all") (λxs H Q=>∃p bs,xs=[.ref p]/\aE X.K H p (wcA V.bl bs)/\Q (.bl (bs.all id)) H):=by
 intro d s σ H xs o Q I r h;obtain⟨p,bs,rfl,j,q⟩:=h;obtain⟨u,rfl,k⟩:=vals1 r;cases k;obtain⟨a,l,pl,t⟩:=I.list j;have f:=qK l;have hl:=pl.isList;have m:=I.ok.hd hc;have c:p<s.heap.objs.size:=by obtain⟨_,e,_⟩:=hl;exact wag e
 refine call_all_walk (wcB hl ?_)
 refine⟨s.heap.objs.size,[s.heap.objs.size,p],[s.heap.objs.size],a.toArray.size,_,_,λi=>(bs[i]?).getD true,rfl,wf8 (A:=X.A.in1) m _ p (wat c) a.toArray,
  ⟨⟨_,waw _ rfl,rfl,rfl⟩,hl.push _⟩,λi v w x y n g=>?_,λz B hk=>?_⟩
 ·obtain⟨b,e,rfl⟩:=f.get i v (by simpa using n);simp only[e,wfl]at g;exact wbq g
 ·have e:((waI a.toArray.size).all λi=>(bs[i]?).getD true)=bs.all id:=by
   rw[waz,f.length];exact LSm.range_all bs
  rw[e];exact⟨.bl _,H,I.kept (LSm.kept_iter hk),rfl,q⟩
theorem GB(hk:kvs.map (·.1)=g.map (wav:Str->Key))(rel:KV kvs vs)(hl:us.length=vs.length)
 (l:∀(j:Nat) (u:Value),us[j]?=some u->∃k x,vs[j]?=some (k,x)/\(bq P w).is k u=true):StrsAre us g:=by
 have e:vs.map (·.1)=g.map (wav:Str->Key):=rel.keys ▸ hk;clear hk rel
 induction g generalizing us vs with
 |nil=>
  have:vs=[]:=by cases vs with |nil=>rfl |cons a b=>simp at e
  subst this;have:us=[]:=wfx.mp hl;subst this;exact .nil
 |cons k g i=>
  cases vs with
  |nil=>simp at e
  |cons v vs=>
   cases us with
   |nil=>simp at hl
   |cons u us=>
    rw[wao,wao]at e;injection e with m n
    obtain⟨f,x,o,p⟩:=l 0 u rfl;have c:v=(f,x):=by simpa using o
    subst c;have d:f=(wav k:Key):=m;subst d;obtain⟨t,rfl⟩:=wgu (x:=k) (v:=u) p;exact .cons k t (i (by simpa using hl) (λj q h=>l (j+1) q (by simpa using h)) n)
theorem ye(hc:X.calm=true):dA X (.builtin "sorted") (λxs H Q=>∃d kvs g,xs=[.ref d]/\H d=some (.dK kvs)/\kvs.map (·.1)=wcA (wav:Str->Key) g/\g.length<64 /\
 ∀l ss,H l=none->ss.Perm g->wfw ss=true->Q (.ref l) (upd H l (.lst (ss.map V.str)))):=by
 intro k s σ H xs U Q I r h;obtain⟨d,kvs,g,rfl,hd,hk,v,q⟩:=h;obtain⟨u,rfl,N⟩:=vals1 r;cases N;obtain⟨D,lo,x,rel,O⟩:=t9 I.b7 hd;obtain⟨ep,y⟩:=O.dictAt;have R:=I.ok.hd hc;have n:kvs.length=g.length:=by have:=congrArg wdu hk;simpa using this
 have hn:x.length<=sizeLine:=by rw[<-rel.length];exact D
 refine Calls.call_function_entry kind_sorted plain_sorted entry_sorted (args_sorted1 _) ?_;unfold wdS.«sorted»;refine wa6 (m:=checkCount "sorted" 1 1 _) (wax ?_);refine wa6 (PySem.W.kdu_collect (A:=X.A.in1) (whc (knd:=bq X.prog X.w) (kvs:=x) (ep:=ep) lo) R y hn λi E a z c=>?_);have hl:a.toList.length=x.length:=by rw[wcl];exact c.1
 refine wa6 (wpAny_newList ?_ (by rw[hl];exact hn));have B:StrsAre a.toList g:=GB (P:=X.prog) (w:=X.w) hk rel hl λj u e=>c.2 j u (by rw[<-wca];exact e);have f:(i.push (seqObj "list" a.toList.toArray 0)).get? i.objs.size=some (seqObj "list" a.toList.toArray 0):=waw _ rfl;have p:a.toList.length<64:=by rw[hl,<-rel.length,n];exact v
 refine wa6 (wbj (wpAny_call_entry slot_list_sort ⟨_,f,rfl⟩ entry_list_sort (list_sort_treeK strKind_oneLt f B.keysOf (λG J rest e=>keyKind_strs (by rw[<-e];exact B)) p λC a1 a2=>⟨_,rfl,?_⟩) (args_list_sort _)));obtain⟨t,b1,L,S⟩:=sorted_out_str B a1 a2;have M:Inv X k σ H {s with heap:=i,toks:=E}:=I.kept z;obtain⟨e,T⟩:=sortedHeap_at (out:=(arrOf C).map (·.2)) f;refine wax ⟨_,rfl,⟨.ref i.objs.size,upd H i.objs.size (.lst (t.map V.str)),M.laid (t':=E) (λb o q=>?_) (wab _) ⟨?_,_,e,wQ b1,?_⟩,rfl,q _ t (M.b7.fresh (wab _)) L S⟩⟩
 ·have lt:b<i.objs.size:=wag q;rw[sortedHeap_old (wat lt) (by rw[size_push'];exact we0 lt)];exact wa9 _ q
 ·rw[wa0,L.length_eq,<-n];exact D
 ·rw[wdo];exact T
theorem wR:∀{kvs:List (Key×V)} {vs:List (Key×Value)} {us:List Value},KV kvs vs->us.length=vs.length ->
 (∀(j:Nat) (u:Value),us[j]?=some u->∃k x,vs[j]?=some (k,x)/\(bq P w).is k u=true)->Vals (kvs.map λg=>kV g.1) us
 |_,_,us,.nil,hl,_=>by
  have:us=[]:=wfx.mp hl;subst this;exact .nil
 |_,_,us,.cons (a:=p) (b:=q) r t,hl,d=>by
  cases us with
  |nil=>simp at hl
  |cons u us=>
   obtain⟨f,x,l,m⟩:=d 0 u rfl;have c:q=(f,x):=by simpa using l
   subst c;refine .cons ?_ (wR t (by simpa using hl) λj n h=>d (j+1) n (by simpa using h));have e:p.1=f:=r.1;show RelV (kV p.1) u;rw[e];rcases bO m with⟨i,t,rfl,rfl⟩ |⟨y,t,rfl,rfl⟩
   ·exact⟨t,rfl⟩
   ·exact⟨t,rfl⟩
theorem ni(hc:X.calm=true):dA X (.type "list") (λxs H Q=>∃d kvs,xs=[.ref d]/\H d=some (.dK kvs)/\∀l,H l=none->Q (.ref l) (upd H l (.lst (kvs.map λg=>kV g.1)))):=by
 intro k s σ H xs y Q I r h;obtain⟨d,kvs,rfl,hd,q⟩:=h;obtain⟨u,rfl,n⟩:=vals1 r;cases n;obtain⟨m,lo,f,rel,o⟩:=t9 I.b7 hd;obtain⟨ep,i⟩:=o.dictAt;have p:=I.ok.hd hc;have hn:f.length<=sizeLine:=by rw[<-rel.length];exact m
 refine whd (whc (knd:=bq X.prog X.w) (kvs:=f) (ep:=ep) lo) p i hn λt v b c kp x a=>?_;have hl:b.toList.length=f.length:=by rw[wcl];exact a.1
 refine⟨.ref s.heap.objs.size,_,I.laid (t':=v) kp (wab _) (show bP X.prog X.w _ t _ (.lst (kvs.map λg=>kV g.1)) from ⟨?_,b.toList,c,wR (P:=X.prog) (w:=X.w) rel hl λj u e=>a.2 j u (by rw[<-wca];exact e),?_⟩),rfl,q _ (I.b7.fresh (wab _))⟩
 ·rw[wa0];exact m
 ·rw[wdo];exact x
noncomputable def kT(v d:Addr):HO:=.ext λh=>h.IsValuesView v d
theorem wU:Jy X "dict.values" (λx xs H Q=>∃d kvs,x=.ref d/\xs=[]/\H d=some (.dK kvs)/\∀v,H v=none->Q (.ref v) (upd H v (kT v d))):=by
 intro a s σ H x xs v j Q I f g h;obtain⟨d,kvs,rfl,rfl,hd,q⟩:=h;cases f;have:=g.zero;subst this;obtain⟨l,lo,i,rel,c⟩:=t9 I.b7 hd;refine call_meetsIn wdJ c.typeIs PySem.F.entry_dict_values (PySem.F.args_dict_values_1 _) (meets_dict_values (bq X.prog X.w) d lo) ⟨⟨i,c⟩,?_⟩;refine⟨.ref s.heap.objs.size,_,I.laid (t':=s.toks) (o:=kT s.heap.objs.size d) (λb o e=>wa9 _ e) (wab _) ⟨⟨_,waw _ rfl,rfl,rfl⟩,⟨_,waw _ rfl⟩,λm n ⟨o,e,r⟩ k=>⟨o,k o e,r⟩⟩,rfl,q _ (I.b7.fresh (wab _))⟩
theorem BC(hc:X.calm=true):dA X (.type "list") (λxs H Q=>∃v d kvs,xs=[.ref v]/\H v=some (kT v d)/\H d=some (.dK kvs)/\∀l,H l=none->Q (.ref l) (upd H l (.lst (kvs.map (·.2))))):=by
 intro k s σ H xs D Q I r h;obtain⟨v,d,kvs,rfl,n,hd,q⟩:=h;obtain⟨u,rfl,o⟩:=vals1 r;cases o;obtain⟨m,lo,b,rel,p⟩:=t9 I.b7 hd;obtain⟨ep,i⟩:=p.dictAt;obtain⟨g,_⟩:=(show bP X.prog X.w H s.heap v (kT v d) from I.b7 v _ n);have x:=I.ok.hd hc;have hn:b.length<=sizeLine:=by rw[<-rel.length];exact m
 refine whd (wgN (knd:=bq X.prog X.w) (kvs:=b) (ep:=ep)) x ⟨g,i⟩ hn λy z a c kp A f=>?_;have hl:a.toList.length=b.length:=by rw[wcl];exact f.1
 have e:a.toList=b.map (·.2):=PySem.W.kdl_vals_eq a.toList hl λj u e=>f.2 j u (by rw[<-wca];exact e)
 have B:∀{kvs:List (Key×V)} {b:List (Key×Value)},KV kvs b->Vals (kvs.map (·.2)) (b.map (·.2)):=λ{kvs b} r=>by
  induction r with
  |nil=>exact .nil
  |cons r t C=>exact .cons r.2 C
 refine⟨.ref s.heap.objs.size,_,I.laid (t':=z) kp (wab _) (show bP X.prog X.w _ y _ (.lst (kvs.map (·.2))) from ⟨?_,a.toList,c,by rw[e];exact B rel,?_⟩),rfl,q _ (I.b7.fresh (wab _))⟩
 ·rw[wa0];exact m
 ·rw[wdo];exact A
noncomputable def tF:List V->List V->Bool
 |[],[]=>true
 |x::xs,y::ys=>qI x y&&tF xs ys
 |_,_=>false
theorem GC(h:xs.length≠ys.length):tF xs ys=false:=by
 induction xs generalizing ys with
 |nil=>cases ys with
  |nil=>exact absurd rfl h
  |cons _ _=>rfl
 |cons x xs a=>cases ys with
  |nil=>rfl
  |cons y ys=>
   show (qI x y&&tF xs ys)=false;rw[a (by simpa using h),wdV]
theorem tG:∀{xs ys:List V},xs.length=ys.length->tF xs ys=(waI xs.length).all λj=>qI (xs.getD j .non) (ys.getD j .non)
 |[],[],_=>rfl
 |[],_::_,h=>by simp at h
 |_::_,[],h=>by simp at h
 |x::xs,y::ys,h=>by
  show (qI x y&&tF xs ys)=_;rw[waF,List.range_succ_eq_map,weT,wfm,tG (by simpa using h)];rfl
inductive SM(K:wa2)(x y:V)(H:Hp)(Q:VK):Prop
 |mk (a b xs ys) (_:x=.ref a) (_:y=.ref b) (_:aE K H a xs) (_:aE K H b ys) (_:xs.all et=true) (_:ys.all et=true) (_:Q (.bl (tF xs ys)) H)
theorem BD(l:X.A.units<wcw):kI X (wb4 .Eq) (SM X.K):=by
 intro m s σ H x y v u Q I C D h;obtain⟨a,b,f,g,rfl,rfl,ha,E,G,J,q⟩:=h;cases C;cases D;obtain⟨d,n,o,_⟩:=I.list ha;obtain⟨c,p,r,_⟩:=I.list E;have L:=n.length;have U:=p.length
 by_cases hl:f.length=g.length
 ·refine SeqAt.eq_listAt (e:=λj=>qI (f.getD j .non) (g.getD j .non)) o.isList r.isList (by simp only[waz];lia) l (λj M N=>?_) ?_
  ·have i:j<d.length:=by simpa using M
   have k:j<c.length:=by simpa using N
   have t:f[j]?=some (f.getD j .non):=by rw[wa3];simp[show j<f.length by lia]
   have w:g[j]?=some (g.getD j .non):=by rw[wa3];simp[show j<g.length by lia]
   obtain⟨O,z,R⟩:=n.get t;obtain⟨S,B,T⟩:=p.get w
   have g1:d.toArray[j]=O:=by
    have:d[j]?=some d[j]:=by simp[i]
    rw[this]at z;simpa using wae z
   have g2:c.toArray[j]=S:=by
    have:c[j]?=some c[j]:=by simp[k]
    rw[this]at B;simpa using wae B
   rw[g1,g2];exact y7 R T (waR.mp G _ (wa8 t)) (waR.mp J _ (wa8 w))
  ·rw[tG hl]at q;refine⟨.bl _,H,I,rfl,?_⟩;rw[waz,<-L];exact q
 ·refine SeqAt.eq_list_lengthsAt o.isList r.isList (by simp only[waz,bne_iff_ne];lia) l ⟨.bl false,H,I,rfl,?_⟩;rw[GC hl]at q;exact q
theorem cf:dA X (.builtin "isinstance") (λxs H Q=>∃x T t b,xs=[x,.ty T]/\ic X.K H x t/\whv X.K t (.type T)=some b/\Q (.bl b) H):=by
 intro a s σ H xs g Q I r h;obtain⟨x,T,t,b,rfl,ty,e,q⟩:=h;obtain⟨u,i,rfl,c,d⟩:=vals2 r;cases d;exact En I c ty e λf=>⟨.bl b,H,I.tok f,rfl,q⟩
theorem yf:Ss X (λx lo hi H Q=>∃z,x=.str z/\z.length<=sizeLine/\Q (.str (wby z lo hi)) H):=by
 intro a s σ H x v p r lo hi sl Q I m n pl f h;obtain⟨z,rfl,b,q⟩:=h;obtain⟨t,rfl⟩:=m;refine⟨"str",_,slot_str_getitem.lookup,wgj s z t,?_⟩;have fin:∀d k,EP X a σ Q (.str (wby z lo hi) d) {s with toks:=k}:=λd k=>⟨.str _,H,I.tok k,⟨d,rfl⟩,q⟩;obtain⟨o,c,hc,hd⟩:=n
 cases pl with
 |none=>cases f with
  |none=>exact wcR (l:=none) (u:=none) (st:=none) ⟨o,c,hc,hd⟩ rfl (wer ⟨wai (wdK z _ _) b,fin⟩)
  |int j e=>exact wcR (l:=none) (u:=some (j,e)) (st:=none) ⟨o,c,hc,hd⟩ rfl (wer ⟨wai (wdK z _ _) b,fin⟩)
 |int i g=>cases f with
  |none=>exact wcR (l:=some (i,g)) (u:=none) (st:=none) ⟨o,c,hc,hd⟩ rfl (wer ⟨wai (wdK z _ _) b,fin⟩)
  |int j e=>exact wcR (l:=some (i,g)) (u:=some (j,e)) (st:=none) ⟨o,c,hc,hd⟩ rfl (wer ⟨wai (wdK z _ _) b,fin⟩)
theorem DB:Jy X "str.join" (λx xs H Q=>∃z p ts,x=.str z/\xs=[.ref p]/\aE X.K H p (wcA V.str ts)/\(ts.map (·.length)).sum+ts.length*z.length<=16777216/\Q (.str (wdp z ts)) H):=by
 intro a s σ H x xs v l Q I b c h;obtain⟨z,p,ts,rfl,rfl,d,e,q⟩:=h;obtain⟨t,rfl⟩:=b;obtain⟨u,rfl,f⟩:=c.one;cases f;obtain⟨g,i,pl,_⟩:=I.list d;exact join_list pl.isList (by simpa using BA i) e λj k=>⟨.str _,H,I.tok k,⟨j,rfl⟩,q⟩
end
theorem tH{X:Cx}{g:List (Addr×Obj)}{σ:St}{H:Hp}{s:Shared}{l:List Addr}{x y:V}{u v:Value}{j:Heap}(tk:Nat)(I:Inv X g σ H s)(p:∀b∈l,sY X g H b)(kp:∀b o,b∉l->s.heap.get? b=some o->j.get? b=some o)
 (t:j.get? s.heap.objs.size=some {cls:=.type "tuple",data:=.seq #[u,v]}) (C:RelV y u) (J:RelV x v) (hl:∀b∈l,b<s.heap.objs.size) :
 H s.heap.objs.size=none/\Inv X g σ (upd H s.heap.objs.size (.tup [y,x])) {s with heap:=j,gens:=s.gens,drawn:=s.drawn,toks:=tk}/\∀b∈l,upd H s.heap.objs.size (.tup [y,x]) b=none:=by
 have d:=I.b7.fresh (wab s.heap.objs.size);have e:∀b o,H b=some o->b∉l:=λb o q z=>by rw[(p b z).1]at q;cases q
 have f:jx X.prog X.w (upd H s.heap.objs.size (.tup [y,x])) j:=by
  intro b o q
  by_cases a:b=s.heap.objs.size
  ·subst a;rw[a6]at q;cases q;exact⟨by show 2<=sizeLine;decide,[u,v],.cons C (.cons J .nil),⟨_,t,rfl,_,rfl⟩⟩
  ·rw[ae a]at q;refine(I.b7 b o q).vF (λc v hc r=>?_) (λc r=>by rw[ae (af r d)];exact r) λc i r=>by rw[ae (af r d)];exact r
   rcases hc with z |z
   ·rw[z]at r ⊢;exact kp b v (e b o q) r
   ·exact kp c v (e c _ z) r
 refine⟨d,?_,λb a=>by rw[ae (wat (hl b a))];exact(p b a).1⟩
 refine I.step (ch:=l) (λb a=>?_) (λb o _ _ hc q _=>kp b o hc q) (λb o _ _ hc q _=>⟨o.slots,kp b o hc q⟩) (λb o _ q n=>by rw[ae (wat (wag q))];exact n) (λb o hc q=>⟨o,kp b o hc q⟩)
  (λb i r=>by rw[ae (af r d)];exact r) (λb o u r=>by rw[ae (af r d)];exact r) (λb ps r=>⟨#[],by rw[ae (af r d),r];simp⟩)
  (λm ⟨o,k,A,h,r⟩=>⟨o,k,A,kp _ o (λz=>(p _ z).2.1 rfl) h,r⟩) f I.bare
 obtain⟨_,f1,_,B,D,E⟩:=p b a;exact⟨B,f1,D,E⟩
theorem yg{b e i:Addr}(h:b∉[e,i]):b≠e/\b≠i:=by simpa using h
theorem Mw{e i n:Nat}(h:e<n)(h':i<n):∀b∈[e,i],b<n:=by simp[h,h']
noncomputable def O2(K:wa2)(a:Addr):It:=
 ⟨λi H=>∃xs x,aE K H a xs/\xs[i]?=some x,λi H x H'=>∃T xv,H T=none/\x=.ref T/\H'=upd H T (.tup [.int (i:Nat),xv])/\∀xs,aE K H a xs->xs[i]?=some xv,λi H=>∃xs,aE K H a xs/\xs.length<=i⟩
theorem Ex{P:wap}{w:World}{K:wa2}{g:List Expr}{k:Nat}{pos:Pos}(a e it:Addr)(j:e≠it):Turn P w K (.Tuple g k pos) (O2 K a) [e,it] e (λi h=>(∃old,IsEnum h e it (i:Nat) old)/\h.IsListIter it a i) where
 mem:=by simp
 obj:=λi h st b f=>by
  obtain⟨⟨old,c⟩,o,t,hc,hd⟩:=st;rcases waD.mp f with rfl |f
  ·exact⟨_,c,λv z=>by
    have Q:wfN _=wgF v:=z
    cases Q⟩
  ·have R:b=it:=by simpa using f
   subst R;exact⟨o,t,λv z=>by rw[hd]at z;cases z⟩
 keep:=λi h O st k=>⟨st.1.imp λold c=>k e (by simp) _ c,st.2.at λo q=>k it (by simp) o q⟩
 item:=by
  intro X A hw B hc i l s σ H E I C st D;subst A hw B;obtain⟨S,x,r,G⟩:=D;obtain⟨J,L,p,T⟩:=I.list r;obtain⟨u,U,V⟩:=L.get G;obtain⟨⟨old,c⟩,hit⟩:=st;refine wpAny_pyNext_enum_item c hit p.isList (x:=u) (by simpa using U) j λO t m Y Z hk=>?_;refine⟨_,rfl,wdt t λVr M d=>?_⟩;obtain⟨_,N,_⟩:=id hit;have n:e<s.heap.objs.size:=wag c;obtain⟨fr,I1,hn⟩:=tH (y:=.int (i:Nat)) (s.toks+1) I C (λb o h q=>(d.2 b (yg h).1).trans (hk b o (yg h).1 (yg h).2 q)) ((d.2 _ (wc4 n)).trans Y) ⟨_,rfl⟩ V (Mw n (wag N));exact⟨.ref s.heap.objs.size,_,I1,rfl,⟨s.heap.objs.size,x,fr,rfl,rfl,λys hy=>by rw[I.sV hy r];exact G⟩,⟨⟨u,by simpa using M⟩,m.at λo q=>(d.2 it (wbs j)).trans q⟩,hn⟩
 done:=by
   intro X A hw B hc i l s σ H E I C st D;subst A hw B;obtain⟨S,r,G⟩:=D;obtain⟨J,L,p,T⟩:=I.list r;have hl:=L.length;obtain⟨⟨old,c⟩,hit⟩:=st;obtain⟨g0,g1,g2,g3,g4,g5⟩:=C it (by simp);exact wpAny_pyNext_enum_end (I.ok.hd hc) c hit p.isList (wfU (by simp;lia)) λO eb=>⟨rfl,I.turned (t':=s.toks) (λb o f e=>eb b o f e) g0 g1 g3 g4 g5⟩
 self:=λ_ _ _ _ _ st h=>let ⟨⟨_,c⟩,_⟩:=st;wcC c h
theorem gG:waQ "enumerate"=some (.type "enumerate"):=by decide+kernel
section
variable{X:Cx}
def Pp(K:wa2)(ta:TA):TI:=λσ H R=>ta σ H λvs H1=>∃a xs,vs=[.ref a]/\aE K H1 a xs/\R (O2 K a) H1
theorem mn{g:List Expr}{k:Nat}{j:Pos}{l:Expr}{r:TA}{p pos:Pos}(t:Gl X "enumerate")(C:X.mg "enumerate"=none)(ha:PA X [l] r)(hs:starEach [l] X.env=[(false,eval l X.env)]:=by rfl) :
 PI X (.Tuple g k j) (.Call (.Name "enumerate" p) [l] [] pos) (Pp X.K r):=by
 refine⟨?_⟩;intro c s σ H R I h;refine Call_ (ib I t C gG (wc2 (bI (ha pos c s σ H _ I h) λD d ⟨E,m,i,o,v⟩=>?_) hs rfl));obtain⟨a,G,e,w,q⟩:=v;subst e;obtain⟨u,rfl,x⟩:=vals1 o;cases x;obtain⟨y,J,pl,L⟩:=i.list w;refine call_enumerate_list pl.isList λz n hit A kp=>wcC n ?_;have B:Inv X c σ m {d with heap:=z}:=i.kept (t':=d.toks) kp;refine⟨d.heap.objs.size+1,[d.heap.objs.size+1,d.heap.objs.size],_,_,m,rfl,B,Ex a _ _ (wc4 (wbJ _)),⟨⟨_,n⟩,hit⟩,λb M=>?_,q⟩
 have f:d.heap.objs.size<=b:=by
  grind
 exact i.Bk f (i.b7.fresh f)
end
theorem o4{K:wa2}{a:Addr}{xs:List V}{g:TG}{C:TS}{D:Ends}{σ:St}{H:Hp}(Pv:Nat->St->Hp->Prop)(h0:Pv 0 σ H)(hl:∀i σ H,i<=xs.length->Pv i σ H->aE K H a xs)
 (hs:∀i x σ H T,xs[i]?=some x->Pv i σ H->H T=none->g (.ref T) σ (upd H T (.tup [.int (i:Nat),x])) λj t=>C (D.lp (Pv (i+1))) j t) (hd:∀σ H,Pv xs.length σ H->D.nx σ H) :
 ∃W:Nat->Nat->St->Hp->Prop,(∃m,W 0 m σ H)/\∀i m σ H,W i m σ H ->
  ((O2 K a).stop i H/\D.nx σ H)\/((O2 K a).go i H/\∃N:St->Hp->Prop,(∀l r,N l r->∃I,I<m/\W (i+1) I l r)/\∀x r,(O2 K a).sX i H x r->g x σ r λj t=>C (D.lp N) j t):=by
 refine⟨λi m σ H=>m=xs.length-i/\i<=xs.length/\Pv i σ H,⟨xs.length,by simp,waJ _,h0⟩,?_⟩;rintro i m σ H ⟨rfl,hi,p⟩;have q:=hl i σ H hi p
 by_cases b:i<xs.length
 ·refine .inr ⟨⟨xs,xs[i],q,by simp[b]⟩,Pv (i+1),λl r c=>⟨xs.length-(i+1),by omega,rfl,b,c⟩,λx r y=>?_⟩;obtain⟨T,d,f,h,k,y⟩:=y;subst h k;exact hs i d σ _ T (y xs q) p f
 ·have e:i=xs.length:=by omega
  subst e;exact .inl ⟨⟨xs,q,wab _⟩,hd σ H p⟩
noncomputable def qL(σ:List Str)(v:Str):List Str:=if σ.any (· == v)=true then σ else σ++[v]
noncomputable def cE(val:Nat->Str)(i:Nat):List Str:=((waI i).map val).foldl qL []
theorem iM(val:Nat->Str)(i:Nat):cE val (i+1)=qL (cE val i) (val i):=by
 unfold cE;rw[wdx,wal,we1];rfl
theorem wV(val:Nat->Str):∀i,(cE val i).length<=i
 |0=>wab _
 |i+1=>by
  rw[iM];unfold qL;have a:=wV val i;split
  ·lia
  ·grind
theorem Ey(σ:List Str)(v k:Str):(qL σ v).any (· == k)=(σ.any (· == k) ||decide (k=v)):=by
 unfold qL
 by_cases h:σ.any (· == v)=true
 ·rw[if_pos h]
  by_cases e:k=v
  ·subst e;rw[h];simp
  ·simp[e]
 ·rw[if_neg h,List.any_append]
  by_cases e:k=v
  ·subst e;simp
  ·have a:(v==k)=false:=by simpa [beq_iff_eq] using(λb:v=k=>e b.symm)
   simp[a,e]
theorem yh(σ:List Str)(v:Str):(qL σ v).length=if σ.any (· == v) then σ.length else σ.length+1:=by
 unfold qL;split<;>simp
theorem sub_str_set:isSubtype (.type "str") (.type "set")=pure false:=by rw[isSubtype_type];kernel_rfl
theorem sub_str_frozenset:isSubtype (.type "str") (.type "frozenset")=pure false:=by rw[isSubtype_type];kernel_rfl
theorem Li(P:wap)(w:World)(x:Str)(t:Tok):(wbK P w).is x (.str x t)=true:=by simp[wbK,wgr]
section
variable{prog:wap}{w:World}{A:Around}{R:wcN->Shared->Prop}{I:Addr}{fp wr:List Addr}{G:Array wdk->Array wdk->Prop}{n:Nat}{P:Nat->Value->Prop}{St:Nat->Shared->Prop}
theorem zA(l:WalksS prog w A.in1 I fp wr G n P St)(S:Addr)(p:S∉fp)
 (val:Nat->Str) (r:∀i v,P i v->∃t,v=.str (val i) t) (j:n+1<wdL) :
 ∀(k i:Nat) (s:Shared),n-i=k->i<=n->St i s ->
  s.heap.SetOf (wbK prog w) S (λg=>(cE val i).any (· == g)) (cE val i).length ->
  (∀s',Moved (S::wr) G s s'->s'.heap.SetOf (wbK prog w) S (λg=>(cE val n).any (· == g)) (cE val n).length->R (.ok (.ret .none)) s') ->
  codeAny (model prog w) A (.builtin "set.update.loop" ⟨[.ref S,.ref I],[]⟩) R s:=by
 have f:S∉wr:=λh=>p (l.sub _ h);have a:∀b∈wr,b∈S::wr:=λb j=>wac _ j;intro k
 induction k with
 |zero=>
  intro i s hk hi c B C;have D:i=n:=by lia
  subst D;refine wbk wdM ?_;rw[wba wcr _];show wpAny _ A.in1 (pyNext (.ref I) >>= _) _ _ s;refine wa6 (l.done s _ _ c λs' m=>?_);show wpAny _ A.in1 (ret wbz) _ _ s'
  exact wax (C s' (m.mono a) (by
   obtain⟨o,E,H,t,J,rest⟩:=B
   exact⟨o,E,H,t,m.heap S _ f J,rest⟩))
 |succ k Q=>
  intro i s hk hi c B C;have q:i<n:=by lia
  refine wbk wdM ?_;rw[wba wcr _];show wpAny _ A.in1 (pyNext (.ref I) >>= _) _ _ s;refine wa6 (l.item i s _ _ q c λv s' T u m=>?_);obtain⟨t,rfl⟩:=r i v T
  have L:s'.heap.SetOf (wbK prog w) S (λg=>(cE val i).any (· == g)) (cE val i).length:=by
   obtain⟨o,E,H,U,J,rest⟩:=B;exact⟨o,E,H,U,m.heap S _ f J,rest⟩
  show wpAny _ A.in1 (holding [wfE (val i) t] (setAdd S (.str (val i) t)) >>= _) _ _ s';refine wa6 (wbj ?_);unfold setAdd;refine wbj ?_;refine wa6 ((wbK prog w).pyHash (k:=val i) (Li _ _ _ _) ?_);have d:(cE val i).length+1<wdL:=by have:=wV val i;lia
  refine wpAny_setAddHashed_of (knd:=wbK prog w) (s:={s' with toks:=s'.toks+1}) (Li _ _ _ _) rfl L d λV x M=>?_
  have N:V.SetOf (wbK prog w) S (λg=>(cE val (i+1)).any (· == g)) (cE val (i+1)).length:=
   SetOf_congr M (λg=>by rw[iM,Ey]) (by rw[iM,yh])
  refine wax ⟨wbL wcr _,Q (i+1) _ (by lia) q (l.frame _ s' _ _ u (wcb _) λb j o e=>?_) N λO y z=>?_⟩
  ·rw[x.2 b (λh:b=S=>p (by rw[<-h];exact j))];exact e
  ·refine C O (Moved.trans l.gtrans ((m.mono a).then_heap (wcb _) λb o j e=>?_) y) z;rw[x.2 b (λh:b=S=>j (by rw[h];exact wad))];exact e
end
section
variable{prog:wap}{w:World}{A:Around}{E:Value->Shared->Prop}{s:Shared}
noncomputable def eF(x:Str)(i:Nat):Str:=⟨#[x.cps.getD i 0]⟩
set_option maxRecDepth 100000 in
set_option maxHeartbeats 3200000 in
theorem yi{Q:Value->Shared->Prop}
 (hh:A.handled=none) (p:x.cps.size+1<wdL)
 (h:∀(h':Heap) (tk:Nat),h'.SetOf (wbK prog w) s.heap.objs.size (λC=>(cE (eF x) x.cps.size).any (· == C)) (cE (eF x) x.cps.size).length ->
   (∀b o,b<s.heap.objs.size->s.heap.get? b=some o->h'.get? b=some o)->Q (.ref s.heap.objs.size) {s with heap:=h',toks:=tk}) :
 wpAny (model prog w) A (call (.type "set") [.str x I]) Q E s:=by
 obtain⟨c,tl,T⟩:=wbV.mro;have y:=wbV.made;have U:=wbV.sub;refine wd1 (wfK ?_);show wpAny _ _ (callAny (.type "set") _) _ _ _;refine wax ⟨wdN _ (by decide+kernel),wbk wgl ?_⟩;rw[wgO (wg8 "set" [.str x I] []) rfl];have h1:=wbV.notType;have h2:=wbV.canCreate;have Z:=PySem.F.typeCall_set_1 (.str x I)
 repeat (any_goals (first |assumption |wp_step))
 refine wc6 (code_set_new_1 (.str x I) (E:=E) (Q₁:=λobj f=>∃a:Bool,obj=.ref s.heap.objs.size/\f={s with heap:=s.heap.push {cls:=.type "set",dict:=none,data:=.set #[] 0 (.fresh 0 0 a)}}) λa=>⟨a,rfl,rfl⟩) λr f z=>?_
 cases r with
 |error e=>exact z
 |ok fl=>
  cases fl with
  |ret obj=>
   obtain⟨a,rfl,rfl⟩:=z;have V:(s.heap.push {cls:=.type "set",dict:=none,data:=.set #[] 0 (.fresh 0 0 a)}).get? s.heap.objs.size=some {cls:=.type "set",dict:=none,data:=.set #[] 0 (.fresh 0 0 a)}:=waw _ rfl;have hT:whz {s with heap:=s.heap.push {cls:=.type "set",dict:=none,data:=.set #[] 0 (.fresh 0 0 a)}} (.ref s.heap.objs.size) "set":=⟨_,V,rfl⟩;have hli:=wbV.init.lookup;have hbi:=wbV.init.bind (.ref s.heap.objs.size)
   repeat (any_goals (first |assumption |wp_step))
   refine wc6 (wcF (R:=wants (λr g=>r=.none/\∃h' tk,g={s with heap:=h',toks:=tk} /\
    h'.SetOf (wbK prog w) s.heap.objs.size (λC=>(cE (eF x) x.cps.size).any (· == C)) (cE (eF x) x.cps.size).length /\
    (∀b o,b<s.heap.objs.size->s.heap.get? b=some o->h'.get? b=some o)) E) wbV.init.plain PySem.F.entry_set_init (check_set_init_1 hT ?_)) λl g d=>?_
   ·have X:=sub_str_set;have Y:=sub_str_frozenset;have zB:(wek "str" == wek "dict")=false:=by decide
    unfold wdS.«set.__init__» noKeywords whw;generalize B:pyIter=PI
    wp_walk
    subst B;refine wpAny_pyIter_str λo St hW D=>?_;refine wa6 (wpAny_runValue ?_);have G:A.in1.in1.in1.handled=none:=by simp[hh]
    have H:s.heap.objs.size∉[(s.heap.push {cls:=.type "set",dict:=none,data:=.set #[] 0 (.fresh 0 0 a)}).objs.size]:=by
     rw[wbM];simp only[waD,wan,wbu,or_false,not_or];exact wat (wbJ _)
    have m:∀(i:Nat) (v:Value),SignAt x i v->∃t,v=.str (eF x i) t:=λi v hv=>by
     obtain⟨c,u,hc,e⟩:=hv;refine⟨u,?_⟩;rw[e];unfold eF;rw[wcq,hc];rfl
    refine zA ((hW _ G).toS) s.heap.objs.size H (eF x) m p (x.cps.size-0) 0 _ (by lia) (waJ _) D ?J ?hR
    case J=>
     have n:((s.heap.push {cls:=.type "set",dict:=none,data:=.set #[] 0 (.fresh 0 0 a)}).push o).get? s.heap.objs.size
      =some {cls:=.type "set",dict:=none,data:=.set #[] 0 (.fresh 0 0 a)}:=wa9 _ V
     exact SetOf_congr ((setObjOf_fresh (knd:=wbK prog w) a).setOf n (by unfold wdL;lia)) (λ_=>rfl) rfl
    case hR=>
     intro s' q j;obtain⟨h',g',d',L,M⟩:=s';have eg:g'=s.gens:=q.gens;have ed:d'=s.drawn:=q.drawn;have eo:M=s.os:=q.os;subst eg;subst ed;subst eo;show wpAny _ _ _ _ _ _;refine wax ?_;show wpAny _ _ (ret wbz) _ _ _;refine wax ⟨rfl,h',L,rfl,j,λb o' p e=>?_⟩;have N:b≠s.heap.objs.size:=wat p
     have O:b≠(s.heap.push {cls:=.type "set",dict:=none,data:=.set #[] 0 (.fresh 0 0 a)}).objs.size:=by
      rw[wbM];exact wat (we0 p)
     exact q.heap b o' (by simp only[waD,wan,wbu,or_false,not_or];exact⟨N,O⟩) (wa9 _ (wa9 _ e))
   ·cases l with
    |error e=>exact d
    |ok k=>
     cases k with
     |ret r=>
      obtain⟨rfl,h',tk,rfl,j,S⟩:=d
      repeat (any_goals (first |assumption |wp_step))
      exact h _ _ j S
     |_=>exact d.elim
  |_=>exact z.elim
end
section
variable{X:Cx}
noncomputable def JH(P:wap)(w:World)(a:Addr)(n:Nat):HO:=.ext λh=>∃S,h.SetOf (wbK P w) a S n
theorem zC(hc:X.calm=true):dA X (.type "set") (λxs H Q=>∃z,xs=[.str z]/\z.cps.size+1<wdL/\∀p,H p=none->Q (.ref p) (upd H p (JH X.prog X.w p (cE (eF z) z.cps.size).length))):=by
 intro c s σ H xs n Q I r h;obtain⟨z,rfl,f,q⟩:=h;obtain⟨u,rfl,t,rfl⟩:=vals1 r;refine yi (I.ok.hd hc) f λg i d kp=>?_;have a:∀b o,s.heap.get? b=some o->g.get? b=some o:=λb o e=>kp b o (wag e) e;refine⟨.ref s.heap.objs.size,_,I.laid (t':=i) (o:=JH X.prog X.w s.heap.objs.size (cE (eF z) z.cps.size).length) a (wab _) ⟨⟨_,d⟩,?_,?_⟩,rfl,q _ (I.b7.fresh (wab _))⟩
 ·obtain⟨o,_,_,_,e,_⟩:=d;exact⟨o,e⟩
 ·rintro v x ⟨S,o,j,l,m,e,rest⟩ k;exact⟨S,o,j,l,m,k o e,rest⟩
theorem zD:dA X (.builtin "len") (λxs H Q=>∃p n,xs=[.ref p]/\H p=some (JH X.prog X.w p n)/\Q (.int n) H):=by
 intro b s σ H xs g Q I r h;obtain⟨p,n,rfl,c,q⟩:=h;obtain⟨u,rfl,d⟩:=vals1 r;cases d;obtain⟨⟨S,o,i,j,k,e,hex,hd,_,_,f,a,hn⟩,_⟩:=(show bP X.prog X.w H s.heap p (JH X.prog X.w p n) from I.b7 p _ c);refine call_len_set e hex hd a (by grind [wdL]) ⟨.int n,H,I.tok _,⟨s.toks+1,?_⟩,q⟩;rw[hn]
end
section
variable{X:Cx}{pins:List (Addr×Obj)}{σ:St}{H:Hp}{s:Shared}
end
abbrev Pq(X:Cx)(st:Stmt)(t:TS):Prop:=
 ∀(pins:List (Addr×Obj)) (s:Shared) (σ:St) (H:Hp) (D:Ends),Inv X pins σ H s->1<=s.toks->t D σ H->wpAny (model X.prog X.w) X.A (exec st X.env) (SP X pins D) X.xe s
structure Vs(X:Cx)(st:Stmt)(t:TS):Prop where
 go:Pq X st t
instance {X:Cx} {st:Stmt} {t:TS}:CoeFun (Vs X st t) λ_=>Pq X st t:=⟨Vs.go⟩
abbrev Lj(X:Cx)(st:List Stmt)(t:TS):Prop:=
 ∀(pins:List (Addr×Obj)) (s:Shared) (σ:St) (H:Hp) (D:Ends),Inv X pins σ H s->1<=s.toks->t D σ H->wpAny (model X.prog X.w) X.A (execs st X.env) (SP X pins D) X.xe s
structure Pt(X:Cx)(st:List Stmt)(t:TS):Prop where
 go:Lj X st t
instance {X:Cx} {st:List Stmt} {t:TS}:CoeFun (Pt X st t) λ_=>Lj X st t:=⟨Pt.go⟩
section
variable{X:Cx}{st:Stmt}{rest:List Stmt}{t u:TS}{pos:Pos}
end
end L2
namespace Bs
open PySem PySem.Spec PyProof.Rows
noncomputable abbrev ch(x:Str):List Nat:=x.cps.toList
theorem aR(x:Str):(ch x).length=x.length:=by simp[ch,wdm]
theorem cm(h:ch x=ch y):x=y:=by
 obtain⟨a⟩:=x;obtain⟨b⟩:=y;have:a=b:=wfn.mp h;rw[this]
theorem aJ(a b:Str):ch (a++b)=ch a++ch b:=by grind [Str.cps_append,Array.toList_append]
theorem kU(c:Nat):ch ⟨#[c]⟩=[c]:=rfl
theorem pM(h:z.length=0):ch z=[]:=by grind [aR]
theorem o6(x:Str)(l u:Option Int):wby x l u=StrLaws.sliceText x l u:=rfl
theorem zE(x:Str)(j:Nat):ch (wby x none (some (j:Int)))=(ch x).take j:=by
 by_cases h:j<=x.length
 ·grind [o6,wgm,wdm]
 ·have hn:wbH none (some (j:Int)) 1 x.length=wbH none (some ((x.length:Nat):Int)) 1 x.length:=by
   grind [wbH]
  have e:wby x none (some (j:Int))=wby x none (some ((x.length:Nat):Int)):=by
   grind [wby]
  rw[e,o6,wgm ⟨by lia,by simp[wdm]⟩];have a:(ch x).length<=j:=by rw[aR];lia
  rw[wbv a];have b:x.cps.toList.take x.cps.size=x.cps.toList:=wbv (by simp);simp[wdm,b]
theorem tI(x:Str)(i:Nat):ch (wby x (some (i:Int)) none)=(ch x).drop i:=by
 by_cases h:i<=x.length
 ·rw[o6,wfV ⟨by lia,by simp[wdm]at h ⊢;lia⟩];show ((x.cps.toList.drop (i:Int).toNat).take ((x.cps.toList.length:Int)-(i:Int)).toNat).toArray.toList=(ch x).drop i;rw[weE,waA,wbv];rw[wbm]
  lia
 ·have hn:wbH (some (i:Int)) none 1 x.length=wbH (some ((x.length:Nat):Int)) none 1 x.length:=by
   have a:¬((i:Int)<0):=by lia
   have b:¬(((x.length:Nat):Int)<0):=by lia
   have c:max (0:Int) (min (i:Int) (x.length:Int))=max 0 (min ((x.length:Nat):Int) (x.length:Int)):=by lia
   simp[wbH,a,b,c]
  have e:wby x (some (i:Int)) none=wby x (some ((x.length:Nat):Int)) none:=by
   unfold wby;rw[hn]
  rw[e,o6,wfV ⟨by lia,by simp[wdm]⟩];have d:(ch x).length<=i:=by rw[aR];lia
  rw[we2 d];simp[wdm]
theorem pN(g:z.length=0):∀ts:List Str,ch (wdp z ts)=(ts.map ch).flatten:=by
 intro ts;unfold wdp Builtin.Str.glued
 have b:z.cps=#[]:=by
  have:=pM g;exact wfn.mp this
 have key:∀(l:List Str) (a:Array Nat),(l.foldl (λa p=>a++z.cps++p.cps) a).toList=a.toList++(l.map ch).flatten:=by
  intro l
  induction l with
  |nil=>grind
  |cons p l c=>
   grind
 cases ts with
 |nil=>rfl
 |cons p l=>
  show ((List.drop 1 (p::l)).foldl (λa q=>a++z.cps++q.cps) p.cps).toList=_;rw[List.drop_one,List.tail_cons,key];rfl
noncomputable def f5:Str:="abcdefghijklmnopqrstuvwxyz0123456789"
structure zF(x:Str):Prop where
 lo:2<=x.length
 hi:x.length<=4
 nd:(ch x).Nodup
 sub:∀c∈ch x,c∈ch f5
structure Drawn(i:Nat)(JI found:Str):Prop where
 pl:JI.length+i=36
 fl:found.length=i
 pn:(ch JI).Nodup
 fn:(ch found).Nodup
 ps:∀c∈ch JI,c∈ch f5
 fs:∀c∈ch found,c∈ch f5
 ap:∀c∈ch found,c∉ch JI
theorem zG:f5.length=36:=by decide+kernel
structure yj(sg w:Str):Prop where
 lo:1<=w.length
 hi:w.length<=5
 sub:∀c∈ch w,c∈ch sg
theorem Ez(j:z.length=0)(p:1<=ts.length)(r:ts.length<=5)(h:∀t∈ts,∃c,t=⟨#[c]⟩/\c∈ch g):yj g (wdp z ts):=by
 have e:=pN j ts
 have hl:∀(l:List Str),(∀t∈l,∃c,t=⟨#[c]⟩/\c∈ch g)->((l.map ch).flatten).length=l.length/\∀c∈(l.map ch).flatten,c∈ch g:=by
  intro l
  induction l with
  |nil=>intro _;exact⟨rfl,λc h=>by cases h⟩
  |cons t l b=>
   intro a;obtain⟨c,rfl,hc⟩:=a t (wad ..);obtain⟨d,f⟩:=b λt h=>a t (wac _ h);refine⟨by rw[wao,wbZ,wa7,d,waF];exact wgL 1 _,λk hk=>?_⟩;rw[wao,wbZ]at hk;rcases waC.mp hk with h |h
   ·have:k=c:=by simpa [ch] using h
    subst this;exact hc
   ·exact f k h
 obtain⟨l1,i⟩:=hl ts h;have m:(wdp z ts).length=ts.length:=by rw[<-aR,e,l1]
 exact⟨by lia,by lia,λc hc=>i c (e ▸ hc)⟩
noncomputable def Mx(y x:Str):Bool:=!(wcQ x y 0 x.length 1).isEmpty
theorem DC(x:Str)(c:Nat):Mx ⟨#[c]⟩ x=decide (c∈ch x):=StrLaws.found_one x c
noncomputable def bears(ws:List Str)(r:Str):Bool:=ws.any λw=>Mx w r
noncomputable def bG(w:Str)(n:Nat):Str:=wby w none (some (n:Int))
theorem EA(w:Str)(n:Nat):(bG w n).length<=w.length:=wdK _ _ _
noncomputable def yk(ks:List Str)(b:Str):List Str:=if b∈ks then ks else ks++[b]
noncomputable def pO(ws:List Str)(ks:List Str)(b:Str):List Str:=if bears ws b=true then ks else yk ks b
theorem GD(ws g:List Str)(b:Str):(pO ws g b).length<=g.length+1:=by
 unfold pO yk;split
 ·lia
 ·split
  ·lia
  ·simp
noncomputable def upTo(ws:List Str)(w:Str)(ks:List Str)(n:Nat):List Str:=((waI n).map λi=>bG w (1+i)).foldl (pO ws) ks
theorem fL(ws:List Str)(w:Str)(g:List Str)(n:Nat):upTo ws w g (n+1)=pO ws (upTo ws w g n) (bG w (1+n)):=by
 unfold upTo;rw[wdx,wal,we1];rfl
theorem tJ(ws:List Str)(w:Str)(g:List Str):∀n,(upTo ws w g n).length<=g.length+n
 |0=>wab _
 |n+1=>by
  rw[fL];have:=tJ ws w g n;have:=GD ws (upTo ws w g n) (bG w (1+n))
  lia
noncomputable def addW(ws:List Str)(ks:List Str)(w:Str):List Str:=upTo ws w ks (w.length-1)
noncomputable def bo(ws:List Str)(e:Str)(us:List Str):List Str:=us.foldl (addW ws) [e]
theorem BE(ws:List Str)(e:Str)(us:List Str)(w:Str):bo ws e (us++[w])=addW ws (bo ws e us) w:=by
 unfold bo;rw[we1];rfl
theorem mq(h:∀w∈us,w.length<=5):(bo ws e us).length<=1+4*us.length:=by
 have key:∀(us a:List Str),(∀w∈us,w.length<=5)->(us.foldl (addW ws) a).length<=a.length+4*us.length:=by
  intro us
  induction us with
  |nil=>grind
  |cons w us b=>
   grind [addW,wac,tJ]
 exact key us [e] h
theorem BF(h:g.Nodup):(yk g b).Nodup:=by
 unfold yk;split
 ·exact h
 ·rename_i d;refine wf3.mpr ⟨h,by simp,λa ha c hc=>?_⟩;have:c=b:=by simpa using hc
  subst this;rintro rfl;exact d ha
theorem BG(h:g.Nodup):(pO ws g b).Nodup:=by
 unfold pO;split
 ·exact h
 ·exact BF h
theorem tK(h:g.Nodup):∀n,(upTo ws w g n).Nodup
 |0=>h
 |n+1=>by rw[fL];exact BG (tK h n)
theorem qM(us:List Str):(bo ws e us).Nodup:=by
 have key:∀(us a:List Str),a.Nodup->(us.foldl (addW ws) a).Nodup:=by
  intro us
  induction us with
  |nil=>intro a h;exact h
  |cons w us b=>intro a h;exact b _ (tK h _)
 exact key us [e] (by simp)
theorem GF(h:k∈g):k∈pO ws g b:=by grind [pO,yk,wb0]
theorem mem_upTo(h:k∈g):∀n,k∈upTo ws w g n
 |0=>h
 |n+1=>by rw[fL];exact GF (mem_upTo h n)
theorem bb(us:List Str):e∈bo ws e us:=by
 have key:∀(us a:List Str),e∈a->e∈us.foldl (addW ws) a:=by
  intro us
  induction us with
  |nil=>intro a h;exact h
  |cons w us b=>intro a h;exact b _ (mem_upTo h _)
 exact key us [e] (by simp)
end Bs
namespace L2
open PySem PySem.Spec PyProof.Rows
noncomputable def nj(sc scope:wcZ)(N:List Str)(x:Str)(ys:List Str)(ix:List Nat):Bool:=
 (match scope.kind with |.function=>true |_=>false) &&
 (scope.names.all λy=>!decide (y.2=.cell))&&(scope.names.all λy=>!decide (y.2=.local) ||decide (scope.names.lookup y.1=some .local)) &&
 (scope.names.all λy=>!decide (y.2=.free) ||decide (sc.names.lookup y.1=some .cell) ||decide (sc.names.lookup y.1=some .free)) &&
 decide (scope.names.lookup x=some .local)&&decide ((x::ys).Nodup)&&decide (ix.length=ys.length) &&
 ((waI ys.length).all λj=>match ys[j]?,ix[j]? with
   |some y,some i=>decide (N[i]?=some y)&&(decide (sc.names.lookup y=some .cell) ||decide (sc.names.lookup y=some .free))&&decide (scope.names.lookup y=some .free)
   |_,_=>false)
theorem BH{X:Cx}(g:X.env.scope=l)(r:X.N=N)(h:nj l scope N x ys p=true):bJ X scope x ys p:=by
 unfold nj at h;simp only[wc9]at h;obtain⟨⟨⟨⟨⟨⟨⟨b,d⟩,f⟩,k⟩,m⟩,n⟩,o⟩,s⟩:=h;refine⟨?_,λy a=>?_,λy a e=>?_,of_decide_eq_true m,λy a e=>?_,of_decide_eq_true n,of_decide_eq_true o,λj y c=>?_⟩
 ·cases e:scope.kind<;>rw[e]at b<;>first |rfl |cases b
 ·have:=waR.mp d y a;simpa using this
 ·have:=waR.mp f y a;simpa [e] using this
 ·have:=waR.mp k y a;have q:l.names.lookup y.1=some .cell\/l.names.lookup y.1=some .free:=by simpa [e] using this
  show X.env.scope.names.lookup y.1=some .cell\/X.env.scope.names.lookup y.1=some .free;rw[g];exact q
 ·have hl:j<ys.length:=(wa5.mp c).1;have:=waR.mp s j (wb3.mpr hl);rw[c]at this
  cases e:p[j]? with
  |none=>rw[e]at this;cases this
  |some i=>
   rw[e]at this;simp only[wc9,Bool.or_eq_true,decide_eq_true_eq]at this;exact⟨i,rfl,by rw[r];exact this.1.1,by rw[g];exact this.1.2,this.2⟩
theorem comp_map{Ok:Hp->Prop}{Q:Hp->Prop}(g:V->V)(I:mD J Ok xs)(hl:H l=none)(T:xs.length<=sizeLine)(t:∀j,a7 H j->Ok j)
 (he:∀x p r,x∈xs->a7 H p->(∀j,a7 p j->r (g x) j)->U (some x::C) p r)
 (hd:∀j,a7 H j->j l=some (.lst (xs.map g))->Q j):mH J l C vJ U H Q:=
 df (λ_=>true) g I hl T t (λx p r _ _ q=>q p (a7.refl _)) (λx p r a _ s q=>he x p r a s q) (λj s h=>hd j s (by rw[h,wb6.mpr (λ_ _=>rfl)]))
structure FnAt(K:wa2)(mg:Str->Option Value)(nm:Str)(st:Stmt)(ps:List Str)(f:Addr)(fd:waT):Prop where
 F:zy K nm nm st f fd
 b:Binds K fd ps []
 g:mg nm=some (.ref f)
theorem ig{X:Cx}{K:wa2}(g:X.K=K):kI X (wb4 .In) (Rl K false):=by
 subst g;exact pL
theorem vK{X:Cx}{K:wa2}(g:X.K=K):kI X (wb4 .NotIn) (Rl K true):=by
 subst g;exact jD
theorem gq{X:Cx}{K:wa2}(g:X.K=K):O0 X (P0 K):=by
 subst g;exact aW
theorem vL{X:Cx}{K:wa2}(g:X.K=K):dA X (.builtin "len") (λxs H Q=>∃p ys,xs=[.ref p]/\(aE K H p ys\/hZ K H p ys)/\Q (.int ys.length) H):=by
 subst g;exact nZ
theorem DE{X:Cx}{K:wa2}{o:Expr}{t:TE}{name:Str}{apos g:Pos}{T id:String}{r:V->List V->Hp->VK->Prop}(C:X.K=K)(I:wgk T)(slot:Slot T name id)(p:typeOf (.builtin id)=pure (.type "method_descriptor"))(J:Jy X id r)(U:PE X o t)
 (j:wcy o name X.env (eval o X.env)=eval o X.env:=by rfl) (l:(apos.endLine==g.line)=true:=by rfl):PE X (.Call (.Attribute o name apos) [] [] g) (P6 K T r t):=by
 subst C;exact Gn I slot p J U j l
theorem mr{X:Cx}{K:wa2}{e:Expr}{f:Str}{pos:Pos}{g:TE}(j:X.K=K)(he:PE X e g)(l:wcy e f X.env (eval e X.env)=eval e X.env):PE X (.Attribute e f pos) (OU K g f):=by
 subst j;exact aM he l
theorem GH{c A B:Prop}[Decidable c](h:¬c)(b:B):if c then A else B:=by
 grind
theorem SN{c A B:Prop}[Decidable c](h:c)(a:A):if c then A else B:=by
 grind
theorem aq(h:n<=1000000):n<=sizeLine:=wai h (by rw[wc5];decide)
theorem jb(y:Str)(ps:List Str):nY (.str y) (ps.map V.str)=decide (y∈ps):=by
 unfold nY;rw[wes]
 induction ps with
 |nil=>rfl
 |cons p ps a=>
  rw[wcU,a];show ((p==y) ||decide (y∈ps))=decide (y∈p::ps)
  by_cases e:p=y
  ·subst e;simp
  ·grind
theorem eN(ps:List Str):(ps.map V.str).all et=true:=by
 rw[wfm];exact waR.mpr λ_ _=>rfl
noncomputable def Pu(r:Str):V->V:=λv=>match v with
 |.str y=>.bl (Bs.Mx y r)
 |_=>.non
theorem zH(r:Str)(ws:List Str):(ws.map V.str).map (Pu r)=(ws.map λw=>Bs.Mx w r).map V.bl:=by
 rw[waf,waf];rfl
theorem EB(a b:Str):(cu a).map (Pu b)=((Bs.ch a).map λc=>decide (c∈Bs.ch b)).map V.bl:=by
 unfold cu;rw[waf,waf];refine waY λc _=>?_;show V.bl (Bs.Mx ⟨#[c]⟩ b)=V.bl (decide (c∈Bs.ch b));rw[Bs.DC]
noncomputable def kg(ks:List Str):List (Key×V):=ks.map λk=>((wav k:Key),V.bl true)
theorem BI(g:List Str):(kg g).map (·.1)=g.map (wav:Str->Key):=by
 unfold kg;rw[waf];rfl
theorem EC(g:List Str)(b:Str):putK (kg g) (wav b:Key) (.bl true)=kg (Bs.yk g b):=by
 unfold putK Bs.yk
 by_cases h:b∈g
 ·have a:((kg g).any λc=>decide (c.1=(wav b:Key)))=true:=by
   refine wco.mpr ⟨(wav b,.bl true),?_,decide_eq_true rfl⟩;exact waa.mpr ⟨b,h,rfl⟩
  rw[if_pos a,if_pos h];unfold kg;rw[waf];refine waY λk _=>?_;show (if (wav k:Key)=wav b then((wav k:Key),V.bl true) else((wav k:Key),V.bl true))=_;split<;>rfl
 ·have a:¬((kg g).any λc=>decide (c.1=(wav b:Key)))=true:=by
   intro z;obtain⟨p,d,e⟩:=wco.mp z;obtain⟨k,hk,rfl⟩:=waa.mp d;have:(wav k:Key)=wav b:=of_decide_eq_true e;have:k=b:=wda this;subst this;exact h hk
  rw[if_neg a,if_neg h];unfold kg;rw[wal];rfl
theorem ED(g:List Str):(kg g).length=g.length:=by unfold kg;rw[wa0]
theorem o7(h:(Bs.ch x).Nodup):∀i,i<=x.cps.size->cE (eF x) i=(waI i).map (eF x)
 |0,_=>rfl
 |i+1,hi=>by
  have c:=o7 h i (by omega);rw[iM,c,wdx,wal];unfold qL;rw[if_neg]
  ·rfl
  ·intro z;obtain⟨y,d,e⟩:=wco.mp z;obtain⟨j,f,rfl⟩:=waa.mp d;have l:j<i:=wb3.mp f;have a:eF x j=eF x i:=eq_of_beq e;unfold eF at a
   have b:x.cps.getD j 0=x.cps.getD i 0:=by
    injection a with m
    have:=congrArg Array.toList m;simpa using this
   have g:∀k,(hk:k<x.cps.size)->x.cps.getD k 0=(Bs.ch x)[k]'(by simpa using hk):=λk hk=>by
    simp[Array.getD,hk]
   rw[g j (by omega),g i (by omega)]at b;have:=(wbI h).mp b;omega
theorem zI(h:(Bs.ch x).Nodup):(cE (eF x) x.cps.size).length=x.length:=by
 rw[o7 h _ (wab _),wa0,waO];rfl
section
variable{X:Cx}
end
theorem GI{κ:Type}(f:κ->V)(g:κ->Str)(j:∀a b,g a=g b->f a=f b):∀{l:List κ} {c:κ},c∈l->cQ (l.map λc=>((wav (g c):Key),f c)) (wav (g c):Key)=some (f c):=by intro a;induction a<;>grind [eX,eY,wda]
end L2
namespace L2
open PySem
structure dP(K:wa2)(C:Addr)(nm qual:Str)(st:Stmt)(ps:List Str)(f:Addr)(fd:waT):Prop where
 F:zy K nm qual st f fd
 b:Binds K fd ps []
 m:Jr K C nm f
end L2
namespace Sx
open PySem L2 Bs
theorem Pw:waQ "all"=some (.builtin "all"):=by decide+kernel
theorem My:waQ "any"=some (.builtin "any"):=by decide+kernel
theorem JK:waQ "sorted"=some (.builtin "sorted"):=by decide+kernel
theorem vM:waQ "isinstance"=some (.builtin "isinstance"):=by decide+kernel
theorem GJ:waQ "str"=some (.type "str"):=by decide+kernel
theorem iN:waQ "list"=some (.type "list"):=by decide+kernel
theorem SQ:waQ "set"=some (.type "set"):=by decide+kernel
section
variable{P:wap}{w:World}{K:wa2}{mg:Str->Option Value}{base:Heap}{f:Addr}{fd:waT}
inductive JL(vs:List V)(H:Hp)(Q:VK)(dQ:XK):Prop
 |mk (a b) (_:vs=[.str a,.str b]) (_:a.length<=1000) (_:∀H',a7 H H'->Q (.bl ((ch a).all λc=>decide (c∈ch b))) H')
inductive JM(K:wa2)(vs:List V)(H:Hp)(Q:VK)(dQ:XK):Prop
 |mk (r a ws) (_:vs=[.str r,.ref a]) (_:aE K H a (ws.map V.str)) (_:ws.length<=1000) (_:∀H',a7 H H'->Q (.bl (bears ws r)) H')
end
section
variable{P:wap}{w:World}{K:wa2}{mg:Str->Option Value}{base:Heap}{f:Addr}{fd:waT}
inductive Px(vs:List V)(H:Hp)(Q:VK)(dQ:XK):Prop
 |mk (x) (_:vs=[.str x]) (_:zF x) (_:∀H',a7 H H'->Q (.bl true) H')
inductive Py(vs:List V)(H:Hp)(Q:VK)(dQ:XK):Prop
 |mk (t g) (_:vs=[.str t,.str g]) (_:yj g t) (_:∀H',a7 H H'->Q (.bl true) H')
inductive JN(K:wa2)(vs:List V)(H:Hp)(Q:VK)(dQ:XK):Prop
 |mk (a:Addr) (g:Str) (ws:List Str) (_:vs=[.ref a,.str g]) (_:aE K H a (ws.map V.str)) (_:ws.length<=6) (_:(∀w∈ws,yj g w)) (_:∀H',a7 H H'->Q .non H')
end
end Sx
namespace Bs
open PySem
noncomputable def bW(r:Str)(n:Nat):Str:=wby r (some (n:Int)) none
theorem mw(r:Str):bW r r.length="":=by
 refine cm ?_;show ch (wby r (some (r.length:Int)) none)=[];rw[tI];exact we2 (wdF (aR r))
noncomputable def GK(ps:List Str)(r:Str):Nat:=((waI (r.length+1)).find? λn=>decide (bW r n∈ps)).getD 0
noncomputable def lend(ps:List Str)(r:Str):Str:=bW r (GK ps r)
theorem tL(g:bW r n∈ps)(j:∀m,m<n->bW r m∉ps)(l:n<=r.length):GK ps r=n:=by
 unfold GK
 have e:(waI (r.length+1)).find? (λn=>decide (bW r n∈ps))=some n:=by
  grind [List.find?_range_eq_some]
 rw[e];rfl
end Bs
namespace L2
open PySem Bs
noncomputable def pG(ws ps:List Str)(p:Str)(c:Nat):V:=if bears ws (p++⟨#[c]⟩)=true then .non else .str (lend ps (p++⟨#[c]⟩))
noncomputable def rowOf(g:Str)(ws ps:List Str)(p:Str):List (Key×V):=(ch g).map λc=>((wav (⟨#[c]⟩:Str):Key),pG ws ps p c)
theorem EE(g:Str)(ws ps:List Str)(p:Str):(rowOf g ws ps p).length=g.length:=by unfold rowOf;rw[wa0,aR]
theorem BJ(g:Str)(ws ps:List Str)(p:Str):((rowOf g ws ps p).map (·.2)).all et=true:=by
 unfold rowOf;rw[waf];refine waR.mpr λv a=>?_;obtain⟨c,_,rfl⟩:=waa.mp a;show et (pG ws ps p c)=true;unfold pG;split<;>rfl
end L2
namespace Sx
open PySem L2 Bs
section
variable{P:wap}{w:World}{K:wa2}{mg:Str->Option Value}{base:Heap}{f:Addr}{fd:waT}
inductive GL(K:wa2)(vs:List V)(H:Hp)(Q:VK)(dQ:XK):Prop
 |mk (a ws) (_:vs=[.ref a]) (_:aE K H a (ws.map V.str)) (_:ws.length<=6) (_:(∀w∈ws,w.length<=5)) (_:∀(l:Addr) (ss:List Str) (H':Hp),a7 H H'->H l=none->H' l=some (.lst (ss.map V.str))->ss.Perm (bo ws "" ws)->wfw ss=true->Q (.ref l) H')
inductive Mz(K:wa2)(vs:List V)(H:Hp)(Q:VK)(dQ:XK):Prop
 |mk (r a ps) (_:vs=[.str r,.ref a]) (_:aE K H a (ps.map V.str)) (_:("":Str)∈ps) (_:r.length<=1000) (_:∀H',a7 H H'->Q (.str (lend ps r)) H')
inductive JO(K:wa2)(vs:List V)(H:Hp)(Q:VK)(dQ:XK):Prop
 |mk (p g a b ws ps) (_:vs=[.str p,.str g,.ref a,.ref b]) (_:aE K H a (ws.map V.str)) (_:aE K H b (ps.map V.str)) (_:("":Str)∈ps) (_:p.length<=100) (_:g.length<=10) (_:(ch g).Nodup) (_:ws.length<=1000) (_:∀(d:Addr) (H':Hp),a7 H H'->H d=none->H' d=some (.dK (rowOf g ws ps p))->Q (.ref d) H')
end
end Sx
namespace L2
open PySem Bs
noncomputable def kW(es:List (Key×V))(MA:List Str):Bool:=(es.map (·.2)).any λe=>nY e (MA.map V.str)
theorem GN{e:V}{a b:List Str}(h:∀k∈a,k∈b)(q:nY e (a.map V.str)=true):nY e (b.map V.str)=true:=by grind [nY]
theorem BK{g:List (Key×V)}{a b:List Str}(h:∀k∈a,k∈b)(q:kW g a=true):kW g b=true:=by
 unfold kW at q ⊢;obtain⟨y,c,d⟩:=wco.mp q;exact wco.mpr ⟨y,c,GN h d⟩
structure Pz(ks:List Str)(es:Str->List (Key×V))(ls:List Str):Prop where
 sub:ls.Sublist ks
 BL:∀k∈ls,kW (es k) ls=true
 most:∀MA:List Str,(∀k∈MA,k∈ks/\kW (es k) MA=true)->∀k∈MA,k∈ls
theorem wW:∀(a b:List Str),tF (a.map V.str) (b.map V.str)=decide (a=b)
 |[],[]=>rfl
 |[],_::_=>rfl
 |_::_,[]=>rfl
 |x::c,y::d=>by
  show ((x==y)&&tF (c.map V.str) (d.map V.str))=_;rw[wW c d]
  by_cases e:x=y
  ·grind
  ·grind
noncomputable def bT(mv:List (Str×Addr)):List (Key×V):=mv.map λm=>((wav m.1:Key),V.ref m.2)
theorem ik(mv:List (Str×Addr)):((bT mv).map λg=>kV g.1)=(mv.map (·.1)).map V.str:=by
 unfold bT;rw[waf,waf];rfl
theorem i3(h:k∈mv.map (·.1)):∃a,(k,a)∈mv/\cQ (bT mv) (wav k:Key)=some (.ref a):=by
 induction mv with
 |nil=>simp at h
 |cons m mv b=>
  grind [eX,bT,eY]
theorem nk(h:k∉mv.map (·.1)):cQ (bT mv) (wav k:Key)=none:=by
 cases q:cQ (bT mv) (wav k:Key) with
 |none=>rfl
 |some v=>
  have:=yc q;unfold bT at this;rw[waf]at this;obtain⟨m,a,e⟩:=waa.mp this;have b:m.1=k:=wda e;exact absurd (waa.mpr ⟨m,a,b⟩) h
end L2
namespace Sx
open PySem L2 Bs
section
variable{P:wap}{w:World}{K:wa2}{mg:Str->Option Value}{base:Heap}{f:Addr}{fd:waT}
noncomputable def PB(ls:List V):V->V:=λv=>.bl (nY v ls)
inductive JP(K:wa2)(vs:List V)(H:Hp)(Q:VK)(dQ:XK):Prop
 |mk (a b es ls) (_:vs=[.ref a,.ref b]) (_:aE K H a es) (_:aE K H b ls) (_:es.all et=true) (_:ls.all et=true) (_:es.length<=1000) (_:∀H',a7 H H'->Q (.bl (es.any λe=>nY e ls)) H')
inductive MB(K:wa2)(vs:List V)(H:Hp)(Q:VK)(dQ:XK):Prop
 |mk (d mv es) (_:vs=[.ref d]) (_:H d=some (.dK (bT mv))) (_:mv.length<=1000) (_:(∀m∈mv,H m.2=some (.dK (es m.1)))) (_:(∀k,((es k).map (·.2)).all et=true)) (_:(∀k,(es k).length<=1000)) (_:∀(l:Addr) (ls:List Str) (H':Hp),a7 H H'->H l=none->H' l=some (.lst (ls.map V.str))->Pz (mv.map (·.1)) es ls->Q (.ref l) H')
end
noncomputable def BM(g:Str)(b d q:Addr):List (Str×V):=[("signs",.str g),("barred",.ref b),("moves",.ref d),("lasting",.ref q)]
noncomputable def Ro(g:Str):List (Str×V):=[("signs",.str g)]
noncomputable def O3(g:Str)(b:Addr):List (Str×V):=[("signs",.str g),("barred",.ref b)]
noncomputable def MC(g:Str)(b d:Addr):List (Str×V):=[("signs",.str g),("barred",.ref b),("moves",.ref d)]
theorem MD(g:Str):cz "signs" (.str g) []=Ro g:=rfl
theorem put2(g:Str)(b:Addr):cz "barred" (.ref b) (Ro g)=O3 g b:=by
 show (if ("signs":Str)="barred" then(("signs":Str),V.ref b)::[] else(("signs":Str),V.str g)::cz "barred" (.ref b) [])=_;rw[if_neg (by decide+kernel)];rfl
theorem put3(g:Str)(b d:Addr):cz "moves" (.ref d) (O3 g b)=MC g b d:=by
 show (if ("signs":Str)="moves" then(("signs":Str),V.ref d)::[(("barred":Str),V.ref b)] else(("signs":Str),V.str g)::(if ("barred":Str)="moves" then(("barred":Str),V.ref d)::[] else(("barred":Str),V.ref b)::cz "moves" (.ref d) []))=_;rw[if_neg (by decide+kernel),if_neg (by decide+kernel)];rfl
theorem EF(g:Str)(b d q:Addr):cz "lasting" (.ref q) (MC g b d)=BM g b d q:=by
 show (if ("signs":Str)="lasting" then(("signs":Str),V.ref q)::[(("barred":Str),V.ref b),(("moves":Str),V.ref d)] else(("signs":Str),V.str g)::(if ("barred":Str)="lasting" then(("barred":Str),V.ref q)::[(("moves":Str),V.ref d)] else(("barred":Str),V.ref b)::(if ("moves":Str)="lasting" then(("moves":Str),V.ref q)::[] else(("moves":Str),V.ref d)::cz "lasting" (.ref q) [])))=_;rw[if_neg (by decide+kernel),if_neg (by decide+kernel),if_neg (by decide+kernel)];rfl
theorem kX(g:Str)(b d:Addr):(MC g b d).lookup ("moves":Str)=some (.ref d):=by
 rw[<-put3,aC,if_pos rfl]
theorem jF(g:Str)(b d q:Addr):(BM g b d q).lookup ("moves":Str)=some (.ref d):=by
 rw[<-EF,aC,if_neg (by decide+kernel)];exact kX g b d
structure aS(C:Addr)(H:Hp)(x:Addr)(g:Str)(ws ss ls:List Str):Prop where
 ex:∃(dx b d q:Addr) (mv:List (Str×Addr)),H x=some (.ins C dx (BM g b d q))/\H b=some (.lst (ws.map V.str))/\H d=some (.dK (bT mv))/\mv.map (·.1)=ss/\(∀m∈mv,H m.2=some (.dK (rowOf g ws ss m.1)))/\H q=some (.lst (ls.map V.str))
 pm:ss.Perm (bo ws "" ws)
 so:wfw ss=true
 lv:Pz ss (rowOf g ws ss) ls
theorem aS.same(B:aS C H x g ws ss ls)(s:a7 H j):aS C j x g ws ss ls:=by
 obtain⟨⟨a,b,d,q,c,e,f,h,i,k,n⟩,p,o,l⟩:=B;exact⟨⟨a,b,d,q,c,s _ _ e,s _ _ f,s _ _ h,i,λm r=>s _ _ (k m r),s _ _ n⟩,p,o,l⟩
section
variable{P:wap}{w:World}{K:wa2}{mg:Str->Option Value}{base:Heap}{f:Addr}{fd:waT}
inductive ME(K:wa2)(C:Addr)(vs:List V)(H:Hp)(Q:VK)(dQ:XK):Prop
 |mk (x dx g a ws) (_:vs=[.ref x,.str g,.ref a]) (_:H x=some (.ins C dx [])) (_:aE K H a (ws.map V.str)) (_:zF g) (_:ws.length<=6) (_:(∀w∈ws,yj g w)) (_:∀(ss ls:List Str) (H':Hp),aS C H' x g ws ss ls->(∀b o,H b=some o->b≠x->H' b=some o)->Q .non H')
theorem EG(hw:∀w∈ws,w.length<=5):∀k∈bo ws "" ws,k.length<=5:=by
 have h1:∀(w:Str),w.length<=5->∀(n:Nat) (ks:List Str),(∀k∈ks,k.length<=5)->∀k∈upTo ws w ks n,k.length<=5:=by
  intro w BO n
  induction n with
  |zero=>intro ks h;exact h
  |succ n ih=>
   intro ks h k hk;rw[fL]at hk;unfold pO yk at hk;split at hk
   ·exact ih ks h k hk
   ·split at hk
    ·exact ih ks h k hk
    ·rcases waC.mp hk with z |z
     ·exact ih ks h k z
     ·have:k=bG w (1+n):=by simpa using z
      rw[this];exact wai (EA _ _) BO
 have h2:∀(us ks:List Str),(∀w∈us,w.length<=5)->(∀k∈ks,k.length<=5)->∀k∈us.foldl (addW ws) ks,k.length<=5:=by
  intro us
  induction us with
  |nil=>intro ks _ h;exact h
  |cons w us ih=>intro ks hu h;exact ih _ (λv hv=>hu v (wac _ hv)) (h1 w (hu w (wad ..)) _ ks h)
 exact h2 ws [""] hw (λk hk=>by have:k="":=by simpa using hk
                                subst this
                                decide+kernel)
inductive GO(C:Addr)(vs:List V)(H:Hp)(Q:VK)(dQ:XK):Prop
 |mk (x g ws ss ls) (_:vs=[.ref x]) (_:aS C H x g ws ss ls) (_:∀(l:Addr) (H':Hp),a7 H H'->H l=none->H' l=some (.lst (ss.map V.str))->Q (.ref l) H')
end
section
variable{P:wap}{w:World}{K:wa2}{mg:Str->Option Value}{base:Heap}{f:Addr}{fd:waT}
end
end Sx
namespace L2
open PySem PySem.Spec PyProof.Rows
theorem GP{Ok:Hp->Prop}{Q:Hp->Prop}(R:V->Prop)(r:mD J Ok xs)(hl:H l=none)(C:xs.length<=sizeLine)(j:∀g,a7 H g->Ok g)
 (he:∀x p I,x∈xs->a7 H p->(∀y g,R y->a7 p g->I y g)->T (some x::t) p I)
 (hd:∀ys g,a7 H g->ys.length=xs.length->(∀y∈ys,R y)->g l=some (.lst ys)->Q g):mH J l t vJ T H Q:=by
 refine⟨λi m ys a=>m=xs.length-i/\i<=xs.length/\a7 H a/\a l=some (.lst ys)/\ys.length=i/\∀y∈ys,R y,⟨xs.length,by simp,waJ _,a7.upd hl,a6,rfl,λy f=>(nomatch f)⟩,?_⟩;rintro i m ys a ⟨rfl,hi,d,h,k,n⟩;refine⟨h,?_⟩
 by_cases c:i<xs.length
 ·refine .inr ⟨r.go i a (j _ d) c,by lia,λx p y=>?_⟩;obtain⟨e,u⟩:=r.sX i a x p (j _ d) c y;subst e;unfold vJ;dsimp only;rw[if_pos rfl];refine he x _ _ (wa8 u) d λz v C s=>?_;refine⟨s _ _ h,xs.length-(i+1),by lia,rfl,c,?_,a6,by simp[k],λy f=>?_⟩
  ·intro b o e;rw[ae (af e hl)];exact s _ _ (d _ _ e)
  ·rcases waC.mp f with q |q
   ·exact n y q
   ·have:y=z:=by simpa using q
    subst this;exact C
 ·have e:i=xs.length:=by lia
  subst e;exact .inl ⟨r.stop a (j _ d),hd ys a d k n h⟩
theorem DF{R:Str->Prop}:∀{ys:List V},(∀y∈ys,∃t,y=.str t/\R t)->∃ts:List Str,ys=ts.map V.str/\∀t∈ts,R t
 |[],_=>⟨[],rfl,λ_ h=>nomatch h⟩
 |y::ys,h=>by
  obtain⟨t,rfl,c⟩:=h y (wad ..);obtain⟨ts,rfl,a⟩:=DF (R:=R) (ys:=ys) λy d=>h y (wac _ d);refine⟨t::ts,rfl,λu b=>?_⟩;rcases waD.mp b with rfl |b
  ·exact c
  ·exact a u b
end L2
namespace Sx
open PySem L2 Bs
section
variable{P:wap}{w:World}{K:wa2}{mg:Str->Option Value}{base:Heap}{f:Addr}{fd:waT}
end
end Sx
namespace L2
open PySem Bs
noncomputable def roundF(ss:List Str)(es:Str->List (Key×V))(MA:List Str):List Str:=ss.filter λp=>kW (es p) MA
noncomputable def rounds(ss:List Str)(es:Str->List (Key×V)):Nat->List Str
 |0=>ss
 |n+1=>roundF ss es (rounds ss es n)
theorem DG(h:c∈ch g):cQ (rowOf g ws ps p) (wav (⟨#[c]⟩:Str):Key)=some (pG ws ps p c):=
 GI (pG ws ps p) (λc=>(⟨#[c]⟩:Str)) (λa b e=>by
  grind) h
end L2
namespace Sx
open PySem L2 Bs
theorem wX(g:Str)(b d q:Addr):(BM g b d q).lookup ("lasting":Str)=some (.ref q):=by
 rw[<-EF,aC,if_pos rfl]
theorem BP(g:Str)(b d q:Addr){m:Str}(j:¬m="signs")(l:¬m="barred")(p:¬m="moves")(r:¬m="lasting"):(BM g b d q).lookup m=none:=by
 rw[<-EF,aC,if_neg r,<-put3,aC,if_neg p,<-put2,aC,if_neg l,<-MD,aC,if_neg j];rfl
theorem aS.nd(B:aS C H x g ws ss ls):ss.Nodup:=B.pm.nodup_iff.mpr (qM ws)
section
variable{P:wap}{w:World}{K:wa2}{mg:Str->Option Value}{base:Heap}{f:Addr}{fd:waT}
inductive JQ(C:Addr)(vs:List V)(H:Hp)(Q:VK)(dQ:XK):Prop
 |mk (x g ws ss ls) (_:vs=[.ref x]) (_:aS C H x g ws ss ls) (_:∀(l:Addr) (H':Hp),a7 H H'->H l=none->H' l=some (.lst (ls.map V.str))->Q (.ref l) H')
inductive SR(C:Addr)(vs:List V)(H:Hp)(Q:VK)(dQ:XK):Prop
 |mk (x p g ws ss ls) (_:vs=[.ref x,.str p]) (_:aS C H x g ws ss ls) (_:p∈ss) (_:Q .non H)
inductive PD(C:Addr)(vs:List V)(H:Hp)(Q:VK)(dQ:XK):Prop
 |mk (x p c g ws ss ls) (_:vs=[.ref x,.str p,.str ⟨#[c]⟩]) (_:aS C H x g ws ss ls) (_:p∈ss) (_:c∈ch g) (_:Q (pG ws ss p c) H)
end
structure Raw(K:wa2)(nm qual:Str)(st:Stmt)(f:Addr):Prop where
 ex:∃(oc:Value) (od:Option Addr) (kV doc pm:Value) (an:Option Addr) (gX ct:Value) (Gw:Array (Option Value)),
  K.lookup f=some ⟨oc,od,.func (wcf nm qual (cV st) (bM st) (aD st) .none kV doc pm an gX ct),Gw⟩/\wdU K gX qual=true
 kp:wcK K (.ref f)=true
theorem BQ{K:wa2}{nm g:Str}{st:Stmt}{f:Addr}{t:Value}{C I:Option Addr}{p:Array (Option Value)}{kV r pm j ct:Value}(l:K.lookup f=some ⟨t,C,.func (wcf nm g (cV st) (bM st) (aD st) .none kV r pm I j ct),p⟩)
 (c:wdU K j g=true) (k:wcK K (.ref f)=true):Raw K nm g st f:=⟨⟨t,C,kV,r,pm,I,j,ct,p,l,c⟩,k⟩
theorem Raw.fn(R:Raw K nm g st f)
 (h:∀(kV j pm:Value) (r:Option Addr) (p ct:Value) (us:List Value),us.length=ps.length->bindArgs (wcf nm g (cV st) (bM st) (aD st) .none kV j pm r p ct) ⟨us,[]⟩=pure (ps.zip us)) :
 ∃fd,zy K nm g st f fd/\Binds K fd ps []:=by
 obtain⟨⟨b,d,kV,j,pm,r,p,ct,a,l,c⟩,k⟩:=R;have F:=Gx (st:=st) l c k;exact⟨_,F,F.binds h⟩
theorem Raw.at_{mg:Str->Option Value}(X:K.In l)(G:l.Ns waK mg)(a:PySem.W.nsIn K waK nm=some (some (.ref f)))(R:Raw K nm nm st f)
 (h:∀(kV g pm:Value) (p:Option Addr) (j ct:Value) (us:List Value),us.length=ps.length->bindArgs (wcf nm nm (cV st) (bM st) (aD st) .none kV g pm p j ct) ⟨us,[]⟩=pure (ps.zip us)) :
 ∃fd,FnAt K mg nm st ps f fd:=by
 obtain⟨fd,F,b⟩:=R.fn h;exact⟨fd,F,b,PySem.W.mg_of X G a⟩
theorem gu{ss:List Str}{i:Nat}{y:V}(h:(ss.map V.str)[i]?=some y):∃p,ss[i]?=some p/\y=.str p/\i<ss.length/\p∈ss/\ss.take (i+1)=ss.take i++[p]:=by
 rw[wa4]at h
 cases e:ss[i]? with
 |none=>rw[e]at h;cases h
 |some z=>
  rw[e]at h;exact⟨z,rfl,(wae h).symm,(wa5.mp e).1,wa8 e,by rw[waS,e];rfl⟩
theorem wY(h:(cu g)[i]?=some y):∃c,(ch g)[i]?=some c/\y=.str ⟨#[c]⟩/\i<(ch g).length/\c∈ch g/\(ch g).take (i+1)=(ch g).take i++[c]:=by
 unfold cu at h;rw[wa4]at h
 cases e:(ch g)[i]? with
 |none=>rw[show g.cps.toList[i]?=none from e]at h;cases h
 |some z=>
  rw[show g.cps.toList[i]?=some z from e]at h;exact⟨z,rfl,(wae h).symm,(wa5.mp e).1,wa8 e,by rw[waS,e];rfl⟩
theorem nq(g:Str):(cu g).length=g.length:=by grind [cu,aR]
inductive DH(K:wa2)(vs:List V)(H:Hp)(Q:VK)(dQ:XK):Prop
 |mk (a:Addr) (ns:List Int) (_:vs=[.ref a]) (_:aE K H a (ns.map V.int)) (_:ns.length<=63) (_:∀H',Q (.bl true) H')
end Sx
namespace L2
open PySem PySem.Spec PyProof.Rows
section
variable{X:Cx}{st:Stmt}{rest:List Stmt}{t u:TS}
inductive SU(t u:TS)(D:Ends)(σ:St)(H:Hp):Prop
 |mk (Z) (_:t (D.L6 Z) σ H) (_:∀σ' H',Z σ' H'->u D σ' H')
theorem JR(g:PS X st t)(j:sy X rest u):sy X (st::rest) (SU t u):=by
 refine⟨?_⟩;intro a s σ H D I h;obtain⟨Z,d,e⟩:=h;refine wcM (bI (g a s σ H (D.L6 Z) I d) λf i q=>?_)
 cases f with
 |next=>
  obtain⟨b,c,k,q⟩:=q;exact j a i b c D k (e b c q)
 |ret v=>exact q
 |brk=>exact q
 |cont=>exact q
end
theorem DI(xs:List V)(n:Nat):j9 xs none (some (n:Int))=xs.take n:=by simp_all [j9,HT.zf,wdW,Nat.sub_zero,if_neg,wfL,Nat.min_eq_right,waG,wbv]
end L2
namespace Sx
open PySem L2 Bs
noncomputable def one(c:Nat):Str:=⟨#[c]⟩
theorem dH(nx:g x=none)(j:g l=none):a7 g (upd (upd g l p) x o2):=λb o e=>by rw[ae (af e nx),ae (af e j)];exact e
theorem aS.few(B:aS C H x g ws ss ls)(hl:ws.length<=6)(hw:∀w∈ws,yj g w):ss.length<=25:=by
 have:=mq (ws:=ws) (e:="") (us:=ws) λw a=>(hw w a).hi;rw[B.pm.length_eq];lia
end Sx
namespace L2
open PySem PySem.Spec PyProof.Rows PySem.W
section
variable{prog:wap}{w:World}{A:Around}{R:wcN->Shared->Prop}{h:Heap}{g:Array wdk}{d:Drawn}{t:Nat}{os:wbT}
variable{nm q:Str}{C N:Addr}{bs bm bmB:List Value}{hdct:Bool}{sn:List Str}{sub:List Value}{ab:Bool}{col:Option Bool}{dd:Option Addr}{k0 k1 k2 k3 k5:Option Value}{B newId SV:String}
noncomputable abbrev eG(C t:Addr):Obj:={cls:=.ref C,data:=.fields #[.ref t,.none,.none,.none,.bool false,.none]}
noncomputable abbrev pP(vs:List Value):Obj:={cls:=.type "tuple",data:=.seq vs.toArray}
end
end L2
namespace L2
open PySem PySem.Spec PyProof.Rows PySem.W
open Builtin Builtin.ObjectAttr
noncomputable abbrev Rp:List Value:=[.type "ValueError",.type "Exception",.type "BaseException",.type "object"]
noncomputable abbrev nr(CB:Addr):List Value:=.ref CB::Rp
section
variable{prog:wap}{w:World}{A:Around}{E:Value->Shared->Prop}{s:Shared}{K:wa2}{x dx C CB f:Addr}{mA:Str->Option Value}{name:Str}{v:Value}{R:wcN->Shared->Prop}
theorem wZ(X:K.In s.heap)(I:InstAt s.heap x ox C od)(hc:clsIn K C=some cd)(hm:cd.mro=.ref C::nr CB)(ha:findIn K (.ref C) name=some none)
 (h:wpAny (model prog w) A.in1 (storeInOwnDict (.ref x) (.ref C) (.str name tk) name v false)
   (λfin s'=>match fin with |.done f=>R (.ok f) s' |.again c'=>c'.quiet=true/\codeAny (model prog w) A c' R s') (λe s'=>R (.error e) s') s) :
 codeAny (model prog w) A (.call (.builtin "object.__setattr__") ⟨[.ref x,.str name tk,v],[]⟩) R s:=by
 have SF:=PySem.F.store_object;have sub:Looks (model prog w) s.heap (isInstance (.ref x) (.type "object")) true:=I.type.andThen (looks_mroIn X (by unfold mroIn;rw[hc,Option.bind_some,hm];rfl));refine wcF SF.slot.plain SF.entry (@check_slot (model prog w) _ _ s "object.__setattr__" "object" "__setattr__" (.ref x) [.str name tk,v] [] _ SF.kind SF.split sub (SF.args (.ref x) (.str name tk) v) ?_);have SW:Looks (model prog w) s.heap (mroOf (.ref C)) cd.mro:=(wdZ X hc).andThen .now;have L3:Looks (model prog w) s.heap (storeTaker? none) none:=.now;rw[osa_eq,refuse_eq];refine wa6 (wa6 (I.type.here (wa6 (SW.here ?_))));rw[hm,refuseLoop_ref,refuseLoop_ref,PySem.F.store_ValueError.passes];refine wax (wa6 (I.type.here (wa6 ((weJ X ha).here (wa6 (L3.here ?_))))));exact h
theorem GQ{Q:Unit->Shared->Prop}(X:K.In s.heap)(hx:s.heap.get? x=some (eG C t))(hc:clsIn K C=some cd)(hm:cd.mro=.ref C::nr CB)(hh:cd.hasDict=true)(ha:findIn K (.ref C) name=some none)
 (hs:findIn K (.ref C) "__setattr__"=some (some (.builtin "object.__setattr__")))
 (h:∀h' d tk,s.heap.objs.size<=d->(∀b o,b≠x->s.heap.get? b=some o->h'.get? b=some o)->h'.get? x=some {cls:=.ref C,dict:=some d,data:=.fields #[.ref t,.none,.none,.none,.bool false,.none]}->h'.Ns1 d (λy=>if y=name then some v else none)->Q () {s with heap:=h',toks:=tk}) :
 wpAny (model prog w) A (setAttr (.ref x) name v) Q E s:=by
 have J:InstAt s.heap x (eG C t) C none:=⟨hx,rfl,rfl,trivial⟩;refine weZ X J hs (wZ (s:={s with toks:=s.toks+1}) X J hc hm ha ?_);unfold storeInOwnDict;refine wa6 (wax ?_);rw[if_neg (by simp)];unfold ownDictForStores instanceDict;refine wa6 (wa6 (wg5 hx ?_));dsimp only;refine wa6 (weM (s:={s with toks:=s.toks+1}) (wdZ X hc) ?_);rw[hh];have Vt:(s.heap.push {cls:=.type "dict",data:=.dict #[]}).get? x=some (eG C t):=wa9 _ hx;have Vu:x≠s.heap.objs.size:=wat (wag hx);simp only[wgt,wbU,if_false,Bool.not_false,Bool.false_or];rw[if_neg (by simp[typeHasDict])];refine wa6 (wpAny_alloc ?_);refine wa6 (wpAny_update Vt ?_);refine wax ?_
 have Rq:((s.heap.push {cls:=.type "dict",data:=.dict #[]}).update x λo=>{cls:=o.cls,dict:=some s.heap.objs.size,data:=o.data,slots:=o.slots}).get? s.heap.objs.size
  =some {cls:=.type "dict",data:=.dict #[]}:=(wgw _ _ _ _ Vu.symm).trans (Heap.get?_push_at rfl rfl)
 have SX:((s.heap.push {cls:=.type "dict",data:=.dict #[]}).update x λo=>{cls:=o.cls,dict:=some s.heap.objs.size,data:=o.data,slots:=o.slots}).Ns s.heap.objs.size (λ_=>none):=
  ⟨_,#[],_,Rq,rfl,λe he=>absurd he (by simp),λ_=>rfl⟩
 show wpAny _ _ (storeInDict s.heap.objs.size (.str name s.toks) name v) _ _ _;unfold storeInDict newKeyGuard;refine wa6 (wax (wa6 (wgG (wgT SX) λh' Bc Lh=>?_)));obtain⟨oD,Y0,Y1,SY,Vv,Vw⟩:=Bc.count (wfH name v Within.nil);refine wa6 (wfg SY (by rw[Vv];exact wfh (wai Vw (by grind))) ?_)
 wp_walk
 refine h h' s.heap.objs.size _ (wab _) (λb ob Y2 hb=>?_) ?_ Bc
 ·exact(Lh.2 b (wat (wag hb))).trans ((wgw _ _ _ _ Y2).trans (wa9 _ hb))
 ·exact(Lh.2 x Vu).trans (wbB _ Vt rfl)
end
section
variable{prog:wap}{w:World}{A:Around}{E:Value->Shared->Prop}{s:Shared}{K:wa2}{x dx C CB f:Addr}{mA:Str->Option Value}{name:Str}{v:Value}{R:wcN->Shared->Prop}
end
section
variable{prog:wap}{w:World}{A:Around}{E:Value->Shared->Prop}{s:Shared}{K:wa2}{x dx C CB f:Addr}{mA:Str->Option Value}{name:Str}{v:Value}{R:wcN->Shared->Prop}{nm q:Str}{N:Addr}{bs:List Value}{sn:List Str}{sub:List Value}{ab:Bool}{col:Option Bool}{dd:Option Addr}{k0 k1 k2 k3 k5:Option Value}
theorem tM(X:K.In s.heap)(j:s.heap.get? x=some (eG C t))(hk:K.lookup C=some (wbr nm q C N bs (nr CB) true sn sub ab col dd k0 k1 k2 k3 k5 "ValueError.__new__"))
 (h:∀h' t',(∀b o,b≠x->s.heap.get? b=some o->h'.get? b=some o)->h'.get? x=some (eG C t')->R (.ok (.ret .none)) {s with heap:=h'}) :
 codeAny (model prog w) A (.call (.builtin "ValueError.__init__") ⟨[.ref x,u],[]⟩) R s:=by
 have F:=wc8;have f:=X _ _ hk;have J:InstAt s.heap x (eG C t) C none:=⟨j,rfl,rfl,trivial⟩;have sub:Looks (model prog w) s.heap (isInstance (.ref x) (.type "ValueError")) true:=J.type.andThen (looks_mroIn X (by unfold mroIn clsIn;rw[hk];rfl));refine wcF F.init.plain F.initEntry ?_;simp only[web,F.initKind,F.initSplit,F.initRow];refine wa6 (sub.here ?_);simp only[wgt,wbU,if_false];have a:=F.noStar;obtain⟨c,g,d,l,os⟩:=s
 repeat (first |with_reducible refine wb8 f ?_ |wp_step)
 have i:x≠c.objs.size:=wat (wag j);refine h _ c.objs.size (λb o k e=>?_) ?_
 ·rw[waL _ _ (wbs k)];exact wa9 _ e
 ·exact wbB _ (wa9 _ j) rfl
theorem BR{Q:Value->Shared->Prop}(X:K.In s.heap)(g:s.heap.get? x=some (eG C t))(hk:K.lookup C=some (wbr nm q C N bs (nr CB) true sn sub ab col dd k0 k1 k2 k3 k5 "ValueError.__new__"))
 (h:∀h' t',(∀b o,b≠x->s.heap.get? b=some o->h'.get? b=some o)->h'.get? x=some (eG C t')->Q .none {s with heap:=h'}) :
 wpAny (model prog w) A (call (.builtin "ValueError.__init__") [.ref x,u]) Q E s:=wd1 (tM X g hk h)
end
end L2
namespace L2
open PySem PySem.Spec PyProof.Rows
structure Ja(lo:Nat)(H:Hp)(h:Heap)(e C:Addr)(od:Option Addr):Prop where
 ge:lo<=e
 nt:H e=none
 ob:∃vs sl,h.get? e=some ⟨.ref C,od,.fields vs,sl⟩/\1<vs.size /\
  (vs[1]?=some .none\/∃T oT ts,vs[1]?=some (.ref T)/\lo<=T/\H T=none/\T≠e/\h.get? T=some oT/\oT.data=.fields ts/\ts[3]?=some .none)
theorem Ja.low{lo j:Nat}{H:Hp}{h:Heap}{e C:Addr}{l:Option Addr}(F:Ja lo H h e C l)(hl:j<=lo):Ja j H h e C l:=by
 obtain⟨g,n,i,sl,k,m,f⟩:=F;refine⟨wai hl g,n,i,sl,k,m,?_⟩;rcases f with f |⟨T,o,p,a,b,c,d⟩
 ·exact .inl f
 ·exact .inr ⟨T,o,p,a,wai hl b,c,d⟩
section
variable{M:Model}{A:Around}{E:Value->Shared->Prop}{s:Shared}{base:Heap}{env:Env}{outer:List Env}{L e C:Addr}{od:Option Addr}{lo:Nat}{H:Hp}
structure EH(lo:Nat)(H:Hp)(fs:List Addr)(h h':Heap):Prop where
 keep:∀b o,h.get? b=some o->(b<lo\/H b≠none)->b∉fs->h'.get? b=some o
 slot:∀b o,h.get? b=some o->b∈fs->∃sl,h'.get? b=some {o with slots:=sl}
theorem x9{Q:Unit->Shared->Prop}
 (PF:A.frames=some (env::outer)) (hl:s.heap.FunFrames base (env::outer)) (hf:env.frame=some L) (PH:lo<=s.heap.objs.size) (PL:∀b,s.heap.objs.size<=b->H b=none) (MF:lo<=e) (Vx:H e=none)
 (he:s.heap.get? e=some oe) (Bb:oe.cls=.ref C) (Vy:oe.dict=od) (hd:oe.data=.fields vs) (hsz:1<vs.size)
 (h:∀h',Ja lo H h' e C od->EH lo H ((env::outer).filterMap (·.frame)) s.heap h'->Q () {s with heap:=h'}) :
 wpAny M A (do let a <-frameOf env;let pl <-entryPlaceOf L Rr;let b <-wgx head a .none (rawInt L) .none pl;setField (.ref e) 1 b) (λ_ s'=>wpAny M A (wfM (.ref e) none) Q E s') E s:=by
 have PN:e∉(env::outer).filterMap (·.frame):=λhm=>by
  obtain⟨_,o,ho,SZ⟩:=hl.mem hm;rw[he]at ho;injection ho with ho;subst ho;exact SZ vs hd
 refine wa6 (wpAny_frameOf_fun PF hl hf λh₁ PQ=>?_);refine wa6 (wpAny_entryPlaceOf λpl hpl=>?_);unfold wgx newFields;refine wa6 (wf2 ?_ (hpl.sizeOk5 _ _ _ _ _));have Vz:h₁.get? e=some oe:=(PQ.2.1 e PN).trans he;have VA:=wa9 (h:=h₁) {cls:=.type "traceback",dict:=none,data:=.fields ([head,.ref L,.none,rawInt L,.none]++(if pl.isEmpty then wah 6 wbz else pl)).toArray} Vz;refine weK VA hd hsz ?_;have T1:h₁.objs.size≠e:=wc4 (wag Vz);have VB:=wd5 hd (·.setIfInBounds 1 (waj h₁.objs.size));have VC:=wbB (wcV (·.setIfInBounds 1 (waj h₁.objs.size))) VA (wef VB)
 have VD:=(waL (h₁.push {cls:=.type "traceback",dict:=none,data:=.fields ([head,.ref L,.none,rawInt L,.none]++(if pl.isEmpty then wah 6 wbz else pl)).toArray})
  (wcV (·.setIfInBounds 1 (waj h₁.objs.size))) (wbs T1)).trans (waw h₁ rfl)
 unfold wfM;refine wa6 (we3 VC VB (x:=.ref h₁.objs.size) (by simp[hsz]) ?_);rw[if_pos (show (waj h₁.objs.size != wbz)=true from by simp)];refine weK VD rfl (by simp only[waz,wa7,waF,wfJ]<;>lia) (h _ ?_ ?_)
 ·refine⟨MF,Vx,vs.setIfInBounds 1 (.ref h₁.objs.size),oe.slots,?_,by simpa using hsz,.inr ⟨h₁.objs.size,_,_,by simp[hsz],by rw[PQ.1];exact PH,PL _ (by rw[PQ.1];exact wab _),T1,
   wbB _ VD (wef (wd5 rfl _)),wd5 rfl _,by first |(simp;done) |(rcases hpl with rfl |⟨_,_,_,_,_,_,_,rfl⟩<;>simp)⟩⟩
  rw[waL _ _ T1,VC];obtain⟨c,d,dt,sl⟩:=oe;dsimp only at Bb Vy hd;subst Bb Vy hd;rfl
 ·have keep:∀b o,b≠e->h₁.get? b=some o ->
   (((h₁.push {cls:=.type "traceback",dict:=none,data:=.fields ([head,.ref L,.none,rawInt L,.none]++(if pl.isEmpty then wah 6 wbz else pl)).toArray}).update e (wcV (·.setIfInBounds 1 (waj h₁.objs.size)))).update h₁.objs.size
     (wcV (·.setIfInBounds 3 ((none:Option Addr).elim wbz λf=>rawInt f)))).get? b=some o:=λb o Y3 hb=>by
   have Y4:h₁.objs.size≠b:=wc4 (wag hb);rw[waL _ _ Y4,waL _ _ (wbs Y3)];exact wa9 _ hb
  refine⟨λb o hb hx SZ=>keep b o ?_ ((PQ.2.1 b SZ).trans hb),λb o hb hm=>?_⟩
  ·rintro rfl;rcases hx with hx |hx
   ·exact absurd (war hx MF) (wb7 _)
   ·exact hx Vx
  ·obtain⟨sl,hs⟩:=PQ.2.2 b o hb;exact⟨sl,keep b _ (λz=>PN (z ▸ hm)) hs⟩
theorem zJ{Q:Unit->Shared->Prop}(p:A.frames=some (env::outer))(hl:s.heap.FunFrames base (env::outer))(I:env.frame=some L)(r:lo<=s.heap.objs.size)(g:∀b,s.heap.objs.size<=b->H b=none)
 (F:Ja lo H s.heap e C od) (h:∀h',Ja lo H h' e C od->EH lo H ((env::outer).filterMap (·.frame)) s.heap h'->Q () {s with heap:=h'}) :
 wpAny M A (noteFrame (.ref e) env) (λ_ s'=>wpAny M A (wfM (.ref e) none) Q E s') E s:=by
 obtain⟨m,n,z,sl,v,t,k⟩:=F;unfold noteFrame;simp only[I];rcases k with k |⟨T,N,B,G,u,x,y,w,i,k⟩
 ·refine wa6 (we3 v rfl k ?_);rw[if_neg (by decide)];exact x9 p hl I r g m n v rfl rfl rfl t h
 ·refine wa6 (we3 v rfl G ?_);rw[if_pos (show (waj T != wbz)=true from by simp)];refine wa6 (we3 w i k ?_);rw[if_neg (show ¬((wbz==rawInt L)=true) from by simp[rawInt])];refine wa6 (weK w i (weV.mp k).1 ?_);have other:∀b,b≠T->(s.heap.update T (wcV (·.setIfInBounds 3 wbz))).get? b=s.heap.get? b:=λb a=>waL _ _ (wbs a)
  have c:∀b o,s.heap.get? b=some o->(∀z,o.data≠.fields z)->b≠T:=λb o a d q=>by
   rw[q,w]at a;injection a with a;subst a;exact d B i
  have f:(s.heap.update T (wcV (·.setIfInBounds 3 wbz))).objs.size=s.heap.objs.size:=Heap.size_after_update ..;refine x9 (s:={s with heap:=s.heap.update T (wcV (·.setIfInBounds 3 wbz))}) p (hl.of_keeps λb o a d=>⟨o,(other b (c b o a d)).trans a,rfl⟩) I (by show lo<=_;rw[f];exact r) (λb a=>g b (by rw[<-f];exact a)) m n ((other e (wbs y)).trans v) rfl rfl rfl t λh' J P=>h h' J ⟨λb o a l hn=>P.keep b o ((other b ?_).trans a) l hn,λb o a D=>P.slot b o ((other b ?_).trans a) D⟩
  ·rintro rfl;rcases l with l |l
   ·exact absurd (war l u) (wb7 _)
   ·exact l x
  ·rintro rfl;obtain⟨_,O,j,d⟩:=hl.mem D;rw[w]at j;injection j with j;subst j
   exact d B i
end
noncomputable def Bd(P:wap)(w:World):FR:=λouter H s E ev s'=>∃e C od H',ev=.ref e/\s'.os=s.os/\AllBare s'.gens/\Un (qF outer) [] H H' s.heap s'.heap/\jx P w H' s'.heap/\Ja s.heap.objs.size H' s'.heap e C od/\E (.ref C) od H'
def DJ(X:Cx)(E:XK):Prop:=∀(pins:List (Addr×Obj)) (σ:St) (H:Hp) (s:Shared) (e C:Addr) (od:Option Addr),Inv X pins σ H s->Ja X.s₀.heap.objs.size H s.heap e C od->E (.ref C) od H->X.xe (.ref e) s
theorem xa{X:Cx}(g:DJ X E):Passes (Bd X.prog X.w) X E:=λa σ H s k d I h=>by
 obtain⟨e,C,f,i,rfl,c,bare,un,b7,F,j⟩:=h;exact g a σ i d e C f (I.wA c un b7 bare λb z=>absurd z (by simp)) (F.low I.sz) j
section
variable{P:wap}{w:World}{K:wa2}{mg:Str->Option Value}{base:Heap}{N:List Str}{qual:Str}{scope:wcZ}{f:Addr}{cd:Value}{A:Around}{outer:List Env}{s:Shared}{H:Hp}{E:XK}
theorem jx.past{lo:Nat}{H:Hp}{fs:List Addr}{h h':Heap}(x:jx P w H h)(p:EH lo H fs h h')(g:∀b∈fs,H b=none):jx P w H h':=λa o e=>
 (x a o e).vF (λb u c q=>p.keep b u q (.inr (by grind)) λd=>by
   grind) (λ_ q=>q) λ_ _ q=>q
theorem cB:DJ (t7 (Bd P w) P w K mg base N qual scope f cd A outer s H E) E:=by
 intro v σ l x e C y I F B;show wpAny (model P w) _ («leaving» _ (.ref e)) (λ_ d=>Bd P w outer H s E (.ref e) d) (λD d=>Bd P w outer H s E D d) x;unfold «leaving»;have g:∀b,x.heap.objs.size<=b->l b=none:=λb a=>I.b7.fresh a;refine wa6 (zJ (lo:=s.heap.objs.size) (H:=l) (base:=base) (outer:=outer) I.ok.frames I.stack rfl I.sz g F λJ G p=>?_);have m:=I.sx
 have h:∀b o,s.heap.get? b=some o->b∉qF outer->b∉(envOfC qual scope s.heap.objs.size f cd::outer).filterMap (·.frame):=λb o a hn j=>by
  rcases waD.mp (show b∈s.heap.objs.size::qF outer from j) with z |z
  ·exact absurd (wag a) (by rw[z];exact wb7 _)
  ·exact hn z
 refine⟨e,C,y,l,rfl,I.os,I.bare,?_,I.b7.past p m,G,B⟩;have u:=I.base;refine⟨λb o a n c i=>?_,λb o a n c i=>?_,λb o a n i=>u.free b o a n i,λb o a i=>?_,u.sR,u.rS,u.sS⟩
 ·exact p.keep b o (u.keep b o a n c i) (.inl (wag a)) (h b o a c)
 ·obtain⟨sl,k⟩:=u.slot b o a n c i;obtain⟨q,r⟩:=p.slot b _ k (show b∈s.heap.objs.size::qF outer from wac _ c);exact⟨q,r⟩
 ·obtain⟨t,k⟩:=u.there b o a i
  by_cases j:b∈(envOfC qual scope s.heap.objs.size f cd::outer).filterMap (·.frame)
  ·obtain⟨sl,r⟩:=p.slot b t k j;exact⟨_,r⟩
  ·exact⟨t,p.keep b t k (.inl (wag a)) j⟩
theorem zy.Y5{x qual:Str}{st:Stmt}{f:Addr}{fd:waT}{N ps:List Str}{k:Nat}{sp:Sp}(F:zy K x qual st f fd)(S:sE N ps (aD st))(len:∀vs H Q E,sp vs H Q E->vs.length=ps.length)
 (j:∀(g:Value) (A:Around) (outer:List Env) (s:Shared) (H:Hp) (vs:List V) (Q:VK) (E:XK),d2 k (A.deeper (envOfC qual (aD st) s.heap.objs.size f g))->sp vs H Q E ->
   ∃t,sy (t7 (Bd P w) P w K mg base N qual (aD st) f g A outer s H E) (bM st) t/\t (Ends.fn Q) (start N vs) H):aO P w K mg base (Bd P w) (k+1) f fd ps sp:=by
 obtain⟨h,i,kV,c,pm,l,g,ct,d,rfl,lk,a⟩:=F.ex;exact Lc lk a S len λA outer s H vs Q E e b=>j g A outer s H vs Q E e b
end
open PySem.W (Looks looks_findIn looks_typeIn InitBack bind_fn findIn clsIn specialIn readsIn findCls keepIn isFn typeIn InstAt)
section
variable{prog:wap}{w:World}{A:Around}{R:wcN->Shared->Prop}{h:Heap}{g:Array wdk}{d:Drawn}{t:Nat}{os:wbT}
variable{nm q:Str}{C CB N:Addr}{bs:List Value}{hdct:Bool}{sn:List Str}{sub:List Value}{ab:Bool}{col:Option Bool}{dd:Option Addr}{k0 k1 k2 k3 k5:Option Value}
theorem JS{M:Model}{E:Value->Shared->Prop}{rest:List Value}{Q:Unit->Shared->Prop}(j:h.get? C=some (wbr nm q C N bs (nr CB) hdct sn sub ab col dd k0 k1 k2 k3 k5 "ValueError.__new__"))
 (l:Q () ⟨h,g,d,t,os⟩):wpAny M A (web "ValueError.__new__" ⟨.ref C::rest,[]⟩) Q E ⟨h,g,d,t,os⟩:=by
 have F:=wc8;have a:(waj C::nr CB).contains (.type "ValueError")=true:=rfl;have b:=F.noStar;simp only[web,F.newKind,F.newSplit,F.newRow]
 repeat (first |refine wb8 j ?_ |(refine wbS j ?_;rw[a]) |refine wpAny_staticBase_exc j ?_ |refine wpAny_madeBy_exc j ?_ |simp only[bne_self_eq_false,wbU,if_false] |wp_step)
 exact l
theorem JT{rest:List Value}(j:h.get? C=some (wbr nm q C N bs (nr CB) hdct sn sub ab col dd k0 k1 k2 k3 k5 "ValueError.__new__"))
 (r:R (.ok (.ret (.ref (h.objs.size+1)))) ⟨(h.push {cls:=.type "tuple",data:=.seq rest.toArray}).push
   {cls:=.ref C,data:=.fields #[.ref h.objs.size,.none,.none,.none,.bool false,.none]},g,d,t,os⟩) (l:rest.length<=sizeLine:=by size_fits) :
 codeAny (model prog w) A (.builtin "ValueError.__new__" ⟨.ref C::rest,[]⟩) R ⟨h,g,d,t,os⟩:=by
 have F:=wc8;have a:=F.ends;have b:(waj C::nr CB).contains (.type "ValueError")=true:=rfl;have c:(waj C::nr CB).contains (.type "AttributeError")=false:=rfl;have e:(waj C::nr CB).contains (.type "NameError")=false:=rfl;refine codeAny_builtinAt F.entry ?_;unfold wdS.«BaseException.__new__»;refine whm ?_;show PySem.wpAt _ _ _ (PySem.stack >>= _) _ _ _;refine whm (PySem.wpAt_stack λp f=>wgy ?_)
 wp_walk
 refine wgy ?_;rw[F.owner]
 repeat (first |with_reducible refine wpAny_madeHere_exc F.canon j ?_ |with_reducible refine wb8 j ?_ |(with_reducible refine wbS j ?_;first |rw[b] |rw[c] |rw[e]) |wp_step)
 show R _ _;rw[wbM];exact r
theorem GR{rest:List Value}{init:Value}{p:Around}(l:h.get? C=some (wbr nm q C N bs (nr CB) hdct sn sub ab col dd k0 k1 k2 k3 k5 "ValueError.__new__"))
 (hi:Looks (model prog w) h (wf7 (.ref C) "__init__") (some init)) (J:∀self,Looks (model prog w) h (bindSpecial init self) (init,[self])) (j:rest.length<=sizeLine)
 (T:codeAny (model prog w) p (.call init ⟨.ref (h.objs.size+1)::rest,[]⟩) (InitBack (h.objs.size+1) R) ⟨(h.push (pP rest)).push (eG C h.objs.size),g,d,t,os⟩) :
 wpAny (model prog w) p (wdS.«type.__call__» ⟨.ref C::rest,[]⟩) (λfin s'=>match fin with |.done f=>R (.ok f) s' |.again I=>I.quiet=true/\codeAny (model prog w) A I R s') (λe s'=>R (.error e) s') ⟨h,g,d,t,os⟩:=by
 have F:=wc8
 repeat (first |with_reducible refine wb8 l ?_ |with_reducible refine wpAny_madeBy_exc l ?_ |wp_step)
 refine codeAny_call_builtin_code (wdN _ F.quiet) (JS l ?_);refine JT l ?_ j;show wpAny _ _ _ _ _ _;have k:∀b o,h.get? b=some o->((h.push (pP rest)).push (eG C h.objs.size)).get? b=some o:=λb o e=>wa9 _ (wa9 _ e)
 have a:=wa9 {cls:=.ref C,data:=.fields #[.ref h.objs.size,.none,.none,.none,.bool false,.none]}
  (wa9 {cls:=.type "tuple",data:=.seq rest.toArray} l)
 have c:((h.push {cls:=.type "tuple",data:=.seq rest.toArray}).push {cls:=.ref C,data:=.fields #[.ref h.objs.size,.none,.none,.none,.bool false,.none]}).get? (h.objs.size+1)=some {cls:=.ref C,data:=.fields #[.ref h.objs.size,.none,.none,.none,.bool false,.none]}:=by heap_get
 have i:(waj C::nr CB).contains (.ref C)=true:=by simp
 have m:=hi.keeps k;have b1:=(J (.ref (h.objs.size+1))).keeps k;unfold isInstance
 repeat (first |with_reducible refine wb8 c ?_ |(with_reducible refine wbS a ?_;rw[i]) |wp_step)
 show wpAny _ _ (wf7 (.ref C) _) _ _ _;refine m.at ?_;refine wbj (wa6 (b1.at ?_));refine wa6 (wd1 (wc6 T λr s' z=>?_));rcases r with e |(v |_ |_ |_)<;>first |exact z |exact z.elim |skip
 obtain⟨rfl,z⟩:=z
 wp_walk
 exact z
theorem zK{rest:List Value}{init:Value}(l:h.get? C=some (wbr nm q C N bs (nr CB) hdct sn sub ab col dd k0 k1 k2 k3 k5 "ValueError.__new__"))
 (hi:Looks (model prog w) h (wf7 (.ref C) "__init__") (some init)) (p:∀self,Looks (model prog w) h (bindSpecial init self) (init,[self])) (j:rest.length<=sizeLine)
 (r:codeAny (model prog w) (A.under (.builtin "type.__call__" ⟨.ref C::rest,[]⟩)) (.call init ⟨.ref (h.objs.size+1)::rest,[]⟩) (InitBack (h.objs.size+1) R) ⟨(h.push (pP rest)).push (eG C h.objs.size),g,d,t,os⟩) :
 codeAny (model prog w) A (.call (.ref C) ⟨rest,[]⟩) R ⟨h,g,d,t,os⟩:=by
 have f1:=tc_lookup;have f2:=PySem.tc_bind (.ref C);have a:(⟨h,g,d,t,os⟩:Shared).TypeIs (.ref C) "type":=⟨_,l,rfl⟩;refine wfK ?_;show wpAny _ _ (callAny (.ref C) _) _ _ _
 repeat (any_goals (first |assumption |with_reducible refine wb8 l ?_ |wp_step))
 refine⟨rfl,?_⟩;exact codeAny_call_builtin_at (wdN _ (by decide+kernel)) entry_typeCall (wpAny_check_type_call_sub l (GR l hi p j r))
theorem qN{E:Value->Shared->Prop}{Q:Flow->Shared->Prop}(p:A.handled=none)
 (h:wpAny M A (eval x env) (λv j=>∃e l t,v=.ref e/\j.heap.get? C=some (wbr nm q C N bs (nr CB) hdct sn sub ab col dd k0 k1 k2 k3 k5 "ValueError.__new__") /\
   j.heap.get? e=some {cls:=.ref C,dict:=l,data:=.fields #[.ref t,.none,.none,.none,.bool false,.none]}/\E (.ref e) j) E s) :
 wpAny M A (exec (.Raise (some x) none pos) env) Q E s:=by
 have key:wpAny M A (raiseStmt env (some (do let v <-eval x env;standAt pos;pure v)) none) Q E s:=by
  have b:(waj C::nr CB).contains (.type "BaseException")=true:=rfl;unfold raiseStmt;refine wa6 (wa6 (wb1 h (λv j a=>wa6 (wds (wax ?_))) λ_ _ x=>x));obtain⟨e,l,t,rfl,c,f,i⟩:=a;obtain⟨k,g,d,m,os⟩:=j
  repeat (first |with_reducible refine wb8 f ?_ |with_reducible refine wb8 c ?_ |(with_reducible refine wbS c ?_;rw[b]) |wp_step)
  exact wpAny_raiseNew_none p i
 rw[arm_exec_Raise];exact wa6 (wds key)
end
end L2
namespace L2
open PySem PySem.Spec PyProof.Rows
open PySem.W (Looks looks_findIn looks_typeIn InitBack bind_fn findIn clsIn specialIn readsIn findCls keepIn isFn typeIn InstAt)
structure dX(K:wa2)(C CB:Addr)(nm:Str):Prop where
 lk:∃(q:Str) (N:Addr) (bs:List Value) (sn:List Str) (sub:List Value) (ab:Bool) (col:Option Bool) (dd:Option Addr) (k0 k1 k2 k3 k5:Option Value),
  K.lookup C=some (wbr nm q C N bs (nr CB) true sn sub ab col dd k0 k1 k2 k3 k5 "ValueError.__new__")
 sa:findIn K (.ref C) "__setattr__"=some (some (.builtin "object.__setattr__"))
 ga:findIn K (.ref C) "__getattribute__"=some (some (.builtin "BaseException.__getattribute__"))
 gh:findIn K (.ref C) "__getattr__"=some none
 kp:keepIn K (.ref C)=true
structure GU(K:wa2)(CB:Addr):Prop where
 sp:weQ K (.ref CB) "__getattribute__"=some (some (.builtin "type.__getattribute__"))
 rd:readsIn K CB (.type "type")=true
 fc:findCls K (.ref CB) (.type "type") "__init__"=some (.val (.builtin "ValueError.__init__"))
noncomputable def XN(x C:Addr):HO:=.ext λh=>∃t,h.get? x=some (eG C t)
noncomputable abbrev sF(C d t:Addr):Obj:={cls:=.ref C,dict:=some d,data:=.fields #[.ref t,.none,.none,.none,.bool false,.none]}
noncomputable def XD(x C d:Addr):HO:=.ext λh=>∃t,h.get? x=some (sF C d t)
section
variable{P:wap}{w:World}{H:Hp}{h:Heap}{x C d t:Addr}
theorem MG(e:h.get? x=some (eG C t)):bP P w H h x (XN x C):=⟨⟨t,e⟩,⟨_,e⟩,λc d ⟨a,b⟩ k=>⟨a,k _ b⟩⟩
theorem T3(e:h.get? x=some (sF C d t)):bP P w H h x (XD x C d):=⟨⟨t,e⟩,⟨_,e⟩,λc f ⟨a,b⟩ k=>⟨a,k _ b⟩⟩
end
theorem MH(h:H x=some o):upd H x o=H:=by grind [upd]
noncomputable def del(H:Hp)(x:Addr):Hp:=λb=>if b=x then none else H b
theorem gv:del H x x=none:=if_pos rfl
theorem ip(h:b≠x):del H x b=H b:=if_neg h
theorem DK(h:H x=none):del (upd H x o) x=H:=by grind [gv,ip,ae]
theorem BU(h:d≠x):del (upd H d o) x=upd (del H x) d o:=by
 funext b
 by_cases e:b=x
 ·subst e;rw[gv,ae (wbs h),gv]
 ·rw[ip e]
  by_cases a:b=d
  ·subst a;rw[a6,a6]
  ·rw[ae a,ae a,ip e]
theorem ym:del (upd H x o) x=del H x:=by grind [gv,ip,ae]
section
variable{X:Cx}{pins:List (Addr×Obj)}{σ:St}{H:Hp}{s:Shared}{x:Addr}{φ:Heap->Prop}
theorem Inv.del(I:Inv X pins σ H s)(g:H x=some (.ext φ)):Inv X pins σ (L2.del H x) s:=by
 have ne:∀{b:Addr} {o:HO},H b=some o->(∀ψ,o≠.ext ψ)->b≠x:=λe n z=>by rw[z,g]at e;exact n φ (wae e).symm
 have nn:∀{b:Addr},H b=none->L2.del H x b=none:=λ{b} e=>by
  by_cases z:b=x
  ·rw[z];exact gv
  ·rw[ip z];exact e
 have u:=I.base;refine⟨I.ok,I.os,I.bare,⟨u.keep,u.slot,λb o q n d=>nn (u.free b o q n d),u.there,λb f q=>?_,λb o v q=>?_,λb ps q=>?_⟩,I.loc,I.cell,nn I.free,λy c e=>nn (I.j6 y c e),λp h=>?_,λa o e=>?_,I.len⟩
 ·have e:=u.sR b f q;rw[ip (ne e λψ z=>by cases z)];exact e
 ·have e:=u.rS b o v q;rw[ip (ne e λψ z=>by cases z)];exact e
 ·obtain⟨m,e⟩:=u.sS b ps q;exact⟨m,by rw[ip (ne e λψ z=>by cases z)];exact e⟩
 ·obtain⟨a1,a2,a3⟩:=I.pin p h;exact⟨a1,nn a2,a3⟩
 ·have i:H a=some o:=by
   by_cases z:a=x
   ·rw[z,gv]at e;cases e
   ·rw[ip z]at e;exact e
  refine(I.b7 a o i).vF (λb u _ q=>q) (λb q=>?_) λb f q=>?_
  ·rw[ip (ne q λψ z=>by cases z)];exact q
  ·rw[ip (ne q λψ z=>by cases z)];exact q
end
def MI(K:wa2)(CB:Addr)(t:TA):TE:=λσ H Q=>t σ H λvs H1=>∃x C nm m,vs=[.ref x,m]/\H1 x=some (XN x C)/\dX K C CB nm/\Q .non H1
section
variable{X:Cx}{CB C f:Addr}{p pos apos hH:Pos}{e e2:Expr}{es:List Expr}{t:TA}{Ln name:Str}{ta tv:TE}{o value:Expr}{pos':Pos}
theorem GV(r:Gl X Ln)(J:X.mg Ln=some (.ref CB))(B:GU X.K CB)(ha:PA X [e,e2] t)(g:(Ln==("__debug__":Str))=false:=by decide)
 (he:starEach [e,e2] X.env=(false,eval e X.env)::starEach [e2] X.env:=by rfl) (hpl:(backTo pos (starEach [e2] X.env)).any (·.1)=false:=by rfl)
 (j:eval (.Call (.Attribute (.Name Ln p) "__init__" apos) [e,e2] [] pos) X.env=(do
   let l <-eval (.Name Ln p) X.env
   standAt apos.atName
   let (f,first) <-holding [l] (wed l "__init__" pl)
   callWith pos f first (backTo pos (starEach [e,e2] X.env)) (backToKw pos (wcJ [] X.env))):=by rfl) :
 PE X (.Call (.Attribute (.Name Ln p) "__init__" apos) [e,e2] [] pos) (MI X.K CB t):=by
 refine⟨?_⟩;intro a s σ H Q I h;refine wee (pl:=pl) (g9 I r J ?_ g) j;refine PySem.W.method_cls I.hE B.sp (PySem.W.cls_value I.hE B.rd B.fc rfl ?_);refine weo (bI (ha pos a _ σ H _ (I.tok _) h) λG i n=>?_) he hpl;obtain⟨L,v,c,w,x,C,M,m,y,d,U,q⟩:=n;subst y;obtain⟨O,R,rfl,A,S⟩:=vals2 w;cases A;obtain⟨⟨t,j⟩,_⟩:=c.b7 x _ d;obtain⟨T,N,bs,V,sub,ab,D,Y,Z,k1,k2,k3,k5,lk⟩:=U.lk;refine BR c.hE j lk λh' t' k ex=>⟨.non,v,?_,rfl,q⟩;have:=c.write (x:=x) (e:=x) (o:=XN x C) (h':=h') (t':=i.toks) (by rw[d];exact wbA) (.inl rfl) (λb u E z=>k b u E z) ⟨_,ex⟩ (MG ex);rw[MH d]at this;exact this
def PR(K:wa2)(CB:Addr)(ta tv:TE)(name:Str):TS:=λD σ H=>tv σ H λy H1=>ta σ H1 λz H2=>∃x C nm,z=.ref x/\H2 x=some (XN x C)/\dX K C CB nm/\findIn K (.ref C) name=some none /\
 ∀d,H2 d=none->D.nx σ (upd (upd H2 d (.xd [(name,y)])) x (XD x C d))
theorem JU(ha:PE X o ta)(T:PE X value tv)(hs:wc1 value (some (.Attribute o name pos')) pos.line X.env=pure false):PS X (.Assign [.Attribute o name pos'] value pos) (PR X.K CB ta tv name):=by
 refine⟨?_⟩;intro g s σ H D I h;refine wcP (bI (T g s σ H _ I h) λu L ⟨y,M,O,Q,q⟩=>bI (ha g L σ M _ O q) λR G S=>?_) hs;obtain⟨z,m,i,V,x,C,Y,Z,l,U,hn,q2⟩:=S;subst Z;obtain rfl:R=waj x:=V;obtain⟨⟨t,ht⟩,_⟩:=i.b7 x _ l;obtain⟨qn,N,bs,sn,sub,ab,r,dd,k0,k1,k2,k3,k5,lk⟩:=U.lk;refine GQ (CB:=CB) i.hE ht (cd:={name:=Y,bases:=bs,mro:=.ref C::nr CB,ns:=N,qualname:=qn,hasDict:=true,slotNames:=sn,subclasses:=sub,abstract:=ab,collection:=r,hasDel:=false}) (by unfold clsIn;rw[lk]) rfl rfl hn U.sa λA d tk hd k ex ns=>⟨σ,_,?_,q2 d (i.b7.fresh hd)⟩;have VE:d≠x:=λz=>by rw[z]at hd;exact absurd (war (i.b7.lt l) hd) (wb7 _)
 have c:=i.b7.fresh hd
 have un:Un (qF X.stack) [] m (upd (upd m d (.xd [(name,y)])) x (XD x C d)) G.heap A:=by
  have nx:∀{b:Addr} {o:HO},m b=some o->(∀ψ,o≠.ext ψ)->b≠x:=λe n z=>by rw[z,l]at e;exact n _ (wae e).symm
  have B:∀{b:Addr},m b=none->b≠x:=λe z=>by rw[z,l]at e;cases e
  refine⟨λb o q n _ _=>k b o (B n) q,λb o q n _ _=>⟨o.slots,k b o (B n) q⟩,λb o q n _=>?_,λb o q _=>?_,λb vs q=>?_,λb o v q=>?_,λb ps q=>?_⟩
  ·rw[ae (B n),ae (λz=>by rw[z]at q;exact absurd (war (wag q) hd) (wb7 _))];exact n
  ·by_cases z:b=x
   ·rw[z];exact⟨_,ex⟩
   ·exact⟨o,k b o z q⟩
  ·rw[ae (nx q λψ z=>by cases z),ae (af q c)];exact q
  ·rw[ae (nx q λψ z=>by cases z),ae (af q c)];exact q
  ·exact⟨#[],by rw[ae (nx q λψ z=>by cases z),ae (af q c),q];simp⟩
 have b7:jx X.prog X.w (upd (upd m d (.xd [(name,y)])) x (XD x C d)) A:=λa o e=>by
  by_cases z:a=x
  ·subst z;rw[a6]at e;cases e;exact T3 ex
  ·rw[ae z]at e
   by_cases J:a=d
   ·subst J;rw[a6]at e;cases e;refine⟨_,ns,λf=>?_⟩
    by_cases p:f=name
    ·have j:(f==name)=true:=beq_iff_eq.mpr p;simp only[wfO,j,if_pos p];exact Q
    ·have j:(f==name)=false:=beq_eq_false_iff_ne.mpr p;simp only[wfO,j,if_neg p]
     trivial
   ·rw[ae J]at e;refine(i.b7 a o e).vF (λb u j q=>k b u ?_ q) (λb q=>?_) λb vs q=>?_
    ·rintro rfl;rcases j with rfl |j
     ·exact z rfl
     ·rw[l]at j;cases j
    ·have:b≠x:=λE=>by rw[E,l]at q;cases q
     rw[ae this,ae (af q c)];exact q
    ·have:b≠x:=λE=>by rw[E,l]at q;cases q
     rw[ae this,ae (af q c)];exact q
 exact i.wA (s':={G with heap:=A,toks:=tk}) rfl un b7 i.bare λb z=>absurd z (by simp)
end
end L2
namespace L2
open PySem PySem.Spec PyProof.Rows
open PySem.W (Looks looks_findIn looks_typeIn InitBack bind_fn findIn clsIn specialIn readsIn findCls keepIn isFn typeIn InstAt)
def MJ(K:wa2)(C:Addr)(sp:Sp)(E:XK)(t:TA):TS:=λ_ σ H=>t σ H λvs H1=>vs.length<=sizeLine/\∀x,H1 x=none ->
 sp (.ref x::vs) (upd H1 x (XN x C)) (λv H2=>v=.non/\((H2 x=some (XN x C)/\E (.ref C) none (del H2 x))\/∃d,H2 x=some (XD x C d)/\E (.ref C) (some d) (del H2 x))) E0
def JV(C:Addr)(E:XK)(t:TA):TS:=λ_ σ H=>t σ H λvs H1=>vs.length=1/\E (.ref C) none H1
section
variable{X:Cx}{CB C f:Addr}{fd:waT}{ps:List Str}{sp:Sp}{E:XK}{k:Nat}{p pos hH:Pos}{e:Expr}{es:List Expr}{t:TA}{x nm:Str}
theorem Inv.newExc(I:Inv X g σ H s)(us:List Value)(C:Addr) :
 Inv X g σ (upd H (s.heap.objs.size+1) (XN (s.heap.objs.size+1) C)) {s with heap:=(s.heap.push (pP us)).push (eG C s.heap.objs.size)}:=by
 have c:=I.kept (h':=s.heap.push (pP us)) (t':=s.toks) λb u q=>wa9 _ q;refine c.laid (a:=s.heap.objs.size+1) (t':=s.toks) (λb u q=>wa9 _ q) (wdF (wbM _ _)) (MG (t:=s.heap.objs.size) ?_);have:=waw (s.heap.push (pP us)) (o:=eG C s.heap.objs.size) rfl;rwa[wbM]at this
theorem GW(hT:DJ X E)(hc:X.calm=true)(U:dX X.K C CB nm)(hi:findIn X.K (.ref C) "__init__"=some (some (.ref f)))(J:isFn X.K (.ref f)=true)
 (F:aO X.prog X.w X.K X.mg X.base cP k f fd ps sp) (hr:d2 (k+1) X.A) (hb:Binds X.K fd ps []) (hg:Gl X x) (hm:X.mg x=some (.ref C)) (ha:PA X (e::es) t)
 (T:(x==("__debug__":Str))=false:=by decide) (he:starEach (e::es) X.env=(false,eval e X.env)::starEach es X.env:=by rfl) (hpl:(backTo hH (starEach es X.env)).any (·.1)=false:=by rfl) :
 PS X (.Raise (some (.Call (.Name x p) (e::es) [] hH)) none pos) (MJ X.K C sp E t):=by
 refine⟨?_⟩;intro a s σ H D I h;obtain⟨Z,N,bs,sn,sub,ab,col,dd,k0,k1,k2,k3,k5,lk⟩:=U.lk;refine qN (C:=C) (CB:=CB) (nm:=nm) (q:=Z) (N:=N) (bs:=bs) (hdct:=true) (sn:=sn) (sub:=sub) (ab:=ab) (col:=col) (dd:=dd) (k0:=k0) (k1:=k1) (k2:=k2) (k3:=k3) (k5:=k5) (I.ok.hd hc) ?_;refine wbt (g9 I hg hm ?_ T);refine wcp (h₀:=X.base) I.ok.mod.L5 U.kp (bI (ha hH a s σ H _ I h) λc i ⟨vs,H1,j,r,m,q⟩=>⟨j.hE,?_⟩) he hpl;have B:=j.b7.fresh (wcb i.heap.objs.size);have Q:=q (i.heap.objs.size+1) B;have G:=Inv.newExc j c C;have R:Vals (V.ref (i.heap.objs.size+1)::vs) (waj (i.heap.objs.size+1)::c):=.cons rfl r
 have hl:(waj (i.heap.objs.size+1)::c++[]).length=ps.length:=by
  have S:=R.length;rw[F.len _ _ _ _ Q]at S;rw[waW];exact S.symm
 have n:=hb _ (waj (i.heap.objs.size+1)::c) G.hE hl;rw[waW]at n;obtain⟨L,g,dr,tk,os⟩:=i;refine wd1 (zK (j.hE _ _ lk) (weJ j.hE hi) (λself=>bind_fn j.hE self (beq_iff_eq.mp J)) (by show c.length<=sizeLine;rw[<-r.length];exact m) ?_);refine wc6 (F.run _ X.stack _ _ ⟨waj (L.objs.size+1)::c,[]⟩ (waj (L.objs.size+1)::c) _ _ E0 (hr.make C c []) (G.Jt.make C c []) n R Q) λrr Y b=>?_
 cases rr with
 |error e=>exact waU b
 |ok fl=>
  cases fl with
  |next=>exact waU b
  |brk=>exact waU b
  |cont=>exact waU b
  |ret u=>
   obtain⟨v,H',l,rv,ev,q3⟩:=G.after b;subst ev;refine⟨rv,?_⟩;have o:X.s₀.heap.objs.size<=L.objs.size+1:=wai j.sz (wcb _);rcases q3 with⟨y,M⟩ |⟨d,y,M⟩
   ·obtain⟨⟨O,z⟩,_⟩:=l.b7 _ _ y;exact⟨_,none,O,rfl,l.hE _ _ lk,z,hT a σ _ Y _ C none (l.del y) ⟨o,gv,_,_,z,by show 1<6;decide,.inl rfl⟩ M⟩
   ·obtain⟨⟨O,z⟩,_⟩:=l.b7 _ _ y;exact⟨_,some d,O,rfl,l.hE _ _ lk,z,hT a σ _ Y _ C (some d) (l.del y) ⟨o,gv,_,_,z,by show 1<6;decide,.inl rfl⟩ M⟩
theorem fM(J:DJ X E)(hc:X.calm=true)(U:dX X.K C CB nm)(hi:findIn X.K (.ref C) "__init__"=some (some (.builtin "ValueError.__init__")))(T:Gl X x)(hm:X.mg x=some (.ref C))(ha:PA X (e::es) t)
 (l:(x==("__debug__":Str))=false:=by decide) (he:starEach (e::es) X.env=(false,eval e X.env)::starEach es X.env:=by rfl) (hpl:(backTo hH (starEach es X.env)).any (·.1)=false:=by rfl) :
 PS X (.Raise (some (.Call (.Name x p) (e::es) [] hH)) none pos) (JV C E t):=by
 refine⟨?_⟩;intro a s σ H D I h;obtain⟨y,N,bs,sn,sub,ab,col,dd,k0,k1,k2,k3,k5,lk⟩:=U.lk;refine qN (C:=C) (CB:=CB) (nm:=nm) (q:=y) (N:=N) (bs:=bs) (hdct:=true) (sn:=sn) (sub:=sub) (ab:=ab) (col:=col) (dd:=dd) (k0:=k0) (k1:=k1) (k2:=k2) (k3:=k3) (k5:=k5) (I.ok.hd hc) ?_;refine wbt (g9 I T hm ?_ l);refine wcp (h₀:=X.base) I.ok.mod.L5 U.kp (bI (ha hH a s σ H _ I h) λA c ⟨Q,B,d,r,f,q⟩=>⟨d.hE,?_⟩) he hpl
 obtain⟨u,rfl⟩:∃u,A=[u]:=by
  have:=r.length;rw[f]at this;exact List.length_eq_one_iff.mp this.symm
 have m:=Inv.newExc d [u] C;have i:(upd B (c.heap.objs.size+1) (XN (c.heap.objs.size+1) C)) (c.heap.objs.size+1)=some (XN (c.heap.objs.size+1) C):=a6;have j:=d.b7.fresh (wcb c.heap.objs.size);obtain⟨k,g,R,G,os⟩:=c;refine wd1 (zK (d.hE _ _ lk) (weJ d.hE hi) (λself=>Looks.of_pure (wc8.init.bind self)) (by show 1<=sizeLine;decide) ?_);obtain⟨⟨S,L⟩,_⟩:=m.b7 _ _ i;refine tM m.hE L lk λh' t' M ex=>⟨rfl,?_⟩;have w:=m.write (x:=k.objs.size+1) (e:=k.objs.size+1) (o:=XN (k.objs.size+1) C) (h':=h') (t':=G) (by rw[i];exact wbA) (.inl rfl) (λb u O z=>M b u O z) ⟨_,ex⟩ (MG ex);rw[Dm]at w;have n:=w.del (x:=k.objs.size+1) a6;rw[DK j]at n;have v:X.s₀.heap.objs.size<=k.objs.size+1:=wai d.sz (wcb _);exact⟨_,none,t',rfl,n.hE _ _ lk,ex,J a σ _ _ _ C none n ⟨v,j,_,_,ex,by show 1<6;decide,.inl rfl⟩ q⟩
end
end L2
namespace L2
open PySem PySem.Spec PyProof.Rows
noncomputable abbrev TJ:=Str->St->Hp->(Str->Hp->Prop)->Prop
abbrev VF(X:Cx)(es:List Expr)(t:TJ):Prop:=∀(pins:List (Addr×Obj)) (s:Shared) (σ:St) (H:Hp) (acc:Str) (Q:Str->Hp->Prop),Inv X pins σ H s->t acc σ H Q ->
 wpAny (model X.prog X.w) X.A (joinParts acc (evalEach es X.env)) (λu s'=>∃z H',Inv X pins σ H' s'/\(∃tk,u=.str z tk)/\Q z H') X.xe s
structure PJ(X:Cx)(es:List Expr)(t:TJ):Prop where
 go:VF X es t
instance {X:Cx} {es:List Expr} {t:TJ}:CoeFun (PJ X es t) λ_=>VF X es t:=⟨PJ.go⟩
section
variable{X:Cx}{e:Expr}{es:List Expr}{te:TE}{t:TJ}{pos:Pos}
noncomputable def T4:TJ:=λacc _ H Q=>acc.length<=sizeLine/\Q acc H
theorem MK:PJ X [] T4:=⟨λb s σ H a Q I h=>joinParts_nil ⟨a,H,I.tok _,⟨_,rfl⟩,h.2⟩ h.1⟩
noncomputable def T5(z:Str)(t:TJ):TJ:=λacc σ H Q=>(acc++z).length<=sizeLine/\t (acc++z) σ H Q
theorem BV(h:PJ X es t):PJ X (.Constant (.str z) j pos::es) (T5 z t):=⟨λa s σ H b Q I q=>
 joinParts_cons (wgE ⟨q.1,h a _ σ H _ Q (I.tok _) q.2⟩)⟩
noncomputable def T6(te:TE)(t:TJ):TJ:=λacc σ H Q=>te σ H λv H1=>(∃i,v=.int i/\i.natAbs.log2<1920/\(acc++(toString i:String)).length<=sizeLine/\t (acc++(toString i:String)) σ H1 Q)\/(∃z,v=.str z/\z.length<=sizeLine/\(acc++z).length<=sizeLine/\t (acc++z) σ H1 Q)
theorem GX(he:PE X e te)(h:PJ X es t):PJ X (.FormattedValue e (-1) none pos::es) (T6 te t):=⟨λa s σ H j Q I q=>by
 refine joinParts_cons (FormattedValue_plain (bI (he a s σ H _ I q) λv n ⟨y,d,f,g,k⟩=>?_));rcases k with⟨i,rfl,hl,b,c⟩ |⟨z,rfl,hl,b,c⟩
 ·obtain⟨l,rfl⟩:=g;exact formatField_int_small hl ⟨b,h a _ σ d _ Q (f.tok _) c⟩
 ·obtain⟨l,rfl⟩:=g
  exact formatField_str (λo m=>⟨b,h a _ σ d _ Q (f.tok _) c⟩) hl⟩
theorem JW(h:PJ X (e::g::es) t):PE X (.JoinedStr (e::g::es) pos) (λσ H Q=>t why σ H λz j=>Q (.str z) j):=⟨λa s σ H Q I q=>
 JoinedStr_many (bI (h a s σ H _ _ I q) λu f ⟨z,b,c,r,d⟩=>⟨.str z,b,c,r,d⟩)⟩
end
noncomputable abbrev O4:=XK->TE
noncomputable abbrev FU:=(St->XK)->TS
def VG(X:Cx)(pins:List (Addr×Obj))(σ:St)(E:XK)(ev:Value)(s':Shared):Prop:=∃H0 s0,Inv X pins σ H0 s0/\Bd X.prog X.w X.stack H0 s0 E ev s'
def VH(X:Cx)(pins:List (Addr×Obj))(E:St->XK)(ev:Value)(s':Shared):Prop:=∃σ,VG X pins σ (E σ) ev s'
abbrev PU(X:Cx)(e:Expr)(t:O4):Prop:=∀(pins:List (Addr×Obj)) (s:Shared) (σ:St) (H:Hp) (Q:VK) (E:XK),Inv X pins σ H s->t E σ H Q->wpAny (model X.prog X.w) X.A (eval e X.env) (EP X pins σ Q) (VG X pins σ E) s
structure Rt(X:Cx)(e:Expr)(t:O4):Prop where
 go:PU X e t
instance {X:Cx} {e:Expr} {t:O4}:CoeFun (Rt X e t) λ_=>PU X e t:=⟨Rt.go⟩
abbrev PV(X:Cx)(st:Stmt)(t:FU):Prop:=∀(pins:List (Addr×Obj)) (s:Shared) (σ:St) (H:Hp) (D:Ends) (E:St->XK),Inv X pins σ H s->t E D σ H->wpAny (model X.prog X.w) X.A (exec st X.env) (SP X pins D) (VH X pins E) s
structure Ru(X:Cx)(st:Stmt)(t:FU):Prop where
 go:PV X st t
instance {X:Cx} {st:Stmt} {t:FU}:CoeFun (Ru X st t) λ_=>PV X st t:=⟨Ru.go⟩
abbrev Lp(X:Cx)(st:List Stmt)(t:FU):Prop:=∀(pins:List (Addr×Obj)) (s:Shared) (σ:St) (H:Hp) (D:Ends) (E:St->XK),Inv X pins σ H s->t E D σ H->wpAny (model X.prog X.w) X.A (execs st X.env) (SP X pins D) (VH X pins E) s
structure JX(X:Cx)(st:List Stmt)(t:FU):Prop where
 go:Lp X st t
instance {X:Cx} {st:List Stmt} {t:FU}:CoeFun (JX X st t) λ_=>Lp X st t:=⟨JX.go⟩
section
variable{X:Cx}{k:Nat}{f C:Addr}{fd:waT}{ps:List Str}{sp:Sp}{x m:Str}{p pos apos:Pos}{e o:Expr}{es:List Expr}{ta:TE}{t:TA}{st:Stmt}{rest:List Stmt}
theorem ML{α:Type}{M:Model}{A:Around}{m:Sem α}{Q:α->Shared->Prop}{E:Value->Shared->Prop}{s:Shared}(h:wpAny M A m Q (λ_ _=>False) s):wpAny M A m Q E s:=wb1 h (λ_ _ x=>x) λ_ _ z=>z.elim
theorem AP.fJ{E:Value->Shared->Prop}{Q:List V->Hp->Prop}(h:AP (X.n7 E) g σ Q us s'):AP X g σ Q us s':=by
 obtain⟨a,b,I,r,q⟩:=h;exact⟨a,b,I.fJ,r,q⟩
noncomputable def MM(C:Addr)(sp:Sp)(t:TA):O4:=λE σ H Q=>t σ H λvs H1=>∀x dx,H1 x=none->H1 dx=none->dx≠x ->
 sp (.ref x::vs) (upd (upd H1 dx (.own x)) x (.ins C dx [])) (λv H2=>v=.non/\Q (.ref x) H2) E
theorem GY(M:Mk X.K C f)(F:aO X.prog X.w X.K X.mg X.base (Bd X.prog X.w) k f fd ps sp)(J:d2 (k+1) X.A)(T:Gl X x)(U:X.mg x=some (.ref C))(hb:Binds X.K fd ps [])
 (ha:PA X.L7 (e::es) t) (l:(x==("__debug__":Str))=false:=by decide) (he:starEach (e::es) X.env=(false,eval e X.env)::starEach es X.env:=by rfl) (hpl:(backTo pos (starEach es X.env)).any (·.1)=false:=by rfl) :
 Rt X (.Call (.Name x p) (e::es) [] pos) (MM C sp t):=by
 refine⟨?_⟩;intro d s σ H Q E I h;refine wbt (g9 I T U ?_ l);refine wcp (h₀:=X.base) I.ok.mod.L5 M.kp (ML (bI (ha pos d s σ H _ (I.n7 _) h) λc b o=>?_)) he hpl;obtain⟨y,N,g,r,q⟩:=o.fJ;refine⟨g.hE,?_⟩;have m:=q (b.heap.objs.size+1) b.heap.objs.size (g.b7.fresh (wcb _)) (g.b7.fresh (wab _)) (wat (wbJ _));have j:=Inv.made (C:=C) g;have n:Vals (V.ref (b.heap.objs.size+1)::y) (waj (b.heap.objs.size+1)::c):=.cons rfl r
 have hl:(waj (b.heap.objs.size+1)::c++[]).length=ps.length:=by
  have e:=n.length;rw[F.len _ _ _ _ m]at e;rw[waW];exact e.symm
 have i:=hb _ (waj (b.heap.objs.size+1)::c) j.hE hl;rw[waW]at i
 refine wd1 (zo (f:=f) g.hE M.makes M.init (beq_iff_eq.mp M.fn) (wc6 (F.run _ X.stack _ _ ⟨waj (b.heap.objs.size+1)::c,[]⟩ (waj (b.heap.objs.size+1)::c) _ _ E (J.make C c [])
  (j.Jt.make C c []) i n m) λr O a=>?_))
 cases r with
 |error e=>exact⟨_,_,j,a⟩
 |ok fl=>
  cases fl with
  |ret u=>
   obtain⟨v,z,B,D,G,L⟩:=j.after a;subst G;exact⟨D,⟨V.ref (b.heap.objs.size+1),z,B,rfl,L⟩⟩
  |next=>exact waU a
  |brk=>exact waU a
  |cont=>exact waU a
variable{te:O4}{i:Nat}{pos':Pos}{tx ty:FU}{tc:TT}{c:Expr}{a b:List Stmt}{ts:TS}
noncomputable def T7(te:O4)(i:Nat):FU:=λE D σ H=>te (E σ) σ H λv H1=>D.nx (σ.set i (some v)) H1
theorem JY(g:X.N.Nodup)(hi:X.N[i]?=some x)(j:Loc X.env.scope x)(he:Rt X e te)(hs:wc1 e (some (.Name x pos')) pos.line X.env=pure false:=by rfl)(l:X.fn x=true\/X.env.scope.names.lookup x=some .local:=by first |exact .inl rfl |exact .inr rfl |assumption) :
 Ru X (.Assign [.Name x pos'] e pos) (T7 te i):=by
 refine⟨?_⟩;intro a s σ H D E I h;refine wdY (wb1 (he a s σ H _ (E σ) I h) (λv b ⟨y,c,d,f,k⟩=>?_) λn b z=>⟨σ,z⟩) hs;exact j7 d g hi j f (λo m=>⟨_,c,m,k⟩) l
theorem GZ(g:Ru X st tx):JX X [st] tx:=by
 refine⟨?_⟩;intro a s σ H D E I h;refine wcM (wb1 (g a s σ H D E I h) (λf b q=>?_) λ_ _ z=>z)
 cases f with
 |next=>exact wce q
 |ret v=>exact q
 |brk=>exact q
 |cont=>exact q
end
section
variable{M:Model}{A:Around}{E:Value->Shared->Prop}{s:Shared}{e C CB:Addr}{od:Option Addr}{lo:Nat}{H:Hp}
theorem tN{Q:Unit->Shared->Prop}(F:Ja lo H s.heap e C od)(h:∀h',Ja lo H h' e C od->(∀b o,s.heap.get? b=some o->(b<lo\/H b≠none)->h'.get? b=some o)->Q () {s with heap:=h'}) :
 wpAny M A (wfM (.ref e) none) Q E s:=by
 obtain⟨g,i,p,sl,n,j,f⟩:=F;unfold wfM;rcases f with f |⟨T,v,u,r,a,k,l,t,d,f⟩
 ·refine wa6 (we3 n rfl f ?_);rw[if_neg (by decide)];exact wax (h _ ⟨g,i,p,sl,n,j,.inl f⟩ λb o q _=>q)
 ·have c:3<u.size:=(weV.mp f).1;refine wa6 (we3 n rfl r ?_);rw[if_pos (show (waj T != wbz)=true from by simp)];refine weK t d c (h _ ⟨g,i,p,sl,?_,j,.inr ⟨T,_,_,r,a,k,l,wbB _ t (wef (wd5 d _)),wd5 d _,by simp[c]⟩⟩ λb o q m=>?_)
  ·exact(waL _ _ l).trans n
  ·refine(waL _ _ ?_).trans q;rintro rfl;rcases m with m |m
   ·exact absurd (war m a) (wb7 _)
   ·exact m k
variable{nm q Ln qB:Str}{N NB:Addr}{bs bsB:List Value}{hdct hdB:Bool}{sn snB:List Str}{sub subB:List Value}{ab abB:Bool}{col Y6:Option Bool}{dd ddB:Option Addr}{k0 k1 k2 k3 k5 l0 l1 l2 l3 l5:Option Value}
end
noncomputable abbrev Cx.marked(X:Cx)(e:Addr):Cx:={X with A:=X.A.mark (some (.ref e)),calm:=false}
section
variable{X:Cx}{pins:List (Addr×Obj)}{σ:St}{H:Hp}{s:Shared}{e:Addr}
theorem Cx.Ok.marked(ok:X.Ok):(X.marked e).Ok:=
 ⟨ok.mod,ok.kind,ok.glob,ok.blt,ok.above,ok.inj,ok.has,ok.M5,λz=>Bool.noConfusion z,ok.frames,ok.NW,ok.Rh,ok.bs,ok.G2,ok.Bf,ok.Eh,ok.nU,ok.Jk⟩
theorem Inv.marked(I:Inv X pins σ H s):Inv (X.marked e) pins σ H s:=⟨I.ok.marked,I.os,I.bare,I.base,I.loc,I.cell,I.free,I.j6,I.pin,I.b7,I.len⟩
theorem Inv.unmarked(ok:X.Ok)(I:Inv (X.marked e) pins σ H s):Inv X pins σ H s:=⟨ok,I.os,I.bare,I.base,I.loc,I.cell,I.free,I.j6,I.pin,I.b7,I.len⟩
theorem Inv.BW{l g:Hp}{j s1:Shared}{h':Heap}(C:Inv X pins σ l j)(r:s1.os=j.os)(bare:AllBare s1.gens)(un:Un (qF X.stack) [] l g j.heap s1.heap)(b7:jx X.prog X.w g s1.heap)
 (p:EH j.heap.objs.size g (qF X.stack) s1.heap h') (t:∀b∈qF X.stack,g b=none):Un (qF X.stack) [] l g j.heap h'/\jx X.prog X.w g h'/\∀tk,Inv X pins σ g {s1 with heap:=h',toks:=tk}:=by
 have e:Un (qF X.stack) [] l g j.heap h':=by
  refine⟨λb o d n a f=>p.keep b o (un.keep b o d n a f) (.inl (wag d)) a,λb o d n a f=>?_,un.free,λb o d f=>?_,un.sR,un.rS,un.sS⟩
  ·obtain⟨sl,h⟩:=un.slot b o d n a f;obtain⟨i,k⟩:=p.slot b _ h a;exact⟨i,k⟩
  ·obtain⟨m,h⟩:=un.there b o d f
   by_cases q:b∈qF X.stack
   ·obtain⟨sl,k⟩:=p.slot b m h q;exact⟨_,k⟩
   ·exact⟨m,p.keep b m h (.inl (wag d)) q⟩
 have c:=b7.past p t;exact⟨e,c,λtk=>C.wA (s':={s1 with heap:=h',toks:=tk}) r e c bare λb z=>absurd z (by simp)⟩
end
structure Hc(K:wa2)(CB:Addr)(nm:Str):Prop where
 lk:∃(q:Str) (N:Addr) (bs:List Value) (hd:Bool) (sn:List Str) (sub:List Value) (ab:Bool) (col:Option Bool) (dd:Option Addr) (k0 k1 k2 k3 k5:Option Value),
  K.lookup CB=some (wbr nm q CB N bs Rp hd sn sub ab col dd k0 k1 k2 k3 k5 "ValueError.__new__")
section
variable{X:Cx}{CB:Addr}{Ln n x VI:Str}{body:List Stmt}{tb:FU}{i j:Nat}{p1 p2 p3 p4 MN pos:Pos}
end
open PySem.W (Looks looks_findIn looks_typeIn looks_find looks_hook looks_mroIn findIn clsIn specialIn takesIn mroIn typeIn subIn InstAt KitX kitOne kitCls kia_one findObj findObj_data class_get handed_on handedOut_of)
open Builtin Builtin.ObjectAttr
theorem dX.ne{K:wa2}{C D CB j:Addr}{nm g:Str}(U:dX K C CB nm)(l:dX K D j g)(h:¬nm=g):C≠D:=λe=>by
 subst e;obtain⟨q,N,bs,r,sub,ab,d,s,t,u,v,w,x,l1⟩:=U.lk;obtain⟨y,z,f,i,b,k,c,m,A,n,B,E,G,a⟩:=l.lk;rw[l1]at a;have:=congrArg (λo=>match o with |some (⟨_,_,.cls p,_⟩:Obj)=>p.name |_=>nm) a;exact h this
theorem dX.neT{K:wa2}{C CB g:Addr}{nm j:Str}(U:dX K C CB nm)(T:Hc K g j)(h:¬nm=j):C≠g:=λe=>by
 subst e;obtain⟨q,N,bs,r,sub,ab,d,s,t,u,v,w,x,l1⟩:=U.lk;obtain⟨y,z,f,i,k,b,l,c,m,A,n,B,D,E,a⟩:=T.lk;rw[l1]at a;have:=congrArg (λo=>match o with |some (⟨_,_,.cls p,_⟩:Obj)=>p.name |_=>nm) a;exact h this
section
variable{prog:wap}{w:World}{A:Around}{E:Value->Shared->Prop}{s:Shared}{K:wa2}{x C CB D:Addr}{nm PX VI:Str}{od:Option Addr}
structure Hd(K:wa2)(C:Addr):Prop where
 ha:findIn K (.ref C) "__class__"=some (some (.builtin "object.__class__"))
 hn:weQ K (.builtin "object.__class__") "__get__"=some (some (.builtin "getset_descriptor.__get__"))
 pF:takesIn K (.builtin "object.__class__")=some true
end
section
variable{X:Cx}
end
end L2
namespace L2
open PySem
end L2
namespace Sx
open PySem L2 Bs
theorem PY:waQ "int"=some (.type "int"):=by decide+kernel
theorem PZ:waQ "dict"=some (.type "dict"):=by decide+kernel
theorem Lq:waQ "bool"=some (.type "bool"):=by decide+kernel
theorem BX:waQ "sum"=some (.builtin "sum"):=by decide+kernel
theorem MO:waQ "min"=some (.builtin "min"):=by decide+kernel
structure T8(K:wa2)(C CB:Addr)(nm:Str):Prop where
 lk:∃(q:Str) (N:Addr) (bs:List Value) (sn:List Str) (sub:List Value) (ab:Bool) (col:Option Bool) (dd:Option Addr) (k0 k1 k2 k3 k5:Option Value),
  K.lookup C=some (wbr nm q C N bs (nr CB) true sn sub ab col dd k0 k1 k2 k3 k5 "ValueError.__new__")
theorem JZ
 (l:K.lookup C=some (wbr nm q C N bs (nr CB) true sn sub ab col dd k0 k1 k2 k3 k5 "ValueError.__new__")):T8 K C CB nm:=⟨q,N,bs,sn,sub,ab,col,dd,k0,k1,k2,k3,k5,l⟩
theorem K0
 (l:K.lookup CB=some (wbr nm q CB N bs Rp hd sn sub ab col dd k0 k1 k2 k3 k5 "ValueError.__new__")):Hc K CB nm:=⟨q,N,bs,hd,sn,sub,ab,col,dd,k0,k1,k2,k3,k5,l⟩
end Sx
namespace Sx
open PySem PySem.Spec PyProof.Rows L2
open PySem.W (clsIn mroIn typeIn subIn kitOne kitCls)
section
variable{K:wa2}{C CB D:Addr}{nm PX VI:Str}
end
end Sx
namespace AC
section
variable{W:List (List Nat)}{P:List Nat->Bool}{l m p q u:List Nat}{c:Nat}
def Good(W:List (List Nat))(l:List Nat):Prop:=∀w∈W,¬w <:+: l
def Pl(W:List (List Nat))(p:List Nat):Prop:=p=[]\/((∃w∈W,p <+: w/\p.length<w.length)/\Good W p)
theorem Good.sub(h:Good W l)(hs:m <:+: l):Good W m:=λw hw hi=>h w hw (hi.trans hs)
theorem Pl.init(h:Pl W (u++[c])):Pl W u:=by
 rcases h with h |⟨⟨w,hw,a,hl⟩,b⟩
 ·simp at h
 ·by_cases e:u=[]
  ·exact .inl e
  ·refine .inr ⟨⟨w,hw,(wdO u [c]).trans a,?_⟩,b.sub (wdO u [c]).isInfix⟩;rw[wa7]at hl;simp at hl
   lia
noncomputable def jG(P:List Nat->Bool):List Nat->List Nat
 |[]=>[]
 |a::l=>if P (a::l)=true then a::l else jG P l
theorem jc:∀l,jG P l <:+ l
 |[]=>wfo _
 |a::l=>by
  unfold jG;split
  ·exact wfo _
  ·exact(jc l).trans (List.suffix_cons a l)
theorem tO(h0:P []=true):∀l,P (jG P l)=true
 |[]=>h0
 |a::l=>by
  unfold jG;split
  ·assumption
  ·exact tO h0 l
theorem jd(g:P q=true):∀{l},q <:+ l->q <:+ jG P l
 |[],h=>h
 |a::l,h=>by
  unfold jG;split
  ·exact h
  ·rename_i hn;rcases List.suffix_cons_iff.mp h with e |h
   ·grind
   ·exact jd g h
theorem He(g:p <:+ q)(j:q <:+ p):p=q:=g.eq_of_length (whn g.length_le j.length_le)
theorem zL:∀{q l:List Nat},q <:+ l++[c]->q=[]\/∃u,q=u++[c]/\u <:+ l:=λ{q l} h=>by
 rcases wg9 q with e |⟨u,d,e⟩
 ·exact .inl e
 ·right
  rw[List.concat_eq_append]at e;obtain⟨t,a⟩:=h;subst e;rw[<-waP]at a;have b:=whe a rfl;have hd:d=c:=by grind
  exact⟨u,by rw[hd],t,b.1⟩
theorem BZ(h:w <:+: l++[c]):w <:+: l\/w <:+ l++[c]:=by
 obtain⟨a,b,e⟩:=h;rcases wg9 b with f |⟨g,d,f⟩
 ·grind
 ·grind [whe]
theorem EI(r:∀x,P x=true↔Pl W x)(j:Good W l)(g:∀w∈W,w≠[]):Good W (jG P l++[c])↔Good W (l++[c]):=by
 have f:=jc (P:=P) l;constructor
 ·intro h w hw hi;rcases BZ hi with z |z
  ·exact j w hw z
  ·rcases zL z with e |⟨u,rfl,d⟩
   ·exact g w hw e
   ·have a:Pl W u:=by
     by_cases e:u=[]
     ·exact .inl e
     ·exact .inr ⟨⟨_,hw,wdO u [c],by simp⟩,j.sub d.isInfix⟩
    have:=jd ((r u).mpr a) d;obtain⟨t,b⟩:=this;exact h _ hw (show u++[c] <:+ jG P l++[c] from ⟨t,by rw[<-waP,b]⟩).isInfix
 ·intro h;obtain⟨t,b⟩:=f;exact h.sub (show jG P l++[c] <:+ l++[c] from ⟨t,by rw[<-waP,b]⟩).isInfix
theorem C0(g:∀x,P x=true↔Pl W x)(j:Good W l):jG P (jG P l++[c])=jG P (l++[c]):=by
 have d:=jc (P:=P) l;have h0:P []=true:=(g []).mpr (.inl rfl)
 have b:jG P l++[c] <:+ l++[c]:=by
  obtain⟨t,f⟩:=d;exact⟨t,by grind⟩
 refine He (jd (tO h0 _) ((jc _).trans b)) (jd (tO h0 _) ?_);rcases zL (jc (P:=P) (l++[c])) with e |⟨u,e,h⟩
 ·rw[e];exact List.nil_suffix
 ·have a:=(g _).mp (tO h0 (l++[c]));rw[e]at a ⊢;obtain⟨t,f⟩:=jd ((g u).mpr a.init) h;exact⟨t,by grind⟩
end
end AC
namespace Bs
open PySem AC
theorem pQ(x y:Str)(i:Nat):wgW x y i=true↔((ch x).drop i).take y.length=ch y:=by
 unfold wgW;rw[beq_iff_eq];constructor
 ·intro h;have:=congrArg Array.toList h;rw[wgn,wf9,wck]at this;exact this
 ·intro h;refine wfn.mp ?_;rw[wgn,wf9,wck];exact h
theorem K1(y x:Str):Mx y x=true↔ch y <:+: ch x:=by
 unfold Mx;rw[StrLaws.found_iff];constructor
 ·grind [pQ,wfp,List.drop_suffix]
 ·rintro⟨a,b,e⟩;refine⟨a.length,?_,(pQ x y _).mpr ?_⟩
  ·rw[<-aR x,<-e,wa7,wa7,aR];lia
  ·rw[<-e,waP,List.drop_left,<-aR y,List.take_left]
noncomputable def wl(ws:List Str):List (List Nat):=ws.map ch
theorem dg(ws:List Str)(r:Str):bears ws r=false↔Good (wl ws) (ch r):=by simp_all [bears,Good,wl,wgS,K1,ch]
theorem iO(w:Str)(n:Nat):ch (bG w n)=(ch w).take n:=zE w n
theorem hO(w:Str)(n:Nat):ch (bW w n)=(ch w).drop n:=tI w n
theorem yn:k∈pO ws g b↔k∈g\/(k=b/\bears ws b=false):=by
 unfold pO yk
 by_cases a:bears ws b=true
 ·grind
 ·grind
theorem o8:∀n,k∈upTo ws w g n↔k∈g\/∃i,i<n/\k=bG w (1+i)/\bears ws k=false
 |0=>by
  show k∈g↔_;simp
 |n+1=>by
  rw[fL,yn,o8 n];constructor
  ·grind
  ·grind
theorem j0(us:List Str):k∈bo ws e us↔k=e\/∃w∈us,∃i,i<w.length-1/\k=bG w (1+i)/\bears ws k=false:=by
 have key:∀(us b:List Str),k∈us.foldl (addW ws) b↔k∈b\/∃w∈us,∃i,i<w.length-1/\k=bG w (1+i)/\bears ws k=false:=by
  intro us
  induction us with
  |nil=>intro b;simp
  |cons w us d=>
   intro b;rw[wdw,d];unfold addW;rw[o8];constructor
   ·rintro((h |⟨i,h⟩) |⟨c,a,h⟩)
    ·exact .inl h
    ·exact .inr ⟨w,wad ..,i,h⟩
    ·exact .inr ⟨c,wac _ a,h⟩
   ·rintro(h |⟨c,a,h⟩)
    ·exact .inl (.inl h)
    ·rcases waD.mp a with rfl |a
     ·exact .inl (.inr h)
     ·exact .inr ⟨c,a,h⟩
 unfold bo;rw[key];simp
theorem mem_keys:k∈bo ws "" ws↔Pl (wl ws) (ch k):=by
 rw[j0];constructor
 ·rintro(rfl |⟨w,hw,i,hi,e,a⟩)
  ·exact .inl rfl
  ·right
   refine⟨⟨ch w,waa.mpr ⟨w,hw,rfl⟩,?_,?_⟩,(dg ws k).mp a⟩
   ·rw[e,iO];exact wfp _ _
   ·rw[e,iO,wak,aR];omega
 ·rintro(h |⟨⟨v,b,c,hl⟩,d⟩)
  ·exact .inl (cm h)
  ·by_cases h0:ch k=[]
   ·exact .inl (cm h0)
   obtain⟨w,hw,rfl⟩:=waa.mp b
   right
   rw[aR,aR]at hl;have f:k.length≠0:=λz=>h0 (pM z);refine⟨w,hw,k.length-1,by omega,cm ?_,(dg ws k).mpr d⟩;rw[iO,show 1+(k.length-1)=k.length by omega,<-aR k];exact(List.prefix_iff_eq_take.mp c)
noncomputable def Q0(ss:List Str)(l:List Nat):Bool:=decide (l∈ss.map ch)
theorem jH:Q0 ss (ch k)=true↔k∈ss:=by
 unfold Q0;rw[decide_eq_true_iff];constructor
 ·grind [cm]
 ·grind
theorem Hf(g:ss.Perm (bo ws "" ws))(l:List Nat):Q0 ss l=true↔Pl (wl ws) l:=by
 have e:ch ⟨l.toArray⟩=l:=rfl;rw[<-e,jH,g.mem_iff,mem_keys]
theorem xc{P:List Nat->Bool}(h0:P []=true):∀{l:List Nat} {n:Nat},P (l.drop n)=true->(∀m,m<n->P (l.drop m)=false)->jG P l=l.drop n
 |[],n,_,_=>by simp[jG]
 |a::l,0,b,_=>by
  unfold jG;rw[wdW]at b;rw[if_pos b];rfl
 |a::l,n+1,b,c=>by
  have:=c 0 (by lia);rw[wdW]at this;unfold jG;rw[this,if_neg (by simp),List.drop_succ_cons];exact xc h0 (by grind) λm d=>by grind
theorem jI(he:("":Str)∈ss)(r:Str):ch (lend ss r)=jG (Q0 ss) (ch r):=by
 have c:∃n,n<=r.length/\bW r n∈ss/\∀m,m<n->bW r m∉ss:=by
  have f:∃n,bW r n∈ss:=⟨r.length,by rw[mw];exact he⟩
  have key:∀k,(∃n,n<k/\bW r n∈ss/\∀m,m<n->bW r m∉ss)\/∀m,m<k->bW r m∉ss:=by
   intro k
   induction k with
   |zero=>right;intro m a;lia
   |succ k d=>
    rcases d with⟨n,hn,h⟩ |h
    ·exact .inl ⟨n,by lia,h⟩
    ·by_cases hk:bW r k∈ss
     ·exact .inl ⟨k,by lia,hk,h⟩
     ·right
      intro m a
      by_cases e:m=k
      ·rw[e];exact hk
      ·exact h m (by lia)
  rcases key (r.length+1) with⟨n,hn,h⟩ |h
  ·exact⟨n,by lia,h⟩
  ·exact absurd (by rw[mw];exact he) (h r.length (by lia))
 obtain⟨n,hn,a,hl⟩:=c;unfold lend;rw[tL a hl hn,hO];refine(xc (jH (k:="").mpr he) ?_ λm b=>?_).symm
 ·rw[<-hO];exact jH.mpr a
 ·rw[<-hO];have:=hl m b;rw[<-jH]at this;simpa using this
section
variable{ws ss:List Str}{r:Str}{c:Nat}
theorem kY(he:("":Str)∈ss):lend ss ""="":=by
 refine cm ?_;rw[jI he];rfl
theorem i5(g:ss.Perm (bo ws "" ws))(j:bears ws r=false):lend ss (lend ss r++⟨#[c]⟩)=lend ss (r++⟨#[c]⟩):=by
 have a:("":Str)∈ss:=g.mem_iff.mpr (bb ws);refine cm ?_;rw[jI a,aJ,jI a,jI a,aJ];exact C0 (Hf g) ((dg ws r).mp j)
theorem fN(g:ss.Perm (bo ws "" ws))(j:bears ws r=false)(hw:∀w∈ws,1<=w.length):bears ws (lend ss r++⟨#[c]⟩)=bears ws (r++⟨#[c]⟩):=by
 have b:("":Str)∈ss:=g.mem_iff.mpr (bb ws)
 have a:∀w∈wl ws,w≠[]:=by
  intro w d z;obtain⟨v,e,rfl⟩:=waa.mp d;have:=hw v e;rw[<-aR,z]at this;simp at this
 have:=EI (c:=c) (Hf g) ((dg ws r).mp j) a;rw[show [c]=ch (⟨#[c]⟩:Str) from rfl,<-jI b,<-aJ,<-aJ,<-dg,<-dg]at this;cases f:bears ws (lend ss r++⟨#[c]⟩)<;>cases h:bears ws (r++⟨#[c]⟩)<;>simp[f,h]at this ⊢
theorem dI(h:ch a <:+: ch b)(g:bears ws b=false):bears ws a=false:=(dg ws a).mpr (((dg ws b).mp g).sub h)
end
end Bs
namespace L2
open PySem PySem.Spec PyProof.Rows
section
variable{X:Cx}
theorem zM:dA X (.type "range") (λxs H Q=>∃j:Int,xs=[.int j]/\∀p,H p=none->Q (.ref p) (upd H p (.rng 0 j))):=by
 intro a s σ H xs c Q I r h;obtain⟨j,rfl,q⟩:=h;obtain⟨u,rfl,t,rfl⟩:=vals1 r;refine call_range_1 ⟨.ref s.heap.objs.size,_,I.laid (λb ob q=>wa9 _ q) (wab _) (show bP X.prog X.w _ _ _ (.rng 0 j) from ⟨_,_,_,waw _ rfl⟩),rfl,q _ (I.b7.fresh (wab _))⟩
theorem C3(hc:X.calm=true):dA X (.type "list") (λxs H Q=>∃(p:Addr) (n:Nat),xs=[.ref p]/\H p=some (.rng 0 (n:Int))/\n<=sizeLine/\∀l,H l=none->Q (.ref l) (upd H l (.lst ((waI n).map λi=>V.int (i:Nat))))):=by
 intro m s σ H xs b Q I r h;obtain⟨p,n,rfl,x,hn,q⟩:=h;obtain⟨u,rfl,y⟩:=vals1 r;cases y;obtain⟨t,u,v,e⟩:=I.b7 p _ x;have f:n<=2^24:=by rw[wc5]at hn;lia
 refine call_list_range (I.ok.hd hc) (n:=n) (show IsRange s.heap p 0 (n:Int) 1 t u v from e) (small_one (by lia) (by lia) (by lia) (by lia)) (by rw[rangeSize_one];split<;>lia) f λg z d c kp A a=>?_
 have B:∀(b:List Value) (k:Nat),(∀(j:Nat) (u:Value),b[j]?=some u->∃t,u=.int ((k+j:Nat):Int) t)->Vals ((wfW k b.length).map λi=>V.int (i:Nat)) b:=by
  intro b
  induction b with
  |nil=>intro k _;exact .nil
  |cons u b C=>
   intro k h;obtain⟨t,e⟩:=h 0 u rfl;rw[waF,whf,wao];refine .cons ⟨t,e⟩ (C (k+1) λj u g=>?_);obtain⟨t,e⟩:=h (j+1) u (by simpa using g);exact⟨t,by rw[e];congr 1;lia⟩
 have hl:d.toList.length=n:=by rw[wcl];exact a.1
 have o:=B d.toList 0 λj u e=>by
  obtain⟨t,D⟩:=a.2 j u (by rw[<-wca];exact e);exact⟨t,by rw[D];congr 1;lia⟩
 rw[hl,<-List.range_eq_range']at o;refine⟨.ref s.heap.objs.size,_,I.laid (t':=z) kp (wab _) (show bP X.prog X.w _ g _ (.lst ((waI n).map λi=>V.int (i:Nat))) from ⟨?_,d.toList,c,o,?_⟩),rfl,q _ (I.b7.fresh (wab _))⟩
 ·rw[wa0,waO];exact hn
 ·rw[wdo];exact A
end
noncomputable def Hg(z:Str):It:=⟨λi _=>i<z.cps.size,λi H x H'=>∃T,H T=none/\x=.ref T/\H'=upd H T (.tup [.int (i:Nat),wM z i]),λi _=>z.cps.size<=i⟩
theorem C4{P:wap}{w:World}{K:wa2}{j:List Expr}{k:Nat}{pos:Pos}(z:Str)(t:Tok)(nm:String)(e it:Addr)(g:e≠it)
 (D:∀A:Around,A.handled=none->Draws P w A it [it] z.cps.size (λi v=>∃c u,z.cps[i]?=some c/\v=.str ⟨#[c]⟩ u) (λi h=>h.IsStrIter it nm z t i)) :
 Turn P w K (.Tuple j k pos) (Hg z) [e,it] e (λi h=>((∃old,IsEnum h e it (i:Nat) old)/\h.IsStrIter it nm z t i)/\i<=z.cps.size) where
 mem:=by simp
 obj:=λi h st b f=>by
  obtain⟨⟨⟨old,a⟩,o,l,hc,hd⟩,_⟩:=st;rcases waD.mp f with rfl |f
  ·exact⟨_,a,λv z=>by
    have T:wfN _=wgF v:=z
    cases T⟩
  ·have B:b=it:=by simpa using f
   subst B;exact⟨o,l,λv z=>by rw[hd]at z;cases z⟩
 keep:=λi h R st k=>⟨⟨st.1.1.imp λold a=>k e (by simp) _ a,let ⟨o,l,r⟩:=st.1.2;⟨o,k it (by simp) o l,r⟩⟩,st.2⟩
 item:=by
  intro X C hw G hc i m s σ H E I J st L;subst C hw G;obtain⟨⟨⟨old,a⟩,hit⟩,_⟩:=st;have n:i<z.cps.size:=L;refine wfy (D X.A.in1 (I.ok.hd hc)) a hit n g (by simpa using g) λu R U V l p Y Z hk=>?_;obtain⟨c,S,M,rfl⟩:=V
  have ru:RelV (wM z i) (.str ⟨#[c]⟩ S):=⟨S,by
   rw[wcq,M]
   rfl⟩
  refine⟨_,rfl,wdt l λVr N d=>?_⟩;obtain⟨_,O,_⟩:=id hit;have x:e<s.heap.objs.size:=wag a;obtain⟨fr,I1,hn⟩:=tH (y:=.int (i:Nat)) (U+1) I J (λb o h q=>(d.2 b (yg h).1).trans (hk b o (yg h).1 (yg h).2 q)) ((d.2 _ (wc4 x)).trans Y) ⟨_,rfl⟩ ru (Mw x (wag O));obtain⟨o,Q,r⟩:=p;exact⟨.ref s.heap.objs.size,_,I1,rfl,⟨s.heap.objs.size,fr,rfl,rfl⟩,⟨⟨⟨_,by simpa using N⟩,⟨o,(d.2 it (wbs g)).trans Q,r⟩⟩,n⟩,hn⟩
 done:=by
   intro X C hw G hc i m s σ H E I J st L;subst C hw G;obtain⟨⟨⟨old,a⟩,hit⟩,hle⟩:=st;have MF:z.cps.size<=i:=L;have B:i=z.cps.size:=by lia
   subst B;obtain⟨g0,g1,g2,g3,g4,g5⟩:=J it (by simp);exact wfX (D X.A.in1 (I.ok.hd hc)) a hit λR eb=>⟨rfl,I.turned (t':=s.toks) (λb o f e=>eb b o f e) g0 g1 g3 g4 g5⟩
 self:=λ_ _ _ _ _ st h=>let ⟨⟨⟨_,a⟩,_⟩,_⟩:=st;wcC a h
section
variable{X:Cx}
def MP(ta:TA):TI:=λσ H R=>ta σ H λvs H1=>∃z,vs=[.str z]/\R (Hg z) H1
theorem tP{g:List Expr}{k:Nat}{j:Pos}{l:Expr}{C:TA}{p pos:Pos}(J:Gl X "enumerate")(T:X.mg "enumerate"=none)(ha:PA X [l] C)(hs:starEach [l] X.env=[(false,eval l X.env)]:=by rfl) :
 PI X (.Tuple g k j) (.Call (.Name "enumerate" p) [l] [] pos) (MP C):=by
 refine⟨?_⟩;intro d s σ H R I h;refine Call_ (ib I J T gG (wc2 (bI (ha pos d s σ H _ I h) λQ a ⟨S,B,o,G,L⟩=>?_) hs rfl));obtain⟨z,e,q⟩:=L;subst e;obtain⟨u,rfl,t,rfl⟩:=vals1 G;refine call_enumerate_str λr E hit M kp=>wcC E ?_;have N:Inv X d σ B {a with heap:=r}:=o.kept (t':=a.toks) kp
 have fin:∀n,(∀A:Around,A.handled=none->Draws X.prog X.w A a.heap.objs.size [a.heap.objs.size] z.cps.size (λi v=>∃c u,z.cps[i]?=some c/\v=.str ⟨#[c]⟩ u) (λi h=>h.IsStrIter a.heap.objs.size n z t i)) ->
  r.IsStrIter a.heap.objs.size n z t 0->OD X d σ (.Tuple g k j) R (.ref (a.heap.objs.size+1)) {a with heap:=r}:=by
  intro n D f;refine⟨a.heap.objs.size+1,[a.heap.objs.size+1,a.heap.objs.size],_,_,B,rfl,N,C4 z t n _ _ (wc4 (wbJ _)) D,⟨⟨⟨_,E⟩,f⟩,waJ _⟩,λb x=>?_,q⟩
  have m:a.heap.objs.size<=b:=by
   rcases waD.mp x with rfl |x
   ·exact wcb _
   ·have O:b=a.heap.objs.size:=by simpa using x
    subst O;exact wab _
  exact o.Bk m (o.b7.fresh m)
 cases ha:z.cps.all (· < 128)
 ·exact fin "str_iterator" (λA y=>Draws.strWide y _ z t) (by simpa [strIterType,ha] using hit)
 ·exact fin "str_ascii_iterator" (λA y=>Draws.strAscii y _ z t) (by simpa [strIterType,ha] using hit)
end
theorem pR{z:Str}{g:TG}{C:TS}{D:Ends}{σ:St}{H:Hp}(Pv:Nat->St->Hp->Prop)(h0:Pv 0 σ H)
 (hs:∀i c σ H T,(Bs.ch z)[i]?=some c->Pv i σ H->H T=none->g (.ref T) σ (upd H T (.tup [.int (i:Nat),.str ⟨#[c]⟩])) λj t=>C (D.lp (Pv (i+1))) j t) (hd:∀σ H,Pv z.length σ H->D.nx σ H) :
 ∃W:Nat->Nat->St->Hp->Prop,(∃m,W 0 m σ H)/\∀i m σ H,W i m σ H ->
  ((Hg z).stop i H/\D.nx σ H)\/((Hg z).go i H/\∃N:St->Hp->Prop,(∀l r,N l r->∃I,I<m/\W (i+1) I l r)/\∀x r,(Hg z).sX i H x r->g x σ r λj t=>C (D.lp N) j t):=by
 refine⟨λi m σ H=>m=z.length-i/\i<=z.length/\Pv i σ H,⟨z.length,by simp,waJ _,h0⟩,?_⟩;rintro i m σ H ⟨rfl,hi,p⟩
 by_cases a:i<z.length
 ·refine .inr ⟨a,Pv (i+1),λl r b=>⟨z.length-(i+1),by lia,rfl,a,b⟩,λx r y=>?_⟩;obtain⟨T,d,f,h⟩:=y;subst f h
  have hc:(Bs.ch z)[i]?=some (z.cps.getD i 0):=by
   have:i<z.cps.size:=a;rw[wca];simp[this]
  exact hs i _ σ _ T hc p d
 ·have e:i=z.length:=by lia
  subst e;exact .inl ⟨wab _,hd σ H p⟩
end L2
namespace Sx
open PySem L2
theorem Hh:waQ "max"=some (.builtin "max"):=by decide+kernel
theorem K2:waQ "range"=some (.type "range"):=by decide+kernel
end Sx
namespace Sx
open PySem L2 Bs
theorem C5(he:H e=none)(hd:(upd H e g) d=none):d≠e/\H d=none/\del (upd (upd (upd H e g) d o2) e o3) e=upd H d o2:=by grind [a6,ae,ym,BU,DK]
section
variable{P:wap}{w:World}{K:wa2}{mg:Str->Option Value}{base:Heap}{f:Addr}{fd:waT}
end
end Sx
namespace PySem.SeqAt
open AutoSeq1 (wpAny_loadPart')
open MeetsSeq
section
variable{A:Around}{s:Shared}
end
end PySem.SeqAt
namespace L2
open PySem PySem.Spec PyProof.Rows Sx
section
variable{X:Cx}
end
end L2
namespace L2
open PySem PySem.Spec PyProof.Rows
section
variable{X:Cx}
end
theorem C6(v:V):V.bl (decide (v=v))=V.bl true:=by simp
theorem tQ(v:V):V.bl (!decide (v=v))=V.bl false:=by simp
end L2
namespace Bs
open PySem AC
theorem iq(he:("":Str)∈ss)(r:Str):lend ss r∈ss:=by
 rw[<-jH,jI he];exact tO (jH (k:="").mpr he) _
theorem take_snoc(h:(ch r)[i]?=some c):bG r (i+1)=bG r i++⟨#[c]⟩:=by grind [cm,aJ,iO,waS]
theorem take_zero(r:Str):bG r 0="":=cm (by rw[iO];rfl)
theorem take_all(r:Str):bG r r.length=r:=cm (by rw[iO,<-aR,waG])
theorem o9(r:Str)(n:Nat):ch (bG r n) <:+: ch r:=by rw[iO];exact(wfp _ _).isInfix
theorem mx(hw:∀w∈ws,1<=w.length):bears ws ""=false:=by
 refine(dg ws "").mpr λw a hi=>?_;obtain⟨v,b,rfl⟩:=waa.mp a;have d:=hw v b;have c:=hi.length_le;rw[aR]at c;have:(ch ("":Str)).length=0:=rfl
 lia
end Bs
namespace L2
open PySem Bs
theorem yo(g:ss.Perm (bo ws "" ws))(hw:∀w∈ws,1<=w.length)(j:bears ws r=false) :
 pG ws ss (lend ss r) c=if bears ws (r++⟨#[c]⟩)=true then .non else .str (lend ss (r++⟨#[c]⟩)):=by grind [pG,fN,i5]
end L2
namespace Sx
open PySem L2 Bs
theorem eI(g:Str)(b d q:Addr):(BM g b d q).lookup ("signs":Str)=some (.str g):=by
 rw[<-EF,aC,if_neg (by decide+kernel),<-put3,aC,if_neg (by decide+kernel),<-put2,aC,if_neg (by decide+kernel),<-MD,aC,if_pos rfl]
section
variable{P:wap}{w:World}{K:wa2}{mg:Str->Option Value}{base:Heap}{f:Addr}{fd:waT}
inductive C7(C:Addr)(vs:List V)(H:Hp)(Q:VK)(dQ:XK):Prop
 |mk (x r g ws ss ls) (_:vs=[.ref x,.str r]) (_:aS C H x g ws ss ls) (_:(∀c∈ch r,c∈ch g)) (_:∀H',a7 H H'->Q .non H')
inductive EJ(C:Addr)(vs:List V)(H:Hp)(Q:VK)(dQ:XK):Prop
 |mk (x r g ws ss ls) (_:vs=[.ref x,.str r]) (_:aS C H x g ws ss ls) (_:(∀c∈ch r,c∈ch g)) (_:bears ws r=false) (_:(∀w∈ws,1<=w.length)) (_:∀H',a7 H H'->Q (.str (lend ss r)) H')
end
end Sx
namespace L2
open PySem PySem.Spec PyProof.Rows
section
variable{X:Cx}
end
end L2
namespace Bs
open PySem
theorem len_app(a b:Str):(a++b).length=a.length+b.length:=by grind [aR,aJ]
def T9(g r:Str):Prop:=∀c∈ch r,c∈ch g
end Bs
namespace Sx
open PySem L2 Bs
theorem none_of(s:a7 H g)(h:g d=none):H d=none:=by
 cases q:H d with
 |none=>rfl
 |some o=>rw[s _ _ q]at h;cases h
end Sx
namespace Bs
open PySem
end Bs
namespace Sx
open PySem L2 Bs
theorem zN(g:Str)(b d q:Addr):(BM g b d q).lookup ("barred":Str)=some (.ref b):=by
 rw[<-EF,aC,if_neg (by decide+kernel),<-put3,aC,if_neg (by decide+kernel),<-put2,aC,if_pos rfl]
end Sx
namespace L2
open PySem
end L2
namespace L2
open PySem PySem.Spec PyProof.Rows
section
variable{P:wap}{w:World}{K:wa2}{mg:Str->Option Value}{base:Heap}{x qual:Str}{st:Stmt}{f:Addr}{fd:waT}{N ps:List Str}{k:Nat}{sp:Sp}
theorem zy.dq(F:zy K x qual st f fd)
 (l:∀(j:Value) (A:Around) (outer:List Env) (s:Shared) (H:Hp) (vs:List V) (Q:VK) (E:XK),N.Nodup->d2 k (A.deeper (envOfC qual (aD st) s.heap.objs.size f j))->sp vs H Q E ->
   ∃t,sy (t7 cP P w K mg base N qual (aD st) f j A outer s H E).L7 (bM st) t/\t (Ends.fn Q) (start N vs) H)
 (a:(aD st).kind=.function:=by rfl) (b:(aD st).isCoroutine=false:=by rfl) (c:(aD st).isGenerator=false:=by rfl) (nd:N.Nodup:=by decide+kernel) (e:N.take ps.length=ps:=by rfl)
 (g:∀x∈ps,(aD st).names.lookup x=some .local\/(aD st).names.lookup x=some .cell:=by decide+kernel) (h:∀y∈(aD st).names,y.2≠.free:=by decide+kernel)
 (len:∀vs H Q E,sp vs H Q E->vs.length=ps.length:=by intro _ _ _ _ h;cases h;subst_vars;rfl):aO P w K mg base cP (k+1) f fd ps sp:=
 F.ok ⟨a,b,c,nd,e,g,h⟩ len λj A outer s H vs Q E=>l j A outer s H vs Q E nd
theorem zy.EK(F:zy K x qual st f fd)
 (l:∀(j:Value) (A:Around) (outer:List Env) (s:Shared) (H:Hp) (vs:List V) (Q:VK) (E:XK),N.Nodup->d2 k (A.deeper (envOfC qual (aD st) s.heap.objs.size f j))->sp vs H Q E ->
   ∃t,sy (t7 (Bd P w) P w K mg base N qual (aD st) f j A outer s H E) (bM st) t/\t (Ends.fn Q) (start N vs) H)
 (a:(aD st).kind=.function:=by rfl) (b:(aD st).isCoroutine=false:=by rfl) (c:(aD st).isGenerator=false:=by rfl) (nd:N.Nodup:=by decide+kernel) (e:N.take ps.length=ps:=by rfl)
 (g:∀x∈ps,(aD st).names.lookup x=some .local\/(aD st).names.lookup x=some .cell:=by decide+kernel) (h:∀y∈(aD st).names,y.2≠.free:=by decide+kernel)
 (len:∀vs H Q E,sp vs H Q E->vs.length=ps.length:=by intro _ _ _ _ h;cases h;subst_vars;rfl):aO P w K mg base (Bd P w) (k+1) f fd ps sp:=
 F.Y5 ⟨a,b,c,nd,e,g,h⟩ len λj A outer s H vs Q E=>l j A outer s H vs Q E nd
end
section
variable{X:Cx}
theorem ai(F:aO X.prog X.w X.K X.mg X.base cP k f fd ps sp)(a:FnAt X.K X.mg x sm ps f fd)(ha:PA X (e::j) t)(r:d2 k X.A:=by exact d2.mono (by assumption) (by decide))(C:Gl X x:=by rfl)(l:(x==("__debug__":Str))=false:=by decide)
 (he:starEach (e::j) X.env=(false,eval e X.env)::starEach j X.env:=by rfl) (hpl:(backTo pos (starEach j X.env)).any (·.1)=false:=by rfl):PE X (.Call (.Name x p) (e::j) [] pos) (Lb sp [] E0 t):=
 jC F r C a.g a.F.kp a.b .nil o1 ha l he hpl
theorem ag{i:Nat}{x:Str}{e:Expr}{j:TE}{g:Pos}(he:PE X e j)(l:X.N.Nodup:=by assumption)(hi:X.N[i]?=some x:=by rfl)(p:Loc X.env.scope x:=by first |exact wd3 rfl |exact Or.inr rfl)(hs:wc1 e (some (.Name x g)) pos.line X.env=pure false:=by rfl)
 (r:X.fn x=true\/X.env.scope.names.lookup x=some .local:=by first |exact .inl rfl |exact .inr rfl |assumption):PS X (.Assign [.Name x g] e pos) (Jn j (eV i)):=
 G9 l hi p he hs r
theorem ax{i:Nat}{x:Str}(g:X.N.Nodup:=by assumption)(hi:X.N[i]?=some x:=by rfl)(j:Loc X.env.scope x:=by first |exact wd3 rfl |exact Or.inr rfl)(l:X.fn x=true\/X.env.scope.names.lookup x=some .local:=by first |exact .inl rfl |exact .inr rfl |assumption):PG X (.Name x pos) (eV i):=
 jy g hi j l
end
section
variable{X:Cx}
theorem jJ:∀{ns:List Int} {g:List Value},Vals (ns.map V.int) g->∃xs:List (Int×Tok),g=xs.map (λp=>wfD p.1 p.2)/\xs.map (·.1)=ns
 |[],g,r=>by cases r;exact⟨[],rfl,rfl⟩
 |n::ns,g,r=>by
  cases r with
  |cons h t=>
   obtain⟨a,rfl⟩:=h;obtain⟨xs,rfl,e⟩:=jJ t;exact⟨(n,a)::xs,rfl,by grind⟩
theorem je(hc:X.calm=true):dA X (.builtin "sum") (λxs H Q=>∃p ns,xs=[.ref p]/\aE X.K H p (wcA V.int ns)/\Q (.int ns.sum) H):=by
 intro b s σ H xs j Q I r h;obtain⟨p,ns,rfl,d,q⟩:=h;obtain⟨u,rfl,f⟩:=vals1 r;cases f;obtain⟨a,g,pl,k⟩:=I.list d;obtain⟨c,e,rfl⟩:=jJ g
 have hl:s.heap.IsList p (intItems c.toArray):=by
  have:intItems c.toArray=a.toArray:=by rw[e];unfold intItems;simp
  rw[this];exact pl.isList
 refine sum_intListG (I.ok.hd hc) hl λl m i hk=>?_;refine⟨.int _,H,I.kept hk,⟨i,?_⟩,q⟩;rw[preSum_eq,wbv (by simp)]
end
theorem Inv.freeze{X:Cx}(I:Inv X g σ H s)(e:H d=some (.dK kvs)):∃o,s.heap.get? d=some o/\Inv X g σ (upd H d (.frz o (.dK kvs))) s:=by
 have ok:=I.b7 d _ e;obtain⟨z,y,f,rel,o,h,i,a,j⟩:=id ok;refine⟨o,a,?_⟩;exact I.write (x:=d) (e:=d) (h':=s.heap) (t':=s.toks) (by rw[e];exact trivial) (.inl rfl) (λb u _ c=>c) ⟨_,a⟩ ⟨a,ok⟩
noncomputable def K3(d:Addr)(o:Obj)(kvs:List (Key×V)):It:=⟨λi H=>H d=some (.frz o (.dK kvs))/\i<kvs.length,λi H x H'=>H'=H/\∃kv,kvs[i]?=some kv/\x=kV kv.1,λi H=>H d=some (.frz o (.dK kvs))/\kvs.length<=i⟩
theorem jf(d:Addr)(o:Obj)(kvs:List (Key×V)):mD (K3 d o kvs) (λH=>H d=some (.frz o (.dK kvs))) (kvs.map λg=>kV g.1) where
 go:=λi H ok h=>⟨ok,by rwa[wa0]at h⟩
 sX:=λi H x a ok h q=>by
  obtain⟨rfl,g,e,rfl⟩:=q;refine⟨rfl,?_⟩;rw[wa4,e];rfl
 stop:=λH ok=>⟨ok,by rw[wa0];exact wab _⟩
theorem Hi{κ:Type}:∀{kvs:List (κ×V)} {vs:List (κ×Value)},KV kvs vs->∀{i:Nat} {p:κ×V},kvs[i]?=some p->∃q,vs[i]?=some q/\p.1=q.1/\RelV p.2 q.2
 |_,_,.nil,i,p,h=>by simp at h
 |_,_,.cons r t,i,p,h=>by
  cases i with
  |zero=>exact⟨_,rfl,by have:=wae h;subst this;exact r⟩
  |succ i=>exact Hi t h
theorem C8{X:Cx}(I:Inv X g σ H s)(e:H d=some (.frz o (.dK kvs)))(j:o.data=.dict p ep) :
 ∃vs,KV kvs vs/\s.heap.DictAt (bq X.prog X.w) d vs ep:=by
 obtain⟨f,_⟩:=I.b7 d _ e;obtain⟨_,_,vs,rel,h,a,i,b,k,c,l⟩:=mF I.b7 (.inr ⟨o,e⟩);refine⟨vs,rel,h,a,b,k,?_,l⟩;rw[f]at b;cases b;rw[c]at j;cases j;exact c
theorem EL{P:wap}{w:World}{K:wa2}{T:Expr}(d it:Addr)(o:Obj)(kvs:List (Key×V))(U:Array DictEntry)(ep:Nat)(J:o.data=.dict U ep):Turn P w K T (K3 d o kvs) [it] it (λi h=>h.IsKeyIter it d i kvs.length ep) where
 mem:=by simp
 obj:=λi h st b j=>by
  have e:b=it:=by grind
  subst e;obtain⟨o,e,c,D⟩:=st;exact⟨o,e,λv z=>by grind⟩
 keep:=λi h m st k=>st.at λo e=>k it (by simp) o e
 item:=by
  intro X p hw q hc i a s σ H E I n st r;subst p hw q;obtain⟨u,hi⟩:=r;obtain⟨L,rel,f⟩:=C8 I u J;have G:kvs[i]?=some kvs[i]:=by simp[hi]
  obtain⟨⟨k,v⟩,M,N,_⟩:=Hi rel G;obtain⟨x,f1,f2,A,B,C⟩:=n it (by simp);rw[rel.length]at st;refine wpAny_pyNext_dict_item st f M λkey m l g sb=>?_;have O:Inv X a σ H {s with heap:=m}:=I.turned (t':=s.toks) (λb o j e=>(sb.2 b j).trans e) x f1 A B C;obtain⟨S,e,c,D⟩:=id g;rw[<-rel.length]at g;refine⟨key,rfl,Dp (s:={s with heap:=m}) e c D (by decide) ⟨kV kvs[i].1,H,O,?_,⟨rfl,_,G,rfl⟩,g,λb j=>(n b j).1⟩⟩;have Q:kvs[i].1=k:=N;rw[Q];rcases bO l with⟨i,t,rfl,rfl⟩ |⟨y,t,rfl,rfl⟩
  ·exact⟨t,rfl⟩
  ·exact⟨t,rfl⟩
 done:=by
   intro X p hw q hc i a s σ H E I n st r;subst p hw q;obtain⟨u,hi⟩:=r;obtain⟨L,rel,f⟩:=C8 I u J;obtain⟨x,f1,f2,A,B,C⟩:=n it (by simp);rw[rel.length]at st hi;exact wpAny_pyNext_dict_end (I.ok.hd hc) st f (by simp;omega) λm R=>⟨rfl,I.turned (t':=s.toks) (λb o j e=>R b o j e) x f1 A B C⟩
 self:=λ_ _ _ _ _ st h=>wpAny_pyIter_keyiter st h
section
variable{X:Cx}{tg:Expr}
def Q1(tl:TE):TI:=λσ H R=>tl σ H λx H1=>∃d kvs,x=.ref d/\((H1 d=some (.dK kvs)/\∀o,R (K3 d o kvs) (upd H1 d (.frz o (.dK kvs))))\/∃o,H1 d=some (.frz o (.dK kvs))/\R (K3 d o kvs) H1)
theorem sG{l:Expr}{p:TE}(hl:PE X l p):PI X tg l (Q1 p):=by
 refine⟨?_⟩;intro a s σ H R I h;refine bI (hl a s σ H _ I h) λv g ⟨x,D,m,t,j⟩=>?_;obtain⟨d,f,e,q⟩:=j;subst e;cases t
 have key:∀{i:Hp} {o:Obj},Inv X a σ i g->i d=some (.frz o (.dK f))->R (K3 d o f) i->wpAny (model X.prog X.w) X.A (pyIter (.ref d)) (OD X a σ tg R) X.xe g:=λ{i o} c hd u=>by
  obtain⟨E,lo,y,n,G,z,B,j,J,r,L⟩:=mF c.b7 (.inr ⟨o,hd⟩);obtain⟨C,_⟩:=c.b7 d _ hd;rw[C]at j;cases j;obtain⟨M,rel,k⟩:=C8 c hd r;refine wpAny_pyIter_dict lo k ?_;refine⟨g.heap.objs.size,[g.heap.objs.size],_,_,i,rfl,c.kept (t':=g.toks) λb o e=>wa9 _ e,EL d _ o f z B r,⟨_,waw _ rfl,rfl,by rw[rel.length];rfl⟩,λb N=>?_,u⟩;have e:b=g.heap.objs.size:=by grind
  subst e;exact c.Bk (wab _) (c.b7.fresh (wab _))
 rcases q with⟨hd,q⟩ |⟨o,hd,q⟩
 ·obtain⟨o,O,c⟩:=m.freeze hd;exact key c a6 (q o)
 ·exact key m hd q
end
end L2
namespace L2
open PySem Bs
theorem dG.f{H:Hp}{a:Addr}{o:Obj}{kvs:List (Key×V)}{k:Key}(e:H a=some (.frz o (.dK kvs))):dG H a (kV k) (cQ kvs k):=.inl ⟨kvs,k,.inr ⟨o,e⟩,rfl,rfl⟩
noncomputable def f7(g:Str)(ws ss:List Str)(p:Str):List Str:=(ch g).filterMap λc=>if bears ws (p++⟨#[c]⟩)=true then none else some (lend ss (p++⟨#[c]⟩))
noncomputable def C9(v:V):Bool:=!decide (v=.non)
theorem zO(ws ss:List Str)(p:Str)(g:List Nat):((g.map (pG ws ss p)).filter C9)=(g.filterMap λc=>if bears ws (p++⟨#[c]⟩)=true then none else some (lend ss (p++⟨#[c]⟩))).map V.str:=by
 induction g with
 |nil=>rfl
 |cons c g a=>
  grind [pG,lend,C9]
theorem Ca(g:Str)(ws ss:List Str)(p:Str):(f7 g ws ss p).length<=g.length:=by
 unfold f7;have:=wdP (λc=>if bears ws (p++⟨#[c]⟩)=true then none else some (lend ss (p++(⟨#[c]⟩:Str)))) (ch g);rw[aR]at this;exact this
theorem Cb(he:("":Str)∈ss)(h:t∈f7 g ws ss p):t∈ss:=by grind [f7,iq]
noncomputable def dY(g:Str)(ws ss:List Str):Nat->Str->Int
 |0,_=>1
 |n+1,p=>((f7 g ws ss p).map (dY g ws ss n)).sum
noncomputable def pT(f:Str->V)(ks:List Str):List (Key×V):=ks.map λp=>((wav p:Key),f p)
theorem kZ(f:Str->V)(h:k∈g):cQ (pT f g) (wav k:Key)=some (f k):=by
 induction g with
 |nil=>simp at h
 |cons j g a=>
  by_cases e:j=k
  ·subst e;exact eX rfl
  ·unfold pT;rw[wao,eY (λz=>e (wda z))];exact a (by grind)
theorem xf(f:Str->V)(h:k∉g):cQ (pT f g) (wav k:Key)=none:=by
 cases q:cQ (pT f g) (wav k:Key) with
 |none=>rfl
 |some v=>
  have:=yc q;unfold pT at this;rw[waf]at this;obtain⟨m,a,e⟩:=waa.mp this;have b:m=k:=wda e;subst b;exact absurd a h
theorem zP(f:Str->V)(g:List Str):(pT f g).length=g.length:=by unfold pT;rw[wa0]
theorem xg(f:Str->V)(g:List Str)(k:Str):pT f (g++[k])=pT f g++[((wav k:Key),f k)]:=by unfold pT;rw[wal];rfl
theorem ir{ss:List Str}(nd:ss.Nodup){i:Nat}{p:Str}(h:ss[i]?=some p):p∉ss.take i:=by
 intro b;obtain⟨j,c,a⟩:=wdq.mp b;rw[wf4]at a;rw[wak]at c;have d:=(wa5.mp h).2;have:=(wbI nd).mp (a.trans d.symm)
 lia
noncomputable abbrev ER(g:Str)(ws ss:List Str)(n:Nat):List (Key×V):=pT (λp=>.int (dY g ws ss n p)) ss
noncomputable def VJ(ws ss:List Str)(p:Str):V->V:=λv=>match v with
 |.str z=>pG ws ss p (z.cps.getD 0 0)
 |_=>.non
theorem EV(g:Str)(ws ss:List Str)(p:Str):(cu g).map (VJ ws ss p)=(ch g).map (pG ws ss p):=by
 unfold cu;rw[waf];rfl
noncomputable def K4(f:Str->Int):V->V:=λv=>match v with
 |.str z=>.int (f z)
 |_=>.non
theorem pU(f:Str->Int)(g:List Str):(g.map V.str).map (K4 f)=(g.map f).map V.int:=by
 rw[waf,waf];rfl
end L2
namespace Sx
open PySem L2 Bs
inductive Cd(C:Addr)(vs:List V)(H:Hp)(Q:VK)(dQ:XK):Prop
 |mk (x p g ws ss ls) (_:vs=[.ref x,.str p]) (_:aS C H x g ws ss ls) (_:p∈ss) (_:g.length<=10) (_:∀(l:Addr) (H':Hp),a7 H H'->H l=none->H' l=some (.lst ((f7 g ws ss p).map V.str))->Q (.ref l) H')
inductive EW(C:Addr)(vs:List V)(H:Hp)(Q:VK)(dQ:XK):Prop
 |mk (x g ws ss ls) (_:vs=[.ref x]) (_:aS C H x g ws ss ls) (_:g.length<=10) (_:ss.length<=900) (_:∀(d:Addr) (ev:List (Str×Addr)) (H':Hp),a7 H H'->H d=none->H' d=some (.dK (bT ev))->ev.map (·.1)=ss->(∀m∈ev,H' m.2=some (.lst ((f7 g ws ss m.1).map V.str)))->(∀m∈ev,H m.2=none)->Q (.ref d) H')
inductive K5(C:Addr)(vs:List V)(H:Hp)(Q:VK)(dQ:XK):Prop
 |mk (x n g ws ss ls) (_:vs=[.ref x,.int n]) (_:aS C H x g ws ss ls) (_:g.length<=10) (_:ss.length<=900) (_:0<=n) (_:n<=100000) (_:∀(l:Addr) (ts:List Addr) (H':Hp),a7 H H'->H l=none->H' l=some (.lst (ts.map V.ref))->ts.length=n.toNat+1->(∀i t,ts[i]?=some t->H' t=some (.dK (ER g ws ss i)))->Q (.ref l) H')
inductive K6(C:Addr)(vs:List V)(H:Hp)(Q:VK)(dQ:XK):Prop
 |mk (x n g ws ss ls) (_:vs=[.ref x,.int n]) (_:aS C H x g ws ss ls) (_:g.length<=10) (_:ss.length<=900) (_:0<=n) (_:n<=100000) (_:∀H',a7 H H'->Q (.int (dY g ws ss n.toNat "")) H')
end Sx
namespace L2
open PySem PySem.Spec PyProof.Rows
section
variable{X:Cx}
noncomputable def Y7:OB:=λx y H Q=>∃i j,x=.int i/\y=.int j/\Jp i j/\Q (.int (i*j)) H
theorem Hj:OC X .Mult Y7:=by
 intro a s σ H x y v u Q I b c h;obtain⟨i,j,d,e,hc,q⟩:=h;subst d;subst e;obtain⟨t,rfl⟩:=b;obtain⟨f,rfl⟩:=c;exact imul_int ⟨.int _,H,I.tok _,⟨_,rfl⟩,q⟩ hc.ok
end
end L2
namespace Sx
open PySem L2 Bs
inductive Hk(vs:List V)(H:Hp)(Q:VK)(dQ:XK):Prop
 |mk (i) (_:vs=[.int i]) (_:Q (.bl true) H)
inductive EX(C:Addr)(vs:List V)(H:Hp)(Q:VK)(dQ:XK):Prop
 |mk (x n g ws ss ls) (_:vs=[.ref x,.int n]) (_:aS C H x g ws ss ls) (_:g.length<=10) (_:0<=n) (_:n<=10) (_:Q (.int ((g.length:Int)^n.toNat)) H)
structure fO(m:Nat)(many wide:Int):Prop where
 a:2<=many
 b:many<=8
 c:1<=wide
 d:wide<=6
 e:(m:Int)^wide.toNat<=64
inductive zQ(C:Addr)(vs:List V)(H:Hp)(Q:VK)(dQ:XK):Prop
 |mk (x many wide g ws ss ls) (_:vs=[.ref x,.int many,.int wide]) (_:aS C H x g ws ss ls) (_:g.length<=10) (_:fO g.length many wide) (_:Q (.bl true) H)
end Sx
namespace L2
open PySem PySem.Spec PyProof.Rows
theorem Hl(ns:List Int)(lo hi:Option Int):∃g:List Int,j9 (ns.map V.int) lo hi=g.map V.int/\g.length<=ns.length:=by
 refine⟨_,by unfold j9;rw[<-we5,<-wcW],?_⟩;rw[wak,wbm]
 lia
section
variable{X:Cx}
theorem EY(hc:X.calm=true):dA X (.builtin "max") (λxs H Q=>∃p ns,xs=[.ref p]/\aE X.K H p (wcA V.int ns)/\ns≠[]/\∀M,M∈ns->(∀a∈ns,a<=M)->Q (.int M) H):=by
 intro g s σ H xs w Q I r h;obtain⟨p,ns,rfl,i,c,q⟩:=h;obtain⟨u,rfl,k⟩:=vals1 r;cases k;obtain⟨d,l,pl,x⟩:=I.list i;obtain⟨b,e,rfl⟩:=jJ l
 have hl:s.heap.IsList p (intItems b.toArray):=by
  have:intItems b.toArray=d.toArray:=by grind [intItems]
  rw[this];exact pl.isList
 have f:0<b.toArray.size:=by
  rw[waz];exact Nat.pos_of_ne_zero λz=>c (by grind)
 refine max_intList (I.ok.hd hc) hl f λv y A m hk=>?_;obtain⟨t,rfl⟩:=wh6 m;obtain⟨B,n⟩:=argBest_gt (numAt b.toArray) (b.toArray.size-1);refine⟨.int _,H,I.kept hk,⟨t,rfl⟩,q _ ?_ λa ha=>?_⟩
 ·rw[numAt_eq];exact getD_mem (by grind)
 ·obtain⟨j,o,rfl⟩:=mem_getD ha;rw[wa0]at o;have:=n j (by grind);rw[numAt_eq]at this;exact this
end
end L2
namespace Bs
open PySem L2
noncomputable def lj(st sp n:Nat):List Nat:=(waI n).map λk=>(ch f5).getD ((st+k*sp)%36) 0
theorem zR{P:Nat->Prop}:∀{ts:List Str},(∀t∈ts,∃c,t=⟨#[c]⟩/\P c)->(ts.map (·.length)).sum=ts.length
 |[],_=>rfl
 |t::ts,h=>by
  obtain⟨c,rfl,_⟩:=h t (wad ..);rw[wao,waZ,zR λt a=>h t (wac _ a),waF];show 1+ts.length=_
  lia
noncomputable def K7(st sp:Nat):V->V:=λv=>match v with
 |.int k=>.str ⟨#[(ch f5).getD ((st+k.toNat*sp)%36) 0]⟩
 |_=>.non
end Bs
namespace Sx
open PySem L2 Bs
inductive Q2(K:wa2)(vs:List V)(H:Hp)(Q:VK)(dQ:XK):Prop
 |mk (a:Addr) (ns:List Int) (p:Int) (_:vs=[.ref a,.int p]) (_:aE K H a (ns.map V.int)) (_:∀(c:Int) (H':Hp),a7 H H'->Q (.int c) H')
end Sx
namespace Bs
theorem tR{α:Type}[DecidableEq α]:∀{g l:List α},g.Nodup->(∀k∈g,k∈l)->g.length<=l.length
 |[],l,_,_=>waJ _
 |k::g,l,nd,h=>by
  rw[wbF]at nd;have hk:=h k (wad ..);have:=tR (l:=l.erase k) nd.2 λj a=>(List.mem_erase_of_ne (λz=>nd.1 (by rw[<-z];exact a))).mpr (h j (wac _ a));rw[List.length_erase_of_mem hk]at this;have:0<l.length:=List.length_pos_of_mem hk;rw[waF]
  lia
theorem tS{α β:Type}(f:α->List β)(b:Nat):∀(g:List α),(∀c∈g,(f c).length<=b)->(g.flatMap f).length<=g.length*b
 |[],_=>waJ _
 |c::g,h=>by
  rw[wc0,wa7,waF,Nat.succ_mul];have:=tS f b g λd hd=>h d (wac _ hd);have:=h c (wad ..)
  lia
section
variable{κ:Type}[DecidableEq κ]
end
end Bs
namespace Bs
open PySem L2 AC
variable{ws ss:List Str}
theorem vN(f:Nat->Option Str)(h:Str->Int):∀g:List Nat,((g.filterMap f).map h).sum=(g.map λc=>(match f c with |none=>0 |some x=>h x)).sum:=by intro g;induction g<;>grind
noncomputable def bp(m:List (Str×Int)):List (Key×V):=m.map λp=>((wav p.1:Key),V.int p.2)
theorem jg(m:List (Str×Int)):(bp m).length=m.length:=wa0 ..
noncomputable def qO:List (Str×Int)->Str->Option Int
 |[],_=>none
 |(j,u)::m,k=>if j=k then some u else qO m k
theorem dJ(k:Str):∀m:List (Str×Int),cQ (bp m) (wav k:Key)=(qO m k).map V.int
 |[]=>rfl
 |(j,u)::m=>by
  unfold qO
  by_cases h:j=k
  ·rw[if_pos h,h];exact eX rfl
  ·rw[if_neg h,<-dJ k m];exact eY (λz=>h (wda z))
theorem tT:∀{m:List (Str×Int)},k∉m.map (·.1)->qO m k=none
 |[],_=>rfl
 |(j,u)::m,h=>by
  unfold qO;rw[if_neg (λz=>h (by rw[z];exact wad ..))];exact tT λz=>h (wac _ z)
end Bs
namespace L2
open PySem
theorem zS{R:It->Hp->Prop}(h:g d=some (.dK kvs)\/∃o,g d=some (.frz o (.dK kvs)))
 (k:∀o j,j d=some (.frz o (.dK kvs))->(∀c,c≠d->j c=g c)->R (K3 d o kvs) j) :
 (g d=some (.dK kvs)/\∀o,R (K3 d o kvs) (upd g d (.frz o (.dK kvs))))\/∃o,g d=some (.frz o (.dK kvs))/\R (K3 d o kvs) g:=by
 rcases h with h |⟨o,h⟩
 ·exact .inl ⟨h,λo=>k o _ a6 λc hc=>ae hc⟩
 ·exact .inr ⟨o,h,k o _ h λc _=>rfl⟩
end L2
namespace Sx
open PySem L2 Bs
end Sx
namespace L2
open PySem PySem.Spec PyProof.Rows
def jK(K:wa2)(J:It)(l:Addr)(σf:St)(tt:TT)(te:TE)(H:Hp)(Q:Hp->Prop):Prop:=
 ∃W:Nat->Nat->List V->Hp->Prop,(∃m,W 0 m [] (upd H l (.lst [])))/\∀i m ys H2,W i m ys H2->H2 l=some (.lst ys) /\
  ((J.stop i H2/\Q H2)\/(J.go i H2/\ys.length<sizeLine/\∀x H3,J.sX i H2 x H3->∃p a b,x=.ref p/\hZ K H3 p [a,b]/\tt (some a::some b::σf) H3 λok H4=>
    if ok=true then te (some a::some b::σf) H4 λy H5=>H5 l=some (.lst ys)/\∃m',m'<m/\W (i+1) m' (ys++[y]) (upd H5 l (.lst (ys++[y])))
    else ∃m',m'<m/\W (i+1) m' ys H4))
def MQ(K:wa2)(wi:TI)(ix:List Nat)(tt:TT)(te:TE):TE:=λσ H Q=>wi σ H λJ H1=>∀l,H1 l=none->jK K J l (pick σ ix) tt te H1 (λH2=>Q (.ref l) H2)
section
variable{X:Cx}{pins:List (Addr×Obj)}{σ:St}{H:Hp}{s₂:Shared}{scope:wcZ}{x x2:Str}{ys:List Str}{ix:List Nat}{cl:List (Str×Addr)}{fp:List Addr}{L:Addr}
theorem zT(hc:X.calm=true)(B:bJ X scope x ys ix)(g:bJ X scope x2 ys ix)(j:x≠x2)(cl L s H ex pn):PG (bg X scope ([x,x2]++ys) cl L s H ex pn) (.Tuple [.Name x p,.Name x2 l] r pt) (G7 X.K 2 (kJ (eV 0) (kJ (eV 1) G6))):=by
 have c:(relabel scope X.env).names.lookup x=some .local:=wch B.var;have a:(relabel scope X.env).names.lookup x2=some .local:=wch g.var
 have b:(x::x2::ys).Nodup:=by
  have:=B.nd;have:=g.nd
  grind
 exact dU hc (aL (jy b rfl (.inl c) (.inr c)) (aL (jy b rfl (.inl a) (.inr a)) cG))
theorem zU{K:wa2}{J:It}(h:jK K J l g j r H Q):wN (G7 K 2 (kJ (eV 0) (kJ (eV 1) G6))) 2 J l g j r H Q:=
 let ⟨W,a,t⟩:=h
 ⟨W,a,λi m ys f w=>let ⟨p,q⟩:=t i m ys f w;⟨p,q.imp id λ⟨a,b,c⟩=>⟨a,b,λx k n u y=>by revert n;refine iI 2 _ ?_;exact λ_ _=>let ⟨p,v,d,e,o,s⟩:=c x k y;⟨p,[v,d],e,o,rfl,v,[d],rfl,d,[],rfl,rfl,⟨[some v,some d],rfl,rfl⟩,s⟩⟩⟩⟩
theorem gw(hc:X.calm=true)(B:bJ X scope x ys ix)(T:bJ X scope x2 ys ix)(g:x≠x2)(hi:PI X (.Tuple [.Name x U,.Name x2 j] kt pt) iter wi)
 (ht:∀cl L s H ex pn,FT (bg X scope (x::x2::ys) cl L s H ex pn) p t) (he:∀cl L s H ex pn,PE (bg X scope (x::x2::ys) cl L s H ex pn) r I)
 (hs:∀v,wbQ iter X.env v=pure v:=by intro _;rfl):PE X (.ListComp r [⟨.Tuple [.Name x U,.Name x2 j] kt pt,iter,p,0⟩] scope pos) (MQ X.K wi ix t I):=
 tD (C:=λJ l a H Q=>jK X.K J l a t I H Q) (xs:=[x,x2]) hc B (zT hc B T g) (λ_ _ _ _ _=>zU) hi ht he hs
end
def bU(H:Hp)(rs:List Addr)(VL:List (List V)):Prop:=rs.length=VL.length/\∀(i:Nat) (r:Addr) (xs:List V),rs[i]?=some r->VL[i]?=some xs->H r=some (.tup xs)
theorem bU.nil(H:Hp):bU H [] []:=⟨rfl,λi r a h=>by simp at h⟩
theorem bU.keep(t:bU H j g)(k:∀r xs,H r=some (.tup xs)->l r=some (.tup xs)):bU l j g:=⟨t.1,λi r xs a b=>k _ _ (t.2 i r xs a b)⟩
theorem bU.same(t:bU H j g)(s:a7 H l):bU l j g:=t.keep λr a h=>s _ _ h
theorem bU.snoc(t:bU H g j)(h:H r=some (.tup xs)):bU H (g++[r]) (j++[xs]):=by
 refine⟨by rw[wa7,wa7,t.1];rfl,λi a b c d=>?_⟩
 by_cases hi:i<g.length
 ·rw[waB hi]at c;rw[waB (by rw[<-t.1];exact hi)]at d;exact t.2 i a b c d
 ·have e:i=g.length:=by
   have:=(wa5.mp c).1;rw[wa7,wcx]at this
   lia
  subst e;rw[waq (wab _),wbn]at c;rw[waq (by rw[t.1];exact wab _),t.1,wbn]at d;cases c;cases d;exact h
noncomputable def lq(q:V×V):List V:=[q.1,q.2]
theorem nu{K:wa2}{J:It}{Ok:Hp->Prop}{j:List Addr}{prs:List (V×V)}{l:Addr}{C:St}{tt:TT}{te:TE}{H:Hp}{Q:Hp->Prop}(p:V×V->Bool)(g:V×V->V)(U:mD J Ok (j.map V.ref))(hT:bU H j (prs.map lq))(hl:H l=none)(hz:j.length<=sizeLine)(I:∀r,a7 H r->Ok r)
 (ht:∀q t T,q∈prs->a7 H t->(∀r,a7 t r->T (p q) r)->tt (some q.1::some q.2::C) t T)
 (he:∀q t T,q∈prs->p q=true->a7 H t->(∀r,a7 t r->T (g q) r)->te (some q.1::some q.2::C) t T)
 (hd:∀r,a7 H r->r l=some (.lst ((prs.filter p).map g))->Q r):jK K J l C tt te H Q:=by
 have f:j.length=prs.length:=by rw[hT.1,wa0]
 refine⟨λi m s d=>m=j.length-i/\i<=j.length/\a7 H d/\d l=some (.lst s)/\s=((prs.take i).filter p).map g,⟨j.length,by simp,waJ _,a7.upd hl,a6,by simp⟩,?_⟩;rintro i m s d ⟨rfl,hi,c,k,n⟩;refine⟨k,?_⟩
 by_cases a:i<j.length
 ·refine .inr ⟨U.go i d (I _ c) (by rw[wa0];exact a),?_,λx t y=>?_⟩
  ·rw[n,wa0];refine wbc (wbe _ _) ?_;rw[wak];omega
  ·obtain⟨e,v⟩:=U.sX i d x t (I _ c) (by rw[wa0];exact a) y;subst e;have w:prs[i]?=some prs[i]:=wa1 (by omega);have z:j[i]?=some j[i]:=wa1 a;rw[wa4,z]at v;obtain rfl:V.ref j[i]=x:=wae v;have mem:prs[i]∈prs:=waE _;have A:prs.take (i+1)=prs.take i++[prs[i]]:=by rw[waS,w];rfl
   refine⟨j[i],prs[i].1,prs[i].2,rfl,hZ.of (c _ _ (hT.2 i j[i] _ z (by rw[wa4,w];rfl))),ht prs[i] _ _ mem c λD h=>?_⟩
   cases u:p prs[i] with
   |false=>
    rw[if_neg wam];refine⟨j.length-(i+1),by omega,rfl,a,c.trans h,h _ _ k,?_⟩;rw[A,wbG,n];simp[u]
   |true=>
    rw[if_pos rfl];refine he prs[i] _ _ mem u (c.trans h) λE B=>⟨B _ _ (h _ _ k),j.length-(i+1),by omega,rfl,a,λb o e=>?_,a6,?_⟩
    ·rw[ae (af e hl)];exact B _ _ (h _ _ (c _ _ e))
    ·rw[A,wbG,n];simp[u]
 ·have e:i=j.length:=by omega
  subst e;refine .inl ⟨?_,hd d c ?_⟩
  ·have:=U.stop d (I _ c);rwa[wa0]at this
  ·rw[k,n,f,waG]
theorem EZ{K:wa2}{J:It}{Ok:Hp->Prop}{j:List Addr}{prs:List (V×V)}{l:Addr}{I:St}{tt:TT}{te:TE}{H:Hp}{Q:Hp->Prop}(p:V×V->Bool)(g:V×V->List V)(hJ:mD J Ok (j.map V.ref))(hT:bU H j (prs.map lq))(hl:H l=none)(hz:j.length<=sizeLine)(T:∀t,a7 H t->Ok t)
 (ht:∀q C U,q∈prs->a7 H C->(∀t,a7 C t->U (p q) t)->tt (some q.1::some q.2::I) C U)
 (he:∀q C U,q∈prs->p q=true->a7 H C->(∀r t,a7 C t->t r=some (.tup (g q))->U (.ref r) t)->te (some q.1::some q.2::I) C U)
 (hd:∀ys t,a7 H t->t l=some (.lst (ys.map V.ref))->bU t ys ((prs.filter p).map g)->Q t):jK K J l I tt te H Q:=by
 have h:j.length=prs.length:=by rw[hT.1,wa0]
 refine⟨λi m B d=>m=j.length-i/\i<=j.length/\a7 H d/\∃ys:List Addr,B=ys.map V.ref/\d l=some (.lst (ys.map V.ref))/\bU d ys (((prs.take i).filter p).map g),⟨j.length,by simp,waJ _,a7.upd hl,[],rfl,a6,by simpa using bU.nil _⟩,?_⟩;rintro i m B d ⟨rfl,hi,c,ys,rfl,k,n⟩;refine⟨k,?_⟩
 by_cases a:i<j.length
 ·refine .inr ⟨hJ.go i d (T _ c) (by rw[wa0];exact a),?_,λx C y=>?_⟩
  ·rw[wa0,n.1,wa0];refine wbc (wbe _ _) ?_;rw[wak];omega
  ·obtain⟨e,D⟩:=hJ.sX i d x C (T _ c) (by rw[wa0];exact a) y;subst e;have E:prs[i]?=some prs[i]:=wa1 (by omega);have G:j[i]?=some j[i]:=wa1 a;rw[wa4,G]at D;obtain rfl:V.ref j[i]=x:=wae D;have mem:prs[i]∈prs:=waE _;have L:prs.take (i+1)=prs.take i++[prs[i]]:=by rw[waS,E];rfl
   refine⟨j[i],prs[i].1,prs[i].2,rfl,hZ.of (c _ _ (hT.2 i j[i] _ G (by rw[wa4,E];rfl))),ht prs[i] _ _ mem c λN f=>?_⟩
   cases u:p prs[i] with
   |false=>
    rw[if_neg wam];refine⟨j.length-(i+1),by omega,rfl,a,c.trans f,ys,rfl,f _ _ k,?_⟩
    have e:((prs.take (i+1)).filter p).map g=((prs.take i).filter p).map g:=by
     rw[L,wbG];simp[u]
    rw[e];exact n.same f
   |true=>
    rw[if_pos rfl];refine he prs[i] _ _ mem u (c.trans f) λr O s v=>⟨s _ _ (f _ _ k),j.length-(i+1),by omega,rfl,a,λb o e=>?_,ys++[r],by rw[wal];rfl,by rw[a6,wal];rfl,?_⟩
    ·rw[ae (af e hl)];exact s _ _ (f _ _ (c _ _ e))
    ·have e:((prs.take (i+1)).filter p).map g=((prs.take i).filter p).map g++[g prs[i]]:=by
      rw[L,wbG];simp[u]
     rw[e];have w:=s _ _ (f _ _ k);refine bU.keep ((n.same (f.trans s)).snoc v) λR M A=>?_;rw[ae (λz=>by rw[z,w]at A;cases A)];exact A
 ·have e:i=j.length:=by omega
  subst e;refine .inl ⟨?_,hd ys d c k ?_⟩
  ·have:=hJ.stop d (T _ c);rwa[wa0]at this
  ·rw[h,waG]at n;exact n
theorem Rd.same(h:Rd H a u)(s:a7 H g):Rd g a u:=by
 rcases h with h |⟨o,h⟩
 ·exact .inl (s _ _ h)
 ·exact .inr ⟨o,s _ _ h⟩
theorem dG.rd{H:Hp}{a:Addr}{kvs:List (Key×V)}{k:Key}(e:Rd H a (.dK kvs)):dG H a (kV k) (cQ kvs k):=.inl ⟨kvs,k,e,rfl,rfl⟩
def MR(tl:TE):TI:=λσ H R=>tl σ H λx H1=>∃d kvs,x=.ref d/\(H1 d=some (.dK kvs)\/∃o,H1 d=some (.frz o (.dK kvs)))/\∀o H',H' d=some (.frz o (.dK kvs))->(∀c,c≠d->H' c=H1 c)->R (K3 d o kvs) H'
theorem zV{X:Cx}(hl:PE X l g)(r:∀{σ H} {Q p:VK},(∀x j,Q x j->p x j)->g σ H Q->g σ H p:=by intro _ _ _ _ h q;obtain⟨v,e,q⟩:=q;exact⟨v,e,h _ _ q⟩):PI X t l (MR g):=by
 refine⟨?_⟩;intro c s σ H R I h;refine sG hl c s σ H R I (r (λx j q=>?_) h);obtain⟨d,f,e,a,b⟩:=q;exact⟨d,f,e,zS a b⟩
noncomputable def hitsD(kb ka:List (Key×V)):Bool:=ka.all λkv=>match cQ kb kv.1 with
 |some y=>qI kv.2 y
 |none=>false
noncomputable def Ta(ka kb:List (Key×V)):Bool:=ka.length==kb.length&&hitsD kb ka
noncomputable def tU(kvs:List (Key×V)):Bool:=kvs.all λkv=>et kv.2
theorem F0(h:tU kvs=true)(e:cQ kvs k=some v):et v=true:=by
 unfold cQ at e
 cases q:kvs.find? λa=>decide (a.1=k) with
 |none=>rw[q]at e;cases e
 |some a=>
  rw[q]at e;have:=waR.mp h a (List.mem_of_find?_eq_some q);cases e;exact this
section
variable{X:Cx}{A:Around}{s:Shared}
theorem tV(r:KV g j)(C:tU g=true):∀{l:List (Key×V)} {I:List (Key×Value)},KV l I->tU l=true->whp A s j I (hitsD g l)
 |_,_,.nil,_=>.nil
 |_,_,@Paired.cons _ _ _ p q ps d h t,c=>by
  obtain⟨k,v⟩:=p;obtain⟨f,u⟩:=q;obtain⟨i,m⟩:=h;obtain rfl:k=f:=i;have f1:et v=true:=waR.mp c (k,v) (wad ..);have f2:tU ps=true:=waR.mpr λz n=>waR.mp c z (wac _ n);have o:=tV r C t f2;have a:=r.val k;unfold hitsD;rw[weT];show whp A s j ((k,u)::d) ((match cQ g k with |some y=>qI v y |none=>false)&&_)
  cases e:cQ g k with
  |none=>
   rw[e]at a
   cases b:valueAt j k with
   |none=>exact .miss b
   |some y=>rw[b]at a;exact waU a
  |some y=>
   rw[e]at a
   cases b:valueAt j k with
   |none=>rw[b]at a;exact waU a
   |some w=>
    rw[b]at a;exact .hit b (y7 m a f1 (F0 C e)) o
inductive Tb(x y:V)(H:Hp)(Q:VK):Prop
 |mk (a b ka kb) (_:x=.ref a) (_:y=.ref b) (_:Rd H a (.dK ka)) (_:Rd H b (.dK kb)) (_:tU ka=true) (_:tU kb=true) (_:Q (.bl (Ta ka kb)) H)
theorem MS(g:X.A.units<wcw):kI X (wb4 .Eq) Tb:=by
 intro c s σ H x y v u Q I f i h;obtain⟨a,b,r,t,rfl,rfl,ha,j,k,l,q⟩:=h;cases f;cases i;obtain⟨_,m,w,d,n⟩:=mF I.b7 ha;obtain⟨_,o,z,e,p⟩:=mF I.b7 j;refine PySem.W.keq_eq m o n p g (λ_=>tV e l d k) ⟨.bl _,H,I,rfl,?_⟩;rw[<-d.length,<-e.length];exact q
end
end L2
namespace Bs
open PySem L2
noncomputable def pV(g:Str)(ws ss:List Str)(q:Str×Str):List (Str×Str):=(ch g).filterMap λc=>if bears ws (q.2++⟨#[c]⟩)=true then none else some (q.1++⟨#[c]⟩,lend ss (q.2++⟨#[c]⟩))
noncomputable def f9(g:Str)(ws ss:List Str)(qs:List (Str×Str)):List (Str×Str):=qs.flatMap (pV g ws ss)
noncomputable def tW(g:Str)(ws ss:List Str)(p:Str):Nat->List (Str×Str)
 |0=>[("",p)]
 |n+1=>f9 g ws ss (tW g ws ss p n)
noncomputable def aQ(g:Str)(ws ss ls:List Str)(n:Nat)(p:Str):List (Str×Str):=(tW g ws ss p n).filter λq=>decide (q.2∈ls)
theorem Ce(g:Str)(ws ss:List Str)(q:Str×Str):(pV g ws ss q).length<=g.length:=by
 unfold pV;have:=wdP (λc=>if bears ws (q.2++⟨#[c]⟩)=true then none else some (q.1++(⟨#[c]⟩:Str),lend ss (q.2++(⟨#[c]⟩:Str)))) (ch g);rw[aR]at this;exact this
theorem qP(g:Str)(ws ss:List Str)(j:List (Str×Str)):(f9 g ws ss j).length<=j.length*g.length:=tS _ _ _ λq _=>Ce g ws ss q
theorem oa(g:Str)(ws ss:List Str)(p:Str):∀n,(tW g ws ss p n).length<=g.length^n
 |0=>wab 1
 |n+1=>wai (qP g ws ss _) (by rw[Nat.pow_succ];exact wet _ (oa g ws ss p n))
theorem Cg(he:("":Str)∈ss)(h:r∈pV g ws ss q):r.2∈ss/\r.1.length=q.1.length+1:=by
 unfold pV at h;obtain⟨c,_,e⟩:=wd0.mp h;split at e
 ·cases e
 ·cases e;exact⟨iq he _,len_app _ _⟩
theorem tX(he:("":Str)∈ss)(j:p∈ss):∀n,∀r∈tW g ws ss p n,r.2∈ss/\r.1.length=n
 |0,r,h=>by
  rw[wan.mp h];exact⟨j,rfl⟩
 |n+1,r,h=>by
  obtain⟨q,a,b⟩:=wbW.mp h;have:=Cg he b;have:=(tX he j n q a).2;exact⟨‹r.2∈ss/\_›.1,by lia⟩
theorem cX(h:r∈aQ g ws ss ls n p):r.2∈ls:=of_decide_eq_true (wau.mp h).2
theorem fP(g:Str)(ws ss ls:List Str)(n:Nat)(p:Str):(aQ g ws ss ls n p).length<=g.length^n:=wai (wbe _ _) (oa g ws ss p n)
noncomputable def lu(q:Str×Str):List V:=[.str q.1,.str q.2]
noncomputable def og(q:Str×Str):V×V:=(.str q.1,.str q.2)
theorem DL(g:List (Str×Str)):(g.map og).map lq=g.map lu:=by
 rw[waf];rfl
structure dC(H:Hp)(l:Addr)(rs:List Addr)(qs:List (Str×Str)):Prop where
 l:H l=some (.lst (rs.map V.ref))
 t:bU H rs (qs.map lu)
theorem dC.same{H g:Hp}{l:Addr}{j:List Addr}{p:List (Str×Str)}(r:dC H l j p)(s:a7 H g):dC g l j p:=⟨s _ _ r.l,r.t.same s⟩
theorem dC.len{H:Hp}{l:Addr}{g:List Addr}{j:List (Str×Str)}(r:dC H l g j):g.length=j.length:=by rw[r.t.1,wa0]
theorem dC.push{H:Hp}{l:Addr}{g:List Addr}{j:List (Str×Str)}(R:dC H l g j){r:Addr}(p:H r=none)(q:Str×Str):dC (upd (upd H r (.tup (lu q))) l (.lst (g.map V.ref++[.ref r]))) l (g++[r]) (j++[q]):=by
 have hl:(upd H r (.tup (lu q))) l=some (.lst (g.map V.ref)):=a7.upd p _ _ R.l;refine⟨by rw[a6,wal];rfl,?_⟩;rw[wal];refine bU.keep ((R.t.same (a7.upd p)).snoc a6) λa b h=>?_;rw[ae (λz=>by rw[z,hl]at h;cases h)];exact h
theorem zW(ls:List Str)(g:List (Str×Str)):((g.map og).filter λq=>nY q.2 (ls.map V.str)).map lq=(g.filter λq=>decide (q.2∈ls)).map lu:=by
 induction g with
 |nil=>rfl
 |cons q g a=>
  have e:nY (og q).2 (ls.map V.str)=decide (q.2∈ls):=jb q.2 ls;rw[wao]
  by_cases h:q.2∈ls
  ·rw[waX (by rw[e];exact decide_eq_true h),waX (by exact decide_eq_true h),wao,wao,a];rfl
  ·rw[wbf (by rw[e];simpa using h),wbf (by simpa using h),a]
noncomputable def gY(g:Str)(ws ss ls:List Str)(n:Nat)(f:Str->Int)(p:Str):Int:=((aQ g ws ss ls n p).map λq=>f q.2).sum
def MT(m:List (Str×Int))(ls:List Str)(f:Str->Int):Prop:=∀p∈ls,qO m p=some (f p)
theorem tY(m:List (Str×Int)):tU (bp m)=true:=waR.mpr λa h=>by
 obtain⟨p,_,rfl⟩:=waa.mp h;rfl
theorem pW(h:k∉m.map (·.1))(v:Int):putK (bp m) (wav k:Key) (.int v)=bp (m++[(k,v)]):=by
 rw[eZ _ (by rw[dJ,tT h];rfl)];unfold bp;rw[wal];rfl
theorem xh{f:Str->Int}:∀{os:List Str},k∈os->qO (os.map λp=>(p,f p)) k=some (f k)
 |[],h=>nomatch h
 |j::os,h=>by
  show (if j=k then some (f j) else qO (os.map λp=>(p,f p)) k)=_
  by_cases e:j=k
  ·rw[if_pos e,e]
  ·rw[if_neg e];rcases waD.mp h with z |z
   ·grind
   ·exact xh z
end Bs
namespace Sx
open PySem L2 Bs
inductive Tc(C:Addr)(vs:List V)(H:Hp)(Q:VK)(dQ:XK):Prop
 |mk (x p g ws ss ls) (_:vs=[.ref x,.str p]) (_:aS C H x g ws ss ls) (_:p∈ls) (_:Q .non H)
inductive Hm(C:Addr)(vs:List V)(H:Hp)(Q:VK)(dQ:XK):Prop
 |mk (x l rs qs g ws ss ls) (_:vs=[.ref x,.ref l]) (_:aS C H x g ws ss ls) (_:dC H l rs qs) (_:(∀q∈qs,q.2∈ss/\q.1.length<=100)) (_:qs.length<=100) (_:g.length<=10) (_:∀(l':Addr) (Td:List Addr) (H':Hp),a7 H H'->H l'=none->dC H' l' Td (f9 g ws ss qs)->Q (.ref l') H')
inductive Hn(C:Addr)(vs:List V)(H:Hp)(Q:VK)(dQ:XK):Prop
 |mk (x:Addr) (p:Str) (n:Nat) (g:Str) (ws ss ls:List Str) (_:vs=[.ref x,.str p,.int (n:Int)]) (_:aS C H x g ws ss ls) (_:p∈ls) (_:g.length^n<=100) (_:n<=10) (_:2<=g.length) (_:g.length<=10) (_:∀(l':Addr) (Td:List Addr) (H':Hp),a7 H H'->H l'=none->dC H' l' Td (aQ g ws ss ls n p)->Q (.ref l') H')
inductive zX(C:Addr)(vs:List V)(H:Hp)(Q:VK)(dQ:XK):Prop
 |mk (x:Addr) (n:Nat) (g:Str) (ws ss ls:List Str) (_:vs=[.ref x,.int (n:Int)]) (_:aS C H x g ws ss ls) (_:g.length^n<=100) (_:n<=10) (_:2<=g.length) (_:g.length<=10) (_:ss.length<=900) (_:∀(d:Addr) (ev:List (Str×Addr)) (H':Hp),a7 H H'->H d=none->H' d=some (.dK (bT ev))->ev.map (·.1)=ls->(∀m∈ev,H' m.2=some (.lst (((aQ g ws ss ls n m.1).map (·.2)).map V.str)))->(∀m∈ev,H m.2=none)->Q (.ref d) H')
inductive Ho(K:wa2)(vs:List V)(H:Hp)(Q:VK)(dQ:XK):Prop
 |mk (l d es m f) (_:vs=[.ref l,.ref d]) (_:aE K H l (es.map V.str)) (_:es.length<=1000) (_:Rd H d (.dK (bp m))) (_:MT m es f) (_:∀H',a7 H H'->Q (.int ((es.map f).sum)) H')
end Sx
namespace Bs
open PySem L2 AC
section
variable{g:Str}{ws ss ls:List Str}
theorem Ch{α:Type}{a b:α->Int}:∀{l:List α},(∀x∈l,a x<=b x)->(l.map a).sum<=(l.map b).sum
 |[],_=>weL _
 |x::l,h=>by
  rw[wao,wao,waZ,waZ];exact Int.add_le_add (h x (wad ..)) (Ch λy c=>h y (wac _ c))
theorem tZ{α:Type}{a:α->Int}{l:List α}(h:∀x∈l,0<=a x):0<=(l.map a).sum:=by
 have:=Ch (a:=λ_=>(0:Int)) (b:=a) h
 have e:∀l:List α,(l.map λ_=>(0:Int)).sum=0:=by
  intro l
  induction l with
  |nil=>rfl
  |cons x l c=>grind
 rw[e]at this;exact this
theorem MU(n:Nat):∀p,0<=dY g ws ss n p:=by
 induction n with
 |zero=>intro p;show (0:Int)<=1;decide
 |succ n a=>intro p;exact tZ λe _=>a e
theorem Hq(n:Nat)(p:Str):dY g ws ss (n+1) p=((ch g).map λc=>if bears ws (p++⟨#[c]⟩)=true then 0 else dY g ws ss n (lend ss (p++⟨#[c]⟩))).sum:=by
 show ((f7 g ws ss p).map (dY g ws ss n)).sum=_;unfold f7;rw[vN];congr 1;refine waY λc _=>?_;cases bears ws (p++⟨#[c]⟩)<;>rfl
theorem nv(j:ss.Perm (bo ws "" ws))(hw:∀w∈ws,1<=w.length)(h:p∈ss):bears ws p=false/\lend ss p=p:=by
 have a:("":Str)∈ss:=j.mem_iff.mpr (bb ws);constructor
 ·rcases mem_keys.mp (j.mem_iff.mp h) with z |z
  ·have:p="":=cm (by rw[z];exact(pM rfl).symm);rw[this];exact mx hw
  ·exact(dg ws p).mpr z.2
 ·refine cm ?_;rw[jI a];have b:Q0 ss (ch p)=true:=jH.mpr h;exact He (jc _) (jd b (wfo _))
def FV(g:Str)(ws ss ls:List Str)(many:Int)(n:Nat)(f:Str->Int):Prop:=∀p∈ls,many*f p<=gY g ws ss ls n f p
noncomputable def bX(f:Str->Int)(ls:List Str):List (Str×Int):=ls.map λp=>(p,f p)
theorem pX(f:Str->Int)(ls:List Str):(bX f ls).map (·.1)=ls:=by
 unfold bX;rw[waf];exact List.map_id _
theorem jL(f:Str->Int)(ls:List Str):MT (bX f ls) ls f:=λp a=>xh a
theorem Lr{f h:Str->Int}:Ta (bp (bX f ls)) (bp (bX h ls))=true↔∀p∈ls,f p=h p:=by
 unfold Ta;rw[jg,jg];have e:(bX f ls).length=(bX h ls).length:=by unfold bX;rw[wa0,wa0]
 rw[e,beq_self_eq_true,we6];unfold hitsD;rw[waR];constructor
 ·intro q p a;have:=q ((wav p:Key),.int (f p)) (waa.mpr ⟨(p,f p),waa.mpr ⟨p,a,rfl⟩,rfl⟩);have this:(match cQ (bp (bX h ls)) (wav p:Key) with |some y=>qI (.int (f p)) y |none=>false)=true:=this;rw[dJ,jL h ls p a]at this;have this:qI (.int (f p)) (.int (h p))=true:=this;unfold qI at this;simpa using this
 ·intro q d b;obtain⟨z,c,rfl⟩:=waa.mp b;obtain⟨p,a,rfl⟩:=waa.mp c;show (match cQ (bp (bX h ls)) (wav p:Key) with |some y=>qI (.int (f p)) y |none=>false)=true;rw[dJ,jL h ls p a];show qI (.int (f p)) (.int (h p))=true;rw[q p a];unfold qI;simp
noncomputable def lz(g:Str)(ws ss ls:List Str)(many:Int)(n:Nat)(f:Str->Int)(p:Str):Int:=if gY g ws ss ls n f p/many<f p then gY g ws ss ls n f p/many else f p
theorem Hr{n:Nat}{f:Str->Int}(h:∀p∈ls,0<=f p)(p:Str):0<=gY g ws ss ls n f p:=tZ λq a=>h _ (cX a)
theorem Ci{f h:Str->Int}(e:∀p∈ls,f p<=h p)(p:Str):gY g ws ss ls n f p<=gY g ws ss ls n h p:=Ch λq a=>e _ (cX a)
theorem Hs(many:Int)(n:Nat)(f:Str->Int)(p:Str):lz g ws ss ls many n f p<=f p:=by
 unfold lz;split<;>lia
theorem Ht{f:Str->Int}(j:2<=many)(h:∀p∈ls,0<=f p):∀p∈ls,0<=lz g ws ss ls many n f p:=λp a=>by
 have b:=whq (Hr (g:=g) (ws:=ws) (ss:=ss) (n:=n) h p) (show 0<=many by lia);have c:=h p a;unfold lz;split<;>lia
theorem F1{f h:Str->Int}(l:2<=many)(j:FV g ws ss ls many n f)(e:∀p∈ls,f p<=h p):∀p∈ls,f p<=lz g ws ss ls many n h p:=λp a=>by
 have b:=j p a;have c:=Ci (g:=g) (ws:=ws) (ss:=ss) (n:=n) e p;have d:f p<=gY g ws ss ls n h p/many:=(wfY (by omega)).mpr (by grind);have i:=e p a;unfold lz;split<;>omega
theorem K8{f:Str->Int}(j:2<=many)(e:∀p∈ls,lz g ws ss ls many n f p=f p):FV g ws ss ls many n f:=λp a=>by
 have h:=e p a;unfold lz at h
 have b:f p<=gY g ws ss ls n f p/many:=by
  grind
 have:=(wfY (show 0<many by lia)).mp b;rw[Int.mul_comm]at this;exact this
theorem MV{f:Str->Int}(j:2<=many)(h0:∀p∈ls,0<=f p)(e:¬∀p∈ls,lz g ws ss ls many n f p=f p):(ls.map λp=>(lz g ws ss ls many n f p).toNat).sum<(ls.map λp=>(f p).toNat).sum:=by
 have b:∀p∈ls,lz g ws ss ls many n f p<=f p:=λp _=>Hs many n f p;have c:=Ht (g:=g) (ws:=ws) (ss:=ss) (n:=n) j h0;generalize lz g ws ss ls many n f=h at e b c
 have key:∀l:List Str,(∀p∈l,h p<=f p/\0<=h p)->(l.map λp=>(h p).toNat).sum<=(l.map λp=>(f p).toNat).sum/\((∃p∈l,h p≠f p)->(l.map λp=>(h p).toNat).sum<(l.map λp=>(f p).toNat).sum):=by
  intro l
  induction l with
  |nil=>intro _;exact⟨wab _,λ⟨p,a,_⟩=>nomatch a⟩
  |cons x l i=>
   intro hl;obtain⟨m,k⟩:=i λp a=>hl p (wac _ a);obtain⟨o,r⟩:=hl x (wad ..);rw[wao,wao,waZ,waZ];refine⟨by lia,λ⟨p,a,d⟩=>?_⟩;rcases waD.mp a with z |z
   ·rw[z]at d
    lia
   ·have:=k ⟨p,z,d⟩
    lia
 refine(key ls λp a=>⟨b p a,c p a⟩).2 ?_;apply wdy;intro q;exact e λp a=>wdy λz=>q ⟨p,a,z⟩
end
end Bs
namespace Sx
open PySem L2 Bs
inductive Hu(C:Addr)(vs:List V)(H:Hp)(Q:VK)(dQ:XK):Prop
 |mk (x p n g ws ss ls) (_:vs=[.ref x,.str p,.int n]) (_:aS C H x g ws ss ls) (_:p∈ss) (_:g.length<=10) (_:ss.length<=900) (_:0<=n) (_:n<=100000) (_:∀H',a7 H H'->Q (.int (dY g ws ss n.toNat p)) H')
inductive F4(vs:List V)(H:Hp)(Q:VK)(dQ:XK):Prop
 |mk (de dw many n o ev f g ws ss ls) (_:vs=[.ref de,.int many,.ref dw]) (_:H de=some (.frz o (.dK (bT ev)))) (_:ev.map (·.1)=ls) (_:(∀m∈ev,H m.2=some (.lst (((aQ g ws ss ls n m.1).map (·.2)).map V.str)))) (_:g.length^n<=100) (_:ls.Nodup) (_:ls.length<=900) (_:2<=many) (_:many<=8) (_:Rd H dw (.dK (bp (bX f ls)))) (_:∀(d:Addr) (H':Hp),a7 H H'->H d=none->H' d=some (.dK (bp (bX (lz g ws ss ls many n f) ls)))->Q (.ref d) H')
structure mI(g:Str)(ws ss ls:List Str)(many:Int)(n:Nat)(most:Int)(f:Str->Int):Prop where
 nn:∀p∈ls,0<=f p
 le:∀p∈ls,f p<=most
 fit:FV g ws ss ls many n f
 top:∀h:Str->Int,(∀p∈ls,h p<=most)->FV g ws ss ls many n h->∀p∈ls,h p<=f p
inductive K9(C:Addr)(vs:List V)(H:Hp)(Q:VK)(dQ:XK):Prop
 |mk (x:Addr) (many:Int) (n:Nat) (most:Int) (g:Str) (ws ss ls:List Str) (_:vs=[.ref x,.int many,.int (n:Int),.int most]) (_:aS C H x g ws ss ls) (_:2<=g.length) (_:g.length<=10) (_:ss.length<=900) (_:fO g.length many n) (_:0<=most) (_:∀(d:Addr) (f:Str->Int) (H':Hp),a7 H H'->H d=none->H' d=some (.dK (bp (bX f ls)))->mI g ws ss ls many n most f->Q (.ref d) H')
set_option genInjectivity true in
inductive Rv(g:Str)(ws ss:List Str)(many:Int)(n:Nat)(most:Int):V->Prop where
 |some (k:Nat) (a:1<=k) (b:(k:Int)<=most) (c:dY g ws ss (k*n) "" < many^k) (d:∀j:Nat,1<=j->j<k->¬dY g ws ss (j*n) "" < many^j):Rv g ws ss many n most (.int (k:Nat))
 |none (a:∀j:Nat,1<=j->(j:Int)<=most->¬dY g ws ss (j*n) "" < many^j):Rv g ws ss many n most .non
inductive F5(C:Addr)(vs:List V)(H:Hp)(Q:VK)(dQ:XK):Prop
 |mk (x many wide most g ws ss ls) (_:vs=[.ref x,.int many,.int wide,.int most]) (_:aS C H x g ws ss ls) (_:g.length<=10) (_:ss.length<=900) (_:fO g.length many wide) (_:0<=most) (_:most<=100) (_:∀v H',a7 H H'->Rv g ws ss many wide.toNat most v->Q v H')
end Sx
namespace Bs
open PySem L2
end Bs
namespace L2
open PySem PySem.Spec PyProof.Rows
section
variable{X:Cx}
theorem Cj:dA X (.type "dict") (λxs H Q=>∃d kvs,xs=[.ref d]/\Rd H d (.dK kvs)/\∀l,H l=none->Q (.ref l) (upd H l (.dK kvs))):=by
 intro a s σ H xs n Q I r h;obtain⟨d,kvs,rfl,hd,q⟩:=h;obtain⟨u,rfl,f⟩:=vals1 r;cases f;obtain⟨c,lo,g,rel,i⟩:=mF I.b7 hd;refine kt_call_dict (knd:=bq X.prog X.w) lo i (by rw[<-rel.length];exact c) λp j k=>?_;have m:=(tj (P:=X.prog) (w:=X.w) (H:=H) s.heap I.big);refine⟨.ref s.heap.objs.size,upd H s.heap.objs.size (.dK kvs),I.laid (t':=s.toks) (λb o e=>?_) (wab _) ⟨c,m.2.1,g,rel,j⟩,rfl,q _ (I.b7.fresh (wab _))⟩;exact k.extBut b o (wat (wag e)) (wa9 _ e)
end
end L2
namespace Bs
open PySem L2
end Bs
namespace Sx
open PySem L2 Bs
end Sx
namespace Bs
open PySem L2
section
variable{g:Str}{ws ss ls:List Str}
end
end Bs
namespace Sx
open PySem L2 Bs
section
variable{g:Str}{ws ss ls:List Str}{many VM most VN:Int}{n:Nat}{f f':Str->Int}
end
end Sx
namespace Bs
open PySem L2 AC
section
variable{g:Str}{ws ss:List Str}
theorem iP(r:Str):r++("":Str)=r:=cm (by rw[aJ,pM (z:="") rfl,waW])
theorem iQ(r:Str):("":Str)++r=r:=cm (by rw[aJ,pM (z:="") rfl,weu])
theorem cL(a b c:Str):a++b++c=a++(b++c):=by grind [cm,aJ,waP]
noncomputable def Ck(g:Str):Nat->List Str
 |0=>[""]
 |n+1=>(ch g).flatMap λc=>(Ck g n).map λr=>(⟨#[c]⟩:Str)++r
noncomputable def Jb(g:Str):Nat->List Str
 |0=>[""]
 |n+1=>(Jb g n).flatMap λr=>(ch g).map λc=>r++(⟨#[c]⟩:Str)
theorem sH:∀n,Jb g n=Ck g n
 |0=>rfl
 |1=>by
  show ([""]:List Str).flatMap (λr=>(ch g).map λc=>r++(⟨#[c]⟩:Str))=(ch g).flatMap λc=>([""]:List Str).map λr=>(⟨#[c]⟩:Str)++r;rw[List.flatMap_singleton]
  have:∀a:List Nat,(a.map λc=>("":Str)++(⟨#[c]⟩:Str))=a.flatMap λc=>([""]:List Str).map λr=>(⟨#[c]⟩:Str)++r:=by
   intro a
   induction a with
   |nil=>rfl
   |cons c a b=>
    grind [iQ,iP]
  exact this _
 |n+2=>by
  show (Jb g (n+1)).flatMap (λr=>(ch g).map λc=>r++(⟨#[c]⟩:Str))=(ch g).flatMap λc=>(Ck g (n+1)).map λr=>(⟨#[c]⟩:Str)++r;rw[sH (n+1)];show ((ch g).flatMap λc=>(Ck g n).map λr=>(⟨#[c]⟩:Str)++r).flatMap (λr=>(ch g).map λc=>r++(⟨#[c]⟩:Str))=_;rw[List.flatMap_assoc];congr 1;funext c;rw[<-sH (n+1)];show _=((Jb g n).flatMap λr=>(ch g).map λc=>r++(⟨#[c]⟩:Str)).map λr=>(⟨#[c]⟩:Str)++r;rw[sH n,List.map_flatMap,List.flatMap_map];congr 1;funext r;rw[waf];refine waY λd _=>?_;exact cL _ _ _
theorem DM:∀n,∀r∈Ck g n,r.length=n
 |0,r,h=>by rw[wan.mp h];rfl
 |n+1,r,h=>by
  obtain⟨c,_,a⟩:=wbW.mp h;obtain⟨q,b,rfl⟩:=waa.mp a;rw[len_app,DM n q b];show 1+n=n+1
  lia
theorem DN:∀n,∀r∈Ck g n,T9 g r
 |0,r,h=>by
  rw[wan.mp h];intro c hc;rw[pM (z:="") rfl]at hc;exact nomatch hc
 |n+1,r,h=>by
  obtain⟨c,hc,a⟩:=wbW.mp h;obtain⟨q,b,rfl⟩:=waa.mp a;intro d hd;rw[aJ,kU]at hd;rcases waC.mp hd with z |z
  ·rw[wan.mp z];exact hc
  ·exact DN n q b d z
noncomputable def iH(g:Str)(ws:List Str)(t:Str)(n:Nat):List Str:=(Ck g n).filter λr=>!bears ws (t++r)
theorem u0(h:bears ws t=false):iH g ws t 0=[("":Str)]:=by
 show ([("":Str)]).filter (λr=>!bears ws (t++r))=[("":Str)];rw[waX (by rw[iP,h];rfl),List.filter_nil]
theorem u3(t:Str)(n:Nat):iH g ws t (n+1)=(ch g).flatMap λc=>(iH g ws (t++⟨#[c]⟩) n).map λr=>(⟨#[c]⟩:Str)++r:=by
 show ((ch g).flatMap λc=>(Ck g n).map λr=>(⟨#[c]⟩:Str)++r).filter (λr=>!bears ws (t++r))=_;rw[List.filter_flatMap];congr 1;funext c;show ((Ck g n).map λr=>(⟨#[c]⟩:Str)++r).filter (λr=>!bears ws (t++r))=((Ck g n).filter λr=>!bears ws (t++⟨#[c]⟩++r)).map λr=>(⟨#[c]⟩:Str)++r;rw[wdz];congr 1;refine wf5 λr _=>?_;show (!bears ws (t++((⟨#[c]⟩:Str)++r)))=!bears ws (t++⟨#[c]⟩++r);rw[cL]
theorem yp(h:bears ws t=true)(n:Nat):iH g ws t n=[]:=by
 refine List.filter_eq_nil_iff.mpr λr _=>?_
 have:bears ws (t++r)=true:=by
  cases e:bears ws (t++r) with
  |true=>rfl
  |false=>
   have:=dI (a:=t) (b:=t++r) (by rw[aJ];exact List.infix_append [] _ _ |> λz=>by simpa using z) e;rw[h]at this;cases this
 rw[this];decide
theorem sI(j:ss.Perm (bo ws "" ws))(hw:∀w∈ws,1<=w.length):∀(n:Nat) (t:Str),bears ws t=false->((iH g ws t n).length:Int)=dY g ws ss n (lend ss t)
 |0,t,h=>by rw[u0 h];rfl
 |n+1,t,h=>by
  rw[u3,Hq,List.length_flatMap]
  have:∀a:List Nat,(((a.map λc=>((iH g ws (t++⟨#[c]⟩) n).map λr=>(⟨#[c]⟩:Str)++r).length).sum:Nat):Int)=(a.map λc=>if bears ws (lend ss t++⟨#[c]⟩)=true then 0 else dY g ws ss n (lend ss (lend ss t++⟨#[c]⟩))).sum:=by
   intro a
   induction a with
   |nil=>rfl
   |cons c a d=>
    rw[wao,wao,waZ,waZ,wci,d,wa0];congr 1;rw[fN j h hw,i5 j h]
    cases b:bears ws (t++⟨#[c]⟩) with
    |true=>rw[yp b];rfl
    |false=>exact sI j hw n _ b
  exact this _
theorem DP(j:ss.Perm (bo ws "" ws))(hw:∀w∈ws,1<=w.length)(h:bears ws t=false)(c n:Nat):((iH g ws (t++⟨#[c]⟩) n).length:Int)=if bears ws (lend ss t++⟨#[c]⟩)=true then 0 else dY g ws ss n (lend ss (lend ss t++⟨#[c]⟩)):=by grind [fN,i5,bears,yp,sI]
noncomputable def O5(g:Str)(ws:List Str)(t:Str)(n:Nat)(cs:List Nat):List Str:=cs.flatMap λc=>(iH g ws (t++⟨#[c]⟩) n).map λr=>(⟨#[c]⟩:Str)++r
theorem zY(t:Str)(n c:Nat)(j:List Nat):O5 g ws t n (c::j)=((iH g ws (t++⟨#[c]⟩) n).map λr=>(⟨#[c]⟩:Str)++r)++O5 g ws t n j:=wc0 ..
theorem MX(h:(O5 g ws t n (c::l))[k]?=some r)(hk:k<(iH g ws (t++⟨#[c]⟩) n).length):∃j,r=(⟨#[c]⟩:Str)++j/\(iH g ws (t++⟨#[c]⟩) n)[k]?=some j:=by grind [zY,waB,wa0,iH,wae]
theorem Ka(h:(O5 g ws t n (c::j))[k]?=some r)(hk:(iH g ws (t++⟨#[c]⟩) n).length<=k):(O5 g ws t n j)[k-(iH g ws (t++⟨#[c]⟩) n).length]?=some r:=by grind [zY,waq,wa0]
theorem MY{t:Str}{n:Nat}{j:List Nat}{c:Nat}{rest:List Nat}(e:ch g=j++c::rest){k:Nat}{r:Str}(h:(iH g ws (t++⟨#[c]⟩) n)[k]?=some r):(iH g ws t (n+1))[(j.map λd=>(iH g ws (t++⟨#[d]⟩) n).length).sum+k]?=some ((⟨#[c]⟩:Str)++r):=by
 rw[u3,e]
 have key:∀j:List Nat,((j++c::rest).flatMap λc=>(iH g ws (t++⟨#[c]⟩) n).map λr=>(⟨#[c]⟩:Str)++r)[(j.map λd=>(iH g ws (t++⟨#[d]⟩) n).length).sum+k]?=some ((⟨#[c]⟩:Str)++r):=by
  intro j
  induction j with
  |nil=>
   show ((c::rest).flatMap _)[0+k]?=_;rw[wev,wc0];have hk:=(wa5.mp h).1;rw[waB (by rw[wa0];exact hk),wa4,h];rfl
  |cons d a b=>
   rw[List.cons_append,wc0,wao,waZ];rw[waq (by rw[wa0];lia),wa0];rw[show (iH g ws (t++⟨#[d]⟩) n).length+(a.map λd=>(iH g ws (t++⟨#[d]⟩) n).length).sum+k-(iH g ws (t++⟨#[d]⟩) n).length=(a.map λd=>(iH g ws (t++⟨#[d]⟩) n).length).sum+k by lia];exact b
 exact key j
theorem pY(nd:(ch g).Nodup):∀n,(Ck g n).Nodup
 |0=>wbF.mpr ⟨λz=>(nomatch z),wdf⟩
 |n+1=>by
  show ((ch g).flatMap λc=>(Ck g n).map λr=>(⟨#[c]⟩:Str)++r).Nodup;have l:=pY nd n
  have key:∀f:List Nat,f.Nodup->(f.flatMap λc=>(Ck g n).map λr=>(⟨#[c]⟩:Str)++r).Nodup:=by
   intro f
   induction f with
   |nil=>intro _;exact wdf
   |cons c f i=>
    intro hn;rw[wbF]at hn;rw[wc0];refine wf3.mpr ⟨?_,i hn.2,λa ha b m z=>?_⟩
    ·refine List.Pairwise.map _ ?_ l;intro a b j z;have:=congrArg ch z;rw[aJ,aJ]at this;exact j (cm (List.append_cancel_left this))
    ·obtain⟨r,_,rfl⟩:=waa.mp ha;obtain⟨d,hd,k⟩:=wbW.mp m;obtain⟨q,_,rfl⟩:=waa.mp k;have:=congrArg ch z;rw[aJ,aJ,kU,kU]at this
     have e:c=d:=by
      have h:=this;rw[wga,wga]at h;exact(we7 h).1
     exact hn.1 (by rw[e];exact hd)
  exact key _ nd
theorem pZ(nd:(ch g).Nodup)(t:Str)(n:Nat):(iH g ws t n).Nodup:=(pY nd n).filter _
theorem u5{l:List Str}(nd:l.Nodup){i j:Nat}{r:Str}(p:l[i]?=some r)(t:l[j]?=some r):i=j:=by grind [wbI]
theorem yq(h:r∈iH g ws t n):bears ws (t++r)=false/\r.length=n/\T9 g r:=by grind [iH,T9,DM,DN,bears]
end
end Bs
namespace L2
open PySem PySem.Spec PyProof.Rows
section
variable{X:Cx}
theorem DQ:OC X .Add (λx y H Q=>∃i j,x=.str i/\y=.str j/\i.length+j.length<=sizeLine/\Q (.str (i++j)) H):=λa s σ H x y v u Q I b c h=>zm a s σ H x y v u Q I b c h
theorem zZ:Jy X "str.index" (λx xs H Q=>∃z c i,x=.str z/\xs=[.str ⟨#[c]⟩]/\z.cps.toList[i]?=some c/\(∀j,j<i->z.cps.toList[j]?≠some c)/\Q (.int (i:Nat)) H):=by
 intro l s σ H x xs v B Q I m n h;obtain⟨z,c,i,rfl,rfl,hi,f,q⟩:=h;obtain⟨t,rfl⟩:=m;obtain⟨u,rfl,o,rfl⟩:=n.one
 have rT:∀k,StrLaws.At z ⟨#[c]⟩ z.length k↔z.cps.toList[k]?=some c:=λk=>by
  unfold StrLaws.At;rw[Bs.pQ];constructor
  ·rintro⟨g,d⟩
   have a:k<z.cps.toList.length:=by
    have:k+1<=z.length:=g;rw[<-Bs.aR]at this;exact this
   have b:(z.cps.toList.drop k).take 1=[c]:=d;rw[wbw a]at b;rw[wa1 a];exact congrArg some (we7 b).1
  ·intro g;obtain⟨d,p⟩:=wa5.mp g;refine⟨?_,?_⟩
   ·have:k<z.length:=by rw[<-Bs.aR];exact d
    show k+1<=z.length
    lia
   ·show (z.cps.toList.drop k).take 1=[c];rw[wbw d,p];rfl
 rcases StrLaws.occ_head z ⟨#[c]⟩ 1 (wab _) with⟨_,hn⟩ |⟨j,r,e,y,hk⟩
 ·exact absurd ((rT i).mpr hi) (hn i)
 ·have A:j=i:=by
   rcases wde j i with w |w |w
   ·exact absurd ((rT j).mp y) (f j w)
   ·exact w
   ·exact absurd ((rT i).mpr hi) (hk i w)
  subst A;exact call_gives wew (wgj _ _ _) F.entry_str_index (F.args_str_index_2 _ _) (gives_str_index z ⟨#[c]⟩ t o j r e) ⟨.int _,H,I.tok _,⟨_,rfl⟩,q⟩
end
end L2
namespace Bs
open PySem L2
noncomputable def O6(g:Str)(ws ss:List Str)(n:Nat)(p:Str)(c:Nat):Int:=if bears ws (p++⟨#[c]⟩)=true then 0 else dY g ws ss n (lend ss (p++⟨#[c]⟩))
noncomputable def Q3(g:Str)(ws ss:List Str)(n:Nat)(p:Str):V->V:=λv=>match v with
 |.str z=>.int (O6 g ws ss n p (z.cps.getD 0 0))
 |_=>.non
theorem DR(l:ss.Perm (bo ws "" ws))(hw:∀w∈ws,1<=w.length)(h:bears ws t=false)(n:Nat):∀j:List Nat,(j.map (O6 g ws ss n (lend ss t))).sum=(((j.map λd=>(iH g ws (t++⟨#[d]⟩) n).length).sum:Nat):Int)
 |[]=>rfl
 |c::j=>by
  rw[wao,wao,waZ,waZ,wci,<-DR l hw h n j,DP l hw h];rfl
theorem Kb(j:ss.Perm (bo ws "" ws))(hw:∀w∈ws,1<=w.length)(h:bears ws t=false)(n c:Nat):O6 g ws ss n (lend ss t) c=((iH g ws (t++⟨#[c]⟩) n).length:Int):=(DP j hw h c n).symm
theorem A0:∀{l:List Nat},c∈l->∃i,l[i]?=some c/\(∀j,j<i->l[j]?≠some c)/\l=l.take i++c::l.drop (i+1)
 |[],h=>nomatch h
 |d::l,h=>by
  by_cases e:d=c
  ·exact⟨0,by rw[e];rfl,λj f=>by lia,by rw[e];rfl⟩
  ·have g:c∈l:=by
    rcases waD.mp h with z |z
    ·exact absurd z.symm e
    ·exact z
   obtain⟨i,a,b,s⟩:=A0 g;refine⟨i+1,a,λj f=>?_,?_⟩
   ·cases j with
    |zero=>intro z;exact e (wae z)
    |succ j=>exact b j (by lia)
   ·show d::l=d::(l.take i++c::l.drop (i+1));rw[<-s]
theorem drop_cons(h:(ch r)[i]?=some c):(⟨#[c]⟩:Str)++bW r (i+1)=bW r i:=by grind [cm,aJ,kU,hO,wbw]
end Bs
namespace Sx
open PySem L2 Bs
inductive F6(C:Addr)(vs:List V)(H:Hp)(Q:VK)(dQ:XK):Prop
 |mk (x dc p c n g ws ss ls) (_:vs=[.ref x,.str p,.str ⟨#[c]⟩,.ref dc]) (_:aS C H x g ws ss ls) (_:p∈ss) (_:c∈ch g) (_:H dc=some (.dK (ER g ws ss n))) (_:Q (.int (O6 g ws ss n p c)) H)
inductive Kc(C:Addr)(vs:List V)(H:Hp)(Q:VK)(dQ:XK):Prop
 |mk (x:Addr) (n k:Nat) (r g:Str) (ws ss ls:List Str) (_:vs=[.ref x,.int (n:Int),.int (k:Int)]) (_:aS C H x g ws ss ls) (_:(∀w∈ws,1<=w.length)) (_:g.length<=10) (_:ss.length<=900) (_:n<=1000) (_:(iH g ws "" n)[k]?=some r) (_:∀H',a7 H H'->Q (.str r) H')
inductive Cm(C:Addr)(vs:List V)(H:Hp)(Q:VK)(dQ:XK):Prop
 |mk (x:Addr) (k:Nat) (r g:Str) (ws ss ls:List Str) (_:vs=[.ref x,.str r]) (_:aS C H x g ws ss ls) (_:(∀w∈ws,1<=w.length)) (_:(ch g).Nodup) (_:g.length<=10) (_:ss.length<=900) (_:r.length<=1000) (_:(iH g ws "" r.length)[k]?=some r) (_:∀H',a7 H H'->Q (.int (k:Int)) H')
inductive Hv(K:wa2)(vs:List V)(H:Hp)(Q:VK)(dQ:XK):Prop
 |mk (r a ws) (_:vs=[.str r,.ref a]) (_:aE K H a (ws.map V.str)) (_:ws.length<=1000) (_:∀H',a7 H H'->Q (.bl (!bears ws r)) H')
end Sx
namespace L2
open PySem PySem.Spec PyProof.Rows
section
variable{X:Cx}
def Q4(i j:Int):Prop:=0<j/\j.natAbs.log2<9000
theorem ua:kI X (binaryOp .FloorDiv) (rI Q4 λi j=>.int (i/j)):=Rj λi j _ _ _ _ _ hc q=>by
 have a:(0:Int)<j:=hc.1;exact floordiv_int (by lia) (by grind) (.inl (PyProof.noPylong_of_log2 hc.2))
end
theorem A1(xs:List V)(k:Nat):j9 xs (some (k:Int)) none=xs.drop k:=by
 unfold j9 HT.zf;simp only;split
 ·lia
 ·by_cases h:k<=xs.length
  ·rw[show min ((k:Int)).toNat xs.length=k by lia];exact wbv (by rw[wbm];exact wab _)
  ·rw[show min ((k:Int)).toNat xs.length=xs.length by lia,wbn,wgb,wbN (by lia)]
theorem Kd(xs:List V){i j:Nat}(h:i<=j):j9 xs (some (i:Int)) (some (j:Int))=(xs.drop i).take (j-i):=by
 unfold j9 HT.zf;simp only;rw[if_neg (by lia),if_neg (by lia)]
 by_cases a:i<=xs.length
 ·by_cases b:j<=xs.length
  ·rw[show min ((i:Int)).toNat xs.length=i by lia,show min ((j:Int)).toNat xs.length=j by lia]
  ·rw[show min ((i:Int)).toNat xs.length=i by lia,show min ((j:Int)).toNat xs.length=xs.length by lia];rw[wbv (by rw[wbm];exact wab _),wbv (by rw[wbm];lia)]
 ·rw[show min ((i:Int)).toNat xs.length=xs.length by lia,wbN (wab _),wbN (by lia),List.take_nil,List.take_nil]
end L2
namespace Sx
open PySem L2 Bs
inductive Hw(vs:List V)(H:Hp)(Q:VK)(dQ:XK):Prop
 |mk (c:Int) (m:Nat) (_:vs=[.int c,.int (m:Int)]) (_:m<=1000) (_:∀(l:Addr) (xs:List Int) (H':Hp),a7 H H'->H l=none->H' l=some (.lst (xs.map V.int))->xs.length=m->Q (.ref l) H')
inductive Ke(K:wa2)(vs:List V)(H:Hp)(Q:VK)(dQ:XK):Prop
 |mk (a:Addr) (ns:List Int) (_:vs=[.ref a]) (_:aE K H a (ns.map V.int)) (_:∀(p lw:Addr) (g:Str) (ws:List Str) (H':Hp),a7 H H'->H p=none->H lw=none->H' p=some (.tup [.str g,.ref lw])->H' lw=some (.lst (ws.map V.str))->zF g->ws.length<=6->(∀w∈ws,yj g w)->Q (.ref p) H')
inductive Kf(K:wa2)(vs:List V)(H:Hp)(Q:VK)(dQ:XK):Prop
 |mk (a:Addr) (ns:List Int) (g:Str) (_:vs=[.ref a,.str g]) (_:aE K H a (ns.map V.int)) (_:2<=g.length) (_:g.length<=4) (_:∀(p:Addr) (many wide:Int) (H':Hp),a7 H H'->H p=none->H' p=some (.tup [.int many,.int wide])->fO g.length many wide->Q (.ref p) H')
end Sx
namespace L2
open PySem PySem.Spec PyProof.Rows
section
variable{X:Cx}{tg:Expr}
end
end L2
namespace Bs
open PySem L2
section
variable{ws ss:List Str}
end
end Bs
namespace Sx
open PySem L2 Bs
end Sx
namespace L2
open PySem PySem.Spec PyProof.Rows
section
variable{M:Model}{A:Around}{E:Value->Shared->Prop}{e C CB:Addr}{nm q:Str}{N:Addr}{bs:List Value}{hdct:Bool}{sn:List Str}{sub:List Value}{ab:Bool}{col:Option Bool}{dd:Option Addr}{k0 k1 k2 k3 k5:Option Value}
theorem qQ{h:Heap}{g:Array wdk}{d:Drawn}{t:Nat}{os:wbT}{p:Obj}{Q:Bool->Shared->Prop}(l:h.get? C=some (wbr nm q C N bs (nr CB) hdct sn sub ab col dd k0 k1 k2 k3 k5 "ValueError.__new__"))
 (he:h.get? e=some p) (j:p.cls=.ref C) (r:Q true ⟨h,g,d,t,os⟩) :
 wpAny M A (wgo (.ref e) (.ref C)) Q E ⟨h,g,d,t,os⟩:=by
 have a:(waj C::nr CB).contains (.type "BaseException")=true:=by grind
 have b:(waj C::nr CB).contains (.ref C)=true:=by grind
 have f:=tc_notTuple;unfold wgo
 repeat (first |(with_reducible refine wb8 he ?_;rw[j]) |with_reducible refine wb8 l ?_ |(with_reducible refine wbS l ?_;rw[b]) |(with_reducible refine wbS l ?_;rw[a]) |wp_step)
 exact r
end
section
variable{X:Cx}{CB C:Addr}{Q6 x nm:Str}{b:Bool}{body:List Stmt}{tb:FU}{i jj:Nat}{p1 p2 p3 p4 MN pos:Pos}
theorem Cp{X:Cx}{K:wa2}{o e:Expr}{l:List Expr}{to:TE}{t:TA}{name:Str}{apos g:Pos}{T id:String}{r:V->List V->Hp->VK->Prop}(hK:X.K=K)(pa:wgk T)(slot:Slot T name id)(U:typeOf (.builtin id)=pure (.type "method_descriptor"))(hm:Jy X id r)(ho:PE X o to)(ha:PA X (e::l) t)
 (p:wcy o name X.env (eval o X.env)=eval o X.env:=by rfl)
 (J:((backTo g (starEach (e::l) X.env)).all (λx=>!x.1)&&(backToKw g (wcJ [] X.env)).all (λx=>x.1.isSome)
   && decide ((e::l).length+([]:List wdT).length+(if ([]:List wdT).isEmpty then 0 else 1)<30))=true:=by rfl)
 (I:(apos.endLine==g.line)=true:=by rfl) (hs:starEach (e::l) X.env=(false,eval e X.env)::starEach l X.env:=by rfl) (j:(backTo g (starEach l X.env)).any (·.1)=false:=by rfl) :
 PE X (.Call (.Attribute o name apos) (e::l) [] g) (Vi K T r to t):=by
 subst hK;exact iL pa slot U hm ho ha p J I hs j
end
end L2
namespace Bs
open PySem L2
section
variable{g:Str}{ws ss:List Str}
structure Rw(g r r':Str)(k c d:Nat):Prop where
 eq:∀m,m<k->(ch r)[m]?=(ch r')[m]?
 hc:(ch r)[k]?=some c
 hd:(ch r')[k]?=some d
 lt:∃i j:Nat,(ch g)[i]?=some c/\(ch g)[j]?=some d/\i<j
theorem Rw.cons(h:Rw g r j k c d)(e:Nat):Rw g ((⟨#[e]⟩:Str)++r) ((⟨#[e]⟩:Str)++j) (k+1) c d:=by
 have a:∀z:Str,ch ((⟨#[e]⟩:Str)++z)=e::ch z:=λz=>by rw[aJ,kU];rfl
 refine⟨λm b=>?_,?_,?_,h.lt⟩
 ·rw[a,a]
  cases m with
  |zero=>rfl
  |succ m=>exact h.eq m (by lia)
 ·rw[a];exact h.hc
 ·rw[a];exact h.hd
def Q7(g r r':Str):Prop:=∃k c d,Rw g r r' k c d
theorem A2{p:List Str}(t:p.Pairwise (Q7 g)):∀(l a:List Nat),ch g=a++l->(l.flatMap λc=>p.map λr=>(⟨#[c]⟩:Str)++r).Pairwise (Q7 g)
 |[],a,_=>.nil
 |c::l,a,e=>by
  rw[wc0,List.pairwise_append];refine⟨?_,A2 t l (a++[c]) (by rw[e,waP];rfl),λx f y b=>?_⟩
  ·rw[List.pairwise_map];exact t.imp λ⟨k,i,d,h⟩=>⟨k+1,i,d,h.cons c⟩
  ·obtain⟨r,_,rfl⟩:=waa.mp f;obtain⟨d,hd,b⟩:=wbW.mp b;obtain⟨q,_,rfl⟩:=waa.mp b;obtain⟨j,n,o⟩:=wbp hd;refine⟨0,c,d,λm s=>by lia,by rw[aJ,kU];rfl,by rw[aJ,kU];rfl,a.length,a.length+1+j,?_,?_,by lia⟩
   ·rw[e,waq (wab _),wbn];rfl
   ·rw[e,waq (by lia),show a.length+1+j-a.length=j+1 by lia,List.getElem?_cons_succ,wa1 n,o]
theorem ub:∀n,(Ck g n).Pairwise (Q7 g)
 |0=>List.pairwise_singleton ..
 |n+1=>A2 (ub n) (ch g) [] rfl
end
end Bs
namespace Sx
open PySem L2 Bs
end Sx
namespace L2
open PySem PySem.Spec PyProof.Rows
section
variable{prog:wap}{w:World}{A:Around}{R:wcN->Shared->Prop}{s:Shared}{d it l t:Addr}{i:Nat}{items:Array Value}
end
section
variable{prog:wap}{w:World}{K:Type}[DecidableEq K]{knd:KeyKind prog w K}{A:Around}{E:Value->Shared->Prop}{s:Shared}{l:Addr}{o:Obj}{items:Array Value}{n:Nat}
end
section
variable{X:Cx}{A:Around}{pins:List (Addr×Obj)}{σ:St}{H:Hp}{d it l:Addr}{ts:List Addr}{ps:List (Key×V)}{R:wcN->Shared->Prop}
end
end L2
namespace Bs
open PySem L2
end Bs
namespace Sx
open PySem L2 Bs
end Sx
namespace L2
open PySem PySem.Spec PyProof.Rows
section
variable{X:Cx}
end
end L2
namespace Bs
open PySem L2
section
variable{g:Str}{ws ss ss':List Str}
end
noncomputable def isInt:V->Bool
 |.int _=>true
 |_=>false
end Bs
namespace Sx
open PySem L2 Bs
end Sx
namespace L2
open PySem PySem.Spec PyProof.Rows
noncomputable def sJ:List Expr->Option (List Int)
 |[]=>some []
 |.Constant (.int i) _ _::es=>(sJ es).map (i :: ·)
 |_::_=>none
def Ls:List Int->TA
 |[]=>y3
 |i::is=>qH (tC (.int i)) (Ls is)
theorem oh{X:Cx}:∀{g:List Expr} {is:List Int},sJ g=some is->PA X g (Ls is)
 |[],is,h=>by
  obtain rfl:[]=is:=wae h;exact fK
 |e::g,is,h=>by
  unfold sJ at h;split at h
  ·rename_i heq;exact nomatch heq
  ·rename_i i j p a heq;cases heq
   cases q:sJ g with
   |none=>rw[q]at h;cases h
   |some b=>
    rw[q]at h;obtain rfl:=wae h;exact a8 aj (oh q)
  ·cases h
def uc:List (Int×Int)->TA
 |[]=>y3
 |p::ps=>qH (OW (qH (tC (.int p.1)) (qH (tC (.int p.2)) y3))) (uc ps)
theorem Kg{X:Cx}{ps:List (Int×Int)}(h:PA X g (uc ps)):PA X (.Tuple [.Constant (.int i) l p,.Constant (.int j) r t] C pt::g) (uc ((i,j)::ps)):=a8 (dW (a8 aj (a8 aj fK))) h
theorem DS{σ:St}:∀{ps:List (Int×Int)} {H Q},(∀g j,a7 H g->j.length=ps.length->(∀(i:Nat) p,ps[i]?=some p->∃q,j[i]?=some (.ref q)/\g q=some (.tup [.int p.1,.int p.2]))->Q j g)->uc ps σ H Q
 |[],H,_,k=>k H [] (a7.refl _) rfl λ_ _ h=>nomatch h
 |_::_,_,_,k=>⟨(by show 2<=sizeLine;decide),λq f=>DS λg j s e a=>k g (.ref q::j) ((a7.upd f).trans s) (congrArg (· + 1) e) λ
  |0,_,h=>⟨q,rfl,by cases h;exact s _ _ a6⟩
  |i+1,p,h=>a i p h⟩
set_option genInjectivity true in
inductive jM where
 |at (v:V)
 |tup (ds:List jM)
 |lst (ds:List jM)
noncomputable def MZ:V->Bool
 |.non=>true
 |.bl _=>true
 |.int _=>true
 |.str _=>true
 |_=>false
mutual
def bA(K:wa2)(H:Hp):jM->V->Prop
 |.at x,v=>v=x/\MZ x=true
 |.tup ds,v=>∃a xs,v=.ref a/\H a=some (.tup xs)/\b9 K H ds xs
 |.lst ds,v=>∃a xs,v=.ref a/\Rd H a (.lst xs)/\b9 K H ds xs
def b9(K:wa2)(H:Hp):List jM->List V->Prop
 |[],xs=>xs=[]
 |d::ds,xs=>∃v vs,xs=v::vs/\bA K H d v/\b9 K H ds vs
end
section
variable{K:wa2}{H:Hp}
end
section
variable{X:Cx}{pins:List (Addr×Obj)}{σ:St}{H:Hp}{s:Shared}
end
end L2
namespace L2
open PySem PySem.Spec PyProof.Rows Sx
section
variable{X:Cx}
end
end L2
namespace Bs
open PySem L2 AC
section
variable{g:Str}{ws ss ls:List Str}{p:Str}
noncomputable def jN(ws ss:List Str)(p:Str)(r:Str):Option (Str×Str):=if bears ws (p++r)=true then none else some (r,lend ss (p++r))
theorem Hx(h:bears ws (p++a)=true):jN ws ss p (a++c)=none:=by
 unfold jN;rw[if_pos]
 cases e:bears ws (p++(a++c)) with
 |true=>rfl
 |false=>
  have:=dI (a:=p++a) (b:=p++(a++c)) (by rw[<-cL,aJ (p++a) c];exact⟨[],ch c,by simp⟩) e;rw[h]at this;cases this
theorem ud{α β:Type}{f:α->Option β}:∀{l:List α},(∀a∈l,f a=none)->l.filterMap f=[]:=by intro l;induction l<;>grind [wad,wac]
theorem xi(l:ss.Perm (bo ws "" ws))(hw:∀w∈ws,1<=w.length)(h:bears ws (p++r)=false):∀j:List Nat,(j.filterMap λc=>if bears ws (lend ss (p++r)++⟨#[c]⟩)=true then none else some (r++(⟨#[c]⟩:Str),lend ss (lend ss (p++r)++(⟨#[c]⟩:Str))))=(j.map λc=>r++(⟨#[c]⟩:Str)).filterMap (jN ws ss p)
 |[]=>rfl
 |c::j=>by
  rw[wao,wb5,wb5,xi l hw h j]
  have e:(if bears ws (lend ss (p++r)++⟨#[c]⟩)=true then none else some (r++(⟨#[c]⟩:Str),lend ss (lend ss (p++r)++(⟨#[c]⟩:Str))))=jN ws ss p (r++⟨#[c]⟩):=by
   unfold jN;rw[fN l h hw,i5 l h,cL]
  rw[e]
theorem A3(j:ss.Perm (bo ws "" ws))(hw:∀w∈ws,1<=w.length):∀L:List Str,f9 g ws ss (L.filterMap (jN ws ss p))=(L.flatMap λr=>(ch g).map λc=>r++(⟨#[c]⟩:Str)).filterMap (jN ws ss p)
 |[]=>rfl
 |r::L=>by
  rw[wc0,wgc,<-A3 j hw L,wb5]
  cases h:bears ws (p++r) with
  |true=>
   have e:jN ws ss p r=none:=by unfold jN;rw[if_pos h]
   rw[e,ud (l:=(ch g).map λc=>r++(⟨#[c]⟩:Str)) λa ha=>by grind [Hx]];rfl
  |false=>
   have e:jN ws ss p r=some (r,lend ss (p++r)):=by unfold jN;rw[if_neg (by rw[h];exact wam)]
   rw[e,<-xi j hw h];exact wc0 ..
theorem ue(l:ss.Perm (bo ws "" ws))(hw:∀w∈ws,1<=w.length)(j:p∈ss):∀n,tW g ws ss p n=(Jb g n).filterMap (jN ws ss p)
 |0=>by
  obtain⟨b,a⟩:=nv l hw j;show [(("":Str),p)]=[("":Str)].filterMap (jN ws ss p);have e:jN ws ss p ""=some (("":Str),p):=by unfold jN;rw[iP,a,if_neg (by grind)]
  rw[wb5,e];rfl
 |n+1=>by
  show f9 g ws ss (tW g ws ss p n)=((Jb g n).flatMap λr=>(ch g).map λc=>r++(⟨#[c]⟩:Str)).filterMap (jN ws ss p);rw[ue l hw j n,A3 l hw]
noncomputable def Kh(ws ss ls:List Str)(p:Str)(r:Str):Option (Str×Str):=if bears ws (p++r)=true then none else if lend ss (p++r)∈ls then some (r,lend ss (p++r)) else none
theorem Cq(l:ss.Perm (bo ws "" ws))(hw:∀w∈ws,1<=w.length)(j:p∈ss)(n:Nat):(Jb g n).filterMap (Kh ws ss ls p)=aQ g ws ss ls n p:=by
 unfold aQ;rw[ue l hw j]
 have:∀L:List Str,L.filterMap (Kh ws ss ls p)=(L.filterMap (jN ws ss p)).filter λq=>decide (q.2∈ls):=by
  intro L
  induction L with
  |nil=>rfl
  |cons r L a=>
   rw[wb5,wb5,a];unfold Kh jN
   cases h:bears ws (p++r) with
   |true=>rfl
   |false=>
    rw[if_neg wam,if_neg wam]
    by_cases hl:lend ss (p++r)∈ls
    ·rw[if_pos hl,waX (by exact decide_eq_true hl)]
    ·rw[if_neg hl,wbf (by simpa using hl)]
 exact this _
end
end Bs
namespace L2
open PySem Bs
noncomputable def Lv(q:Str×Str):jM:=.tup [.at (.str q.1),.at (.str q.2)]
theorem xj:∀(g:List Addr) (j:List (Str×Str)),bU H g (j.map lu)->b9 K H (j.map Lv) (g.map V.ref)
 |[],[],_=>rfl
 |[],_::_,h=>by have:=h.1;simp at this
 |_::_,[],h=>by have:=h.1;simp at this
 |r::g,q::j,h=>by
  refine⟨.ref r,g.map V.ref,rfl,⟨r,lu q,rfl,h.2 0 r (lu q) rfl rfl,?_⟩,xj g j ⟨by have:=h.1;simpa using this,λi a b c d=>h.2 (i+1) a b c d⟩⟩;exact⟨.str q.1,[.str q.2],rfl,⟨rfl,rfl⟩,⟨.str q.2,[],rfl,⟨rfl,rfl⟩,rfl⟩⟩
theorem Te.Bs.dC.rds(R:dC H l j g):bA K H (.lst (g.map Lv)) (.ref l):=⟨l,_,rfl,.inl R.l,xj j g R.t⟩
end L2
namespace Sx
open PySem L2 Bs
end Sx
namespace L2
open PySem PySem.Spec PyProof.Rows Sx
section
variable{X:Cx}
end
theorem b9.q8{K:wa2}{H:Hp}:∀(g:List jM) (ys:List V),g.length=ys.length->(∀(i:Nat) (d:jM) (y:V),g[i]?=some d->ys[i]?=some y->bA K H d y)->b9 K H g ys
 |[],[],_,_=>rfl
 |[],_::_,h,_=>by simp at h
 |_::_,[],h,_=>by simp at h
 |d::g,y::ys,h,r=>⟨y,ys,rfl,r 0 d y rfl rfl,b9.q8 g ys (by simpa using h) λi a b c e=>r (i+1) a b c e⟩
theorem A4{Ok:Hp->Prop}{Q:Hp->Prop}(R:Nat->V->Hp->Prop)(C:∀i y I g ys,R i y I->I l=some (.lst ys)->(∀b o,I b=some o->b≠l->g b=some o)->R i y g)(T:mD J Ok xs)(hl:H l=none)(hz:xs.length<=sizeLine)(r:∀p,a7 H p->Ok p)
 (he:∀i x t ys Q',xs[i]?=some x->a7 H t->t l=some (.lst ys)->(∀y p,a7 t p->R i y p->Q' y p)->te (some x::U) t Q')
 (hd:∀ys p,a7 H p->p l=some (.lst ys)->ys.length=xs.length->(∀i y,ys[i]?=some y->R i y p)->Q p):mH J l U vJ te H Q:=by
 refine⟨λi m a g=>m=xs.length-i/\i<=xs.length/\a7 H g/\g l=some (.lst a)/\a.length=i/\∀j y,a[j]?=some y->R j y g,⟨xs.length,by simp,waJ _,a7.upd hl,a6,rfl,λj y h=>by simp at h⟩,?_⟩;rintro i m a g ⟨rfl,hi,f,k,c,B⟩;refine⟨k,?_⟩
 by_cases d:i<xs.length
 ·refine .inr ⟨T.go i g (r _ f) d,by rw[c];lia,λx t y=>?_⟩;obtain⟨e,D⟩:=T.sX i g x t (r _ f) d y;subst e;unfold vJ;dsimp only;rw[if_pos rfl];refine he i x _ a _ D f k λy s u v=>⟨u _ _ k,xs.length-(i+1),by lia,rfl,d,λb o e=>?_,a6,by rw[wa7,c];rfl,λj z n=>?_⟩
  ·rw[ae (af e hl)];exact u _ _ (f _ _ e)
  ·have q:=u _ _ k;have kp:∀b o,s b=some o->b≠l->(upd s l (.lst (a++[y]))) b=some o:=λb o e E=>by rw[ae E];exact e
   by_cases w:j<a.length
   ·rw[waB w]at n;exact C j z s _ _ (C j z _ _ _ (B j z n) k λb o e _=>u _ _ e) q kp
   ·rw[waq (by lia)]at n
    have A:j-a.length=0:=by
     have:=(wa5.mp n).1;simp at this
     lia
    rw[A]at n;cases n;have:j=i:=by lia
    rw[this];exact C i y s _ _ v q kp
 ·have e:i=xs.length:=by lia
  subst e;exact .inl ⟨T.stop g (r _ f),hd a g f k c B⟩
section
variable{X:Cx}
theorem F7{K:wa2}(J:X.K=K):Jy X "list.index" (λx xs H Q=>∃l g k i,x=.ref l/\xs=[.str k]/\aE K H l (wcA V.str g)/\g.length<=1000/\g[i]?=some k/\(∀j:Nat,j<i->g[j]?≠some k)/\Q (.int (i:Nat)) H):=by
 subst J;intro A s σ H x xs v Y Q I E G h;obtain⟨l,g,k,i,rfl,rfl,L,M,hi,f,q⟩:=h;cases E;obtain⟨u,rfl,N,rfl⟩:=G.one;obtain⟨a,B,pl,Z⟩:=I.list L;obtain⟨⟨cls,O,data,sl⟩,C,hc,n,hd⟩:=pl.isList;simp only at hc hd;subst hc hd;have c:=B.length;rw[wa0]at c;have R:i<g.length:=(wa5.mp hi).1
 have at_:∀m (b:m<a.length),∃t,a[m]=.str (g[m]'(by omega)) t:=λm b=>by
  obtain⟨w,D,S⟩:=B.get (i:=m) (x:=.str (g[m]'(by omega))) (by rw[wa4,wa1 (by omega)];rfl);rw[wa1 b]at D;obtain⟨t,rfl⟩:=S;exact⟨t,wae D⟩
 refine wep wcS ⟨_,C,rfl⟩ wfq (wfa _ _)
  (wfr l a.toArray n O sl (.str k N) (λw=>match w with |.str z _=>z==k |_=>false) i (by simp;omega) (by omega) ?_ ?_) ⟨C,λy T=>?_,?_⟩
 ·obtain⟨t,e⟩:=at_ i (by omega);have U:g[i]=k:=(wa5.mp hi).2;simp only[wdr];rw[e,U];simp
 ·intro m b o;have p:m<a.length:=by simpa using b
  obtain⟨t,e⟩:=at_ m p;simp only[wdr];rw[e];have d:=f m o;rw[wa1 (by omega)]at d;simp only[beq_eq_false_iff_ne,ne_eq];exact λz=>d (by rw[z])
 ·have r:y∈a:=by simpa using T
  obtain⟨m,b,rfl⟩:=wbp r;obtain⟨t,e⟩:=at_ m b;rw[e];exact wg7 _ _ _ _
 ·exact⟨.int (i:Nat),H,I.tok _,⟨_,rfl⟩,q⟩
end
end L2
namespace L2
open PySem PySem.Spec PyProof.Rows Sx Bs
theorem oi(s:a7 H g)(h:Rd H a o):Rd g a o:=by
 rcases h with e |⟨z,e⟩
 ·exact .inl (s _ _ e)
 ·exact .inr ⟨z,s _ _ e⟩
theorem a7.Ki{K:wa2}{H g:Hp}{a:Addr}{xs:List V}(s:a7 H g)(h:hZ K H a xs):hZ K g a xs:=by
 rcases h with e |e
 ·exact .inl (oi s e)
 ·exact .inr e
mutual
theorem bA.same{K:wa2}{H g:Hp}(s:a7 H g):∀(d:jM) (v:V),bA K H d v->bA K g d v
 |.at _,_,h=>h
 |.tup c,_,h=>by
  obtain⟨a,b,e,f,hl⟩:=h;exact⟨a,b,e,s _ _ f,b9.same s c b hl⟩
 |.lst c,_,h=>by
  obtain⟨a,b,e,f,hl⟩:=h;exact⟨a,b,e,oi s f,b9.same s c b hl⟩
theorem b9.same{K:wa2}{H j:Hp}(s:a7 H j):∀(g:List jM) (xs:List V),b9 K H g xs->b9 K j g xs
 |[],_,h=>h
 |d::g,_,h=>by
  obtain⟨v,a,e,b,hl⟩:=h;exact⟨v,a,e,bA.same s d v b,b9.same s g a hl⟩
end
theorem b9.len{K:wa2}{H:Hp}:∀{g:List jM} {xs:List V},b9 K H g xs->xs.length=g.length
 |[],xs,h=>by
  have e:xs=[]:=h;subst e;rfl
 |d::g,_,h=>by
  obtain⟨v,a,rfl,_,hl⟩:=h;rw[waF,waF,b9.len hl]
theorem b9.get{K:wa2}{H:Hp}:∀{g:List jM} {xs:List V},b9 K H g xs->∀(i:Nat) (x:V),xs[i]?=some x->∃d,g[i]?=some d/\bA K H d x
 |[],_,h,i,x,e=>by
  rw[show _=[] from h]at e;simp at e
 |d::g,_,h,i,x,e=>by
  obtain⟨v,a,rfl,b,hl⟩:=h
  cases i with
  |zero=>grind
  |succ i=>exact b9.get hl i x e
theorem b9.at{K:wa2}{H:Hp}{g:List jM}{xs:List V}(h:b9 K H g xs){i:Nat}{d:jM}(e:g[i]?=some d):∃x,xs[i]?=some x/\bA K H d x:=by
 have hi:i<g.length:=(wa5.mp e).1;have a:xs[i]?=some (xs[i]'(by rw[h.len];exact hi)):=wa1 _;obtain⟨c,b,r⟩:=h.get i _ a;rw[e]at b;cases b;exact⟨_,a,r⟩
noncomputable def aF(H H':Hp):Hp:=λa=>match H a with
 |none=>H' a
 |some _=>none
theorem cj(H g:Hp):a7 (aF H g) g:=λa o e=>by
 grind [aF]
theorem dM(s:a7 g H):a7 (aF H j) (aF g j):=λa o e=>by
 unfold aF at e ⊢
 cases h:H a with
 |none=>rw[h]at e;rw[none_of s h];exact e
 |some z=>rw[h]at e;cases e
theorem iu(s:a7 g j):a7 (aF H g) (aF H j):=by grind [a7,aF]
theorem bC(hl:H l=some o)(kp:∀b o,g b=some o->b≠l->j b=some o):a7 (aF H g) (aF H j):=by grind [a7,aF]
theorem bK(h:H a=none)(e:g a=some o):aF H g a=some o:=by
 grind [aF]
theorem uf{K:wa2}{J:It}{Ok:Hp->Prop}{xs:List V}{l:Addr}{t:St}{U:TE}{H:Hp}{Q:Hp->Prop}(p:List jM)(hJ:mD J Ok xs)(hl:H l=none)(hz:xs.length<=sizeLine)(C:p.length=xs.length)(I:∀g,a7 H g->Ok g)
 (he:∀(i:Nat) (x:V) (d:jM) j T,xs[i]?=some x->p[i]?=some d->a7 H j->(∀y g,a7 j g->bA K (aF j g) d y->T y g)->U (some x::t) j T)
 (hd:∀g,a7 H g->bA K (aF H g) (.lst p) (.ref l)->Q g):mH J l t vJ U H Q:=by
 refine A4 (λi y g=>∀d,p[i]?=some d->∃j o,a7 H j/\j l=some o/\bA K (aF j g) d y) ?_ hJ hl hz I (λi x j f T k b c m=>?_) (λf g h n e q=>?_)
 ·intro i y v w f r s kp d a;obtain⟨j,o,b,c,r⟩:=r d a;exact⟨j,o,b,c,bA.same (bC c kp) d y r⟩
 ·have hi:i<p.length:=by rw[C];exact(wa5.mp k).1
  refine he i x p[i] j _ k (wa1 hi) b λy g h r=>m y g h λd a=>?_;rw[wa1 hi]at a;cases a;exact⟨j,_,b,c,r⟩
 ·refine hd g h ⟨l,f,rfl,.inl (bK hl n),b9.q8 p f (by rw[C,e]) λi d y a u=>?_⟩;obtain⟨j,o,b,c,r⟩:=q i y u d a;exact bA.same (dM b) d y r
theorem my{K:wa2}{J:It}{Ok:Hp->Prop}{xs:List V}{prs:List (V×V)}{l:Addr}{I:St}{tt:TT}{te:TE}{H:Hp}{Q:Hp->Prop}(p:V×V->Bool)(D:V×V->jM)(hJ:mD J Ok xs)(C:xs.length=prs.length)
 (hT:∀(i:Nat) (q:V×V),prs[i]?=some q->∃r,xs[i]?=some (.ref r)/\hZ K H r [q.1,q.2]) (hl:H l=none) (hz:xs.length<=sizeLine) (T:∀t,a7 H t->Ok t)
 (ht:∀q g U,q∈prs->a7 H g->(∀t,a7 g t->U (p q) t)->tt (some q.1::some q.2::I) g U)
 (he:∀q g U,q∈prs->p q=true->a7 H g->(∀y t,a7 g t->bA K (aF g t) (D q) y->U y t)->te (some q.1::some q.2::I) g U)
 (hd:∀t,a7 H t->bA K (aF H t) (.lst ((prs.filter p).map D)) (.ref l)->Q t):jK K J l I tt te H Q:=by
 refine⟨λi m c s=>m=xs.length-i/\i<=xs.length/\a7 H s/\s l=some (.lst c)/\c.length=((prs.take i).filter p).length/\∀(j:Nat) (d:jM) (y:V),(((prs.take i).filter p).map D)[j]?=some d->c[j]?=some y->∃g o,a7 H g/\g l=some o/\bA K (aF g s) d y,
  ⟨xs.length,by simp,waJ _,a7.upd hl,a6,by simp,λj d y h=>by simp at h⟩,?_⟩
 rintro i m c s ⟨rfl,hi,k,N,f,Z⟩;refine⟨N,?_⟩
 by_cases n:i<xs.length
 ·have hfl:((prs.take i).filter p).length<=i:=wai (wbe _ _) (by rw[wak];omega);refine .inr ⟨hJ.go i s (T _ k) n,by omega,λx g y=>?_⟩;obtain⟨e,hx⟩:=hJ.sX i s x g (T _ k) n y;subst e;have hq:prs[i]?=some prs[i]:=wa1 (by omega);obtain⟨r,A,hr⟩:=hT i _ hq;rw[hx]at A;cases A;have mem:prs[i]∈prs:=waE _;have tk:prs.take (i+1)=prs.take i++[prs[i]]:=by rw[waS,hq];rfl
  refine⟨r,prs[i].1,prs[i].2,rfl,k.Ki hr,ht prs[i] _ _ mem k λH4 v=>?_⟩
  have B:∀(j:Nat) (d:jM) (y:V),(((prs.take i).filter p).map D)[j]?=some d->c[j]?=some y->∃g o,a7 H g/\g l=some o/\bA K (aF g H4) d y:=λj d y h1 h3=>by
   obtain⟨O,o,E,h5,R⟩:=Z j d y h1 h3;exact⟨O,o,E,h5,bA.same (iu v) d y R⟩
  cases S:p prs[i] with
  |false=>
   rw[if_neg wam];have G:(prs.take (i+1)).filter p=(prs.take i).filter p:=by rw[tk,wbG];simp[S]
   exact⟨xs.length-(i+1),by omega,rfl,n,k.trans v,v _ _ N,by rw[G];exact f,by rw[G];exact B⟩
  |true=>
   rw[if_pos rfl];have G:(prs.take (i+1)).filter p=(prs.take i).filter p++[prs[i]]:=by rw[tk,wbG];simp[S]
   have w:=v _ _ N;refine he prs[i] _ _ mem S (k.trans v) λy O E R=>⟨E _ _ w,xs.length-(i+1),by omega,rfl,n,λb o e=>?_,a6,by rw[G,wa7,wa7,f];rfl,λj d z u a=>?_⟩
   ·rw[ae (af e hl)];exact E _ _ (v _ _ (k _ _ e))
   ·have kp:∀b o,O b=some o->b≠l->(upd O l (.lst (c++[y]))) b=some o:=λb o e hb=>by rw[ae hb];exact e
    rw[G,wal]at u;have X:(((prs.take i).filter p).map D).length=c.length:=by rw[wa0,f]
    by_cases Y:j<c.length
    ·rw[waB (by omega)]at u;rw[waB Y]at a;obtain⟨H6,o,s6,h6,r6⟩:=B j d z u a;exact⟨H6,o,s6,h6,bA.same ((iu E).trans (bC h6 kp)) d z r6⟩
    ·rw[waq (by omega)]at u a
     have L:j-c.length=0:=by
      have:=(wa5.mp a).1;simp at this;omega
     rw[X,L]at u;rw[L]at a;cases u;cases a;exact⟨H4,_,k.trans v,w,bA.same (bC w kp) _ _ R⟩
 ·have e:i=xs.length:=by omega
  subst e;refine .inl ⟨hJ.stop s (T _ k),hd s k ⟨l,c,rfl,.inl (bK hl N),b9.q8 _ c ?_ λj d y u hy=>?_⟩⟩
  ·rw[C,waG]at f;rw[wa0,f]
  ·have M:=Z j d y;rw[C,waG]at M;obtain⟨g,o,s3,h3,r3⟩:=M u hy;exact bA.same (dM s3) d y r3
noncomputable def fb(H:Hp)(x:Addr):Hp:=λd=>if d=x then none else H d
theorem fQ(h:H d=some o)(hd:d≠x):fb H x d=some o:=by
 unfold fb;rw[if_neg hd];exact h
theorem gj(kp:∀b o,H b=some o->b≠x->g b=some o):a7 (fb H x) g:=λd o e=>by
 unfold fb at e
 by_cases hd:d=x
 ·grind
 ·grind
theorem N0(j:H x=some (.ins C g fs))(h:Rd H d o)(l:∀z,o≠.ins C g z)(p:∀a b,HO.frz a b≠.ins C g fs):Rd (fb H x) d o:=by grind [Rd,fb,fQ,wae]
theorem yr{K:wa2}{H:Hp}{x C g:Addr}{fs:List (Str×V)}(j:H x=some (.ins C g fs)){d:Addr}{ys:List V}(h:aE K H d ys):aE K (fb H x) d ys:=by
 rcases h with(e |⟨o,e⟩) |e
 ·exact .inl (.inl (fQ e λz=>by grind))
 ·exact .inl (.inr ⟨o,fQ e λz=>by grind⟩)
 ·exact .inr e
mutual
theorem bA.off{K:wa2}{H:Hp}{x C j:Addr}{fs:List (Str×V)}(g:H x=some (.ins C j fs)):∀(d:jM) (v:V),bA K H d v->bA K (fb H x) d v
 |.at _,_,h=>h
 |.tup c,_,h=>by
  obtain⟨a,b,e,f,hl⟩:=h;exact⟨a,b,e,fQ f (λz=>by grind),b9.off g c b hl⟩
 |.lst c,_,h=>by
  obtain⟨a,b,e,f,hl⟩:=h;exact⟨a,b,e,N0 g f (λ_ z=>by cases z) (λ_ _ z=>by cases z),b9.off g c b hl⟩
theorem b9.off{K:wa2}{H:Hp}{x C l:Addr}{fs:List (Str×V)}(j:H x=some (.ins C l fs)):∀(g:List jM) (xs:List V),b9 K H g xs->b9 K (fb H x) g xs
 |[],_,h=>h
 |d::g,_,h=>by
  obtain⟨v,a,e,b,hl⟩:=h;exact⟨v,a,e,bA.off j d v b,b9.off j g a hl⟩
end
theorem i6{K:wa2}{H:Hp}{d:jM}{v:V}:∀{g:List jM} {xs:List V},b9 K H g xs->bA K H d v->b9 K H (g++[d]) (xs++[v])
 |[],xs,h,r=>by
  have e:xs=[]:=h;subst e;exact⟨v,[],rfl,r,rfl⟩
 |c::g,_,h,r=>by
  obtain⟨v0,a,rfl,b,hl⟩:=h;exact⟨v0,a++[v],rfl,b,i6 hl r⟩
end L2
namespace Bs
open PySem L2 Sx
noncomputable def kh(q:Str×Nat):jM:=.tup [.at (.str q.1),.at (.int (q.2:Int))]
noncomputable def bR(qs:List (Str×Nat)):jM:=.lst (qs.map kh)
noncomputable def jO(lns:List (List (Str×Nat))):jM:=.lst (lns.map bR)
noncomputable def qR(hs:List Str):jM:=.lst (hs.map λh=>.at (.str h))
noncomputable def mJ(ws:List Int):jM:=.lst (ws.map λw=>.at (.int w))
theorem Hy(h:bA K H (qR hs) v):∃a,v=.ref a/\aE K H a (hs.map V.str):=by
 obtain⟨a,b,rfl,f,hl⟩:=h;refine⟨a,rfl,?_⟩
 have:b=hs.map V.str:=by
  refine wgX λi=>?_
  cases e:b[i]? with
  |none=>
   have:=hl.len;rw[wa0]at this;rw[wdg (by rw[wa0];have:=wfb.mp e;lia)]
  |some x=>
   obtain⟨d,hd,r⟩:=hl.get i x e;rw[wa4]at hd ⊢
   cases c:hs[i]? with
   |none=>rw[c]at hd;cases hd
   |some z=>
    rw[c]at hd;cases hd;rw[r.1];rfl
 rw[<-this];exact .inl f
theorem iw(h:bA K H (mJ ws) v):∃a,v=.ref a/\aE K H a (ws.map V.int):=by
 obtain⟨a,b,rfl,f,hl⟩:=h;refine⟨a,rfl,?_⟩
 have:b=ws.map V.int:=by
  refine wgX λi=>?_
  cases e:b[i]? with
  |none=>
   have:=hl.len;rw[wa0]at this;rw[wdg (by rw[wa0];have:=wfb.mp e;lia)]
  |some x=>
   obtain⟨d,hd,r⟩:=hl.get i x e;rw[wa4]at hd ⊢
   cases c:ws[i]? with
   |none=>rw[c]at hd;cases hd
   |some z=>
    rw[c]at hd;cases hd;rw[r.1];rfl
 rw[<-this];exact .inl f
theorem oj(h:H a=some (.lst (hs.map V.str))):bA K H (qR hs) (.ref a):=
 ⟨a,_,rfl,.inl h,b9.q8 _ _ (by simp) λi d y hd b=>by
   rw[wa4]at hd b
   cases e:hs[i]? with
   |none=>rw[e]at hd;cases hd
   |some z=>rw[e]at hd b;cases hd;cases b;exact⟨rfl,rfl⟩⟩
theorem jh(h:H a=some (.lst (ws.map V.int))):bA K H (mJ ws) (.ref a):=
 ⟨a,_,rfl,.inl h,b9.q8 _ _ (by simp) λi d y hd b=>by
   rw[wa4]at hd b
   cases e:ws[i]? with
   |none=>rw[e]at hd;cases hd
   |some z=>rw[e]at hd b;cases hd;cases b;exact⟨rfl,rfl⟩⟩
noncomputable def eO(q:Str×Nat):V×V:=(.str q.1,.int (q.2:Int))
theorem nA(h:bA K H (bR g) v):∃a xs,v=.ref a/\aE K H a xs/\xs.length=(g.map eO).length/\∀(i:Nat) (q:V×V),(g.map eO)[i]?=some q->∃r,xs[i]?=some (.ref r)/\H r=some (.tup [q.1,q.2]):=by
 obtain⟨a,xs,rfl,j,hl⟩:=h;refine⟨a,xs,rfl,.inl j,by rw[hl.len,wa0,wa0],λi q b=>?_⟩;rw[wa4]at b
 cases e:g[i]? with
 |none=>rw[e]at b;cases b
 |some z=>
  rw[e]at b;cases b;obtain⟨x,k,r⟩:=hl.at (i:=i) (d:=kh z) (by grind);obtain⟨l,p,rfl,f,m⟩:=r;obtain⟨v1,s,rfl,⟨rfl,_⟩,n⟩:=m;obtain⟨t,c,rfl,⟨rfl,_⟩,o⟩:=n;rw[show c=[] from o]at f;exact⟨l,k,f⟩
theorem om(g:H r=none)(q:Str×Nat):bA K (aF H (upd H r (.tup [.str q.1,.int (q.2:Int)]))) (kh q) (.ref r):=
 ⟨r,_,rfl,bK g a6,.str q.1,[.int (q.2:Int)],rfl,⟨rfl,rfl⟩,.int (q.2:Int),[],rfl,⟨rfl,rfl⟩,rfl⟩
noncomputable def qS(a:Addr):List (Str×V):=[("homes",.ref a)]
noncomputable def oo(a b:Addr):List (Str×V):=[("homes",.ref a),("weights",.ref b)]
noncomputable def Cr(a b c:Addr):List (Str×V):=[("homes",.ref a),("weights",.ref b),("lines",.ref c)]
theorem Lw(a:Addr):cz "homes" (.ref a) []=qS a:=rfl
theorem HA(a b:Addr):cz "weights" (.ref b) (qS a)=oo a b:=by
 show (if ("homes":Str)="weights" then(("homes":Str),V.ref b)::[] else(("homes":Str),V.ref a)::cz "weights" (.ref b) [])=_;rw[if_neg (by decide+kernel)];rfl
theorem DT(a b c:Addr):cz "lines" (.ref c) (oo a b)=Cr a b c:=by
 show (if ("homes":Str)="lines" then(("homes":Str),V.ref c)::[(("weights":Str),V.ref b)] else(("homes":Str),V.ref a)::(if ("weights":Str)="lines" then(("weights":Str),V.ref c)::[] else(("weights":Str),V.ref b)::cz "lines" (.ref c) []))=_;rw[if_neg (by decide+kernel),if_neg (by decide+kernel)];rfl
theorem eP(a b c:Addr):(Cr a b c).lookup ("homes":Str)=some (.ref a):=by
 rw[<-DT,aC,if_neg (by decide+kernel),<-HA,aC,if_neg (by decide+kernel),<-Lw,aC,if_pos rfl]
theorem cg(a b c:Addr):(Cr a b c).lookup ("weights":Str)=some (.ref b):=by
 rw[<-DT,aC,if_neg (by decide+kernel),<-HA,aC,if_pos rfl]
theorem bH(a b c:Addr):(Cr a b c).lookup ("lines":Str)=some (.ref c):=by
 rw[<-DT,aC,if_pos rfl]
structure bN(K:wa2)(C:Addr)(H:Hp)(x:Addr)(hs:List Str)(ws:List Int)(lns:List (List (Str×Nat))):Prop where
 ex:∃dx a b c,H x=some (.ins C dx (Cr a b c))/\bA K H (qR hs) (.ref a)/\bA K H (mJ ws) (.ref b)/\bA K H (jO lns) (.ref c)
theorem bN.same(h:bN K C H x hs ws lns)(s:a7 H g):bN K C g x hs ws lns:=by
 obtain⟨d,a,b,c,e,f,i,j⟩:=h;exact⟨d,a,b,c,s _ _ e,bA.same s _ _ f,bA.same s _ _ i,bA.same s _ _ j⟩
end Bs
namespace Sx
open PySem L2 Bs
inductive HB(K:wa2)(vs:List V)(H:Hp)(Q:VK)(dQ:XK):Prop
 |mk (v qs) (_:vs=[v]) (_:bA K H (bR qs) v) (_:qs.length<=10000) (_:∀y H',a7 H H'->bA K (aF H H') (bR qs) y->Q y H')
inductive HC(K:wa2)(C:Addr)(vs:List V)(H:Hp)(Q:VK)(dQ:XK):Prop
 |mk (x dx u v w hs ws lns) (_:vs=[.ref x,u,v,w]) (_:H x=some (.ins C dx [])) (_:bA K H (qR hs) u) (_:bA K H (mJ ws) v) (_:bA K H (jO lns) w) (_:hs.length<=10000) (_:ws.length<=10000) (_:lns.length<=10000) (_:(∀l∈lns,l.length<=10000)) (_:∀a b c H',H' x=some (.ins C dx (Cr a b c))->bA K (aF H H') (qR hs) (.ref a)->bA K (aF H H') (mJ ws) (.ref b)->bA K (aF H H') (jO lns) (.ref c)->(∀b o,H b=some o->b≠x->H' b=some o)->Q .non H')
end Sx
namespace Bs
open PySem L2 Sx
noncomputable def ak(ls:List Str)(f:Str->Int):List Str:=ls.filter λp=>decide (0<f p)
noncomputable def fR(g:Str)(ws ss ls:List Str)(n:Nat)(hs:List Str)(p:Str):List (Str×Nat):=((aQ g ws ss ls n p).filter λq=>decide (q.2∈hs)).map λq=>(q.1,hs.idxOf q.2)
noncomputable def bc(g:Str)(ws ss ls:List Str)(n:Nat)(hs:List Str):List (List (Str×Nat)):=hs.map (fR g ws ss ls n hs)
theorem Ct(g:Str)(ws ss ls:List Str)(n:Nat)(hs:List Str)(p:Str):(fR g ws ss ls n hs p).length<=g.length^n:=by
 unfold fR;rw[wa0];exact wai (wbe _ _) (fP g ws ss ls n p)
theorem qT:∀{hs:List Str} {j:Nat} (h:j<hs.length),hs.idxOf hs[j]<=j
 |[],j,h=>absurd h (wdA _)
 |a::hs,0,h=>by
  show (a::hs).idxOf a<=0;rw[wgp];exact wab 0
 |a::hs,j+1,h=>by
  have b:j<hs.length:=by simpa using h
  show (a::hs).idxOf hs[j]<=j+1;rw[whr];have:=qT b
  cases(a==hs[j]) with
  |true=>grind
  |false=>grind
theorem q9{hs:List Str}{k:Str}(h:k∈hs):hs[hs.idxOf k]?=some k/\∀j:Nat,j<hs.idxOf k->hs[j]?≠some k:=by grind [wa1,wae,qT]
end Bs
namespace Sx
open PySem L2 Bs
inductive Kj(K:wa2)(C CS:Addr)(vs:List V)(H:Hp)(Q:VK)(dQ:XK):Prop
 |mk (x d:Addr) (many:Int) (n:Nat) (m:List (Str×Int)) (f:Str->Int) (g:Str) (ws ss ls:List Str) (_:vs=[.ref x,.int many,.int (n:Int),.ref d]) (_:aS C H x g ws ss ls) (_:2<=g.length) (_:g.length<=10) (_:ss.length<=900) (_:fO g.length many n) (_:Rd H d (.dK (bp m))) (_:MT m ls f) (_:∀(y:Addr) (H':Hp),a7 H H'->bN K CS (aF H H') y (ak ls f) ((ak ls f).map f) (bc g ws ss ls n (ak ls f))->Q (.ref y) H')
end Sx
namespace L2
open PySem PySem.Spec PyProof.Rows Sx
section
variable{X:Cx}
end
end L2
namespace L2
open PySem
end L2
namespace PySem
section
variable{P:wap}{W0:World}{B:Around}{R:wcN->Shared->Prop}{I:Addr}{fp wr:List Addr}{n:Nat}{Pr:Nat->Value->Prop}{St:Nat->Heap->Prop}
theorem vO(W:Walks P W0 B.in1 I fp wr n Pr St)(bt:Nat->Nat->Bool)(cmp:CmpOf P W0 B.in1 .Gt Pr bt)(S:Addr)(nS:S∉fp)(kw:List (Str×Value)) :
 ∀(k j:Nat) (z:Shared) (best:Value) (c:Nat),n-(j+1)=k->j+1<=n->St (j+1) z.heap->Pr (argBest bt j) best->z.heap.get? S=some {cls:=.type "list",dict:=none,data:=.seq #[best,best] c,slots:=#[]} ->
 (∀v h' tk,Pr (argBest bt (n-1)) v->(∀b o,b∉wr->b≠S->z.heap.get? b=some o->h'.get? b=some o)->R (.ok (.ret v)) {z with heap:=h',toks:=tk}) ->
 codeAny (model P W0) B (.builtin "max.loop" ⟨[.ref I,.none,.ref S],kw⟩) R z:=by
 have Rx:S∉wr:=λh=>nS (W.sub _ h);have nm:(toString "max"++toString ".loop":String)="max.loop":=by decide
 intro k
 induction k with
 |zero=>
  intro j z best c hk hj st pb gS fin;have last:j+1=n:=by omega
  refine wbk wec ?_;rw[wba wbX _];show wpAny _ B.in1 (weg (.ref S) >>= _) _ _ z;refine wa6 (wcL gS rfl ?_);show wpAny _ B.in1 (tryCatch (pyNext (.ref I)) _ >>= _) _ _ z;refine wa6 (wbO (W.done z _ _ (last ▸ st) λh' tk kp=>?_));have Lx:=kp S _ Rx gS;show wpAny _ B.in1 (wgP S (λ_=>#[]) >>= _) _ _ _;refine wa6 (wd6 Lx rfl (wa6 (wdc (wax ?_))));exact fin best _ tk (by rw[<-last];exact pb) λb o h1 h2 e=>(waL _ _ (wbs h2)).trans (kp b o h1 e)
 |succ k ih=>
  intro j z best c hk hj st pb gS fin;have more:j+1<n:=by omega
  refine wbk wec ?_;rw[wba wbX _];show wpAny _ B.in1 (weg (.ref S) >>= _) _ _ z;refine wa6 (wcL gS rfl ?_);show wpAny _ B.in1 (tryCatch (pyNext (.ref I)) _ >>= _) _ _ z;refine wa6 (wbO (W.item (j+1) z _ _ more st λv h' tk hP Ry kp=>?_));have Lx:=kp S _ Rx gS;show wpAny _ B.in1 (tryCatch (holding [v,v] (richCompare .Gt v best >>= _)) _ >>= _) _ _ _;refine wa6 (wbO (wbj (wa6 (cmp (j+1) (argBest bt j) v best _ _ _ hP pb ?_))));refine wa6 (wbj (wbq (wa6 (wdc (wax ?_)))))
  cases hb:bt (j+1) (argBest bt j) with
  |true=>
   simp only[if_true];refine wa6 (wd6 Lx rfl (wa6 (wdc ?_)));rw[nm];refine wax ⟨wbL wbX _,ih (j+1) _ v _ (by omega) more (W.frame _ _ _ Ry λb VO o e=>?_) (by simp only[argBest,hb,if_true];exact hP) (wbB _ Lx rfl) λv' h2 Q8 Q9 Qa=>?_⟩
   ·exact(waL _ _ (λh:S=b=>nS (by rw[h];exact VO))).trans e
   ·exact fin v' h2 Q8 Q9 λb o h1 h3 e=>Qa b o h1 h3 ((waL _ _ (wbs h3)).trans (kp b o h1 e))
  |false=>
   simp only[wbU,if_false];refine wa6 (wdc ?_);rw[nm];refine wax ⟨wbL wbX _,ih (j+1) _ best c (by omega) more Ry (by simp only[argBest,hb,wbU,if_false];exact pb) Lx λv' h2 Q8 Q9 Qa=>?_⟩;exact fin v' h2 Q8 Q9 λb o h1 h3 e=>Qa b o h1 h3 (kp b o h1 e)
theorem ug(W:Walks P W0 B.in1 I fp wr n Pr St)(bt:Nat->Nat->Bool)(cmp:CmpOf P W0 B.in1 .Gt Pr bt)(S:Addr)(nS:S∉fp)(kw:List (Str×Value))(pos:0<n)(st:St 0 z.heap)(gS:z.heap.get? S=some {cls:=.type "list",dict:=none,data:=.seq #[] c,slots:=#[]})
 (fin:∀v h' tk,Pr (argBest bt (n-1)) v->(∀b o,b∉wr->b≠S->z.heap.get? b=some o->h'.get? b=some o)->R (.ok (.ret v)) {z with heap:=h',toks:=tk}):codeAny (model P W0) B (.builtin "max.loop" ⟨[.ref I,.none,.ref S],kw⟩) R z:=by
 have Rx:S∉wr:=λh=>nS (W.sub _ h);have nm:(toString "max"++toString ".loop":String)="max.loop":=by decide
 refine wbk wec ?_;rw[wba wbX _];show wpAny _ B.in1 (weg (.ref S) >>= _) _ _ z;refine wa6 (wcL gS rfl ?_);show wpAny _ B.in1 (tryCatch (pyNext (.ref I)) _ >>= _) _ _ z;refine wa6 (wbO (W.item 0 z _ _ pos st λv h' tk hP Ry kp=>?_));have Lx:=kp S _ Rx gS;show wpAny _ B.in1 (wgP S (λ_=>#[v,v]) >>= _) _ _ _;refine wa6 (wd6 Lx rfl ?_);rw[nm];refine wax ⟨wbL wbX _,vO W bt cmp S nS kw _ 0 _ v _ rfl pos (W.frame _ _ _ Ry λb VO o e=>?_) hP (wbB _ Lx rfl) λv' h2 Q8 Q9 Qa=>?_⟩
 ·exact(waL _ _ (λh:S=b=>nS (by grind))).trans e
 ·exact fin v' h2 Q8 Q9 λb o h1 h3 e=>Qa b o h1 h3 ((waL _ _ (wbs h3)).trans (kp b o h1 e))
theorem vP(W:Walks P W0 B.in1 I fp wr n Pr St)(S:Addr)(nS:S∉fp)(dv:Value)(Qb:n=0)(st:St 0 z.heap)(gS:z.heap.get? S=some {cls:=.type "list",dict:=none,data:=.seq #[] c,slots:=#[]})
 (fin:∀h' tk,(∀b o,b∉wr->b≠S->z.heap.get? b=some o->h'.get? b=some o)->R (.ok (.ret dv)) {z with heap:=h',toks:=tk}):codeAny (model P W0) B (.builtin "max.loop" ⟨[.ref I,.none,.ref S],[(wcj "default",dv)]⟩) R z:=by
 refine wbk wec ?_;rw[wba wbX _];show wpAny _ B.in1 (weg (.ref S) >>= _) _ _ z;refine wa6 (wcL gS rfl ?_);show wpAny _ B.in1 (tryCatch (pyNext (.ref I)) _ >>= _) _ _ z;refine wa6 (wbO (W.done z _ _ (Qb ▸ st) λh' tk kp=>?_));have done:=fin h' tk λb o h1 _ e=>kp b o h1 e
 wp_walk
 exact done
end
section
variable{P:wap}{W0:World}{B:Around}{E:Value->Shared->Prop}{z:Shared}
theorem vQ(a v:Value):argsOk "max" ⟨[a],[(wcj "default",v)]⟩:=by unfold argsOk;kernel_rfl
theorem vR{Q:Value->Shared->Prop}(hh:B.handled=none)(il:z.heap.IsList l (intItems xs))
 (he:xs.size=0->∀h' tk,(∀b o,z.heap.get? b=some o->h'.get? b=some o)->Q dv {z with heap:=h',toks:=tk})
 (hn:0<xs.size->∀v h' tk,(intItems xs)[argBest (λi j=>decide (numAt xs i>numAt xs j)) (xs.size-1)]?=some v->(∀b o,z.heap.get? b=some o->h'.get? b=some o)->Q v {z with heap:=h',toks:=tk}) :
 wpAny (model P W0) B (call (.builtin "max") [.ref l] [(wcj "default",dv)]) Q E z:=by
 have nm:(toString "max"++toString ".loop":String)="max.loop":=by decide
 refine whu F.kind_max F.plain_max F.entry_max (vQ _ _) ?_;show wpAny _ B.in1 (wcs "max" ["key","default"] 0 ⟨[],[(wcj "default",dv)]⟩ >>= _) _ _ z;refine wa6 (wh7 (show wcs "max" ["key","default"] 0 ⟨[],[(wcj "default",dv)]⟩=pure [none,some dv] from rfl) ?_);refine wa6 (wax (wa6 (iter_intList il λs₂ e st Y8 Qc=>?_)));subst e;refine wa6 (wf2 ?_);rw[nm];have W:=wf8 (prog:=P) (w:=W0) (A:=B.in1) hh z.heap.objs.size l Qc (intItems xs);have nS:(z.heap.push {cls:=.type "list_iterator",data:=.fields #[.ref l,.int 0 0]}).objs.size∉[z.heap.objs.size,l]:=λhm=>wb7 _ (Y8 _ hm)
 have keep:∀{h':Heap},(∀b o,b∉[z.heap.objs.size]->b≠(z.heap.push {cls:=.type "list_iterator",data:=.fields #[.ref l,.int 0 0]}).objs.size->((z.heap.push {cls:=.type "list_iterator",data:=.fields #[.ref l,.int 0 0]}).push {cls:=.type "list",data:=.seq #[]}).get? b=some o->h'.get? b=some o)->∀b o,z.heap.get? b=some o->h'.get? b=some o:=λ{h'} hk b o e=>by
  have lt:=wag e;refine hk b o (λhm=>?_) (λh=>?_) (wa9 _ (wa9 _ e))
  ·rw[wan.mp hm]at lt;exact wb7 _ lt
  ·rw[wbM]at h;rw[h]at lt;exact absurd (show z.heap.objs.size+1<z.heap.objs.size from lt) (by lia)
 by_cases h0:xs.size=0
 ·refine wax ⟨wbL wbX _,vP W _ nS dv (by simp[intItems,h0]) (W.frame _ _ _ st λb _ o e=>wa9 _ e) (waw _ rfl) λh' tk hk=>?_⟩;exact he h0 h' tk (keep hk)
 ·refine wax ⟨wbL wbX _,ug W _ (CmpOf.ints_gt (numAt xs) (λ_ _=>wh6)) _ nS _ (by simp[intItems];lia) (W.frame _ _ _ st λb _ o e=>wa9 _ e) (waw _ rfl) λv h' tk hP hk=>?_⟩;exact hn (by lia) v h' tk (by simpa [intItems] using hP) (keep hk)
end
end PySem
namespace L2
open PySem PySem.Spec PyProof.Rows Sx
section
variable{X:Cx}{e e2:Expr}{te t2:TE}{p kp pos:Pos}
theorem F8(hc:X.calm=true)(I:Inv X g σ H s)(l:RelV (.int d) v)(C:aE X.K H a (wcA V.int ns))(h0:ns=[]->Q (.int d) H)(J:∀M,M∈ns->(∀a∈ns,a<=M)->Q (.int M) H) :
 wpAny (model X.prog X.w) X.A (call (.builtin "max") [.ref a] [(wcj "default",v)]) (EP X g σ Q) X.xe s:=by
 obtain⟨f,r,pl,q⟩:=I.list C;obtain⟨c,e,rfl⟩:=jJ r
 have hl:s.heap.IsList a (intItems c.toArray):=by
  have:intItems c.toArray=f.toArray:=by rw[e];unfold intItems;simp
  rw[this];exact pl.isList
 refine vR (I.ok.hd hc) hl (λh i k hk=>?_) (λh u i k m hk=>?_)
 ·have:c=[]:=by
   rw[waz]at h;exact wbx h
  subst this;exact⟨.int d,H,I.kept hk,l,h0 rfl⟩
 ·obtain⟨t,rfl⟩:=wh6 m;obtain⟨x,n⟩:=argBest_gt (numAt c.toArray) (c.toArray.size-1);refine⟨.int _,H,I.kept hk,⟨t,rfl⟩,J _ ?_ λb o=>?_⟩
  ·rw[numAt_eq];exact getD_mem (by rw[wa0];simp only[waz]at *;omega)
  ·obtain⟨j,p,rfl⟩:=mem_getD o;rw[wa0]at p;have:=n j (by simp only[waz]at *;omega);rw[numAt_eq]at this;exact this
end
section
variable{X:Cx}{e e2:Expr}{t:TA}{t2:TE}{p kp pos:Pos}
def Qe(K:wa2)(t:TA)(t2:TE):TE:=λσ H Q=>t σ H λvs H1=>t2 σ H1 λy H2=>∃a ns d,vs=[.ref a]/\y=.int d/\aE K H2 a (wcA V.int ns)/\(ns=[]->Q (.int d) H2)/\(∀M,M∈ns->(∀a∈ns,a<=M)->Q (.int M) H2)
theorem Kk(hc:X.calm=true)(g:Gl X "max")(j:X.mg "max"=none)(ha:PA X [e] t)(hd:PE X e2 t2)(hs:starEach [e] X.env=[(false,eval e X.env)]:=by rfl):PE X (.Call (.Name "max" p) [e] [⟨some "default",e2,kp⟩] pos) (Qe X.K t t2):=by
 refine⟨?_⟩;intro b s σ H Q I h;refine wbt (ib I g j (show waQ "max"=some (.builtin "max") from Hh) ?_ (by decide) (by decide));refine wfs (bI (ha pos b s σ H _ I h) λx c ⟨z,f,i,k,l⟩=>?_) (by rw[hs];rfl) (by rw[hs];rfl);refine weh (bI (hd b c σ f _ i l) λv A ⟨y,B,m,n,o⟩=>wex ?_);obtain⟨a,ns,d,rfl,rfl,q,h0,r⟩:=o;obtain⟨u,rfl,w⟩:=vals1 k;cases w;exact F8 hc m n q h0 r
end
end L2
namespace L2
open PySem PySem.Spec PyProof.Rows Sx Bs
def Kl(K:wa2)(wi:TI)(ix:List Nat)(tt:TT)(te:TE)(i:Nat):TS:=λD σ H=>wi σ H λJ H1=>∀l,H1 l=none->jK K J l (pick σ ix) tt te H1 (λH2=>D.nx (σ.set i (some (.ref l))) H2)
section
variable{X:Cx}{scope:wcZ}{x x2:Str}{ys:List Str}{ix:List Nat}
theorem qU(hc:X.calm=true)(B:bJ X scope x ys ix)(hN:X.N.Nodup)(hy:X.N[i]?=some y)(t:X.env.scope.names.lookup y=some .local)(B2:bJ X scope x2 ys ix)(I:x≠x2)(hi:PI X (.Tuple [.Name x U,.Name x2 g] kt pt) iter wi)
 (ht:∀cl L s H ex pn,FT (bg X scope (x::x2::ys) cl L s H ex pn) j tt) (he:∀cl L s H ex pn,PE (bg X scope (x::x2::ys) cl L s H ex pn) p te)
 (T:wc1 (.ListComp p [⟨.Tuple [.Name x U,.Name x2 g] kt pt,iter,j,0⟩] scope pos) (some (.Name y py)) r.line X.env=pure true:=by rfl)
 (hs:∀v,wbQ iter X.env v=pure v:=by intro _;rfl):PS X (.Assign [.Name y py] (.ListComp p [⟨.Tuple [.Name x U,.Name x2 g] kt pt,iter,j,0⟩] scope pos) r) (Kl X.K wi ix tt te i):=
 qJ (C:=λJ l a H Q=>jK X.K J l a tt te H Q) (xs:=[x,x2]) hc B hN hy t (zT hc B B2 I) (λ_ _ _ _ _=>zU) hi ht he T hs
inductive Qf(x y:V)(H:Hp)(Q:VK):Prop
 |mk (l b xs zs) (_:x=.ref l) (_:y=.ref b) (_:Rd H l (.lst xs)) (_:Rd H b (.lst zs)) (_:xs.length+zs.length<=sizeLine) (_:∀p,H p=none->Q (.ref p) (upd H p (.lst (xs++zs))))
theorem yt:kI X (binaryOp .Add) Qf:=by
 intro d s σ H x y v u Q I g i h;obtain⟨l,b,t,w,rfl,rfl,j,k,A,q⟩:=h;cases g;cases i;obtain⟨z,c,n,r,e⟩:=j.ok I.b7;obtain⟨B,a,C,f,m⟩:=k.ok I.b7;have hl:=r.length;have o:=f.length;refine wha e m ?_ (by grind);have p:c.toArray++a.toArray=(c++a).toArray:=by simp
 rw[p];exact⟨.ref _,_,I.Mp (t':=s.toks) (r.append f) (by grind),rfl,q _ I.fresh⟩
theorem vS{K:wa2}(g:X.K=K):dA X (.type "list") (λxs H Q=>∃p ys,xs=[.ref p]/\(aE K H p ys\/hZ K H p ys)/\∀l,H l=none->Q (.ref l) (upd H l (.lst ys))):=by
 subst g;exact cA
end
noncomputable def b8{α:Type}(p:Nat->Bool):Nat->List α->List α
 |_,[]=>[]
 |i,x::xs=>if p i then x::b8 p (i+1) xs else b8 p (i+1) xs
theorem nB{α:Type}(p:Nat->Bool)(x:α):∀(k:Nat) (xs:List α),b8 p k (xs++[x])=b8 p k xs++(if p (k+xs.length) then[x] else[])
 |k,[]=>by
  show (if p k then x::[] else[])=[]++_;rw[weu];rfl
 |k,y::xs=>by
  have e:k+(y::xs).length=k+1+xs.length:=by grind
  rw[e];show (if p k then y::b8 p (k+1) (xs++[x]) else b8 p (k+1) (xs++[x]))=(if p k then y::b8 p (k+1) xs else b8 p (k+1) xs)++_;rw[nB p x (k+1) xs];cases p k<;>rfl
theorem mz{α:Type}(p:Nat->Bool):∀(k:Nat) (xs:List α),(b8 p k xs).length<=xs.length
 |_,[]=>wab _
 |k,x::xs=>by
  have:=mz p (k+1) xs;show (if p k then x::b8 p (k+1) xs else b8 p (k+1) xs).length<=xs.length+1
  cases p k with
  |true=>grind
  |false=>grind
theorem xk{α β:Type}(f:α->β)(p:Nat->Bool):∀(k:Nat) (xs:List α),b8 p k (xs.map f)=(b8 p k xs).map f
 |_,[]=>rfl
 |k,x::xs=>by
  show (if p k then f x::b8 p (k+1) (xs.map f) else b8 p (k+1) (xs.map f))=(if p k then x::b8 p (k+1) xs else b8 p (k+1) xs).map f;rw[xk f p (k+1) xs];cases p k<;>rfl
theorem qa{α:Type}(p:Nat->Bool):∀(k:Nat) (xs:List α),(b8 p k xs).Sublist xs
 |_,[]=>wf6 _
 |k,x::xs=>by
  show (if p k then x::b8 p (k+1) xs else b8 p (k+1) xs).Sublist (x::xs)
  cases p k with
  |true=>exact(qa p (k+1) xs).cons₂ x
  |false=>exact(qa p (k+1) xs).cons x
theorem dh{α:Type}{p:Nat->Bool}{k:Nat}{xs:List α}{x:α}(h:x∈b8 p k xs):x∈xs:=(qa p k xs).subset h
theorem b9.pick{K:wa2}{H:Hp}(p:Nat->Bool):∀(k:Nat) (g:List jM) (xs:List V),b9 K H g xs->b9 K H (b8 p k g) (b8 p k xs)
 |_,[],xs,h=>by
  have e:xs=[]:=h;subst e;rfl
 |k,d::g,_,h=>by
  obtain⟨v,a,rfl,c,hl⟩:=h;have b:=b9.pick p (k+1) g a hl;show b9 K H (if p k then d::b8 p (k+1) g else b8 p (k+1) g) (if p k then v::b8 p (k+1) a else b8 p (k+1) a)
  cases p k with
  |true=>exact⟨v,_,rfl,c,b⟩
  |false=>exact b
theorem b9.set{K:wa2}{H:Hp}{d:jM}{v:V}:∀{g:List jM} {xs:List V},b9 K H g xs->∀i:Nat,bA K H d v->b9 K H (g.set i d) (xs.set i v)
 |[],xs,h,i,r=>by
  have e:xs=[]:=h;subst e;exact h
 |c::g,_,h,0,r=>by
  obtain⟨v0,a,rfl,b,hl⟩:=h;exact⟨v,a,rfl,r,hl⟩
 |c::g,_,h,i+1,r=>by
  obtain⟨v0,a,rfl,b,hl⟩:=h;exact⟨v0,a.set i v,rfl,b,b9.set hl i r⟩
theorem xm{K:wa2}{a l:Addr}{xs:List V}{r:St}{I:TT}{J:TE}{H:Hp}{Q:Hp->Prop}(p:Nat->Bool)(C:aE K H a xs)(hl:H l=none)(hz:xs.length<=sizeLine)
 (U:∀(i:Nat) (x:V) j t,xs[i]?=some x->a7 H j->(∀g,a7 j g->t (p i) g)->I (some (.int (i:Nat))::some x::r) j t)
 (he:∀(i:Nat) (x:V) j t,xs[i]?=some x->a7 H j->(∀g,a7 j g->t x g)->J (some (.int (i:Nat))::some x::r) j t)
 (hd:∀g,a7 H g->g l=some (.lst (b8 p 0 xs))->Q g):jK K (O2 K a) l r I J H Q:=by
 refine⟨λi m u f=>m=xs.length-i/\i<=xs.length/\a7 H f/\f l=some (.lst u)/\u=b8 p 0 (xs.take i),⟨xs.length,by simp,waJ _,a7.upd hl,a6,rfl⟩,?_⟩;rintro i m u f ⟨rfl,hi,c,v,k⟩;refine⟨v,?_⟩
 by_cases d:i<xs.length
 ·refine .inr ⟨⟨xs,xs[i],c.seq C,wa1 d⟩,?_,λx j y=>?_⟩
  ·rw[k];refine wbc (mz p 0 _) ?_;rw[wak]
   lia
  ·obtain⟨T,h,E,G,L,y⟩:=y;subst G L;have w:xs[i]?=some h:=y xs (c.seq C);have n:a7 f (upd f T (.tup [.int (i:Nat),h])):=a7.upd E;have z:xs.take (i+1)=xs.take i++[h]:=by rw[waS,w];rfl
   have q:(xs.take i).length=i:=by rw[wak];lia
   refine⟨T,.int (i:Nat),h,rfl,hZ.of a6,U i h _ _ w (c.trans n) λM s=>?_⟩;have A:=s _ _ (n _ _ v)
   cases B:p i with
   |false=>
    rw[if_neg wam];exact⟨xs.length-(i+1),by lia,rfl,d,(c.trans n).trans s,A,by rw[z,nB,q,wev,B,if_neg wam,waW];exact k⟩
   |true=>
    rw[if_pos rfl];refine he i h _ _ w ((c.trans n).trans s) λN D=>⟨D _ _ A,xs.length-(i+1),by lia,rfl,d,λb o e=>?_,a6,?_⟩
    ·rw[ae (af e hl)];exact D _ _ (s _ _ (n _ _ (c _ _ e)))
    ·rw[z,nB,q,wev,B,if_pos rfl,k]
 ·have e:i=xs.length:=by lia
  subst e;rw[waG]at k;exact .inl ⟨⟨xs,c.seq C,wab _⟩,hd f c (by rw[v,k])⟩
theorem N1(xs:List V)(k:Nat)(h:k<=xs.length):j9 xs none (some (k:Int))=xs.take k:=by simp_all [j9,HT.zf,if_neg]
theorem uh(y:Int)(ns:List Int):nY (.int y) (ns.map V.int)=decide (y∈ns):=by
 unfold nY;rw[wes]
 induction ns with
 |nil=>rfl
 |cons a l b=>
  rw[wcU,b];show ((a==y) ||decide (y∈l))=decide (y∈a::l)
  by_cases e:a=y
  ·subst e;simp
  ·grind
theorem fS(ns:List Int):(ns.map V.int).all et=true:=by grind [et]
end L2
namespace Bs
open PySem L2 Sx
noncomputable def eA(i:Int)(n:Nat):Bool:=decide (0<=i)&&decide (i<(n:Int))
noncomputable def aZ(ws:List Int)(qs:List (Str×Nat)):Int:=(qs.map λq=>ws.getD q.2 0).sum
noncomputable def dZ(ws:List Int)(many:Int)(qs:List (Str×Nat))(w:Int):Bool:=!qs.isEmpty&&(decide (1<=w)&&decide (many*w<=aZ ws qs))
noncomputable def aU{α:Type}(ns:List Int)(l:List α):List α:=b8 (λi=>decide ((i:Int)∈ns)) 0 l
noncomputable def aT{α:Type}(ns:List Int)(l:List α):List α:=b8 (λi=>!decide ((i:Int)∈ns)) 0 l
noncomputable def dS(d t:Nat)(l:List (Str×Nat)):List (Str×Nat):=l.flatMap λq=>if q.2=d then[q,(q.1,t)] else[q]
noncomputable def dm(ws:List Int)(lns:List (List (Str×Nat)))(many rW:Int)(ns:List Int)(w:Int):Bool:=
 eA rW lns.length&&(ns.all (λi=>eA i (lns.getD rW.toNat []).length)&&(dZ ws many (aU ns (lns.getD rW.toNat [])) w&&dZ ws many (aT ns (lns.getD rW.toNat [])) (ws.getD rW.toNat 0-w)))
noncomputable def cw(hs:List Str)(d:Nat):List Str:=hs++[hs.getD d ""]
noncomputable def bV(ws:List Int)(d:Nat)(w:Int):List Int:=(ws++[ws.getD d 0-w]).set d w
noncomputable def cY(lns:List (List (Str×Nat)))(d:Nat)(ns:List Int):List (List (Str×Nat)):=((lns++[aT ns (lns.getD d [])]).set d (aU ns (lns.getD d []))).map (dS d lns.length)
theorem qb(d t:Nat):∀l:List (Str×Nat),(dS d t l).length<=2*l.length
 |[]=>wab _
 |q::l=>by
  have:=qb d t l;show ((if q.2=d then[q,(q.1,t)] else[q])++dS d t l).length<=2*(l.length+1);rw[wa7];split
  ·grind
  ·grind
theorem ui(d t:Nat)(l:List (Str×Nat))(q:Str×Nat):dS d t (l++[q])=dS d t l++(if q.2=d then[q,(q.1,t)] else[q]):=by simp_all [dS,wgz,congr,waW]
theorem A5(p:Nat->Bool)(h:b9 K H (g.map kh) xs):b9 K H ((b8 p 0 g).map kh) (b8 p 0 xs):=by
 rw[<-xk];exact h.pick p 0 _ _
theorem yu{α:Type}{K:wa2}{H:Hp}(f:α->V):∀(g:List α) (xs:List V),b9 K H (g.map λz=>jM.at (f z)) xs->xs=g.map f
 |[],xs,h=>h
 |z::g,_,h=>by
  obtain⟨v,a,rfl,⟨rfl,_⟩,hl⟩:=h;rw[yu f g a hl];rfl
theorem sL(h:bA K H (qR hs) (.ref a)):Rd H a (.lst (hs.map V.str)):=by
 obtain⟨d,b,e,c,hl⟩:=h;cases e;rwa[yu V.str hs b hl]at c
theorem Km(h:bA K H (mJ ws) (.ref a)):Rd H a (.lst (ws.map V.int)):=by
 obtain⟨d,b,e,c,hl⟩:=h;cases e;rwa[yu V.int ws b hl]at c
theorem eQ(h:bA K H (bR j) v):∃a l,v=.ref a/\aE K H a (l.map V.ref)/\bU H l ((j.map eO).map lq):=by
 obtain⟨a,d,rfl,n,b,k⟩:=nA h
 have ex:d=(d.map λv=>match v with |.ref r=>r |_=>0).map V.ref:=by
  rw[waf];refine(wdQ d).symm.trans (waY λv o=>?_);obtain⟨i,hi,rfl⟩:=wbp o;obtain⟨r,m,_⟩:=k i _ (wa1 (by rw[<-b];exact hi));rw[wa1 hi]at m;rw[wae m];rfl
 refine⟨a,_,rfl,by rw[<-ex];exact n,by rw[wa0,wa0,b],λi r s f c=>?_⟩;rw[wa4]at f c
 cases e:(j.map eO)[i]? with
 |none=>rw[e]at c;cases c
 |some q=>
  rw[e]at c;cases c;obtain⟨t,g,p⟩:=k i q e;rw[g]at f;cases f;exact p
structure Ly(hs:List Str)(ws:List Int)(lns:List (List (Str×Nat))):Prop where
 w:ws.length=hs.length
 l:lns.length=hs.length
 e:∀l∈lns,∀q∈l,q.2<hs.length
 n:hs.length<=1000
 m:∀l∈lns,l.length<=5000
end Bs
namespace Sx
open PySem L2 Bs
inductive Kn(K:wa2)(vs:List V)(H:Hp)(Q:VK)(dQ:XK):Prop
 |mk (i a xs) (_:vs=[.int i,.ref a]) (_:aE K H a xs) (_:Q (.bl (eA i xs.length)) H)
inductive N2(K:wa2)(CS CN:Addr)(vs:List V)(H:Hp)(Q:VK)(E:XK):Prop
 |mk (x many v w hs ws lns qs) (_:vs=[.ref x,.int many,v,.int w]) (_:bN K CS H x hs ws lns) (_:bA K H (bR qs) v) (_:qs.length<=10000) (_:(∀q∈qs,q.2<ws.length)) (_:0<=many) (_:many<=1000) (_:((dZ ws many qs w=true/\∀H',a7 H H'->Q .non H')\/(dZ ws many qs w=false/\∀H',a7 H H'->E (.ref CN) none H')))
inductive Ko(K:wa2)(vs:List V)(H:Hp)(Q:VK)(dQ:XK):Prop
 |mk (v:V) (d t:Nat) (qs:List (Str×Nat)) (_:vs=[v,.int (d:Int),.int (t:Int)]) (_:bA K H (bR qs) v) (_:qs.length<=5000) (_:∀y H',a7 H H'->bA K (aF H H') (bR (dS d t qs)) y->Q y H')
inductive Kp(K:wa2)(CS CN:Addr)(vs:List V)(H:Hp)(Q:VK)(E:XK):Prop
 |mk (x a many rW w ns hs ws lns) (_:vs=[.ref x,.int many,.int rW,.ref a,.int w]) (_:bN K CS H x hs ws lns) (_:aE K H a (ns.map V.int)) (_:ns.length<=10000) (_:Ly hs ws lns) (_:0<=many) (_:many<=1000) (_:((dm ws lns many rW ns w=true/\∀y H',a7 H H'->bN K CS (aF H H') y (cw hs rW.toNat) (bV ws rW.toNat w) (cY lns rW.toNat ns)->Q (.ref y) H')\/(dm ws lns many rW ns w=false/\∀H',a7 H H'->E (.ref CN) none H')))
end Sx
namespace L2
open PySem PySem.Spec PyProof.Rows Sx Bs
section
variable{X:Cx}
end
end L2
namespace Bs
open PySem L2 Sx
end Bs
namespace Sx
open PySem L2 Bs
end Sx
namespace Bs
open PySem L2 Sx
end Bs
namespace Sx
open PySem L2 Bs
end Sx
namespace Bs
open PySem L2 Sx
theorem oq(hi:i<ws.length)(g:i≠d):(bV ws d w).getD i 0=ws.getD i 0:=by grind [bV,wcD,waB]
theorem qV(hd:d<ws.length):(bV ws d w).getD d 0=w:=by
 unfold bV;rw[wa3,wdb (by rw[wa7];lia)];rfl
theorem qW(hd:d<ws.length):(bV ws d w).getD ws.length 0=ws.getD d 0-w:=by
 unfold bV;rw[wa3,wcD (by lia),waq (wab _),wbn];rfl
theorem Cu(ws:List Int)(d:Nat)(w:Int):(bV ws d w).length=ws.length+1:=by
 unfold bV;rw[wcg,wa7];rfl
theorem cb(ws:List Int)(q:Str×Nat)(g:List (Str×Nat)):aZ ws (q::g)=ws.getD q.2 0+aZ ws g:=rfl
theorem uj(ws:List Int)(ps g:List (Str×Nat)):aZ ws (ps++g)=aZ ws ps+aZ ws g:=by
 unfold aZ;rw[wal,whs]
theorem mK(hd:d<ws.length):∀g:List (Str×Nat),(∀q∈g,q.2<ws.length)->aZ (bV ws d w) (dS d ws.length g)=aZ ws g
 |[],_=>rfl
 |q::g,h=>by
  have c:=mK (w:=w) hd g λq b=>h q (wac _ b);have b:=h q (wad ..);have e:dS d ws.length (q::g)=(if q.2=d then[q,(q.1,ws.length)] else[q])++dS d ws.length g:=rfl;rw[e,uj,c,cb]
  by_cases a:q.2=d
  ·rw[if_pos a,cb,cb,a,qV hd];have f:(bV ws d w).getD ((q.1,ws.length):Str×Nat).2 0=ws.getD d 0-w:=qW hd;rw[f];show w+(ws.getD d 0-w+0)+_=_
   lia
  ·rw[if_neg a,cb,oq b a];show ws.getD q.2 0+0+_=_
   lia
theorem DU:∀(ws:List Int) (d:Nat) (w:Int),d<ws.length->(ws.set d w).sum=ws.sum-ws.getD d 0+w
 |[],_,_,h=>absurd h (wdA _)
 |x::ws,0,w,_=>by
  show w+ws.sum=x+ws.sum-x+w
  lia
 |x::ws,d+1,w,h=>by
  have a:=DU ws d w (by simpa using h);show x+(ws.set d w).sum=x+ws.sum-ws.getD d 0+w;rw[a]
  lia
theorem Cv(hd:d<ws.length):(bV ws d w).sum=ws.sum:=by grind [bV,DU,wa7,waB]
structure iR(many:Int)(hs:List Str)(ws:List Int)(lns:List (List (Str×Nat))):Prop where
 w:ws.length=hs.length
 l:lns.length=hs.length
 p:∀w∈ws,1<=w
 e:∀l∈lns,∀q∈l,q.2<hs.length
 b:∀(i:Nat) (l:List (Str×Nat)),lns[i]?=some l->many*ws.getD i 0<=aZ ws l
theorem Cw(h:q∈dS d t l):q.2=t\/q∈l:=by grind [dS]
theorem uk(h:dZ ws many g w=true):g≠[]/\1<=w/\many*w<=aZ ws g:=by simp_all [dZ,wc9,of_decide_eq_true]
theorem iR.split{many:Int}{hs:List Str}{ws:List Int}{lns:List (List (Str×Nat))}(S:iR many hs ws lns){d:Nat}{ns:List Int}{w:Int}(h:dm ws lns many (d:Int) ns w=true):iR many (cw hs d) (bV ws d w) (cY lns d ns)/\d<hs.length:=by
 unfold dm at h;simp only[wc9]at h;obtain⟨n,A,v,x⟩:=h;rw[waA]at A v x;obtain⟨c1,E,B⟩:=uk v;obtain⟨G,H,C⟩:=uk x;have j:=S.w;have o:=S.l
 have hd:d<lns.length:=by
  unfold eA at n;rw[wc9]at n;have:=of_decide_eq_true n.2
  lia
 have f:d<ws.length:=by lia
 have r:(cw hs d).length=hs.length+1:=by unfold cw;rw[wa7];rfl
 have a:lns.getD d []∈lns:=by
  rw[wa3,wa1 hd];exact waE hd
 have k:=S.e _ a
 have c:∀l∈(lns++[aT ns (lns.getD d [])]).set d (aU ns (lns.getD d [])),∀q∈l,q.2<hs.length:=λl hl=>by
  rcases wcG hl with z |z
  ·rcases waC.mp z with z |z
   ·exact S.e l z
   ·rw[wan.mp z];exact λq a=>k q (dh a)
  ·rw[z];exact λq a=>k q (dh a)
 refine⟨⟨by rw[r,Cu,j],?_,λz y=>?_,λl hl q a=>?_,λi l hl=>?_⟩,by lia⟩
 ·unfold cY;rw[r,wa0,wcg,wa7,o];rfl
 ·unfold bV at y;rcases wcG y with q |q
  ·rcases waC.mp q with q |q
   ·exact S.p z q
   ·rw[wan.mp q];lia
  ·rw[q];lia
 ·rw[r];unfold cY at hl;obtain⟨m,s,rfl⟩:=waa.mp hl;rcases Cw a with e |e
  ·lia
  ·have:=c m s q e
   lia
 ·unfold cY at hl;rw[wa4]at hl
  cases e:((lns++[aT ns (lns.getD d [])]).set d (aU ns (lns.getD d [])))[i]? with
  |none=>rw[e]at hl;cases hl
  |some m=>
   rw[e]at hl;cases hl;have D:=c m (wa8 e);rw[show lns.length=ws.length by lia,mK f m (λq a=>by rw[j];exact D q a)]
   by_cases g:i=d
   ·subst g;rw[wdb (by rw[wa7];lia)]at e;cases e;rw[qV f];exact B
   ·rw[wcD (λz=>g z.symm)]at e
    by_cases t:i<lns.length
    ·rw[waB t]at e;rw[oq (by lia) g];exact S.b i m e
    ·have u:i=lns.length:=by
      have:=(wa5.mp e).1;rw[wa7]at this;simp at this
      lia
     subst u;rw[waq (wab _),wbn]at e;cases e;rw[show lns.length=ws.length by lia,qW f];exact C
noncomputable def pre(ls:List Int)(k:Nat):Int:=(ls.take k).sum
end Bs
namespace L2
open PySem PySem.Spec PyProof.Rows
section
variable{prog:wap}{w:World}{κ:Type}[DecidableEq κ]{knd:HeapKind prog w κ}{A:Around}{E:Value->Shared->Prop}{s:Shared}
end
section
variable{X:Cx}
end
end L2
namespace Bs
open PySem L2 Sx
theorem Rz{a b:Prop}[Decidable a][Decidable b]{α:Type}{x y:α}(h:a↔b):(if a then x else y)=if b then x else y:=by simp_all [if_pos,if_neg]
noncomputable def gx(p:Str)(z:Str×Nat):List Str->List (List (Str×Nat))->Nat
 |h::hs,l::lns=>(if h=p then l.count z else 0)+gx p z hs lns
 |_,_=>0
theorem xn(p:Str)(z:Str×Nat)(h:Str)(l:List (Str×Nat)):∀(hs:List Str) (lns:List (List (Str×Nat))),hs.length=lns.length->gx p z (hs++[h]) (lns++[l])=gx p z hs lns+(if h=p then l.count z else 0)
 |[],[],_=>by
  show (if h=p then l.count z else 0)+0=0+_
  lia
 |[],_::_,e=>by cases e
 |_::_,[],e=>by cases e
 |x::hs,y::lns,e=>by
  show (if x=p then y.count z else 0)+gx p z (hs++[h]) (lns++[l])=_;rw[xn p z h l hs lns (by simpa using e)];show _=(if x=p then y.count z else 0)+gx p z hs lns+_
  lia
theorem A6(p:Str)(z:Str×Nat)(g:List (Str×Nat)):∀(hs:List Str) (lns:List (List (Str×Nat))) (d:Nat),hs.length=lns.length->d<lns.length ->
 gx p z hs (lns.set d g)+(if hs.getD d ""=p then(lns.getD d []).count z else 0)=gx p z hs lns+(if hs.getD d ""=p then g.count z else 0)
 |_,[],d,_,h=>absurd h (wdA _)
 |[],_::_,_,e,_=>by cases e
 |x::hs,y::lns,0,_,_=>by
  show (if x=p then g.count z else 0)+gx p z hs lns+(if x=p then y.count z else 0)=(if x=p then y.count z else 0)+gx p z hs lns+(if x=p then g.count z else 0)
  lia
 |x::hs,y::lns,d+1,e,h=>by
  have a:=A6 p z g hs lns d (by simpa using e) (by simpa using h);show (if x=p then y.count z else 0)+gx p z hs (lns.set d g)+(if hs.getD d ""=p then(lns.getD d []).count z else 0)=(if x=p then y.count z else 0)+gx p z hs lns+(if hs.getD d ""=p then g.count z else 0)
  lia
theorem A7(p:Str){f:List (Str×Nat)->List (Str×Nat)}:∀(hs:List Str) (lns:List (List (Str×Nat))),(∀l∈lns,(f l).count z=l.count z')->gx p z hs (lns.map f)=gx p z' hs lns
 |_,[],_=>by cases ‹List Str›<;>rfl
 |[],_::_,_=>rfl
 |x::hs,y::lns,h=>by
  show (if x=p then(f y).count z else 0)+gx p z hs (lns.map f)=(if x=p then y.count z' else 0)+gx p z' hs lns;rw[A7 p hs lns λl hl=>h l (wac _ hl),h y (wad ..)]
theorem jP:∀{hs:List Str} {lns:List (List (Str×Nat))} {i:Nat} {l:List (Str×Nat)},hs[i]?=some p->lns[i]?=some l->l.count z<=gx p z hs lns
 |y::hs,x::lns,0,l,a,b=>by
  cases a;cases b;show _<=(if p=p then x.count z else 0)+_;rw[if_pos rfl]
  lia
 |h::hs,x::lns,i+1,l,a,b=>by
  have:=jP (z:=z) (hs:=hs) (lns:=lns) (i:=i) (by simpa using a) (by simpa using b);show _<=_+gx p z hs lns
  lia
 |[],_,_,_,a,_=>by simp at a
 |_::_,[],_,_,_,b=>by simp at b
theorem cnt_cons(q z:Str×Nat)(l:List (Str×Nat)):(q::l).count z=l.count z+if q=z then 1 else 0:=by simp_all [List.count_cons,if_pos,beq_self_eq_true,if_neg]
theorem nC(f:Nat->Bool)(z:Str×Nat):∀(k:Nat) (l:List (Str×Nat)),(b8 f k l).count z+(b8 (λi=>!f i) k l).count z=l.count z
 |_,[]=>rfl
 |k,q::l=>by
  have a:=nC f z (k+1) l;show (if f k then q::b8 f (k+1) l else b8 f (k+1) l).count z+(if !f k then q::b8 (λi=>!f i) (k+1) l else b8 (λi=>!f i) (k+1) l).count z=_;rw[cnt_cons]
  cases f k with
  |true=>
   grind
  |false=>
   grind
theorem qX(hd:d<t)(w:Str)(e:Nat):∀l:List (Str×Nat),(∀q∈l,q.2<t)->(dS d t l).count (w,e)=l.count (w,if e=t then d else e)
 |[],_=>rfl
 |q::l,h=>by
  have f:=qX hd w e l λq c=>h q (wac _ c);have c:=h q (wad ..);have g:dS d t (q::l)=(if q.2=d then[q,(q.1,t)] else[q])++dS d t l:=rfl;rw[g,List.count_append,f,cnt_cons];obtain⟨a,b⟩:=q;have c:b<t:=c;show (if b=d then[(a,b),(a,t)] else[(a,b)]).count (w,e)+_=_
  by_cases i:b=d
  ·grind
  ·grind
def vT(B:Str->List (Str×Str))(hs:List Str)(lns:List (List (Str×Nat))):Prop:=
 ∀(p w:Str) (e:Nat),gx p (w,e) hs lns=if e<hs.length/\p∈hs/\(w,hs.getD e "")∈B p then 1 else 0
theorem vT.split{B:Str->List (Str×Str)}(h:vT B hs lns)(hl:lns.length=hs.length)(he:∀l∈lns,∀q∈l,q.2<hs.length)(hd:d<hs.length)(ns:List Int):vT B (cw hs d) (cY lns d ns):=by
 intro p w e
 have t:lns.getD d []∈lns:=by
  rw[wa3,wa1 (by lia)];exact waE _
 have k:∀l∈(lns++[aT ns (lns.getD d [])]).set d (aU ns (lns.getD d [])),∀q∈l,q.2<lns.length:=λl b=>by
  rw[hl];rcases wcG b with z |z
  ·rcases waC.mp z with z |z
   ·exact he l z
   ·rw[wan.mp z];exact λq c=>he _ t q (dh c)
  ·rw[z];exact λq c=>he _ t q (dh c)
 have n:(hs++[hs.getD d ""]).getD d ""=hs.getD d "":=by
  rw[wa3,waB hd,<-wa3]
 have o:(lns++[aT ns (lns.getD d [])]).getD d []=lns.getD d []:=by
  rw[wa3,waB (by lia),<-wa3]
 unfold cw cY;rw[A7 p (z':=(w,if e=lns.length then d else e)) _ _ λl b=>qX (by lia) w e l (k l b)];have r:=A6 p (w,if e=lns.length then d else e) (aU ns (lns.getD d [])) (hs++[hs.getD d ""]) (lns++[aT ns (lns.getD d [])]) d (by rw[wa7,wa7];simp[hl]) (by rw[wa7];lia);rw[n,o,xn p _ _ _ hs lns hl.symm]at r;have u:=nC (λi=>decide ((i:Int)∈ns)) (w,if e=lns.length then d else e) 0 (lns.getD d []);have y:(aU ns (lns.getD d [])).count (w,if e=lns.length then d else e)+(aT ns (lns.getD d [])).count (w,if e=lns.length then d else e)=(lns.getD d []).count (w,if e=lns.length then d else e):=u;have v:=h p w (if e=lns.length then d else e)
 have x:gx p (w,if e=lns.length then d else e) (hs++[hs.getD d ""]) ((lns++[aT ns (lns.getD d [])]).set d (aU ns (lns.getD d [])))=gx p (w,if e=lns.length then d else e) hs lns:=by
  by_cases j:hs.getD d ""=p
  ·rw[if_pos j,if_pos j,if_pos j]at r
   lia
  ·rw[if_neg j,if_neg j,if_neg j]at r
   lia
 rw[x,v]
 have m:p∈hs++[hs.getD d ""]↔p∈hs:=by
  rw[waC,wan];refine⟨λz=>z.elim id λz=>?_,.inl⟩;rw[z,wa3,wa1 hd];exact waE _
 have a:(hs++[hs.getD d ""]).length=hs.length+1:=by rw[wa7];rfl
 by_cases f:e=lns.length
 ·rw[if_pos f]
  have s:(hs++[hs.getD d ""]).getD e ""=hs.getD d "":=by
   rw[f,hl,wa3,waq (wab _),wbn];rfl
  rw[s,a];refine Rz ⟨λz=>⟨by lia,m.mpr z.2.1,z.2.2⟩,λz=>⟨hd,m.mp z.2.1,z.2.2⟩⟩
 ·rw[if_neg f]
  by_cases g:e<hs.length
  ·have s:(hs++[hs.getD d ""]).getD e ""=hs.getD e "":=by
    rw[wa3,waB g,<-wa3]
   rw[s,a];refine Rz ⟨λz=>⟨by lia,m.mpr z.2.1,z.2.2⟩,λz=>⟨g,m.mp z.2.1,z.2.2⟩⟩
  ·rw[if_neg (λz=>g z.1),if_neg (λz=>by have:=z.1;lia)]
theorem vT.line{B:Str->List (Str×Str)}(h:vT B hs lns)(hl:lns.length=hs.length)(g:∀p,(B p).length<=b):∀l∈lns,l.length<=b*hs.length:=by
 intro l j;obtain⟨i,hi,e⟩:=wbp j;have f:lns[i]?=some l:=by rw[wa1 hi,e]
 have a:hs[i]?=some (hs[i]'(by omega)):=wa1 _;generalize hs[i]'(by omega)=p at a
 have one:∀z,l.count z<=1:=λz=>by
  have c:=jP (z:=z) a f;have d:=h p z.1 z.2;rw[show ((z.1,z.2):Str×Nat)=z from rfl]at d;rw[d]at c;split at c<;>omega
 have nd:l.Nodup:=List.nodup_iff_count.mpr one
 have sub:∀z∈l,z∈((B p).map (·.1)).flatMap λw=>(waI hs.length).map λe=>(w,e):=λz k=>by
  have c:=jP (z:=z) a f;have d:=h p z.1 z.2;rw[show ((z.1,z.2):Str×Nat)=z from rfl]at d;rw[d]at c;have m:0<l.count z:=wbY.mpr k
  by_cases hc:z.2<hs.length/\p∈hs/\(z.1,hs.getD z.2 "")∈B p
  ·exact wbW.mpr ⟨z.1,waa.mpr ⟨_,hc.2.2,rfl⟩,waa.mpr ⟨z.2,wb3.mpr hc.1,rfl⟩⟩
  ·rw[if_neg hc]at c;omega
 have c:=tR nd sub
 have d:(((B p).map (·.1)).flatMap λw=>(waI hs.length).map λe=>(w,e)).length<=(B p).length*hs.length:=by
  have:=tS (λw=>(waI hs.length).map λe=>((w,e):Str×Nat)) hs.length ((B p).map (·.1)) λw _=>by rw[wa0,waO];exact wab _
  rwa[wa0]at this
 exact wai c (wai d (wet _ (g p)))
theorem uo(p:Str)(z:Str×Nat)(f:Str->List (Str×Nat)):∀hs:List Str,hs.Nodup->gx p z hs (hs.map f)=if p∈hs then(f p).count z else 0
 |[],_=>rfl
 |h::hs,nd=>by
  rw[wbF]at nd;show (if h=p then(f h).count z else 0)+gx p z hs (hs.map f)=_;rw[uo p z f hs nd.2]
  by_cases e:h=p
  ·grind
  ·grind
theorem j1{f:Str->Option (Str×Str)}(g:∀r x,f r=some x->x.1=r):∀L:List Str,((L.filterMap f).map (·.1)).Sublist L
 |[]=>.slnil
 |r::L=>by
  rw[wb5]
  cases e:f r with
  |none=>exact(j1 g L).cons _
  |some x=>
   show (x.1::(L.filterMap f).map (·.1)).Sublist _;rw[g r x e];exact(j1 g L).cons₂ _
theorem yv(nd:(ch g).Nodup)(l:ss.Perm (bo ws "" ws))(hw:∀w∈ws,1<=w.length)(j:p∈ss)(n:Nat):((aQ g ws ss ls n p).map (·.1)).Nodup:=by
 rw[<-Cq l hw j n];refine List.Nodup.sublist (j1 (λr x e=>?_) _) (by rw[sH];exact pY nd n);unfold Kh at e;split at e
 ·cases e
 ·grind
theorem yw:∀{l:List (Str×Str)},(l.map (·.1)).Nodup->l.Nodup:=by intro l;induction l<;>grind [wdf,wbF]
theorem Cy{g:List (Str×Str)}{hs:List Str}(nd:g.Nodup)(hn:hs.Nodup)(w:Str)(e:Nat) :
 (((g.filter λq=>decide (q.2∈hs)).map λq=>(q.1,hs.idxOf q.2)):List (Str×Nat)).count (w,e)=if e<hs.length/\(w,hs.getD e "")∈g then 1 else 0:=by
 have inj:∀q∈g.filter (λq=>decide (q.2∈hs)),((q.1,hs.idxOf q.2):Str×Nat)=(w,e)↔(e<hs.length/\q=(w,hs.getD e "")):=λq a=>by
  grind
 have gen:∀L:List (Str×Str),L.Nodup->(∀q∈L,((q.1,hs.idxOf q.2):Str×Nat)=(w,e)↔(e<hs.length/\q=(w,hs.getD e "")))->(L.map λq=>((q.1,hs.idxOf q.2):Str×Nat)).count (w,e)=if e<hs.length/\(w,hs.getD e "")∈L then 1 else 0:=by
  intro L
  induction L with
  |nil=>grind
  |cons q L b=>
   grind
 rw[gen _ (nd.filter _) inj];refine Rz ⟨λz=>⟨z.1,(wau.mp z.2).1⟩,λz=>⟨z.1,wau.mpr ⟨z.2,decide_eq_true ?_⟩⟩⟩;rw[wa3,wa1 z.1];exact waE _
theorem vT.first{g:Str}{ws ss ls:List Str}{n:Nat}{hs:List Str}(nd:(ch g).Nodup)(l:ss.Perm (bo ws "" ws))(hw:∀w∈ws,1<=w.length)(j:∀p∈hs,p∈ss)(hn:hs.Nodup):vT (aQ g ws ss ls n) hs (bc g ws ss ls n hs):=by
 intro p w e;unfold bc;rw[uo p (w,e) _ hs hn]
 by_cases h:p∈hs
 ·rw[if_pos h];unfold fR;rw[Cy (yw (yv nd l hw (j p h) n)) hn];exact Rz ⟨λz=>⟨z.1,h,z.2⟩,λz=>⟨z.1,z.2.2⟩⟩
 ·rw[if_neg h,if_neg (λz=>h z.2.1)]
theorem ot{α:Type}(f:α->Int):∀l:List α,(∀x∈l,0<=f x)->(l.map f).sum=((l.filter λx=>decide (0<f x)).map f).sum:=by intro l;induction l<;>grind [wac,wad,waX,decide_eq_true,wbf,decide_eq_false]
theorem xo{f:Str->Int}(h:∀p∈ls,0<=f p):((ak ls f).map f).sum=(ls.map f).sum:=(ot f ls h).symm
theorem HD{f:Str->Int}(hn:∀p∈ls,0<=f p)(p:Str):aZ ((ak ls f).map f) (fR g ws ss ls n (ak ls f) p)=gY g ws ss ls n f p:=by
 unfold gY;rw[ot (λq:Str×Str=>f q.2) (aQ g ws ss ls n p) λq a=>hn _ (cX a)];unfold aZ fR;rw[waf]
 have e:(aQ g ws ss ls n p).filter (λq=>decide (q.2∈ak ls f))=(aQ g ws ss ls n p).filter λq=>decide (0<f q.2):=wf5 λq a=>by
  unfold ak;exact decide_eq_decide.mpr (by rw[wau];exact⟨λz=>of_decide_eq_true z.2,λz=>⟨cX a,decide_eq_true z⟩⟩)
 rw[e];refine congrArg List.sum (waY λq a=>?_)
 have b:q.2∈ak ls f:=by
  unfold ak;have:=wau.mp a;exact wau.mpr ⟨cX this.1,this.2⟩
 show ((ak ls f).map f).getD ((ak ls f).idxOf q.2) 0=f q.2;rw[wa3,wa4,(q9 b).1];rfl
theorem iR.first{f:Str->Int}(hn:∀p∈ls,0<=f p)(j:FV g ws ss ls many n f):iR many (ak ls f) ((ak ls f).map f) (bc g ws ss ls n (ak ls f)):=by
 have a:∀p∈ak ls f,p∈ls/\0<f p:=λp b=>⟨(wau.mp b).1,of_decide_eq_true (wau.mp b).2⟩;refine⟨wa0 _,wa0 _,λw hw=>?_,λl hl q c=>?_,λi l hl=>?_⟩
 ·obtain⟨p,b,rfl⟩:=waa.mp hw;have:=(a p b).2
  lia
 ·obtain⟨p,b,rfl⟩:=waa.mp hl;obtain⟨z,d,rfl⟩:=waa.mp c;exact List.idxOf_lt_length_of_mem (of_decide_eq_true (wau.mp d).2)
 ·unfold bc at hl;rw[wa4]at hl
  cases e:(ak ls f)[i]? with
  |none=>rw[e]at hl;cases hl
  |some p=>
   rw[e]at hl;cases hl;rw[HD hn,wa3,wa4,e];exact j p (a p (wa8 e)).1
end Bs
namespace L2
open PySem PySem.Calls PySem.Spec PyProof.Rows
theorem qY:∀ns:List Int,preSum (λi=>ns.getD i 0) ns.length=ns.sum
 |[]=>rfl
 |n::ns=>by
  show preSum (λi=>(n::ns).getD i 0) (ns.length+1)=n+ns.sum;rw[PySem.W.kdu_shift,<-qY ns];rfl
section
variable{X:Cx}
theorem F9(hc:X.calm=true):dA X (.builtin "sum") (λxs H Q=>∃v d kvs ns,xs=[.ref v]/\H v=some (kT v d)/\H d=some (.dK kvs)/\kvs.map (·.2)=wcA V.int ns/\Q (.int ns.sum) H):=by
 intro m s σ H xs U Q I r h;obtain⟨v,d,kvs,ns,rfl,D,hd,hn,q⟩:=h;obtain⟨u,rfl,E⟩:=vals1 r;cases E;obtain⟨Y,lo,c,rel,G⟩:=t9 I.b7 hd;obtain⟨ep,f⟩:=G.dictAt;obtain⟨a,_⟩:=(show bP X.prog X.w H s.heap v (kT v d) from I.b7 v _ D);have J:=I.ok.hd hc
 have g:c.length=ns.length:=by
  have:=congrArg wdu hn;rw[wa0,wa0]at this;rw[<-rel.length];exact this
 have L:∀{kvs:List (Key×V)} {c:List (Key×Value)} {ns:List Int},KV kvs c->kvs.map (·.2)=ns.map V.int->∀(i:Nat) (k:Key) (x:Value),c[i]?=some (k,x)->∃t,x=.int (ns.getD i 0) t:=by
  intro kvs c ns r
  induction r generalizing ns with
  |nil=>intro _ i k x e;simp at e
  |@cons p q ps Z h t M=>
   intro e i k x j
   cases ns with
   |nil=>cases e
   |cons n ns=>
    rw[wao,wao]at e;injection e with N O
    cases i with
    |zero=>
     simp at j;have y:=h.2;rw[N,j]at y;exact y
    |succ i=>exact M O i k x (by simpa using j)
 have z:=wgN (prog:=X.prog) (w:=X.w) (r:=v) (d:=d) (knd:=bq X.prog X.w) (kvs:=c) (ep:=ep);refine call_sum_walkAnyS ?_;obtain⟨R,St,hit,S,st⟩:=z.iter X.A.in1 s J ⟨a,f⟩;refine hit _ _ ⟨s.heap.objs.size,_,_,_,c.length,_,_,λi=>ns.getD i 0,rfl,S.toS,st,λb l=>?_,λi x ⟨k,e⟩=>L rel hn i k x e,λB t' C=>?_⟩
 ·show b<(s.heap.push R).objs.size;rw[size_push'];rcases waD.mp l with e |l
  ·rw[e];exact wbJ _
  ·rw[wan.mp l];exact we0 (z.there _ ⟨a,f⟩).2
 ·have hk:∀b o,s.heap.get? b=some o->B.heap.get? b=some o:=λb o e=>
   C.heap b o (λT=>absurd (wag e) (by rw[wan.mp T];exact wb7 _)) (wa9 _ e)
  rw[Moved.eq_with C];refine⟨.int ns.sum,H,I.kept (t':=B.toks) hk,⟨t',?_⟩,q⟩;rw[g,qY]
end
section
variable{prog:wap}{w:World}{A:Around}{E:Value->Shared->Prop}{s:Shared}{l I S:Addr}{vs:List Value}{R:wcN->Shared->Prop}{Q:Value->Shared->Prop}
theorem gy{h h':Heap}{p:Addr}{g:Array Value}(e:h.IsList p g)(hk:∀b o,h.get? b=some o->h'.get? b=some o):h'.IsList p g:=let ⟨o,a,r⟩:=e;⟨o,hk _ _ a,r⟩
theorem yx(kf:Nat->Int)(hh:A.handled=none)(hl:s.heap.IsList l vs.toArray)(hI:I=s.heap.objs.size)(N3:S≠I)(Y9:s.heap.objs.size<=S)
 (turn:∀(i:Nat) (v:Value),vs[i]?=some v->∃p items,v=.ref p/\s.heap.IsList p items/\(items.size:Int)=kf i/\(items.size:Int)<2^63)
 (hR:∀(v:Value) (h':Heap) (Cz:Nat),v∈vs->(∀b o,s.heap.get? b=some o->h'.get? b=some o)->R (.ok (.ret v)) {s with heap:=h',toks:=Cz}) :
 ∀(r j i:Nat) (h:Heap) (tk:Nat) (vb:Value) (tb:Tok) (c:Nat),vs.length-(j+1)=r->j+1<=vs.length->(∀b o,s.heap.get? b=some o->h.get? b=some o) ->
  h.get? S=some (seqObj "list" #[vb,.int (kf i) tb] c)->h.IsListIter I l (j+1)->vs[i]?=some vb ->
  codeAny (model prog w) A (.builtin "min.loop" ⟨[.ref I,.builtin "len",.ref S],[]⟩) R {s with heap:=h,toks:=tk}:=by
 have A8:(toString "min"++toString ".loop":String)="min.loop":=by decide
 have CA:l<s.heap.objs.size:=let ⟨o,ho,_⟩:=hl;wag ho
 have Qc:l≠I:=by rw[hI];exact wat CA
 have W:=wf8 (prog:=prog) (w:=w) (A:=A.in1) hh I l Qc vs.toArray;have hsz:vs.toArray.size=vs.length:=waz ..
 have old:∀{b:Addr} {o:Obj},s.heap.get? b=some o->b≠S/\b≠I:=λ{b o} e=>by
  have hb:b<s.heap.objs.size:=wag e;exact⟨wat (war hb Y9),by rw[hI];exact wat hb⟩
 intro r
 induction r with
 |zero=>
  intro j i h tk vb tb c hr hj mono nS hit Tf;have Yb:j+1=vs.length:=by omega
  refine wbk we4 ?_;rw[wba wbP _];show wpAny _ A.in1 (weg (.ref S) >>= _) _ _ _;refine wa6 (wcL nS rfl ?_);show wpAny _ A.in1 (tryCatch (pyNext (.ref I)) _ >>= _) _ _ _;refine wa6 (wbO (W.done _ _ _ ⟨by rw[hsz,<-Yb];exact hit,gy hl mono⟩ λh' Cz Jc=>?_));have Yc:=Jc S _ (by simpa using N3) nS;have s1:=weF h' S (wcE λ_=>(#[]:Array Value));show wpAny _ A.in1 (wgP S (λ_=>#[]) >>= _) _ _ _;refine wa6 ?_;refine wd6 Yc rfl (wa6 (wdc (wax ?_)));exact hR vb _ _ (wa8 Tf) λb o e=>(s1.2 b (old e).1).trans (Jc b o (by simpa using(old e).2) (mono b o e))
 |succ r ih=>
  intro j i h tk vb tb c hr hj mono nS hit Tf;have N4:j+1<vs.length:=by omega
  refine wbk we4 ?_;rw[wba wbP _];show wpAny _ A.in1 (weg (.ref S) >>= _) _ _ _;refine wa6 (wcL nS rfl ?_);show wpAny _ A.in1 (tryCatch (pyNext (.ref I)) _ >>= _) _ _ _;refine wa6 (wbO (W.item (j+1) _ _ _ (by rw[hsz];exact N4) ⟨hit,gy hl mono⟩ λv h' Cz hP Kq Jc=>?_));have hv:vs[j+1]?=some v:=by simpa using hP
  have xq:∀b o,s.heap.get? b=some o->h'.get? b=some o:=λb o e=>Jc b o (by simpa using(old e).2) (mono b o e);have O7:=Jc S _ (by simpa using N3) nS;obtain⟨p,items,rfl,hp,Tg,Fa⟩:=turn (j+1) v hv;show wpAny _ A.in1 (tryCatch (holding [waj p] (call (.builtin "len") [.ref p])) _ >>= _) _ _ _;refine wa6 (wbO (wbj (weD (gy hp xq) Fa ?_)));rw[Tg];show wpAny _ A.in1 (tryCatch (holding [waj p,.int (kf (j+1)) _] (richCompare .Lt (.int (kf (j+1)) _) (.int (kf i) tb) >>= _)) _ >>= _) _ _ _;refine wa6 (wbO (wbj (wa6 (CmpOf.ints_lt (prog:=prog) (w:=w) (A:=A.in1) (P:=λi v=>∃t,v=.int (kf i) t) kf (λi v h=>h) (j+1) i _ _ _ _ _ ⟨_,rfl⟩ ⟨tb,rfl⟩ ?_))));refine wa6 (wbj (wbq ?_));refine wa6 (wdc (wax ?_))
  by_cases HE:kf (j+1)<kf i
  ·simp only[HE,decide_true,if_true];refine wa6 ?_;refine wd6 O7 rfl (wa6 (wdc ?_));rw[A8];have s1:=weF h' S (wcE λ_=>#[waj p,.int (kf (j+1)) (Cz+1)]);obtain⟨c2,Th⟩:∃c2,(h'.update S (wcE λ_=>#[waj p,.int (kf (j+1)) (Cz+1)])).get? S=some (seqObj "list" #[waj p,.int (kf (j+1)) (Cz+1)] c2):=⟨_,get?_update_seq O7 λ_=>#[waj p,.int (kf (j+1)) (Cz+1)]⟩;refine wax ⟨wbL wbP _,ih (j+1) (j+1) _ _ _ _ c2 (by omega) N4 (λb o e=>(s1.2 b (old e).1).trans (xq b o e)) Th ?_ hv⟩;obtain⟨Ti,N5,Tj⟩:=id Kq.1;exact⟨Ti,(s1.2 I N3.symm).trans N5,Tj⟩
  ·simp only[HE,decide_false,wbU,if_false];refine wa6 (wdc ?_);rw[A8];exact wax ⟨wbL wbP _,ih (j+1) i _ _ vb tb c (by omega) N4 xq O7 Kq.1 Tf⟩
theorem Kr(kf:Nat->Int)(hh:A.handled=none)(hl:s.heap.IsList l vs.toArray)(zB:0<vs.length)
 (turn:∀(i:Nat) (v:Value),vs[i]?=some v->∃p items,v=.ref p/\s.heap.IsList p items/\(items.size:Int)=kf i/\(items.size:Int)<2^63)
 (hQ:∀(v:Value) (h':Heap) (Cz:Nat),v∈vs->(∀b o,s.heap.get? b=some o->h'.get? b=some o)->Q v {s with heap:=h',toks:=Cz}) :
 wpAny (model prog w) A (call (.builtin "min") [.ref l] [(wcj "key",.builtin "len")]) Q E s:=by
 have A8:(toString "min"++toString ".loop":String)="min.loop":=by decide
 have CA:l<s.heap.objs.size:=let ⟨o,ho,_⟩:=hl;wag ho
 refine whu PySem.F.kind_min PySem.F.plain_min PySem.F.entry_min (kmk_min_key _ _) ?_;show wpAny _ A.in1 (wcs "min" ["key","default"] 0 ⟨[],[(wcj "key",.builtin "len")]⟩ >>= _) _ _ s;refine wa6 (wh7 (show wcs "min" ["key","default"] 0 ⟨[],[(wcj "key",.builtin "len")]⟩=pure [some (.builtin "len"),none] from rfl) ?_);refine wa6 (wax ?_);refine wa6 (wcB hl ?_);refine wa6 (wpAny_newList ?_ (waJ _));rw[A8];have hS:(s.heap.push {cls:=.type "list_iterator",data:=.fields #[.ref l,.int 0 0]}).objs.size=s.heap.objs.size+1:=size_push' ..;have Qc:l≠s.heap.objs.size:=wat CA;have N3:(s.heap.push {cls:=.type "list_iterator",data:=.fields #[.ref l,.int 0 0]}).objs.size≠s.heap.objs.size:=by rw[hS];exact wc4 (wbJ _)
 refine wax ⟨wbL wbP _,?_⟩
 have gI:((s.heap.push {cls:=.type "list_iterator",data:=.fields #[.ref l,.int 0 0]}).push (seqObj "list" #[] 0)).get? s.heap.objs.size=some {cls:=.type "list_iterator",data:=.fields #[.ref l,.int 0 0]}:=
  wa9 _ (waw _ rfl)
 have gS:((s.heap.push {cls:=.type "list_iterator",data:=.fields #[.ref l,.int 0 0]}).push (seqObj "list" #[] 0)).get? (s.heap.push {cls:=.type "list_iterator",data:=.fields #[.ref l,.int 0 0]}).objs.size=some (seqObj "list" #[] 0):=waw _ rfl;have Lz:∀b o,s.heap.get? b=some o->((s.heap.push {cls:=.type "list_iterator",data:=.fields #[.ref l,.int 0 0]}).push (seqObj "list" #[] 0)).get? b=some o:=λb o e=>wa9 _ (wa9 _ e)
 have old:∀{b:Addr} {o:Obj},s.heap.get? b=some o->b≠s.heap.objs.size+1/\b≠s.heap.objs.size:=λ{b o} e=>by
  have hb:b<s.heap.objs.size:=wag e;exact⟨wat (we0 hb),wat hb⟩
 have W:=wf8 (prog:=prog) (w:=w) (A:=A.in1) hh s.heap.objs.size l Qc vs.toArray;have hsz:vs.toArray.size=vs.length:=waz ..;refine wbk we4 ?_;rw[wba wbP _];show wpAny _ A.in1 (weg (.ref _) >>= _) _ _ _;refine wa6 (wcL gS rfl ?_);show wpAny _ A.in1 (tryCatch (pyNext (.ref s.heap.objs.size)) _ >>= _) _ _ _;refine wa6 (wbO (W.item 0 _ _ _ (by rw[hsz];exact zB) ⟨⟨_,gI,rfl,rfl⟩,gy hl Lz⟩ λv h' Cz hP Kq Jc=>?_));have hv:vs[0]?=some v:=by simpa using hP
 have xq:∀b o,s.heap.get? b=some o->h'.get? b=some o:=λb o e=>Jc b o (by simpa using(old e).2) (Lz b o e);have O7:=Jc _ _ (by simpa using N3) gS;obtain⟨p,items,rfl,hp,Tg,Fa⟩:=turn 0 v hv;show wpAny _ A.in1 (tryCatch (holding [waj p] (call (.builtin "len") [.ref p])) _ >>= _) _ _ _;refine wa6 (wbO (wbj (weD (gy hp xq) Fa ?_)));rw[Tg];have s1:=weF h' (s.heap.push {cls:=.type "list_iterator",data:=.fields #[.ref l,.int 0 0]}).objs.size (wcE λ_=>#[waj p,.int (kf 0) (Cz+1)]);obtain⟨c2,Th⟩:∃c2,(h'.update (s.heap.push {cls:=.type "list_iterator",data:=.fields #[.ref l,.int 0 0]}).objs.size (wcE λ_=>#[waj p,.int (kf 0) (Cz+1)])).get? (s.heap.push {cls:=.type "list_iterator",data:=.fields #[.ref l,.int 0 0]}).objs.size=some (seqObj "list" #[waj p,.int (kf 0) (Cz+1)] c2):=⟨_,get?_update_seq O7 λ_=>#[waj p,.int (kf 0) (Cz+1)]⟩;show wpAny _ A.in1 (wgP (s.heap.push {cls:=.type "list_iterator",data:=.fields #[.ref l,.int 0 0]}).objs.size (λ_=>#[waj p,.int (kf 0) (Cz+1)]) >>= _) _ _ _;refine wa6 ?_;refine wd6 O7 rfl ?_;rw[A8];obtain⟨Ti,N5,Tj⟩:=id Kq.1;refine wax ⟨wbL wbP _,yx kf hh hl rfl N3 (by rw[hS];exact wcb _) turn hQ _ 0 0 _ _ _ _ c2 rfl zB (λb o e=>(s1.2 b (by rw[hS];exact(old e).1)).trans (xq b o e)) Th ⟨Ti,(s1.2 _ N3.symm).trans N5,Tj⟩ hv⟩
end
section
variable{X:Cx}{e:Expr}{t:TA}{p p2 kp pos:Pos}
def Qg(K:wa2)(t:TA):TE:=λσ H Q=>t σ H λvs H1=>∃(a:Addr) (ps:List Addr),vs=[.ref a]/\aE K H1 a (ps.map V.ref)/\ps≠[]/\(∀q∈ps,∃ys,aE K H1 q ys)/\∀q∈ps,Q (.ref q) H1
theorem Ks(hc:X.calm=true)(J:Gl X "min")(T:X.mg "min"=none)(l:Gl X "len")(C:X.mg "len"=none)(ha:PA X [e] t)(hs:starEach [e] X.env=[(false,eval e X.env)]:=by rfl):PE X (.Call (.Name "min" p) [e] [⟨some "key",.Name "len" p2,kp⟩] pos) (Qg X.K t):=by
 refine⟨?_⟩;intro f s σ H Q I h;refine wbt (ib I J T (show waQ "min"=some (.builtin "min") from Sx.MO) ?_ (by decide) (by decide));refine wfs (bI (ha pos f s σ H _ I h) λO z ⟨R,A,g,B,D⟩=>?_) (by rw[hs];rfl) (by rw[hs];rfl);refine weh (ib g l C (show waQ "len"=some (.builtin "len") from wdX) (wex ?_) (by decide) (by decide));obtain⟨a,ps,rfl,E,m,n,q⟩:=D;obtain⟨u,rfl,G⟩:=vals1 B;cases G;obtain⟨b,k,pl,w⟩:=g.list E;have hl:b.length=ps.length:=by have:=k.length;rw[wa0]at this;exact this.symm
 have j:∀{ps:List Addr} {b:List Value},Vals (ps.map V.ref) b->b=ps.map waj:=by
  intro ps
  induction ps with
  |nil=>intro b r;cases r;rfl
  |cons x ps L=>
   intro b r
   cases r with
   |cons h t=>rw[L t];cases h;rfl
 have e:=j k;subst e
 have sz:∀q∈ps,∃b:List Value,z.heap.IsList q b.toArray/\b.length<=sizeLine:=λq c=>by
  obtain⟨S,M⟩:=n q c;obtain⟨b,k,pl,w⟩:=g.list M;exact⟨b,pl.isList,by rw[<-k.length];exact w⟩
 have hn:=n8;refine Kr (kf:=λi=>match ps[i]? with |some q=>if c:q∈ps then((whg (sz q c)).length:Int) else 0 |none=>0) (g.ok.hd hc) pl.isList (by rw[wa0];cases ps with |nil=>exact absurd rfl m |cons _ _=>exact Nat.succ_pos _) (λi v d=>?_) λv U o d hk=>?_
 ·rw[wa4]at d
  cases e:ps[i]? with
  |none=>rw[e]at d;cases d
  |some q=>
   rw[e]at d;cases d;have c:q∈ps:=wa8 e;obtain⟨N,Y⟩:=Classical.choose_spec (sz q c);refine⟨q,_,rfl,N,?_,?_⟩
   ·show _=if c:q∈ps then _ else _
    rw[dif_pos c,waz]
   ·rw[waz]
    lia
 ·obtain⟨y,c,rfl⟩:=waa.mp d;exact⟨.ref y,A,g.kept (t':=o) hk,rfl,q y c⟩
end
open AutoSeq1 (wpAny_loadPart')
noncomputable abbrev LA(t:Tok):List (Str×Value):=[(wcj "start",.int 1 t)]
theorem Fb(l:Addr)(items:Array Value)(n:Nat)(j:Option Addr)(sl:Array (Option Value))(t:Tok) :
 Meets (wdS.«enumerate.__new__» ⟨[.type "enumerate",.ref l],LA t⟩) (λ_ R s=>s.heap.get? l=some {cls:=.type "list",dict:=j,data:=.seq items n,slots:=sl} /\
  R (.ok (.ret (.ref (s.heap.objs.size+1)))) {s with heap:=(s.heap.push {cls:=.type "list_iterator",data:=.fields #[.ref l,.int 0 0]}).push {cls:=.type "enumerate",data:=.fields #[.none,.bool false,.ref s.heap.objs.size,rawInt 1,.none,.none]}}):=
 .of_wp λprog w A R s h=>by
  obtain⟨a,g,d,i,os⟩:=s;obtain⟨hl,h⟩:=h;have b:(a.push {cls:=.type "list_iterator",data:=.fields #[.ref l,.int 0 0]}).objs.size=a.objs.size+1:=wbM ..;have e:=sub_enumerate;have f:Heap.IsList (Shared.heap ⟨a,g,d,i,os⟩) l items:=⟨_,hl,rfl,n,rfl⟩
  wp_walk using wpAny_loadPart' hl
  refine wpAny_stack_any λst=>wax ?_;split
  ·rename_i c _ _ _ _ _;cases(c==wek "enumerate")<;>(wp_walk using wpAny_loadPart' hl,wcB f;exact⟨_,rfl,by rw[b];exact h⟩)
  ·wp_walk using wpAny_loadPart' hl,wcB f
   exact⟨_,rfl,by rw[b];exact h⟩
section
variable{prog:wap}{w:World}{A:Around}{E:Value->Shared->Prop}{s:Shared}
theorem HF(l:Addr)(t:Tok):checkTypeCall "enumerate" ⟨[.ref l],LA t⟩=pure ():=by kernel_rfl
theorem HG(l:Addr)(t:Tok):web "enumerate.__new__" ⟨[.type "enumerate",.ref l],LA t⟩=pure ():=by kernel_rfl
theorem CC(o l:Addr)(t:Tok):argsOk "object.__init__" ⟨[.ref o,.ref l],LA t⟩:=by unfold argsOk;kernel_rfl
theorem CD(o l:Addr)(t:Tok):Meets (wdS.«object.__init__» ⟨[.ref o,.ref l],LA t⟩) (λ_ R s=>s.TypeIs (.ref o) "enumerate"/\R (.ok (.ret .none)) s):=by
 have hl:=weO.init.lookup;have c:=weO.made;have a:(some "enumerate.__new__" != some "object.__new__")=true:=by decide
 refine Meets.of_wp λprog w A R s ⟨d,b⟩=>?_
 repeat (any_goals (first |assumption |wp_step))
 exact⟨_,rfl,b⟩
theorem CF{Q:Value->Shared->Prop}(C:s.heap.IsList l items)
 (h:∀h',IsEnum h' (s.heap.objs.size+1) s.heap.objs.size 1 .none->h'.IsListIter s.heap.objs.size l 0->(∀b o,s.heap.get? b=some o->h'.get? b=some o)->Q (.ref (s.heap.objs.size+1)) {s with heap:=h'}) :
 wpAny (model prog w) A (call (.type "enumerate") [.ref l] (LA t)) Q E s:=by
 obtain⟨⟨c,f,x,sl⟩,hl,hc,n,hd⟩:=C;have y:c=.type "list":=hc;have z:x=.seq items n:=hd;subst y z;have B:(s.heap.push {cls:=.type "list_iterator",data:=.fields #[.ref l,.int 0 0]}).objs.size=s.heap.objs.size+1:=wbM ..;have a:=weO;obtain⟨c,J,k⟩:=a.mro;have g:=a.made;have m:=a.sub;have L:=a.notType;have M:=a.canCreate;have D:=HF l t;refine wd1 (wfK (show wpAny _ _ (callAny (.type "enumerate") _) _ _ _ from wax ⟨wdN _ (by decide+kernel),wbk wgl ?_⟩));rw[wgO (wg8 "enumerate" [.ref l] (LA t)) (units_type_call_type "enumerate" [.ref l] (LA t))]
 repeat (any_goals (first |assumption |wp_step))
 have p:((s.heap.push {cls:=.type "list_iterator",data:=.fields #[.ref l,.int 0 0]}).push {cls:=.type "enumerate",data:=.fields #[.none,.bool false,.ref s.heap.objs.size,rawInt 1,.none,.none]}).get? (s.heap.objs.size+1)=some {cls:=.type "enumerate",data:=.fields #[.none,.bool false,.ref s.heap.objs.size,rawInt 1,.none,.none]}:=by
  rw[<-B];exact waw _ rfl
 refine wc6 (wcF a.plain F.entry_enumerate_new (wh7 (HG l t) ((Fb l items n f sl t) prog w A.in1 (wants (λv i=>v=.ref (s.heap.objs.size+1)/\i={s with heap:=(s.heap.push {cls:=.type "list_iterator",data:=.fields #[.ref l,.int 0 0]}).push {cls:=.type "enumerate",data:=.fields #[.none,.bool false,.ref s.heap.objs.size,rawInt 1,.none,.none]}}) E) s ⟨hl,rfl,rfl⟩))) λr q j=>?_
 cases r with
 |error e=>exact j
 |ok fl=>
  cases fl with
  |ret obj=>
   obtain⟨rfl,rfl⟩:=j;have u:whz {s with heap:=(s.heap.push {cls:=.type "list_iterator",data:=.fields #[.ref l,.int 0 0]}).push {cls:=.type "enumerate",data:=.fields #[.none,.bool false,.ref s.heap.objs.size,rawInt 1,.none,.none]}} (.ref (s.heap.objs.size+1)) "enumerate":=⟨_,p,rfl⟩;have G:=a.init.lookup;have H:=a.init.bind (.ref (s.heap.objs.size+1));have N:=h _ p ⟨_,wa9 _ (waw _ rfl),rfl,rfl⟩ λb o e=>wa9 _ (wa9 _ e)
   repeat (any_goals (first |assumption |wp_step))
   refine wc6 (wcF a.init.plain F.entry_object_init (a.init.check _ _ _ _ _ _ _ _ u (CC _ l t) ((CD (s.heap.objs.size+1) l t) prog w A.in1 (wants (λv i=>v=.none/\i={s with heap:=(s.heap.push {cls:=.type "list_iterator",data:=.fields #[.ref l,.int 0 0]}).push {cls:=.type "enumerate",data:=.fields #[.none,.bool false,.ref s.heap.objs.size,rawInt 1,.none,.none]}}) E) _ ⟨u,rfl,rfl⟩))) λI O d=>?_
   cases I with
   |error e=>exact d
   |ok O3=>
    cases O3 with
    |ret r=>
     obtain⟨rfl,rfl⟩:=d
     repeat (any_goals (first |assumption |wp_step))
    |_=>exact d.elim
  |_=>exact j.elim
theorem CG{P:Nat->Value->Prop}{St:Nat->Heap->Prop}(D:Draws prog w A it g n P St):Draws prog w A it g (n+1) (λj v=>∃i,j=i+1/\P i v) (λj h=>∃i,j=i+1/\St i h) where
 live:=λ_ _ ⟨i,_,st⟩=>D.live i _ st
 frame:=λ_ h a ⟨i,e,st⟩ hk=>⟨i,e,D.frame i h a st hk⟩
 item:=λ_ s Q E l ⟨i,e,st⟩ b=>D.item i s Q E (by lia) st λx a c d f sb=>b x a c ⟨i,e,d⟩ ⟨i+1,by lia,f⟩ sb
 done:=λs Q E ⟨i,e,st⟩ k=>D.done s Q E ((show n=i by lia) ▸ st) k
theorem Fc(g:A.handled=none)(it l:Addr)(items:Array Value)(i:Nat)(p:items[i]?=none):Draws prog w A it [it,l] (i+1) (λ_ _=>False) (λj h=>j=i+1/\h.IsListIter it l i/\h.IsList l items) where
 live:=λ_ _ ⟨_,st,_⟩=>let ⟨o,a,_⟩:=st;⟨o,a⟩
 frame:=λ_ _ _ ⟨e,st,sl⟩ hk=>⟨e,st.at λo q=>hk it (by simp) o q,sl.at λo q=>hk l (by simp) o q⟩
 item:=λ_ _ _ _ b ⟨e,_⟩ _=>absurd e (wat b)
 done:=λ_ _ _ ⟨_,st,sl⟩ c=>wpAny_nextOf_list_end g st sl p c
end
noncomputable def HH(K:wa2)(a:Addr):It:=
 ⟨λi H=>∃xs x,aE K H a xs/\xs[i]?=some x,λi H x H'=>∃T xv,H T=none/\x=.ref T/\H'=upd H T (.tup [.int ((i+1:Nat):Int),xv])/\∀xs,aE K H a xs->xs[i]?=some xv,λi H=>∃xs,aE K H a xs/\xs.length<=i⟩
theorem CH{P:wap}{w:World}{K:wa2}{r:List Expr}{k:Nat}{pos:Pos}(a e it:Addr)(g:e≠it)(J:a≠it):Turn P w K (.Tuple r k pos) (HH K a) [e,it] e (λi h=>(∃old,IsEnum h e it ((i+1:Nat):Int) old)/\h.IsListIter it a i) where
 mem:=by simp
 obj:=λi h st b n=>by
  obtain⟨⟨old,c⟩,o,l,hc,hd⟩:=st;rcases waD.mp n with z |n
  ·exact⟨_,z ▸ c,λv q=>by
    have q':wfN _=wgF v:=q
    cases q'⟩
  ·exact⟨o,wan.mp n ▸ l,λv q=>by rw[hd]at q;cases q⟩
 keep:=λi h V st k=>⟨st.1.imp λold c=>k e (by simp) _ c,st.2.at λo q=>k it (by simp) o q⟩
 item:=by
  intro X G hw L hc i t s σ H E I M st N;subst G hw L;obtain⟨xs,x,D,O⟩:=N;obtain⟨d,Q,p,hz⟩:=I.list D;obtain⟨u,Y,ru⟩:=Q.get O;obtain⟨⟨old,c⟩,hit⟩:=st
  have R:e≠a:=λz=>by
   obtain⟨o,l,S,_⟩:=p.isList;have f:=c;rw[z]at f;rw[f]at l;cases l;have q:wek "enumerate"=.type "list":=S;injection q with q
   exact absurd q (by decide)
  have VP:i<d.length:=(wa5.mp Y).1;refine wfy (i:=i+1) (CG (Draws.list (A:=X.A.in1) (I.ok.hd hc) it a J d.toArray)) c ⟨i,rfl,hit,p.isList⟩ (by rw[waz];lia) g (by simp[g,R]) λy V tk m l T hT hsz hk=>?_;obtain⟨Z,e1,m⟩:=m;obtain⟨i2,e2,B,Yd⟩:=T;have e1:Z=i:=by lia
  have e2:i2=i+1:=by lia
  subst e1 e2
  have ey:y=u:=by
   rw[wei,Y]at m;exact(wae m).symm
  subst ey;refine⟨_,rfl,wdt l λVr f j=>?_⟩;obtain⟨_,U,_⟩:=id hit;have C:e<s.heap.objs.size:=wag c;obtain⟨fr,I1,hn⟩:=tH (y:=.int ((Z+1:Nat):Int)) (tk+1) I M (λb o h q=>(j.2 b (yg h).1).trans (hk b o (yg h).1 (yg h).2 q)) ((j.2 _ (wc4 C)).trans hT) ⟨_,rfl⟩ ru (Mw C (wag U));exact⟨.ref s.heap.objs.size,_,I1,rfl,⟨s.heap.objs.size,x,fr,rfl,rfl,λys m=>by rw[I.sV m D];exact O⟩,⟨⟨y,by simpa using f⟩,B.at λo q=>(j.2 it (wbs g)).trans q⟩,hn⟩
 done:=by
   intro X G hw L hc i t s σ H E I M st N;subst G hw L;obtain⟨xs,D,O⟩:=N;obtain⟨d,Q,p,hz⟩:=I.list D;have hl:=Q.length;obtain⟨⟨old,c⟩,hit⟩:=st;obtain⟨g0,g1,g2,g3,g4,g5⟩:=M it (by simp);exact wfX (Fc (A:=X.A.in1) (I.ok.hd hc) it a d.toArray i (wfU (by simp;lia))) c ⟨rfl,hit,p.isList⟩ λV eb=>⟨rfl,I.turned (t':=s.toks) (λb o n e=>eb b o n e) g0 g1 g3 g4 g5⟩
 self:=λ_ _ _ _ _ st h=>let ⟨⟨_,c⟩,_⟩:=st;wcC c h
theorem yy{E:Value->Shared->Prop}{Q:Value->Shared->Prop}(l:args.any (·.1)=false)(p:j.any (·.1.isNone)=false)
 (h:wpAny M A (evalArgs (.type T) true args j) (λa g=>wpAny M A (call (.type T) (first++a.pos) a.kw) Q E g) E s):wpAny M A (callWith pos (.type T) first args j) Q E s:=by
 unfold callWith;refine wa6 (wbj (wb1 h (λa g b=>wa6 (wds ?_)) λ_ _ x=>x));simp only[l,p,Bool.or_false];exact wa6 (wax (wa6 (wb1 b (λr c d=>wa6 (wbj (wpAny_point (wax d)))) λ_ _ x=>x)))
section
variable{X:Cx}
def N6(K:wa2)(ta:TA):TI:=λσ H R=>ta σ H λvs H1=>∃a xs,vs=[.ref a]/\aE K H1 a xs/\R (HH K a) H1
theorem HI{g:List Expr}{k j:Nat}{r:Pos}{l:Expr}{C:TA}{p J kp pos:Pos}(T:Gl X "enumerate")(U:X.mg "enumerate"=none)(ha:PA X [l] C)(hs:starEach [l] X.env=[(false,eval l X.env)]:=by rfl) :
 PI X (.Tuple g k r) (.Call (.Name "enumerate" p) [l] [⟨some "start",.Constant (.int 1) j J,kp⟩] pos) (N6 X.K C):=by
 refine⟨?_⟩;intro c s σ H R I h;refine wbt (ib I T U gG ?_ (by decide) (by decide));refine yy (by rw[hs];rfl) rfl ?_
 have w:backTo pos (starEach [l] X.env)=(false,(backTo pos (starEach [l] X.env)).head (by rw[hs];exact λz=>nomatch z) |>.2)::[]:=by
  simp only[hs];rfl
 rw[w];refine evalArgs_kwB rfl ?_;rw[<-w];refine bI (ha pos c s σ H _ I h) λus E ⟨vs,A,G,L,M⟩=>?_;refine weh (bI (aj (X:=X) (i:=1) c E σ A (λx m=>x=.int 1/\m=A) G ⟨rfl,rfl⟩) λv d ⟨y,m,n,N,O,Q⟩=>wex ?_);subst O Q;obtain⟨t,rfl⟩:=N;obtain⟨a,xs,e,S,q⟩:=M;subst e;obtain⟨u,rfl,V⟩:=vals1 L;cases V;obtain⟨Y,rv,pl,hz⟩:=n.list S;refine CF pl.isList λZ B hit kp=>wcC B ?_;have I3:Inv X c σ m {d with heap:=Z}:=n.kept (t':=d.toks) kp;have o:a<d.heap.objs.size:=let ⟨_,ho,_⟩:=pl.isList;wag ho
 refine⟨d.heap.objs.size+1,[d.heap.objs.size+1,d.heap.objs.size],_,_,m,rfl,I3,CH a _ _ (wc4 (wbJ _)) (wat o),⟨⟨_,B⟩,hit⟩,λb D=>?_,q⟩
 have f:d.heap.objs.size<=b:=by
  rcases waD.mp D with rfl |D
  ·grind
  ·grind
 exact n.Bk f (n.b7.fresh f)
end
theorem Fd{K:wa2}{a:Addr}{xs:List V}{g:TG}{C:TS}{D:Ends}{σ:St}{H:Hp}(Pv:Nat->St->Hp->Prop)(h0:Pv 0 σ H)(hl:∀i σ H,i<=xs.length->Pv i σ H->aE K H a xs)
 (hs:∀i x σ H T,xs[i]?=some x->Pv i σ H->H T=none->g (.ref T) σ (upd H T (.tup [.int ((i+1:Nat):Int),x])) λj t=>C (D.lp (Pv (i+1))) j t) (hd:∀σ H,Pv xs.length σ H->D.nx σ H) :
 ∃W:Nat->Nat->St->Hp->Prop,(∃m,W 0 m σ H)/\∀i m σ H,W i m σ H ->
  ((HH K a).stop i H/\D.nx σ H)\/((HH K a).go i H/\∃N:St->Hp->Prop,(∀l r,N l r->∃I,I<m/\W (i+1) I l r)/\∀x r,(HH K a).sX i H x r->g x σ r λj t=>C (D.lp N) j t):=by
 refine⟨λi m σ H=>m=xs.length-i/\i<=xs.length/\Pv i σ H,⟨xs.length,by simp,waJ _,h0⟩,?_⟩;rintro i m σ H ⟨rfl,hi,p⟩;have q:=hl i σ H hi p
 by_cases b:i<xs.length
 ·refine .inr ⟨⟨xs,xs[i],q,by simp[b]⟩,Pv (i+1),λl r c=>⟨xs.length-(i+1),by lia,rfl,b,c⟩,λx r y=>?_⟩;obtain⟨T,d,f,h,k,y⟩:=y;subst h k;exact hs i d σ _ T (y xs q) p f
 ·have e:i=xs.length:=by lia
  subst e;exact .inl ⟨⟨xs,q,wab _⟩,hd σ H p⟩
end L2
namespace L2
open PySem PySem.Spec PyProof.Rows
def uq(K:wa2)(J:It)(l:Addr)(σf:St)(tt:TT)(te:TE)(H:Hp)(Q:Hp->Prop):Prop:=
 ∃W:Nat->Nat->List V->Hp->Prop,(∃m,W 0 m [] (upd H l (.lst [])))/\∀i m ys H2,W i m ys H2->H2 l=some (.lst ys) /\
  ((J.stop i H2/\Q H2)\/(J.go i H2/\ys.length<sizeLine/\∀x H3,J.sX i H2 x H3->∃p a b c,x=.ref p/\hZ K H3 p [a,b,c]/\tt (some a::some b::some c::σf) H3 λok H4=>
    if ok=true then te (some a::some b::some c::σf) H4 λy H5=>H5 l=some (.lst ys)/\∃m',m'<m/\W (i+1) m' (ys++[y]) (upd H5 l (.lst (ys++[y])))
    else ∃m',m'<m/\W (i+1) m' ys H4))
def N7(K:wa2)(wi:TI)(ix:List Nat)(tt:TT)(te:TE):TE:=λσ H Q=>wi σ H λJ H1=>∀l,H1 l=none->uq K J l (pick σ ix) tt te H1 (λH2=>Q (.ref l) H2)
section
variable{X:Cx}{pins:List (Addr×Obj)}{σ:St}{H:Hp}{s₂:Shared}{scope:wcZ}{x x2 x3:Str}{ys:List Str}{ix:List Nat}{cl:List (Str×Addr)}{fp:List Addr}{L:Addr}
theorem HJ(hc:X.calm=true)(B:bJ X scope x ys ix)(g:bJ X scope x2 ys ix)(j:bJ X scope x3 ys ix)(l:x≠x2/\x≠x3/\x2≠x3)(cl L s H ex pn):PG (bg X scope ([x,x2,x3]++ys) cl L s H ex pn) (.Tuple [.Name x t,.Name x2 p,.Name x3 r] C pt) (G7 X.K 3 (kJ (eV 0) (kJ (eV 1) (kJ (eV 2) G6)))):=by
 have d:(relabel scope X.env).names.lookup x=some .local:=wch B.var;have b:(relabel scope X.env).names.lookup x2=some .local:=wch g.var;have c:(relabel scope X.env).names.lookup x3=some .local:=wch j.var
 have a:(x::x2::x3::ys).Nodup:=by
  have:=B.nd;have:=g.nd;have:=j.nd
  grind
 exact dU hc (aL (jy a rfl (.inl d) (.inr d)) (aL (jy a rfl (.inl b) (.inr b)) (aL (jy a rfl (.inl c) (.inr c)) cG)))
theorem HK{K:wa2}{J:It}(h:uq K J l g j r H Q):wN (G7 K 3 (kJ (eV 0) (kJ (eV 1) (kJ (eV 2) G6)))) 3 J l g j r H Q:=
 let ⟨W,a,t⟩:=h
 ⟨W,a,λi m ys k w=>let ⟨p,q⟩:=t i m ys k w;⟨p,q.imp id λ⟨a,b,c⟩=>⟨a,b,λx n o z y=>by revert o;refine iI 3 _ ?_;exact λ_ _ _=>let ⟨p,v,f,d,e,u,s⟩:=c x n y;⟨p,[v,f,d],e,u,rfl,v,[f,d],rfl,f,[d],rfl,d,[],rfl,rfl,⟨[some v,some f,some d],rfl,rfl⟩,s⟩⟩⟩⟩
theorem HL(hc:X.calm=true)(B:bJ X scope x ys ix)(U:bJ X scope x2 ys ix)(B3:bJ X scope x3 ys ix)(g:x≠x2/\x≠x3/\x2≠x3)(hi:PI X (.Tuple [.Name x px,.Name x2 j,.Name x3 p] kt pt) iter wi)
 (ht:∀cl L s H ex pn,FT (bg X scope (x::x2::x3::ys) cl L s H ex pn) r I) (he:∀cl L s H ex pn,PE (bg X scope (x::x2::x3::ys) cl L s H ex pn) t T)
 (hs:∀v,wbQ iter X.env v=pure v:=by intro _;rfl):PE X (.ListComp t [⟨.Tuple [.Name x px,.Name x2 j,.Name x3 p] kt pt,iter,r,0⟩] scope pos) (N7 X.K wi ix I T):=
 tD (C:=λJ l a H Q=>uq X.K J l a I T H Q) (xs:=[x,x2,x3]) hc B (HJ hc B U B3 g) (λ_ _ _ _ _=>HK) hi ht he hs
end
end L2
namespace Bs
open PySem L2 Sx
noncomputable def cx(ds:List Nat)(qs:List (Str×Nat)):List (Str×Nat):=qs.filter λq=>decide (q.2∈ds)
theorem xr(h:∀d∈S,d∈T):∀g:List (Str×Nat),(cx S g).length<=(cx T g).length
 |[]=>wab _
 |q::g=>by
  have a:=xr h g;unfold cx at a ⊢
  by_cases b:q.2∈S
  ·rw[waX (by exact decide_eq_true b),waX (by exact decide_eq_true (h _ b))];exact Nat.succ_le_succ a
  ·rw[wbf (by simpa using b)]
   by_cases c:q.2∈T
   ·rw[waX (by exact decide_eq_true c)];exact Nat.le_succ_of_le a
   ·rw[wbf (by simpa using c)];exact a
theorem HM(j:List Nat)(g:List (Str×Nat)):(cx j g).length<=g.length:=wbe _ _
noncomputable def ur(lns:List (List (Str×Nat)))(many:Int)(ds:List Nat):List Nat:=ds.filter λd=>decide (many<=((cx ds (lns.getD d [])).length:Int))
def DV(lns:List (List (Str×Nat)))(many:Int)(S:List Nat):Prop:=∀d∈S,d<lns.length/\many<=((cx S (lns.getD d [])).length:Int)
structure Above(lns:List (List (Str×Nat)))(many:Int)(ks:List Nat):Prop where
 sub:ks.Sublist (waI lns.length)
 top:∀S,DV lns many S->∀d∈S,d∈ks
theorem Above.start(lns:List (List (Str×Nat)))(many:Int):Above lns many (waI lns.length):=⟨wf6 _,λS h d hd=>wb3.mpr (h d hd).1⟩
theorem Above.next(h:Above lns many g):Above lns many (ur lns many g):=by
 refine⟨wdv.trans h.sub,λS a d hd=>wau.mpr ⟨h.top S a d hd,decide_eq_true ?_⟩⟩;have b:=(a d hd).2;have c:=xr (h.top S a) (lns.getD d [])
 lia
theorem Above.stays(h:Above lns many g)(e:ur lns many g=g):DV lns many g:=λd hd=>by
 refine⟨wb3.mp (h.sub.subset hd),?_⟩;rw[<-e]at hd;exact of_decide_eq_true (wau.mp hd).2
theorem HN(e:ur lns many g≠g):(ur lns many g).length<g.length:=by
 have a:(ur lns many g).Sublist g:=wdv;exact Nat.lt_of_le_of_ne a.length_le λz=>e (a.eq_of_length z)
structure nD(lns:List (List (Str×Nat)))(many:Int)(ks:List Nat):Prop where
 ab:Above lns many ks
 st:DV lns many ks
theorem nE:∀g:List (Str×Nat),(∀q∈g,ws.getD q.2 0<=h)->aZ ws g<=(g.length:Int)*h
 |[],_=>by show (0:Int)<=(0:Nat)*h;simp
 |q::g,a=>by
  have c:=nE g λp b=>a p (wac _ b);have h0:=a q (wad ..);rw[cb,waF,wci,wfZ];show _<=_+1*h
  lia
theorem getD_mem{ws:List Int}{i:Nat}(h:i<ws.length):ws.getD i 0∈ws:=by
 grind
theorem A9{many h:Int}{hs:List Str}{ws:List Int}{lns:List (List (Str×Nat))}(S:iR many hs ws lns)(K:nD lns many [])(t:h∈ws)(C:∀w∈ws,w<=h)(m1:1<=many) :
 ∃(d i:Nat) (g:List (Str×Nat)) (q:Str×Nat),lns[d]?=some g/\g[i]?=some q/\ws.getD d 0=h/\ws.getD q.2 0<h:=by
 have f:=S.w;have v:=S.l
 by_cases s:∃(d i:Nat) (g:List (Str×Nat)) (q:Str×Nat),lns[d]?=some g/\g[i]?=some q/\ws.getD d 0=h/\ws.getD q.2 0<h
 ·exact s
 exfalso
 have all:∀(d:Nat) (g:List (Str×Nat)),lns[d]?=some g->ws.getD d 0=h->∀q∈g,ws.getD q.2 0=h:=λd g hd hw q c=>by
  obtain⟨i,hi,e⟩:=wbp c;have x:¬ws.getD q.2 0<h:=λz=>s ⟨d,i,g,q,hd,by rw[wa1 hi,e],hw,z⟩;have o:=C _ (getD_mem (ws:=ws) (i:=q.2) (by rw[f];exact S.e g (wa8 hd) q c))
  lia
 obtain⟨y,j,A⟩:=wbp t;have x:1<=h:=S.p h t
 have r:DV lns many ((waI ws.length).filter λd=>decide (ws.getD d 0=h)):=λd hd=>by
  obtain⟨u,n⟩:=wau.mp hd;have u:=wb3.mp u;have n:ws.getD d 0=h:=of_decide_eq_true n;have k:d<lns.length:=by lia
  have c:lns[d]?=some (lns.getD d []):=by rw[wa3,wa1 k];rfl
  refine⟨k,?_⟩;have m:=all d _ c n;have B:cx ((waI ws.length).filter λd=>decide (ws.getD d 0=h)) (lns.getD d [])=lns.getD d []:=wb6.mpr λq a=>decide_eq_true (wau.mpr ⟨wb3.mpr (by rw[f];exact S.e _ (wa8 c) q a),decide_eq_true (m q a)⟩);rw[B];have o:=S.b d _ c;have D:=nE (lns.getD d []) λq a=>Int.le_of_eq (m q a);rw[n]at o;have E:many*h<=((lns.getD d []).length:Int)*h:=wdR o D;exact weW E (by lia)
 have:=K.ab.top _ r y (wau.mpr ⟨wb3.mpr j,decide_eq_true (by rw[wa3,wa1 j,A];rfl)⟩);cases this
theorem xt(f:Nat->Bool)(ws:List Int):∀(k:Nat) (g:List (Str×Nat)),aZ ws (b8 f k g)=(((wfW k g.length).filter f).map λi=>ws.getD (g.getD (i-k) ("",0)).2 0).sum
 |_,[]=>rfl
 |k,q::g=>by
  have a:=xt f ws (k+1) g
  have e:((wfW (k+1) g.length).filter f).map (λi=>ws.getD ((q::g).getD (i-k) ("",0)).2 0)=((wfW (k+1) g.length).filter f).map λi=>ws.getD (g.getD (i-(k+1)) ("",0)).2 0:=waY λi hi=>by
   have:=(wgY.mp (wau.mp hi).1).1;rw[show i-k=(i-(k+1))+1 by lia];rfl
  show aZ ws (if f k then q::b8 f (k+1) g else b8 f (k+1) g)=_;rw[waF,whf]
  cases b:f k with
  |true=>
   rw[if_pos rfl,waX b,wao,e,cb,a,waZ,wbn];rfl
  |false=>
   rw[if_neg (by decide),wbf (by grind),e,a]
theorem HP{a b:List Int}(h:a.Perm b):a.sum=b.sum:=by
 induction h with
 |nil=>rfl
 |cons x _ c=>grind
 |swap x y l=>grind
 |trans _ _ d e=>grind
theorem CI{a b:List Nat}(na:a.Nodup)(g:b.Nodup)(h:∀x,x∈a↔x∈b):a.Perm b:=by grind [whn]
theorem CJ(ws:List Int)(g:List (Str×Nat)){ns:List Nat}(nd:ns.Nodup)(j:∀n∈ns,n<g.length):aZ ws (aU (ns.map λn:Nat=>(n:Int)) g)=(ns.map λi=>ws.getD (g.getD i ("",0)).2 0).sum:=by
 unfold aU;rw[xt];refine HP (List.Perm.map _ (CI ((List.nodup_range' ..).filter _) nd λx=>?_));rw[wau,wgY,decide_eq_true_eq,waa];constructor
 ·grind
 ·grind
theorem Fe(ws:List Int)(ns:List Int)(g:List (Str×Nat)):aZ ws (aU ns g)+aZ ws (aT ns g)=aZ ws g:=by
 have gen:∀(f:Nat->Bool) (k:Nat) (l:List (Str×Nat)),aZ ws (b8 f k l)+aZ ws (b8 (λi=>!f i) k l)=aZ ws l:=by
  intro f k l
  induction l generalizing k with
  |nil=>rfl
  |cons q l a=>
   have a:=a (k+1);show aZ ws (if f k then q::b8 f (k+1) l else b8 f (k+1) l)+aZ ws (if !f k then q::b8 (λi=>!f i) (k+1) l else b8 (λi=>!f i) (k+1) l)=_;rw[cb]
   cases f k with
   |true=>
    rw[if_pos (by decide),if_neg (by decide),cb]
    lia
   |false=>
    rw[if_neg (by decide),if_pos (by decide),cb]
    lia
 exact gen _ 0 g
theorem nF{f:Nat->Int}:∀ns:List Nat,(∀n∈ns,f n<=h)->(ns.map f).sum<=(ns.length:Int)*h
 |[],_=>by show (0:Int)<=(0:Nat)*h;simp
 |n::ns,a=>by
  have c:=nF ns λp b=>a p (wac _ b);have h0:=a n (wad ..);rw[wao,waZ,waF,wci,wfZ];show _<=_+1*h
  lia
theorem uv{f:Nat->Int}:∀ns:List Nat,(∀n∈ns,f n<=h)->x∈ns->f x<h->(ns.map f).sum<(ns.length:Int)*h
 |[],_,a,_=>nomatch a
 |n::ns,c,a,b=>by
  have h0:=c n (wad ..);rw[wao,waZ,waF,wci,wfZ];show _<_+1*h;rcases waD.mp a with e |a
  ·have g:=nF ns λp d=>c p (wac _ d);rw[e]at b
   lia
  ·have g:=uv ns (λp d=>c p (wac _ d)) a b
   lia
theorem uw{f:Nat->Int}:∀ns:List Nat,(∀n∈ns,1<=f n)->ns≠[]->1<=(ns.map f).sum
 |[],_,h=>absurd rfl h
 |[n],a,_=>by
  have:=a n (wad ..);show 1<=f n+0
  lia
 |n::m::ns,a,_=>by
  have h0:=a n (wad ..);have c:=uw (m::ns) (λp b=>a p (wac _ b)) (λz=>nomatch z);rw[wao,waZ]
  lia
theorem Ff{many h w:Int}{hs:List Str}{ws:List Int}{lns:List (List (Str×Nat))}(S:iR many hs ws lns){d i0:Nat}{g:List (Str×Nat)}{ns:List Nat}(T:∀w∈ws,w<=h)(hd:lns[d]?=some g)(hw:ws.getD d 0=h)(m1:1<=many)
 (nd:ns.Nodup) (t:∀n∈ns,n<g.length) (C:ns≠[]) (J:(ns.length:Int)<=many) (r:(ns.length:Int)=many->i0∈ns) (I:ws.getD (g.getD i0 ("",0)).2 0<h)
 (j:(ns.map λi=>ws.getD (g.getD i ("",0)).2 0).sum=many*w):dm ws lns many (d:Int) (ns.map λn:Nat=>(n:Int)) w=true:=by
 have k:=S.w;have q:=S.l;have s:d<lns.length:=(wa5.mp hd).1;have m:lns.getD d []=g:=by rw[wa3,hd];rfl
 have o:g∈lns:=wa8 hd
 have a:∀i,i<g.length->ws.getD (g.getD i ("",0)).2 0∈ws:=λi hi=>by
  have e:g.getD i ("",0)=g[i]:=by rw[wa3,wa1 hi];rfl
  rw[e];exact getD_mem (by rw[k];exact S.e g o _ (waE hi))
 have c:∀n∈ns,1<=ws.getD (g.getD n ("",0)).2 0:=λn hn=>S.p _ (a n (t n hn));have f:∀n∈ns,ws.getD (g.getD n ("",0)).2 0<=h:=λn hn=>T _ (a n (t n hn));have u:=uw ns c C;rw[j]at u
 have x:1<=w:=by
  by_cases z:1<=w
  ·exact z
  ·have:=Int.mul_nonpos_of_nonneg_of_nonpos (show 0<=many by lia) (show w<=0 by lia)
   lia
 have H:1<=h:=by rw[<-hw];exact S.p _ (getD_mem (by lia))
 have L:w<h:=by
  have lt:many*w<many*h:=by
   rw[<-j]
   by_cases z:(ns.length:Int)=many
   ·have:=uv ns f (r z) I;rw[z]at this;exact this
   ·have y:=nF ns f;have A:((ns.length:Int)+1)*h<=many*h:=Int.mul_le_mul_of_nonneg_right (by lia) (by lia);rw[wfZ]at A
    lia
  exact Int.lt_of_mul_lt_mul_left lt (by lia)
 have c1:=CJ ws g nd t;rw[j]at c1;have M:=Fe ws (ns.map λn:Nat=>(n:Int)) g;have b:=S.b d g hd;rw[hw]at b
 have B:many*(h-w)<=aZ ws (aT (ns.map λn:Nat=>(n:Int)) g):=by
  rw[Int.mul_sub]
  lia
 have part:∀(l:List (Str×Nat)) (v:Int),1<=v->many*v<=aZ ws l->dZ ws many l v=true:=λl v D hl=>by
  have hn:l≠[]:=λz=>by
   rw[z]at hl;have y:many*v<=0:=hl;have:=Int.mul_pos (show 0<many by lia) (show 0<v by lia)
   lia
  unfold dZ;rw[decide_eq_true D,decide_eq_true hl]
  cases l with
  |nil=>exact absurd rfl hn
  |cons _ _=>rfl
 unfold dm;rw[waA,m,hw,part _ w x (Int.le_of_eq c1.symm),part _ (h-w) (by lia) B];have E:eA (d:Int) lns.length=true:=by unfold eA;rw[decide_eq_true (by lia),decide_eq_true (by lia)];rfl
 have G:(ns.map λn:Nat=>(n:Int)).all (λi=>eA i g.length)=true:=waR.mpr λi hi=>by
  obtain⟨n,hn,rfl⟩:=waa.mp hi;have:=t n hn;unfold eA;rw[decide_eq_true (by lia),decide_eq_true (by lia)];rfl
 rw[E,G];rfl
noncomputable def nI(ds:List Nat):List Int:=ds.map λn:Nat=>(n:Int)
theorem N8{g:List Nat}{e:Nat}:(e:Int)∈nI g↔e∈g:=by grind [nI]
theorem HQ(e:Nat)(g:List Nat):nY (.int (e:Int)) ((nI g).map V.int)=decide (e∈g):=by
 rw[uh];exact decide_eq_decide.mpr N8
theorem cy(g:List Nat):(nI g).length=g.length:=wa0 _
theorem CK{g:List Nat}{i n:Nat}(h:g[i]?=some n):((nI g).map V.int)[i]?=some (.int (n:Int)):=by
 unfold nI;rw[wa4,wa4,h];rfl
theorem HR:∀{a b:List Nat},nI a=nI b->a=b
 |[],[],_=>rfl
 |[],_::_,h=>nomatch h
 |_::_,[],h=>nomatch h
 |x::a,y::b,h=>by
  unfold nI at h;rw[wao,wao]at h;injection h with d c
  rw[HR (a:=a) (b:=b) c,show x=y by lia]
theorem qc(a b:List Nat):nI (a++b)=nI a++nI b:=wal
structure Reach(lns:List (List (Str×Nat)))(rs:List Nat):Prop where
 cl:∀d∈rs,∀q∈lns.getD d [],q.2∈rs
 lt:∀d∈rs,d<lns.length
 ne:rs≠[]
 nd:rs.Nodup
noncomputable def cF(Lh:List Str)(f:Str->Int):Str->Int:=λp=>if p∈Lh then f p else 0
theorem ux{α:Type}{f g:α->Int}:∀l:List α,(∀x∈l,f x<=g x)->(l.map f).sum<=(l.map g).sum
 |[],_=>weL _
 |x::l,h=>by
  have:=h x (wad ..);have:=ux l λy a=>h y (wac _ a);rw[wao,wao,waZ,waZ]
  lia
theorem uz{α:Type}{f:α->Int}{x:α}:∀l:List α,(∀x∈l,0<=f x)->x∈l->0<f x->0<(l.map f).sum
 |y::l,h,a,c=>by
  have h0:=h y (wad ..);have hn:=tZ λz b=>h z (wac _ b);rw[wao,waZ];rcases waD.mp a with e |a
  ·rw[<-e];lia
  ·have:=uz l (λz b=>h z (wac _ b)) a c
   lia
theorem uA{ls g:List Str}{f:Str->Int}(h:∀p∈ls,0<=f p):∀p∈ls,0<=cF g f p:=λp a=>by
 unfold cF;split
 ·exact h p a
 ·grind
theorem Aa{ls g:List Str}{f:Str->Int}(h:∀p∈ls,0<=f p):∀p∈ls,cF g f p<=f p:=λp a=>by
 unfold cF;split
 ·grind
 ·exact h p a
theorem Fg{ls g:List Str}{f:Str->Int}(h:∀p∈ls,0<=f p):(ls.map (cF g f)).sum<=(ls.map f).sum:=ux ls (Aa h)
theorem Fh{ls:List Str}{f:Str->Int}{g:List Nat}(h:∀p∈ls,0<=f p)(hl:∀d∈g,d<(ak ls f).length)(j:g≠[]):0<(ls.map (cF (g.map λd=>(ak ls f).getD d "") f)).sum:=by
 cases g with
 |nil=>exact absurd rfl j
 |cons d g=>
  have hd:=hl d (wad ..)
  have a:(ak ls f).getD d ""∈ak ls f:=by
   grind
  obtain⟨b,c⟩:=wau.mp a;refine uz ls (uA h) b ?_;unfold cF;rw[if_pos (waa.mpr ⟨d,wad ..,rfl⟩)];exact of_decide_eq_true c
theorem Fi{g:Str}{ws ss ls:List Str}{n:Nat}{many:Int}{f:Str->Int}{j:List Nat}(hn:∀p∈ls,0<=f p)(r:FV g ws ss ls many n f)(R:Reach (bc g ws ss ls n (ak ls f)) j) :
 FV g ws ss ls many n (cF (j.map λd=>(ak ls f).getD d "") f):=by
 intro p m
 by_cases h:p∈j.map λd=>(ak ls f).getD d ""
 ·obtain⟨d,hd,rfl⟩:=waa.mp h;have b:=R.lt d hd;have c:d<(ak ls f).length:=by unfold bc at b;rwa[wa0]at b
  have k:(bc g ws ss ls n (ak ls f)).getD d []=fR g ws ss ls n (ak ls f) ((ak ls f).getD d ""):=by
   unfold bc;rw[wa3,wa4,wa1 c,wa3,wa1 c];rfl
  have e:gY g ws ss ls n (cF (j.map λd=>(ak ls f).getD d "") f) ((ak ls f).getD d "")=gY g ws ss ls n f ((ak ls f).getD d ""):=by
   unfold gY;refine congrArg List.sum (waY λq i=>?_);unfold cF
   by_cases a:q.2∈j.map λd=>(ak ls f).getD d ""
   ·rw[if_pos a]
   ·rw[if_neg a]
    by_cases h0:0<f q.2
    ·exfalso;have l:q.2∈ak ls f:=wau.mpr ⟨cX i,decide_eq_true h0⟩
     have o:(q.1,(ak ls f).idxOf q.2)∈(bc g ws ss ls n (ak ls f)).getD d []:=by
      rw[k];unfold fR;exact waa.mpr ⟨q,wau.mpr ⟨i,decide_eq_true l⟩,rfl⟩
     have:=R.cl d hd _ o;refine a (waa.mpr ⟨_,this,?_⟩);show (ak ls f).getD ((ak ls f).idxOf q.2) ""=q.2;rw[wa3,(q9 l).1];rfl
    ·have:=hn _ (cX i)
     lia
  rw[e];unfold cF;rw[if_pos h];exact r _ m
 ·have e:cF (j.map λd=>(ak ls f).getD d "") f p=0:=by unfold cF;rw[if_neg h]
  rw[e,Int.mul_zero];unfold gY;exact tZ λq i=>uA hn _ (cX i)
end Bs
namespace Sx
open PySem L2 Bs
inductive N9(K:wa2)(vs:List V)(H:Hp)(Q:VK)(dQ:XK):Prop
 |mk (v a ds qs) (_:vs=[v,.ref a]) (_:bA K H (bR qs) v) (_:aE K H a ((nI ds).map V.int)) (_:qs.length<=10000) (_:∀y H',a7 H H'->bA K (aF H H') (bR (cx ds qs)) y->Q y H')
inductive Nb(K:wa2)(C:Addr)(vs:List V)(H:Hp)(Q:VK)(dQ:XK):Prop
 |mk (x many hs ws lns) (_:vs=[.ref x,.int many]) (_:bN K C H x hs ws lns) (_:lns.length<=1000) (_:(∀l∈lns,l.length<=10000)) (_:∀(l:Addr) (ks:List Nat) (H':Hp),a7 H H'->H l=none->H' l=some (.lst ((nI ks).map V.int))->nD lns many ks->Q (.ref l) H')
inductive Fj(K:wa2)(C:Addr)(vs:List V)(H:Hp)(Q:VK)(dQ:XK):Prop
 |mk (x:Addr) (d:Nat) (hs:List Str) (ws:List Int) (lns:List (List (Str×Nat))) (_:vs=[.ref x,.int (d:Int)]) (_:bN K C H x hs ws lns) (_:d<lns.length) (_:(∀l∈lns,∀q∈l,q.2<lns.length)) (_:lns.getD d []≠[]) (_:lns.length<=1000) (_:∀(l:Addr) (rs:List Nat) (H':Hp),a7 H H'->H l=none->H' l=some (.lst ((nI rs).map V.int))->Reach lns rs->Q (.ref l) H')
structure Down(ws:List Int)(lns:List (List (Str×Nat)))(h:Int)(d i:Nat)(qs:List (Str×Nat))(q:Str×Nat):Prop where
 m:h∈ws
 t:∀w∈ws,w<=h
 l:lns[d]?=some qs
 s:qs[i]?=some q
 e:ws.getD d 0=h
 lt:ws.getD q.2 0<h
inductive Nc(K:wa2)(C:Addr)(vs:List V)(H:Hp)(Q:VK)(dQ:XK):Prop
 |mk (x hs ws lns) (_:vs=[.ref x]) (_:bN K C H x hs ws lns) (_:ws.length=lns.length) (_:(∀l∈lns,∀q∈l,q.2<ws.length)) (_:ws≠[]) (_:(∀h∈ws,(∀w∈ws,w<=h)->∃d i qs q,Down ws lns h d i qs q)) (_:∀(t:Addr) (h:Int) (d i:Nat) (qs:List (Str×Nat)) (q:Str×Nat) (H':Hp),a7 H H'->H' t=some (.tup [.int (d:Int),.int (i:Int)])->Down ws lns h d i qs q->Q (.ref t) H')
inductive Qh(K:wa2)(vs:List V)(H:Hp)(Q:VK)(dQ:XK):Prop
 |mk (a b:Addr) (many:Int) (wl:List Int) (nums:List Nat) (_:vs=[.ref a,.ref b,.int many]) (_:aE K H a (wl.map V.int)) (_:aE K H b ((nI nums).map V.int)) (_:1<=many) (_:many<=1000) (_:(nums.length:Int)=many) (_:(∀n∈nums,n<wl.length)) (_:∀(l:Addr) (i j:Nat) (H':Hp),a7 H H'->H l=none->i<j->j<=nums.length->(((nums.take j).drop i).map λn=>wl.getD n 0).sum%many=0->H' l=some (.lst ((nI ((nums.take j).drop i)).map V.int))->Q (.ref l) H')
inductive Nf(K:wa2)(C:Addr)(vs:List V)(H:Hp)(Q:VK)(dQ:XK):Prop
 |mk (x many hs ws lns) (_:vs=[.ref x,.int many]) (_:bN K C H x hs ws lns) (_:iR many hs ws lns) (_:nD lns many []) (_:hs≠[]) (_:hs.length<=1000) (_:(∀l∈lns,l.length<=10000)) (_:1<=many) (_:many<=1000) (_:∀(t l:Addr) (d:Nat) (ns:List Nat) (w:Int) (H':Hp),a7 H H'->H l=none->H t=none->H' t=some (.tup [.int (d:Int),.ref l,.int w])->H' l=some (.lst ((nI ns).map V.int))->dm ws lns many (d:Int) (nI ns) w=true->d<hs.length->ns.length<=1000->Q (.ref t) H')
end Sx
namespace Bs
open PySem L2 Sx
theorem xu:∀(a b:List Int),tF (a.map V.int) (b.map V.int)=decide (a=b)
 |[],[]=>rfl
 |[],_::_=>rfl
 |_::_,[]=>rfl
 |x::a,y::b=>by
  have d:=xu a b;show (qI (.int x) (.int y)&&tF (a.map V.int) (b.map V.int))=_;rw[d]
  by_cases h:x=y
  ·subst h
   by_cases c:a=b
   ·subst c;have:qI (.int x) (.int x)=true:=by simp[qI]
    rw[this,decide_eq_true rfl,decide_eq_true rfl];rfl
   ·rw[decide_eq_false c,wdV,decide_eq_false λz=>c (we7 z).2]
  ·have:qI (.int x) (.int y)=false:=by simp[qI,h]
   rw[this,wdh,decide_eq_false λz=>h (we7 z).1]
theorem qe(a b:List Nat):tF ((nI a).map V.int) ((nI b).map V.int)=decide (a=b):=by
 rw[xu];exact decide_eq_decide.mpr ⟨HR,λe=>by rw[e]⟩
theorem xx{p:V->Bool}{f:Nat->Bool}(h:∀n:Nat,p (.int (n:Int))=f n):∀g:List Nat,((nI g).map V.int).filter p=(nI (g.filter f)).map V.int:=by intro n;induction n<;>grind [nI,waX,wbf]
theorem uB(h:x∈(nI g).map V.int):∃n∈g,x=.int (n:Int):=by grind [nI]
theorem Ab(n:Nat):((waI n).map λi=>V.int (i:Nat))=(nI (waI n)).map V.int:=by
 unfold nI;rw[waf];rfl
noncomputable def dB(rs:List Nat):List (Key×V):=rs.map λn:Nat=>((wbb (n:Int):Key),V.bl true)
theorem CL(e:Nat):∀g:List Nat,cQ (dB g) (wbb (e:Int):Key)=if e∈g then some (.bl true) else none
 |[]=>rfl
 |r::g=>by
  have a:=CL e g
  by_cases h:r=e
  ·subst h;rw[if_pos (wad ..)];exact eX (p:=((wbb (r:Int):Key),V.bl true)) (r:=dB g) rfl
  ·have hn:¬(wbb (r:Int):Key)=wbb (e:Int):=λz=>h (by grind);rw[show dB (r::g)=((wbb (r:Int):Key),V.bl true)::dB g from rfl,eY hn,a]
   by_cases b:e∈g
   ·grind
   ·grind
theorem Ng{e:Nat}{g:List Nat}(h:e∉g):putK (dB g) (wbb (e:Int):Key) (.bl true)=dB (g++[e]):=by
 rw[eZ _ (by rw[CL,if_neg h])];unfold dB;rw[wal];rfl
theorem Kt(g:List Nat):((dB g).map λj=>kV j.1)=(nI g).map V.int:=by
 unfold dB nI;rw[waf,waf];rfl
theorem lA{n:Nat}{g:List Nat}(nd:g.Nodup)(h:∀r∈g,r<n):g.length<=n:=by
 have:=tR nd λr a=>wb3.mpr (h r a);rwa[waO]at this
theorem Ku(h:g≠[]):∃(z:Nat) (ys:List Nat),g=ys++[z]/\((nI g).map V.int)[((nI g).map V.int).length-1]?=some (.int (z:Int))/\((nI g).map V.int).dropLast=(nI ys).map V.int:=by
 refine⟨g.getLast h,g.dropLast,(wdi h).symm,?_,?_⟩
 ·have e:nI g=nI g.dropLast++[((g.getLast h:Nat):Int)]:=by
   conv=>lhs;rw[<-wdi h]
   exact qc _ _
  rw[e,wal,wa7];show (_++[V.int _])[_+1-1]?=_;rw[Nat.add_sub_cancel,waq (wab _),wbn];rfl
 ·unfold nI;rw[<-wgZ,<-wgZ]
noncomputable def jQ(wl:List Int)(nums:List Nat)(j:Nat):Int:=((nums.take j).map λn=>wl.getD n 0).sum
theorem Fl{wl:List Int}{g:List Nat}{j n:Nat}(h:g[j]?=some n):jQ wl g (j+1)=jQ wl g j+wl.getD n 0:=by
 unfold jQ;rw[waS,h,wal,whs];show _+(wl.getD n 0+0)=_
 lia
theorem HS(wl:List Int)(g:List Nat)(h:i<=j):(((g.take j).drop i).map λn=>wl.getD n 0).sum=jQ wl g j-jQ wl g i:=by grind [jQ,wcu,wfL]
theorem HU{wl:List Int}{g:List Nat}{i j:Nat}{many:Int}(h:i<=j)(e:jQ wl g i%many=jQ wl g j%many):(((g.take j).drop i).map λn=>wl.getD n 0).sum%many=0:=by
 rw[HS wl g h];exact Int.emod_eq_emod_iff_emod_sub_eq_zero.mp e.symm
noncomputable def dR(many:Int)(p:Nat->Int)(n:Nat):List (Key×V):=(waI n).map λi:Nat=>((wbb (p i%many):Key),V.int (i:Int))
theorem Fm{κ:Type}[DecidableEq κ]{k:κ}{v:V}:∀{kvs:List (κ×V)},cQ kvs k=some v->(k,v)∈kvs:=by intro kvs;induction kvs<;>grind [Gs,eX,wad,eY,wac]
theorem HV(many:Int)(p:Nat->Int)(n:Nat)(r:Int):(cQ (dR many p n) (wbb r:Key)=none/\∀i,i<n->p i%many≠r)\/∃i,i<n/\p i%many=r/\cQ (dR many p n) (wbb r:Key)=some (.int (i:Int)):=by
 cases h:cQ (dR many p n) (wbb r:Key) with
 |none=>
  refine .inl ⟨rfl,λi hi e=>?_⟩;refine Gy h (waa.mpr ⟨((wbb (p i%many):Key),V.int (i:Int)),waa.mpr ⟨i,wb3.mpr hi,rfl⟩,?_⟩);show (wbb (p i%many):Key)=_;rw[e]
 |some v=>
  obtain⟨i,hi,e⟩:=waa.mp (Fm h);have a:p i%many=r:=Sum.inl.inj (wcI e).1;have b:V.int (i:Int)=v:=(wcI e).2;exact .inr ⟨i,wb3.mp hi,a,by rw[b]⟩
theorem Nh{p:Nat->Int}(h:cQ (dR many p n) (wbb (p n%many):Key)=none):putK (dR many p n) (wbb (p n%many):Key) (.int (n:Int))=dR many p (n+1):=by
 rw[eZ _ h];unfold dR;rw[wdx,wal];rfl
theorem Ni(many:Int)(p:Nat->Int)(n:Nat):(dR many p n).length=n:=by unfold dR;rw[wa0,waO]
theorem nodup_map_on{α β:Type}{f:α->β}:∀{l:List α},l.Nodup->(∀a∈l,∀b∈l,f a=f b->a=b)->(l.map f).Nodup:=by intro l;induction l<;>grind [wdf,wac,wad]
theorem CM{many:Int}{p:Nat->Int}{n:Nat}(h0:0<many)(hn:(n:Int)=many)(hd:∀i k,i<k->k<=n->p i%many≠p k%many):False:=by
 have nd:((waI (n+1)).map λi=>(p i%many).toNat).Nodup:=nodup_map_on wft λa ha b c e=>by
  have ha:=wb3.mp ha;have c:=wb3.mp c;have a0:=wbl (p a) (show many≠0 by lia);have f:=wbl (p b) (show many≠0 by lia);have g:p a%many=p b%many:=by grind
  rcases wde a b with h |h |h
  ·grind
  ·exact h
  ·grind
 have:=lA (n:=n) nd λr d=>by
  obtain⟨i,_,rfl⟩:=waa.mp d;have a0:=wbl (p i) (show many≠0 by lia);have a1:=wbi (p i) h0;show (p i%many).toNat<n
  lia
 rw[wa0,waO]at this
 lia
theorem HW(xs:List Int)(g:i<=j)(l:j<=xs.length):j9 (xs.map V.int) (some (i:Int)) (some (j:Int))=((xs.take j).drop i).map V.int:=by grind [j9,HT.Jv,wa0,wfL,we5,wcW,whx]
theorem sM(ns:List Nat)(j:Nat):(nI ns).take j=nI (ns.take j):=by unfold nI;rw[wcW]
theorem Kv(ns:List Nat)(j:Nat):(nI ns).drop j=nI (ns.drop j):=by unfold nI;rw[we5]
noncomputable def restOf(m i0:Nat):List Nat:=(waI m).filter λn=>decide (n≠i0)
noncomputable def numsOf(m i0 k:Nat):List Nat:=i0::(restOf m i0).take k
theorem Ac:∀{m:Nat},i0<m->(restOf m i0).length=m-1
 |m+1,h=>by
  unfold restOf;rw[wdx,wbG,wa7]
  by_cases e:i0=m
  ·subst e;have b:(waI i0).filter (λn=>decide (n≠i0))=waI i0:=wb6.mpr λn hn=>decide_eq_true (by grind);rw[b,wbf (by simp),waO];rfl
  ·have a:=Ac (i0:=i0) (m:=m) (by lia);unfold restOf at a;rw[a,waX (by grind)];show m-1+1=_
   lia
theorem CQ(m i0 k:Nat):(numsOf m i0 k).Nodup:=by
 unfold numsOf;refine wbF.mpr ⟨λh=>?_,(wft.filter _).sublist (wbg _ _)⟩;have:=of_decide_eq_true (wau.mp ((wbg _ _).subset h)).2;exact this rfl
theorem yz(h:i0<m):∀n∈numsOf m i0 k,n<m:=λn hn=>by
 rcases waD.mp hn with rfl |hn
 ·exact h
 ·exact wb3.mp (wau.mp ((wbg _ _).subset hn)).1
theorem Ad(h:i0<m)(hk:k+1<=m):(numsOf m i0 k).length=k+1:=by
 grind [numsOf,waF,Ac]
theorem xA(S:iR many hs ws lns)(D:Down ws lns h d i g q):many<=(g.length:Int):=by
 have a:g∈lns:=wa8 D.l;have c:=S.b d g D.l;have f:=nE (ws:=ws) (h:=h) g λp j=>D.t _ (getD_mem (by rw[S.w];exact S.e g a p j));rw[D.e]at c;have k:1<=h:=S.p h D.m;exact weW (wdR c f) (by lia)
theorem Nj(ws:List Int){g:List (Str×Nat)}{n:Nat}(h:n<g.length):(g.map λq=>ws.getD q.2 0).getD n 0=ws.getD (g.getD n ("",0)).2 0:=by
 rw[wa3,wa4,wa1 h,wa3 (l:=g),wa1 h];rfl
theorem Kw{many h:Int}{hs:List Str}{ws:List Int}{lns:List (List (Str×Nat))}(S:iR many hs ws lns)(m1:1<=many){d i0:Nat}{g:List (Str×Nat)}{q:Str×Nat}(D:Down ws lns h d i0 g q){i j:Nat}(p:i<j)(C:j<=(numsOf g.length i0 (many-1).toNat).length)
 (r:((((numsOf g.length i0 (many-1).toNat).take j).drop i).map λn=>(g.map λq=>ws.getD q.2 0).getD n 0).sum%many=0) :
 dm ws lns many (d:Int) (nI (((numsOf g.length i0 (many-1).toNat).take j).drop i)) (((((numsOf g.length i0 (many-1).toNat).take j).drop i).map λn=>(g.map λq=>ws.getD q.2 0).getD n 0).sum/many)=true:=by
 have b:i0<g.length:=(wa5.mp D.s).1;have hl:=xA S D;have u:=Ad (k:=(many-1).toNat) b (by lia);have c:=CQ g.length i0 (many-1).toNat;have f:=yz (k:=(many-1).toNat) b;have m:i0∈numsOf g.length i0 (many-1).toNat:=wad ..;generalize numsOf g.length i0 (many-1).toNat=a at *;have sub:((a.take j).drop i).Sublist a:=(wh0 _ _).trans (wbg _ _);have len:((a.take j).drop i).length=j-i:=by rw[wbm,wak];lia
 have o:∀n∈(a.take j).drop i,n<g.length:=λn hn=>f n (sub.subset hn);have e:((a.take j).drop i).map (λn=>(g.map λq=>ws.getD q.2 0).getD n 0)=((a.take j).drop i).map λn=>ws.getD (g.getD n ("",0)).2 0:=waY λn hn=>Nj ws (o n hn);rw[e]at r ⊢;have v:g.getD i0 ("",0)=q:=by rw[wa3,D.s];rfl
 refine Ff S (i0:=i0) D.t D.l D.e m1 (c.sublist sub) o (λz=>?_) ?_ (λz=>?_) (by rw[v];exact D.lt) ?_
 ·rw[z]at len;have:(0:Nat)=j-i:=len
  lia
 ·rw[len];lia
 ·have w:(a.take j).drop i=a:=sub.eq_of_length (by grind);rw[w];exact m
 ·have:=wgd ((((a.take j).drop i).map λn=>ws.getD (g.getD n ("",0)).2 0).sum) many
  lia
end Bs
namespace L2
open PySem
theorem Kx{X:Cx}(g:X.K=K):O0 X (P4 K):=by
 subst g;exact gF
end L2
namespace Bs
open PySem L2 Sx
structure sN(g:Str)(ws ss ls:List Str)(many:Int)(n:Nat)(f:Str->Int):Prop where
 gr:∃most:Int,1<=most/\most<=8/\mI g ws ss ls many n most f/\∀(m:Int) (h:Str->Int),1<=m->m<most->mI g ws ss ls many n m h->(ls.map h).sum=0
 ps:0<(ls.map f).sum
 le:(ls.map f).sum<=40
def yA(g:Str)(ws ss ls:List Str)(many:Int)(n:Nat):Prop:=∃most:Int,1<=most/\most<=9/\(∀(m:Int) (h:Str->Int),1<=m->m<most->mI g ws ss ls many n m h->(ls.map h).sum=0)/\(most=9\/∃f,mI g ws ss ls many n most f/\40<(ls.map f).sum)
theorem Fn{f h:Str->Int}(a:mI g ws ss ls many n most f)(b:mI g ws ss ls many n most h):∀p∈ls,f p=h p:=λp c=>by
 have d:=a.top h b.le b.fit p c;have e:=b.top f a.le a.fit p c
 lia
theorem Fo{f h:Str->Int}(a:mI g ws ss ls many n most f)(b:mI g ws ss ls many n most h):(ls.map f).sum=(ls.map h).sum:=congrArg List.sum (waY λp c=>Fn a b p c)
theorem CT(f:Str->Int)(ls:List Str):(bp (bX f ls)).map (·.2)=(ls.map f).map V.int:=by simp_all [bp,bX,waf]
theorem Ky{R:Addr->Prop}:(∀y∈ys,∃q,y=.ref q/\R q)->∃ps:List Addr,ys=ps.map V.ref/\∀q∈ps,R q:=by
 induction ys with
 |nil=>exact λ_=>⟨[],rfl,λq h=>nomatch h⟩
 |cons y ys a=>
  intro h;obtain⟨q,rfl,c⟩:=h y (wad ..);obtain⟨ps,rfl,d⟩:=a λz b=>h z (wac _ b)
  exact⟨q::ps,rfl,λr e=>by
   grind⟩
end Bs
namespace Sx
open PySem L2 Bs
inductive HX(C CO:Addr)(vs:List V)(H:Hp)(Q:VK)(E:XK):Prop
 |mk (x:Addr) (many:Int) (n:Nat) (g:Str) (ws ss ls:List Str) (_:vs=[.ref x,.int many,.int (n:Int)]) (_:aS C H x g ws ss ls) (_:2<=g.length) (_:g.length<=10) (_:ss.length<=900) (_:fO g.length many n) (_:(∀(d:Addr) (f:Str->Int) (H':Hp),a7 H H'->H d=none->H' d=some (.dK (bp (bX f ls)))->sN g ws ss ls many n f->Q (.ref d) H')) (_:(yA g ws ss ls many n->∀H',a7 H H'->E (.ref CO) none H'))
inductive HY(C:Addr)(vs:List V)(H:Hp)(Q:VK)(dQ:XK):Prop
 |mk (x d:Addr) (many:Int) (n:Nat) (f:Str->Int) (g:Str) (ws ss ls:List Str) (_:vs=[.ref x,.int many,.int (n:Int),.ref d]) (_:aS C H x g ws ss ls) (_:(∀w∈ws,1<=w.length)) (_:(ch g).Nodup) (_:2<=g.length) (_:g.length<=10) (_:ss.length<=900) (_:fO g.length many n) (_:H d=some (.dK (bp (bX f ls)))) (_:(∀p∈ls,0<=f p)) (_:FV g ws ss ls many n f) (_:0<(ls.map f).sum) (_:∀(dl:Addr) (f':Str->Int) (H':Hp),(∀c o,H c=some o->c≠d->H' c=some o)->H dl=none->H' dl=some (.dK (bp (bX f' ls)))->(∀p∈ls,0<=f' p)->FV g ws ss ls many n f'->0<(ls.map f').sum->(∀p∈ls,f' p<=f p)->(ls.map f').sum<=(ls.map f).sum->Q (.ref dl) H')
end Sx
namespace L2
open PySem Sx Bs
theorem Fp{Ok:Hp->Prop}{Q:Hp->Prop}(R:Nat->V->Hp->Prop)(I:∀i y T g ys,R i y T->T l=some (.lst ys)->(∀b o,T b=some o->b≠l->g b=some o)->R i y g)(U:mD J Ok xs)(hl:H l=none)(hz:xs.length<=sizeLine)(t:∀r,a7 H r->Ok r)
 (he:∀i x C ys,xs[i]?=some x->a7 H C->C l=some (.lst ys)->∃p a b c,x=.ref p/\hZ K C p [a,b,c]/\∀Q',(∀y r,a7 C r->R i y r->Q' y r)->te (some a::some b::some c::σf) C Q')
 (hd:∀ys r,a7 H r->r l=some (.lst ys)->ys.length=xs.length->(∀i y,ys[i]?=some y->R i y r)->Q r):uq K J l σf vJ te H Q:=by
 refine⟨λi m d g=>m=xs.length-i/\i<=xs.length/\a7 H g/\g l=some (.lst d)/\d.length=i/\∀j y,d[j]?=some y->R j y g,⟨xs.length,by simp,waJ _,a7.upd hl,a6,rfl,λj y h=>by simp at h⟩,?_⟩;rintro i m d g ⟨rfl,hi,n,q,f,E⟩;refine⟨q,?_⟩
 by_cases k:i<xs.length
 ·refine .inr ⟨U.go i g (t _ n) k,by rw[f];lia,λx C y=>?_⟩;obtain⟨e,G⟩:=U.sX i g x C (t _ n) k y;subst e;obtain⟨p,a,b,c,rfl,L,M⟩:=he i x _ d G n q;refine⟨p,a,b,c,rfl,L,?_⟩;unfold vJ;dsimp only;rw[if_pos rfl];refine M _ λy v w A=>⟨w _ _ q,xs.length-(i+1),by lia,rfl,k,λb o e=>?_,a6,by rw[wa7,f];rfl,λj z s=>?_⟩
  ·rw[ae (af e hl)];exact w _ _ (n _ _ e)
  ·have u:=w _ _ q;have kp:∀b o,v b=some o->b≠l->(upd v l (.lst (d++[y]))) b=some o:=λb o e N=>by rw[ae N];exact e
   by_cases B:j<d.length
   ·rw[waB B]at s;exact I j z v _ _ (I j z _ _ _ (E j z s) q λb o e _=>w _ _ e) u kp
   ·rw[waq (by lia)]at s
    have D:j-d.length=0:=by
     have:=(wa5.mp s).1;simp at this
     lia
    rw[D]at s;cases s;have:j=i:=by lia
    rw[this];exact I i y v _ _ A u kp
 ·have e:i=xs.length:=by lia
  subst e;exact .inl ⟨U.stop g (t _ n),hd d g n q f E⟩
theorem HZ{Ok:Hp->Prop}{Q:Hp->Prop}(t:List jM)(hJ:mD J Ok xs)(hl:H l=none)(hz:xs.length<=sizeLine)(C:t.length=xs.length)(T:∀g,a7 H g->Ok g)
 (he:∀(i:Nat) (x:V) (d:jM) j,xs[i]?=some x->t[i]?=some d->a7 H j->∃p a b c,x=.ref p/\hZ K j p [a,b,c]/\∀I,(∀y g,a7 j g->bA K (aF j g) d y->I y g)->te (some a::some b::some c::U) j I)
 (hd:∀g,a7 H g->bA K (aF H g) (.lst t) (.ref l)->Q g):uq K J l U vJ te H Q:=by
 refine Fp (λi y g=>∀d,t[i]?=some d->∃j o,a7 H j/\j l=some o/\bA K (aF j g) d y) ?_ hJ hl hz T (λi x j n s h k=>?_) (λn g q u m v=>?_)
 ·intro i y E G n r w kp d f;obtain⟨j,o,h,k,r⟩:=r d f;exact⟨j,o,h,k,bA.same (bC k kp) d y r⟩
 ·have hi:i<t.length:=by rw[C];exact(wa5.mp s).1
  obtain⟨p,a,b,c,e,z,A⟩:=he i x t[i] j s (wa1 hi) h;refine⟨p,a,b,c,e,z,λI B=>A I λy g q r=>B y g q λd f=>?_⟩;rw[wa1 hi]at f;cases f;exact⟨j,_,h,k,r⟩
 ·refine hd g q ⟨l,n,rfl,.inl (bK hl u),b9.q8 t n (by rw[C,m]) λi d y f D=>?_⟩;obtain⟨j,o,h,k,r⟩:=v i y D d f;exact bA.same (dM h) d y r
end L2
namespace Bs
open PySem L2 Sx
noncomputable abbrev xB:=Nat×List Nat×Int
noncomputable def yB(s:xB):jM:=.tup [.at (.int (s.1:Int)),mJ (nI s.2.1),.at (.int s.2.2)]
set_option genInjectivity true in
inductive Runs(many:Int)(RA:List Str)(RB:List Int)(Kz:List (List (Str×Nat))):List xB->List Str->List Int->List (List (Str×Nat))->Prop
 |nil:Runs many RA RB Kz [] RA RB Kz
 |snoc {l:List xB} {hs:List Str} {ws:List Int} {lns:List (List (Str×Nat))} {d:Nat} {ns:List Nat} {w:Int}:Runs many RA RB Kz l hs ws lns->dm ws lns many (d:Int) (nI ns) w=true->Runs many RA RB Kz (l++[(d,ns,w)]) (cw hs d) (bV ws d w) (cY lns d (nI ns))
noncomputable def qZ(a:Addr):List (Str×V):=[("weights",.ref a)]
noncomputable def ou(a b:Addr):List (Str×V):=[("weights",.ref a),("splits",.ref b)]
noncomputable def rg(a b c:Addr):List (Str×V):=[("weights",.ref a),("splits",.ref b),("kept",.ref c)]
noncomputable def uC(a b c d:Addr):List (Str×V):=[("weights",.ref a),("splits",.ref b),("kept",.ref c),("last",.ref d)]
theorem Qi(a:Addr):cz "weights" (.ref a) []=qZ a:=rfl
theorem LC(a b:Addr):cz "splits" (.ref b) (qZ a)=ou a b:=by
 show (if ("weights":Str)="splits" then _ else(("weights":Str),V.ref a)::cz "splits" (.ref b) [])=_;rw[if_neg (by decide+kernel)];rfl
theorem Ia(a b c:Addr):cz "kept" (.ref c) (ou a b)=rg a b c:=by
 show (if ("weights":Str)="kept" then _ else(("weights":Str),V.ref a)::(if ("splits":Str)="kept" then _ else(("splits":Str),V.ref b)::cz "kept" (.ref c) []))=_;rw[if_neg (by decide+kernel),if_neg (by decide+kernel)];rfl
theorem DW(a b c d:Addr):cz "last" (.ref d) (rg a b c)=uC a b c d:=by
 show (if ("weights":Str)="last" then _ else(("weights":Str),V.ref a)::(if ("splits":Str)="last" then _ else(("splits":Str),V.ref b)::(if ("kept":Str)="last" then _ else(("kept":Str),V.ref c)::cz "last" (.ref d) [])))=_;rw[if_neg (by decide+kernel),if_neg (by decide+kernel),if_neg (by decide+kernel)];rfl
theorem CU(a b c d:Addr):(uC a b c d).lookup ("last":Str)=some (.ref d):=by
 rw[<-DW,aC,if_pos rfl]
theorem CV(a b c d:Addr):(uC a b c d).lookup ("kept":Str)=some (.ref c):=by
 rw[<-DW,aC,if_neg (by decide+kernel),<-Ia,aC,if_pos rfl]
theorem yC(a b c d:Addr):(uC a b c d).lookup ("splits":Str)=some (.ref b):=by
 rw[<-DW,aC,if_neg (by decide+kernel),<-Ia,aC,if_neg (by decide+kernel),<-LC,aC,if_pos rfl]
structure nG(K:wa2)(C CS:Addr)(H:Hp)(x:Addr)(m:List (Str×Int))(pH:List xB)(ks:List Nat)(hs:List Str)(ws:List Int)(lns:List (List (Str×Nat))):Prop where
 ex:∃dx a b c d,H x=some (.ins C dx (uC a b c d))/\H a=some (.dK (bp m))/\bA K H (.lst (pH.map yB)) (.ref b)/\bA K H (mJ (nI ks)) (.ref c)/\bN K CS H d hs ws lns
theorem nG.same(h:nG K C j H x m g l hs ws lns)(s:a7 H p):nG K C j p x m g l hs ws lns:=by
 obtain⟨e,a,b,c,d,f,i,k,n,o⟩:=h;exact⟨e,a,b,c,d,s _ _ f,s _ _ i,bA.same s _ _ k,bA.same s _ _ n,o.same s⟩
theorem ow(s:a7 H g):a7 (fb H b) (fb g b):=λc o e=>by
 unfold fb at e ⊢
 by_cases h:c=b
 ·rw[if_pos h]at e;cases e
 ·rw[if_neg h]at e ⊢;exact s _ _ e
theorem KA:fb (upd H b o) b=fb H b:=by
 funext c;unfold fb
 by_cases h:c=b
 ·rw[if_pos h,if_pos h]
 ·rw[if_neg h,if_neg h,ae h]
theorem uD:a7 (fb H b) H:=gj λ_ _ e _=>e
theorem DX(h:H b=some o):a7 (aF H g) (fb g b):=by grind [a7,fb,cj,fQ,aF]
theorem Ib(s:a7 H g)(h:H b=none):a7 H (fb g b):=λc o e=>fQ (s _ _ e) (af e h)
theorem DY(g:H t=some (.tup [.int (d:Int),.ref l,.int w]))(j:H l=some (.lst ((nI ns).map V.int))):bA K H (yB (d,ns,w)) (.ref t):=
 ⟨t,_,rfl,g,_,_,rfl,⟨rfl,rfl⟩,_,_,rfl,jh j,_,_,rfl,⟨rfl,rfl⟩,rfl⟩
structure fT(g:Str)(bw ss ls:List Str)(many:Int)(n:Nat)(f:Str->Int)(pH:List xB)(ks:List Nat)(hs:List Str)(ws:List Int)(lns:List (List (Str×Nat))):Prop where
 nn:∀p∈ls,0<=f p
 le:∀p∈ls,f p<=8
 fit:FV g bw ss ls many n f
 ps:0<(ls.map f).sum
 m:(ls.map f).sum<=40
 rn:Runs many (ak ls f) ((ak ls f).map f) (bc g bw ss ls n (ak ls f)) pH hs ws lns
 b:iR many hs ws lns
 cv:vT (aQ g bw ss ls n) hs lns
 ln:hs.length<=40
 ko:nD lns many ks
 ne:ks≠[]
 sl:pH.length<=40
 sb:∀p∈hs,p∈ls
end Bs
namespace Sx
open PySem L2 Bs
inductive Ic(K:wa2)(C:Addr)(vs:List V)(H:Hp)(Q:VK)(dQ:XK):Prop
 |mk (x hs ws lns) (_:vs=[.ref x]) (_:bN K C H x hs ws lns) (_:hs.length<=10000) (_:ws.length<=10000) (_:lns.length<=10000) (_:(∀l∈lns,l.length<=10000)) (_:∀y H',a7 H H'->bN K C (aF H H') y hs ws lns->Q (.ref y) H')
inductive KB(K:wa2)(C CS:Addr)(vs:List V)(H:Hp)(Q:VK)(dQ:XK):Prop
 |mk (x dx d z:Addr) (u v:V) (m:List (Str×Int)) (pH:List xB) (ks:List Nat) (hs:List Str) (ws:List Int) (lns:List (List (Str×Nat))) (_:vs=[.ref x,.ref d,u,v,.ref z]) (_:H x=some (.ins C dx [])) (_:Rd H d (.dK (bp m))) (_:bA K H (.lst (pH.map yB)) u) (_:bA K H (mJ (nI ks)) v) (_:bN K CS H z hs ws lns) (_:hs.length<=10000) (_:ws.length<=10000) (_:lns.length<=10000) (_:(∀l∈lns,l.length<=10000)) (_:pH.length<=10000) (_:∀a b c y H',H' x=some (.ins C dx (uC a b c y))->H a=none->H' a=some (.dK (bp m))->bA K (aF H H') (.lst (pH.map yB)) (.ref b)->bA K (aF H H') (mJ (nI ks)) (.ref c)->bN K CS (aF H H') y hs ws lns->(∀b o,H b=some o->b≠x->H' b=some o)->Q .non H')
inductive Fq(K:wa2)(C CS:Addr)(vs:List V)(H:Hp)(Q:VK)(dQ:XK):Prop
 |mk (x m pH ks hs ws lns) (_:vs=[.ref x]) (_:nG K C CS H x m pH ks hs ws lns) (_:hs.length<=10000) (_:ws.length<=10000) (_:lns.length<=10000) (_:(∀l∈lns,l.length<=10000)) (_:∀y H',a7 H H'->bN K CS (aF H H') y hs ws lns->Q (.ref y) H')
end Sx
namespace L2
open PySem PySem.Spec PyProof.Rows
theorem under(n:Nat){P:Int->Prop}(h:∀k:Fin n,P ((k.val:Nat):Int))(d:Int)(a:0<=d)(b:d<(n:Int)):P d:=by
 obtain⟨k,rfl⟩:=wfz a;exact h ⟨k,Int.ofNat_lt.mp b⟩
theorem au{X:Cx}(ys:List Str)(ix:List Nat)(h:nj X.env.scope scope X.N x ys ix=true:=by kernel_rfl):bJ X scope x ys ix:=BH rfl rfl h
end L2
namespace Bs
open PySem L2 Sx
theorem uE:∀{ws:List Int},(∀w∈ws,1<=w)->(ws.length:Int)<=ws.sum
 |[],_=>weL _
 |w::ws,h=>by
  have h0:=h w (wad ..);have b:=uE (ws:=ws) λx a=>h x (wac _ a);rw[waZ,waF]
  lia
structure eJ(g:Str)(bw ss ls:List Str)(many:Int)(n:Nat)(f:Str->Int)(pH:List xB)(hs:List Str)(ws:List Int)(lns:List (List (Str×Nat))):Prop where
 rn:Runs many (ak ls f) ((ak ls f).map f) (bc g bw ss ls n (ak ls f)) pH hs ws lns
 b:iR many hs ws lns
 cv:vT (aQ g bw ss ls n) hs lns
 sm:ws.sum=(ls.map f).sum
 sl:pH.length+(ak ls f).length=hs.length
 sb:∀p∈hs,p∈ls
theorem eJ.start{f:Str->Int}(nd:(ch g).Nodup)(j:ss.Perm (bo bw "" bw))(hw:∀w∈bw,1<=w.length)(l:∀p∈ls,p∈ss)(hl:ls.Nodup)(hn:∀p∈ls,0<=f p)(r:FV g bw ss ls many n f) :
 eJ g bw ss ls many n f [] (ak ls f) ((ak ls f).map f) (bc g bw ss ls n (ak ls f)):=
 ⟨.nil,iR.first hn r,vT.first nd j hw (λp j=>l p (wau.mp j).1) (hl.filter _),xo hn,wev _,λp j=>(wau.mp j).1⟩
theorem eJ.step{g:Str}{bw ss ls:List Str}{many:Int}{n:Nat}{f:Str->Int}{j:List xB}{hs:List Str}{ws:List Int}{lns:List (List (Str×Nat))}(h:eJ g bw ss ls many n f j hs ws lns){d:Nat}{ns:List Nat}{w:Int}(ok:dm ws lns many (d:Int) (nI ns) w=true) :
 eJ g bw ss ls many n f (j++[(d,ns,w)]) (cw hs d) (bV ws d w) (cY lns d (nI ns)):=by
 obtain⟨b,hd⟩:=h.b.split ok;have hw:=h.b.w;have hl:=h.b.l;refine⟨.snoc h.rn ok,b,h.cv.split hl h.b.e hd (nI ns),?_,?_,λp a=>?_⟩
 ·rw[Cv (by lia)];exact h.sm
 ·have:=h.sl;unfold cw;rw[wa7,wa7];show j.length+1+_=hs.length+1
  lia
 ·unfold cw at a;rcases waC.mp a with a |a
  ·exact h.sb p a
  ·rw[wan.mp a,wa3,wa1 hd];exact h.sb _ (waE hd)
theorem eJ.len{f:Str->Int}(h:eJ g bw ss ls many n f j hs ws lns):(hs.length:Int)<=(ls.map f).sum:=by
 have:=uE h.b.p;have a:=h.sm;have c:=h.b.w
 lia
theorem eJ.whole{f:Str->Int}(h:eJ g bw ss ls many n f r hs ws lns)(t:(ls.map f).sum<=40)(j:g.length^n<=64):Ly hs ws lns:=by
 have hl:=h.len;refine⟨h.b.w,h.b.l,h.b.e,by lia,λl a=>?_⟩;have c:=h.cv.line h.b.l (b:=64) (λp=>wai (fP g bw ss ls n p) j) l a;have d:64*hs.length<=64*40:=weG _ (by lia)
 lia
def Fs(g:Str)(bw ss:List Str)(many:Int)(n:Nat):Prop:=∀j:Nat,1<=j->(j:Int)<=24->¬dY g bw ss (j*n) "" < many^j
end Bs
namespace Sx
open PySem L2 Bs
def Tl(CX:Addr)(g:Str)(bw ss:List Str)(many:Int)(n:Nat)(H:Hp)(E:XK):Prop:=∀(k:Nat) (d:Addr) (H':Hp),Rv g bw ss many n 24 (.int (k:Nat))->a7 H H'->H d=none->H' d=some (.xd [("length",.int (k:Nat)),("rows",.int (dY g bw ss (k*n) ""))])->E (.ref CX) (some d) H'
inductive KC(C CX:Addr)(vs:List V)(H:Hp)(Q:VK)(E:XK):Prop
 |mk (x:Addr) (many:Int) (n:Nat) (g:Str) (bw ss ls:List Str) (_:vs=[.ref x,.int many,.int (n:Int)]) (_:aS C H x g bw ss ls) (_:g.length<=10) (_:ss.length<=900) (_:fO g.length many n) (_:(Fs g bw ss many n->∀H',a7 H H'->Q .non H')) (_:Tl CX g bw ss many n H E)
inductive Ie(K:wa2)(C CP CS CX CO:Addr)(vs:List V)(H:Hp)(Q:VK)(E:XK):Prop
 |mk (x:Addr) (many:Int) (n:Nat) (g:Str) (bw ss ls:List Str) (_:vs=[.ref x,.int many,.int (n:Int)]) (_:aS C H x g bw ss ls) (_:(∀w∈bw,1<=w.length)) (_:(ch g).Nodup) (_:2<=g.length) (_:g.length<=10) (_:ss.length<=900) (_:fO g.length many n) (_:(Fs g bw ss many n->∀(y:Addr) (f0 f:Str->Int) (pH:List xB) (ks:List Nat) (hs:List Str) (ws:List Int) (lns:List (List (Str×Nat))) (H':Hp),a7 H H'->nG K CP CS (aF H H') y (bX f ls) pH ks hs ws lns->sN g bw ss ls many n f0->(∀p∈ls,f p<=f0 p)->fT g bw ss ls many n f pH ks hs ws lns->Q (.ref y) H')) (_:Tl CX g bw ss many n H E) (_:(Fs g bw ss many n->yA g bw ss ls many n->∀H',a7 H H'->E (.ref CO) none H'))
end Sx
namespace L2
open PySem PySem.Spec PyProof.Rows
section
variable{X:Cx}{e o:Expr}{es:List Expr}{te ta:TE}{t:TA}{a b:Expr}{pos p apos:Pos}{C f:Addr}{q:Str}{st:Stmt}{ps:List Str}{k:Nat}{sp:Sp}
theorem aG(ha:PE X e te)(hs:starEach [e] X.env=(false,eval e X.env)::starEach [] X.env:=by rfl):PA X [e] (qH te y3):=a8 ha fK hs
theorem Ae(g:X.mg "len"=none)(h:PE X e te)(j:Gl X "len":=by rfl)(he:starEach [e] X.env=(false,eval e X.env)::starEach [] X.env:=by rfl)(hpl:(backTo pos (starEach [] X.env)).any (·.1)=false:=by rfl) :
 PE X (.Call (.Name "len" p) [e] [] pos) (Rk (λxs H Q=>∃z,xs=[.str z]/\z.length<=sizeLine/\Q (.int z.length) H) (qH te y3)):=aP y9 j g wdX (a8 h fK he) (he:=he) (hpl:=hpl)
theorem Ig(g:X.mg "len"=none)(h:PE X e te)(j:Gl X "len":=by rfl)(he:starEach [e] X.env=(false,eval e X.env)::starEach [] X.env:=by rfl)(hpl:(backTo pos (starEach [] X.env)).any (·.1)=false:=by rfl) :
 PE X (.Call (.Name "len" p) [e] [] pos) (Rk (λxs H Q=>∃p ys,xs=[.ref p]/\(aE X.K H p ys\/hZ X.K H p ys)/\Q (.int ys.length) H) (qH te y3)):=aP nZ j g wdX (a8 h fK he) (he:=he) (hpl:=hpl)
theorem Af{m:Str}{fd:waT}{pl:Sem Bool}(he:PE X o ta)(c:zp X.K C)(g:dP X.K C m q st ps f fd)(F:aO X.prog X.w X.K X.mg X.base cP k f fd ps sp)(l:d2 k X.A:=by exact d2.mono (by assumption) (by decide))
 (r:eval (.Call (.Attribute o m apos) [] [] pos) X.env=(do
   let j <-eval o X.env
   standAt apos.atName
   let (f,first) <-holding [j] (wed j m pl)
   callWith pos f first (backTo pos (starEach [] X.env)) (backToKw pos (wcJ [] X.env))):=by rfl) :
 PE X (.Call (.Attribute o m apos) [] [] pos) (Du C m sp [] E0 ta y3):=Gg he c g.m F l g.b .nil o1 r
theorem FW{m:Str}{fd:waT}{pl:Sem Bool}(he:PE X o ta)(c:zp X.K C)(j:dP X.K C m q st ps f fd)(F:aO X.prog X.w X.K X.mg X.base cP k f fd ps sp)(ha:PA X (e::es) t)(r:d2 k X.A:=by exact d2.mono (by assumption) (by decide))
 (g:starEach (e::es) X.env=(false,eval e X.env)::starEach es X.env:=by rfl) (hpl:(backTo pos (starEach es X.env)).any (·.1)=false:=by rfl)
 (I:eval (.Call (.Attribute o m apos) (e::es) [] pos) X.env=(do
   let l <-eval o X.env
   standAt apos.atName
   let (f,first) <-holding [l] (wed l m pl)
   callWith pos f first (backTo pos (starEach (e::es) X.env)) (backToKw pos (wcJ [] X.env))):=by rfl) :
 PE X (.Call (.Attribute o m apos) (e::es) [] pos) (Du C m sp [] E0 ta t):=Ju he c j.m F r j.b .nil o1 ha g hpl I
theorem forA(hi:PI X j iter l)(r:PG X j g)(I:sy X body J)(T:PassesOwn (model X.prog X.w) X.A X.env X.xe:=by exact wd7)(hc:X.calm=true:=by rfl)(hs:∀x,wbQ iter X.env x=pure x:=by intro _;rfl):PS X (.For j iter body [] pos) (OJ l g J):=Ga T hc hi r I hs
theorem cq(g:kI X (wb4 op) r)(ha:PE X a ta)(j:PE X b l)(h:op≠.In:=by decide)(I:op≠.NotIn:=by decide):PT X (.Compare a [op] [b] pos) (Ge (OM r ta l)):=eW g ha j (gE _ h I)
end
end L2
namespace K72
open PySem L2 Bs Sx
noncomputable def top(i:Nat):Stmt:=PySem.Challenge.pw_bandscribe_k72_whole_numbers_of_what_is.main.body.getD i (.Pass ⟨0,0,0,0⟩)
theorem di{CX P w K mg base N q g f cd A o s H E}:(t7 CX P w K mg base N q g f cd A o s H E).K=K:=rfl
theorem dj{X:Cx}{f}:(X.n7 f).K=X.K:=rfl
theorem xC{t u:TS}{D:Ends}{σ:St}{H:Hp}(h:∀R:St->Hp->Prop,(∀σ H,u D σ H->R σ H)->t (D.L6 R) σ H):M9 t u D σ H:=h _ λ_ _ x=>x
theorem b0{x p y q e}:(wdl [.Name x p,.Name y q] e).length=2:=rfl
theorem b6{x p y q z r e}:(wdl [.Name x p,.Name y q,.Name z r] e).length=3:=rfl
structure Txt(mg:Str->Option Value):Prop where
 «all»:mg "all"=none
 «any»:mg "any"=none
 «bool»:mg "bool"=none
 «dict»:mg "dict"=none
 «enum»:mg "enumerate"=none
 «int»:mg "int"=none
 «Jd»:mg "isinstance"=none
 «len»:mg "len"=none
 «list»:mg "list"=none
 «max»:mg "max"=none
 «min»:mg "min"=none
 «range»:mg "range"=none
 «set»:mg "set"=none
 «sorted»:mg "sorted"=none
 «str»:mg "str"=none
 «sum»:mg "sum"=none
structure KD(K:wa2)(C:Addr):Prop where
 cl:zp K C
 iS:bQ K C "signs"
 Ag:bQ K C "barred"
 jR:bQ K C "moves"
 qf:bQ K C "lasting"
structure Ih(K:wa2)(C:Addr):Prop where
 cl:zp K C
 hU:bQ K C "homes"
 cM:bQ K C "weights"
 cC:bQ K C "lines"
structure KG(K:wa2)(C:Addr):Prop where
 cl:zp K C
 cM:bQ K C "weights"
 Ah:bQ K C "splits"
 Ii:bQ K C "kept"
 Ij:bQ K C "last"
structure Ft(K:wa2)(C:Addr):Prop where
 cl:zp K C
 oy:bQ K C "scheme"
 Ik:bQ K C "band"
 Il:bQ K C "many"
 Im:bQ K C "wide"
 hU:bQ K C "homes"
 cC:bQ K C "lines"
 xD:bQ K C "opening"
 DZ:bQ K C "first"
structure Lk(K:wa2)(mg:Str->Option Value) where
 T:Txt mg
 (ri uF lB oz E1 uG lC Ai rj rk rm xE lD lE ki mL oA oB jS gH ji iy iT mM ro kj uH lF uI xF oC mN mO oE rp xG nH Aj lG fU mP lH oF oG E2 lI gJ oH iz eR lJ jl oI jT rq Ak oJ xH kl fg oK Al fh km lK vU uJ uK lL rx mQ ry rz rA rB uL gK:Addr)
 (rD uM lM oM E3 uN lN Am rE rF rG xI lO lP kn mR oN oO oP kq jm iA iU mS rH kr uO lQ uP xJ oQ mU mV oR rJ xK uQ An lR jn mW lS oS oU E4 lT ku oV iB eS lU jo oW oX rK Ao oY xM ky fi oZ Ap iV kz lV vV uR uS lW rL mX rM rN rP rQ uT kA:waT)
 lX:FnAt K mg "ends_from" (top 2) ["band","place"] ri rD
 nJ:FnAt K mg "all_ends" (top 3) ["band"] uF uM
 cN:FnAt K mg "counts_up_to" (top 4) ["band","length"] lB lM
 jU:FnAt K mg "count_from" (top 5) ["band","place","length"] oz oM
 sO:FnAt K mg "count" (top 6) ["band","length"] E1 E3
 fV:FnAt K mg "is_whole" (top 22) ["thing"] uG uN
 fj:FnAt K mg "rows_through" (top 24) ["band","place","sign","counts"] lC lN
 p0:FnAt K mg "row_at" (top 25) ["band","length","number"] Ai Am
 iW:FnAt K mg "number_of" (top 26) ["band","row"] rj rE
 iX:FnAt K mg "all_among" (top 29) ["text","signs"] rk rF
 lY:FnAt K mg "are_signs" (top 30) ["thing"] rm rG
 qg:FnAt K mg "is_word" (top 31) ["thing","signs"] xE xI
 iC:FnAt K mg "check_barred" (top 32) ["barred","signs"] lD lO
 fk:FnAt K mg "bears_barred" (top 33) ["row","barred"] lE lP
 gL:FnAt K mg "sorted_places" (top 34) ["barred"] ki kn
 j2:FnAt K mg "longest_end" (top 35) ["row","places"] mL mR
 jV:FnAt K mg "moves_from" (top 36) ["place","signs","barred","places"] oA oN
 jW:FnAt K mg "leads_into" (top 37) ["ends","lot"] oB oO
 jX:FnAt K mg "live_among" (top 38) ["moves"] jS oP
 nK:FnAt K mg "all_rows" (top 41) ["band","wide"] uI uP
 qh:FnAt K mg "is_rate" (top 42) ["band","many","wide"] xF xJ
 dN:FnAt K mg "check_rate" (top 43) ["band","many","wide"] oC oQ
 j3:FnAt K mg "longer_rows" (top 44) ["band","rows"] mN mU
 gk:FnAt K mg "blocks_from" (top 45) ["band","place","wide"] mO mV
 jY:FnAt K mg "block_ends" (top 47) ["band","wide"] oE oR
 lZ:FnAt K mg "weight_of" (top 48) ["places","weights"] rp rJ
 qi:FnAt K mg "lowered" (top 49) ["ends","many","weights"] xG xK
 nL:FnAt K mg "greatest" (top 50) ["band","many","wide","most"] nH uQ
 uU:FnAt K mg "scarce" (top 51) ["band","many","wide","most"] Aj An
 iD:FnAt K mg "copied_steps" (top 53) ["line"] lG lR
 gm:FnAt K mg "first_sheet" (top 55) ["band","many","wide","weights"] mP mW
 fm:FnAt K mg "is_number_of" (top 56) ["number","things"] lH lS
 cD:FnAt K mg "check_part" (top 57) ["sheet","many","steps","weight"] oF oS
 jZ:FnAt K mg "with_twins" (top 58) ["line","desk","twin"] oG oU
 p5:FnAt K mg "split" (top 59) ["sheet","many","desk","numbers","weight"] E2 E4
 fo:FnAt K mg "copied_sheet" (top 64) ["sheet"] lI lT
 cn:FnAt K mg "check_not_scarce" (top 66) ["band","many","wide"] iz iB
 bz:FnAt K mg "weights_of_least_most" (top 67) ["band","many","wide"] eR eS
 iE:FnAt K mg "reached_from" (top 68) ["sheet","desk"] lJ lU
 fW:FnAt K mg "closed_weights" (top 69) ["band","many","wide","weights"] jl jo
 hV:FnAt K mg "steps_into" (top 70) ["line","desks"] oI oW
 hX:FnAt K mg "kept_desks" (top 71) ["sheet","many"] jT oX
 m3:FnAt K mg "step_down" (top 72) ["sheet"] rq rK
 uV:FnAt K mg "run_by" (top 73) ["weights","numbers","many"] Ak Ao
 k4:FnAt K mg "next_split" (top 74) ["sheet","many"] oJ oY
 jq:FnAt K mg "plan_of" (top 75) ["band","many","wide"] xH xM
 gM:FnAt K mg "blocks_behind" (top 77) ["band","wide"] kl ky
 cZ:FnAt K mg "steps_by_new_numbers" (top 78) ["line","kept","many"] fg fi
 k6:FnAt K mg "check_data" (top 79) ["data","many"] oK oZ
 p6:FnAt K mg "walked" (top 80) ["lines","desk","data"] Al Ap
 gz:FnAt K mg "_law_here" (top 83) ["_law_script","_law_place_here"] rx rL
 gn:FnAt K mg "_law_shaken" (top 84) ["_law_cell","_law_many"] mQ mX
 m4:FnAt K mg "_law_band" (top 85) ["_law_script"] ry rM
 m6:FnAt K mg "_law_rate" (top 86) ["_law_script","_law_signs"] rz rN
 m7:FnAt K mg "_law_told" (top 87) ["_law_signs","_law_words","_law_many","_law_wide"] rA rP
 m9:FnAt K mg "_law_good" (top 88) ["_law_row","_law_words"] rB rQ
 fX:FnAt K mg "_law_key" (top 90) ["_law_row","_law_signs"] uL uT
 gN:FnAt K mg "_law_numbered" (top 91) ["_law_band_here","_law_row","_law_signs","_law_words"] gK kA
 az:Addr
 CW:mg "Band"=some (.ref az)
 aB:KD K az
 yD:Mk K az gH
 aw:Addr
 sP:mg "Sheet"=some (.ref aw)
 av:Ih K aw
 p7:Mk K aw fU
 aV:Addr
 Io:mg "Plan"=some (.ref aV)
 cH:KG K aV
 E5:Mk K aV gJ
 ao:Addr
 Aq:mg "Writer"=some (.ref ao)
 aA:Ft K ao
 xN:Mk K ao fh
 eC:dP K az "__init__" "Band.__init__" (inClass (top 39) 0) ["self","signs","barred"] gH kq
 fY:dP K az "check_row" "Band.check_row" (inClass (top 39) 1) ["self","row"] ji jm
 d1:dP K az "check_place" "Band.check_place" (inClass (top 39) 2) ["self","place"] iy iA
 fq:dP K az "check_live" "Band.check_live" (inClass (top 39) 3) ["self","place"] iT iU
 j4:dP K az "places" "Band.places" (inClass (top 39) 5) ["self"] mM mS
 gA:dP K az "live" "Band.live" (inClass (top 39) 6) ["self"] ro rH
 gO:dP K az "place_of" "Band.place_of" (inClass (top 39) 7) ["self","row"] kj kr
 eK:dP K az "led" "Band.led" (inClass (top 39) 8) ["self","place","sign"] uH uO
 iF:dP K az "longest" "Band.longest" (inClass (top 39) 9) ["self"] lF lQ
 cO:dP K aw "__init__" "Sheet.__init__" (inClass (top 54) 0) ["self","homes","weights","lines"] fU jn
 gP:dP K aV "__init__" "Plan.__init__" (inClass (top 65) 0) ["self","weights","splits","kept","last"] gJ ku
 k8:dP K aV "sheet" "Plan.sheet" (inClass (top 65) 1) ["self"] oH oV
 fu:dP K ao "__init__" "Writer.__init__" (inClass (top 81) 0) ["self","band","many","wide"] fh iV
 gQ:dP K ao "behind" "Writer.behind" (inClass (top 81) 1) ["self"] km kz
 iG:dP K ao "ahead" "Writer.ahead" (inClass (top 81) 2) ["self"] lK lV
 vW:dP K ao "lead" "Writer.lead" (inClass (top 81) 4) ["self"] vU vV
 uW:dP K ao "desks" "Writer.desks" (inClass (top 81) 5) ["self"] uJ uR
 uX:dP K ao "steps" "Writer.steps" (inClass (top 81) 7) ["self","desk"] uK uS
 fv:dP K ao "write" "Writer.write" (inClass (top 81) 8) ["self","data"] lL lW
 cR:Addr
 rR:mg "BandError"=some (.ref cR)
 XT:Hc K cR "BandError"
 XB:GU K cR
 eT:Addr
 i7:mg "NoSplit"=some (.ref eT)
 i9:dX K eT cR "NoSplit"
 Fu:Hd K eT
 fZ:wbd K (.ref eT) "__init__"=some (some (.builtin "ValueError.__init__"))
 bY:Addr
 uY:mg "Scarce"=some (.ref bY)
 gB:dX K bY cR "Scarce"
 Ip:Hd K bY
 dn:Addr
 fz:waT
 p8:zy K "__init__" "Scarce.__init__" (inClass (top 18) 0) dn fz
 p9:Binds K fz ["self","length","rows"] []
 xO:wbd K (.ref bY) "__init__"=some (some (.ref dn))
 xP:wff K (.ref dn)=true
 kB:wbd K (.ref bY) "length"=some none
 mY:wbd K (.ref bY) "rows"=some none
 nM:Addr
 yE:mg "Open"=some (.ref nM)
 uZ:dX K nM cR "Open"
 Nk:Hd K nM
 yF:wbd K (.ref nM) "__init__"=some (some (.builtin "ValueError.__init__"))
 mc:∃t,mg "MOST_BLOCKS"=some (.int 24 t)
 md:∃t,mg "MOST_WEIGHT"=some (.int 8 t)
 fH:∃t,mg "MOST_WEIGHT_IN_ALL"=some (.int 40 t)
 known:∃t,mg "KNOWN_SIGNS"=some (.str f5 t)
section
variable{P:wap}{w:World}{K:wa2}{mg:Str->Option Value}{base:Heap}
theorem pd(L:Lk K mg):aO P w K mg base cP 1 L.rk L.rF ["text","signs"] JL:=by
 have T:=L.T;refine L.iX.F.dq (N:=["text","signs"]) (λf A outer s H n Q E nd o h=>?_);obtain⟨a,b,rfl,hl,k⟩:=h;refine⟨_,(a9 (ay (aP (zz rfl) (by rfl) T.all Pw (aG (bS rfl (au ["signs"] [1]) (ng (pv 0)) (λ_ _ _ _ _ _=>aY) (λ_ _ _ _ _ _=>(cT pJ (pv 0) (pv 1) rfl))))))),?_⟩
 try dsimp only[dj,di,b0,b6]
 refine⟨_,rfl,a,rfl,λl e=>comp_map (Pu b) (ie a) e (by unfold cu;rw[wa0];exact aq (wai (wdF (aR a)) (by lia))) (λ_ _=>trivial) (λx g p i _ q=>?_) (λj m d=>?_)⟩
 ·obtain⟨c,_,rfl⟩:=waa.mp i;exact⟨_,rfl,_,rfl,_,_,rfl,rfl,q g (a7.refl _)⟩
 ·rw[EB]at d;refine⟨l,_,rfl,aE.of d,?_⟩;have:=k j m;rw[wfm];exact this
theorem kC(L:Lk K mg):aO P w K mg base cP 1 L.lE L.lP ["row","barred"] (JM K):=by
 have T:=L.T;refine L.fk.F.dq (N:=["row","barred"]) (λi A outer s H o Q E nd p h=>?_);obtain⟨r,a,j,rfl,f,hl,k⟩:=h;refine⟨_,(a9 (ay (aP (tE rfl) (by rfl) T.any My (aG (bS rfl (au ["row"] [0]) (aK (pv 1)) (λ_ _ _ _ _ _=>aY) (λ_ _ _ _ _ _=>(cT pJ (pv 0) (pv 1) rfl))))))),?_⟩
 try dsimp only[dj,di,b0,b6]
 refine⟨_,rfl,a,rfl,⟨_,f⟩,λl d=>comp_map (Pu r) (aI K a (j.map V.str)) d (by rw[wa0];exact aq (by lia)) (λg e=>e.seq f) (λx m t n _ q=>?_) (λg e b=>?_)⟩
 ·obtain⟨c,_,rfl⟩:=waa.mp n;exact⟨_,rfl,_,rfl,_,_,rfl,rfl,q m (a7.refl _)⟩
 ·rw[zH]at b;refine⟨l,_,rfl,aE.of b,?_⟩;have:=k g e;rw[wes];exact this
theorem yG(L:Lk K mg):aO P w K mg base cP 2 L.rm L.rG ["thing"] Px:=by
 have T:=L.T;refine L.lY.F.dq (N:=["thing"]) (λd A outer s H l Q E nd m h=>?_);obtain⟨x,rfl,S,k⟩:=h;have a:x.length<=sizeLine:=aq (by have:=S.hi;lia);obtain⟨f,b⟩:=L.known
 refine⟨_,(a5 (bj (PW.pt (ee (cS (bZ (aP cf (by rfl) T.Jd vM (a8 (pv 0) (aG (gf (v:=.ty "str") (by rfl) T.str GJ rfl)))))) (ee (cq gW (Ae T.len (pv 0)) aj) (fI (cq kL (Ae T.len (pv 0)) aj))))) (a9 (ay iJ)) aH)
  (a9 (ay (Bi (cT nW (aP zD (by rfl) T.len wdX (aG (bE (zC rfl) (by rfl) T.set SQ (aG (pv 0))))) (Ae T.len (pv 0)) (gE _)) (Bh (ai (pd L) L.iX (a8 (pv 0) (aG (sA (v:=.str f5) (by rfl) b ⟨f,rfl⟩))))))))),?_⟩
 try dsimp only[dj,di,b0,b6]
 refine⟨_,rfl,_,_,_,true,rfl,ic.str x,rfl,true,rfl,?_⟩;refine bx ?_;refine⟨_,rfl,x,rfl,a,_,_,rfl,rfl,_,rfl,?_⟩;refine GH (by have:=S.lo;simp;lia) ?_;refine⟨_,rfl,x,rfl,a,_,_,rfl,rfl,_,rfl,?_⟩;refine GH (by have:=S.hi;simp;lia) ?_;refine⟨_,rfl,x,rfl,?_,λp g=>?_⟩
 ·have:=S.hi;show x.length+1<wdL;unfold wdL
  lia
 refine⟨p,_,rfl,a6,_,rfl,x,rfl,a,rfl,?_⟩;refine⟨_,rfl,?_⟩;refine SN (by rw[zI S.nd];simp) ?_;refine⟨_,rfl,x,f5,rfl,by have:=S.hi;lia,λi j=>?_⟩;have e:((ch x).all λc=>decide (c∈ch f5))=true:=waR.mpr λc hc=>decide_eq_true (S.sub c hc);rw[e];exact k i ((a7.upd g).trans j)
theorem CY(L:Lk K mg):aO P w K mg base cP 2 L.xE L.xI ["thing","signs"] Py:=by
 have T:=L.T;refine L.qg.F.dq (N:=["thing","signs"]) (λb A outer s H i Q E nd j h=>?_);obtain⟨x,g,rfl,S,k⟩:=h;have a:x.length<=sizeLine:=aq (by have:=S.hi;lia)
 refine⟨_,(a5 (bj (PW.pt (ee (cS (bZ (aP cf (by rfl) T.Jd vM (a8 (pv 0) (aG (gf (v:=.ty "str") (by rfl) T.str GJ rfl)))))) (ee (cq gW (Ae T.len (pv 0)) aj) (fI (cq kL (Ae T.len (pv 0)) aj))))) (a9 (ay iJ)) aH)
  (a9 (ay (ai (pd L) L.iX (a8 (pv 0) (aG (pv 1))))))),?_⟩
 try dsimp only[dj,di,b0,b6]
 refine⟨_,rfl,_,_,_,true,rfl,ic.str x,rfl,true,rfl,?_⟩;refine bx ?_;refine⟨_,rfl,x,rfl,a,_,_,rfl,rfl,_,rfl,?_⟩;refine GH (by have:=S.lo;simp;lia) ?_;refine⟨_,rfl,x,rfl,a,_,_,rfl,rfl,_,rfl,?_⟩;refine GH (by have:=S.hi;simp;lia) ?_;refine⟨_,rfl,_,rfl,x,g,rfl,by have:=S.hi;lia,λd f=>?_⟩;have e:((ch x).all λc=>decide (c∈ch g))=true:=waR.mpr λc hc=>decide_eq_true (S.sub c hc);rw[e];exact k d f
theorem rX(L:Lk K mg):aO P w K mg base cP 3 L.lD L.lO ["barred","signs"] (JN K):=by
 have T:=L.T;refine L.iC.F.dq (N:=["barred","signs","number","thing"]) (λj A outer s H q Q E nd r h=>?_);obtain⟨a,g,d,rfl,c,hl,hw,k⟩:=h
 refine⟨_,(a5 (bj (cq kL (Ig T.len (pv 0)) aj) cJ aH)
  (a9 (forA (mn (by rfl) T.enum (aG (pv 0))) (dU rfl (aL (ax (i:=2)) (aL (ax (i:=3)) cG))) (a9 (bj (cS (bZ (ai (CY L) L.qg (a8 (pv 3) (aG (pv 1)))))) cJ aH))))),?_⟩
 try dsimp only[dj,di,b0,b6]
 refine⟨_,rfl,a,_,rfl,.inl c,_,_,rfl,rfl,_,rfl,?_⟩;refine GH (by grind) ?_;refine⟨_,rfl,a,_,rfl,c,o4 (K:=K) (a:=a) (xs:=d.map V.str) (λi σ b=>a7 H b/\∃e f,σ=[some (.ref a),some (.str g),e,f]) ⟨a7.refl _,none,none,rfl⟩ (λi σ b _ p=>p.1.seq c) ?_ (λσ b p=>k b p.1)⟩;rintro i x σ b T u ⟨l,e,f,rfl⟩ m
 obtain⟨t,rfl,n⟩:∃t,x=.str t/\t∈d:=by
  grind
 refine⟨T,_,rfl,hZ.of a6,rfl,_,_,rfl,_,_,rfl,rfl,?_⟩;refine⟨_,rfl,_,rfl,t,g,rfl,hw t n,λv o=>⟨true,rfl,?_⟩⟩;refine bx ?_;exact⟨(l.trans (a7.upd m)).trans o,_,_,rfl⟩
theorem qj(L:Lk K mg):aO P w K mg base cP 2 L.ki L.kn ["barred"] (GL K):=by
 have T:=L.T;refine L.gL.F.dq (N:=["barred","found","word","length","beginning"]) (λM A outer s H vs Q E nd O h=>?_);obtain⟨a,ws,rfl,y,hl,hw,k⟩:=h;have R:=ez O
 refine⟨_,(a5 (ag (i:=1) (Dx (zv cI iJ Dw) rfl rfl (by simp) (by decide)))
  (a5 (forA (aK (pv 0)) (ax (i:=2)) (a9 (forA (pI rfl T.range (a8 aj (aG (Ae T.len (pv 2))))) (ax (i:=3)) (a5 (ag (i:=4) (d7 yf (pv 2) hF (bL (pv 3))))
  (a9 (bj (cS (bZ (ai (kC L) L.fk (a8 (pv 4) (aG (pv 0)))))) (a9 (eB R (pv 1) (pv 4) iJ rfl)) aH))))))
  (a9 (ay (aP (ye rfl) (by rfl) T.sorted JK (aG (pv 1))))))),?_⟩
 try dsimp only[dj,di,b0,b6]
 intro d hd;refine⟨a6,[((wav "":Key),V.bl true)],rfl,by decide,?_⟩
 have G:a7 H (upd (upd H d (.dK [])) d (.dK (jE [] [((wav "":Key),V.bl true)]))):=by
  rw[Dm];exact a7.upd hd
 refine⟨_,rfl,a,rfl,⟨_,G.seq y⟩,eh (K:=K) (a:=a) (xs:=ws.map V.str) (λi σ m=>∃B c v4,σ=[some (.ref a),some (.ref d),B,c,v4]/\a7 H m/\m d=some (.dK (kg (bo ws "" (ws.take i)))))
  ⟨none,none,none,rfl,G,a6⟩ (λi σ m _ ⟨_,_,_,_,f,_⟩=>f.seq y) ?_ ?_⟩
 ·rintro i x σ m g ⟨B,c,v4,rfl,f,t⟩;have hi:i<ws.length:=by have:=(wa5.mp g).1;rwa[wa0]at this
  obtain⟨wd,p,rfl⟩:∃wd,ws[i]?=some wd/\x=.str wd:=by
   rw[wa4]at g
   cases e:ws[i]? with
   |none=>rw[e]at g;cases g
   |some z=>rw[e]at g;exact⟨z,rfl,(wae g).symm⟩
  have S:wd∈ws:=wa8 p;have U:=hw wd S;have X:ws.take (i+1)=ws.take i++[wd]:=by rw[waS,p];rfl
  have Y:(bo ws "" (ws.take i)).length<=30:=by
   have:=mq (ws:=ws) (e:="") (us:=ws.take i) λv Z=>hw v (wcH Z);rw[wak]at this
   lia
  refine⟨_,rfl,wd,rfl,aq (by lia),1,_,rfl,⟨by decide,by decide,by lia,by lia⟩,?_⟩;have en:((wd.length:Int)-1).toNat=wd.length-1:=by lia
  refine da (lo:=1) (n:=((wd.length:Int)-1).toNat) (λj σ u=>∃c v4,σ=[some (.ref a),some (.ref d),some (.str wd),c,v4]/\a7 H u/\u d=some (.dK (kg (upTo ws wd (bo ws "" (ws.take i)) j))))
   ⟨c,v4,rfl,f,t⟩ ?_ ?_
  ·rintro j σ u hj ⟨c,v4,rfl,q,C⟩;have ec:(1+(j:Int))=((1+j:Nat):Int):=by lia
   refine⟨_,rfl,_,rfl,_,rfl,wd,rfl,aq (by lia),?_⟩;rw[ec];have RC:=tJ ws wd (bo ws "" (ws.take i)) j;refine⟨_,rfl,_,rfl,bG wd (1+j),a,ws,rfl,q.seq y,by lia,λH4 D=>⟨_,rfl,?_⟩⟩;have I:=D _ _ C
   cases J:bears ws (bG wd (1+j)) with
   |true=>
    refine bx ?_;refine⟨_,_,rfl,q.trans D,?_⟩;rw[I,fL];unfold pO;rw[if_pos J]
   |false=>
    refine eE ?_;refine⟨_,rfl,_,rfl,d,_,rfl,kQ.k (k:=wav (bG wd (1+j))) I (by rw[ED];exact bF (by lia)),?_⟩;refine⟨_,_,rfl,λb o e=>?_,?_⟩
    ·rw[ae (af e hd)];exact D _ _ (q _ _ e)
    ·rw[a6,EC,fL];unfold pO;rw[if_neg (by rw[J];exact wam)]
  ·rintro σ u ⟨c,v4,rfl,q,C⟩;refine⟨_,c,v4,rfl,q,?_⟩;rw[C,X,BE,en];rfl
 ·rintro σ m ⟨B,c,v4,rfl,f,t⟩;rw[wa0,waG]at t;have VQ:=mq (ws:=ws) (e:="") (us:=ws) hw;refine⟨_,rfl,d,_,_,rfl,t,BI _,by lia,λl ss r hp hs=>?_⟩;exact k l ss _ (f.trans (a7.upd r)) (f.free r) a6 hp hs
theorem va(L:Lk K mg):aO P w K mg base cP 1 L.mL L.mR ["row","places"] (Mz K):=by
 refine L.j2.F.dq (N:=["row","places","cut"]) (λq A outer s H x Q E nd y h=>?_);obtain⟨r,a,ps,rfl,t,u,hl,k⟩:=h
 refine⟨_,(a5 (ag (i:=2) aj)
  (a5 (j8 wd7 (eW jD (d7 yf (pv 0) (bL (pv 2)) hF) (pv 1) rfl) (a9 (kK (i:=2) nd rfl (wd3 rfl) aj Bj)))
  (a9 (ay (d7 yf (pv 0) (bL (pv 2)) hF))))),?_⟩
 try dsimp only[dj,di,b0,b6]
 refine⟨λm σ c=>∃n:Nat,n<=r.length/\m=r.length-n/\σ=[some (.str r),some (.ref a),some (.int (n:Int))]/\a7 H c/\∀j,j<n->bW r j∉ps,⟨r.length,0,waJ _,rfl,rfl,a7.refl _,λj d=>absurd d (wdA j)⟩,?_⟩;rintro m σ c ⟨n,hn,rfl,rfl,f,o⟩;refine⟨_,rfl,_,rfl,_,rfl,r,rfl,aq (by lia),_,rfl,a,_,rfl,.inl (f.seq t),rfl,eN ps,_,rfl,?_⟩;rw[if_pos rfl,jb]
 by_cases h:bW r n∈ps
 ·have e:decide (wby r (some (n:Int)) none∈ps)=true:=decide_eq_true h;rw[e];refine bx ?_;refine⟨_,rfl,_,rfl,_,rfl,r,rfl,aq (by lia),?_⟩;have:=k c f;unfold lend at this;rw[tL h o hn]at this;exact this
 ·have e:decide (wby r (some (n:Int)) none∈ps)=false:=decide_eq_false h;rw[e];refine eE ?_
  have g:n<r.length:=by
   rcases weP hn with z |z
   ·exact z
   ·subst z;rw[mw]at h;exact absurd u h
  refine⟨λb p=>∃l:Nat,l=n+1/\b=[some (.str r),some (.ref a),some (.int (l:Int))]/\a7 H p,?_,?_⟩
  ·rintro b p ⟨l,rfl,rfl,v⟩;refine⟨r.length-(n+1),by lia,n+1,g,rfl,rfl,v,λj d=>?_⟩;rcases weP (Nat.le_of_lt_succ d) with z |z
   ·exact o j z
   ·rw[z];exact h
  ·exact⟨_,rfl,_,_,rfl,rfl,n+1,rfl,rfl,f⟩
theorem vX(L:Lk K mg):aO P w K mg base cP 2 L.oA L.oN ["place","signs","barred","places"] (JO K):=by
 refine L.jV.F.dq (N:=["place","signs","barred","places","moves","sign","row"]) (λR A outer s H vs Q E nd S h=>?_);obtain⟨p,g,a,b,l,ps,rfl,T,U,V,X,Y,B,C,k⟩:=h;have Z:=ez S
 refine⟨_,(a5 (ag (i:=4) eu)
  (a5 (forA (ng (pv 1)) (ax (i:=5)) (a5 (ag (i:=6) (aN n9 (pv 0) (pv 5)))
  (a9 (eB Z (pv 4) (pv 5) (sU (bZ (ai (kC L) L.fk (a8 (pv 6) (aG (pv 2))))) du (ai (va L) L.j2 (a8 (pv 6) (aG (pv 3))))) rfl))))
  (a9 (ay (pv 4))))),?_⟩
 try dsimp only[dj,di,b0,b6]
 intro d hd
 refine⟨_,rfl,g,rfl,kR (ie g) (λi σ f=>∃r v6,σ=[some (.str p),some (.str g),some (.ref a),some (.ref b),some (.ref d),r,v6]/\a7 H f/\f d=some (.dK (((ch g).take i).map λc=>((wav (⟨#[c]⟩:Str):Key),pG l ps p c))))
  ⟨none,none,rfl,a7.upd hd,a6⟩ (λ_ _ _ _ _=>trivial) ?_ ?_⟩
 ·rintro i x σ f m ⟨r,v6,rfl,t,y⟩
  obtain⟨c,hc,rfl⟩:∃c,(ch g)[i]?=some c/\x=.str ⟨#[c]⟩:=by
   unfold cu at m;rw[wa4]at m
   cases e:(ch g)[i]? with
   |none=>rw[show g.cps.toList[i]?=none from e]at m;cases m
   |some z=>rw[show g.cps.toList[i]?=some z from e]at m;exact⟨z,rfl,(wae m).symm⟩
  have hi:i<(ch g).length:=(wa5.mp hc).1;have J:=aR g;have CZ:(p++(⟨#[c]⟩:Str)).length=p.length+1:=by rw[<-aR,aJ,wa7,aR];rfl
  refine⟨_,rfl,_,rfl,p,⟨#[c]⟩,rfl,rfl,aq (by show p.length+1<=_;lia),?_⟩
  have fin:∀u,a7 f u->Le (Jl 4) (Jl 5) (λ_ D Q5=>Q5 (pG l ps p c) D) {nx:=λσ f=>∃r v6,σ=[some (.str p),some (.str g),some (.ref a),some (.ref b),some (.ref d),r,v6]/\a7 H f/\f d=some (.dK (((ch g).take (i+1)).map λc=>((wav (⟨#[c]⟩:Str):Key),pG l ps p c))),rt:=Q}
   [some (.str p),some (.str g),some (.ref a),some (.ref b),some (.ref d),some (.str ⟨#[c]⟩),some (.str (p++⟨#[c]⟩))] u:=by
   intro u n;have h4:=n _ _ y;refine⟨_,rfl,_,rfl,d,_,rfl,kQ.k (k:=wav (⟨#[c]⟩:Str)) h4 (by rw[wa0,wak];exact bF (by lia)),?_⟩;refine⟨_,_,rfl,λb o e=>?_,?_⟩
   ·rw[ae (af e hd)];exact n _ _ (t _ _ e)
   ·rw[a6,eZ]
    ·have:(ch g).take (i+1)=(ch g).take i++[c]:=by rw[waS,hc];rfl
     rw[this,wal];rfl
    ·cases q:cQ (((ch g).take i).map λc=>((wav (⟨#[c]⟩:Str):Key),pG l ps p c)) (wav (⟨#[c]⟩:Str):Key) with
     |none=>rfl
     |some v=>
      have:=yc q;rw[waf]at this;obtain⟨G,I,e⟩:=waa.mp this;have e':(⟨#[G]⟩:Str)=⟨#[c]⟩:=wda e
      have:G=c:=by
       have:=congrArg ch e';simpa [ch] using this
      subst this;obtain⟨j,hj,M⟩:=wdq.mp I;rw[wf4]at M;rw[wak]at hj;have e1:(ch g)[i]=G:=(wa5.mp hc).2;have:=(wbI B).mp (M.trans e1.symm)
      lia
  refine⟨_,rfl,_,rfl,_,a,l,rfl,t.seq T,C,λu n=>⟨_,rfl,?_⟩⟩
  cases O:bears l (p++⟨#[c]⟩) with
  |true=>
   refine eE ?_;have:=fin u n;unfold pG at this;rw[if_pos O]at this;unfold pG;exact this
  |false=>
   refine bx ?_;refine⟨_,rfl,_,rfl,_,b,ps,rfl,(t.trans n).seq U,V,by lia,λD s5=>?_⟩;have:=fin D (n.trans s5);unfold pG at this;rw[if_neg (by rw[O];exact wam)]at this;unfold pG;exact this
 ·rintro σ f ⟨r,v6,rfl,t,y⟩;have e:(cu g).length=(ch g).length:=by unfold cu;rw[wa0]
  rw[e,waG]at y;exact⟨_,rfl,k d f t hd y⟩
theorem vY(L:Lk K mg):aO P w K mg base cP 1 L.oB L.oO ["ends","lot"] (JP K):=by
 have T:=L.T;refine L.jW.F.dq (N:=["ends","lot"]) (λm A outer s H v Q E nd y h=>?_);obtain⟨a,b,d,ls,rfl,i,n,o,p,hl,k⟩:=h;refine⟨_,(a9 (ay (aP (tE rfl) (by rfl) T.any My (aG (bS rfl (au ["lot"] [1]) (aK (pv 0)) (λ_ _ _ _ _ _=>aY) (λ_ _ _ _ _ _=>(cT (ig (K:=K) rfl) (pv 0) (pv 1) rfl))))))),?_⟩
 try dsimp only[dj,di,b0,b6]
 refine⟨_,rfl,a,rfl,⟨_,i⟩,λl f=>comp_map (PB ls) (aI K a d) f (aq (by lia)) (λj g=>g.seq i) (λx r z t u q=>?_) (λj g c=>?_)⟩
 ·exact⟨_,rfl,_,rfl,b,ls,rfl,.inl (u.seq n),waR.mp o x t,p,q r (a7.refl _)⟩
 ·have e:d.map (PB ls)=(d.map λe=>nY e ls).map V.bl:=by rw[waf];rfl
  rw[e]at c;refine⟨l,_,rfl,aE.of c,?_⟩;have:=k j g;rw[wes];exact this
theorem vZ(L:Lk K mg):aO P w K mg base cP 2 L.jS L.oP ["moves"] (MB K):=by
 have T:=L.T;refine L.jX.F.dq (N:=["moves","lot","left"]) (λY A outer s H vs Q E nd hr h=>?_);obtain⟨d,Z,o,rfl,hd,hl,hm,hf,Ye,k⟩:=h;have hu:=ez hr;have O8:(A.deeper (wcO "live_among" (aD (top 38)) s.heap.objs.size L.jS Y)).units<wcw:=hr.t6
 refine⟨_,(a5 (ag (i:=1) (bE (ni rfl) (by rfl) T.list iN (aG (pv 0))))
  (a9 (j8 wd7 (bZ iJ) (a5 (cW (i:=2) rfl (au ["moves","lot"] [0,1]) nd rfl rfl (aK (pv 1)) (λ_ _ _ _ _ _=>gg (bZ (ai (vY L) L.jW (a8 (bE (BC rfl) (by rfl) T.list iN (aG (DE (K:=K) rfl wfA wdJ wfu wU (cp hu (pv 1) (pv 0) (λ_ _=>rfl))))) (aG (pv 2)))))) (λ_ _ _ _ _ _=>(pv 0)))
  (a5 (bj (cq (BD O8) (pv 2) (pv 1)) (a9 (ay (pv 1))) aH)
  (a9 (ag (i:=1) (pv 2)))))))),?_⟩
 try dsimp only[dj,di,b0,b6]
 refine⟨_,rfl,d,_,rfl,hd,λl0 t=>?_⟩
 refine⟨λm σ H2=>∃(l:Addr) (ls:List Str) (v:Option V),m=ls.length/\σ=[some (.ref d),some (.ref l),v]/\a7 H H2/\H l=none/\H2 l=some (.lst (ls.map V.str))/\ls.Sublist (Z.map (·.1)) /\
  ∀b:List Str,(∀k∈b,k∈Z.map (·.1)/\kW (o k) b=true)->∀k∈b,k∈ls,
  ⟨_,l0,Z.map (·.1),none,rfl,rfl,a7.upd t,t,by rw[a6,ik],wf6 _,λb h k hk=>(h k hk).1⟩,?_⟩
 rintro m σ H2 ⟨l,ls,v,rfl,rfl,S,Iq,U,f,c⟩;refine⟨true,rfl,eE ?_⟩;have CA:ls.length<=1000:=by have:=f.length_le;rw[wa0]at this;lia
 let p:V->Bool:=λx=>match x with
  |.str k=>kW (o k) ls
  |_=>false
 let g:List Str:=ls.filter λk=>kW (o k) ls
 have u:(ls.map V.str).filter p=g.map V.str:=by
  rw[wdz];rfl
 refine⟨λy r=>∃(B:Addr) (v:Option V),y=[some (.ref d),some (.ref B),v]/\a7 H r/\H B=none/\r B=some (.lst (g.map V.str))/\g.length<ls.length,?_,?_⟩
 ·rintro y r ⟨B,v,rfl,n,Bc,C,N4⟩;refine⟨g.length,N4,B,g,v,rfl,rfl,n,Bc,C,(wdv).trans f,λb h k hk=>?_⟩;have Yg:=c b h k hk;exact wau.mpr ⟨Yg,BK (c b h) (h k hk).2⟩
 ·refine⟨_,rfl,l,rfl,⟨_,aE.of U⟩,λl2 D=>df p (λx=>x) (aI K l (ls.map V.str)) D (by rw[wa0];exact aq (by lia)) (λr n=>n.seq (aE.of U)) (λx G Q' hx s3 q=>?_) (λx G Q' hx _ s3 q=>⟨_,rfl,q G (a7.refl _)⟩) (λr n C=>?_)⟩
  ·obtain⟨X,Yh,rfl⟩:=waa.mp hx;obtain⟨a,ha,I⟩:=i3 (f.subset Yh);have J:a7 H G:=S.trans s3;have RD:=J _ _ hd;have j:=J _ _ (hm _ ha);refine⟨_,rfl,_,rfl,d,.ref a,rfl,?_,?_⟩
   ·have:=dG.k (k:=(wav X:Key)) RD;rw[I]at this;exact this
   refine⟨.inr (.inr (.inl ⟨rfl,.inl ⟨_,j⟩⟩)),a,_,rfl,rfl,j,λvw M=>?_⟩;refine⟨vw,a,_,rfl,a6,by rw[ae (af j M)];exact j,λl3 JG=>?_⟩;have s4:a7 G (upd (upd G vw (kT vw a)) l3 (.lst ((o X).map (·.2)))):=(a7.upd M).trans (a7.upd JG);refine⟨_,rfl,l3,l,_,_,rfl,aE.of a6,aE.of (s4 _ _ (s3 _ _ U)),hf X,eN ls,by rw[wa0];exact Ye X,λH5 s5=>⟨_,rfl,?_⟩⟩;exact q H5 (s4.trans s5)
  ·rw[wdQ,u]at C;have O:=n _ _ U;refine⟨_,rfl,_,rfl,l2,l,_,_,rfl,rfl,aE.of C,aE.of O,eN _,eN _,_,rfl,?_⟩;rw[wW];have R:H l2=none:=S.free D
   by_cases e:g=ls
   ·rw[decide_eq_true e];refine eE ?_;refine⟨_,rfl,k l ls r (S.trans n) Iq O ⟨f,λkk hk=>?_,c⟩⟩;have:=e ▸ hk;exact(wau.mp this).2
   ·rw[decide_eq_false e];refine bx ?_;refine⟨_,rfl,l2,_,rfl,S.trans n,R,C,?_⟩;rcases weP (wbe (λk=>kW (o k) ls) ls) with z |z
    ·exact z
    ·exact absurd ((wdv (p:=λk=>kW (o k) ls)).eq_of_length z) e
theorem jr(L:Lk K mg):aO P w K mg base cP 4 L.gH L.kq ["self","signs","barred"] (ME K L.az):=by
 have T:=L.T;refine L.eC.F.dq (N:=["self","signs","barred","places","place"]) (λgX A outer s H vs Q E nd hr h=>?_);obtain⟨x,t,g,a,ws,rfl,hx,hS,sg,hl,hw,k⟩:=h;have Z:∀w∈ws,w.length<=5:=λw h=>(hw w h).hi;have hu:=ez hr
 refine⟨_,(a5 (bj (cS (bZ (ai (yG L) L.lY (aG (pv 1))))) cJ aH)
  (a5 (bu (ai (rX L) L.iC (a8 (pv 2) (aG (pv 1)))))
  (a5 (cU (pv 0) (pv 1) rfl)
  (a5 (cU (pv 0) (bE cA (by rfl) T.list iN (aG (pv 2))) rfl)
  (a5 (cU (pv 0) eu rfl)
  (a5 (ag (i:=3) (ai (qj L) L.gL (aG (pv 2))))
  (a5 (forA (aK (pv 3)) (ax (i:=4)) (a9 (eB hu (aM (pv 0) rfl) (pv 4) (ai (vX L) L.jV (a8 (pv 4) (a8 (pv 1) (a8 (pv 2) (aG (pv 3)))))) rfl)))
  (a9 (cU (pv 0) (ai (vZ L) L.jX (aG (aM (pv 0) rfl))) rfl))))))))),?_⟩
 try dsimp only[dj,di,b0,b6]
 refine⟨_,rfl,g,rfl,sg,λH1 s1=>⟨true,rfl,bx ?_⟩⟩;refine⟨_,rfl,_,rfl,a,g,ws,rfl,s1.seq hS,hl,hw,λH2 s2=>?_⟩;have D:a7 H H2:=s1.trans s2;have Yi:=D _ _ hx;refine⟨_,rfl,_,rfl,x,L.az,t,_,rfl,Yi,L.aB.cl,L.aB.iS,by decide,?_⟩;rw[MD];have Qj:∀(o:HO) b ob,H b=some ob->b≠x->(upd H2 x o) b=some ob:=λo b ob e hb=>by rw[ae hb];exact D _ _ e
 have G:∀{H':Hp} (h:∀b o,H b=some o->b≠x->H' b=some o),aE K H' a (ws.map V.str):=λ{H'} h=>by
  have VR:∀o,H a=some o->(∀fs,o≠.ins L.az t fs)->a≠x:=λo e ne z=>by
   subst z;rw[hx]at e;exact ne [] (wae e).symm
  rcases hS with(e |⟨o,e⟩) |e
  ·exact .inl (.inl (h _ _ e (VR _ e (λ_ z=>by cases z))))
  ·exact .inl (.inr ⟨o,h _ _ e (VR _ e (λ_ z=>by cases z))⟩)
  ·exact .inr e
 refine⟨_,rfl,a,_,rfl,.inl (G (Qj _)),λb hb=>?_⟩;have v:x≠b:=af a6 hb;have Tn:H2 b=none:=by rw[ae v.symm]at hb;exact hb
 refine⟨_,rfl,x,L.az,t,Ro g,rfl,by rw[ae v,a6],L.aB.cl,L.aB.Ag,(show 1<1000 by decide),?_⟩;rw[put2];intro d hd;have r:x≠d:=af a6 hd
 have Qk:b≠d:=by
  intro z;subst z;rw[ae v.symm,a6]at hd;cases hd
 have I:H2 d=none:=by rw[ae r.symm,ae Qk.symm,ae r.symm]at hd;exact hd
 refine⟨_,rfl,x,L.az,t,O3 g b,rfl,by rw[ae r,a6],L.aB.cl,L.aB.jR,(show 2<1000 by decide),?_⟩;rw[put3];generalize J:upd (upd (upd (upd (upd H2 x (.ins L.az t (Ro g))) b (.lst (ws.map V.str))) x (.ins L.az t (O3 g b))) d (.dK [])) x (.ins L.az t (MC g b d))=H3;have x3:H3 x=some (.ins L.az t (MC g b d)):=by rw[<-J,a6]
 have d3:H3 d=some (.dK []):=by rw[<-J,ae r.symm,a6]
 have b3:H3 b=some (.lst (ws.map V.str)):=by rw[<-J,ae v.symm,ae Qk,ae v.symm,a6]
 have k3:∀c o,H c=some o->c≠x->H3 c=some o:=λc o e hc=>by
  have e2:=D _ _ e;rw[<-J,ae hc,ae (af e2 I),ae hc,ae (af e2 Tn),ae hc];exact e2
 clear J;refine⟨_,rfl,a,ws,rfl,G k3,hl,Z,λl ss H4 s4 R h4 hp Yj=>?_⟩;have SX:ss.Nodup:=hp.nodup_iff.mpr (qM ws);have yH:ss.length<=25:=by have:=mq (ws:=ws) (e:="") (us:=ws) Z;rw[hp.length_eq];lia
 have Ql:∀p∈ss,p.length<=5:=λp D0=>EG Z p (hp.mem_iff.mp D0);have To:("":Str)∈ss:=hp.mem_iff.mpr (bb ws);have RE:l≠d:=λz=>by rw[z,d3]at R;cases R
 have nlx:l≠x:=λz=>by rw[z,x3]at R;cases R
 refine⟨_,rfl,l,rfl,⟨_,aE.of h4⟩,eh (K:=K) (a:=l) (xs:=ss.map V.str) (λi σ S=>∃v4 B,σ=[some (.ref x),some (.str g),some (.ref a),some (.ref l),v4]/\S d=some (.dK (bT B))/\B.map (·.1)=ss.take i/\(∀m∈B,S m.2=some (.dK (rowOf g ws ss m.1)))/\(∀m∈B,H4 m.2=none)/\(∀c o,H4 c=some o->c≠d->S c=some o))
  ⟨none,[],rfl,s4 _ _ d3,rfl,λm u=>(nomatch u),λm u=>(nomatch u),λc o e _=>e⟩ (λi σ S _ ⟨_,_,_,_,_,_,_,M⟩=>aE.of (M _ _ h4 RE)) ?_ ?_⟩
 ·rintro i y σ S hy ⟨v4,B,rfl,C,n,f,PF,M⟩
  obtain⟨p,U,rfl⟩:∃p,ss[i]?=some p/\y=.str p:=by
   rw[wa4]at hy
   cases e:ss[i]? with
   |none=>rw[e]at hy;cases hy
   |some z=>rw[e]at hy;exact⟨z,rfl,(wae hy).symm⟩
  have hi:i<ss.length:=(wa5.mp U).1;have D0:p∈ss:=wa8 U
  have k5:∀c o,H c=some o->c≠x->S c=some o:=λc o e hc=>M _ _ (s4 _ _ (k3 c o e hc)) (λz=>by
   subst z;have:=D _ _ e
   rw[I]at this;cases this)
  have x5:S x=some (.ins L.az t (MC g b d)):=M _ _ (s4 _ _ x3) r;refine⟨_,rfl,_,rfl,_,rfl,_,rfl,p,g,a,l,ws,ss,rfl,G k5,aE.of (M _ _ h4 RE),To,by have:=Ql p D0;lia,by have:=sg.hi;lia,sg.nd,by lia,λe H6 O X h6=>?_⟩;have d6:=O _ _ C
  have Ir:p∉B.map (·.1):=by
   rw[n];intro u;obtain⟨j,hj,ej⟩:=wdq.mp u;rw[wf4]at ej;rw[wak]at hj;have e1:ss[i]=p:=(wa5.mp U).2;have:=(wbI SX).mp (ej.trans e1.symm)
   lia
  have Y:B.length<=25:=by have:=congrArg wdu n;rw[wa0,wak]at this;lia
  refine⟨_,rfl,x,L.az,t,_,_,rfl,O _ _ x5,L.aB.cl,L.aB.jR,kX g b d,_,rfl,d,_,rfl,kQ.k (k:=wav p) d6 (by unfold bT;rw[wa0];exact bF (by lia)),?_⟩;have O9:e≠d:=λz=>by rw[z,C]at X;cases X
  have e4:H4 e=none:=by
   cases q:H4 e with
   |none=>rfl
   |some o=>
    have:=M _ _ q O9;rw[this]at X;cases X
  refine⟨_,B++[(p,e)],rfl,?_,?_,?_,?_,?_⟩
  ·rw[a6,eZ _ (nk Ir)];unfold bT;rw[wal];rfl
  ·rw[wal,n];have:ss.take (i+1)=ss.take i++[p]:=by rw[waS,U];rfl
   rw[this];rfl
  ·intro m u;rcases waC.mp u with z |z
   ·have nm:m.2≠d:=λq=>by
     have:=f m z;rw[q,C]at this;have:=PF m z;rw[q]at this;rw[s4 _ _ d3]at this;cases this
    rw[ae nm];exact O _ _ (f m z)
   ·have:m=(p,e):=by simpa using z
    subst this;rw[ae O9];exact h6
  ·intro m u;rcases waC.mp u with z |z
   ·exact PF m z
   ·have:m=(p,e):=by simpa using z
    subst this;exact e4
  ·intro c o hc VS;rw[ae VS];exact O _ _ (M c o hc VS)
 ·rintro σ S ⟨v4,B,rfl,C,n,f,PF,M⟩;rw[wa0,waG]at n;have x5:S x=some (.ins L.az t (MC g b d)):=M _ _ (s4 _ _ x3) r;have Y:B.length<=1000:=by have:=congrArg wdu n;rw[wa0]at this;lia
  refine⟨_,rfl,x,L.az,t,_,_,rfl,x5,L.aB.cl,L.aB.jR,kX g b d,d,B,rowOf g ws ss,rfl,C,Y,f,λkx=>BJ g ws ss kx,λkx=>by rw[EE];have:=sg.hi;lia,λq ls H6 O hq h6 lv=>?_⟩;refine⟨_,rfl,x,L.az,t,_,rfl,O _ _ x5,L.aB.cl,L.aB.qf,(show 3<1000 by decide),?_⟩;rw[EF];have Tp:q≠x:=λz=>by rw[z,x5]at hq;cases hq
  have Yk:∀m∈B,m.2≠x:=λm u z=>by
   have:=f m u;rw[z,x5]at this;cases this
  refine k ss ls _ ⟨⟨t,b,d,q,B,a6,?_,?_,n,λm u=>?_,?_⟩,hp,Yj,n ▸ lv⟩ λc o e hc=>?_
  ·rw[ae v.symm];exact O _ _ (M _ _ (s4 _ _ b3) Qk)
  ·rw[ae r.symm];exact O _ _ C
  ·rw[ae (Yk m u)];exact O _ _ (f m u)
  ·rw[ae Tp];exact h6
  ·rw[ae hc]
   exact O _ _ (M _ _ (s4 _ _ (k3 c o e hc)) (λz=>by
    subst z;have:=D _ _ e
    rw[I]at this;cases this))
theorem vc(L:Lk K mg):aO P w K mg base cP 1 L.mM L.mS ["self"] (GO L.az):=by
 have T:=L.T;refine L.j4.F.dq (N:=["self"]) (λa A outer s H j Q E nd m h=>?_);obtain⟨x,g,n,ss,ls,rfl,B,k⟩:=h;obtain⟨⟨c,b,d,q,o,e,p,f,i,r,t⟩,_,_,_⟩:=B;refine⟨_,(a9 (ay (bE (ni rfl) (by rfl) T.list iN (aG (aM (pv 0) rfl))))),?_⟩
 try dsimp only[dj,di,b0,b6]
 refine⟨_,rfl,x,L.az,c,_,_,rfl,e,L.aB.cl,L.aB.jR,jF g b d q,d,_,rfl,f,λl hl=>?_⟩;rw[ik,i];exact k l _ (a7.upd hl) hl a6
theorem k9(L:Lk K mg):aO P w K mg base cP 1 L.ro L.rH ["self"] (JQ L.az):=by
 have T:=L.T;refine L.gA.F.dq (N:=["self"]) (λa A outer s H i Q E nd j h=>?_);obtain⟨x,g,m,ss,ls,rfl,B,k⟩:=h;obtain⟨⟨c,b,d,q,n,e,o,p,r,t,f⟩,_,_,_⟩:=B;refine⟨_,(a9 (ay (bE cA (by rfl) T.list iN (aG (aM (pv 0) rfl))))),?_⟩
 try dsimp only[dj,di,b0,b6]
 refine⟨_,rfl,x,L.az,c,_,_,rfl,e,L.aB.cl,L.aB.qf,wX g b d q,q,_,rfl,.inl (aE.of f),λl hl=>?_⟩;exact k l _ (a7.upd hl) hl a6
theorem gZ(L:Lk K mg):aO P w K mg base cP 1 L.iy L.iA ["self","place"] (SR L.az):=by
 have T:=L.T;refine L.d1.F.dq (N:=["self","place"]) (λc A outer s H r Q E nd e h=>?_);obtain⟨x,p,g,t,ss,ls,rfl,B,f,k⟩:=h;obtain⟨⟨i,b,d,q,mv,j,u,l,m,y,z⟩,_,_,_⟩:=B;obtain⟨a,ha,n⟩:=i3 (mv:=mv) (k:=p) (by rw[m];exact f);have o:=ez e;refine⟨_,(a9 (bj (PW.pt (ee (cS (bZ (aP cf (by rfl) T.Jd vM (a8 (pv 1) (aG (gf (v:=.ty "str") (by rfl) T.str GJ rfl)))))) (fI (Bg (wK o (pv 1) (aM (pv 0) rfl)))))) cJ aH)),?_⟩
 try dsimp only[dj,di,b0,b6]
 refine⟨_,rfl,_,_,_,true,rfl,ic.str p,rfl,true,rfl,bx ?_⟩;refine⟨_,rfl,_,rfl,x,L.az,i,_,_,rfl,j,L.aB.cl,L.aB.jR,jF g b d q,d,_,rfl,dG.k (k:=(wav p:Key)) l,_,rfl,?_⟩;rw[n];exact bx k
theorem gC(L:Lk K mg):aO P w K mg base cP 2 L.uH L.uO ["self","place","sign"] (PD L.az):=by
 refine L.eK.F.dq (N:=["self","place","sign"]) (λn A outer s H z Q E nd o h=>?_);obtain⟨x,p,c,g,r,ss,ls,rfl,B,e,hc,k⟩:=h;obtain⟨⟨f,b,d,q,mv,i,C,t,u,v,D⟩,_,_,_⟩:=id B;obtain⟨a,ha,y⟩:=i3 (mv:=mv) (k:=p) (by rw[u];exact e);have j:=ez o
 refine⟨_,(a5 (bu (FW (pv 0) L.aB.cl L.d1 (gZ L) (aG (pv 1))))
  (a9 (ay (cp j (cp j (aM (pv 0) rfl) (pv 1) (λ_ _=>rfl)) (pv 2) (λ_ _=>rfl))))),?_⟩
 try dsimp only[dj,di,b0,b6]
 refine⟨_,rfl,x,f,_,rfl,i,BP _ _ _ _ (by decide+kernel) (by decide+kernel) (by decide+kernel) (by decide+kernel),_,rfl,x,p,g,r,ss,ls,rfl,B,e,?_⟩;have l:=dG.k (k:=(wav p:Key)) t;rw[y]at l;have m:=dG.k (k:=(wav (⟨#[c]⟩:Str):Key)) (v _ ha);rw[DG hc]at m;exact⟨_,rfl,x,L.az,f,_,_,rfl,i,L.aB.cl,L.aB.jR,jF g b d q,_,rfl,d,_,rfl,l,_,rfl,a,_,rfl,m,k⟩
theorem yI(L:Lk K mg):aO P w K mg base cP 3 L.ri L.rD ["band","place"] (Cd L.az):=by
 refine L.lX.F.dq (N:=["band","place","ends"]) (λI A outer s H X Q E nd Y h=>?_);obtain⟨x,p,g,u,ss,ls,rfl,B,J,M,k⟩:=h
 refine⟨_,(a5 (cW (i:=2) rfl (au ["band","place"] [0,1]) nd rfl rfl (ng (aM (pv 0) rfl)) (λ_ _ _ _ _ _=>aY) (λ_ _ _ _ _ _=>(FW (pv 1) L.aB.cl L.eK (gC L) (a8 (pv 2) (aG (pv 0))))))
  (a9 (ay (bS rfl (au [] []) (aK (pv 2)) (λ_ _ _ _ _ _=>gg (cq xZ (pv 0) du)) (λ_ _ _ _ _ _=>(pv 0)))))),?_⟩
 try dsimp only[dj,di,b0,b6]
 obtain⟨⟨O,b,d,q,Z,R,h2,h3,h4,h5,h6⟩,pm,_,_⟩:=id B;refine⟨_,rfl,x,L.az,O,_,_,rfl,R,L.aB.cl,L.aB.iS,eI g b d q,g,rfl,λl hl=>?_⟩;refine comp_map (VJ u ss p) (ie g) hl (by rw[nq];exact aq (by lia)) (λ_ _=>trivial) (λz C D S n e=>?_) (λC n a=>?_)
 ·obtain⟨c,hc,rfl⟩:=waa.mp S;have G:=B.same n;obtain⟨⟨o,_,_,_,_,r,_⟩,_⟩:=id G;exact⟨_,rfl,x,o,_,rfl,r,BP _ _ _ _ (by decide+kernel) (by decide+kernel) (by decide+kernel) (by decide+kernel),_,rfl,_,rfl,x,p,c,g,u,ss,ls,rfl,G,J,hc,e C (a7.refl _)⟩
 ·rw[EV]at a;refine⟨_,rfl,l,rfl,⟨_,aE.of a⟩,λT f=>?_⟩;refine df C9 (λv=>v) (aI K l _) f (by rw[wa0,aR];exact aq (by lia)) (λH' U=>aE.of (U _ _ a)) (λy j D V t e=>⟨_,rfl,rfl,_,rfl,e j (a7.refl _)⟩) (λy j D V _ t e=>⟨_,rfl,e j (a7.refl _)⟩) (λj t m=>?_);rw[wdQ,zO]at m;exact k T j (n.trans t) (none_of n f) m
theorem Ar(L:Lk K mg):aO P w K mg base cP 4 L.uF L.uM ["band"] (EW L.az):=by
 refine L.nJ.F.dq (N:=["band","ends","place"]) (λgX A outer s H vs Q E nd hr h=>?_);obtain⟨x,g,U,ss,ls,rfl,B,X,yH,k⟩:=h;have hu:=ez hr
 refine⟨_,(a5 (ag (i:=1) eu)
  (a5 (forA (aK (Af (pv 0) L.aB.cl L.j4 (vc L))) (ax (i:=2)) (a9 (eB hu (pv 1) (pv 2) (ai (yI L) L.lX (a8 (pv 0) (aG (pv 2)))) rfl)))
  (a9 (ay (pv 1))))),?_⟩
 try dsimp only[dj,di,b0,b6]
 refine λn r=>?_;have R:a7 H (upd H n (.dK [])):=a7.upd r;have B0:=B.same R;obtain⟨⟨dx,b,d,q,mv,h1,h2,h3,h4,h5,h6⟩,pm,_,_⟩:=id B0;refine⟨_,rfl,x,dx,_,rfl,h1,BP _ _ _ _ (by decide+kernel) (by decide+kernel) (by decide+kernel) (by decide+kernel),x,g,U,ss,ls,rfl,B0,λlp S G f1 I=>?_⟩;have Y:lp≠n:=λz=>by rw[z,a6]at f1;cases f1
 have nd:=B.nd
 refine⟨lp,rfl,⟨_,aE.of I⟩,eh (K:=K) (a:=lp) (xs:=ss.map V.str) (λi σ T=>∃Z l,σ=[some (.ref x),some (.ref n),Z]/\T n=some (.dK (bT l))/\l.map (·.1)=ss.take i/\(∀m∈l,T m.2=some (.lst ((f7 g U ss m.1).map V.str)))/\(∀m∈l,S m.2=none)/\(∀c o,S c=some o->c≠n->T c=some o))
  ⟨none,[],rfl,G _ _ a6,rfl,λm t=>(nomatch t),λm t=>(nomatch t),λc o e _=>e⟩ (λi σ T _ ⟨_,_,_,_,_,_,_,D⟩=>aE.of (D _ _ I Y)) ?_ ?_⟩
 ·rintro i y σ H5 hy ⟨Z,l,rfl,u,f,j,v,D⟩;obtain⟨p,Qm,rfl,hi,D0,pF⟩:=gu hy;have Tq:a7 H H5:=λc o e=>D _ _ (G _ _ (R _ _ e)) (af e r);refine⟨_,rfl,_,rfl,x,p,g,U,ss,ls,rfl,B.same Tq,D0,X,λe H6 s6 C Yl=>?_⟩;have d6:=s6 _ _ u;have J:p∉l.map (·.1):=by rw[f];exact ir nd Qm
  have Tr:l.length<=900:=by have:=congrArg wdu f;rw[wa0,wak]at this;lia
  refine⟨_,rfl,_,rfl,n,_,rfl,kQ.k (k:=wav p) d6 (by unfold bT;rw[wa0];exact bF (by lia)),?_⟩;have M:e≠n:=λz=>by rw[z,u]at C;cases C
  have e1:S e=none:=by
   cases q:S e with
   |none=>rfl
   |some o=>
    have:=D _ _ q M;rw[this]at C;cases C
  refine⟨_,l++[(p,e)],rfl,?_,?_,?_,?_,?_⟩
  ·rw[a6,eZ _ (nk J)];unfold bT;rw[wal];rfl
  ·rw[wal,f,pF];rfl
  ·intro m t;rcases waC.mp t with z |z
   ·have nm:m.2≠n:=λq=>by
     have:=v m z;rw[q,G _ _ a6]at this;cases this
    rw[ae nm];exact s6 _ _ (j m z)
   ·have:m=(p,e):=by simpa using z
    subst this;rw[ae M];exact Yl
  ·intro m t;rcases waC.mp t with z |z
   ·exact v m z
   ·have:m=(p,e):=by simpa using z
    subst this;exact e1
  ·intro c o hc O;rw[ae O];exact s6 _ _ (D c o hc O)
 ·rintro σ H5 ⟨Z,l,rfl,u,f,j,v,D⟩;rw[wa0,waG]at f;exact⟨_,rfl,k n l H5 (λc o e=>D _ _ (G _ _ (R _ _ e)) (af e r)) r u f j λm t=>none_of R (none_of G (v m t))⟩
inductive Ym(g:Str)(ws ss:List Str)(ev:List (Str×Addr))(o:Obj)(x de lt:Addr)(n:Int)(H:Hp)(i:Nat)(σ:St)(H4:Hp):Prop
 |mk (ts:List Addr) (dc:Addr) (v4 v6 v7:Option V) (_:σ=[some (.ref x),some (.int n),some (.ref de),some (.ref dc),v4,some (.ref lt),v6,v7]) (_:ts.length=i+1) (_:ts[i]?=some dc) (_:H4 lt=some (.lst (ts.map V.ref))) (_:∀j t,ts[j]?=some t->H4 t=some (.dK (ER g ws ss j))) (_:H4 de=some (.frz o (.dK (bT ev)))) (_:∀m∈ev,H4 m.2=some (.lst ((f7 g ws ss m.1).map V.str))) (_:a7 H H4)
theorem eD(L:Lk K mg):aO P w K mg base cP 5 L.lB L.lM ["band","length"] (K5 L.az):=by
 have T:=L.T;refine L.cN.F.dq (N:=["band","length","ends","counts","place","table","step","longer"]) (λgX A outer s H vs Q E nd hr h=>?_);obtain⟨x,n,g,G,ss,ls,rfl,B,Be,yH,hn0,hn1,k⟩:=h;have hu:=ez hr
 refine⟨_,(a5 (ag (i:=2) (ai (Ar L) L.nJ (aG (pv 0))))
  (a5 (ag (i:=3) eu)
  (a5 (forA (sG (pv 2)) (ax (i:=4)) (a9 (eB hu (pv 3) (pv 4) aj rfl)))
  (a5 (ag (i:=5) (ck (aG (pv 3))))
  (a5 (forA (d8 rfl T.range (aG (pv 1))) (ax (i:=6)) (a5 (ag (i:=7) eu)
  (a5 (forA (sG (pv 2)) (ax (i:=4)) (a9 (eB hu (pv 7) (pv 4) (aP (je rfl) (by rfl) T.sum BX (aG (bS rfl (au ["counts"] [3]) (aK (cp hu (pv 2) (pv 4) (λ_ _=>rfl))) (λ_ _ _ _ _ _=>aY) (λ_ _ _ _ _ _=>(cp hu (pv 1) (pv 0) (λ_ _=>rfl)))))) rfl)))
  (a5 (bu (iL waN waV wb2 cK (pv 5) (aG (pv 7))))
  (a9 (ag (i:=3) (pv 7)))))))
  (a9 (ay (pv 5)))))))),?_⟩
 try dsimp only[dj,di,b0,b6]
 have nd:=B.nd;have he:("":Str)∈ss:=B.pm.mem_iff.mpr (bb G);refine⟨_,rfl,x,g,G,ss,ls,rfl,B,Be,yH,λd q H1 s1 Ts h1 ek er ef=>?_⟩;refine λl v=>?_;have Z:d≠l:=af h1 v;have I:((bT q).map λkv=>kV kv.1)=ss.map V.str:=by rw[ik,ek]
 have Yn:∀m∈q,m.2≠d:=λm r z=>by have:=er m r;rw[z,h1]at this;cases this
 refine⟨_,rfl,d,_,rfl,.inl ⟨(a7.upd v) _ _ h1,λo=>?_⟩⟩;have J:=jf d o (bT q);rw[I]at J;have S:(upd (upd H1 l (.dK [])) d (.frz o (.dK (bT q)))) l=some (.dK []):=by rw[ae (wbs Z),a6]
 have U:(upd (upd H1 l (.dK [])) d (.frz o (.dK (bT q)))) d=some (.frz o (.dK (bT q))):=a6
 have sz:a7 H (upd (upd H1 l (.dK [])) d (.frz o (.dK (bT q)))):=λc u e=>by
  rw[ae (af e Ts)];exact a7.upd v _ _ (s1 _ _ e)
 have X:∀m∈q,(upd (upd H1 l (.dK [])) d (.frz o (.dK (bT q)))) m.2=some (.lst ((f7 g G ss m.1).map V.str)):=λm r=>by
  rw[ae (Yn m r)];exact a7.upd v _ _ (er m r)
 have f0:H l=none:=none_of s1 v;generalize upd (upd H1 l (.dK [])) d (.frz o (.dK (bT q)))=Hz at S U sz X;have Tu:∀m∈q,m.2≠l:=λm r z=>by have:=X m r;rw[z,S]at this;cases this
 refine kR J (λi σ H3=>∃v4,σ=[some (.ref x),some (.int n),some (.ref d),some (.ref l),v4,none,none,none]/\H3 l=some (.dK (pT (λp=>.int (dY g G ss 0 p)) (ss.take i)))/\∀c u,Hz c=some u->c≠l->H3 c=some u) ⟨none,rfl,S,λc u e _=>e⟩ (λi σ H3 _ ⟨_,_,_,b⟩=>b _ _ U Z) ?_ ?_
 ·rintro i y σ H3 hy ⟨v4,rfl,h3,b⟩;obtain⟨p,Qm,rfl,hi,D0,pF⟩:=gu hy;refine⟨_,rfl,_,rfl,l,_,rfl,kQ.k (k:=wav p) h3 (by rw[zP,wak];exact bF (by lia)),?_⟩;refine⟨_,rfl,?_,λc u e hc=>by rw[ae hc];exact b c u e hc⟩;rw[a6,eZ _ (xf _ (ir nd Qm)),pF,xg];rfl
 rintro σ H3 ⟨v4,rfl,h3,b⟩;rw[wa0,waG]at h3;have s3:a7 H H3:=λc u e=>b _ _ (sz _ _ e) (af e f0);have Tv:=b _ _ U Z;have RF:∀m∈q,H3 m.2=some (.lst ((f7 g G ss m.1).map V.str)):=λm r=>b _ _ (X m r) (Tu m r);clear b S U sz X J v h1 er;refine⟨_,rfl,by show 1<=sizeLine;decide,λlt C=>?_⟩;have flt:H lt=none:=none_of s3 C
 refine⟨_,rfl,n,rfl,by lia,by lia,da (lo:=0) (n:=n.toNat) (Ym g G ss q o x d lt n H)
  ⟨[l],l,_,none,none,rfl,rfl,rfl,a6,?_,a7.upd C _ _ Tv,λm r=>a7.upd C _ _ (RF m r),s3.trans (a7.upd C)⟩ ?_ ?_⟩
 ·intro j t R
  cases j with
  |zero=>
   obtain rfl:l=t:=wae R;exact a7.upd C _ _ h3
  |succ j=>simp at R
 ·rintro i σ H4 hi ⟨ts,dc,v4,v6,v7,rfl,M,RG,Tw,Y,D,LD,s4⟩;refine λdl Iu=>?_;have sd:a7 H4 (upd H4 dl (.dK [])):=a7.upd Iu;have Yo:=Y i dc RG;have J:=jf d o (bT q);rw[I]at J;have nle:d≠dl:=af D Iu;refine⟨_,rfl,d,_,rfl,.inr ⟨o,sd _ _ D,?_⟩⟩;refine kR J (λj σ H5=>∃v4,σ=[some (.ref x),some (.int n),some (.ref d),some (.ref dc),v4,some (.ref lt),some (.int (0+(i:Int))),some (.ref dl)]/\H5 dl=some (.dK (pT (λp=>.int (dY g G ss (i+1) p)) (ss.take j)))/\∀c u,H4 c=some u->H5 c=some u) ⟨_,rfl,a6,λc u e=>sd _ _ e⟩ (λj σ H5 _ ⟨_,_,_,b⟩=>b _ _ D) ?_ ?_
  ·rintro j y σ H5 hy ⟨v4,rfl,h5,b⟩;obtain⟨p,Oa,rfl,hj,D0,pF⟩:=gu hy;obtain⟨a,ha,hv⟩:=i3 (mv:=q) (k:=p) (by rw[ek];exact D0);have e1:=dG.f (k:=(wav p:Key)) (b _ _ D);rw[hv]at e1;have VU:=b _ _ (LD _ ha);have Tx:=b _ _ Yo;have el:=Ca g G ss p;refine⟨_,rfl,_,rfl,d,_,rfl,e1,a,rfl,⟨_,aE.of VU⟩,λlm Yp=>?_⟩;refine comp_map (K4 (dY g G ss i)) (aI K a ((f7 g G ss p).map V.str)) Yp (by rw[wa0];exact aq (by lia)) (λH' s'=>aE.of (s' _ _ VU)) (λz H6 Q' hz s6 qq=>?_) (λH6 s6 h6=>?_)
   ·obtain⟨t,R,rfl⟩:=waa.mp hz;have e2:=dG.k (k:=(wav t:Key)) (s6 _ _ Tx);rw[kZ _ (Cb he R)]at e2;exact⟨_,rfl,_,rfl,dc,_,rfl,e2,qq H6 (a7.refl _)⟩
   ·rw[pU]at h6;refine⟨lm,_,rfl,aE.of h6,?_⟩;have Yq:=s6 _ _ h5;refine⟨_,rfl,_,rfl,dl,_,rfl,kQ.k (k:=wav p) Yq (by rw[zP,wak];exact bF (by lia)),?_⟩;refine⟨_,rfl,?_,λc u e=>by rw[ae (af e Iu)];exact s6 _ _ (b c u e)⟩;rw[a6,eZ _ (xf _ (ir nd Oa)),pF,xg];rfl
  rintro σ H5 ⟨v4',rfl,h5,b⟩;rw[wa0,waG]at h5;have O:=b _ _ Tw;refine⟨_,rfl,.inl ⟨rfl,_,aE.of O⟩,_,rfl,lt,_,_,rfl,rfl,O,by rw[wa0];exact wbc (m:=200000) (by lia) (by rw[wc5];decide),?_⟩;have Yr:∀t,H5 t=some (.dK (ER g G ss (i+1)))->t≠lt:=λt e z=>by rw[z,O]at e;cases e
  refine⟨_,rfl,ts++[dl],dl,_,_,_,rfl,by rw[wa7,M];rfl,by rw[waq (by lia),M,wbn];rfl,by rw[a6,wal];rfl,?_,?_,?_,?_⟩
  ·intro j t R
   by_cases hj:j<ts.length
   ·rw[waB hj]at R;have e:=b _ _ (Y j t R);rw[ae (λz=>by rw[z,O]at e;cases e)];exact e
   ·have Tz:j=i+1:=by
     have:=(wa5.mp R).1;rw[wa7,wcx]at this
     lia
    subst Tz;rw[waq (by lia),M,wbn]at R;obtain rfl:dl=t:=wae R;rw[ae (Yr _ h5)];exact h5
  ·have e:=b _ _ D;rw[ae (λz=>by rw[z,O]at e;cases e)];exact e
  ·intro m r;have e:=b _ _ (LD m r)
   by_cases z:m.2=lt
   ·exfalso;have f:=RF m r;rw[z,C]at f;cases f
   ·rw[ae z];exact e
  ·exact λc u e=>by rw[ae (af e flt)];exact b _ _ (s4 _ _ e)
 ·rintro σ H4 ⟨ts,dc,v4,v6,v7,rfl,M,RG,Tw,Y,D,LD,s4⟩;exact⟨_,rfl,k lt ts H4 s4 flt Tw M Y⟩
theorem w4(L:Lk K mg):aO P w K mg base cP 6 L.oz L.oM ["band","place","length"] (Hu L.az):=by
 refine L.jU.F.dq (N:=["band","place","length"]) (λy A outer s H T Q E nd C h=>?_);obtain⟨x,p,n,g,r,ss,ls,rfl,B,u,e,f,i,j,k⟩:=h;have D:=ez C
 refine⟨_,(a5 (bu (FW (pv 0) L.aB.cl L.d1 (gZ L) (aG (pv 1))))
  (a9 (ay (cp D (aX aW (ai (eD L) L.cN (a8 (pv 0) (aG (pv 2)))) (OO Mi aj) (λ_ _=>rfl)) (pv 1) (λ_ _=>rfl))))),?_⟩
 try dsimp only[dj,di,b0,b6]
 obtain⟨⟨G,b,d,q,U,I,X,Y,Z,h5,h6⟩,_,_,_⟩:=id B;refine⟨_,rfl,x,G,_,rfl,I,BP _ _ _ _ (by decide+kernel) (by decide+kernel) (by decide+kernel) (by decide+kernel),_,rfl,x,p,g,r,ss,ls,rfl,B,u,?_⟩;refine⟨_,rfl,_,rfl,x,n,g,r,ss,ls,rfl,B,e,f,i,j,λl m J M f1 hl a O=>?_⟩;obtain⟨c,t,rfl⟩:∃l t,m=l++[t]:=⟨m.dropLast,m.getLast (by intro z;rw[z]at a;simp at a),(wdi _).symm⟩;have R:rT ((c++[t]).map V.ref) (-1)=some (.ref t):=by rw[wal];exact Gi _ _
 have o:c.length=n.toNat:=by rw[wa7,wcx]at a;lia
 have S:=O n.toNat t (by rw[waq (by lia),o,wbn];rfl);have v:=dG.k (k:=(wav p:Key)) S;rw[kZ _ u]at v;exact⟨_,rfl,l,_,-1,_,rfl,rfl,aE.of hl,R,_,rfl,t,_,rfl,v,k J M⟩
theorem As(L:Lk K mg):aO P w K mg base cP 7 L.E1 L.E3 ["band","length"] (K6 L.az):=by
 refine L.sO.F.dq (N:=["band","length"]) (λf A outer s H j Q E nd l h=>?_);obtain⟨x,n,g,e,ss,ls,rfl,B,a,b,c,d,k⟩:=h;refine⟨_,(a9 (ay (ai (w4 L) L.jU (a8 (pv 0) (a8 cI (aG (pv 1))))))),?_⟩
 try dsimp only[dj,di,b0,b6]
 have i:("":Str)∈ss:=B.pm.mem_iff.mpr (bb e);exact⟨_,rfl,_,rfl,x,"",n,g,e,ss,ls,rfl,B,i,a,b,c,d,k⟩
theorem iY(L:Lk K mg):aO P w K mg base cP 1 L.uG L.uN ["thing"] Hk:=by
 have T:=L.T;refine L.fV.F.dq (N:=["thing"]) (λa A outer s H b Q E nd c h=>?_);obtain⟨i,rfl,k⟩:=h;refine⟨_,(a9 (ay (Bi (aP cf (by rfl) T.Jd vM (a8 (pv 0) (aG (gf (v:=.ty "int") (by rfl) T.int PY rfl)))) (Bh (G4 (aP cf (by rfl) T.Jd vM (a8 (pv 0) (aG (gf (v:=.ty "bool") (by rfl) T.bool Lq rfl))))))))),?_⟩
 try dsimp only[dj,di,b0,b6]
 refine⟨_,rfl,_,_,_,true,rfl,ic.int i,rfl,true,rfl,eE ?_⟩;exact⟨_,rfl,_,_,_,false,rfl,ic.int i,rfl,false,rfl,k⟩
theorem Au(L:Lk K mg):aO P w K mg base cP 1 L.uI L.uP ["band","wide"] (EX L.az):=by
 have T:=L.T;refine L.nK.F.dq (N:=["band","wide","rows","step"]) (λf A outer s H r Q E nd t h=>?_);obtain⟨x,n,g,u,ss,ls,rfl,B,j,l,m,k⟩:=h
 refine⟨_,(a5 (ag (i:=2) aj)
  (a5 (forA (d8 rfl T.range (aG (pv 1))) (ax (i:=3)) (a9 (kK (i:=2) nd rfl (wd3 rfl) (Ae T.len (aM (pv 0) rfl)) Hj)))
  (a9 (ay (pv 2))))),?_⟩
 try dsimp only[dj,di,b0,b6]
 obtain⟨⟨o,b,d,q,v,p,y,z,C,D,G⟩,_,_,_⟩:=id B;refine⟨_,rfl,n,rfl,by lia,by lia,da (lo:=0) (n:=n.toNat) (λi σ a=>a=H/\∃c,σ=[some (.ref x),some (.int n),some (.int ((g.length:Int)^i)),c]) ⟨rfl,none,rfl⟩ ?_ ?_⟩
 ·rintro i σ a hi ⟨e,c,rfl⟩;rw[e];refine⟨_,rfl,_,rfl,x,L.az,o,_,_,rfl,p,L.aB.cl,L.aB.iS,eI g b d q,g,rfl,aq (by lia),_,_,rfl,rfl,.inr ⟨by lia,by lia⟩,rfl,some (.int (0+(i:Int))),?_⟩;rw[wfv];rfl
 ·rintro σ a ⟨e,c,rfl⟩;rw[e];exact⟨_,rfl,k⟩
theorem D1(L:Lk K mg):aO P w K mg base cP 2 L.xF L.xJ ["band","many","wide"] (zQ L.az):=by
 refine L.qh.F.dq (N:=["band","many","wide"]) (λc A outer s H f Q E nd i h=>?_);obtain⟨x,many,wide,g,d,ss,ls,rfl,B,a,b,k⟩:=h
 refine⟨_,(a5 (bj (PW.pt (ee (cS (bZ (ai (iY L) L.fV (aG (pv 1))))) (ee (cq gW (pv 1) aj) (fI (cq kL (pv 1) aj))))) (a9 (ay iJ)) aH)
  (a5 (bj (PW.pt (ee (cS (bZ (ai (iY L) L.fV (aG (pv 2))))) (ee (cq gW (pv 2) aj) (fI (cq kL (pv 2) aj))))) (a9 (ay iJ)) aH)
  (a9 (ay (cT Gd (ai (Au L) L.nK (a8 (pv 0) (aG (pv 2)))) aj (gE _)))))),?_⟩
 try dsimp only[dj,di,b0,b6]
 obtain⟨ha,j,hc,hd,e⟩:=id b;refine⟨_,rfl,many,rfl,true,rfl,bx ?_⟩;refine⟨_,rfl,_,_,rfl,rfl,false,congrArg V.bl (decide_eq_false (by lia)),bx ?_⟩;refine⟨_,rfl,_,_,rfl,rfl,false,congrArg V.bl (decide_eq_false (by lia)),bx ?_⟩;refine⟨_,rfl,wide,rfl,true,rfl,bx ?_⟩;refine⟨_,rfl,_,_,rfl,rfl,false,congrArg V.bl (decide_eq_false (by lia)),bx ?_⟩;refine⟨_,rfl,_,_,rfl,rfl,false,congrArg V.bl (decide_eq_false (by lia)),bx ?_⟩;refine⟨_,rfl,_,rfl,x,wide,g,d,ss,ls,rfl,B,a,by lia,by lia,_,_,rfl,rfl,?_⟩;show Q (V.bl (decide ((g.length:Int)^wide.toNat<=64))) H;rw[decide_eq_true e];exact k
theorem gp(L:Lk K mg):aO P w K mg base cP 3 L.oC L.oQ ["band","many","wide"] (zQ L.az):=by
 refine L.dN.F.dq (N:=["band","many","wide"]) (λc A outer s H e Q E nd f h=>?_);obtain⟨x,many,wide,g,d,ss,ls,rfl,B,a,b,k⟩:=h
 refine⟨_,(a5 (bj (cS (bZ (ai (D1 L) L.qh (a8 (pv 0) (a8 (pv 1) (aG (pv 2))))))) cJ aH)
  (a9 (ay iJ))),?_⟩
 try dsimp only[dj,di,b0,b6]
 exact⟨_,rfl,_,rfl,_,rfl,x,many,wide,g,d,ss,ls,rfl,B,a,b,true,rfl,bx k⟩
theorem Fv(L:Lk K mg):aO P w K mg base cP 6 L.Aj L.An ["band","many","wide","most"] (F5 L.az):=by
 have T:=L.T;refine L.uU.F.dq (N:=["band","many","wide","most","table","rows_of_data","length"]) (λgX A outer s H vs Q E nd hr h=>?_);obtain⟨x,many,wide,most,g,m,ss,ls,rfl,B,q,D,r,VW,Ys,Z⟩:=h;have k1:∀k:Nat,1<=k->(k:Int)<=most->dY g m ss (k*wide.toNat) "" < many^k->(∀j:Nat,1<=j->j<k->¬dY g m ss (j*wide.toNat) "" < many^j)->∀f,a7 H f->Q (.int (k:Nat)) f:=λk a b c d f G=>Z _ f G (.some k a b c d);have k2:(∀j:Nat,1<=j->(j:Int)<=most->¬dY g m ss (j*wide.toNat) "" < many^j)->∀f,a7 H f->Q .non f:=λa f G=>Z _ f G (.none a);have hu:=ez hr
 refine⟨_,(a5 (bu (ai (gp L) L.dN (a8 (pv 0) (a8 (pv 1) (aG (pv 2))))))
  (a5 (ag (i:=4) (ai (eD L) L.cN (a8 (pv 0) (aG (aN jB (pv 3) (pv 2))))))
  (a5 (ag (i:=5) aj)
  (a5 (forA (pI rfl T.range (a8 aj (aG (aN gD (pv 3) aj)))) (ax (i:=6)) (a5 (kK (i:=5) nd rfl (wd3 rfl) (pv 1) Hj)
  (a9 (bj (cq gW (cp hu (aX aW (pv 4) (aN jB (pv 6) (pv 2)) (λ_ _=>rfl)) cI (λ_ _=>rfl)) (pv 5)) (a9 (ay (pv 6))) aH))))
  (a9 (ay du)))))),?_⟩
 try dsimp only[dj,di,b0,b6]
 have he:("":Str)∈ss:=B.pm.mem_iff.mpr (bb m);obtain⟨ha,hb,hc,hd,_⟩:=id r;obtain⟨e,t⟩:∃w:Nat,wide=(w:Int):=⟨wide.toNat,by lia⟩;obtain⟨u,I⟩:∃w:Nat,most=(w:Int):=⟨most.toNat,by lia⟩;have o:most*wide=((u*e:Nat):Int):=by rw[t,I,wdB]
 have bmw:u*e<=600:=by
  have p:u<=100:=by lia
  have h2:e<=6:=by lia
  exact wai (wdj p h2) (by decide)
 have ew:wide.toNat=e:=by lia
 rw[ew]at k1 k2;refine⟨_,rfl,_,rfl,_,rfl,x,many,wide,g,m,ss,ls,rfl,B,q,r,?_⟩;refine⟨_,rfl,_,rfl,_,rfl,_,_,rfl,rfl,.inl ⟨by lia,by lia⟩,x,most*wide,g,m,ss,ls,rfl,B,q,D,by rw[o];lia,by rw[o];lia,λl J M s1 f1 hl O ht=>?_⟩;rw[o,waA]at O;refine⟨_,rfl,_,_,rfl,rfl,1,most+1,rfl,⟨by lia,by lia,by lia,by lia⟩,da (lo:=1) (n:=(most+1-1).toNat) (λi σ R=>R=M/\(∃v6,σ=[some (.ref x),some (.int many),some (.int wide),some (.int most),some (.ref l),some (.int (many^i)),v6])/\∀j:Nat,1<=j->j<=i->¬dY g m ss (j*e) "" < many^j) ⟨rfl,⟨none,by rw[Int.pow_zero];rfl⟩,λj p h2=>by lia⟩ ?_ ?_⟩
 ·rintro i σ R hi ⟨S,⟨v6,rfl⟩,lo⟩;rw[S];have U:i+1<=u:=by lia
  have VX:(i+1)*e<=u*e:=wet _ U;have v:(i+1)*e<J.length:=by lia
  have e1:(J.map V.ref)[(i+1)*e]?=some (.ref J[(i+1)*e]):=by rw[wa4,wa1 v];rfl
  have y:=bB e1;have ei:((((i+1)*e:Nat)):Int)=(1+(i:Int))*wide:=by rw[t,wdB,wci,Int.add_comm];rfl
  rw[ei]at y;have X:=ht _ _ (wa1 v);have e3:=dG.k (k:=(wav "":Key)) X;rw[kZ _ he]at e3;refine⟨_,rfl,_,rfl,_,_,rfl,rfl,.inr ⟨by lia,by lia⟩,?_⟩;refine⟨_,rfl,_,rfl,_,rfl,_,_,rfl,rfl,.inr ⟨by lia,by lia⟩,l,_,_,_,rfl,rfl,aE.of hl,y,_,_,rfl,e3,_,rfl,_,_,rfl,rfl,_,rfl,?_⟩;refine By (λp=>?_) (λp=>⟨rfl,⟨_,by rw[wfv];rfl⟩,λj C q2=>?_⟩)
  ·have Y:=of_decide_eq_true p;have:=k1 (i+1) (by lia) (by lia) (by rw[wfv];exact Y) (λj C q2=>lo j C (by lia)) M s1;rw[show (((i+1:Nat):Nat):Int)=1+(i:Int) by lia]at this;exact⟨_,rfl,this⟩
  ·by_cases hj:j<=i
   ·exact lo j C hj
   ·obtain rfl:j=i+1:=by lia
    rw[wfv];exact λz=>p (decide_eq_true z)
 ·rintro σ R ⟨S,⟨v6,rfl⟩,lo⟩;rw[S];exact k2 (λj C q2=>lo j C (by lia)) M s1
theorem rY(L:Lk K mg):aO P w K mg base cP 1 L.lG L.lR ["line"] (HB K):=by
 refine L.iD.F.dq (N:=["line"]) (λo A outer s H D Q E nd c h=>?_);obtain⟨v,p,rfl,t,hn,k⟩:=h;refine⟨_,(a9 (ay (gw rfl (au [] []) (au [] []) (by decide) (aK (pv 0)) (λ_ _ _ _ _ _=>aY) (λ_ _ _ _ _ _=>(dW (a8 (pv 0) (aG (pv 1)))))))),?_⟩
 try dsimp only[dj,di,b0,b6]
 obtain⟨a,u,rfl,j,b,x⟩:=nA t;have d:=b;rw[wa0]at d;refine⟨_,rfl,a,rfl,⟨_,j⟩,λl hl=>?_⟩;refine my (prs:=p.map eO) (λ_=>true) (λq=>.tup [.at q.1,.at q.2]) (aI K a u) b (λi q e=>let ⟨r,y,B⟩:=x i q e;⟨r,y,hZ.of B⟩) hl (aq (by lia)) (λm f=>f.seq j) (λq n C _ _ g=>g n (a7.refl _)) (λq n C e _ G g=>?_) (λm f r=>?_)
 ·obtain⟨z,I,rfl⟩:=waa.mp e;exact⟨_,rfl,_,rfl,by show 2<=sizeLine;decide,λr c=>g _ _ (a7.upd c) (om c z)⟩
 ·rw[wb6.mpr (λ_ _=>rfl),waf]at r;exact k _ m f r
theorem fA(L:Lk K mg):aO P w K mg base cP 2 L.fU L.jn ["self","homes","weights","lines"] (HC K L.aw):=by
 have T:=L.T;refine L.cO.F.dq (N:=["self","homes","weights","lines"]) (λgX A outer s H vs Q E nd hr h=>?_);obtain⟨x,j,u,v,w,C,D,t,rfl,J,Z,TB,LI,n1,n2,n3,n4,k⟩:=h
 refine⟨_,(a5 (cU (pv 0) (bE cA (by rfl) T.list iN (aG (pv 1))) rfl)
  (a5 (cU (pv 0) (bE cA (by rfl) T.list iN (aG (pv 2))) rfl)
  (a9 (cU (pv 0) (bS rfl (au [] []) (aK (pv 3)) (λ_ _ _ _ _ _=>aY) (λ_ _ _ _ _ _=>(ai (rY L) L.iD (aG (pv 0))))) rfl)))),?_⟩
 try dsimp only[dj,di,b0,b6]
 obtain⟨a,rfl,ha⟩:=Hy Z;obtain⟨b,rfl,hb⟩:=iw TB;obtain⟨c,xs,rfl,hc,M⟩:=LI;have xl:xs.length=t.length:=by rw[M.len,wa0]
 have l:∀{d:Addr} {ys:List V} {H':Hp},aE K H d ys->(∀b o,H b=some o->b≠x->H' b=some o)->aE K H' d ys:=λhS kp=>(gj kp).seq (yr J hS);refine⟨_,rfl,a,_,rfl,.inl ha,λf B=>?_⟩;have m:x≠f:=af J B;refine⟨_,rfl,x,L.aw,j,[],rfl,by rw[ae m];exact J,L.av.cl,L.av.hU,(show 0<1000 by decide),?_⟩;rw[Lw];have X:∀d o,H d=some o->d≠x->(upd (upd H f (.lst (C.map V.str))) x (.ins L.aw j (qS f))) d=some o:=λd o e hd=>by rw[ae hd];exact a7.upd B _ _ e
 have x1:(upd (upd H f (.lst (C.map V.str))) x (.ins L.aw j (qS f))) x=some (.ins L.aw j (qS f)):=a6;have a1:(upd (upd H f (.lst (C.map V.str))) x (.ins L.aw j (qS f))) f=some (.lst (C.map V.str)):=by rw[ae m.symm,a6]
 generalize upd (upd H f (.lst (C.map V.str))) x (.ins L.aw j (qS f))=O at X x1 a1 ⊢;refine⟨_,rfl,b,_,rfl,.inl (l hb X),λg n=>?_⟩;have p:x≠g:=af x1 n;have Yt:f≠g:=af a1 n
 have TC:H g=none:=by
  cases q:H g with
  |none=>rfl
  |some o=>have:=X _ _ q p.symm;rw[n]at this;cases this
 refine⟨_,rfl,x,L.aw,j,qS f,rfl,by rw[ae p];exact x1,L.av.cl,L.av.cM,(show 1<1000 by decide),?_⟩;rw[HA];have G:∀d o,H d=some o->d≠x->(upd (upd O g (.lst (D.map V.int))) x (.ins L.aw j (oo f g))) d=some o:=λd o e hd=>by rw[ae hd];exact a7.upd n _ _ (X _ _ e hd)
 have Y:(upd (upd O g (.lst (D.map V.int))) x (.ins L.aw j (oo f g))) x=some (.ins L.aw j (oo f g)):=a6;have a2:(upd (upd O g (.lst (D.map V.int))) x (.ins L.aw j (oo f g))) f=some (.lst (C.map V.str)):=by rw[ae m.symm,ae Yt];exact a1
 have b2:(upd (upd O g (.lst (D.map V.int))) x (.ins L.aw j (oo f g))) g=some (.lst (D.map V.int)):=by rw[ae p.symm,a6]
 generalize upd (upd O g (.lst (D.map V.int))) x (.ins L.aw j (oo f g))=H2 at G Y a2 b2 ⊢;have R:=b9.same (gj G) _ _ (b9.off J _ _ M);refine⟨_,rfl,c,rfl,⟨_,l (.inl hc) G⟩,λc' S=>?_⟩;refine uf (K:=K) (t.map bR) (aI K c xs) S (aq (by lia)) (by rw[wa0,xl]) (λH' s'=>s'.seq (l (.inl hc) G)) (λi y d U Q' hy hd I qq=>?_) (λU I r3=>?_)
 ·obtain⟨d',e',r⟩:=R.get i y hy;rw[hd]at e';cases e';rw[wa4]at hd
  cases e:t[i]? with
  |none=>rw[e]at hd;cases hd
  |some qs=>
   rw[e]at hd;cases hd;exact⟨_,rfl,y,qs,rfl,bA.same I _ _ r,n4 qs (wa8 e),λz H4 s4 r4=>qq z H4 s4 r4⟩
 ·have ncx:x≠c':=af Y S;refine⟨_,rfl,x,L.aw,j,oo f g,rfl,I _ _ Y,L.av.cl,L.av.cC,(show 2<1000 by decide),?_⟩;rw[DT];have up:a7 (aF H U) (aF H (upd U x (.ins L.aw j (Cr f g c')))):=bC J λd o e hd=>by rw[ae hd];exact e
  have old:a7 (aF H2 U) (aF H U):=λd o e=>by
   unfold aF at e ⊢
   cases q:H d with
   |none=>
    cases q2:H2 d with
    |none=>rw[q2]at e;exact e
    |some z=>rw[q2]at e;cases e
   |some z=>
    by_cases hd:d=x
    ·rw[hd,Y]at e;cases e
    ·rw[G _ _ q hd]at e;cases e
  refine k f g c' _ a6 ?_ ?_ (bA.same (old.trans up) _ _ r3) λd o e hd=>by rw[ae hd];exact I _ _ (G _ _ e hd)
  ·exact oj ((bK B (by rw[ae m.symm];exact I _ _ a2)))
  ·exact jh ((bK TC (by rw[ae p.symm];exact I _ _ b2)))
theorem kD(L:Lk K mg):aO P w K mg base cP 1 L.lH L.lS ["number","things"] (Kn K):=by
 have T:=L.T;refine L.fm.F.dq (N:=["number","things"]) (λc A outer s H f Q E nd g h=>?_);obtain⟨i,a,b,rfl,d,k⟩:=h;refine⟨_,(a9 (ay (Bi (cT Dt (pv 0) aj (gE _)) (Bh (cT gW (pv 0) (Ig T.len (pv 1)) (gE _)))))),?_⟩
 try dsimp only[dj,di,b0,b6]
 by_cases h0:0<=i
 ·have e:eA i b.length=decide (i<(b.length:Int)):=by unfold eA;rw[decide_eq_true h0,we6]
  rw[e]at k;exact⟨_,rfl,_,_,rfl,rfl,true,congrArg V.bl (decide_eq_true h0),eE ⟨_,rfl,_,rfl,a,b,rfl,.inl d,_,_,rfl,rfl,k⟩⟩
 ·have e:eA i b.length=false:=by unfold eA;rw[decide_eq_false h0,wdh]
  rw[e]at k;exact⟨_,rfl,_,_,rfl,rfl,false,congrArg V.bl (decide_eq_false h0),bx k⟩
theorem mZ(L:Lk K mg):aO P w K mg base (Bd P w) 1 L.oF L.oS ["sheet","many","steps","weight"] (N2 K L.aw L.eT):=by
 have T:=L.T;refine L.cD.F.EK (N:=["sheet","many","steps","weight"]) (λU A outer s H vs Q E nd hr h=>?_);obtain⟨x,many,v,w,hs,c,X,b,rfl,S,Y,Z,t,m0,m1,k⟩:=h
 refine⟨_,(a5 (bj (cq nW (Ig T.len (pv 2)) aj) (a9 (fM cB rfl L.i9 L.fZ rfl L.i7 (aG cI))) aH)
  (a5 (bj (cq gW (pv 3) aj) (a9 (fM cB rfl L.i9 L.fZ rfl L.i7 (aG cI))) aH)
  (a9 (bj (cq gW (aP (je rfl) (by rfl) T.sum BX (aG (gw rfl (au ["sheet"] [0]) (au ["sheet"] [0]) (by decide) (aK (pv 2)) (λ_ _ _ _ _ _=>aY) (λ_ _ _ _ _ _=>(aX (gq (K:=K) rfl) (mr (K:=K) rfl (pv 2) rfl) (pv 1) (λ_ _=>rfl)))))) (aN jB (pv 1) (pv 3))) (a9 (fM cB rfl L.i9 L.fZ rfl L.i7 (aG cI))) aH)))),?_⟩
 try dsimp only[dj,di,b0,b6]
 obtain⟨dx,ah,bw,cl,hx,rh,u,rl⟩:=id S;obtain⟨VY,eb,hb⟩:=iw u;cases eb;obtain⟨a,o,rfl,p,J⟩:=eQ Y;have g:o.length=b.length:=by rw[J.1,wa0,wa0]
 have no:dZ c many b w=false->∀y,a7 H y->E (.ref L.eT) none y:=λh=>by
  rcases k with⟨r,_⟩ |⟨_,i⟩
  ·rw[h]at r;cases r
  ·exact i
 by_cases B:b=[]
 ·subst B;have r0:o=[]:=wbx g;subst r0;exact⟨_,rfl,a,_,rfl,.inl p,rfl,true,C6 _,eE ⟨rfl,no rfl H (a7.refl _)⟩⟩
 have hq1:o.length≠0:=by rw[g];exact λz=>B (wbx z)
 have j:b.isEmpty=false:=by cases b with |nil=>exact absurd rfl B |cons _ _=>rfl
 refine⟨_,rfl,a,_,rfl,.inl p,rfl,false,congrArg V.bl (decide_eq_false λz=>by have:=V.int.inj z;rw[wa0]at this;omega),bx ?_⟩
 by_cases M:w<1
 ·refine⟨_,rfl,_,_,rfl,rfl,true,congrArg V.bl (decide_eq_true M),eE ⟨rfl,no ?_ H (a7.refl _)⟩⟩;unfold dZ;rw[decide_eq_false (show ¬1<=w by omega),wdh,wdV]
 refine⟨_,rfl,_,_,rfl,rfl,false,congrArg V.bl (decide_eq_false M),bx ?_⟩;refine⟨_,rfl,a,rfl,⟨_,p⟩,λlc C=>?_⟩;refine nu (prs:=b.map eO) (λ_=>true) (λq=>match q.2 with |.int e=>.int (c.getD e.toNat 0) |_=>.non) (aI K a (o.map V.ref)) J C (aq (by omega)) (λy s'=>s'.seq p) (λq d O _ _ D=>D d (a7.refl _)) (λq d O hq _ l D=>?_) (λd l R=>?_)
 ·obtain⟨f,G,rfl⟩:=waa.mp hq;have m:=t f G;have I:rT (c.map V.int) (f.2:Int)=some (.int (c.getD f.2 0)):=bB (by rw[wa4,wa1 m,wa3,wa1 m];rfl)
  have q2:O (.int (c.getD f.2 0)) d:=by
   have:=D d (a7.refl _);rwa[show (eO f).2=.int (f.2:Int) from rfl]at this
  exact⟨_,rfl,x,L.aw,dx,_,_,rfl,l _ _ hx,L.av.cl,L.av.cM,cg ah bw cl,_,rfl,bw,_,_,_,rfl,rfl,l.seq hb,I,q2⟩
 have e7:((b.map eO).filter λ_=>true).map (λq=>match q.2 with |.int e=>V.int (c.getD e.toNat 0) |_=>.non)=(b.map λq=>c.getD q.2 0).map V.int:=by
  rw[wb6.mpr (λ_ _=>rfl),waf,waf];rfl
 rw[e7]at R;refine⟨lc,_,rfl,aE.of R,_,rfl,_,rfl,_,_,rfl,rfl,.inl ⟨by omega,by omega⟩,_,_,rfl,rfl,?_⟩
 by_cases n:aZ c b<many*w
 ·refine⟨true,congrArg V.bl (decide_eq_true n),eE ⟨rfl,no ?_ d l⟩⟩;unfold dZ;rw[decide_eq_false (show ¬many*w<=aZ c b by omega),wdV,wdV]
 ·refine⟨false,congrArg V.bl (decide_eq_false n),bx ?_⟩;rcases k with⟨_,r⟩ |⟨i,_⟩
  ·exact r d l
  ·unfold dZ at i;rw[j,decide_eq_true (show 1<=w by omega),decide_eq_true (show many*w<=aZ c b by omega)]at i;cases i
theorem w5(L:Lk K mg):aO P w K mg base cP 1 L.oG L.oU ["line","desk","twin"] (Ko K):=by
 refine L.jZ.F.dq (N:=["line","desk","twin","steps","word","end"]) (λgX A outer s H vs Q E nd u h=>?_);obtain⟨v,d,t,p,rfl,hL,LJ,k⟩:=h
 refine⟨_,(a5 (ag (i:=3) (ck fK))
  (a5 (forA (aK (pv 0)) (dU rfl (aL (ax (i:=4)) (aL (ax (i:=5)) cG))) (a5 (bu (iL waN waV wb2 cK (pv 3) (aG (dW (a8 (pv 4) (aG (pv 5)))))))
  (a9 (bj (cq nW (pv 5) (pv 1)) (a9 (bu (iL waN waV wb2 cK (pv 3) (aG (dW (a8 (pv 4) (aG (pv 2)))))))) aH))))
  (a9 (ay (pv 3))))),?_⟩
 try dsimp only[dj,di,b0,b6]
 obtain⟨a,S,rfl,hS,hT⟩:=eQ hL;have CZ:S.length=p.length:=by rw[hT.1,wa0,wa0]
 refine⟨waJ _,λb M=>?_⟩;have sb:a7 H (upd H b (.lst [])):=a7.upd M;have x:(upd H b (.lst [])) b=some (.lst []):=a6;generalize upd H b (.lst [])=B at sb x;have keep:∀{g:Hp},(∀c o,B c=some o->c≠b->g c=some o)->a7 H g:=λC c o e=>C _ _ (sb _ _ e) (af e M)
 refine⟨_,rfl,a,rfl,⟨_,sb.seq hS⟩,eh (K:=K) (a:=a) (xs:=S.map V.ref) (λj σ g=>∃(v4 v5:Option V) (as:List V),σ=[some (.ref a),some (.int (d:Int)),some (.int (t:Int)),some (.ref b),v4,v5]/\g b=some (.lst as)/\(∀c o,B c=some o->c≠b->g c=some o)/\b9 K (aF B g) ((dS d t (p.take j)).map kh) as)
  ⟨none,none,[],rfl,x,λc o e _=>e,rfl⟩ (λj σ g _ ⟨_,_,_,_,_,C,_⟩=>(keep C).seq hS) ?_ ?_⟩
 ·rintro j y σ g hy ⟨v4,v5,as,rfl,l,C,T⟩;have hj:j<S.length:=by have:=(wa5.mp hy).1;rwa[wa0]at this
  have U:j<p.length:=by lia
  rw[wa4,wa1 hj]at hy;cases hy;have X:H S[j]=some (.tup [.str p[j].1,.int (p[j].2:Int)]):=hT.2 j S[j] (lq (eO p[j])) (wa1 hj) (by rw[wa4,wa4,wa1 U];rfl);have pF:p.take (j+1)=p.take j++[p[j]]:=by rw[waS,wa1 U];rfl
  have VZ:as.length<=2*j:=by
   rw[T.len,wa0];exact wai (qb d t _) (weG 2 (by rw[wak];lia))
  generalize p[j]=q at X pF;refine⟨S[j],_,rfl,hZ.of (keep C _ _ X),rfl,_,_,rfl,_,_,rfl,rfl,?_⟩;refine⟨_,rfl,.inl ⟨rfl,_,aE.of l⟩,_,rfl,_,rfl,by show 2<=sizeLine;decide,λr u=>?_⟩;have I:∀n:Nat,n<=20000->n<sizeLine:=λn hn=>wbc hn (by rw[wc5];decide);have RH:=a7.upd (o:=.tup [.str q.1,.int (q.2:Int)]) u _ _ l;refine⟨b,_,_,rfl,rfl,RH,I _ (by lia),?_⟩;have Y:∀c o,(upd g r (.tup [.str q.1,.int (q.2:Int)])) c=some o->c≠b->(upd (upd g r (.tup [.str q.1,.int (q.2:Int)])) b (.lst (as++[.ref r]))) c=some o:=λc o e hc=>by rw[ae hc];exact e
  have D:∀c o,B c=some o->c≠b->(upd (upd g r (.tup [.str q.1,.int (q.2:Int)])) b (.lst (as++[.ref r]))) c=some o:=λc o e hc=>Y _ _ (a7.upd u _ _ (C c o e hc)) hc
  have r0:B r=none:=by
   cases z:B r with
   |none=>rfl
   |some o=>
    by_cases hc:r=b
    ·rw[hc,l]at u;cases u
    ·rw[C _ _ z hc]at u;cases u
  have O:b9 K (aF B (upd (upd g r (.tup [.str q.1,.int (q.2:Int)])) b (.lst (as++[.ref r])))) ((dS d t (p.take j)).map kh++[kh q]) (as++[.ref r]):=by
   refine i6 (b9.same ((iu (a7.upd u)).trans (bC x Y)) _ _ T) ?_;have R:r≠b:=λz=>by rw[z,l]at u;cases u
   exact⟨r,_,rfl,bK r0 (by rw[ae R,a6]),.str q.1,[.int (q.2:Int)],rfl,⟨rfl,rfl⟩,.int (q.2:Int),[],rfl,⟨rfl,rfl⟩,rfl⟩
  have m:(upd (upd g r (.tup [.str q.1,.int (q.2:Int)])) b (.lst (as++[.ref r]))) b=some (.lst (as++[.ref r])):=a6;generalize upd (upd g r (.tup [.str q.1,.int (q.2:Int)])) b (.lst (as++[.ref r]))=H4 at D O m
  by_cases G:q.2=d
  ·refine⟨_,rfl,_,rfl,rfl,true,congrArg V.bl (decide_eq_true (by rw[G])),eE ?_⟩;refine⟨_,rfl,.inl ⟨rfl,_,aE.of m⟩,_,rfl,_,rfl,by show 2<=sizeLine;decide,λJ f=>?_⟩;have LD:=a7.upd (o:=.tup [.str q.1,.int (t:Int)]) f _ _ m;refine⟨b,_,_,rfl,rfl,LD,I _ (by rw[wa7,wcx];lia),?_⟩;have Z:∀c o,(upd H4 J (.tup [.str q.1,.int (t:Int)])) c=some o->c≠b->(upd (upd H4 J (.tup [.str q.1,.int (t:Int)])) b (.lst (as++[.ref r]++[.ref J]))) c=some o:=λc o e hc=>by rw[ae hc];exact e
   have Yu:B J=none:=by
    cases z:B J with
    |none=>rfl
    |some o=>
     by_cases hc:J=b
     ·rw[hc,m]at f;cases f
     ·rw[D _ _ z hc]at f;cases f
   refine⟨_,_,_,rfl,a6,λc o e hc=>Z _ _ (a7.upd f _ _ (D c o e hc)) hc,?_⟩;rw[pF,ui,if_pos G,wal];have em:([q,(q.1,t)]:List (Str×Nat)).map kh=[kh q]++[kh (q.1,t)]:=rfl;rw[em,<-waP];refine i6 (b9.same ((iu (a7.upd f)).trans (bC x Z)) _ _ O) ?_;have R:J≠b:=λz=>by rw[z,m]at f;cases f
   exact⟨J,_,rfl,bK Yu (by rw[ae R,a6]),.str q.1,[.int (t:Int)],rfl,⟨rfl,rfl⟩,.int (t:Int),[],rfl,⟨rfl,rfl⟩,rfl⟩
  ·refine⟨_,rfl,_,rfl,rfl,false,congrArg V.bl (decide_eq_false λz=>G (by have:=V.int.inj z;lia)),bx ?_⟩;refine⟨_,_,_,rfl,m,D,?_⟩;rw[pF,ui,if_neg G,wal];exact O
 ·rintro σ g ⟨v4,v5,as,rfl,l,C,T⟩;rw[wa0,CZ,waG]at T;exact⟨_,rfl,k _ _ (keep C) ⟨b,as,rfl,.inl (bK M l),b9.same (dM sb) _ _ T⟩⟩
theorem Iv(L:Lk K mg):aO P w K mg base (Bd P w) 4 L.E2 L.E4 ["sheet","many","desk","numbers","weight"] (Kp K L.aw L.eT):=by
 have T:=L.T;refine L.p5.F.EK (N:=["sheet","many","desk","numbers","weight","line","chosen","others","rest","lines","weights","twin"]) (λgX A outer s H vs Q E nd hr h=>?_);obtain⟨x,a,many,B,w,ns,u,j,f,rfl,S,hA,Nm,Wv,m0,m1,k⟩:=h
 refine⟨_,(a5 (bj (cS (bZ (ai (kD L) L.fm (a8 (pv 2) (aG (aM (pv 0) rfl)))))) (a9 (fM cB rfl L.i9 L.fZ rfl L.i7 (aG cI))) aH)
  (a5 (ag (i:=5) (aX aW (aM (pv 0) rfl) (pv 2) (λ_ _=>rfl)))
  (a5 (bj (cS (bZ (aP (zz rfl) (by rfl) T.all Pw (aG (bS rfl (au ["line"] [5]) (aK (pv 3)) (λ_ _ _ _ _ _=>aY) (λ_ _ _ _ _ _=>(ai (kD L) L.fm (a8 (pv 0) (aG (pv 1)))))))))) (a9 (fM cB rfl L.i9 L.fZ rfl L.i7 (aG cI))) aH)
  (a5 (qU (i:=6) rfl (au ["numbers"] [3]) nd rfl rfl (au ["numbers"] [3]) (by decide) (mn (by rfl) T.enum (aG (pv 5))) (λ_ _ _ _ _ _=>gg (eW (ig (K:=K) rfl) (pv 0) (pv 2) rfl)) (λ_ _ _ _ _ _=>(pv 1)))
  (a5 (qU (i:=7) rfl (au ["numbers"] [3]) nd rfl rfl (au ["numbers"] [3]) (by decide) (mn (by rfl) T.enum (aG (pv 5))) (λ_ _ _ _ _ _=>gg (eW (vK (K:=K) rfl) (pv 0) (pv 2) rfl)) (λ_ _ _ _ _ _=>(pv 1)))
  (a5 (ag (i:=8) (aN jA (aX aW (aM (pv 0) rfl) (pv 2) (λ_ _=>rfl)) (pv 4)))
  (a5 (bu (jC (mZ L) (hr.mono (by decide)) rfl L.cD.g L.cD.F.kp L.cD.b .nil (xa cB) (a8 (pv 0) (a8 (pv 1) (a8 (pv 6) (aG (pv 4)))))))
  (a5 (bu (jC (mZ L) (hr.mono (by decide)) rfl L.cD.g L.cD.F.kp L.cD.b .nil (xa cB) (a8 (pv 0) (a8 (pv 1) (a8 (pv 7) (aG (pv 8)))))))
  (a5 (ag (i:=9) (aN yt (aM (pv 0) rfl) (ck (aG (pv 7)))))
  (a5 (sW (pv 6) (G8 (pv 9) (pv 2) set_list))
  (a5 (ag (i:=10) (aN yt (aM (pv 0) rfl) (ck (aG (pv 8)))))
  (a5 (sW (pv 4) (G8 (pv 10) (pv 2) set_list))
  (a5 (ag (i:=11) (Ig T.len (aM (pv 0) rfl)))
  (a9 (ay (mm L.p7 (fA L) (hr.mono (by decide)) rfl L.sP L.cO.b .nil o1 (a8 (aN yt (aM (pv 0) rfl) (ck (aG (aX aW (aM (pv 0) rfl) (pv 2) (λ_ _=>rfl))))) (a8 (pv 10) (aG (bS rfl (au ["desk","twin"] [2,11]) (aK (pv 9)) (λ_ _ _ _ _ _=>aY) (λ_ _ _ _ _ _=>(ai (w5 L) L.jZ (a8 (pv 0) (a8 (pv 1) (aG (pv 2)))))))))))))))))))))))))),?_⟩
 try dsimp only[dj,di,b0,b6]
 refine xC λR1 c1=>?_;obtain⟨dx,M,bw,cl,hx,rh,Je,rl⟩:=id S;have hh:=sL rh;have hw:=Km Je;obtain⟨Qn,t,ec,hc,Bb⟩:=id rl;cases ec;have xl:t.length=f.length:=by rw[Bb.len,wa0]
 have hn:=Wv.n;have BO:=Wv.w;have CA:=Wv.l
 have no:dm j f many B ns w=false->∀H',a7 H H'->E (.ref L.eT) none H':=λh=>by
  rcases k with⟨k1,_⟩ |⟨_,k2⟩
  ·rw[h]at k1;cases k1
  ·exact k2
 cases h1:eA B f.length with
 |false=>
  refine⟨_,rfl,_,rfl,x,L.aw,dx,_,_,rfl,hx,L.av.cl,L.av.cC,bH M bw cl,B,cl,t,rfl,.inl hc,false,congrArg V.bl (by rw[xl];exact h1),eE ⟨rfl,no ?_ H (a7.refl _)⟩⟩;unfold dm;rw[h1,wdh]
 |true=>
 obtain⟨d,rfl,hd⟩:∃d:Nat,B=(d:Int)/\d<f.length:=by
  unfold eA at h1;rw[wc9]at h1;have a1:=of_decide_eq_true h1.1;have a2:=of_decide_eq_true h1.2;exact⟨B.toNat,by lia,by lia⟩
 refine⟨_,rfl,_,rfl,x,L.aw,dx,_,_,rfl,hx,L.av.cl,L.av.cC,bH M bw cl,_,cl,t,rfl,.inl hc,true,congrArg V.bl (by rw[xl];exact h1),bx ?_⟩;refine c1 _ _ (xC λR2 c2=>?_);rw[waA]at k;have VE:d<t.length:=by lia
 have W2:t[d]?=some t[d]:=wa1 VE;obtain⟨dd,Ob,rd⟩:=Bb.get d _ W2;have Oc:f[d]?=some f[d]:=wa1 hd;rw[wa4,Oc]at Ob;cases Ob;have Rq:f.getD d []=f[d]:=by rw[wa3,Oc];rfl
 have Od:f[d]∈f:=waE hd;have TF:=Wv.m _ Od;have TH:=Wv.e _ Od
 have W3:dm j f many (d:Int) ns w=(ns.all (λi=>eA i f[d].length)&&(dZ j many (aU ns f[d]) w&&dZ j many (aT ns f[d]) (j.getD d 0-w))):=by
  unfold dm;rw[h1,we6,waA,Rq]
 unfold cY at k;rw[Rq]at k;rw[W3]at k no;refine⟨_,rfl,x,L.aw,dx,_,_,rfl,hx,L.av.cl,L.av.cC,bH M bw cl,_,rfl,cl,t,_,t[d],rfl,rfl,.inl hc,bB W2,?_⟩;obtain⟨al,ys,el,O,LK⟩:=rd;rw[el];have yl:ys.length=f[d].length:=by rw[LK.len,wa0]
 generalize f[d]=p at W3 Od TF TH LK yl k no;refine c2 _ _ (xC λR3 c3=>?_);refine⟨_,rfl,a,rfl,⟨_,hA⟩,λl1 LL=>?_⟩;refine comp_map (λv=>match v with |.int i=>V.bl (eA i ys.length) |_=>.non) (aI K a (ns.map V.int)) LL (by rw[wa0];exact aq (by lia)) (λH' s'=>s'.seq hA) (λz H2 Q' hz s2 R=>?_) (λH2 s2 h2=>?_)
 ·obtain⟨i,_,rfl⟩:=waa.mp hz;exact⟨_,rfl,_,rfl,i,al,ys,rfl,s2.seq (.inl O),R H2 (a7.refl _)⟩
 have e2:(ns.map V.int).map (λv=>match v with |.int i=>V.bl (eA i ys.length) |_=>.non)=(ns.map λi=>eA i p.length).map V.bl:=by
  rw[waf,waf,yl];rfl
 rw[e2]at h2
 have Qo:((ns.map λi=>eA i p.length).all id)=ns.all (λi=>eA i p.length):=by
  rw[wfm];rfl
 cases h3:ns.all (λi=>eA i p.length) with
 |false=>
  refine⟨l1,_,rfl,aE.of h2,false,congrArg V.bl (Qo.trans h3),eE ⟨rfl,no ?_ H2 s2⟩⟩;rw[h3,wdh]
 |true=>
 refine⟨l1,_,rfl,aE.of h2,true,congrArg V.bl (Qo.trans h3),bx ?_⟩;refine c3 _ _ (xC λR4 c4=>?_);rw[h3,we6]at k no;refine⟨_,rfl,al,ys,rfl,s2.seq (.inl O),λlc FX=>?_⟩;refine xm (λi=>nY (.int (i:Nat)) (ns.map V.int)) (s2.seq (.inl O)) FX (aq (by lia)) (λi y H3 Q' _ s3 R=>?_) (λi y H3 Q' _ s3 R=>⟨_,rfl,R H3 (a7.refl _)⟩) (λH3 s3 W4=>?_)
 ·exact⟨_,rfl,_,rfl,a,_,rfl,.inl ((s2.trans s3).seq hA),rfl,fS ns,_,rfl,R H3 (a7.refl _)⟩
 have Yv:(λi:Nat=>nY (.int (i:Nat)) (ns.map V.int))=λi:Nat=>decide ((i:Int)∈ns):=funext λi=>uh _ ns;rw[Yv]at W4;have D2:=s2.trans s3;refine c4 _ _ (xC λR5 c5=>?_);refine⟨_,rfl,al,ys,rfl,D2.seq (.inl O),λlo PH=>?_⟩;refine xm (λi=>!nY (.int (i:Nat)) (ns.map V.int)) (D2.seq (.inl O)) PH (aq (by lia)) (λi y H4 Q' _ s4 R=>?_) (λi y H4 Q' _ s4 R=>⟨_,rfl,R H4 (a7.refl _)⟩) (λH4 s4 W5=>?_)
 ·exact⟨_,rfl,_,rfl,a,_,rfl,.inl ((D2.trans s4).seq hA),rfl,fS ns,_,rfl,R H4 (a7.refl _)⟩
 have TK:(λi:Nat=>!nY (.int (i:Nat)) (ns.map V.int))=λi:Nat=>!decide ((i:Int)∈ns):=funext λi=>congrArg (!·) (uh _ ns);rw[TK]at W5;have C:=D2.trans s4;refine c5 _ _ (xC λR6 c6=>?_);have Yw:=s4 _ _ W4;have rC:bA K H4 (bR (aU ns p)) (.ref lc):=⟨lc,_,rfl,.inl Yw,A5 _ (b9.same C _ _ LK)⟩;have rO:bA K H4 (bR (aT ns p)) (.ref lo):=⟨lo,_,rfl,.inl W5,A5 _ (b9.same C _ _ LK)⟩;have W6:(aU ns p).length<=5000:=wai (mz _ _ _) TF;have Yx:(aT ns p).length<=5000:=wai (mz _ _ _) TF;have ce:∀q∈aU ns p,q.2<j.length:=λq hq=>by rw[BO];exact TH q (dh hq)
 have oe:∀q∈aT ns p,q.2<j.length:=λq hq=>by rw[BO];exact TH q (dh hq)
 have W8:d<j.length:=by lia
 have TL:rT (j.map V.int) (d:Int)=some (.int (j.getD d 0)):=bB (by rw[wa4,wa1 W8,wa3,wa1 W8];rfl);refine⟨_,rfl,x,L.aw,dx,_,_,rfl,C _ _ hx,L.av.cl,L.av.cM,cg M bw cl,_,rfl,bw,_,_,_,rfl,rfl,C.seq (.inl hw),TL,_,rfl,_,_,rfl,rfl,?_⟩;show eV 8 (V.int (j.getD d 0-w)) _ _ _;refine c6 _ _ (xC λR7 c7=>?_);have S4:=S.same C;refine⟨_,rfl,_,rfl,_,rfl,_,rfl,x,many,.ref lc,w,u,j,f,aU ns p,rfl,S4,rC,by lia,ce,m0,m1,?_⟩
 cases h5:dZ j many (aU ns p) w with
 |false=>exact .inr ⟨rfl,λH5 s5=>no (by rw[h5,wdh]) H5 (C.trans s5)⟩
 |true=>
 refine .inl ⟨rfl,λH5 s5=>?_⟩;refine c7 _ _ (xC λR8 c8=>?_);rw[h5,we6]at k no;refine⟨_,rfl,_,rfl,_,rfl,_,rfl,x,many,.ref lo,j.getD d 0-w,u,j,f,aT ns p,rfl,S4.same s5,bA.same s5 _ _ rO,by lia,oe,m0,m1,?_⟩
 cases h6:dZ j many (aT ns p) (j.getD d 0-w) with
 |false=>exact .inr ⟨rfl,λH6 s6=>no h6 H6 ((C.trans s5).trans s6)⟩
 |true=>
 refine .inl ⟨rfl,λH6 s6=>?_⟩;refine c8 _ _ ?_;obtain⟨_,kk⟩:True/\_:=⟨trivial,k⟩;rcases kk with⟨_,k⟩ |⟨k1,_⟩
 rotate_left
 ·rw[h6]at k1;cases k1
 have TN:=s5.trans s6;have Qp:=C.trans TN;have Yy:=bA.same TN _ _ rC;have Yz:=bA.same TN _ _ rO;have big:∀n:Nat,n<=20000->n<=sizeLine:=λn hn=>wai hn (by rw[wc5];decide);refine⟨_,rfl,x,L.aw,dx,_,_,rfl,Qp _ _ hx,L.av.cl,L.av.cC,bH M bw cl,_,rfl,by show 1<=sizeLine;decide,λl7 Wa=>?_⟩;refine⟨cl,l7,t,[.ref lo],rfl,rfl,oi (Qp.trans (a7.upd Wa)) hc,.inl a6,big _ (by show t.length+1<=_;lia),λU I=>?_⟩;have Wb:a7 H6 (upd H6 l7 (.lst [V.ref lo])):=a7.upd Wa;generalize upd H6 l7 (.lst [V.ref lo])=X at Wb I;have s6b:a7 X (upd X U (.lst (t++[V.ref lo]))):=a7.upd I
 have VX:Ep (t++[V.ref lo]).length (d:Int)=some d:=by
  have Y:(t++[V.ref lo]).length=t.length+1:=by rw[wa7];rfl
  unfold Ep;rw[Y,if_pos (by lia),if_pos (by lia),waA]
 refine⟨_,rfl,_,rfl,_,rfl,U,_,_,d,rfl,rfl,a6,VX,?_⟩;have Rn:(upd (upd X U (.lst (t++[V.ref lo]))) U (.lst ((t++[V.ref lo]).set d (V.ref lc)))) U=some (.lst ((t++[V.ref lo]).set d (V.ref lc))):=a6
 have RJ:a7 H6 (upd (upd X U (.lst (t++[V.ref lo]))) U (.lst ((t++[V.ref lo]).set d (V.ref lc)))):=λc o e=>by
  have J:=Wb _ _ e;rw[ae (af J I),ae (af J I)];exact J
 generalize upd (upd X U (.lst (t++[V.ref lo]))) U (.lst ((t++[V.ref lo]).set d (V.ref lc)))=H8 at Rn RJ;have RK:=Qp.trans RJ
 have YB:b9 K H8 (((f++[aT ns p]).set d (aU ns p)).map bR) ((t++[V.ref lo]).set d (V.ref lc)):=by
  have r1:b9 K H8 (f.map bR++[bR (aT ns p)]) (t++[V.ref lo]):=i6 (b9.same RK _ _ Bb) (bA.same RJ _ _ Yz)
  have e:((f++[aT ns p]).set d (aU ns p)).map bR=(f.map bR++[bR (aT ns p)]).set d (bR (aU ns p)):=by
   rw[List.map_set,wal];rfl
  rw[e];exact r1.set d (bA.same RJ _ _ Yy)
 refine⟨_,rfl,x,L.aw,dx,_,_,rfl,RK _ _ hx,L.av.cl,L.av.cM,cg M bw cl,_,rfl,by show 1<=sizeLine;decide,λl9 Wc=>?_⟩;refine⟨bw,l9,_,[.int (j.getD d 0-w)],rfl,rfl,oi (RK.trans (a7.upd Wc)) hw,.inl a6,big _ (by rw[wa0];show j.length+1<=_;lia),λlw LN=>?_⟩;have Wd:a7 H8 (upd H8 l9 (.lst [.int (j.getD d 0-w)])):=a7.upd Wc;generalize upd H8 l9 (.lst [.int (j.getD d 0-w)])=TQ at Wd LN;have TR:j.map V.int++[V.int (j.getD d 0-w)]=(j++[j.getD d 0-w]).map V.int:=by rw[wal];rfl
 rw[TR]
 have TU:Ep ((j++[j.getD d 0-w]).map V.int).length (d:Int)=some d:=by
  have Y:((j++[j.getD d 0-w]).map V.int).length=j.length+1:=by rw[wa0,wa7];rfl
  unfold Ep;rw[Y,if_pos (by lia),if_pos (by lia),waA]
 refine⟨_,rfl,_,rfl,_,rfl,lw,_,_,d,rfl,rfl,a6,TU,?_⟩
 have TV:((j++[j.getD d 0-w]).map V.int).set d (.int w)=(bV j d w).map V.int:=by
  unfold bV;rw[List.map_set]
 rw[TV];have We:(upd (upd TQ lw (.lst ((j++[j.getD d 0-w]).map V.int))) lw (.lst ((bV j d w).map V.int))) lw=some (.lst ((bV j d w).map V.int)):=a6
 have TX:a7 H8 (upd (upd TQ lw (.lst ((j++[j.getD d 0-w]).map V.int))) lw (.lst ((bV j d w).map V.int))):=λc o e=>by
  have J:=Wd _ _ e;rw[ae (af J LN),ae (af J LN)];exact J
 generalize upd (upd TQ lw (.lst ((j++[j.getD d 0-w]).map V.int))) lw (.lst ((bV j d w).map V.int))=H9 at We TX;have D:=RK.trans TX;refine⟨_,rfl,x,L.aw,dx,_,_,rfl,D _ _ hx,L.av.cl,L.av.cC,bH M bw cl,cl,t,rfl,.inl (D.seq (.inl hc)),?_⟩;rw[xl];have Wf:d<u.length:=by lia
 have TY:rT (u.map V.str) (d:Int)=some (.str (u.getD d "")):=bB (by rw[wa4,wa1 Wf,wa3,wa1 Wf];rfl);refine⟨_,rfl,x,L.aw,dx,_,_,rfl,D _ _ hx,L.av.cl,L.av.hU,eP M bw cl,_,rfl,x,L.aw,dx,_,_,rfl,D _ _ hx,L.av.cl,L.av.hU,eP M bw cl,_,rfl,M,_,_,_,rfl,rfl,D.seq (.inl hh),TY,by show 1<=sizeLine;decide,λl10 Qq=>?_⟩;refine⟨M,l10,_,[.str (u.getD d "")],rfl,rfl,oi (D.trans (a7.upd Qq)) hh,.inl a6,big _ (by rw[wa0];show u.length+1<=_;lia),λlh Oe=>?_⟩;have Wg:a7 H9 (upd H9 l10 (.lst [.str (u.getD d "")])):=a7.upd Qq;generalize upd H9 l10 (.lst [.str (u.getD d "")])=Wh at Wg Oe;have Qr:u.map V.str++[V.str (u.getD d "")]=(cw u d).map V.str:=by unfold cw;rw[wal];rfl
 rw[Qr];have RL:=Wg.trans (a7.upd (o:=.lst ((cw u d).map V.str)) Oe);have Qs:(upd Wh lh (.lst ((cw u d).map V.str))) lh=some (.lst ((cw u d).map V.str)):=a6;generalize upd Wh lh (.lst ((cw u d).map V.str))=LO at RL Qs;have LQ:=TX.trans RL;have Z:=LQ _ _ Rn;have TZ:=b9.same LQ _ _ YB;have zl:((t++[V.ref lo]).set d (V.ref lc)).length=f.length+1:=by rw[wcg,wa7,xl];rfl
 refine⟨_,rfl,_,rfl,U,rfl,⟨_,aE.of Z⟩,λlt N4=>?_⟩
 have Qt:∀l∈(f++[aT ns p]).set d (aU ns p),l.length<=5000:=λl hl=>by
  rcases wcG hl with z |z
  ·rcases waC.mp z with z |z
   ·exact Wv.m l z
   ·rw[wan.mp z];exact Yx
  ·rw[z];exact W6
 refine uf (K:=K) ((((f++[aT ns p]).set d (aU ns p)).map (dS d f.length)).map bR) (aI K U ((t++[V.ref lo]).set d (V.ref lc))) N4 (big _ (by rw[zl];lia)) (by rw[wa0,wa0,wcg,wa7,zl];rfl) (λH' s'=>aE.of (s' _ _ Z)) (λi y dt FY Q' hy LR G R=>?_) (λFY G YC=>?_)
 ·obtain⟨d',J,r⟩:=TZ.get i y hy;rw[wa4]at J LR;rw[wa4]at LR
  cases e:((f++[aT ns p]).set d (aU ns p))[i]? with
  |none=>rw[e]at J;cases J
  |some l=>
   rw[e]at J LR;cases J;cases LR;exact⟨_,rfl,_,rfl,_,rfl,y,d,f.length,l,rfl,bA.same G _ _ r,Qt l (wa8 e),λz KH KI YD=>R z KH KI YD⟩
 intro y dy ny U0 YF;have sm:a7 FY (upd (upd FY dy (.own y)) y (.ins L.aw dy [])):=dH ny U0;have Iw:=D.trans RL;refine⟨y,dy,.ref lh,.ref lw,.ref lt,cw u d,bV j d w,((f++[aT ns p]).set d (aU ns p)).map (dS d f.length),rfl,a6,oj (sm _ _ (G _ _ Qs)),jh (sm _ _ (G _ _ (RL _ _ We))),bA.same ((cj _ _).trans sm) _ _ YC,?_,?_,?_,?_,λa' b' c' KH U1 q1 q2 q3 U2=>⟨rfl,?_⟩⟩
 ·unfold cw;rw[wa7];show u.length+1<=_;lia
 ·unfold bV;rw[wcg,wa7];show j.length+1<=_;lia
 ·rw[wa0,wcg,wa7];show f.length+1<=_;lia
 ·intro l hl;obtain⟨l',Nn,rfl⟩:=waa.mp hl;have:=qb d f.length l';have:=Qt l' Nn
  lia
 ·have KI:a7 FY KH:=λc o e=>U2 _ _ (sm _ _ e) (af e ny);refine k y KH (Iw.trans (G.trans KI)) ?_;have U3:H y=none:=none_of (Iw.trans G) ny;have nw:=λ(dd:jM) (v:V) (r:bA K (aF _ KH) dd v)=>bA.same (dM ((Iw.trans G).trans sm)) dd v r;exact⟨dy,a',b',c',bK U3 U1,nw _ _ q1,nw _ _ q2,nw _ _ q3⟩
theorem n0(L:Lk K mg):aO P w K mg base cP 1 L.oI L.oW ["line","desks"] (N9 K):=by
 refine L.hV.F.dq (N:=["line","desks"]) (λy A outer s H R Q E nd g h=>?_);obtain⟨v,b,f,j,rfl,B,C,hn,k⟩:=h;refine⟨_,(a9 (ay (gw rfl (au ["desks"] [1]) (au ["desks"] [1]) (by decide) (aK (pv 0)) (λ_ _ _ _ _ _=>gg (eW (ig (K:=K) rfl) (pv 1) (pv 2) rfl)) (λ_ _ _ _ _ _=>(dW (a8 (pv 0) (aG (pv 1)))))))),?_⟩
 try dsimp only[dj,di,b0,b6]
 obtain⟨a,D,rfl,p,c,G⟩:=nA B;have m:=c;rw[wa0]at m;refine⟨_,rfl,a,rfl,⟨_,p⟩,λl hl=>?_⟩
 refine my (prs:=j.map eO) (λq=>nY q.2 ((nI f).map V.int)) (λq=>.tup [.at q.1,.at q.2]) (aI K a D) c (λi q d=>let ⟨r,I,J⟩:=G i q d;⟨r,I,hZ.of J⟩) hl (aq (by lia)) (λt n=>n.seq p) (λq u M d x o=>by
  obtain⟨z,O,rfl⟩:=waa.mp d
  exact⟨_,rfl,_,rfl,b,_,rfl,.inl (x.seq C),rfl,fS _,_,rfl,o u (a7.refl _)⟩) (λq u M d _ x o=>?_) (λt n r=>?_)
 ·obtain⟨z,O,rfl⟩:=waa.mp d;exact⟨_,rfl,_,rfl,by show 2<=sizeLine;decide,λr g=>o _ _ (a7.upd g) (om g z)⟩
 ·have e:((j.map eO).filter λq=>nY q.2 ((nI f).map V.int))=(cx f j).map eO:=by
   unfold cx;rw[wdz];refine congrArg _ (wf5 λq _=>?_);exact HQ q.2 f
  rw[e,waf]at r;exact k _ t n r
theorem n6(L:Lk K mg):aO P w K mg base cP 2 L.jT L.oX ["sheet","many"] (Nb K L.aw):=by
 have T:=L.T;refine L.hX.F.dq (N:=["sheet","many","kept","left"]) (λG A outer s H vs Q E nd hr h=>?_);obtain⟨x,many,hs,ws,b,rfl,S,hn,hm,k⟩:=h;have I:(A.deeper (wcO "kept_desks" (aD (top 71)) s.heap.objs.size L.jT G)).units<wcw:=hr.t6
 refine⟨_,(a5 (ag (i:=2) (bE (C3 rfl) (by rfl) T.list iN (aG (bE zM (by rfl) T.range K2 (aG (Ig T.len (aM (pv 0) rfl)))))))
  (a9 (j8 wd7 (bZ iJ) (a5 (cW (i:=3) rfl (au ["sheet","kept","many"] [0,2,1]) nd rfl rfl (aK (pv 2)) (λ_ _ _ _ _ _=>gg (cq Dt (aP (vL (K:=K) rfl) (by rfl) T.len wdX (aG (ai (n0 L) L.hV (a8 (aX (gq (K:=K) rfl) (mr (K:=K) rfl (pv 1) rfl) (pv 0) (λ_ _=>rfl)) (aG (pv 2)))))) (pv 3))) (λ_ _ _ _ _ _=>(pv 0)))
  (a5 (bj (cq (BD I) (pv 3) (pv 2)) (a9 (ay (pv 2))) aH)
  (a9 (ag (i:=2) (pv 3)))))))),?_⟩
 try dsimp only[dj,di,b0,b6]
 obtain⟨dx,ah,bw,cl,hx,rh,Je,rl⟩:=id S;obtain⟨Qn,J,ec,hc,m⟩:=id rl;cases ec;have xl:J.length=b.length:=by rw[m.len,wa0]
 refine⟨_,rfl,x,L.aw,dx,_,_,rfl,hx,L.av.cl,L.av.cC,bH ah bw cl,cl,J,rfl,.inl (.inl hc),?_⟩;rw[xl];refine⟨_,rfl,λp hp=>?_⟩;refine⟨p,b.length,rfl,a6,aq (by lia),λl hl=>?_⟩;have s1:a7 H (upd H p (.rng 0 (b.length:Int))):=a7.upd hp;have fl:H l=none:=none_of s1 hl;have s2:=s1.trans (a7.upd (o:=.lst ((waI b.length).map λi=>V.int (i:Nat))) hl);have h2:(upd (upd H p (.rng 0 (b.length:Int))) l (.lst ((waI b.length).map λi=>V.int (i:Nat)))) l=some (.lst ((nI (waI b.length)).map V.int)):=by rw[a6,Ab]
 generalize upd (upd H p (.rng 0 (b.length:Int))) l (.lst ((waI b.length).map λi=>V.int (i:Nat)))=H2 at s2 h2;refine⟨λq σ M=>∃(l:Addr) (c:List Nat) (v3:Option V),q=c.length/\σ=[some (.ref x),some (.int many),some (.ref l),v3]/\a7 H M/\H l=none/\M l=some (.lst ((nI c).map V.int))/\Above b many c,⟨_,l,_,none,rfl,rfl,s2,fl,h2,Above.start b many⟩,?_⟩;rintro q σ M ⟨l,c,v3,rfl,rfl,O,fl,r,t⟩;refine⟨true,rfl,eE ?_⟩;refine⟨λu C=>∃(g:Addr),u=[some (.ref x),some (.int many),some (.ref g),some (.ref g)]/\a7 H C/\H g=none/\C g=some (.lst ((nI (ur b many c)).map V.int))/\ur b many c≠c,?_,?_⟩
 ·rintro u C ⟨g,rfl,R,U,h',X⟩;exact⟨_,HN X,g,_,_,rfl,rfl,R,U,h',t.next⟩
 have Y:∀d∈c,d<b.length:=λd hd=>wb3.mp (t.sub.subset hd);have VQ:c.length<=1000:=by have:=t.sub.length_le;rw[waO]at this;lia
 refine⟨_,rfl,l,rfl,⟨_,aE.of r⟩,λg z=>?_⟩;refine df (λv=>match v with |.int d=>decide (many<=((cx c (b.getD d.toNat [])).length:Int)) |_=>false) (λv=>v) (aI K l _) z (aq (by rw[wa0,cy];lia)) (λC R=>aE.of (R _ _ r)) (λy D Q' hy j Z=>?_) (λy D Q' hy _ j Z=>⟨_,rfl,Z D (a7.refl _)⟩) (λD j h4=>?_)
 ·obtain⟨n,Bc,rfl⟩:=uB hy;have Nm:=Y n Bc;have hq:b[n]?=some (b.getD n []):=by rw[wa3,wa1 Nm];rfl
  obtain⟨v,Np,rd⟩:=m.at (i:=n) (d:=bR (b.getD n [])) (by rw[wa4,hq];rfl);have e:=O.trans j;refine⟨_,rfl,x,L.aw,dx,_,_,rfl,e _ _ hx,L.av.cl,L.av.cC,bH ah bw cl,_,rfl,cl,J,_,_,rfl,rfl,e.seq (.inl hc),bB Np,_,rfl,v,l,c,b.getD n [],rfl,bA.same e _ _ rd,aE.of (j _ _ r),hm _ (wa8 hq),λy H5 s5 r5=>?_⟩;obtain⟨a,rs,rfl,hS,hT⟩:=eQ r5;have CZ:rs.length=(cx c (b.getD n [])).length:=by rw[hT.1,wa0,wa0]
  refine⟨a,_,rfl,.inl ((cj _ _).seq hS),?_⟩;rw[wa0,CZ];exact⟨_,rfl,_,_,rfl,rfl,_,rfl,Z H5 s5⟩
 rw[wdQ,xx (f:=λn=>decide (many<=((cx c (b.getD n [])).length:Int))) (λn=>rfl)]at h4;have e:=O.trans j;refine⟨_,rfl,_,rfl,g,l,_,_,rfl,rfl,aE.of h4,aE.of (j _ _ r),fS _,fS _,_,rfl,?_⟩;refine By (λB=>?_) (λB=>?_)
 ·rw[qe,decide_eq_true_eq]at B;exact⟨_,rfl,k l c D e fl (j _ _ r) ⟨t,t.stays B⟩⟩
 ·rw[qe,decide_eq_true_eq]at B;exact⟨_,rfl,g,rfl,e,none_of O z,h4,B⟩
inductive U4(lns:List (List (Str×Nat)))(rs ys:List Nat)(x rd wl a:Addr)(d z:Nat)(H:Hp)(i:Nat)(σ:St)(H5:Hp):Prop
 |mk (ad v5 v6) (_:σ=[some (.ref x),some (.int (d:Int)),some (.ref rd),some (.ref wl),some (.ref a),v5,v6]) (_:a7 H H5) (_:H5 rd=some (.dK (dB (rs++ad)))) (_:H5 wl=some (.lst ((nI (ys++ad)).map V.int))) (_:(rs++ad).Nodup) (_:∀r∈rs++ad,r<lns.length) (_:∀q∈(lns.getD z []).take i,q.2∈rs++ad)
theorem U4.s{wl:Addr}(q:U4 lns j ys x rd wl a d z H i σ g):a7 H g:=by
 obtain⟨_,_,_,_,h,_⟩:=q;exact h
theorem rZ(L:Lk K mg):aO P w K mg base cP 1 L.lJ L.lU ["sheet","desk"] (Fj K L.aw):=by
 have T:=L.T;refine L.iE.F.dq (N:=["sheet","desk","reached","waiting","line","word","end"]) (λgX A outer s H vs Q E nd n h=>?_);obtain⟨x,d,hs,ws,c,rfl,S,hd,he,zB,hn,k⟩:=h;have hu:=ez n
 refine⟨_,(a5 (ag (i:=2) eu)
  (a5 (ag (i:=3) (ck (aG (pv 1))))
  (a5 (j8 wd7 (cq kL (Ig T.len (pv 3)) aj) (a5 (ag (i:=4) (aX aW (aM (pv 0) rfl) (Gn waN wgK PySem.F.type_list_pop Mq (pv 3)) (λ_ _=>rfl)))
  (a9 (forA (aK (pv 4)) (dU rfl (aL (ax (i:=5)) (aL (ax (i:=6)) cG))) (a9 (bj (Bg (wK hu (pv 6) (pv 2))) (a5 (eB hu (pv 2) (pv 6) iJ rfl)
  (a9 (bu (iL waN waV wb2 cK (pv 3) (aG (pv 6)))))) aH))))))
  (a9 (ay (bE (ni rfl) (by rfl) T.list iN (aG (pv 2)))))))),?_⟩
 try dsimp only[dj,di,b0,b6]
 obtain⟨dx,ah,bw,cl,hx,rh,Je,rl⟩:=id S;obtain⟨Qn,xs,ec,hc,Bb⟩:=id rl;cases ec;have xl:xs.length=c.length:=by rw[Bb.len,wa0]
 refine λrd U5=>?_;refine⟨_,rfl,by show 1<=sizeLine;decide,λwl BO=>?_⟩;have J:rd≠wl:=af a6 BO;have s0:a7 H (upd (upd H rd (.dK [])) wl (.lst [.int (d:Int)])):=(a7.upd U5).trans (a7.upd BO);have Wi:(upd (upd H rd (.dK [])) wl (.lst [.int (d:Int)])) rd=some (.dK (dB [])):=by rw[ae J,a6];rfl
 have Wj:(upd (upd H rd (.dK [])) wl (.lst [.int (d:Int)])) wl=some (.lst ((nI [d]).map V.int)):=a6;have Wk:H wl=none:=none_of (a7.upd U5) BO;generalize upd (upd H rd (.dK [])) wl (.lst [.int (d:Int)])=H0 at s0 Wi Wj
 refine⟨λq σ Y=>∃(f Z:List Nat) (v4 M v6:Option V),q=2*(c.length-f.length)+Z.length/\σ=[some (.ref x),some (.int (d:Int)),some (.ref rd),some (.ref wl),v4,M,v6]/\a7 H Y/\Y rd=some (.dK (dB f))/\Y wl=some (.lst ((nI Z).map V.int))/\f.Nodup/\(∀r∈f,r<c.length)/\(∀w∈Z,w<c.length)/\(∀r∈f,r∉Z->∀q∈c.getD r [],q.2∈f)/\(d∉Z->∀q∈c.getD d [],q.2∈f)/\Z.length<=f.length+1,
  ⟨_,[],[d],none,none,none,rfl,rfl,s0,Wi,Wj,wdf,λr h=>absurd h wbu,λw h=>by rw[wan.mp h];exact hd,λr h=>absurd h wbu,λh=>absurd (wan.mpr rfl) h,wab _⟩,?_⟩
 rintro q σ Y ⟨f,Z,v4,M,v6,rfl,rfl,s3,RH,O,nd,U6,Wl,Qu,RD,R⟩;have CZ:=lA nd U6
 by_cases Wm:Z=[]
 ·subst Wm;refine⟨_,rfl,wl,_,rfl,.inl (aE.of O),_,_,rfl,rfl,false,rfl,bx ?_⟩;refine⟨_,rfl,rd,_,rfl,RH,λl hl=>?_⟩;rw[Kt];refine k l f _ (s3.trans (a7.upd hl)) (none_of s3 hl) a6 ⟨λr n=>Qu r n wbu,U6,λz=>?_,nd⟩
  cases e:c.getD d [] with
  |nil=>exact zB e
  |cons q qs=>
   have:=RD wbu q (by rw[e];exact wad ..);rw[z]at this;cases this
 obtain⟨z,t,rfl,hz,Iu⟩:=Ku Wm;refine⟨_,rfl,wl,_,rfl,.inl (aE.of O),_,_,rfl,rfl,true,congrArg V.bl (decide_eq_true (by rw[wa0,cy,wa7];show (0:Int)<((_+1:Nat):Int);lia)),eE ?_⟩;have YG:z<c.length:=Wl z (waH _ (wan.mpr rfl));have Wn:c[z]?=some (c.getD z []):=by rw[wa3,wa1 YG];rfl
 have U7:∀q∈c.getD z [],q.2<c.length:=he _ (wa8 Wn);obtain⟨v,Np,YH⟩:=Bb.at (i:=z) (d:=bR (c.getD z [])) (by rw[wa4,Wn];rfl);obtain⟨a,rr,rfl,hS,hT⟩:=eQ YH;have Wo:rr.length=(c.getD z []).length:=by rw[hT.1,wa0,wa0]
 refine⟨λσ' H'=>∃(ad:List Nat) (M v6:Option V),σ'=[some (.ref x),some (.int (d:Int)),some (.ref rd),some (.ref wl),some (.ref a),M,v6]/\a7 H H'/\H' rd=some (.dK (dB (f++ad)))/\H' wl=some (.lst ((nI (t++ad)).map V.int))/\(f++ad).Nodup/\(∀r∈f++ad,r<c.length)/\(∀q∈c.getD z [],q.2∈f++ad),?_,?_⟩
 ·rintro σ' H' ⟨ad,M,v6,rfl,s',U8,YJ,Wq,HE,j⟩;have Nn:=lA Wq HE;rw[wa7]at Nn;refine⟨_,?_,f++ad,t++ad,_,M,v6,rfl,rfl,s',U8,YJ,Wq,HE,λw hw=>?_,λr n U q I=>?_,λU q I=>?_,?_⟩
  ·rw[wa7,wa7,wa7];show _<2*(c.length-f.length)+(t.length+1)
   lia
  ·rcases waC.mp hw with hw |hw
   ·exact Wl w (wb0 _ hw)
   ·exact HE w (waH _ hw)
  ·rcases waC.mp n with n |n
   ·by_cases B:r=z
    ·rw[B]at I;exact j q I
    ·refine wb0 _ (Qu r n (λm=>?_) q I);rcases waC.mp m with m |m
     ·exact U (wb0 _ m)
     ·exact B (wan.mp m)
   ·exact absurd (waH _ n) U
  ·by_cases B:d=z
   ·rw[B]at I;exact j q I
   ·refine wb0 _ (RD (λm=>?_) q I);rcases waC.mp m with m |m
    ·exact U (wb0 _ m)
    ·exact B (wan.mp m)
  ·rw[wa7]at R;rw[wa7,wa7];have:t.length+1<=f.length+1:=R
   lia
 refine⟨_,rfl,x,L.aw,dx,_,_,rfl,s3 _ _ hx,L.av.cl,L.av.cC,bH ah bw cl,_,rfl,.inl ⟨rfl,_,aE.of O⟩,wl,_,_,rfl,rfl,O,hz,?_⟩;rw[Iu];have s4:a7 H (upd Y wl (.lst ((nI t).map V.int))):=λb o e=>by rw[ae (af e Wk)];exact s3 _ _ e
 have LD:(upd Y wl (.lst ((nI t).map V.int))) rd=some (.dK (dB f)):=by rw[ae J];exact RH
 have Qv:(upd Y wl (.lst ((nI t).map V.int))) wl=some (.lst ((nI t).map V.int)):=a6;generalize upd Y wl (.lst ((nI t).map V.int))=H4 at s4 LD Qv;refine⟨cl,xs,_,_,rfl,rfl,s4.seq (.inl hc),bB Np,?_⟩;refine⟨_,rfl,a,rfl,⟨_,s4.seq hS⟩,eh (K:=K) (a:=a) (xs:=rr.map V.ref) (U4 c f t x rd wl a d z H) ⟨[],_,_,rfl,s4,by rw[waW];exact LD,by rw[waW];exact Qv,by rw[waW];exact nd,by rw[waW];exact U6,λq I=>by rw[wgb]at I;cases I⟩ (λi σ H5 _ q=>q.s.seq hS) ?_ ?_⟩
 ·rintro i y σ H5 hy ⟨ad,M,v6,rfl,s5,C,X,D,G,j⟩;have hi:i<rr.length:=by have:=(wa5.mp hy).1;rwa[wa0]at this
  have U9:i<(c.getD z []).length:=by lia
  rw[wa4,wa1 hi]at hy;cases hy;have Qw:H rr[i]=some (.tup [.str (c.getD z [])[i].1,.int ((c.getD z [])[i].2:Int)]):=hT.2 i rr[i] (lq (eO (c.getD z [])[i])) (wa1 hi) (by rw[wa4,wa4,wa1 U9];rfl);have Qx:(c.getD z []).take (i+1)=(c.getD z []).take i++[(c.getD z [])[i]]:=by rw[waS,wa1 U9];rfl
  have LJ:=U7 _ (waE U9);generalize (c.getD z [])[i]=q at Qw Qx LJ;have YK:=lA D G;refine⟨rr[i],_,rfl,hZ.of (s5 _ _ Qw),rfl,_,_,rfl,_,_,rfl,rfl,?_⟩;have g:=dG.k (k:=(wbb (q.2:Int):Key)) C;rw[CL]at g
  by_cases m:q.2∈f++ad
  ·rw[if_pos m]at g;refine⟨_,rfl,_,rfl,rd,_,rfl,g,false,rfl,bx ?_⟩;refine⟨ad,_,_,rfl,s5,C,X,D,G,λp u=>?_⟩;rw[Qx]at u;rcases waC.mp u with u |u
   ·exact j p u
   ·rw[wan.mp u];exact m
  ·rw[if_neg m]at g;refine⟨_,rfl,_,rfl,rd,_,rfl,g,true,rfl,eE ?_⟩;refine⟨_,rfl,_,rfl,rd,_,rfl,kQ.k (k:=wbb (q.2:Int)) C (bF (by unfold dB;rw[wa0];lia)),?_⟩;rw[Ng m];have Ws:(upd H5 rd (.dK (dB (f++ad++[q.2])))) wl=some (.lst ((nI (t++ad)).map V.int)):=by rw[ae J.symm];exact X
   refine⟨_,rfl,.inl ⟨rfl,_,aE.of Ws⟩,_,rfl,wl,_,_,rfl,rfl,Ws,?_,?_⟩
   ·rw[wa7]at R YK;rw[wa0,cy,wa7];have:t.length+1<=f.length+1:=R;exact bF (by lia)
   refine⟨ad++[q.2],_,_,rfl,λb o e=>by rw[ae (af e Wk),ae (af e U5)];exact s5 _ _ e,by rw[ae J,a6,waP],by rw[a6,<-waP,qc (t++ad),wal];rfl,?_,λr n=>?_,λp u=>?_⟩
   ·rw[<-waP];refine wf3.mpr ⟨D,by simp,λa ha b hb e=>?_⟩;rw[wan.mp hb]at e;rw[e]at ha;exact m ha
   ·rw[<-waP]at n;rcases waC.mp n with n |n
    ·exact G r n
    ·rw[wan.mp n];exact LJ
   ·rw[<-waP];rw[Qx]at u;rcases waC.mp u with u |u
    ·exact wb0 _ (j p u)
    ·rw[wan.mp u];exact waH _ (wan.mpr rfl)
 ·rintro σ H5 ⟨ad,M,v6,rfl,s5,C,X,D,G,j⟩;rw[wa0,Wo,waG]at j;exact⟨ad,M,v6,rfl,s5,C,X,D,G,j⟩
end
end K72
namespace L2
open PySem PySem.Spec PyProof.Rows PySem.W
open Builtin Builtin.ObjectAttr
section
variable{prog:wap}{w:World}{A:Around}{E:Value->Shared->Prop}{s:Shared}{K:wa2}{x dx C CB f:Addr}{mA:Str->Option Value}{name:Str}{v:Value}{R:wcN->Shared->Prop}
theorem Fw{Q:Unit->Shared->Prop}(X:K.In s.heap)(hx:s.heap.get? x=some (sF C d t))(hd:s.heap.Ns1 d mA)(hw:wdE mA ns)(hl:ns.length<=100)(hc:clsIn K C=some cd)(hm:cd.mro=.ref C::nr CB)(hh:cd.hasDict=true)(ha:findIn K (.ref C) name=some none)
 (hs:findIn K (.ref C) "__setattr__"=some (some (.builtin "object.__setattr__")))
 (h:∀h' tk,(∀b,b≠d->h'.get? b=s.heap.get? b)->h'.Ns1 d (λy=>if y=name then some v else mA y)->Q () {s with heap:=h',toks:=tk}) :
 wpAny (model prog w) A (setAttr (.ref x) name v) Q E s:=by
 obtain⟨od,es,ep,e1,_⟩:=id hd;have J:InstAt s.heap x (sF C d t) C (some od):=⟨hx,rfl,rfl,e1⟩;refine weZ X J hs (wZ (s:={s with toks:=s.toks+1}) X J hc hm ha ?_);unfold storeInOwnDict;refine wa6 (wax ?_);rw[if_neg (by simp)];unfold ownDictForStores instanceDict;refine wa6 (wa6 (wg5 hx ?_));dsimp only;refine wa6 (weM (s:={s with toks:=s.toks+1}) (wdZ X hc) ?_);rw[hh];simp only[wgt,wbU,if_false];refine wax ?_;show wpAny _ _ (storeInDict d (.str name s.toks) name v) _ _ _;unfold storeInDict newKeyGuard;refine wa6 (wax (wa6 (wgG hd λh' Bc Lh=>?_)));obtain⟨oD,Y0,Y1,SY,Vv,Vw⟩:=Bc.count (wfH name v hw);refine wa6 (wfg SY (by grind [wfh,wai,wc5]) ?_)
 wp_walk
 exact h h' _ (λb hb=>Lh.2 b hb) Bc
end
section
variable{X:Cx}{CB:Addr}{o value:Expr}{ta tv:TE}{name:Str}{pos pos':Pos}
theorem Fx{fs:List (Str×V)}{g:Str->Option Value}(r:∀f,jw (fs.lookup f) (g f)):wdE g (fs.map (·.1)):=by grind [jw,wdE,wad,wac]
theorem Av(h:fs.lookup name=none)(f:Str):(fs++[(name,y)]).lookup f=if f=name then some y else fs.lookup f:=by
 grind
def Nq(K:wa2)(CB:Addr)(ta tv:TE)(name:Str):TS:=λD σ H=>tv σ H λy H1=>ta σ H1 λz H2=>∃x C nm d fs,z=.ref x/\H2 x=some (XD x C d)/\H2 d=some (.xd fs)/\fs.length<=50/\dX K C CB nm/\findIn K (.ref C) name=some none/\fs.lookup name=none/\D.nx σ (upd H2 d (.xd (fs++[(name,y)])))
theorem Iy(ha:PE X o ta)(J:PE X value tv)(hs:wc1 value (some (.Attribute o name pos')) pos.line X.env=pure false):PS X (.Assign [.Attribute o name pos'] value pos) (Nq X.K CB ta tv name):=by
 refine⟨?_⟩;intro c s σ H D I h;refine wcP (bI (J c s σ H _ I h) λu G ⟨y,L,M,O,q⟩=>bI (ha c G σ L _ M q) λQ E R=>?_) hs;obtain⟨z,i,g,S,x,C,T,d,fs,V,Y,hd,hl,U,hn,Z,q2⟩:=R;subst V;obtain rfl:Q=waj x:=S;obtain⟨⟨t,ht⟩,_⟩:=g.b7 x _ Y;obtain⟨mA,ns,r⟩:=g.b7 d _ hd;obtain⟨qn,N,bs,sn,sub,ab,m,dd,k0,k1,k2,k3,k5,lk⟩:=U.lk;refine Fw (CB:=CB) g.hE ht ns (Fx r) (by rw[wa0];lia) (cd:={name:=T,bases:=bs,mro:=.ref C::nr CB,ns:=N,qualname:=qn,hasDict:=true,slotNames:=sn,subclasses:=sub,abstract:=ab,collection:=m,hasDel:=false}) (by unfold clsIn;rw[lk]) rfl rfl hn U.sa λp tk k j=>⟨σ,_,?_,q2⟩;obtain⟨o',_,_,eo,_⟩:=id j;have nx:∀{b:Addr} {o:HO},i b=some o->(∀fs,o≠.xd fs)->b≠d:=λe n z=>by rw[z,hd]at e;exact n _ (wae e).symm
 have A:∀{b:Addr},i b=none->b≠d:=λe z=>by rw[z,hd]at e;cases e
 have un:Un (qF X.stack) [] i (upd i d (.xd (fs++[(name,y)]))) E.heap p:=by
  refine⟨λb o q n _ _=>by rw[k b (A n)];exact q,λb o q n _ _=>⟨o.slots,by rw[k b (A n)];exact q⟩,λb o q n _=>?_,λb o q _=>?_,λb vs q=>?_,λb o v q=>?_,λb ps q=>?_⟩
  ·rw[ae (A n)];exact n
  ·by_cases z:b=d
   ·rw[z];exact⟨_,eo⟩
   ·exact⟨o,by rw[k b z];exact q⟩
  ·rw[ae (nx q λψ z=>by cases z)];exact q
  ·rw[ae (nx q λψ z=>by cases z)];exact q
  ·exact⟨#[],by rw[ae (nx q λψ z=>by cases z),q];simp⟩
 have b7:jx X.prog X.w (upd i d (.xd (fs++[(name,y)]))) p:=λa o e=>by
  by_cases z:a=d
  ·subst z;rw[a6]at e;cases e;refine⟨_,j,λf=>?_⟩;rw[Av Z]
   by_cases e:f=name
   ·rw[if_pos e,if_pos e];exact O
   ·rw[if_neg e,if_neg e];exact r f
  ·rw[ae z]at e;refine(g.b7 a o e).vF (λb u l q=>?_) (λb q=>?_) λb vs q=>?_
   ·rw[k b ?_]
    ·exact q
    ·rintro rfl;rcases l with rfl |l
     ·exact z rfl
     ·rw[hd]at l;cases l
   ·rw[ae (λB=>by rw[B,hd]at q;cases q)];exact q
   ·rw[ae (λB=>by rw[B,hd]at q;cases q)];exact q
 exact g.wA (s':={E with heap:=p,toks:=tk}) rfl un b7 g.bare λb z=>absurd z (by simp)
end
end L2
namespace Sx
open PySem L2 Bs
def LU(v:V):Prop:=∃i:Int,v=.int i/\i.natAbs.log2<1920
inductive Ua(C:Addr)(n1 n2:Str)(dq YL:V->Prop)(vs:List V)(H:Hp)(Q:VK)(dQ:XK):Prop
 |mk (x u v) (_:vs=[.ref x,u,v]) (_:dq u) (_:YL v) (_:H x=some (XN x C)) (_:∀d,H d=none->Q .non (upd (upd H d (.xd [(n1,u),(n2,v)])) x (XD x C d)))
end Sx
namespace Bs
open PySem L2 Sx
theorem fB{a b:Str}{m n:Nat}(g:a.length<=m)(j:b.length<=n):(a++b).length<=m+n:=by
 rw[len_app];exact Nat.add_le_add g j
theorem D3{m j N:Nat}{many wide:Int}{g:Str}{bw ss:List Str}(l:fO m many wide)(b:(j:Int)<=24)(c:dY g bw ss N "" < many^j):(dY g bw ss N "").natAbs.log2<1920:=by
 have h0:0<=dY g bw ss N "":=MU N "";obtain⟨k,hk⟩:∃k:Nat,many=k:=⟨many.toNat,by have:=l.a;lia⟩;have d:k<=8:=by have:=l.b;lia
 rw[hk,<-wdC]at c;have e:k^j<=8^24:=wai (Nat.pow_le_pow_left d j) (wgq (by decide) (by lia))
 have f:(dY g bw ss N "").natAbs<2^72:=by
  grind
 have h:=Nat.log2_lt (n:=(dY g bw ss N "").natAbs) (k:=72)
 by_cases z:(dY g bw ss N "").natAbs=0
 ·rw[z];decide
 ·grind
end Bs
namespace L2
open PySem PySem.Spec PyProof.Rows Sx
section
variable{X:Cx}
theorem Fy{K:wa2}(J:X.K=K):Jy X "list.index" (λx xs H Q=>∃l g k i,x=.ref l/\xs=[.int k]/\aE K H l (wcA V.int g)/\g.length<=1000/\g[i]?=some k/\(∀j:Nat,j<i->g[j]?≠some k)/\Q (.int (i:Nat)) H):=by
 subst J;intro B s σ H x xs v Z Q I G L h;obtain⟨l,g,k,i,rfl,rfl,M,N,hi,o,q⟩:=h;cases G;obtain⟨u,rfl,O,rfl⟩:=L.one;obtain⟨a,C,pl,hz⟩:=I.list M;obtain⟨⟨cls,R,data,sl⟩,D,hc,n,hd⟩:=pl.isList;simp only at hc hd;subst hc hd;have d:=C.length;rw[wa0]at d;have S:i<g.length:=(wa5.mp hi).1
 have b:∀m (c:m<a.length),∃t,a[m]=.int (g[m]'(by omega)) t:=λm c=>by
  obtain⟨w,E,T⟩:=C.get (i:=m) (x:=.int (g[m]'(by omega))) (by rw[wa4,wa1 (by omega)];rfl);rw[wa1 c]at E;obtain⟨t,rfl⟩:=T;exact⟨t,wae E⟩
 refine wep wcS ⟨_,D,rfl⟩ wfq (wfa _ _)
  (wfr l a.toArray n R sl (.int k O) (λw=>match w with |.int z _=>z==k |_=>false) i (by simp;omega) (by omega) ?_ ?_) ⟨D,λy U=>?_,?_⟩
 ·obtain⟨t,e⟩:=b i (by omega);have Y:g[i]=k:=(wa5.mp hi).2;simp only[wdr];rw[e,Y];simp
 ·intro m c p;have r:m<a.length:=by simpa using c
  obtain⟨t,e⟩:=b m r;simp only[wdr];rw[e];have f:=o m p;rw[wa1 (by omega)]at f;simp only[beq_eq_false_iff_ne,ne_eq];exact λz=>f (by rw[z])
 ·have A:y∈a:=by simpa using U
  obtain⟨m,c,rfl⟩:=wbp A;obtain⟨t,e⟩:=b m c;rw[e];exact wg6 _ _ _ _
 ·exact⟨.int (i:Nat),H,I.tok _,⟨_,rfl⟩,q⟩
end
end L2
namespace Bs
open PySem L2 Sx
noncomputable def fC(ks:List Nat)(m:Nat)(qs:List (Str×Nat)):List (Str×Nat):=((cx ks qs).take m).map λq=>(q.1,ks.idxOf q.2)
noncomputable def dD(lns:List (List (Str×Nat)))(ks:List Nat)(m:Nat):List (List (Str×Nat)):=ks.map λd=>fC ks m (lns.getD d [])
noncomputable def kE(wl:List (List (Str×Nat)))(s:Str×Nat)(t:Nat):Str×Nat:=(s.1++((wl.getD s.2 []).getD t ("",0)).1,((wl.getD s.2 []).getD t ("",0)).2)
noncomputable def bD(wl:List (List (Str×Nat)))(d:Nat)(ts:List Nat):Str×Nat:=ts.foldl (kE wl) ("",d)
structure Fz(many:Int)(n:Nat)(wl:List (List (Str×Nat))):Prop where
 ne:wl≠[]
 ln:∀l∈wl,(l.length:Int)=many
 e:∀l∈wl,∀q∈l,q.2<wl.length
 wd:∀l∈wl,∀q∈l,q.1.length=n
theorem xQ(wl:List (List (Str×Nat)))(d:Nat)(ts:List Nat)(t:Nat):bD wl d (ts++[t])=kE wl (bD wl d ts) t:=by
 grind [bD]
theorem dO{wl:List (List (Str×Nat))}{d:Nat}(h:d<wl.length):wl[d]?=some (wl.getD d []):=by
 grind
theorem qk{l:List (Str×Nat)}{t:Nat}(h:t<l.length):l[t]?=some (l.getD t ("",0)):=by
 grind
theorem E6{many:Int}{n:Nat}{wl:List (List (Str×Nat))}(g:Fz many n wl):∀(ts:List Nat) (s:Str×Nat),s.2<wl.length->(∀t∈ts,(t:Int)<many)->(ts.foldl (kE wl) s).2<wl.length/\(ts.foldl (kE wl) s).1.length=s.1.length+n*ts.length
 |[],s,h,_=>⟨h,rfl⟩
 |t::ts,s,h,c=>by
  have j:=c t (wad ..);have hl:=wa8 (dO h);have f:=g.ln _ hl;have d:=wa8 (qk (l:=wl.getD s.2 []) (t:=t) (by lia));obtain⟨a,b⟩:=E6 g ts (kE wl s t) (g.e _ hl ((wl.getD s.2 []).getD t ("",0)) d) λx i=>c x (wac _ i);refine⟨a,?_⟩;rw[wdw,b];show (s.1++_).length+_=_;rw[len_app,g.wd _ hl _ d,waF,Nat.mul_add,Nat.mul_one]
  lia
theorem sQ{many:Int}{n:Nat}{wl:List (List (Str×Nat))}(W:Fz many n wl){d:Nat}(hd:d<wl.length){ts:List Nat}(g:∀t∈ts,(t:Int)<many):(bD wl d ts).2<wl.length/\(bD wl d ts).1.length=n*ts.length:=by
 obtain⟨a,b⟩:=E6 W ts ("",d) hd g;refine⟨a,b.trans ?_⟩;show 0+_=_
 lia
theorem vT.word(h:vT (aQ g bw ss ls n) hs lns)(hl:lns.length=hs.length)(j:∀p∈hs,p∈ss)(he:("":Str)∈ss):∀l∈lns,∀q∈l,q.1.length=n:=by
 intro l d q f;obtain⟨i,hi,e⟩:=wbp d;have a:i<hs.length:=by lia
 have b:0<gx hs[i] (q.1,q.2) hs lns:=by
  have k:hs[i]?=some hs[i]:=wa1 a;have m:lns[i]?=some l:=by rw[wa1 hi,e]
  have:=jP (z:=(q.1,q.2)) k m;have hc:0<l.count (q.1,q.2):=wbY.mpr f
  lia
 rw[h hs[i] q.1 q.2]at b
 by_cases c:q.2<hs.length/\hs[i]∈hs/\(q.1,hs.getD q.2 "")∈aQ g bw ss ls n hs[i]
 ·exact(tX he (j _ (waE a)) n _ (wau.mp c.2.2).1).2
 ·rw[if_neg c]at b
  lia
theorem Qy{many:Int}{n:Nat}{lns:List (List (Str×Nat))}{g:List Nat}(h:nD lns many g)(j:g≠[])(t:0<=many)(r:∀l∈lns,∀q∈l,q.1.length=n):Fz many n (dD lns g many.toNat):=by
 refine⟨λz=>j (wgA.mp z),λl hl=>?_,λl hl q a=>?_,λl hl q a=>?_⟩
 ·obtain⟨d,hd,rfl⟩:=waa.mp hl;have:=(h.st d hd).2;unfold fC;rw[wa0,wak]
  lia
 ·obtain⟨d,hd,rfl⟩:=waa.mp hl;unfold fC at a;obtain⟨p,b,rfl⟩:=waa.mp a;have c:=of_decide_eq_true (wau.mp ((wbg _ _).subset b)).2;unfold dD;rw[wa0];exact wbC.mpr c
 ·obtain⟨d,hd,rfl⟩:=waa.mp hl;unfold fC at a;obtain⟨p,b,rfl⟩:=waa.mp a;have e:=(wau.mp ((wbg _ _).subset b)).1;exact r _ (wa8 (dO (h.st d hd).1)) p e
theorem vd:∀{hs:List Nat} {j:Nat} (h:j<hs.length),hs.idxOf hs[j]<=j
 |[],j,h=>absurd h (wdA _)
 |a::hs,0,h=>by
  show (a::hs).idxOf a<=0;rw[wgp];exact wab 0
 |a::hs,j+1,h=>by
  have b:j<hs.length:=by simpa using h
  show (a::hs).idxOf hs[j]<=j+1;rw[whr];have:=vd b
  cases(a==hs[j]) with
  |true=>grind
  |false=>grind
theorem KJ(h:k∈g):(nI g)[g.idxOf k]?=some (k:Int)/\∀j:Nat,j<g.idxOf k->(nI g)[j]?≠some (k:Int):=by
 have hl:g.idxOf k<g.length:=wbC.mpr h;unfold nI;refine⟨by grind,λj c e=>?_⟩;have a:j<g.length:=by lia
 rw[wa4,wa1 a]at e;have b:g[j]=k:=by grind
 have:=vd a;rw[b]at this
 lia
end Bs
namespace Sx
open PySem L2 Bs
inductive KL(K:wa2)(vs:List V)(H:Hp)(Q:VK)(dQ:XK):Prop
 |mk (v b many ks qs) (_:vs=[v,.ref b,.int many]) (_:bA K H (bR qs) v) (_:aE K H b ((nI ks).map V.int)) (_:ks.length<=1000) (_:qs.length<=10000) (_:0<=many) (_:∀y H',a7 H H'->bA K (aF H H') (bR (fC ks many.toNat qs)) y->Q y H')
inductive Iz(K:wa2)(vs:List V)(H:Hp)(Q:VK)(dQ:XK):Prop
 |mk (v:V) (d:Nat) (a:Addr) (many:Int) (n:Nat) (wl:List (List (Str×Nat))) (ts:List Nat) (_:vs=[v,.int (d:Int),.ref a]) (_:bA K H (jO wl) v) (_:aE K H a ((nI ts).map V.int)) (_:Fz many n wl) (_:d<wl.length) (_:(∀t∈ts,(t:Int)<many)) (_:ts.length<=100000) (_:n<=10) (_:∀p H',a7 H H'->H' p=some (.tup [.str (bD wl d ts).1,.int ((bD wl d ts).2:Int)])->Q (.ref p) H')
structure IA(bw:List Str)(M:Int):Prop where
 u:∀w∈bw,(w.length:Int)<=M
 a:M=0/\bw=[]\/∃w∈bw,(w.length:Int)=M
structure ve(bw:List Str)(n:Nat)(b:Nat):Prop where
 le:b<=1000
 is:∃M:Int,IA bw M/\(b:Int)=((if 0>M-1 then 0 else M-1)+(n:Int)-1)/(n:Int)
inductive KM(C:Addr)(vs:List V)(H:Hp)(Q:VK)(dQ:XK):Prop
 |mk (x g bw ss ls) (_:vs=[.ref x]) (_:aS C H x g bw ss ls) (_:bw.length<=1000) (_:(∀w∈bw,w.length<=1000)) (_:∀(M:Int) (H':Hp),a7 H H'->IA bw M->Q (.int M) H')
inductive IB(C:Addr)(vs:List V)(H:Hp)(Q:VK)(dQ:XK):Prop
 |mk (x:Addr) (n:Nat) (g:Str) (bw ss ls:List Str) (_:vs=[.ref x,.int (n:Int)]) (_:aS C H x g bw ss ls) (_:1<=n) (_:n<=10) (_:(∀w∈bw,w.length<=900)) (_:bw.length<=1000) (_:∀(b:Nat) (H':Hp),a7 H H'->ve bw n b->Q (.int (b:Int)) H')
end Sx
namespace K72
open PySem L2 Bs Sx
section
variable{P:wap}{w:World}{K:wa2}{mg:Str->Option Value}{base:Heap}
theorem js(L:Lk K mg):aO P w K mg base cP 2 L.fg L.fi ["line","kept","many"] (KL K):=by
 refine L.cZ.F.dq (N:=["line","kept","many"]) (λX A outer s H vs Q E nd t h=>?_);obtain⟨v,b,many,c,g,rfl,Y,S,u,x,m0,k⟩:=h;refine⟨_,(a9 (ay (gw rfl (au ["kept"] [1]) (au ["kept"] [1]) (by decide) (aK (d7 iK (ai (n0 L) L.hV (a8 (pv 0) (aG (pv 1)))) hF (bL (pv 2)))) (λ_ _ _ _ _ _=>aY) (λ_ _ _ _ _ _=>(dW (a8 (pv 0) (aG (Cp (K:=K) rfl waN wcS wfB (Fy (K:=K) rfl) (pv 2) (aG (pv 1)))))))))),?_⟩
 try dsimp only[dj,di,b0,b6]
 have B:many=((many.toNat:Nat):Int):=by omega
 refine⟨_,rfl,_,rfl,v,b,c,g,rfl,Y,S,x,λy C D Z=>?_⟩;obtain⟨a,f,rfl,hS,T⟩:=eQ (bA.same (cj _ _) _ _ Z);have CZ:f.length=(cx c g).length:=by rw[T.1,wa0,wa0]
 have VP:=HM c g;refine⟨_,rfl,((many.toNat:Nat):Int),congrArg V.int B,a,_,rfl,hS,λm G=>?_⟩;rw[DI,<-wcW];have n:=a7.upd (H:=C) (o:=.lst ((f.take many.toNat).map V.ref)) G;have I:(upd C m (.lst ((f.take many.toNat).map V.ref))) m=some (.lst ((f.take many.toNat).map V.ref)):=a6;generalize upd C m (.lst ((f.take many.toNat).map V.ref))=H2 at n I;refine⟨m,rfl,⟨_,aE.of I⟩,λl hl=>?_⟩;refine my (prs:=((cx c g).take many.toNat).map eO) (λ_=>true) (λq=>match q.2 with |.int e=>.tup [.at q.1,.at (.int (c.idxOf e.toNat:Int))] |_=>.at .non) (aI K m _) (by grind) (λi q j=>?_) hl (aq (by grind)) (λU J=>aE.of (J _ _ I)) (λq M Q' _ _ O=>O M (a7.refl _)) (λq M Q' j _ s3 O=>?_) (λU J r=>?_)
 ·rw[wa4]at j
  have hi:i<((cx c g).take many.toNat).length:=by
   cases e:((cx c g).take many.toNat)[i]? with
   |none=>rw[e]at j;cases j
   |some z=>exact(wa5.mp e).1
  have d:i<many.toNat/\i<f.length:=by rw[wak]at hi;omega
  rw[wdG d.1,wa1 (by omega)]at j;cases j;refine⟨f[i],by rw[wa4,wdG d.1,wa1 d.2];rfl,hZ.of (n _ _ ?_)⟩;exact T.2 i f[i] (lq (eO (cx c g)[i])) (wa1 d.2) (by rw[wa4,wa4,wa1 (by omega)];rfl)
 ·obtain⟨z,hz,rfl⟩:=waa.mp j;have R:=of_decide_eq_true (wau.mp ((wbg _ _).subset hz)).2;have p:aE K M b ((nI c).map V.int):=((D.trans n).trans s3).seq S;obtain⟨i1,i2⟩:=KJ R;refine⟨_,rfl,_,rfl,.inl ⟨rfl,_,p⟩,_,rfl,b,nI c,(z.2:Int),c.idxOf z.2,rfl,rfl,p,by rw[cy];exact u,i1,i2,by show 2<=sizeLine;decide,λr t=>?_⟩;exact O _ _ (a7.upd t) (om t (z.1,c.idxOf z.2))
 ·rw[wb6.mpr (λ_ _=>rfl),waf]at r;refine k _ U ((D.trans n).trans J) (bA.same (dM (D.trans n)) _ _ ?_);unfold fC bR;rw[waf];exact r
theorem xR(L:Lk K mg):aO P w K mg base cP 1 L.Al L.Ap ["lines","desk","data"] (Iz K):=by
 refine L.p6.F.dq (N:=["lines","desk","data","row","thing","step"]) (λX A outer s H vs Q E nd hr h=>?_);obtain⟨v,d,a,many,n,wl,ts,rfl,Y,T,z,hd,m,Z,hn,k⟩:=h
 refine⟨_,(a5 (ag (i:=3) cI)
  (a5 (forA (aK (pv 2)) (ax (i:=4)) (a5 (ag (i:=5) (aX aW (aX aW (pv 0) (pv 1) (λ_ _=>rfl)) (pv 4) (λ_ _=>rfl)))
  (a5 (kK (i:=3) nd rfl (wd3 rfl) (aX gF (pv 5) aj (λ_ _=>rfl)) DQ)
  (a9 (ag (i:=1) (aX gF (pv 5) aj (λ_ _=>rfl)))))))
  (a9 (ay (dW (a8 (pv 3) (aG (pv 1)))))))),?_⟩
 try dsimp only[dj,di,b0,b6]
 obtain⟨cl,xs,rfl,hc,B⟩:=id Y;refine⟨_,rfl,a,rfl,⟨_,T⟩,eh (K:=K) (a:=a) (xs:=(nI ts).map V.int) (λi σ u=>∃(v4 C:Option V),σ=[some (.ref cl),some (.int ((bD wl d (ts.take i)).2:Int)),some (.ref a),some (.str (bD wl d (ts.take i)).1),v4,C]/\a7 H u) ⟨none,none,rfl,a7.refl _⟩ (λi σ u _ ⟨_,_,_,c⟩=>c.seq T) ?_ ?_⟩
 ·rintro i y σ u D ⟨v4,C,rfl,c⟩;have hi:i<ts.length:=by have:=(wa5.mp D).1;rwa[wa0,cy]at this
  have g:ts[i]?=some ts[i]:=wa1 hi;rw[CK g]at D;cases D;have G:=m _ (waE hi);have pF:ts.take (i+1)=ts.take i++[ts[i]]:=by rw[waS,g];rfl
  generalize ts[i]=t at g G pF;obtain⟨w1,w2⟩:=sQ z hd (ts:=ts.take i) λx hx=>m x ((wbg _ _).subset hx);have e:=xQ wl d (ts.take i) t;rw[<-pF]at e;have I:=dO w1;have Iq:=z.ln _ (wa8 I);have J:=z.wd _ (wa8 I);have M:kE wl (bD wl d (ts.take i)) t=((bD wl d (ts.take i)).1++((wl.getD (bD wl d (ts.take i)).2 []).getD t ("",0)).1,((wl.getD (bD wl d (ts.take i)).2 []).getD t ("",0)).2):=rfl;rw[M]at e;generalize bD wl d (ts.take i)=O at *;obtain⟨v,R,rd⟩:=B.at (i:=O.2) (d:=bR (wl.getD O.2 [])) (by rw[wa4,I];rfl);generalize wl.getD O.2 []=f at *;obtain⟨b,j,rfl,hS,U⟩:=eQ rd;have CZ:j.length=f.length:=by rw[U.1,wa0,wa0]
  have l:t<f.length:=by lia
  have o:t<j.length:=by lia
  have r:H j[t]=some (.tup [.str f[t].1,.int (f[t].2:Int)]):=U.2 t j[t] (lq (eO f[t])) (wa1 o) (by rw[wa4,wa4,wa1 l];rfl);have eq:f.getD t ("",0)=f[t]:=by rw[wa3,wa1 l];rfl
  have S:=J _ (waE l);rw[eq]at e;generalize f[t]=q at *;refine⟨_,rfl,_,rfl,cl,xs,_,_,rfl,rfl,c.seq (.inl hc),bB R,_,rfl,b,_,_,_,rfl,rfl,c.seq hS,bB (v:=.ref j[t]) (by rw[wa4,wa1 o];rfl),?_⟩;refine⟨_,rfl,_,rfl,j[t],_,_,_,rfl,rfl,hZ.of (c _ _ r),rfl,_,_,rfl,rfl,aq ?_,?_⟩
  ·rw[w2,S,wak];have h1:n*min i ts.length<=10*99999:=wdj hn (by lia)
   lia
  refine⟨_,rfl,j[t],_,_,_,rfl,rfl,hZ.of (c _ _ r),rfl,?_⟩;rw[e];exact⟨_,_,rfl,c⟩
 ·rintro σ u ⟨v4,C,rfl,c⟩;rw[wa0,cy,waG];refine⟨_,rfl,_,rfl,by show 2<=sizeLine;decide,λp hp=>?_⟩;exact k p _ (c.trans (a7.upd hp)) a6
theorem se(L:Lk K mg):aO P w K mg base cP 1 L.lF L.lQ ["self"] (KM L.az):=by
 have T:=L.T;refine L.iF.F.dq (N:=["self"]) (λo A outer s H R Q E nd S h=>?_);obtain⟨x,g,bw,ss,ls,rfl,B,p,e,k⟩:=h;refine⟨_,(a9 (ay (Kk rfl (by rfl) T.max (aG (bS rfl (au [] []) (aK (aM (pv 0) rfl)) (λ_ _ _ _ _ _=>aY) (λ_ _ _ _ _ _=>(Ae T.len (pv 0))))) aj))),?_⟩
 try dsimp only[dj,di,b0,b6]
 obtain⟨r,b,d,q,U,t,l,f,X,Y,Z⟩:=id B.ex;refine⟨_,rfl,x,L.az,r,_,_,rfl,t,L.aB.cl,L.aB.Ag,zN g b d q,b,rfl,⟨_,aE.of l⟩,λu i=>?_⟩;refine df (λ_=>true) (λv=>match v with |.str z=>.int (z.length:Int) |_=>.non) (aI K b _) i (aq (by rw[wa0];lia)) (λH' C=>aE.of (C _ _ l)) (λy a D m c j=>j a (a7.refl _)) (λy a D m _ c j=>?_) (λa c f=>?_)
 ·obtain⟨w,hw,rfl⟩:=waa.mp m;exact⟨_,rfl,w,rfl,aq (by have:=e w hw;lia),j a (a7.refl _)⟩
 have G:((bw.map V.str).filter λ_=>true).map (λv=>match v with |.str z=>V.int (z.length:Int) |_=>.non)=(bw.map λw=>(w.length:Int)).map V.int:=by
  rw[wb6.mpr (λ_ _=>rfl),waf,waf];rfl
 rw[G]at f;refine⟨u,_,0,rfl,rfl,aE.of f,λhn=>?_,λM I J=>?_⟩
 ·have n:bw=[]:=wgA.mp hn;exact k 0 a c ⟨(λw hw=>by rw[n]at hw;cases hw),.inl ⟨rfl,n⟩⟩
 ·obtain⟨w,hw,rfl⟩:=waa.mp I;exact k _ a c ⟨λz O=>J _ (waa.mpr ⟨z,O,rfl⟩),.inr ⟨w,hw,rfl⟩⟩
theorem ql(L:Lk K mg):aO P w K mg base cP 2 L.kl L.ky ["band","wide"] (IB L.az):=by
 have T:=L.T;refine L.gM.F.dq (N:=["band","wide","signs"]) (λj A outer s H v Q E nd y h=>?_);obtain⟨x,n,g,bw,ss,ls,rfl,B,n1,KN,c,e,k⟩:=h
 refine⟨_,(a5 (ag (i:=2) (aP (Ek rfl) (by rfl) T.max Hh (a8 (aN jA (Af (pv 0) L.aB.cl L.iF (se L)) aj) (aG aj))))
  (a9 (ay (aN sC (aN jA (aN gD (pv 2) (pv 1)) aj) (pv 1))))),?_⟩
 try dsimp only[dj,di,b0,b6]
 obtain⟨l,b,d,q,z,m,C,D,G,I,J⟩:=id B.ex;refine⟨_,rfl,x,l,_,rfl,m,BP g b d q (by decide+kernel) (by decide+kernel) (by decide+kernel) (by decide+kernel),x,g,bw,ss,ls,rfl,B,e,(λw hw=>by have:=c w hw;omega),λM o p f=>?_⟩;refine⟨_,_,rfl,rfl,_,_,rfl,?_⟩
 have r:0<=M/\M<=900:=by
  rcases f.a with⟨h,_⟩ |⟨w,hw,h⟩
  ·omega
  ·have:=c w hw;omega
 have t:0<=((if 0>M-1 then 0 else M-1)+(n:Int)-1)/(n:Int):=whq (by split<;>omega) (by omega)
 have u:((if 0>M-1 then 0 else M-1)+(n:Int)-1)/(n:Int)<=1000:=by
  refine wdR (Int.ediv_le_self _ (by split<;>omega)) (by split<;>omega)
 refine⟨_,rfl,_,rfl,_,_,rfl,rfl,_,_,rfl,rfl,_,rfl,_,_,rfl,rfl,⟨by omega,by omega⟩,?_⟩;have:=k (((if 0>M-1 then 0 else M-1)+(n:Int)-1)/(n:Int)).toNat o p ⟨by omega,M,f,by omega⟩;rwa[show ((((if 0>M-1 then 0 else M-1)+(n:Int)-1)/(n:Int)).toNat:Int)=((if 0>M-1 then 0 else M-1)+(n:Int)-1)/(n:Int) by omega]at this
theorem nN(L:Lk K mg):aO P w K mg base cP 1 L.iT L.iU ["self","place"] (Tc L.az):=by
 have T:=L.T;refine L.fq.F.dq (N:=["self","place"]) (λa A outer s H l Q E nd m h=>?_);obtain⟨x,p,g,n,ss,ls,rfl,B,c,k⟩:=h;obtain⟨⟨f,b,d,q,o,i,r,t,u,y,j⟩,_,_,_⟩:=B;refine⟨_,(a9 (bj (PW.pt (ee (cS (bZ (aP cf (by rfl) T.Jd vM (a8 (pv 1) (aG (gf (v:=.ty "str") (by rfl) T.str GJ rfl)))))) (fI (eW jD (pv 1) (aM (pv 0) rfl) rfl)))) cJ aH)),?_⟩
 try dsimp only[dj,di,b0,b6]
 refine⟨_,rfl,_,_,_,true,rfl,ic.str p,rfl,true,rfl,bx ?_⟩;refine⟨_,rfl,_,rfl,x,L.az,f,_,_,rfl,i,L.aB.cl,L.aB.qf,wX g b d q,q,_,rfl,.inl (aE.of j),rfl,eN _,?_⟩;have e:nY (.str p) (ls.map V.str)=true:=by rw[jb];exact decide_eq_true c
 refine⟨false,?_,bx k⟩;show V.bl (!nY (.str p) (ls.map V.str))=V.bl false;rw[e];rfl
theorem vf(L:Lk K mg):aO P w K mg base cP 3 L.mN L.mU ["band","rows"] (Hm L.az):=by
 refine L.j3.F.dq (N:=["band","rows","longer","word","place","sign","end"]) (λgX A outer s H vs Q E nd hr h=>?_);obtain⟨x,l,rs,m,g,n,ss,ls,rfl,B,R,hq,LJ,Be,k⟩:=h
 refine⟨_,(a5 (ag (i:=2) (ck fK))
  (a5 (forA (aK (pv 1)) (dU rfl (aL (ax (i:=3)) (aL (ax (i:=4)) cG))) (a9 (forA (ng (aM (pv 0) rfl)) (ax (i:=5)) (a5 (ag (i:=6) (FW (pv 0) L.aB.cl L.eK (gC L) (a8 (pv 4) (aG (pv 5)))))
  (a9 (bj (cq xZ (pv 6) du) (a9 (bu (iL waN waV wb2 cK (pv 2) (aG (dW (a8 (aN n9 (pv 3) (pv 5)) (aG (pv 6)))))))) aH))))))
  (a9 (ay (pv 2))))),?_⟩
 try dsimp only[dj,di,b0,b6]
 refine⟨waJ _,λu v=>?_⟩;have s0:a7 H (upd H u (.lst [])):=a7.upd v;refine⟨_,rfl,l,rfl,⟨_,aE.of (s0 _ _ R.l)⟩,eh (K:=K) (a:=l) (xs:=rs.map V.ref) (λi σ J=>∃(v3 v4 z v6:Option V) (f:List Addr),σ=[some (.ref x),some (.ref l),some (.ref u),v3,v4,z,v6]/\a7 H J/\dC J u f (f9 g n ss (m.take i))) ⟨none,none,none,none,[],rfl,s0,⟨a6,bU.nil _⟩⟩ (λi σ J _ ⟨_,_,_,_,_,_,C,_⟩=>aE.of (C _ _ R.l)) ?_ ?_⟩
 ·rintro i y σ J D ⟨v3,v4,z,v6,f,rfl,C,R2⟩;rw[wa4]at D
  obtain⟨r,O,rfl⟩:∃r,rs[i]?=some r/\y=.ref r:=by
   cases q:rs[i]? with
   |none=>rw[q]at D;cases D
   |some r=>rw[q]at D;exact⟨r,rfl,(wae D).symm⟩
  have S:i<m.length:=by have:=(wa5.mp O).1;rw[R.len]at this;exact this
  have T:m[i]?=some m[i]:=wa1 S;obtain⟨U,X⟩:=hq m[i] (waE S);have hT:=R.t.2 i r (lu m[i]) O (by rw[wa4,T];rfl);have pF:m.take (i+1)=m.take i++[m[i]]:=by rw[waS,T];rfl
  have G:f9 g n ss (m.take (i+1))=f9 g n ss (m.take i)++pV g n ss m[i]:=by
   unfold f9;rw[pF,wgz];simp
  have RM:(f9 g n ss (m.take i)).length<=1000:=by
   have h1:=qP g n ss (m.take i);have h2:(m.take i).length<=100:=by rw[wak];lia
   exact wai h1 (wdj h2 Be)
  generalize m[i]=q at U X hT G;obtain⟨w,p⟩:=q;generalize f9 g n ss (m.take i)=M at R2 G RM;refine⟨r,_,rfl,hZ.of (C _ _ hT),rfl,_,_,rfl,_,_,rfl,rfl,?_⟩;have B2:=B.same C;obtain⟨⟨dx,b,d,qq,mv,h1,h2,h3,h4,h5,h6⟩,pm,_,_⟩:=id B2;refine⟨_,rfl,x,L.az,dx,_,_,rfl,h1,L.aB.cl,L.aB.iS,eI g b d qq,g,rfl,kR (ie g) (λj σ Y=>∃(z v6:Option V) (f:List Addr),σ=[some (.ref x),some (.ref l),some (.ref u),some (.str w),some (.str p),z,v6]/\a7 H Y/\dC Y u f (M++((ch g).take j).filterMap λc=>if bears n (p++⟨#[c]⟩)=true then none else some (w++⟨#[c]⟩,lend ss (p++⟨#[c]⟩)))) ⟨_,_,f,rfl,C,by rw[wgb,List.filterMap_nil,waW];exact R2⟩ (λ_ _ _ _ _=>trivial) ?_ ?_⟩
  ·rintro j y σ Y D ⟨z,v6,f,rfl,Z,R3⟩;obtain⟨c,Wt,rfl,hj,YM,Qx⟩:=wY D;have B3:=B.same Z;obtain⟨⟨YN,_,_,_,_,YQ,_⟩,_⟩:=id B3;refine⟨_,rfl,x,YN,_,rfl,YQ,BP _ _ _ _ (by decide+kernel) (by decide+kernel) (by decide+kernel) (by decide+kernel),_,rfl,_,rfl,x,p,c,g,n,ss,ls,rfl,B3,U,YM,?_⟩
   have Ub:(M++((ch g).take j).filterMap λc=>if bears n (p++⟨#[c]⟩)=true then none else some (w++(⟨#[c]⟩:Str),lend ss (p++(⟨#[c]⟩:Str)))).length<=1010:=by
    have:=wdP (λc=>if bears n (p++⟨#[c]⟩)=true then none else some (w++(⟨#[c]⟩:Str),lend ss (p++(⟨#[c]⟩:Str)))) ((ch g).take j);rw[wak,aR]at this;rw[wa7]
    lia
   refine⟨_,rfl,rfl,_,rfl,?_⟩;rw[Qx,wgc,<-waP];generalize (M++((ch g).take j).filterMap λc=>if bears n (p++⟨#[c]⟩)=true then none else some (w++(⟨#[c]⟩:Str),lend ss (p++(⟨#[c]⟩:Str))))=M2 at R3 Ub
   cases hb:bears n (p++⟨#[c]⟩) with
   |true=>
    have e:pG n ss p c=.non:=by unfold pG;rw[hb];rfl
    rw[e];refine bx ⟨_,_,f,rfl,Z,?_⟩
    have e2:([c].filterMap λc=>if bears n (p++⟨#[c]⟩)=true then none else some (w++(⟨#[c]⟩:Str),lend ss (p++(⟨#[c]⟩:Str))))=[]:=by
     rw[wb5,hb];rfl
    rw[e2,waW];exact R3
   |false=>
    have e:pG n ss p c=.str (lend ss (p++⟨#[c]⟩)):=by unfold pG;rw[hb];rfl
    rw[e]
    have e2:([c].filterMap λc=>if bears n (p++⟨#[c]⟩)=true then none else some (w++(⟨#[c]⟩:Str),lend ss (p++(⟨#[c]⟩:Str))))=[(w++⟨#[c]⟩,lend ss (p++⟨#[c]⟩))]:=by
     rw[wb5,hb];rfl
    rw[e2];have CZ:=R3.len;have YR:w.length<=100:=X;refine eE ⟨_,rfl,.inl ⟨rfl,_,aE.of R3.l⟩,_,rfl,_,rfl,_,_,rfl,rfl,aq (by show w.length+1<=_;lia),_,rfl,by show 2<=sizeLine;decide,λr' I=>?_⟩;refine⟨u,_,_,rfl,rfl,a7.upd I _ _ R3.l,by rw[wa0,CZ];exact wbc Ub (by rw[wc5];decide),?_⟩;have key:=R3.push I (w++⟨#[c]⟩,lend ss (p++⟨#[c]⟩))
    have sk:a7 H (upd (upd Y r' (.tup [.str (w++⟨#[c]⟩),.str (lend ss (p++⟨#[c]⟩))])) u (.lst (f.map V.ref++[.ref r']))):=λa o ea=>by
     rw[ae (af ea v)];exact a7.upd I _ _ (Z _ _ ea)
    unfold lu at key;generalize lend ss (p++⟨#[c]⟩)=le at key sk ⊢;refine⟨some (.str ⟨#[c]⟩),some (.str le),f++[r'],?_,?_,?_⟩
    ·rfl
    ·exact sk
    ·exact key
  ·rintro σ Y ⟨z,v6,f,rfl,Z,R3⟩;refine⟨_,_,_,_,f,rfl,Z,?_⟩;have:(cu g).length=(ch g).length:=by unfold cu;rw[wa0]
   rw[this,waG]at R3;rw[G];exact R3
 ·rintro σ J ⟨v3,v4,z,v6,f,rfl,C,R2⟩;rw[wa0,R.len,waG]at R2;exact⟨_,rfl,k u f J C v R2⟩
theorem me(L:Lk K mg):aO P w K mg base cP 4 L.mO L.mV ["band","place","wide"] (Hn L.az):=by
 have T:=L.T;refine L.gk.F.dq (N:=["band","place","wide","rows","step","live"]) (λgX A outer s H vs Q E nd hr h=>?_);obtain⟨x,p,n,g,a,ss,ls,rfl,B,hp,j,hn,E7,J,k⟩:=h
 refine⟨_,(a5 (bu (FW (pv 0) L.aB.cl L.fq (nN L) (aG (pv 1))))
  (a5 (ag (i:=3) (ck (aG (dW (a8 cI (aG (pv 1)))))))
  (a5 (forA (d8 rfl T.range (aG (pv 2))) (ax (i:=4)) (a9 (ag (i:=3) (ai (vf L) L.j3 (a8 (pv 0) (aG (pv 3)))))))
  (a5 (ag (i:=5) (Af (pv 0) L.aB.cl L.gA (k9 L)))
  (a9 (ay (gw rfl (au ["live"] [5]) (au ["live"] [5]) (by decide) (aK (pv 3)) (λ_ _ _ _ _ _=>gg (eW (ig (K:=K) rfl) (pv 1) (pv 2) rfl)) (λ_ _ _ _ _ _=>(dW (a8 (pv 0) (aG (pv 1)))))))))))),?_⟩
 try dsimp only[dj,di,b0,b6]
 have he:("":Str)∈ss:=B.pm.mem_iff.mpr (bb a);have M:p∈ss:=B.lv.sub.subset hp;obtain⟨⟨dx,b,d,q,mv,m,z,h3,h4,h5,h6⟩,pm,_,_⟩:=id B;refine⟨_,rfl,x,dx,_,rfl,m,BP _ _ _ _ (by decide+kernel) (by decide+kernel) (by decide+kernel) (by decide+kernel),_,rfl,x,p,g,a,ss,ls,rfl,B,hp,?_⟩;refine⟨_,rfl,by show 2<=sizeLine;decide,λe O=>⟨by show 1<=sizeLine;decide,λC o=>?_⟩⟩
 have R0:dC (upd (upd H e (.tup [.str "",.str p])) C (.lst [.ref e])) C [e] (tW g a ss p 0):=by
  refine⟨a6,rfl,λi r xs m z=>?_⟩
  match i,m,z with
  |0,m,z=>
   cases m;cases z;exact a7.upd o _ _ a6
 have s0:a7 H (upd (upd H e (.tup [.str "",.str p])) C (.lst [.ref e])):=(a7.upd O).trans (a7.upd o);refine⟨_,rfl,(n:Int),rfl,by lia,by lia,?_⟩;rw[waA];refine da (lo:=0) (n:=n) (λi σ D=>∃(l:Addr) (u:List Addr) (v4:Option V),σ=[some (.ref x),some (.str p),some (.int (n:Int)),some (.ref l),v4,none]/\a7 H D/\dC D l u (tW g a ss p i)) ⟨C,[e],none,rfl,s0,R0⟩ ?_ ?_
 ·rintro i σ D hi ⟨l,u,v4,rfl,f,R2⟩;have c:(tW g a ss p i).length<=100:=wai (oa g a ss p i) (wai (wgq (by lia) (by lia)) j);refine⟨_,rfl,_,rfl,x,l,u,_,g,a,ss,ls,rfl,B.same f,R2,λr hr=>?_,c,J,λl' R H3 v f3 R3=>⟨l',R,_,rfl,f.trans v,R3⟩⟩;obtain⟨a1,a2⟩:=tX he M i r hr;exact⟨a1,by lia⟩
 ·rintro σ D ⟨l,u,v4,rfl,f,R2⟩;have B2:=B.same f;obtain⟨⟨S,_,_,_,_,U,_⟩,_⟩:=id B2;refine⟨_,rfl,x,S,_,rfl,U,BP _ _ _ _ (by decide+kernel) (by decide+kernel) (by decide+kernel) (by decide+kernel),x,g,a,ss,ls,rfl,B2,λlv H3 v f3 X=>?_⟩;have R3:=R2.same v;have c:(tW g a ss p n).length<=100:=wai (oa g a ss p n) j;have CZ:=R3.len;refine⟨_,rfl,l,rfl,⟨_,aE.of R3.l⟩,λlr y=>?_⟩;refine EZ (prs:=(tW g a ss p n).map og) (λq=>nY q.2 (ls.map V.str)) lq (aI K l (u.map V.ref)) (by rw[DL];exact R3.t) y (aq (by lia)) (λH' s'=>aE.of (s' _ _ R3.l)) (λqv G Q' hq I Y=>?_) (λqv G Q' hq _ I Y=>?_) (λys G I Z t4=>?_)
  ·obtain⟨q',_,rfl⟩:=waa.mp hq;exact⟨_,rfl,_,rfl,lv,_,rfl,.inl (aE.of (I _ _ X)),rfl,eN _,_,rfl,Y G (a7.refl _)⟩
  ·exact⟨_,rfl,_,rfl,by show 2<=sizeLine;decide,λr' U8=>Y r' _ (a7.upd U8) a6⟩
  ·rw[zW]at t4;exact k lr ys G ((f.trans v).trans I) (none_of (f.trans v) y) ⟨Z,t4⟩
theorem w6(L:Lk K mg):aO P w K mg base cP 5 L.oE L.oR ["band","wide"] (zX L.az):=by
 refine L.jY.F.dq (N:=["band","wide","ends","place"]) (λgX A outer s H vs Q E nd hr h=>?_);obtain⟨x,n,g,J,ss,ls,rfl,B,Jf,hn,E7,Be,yH,k⟩:=h;have hu:=ez hr
 refine⟨_,(a5 (ag (i:=2) eu)
  (a5 (forA (aK (Af (pv 0) L.aB.cl L.gA (k9 L))) (ax (i:=3)) (a9 (eB hu (pv 2) (pv 3) (gw rfl (au [] []) (au [] []) (by decide) (aK (ai (me L) L.gk (a8 (pv 0) (a8 (pv 3) (aG (pv 1)))))) (λ_ _ _ _ _ _=>aY) (λ_ _ _ _ _ _=>(pv 1))) rfl)))
  (a9 (ay (pv 2))))),?_⟩
 try dsimp only[dj,di,b0,b6]
 refine λu v=>?_;have Y:a7 H (upd H u (.dK [])):=a7.upd v;have B0:=B.same Y;obtain⟨⟨dx,b,d,q,mv,h1,h2,h3,h4,h5,h6⟩,pm,_,_⟩:=id B0;refine⟨_,rfl,x,dx,_,rfl,h1,BP _ _ _ _ (by decide+kernel) (by decide+kernel) (by decide+kernel) (by decide+kernel),x,g,J,ss,ls,rfl,B0,λlp Z R f1 S=>?_⟩;have RE:lp≠u:=λz=>by rw[z,a6]at f1;cases f1
 have nd:ls.Nodup:=B.nd.sublist B.lv.sub;have CA:ls.length<=900:=wai B.lv.sub.length_le yH
 refine⟨lp,rfl,⟨_,aE.of S⟩,eh (K:=K) (a:=lp) (xs:=ls.map V.str) (λi σ H2=>∃v3 r,σ=[some (.ref x),some (.int (n:Int)),some (.ref u),v3]/\H2 u=some (.dK (bT r))/\r.map (·.1)=ls.take i/\(∀m∈r,H2 m.2=some (.lst (((aQ g J ss ls n m.1).map (·.2)).map V.str)))/\(∀m∈r,Z m.2=none)/\(∀c o,Z c=some o->c≠u->H2 c=some o))
  ⟨none,[],rfl,R _ _ a6,rfl,λm C=>(nomatch C),λm C=>(nomatch C),λc o e _=>e⟩ (λi σ H2 _ ⟨_,_,_,_,_,_,_,M⟩=>aE.of (M _ _ S RE)) ?_ ?_⟩
 ·rintro i y σ H5 hy ⟨v3,r,rfl,D,f,j,G,M⟩;obtain⟨p,Qm,rfl,hi,D0,pF⟩:=gu hy;have Tq:a7 H H5:=λc o e=>M _ _ (R _ _ (Y _ _ e)) (af e v);refine⟨_,rfl,_,rfl,_,rfl,x,p,n,g,J,ss,ls,rfl,B.same Tq,D0,Jf,hn,E7,Be,λlb rs H6 s6 f6 R6=>?_⟩;have Nr:=fP g J ss ls n p;have CZ:=R6.len;refine⟨lb,rfl,⟨_,aE.of R6.l⟩,λe he=>?_⟩;refine nu (prs:=(aQ g J ss ls n p).map og) (λ_=>true) (λq=>q.2) (aI K lb (rs.map V.ref)) (by rw[DL];exact R6.t) he (aq (by lia)) (λH' s'=>aE.of (s' _ _ R6.l)) (λq H7 Q' _ _ qq=>qq H7 (a7.refl _)) (λq H7 Q' _ _ _ qq=>⟨_,rfl,qq H7 (a7.refl _)⟩) (λH7 s7 h7=>?_)
  have e7:(((aQ g J ss ls n p).map og).filter λ_=>true).map (λq=>q.2)=((aQ g J ss ls n p).map (·.2)).map V.str:=by
   rw[wb6.mpr (λ_ _=>rfl),waf,waf];rfl
  rw[e7]at h7;have O:=s6.trans s7;have d6:=O _ _ D;have I:H5 e=none:=none_of s6 he;have T:p∉r.map (·.1):=by rw[f];exact ir nd Qm
  have Tr:r.length<=900:=by have:=congrArg wdu f;rw[wa0,wak]at this;lia
  refine⟨_,rfl,_,rfl,u,_,rfl,kQ.k (k:=wav p) d6 (by unfold bT;rw[wa0];exact bF (by lia)),?_⟩;have U:e≠u:=λz=>by rw[z,D]at I;cases I
  have e1:Z e=none:=by
   cases q:Z e with
   |none=>rfl
   |some o=>
    have:=M _ _ q U;rw[this]at I;cases I
  refine⟨_,r++[(p,e)],rfl,?_,?_,?_,?_,?_⟩
  ·rw[a6,eZ _ (nk T)];unfold bT;rw[wal];rfl
  ·rw[wal,f,pF];rfl
  ·intro m C;rcases waC.mp C with z |z
   ·have nm:m.2≠u:=λq=>by
     have:=G m z;rw[q,R _ _ a6]at this;cases this
    rw[ae nm];exact O _ _ (j m z)
   ·have:m=(p,e):=by simpa using z
    subst this;rw[ae U];exact h7
  ·intro m C;rcases waC.mp C with z |z
   ·exact G m z
   ·have:m=(p,e):=by simpa using z
    subst this;exact e1
  ·intro c o hc X;rw[ae X];exact O _ _ (M c o hc X)
 ·rintro σ H5 ⟨v3,r,rfl,D,f,j,G,M⟩;rw[wa0,waG]at f;exact⟨_,rfl,k u r H5 (λc o e=>M _ _ (R _ _ (Y _ _ e)) (af e v)) v D f j λm C=>none_of Y (none_of R (G m C))⟩
theorem yJ(L:Lk K mg):aO P w K mg base cP 1 L.rp L.rJ ["places","weights"] (Ho K):=by
 have T:=L.T;refine L.lZ.F.dq (N:=["places","weights"]) (λj A outer s H y Q E nd n h=>?_);obtain⟨l,d,o,m,f,rfl,g,p,hd,hw,k⟩:=h;have q:=ez n;refine⟨_,(a9 (ay (aP (je rfl) (by rfl) T.sum BX (aG (bS rfl (au ["weights"] [1]) (aK (pv 0)) (λ_ _ _ _ _ _=>aY) (λ_ _ _ _ _ _=>(cp q (pv 1) (pv 0) (λ_ _=>rfl)))))))),?_⟩
 try dsimp only[dj,di,b0,b6]
 refine⟨_,rfl,l,rfl,⟨_,g⟩,λr a=>?_⟩;refine comp_map (K4 f) (aI K l (o.map V.str)) a (by rw[wa0];exact aq (by lia)) (λB t=>t.seq g) (λz b C u c v=>?_) (λb c i=>?_)
 ·obtain⟨e,x,rfl⟩:=waa.mp u;have g3:=dG.rd (k:=(wav e:Key)) (hd.same c);rw[dJ,hw e x]at g3;exact⟨_,rfl,_,rfl,d,_,rfl,g3,v b (a7.refl _)⟩
 ·rw[pU]at i;exact⟨r,_,rfl,aE.of i,k b c⟩
theorem D4(L:Lk K mg):aO P w K mg base cP 2 L.xG L.xK ["ends","many","weights"] F4:=by
 have T:=L.T;refine L.qi.F.dq (N:=["ends","many","weights","lower","place"]) (λX A outer s H vs Q E nd Y h=>?_);obtain⟨x,B,many,n,o,M,f,g,r,ss,ls,rfl,l,O,Z,Jf,nd,CA,hm2,YS,C,k⟩:=h;have D:=ez Y
 refine⟨_,(a5 (ag (i:=3) eu)
  (a5 (forA (sG (pv 0)) (ax (i:=4)) (a9 (eB D (pv 3) (pv 4) (aP (wC rfl) (by rfl) T.min MO (a8 (cp D (pv 2) (pv 4) (λ_ _=>rfl)) (aG (aN sC (ai (yJ L) L.lZ (a8 (cp D (pv 0) (pv 4) (λ_ _=>rfl)) (aG (pv 2)))) (pv 1))))) rfl)))
  (a9 (ay (pv 3))))),?_⟩
 try dsimp only[dj,di,b0,b6]
 refine λdl m=>?_;have R:a7 H (upd H dl (.dK [])):=a7.upd m;have J:=jf x o (bT M);rw[ik,O]at J;refine⟨_,rfl,x,_,rfl,.inr ⟨o,R _ _ l,?_⟩⟩;refine kR J (λj σ t=>∃(v4:Option V),σ=[some (.ref x),some (.int many),some (.ref B),some (.ref dl),v4]/\t dl=some (.dK (bp (bX (lz g r ss ls many n f) (ls.take j))))/\a7 H t) ⟨none,rfl,a6,R⟩ (λj σ t _ ⟨_,_,_,b⟩=>b _ _ l) ?_ ?_
 ·rintro j y σ t hy ⟨v4,rfl,z,b⟩;obtain⟨p,G,rfl,hj,u,pF⟩:=gu hy;have d:=C.same b;have g3:=dG.rd (k:=(wav p:Key)) d;rw[dJ,jL f ls p u]at g3;obtain⟨a,ha,hv⟩:=i3 (mv:=M) (k:=p) (by rw[O];exact u);have S:=dG.f (k:=(wav p:Key)) (b _ _ l);rw[hv]at S;have I:=b _ _ (Z _ ha);have Nr:=fP g r ss ls n p;refine⟨_,rfl,_,rfl,B,_,rfl,g3,_,rfl,_,rfl,x,_,rfl,S,_,rfl,a,B,(aQ g r ss ls n p).map (·.2),_,f,rfl,aE.of I,by rw[wa0];lia,d,λe he=>?_,λH4 U=>?_⟩
  ·obtain⟨q,hq,rfl⟩:=waa.mp he;exact jL f ls _ (cX hq)
  have eb:(((aQ g r ss ls n p).map (·.2)).map f).sum=gY g r ss ls n f p:=by unfold gY;rw[waf];rfl
  refine⟨_,rfl,_,_,rfl,rfl,⟨by lia,by lia⟩,_,_,rfl,?_⟩;have h4:=U _ _ z;have v:p∉(bX (lz g r ss ls many n f) (ls.take j)).map (·.1):=by rw[pX];exact ir nd G
  refine⟨_,rfl,_,rfl,dl,_,rfl,kQ.k (k:=wav p) h4 (by rw[jg];unfold bX;rw[wa0,wak];exact bF (by lia)),?_⟩;refine⟨_,rfl,?_,λc oc e=>?_⟩
  ·rw[a6,pW v,eb,pF];unfold bX;rw[wal];rfl
  ·rw[ae (af e m)];exact U _ _ (b _ _ e)
 ·rintro σ t ⟨v4,rfl,z,b⟩;rw[wa0,waG]at z;exact⟨_,rfl,k dl t b m z⟩
theorem Aw(L:Lk K mg):aO P w K mg base cP 6 L.nH L.uQ ["band","many","wide","most"] (K9 L.az):=by
 refine L.nL.F.dq (N:=["band","many","wide","most","ends","weights","place","lower"]) (λgX A outer s H vs Q E nd hr h=>?_);obtain⟨x,many,n,most,g,v,ss,ls,rfl,B,E7,U,X,Y,VW,k⟩:=h;have hu:=ez hr;have O8:(A.deeper (wcO "greatest" (aD (top 50)) s.heap.objs.size L.nH gX)).units<wcw:=hr.t6
 refine⟨_,(a5 (bu (ai (gp L) L.dN (a8 (pv 0) (a8 (pv 1) (aG (pv 2))))))
  (a5 (ag (i:=4) (ai (w6 L) L.jY (a8 (pv 0) (aG (pv 2)))))
  (a5 (ag (i:=5) eu)
  (a5 (forA (zV (pv 4)) (ax (i:=6)) (a9 (eB hu (pv 5) (pv 6) (pv 3) rfl)))
  (a9 (j8 wd7 (bZ iJ) (a5 (ag (i:=7) (ai (D4 L) L.qi (a8 (pv 4) (a8 (pv 1) (aG (pv 5))))))
  (a5 (bj (cq (MS O8) (pv 7) (pv 5)) (a9 (ay (pv 5))) aH)
  (a9 (ag (i:=5) (pv 7))))))))))),?_⟩
 try dsimp only[dj,di,b0,b6]
 obtain⟨Z,rb,rc,rd,re⟩:=id Y
 have Jf:g.length^n<=64:=by
  rw[waA]at re;have:((g.length^n:Nat):Int)<=64:=by rw[wdC];exact re
  lia
 have nd:ls.Nodup:=B.nd.sublist B.lv.sub;have CA:ls.length<=900:=wai B.lv.sub.length_le X;refine⟨_,rfl,_,rfl,_,rfl,x,many,n,g,v,ss,ls,rfl,B,U,Y,?_⟩;refine⟨_,rfl,_,rfl,x,n,g,v,ss,ls,rfl,B,by lia,by lia,E7,U,X,λd G H1 s1 Ts h1 ek er ef=>?_⟩;have YT:∀q∈G,q.2≠d:=λq hq z=>by have:=er q hq;rw[z,h1]at this;cases this
 refine λa b=>?_;have I:d≠a:=af h1 b;have Wu:(upd H1 a (.dK [])) d=some (.dK (bT G)):=a7.upd b _ _ h1;refine⟨_,rfl,d,_,rfl,.inl Wu,λo H2 h2 l=>?_⟩;have M:H2 a=some (.dK []):=by rw[l a (wbs I),a6]
 have s2:a7 H H2:=λc O e=>by
  rw[l c (af e Ts)];exact a7.upd b _ _ (s1 _ _ e)
 have R:∀m∈G,H2 m.2=some (.lst (((aQ g v ss ls n m.1).map (·.2)).map V.str)):=λm r=>by
  rw[l _ (YT m r)];exact a7.upd b _ _ (er m r)
 have t:H a=none:=none_of s1 b;have J:=jf d o (bT G);rw[ik,ek]at J;refine kR J (λj σ u=>∃(v6:Option V),σ=[some (.ref x),some (.int many),some (.int (n:Int)),some (.int most),some (.ref d),some (.ref a),v6,none]/\u a=some (.dK (bp (bX (λ_=>most) (ls.take j))))/\∀c O,H2 c=some O->c≠a->u c=some O) ⟨none,rfl,M,λc O e _=>e⟩ (λj σ u _ ⟨_,_,_,C⟩=>C _ _ h2 I) ?_ ?_
 ·rintro j y σ u hy ⟨v6,rfl,h3,C⟩;obtain⟨p,Oa,rfl,hj,D0,pF⟩:=gu hy;have Ir:p∉(bX (λ_=>most) (ls.take j)).map (·.1):=by rw[pX];exact ir nd Oa
  refine⟨_,rfl,_,rfl,_,rfl,a,_,rfl,kQ.k (k:=wav p) h3 (by rw[jg];unfold bX;rw[wa0,wak];exact bF (by lia)),?_⟩;refine⟨_,rfl,?_,λc O e hc=>by rw[ae hc];exact C c O e hc⟩;rw[a6,pW Ir,pF];unfold bX;rw[wal];rfl
 rintro σ u ⟨v6,rfl,h3,C⟩;rw[wa0,waG]at h3;have Tv:=C _ _ h2 I;have s3:a7 H u:=λc O e=>C _ _ (s2 _ _ e) (af e t);have Uc:∀m∈G,m.2≠a:=λm r z=>by have:=R m r;rw[z,M]at this;cases this
 have RF:∀m∈G,u m.2=some (.lst (((aQ g v ss ls n m.1).map (·.2)).map V.str)):=λm r=>C _ _ (R m r) (Uc m r);clear C h2 M R er h1 l Wu J b
 refine⟨λq σ H4=>∃(a:Addr) (f:Str->Int) (v6 v7:Option V),q=(ls.map λp=>(f p).toNat).sum/\σ=[some (.ref x),some (.int many),some (.int (n:Int)),some (.int most),some (.ref d),some (.ref a),v6,v7]/\a7 u H4/\H a=none/\H4 a=some (.dK (bp (bX f ls)))/\(∀p∈ls,0<=f p)/\(∀p∈ls,f p<=most)/\(∀h:Str->Int,(∀p∈ls,h p<=most)->FV g v ss ls many n h->∀p∈ls,h p<=f p),
  ⟨_,a,λ_=>most,v6,none,rfl,rfl,a7.refl _,t,h3,λ_ _=>VW,λ_ _=>weL _,λh hh _ p hp=>hh p hp⟩,?_⟩
 rintro q σ H4 ⟨a,f,v6,v7,rfl,rfl,s4,t,h4,S,Ww,Wx⟩;refine⟨true,rfl,eE ?_⟩;refine⟨λσ' H'=>∃(dl:Addr) (v6 v7:Option V),σ'=[some (.ref x),some (.int many),some (.int (n:Int)),some (.int most),some (.ref d),some (.ref dl),v6,v7]/\a7 u H'/\H dl=none/\H' dl=some (.dK (bp (bX (lz g v ss ls many n f) ls)))/\¬∀p∈ls,lz g v ss ls many n f p=f p,?_,?_⟩
 ·rintro σ' H' ⟨dl,v6,v7,rfl,s',T,h',zB⟩;exact⟨_,MV Z S zB,dl,_,_,_,rfl,rfl,s',T,h',Ht Z S,λp hp=>wdR (Hs many n f p) (Ww p hp),λh hh D=>F1 Z D (Wx h hh D)⟩
 ·refine⟨_,rfl,_,rfl,_,rfl,d,a,many,n,o,G,f,g,v,ss,ls,rfl,s4 _ _ Tv,ek,λm r=>s4 _ _ (RF m r),by lia,nd,CA,Z,rb,.inl h4,λdl H5 s5 T h5=>?_⟩;have Wy:=s5 _ _ h4;refine⟨_,rfl,_,rfl,dl,a,_,_,rfl,rfl,.inl h5,.inl Wy,tY _,tY _,_,rfl,?_⟩;refine By (λhe=>?_) (λhe=>?_)
  ·have e:=Lr.mp he;exact⟨_,rfl,k a f H5 ((s3.trans s4).trans s5) t Wy ⟨S,Ww,K8 Z e,Wx⟩⟩
  ·exact⟨_,rfl,dl,_,_,rfl,s4.trans s5,none_of s3 (none_of s4 T),h5,λe=>he (Lr.mpr e)⟩
theorem mh(L:Lk K mg):aO P w K mg base cP 5 L.mP L.mW ["band","many","wide","weights"] (Kj K L.az L.aw):=by
 refine L.gm.F.dq (N:=["band","many","wide","weights","homes","lines","place","blocks"]) (λgX A outer s H vs Q E nd hr h=>?_);obtain⟨x,d,many,n,m,f,g,u,ss,ls,rfl,B,E7,Be,yH,IC,hd,hw,k⟩:=h;have hu:=ez hr
 refine⟨_,(a5 (bu (ai (gp L) L.dN (a8 (pv 0) (a8 (pv 1) (aG (pv 2))))))
  (a5 (ag (i:=4) (bS rfl (au ["weights"] [3]) (aK (Af (pv 0) L.aB.cl L.gA (k9 L))) (λ_ _ _ _ _ _=>gg (cq kL (cp hu (pv 1) (pv 0) (λ_ _=>rfl)) aj)) (λ_ _ _ _ _ _=>(pv 0))))
  (a5 (ag (i:=5) (ck fK))
  (a5 (forA (aK (pv 4)) (ax (i:=6)) (a5 (ag (i:=7) (ai (me L) L.gk (a8 (pv 0) (a8 (pv 6) (aG (pv 2))))))
  (a9 (bu (iL waN waV wb2 cK (pv 5) (aG (gw rfl (au ["homes"] [4]) (au ["homes"] [4]) (by decide) (aK (pv 7)) (λ_ _ _ _ _ _=>gg (eW (ig (K:=K) rfl) (pv 1) (pv 2) rfl)) (λ_ _ _ _ _ _=>(dW (a8 (pv 0) (aG (Cp (K:=K) rfl waN wcS wfB (F7 (K:=K) rfl) (pv 2) (aG (pv 1))))))))))))))
  (a9 (ay (mm L.p7 (fA L) (hr.mono (by decide)) rfl L.sP L.cO.b .nil o1 (a8 (pv 4) (a8 (bS rfl (au ["weights"] [3]) (aK (pv 4)) (λ_ _ _ _ _ _=>aY) (λ_ _ _ _ _ _=>(cp hu (pv 1) (pv 0) (λ_ _=>rfl)))) (aG (pv 5))))))))))),?_⟩
 try dsimp only[dj,di,b0,b6]
 obtain⟨ra,rb,rc,rd,re⟩:=id IC
 have Jf:g.length^n<=64:=by
  rw[waA]at re;have:((g.length^n:Nat):Int)<=64:=by rw[wdC];exact re
  lia
 have CA:ls.length<=900:=wai B.lv.sub.length_le yH;refine⟨_,rfl,_,rfl,_,rfl,x,many,n,g,u,ss,ls,rfl,B,Be,IC,?_⟩;obtain⟨⟨dx,b,d0,q,mv,h1,h2,h3,h4,h5,h6⟩,pm,_,_⟩:=id B;refine⟨_,rfl,x,dx,_,rfl,h1,BP _ _ _ _ (by decide+kernel) (by decide+kernel) (by decide+kernel) (by decide+kernel),x,g,u,ss,ls,rfl,B,λlv H1 s1 f1 hv=>?_⟩;refine⟨lv,rfl,⟨_,aE.of hv⟩,λS Oe=>?_⟩;refine df (λv=>match v with |.str p=>decide (0<f p) |_=>false) (λv=>v) (aI K lv (ls.map V.str)) Oe (by rw[wa0];exact aq (by lia)) (λH' s'=>aE.of (s' _ _ hv)) (λz J Q' hz s2 Y=>?_) (λz J Q' hz _ s2 Y=>⟨_,rfl,Y J (a7.refl _)⟩) (λJ s2 hh=>?_)
 ·obtain⟨p,hp,rfl⟩:=waa.mp hz;have g3:=dG.rd (k:=(wav p:Key)) (hd.same (s1.trans s2));rw[dJ,hw p hp]at g3;have q2:Q' (decide (0<f p)) J:=Y J (a7.refl _);exact⟨_,rfl,_,rfl,d,_,rfl,g3,_,_,rfl,rfl,_,rfl,q2⟩
 have YV:((ls.map V.str).filter (λv=>match v with |.str p=>decide (0<f p) |_=>false)).map (λv=>v)=(ak ls f).map V.str:=by
  rw[wdQ,wdz];rfl
 rw[YV]at hh;have Wz:(ak ls f).length<=900:=wai (wbe _ _) CA;have Qz:∀p∈ak ls f,p∈ls:=λp hp=>(wau.mp hp).1;have Of:=s1.trans s2;refine⟨waJ _,λC D=>?_⟩;have sb:a7 J (upd J C (.lst [])):=a7.upd D;have Z:(upd J C (.lst [])) C=some (.lst []):=a6;generalize upd J C (.lst [])=Hb at sb Z;have YW:S≠C:=af hh D
 refine⟨_,rfl,S,rfl,⟨_,aE.of (sb _ _ hh)⟩,eh (K:=K) (a:=S) (xs:=(ak ls f).map V.str) (λj σ H3=>∃(v6 v7:Option V) (as:List V),σ=[some (.ref x),some (.int many),some (.int (n:Int)),some (.ref d),some (.ref S),some (.ref C),v6,v7]/\H3 C=some (.lst as)/\(∀c o,Hb c=some o->c≠C->H3 c=some o)/\b9 K (aF Hb H3) (((ak ls f).take j).map λp=>bR (fR g u ss ls n (ak ls f) p)) as)
  ⟨none,none,[],rfl,Z,λc o e _=>e,rfl⟩ (λj σ H3 _ ⟨_,_,_,_,_,kk,_⟩=>aE.of (kk _ _ (sb _ _ hh) YW)) ?_ ?_⟩
 ·rintro j y σ H3 hy ⟨v6,v7,as,rfl,Ud,kk,hR⟩;obtain⟨p,Oa,rfl,hj,D0,pF⟩:=gu hy;have M:a7 J H3:=λc o e=>kk _ _ (sb _ _ e) (af e D);have B3:=B.same (Of.trans M);refine⟨_,rfl,_,rfl,_,rfl,x,p,n,g,u,ss,ls,rfl,B3,Qz p D0,by lia,by lia,E7,Be,λlb rb T G f4 R4=>?_⟩;have I:=G _ _ Ud;have Nr:=fP g u ss ls n p
  have VZ:as.length=j:=by
   rw[hR.len,wa0,wak]
   lia
  refine⟨_,rfl,.inl ⟨rfl,_,aE.of I⟩,_,rfl,lb,rfl,⟨_,aE.of R4.l⟩,λlc FX=>?_⟩;have O:T S=some (.lst ((ak ls f).map V.str)):=G _ _ (M _ _ hh);refine my (prs:=(aQ g u ss ls n p).map og) (λq=>nY q.2 ((ak ls f).map V.str)) (λq=>.tup [.at q.1,.at (.int (match q.2 with |.str e=>((ak ls f).idxOf e:Nat) |_=>0))]) (aI K lb (rb.map V.ref)) (by rw[wa0,wa0,R4.len]) (λi q U=>?_) FX (by rw[wa0,R4.len];exact aq (by lia)) (λH' s'=>aE.of (s' _ _ R4.l)) (λq R Q' U X Y=>?_) (λq R Q' U YX X Y=>?_) (λR X r5=>?_)
  ·have hi:i<rb.length:=by have:=(wa5.mp U).1;rw[wa0,<-R4.len]at this;exact this
   rw[wa4]at U
   cases e:(aQ g u ss ls n p)[i]? with
   |none=>rw[e]at U;cases U
   |some z=>
    rw[e]at U;cases U;refine⟨rb[i],by rw[wa4,wa1 hi];rfl,hZ.of (R4.t.2 i rb[i] (lu z) (wa1 hi) (by rw[wa4,e];rfl))⟩
  ·obtain⟨z,hz,rfl⟩:=waa.mp U;exact⟨_,rfl,_,rfl,S,_,rfl,.inl (aE.of (X _ _ O)),rfl,eN _,_,rfl,Y R (a7.refl _)⟩
  ·obtain⟨z,hz,rfl⟩:=waa.mp U
   have hm:z.2∈ak ls f:=by
    have:nY (.str z.2) ((ak ls f).map V.str)=true:=YX;rw[jb]at this;exact of_decide_eq_true this
   obtain⟨i1,i2⟩:=q9 hm;refine⟨_,rfl,_,rfl,.inl ⟨rfl,_,aE.of (X _ _ O)⟩,_,rfl,S,ak ls f,z.2,(ak ls f).idxOf z.2,rfl,rfl,aE.of (X _ _ O),by lia,i1,i2,by show 2<=sizeLine;decide,λr hr=>?_⟩;exact Y _ _ (a7.upd hr) (om hr (z.1,(ak ls f).idxOf z.2))
  have el:((((aQ g u ss ls n p).map og).filter λq=>nY q.2 ((ak ls f).map V.str)).map λq=>jM.tup [.at q.1,.at (.int (match q.2 with |.str e=>((ak ls f).idxOf e:Nat) |_=>0))])=(fR g u ss ls n (ak ls f) p).map kh:=by
   unfold fR;rw[wdz,waf,waf]
   have ep:((λq:V×V=>nY q.2 ((ak ls f).map V.str)) ∘ og)=λq:Str×Str=>decide (q.2∈ak ls f):=by
    funext q;exact jb q.2 _
   rw[ep];rfl
  rw[el]at r5;refine⟨C,_,_,rfl,rfl,X _ _ I,by rw[VZ];exact wbc (show j<=900 by lia) (by rw[wc5];decide),?_⟩;have QA:=G.trans X;have WB:=X _ _ I;have kp:∀c o,R c=some o->c≠C->(upd R C (.lst (as++[.ref lc]))) c=some o:=λc o e hc=>by rw[ae hc];exact e
  refine⟨_,_,as++[.ref lc],rfl,a6,λc o e hc=>kp _ _ (QA _ _ (kk c o e hc)) hc,?_⟩;rw[pF,wal];refine i6 (b9.same ((iu QA).trans (bC Z kp)) _ _ hR) ?_
  have old:a7 (aF T R) (aF Hb R):=λc o e=>by
   unfold aF at e ⊢
   cases q:Hb c with
   |none=>
    cases q2:T c with
    |none=>rw[q2]at e;exact e
    |some z=>rw[q2]at e;cases e
   |some z=>
    by_cases hc:c=C
    ·rw[hc,I]at e;cases e
    ·rw[G _ _ (kk _ _ q hc)]at e;cases e
  exact bA.same (old.trans (bC Z kp)) _ _ r5
 ·rintro σ H3 ⟨v6,v7,as,rfl,Ud,kk,hR⟩;rw[wa0,waG]at hR;have M:a7 J H3:=λc o e=>kk _ _ (sb _ _ e) (af e D);have D2:=Of.trans M;have Ue:=M _ _ hh;refine⟨_,rfl,_,rfl,S,rfl,⟨_,aE.of Ue⟩,λlw LN=>?_⟩;refine comp_map (K4 f) (aI K S ((ak ls f).map V.str)) LN (by rw[wa0];exact aq (by lia)) (λH' s'=>aE.of (s' _ _ Ue)) (λz T Q' hz G Y=>?_) (λT G Qv=>?_)
  ·obtain⟨p,hp,rfl⟩:=waa.mp hz;have g3:=dG.rd (k:=(wav p:Key)) (hd.same (D2.trans G));rw[dJ,hw p (Qz p hp)]at g3;exact⟨_,rfl,_,rfl,d,_,rfl,g3,Y T (a7.refl _)⟩
  rw[pU]at Qv;have I:=G _ _ Ud;have YY:=G _ _ Ue;refine⟨_,rfl,λy dy ny U0 YF=>?_⟩;have sm:a7 T (upd (upd T dy (.own y)) y (.ins L.aw dy [])):=dH ny U0;refine⟨y,dy,.ref S,.ref lw,.ref C,ak ls f,(ak ls f).map f,bc g u ss ls n (ak ls f),rfl,a6,oj (sm _ _ YY),jh (sm _ _ Qv),?_,by lia,by rw[wa0];lia,by unfold bc;rw[wa0];lia,?_,λa' b' c' R Ug r1 r2 r3 YZ=>⟨rfl,?_⟩⟩
  ·have Z0:b9 K T ((ak ls f).map λp=>bR (fR g u ss ls n (ak ls f) p)) as:=b9.same ((cj _ _).trans G) _ _ hR;refine⟨C,as,rfl,.inl (sm _ _ I),?_⟩
   have e:(bc g u ss ls n (ak ls f)).map bR=(ak ls f).map λp=>bR (fR g u ss ls n (ak ls f) p):=by
    unfold bc;rw[waf];rfl
   rw[e];exact b9.same sm _ _ Z0
  ·intro l hl;obtain⟨p,_,rfl⟩:=waa.mp hl;have:=Ct g u ss ls n (ak ls f) p
   lia
  ·have X:a7 T R:=λc o e=>YZ _ _ (sm _ _ e) (af e ny);refine k y R (D2.trans (G.trans X)) ?_;have U3:H y=none:=none_of (D2.trans G) ny;have nw:=λ(d:jM) (v:V) (r:bA K (aF _ R) d v)=>bA.same (dM ((D2.trans G).trans sm)) d v r;exact⟨dy,a',b',c',bK U3 Ug,nw _ _ r1,nw _ _ r2,nw _ _ r3⟩
theorem yK(L:Lk K mg):aO P w K mg base cP 1 L.rq L.rK ["sheet"] (Nc K L.aw):=by
 have T:=L.T;refine L.m3.F.dq (N:=["sheet","heaviest","desk","line","number","step"]) (λgX A outer s H vs Q E nd hr h=>?_);obtain⟨x,hs,g,b,rfl,S,BO,he,zB,hex,k⟩:=h
 refine⟨_,(a5 (ag (i:=1) (aP (EY rfl) (by rfl) T.max Hh (aG (aM (pv 0) rfl))))
  (a5 (forA (mn (by rfl) T.enum (aG (aM (pv 0) rfl))) (dU rfl (aL (ax (i:=2)) (aL (ax (i:=3)) cG))) (a9 (forA (mn (by rfl) T.enum (aG (pv 3))) (dU rfl (aL (ax (i:=4)) (aL (ax (i:=5)) cG))) (a9 (bj (PW.pt (M8 (cq nW (aX aW (aM (pv 0) rfl) (pv 2) (λ_ _=>rfl)) (pv 1)) (Jm (cq gW (aX aW (aM (pv 0) rfl) (aX gF (pv 5) aj (λ_ _=>rfl)) (λ_ _=>rfl)) (pv 1))))) (a9 (ay (dW (a8 (pv 2) (aG (pv 4)))))) aH)))))
  (a9 (ay du)))),?_⟩
 try dsimp only[dj,di,b0,b6]
 obtain⟨dx,ah,bw,cl,hx,rh,Je,rl⟩:=id S;obtain⟨VY,eb,hb⟩:=iw Je;cases eb;obtain⟨Qn,xs,ec,hc,R⟩:=id rl;cases ec;have xl:xs.length=b.length:=by rw[R.len,wa0]
 refine⟨_,rfl,x,L.aw,dx,_,_,rfl,hx,L.av.cl,L.av.cM,cg ah bw cl,bw,g,rfl,hb,zB,λM hM hT=>?_⟩;have U:∀n:Nat,n<g.length->rT (g.map V.int) (n:Int)=some (.int (g.getD n 0)):=λn hn=>bB (by rw[wa4,wa1 hn,wa3,wa1 hn];rfl);refine⟨_,rfl,x,L.aw,dx,_,_,rfl,hx,L.av.cl,L.av.cC,bH ah bw cl,cl,xs,rfl,.inl hc,o4 (K:=K) (a:=cl) (xs:=xs) (λi σ X=>a7 H X/\(∃v2 v3 v4 O,σ=[some (.ref x),some (.int M),v2,v3,v4,O])/\∀d f c q,Down g b M d f c q->i<=d) ⟨a7.refl _,⟨none,none,none,none,rfl⟩,λ_ _ _ _ _=>waJ _⟩ (λi σ X _ p=>p.1.seq (.inl hc)) ?_ (λσ X p=>?_)⟩
 ·rintro d y σ X T hy ⟨s2,⟨v2,v3,v4,O,rfl⟩,C⟩ Z1;have hd:d<xs.length:=(wa5.mp hy).1;have Iu:d<b.length:=by lia
  have Y:b[d]?=some (b.getD d []):=by rw[wa3,wa1 Iu];rfl
  obtain⟨v,Z,rd⟩:=R.at (i:=d) (d:=bR (b.getD d [])) (by rw[wa4,Y];rfl);rw[hy]at Z;cases Z;obtain⟨a,B,rfl,hS,QB⟩:=eQ rd;have Wo:B.length=(b.getD d []).length:=by rw[QB.1,wa0,wa0]
  have U7:∀q∈b.getD d [],q.2<g.length:=he _ (wa8 Y);have s3:=s2.trans (a7.upd (o:=.tup [.int (d:Nat),.ref a]) Z1);refine⟨T,_,rfl,hZ.of a6,rfl,_,_,rfl,_,_,rfl,rfl,?_⟩;generalize upd X T (.tup [.int (d:Nat),.ref a])=H3 at s3;refine⟨_,rfl,a,_,rfl,s3.seq hS,o4 (K:=K) (a:=a) (xs:=B.map V.ref) (λi σ H4=>a7 H H4/\(∃v4 O,σ=[some (.ref x),some (.int M),some (.int (d:Int)),some (.ref a),v4,O])/\∀f c q,Down g b M d f c q->i<=f) ⟨s3,⟨_,_,rfl⟩,λ_ _ _ _=>waJ _⟩ (λi σ H4 _ p=>p.1.seq hS) ?_ (λσ H4 p=>?_)⟩
  ·rintro i y σ H4 T2 G ⟨s4,⟨v4,O,rfl⟩,j⟩ Z2;have hi:i<B.length:=by have:=(wa5.mp G).1;rwa[wa0]at this
   have I:i<(b.getD d []).length:=by lia
   rw[wa4,wa1 hi]at G;cases G;have Qw:H B[i]=some (.tup [.str (b.getD d [])[i].1,.int ((b.getD d [])[i].2:Int)]):=QB.2 i B[i] (lq (eO (b.getD d [])[i])) (wa1 hi) (by rw[wa4,wa4,wa1 I];rfl);have J:(b.getD d [])[i]?=some (b.getD d [])[i]:=wa1 I;have LJ:=U7 _ (waE I);generalize (b.getD d [])[i]=q at Qw J LJ;have m:=s4.trans (a7.upd (o:=.tup [.int (i:Nat),.ref B[i]]) Z2);refine⟨T2,_,rfl,hZ.of a6,rfl,_,_,rfl,_,_,rfl,rfl,?_⟩;generalize upd H4 T2 (.tup [.int (i:Nat),.ref B[i]])=H5 at m
   have L6:(¬∃c q,Down g b M d i c q)->∀f c q,Down g b M d f c q->i+1<=f:=λhn f c q hD=>by
    have:=j f c q hD
    by_cases e:f=i
    ·subst e;exact absurd ⟨c,q,hD⟩ hn
    ·lia
   refine⟨_,rfl,x,L.aw,dx,_,_,rfl,m _ _ hx,L.av.cl,L.av.cM,cg ah bw cl,_,rfl,bw,_,_,_,rfl,rfl,m.seq hb,U d (by lia),_,rfl,?_⟩
   by_cases r:g.getD d 0=M
   ·refine⟨rfl,true,congrArg V.bl (decide_eq_true (by rw[r])),eE ?_⟩;refine⟨_,rfl,x,L.aw,dx,_,_,rfl,m _ _ hx,L.av.cl,L.av.cM,cg ah bw cl,_,rfl,B[i],_,_,_,rfl,rfl,hZ.of (m _ _ Qw),rfl,bw,_,_,_,rfl,rfl,m.seq hb,U q.2 LJ,_,rfl,_,_,rfl,rfl,?_⟩
    by_cases u:g.getD q.2 0<M
    ·refine⟨true,congrArg V.bl (decide_eq_true u),eE ?_⟩;refine⟨_,rfl,_,rfl,by show 2<=sizeLine;decide,λt ht=>?_⟩;exact k t M d i _ q _ (m.trans (a7.upd ht)) a6 ⟨hM,hT,Y,J,r,u⟩
    ·refine⟨false,congrArg V.bl (decide_eq_false u),bx ?_⟩;refine⟨m,⟨_,_,rfl⟩,L6 ?_⟩;rintro⟨c,q',D⟩;have e1:=D.l;rw[Y]at e1;cases e1;have e2:=D.s;rw[J]at e2;cases e2;exact u D.lt
   ·refine⟨rfl,false,congrArg V.bl (decide_eq_false λz=>r (V.int.inj z)),bx ?_⟩;refine bx ⟨m,⟨_,_,rfl⟩,L6 ?_⟩;rintro⟨c,q',D⟩;exact r D.e
  ·obtain⟨s4,⟨v4,O,rfl⟩,j⟩:=p;refine⟨s4,⟨_,_,_,_,rfl⟩,λd' f c q D=>?_⟩;have:=C d' f c q D
   by_cases e:d'=d
   ·subst e;have:=j f c q D;have e1:=D.l;rw[Y]at e1;cases e1;have:=(wa5.mp D.s).1;rw[wa0]at *
    lia
   ·lia
 ·obtain⟨s2,_,C⟩:=p;obtain⟨d,i,c,q,D⟩:=hex M hM hT;have:=C d i c q D;have:=(wa5.mp D.l).1
  lia
theorem FA(L:Lk K mg):aO P w K mg base cP 1 L.Ak L.Ao ["weights","numbers","many"] (Qh K):=by
 have T:=L.T;refine L.uV.F.dq (N:=["weights","numbers","many","taken_at","total","taken","number"]) (λgX A outer s H vs Q E nd hr h=>?_);obtain⟨a,b,many,wl,d,rfl,hA,I,m1,m2,J,M,k⟩:=h;have O:=ez hr
 refine⟨_,(a5 (ag (i:=3) (Dx (zv aj aj Dw) rfl rfl (by simp) (by decide)))
  (a5 (ag (i:=4) aj)
  (a5 (forA (HI (by rfl) T.enum (aG (pv 1))) (dU rfl (aL (ax (i:=5)) (aL (ax (i:=6)) cG))) (a5 (kK (i:=4) nd rfl (wd3 rfl) (aX aW (pv 0) (pv 6) (λ_ _=>rfl)) Bj)
  (a5 (bj (Bg (Mr O (aN dk (pv 4) (pv 2)) (pv 3))) (a9 (ay (d7 iK (pv 1) (bL (cp O (pv 3) (aN dk (pv 4) (pv 2)) (λ_ _=>rfl))) (bL (pv 5))))) aH)
  (a9 (eB O (pv 3) (aN dk (pv 4) (pv 2)) (pv 5) rfl)))))
  (a9 (ay (ck fK)))))),?_⟩
 try dsimp only[dj,di,b0,b6]
 have l:(0:Int)<many:=by lia
 refine λg m=>⟨a6,[((wbb 0:Key),V.int 0)],rfl,by decide,?_⟩;have R:a7 H (upd (upd H g (.dK [])) g (.dK (jE [] [((wbb 0:Key),V.int 0)]))):=λc o e=>by rw[ae (af e m),ae (af e m)];exact e
 have h0:(upd (upd H g (.dK [])) g (.dK (jE [] [((wbb 0:Key),V.int 0)]))) g=some (.dK (dR many (jQ wl d) 1)):=by
  rw[a6];refine congrArg (λz=>some (HO.dK z)) ?_;show [((wbb 0:Key),V.int 0)]=[((wbb (0%many):Key),V.int 0)];rw[Int.zero_emod]
 generalize upd (upd H g (.dK [])) g (.dK (jE [] [((wbb 0:Key),V.int 0)]))=H0 at R h0;refine⟨_,rfl,b,_,rfl,R.seq I,Fd (K:=K) (a:=b) (xs:=(nI d).map V.int) (λj σ q=>a7 H q/\(∃S v6,σ=[some (.ref a),some (.ref b),some (.int many),some (.ref g),some (.int (jQ wl d j)),S,v6])/\q g=some (.dK (dR many (jQ wl d) (j+1)))/\∀i k,i<k->k<=j->jQ wl d i%many≠jQ wl d k%many) ⟨R,⟨none,none,rfl⟩,h0,λi k Y C=>by lia⟩ (λi σ q _ p=>p.1.seq I) ?_ (λσ q p=>?_)⟩
 ·rintro j y σ q T U ⟨Z,⟨S,v6,rfl⟩,C,f⟩ hT;have hj:j<d.length:=by have:=(wa5.mp U).1;rwa[wa0,cy]at this
  have r:d[j]?=some d[j]:=wa1 hj;rw[CK r]at U;cases U;have t:=M _ (waE hj);have x:=Fl (wl:=wl) r;generalize d[j]=n at r t x;have u:=Z.trans (a7.upd (o:=.tup [.int ((j+1:Nat):Int),.int (n:Int)]) hT);have D:(upd q T (.tup [.int ((j+1:Nat):Int),.int (n:Int)])) g=some (.dK (dR many (jQ wl d) (j+1))):=a7.upd hT _ _ C;refine⟨T,_,rfl,hZ.of a6,rfl,_,_,rfl,_,_,rfl,rfl,?_⟩;generalize upd q T (.tup [.int ((j+1:Nat):Int),.int (n:Int)])=H3 at u D;refine⟨_,rfl,_,rfl,_,rfl,a,_,_,_,rfl,rfl,u.seq hA,bB (v:=.int (wl.getD n 0)) (by rw[wa4,wa1 t,wa3,wa1 t];rfl),_,_,rfl,rfl,?_⟩;dsimp only;rw[<-x];refine⟨_,rfl,_,rfl,_,_,rfl,rfl,l,_,rfl,g,_,rfl,dG.k (k:=(wbb (jQ wl d (j+1)%many):Key)) D,?_⟩;rcases HV many (jQ wl d) (j+1) (jQ wl d (j+1)%many) with⟨G,B⟩ |⟨i,hi,X,G⟩
  ·rw[G];refine⟨false,rfl,bx ?_⟩;refine⟨_,rfl,_,rfl,_,rfl,_,rfl,_,_,rfl,rfl,l,g,_,rfl,kQ.k (k:=wbb (jQ wl d (j+1)%many)) D (by rw[Ni];exact bF (by lia)),?_⟩;rw[Nh G];refine⟨λc o e=>by rw[ae (af e m)];exact u _ _ e,⟨_,_,rfl⟩,a6,λi k Y C=>?_⟩
   by_cases e:k=j+1
   ·subst e;exact B i (by lia)
   ·exact f i k Y (by lia)
  ·have hg:=dG.k (k:=(wbb (jQ wl d (j+1)%many):Key)) D;rw[G]at hg ⊢;refine⟨true,rfl,eE ?_⟩;refine⟨_,rfl,_,rfl,_,rfl,_,rfl,_,_,rfl,rfl,l,g,_,rfl,hg,_,rfl,_,rfl,_,rfl,b,_,rfl,u.seq I,λp hp=>?_⟩;rw[HW _ (by lia) (by rw[cy];lia),sM,Kv];exact k p i (j+1) _ (u.trans (a7.upd hp)) (none_of u hp) (by lia) (by lia) (HU (by lia) X) a6
 ·obtain⟨Z,⟨S,v6,rfl⟩,C,f⟩:=p;rw[wa0,cy]at f;exact absurd (CM l J f) id
theorem w9(L:Lk K mg):aO P w K mg base cP 2 L.oJ L.oY ["sheet","many"] (Nf K L.aw):=by
 have T:=L.T;refine L.k4.F.dq (N:=["sheet","many","found","desk","weights","others","numbers"]) (λgX A outer s H vs Q E nd hr h=>?_);obtain⟨x,many,hs,c,u,rfl,S,B,hK,zB,hn,hm,m1,m2,k⟩:=h
 refine⟨_,(a5 (ag (i:=2) (ai (yK L) L.m3 (aG (pv 0))))
  (a5 (ag (i:=3) (aX gF (pv 2) aj (λ_ _=>rfl)))
  (a5 (ag (i:=4) (gw rfl (au ["sheet"] [0]) (au ["sheet"] [0]) (by decide) (aK (aX aW (aM (pv 0) rfl) (pv 3) (λ_ _=>rfl))) (λ_ _ _ _ _ _=>aY) (λ_ _ _ _ _ _=>(aX (gq (K:=K) rfl) (mr (K:=K) rfl (pv 2) rfl) (pv 1) (λ_ _=>rfl)))))
  (a5 (cW (i:=5) rfl (au ["found"] [2]) nd rfl rfl (d8 rfl T.range (aG (Ig T.len (pv 4)))) (λ_ _ _ _ _ _=>gg (cq wB (pv 0) (aX (Kx (K:=K) rfl) (pv 1) aj (λ_ _=>rfl)))) (λ_ _ _ _ _ _=>(pv 0)))
  (a5 (ag (i:=6) (ai (FA L) L.uV (a8 (pv 4) (a8 (aN Gq (ck (aG (aX gF (pv 2) aj (λ_ _=>rfl)))) (d7 iK (pv 5) hF (bL (aN jA (pv 1) aj)))) (aG (pv 1))))))
  (a9 (ay (dW (a8 (pv 3) (a8 (pv 6) (aG (aN sC (aP (je rfl) (by rfl) T.sum BX (aG (bS rfl (au ["weights"] [4]) (aK (pv 6)) (λ_ _ _ _ _ _=>aY) (λ_ _ _ _ _ _=>(aX (gq (K:=K) rfl) (pv 1) (pv 0) (λ_ _=>rfl)))))) (pv 1))))))))))))),?_⟩
 try dsimp only[dj,di,b0,b6]
 obtain⟨dx,ah,bw,cl,hx,rh,Je,rl⟩:=id S;obtain⟨VY,eb,hb⟩:=iw Je;cases eb;obtain⟨Qn,xs,ec,hc,Bb⟩:=id rl;cases ec;have O:=B.w;have CA:=B.l;have xl:xs.length=u.length:=by rw[Bb.len,wa0]
 have Z3:c≠[]:=λz=>zB (wbx (by rw[<-O,z];rfl));refine⟨_,rfl,x,hs,c,u,rfl,S,by lia,λl hl q hq=>by rw[O];exact B.e l hl q hq,Z3,λh hh ht=>?_,λt h d i b q H1 R ht D=>?_⟩
 ·obtain⟨d,i,b,q,e1,e2,e3,e4⟩:=A9 B hK hh ht m1;exact⟨d,i,b,q,hh,ht,e1,e2,e3,e4⟩
 have hd:d<u.length:=(wa5.mp D.l).1;have hi:i<b.length:=(wa5.mp D.s).1;have Od:b∈u:=wa8 D.l;have LJ:=hm b Od;have WC:=xA B D;have hT:=hZ.of (K:=K) ht;refine⟨_,rfl,t,_,_,_,rfl,rfl,hT,rfl,?_⟩;obtain⟨v,Np,rd⟩:=Bb.at (i:=d) (d:=bR b) (by rw[wa4,D.l];rfl);obtain⟨a,rs,rfl,hS,QB⟩:=eQ rd;have CZ:rs.length=b.length:=by rw[QB.1,wa0,wa0]
 refine⟨_,rfl,x,L.aw,dx,_,_,rfl,R _ _ hx,L.av.cl,L.av.cC,bH ah bw cl,_,rfl,cl,xs,_,_,rfl,rfl,R.seq (.inl hc),bB Np,a,rfl,⟨_,R.seq hS⟩,λlc FX=>?_⟩;refine nu (prs:=b.map eO) (λ_=>true) (λq=>match q.2 with |.int e=>.int (c.getD e.toNat 0) |_=>.non) (aI K a (rs.map V.ref)) (QB.same R) FX (aq (by lia)) (λH' s'=>(R.trans s').seq hS) (λq H7 Q' _ _ m=>m H7 (a7.refl _)) (λq H7 Q' hq _ s7 m=>?_) (λH7 s7 h7=>?_)
 ·obtain⟨U,Z4,rfl⟩:=waa.mp hq;have C:U.2<c.length:=by rw[O];exact B.e b Od U Z4
  have Z5:rT (c.map V.int) (U.2:Int)=some (.int (c.getD U.2 0)):=bB (by rw[wa4,wa1 C,wa3,wa1 C];rfl)
  have q2:Q' (.int (c.getD U.2 0)) H7:=by
   have:=m H7 (a7.refl _);rwa[show (eO U).2=.int (U.2:Int) from rfl]at this
  have G:=R.trans s7;exact⟨_,rfl,x,L.aw,dx,_,_,rfl,G _ _ hx,L.av.cl,L.av.cM,cg ah bw cl,_,rfl,bw,_,_,_,rfl,rfl,G.seq hb,Z5,q2⟩
 have e7:((b.map eO).filter λ_=>true).map (λq=>match q.2 with |.int e=>V.int (c.getD e.toNat 0) |_=>.non)=(b.map λq=>c.getD q.2 0).map V.int:=by
  rw[wb6.mpr (λ_ _=>rfl),waf,waf];rfl
 rw[e7]at h7;have G:=R.trans s7;have WD:=s7.Ki hT;have g:(b.map λq=>c.getD q.2 0).length=b.length:=wa0 _;refine⟨_,rfl,lc,_,rfl,.inl (aE.of h7),_,rfl,by lia,by rw[wa0,g];lia,λlo PH=>?_⟩;have en:((((b.map λq=>c.getD q.2 0).map V.int).length:Nat):Int).toNat=b.length:=by rw[wa0,g,waA]
 rw[en];refine df (λv=>!decide (v=.int (i:Int))) (λv=>v) (nc 0 b.length) PH (aq (by rw[wa0,waO];lia)) (λ_ _=>wbA) (λy I Q' hy X m=>?_) (λy I Q' hy _ X m=>⟨_,rfl,m I (a7.refl _)⟩) (λI X h8=>?_)
 ·obtain⟨n,Bc,rfl⟩:=waa.mp hy;exact⟨_,rfl,_,rfl,t,_,_,_,rfl,rfl,X.Ki WD,rfl,rfl,_,rfl,m I (a7.refl _)⟩
 have e8:(((waI b.length).map λi:Nat=>V.int (0+(i:Nat))).filter λv=>!decide (v=.int (i:Int)))=(nI (restOf b.length i)).map V.int:=by
  have e9:((waI b.length).map λi:Nat=>V.int (0+(i:Nat)))=(nI (waI b.length)).map V.int:=by
   rw[<-Ab];exact waY λn _=>by rw[wey]
  rw[e9,xx (f:=λn=>decide (n≠i)) λn=>?_]
  ·rfl
  ·by_cases z:n=i
   ·subst z;simp
   ·have:¬V.int (n:Int)=V.int (i:Int):=λy=>z (by have:=V.int.inj y;lia);rw[decide_eq_false this,decide_eq_true z];rfl
 rw[wdQ,e8]at h8;have WG:=G.trans X;have Z6:=X.Ki WD;have WH:=X _ _ h7;refine⟨_,rfl,_,rfl,t,_,_,_,rfl,rfl,Z6,rfl,by show 1<=sizeLine;decide,λl1 LL=>?_⟩;have s9:=a7.upd (H:=I) (o:=.lst [V.int (i:Int)]) LL;have h9:(upd I l1 (.lst [V.int (i:Int)])) l1=some (.lst [V.int (i:Int)]):=a6;generalize upd I l1 (.lst [V.int (i:Int)])=H9 at s9 h9;have Z7:many-1=(((many-1).toNat:Nat):Int):=by lia
 refine⟨_,rfl,_,rfl,_,_,rfl,rfl,(((many-1).toNat:Nat):Int),congrArg V.int Z7,lo,_,rfl,aE.of (s9 _ _ h8),λl2 LV=>?_⟩;rw[DI,<-wcW,sM];have Y:=a7.upd (H:=H9) (o:=.lst ((nI ((restOf b.length i).take (many-1).toNat)).map V.int)) LV;have Nt:(upd H9 l2 (.lst ((nI ((restOf b.length i).take (many-1).toNat)).map V.int))) l2=some (.lst ((nI ((restOf b.length i).take (many-1).toNat)).map V.int)):=a6;generalize upd H9 l2 (.lst ((nI ((restOf b.length i).take (many-1).toNat)).map V.int))=Z at Y Nt;have Nm:=Ad (k:=(many-1).toNat) hi (by lia);refine⟨l1,l2,_,_,rfl,rfl,Y _ _ h9,Nt,aq ?_,λl3 JG=>?_⟩
 ·rw[wa0,cy,wak];show 1+_<=_
  lia
 rw[show [V.int (i:Int)]++(nI ((restOf b.length i).take (many-1).toNat)).map V.int=(nI (numsOf b.length i (many-1).toNat)).map V.int from rfl];have Jg:=a7.upd (H:=Z) (o:=.lst ((nI (numsOf b.length i (many-1).toNat)).map V.int)) JG;have QC:(upd Z l3 (.lst ((nI (numsOf b.length i (many-1).toNat)).map V.int))) l3=some (.lst ((nI (numsOf b.length i (many-1).toNat)).map V.int)):=a6;generalize upd Z l3 (.lst ((nI (numsOf b.length i (many-1).toNat)).map V.int))=FY at Jg QC;have j:=(s9.trans Y).trans Jg;refine⟨_,rfl,lc,l3,many,b.map λq=>c.getD q.2 0,numsOf b.length i (many-1).toNat,rfl,aE.of (j _ _ WH),aE.of QC,m1,m2,by rw[Nm];lia,λn hn=>by rw[g];exact yz hi n hn,λl i' j' KH KI Uh Z8 hj hz p=>?_⟩;have b7:=Kw B m1 D Z8 hj hz;have C:∀n∈((numsOf b.length i (many-1).toNat).take j').drop i',n<b.length:=λn hn=>yz hi n (((wh0 _ _).trans (wbg _ _)).subset hn)
 have Iq:(((numsOf b.length i (many-1).toNat).take j').drop i').length<=1000:=by
  rw[wbm,wak]
  lia
 generalize ((numsOf b.length i (many-1).toNat).take j').drop i'=ns at *;have J:=WG.trans (j.trans KI);have Z9:=KI _ _ (j _ _ WH);refine⟨_,rfl,_,rfl,_,rfl,l,rfl,⟨_,aE.of p⟩,λls Za=>?_⟩;refine df (λ_=>true) (λv=>match v with |.int n=>.int ((b.map λq=>c.getD q.2 0).getD n.toNat 0) |_=>.non) (aI K l _) Za (aq (by rw[wa0,cy];lia)) (λH' s'=>aE.of (s' _ _ p)) (λy I Q' hy X m=>m I (a7.refl _)) (λy RN Q' hy _ r m=>?_) (λRN r RO=>?_)
 ·obtain⟨n,Bc,rfl⟩:=uB hy;have M:n<(b.map λq=>c.getD q.2 0).length:=by rw[g];exact C n Bc
  exact⟨_,rfl,_,rfl,lc,_,_,_,rfl,rfl,aE.of (r _ _ Z9),bB (v:=.int ((b.map λq=>c.getD q.2 0).getD n 0)) (by rw[wa4,wa1 M,wa3,wa1 M];rfl),m RN (a7.refl _)⟩
 have RP:(((nI ns).map V.int).filter λ_=>true).map (λv=>match v with |.int n=>V.int ((b.map λq=>c.getD q.2 0).getD n.toNat 0) |_=>.non)=(ns.map λn=>(b.map λq=>c.getD q.2 0).getD n 0).map V.int:=by
  rw[wb6.mpr (λ_ _=>rfl)];unfold nI;rw[waf,waf,waf];rfl
 rw[RP]at RO;refine⟨ls,_,rfl,aE.of RO,_,rfl,_,_,rfl,rfl,⟨by lia,by lia⟩,by show 3<=sizeLine;decide,λt' Ui=>?_⟩;exact k t' l d ns _ _ (J.trans (r.trans (a7.upd Ui))) (none_of (WG.trans j) Uh) (none_of (J.trans r) Ui) a6 (a7.upd Ui _ _ (r _ _ p)) b7 (by lia) Iq
theorem j5(L:Lk K mg):aO P w K mg base (Bd P w) 7 L.eR L.eS ["band","many","wide"] (HX L.az L.nM):=by
 have T:=L.T;refine L.bz.F.EK (N:=["band","many","wide","most","weights","in_all"]) (λX A outer s H vs Q E nd hr h=>?_);obtain⟨x,many,n,g,M,ss,ls,rfl,B,r,t,u,y,k,O⟩:=h
 refine⟨_,(a5 (Ga wh1 rfl (pI rfl T.range (a8 aj (aG (aN gD (sA (v:=.int 8) (by rfl) L.md.choose_spec ⟨_,rfl⟩) aj)))) (ax (i:=3)) (a5 (ag (i:=4) (ai (Aw L) L.nL (a8 (pv 0) (a8 (pv 1) (a8 (pv 2) (aG (pv 3)))))))
  (a5 (ag (i:=5) (aP (F9 rfl) (by rfl) T.sum BX (aG (DE (K:=K) rfl wfA wdJ wfu wU (pv 4)))))
  (a5 (bj (cq kL (pv 5) (sA (v:=.int 40) (by rfl) L.fH.choose_spec ⟨_,rfl⟩)) (a9 (fM cB rfl L.uZ L.yF rfl L.yE (aG cI))) aH)
  (a9 (bj (cq kL (pv 5) aj) (a9 (ay (pv 4))) aH))))))
  (a9 (fM cB rfl L.uZ L.yF rfl L.yE (aG cI)))),?_⟩
 try dsimp only[dj,di,b0,b6]
 refine⟨_,_,rfl,rfl,1,9,rfl,by decide,?_⟩;refine da (lo:=1) (n:=8) (λi σ q=>∃z v4 C:Option V,σ=[some (.ref x),some (.int many),some (.int (n:Int)),z,v4,C]/\a7 H q/\∀(m:Int) (h:Str->Int),1<=m->m<1+(i:Int)->mI g M ss ls many n m h->(ls.map h).sum=0) ⟨none,none,none,rfl,a7.refl _,λm h R Y=>by lia⟩ ?_ ?_
 ·rintro i σ q hi ⟨z,v4,C,rfl,j,l⟩;refine⟨_,rfl,_,rfl,_,rfl,_,rfl,x,many,n,1+(i:Int),g,M,ss,ls,rfl,B.same j,r,t,u,y,by lia,λd f S Z fd D G=>?_⟩;refine⟨_,rfl,.inr (.inr (.inl ⟨rfl,.inl ⟨_,D⟩⟩)),d,_,rfl,rfl,D,λv hv=>?_⟩;have I:=a7.upd (o:=kT v d) hv;have J:=I _ _ D;have p:(upd S v (kT v d)) v=some (kT v d):=a6;generalize upd S v (kT v d)=U at I J p;have a:=j.trans (Z.trans I);refine⟨v,d,_,ls.map f,rfl,p,J,CT f ls,?_⟩
  by_cases b:(40:Int)<(ls.map f).sum
  ·refine⟨_,rfl,_,_,rfl,rfl,true,congrArg V.bl (decide_eq_true b),eE ⟨rfl,?_⟩⟩;exact O ⟨1+(i:Int),by lia,by lia,l,.inr ⟨f,G,b⟩⟩ U a
  refine⟨_,rfl,_,_,rfl,rfl,false,congrArg V.bl (decide_eq_false b),bx ?_⟩
  by_cases h0:(0:Int)<(ls.map f).sum
  ·refine⟨_,rfl,_,_,rfl,rfl,true,congrArg V.bl (decide_eq_true h0),eE ⟨_,rfl,?_⟩⟩;exact k d f U a (none_of j fd) J ⟨⟨1+(i:Int),by lia,by lia,G,l⟩,h0,by lia⟩
  ·refine⟨_,rfl,_,_,rfl,rfl,false,congrArg V.bl (decide_eq_false h0),bx ?_⟩;refine⟨_,_,_,rfl,a,λm h R Y c=>?_⟩
   by_cases e:m=1+(i:Int)
   ·subst e;have:=Fo G c;have:=tZ c.nn
    lia
   ·exact l m h R (by lia) c
 ·rintro σ q ⟨z,v4,C,rfl,j,l⟩;exact⟨rfl,O ⟨9,by decide,by decide,l,.inl rfl⟩ q j⟩
theorem pe(L:Lk K mg):aO P w K mg base cP 6 L.jl L.jo ["band","many","wide","weights"] (HY L.az):=by
 have T:=L.T;refine L.fW.F.dq (N:=["band","many","wide","weights","sheet","lots","homes","closed","place"]) (λgX A outer s H vs Q E nd hr h=>?_);obtain⟨x,d,many,n,f,g,ws,ss,ls,rfl,B,LI,QD,E7,Be,yH,IC,hd,D,Z,WK,k⟩:=h;have hu:=ez hr
 refine⟨_,(a5 (ag (i:=4) (ai (mh L) L.gm (a8 (pv 0) (a8 (pv 1) (a8 (pv 2) (aG (pv 3)))))))
  (a5 (cW (i:=5) rfl (au ["sheet"] [4]) nd rfl rfl (d8 rfl T.range (aG (Ig T.len (aM (pv 4) rfl)))) (λ_ _ _ _ _ _=>aY) (λ_ _ _ _ _ _=>(ai (rZ L) L.iE (a8 (pv 1) (aG (pv 0))))))
  (a5 (cW (i:=6) rfl (au ["sheet"] [4]) nd rfl rfl (aK (Ks rfl (by rfl) T.min (by rfl) T.len (aG (pv 5)))) (λ_ _ _ _ _ _=>aY) (λ_ _ _ _ _ _=>(aX (gq (K:=K) rfl) (mr (K:=K) rfl (pv 1) rfl) (pv 0) (λ_ _=>rfl))))
  (a5 (ag (i:=7) eu)
  (a5 (forA (zV (pv 3)) (ax (i:=8)) (a9 (eB hu (pv 7) (pv 8) (sU (eW pL (pv 8) (pv 6) rfl) (cp hu (pv 3) (pv 8) (λ_ _=>rfl)) aj) rfl)))
  (a9 (ay (pv 7)))))))),?_⟩
 try dsimp only[dj,di,b0,b6]
 have nd:ls.Nodup:=B.nd.sublist B.lv.sub;have CA:ls.length<=900:=wai B.lv.sub.length_le yH;refine⟨_,rfl,_,rfl,_,rfl,_,rfl,x,d,many,n,bX f ls,f,g,ws,ss,ls,rfl,B,E7,Be,yH,IC,.inl hd,jL f ls,λy H1 s1 S1=>?_⟩;have S:=S1.same (cj _ _);have hB:=iR.first (g:=g) (ws:=ws) (ss:=ss) (n:=n) (many:=many) D Z;have Wz:(ak ls f).length<=ls.length:=wbe _ _;have I:=hB.l;have hmn:(1:Int)<=many:=by have:=IC.a;lia
 generalize WL:ak ls f=m at S hB Wz I;generalize Uj:bc g ws ss ls n m=G at S hB I
 have Uk:m≠[]:=λz=>by
  have h1:=xo D;rw[WL,z]at h1;have:(0:Int)=(ls.map f).sum:=h1
  lia
 have RM:0<m.length:=wc3.mpr Uk
 have Ul:∀i,i<G.length->G.getD i []≠[]:=λi hi z=>by
  have U:G[i]?=some (G.getD i []):=by rw[wa3,wa1 hi];rfl
  have h1:=hB.b i _ U;rw[z]at h1;have h2:many*(m.map f).getD i 0<=0:=h1;have hw:=hB.w;have h3:=hB.p _ (getD_mem (ws:=m.map f) (i:=i) (by lia));have:=Int.mul_pos (show 0<many by lia) (show 0<(m.map f).getD i 0 by lia)
  lia
 obtain⟨dx,ah,bw,cl,hx,rh,Je,rl⟩:=id S;have hh:=sL rh;refine⟨_,rfl,y,L.aw,dx,_,_,rfl,hx,L.av.cl,L.av.hU,eP ah bw cl,ah,_,rfl,.inl (.inl hh),_,rfl,by lia,by rw[wa0];lia,λll Um=>?_⟩;have en:(((m.map V.str).length:Nat):Int).toNat=m.length:=by rw[wa0,waA]
 rw[en];refine A4 (λi v H'=>∃q r,v=.ref q/\q≠ll/\H' q=some (.lst ((nI r).map V.int))/\Reach G r) (λi v Ha Hb ys h hl kp=>?_) (nc 0 m.length) Um (aq (by rw[wa0,waO];lia)) (λ_ _=>wbA) (λi v H3 ys Q' hv s3 JG qq=>?_) (λys H3 s3 h3 LK hR=>?_)
 ·obtain⟨q,r,rfl,U,Zb,X⟩:=h;exact⟨q,r,rfl,U,kp _ _ Zb U,X⟩
 ·have hi:i<m.length:=by have:=(wa5.mp hv).1;rwa[wa0,waO]at this
  rw[wa4,List.getElem?_range hi]at hv
  have hv:v=.int (i:Int):=by
   rw[<-wae hv];show V.int (0+(i:Int))=_;rw[wey]
  subst hv;refine⟨_,rfl,_,rfl,y,i,m,_,G,rfl,S.same s3,by lia,λl hl q U=>by rw[I];exact hB.e l hl q U,Ul i (by lia),by lia,λl r H' s' fl Nn t=>?_⟩;exact qq _ H' s' ⟨l,r,rfl,(λz=>by rw[z,JG]at fl;cases fl),Nn,t⟩
 obtain⟨ps,rfl,RQ⟩:=Ky (ys:=ys) (R:=λq=>∃r,H3 q=some (.lst ((nI r).map V.int))/\Reach G r) λv hv=>by
  obtain⟨i,hi,e⟩:=wbp hv;obtain⟨q,r,e1,_,e2,e3⟩:=hR i v (by rw[wa1 hi,e]);exact⟨q,e1,r,e2,e3⟩
 have hpl:ps≠[]:=λz=>by
  rw[wa0,wa0,waO,z]at LK;have:0=m.length:=LK
  lia
 refine⟨_,rfl,ll,ps,rfl,aE.of h3,hpl,λq U=>by obtain⟨r,e,_⟩:=RQ q U;exact⟨_,aE.of e⟩,λq U=>?_⟩;obtain⟨r,X,t⟩:=RQ q U;have CZ:=lA t.nd t.lt;refine⟨q,rfl,⟨_,aE.of X⟩,λlh Oe=>?_⟩;refine df (λ_=>true) (λv=>match v with |.int d=>.str (m.getD d.toNat "") |_=>.non) (aI K q _) Oe (aq (by rw[wa0,cy];lia)) (λH' s'=>aE.of (s' _ _ X)) (λv H8 Q' hy s8 qq=>qq H8 (a7.refl _)) (λv H4 Q' hy _ s4 qq=>?_) (λH4 s4 h4=>?_)
 ·obtain⟨n',Bc,rfl⟩:=uB hy;have QE:n'<m.length:=by rw[<-I];exact t.lt n' Bc
  have Y:=s3.trans s4;exact⟨_,rfl,y,L.aw,dx,_,_,rfl,Y _ _ hx,L.av.cl,L.av.hU,eP ah bw cl,_,rfl,ah,_,_,_,rfl,rfl,Y.seq (.inl hh),bB (v:=.str (m.getD n' "")) (by rw[wa4,wa1 QE,wa3,wa1 QE];rfl),qq H4 (a7.refl _)⟩
 have e4:(((nI r).map V.int).filter λ_=>true).map (λv=>match v with |.int d=>V.str (m.getD d.toNat "") |_=>.non)=(r.map λd=>m.getD d "").map V.str:=by
  rw[wb6.mpr (λ_ _=>rfl)];unfold nI;rw[waf,waf,waf];rfl
 rw[e4]at h4;have Y:=s3.trans s4;refine λdl C=>?_;have M:=s1.trans Y;have O9:d≠dl:=af (M _ _ hd) C;have LR:(upd H4 dl (.dK [])) d=some (.dK (bp (bX f ls))):=a7.upd C _ _ (M _ _ hd);refine⟨_,rfl,d,_,rfl,.inl LR,λo H5 h5 Nu=>?_⟩;have WB:H5 dl=some (.dK []):=by rw[Nu dl (wbs O9),a6]
 have Zc:lh≠d:=λz=>by rw[z]at h4;rw[M _ _ hd]at h4;cases h4
 have Zd:H5 lh=some (.lst ((r.map λd=>m.getD d "").map V.str)):=by rw[Nu lh Zc];exact a7.upd C _ _ h4
 have k5:∀c O,H c=some O->c≠d->H5 c=some O:=λc O e hc=>by rw[Nu c hc];exact a7.upd C _ _ (M _ _ e)
 have Uo:H dl=none:=none_of M C;have Up:dl≠lh:=λz=>by rw[z]at C;rw[h4]at C;cases C
 have J:=jf d o (bp (bX f ls));rw[show ((bp (bX f ls)).map λkv=>kV kv.1)=ls.map V.str by unfold bp bX;rw[waf,waf];rfl]at J;refine kR J (λj σ H6=>∃(v8:Option V),σ=[some (.ref x),some (.int many),some (.int (n:Int)),some (.ref d),some (.ref y),some (.ref ll),some (.ref lh),some (.ref dl),v8]/\H6 dl=some (.dK (bp (bX (cF (r.map λd=>m.getD d "") f) (ls.take j))))/\∀c O,H5 c=some O->c≠dl->H6 c=some O) ⟨none,rfl,WB,λc O e _=>e⟩ (λj σ H6 _ ⟨_,_,_,kk⟩=>kk _ _ h5 O9) ?_ ?_
 ·rintro j v σ H6 hy ⟨v8,rfl,h6,kk⟩;obtain⟨p,Oa,rfl,hj,D0,pF⟩:=gu hy;have Ir:p∉(bX (cF (r.map λd=>m.getD d "") f) (ls.take j)).map (·.1):=by rw[pX];exact ir nd Oa
  have put:∀u,u=cF (r.map λd=>m.getD d "") f p->putK (bp (bX (cF (r.map λd=>m.getD d "") f) (ls.take j))) (wav p:Key) (.int u)=bp (bX (cF (r.map λd=>m.getD d "") f) (ls.take (j+1))):=λu Ze=>by
   rw[pW Ir,pF,Ze];unfold bX;rw[wal];rfl
  have hlen:(bp (bX (cF (r.map λd=>m.getD d "") f) (ls.take j))).length<sizeLine:=by rw[jg];unfold bX;rw[wa0,wak];exact bF (by lia)
  have g6:=dG.f (k:=(wav p:Key)) (kk _ _ h5 O9);rw[dJ,jL f ls p D0]at g6;refine⟨_,rfl,_,rfl,lh,_,rfl,.inl (aE.of (kk _ _ Zd (wbs Up))),rfl,eN _,decide (p∈r.map λd=>m.getD d ""),congrArg V.bl (jb p _),?_⟩
  by_cases hp:p∈r.map λd=>m.getD d ""
  ·rw[decide_eq_true hp];refine eE ⟨_,rfl,_,rfl,d,_,rfl,g6,_,rfl,_,rfl,dl,_,rfl,kQ.k (k:=wav p) h6 hlen,?_⟩;exact⟨_,rfl,by rw[a6,put (f p) (by unfold cF;rw[if_pos hp])],λc O e hc=>by rw[ae hc];exact kk c O e hc⟩
  ·rw[decide_eq_false hp];refine bx ⟨_,rfl,_,rfl,dl,_,rfl,kQ.k (k:=wav p) h6 hlen,?_⟩;exact⟨_,rfl,by rw[a6,put 0 (by unfold cF;rw[if_neg hp])],λc O e hc=>by rw[ae hc];exact kk c O e hc⟩
 rintro σ H6 ⟨v8,rfl,h6,kk⟩;rw[wa0,waG]at h6;subst WL;subst Uj;exact⟨_,rfl,k dl _ H6 (λc o e hc=>kk _ _ (k5 c o e hc) (af e Uo)) Uo h6 (uA D) (Fi D Z t) (Fh D (λd hd=>by rw[<-I];exact t.lt d hd) t.ne) (Aa D) (Fg D)⟩
theorem nO(L:Lk K mg):aO P w K mg base cP 1 L.dn L.fz ["self","length","rows"] (Ua L.bY "length" "rows" LU LU):=by
 refine L.p8.dq (N:=["self","length","rows"]) (λm A outer s H n Q E nd o h=>?_);obtain⟨x,u,v,rfl,⟨i,rfl,a⟩,⟨j,rfl,b⟩,g,k⟩:=h
 refine⟨_,(a5 (bu (GV rfl L.rR L.XB (a8 (pv 0) (aG (JW (BV (GX (pv 1) (BV (GX (pv 2) (BV MK))))))))))
  (a5 (JU (CB:=L.cR) (pv 0) (pv 1) rfl)
  (a9 (Iy (CB:=L.cR) (pv 0) (pv 2) rfl)))),?_⟩
 try dsimp only[dj,di,b0,b6]
 have l1:=wez a;have l:=wez b;refine⟨_,rfl,aq ?_,_,rfl,.inl ⟨i,rfl,a,aq ?_,aq ?_,_,rfl,.inl ⟨j,rfl,b,aq ?_,aq ?_,aq ?_,x,L.bY,_,_,rfl,g,L.gB,?_⟩⟩⟩
 ·exact wai (show _<=1000 by decide+kernel) (by decide)
 ·exact wai (fB (show _<=1000 by decide+kernel) l1) (by decide)
 ·exact wai (fB (fB (show _<=1000 by decide+kernel) l1) (show _<=1000 by decide+kernel)) (by decide)
 ·exact wai (fB (fB (fB (show _<=1000 by decide+kernel) l1) (show _<=1000 by decide+kernel)) l) (by decide)
 ·exact wai (fB (fB (fB (fB (show _<=1000 by decide+kernel) l1) (show _<=1000 by decide+kernel)) l) (show _<=1000 by decide+kernel)) (by decide)
 ·exact wai (fB (fB (fB (fB (show _<=1000 by decide+kernel) l1) (show _<=1000 by decide+kernel)) l) (show _<=1000 by decide+kernel)) (by decide)
 refine⟨_,rfl,_,rfl,x,L.bY,_,rfl,g,L.gB,L.kB,λd hd=>?_⟩;have f:d≠x:=λz=>by rw[z,g]at hd;cases hd
 refine⟨_,rfl,_,rfl,x,L.bY,_,d,[("length",.int i)],rfl,a6,by rw[ae f,a6],by show 1<=50;decide,L.gB,L.mY,by rw[wdn,show (("rows":Str) == "length")=false by decide+kernel];rfl,?_⟩
 have e:upd (upd (upd H d (.xd [(("length":Str),V.int i)])) x (XD x L.bY d)) d (.xd ([(("length":Str),V.int i)]++[(("rows":Str),V.int j)]))=upd (upd H d (.xd [(("length":Str),V.int i),(("rows":Str),V.int j)])) x (XD x L.bY d):=by
  funext c
  by_cases a:c=d
  ·subst a;rw[a6,ae f,a6];rfl
  ·rw[ae a]
   by_cases b:c=x
   ·subst b;rw[a6,a6]
   ·rw[ae b,ae b,ae a,ae a]
 rw[e];exact k d hd
theorem mE(L:Lk K mg):aO P w K mg base (Bd P w) 8 L.iz L.iB ["band","many","wide"] (KC L.az L.bY):=by
 refine L.cn.F.EK (N:=["band","many","wide","length"]) (λC A outer s H S Q E nd D h=>?_);obtain⟨x,many,n,g,bw,ss,ls,rfl,B,l,m,f,k,G⟩:=h
 refine⟨_,(a5 (ag (i:=3) (ai (Fv L) L.uU (a8 (pv 0) (a8 (pv 1) (a8 (pv 2) (aG (sA (v:=.int 24) (by rfl) L.mc.choose_spec ⟨_,rfl⟩)))))))
  (a9 (bj (cq xZ (pv 3) du) (a9 (GW cB rfl L.gB L.xO L.xP (nO L) (D.mono (by decide)) L.p9 rfl L.uY (a8 (pv 3) (aG (ai (As L) L.sO (a8 (pv 0) (aG (aN jB (pv 3) (pv 2))))))))) aH))),?_⟩
 try dsimp only[dj,di,b0,b6]
 refine⟨_,rfl,_,rfl,_,rfl,x,many,(n:Int),24,g,bw,ss,ls,rfl,B,l,m,f,by decide,by decide,λv I o p=>?_⟩;rw[waA]at p;have q:=p
 cases p with
 |none a=>exact⟨_,rfl,rfl,false,rfl,bx (k (λj u J=>a j u J) I o)⟩
 |some j a b c d=>
  refine⟨_,rfl,rfl,true,rfl,eE ?_⟩
  have hk:(j:Int)*(n:Int)<=100000:=by
   have u:(j:Int)*(n:Int)<=24*6:=Int.mul_le_mul b f.d (by lia) (by lia)
   lia
  have r:0<=(j:Int)*(n:Int):=Int.mul_nonneg (by lia) (by lia);have M:((j:Int)*(n:Int)).toNat=j*n:=by rw[<-wdB,waA]
  refine⟨_,rfl,_,rfl,_,rfl,_,rfl,_,_,rfl,rfl,?_,x,(j:Int)*(n:Int),g,bw,ss,ls,rfl,B.same o,l,m,r,hk,λT y=>?_⟩
  ·exact .inl ⟨by lia,by lia⟩
  rw[M];refine⟨by show 2<=sizeLine;decide,λe O=>⟨e,_,_,rfl,⟨_,rfl,?_⟩,⟨_,rfl,?_⟩,a6,λt hd=>⟨rfl,.inr ⟨t,a6,?_⟩⟩⟩⟩
  ·have:=Nat.log2_le_self ((j:Nat):Int).natAbs
   lia
  ·exact D3 f b c
  obtain⟨U,z,R⟩:=C5 (o2:=.xd [("length",.int (j:Nat)),("rows",.int (dY g bw ss (j*n) ""))]) (o3:=XD e L.bY t) O hd;rw[R];exact G j t _ q ((o.trans y).trans (a7.upd z)) (none_of (o.trans y) z) a6
theorem kF(L:Lk K mg):aO P w K mg base cP 4 L.lI L.lT ["sheet"] (Ic K L.aw):=by
 refine L.fo.F.dq (N:=["sheet"]) (λB A outer s H vs Q E nd C h=>?_);obtain⟨x,D,G,j,rfl,S,n1,I,J,M,k⟩:=h;refine⟨_,(a9 (ay (mm L.p7 (fA L) (C.mono (by decide)) rfl L.sP L.cO.b .nil o1 (a8 (aM (pv 0) rfl) (a8 (aM (pv 0) rfl) (aG (aM (pv 0) rfl))))))),?_⟩
 try dsimp only[dj,di,b0,b6]
 obtain⟨l,g,bw,cl,m,O,n,R⟩:=id S;refine⟨_,rfl,x,L.aw,l,_,_,rfl,m,L.av.cl,L.av.hU,eP g bw cl,_,rfl,x,L.aw,l,_,_,rfl,m,L.av.cl,L.av.cM,cg g bw cl,_,rfl,x,L.aw,l,_,_,rfl,m,L.av.cl,L.av.cC,bH g bw cl,?_⟩;intro y i p q T;have sm:a7 H (upd (upd H i (.own y)) y (.ins L.aw i [])):=dH p q;refine⟨y,i,.ref g,.ref bw,.ref cl,D,G,j,rfl,a6,bA.same sm _ _ O,bA.same sm _ _ n,bA.same sm _ _ R,n1,I,J,M,λU X Y a d Z q2 q3 f=>⟨rfl,?_⟩⟩;have t:a7 H a:=λc o e=>f _ _ (sm _ _ e) (af e p);have u:=λ(z:jM) (v:V) (r:bA K (aF _ a) z v)=>bA.same (dM sm) z v r;exact k y a t ⟨i,U,X,Y,bK p d,u _ _ Z,u _ _ q2,u _ _ q3⟩
theorem qm(L:Lk K mg):aO P w K mg base cP 5 L.gJ L.ku ["self","weights","splits","kept","last"] (KB K L.aV L.aw):=by
 have T:=L.T;refine L.gP.F.dq (N:=["self","weights","splits","kept","last"]) (λgX A outer s H vs Q E nd hr h=>?_);obtain⟨x,f,d,z,u,v,m,p,Y,hs,ws,Z,rfl,D,hd,Zf,TB,S,n1,n2,n3,n4,n5,k⟩:=h
 refine⟨_,(a5 (cU (pv 0) (bE Cj (by rfl) T.dict PZ (aG (pv 1))) rfl)
  (a5 (cU (pv 0) (HL rfl (au [] []) (au [] []) (au [] []) ⟨by decide,by decide,by decide⟩ (aK (pv 2)) (λ_ _ _ _ _ _=>aY) (λ_ _ _ _ _ _=>(dW (a8 (pv 0) (a8 (bE (vS (K:=K) rfl) (by rfl) T.list iN (aG (pv 1))) (aG (pv 2))))))) rfl)
  (a5 (cU (pv 0) (bE cA (by rfl) T.list iN (aG (pv 3))) rfl)
  (a9 (cU (pv 0) (ai (kF L) L.fo (aG (pv 4))) rfl))))),?_⟩
 try dsimp only[dj,di,b0,b6]
 obtain⟨c,rfl,hc⟩:=iw TB;obtain⟨b,xs,rfl,hb,Nr⟩:=Zf;have xl:xs.length=p.length:=by rw[Nr.len,wa0]
 have G:∀{d:Addr} {ys:List V} {H':Hp},aE K H d ys->(∀b o,H b=some o->b≠x->H' b=some o)->aE K H' d ys:=λhS kp=>(gj kp).seq (yr D hS);refine⟨_,rfl,d,_,rfl,hd,λa I=>?_⟩;have B:x≠a:=af D I;refine⟨_,rfl,x,L.aV,f,[],rfl,by rw[ae B];exact D,L.cH.cl,L.cH.cM,(show 0<1000 by decide),?_⟩;rw[Qi];have k1:∀d o,H d=some o->d≠x->(upd (upd H a (.dK (bp m))) x (.ins L.aV f (qZ a))) d=some o:=λd o e hd=>by rw[ae hd];exact a7.upd I _ _ e
 have x1:(upd (upd H a (.dK (bp m))) x (.ins L.aV f (qZ a))) x=some (.ins L.aV f (qZ a)):=a6;have a1:(upd (upd H a (.dK (bp m))) x (.ins L.aV f (qZ a))) a=some (.dK (bp m)):=by rw[ae B.symm,a6]
 generalize upd (upd H a (.dK (bp m))) x (.ins L.aV f (qZ a))=H1 at k1 x1 a1 ⊢;have Uq:=b9.same (gj k1) _ _ (b9.off D _ _ Nr);have WM:aE K H1 b xs:=G (.inl hb) k1;refine⟨_,rfl,b,rfl,⟨_,WM⟩,λg HE=>?_⟩;refine HZ (K:=K) (p.map yB) (aI K b xs) HE (aq (by lia)) (by rw[wa0,xl]) (λH' s'=>s'.seq WM) (λi v dd n hv l U=>?_) (λn U r3=>?_)
 ·obtain⟨d',e',r⟩:=Uq.get i v hv;rw[l]at e';cases e';rw[wa4]at l
  cases e:p[i]? with
  |none=>rw[e]at l;cases l
  |some sp=>
   rw[e]at l;cases l;obtain⟨r0,ys,rfl,hT,h2⟩:=r;obtain⟨v1,vs1,rfl,⟨rfl,_⟩,h3⟩:=h2;obtain⟨v2,Zg,rfl,r2,h4⟩:=h3;obtain⟨v3,Zh,rfl,⟨rfl,_⟩,h5⟩:=h4;cases(show Zh=[] from h5);obtain⟨l2,rfl,LV⟩:=iw r2;refine⟨r0,_,_,_,rfl,hZ.of (U _ _ hT),λQ' qq=>?_⟩;refine⟨_,rfl,_,rfl,l2,_,rfl,.inl (U.seq LV),λl3 J=>?_⟩;refine⟨_,rfl,by show 3<=sizeLine;decide,λt ht=>?_⟩;have s4:a7 (upd n l3 (.lst ((nI sp.2.1).map V.int))) (upd (upd n l3 (.lst ((nI sp.2.1).map V.int))) t (.tup [.int (sp.1:Int),.ref l3,.int sp.2.2])):=a7.upd ht;refine qq _ _ ((a7.upd J).trans s4) ?_;exact DY (d:=sp.1) (ns:=sp.2.1) (w:=sp.2.2) (bK (none_of (a7.upd J) ht) a6) (bK J (s4 _ _ a6))
 have nbx:x≠g:=af x1 HE;have x3:=U _ _ x1;have a3:=U _ _ a1;refine⟨_,rfl,x,L.aV,f,qZ a,rfl,x3,L.cH.cl,L.cH.Ah,(show 1<1000 by decide),?_⟩;rw[LC];have k3:∀d o,H d=some o->d≠x->(upd n x (.ins L.aV f (ou a g))) d=some o:=λd o e hd=>by rw[ae hd];exact U _ _ (k1 _ _ e hd)
 have x4:(upd n x (.ins L.aV f (ou a g))) x=some (.ins L.aV f (ou a g)):=a6;have a4:(upd n x (.ins L.aV f (ou a g))) a=some (.dK (bp m)):=by rw[ae B.symm];exact a3
 have old:a7 (aF H1 n) (aF H n):=λd o e=>by
  unfold aF at e ⊢
  cases q:H d with
  |none=>
   cases M:H1 d with
   |none=>rw[M]at e;exact e
   |some z=>rw[M]at e;cases e
  |some z=>
   by_cases hd:d=x
   ·rw[hd,x1]at e;cases e
   ·rw[k1 _ _ q hd]at e;cases e
 have r4:bA K (aF H (upd n x (.ins L.aV f (ou a g)))) (.lst (p.map yB)) (.ref g):=bA.same (old.trans (bC D λd o e hd=>by rw[ae hd];exact e)) _ _ r3;generalize upd n x (.ins L.aV f (ou a g))=X at k3 x4 a4 r4 ⊢;refine⟨_,rfl,c,_,rfl,.inl (G hc k3),λj O=>?_⟩;have C:x≠j:=af x4 O
 have Zi:H j=none:=by
  cases q:H j with
  |none=>rfl
  |some o=>have:=k3 _ _ q C.symm;rw[O]at this;cases this
 refine⟨_,rfl,x,L.aV,f,ou a g,rfl,by rw[ae C];exact x4,L.cH.cl,L.cH.Ii,(show 2<1000 by decide),?_⟩;rw[Ia];have s5:∀d o,X d=some o->d≠x->(upd (upd X j (.lst ((nI Y).map V.int))) x (.ins L.aV f (rg a g j))) d=some o:=λd o e hd=>by rw[ae hd];exact a7.upd O _ _ e
 have x5:(upd (upd X j (.lst ((nI Y).map V.int))) x (.ins L.aV f (rg a g j))) x=some (.ins L.aV f (rg a g j)):=a6;have c5:(upd (upd X j (.lst ((nI Y).map V.int))) x (.ins L.aV f (rg a g j))) j=some (.lst ((nI Y).map V.int)):=by rw[ae C.symm,a6]
 generalize upd (upd X j (.lst ((nI Y).map V.int))) x (.ins L.aV f (rg a g j))=H5 at s5 x5 c5 ⊢;have k5:∀d o,H d=some o->d≠x->H5 d=some o:=λd o e hd=>s5 _ _ (k3 _ _ e hd) hd
 have S5:bN K L.aw H5 z hs ws Z:=by
  obtain⟨dz,ah,bw,cl,hz,rh,Je,rl⟩:=id S;have Zj:z≠x:=λq=>by rw[q,D]at hz;have:=wae hz;injection this with _ _ M;cases M
  have go:=λ(dd:jM) (v:V) (r:bA K H dd v)=>bA.same (gj k5) dd v (bA.off D dd v r);exact⟨dz,ah,bw,cl,k5 _ _ hz Zj,go _ _ rh,go _ _ Je,go _ _ rl⟩
 refine⟨_,rfl,z,hs,ws,Z,rfl,S5,n1,n2,n3,n4,λy R s6 S6=>?_⟩;refine⟨_,rfl,x,L.aV,f,rg a g j,rfl,s6 _ _ x5,L.cH.cl,L.cH.Ij,(show 3<1000 by decide),?_⟩;rw[DW];have up:∀{Ha:Hp},(∀d o,Ha d=some o->d≠x->(upd R x (.ins L.aV f (uC a g j y))) d=some o)->a7 (aF H Ha) (aF H (upd R x (.ins L.aV f (uC a g j y)))):=λh=>bC D h;have u6:∀d o,R d=some o->d≠x->(upd R x (.ins L.aV f (uC a g j y))) d=some o:=λd o e hd=>by rw[ae hd];exact e
 have u4:∀d o,X d=some o->d≠x->(upd R x (.ins L.aV f (uC a g j y))) d=some o:=λd o e hd=>u6 _ _ (s6 _ _ (s5 _ _ e hd)) hd
 have Ur:a7 (aF H5 R) (aF H R):=λd o e=>by
  unfold aF at e ⊢
  cases q:H d with
  |none=>
   cases M:H5 d with
   |none=>rw[M]at e;exact e
   |some z=>rw[M]at e;cases e
  |some z=>
   by_cases hd:d=x
   ·rw[hd,x5]at e;cases e
   ·rw[k5 _ _ q hd]at e;cases e
 exact k a g j y _ a6 I (u4 _ _ a4 B.symm) (bA.same (up u4) _ _ r4) (jh (bK Zi (u6 _ _ (s6 _ _ c5) C.symm))) (S6.same (Ur.trans (up u6))) λd o e hd=>u6 _ _ (s6 _ _ (k5 _ _ e hd)) hd
theorem we(L:Lk K mg):aO P w K mg base cP 5 L.oH L.oV ["self"] (Fq K L.aV L.aw):=by
 refine L.k8.F.dq (N:=["self"]) (λe A outer s H u Q E nd v h=>?_);obtain⟨x,m,f,B,g,i,d,rfl,⟨j,a,b,c,z,l,ha,C,hc,S⟩,n1,n,o,p,k⟩:=h;refine⟨_,(a9 (ay (ai (kF L) L.fo (aG (aM (pv 0) rfl))))),?_⟩
 try dsimp only[dj,di,b0,b6]
 exact⟨_,rfl,x,L.aV,j,_,_,rfl,l,L.cH.cl,L.cH.Ij,CU a b c z,z,g,i,d,rfl,S,n1,n,o,p,λy q r t=>k y q r t⟩
theorem D5(L:Lk K mg):aO P w K mg base (Bd P w) 9 L.xH L.xM ["band","many","wide"] (Ie K L.az L.aV L.aw L.bY L.nM):=by
 have T:=L.T;refine L.jq.F.EK (N:=["band","many","wide","weights","sheet","splits","kept","part"]) (λgX A outer s H vs Q E nd hr h=>?_);obtain⟨x,many,n,g,bw,ss,ls,rfl,B,LI,QD,E7,J,U,D,k,kS,kO⟩:=h
 refine⟨_,(a5 (bu (ai (gp L) L.dN (a8 (pv 0) (a8 (pv 1) (aG (pv 2))))))
  (a5 (bu (jC (mE L) (hr.mono (by decide)) rfl L.cn.g L.cn.F.kp L.cn.b .nil (xa cB) (a8 (pv 0) (a8 (pv 1) (aG (pv 2))))))
  (a5 (ag (i:=3) (ai (pe L) L.fW (a8 (pv 0) (a8 (pv 1) (a8 (pv 2) (aG (jC (j5 L) (hr.mono (by decide)) rfl L.bz.g L.bz.F.kp L.bz.b .nil (xa cB) (a8 (pv 0) (a8 (pv 1) (aG (pv 2)))))))))))
  (a5 (ag (i:=4) (ai (mh L) L.gm (a8 (pv 0) (a8 (pv 1) (a8 (pv 2) (aG (pv 3)))))))
  (a5 (ag (i:=5) (ck fK))
  (a5 (ag (i:=6) (ai (n6 L) L.hX (a8 (pv 4) (aG (pv 1)))))
  (a5 (j8 wh1 (cq nW (Ig T.len (pv 6)) aj) (a5 (ag (i:=7) (ai (w9 L) L.k4 (a8 (pv 4) (aG (pv 1)))))
  (a5 (ag (i:=4) (jC (Iv L) (hr.mono (by decide)) rfl L.p5.g L.p5.F.kp L.p5.b .nil (xa cB) (a8 (pv 4) (a8 (pv 1) (a8 (aX gF (pv 7) aj (λ_ _=>rfl)) (a8 (aX gF (pv 7) aj (λ_ _=>rfl)) (aG (aX gF (pv 7) aj (λ_ _=>rfl)))))))))
  (a5 (bu (iL waN waV wb2 cK (pv 5) (aG (pv 7))))
  (a9 (ag (i:=6) (ai (n6 L) L.hX (a8 (pv 4) (aG (pv 1))))))))))
  (a9 (ay (mm L.E5 (qm L) (hr.mono (by decide)) rfl L.Io L.gP.b .nil o1 (a8 (pv 3) (a8 (pv 5) (a8 (pv 6) (aG (pv 4))))))))))))))),?_⟩
 try dsimp only[dj,di,b0,b6]
 obtain⟨ra,rb,rc,rd,re⟩:=id D
 have Jf:g.length^n<=64:=by
  rw[waA]at re;have:((g.length^n:Nat):Int)<=64:=by rw[wdC];exact re
  lia
 have nd:ls.Nodup:=B.nd.sublist B.lv.sub;refine⟨_,rfl,_,rfl,_,rfl,x,many,n,g,bw,ss,ls,rfl,B,J,D,?_⟩;refine⟨_,rfl,_,rfl,_,rfl,x,many,n,g,bw,ss,ls,rfl,B,J,U,D,λQF H1 s1=>?_,kS⟩;refine⟨_,rfl,_,rfl,_,rfl,_,rfl,_,rfl,_,rfl,x,many,n,g,bw,ss,ls,rfl,B.same s1,E7,J,U,D,λd f0 H2 s2 fd h2 hL=>?_,λZk H2 s2=>kO QF Zk H2 (s1.trans s2)⟩;obtain⟨most,Ys,YS,hG,_⟩:=id hL.gr;refine⟨x,d,many,n,f0,g,bw,ss,ls,rfl,B.same (s1.trans s2),LI,QD,E7,J,U,D,h2,hG.nn,hG.fit,hL.ps,λdl f H3 k3 Uo h3 WN Fa RQ hle Us=>?_⟩;have s3:a7 H H3:=λc o e=>k3 c o (s2 _ _ (s1 _ _ e)) (af (s1 _ _ e) fd);have X:(ls.map f).sum<=40:=wdR Us hL.le;refine⟨_,rfl,_,rfl,_,rfl,_,rfl,x,dl,many,n,bX f ls,f,g,bw,ss,ls,rfl,B.same s3,E7,J,U,D,.inl h3,jL f ls,λy H4 s4 S4=>?_⟩;have S4:=S4.same (cj _ _);have L0:eJ g bw ss ls many n f [] _ _ _:=eJ.start QD B.pm LI (λp hp=>B.lv.sub.subset hp) nd WN Fa;refine⟨waJ _,λb hb=>?_⟩;have s5:a7 H4 (upd H4 b (.lst [])):=a7.upd hb;have h5:(upd H4 b (.lst [])) b=some (.lst []):=a6;have o5:a7 H4 (fb (upd H4 b (.lst [])) b):=Ib s5 hb;generalize upd H4 b (.lst [])=H5 at s5 h5 o5;have W0:=L0.whole X Jf;generalize ak ls f=v at S4 L0 W0;generalize v.map f=C at S4 L0 W0;generalize bc g bw ss ls n v=a at S4 L0 W0;have Iq:a.length<=1000:=by rw[W0.l];exact W0.n
 refine⟨_,rfl,_,rfl,y,many,v,C,a,rfl,S4.same s5,Iq,λl hl=>by have:=W0.m l hl;lia,λu G H6 s6 I Y hK=>?_⟩;have Ut:u≠b:=λz=>by rw[z,h5]at I;cases I
 refine⟨λq σ M=>∃(y u:Addr) (v:List Str) (C:List Int) (a:List (List (Str×Nat))) (j:List xB) (r:List V) (G:List Nat) (v7:Option V),q=40-v.length/\σ=[some (.ref x),some (.int many),some (.int (n:Int)),some (.ref dl),some (.ref y),some (.ref b),some (.ref u),v7]/\a7 H M/\M dl=some (.dK (bp (bX f ls)))/\bN K L.aw (fb M b) y v C a/\eJ g bw ss ls many n f j v C a/\M b=some (.lst r)/\b9 K (fb M b) (j.map yB) r/\u≠b/\M u=some (.lst ((nI G).map V.int))/\nD a many G,
  ⟨_,y,u,v,C,a,[],[],G,none,rfl,rfl,s3.trans (s4.trans (s5.trans s6)),s6 _ _ (s5 _ _ (s4 _ _ h3)),S4.same (o5.trans (ow s6)),L0,s6 _ _ h5,rfl,Ut,Y,hK⟩,?_⟩
 clear hK Y Ut I s6 Iq W0 L0 o5 h5 s5 S4;have TC:H b=none:=none_of (s3.trans s4) hb;have Qk:dl≠b:=af (s4 _ _ h3) hb;rintro q σ M ⟨y,u,v,C,a,j,r,G,v7,rfl,rfl,s7,WO,S7,O,Z,r7,Ut,Uu,hK⟩;have W7:=O.whole X Jf;have hlen:=O.len;have BO:=O.b.w;have Iq:a.length<=1000:=by rw[W7.l];exact W7.n
 have LK:r.length=j.length:=by rw[r7.len,wa0]
 have Zm:=O.sl
 by_cases Uv:G=[]
 ·subst Uv
  have zB:v≠[]:=λz=>by
   have h1:=O.sm;rw[z]at BO;rw[wbx BO]at h1;have:(0:Int)=(ls.map f).sum:=h1
   lia
  refine⟨_,rfl,u,_,rfl,.inl (aE.of Uu),rfl,true,C6 _,eE ?_⟩;refine⟨λσ' H'=>∃(y u:Addr) (R:List Str) (C:List Int) (a:List (List (Str×Nat))) (j:List xB) (r:List V) (G:List Nat) (v7:Option V),R.length=v.length+1/\σ'=[some (.ref x),some (.int many),some (.int (n:Int)),some (.ref dl),some (.ref y),some (.ref b),some (.ref u),v7]/\a7 H H'/\H' dl=some (.dK (bp (bX f ls)))/\bN K L.aw (fb H' b) y R C a/\eJ g bw ss ls many n f j R C a/\H' b=some (.lst r)/\b9 K (fb H' b) (j.map yB) r/\u≠b/\H' u=some (.lst ((nI G).map V.int))/\nD a many G,?_,?_⟩
  ·rintro σ' H' ⟨y,u,R,C,a,j,r,G,v7,e1,rfl,s',LR,S',L',HE,r',Zn,Jc,Uw⟩;have:=L'.len;exact⟨_,by lia,y,u,R,C,a,j,r,G,v7,rfl,rfl,s',LR,S',L',HE,r',Zn,Jc,Uw⟩
  refine⟨_,rfl,_,rfl,y,many,v,C,a,rfl,S7.same uD,O.b,hK,zB,by lia,λl hl=>by have:=W7.m l hl;lia,by lia,by lia,λt l d ns w H8 s8 fl ft WQ WR ok Iu Nm=>?_⟩;have hT:=hZ.of (K:=K) WQ;have S8:=(S7.same uD).same s8;refine⟨_,rfl,_,rfl,_,rfl,t,_,_,_,rfl,rfl,hT,rfl,_,rfl,t,_,_,_,rfl,rfl,hT,rfl,_,rfl,t,_,_,_,rfl,rfl,hT,rfl,y,l,many,(d:Int),w,nI ns,v,C,a,rfl,S8,aE.of WR,by rw[cy];lia,W7,by lia,by lia,.inl ⟨ok,λy' H9 s9 S9=>?_⟩⟩;rw[waA]at S9;have WT:=s8 _ _ Z;have WU:=s9 _ _ WT;have L9:=O.step ok;have W9:=L9.whole X Jf;have Ux:(cY a d (nI ns)).length<=1000:=by rw[W9.l];exact W9.n
  have Zo:l≠b:=λz=>by rw[z,Z]at fl;cases fl
  have Zq:t≠b:=λz=>by rw[z,Z]at ft;cases ft
  have r9:b9 K (fb H9 b) ((j++[(d,ns,w)]).map yB) (r++[.ref t]):=by
   rw[wal];exact i6 (b9.same (ow (s8.trans s9)) _ _ r7) (DY (fQ (s9 _ _ WQ) Zq) (fQ (s9 _ _ WR) Zo))
  have RT:bN K L.aw (fb H9 b) y' _ _ _:=S9.same (DX WT);refine⟨_,rfl,.inl ⟨rfl,_,aE.of WU⟩,_,rfl,b,_,_,rfl,rfl,WU,bF (by lia),?_⟩;have eo:fb (upd H9 b (.lst (r++[.ref t]))) b=fb H9 b:=KA;rw[<-eo]at r9 RT;have FC:a7 H (upd H9 b (.lst (r++[.ref t]))):=λc o e=>by rw[ae (af e TC)];exact s9 _ _ (s8 _ _ (s7 _ _ e))
  have WV:(upd H9 b (.lst (r++[.ref t]))) dl=some (.dK (bp (bX f ls))):=by rw[ae Qk];exact s9 _ _ (s8 _ _ WO)
  have Uy:(upd H9 b (.lst (r++[.ref t]))) b=some (.lst (r++[.ref t])):=a6;generalize upd H9 b (.lst (r++[.ref t]))=LO at FC WV Uy r9 RT;refine⟨_,rfl,_,rfl,y',many,_,_,_,rfl,RT.same uD,Ux,λl hl=>by have:=W9.m l hl;lia,λZr Zt FY S I Y Uw=>?_⟩;refine⟨y',Zr,_,_,_,j++[(d,ns,w)],r++[.ref t],Zt,_,?_,rfl,FC.trans S,S _ _ WV,RT.same (ow S),L9,S _ _ Uy,b9.same (ow S) _ _ r9,(λz=>by rw[z,Uy]at I;cases I),Y,Uw⟩;unfold cw;rw[wa7];rfl
 ·refine⟨_,rfl,u,_,rfl,.inl (aE.of Uu),rfl,false,congrArg V.bl (decide_eq_false λz=>Uv (wbx (by have:=V.int.inj z;rw[wa0,cy]at this;lia))),bx ?_⟩;refine⟨_,rfl,_,rfl,_,rfl,_,rfl,?_⟩;intro z dz nz Zu nez;have sm:a7 M (upd (upd M dz (.own z)) z (.ins L.aV dz [])):=dH nz Zu;refine⟨z,dz,dl,y,.ref b,.ref u,bX f ls,j,G,v,C,a,rfl,a6,.inl (sm _ _ WO),⟨b,r,rfl,.inl (sm _ _ Z),b9.same (uD.trans sm) _ _ r7⟩,jh (sm _ _ Uu),(S7.same uD).same sm,by lia,by lia,by lia,λl hl=>by have:=W7.m l hl;lia,by lia,λa' b' c' y' H8 h8 fa Zv r8 Zw S8 Zx=>⟨rfl,?_⟩⟩;have s8:a7 M H8:=λc o e=>Zx _ _ (sm _ _ e) (af e nz);have nw:a7 (aF (upd (upd M dz (.own z)) z (.ins L.aV dz [])) H8) (aF H H8):=dM (s7.trans sm);refine k QF z f0 f j G v C a H8 (s7.trans s8) ⟨dz,a',b',c',y',bK (none_of s7 nz) h8,bK (none_of (s7.trans sm) fa) Zv,bA.same nw _ _ r8,bA.same nw _ _ Zw,S8.same nw⟩ hL hle ⟨WN,λp hp=>?_,Fa,RQ,X,O.rn,O.b,O.cv,by lia,hK,Uv,by lia,O.sb⟩;have h1:=hle p hp;have h2:=hG.le p hp
  lia
end
end K72
namespace Bs
open PySem L2 Sx
theorem eU:∀{fs:List (Str×V)},n∉fs.map (·.1)->cz n v fs=fs++[(n,v)]
 |[],_=>rfl
 |(a,u)::fs,h=>by
  have b:¬a=n:=λz=>h (by grind);show (if a=n then _ else _)=_;rw[if_neg b,eU (fs:=fs) λz=>h (by grind)];rfl
theorem fD:∀{fs:List (Str×V)},n∉fs.map (·.1)->(fs++(n,v)::g).lookup n=some v:=by grind [wfO,wad,wac]
theorem vg:∀{fs:List (Str×V)},n∉fs.map (·.1)->fs.lookup n=none:=by grind [wad,wac]
noncomputable def Og(p:Addr):List (Str×V):=[("scheme",.ref p)]
noncomputable def Oh(p b:Addr):List (Str×V):=[("scheme",.ref p),("band",.ref b)]
noncomputable def Oi(p b:Addr)(many:Int):List (Str×V):=[("scheme",.ref p),("band",.ref b),("many",.int many)]
noncomputable def Nv(p b:Addr)(many wide:Int):List (Str×V):=[("scheme",.ref p),("band",.ref b),("many",.int many),("wide",.int wide)]
noncomputable def LW(p b:Addr)(many wide:Int)(h:Addr):List (Str×V):=[("scheme",.ref p),("band",.ref b),("many",.int many),("wide",.int wide),("homes",.ref h)]
noncomputable def IE(p b:Addr)(many wide:Int)(h l:Addr):List (Str×V):=[("scheme",.ref p),("band",.ref b),("many",.int many),("wide",.int wide),("homes",.ref h),("lines",.ref l)]
noncomputable def Oj(p b:Addr)(many wide:Int)(h l:Addr)(o:Str):List (Str×V):=[("scheme",.ref p),("band",.ref b),("many",.int many),("wide",.int wide),("homes",.ref h),("lines",.ref l),("opening",.str o)]
noncomputable def pf(p b:Addr)(many wide:Int)(h l:Addr)(o:Str)(i:Int):List (Str×V):=[("scheme",.ref p),("band",.ref b),("many",.int many),("wide",.int wide),("homes",.ref h),("lines",.ref l),("opening",.str o),("first",.int i)]
section
variable(p b h l:Addr)(many wide i:Int)(o:Str)
theorem QG:cz "scheme" (.ref p) []=Og p:=rfl
theorem QH:cz "band" (.ref b) (Og p)=Oh p b:=eU (by show ("band":Str)∉[("scheme":Str)];decide+kernel)
theorem QI:cz "many" (.int many) (Oh p b)=Oi p b many:=eU (by show ("many":Str)∉[("scheme":Str),"band"];decide+kernel)
theorem QJ:cz "wide" (.int wide) (Oi p b many)=Nv p b many wide:=eU (by show ("wide":Str)∉[("scheme":Str),"band","many"];decide+kernel)
theorem QK:cz "homes" (.ref h) (Nv p b many wide)=LW p b many wide h:=eU (by show ("homes":Str)∉[("scheme":Str),"band","many","wide"];decide+kernel)
theorem QL:cz "lines" (.ref l) (LW p b many wide h)=IE p b many wide h l:=eU (by show ("lines":Str)∉[("scheme":Str),"band","many","wide","homes"];decide+kernel)
theorem QM:cz "opening" (.str o) (IE p b many wide h l)=Oj p b many wide h l o:=eU (by show ("opening":Str)∉[("scheme":Str),"band","many","wide","homes","lines"];decide+kernel)
theorem QN:cz "first" (.int i) (Oj p b many wide h l o)=pf p b many wide h l o i:=eU (by show ("first":Str)∉[("scheme":Str),"band","many","wide","homes","lines","opening"];decide+kernel)
theorem ph:(Nv p b many wide).lookup ("scheme":Str)=some (.ref p):=fD (fs:=[]) (by decide+kernel)
theorem D6:(IE p b many wide h l).lookup ("band":Str)=some (.ref b):=fD (fs:=Og p) (by show ("band":Str)∉[("scheme":Str)];decide+kernel)
theorem D7:(IE p b many wide h l).lookup ("wide":Str)=some (.int wide):=fD (fs:=Oi p b many) (by show ("wide":Str)∉[("scheme":Str),"band","many"];decide+kernel)
theorem Ax:(IE p b many wide h l).lookup ("lines":Str)=some (.ref l):=fD (fs:=LW p b many wide h) (by show ("lines":Str)∉[("scheme":Str),"band","many","wide","homes"];decide+kernel)
theorem yL:(IE p b many wide h l).lookup ("behind":Str)=none:=vg (by show ("behind":Str)∉[("scheme":Str),"band","many","wide","homes","lines"];decide+kernel)
theorem yM:(pf p b many wide h l o i).lookup ("scheme":Str)=some (.ref p):=fD (fs:=[]) (by decide+kernel)
theorem D8:(pf p b many wide h l o i).lookup ("many":Str)=some (.int many):=fD (fs:=Oh p b) (by show ("many":Str)∉[("scheme":Str),"band"];decide+kernel)
theorem Ay:(pf p b many wide h l o i).lookup ("lines":Str)=some (.ref l):=fD (fs:=LW p b many wide h) (by show ("lines":Str)∉[("scheme":Str),"band","many","wide","homes"];decide+kernel)
theorem wg:(pf p b many wide h l o i).lookup ("opening":Str)=some (.str o):=fD (fs:=IE p b many wide h l) (by show ("opening":Str)∉[("scheme":Str),"band","many","wide","homes","lines"];decide+kernel)
theorem Az:(pf p b many wide h l o i).lookup ("first":Str)=some (.int i):=fD (fs:=Oj p b many wide h l o) (by show ("first":Str)∉[("scheme":Str),"band","many","wide","homes","lines","opening"];decide+kernel)
theorem vh(hn:n∉[("scheme":Str),"band","many","wide","homes","lines","opening","first"]):(pf p b many wide h l o i).lookup n=none:=vg hn
end
structure AA(K:wa2)(C CP CS:Addr)(H:Hp)(x xb:Addr)(many:Int)(n:Nat)(m:List (Str×Int))(pH:List xB)(ks:List Nat)(hs:List Str)(ws:List Int)(lns:List (List (Str×Nat)))(b:Nat):Prop where
 ex:∃dx p a l,H x=some (.ins C dx (pf p xb many (n:Int) a l (bD (dD lns ks many.toNat) 0 (wah b 0)).1 ((bD (dD lns ks many.toNat) 0 (wah b 0)).2:Int)))/\nG K CP CS H p m pH ks hs ws lns/\bA K H (qR (ks.map λd=>hs.getD d "")) (.ref a)/\bA K H (jO (dD lns ks many.toNat)) (.ref l)
end Bs
namespace Sx
open PySem L2 Bs
inductive Nw(C CB:Addr)(vs:List V)(H:Hp)(Q:VK)(dQ:XK):Prop
 |mk (x xb dx:Addr) (fs:List (Str×V)) (n:Nat) (g:Str) (bw ss ls:List Str) (_:vs=[.ref x]) (_:H x=some (.ins C dx fs)) (_:fs.lookup ("band":Str)=some (.ref xb)) (_:fs.lookup ("wide":Str)=some (.int (n:Int))) (_:aS CB H xb g bw ss ls) (_:1<=n) (_:n<=10) (_:(∀w∈bw,w.length<=900)) (_:bw.length<=1000) (_:∀(b:Nat) (H':Hp),a7 H H'->ve bw n b->Q (.int (b:Int)) H')
inductive FD(K:wa2)(C CB CP CS CX CO:Addr)(vs:List V)(H:Hp)(Q:VK)(E:XK):Prop
 |mk (x dx xb:Addr) (many:Int) (n:Nat) (g:Str) (bw ss ls:List Str) (_:vs=[.ref x,.ref xb,.int many,.int (n:Int)]) (_:H x=some (.ins C dx [])) (_:aS CB H xb g bw ss ls) (_:(∀w∈bw,1<=w.length/\w.length<=900)) (_:bw.length<=1000) (_:("":Str)∈ss) (_:(ch g).Nodup) (_:2<=g.length) (_:g.length<=10) (_:ss.length<=900) (_:fO g.length many n) (_:(Fs g bw ss many n->∀(p a l:Addr) (f0 f:Str->Int) (pH:List xB) (ks:List Nat) (hs:List Str) (ws:List Int) (lns:List (List (Str×Nat))) (b:Nat) (H':Hp),(∀c o,H c=some o->c≠x->H' c=some o)->H' x=some (.ins C dx (pf p xb many (n:Int) a l (bD (dD lns ks many.toNat) 0 (wah b 0)).1 ((bD (dD lns ks many.toNat) 0 (wah b 0)).2:Int)))->nG K CP CS (aF H H') p (bX f ls) pH ks hs ws lns->bA K (aF H H') (qR (ks.map λd=>hs.getD d "")) (.ref a)->bA K (aF H H') (jO (dD lns ks many.toNat)) (.ref l)->sN g bw ss ls many n f0->(∀p∈ls,f p<=f0 p)->fT g bw ss ls many n f pH ks hs ws lns->Fz many n (dD lns ks many.toNat)->ve bw n b->Q .non H')) (_:Tl CX g bw ss many n H E) (_:(Fs g bw ss many n->yA g bw ss ls many n->∀H',a7 H H'->E (.ref CO) none H'))
end Sx
namespace Bs
open PySem L2 Sx
theorem IG(B:aS C H j g bw ss ls)(I:H x=some (.ins J T fs))(hn:j≠x):aS C (fb H x) j g bw ss ls:=by
 obtain⟨⟨f,b,d,q,t,u,h,i,v,k,r⟩,p,o,l⟩:=B;have ne:∀{c:Addr} {o:HO},H c=some o->(∀a b e,o≠.ins a b e)->c≠x:=λe n z=>by grind
 exact⟨⟨f,b,d,q,t,fQ u hn,fQ h (ne h λ_ _ _ z=>by cases z),fQ i (ne i λ_ _ _ z=>by cases z),v,λm s=>fQ (k m s) (ne (k m s) λ_ _ _ z=>by cases z),fQ r (ne r λ_ _ _ z=>by cases z)⟩,p,o,l⟩
theorem vi:∀b:Nat,(wah b [V.int 0]).flatten=(nI (wah b 0)).map V.int
 |0=>rfl
 |b+1=>by
  rw[wcn,wbZ,vi b,wcn];rfl
theorem D9(h:∀c o,H c=some o->∃g,j c=some g):a7 (aF j l) (aF H l):=by grind [a7,aF]
end Bs
namespace K72
open PySem L2 Bs Sx
section
variable{P:wap}{w:World}{K:wa2}{mg:Str->Option Value}{base:Heap}
theorem qo(L:Lk K mg):aO P w K mg base cP 3 L.km L.kz ["self"] (Nw L.ao L.az):=by
 refine L.gQ.F.dq (N:=["self"]) (λe A outer s H l Q E nd m h=>?_);obtain⟨x,f,c,fs,n,g,bw,ss,ls,rfl,d,i,j,B,n1,KN,a,b,k⟩:=h;refine⟨_,(a9 (ay (ai (ql L) L.gM (a8 (aM (pv 0) rfl) (aG (aM (pv 0) rfl)))))),?_⟩
 try dsimp only[dj,di,b0,b6]
 exact⟨_,rfl,x,L.ao,c,_,_,rfl,d,L.aA.cl,L.aA.Ik,i,_,rfl,x,L.ao,c,_,_,rfl,d,L.aA.cl,L.aA.Im,j,f,n,g,bw,ss,ls,rfl,B,n1,KN,a,b,k⟩
theorem nP(L:Lk K mg):aO P w K mg base (Bd P w) 10 L.fh L.iV ["self","band","many","wide"] (FD K L.ao L.az L.aV L.aw L.bY L.nM):=by
 refine L.fu.F.EK (N:=["self","band","many","wide","sheet","kept","found"]) (λgX A outer s H vs Q E nd hr h=>?_);obtain⟨x,a,j,many,n,g,bw,ss,ls,rfl,hx,B,LI,Nr,Zy,QD,E7,Be,yH,IC,k,kS,kO⟩:=h
 refine⟨_,(a5 (cU (pv 0) (jC (D5 L) (hr.mono (by decide)) rfl L.jq.g L.jq.F.kp L.jq.b .nil (xa cB) (a8 (pv 1) (a8 (pv 2) (aG (pv 3))))) rfl)
  (a5 (cU (pv 0) (pv 1) rfl)
  (a5 (cU (pv 0) (pv 2) rfl)
  (a5 (cU (pv 0) (pv 3) rfl)
  (a5 (ag (i:=4) (Af (aM (pv 0) rfl) L.cH.cl L.k8 (we L)))
  (a5 (ag (i:=5) (aM (aM (pv 0) rfl) rfl))
  (a5 (cU (pv 0) (bS rfl (au ["sheet"] [4]) (aK (pv 5)) (λ_ _ _ _ _ _=>aY) (λ_ _ _ _ _ _=>(aX (gq (K:=K) rfl) (mr (K:=K) rfl (pv 1) rfl) (pv 0) (λ_ _=>rfl)))) rfl)
  (a5 (cU (pv 0) (bS rfl (au ["sheet","kept","many"] [4,5,2]) (aK (pv 5)) (λ_ _ _ _ _ _=>aY) (λ_ _ _ _ _ _=>(ai (js L) L.cZ (a8 (aX (gq (K:=K) rfl) (mr (K:=K) rfl (pv 1) rfl) (pv 0) (λ_ _=>rfl)) (a8 (pv 2) (aG (pv 3))))))) rfl)
  (a5 (ag (i:=6) (ai (xR L) L.p6 (a8 (aM (pv 0) rfl) (a8 aj (aG (aN Gr (ck (aG aj)) (Af (pv 0) L.aA.cl L.gQ (qo L))))))))
  (a5 (cU (pv 0) (aX gF (pv 6) aj (λ_ _=>rfl)) rfl)
  (a9 (cU (pv 0) (aX gF (pv 6) aj (λ_ _=>rfl)) rfl)))))))))))),?_⟩
 try dsimp only[dj,di,b0,b6]
 obtain⟨ra,rb,rc,rd,re⟩:=id IC
 have Zz:j≠x:=λz=>by
  obtain⟨dx',b,d,q,mv,h1,_⟩:=id B.ex;rw[z,hx]at h1;have:=wae h1;injection this with _ _ q2
  cases q2
 refine⟨_,rfl,_,rfl,_,rfl,j,many,n,g,bw,ss,ls,rfl,B,λw hw=>(LI w hw).1,QD,E7,Be,yH,IC,λQF p f0 f pH C S ws r H1 s1 P1 hL hle D=>?_,kS,kO⟩;have W0:=Qy (n:=n) D.ko D.ne (show 0<=many by lia) (D.cv.word D.b.l (λq J=>B.lv.sub.subset (D.sb q J)) Zy);have P1':=P1.same (cj _ _);have ZA:=D.ln;have hwL:=D.b.w;have SH:=D.b.l
 have Jf:g.length^n<=64:=by
  rw[waA]at re;have:((g.length^n:Nat):Int)<=64:=by rw[wdC];exact re
  lia
 have Qt:∀l∈r,l.length<=10000:=λl hm=>by
  have h1:=D.cv.line D.b.l (b:=64) (λp=>wai (fP g bw ss ls n p) Jf) l hm;have h2:64*S.length<=64*40:=weG _ (by lia)
  lia
 have VQ:C.length<=40:=by have:=D.ko.ab.sub.length_le;rw[waO]at this;lia
 have WW:∀d∈C,d<r.length:=λd hd=>(D.ko.st d hd).1;refine⟨_,rfl,x,L.ao,a,[],rfl,s1 _ _ hx,L.aA.cl,L.aA.oy,(show 0<1000 by decide),?_⟩;rw[QG];refine⟨_,rfl,_,rfl,x,L.ao,a,_,rfl,a6,L.aA.cl,L.aA.Ik,(show 1<1000 by decide),?_⟩;rw[QH];refine⟨_,rfl,_,rfl,x,L.ao,a,_,rfl,a6,L.aA.cl,L.aA.Il,(show 2<1000 by decide),?_⟩;rw[QI];refine⟨_,rfl,_,rfl,x,L.ao,a,_,rfl,a6,L.aA.cl,L.aA.Im,(show 3<1000 by decide),?_⟩;rw[QJ];have x2:(upd (upd (upd (upd H1 x (.ins L.ao a (Og p))) x (.ins L.ao a (Oh p j))) x (.ins L.ao a (Oi p j many))) x (.ins L.ao a (Nv p j many (n:Int)))) x=some (.ins L.ao a (Nv p j many (n:Int))):=a6;have k2:∀c o,H1 c=some o->c≠x->(upd (upd (upd (upd H1 x (.ins L.ao a (Og p))) x (.ins L.ao a (Oh p j))) x (.ins L.ao a (Oi p j many))) x (.ins L.ao a (Nv p j many (n:Int)))) c=some o:=λc o e hc=>by rw[ae hc,ae hc,ae hc,ae hc];exact e
 generalize upd (upd (upd (upd H1 x (.ins L.ao a (Og p))) x (.ins L.ao a (Oh p j))) x (.ins L.ao a (Oi p j many))) x (.ins L.ao a (Nv p j many (n:Int)))=H2 at x2 k2;have Uz:∀c o,H c=some o->c≠x->H2 c=some o:=λc o e hc=>k2 c o (s1 _ _ e) hc;have n2:a7 (aF H H1) (aF H H2):=bC hx k2;have P2:=P1.same (n2.trans (cj _ _));obtain⟨dp,wa,wb,T,wz,QO,_,_,ZB,_⟩:=id P2;refine⟨_,rfl,x,L.ao,a,_,_,rfl,x2,L.aA.cl,L.aA.oy,ph p j many n,p,dp,_,rfl,QO,vg (by show ("sheet":Str)∉[("weights":Str),"splits","kept","last"];decide+kernel),p,bX f ls,pH,C,S,ws,r,rfl,P2,by lia,by lia,by lia,Qt,λy H3 s3 S3=>?_⟩;have x3:=s3 _ _ x2;refine⟨_,rfl,x,L.ao,a,_,_,rfl,x3,L.aA.cl,L.aA.oy,ph p j many n,p,L.aV,dp,_,_,rfl,s3 _ _ QO,L.cH.cl,L.cH.Ii,CV wa wb T wz,?_⟩
 have UA:aE K H3 T ((nI C).map V.int):=by
  obtain⟨c',e,h⟩:=iw (bA.same s3 _ _ ZB);cases e;exact h
 have ZC:=S3.same (cj _ _);obtain⟨dy,ah,WX,cl,hy,rh,rwt,rl⟩:=id ZC;have hh:=sL rh;obtain⟨Qn,xs,ec,hc,Bb⟩:=id rl;cases ec;refine⟨_,rfl,T,rfl,⟨_,UA⟩,λm Ol=>?_⟩;refine df (λ_=>true) (λv=>match v with |.int d=>.str (S.getD d.toNat "") |_=>.non) (aI K T _) Ol (aq (by rw[wa0,cy];lia)) (λH' s'=>s'.seq UA) (λv H8 Q' hy s8 qq=>qq H8 (a7.refl _)) (λv H4 Q' hv _ M qq=>?_) (λH4 M h4=>?_)
 ·obtain⟨n',Bc,rfl⟩:=uB hv;have U:n'<S.length:=by rw[<-SH];exact WW n' Bc
  exact⟨_,rfl,y,L.aw,dy,_,_,rfl,M _ _ hy,L.av.cl,L.av.hU,eP ah WX cl,_,rfl,ah,_,_,_,rfl,rfl,M.seq (.inl hh),bB (v:=.str (S.getD n' "")) (by rw[wa4,wa1 U,wa3,wa1 U];rfl),qq H4 (a7.refl _)⟩
 have e4:(((nI C).map V.int).filter λ_=>true).map (λv=>match v with |.int d=>V.str (S.getD d.toNat "") |_=>.non)=(C.map λd=>S.getD d "").map V.str:=by
  rw[wb6.mpr (λ_ _=>rfl)];unfold nI;rw[waf,waf,waf];rfl
 rw[e4]at h4;have X:m≠x:=wbs (af x3 Ol);refine⟨_,rfl,x,L.ao,a,_,rfl,M _ _ x3,L.aA.cl,L.aA.hU,(show 4<1000 by decide),?_⟩;rw[QK];have x5:(upd H4 x (.ins L.ao a (LW p j many (n:Int) m))) x=some (.ins L.ao a (LW p j many (n:Int) m)):=a6;have k5:∀c o,H4 c=some o->c≠x->(upd H4 x (.ins L.ao a (LW p j many (n:Int) m))) c=some o:=λc o e hc=>by rw[ae hc];exact e
 generalize upd H4 x (.ins L.ao a (LW p j many (n:Int) m))=H5 at x5 k5;have x4:=M _ _ x3
 have ZD:y≠x:=λz=>by
  obtain⟨_,_,_,_,h,_⟩:=id S3;rw[z]at h;unfold aF at h;rw[x2]at h;cases h
 have Nu:aE K H5 T ((nI C).map V.int):=(gj k5).seq (yr x4 (M.seq UA));have Ug:=k5 _ _ (M _ _ hy) ZD;have ZE:bA K H5 (jO r) (.ref cl):=bA.same (gj k5) _ _ (bA.off x4 _ _ (bA.same M _ _ rl));obtain⟨W6,ZF,ZG,ZH,UB⟩:=id ZE;cases ZG;refine⟨_,rfl,T,rfl,⟨_,Nu⟩,λu CA=>?_⟩;refine uf (K:=K) ((dD r C many.toNat).map bR) (aI K T _) CA (aq (by rw[wa0,cy];lia)) (by unfold dD;rw[wa0,wa0,wa0,cy]) (λH' s'=>s'.seq Nu) (λi v dd H6 Q' hv Ob Y qq=>?_) (λH6 Y r6=>?_)
 ·have hi:i<C.length:=by have:=(wa5.mp hv).1;rwa[wa0,cy]at this
  rw[CK (wa1 hi)]at hv;cases hv;unfold dD at Ob;rw[wa4,wa4,wa1 hi]at Ob;cases Ob;have Iu:=WW _ (waE hi);generalize C[i]=d at qq Iu;have J:=dO Iu;obtain⟨v',Np,ZI⟩:=UB.at (i:=d) (d:=bR (r.getD d [])) (by rw[wa4,J];rfl);exact⟨_,rfl,y,L.aw,dy,_,_,rfl,Y _ _ Ug,L.av.cl,L.av.cC,bH ah WX cl,_,rfl,cl,ZF,_,_,rfl,rfl,Y.seq (.inl ZH),bB Np,_,rfl,_,rfl,v',T,many,C,r.getD d [],rfl,bA.same Y _ _ ZI,Y.seq Nu,by lia,Qt _ (wa8 J),by lia,λz O s7 r7=>qq z O s7 r7⟩
 have x6:=Y _ _ x5;refine⟨_,rfl,x,L.ao,a,_,rfl,x6,L.aA.cl,L.aA.cC,(show 5<1000 by decide),?_⟩;rw[QL];have x7:(upd H6 x (.ins L.ao a (IE p j many (n:Int) m u))) x=some (.ins L.ao a (IE p j many (n:Int) m u)):=a6;have k7:∀c o,H6 c=some o->c≠x->(upd H6 x (.ins L.ao a (IE p j many (n:Int) m u))) c=some o:=λc o e hc=>by rw[ae hc];exact e
 generalize upd H6 x (.ins L.ao a (IE p j many (n:Int) m u))=O at x7 k7;have WY:∀c o,H c=some o->c≠x->H5 c=some o:=λc o e hc=>k5 _ _ (M _ _ (s3 _ _ (Uz c o e hc))) hc;have ZJ:∀c o,H c=some o->c≠x->O c=some o:=λc o e hc=>k7 _ _ (Y _ _ (WY c o e hc)) hc;have r7:bA K O (jO (dD r C many.toNat)) (.ref u):=bA.same ((DX x5).trans (gj k7)) _ _ r6;have B7:aS L.az O j g bw ss ls:=(IG B hx Zz).same (gj ZJ);refine⟨_,rfl,x,L.ao,a,_,_,rfl,x7,L.aA.cl,L.aA.cC,Ax p j m u many n,by show 1<=sizeLine;decide,λl0 RM=>?_⟩;have s8:=a7.upd (H:=O) (o:=.lst [V.int 0]) RM;have h8:(upd O l0 (.lst [V.int 0])) l0=some (.lst [V.int 0]):=a6;generalize upd O l0 (.lst [V.int 0])=H8 at s8 h8;have x8:=s8 _ _ x7;refine⟨_,rfl,x,a,_,rfl,x8,yL p j m u many n,x,j,a,_,n,g,bw,ss,ls,rfl,x8,D6 p j m u many n,D7 p j m u many n,B7.same s8,by lia,by lia,λw hw=>(LI w hw).2,Nr,λb H9 s9 hb=>?_⟩;have hb1:=hb.le;refine⟨l0,(b:Int),[V.int 0],rfl,rfl,s9 _ _ h8,by lia,by lia,aq (by show 1*((b:Int)).toNat<=_;lia),λpr UC=>?_⟩;rw[waA,vi];have FC:=a7.upd (H:=H9) (o:=.lst ((nI (wah b 0)).map V.int)) UC;have Nt:(upd H9 pr (.lst ((nI (wah b 0)).map V.int))) pr=some (.lst ((nI (wah b 0)).map V.int)):=a6;generalize upd H9 pr (.lst ((nI (wah b 0)).map V.int))=LO at FC Nt;have Z:=s8.trans (s9.trans FC);refine⟨.ref u,0,pr,many,n,dD r C many.toNat,wah b 0,rfl,bA.same Z _ _ r7,aE.of Nt,W0,wc3.mpr W0.ne,λt ht=>by rw[(wct.mp ht).2];lia,by rw[waM];lia,by lia,λq R Jg J=>?_⟩;have QP:=Z.trans Jg;have WZ:=QP _ _ x7;have Tp:q≠x:=λz=>by rw[z,WZ]at J;cases J
 generalize ZK:bD (dD r C many.toNat) 0 (wah b 0)=G at J;refine⟨_,rfl,q,_,_,_,rfl,rfl,hZ.of J,rfl,_,rfl,x,L.ao,a,_,rfl,WZ,L.aA.cl,L.aA.xD,(show 6<1000 by decide),?_⟩;rw[QM];refine⟨_,rfl,q,_,_,_,rfl,rfl,hZ.of (by rw[ae Tp];exact J),rfl,_,rfl,x,L.ao,a,_,rfl,a6,L.aA.cl,L.aA.DZ,(show 7<1000 by decide),?_⟩;rw[QN];have UD:(upd (upd R x (.ins L.ao a (Oj p j many (n:Int) m u G.1))) x (.ins L.ao a (pf p j many (n:Int) m u G.1 (G.2:Int)))) x=some (.ins L.ao a (pf p j many (n:Int) m u G.1 (G.2:Int))):=a6;have X0:∀c o,R c=some o->c≠x->(upd (upd R x (.ins L.ao a (Oj p j many (n:Int) m u G.1))) x (.ins L.ao a (pf p j many (n:Int) m u G.1 (G.2:Int)))) c=some o:=λc o e hc=>by rw[ae hc,ae hc];exact e
 generalize upd (upd R x (.ins L.ao a (Oj p j many (n:Int) m u G.1))) x (.ins L.ao a (pf p j many (n:Int) m u G.1 (G.2:Int)))=I at UD X0;have QQ:∀c o,O c=some o->c≠x->I c=some o:=λc o e hc=>X0 _ _ (QP _ _ e) hc;have UE:∀c o,H5 c=some o->c≠x->I c=some o:=λc o e hc=>QQ _ _ (k7 _ _ (Y _ _ e) hc) hc;have QR:∀c o,H4 c=some o->c≠x->I c=some o:=λc o e hc=>UE _ _ (k5 _ _ e hc) hc;have QS:∀c o,H2 c=some o->c≠x->I c=some o:=λc o e hc=>QR _ _ (M _ _ (s3 _ _ e)) hc
 have fla:H m=none:=by
  cases e:H m with
  |none=>rfl
  |some o=>have:=s3 _ _ (Uz m o e X);rw[Ol]at this;cases this
 have m5:∀c o,H c=some o->∃o',H5 c=some o':=λc o e=>by
  by_cases z:c=x
  ·rw[z];exact⟨_,x5⟩
  ·exact⟨o,WY c o e z⟩
 rw[<-ZK]at UD;refine k QF p m u f0 f pH C S ws r b I (λc o e hc=>QS _ _ (Uz c o e hc) hc) UD (P1.same (n2.trans (bC hx QS))) (oj (bK fla (QR _ _ h4 X))) (bA.same ((D9 m5).trans (bC hx λc o e hc=>QQ _ _ (k7 _ _ e hc) hc)) _ _ r6) hL hle D W0 hb
end
end K72
namespace L2
open PySem PySem.Spec PyProof.Rows Sx
section
variable{X:Cx}{e:Expr}{es:List Expr}{te:TE}{t:TJ}{pos:Pos}
end
end L2
namespace Sx
open PySem L2 Bs
noncomputable def nQ(wl:List (List (Str×Nat)))(b c:Nat)(ts:List Nat):Str:=(bD wl 0 (wah b 0)).1++(bD wl (bD wl 0 (wah b 0)).2 (ts++wah c 0)).1
end Sx
namespace L2
open PySem PySem.Spec PyProof.Rows
section
variable{M:Model}{A:Around}{E:Value->Shared->Prop}{e C C1 CB:Addr}{nm q:Str}{N:Addr}{bs:List Value}{hdct:Bool}{sn:List Str}{sub:List Value}{ab:Bool}{col:Option Bool}{dd:Option Addr}{k0 k1 k2 k3 k5:Option Value}
 {PX q':Str} {N':Addr} {ZL:List Value} {QT:Bool} {ZM:List Str} {UG:List Value} {ZN:Bool} {UH:Option Bool} {ZO:Option Addr} {ZP ZQ ZR ZS ZT:Option Value}
theorem yN{h:Heap}{g:Array wdk}{d:Drawn}{t:Nat}{os:wbT}{I:Obj}{Q:Bool->Shared->Prop}(j:h.get? C1=some (wbr PX q' C1 N' ZL (nr CB) QT ZM UG ZN UH ZO ZP ZQ ZR ZS ZT "ValueError.__new__"))
 (J:h.get? C=some (wbr nm q C N bs (nr CB) hdct sn sub ab col dd k0 k1 k2 k3 k5 "ValueError.__new__"))
 (he:h.get? e=some I) (l:I.cls=.ref C) (p:C1≠C) (r:C1≠CB) (T:Q false ⟨h,g,d,t,os⟩) :
 wpAny M A (wgo (.ref e) (.ref C1)) Q E ⟨h,g,d,t,os⟩:=by
 have a:(waj C1::nr CB).contains (.type "BaseException")=true:=by simp[wgQ,nr]
 have b:(waj C::nr CB).contains (.ref C1)=false:=by simp[wgQ,nr,p,r]
 have f:=tc_notTuple;unfold wgo
 repeat (first |(with_reducible refine wb8 he ?_;rw[l]) |with_reducible refine wb8 j ?_ |with_reducible refine wb8 J ?_ |(with_reducible refine wbS J ?_;rw[b]) |(with_reducible refine wbS j ?_;rw[a]) |wp_step)
 exact T
end
def QU(C1 C2:Addr)(tb:FU)(i:Nat):TS:=λD σ H=>tb (λσ' cv od H'=>(cv=.ref C1\/cv=.ref C2)/\D.nx (σ'.set i (some .non)) H') D σ H
section
variable{X:Cx}{CB C1 C2:Addr}{Q6 RU x nm PX:Str}{body:List Stmt}{tb:FU}{i jj jk:Nat}{p1 p2 p3 p4 MN q1 q2 q3 q4 UI pos:Pos}
theorem KO(l:X.stack=X.env::X.outer/\X.env.frame=some X.env.locals)(g:JX X body tb)(hg:Gl X Q6)(hm:X.mg Q6=some (.ref C1))(ZU:Gl X RU)(SW:X.mg RU=some (.ref C2))(U:dX X.K C1 CB nm)(U':dX X.K C2 CB PX)(zB:C1≠C2)(ZV:C1≠CB)(hN:X.N.Nodup)(hi:X.N[i]?=some x)
 (hx:Loc X.env.scope x) (J:(Q6==("__debug__":Str))=false:=by decide) (T:(RU==("__debug__":Str))=false:=by decide)
 (hf:X.fn x=true\/X.env.scope.names.lookup x=some .local:=by first |exact .inl rfl |exact .inr rfl |assumption) (SK:wc1 (.Constant .none jj p3) (some (.Name x p2)) p4.line X.env=pure false:=by rfl) (UJ:wc1 (.Constant .none jk q3) (some (.Name x q2)) q4.line X.env=pure false:=by rfl) :
 PS X (.Try body [.ExceptHandler (some (.Name Q6 p1)) none [.Assign [.Name x p2] (.Constant .none jj p3) p4] MN,.ExceptHandler (some (.Name RU q1)) none [.Assign [.Name x q2] (.Constant .none jk q3) q4] UI] [] [] pos) (QU C1 C2 tb i):=by
 refine⟨?_⟩;intro a s σ H D I h;refine wpAny_Try_except (wb1 (g a s σ H D _ I h) (λf s1 q=>?_) λY s1 q=>?_)
 ·cases f with
  |next=>exact wce q
  |ret v=>exact q
  |brk=>exact q
  |cont=>exact q
 obtain⟨r,H0,G,d,e,C',od,m,rfl,k,bare,un,b7,F,c,hD⟩:=q;have I1:Inv X a r m s1:=d.wA k un b7 bare λb z=>absurd z (by simp);have ZW:(X.env::X.outer).filterMap (·.frame)=qF X.stack:=by rw[l.1];rfl
 have t:=I1.sx
 have L:G.heap.objs.size<=s1.heap.objs.size:=whb λz=>by
  obtain⟨MF,_,vs,sl,he,_⟩:=F;exact absurd (war (wbc MF (wag he)) (wfd z)) (wb7 _)
 refine zJ (lo:=G.heap.objs.size) (H:=m) (base:=X.base) (outer:=X.outer) (by rw[<-l.1];exact d.ok.frames) (by rw[<-l.1];exact I1.stack) l.2 L (λb g=>b7.fresh g) F λZ F2 p=>?_;rw[ZW]at p;obtain⟨M,n,J2⟩:=d.BW k bare un b7 p t;have u:=J2 s1.toks;obtain⟨qC,NC,bsC,snC,ZX,abC,ZY,ddC,c0,c1,c2,c3,c5,O⟩:=U.lk;obtain⟨qD,ND,bsD,snD,ZZ,abD,za0,ddD,e0,e1,e2,e3,e5,Q⟩:=U'.lk;obtain⟨Zg,sl2,w,_⟩:=id F2.ob;rcases c with c |c
 ·cases c;refine weH (wej (g9 (X:=X.marked e) (u.marked (e:=e)) hg hm ?_ J)) (by intro z;cases z);refine qQ (u.hE _ _ O) w rfl ?_;refine wg0 ?_;refine tN F2 λR F3 S=>?_;have A:EH G.heap.objs.size m (qF X.stack) Z R:=⟨λb o q g _=>S b o q g,λb o q g=>⟨o.slots,S b o q (.inl ?_)⟩⟩
  rotate_left
  ·have:∃o,G.heap.get? b=some o:=by
    obtain⟨_,o,B,_⟩:=d.stack.mem g;exact⟨o,B⟩
   obtain⟨o,B⟩:=this;exact wag B
  obtain⟨un3,V,J3⟩:=d.BW (s1:={s1 with heap:=Z}) k bare M n A t;have I3:=J3 s1.toks;have Y:=du (X:=(X.marked e).L7) (j:=jj) (pos:=p3) a {s1 with heap:=R} r m (λv C=>v=.non/\C=m) ((I3.marked (e:=e)).n7 _) ⟨rfl,rfl⟩;refine wcM (wdY (ML (bI Y λv s5 ⟨y,H5,E,r5,ey,eH⟩=>?_)) SK);subst ey;subst eH;have E:=(E.fJ).unmarked d.ok;refine j7 E hN hi hx r5 (λs6 I6=>wce ?_) hf;exact⟨_,_,I6,hD⟩
 ·cases c;refine weH (wej (g9 (X:=X.marked e) (u.marked (e:=e)) hg hm ?_ J)) (by intro z;cases z);refine yN (u.hE _ _ O) (u.hE _ _ Q) w rfl zB ZV ?_;refine weH (wej (g9 (X:=X.marked e) (u.marked (e:=e)) ZU SW ?_ T)) (by intro z;cases z);refine qQ (u.hE _ _ Q) w rfl ?_;refine wg0 ?_;refine tN F2 λR F3 S=>?_;have A:EH G.heap.objs.size m (qF X.stack) Z R:=⟨λb o q g _=>S b o q g,λb o q g=>⟨o.slots,S b o q (.inl ?_)⟩⟩
  rotate_left
  ·have:∃o,G.heap.get? b=some o:=by
    obtain⟨_,o,B,_⟩:=d.stack.mem g;exact⟨o,B⟩
   obtain⟨o,B⟩:=this;exact wag B
  obtain⟨un3,V,J3⟩:=d.BW (s1:={s1 with heap:=Z}) k bare M n A t;have I3:=J3 s1.toks;have Y:=du (X:=(X.marked e).L7) (j:=jk) (pos:=q3) a {s1 with heap:=R} r m (λv C=>v=.non/\C=m) ((I3.marked (e:=e)).n7 _) ⟨rfl,rfl⟩;refine wcM (wdY (ML (bI Y λv s5 ⟨y,H5,E,r5,ey,eH⟩=>?_)) UJ);subst ey;subst eH;have E:=(E.fJ).unmarked d.ok;refine j7 E hN hi hx r5 (λs6 I6=>wce ?_) hf;exact⟨_,_,I6,hD⟩
end
end L2
namespace Bs
open PySem L2 Sx
structure Nx(K:wa2)(C CB CP CS:Addr)(H:Hp)(x:Addr)(g:Str)(bw:List Str)(many:Int)(n:Nat):Prop where
 ex:∃(xb:Addr) (ss ls:List Str) (f0 f:Str->Int) (pH:List xB) (ks:List Nat) (hs:List Str) (ws:List Int) (lns:List (List (Str×Nat))) (b:Nat),aS CB H xb g bw ss ls/\AA K C CP CS H x xb many n (bX f ls) pH ks hs ws lns b/\Fs g bw ss many n/\sN g bw ss ls many n f0/\(∀p∈ls,f p<=f0 p)/\fT g bw ss ls many n f pH ks hs ws lns/\Fz many n (dD lns ks many.toNat)/\ve bw n b
end Bs
namespace Sx
open PySem L2 Bs
inductive KP(K:wa2)(C CB CP CS:Addr)(vs:List V)(H:Hp)(Q:VK)(dQ:XK):Prop
 |mk (g:Str) (a:Addr) (many:Int) (n:Nat) (bw:List Str) (_:vs=[.str g,.ref a,.int many,.int (n:Int)]) (_:aE K H a (bw.map V.str)) (_:zF g) (_:bw.length<=6) (_:(∀w∈bw,yj g w)) (_:fO g.length many n) (_:∀(v:V) (H':Hp),a7 H H'->(v=.non\/∃x,v=.ref x/\Nx K C CB CP CS H' x g bw many n)->Q v H')
end Sx
namespace Bs
open PySem L2 Sx AC
section
variable{ws ss:List Str}{r:Str}
theorem AB(g:ss.Perm (bo ws "" ws))(hw:∀w∈ws,1<=w.length)(l:bears ws r=false)(w:Str):∀i,i<=w.length->bears ws (lend ss r++bG w i)=bears ws (r++bG w i)/\(bears ws (r++bG w i)=false->lend ss (lend ss r++bG w i)=lend ss (r++bG w i))
 |0,_=>by
  have n:("":Str)∈ss:=g.mem_iff.mpr (bb ws);rw[take_zero,iP,iP];obtain⟨o,p⟩:=nv g hw (iq n r);exact⟨by rw[o,l],λ_=>p⟩
 |i+1,hi=>by
  obtain⟨f,j⟩:=AB g hw l w i (by omega);have hc:(ch w)[i]?=some ((ch w)[i]'(by rw[aR];omega)):=wa1 _;generalize (ch w)[i]'(by rw[aR];omega)=c at hc;rw[take_snoc hc,<-cL,<-cL]
  cases d:bears ws (r++bG w i) with
  |true=>
   have up:∀q:Str,bears ws q=true->bears ws (q++⟨#[c]⟩)=true:=λq s=>by
    cases e:bears ws (q++⟨#[c]⟩) with
    |true=>rfl
    |false=>
     have:=dI (a:=q) (b:=q++(⟨#[c]⟩:Str)) (by rw[aJ];exact(wdO _ _).isInfix) e;rw[s]at this;cases this
   rw[up _ d,up _ (f.trans d)];exact⟨rfl,λz=>by cases z⟩
  |false=>
   have hl:=j d;have h:=f.trans d;have t:=fN (c:=c) g d hw;have k:=fN (c:=c) g h hw;have u:=i5 (c:=c) g d;have m:=i5 (c:=c) g h;rw[hl]at k m;exact⟨k.symm.trans t,λ_=>m.symm.trans u⟩
theorem Ny(g:ss.Perm (bo ws "" ws))(hw:∀w∈ws,1<=w.length)(j:bears ws r=false){w:Str}(h:bears ws (lend ss r++w)=false):bears ws (r++w)=false/\lend ss (r++w)=lend ss (lend ss r++w):=by
 obtain⟨a,b⟩:=AB g hw j w w.length (wab _);rw[take_all]at a b;rw[h]at a;exact⟨a.symm,(b a.symm).symm⟩
end
theorem snoc_ind{α:Type}{P:List α->Prop}(h0:P [])(g:∀l a,P l->P (l++[a]))(l:List α):P l:=by
 have h:∀m:List α,P m.reverse:=λm=>by
  induction m with
  |nil=>exact h0
  |cons a m b=>rw[List.reverse_cons];exact g _ _ b
 rw[<-List.reverse_reverse l];exact h _
theorem AD(wl:List (List (Str×Nat))):∀(b:List Nat) (r:Str) (e:Nat),b.foldl (kE wl) (r,e)=(r++(b.foldl (kE wl) ("",e)).1,(b.foldl (kE wl) ("",e)).2):=by intro b;induction b<;>grind [iP,wdw,kE,wl,iQ,cL]
theorem IH(wl:List (List (Str×Nat)))(b a:List Nat)(d:Nat):bD wl d (a++b)=((bD wl d a).1++(bD wl (bD wl d a).2 b).1,(bD wl (bD wl d a).2 b).2):=by grind [bD,we1,AD,wl]
def II(bw ss hk:List Str)(wl:List (List (Str×Nat))):Prop:=∀d,d<wl.length->∀q∈wl.getD d [],bears bw (hk.getD d ""++q.1)=false/\lend ss (hk.getD d ""++q.1)=hk.getD q.2 ""
theorem xS{many:Int}{n:Nat}{bw ss hk:List Str}{wl:List (List (Str×Nat))}(g:Fz many n wl)(j:ss.Perm (bo bw "" bw))(hw:∀w∈bw,1<=w.length)(G:II bw ss hk wl){d:Nat}(hd:d<wl.length)(p:hk.getD d ""∈ss):∀ts:List Nat,(∀t∈ts,(t:Int)<many)->bears bw (hk.getD d ""++(bD wl d ts).1)=false/\lend ss (hk.getD d ""++(bD wl d ts).1)=hk.getD (bD wl d ts).2 "":=by
 intro ts;refine snoc_ind (P:=λ(ts:List Nat)=>(∀t∈ts,(t:Int)<many)->bears bw (hk.getD d ""++(bD wl d ts).1)=false/\lend ss (hk.getD d ""++(bD wl d ts).1)=hk.getD (bD wl d ts).2 "") ?_ ?_ ts
 ·intro _;obtain⟨c,e⟩:=nv j hw p;show bears bw (hk.getD d ""++("":Str))=false/\lend ss (hk.getD d ""++("":Str))=hk.getD d "";rw[iP];exact⟨c,e⟩
 ·intro ts t f h;obtain⟨i,k⟩:=f λx a=>h x (wb0 _ a);have r:=h t (waH _ (wan.mpr rfl));obtain⟨b,_⟩:=sQ g hd (ts:=ts) λx a=>h x (wb0 _ a);rw[xQ];unfold kE;have hl:=wa8 (dO b);have m:=g.ln _ hl;have o:=wa8 (qk (l:=wl.getD (bD wl d ts).2 []) (t:=t) (by lia));obtain⟨g1,g2⟩:=G _ b _ o;rw[<-k]at g1 g2;obtain⟨c1,q⟩:=Ny j hw i g1;dsimp only;rw[<-cL];exact⟨c1,q.trans g2⟩
theorem vT.BL{g:Str}{bw ss ls:List Str}{n:Nat}{hs:List Str}{lns:List (List (Str×Nat))}(h:vT (aQ g bw ss ls n) hs lns)(hl:lns.length=hs.length)(j:∀p∈hs,p∈ss)(l:ss.Perm (bo bw "" bw))(hw:∀w∈bw,1<=w.length){i:Nat}(hi:i<hs.length){q:Str×Nat}(r:q∈lns.getD i []):bears bw (hs.getD i ""++q.1)=false/\lend ss (hs.getD i ""++q.1)=hs.getD q.2 ""/\q.1∈Jb g n:=by
 have k:hs.getD i ""=hs[i]:=by rw[wa3,wa1 hi];rfl
 have m:hs[i]?=some hs[i]:=wa1 hi;have o:lns[i]?=some (lns.getD i []):=by rw[wa3,wa1 (by lia)];rfl
 have a:0<gx hs[i] (q.1,q.2) hs lns:=by
  have:=jP (z:=(q.1,q.2)) m o;have hc:0<(lns.getD i []).count (q.1,q.2):=wbY.mpr r
  lia
 rw[h hs[i] q.1 q.2]at a
 by_cases c:q.2<hs.length/\hs[i]∈hs/\(q.1,hs.getD q.2 "")∈aQ g bw ss ls n hs[i]
 ·have e:=(wau.mp c.2.2).1;rw[ue l hw (j _ (waE hi))]at e;obtain⟨z,s,d⟩:=wd0.mp e;unfold jN at d;rw[k]
  by_cases b:bears bw (hs[i]++z)=true
  ·rw[if_pos b]at d;cases d
  ·rw[if_neg b]at d;have f:=wae d;have t:z=q.1:=congrArg Prod.fst f;have u:lend ss (hs[i]++z)=hs.getD q.2 "":=congrArg Prod.snd f;subst t;exact⟨by simpa using b,u,s⟩
 ·rw[if_neg c]at a
  lia
noncomputable def mj(hs:List Str)(ks:List Nat):List Str:=ks.map λd=>hs.getD d ""
theorem ia{hs:List Str}{g:List Nat}{i:Nat}(hi:i<g.length):(mj hs g).getD i ""=hs.getD g[i] "":=by
 unfold mj;rw[wa3,wa4,wa1 hi];rfl
theorem fT.steps{g:Str}{bw ss ls:List Str}{many:Int}{n:Nat}{f:Str->Int}{r:List xB}{j:List Nat}{hs:List Str}{ws:List Int}{lns:List (List (Str×Nat))}(P:fT g bw ss ls many n f r j hs ws lns)(C:ss.Perm (bo bw "" bw))(hw:∀w∈bw,1<=w.length)(t:∀p∈ls,p∈ss)(m:Nat){d:Nat}(hd:d<j.length):j[d]<hs.length/\∀q∈(dD lns j m).getD d [],∃e,(q.1,e)∈lns.getD j[d] []/\e∈j/\q.2=j.idxOf e/\bears bw (hs.getD j[d] ""++q.1)=false/\lend ss (hs.getD j[d] ""++q.1)=hs.getD e ""/\q.1∈Jb g n:=by
 have hk:=(P.ko.st j[d] (waE hd)).1;rw[P.b.l]at hk;refine⟨hk,λq c=>?_⟩
 have i:(dD lns j m).getD d []=fC j m (lns.getD j[d] []):=by
  unfold dD;rw[wa3,wa4,wa1 hd];rfl
 rw[i]at c;unfold fC at c;obtain⟨z,k,rfl⟩:=waa.mp c;have a:=wau.mp ((wbg _ _).subset k);obtain⟨c1,o,s⟩:=P.cv.BL P.b.l (λp h=>t p (P.sb p h)) C hw hk a.1;exact⟨z.2,a.1,of_decide_eq_true a.2,rfl,c1,o,s⟩
theorem fT.BL{g:Str}{bw ss ls:List Str}{many:Int}{n:Nat}{f:Str->Int}{l:List xB}{j:List Nat}{hs:List Str}{ws:List Int}{lns:List (List (Str×Nat))}(P:fT g bw ss ls many n f l j hs ws lns)(t:ss.Perm (bo bw "" bw))(hw:∀w∈bw,1<=w.length)(r:∀p∈ls,p∈ss)(m:Nat):II bw ss (mj hs j) (dD lns j m):=by
 intro d hd q i
 have a:d<j.length:=by
  unfold dD at hd;rwa[wa0]at hd
 obtain⟨hk,h⟩:=P.steps t hw r m a;obtain⟨e,o,b,c,c1,k,_⟩:=h q i;have hi:=wbC.mpr b;rw[ia a,c,ia hi,wd8 hi];exact⟨c1,k⟩
theorem IJ{g:Str}{bw ss ls:List Str}{many:Int}{n:Nat}{f:Str->Int}{r:List xB}{l:List Nat}{hs:List Str}{ws:List Int}{lns:List (List (Str×Nat))}(P:fT g bw ss ls many n f r l hs ws lns)(C:ss.Perm (bo bw "" bw))(hw:∀w∈bw,1<=w.length)(j:∀p∈ls,p∈ss)(I:Fz many n (dD lns l many.toNat)){b c:Nat}(m1:1<=many){ts:List Nat}(J:∀t∈ts,(t:Int)<many):bears bw (nQ (dD lns l many.toNat) b c ts)=false:=by
 have h0:0<(dD lns l many.toNat).length:=wc3.mpr I.ne;have a:0<l.length:=by unfold dD at h0;rwa[wa0]at h0
 have d:(mj hs l).getD 0 ""∈ss:=by
  rw[ia a];have hk:=(P.steps C hw j many.toNat a).1;rw[wa3,wa1 hk];exact j _ (P.sb _ (waE hk))
 have ha:∀t:Nat,t∈wah b 0++(ts++wah c 0)->(t:Int)<many:=λt h=>by
  rcases waC.mp h with h |h
  ·rw[(wct.mp h).2];omega
  ·rcases waC.mp h with h |h
   ·exact J t h
   ·rw[(wct.mp h).2];omega
 have:=(xS I C hw (P.BL C hw j _) h0 d _ ha).1;rw[IH]at this;exact dI (by rw[aJ];exact⟨_,[],by rw[waW];rfl⟩) this
end Bs
namespace Bs
open PySem L2 Sx
theorem vj{p:Str}{z:Str×Nat}:∀{hs:List Str} {lns:List (List (Str×Nat))} {i j:Nat} {l m:List (Str×Nat)},i<j->hs[i]?=some p->hs[j]?=some p->lns[i]?=some l->lns[j]?=some m->l.count z+m.count z<=gx p z hs lns
 |[],_,_,_,_,_,_,h,_,_,_=>nomatch h
 |_,[],_,_,_,_,_,_,_,h,_=>nomatch h
 |h::hs,k::lns,0,j+1,l,m,_,a,b,c,d=>by
  cases a;cases c;have:=jP (z:=z) (p:=p) (hs:=hs) (lns:=lns) (i:=j) (by simpa using b) (by simpa using d);show _<=(if p=p then k.count z else 0)+_;rw[if_pos rfl]
  lia
 |h::hs,k::lns,i+1,j+1,l,m,q,a,b,c,d=>by
  have:=vj (z:=z) (hs:=hs) (lns:=lns) (i:=i) (j:=j) (l:=l) (m:=m) (by lia) (by simpa using a) (by simpa using b) (by simpa using c) (by simpa using d);show _<=(if h=p then k.count z else 0)+_
  lia
theorem getD_some{α:Type}{l:List α}{i:Nat}(x:α)(h:i<l.length):l[i]?=some (l.getD i x):=by
 rw[wa3,wa1 h];rfl
theorem vT.most{B:Str->List (Str×Str)}{hs:List Str}{lns:List (List (Str×Nat))}(h:vT B hs lns)(p:Str)(z:Str×Nat):gx p z hs lns<=1:=by
 have:=h p z.1 z.2;rw[show (z.1,z.2)=z from rfl]at this;rw[this];split<;>lia
theorem vT.one{B:Str->List (Str×Str)}{hs:List Str}{lns:List (List (Str×Nat))}(h:vT B hs lns)(hl:lns.length=hs.length){d d':Nat}(hd:d<hs.length)(g:d'<hs.length)(e:hs.getD d ""=hs.getD d' ""){q:Str×Nat}(j:q∈lns.getD d [])(l:q∈lns.getD d' []):d=d':=by
 have c1:=wbY.mpr j;have f:=wbY.mpr l;have a:=getD_some ("":Str) hd;have b:=getD_some ("":Str) g;rw[<-e]at b;have m:=h.most (hs.getD d "") q;have l1:=getD_some [] (show d<lns.length by lia);have c:=getD_some [] (show d'<lns.length by lia);rcases wde d d' with z |z |z
 ·have:=vj (z:=q) z a b l1 c;lia
 ·exact z
 ·have:=vj (z:=q) z b a c l1;lia
theorem vT.cnt{B:Str->List (Str×Str)}{hs:List Str}{lns:List (List (Str×Nat))}(h:vT B hs lns)(hl:lns.length=hs.length){d:Nat}(hd:d<hs.length)(q:Str×Nat):(lns.getD d []).count q<=1:=
 wai (jP (getD_some ("":Str) hd) (getD_some [] (show d<lns.length by lia))) (h.most _ q)
def qp(lns:List (List (Str×Nat))):Nat->List Str->Prop
 |_,[]=>True
 |d,w::ws=>∃e,(w,e)∈lns.getD d []/\qp lns e ws
def FE(hs:List Str)(lns:List (List (Str×Nat)))(s:Nat):Prop:=∀d d' ws,d<lns.length->d'<lns.length->hs.getD d ""=hs.getD d' ""->ws.length=s->qp lns d ws->qp lns d' ws->d=d'
noncomputable def sf(d t e:Nat):Nat:=if e=t then d else e
theorem vk{l:List (Str×Nat)}{w:Str}{d t e:Nat}(hl:∀q∈l,q.2<t)(h:(w,e)∈dS d t l):(w,sf d t e)∈l:=by
 unfold dS at h;obtain⟨q,a,h⟩:=wbW.mp h;have:=hl q a;unfold sf
 by_cases c:q.2=d
 ·rw[if_pos c]at h;rcases waD.mp h with z |z
  ·rw[<-z]at a this;rw[if_neg (show ¬e=t from wat this)];exact a
  ·have z:=wan.mp z;obtain⟨rfl,rfl⟩:=wcI z;rw[if_pos rfl,<-c];exact a
 ·rw[if_neg c]at h;have z:=wan.mp h;rw[<-z]at a this;rw[if_neg (show ¬e=t from wat this)];exact a
theorem FG{lns:List (List (Str×Nat))}{d i:Nat}{ns:List Int}(hd:d<lns.length)(hi:i<lns.length+1):(cY lns d ns).getD i []=dS d lns.length (if i=d then aU ns (lns.getD d []) else if i=lns.length then aT ns (lns.getD d []) else lns.getD i []):=by
 unfold cY;rw[wa3,wa4,List.getElem?_set]
 by_cases a:i=d
 ·subst a;rw[if_pos rfl,if_pos rfl,if_pos (by rw[wa7];omega)];rfl
 ·rw[if_neg (λz=>a z.symm),if_neg a]
  by_cases b:i=lns.length
  ·subst b;rw[if_pos rfl,waq (wab _),wbn];rfl
  ·rw[if_neg b,waB (by omega),getD_some [] (show i<lns.length by omega)];rfl
theorem mB{lns:List (List (Str×Nat))}{d i e:Nat}{ns:List Int}{w:Str}(hd:d<lns.length)(hi:i<lns.length+1)(he:∀l∈lns,∀q∈l,q.2<lns.length)(h:(w,e)∈(cY lns d ns).getD i []) :
 (w,sf d lns.length e)∈lns.getD (sf d lns.length i) []/\(i=d->(w,sf d lns.length e)∈aU ns (lns.getD d []))/\(i=lns.length->(w,sf d lns.length e)∈aT ns (lns.getD d [])):=by
 have g:∀j,∀q∈lns.getD j [],q.2<lns.length:=λj q f=>by
  by_cases z:j<lns.length
  ·exact he _ (wa8 (getD_some [] z)) q f
  ·rw[wa3,wdg (by omega)]at f;cases f
 rw[FG hd hi]at h
 by_cases a:i=d
 ·rw[if_pos a]at h;have c:=vk (λq f=>g d q (dh f)) h;refine⟨?_,λ_=>c,λz=>absurd z (by omega)⟩;have:sf d lns.length i=d:=by unfold sf;rw[if_neg (by omega)];exact a
  rw[this];exact dh c
 ·rw[if_neg a]at h
  by_cases b:i=lns.length
  ·rw[if_pos b]at h;have c:=vk (λq f=>g d q (dh f)) h;refine⟨?_,λz=>absurd z a,λ_=>c⟩;have:sf d lns.length i=d:=by unfold sf;rw[if_pos b]
   rw[this];exact dh c
  ·rw[if_neg b]at h;refine⟨?_,λz=>absurd z a,λz=>absurd z b⟩;have:sf d lns.length i=i:=by unfold sf;rw[if_neg b]
   rw[this];exact vk (g i) h
theorem qt{lns:List (List (Str×Nat))}{d i e:Nat}{ns:List Int}{w:Str}(hd:d<lns.length)(hi:i<lns.length+1)(he:∀l∈lns,∀q∈l,q.2<lns.length)(h:(w,e)∈(cY lns d ns).getD i []):e<lns.length+1:=by
 have a:=(mB hd hi he h).1
 by_cases z:e=lns.length
 ·lia
 ·have:sf d lns.length e=e:=by unfold sf;rw[if_neg z]
  rw[this]at a;have b:sf d lns.length i<lns.length:=by unfold sf;split<;>lia
  have:=he _ (wa8 (getD_some [] b)) _ a;have:e<lns.length:=this
  lia
theorem yO{lns:List (List (Str×Nat))}{d:Nat}{ns:List Int}(hd:d<lns.length)(he:∀l∈lns,∀q∈l,q.2<lns.length):∀(ws:List Str) (i:Nat),i<lns.length+1->qp (cY lns d ns) i ws->qp lns (sf d lns.length i) ws
 |[],_,_,_=>trivial
 |w::ws,i,hi,⟨e,h,r⟩=>⟨sf d lns.length e,(mB hd hi he h).1,yO hd he ws e (qt hd hi he h) r⟩
theorem FH{hs:List Str}{d i:Nat}(hi:i<hs.length+1):(cw hs d).getD i ""=hs.getD (sf d hs.length i) "":=by
 unfold cw sf;rw[wa3]
 by_cases z:i=hs.length
 ·rw[if_pos z,z,waq (wab _),wbn];rfl
 ·rw[if_neg z,waB (by lia),getD_some ("":Str) (show i<hs.length by lia)];rfl
theorem FE.split{B:Str->List (Str×Str)}{hs:List Str}{lns:List (List (Str×Nat))}{m d:Nat}{F:Str->Str->Str}(D:FE hs lns m)(C:vT B hs lns)(hl:lns.length=hs.length)(he:∀l∈lns,∀q∈l,q.2<hs.length)(hd:d<hs.length)(I:∀i,i<hs.length->∀q∈lns.getD i [],hs.getD q.2 ""=F (hs.getD i "") q.1)(ns:List Int):FE (cw hs d) (cY lns d ns) (m+1):=by
 intro i j f hi b n a r s;have sl:(cY lns d ns).length=lns.length+1:=by unfold cY;rw[wa0,wcg,wa7];rfl
 rw[sl]at hi b;rw[<-hl]at he hd;have H:=λk (hk:k<lns.length+1)=>FH (hs:=hs) (d:=d) (i:=k) (by lia)
 cases f with
 |nil=>cases a
 |cons w f=>
  obtain⟨e,u,o⟩:=r;obtain⟨v,z,p⟩:=s;obtain⟨a1,a2,a3⟩:=mB hd hi he u;obtain⟨b1,A,E⟩:=mB hd b he z;have o:=yO hd he f e (qt hd hi he u) o;have p:=yO hd he f v (qt hd b he z) p;rw[H i hi,H j b,<-hl]at n;have lt:∀k,k<lns.length+1->sf d lns.length k<lns.length:=λk hk=>by unfold sf;split<;>lia
  have G:=I _ (by have:=lt i hi;lia) _ a1;have J:=I _ (by have:=lt j b;lia) _ b1;have L:=he _ (wa8 (getD_some [] (lt i hi))) _ a1;have M:=he _ (wa8 (getD_some [] (lt j b))) _ b1;have t:=D _ _ f L M (by rw[G,J,n]) (wgM a) o p;have t:sf d lns.length e=sf d lns.length v:=t;rw[<-t]at b1 A E;have c:=C.one hl (by have:=lt i hi;lia) (by have:=lt j b;lia) n a1 b1
  have hc:∀{q},q∈aU ns (lns.getD d [])->q∈aT ns (lns.getD d [])->False:=λ{q} x y=>by
   have c1:=wbY.mpr x;have N:=wbY.mpr y;have:=C.cnt hl (by lia:d<hs.length) q;have:=nC (λi=>decide ((i:Int)∈ns)) q 0 (lns.getD d []);unfold aU at c1;unfold aT at N
   lia
  unfold sf at c
  by_cases h:i=lns.length
  ·by_cases g:j=lns.length
   ·lia
   ·rw[if_pos h,if_neg g]at c;exact(hc (A c.symm) (a3 h)).elim
  ·by_cases g:j=lns.length
   ·rw[if_neg h,if_pos g]at c;exact(hc (a2 c) (E g)).elim
   ·rw[if_neg h,if_neg g]at c;exact c
theorem fT.det{g:Str}{bw ss ls:List Str}{many:Int}{n:Nat}{f:Str->Int}{j:List xB}{I:List Nat}{hs:List Str}{ws:List Int}{lns:List (List (Str×Nat))}(P:fT g bw ss ls many n f j I hs ws lns)(nd:(ch g).Nodup)(C:ss.Perm (bo bw "" bw))(hw:∀w∈bw,1<=w.length)(t:∀p∈ls,p∈ss)(hl:ls.Nodup):FE hs lns j.length:=by
 have key:∀{j hs ws lns},Runs many (ak ls f) ((ak ls f).map f) (bc g bw ss ls n (ak ls f)) j hs ws lns->eJ g bw ss ls many n f j hs ws lns/\FE hs lns j.length:=by
  intro j hs ws lns h
  induction h with
  |nil=>
   refine⟨eJ.start nd C hw t hl P.nn P.fit,λd o ws a b e _ _ _=>?_⟩;have hn:(ak ls f).Nodup:=hl.filter _;have c:(bc g bw ss ls n (ak ls f)).length=(ak ls f).length:=by unfold bc;rw[wa0]
   rw[c]at a b;rw[wa3,wa3,wa1 a,wa1 b]at e;exact(wbI hn).mp e
  |@snoc l hs ws lns d ns w r ok k=>
   obtain⟨L,D⟩:=k;refine⟨L.step ok,?_⟩;rw[wa7];exact D.split L.cv L.b.l L.b.e (L.b.split ok).2 (F:=λp w=>lend ss (p++w)) (λi hi q m=>((L.cv.BL L.b.l (λp h=>t p (L.sb p h)) C hw hi m).2.1).symm) _
 exact(key P.rn).2
theorem LX{lns:List (List (Str×Nat))}{g:List Nat}{m d:Nat}(hd:d<g.length):(dD lns g m).getD d []=fC g m (lns.getD (g.getD d 0) []):=by
 unfold dD;rw[wa3,wa4,getD_some 0 hd];rfl
theorem vm(lns:List (List (Str×Nat)))(g:List Nat)(m:Nat):(dD lns g m).length=g.length:=wa0 ..
theorem IK{lns:List (List (Str×Nat))}{g:List Nat}{m d:Nat}{q:Str×Nat}(h:q∈(dD lns g m).getD d []):d<g.length:=by
 refine wdy λz=>?_;rw[wa3,wdg (by rw[vm];omega)]at h;cases h
theorem yP{lns:List (List (Str×Nat))}{g:List Nat}{m d e:Nat}{w:Str}(h:(w,e)∈(dD lns g m).getD d []):e<g.length/\(w,g.getD e 0)∈lns.getD (g.getD d 0) []:=by
 rw[LX (IK h)]at h;unfold fC at h;obtain⟨q,b,c⟩:=waa.mp h;obtain⟨f,a⟩:=wau.mp (wcH b);have a:=of_decide_eq_true a;obtain⟨rfl,rfl⟩:=wcI c;have hl:=wbC.mpr a;refine⟨hl,?_⟩;have:g.getD (g.idxOf q.2) 0=q.2:=by rw[wa3,wa1 hl];exact wd8 hl
 rw[this];exact f
theorem yQ{lns:List (List (Str×Nat))}{g:List Nat}{m:Nat}:∀(ws:List Str) (d:Nat),qp (dD lns g m) d ws->qp lns (g.getD d 0) ws
 |[],_,_=>trivial
 |_::ws,_,⟨e,h,r⟩=>⟨g.getD e 0,(yP h).2,yQ ws e r⟩
theorem xT:∀{l:List (Str×Nat)},(∀q,l.count q<=1)->l.Nodup
 |[],_=>wdf
 |a::l,h=>by
  refine wbF.mpr ⟨λz=>?_,xT λq=>wai (List.count_le_count_cons ..) (h q)⟩;have b:=h a;rw[List.count_cons_self]at b;have:=wbY.mpr z
  lia
structure xU(bw ss hk:List Str)(wl:List (List (Str×Nat)))(s:Nat):Prop where
 det:FE hk wl s
 go:II bw ss hk wl
 inj:∀(d i j:Nat) (z:Str×Nat),(wl.getD d [])[i]?=some z->(wl.getD d [])[j]?=some z->i=j
 e:∀(d:Nat),∀q∈wl.getD d [],q.2<wl.length
theorem fT.read{g:Str}{bw ss ls:List Str}{many:Int}{n:Nat}{f:Str->Int}{I:List xB}{t:List Nat}{hs:List Str}{ws:List Int}{lns:List (List (Str×Nat))}(P:fT g bw ss ls many n f I t hs ws lns)(nd:(ch g).Nodup)(J:ss.Perm (bo bw "" bw))(hw:∀w∈bw,1<=w.length)(C:∀p∈ls,p∈ss)(hl:ls.Nodup)(m:Nat):xU bw ss (mj hs t) (dD lns t m) I.length:=by
 have D:=P.det nd J hw C hl;have E:t.Nodup:=P.ko.ab.sub.nodup wft;have s:∀{d},d<t.length->t.getD d 0<lns.length:=λ{d} hd=>(P.ko.st _ (wa8 (getD_some 0 hd))).1;refine⟨λd R G a b e l r H=>?_,P.BL J hw C m,λd i j z c k=>?_,λd q u=>?_⟩
 ·rw[vm]at a b
  have h:=D _ _ G (s a) (s b) (by
   have v:=ia (hs:=hs) a;have A:=ia (hs:=hs) b;rw[v,A]at e;rw[wa3 (l:=t),wa1 a,wa3 (l:=t),wa1 b]
   exact e) l (yQ _ _ r) (yQ _ _ H)
  rw[wa3,wa1 a,wa3,wa1 b]at h;exact(wbI E).mp h
 ·have hd:=IK (wa8 c);rw[LX hd]at c k;have o:(lns.getD (t.getD d 0) []).Nodup:=xT λq=>P.cv.cnt P.b.l (by have:=s hd;have:=P.b.l;lia) q;generalize lns.getD (t.getD d 0) []=B at c k o;have nt:((cx t B).take m).Nodup:=(o.filter _).sublist (wbg _ _);have mem:∀q∈(cx t B).take m,q.2∈t:=λq u=>of_decide_eq_true (wau.mp (wcH u)).2;unfold fC at c k;generalize (cx t B).take m=l at c k nt mem;rw[wa4]at c k;obtain⟨p,c,v⟩:=wd9.mp c;obtain⟨q,k,A⟩:=wd9.mp k;have L:=v.trans A.symm;obtain⟨a,b⟩:=wcI L;have lp:=wbC.mpr (mem p (wa8 c));have M:=wbC.mpr (mem q (wa8 k))
  have b:p.2=q.2:=by
   have x:=wd8 lp;have y:=wd8 M;rw[<-x,<-y];congr 1
  have N:p=q:=we8 a b;rw[<-N]at k;obtain⟨S,O⟩:=wa5.mp c;obtain⟨T,Q⟩:=wa5.mp k;exact(wbI nt).mp (O.trans Q.symm)
 ·rw[vm];exact(yP (w:=q.1) (e:=q.2) u).1
theorem mC{wl:List (List (Str×Nat))}:∀(k:Nat) (ws:List Str) (d:Nat),qp wl d ws->qp wl d (ws.take k)
 |0,_,_,_=>trivial
 |_+1,[],_,_=>trivial
 |k+1,_::ws,_,⟨e,h,r⟩=>⟨e,h,mC k ws e r⟩
theorem xU.one{bw ss hk:List Str}{wl:List (List (Str×Nat))}{s:Nat}(R:xU bw ss hk wl s){d d' i l e g:Nat}{w:Str}{us:List Str}(hd:d<wl.length)(j:d'<wl.length)(r:hk.getD d ""=hk.getD d' "")(t:(wl.getD d [])[i]?=some (w,e))(p:(wl.getD d' [])[l]?=some (w,g))(hl:us.length=s)(C:qp wl e us)(I:qp wl g us):i=l:=by
 have m1:=wa8 t;have c:=wa8 p;have a:=(R.go d hd _ m1).2;have b:=(R.go d' j _ c).2
 have f:e=g:=R.det e g us (R.e d _ m1) (R.e d' _ c) (by
  show hk.getD (w,e).2 ""=hk.getD (w,g).2 ""
  rw[<-a,<-b,r]) hl C I
 have h:=mC s (w::us) d ⟨e,m1,C⟩;have k:=mC s (w::us) d' ⟨g,c,I⟩;have m:=R.det d d' _ hd j r (by rw[wak,waF];lia) h k;rw[<-f,<-m]at p;exact R.inj d i l _ t p
end Bs
namespace L2
open PySem PySem.Spec PyProof.Rows
section
variable{X:Cx}{o e f:Expr}{apos hH:Pos}{td ty tx:TE}
end
end L2
namespace Bs
open PySem L2 Sx
noncomputable def cat:List Str->Str
 |[]=>""
 |w::ws=>w++cat ws
theorem IL:∀ws:List Str,ch (cat ws)=(ws.map ch).flatten
 |[]=>rfl
 |w::ws=>by
  show ch (w++cat ws)=_;rw[aJ,IL ws,wao,wbZ]
theorem pj{n:Nat}:∀{ws:List Str},(∀w∈ws,w.length=n)->(cat ws).length=n*ws.length
 |[],_=>rfl
 |w::ws,h=>by
  show (w++cat ws).length=_;rw[len_app,pj λx a=>h x (wac _ a),h w (wad ..),waF,Nat.mul_add,Nat.mul_one,wgL]
theorem yR:∀a b:List Str,cat (a++b)=cat a++cat b
 |[],b=>(iQ _).symm
 |w::a,b=>by
  show w++cat (a++b)=w++cat a++cat b;rw[yR a b,cL]
noncomputable def fE(wl:List (List (Str×Nat)))(d t:Nat):Str×Nat:=(wl.getD d []).getD t ("",0)
noncomputable def dE(wl:List (List (Str×Nat))):Nat->List Nat->List Str
 |_,[]=>[]
 |d,t::ts=>(fE wl d t).1::dE wl (fE wl d t).2 ts
noncomputable def pq(wl:List (List (Str×Nat))):Nat->List Nat->Nat
 |d,[]=>d
 |d,t::ts=>pq wl (fE wl d t).2 ts
theorem kc(wl:List (List (Str×Nat))):∀(ts:List Nat) (d:Nat),bD wl d ts=(cat (dE wl d ts),pq wl d ts)
 |[],_=>rfl
 |t::ts,d=>by
  have h:=kc wl ts (fE wl d t).2;unfold bD at h ⊢;rw[wdw,show kE wl ("",d) t=(("":Str)++(fE wl d t).1,(fE wl d t).2) from rfl,iQ,AD,h];rfl
theorem jt(wl:List (List (Str×Nat))):∀(ts:List Nat) (d:Nat),(dE wl d ts).length=ts.length
 |[],_=>rfl
 |_::ts,_=>congrArg (· + 1) (jt wl ts _)
theorem step_at{many:Int}{n:Nat}{wl:List (List (Str×Nat))}(g:Fz many n wl){d t:Nat}(hd:d<wl.length)(j:(t:Int)<many):(wl.getD d [])[t]?=some (fE wl d t):=by
 have:=g.ln _ (wa8 (dO hd));exact qk (by lia)
theorem vn{many:Int}{n:Nat}{wl:List (List (Str×Nat))}(g:Fz many n wl):∀(ts:List Nat) (d:Nat),d<wl.length->(∀t∈ts,(t:Int)<many)->(∀w∈dE wl d ts,w.length=n)/\qp wl d (dE wl d ts)/\pq wl d ts<wl.length
 |[],d,hd,_=>⟨(λw h=>nomatch h),trivial,hd⟩
 |t::ts,d,hd,h=>by
  have f:=wa8 (step_at g hd (h t (wad ..)));have hl:=wa8 (dO hd);obtain⟨a,b,c⟩:=vn g ts (fE wl d t).2 (g.e _ hl _ f) λx i=>h x (wac _ i);refine⟨λw hw=>?_,⟨_,f,b⟩,c⟩;rcases waD.mp hw with rfl |hw
  ·exact g.wd _ hl _ f
  ·exact a w hw
theorem FI{ss:List Str}{a p:Str}(he:("":Str)∈ss)(h:∀s∈ss,s.length<=p.length):lend ss (a++p)=lend ss p:=by
 have key:∀r:Str,∃k,k<=r.length/\lend ss r=bW r k/\bW r k∈ss/\∀m,m<k->bW r m∉ss:=by
  intro r
  have i:∃k,k<=r.length/\bW r k∈ss/\∀m,m<k->bW r m∉ss:=by
   have:∀j,j<=r.length->(∃k,k<=j/\bW r k∈ss)->∃k,k<=j/\bW r k∈ss/\∀m,m<k->bW r m∉ss:=by
    intro j
    induction j with
    |zero=>rintro _ ⟨k,hk,f⟩;exact⟨k,hk,f,λm d=>absurd d (by lia)⟩
    |succ j l=>
     rintro v ⟨k,hk,f⟩
     by_cases c:∃k,k<=j/\bW r k∈ss
     ·obtain⟨k,a,b⟩:=l (by lia) c;exact⟨k,by lia,b⟩
     ·exact⟨k,hk,f,λm d z=>c ⟨m,by lia,z⟩⟩
   obtain⟨k,a,b⟩:=this r.length (wab _) ⟨r.length,wab _,by
    have:bW r r.length="":=cm (by rw[hO];exact we2 (wdF (aR r)))
    rw[this];exact he⟩
   exact⟨k,a,b⟩
  obtain⟨k,a,b,c⟩:=i;exact⟨k,a,by unfold lend;rw[tL b c a],b,c⟩
 obtain⟨k,w,n,g,o⟩:=key (a++p);obtain⟨m,m1,q,t,u⟩:=key p;rw[n,q];have hd:∀j,bW (a++p) (a.length+j)=bW p j:=λj=>cm (by rw[hO,hO,aJ,<-aR a,whh];simp)
 have hk:a.length<=k:=by
  have:=h _ g;rw[<-aR,hO,wbm,aR,len_app]at this
  lia
 have e:a.length+m=k:=by
  rcases wde (a.length+m) k with z |z |z
  ·exact absurd (by rw[hd];exact t) (o _ z)
  ·exact z
  ·have:=hd (k-a.length);rw[show a.length+(k-a.length)=k by lia]at this;exact absurd (by rw[<-this];exact g) (u (k-a.length) (by lia))
 rw[<-e,hd]
theorem ju(wl:List (List (Str×Nat)))(b:List Nat):∀(a:List Nat) (d:Nat),dE wl d (a++b)=dE wl d a++dE wl (pq wl d a) b/\pq wl d (a++b)=pq wl (pq wl d a) b
 |[],_=>⟨rfl,rfl⟩
 |_::a,_=>⟨congrArg (_ :: ·) (ju wl b a _).1,(ju wl b a _).2⟩
def xV(ss hk:List Str)(wl:List (List (Str×Nat)))(p w:Str)(as:List Str)(i:Nat):Prop:=∃d e,d<wl.length/\hk.getD d ""=lend ss p/\(wl.getD d [])[i]?=some (w,e)/\qp wl e as
theorem xV.one{bw ss hk:List Str}{wl:List (List (Str×Nat))}{c:Nat}{p w:Str}{as:List Str}{i j:Nat}(R:xU bw ss hk wl c)(hl:as.length=c)(g:xV ss hk wl p w as i)(l:xV ss hk wl p w as j):i=j:=by
 obtain⟨d,e,a1,a2,a3,a⟩:=g;obtain⟨k,m,b1,b,f,h⟩:=l;exact R.one a1 b1 (a2.trans b.symm) a3 f hl a h
noncomputable def gR(b c:Nat)(ts:List Nat):List Nat:=wah b 0++(ts++wah c 0)
theorem FJ(wl:List (List (Str×Nat)))(b c:Nat)(ts:List Nat):nQ wl b c ts=cat (dE wl 0 (gR b c ts)):=by
 unfold nQ gR;rw[(ju wl _ _ 0).1,yR,kc,kc]
theorem qu{many:Int}(m1:1<=many){ts:List Nat}(h:∀t∈ts,(t:Int)<many)(b c:Nat):∀t∈gR b c ts,(t:Int)<many:=λt a=>by
 unfold gR at a;rcases waC.mp a with z |z
 ·rw[(wct.mp z).2];omega
 ·rcases waC.mp z with z |z
  ·exact h t z
  ·rw[(wct.mp z).2];omega
theorem Dc{bw ss hk:List Str}{wl:List (List (Str×Nat))}{many:Int}{n b c:Nat}(R:xU bw ss hk wl c)(j:Fz many n wl)(m1:1<=many)(I:ss.Perm (bo bw "" bw))(hw:∀w∈bw,1<=w.length)(h0:hk.getD 0 ""∈ss)(hs:∀s∈ss,s.length<=n*b){ts:List Nat}(J:∀t∈ts,(t:Int)<many){k:Nat}(p:k<ts.length) :
 ∃bs w as,((dE wl 0 (gR b c ts)).take (k+(b+1+c))).drop k=bs++w::as/\bs.length=b/\as.length=c/\bears bw (cat bs)=false/\xV ss hk wl (cat bs) w as ts[k]:=by
 have g:=qu m1 J b c
 have E:(gR b c ts).drop (k+b)=ts[k]::(ts.drop (k+1)++wah c 0):=by
  unfold gR;rw[whh,wbN (by rw[waM];lia),weu,waM,show k+b-b=k by lia,weB (by lia),wbw p];rfl
 have m:(gR b c ts).length=b+(ts.length+c):=by unfold gR;rw[wa7,wa7,waM,waM]
 generalize gR b c ts=l at g E m;have i:l=l.take k++((l.drop k).take b++l.drop (k+b)):=by rw[<-List.drop_drop,wcu,wcu]
 generalize H:l.take k=d at i;generalize L:(l.drop k).take b=f at i;have M:d.length=k:=by rw[<-H,wak];lia
 have N:f.length=b:=by rw[<-L,wak,wbm];lia
 rw[E]at i;generalize O:ts.drop (k+1)++wah c 0=rest at i;have U:c<=rest.length:=by rw[<-O,wa7,waM];lia
 have o:0<wl.length:=wc3.mpr j.ne;have q:∀t∈d++f,(t:Int)<many:=λt h=>g t (by rw[i,<-waP];exact wb0 _ h);have v:∀t∈rest,(t:Int)<many:=λt h=>g t (by rw[i,<-waP];exact waH _ (wac _ h));obtain⟨a1,a2⟩:=ju wl (ts[k]::rest) (d++f) 0;obtain⟨b1,V⟩:=ju wl f d 0;obtain⟨G,_,u⟩:=vn j (d++f) 0 o q;obtain⟨g1,g2⟩:=xS j I hw R.go o h0 (d++f) q;rw[kc]at g1 g2;generalize X:pq wl 0 (d++f)=D at a1 u g2;have x:=J _ (waE p);have a:=step_at j u x;have y:=wa8 (dO u);have z:=j.e _ y _ (wa8 a);obtain⟨v1,Q,_⟩:=vn j rest (fE wl D ts[k]).2 z v;rw[b1]at g1 g2 a1 G;generalize A:dE wl 0 d=S at *;generalize B:dE wl (pq wl 0 d) f=bs at *;have T:S.length=k:=by rw[<-A,jt,M]
 have r:bs.length=b:=by rw[<-B,jt,N]
 have C:(cat bs).length=n*b:=by rw[pj λw h=>G w (waH _ h),r]
 rw[yR,<-cL]at g1 g2;refine⟨bs,(fE wl D ts[k]).1,(dE wl (fE wl D ts[k]).2 rest).take c,?_,r,by rw[wak,jt];lia,dI (by rw[aJ];exact⟨_,[],by rw[waW]⟩) g1,D,(fE wl D ts[k]).2,u,?_,a,mC c _ _ Q⟩
 ·rw[i,<-waP,a1,show dE wl D (ts[k]::rest)=(fE wl D ts[k]).1::dE wl (fE wl D ts[k]).2 rest from rfl,whx,waP,weB (by lia),wbN (by lia),weu,show k+(b+1+c)-k=bs.length+(c+1) by lia,List.take_length_add_append,List.take_succ_cons]
 ·rw[<-g2];exact(FI (I.mem_iff.mpr (bb bw)) (λs h=>by rw[C];exact hs s h))
structure Wr where
 g:Str
 bw:List Str
 ss:List Str
 ls:List Str
 hk:List Str
 many:Int
 n:Nat
 b:Nat
 c:Nat
 wl:List (List (Str×Nat))
noncomputable def Wr.o(R:Wr):Str×Nat:=bD R.wl 0 (wah R.b 0)
structure KQ(R:Wr):Prop where
 w:Fz R.many R.n R.wl
 m1:1<=R.many
 m8:R.many<=8
 n1:1<=R.n
 KN:R.n<=10
 b1:R.b<=1000
 c1:R.c<=1000
 hl:R.hk.length=R.wl.length
 l1:R.wl.length<=40
 bh:ve R.bw R.n R.b
 hw:∀w∈R.bw,1<=w.length/\w.length<=900
 bl:R.bw.length<=1000
 gl:R.g.length<=10
 rd:xU R.bw R.ss R.hk R.wl R.c
 gd:∀(d:Nat),∀q∈R.wl.getD d [],∀c∈ch q.1,c∈ch R.g
 h0:R.hk.getD 0 ""∈R.ss
 sh:∀s∈R.ss,s.length<=R.n*R.b
 pm:R.ss.Perm (bo R.bw "" R.bw)
structure Dd(K:wa2)(C CB CP:Addr)(H:Hp)(x:Addr)(R:Wr):Prop where
 ex:∃dx p xb a l dp wa wb wc wz ys,H x=some (.ins C dx (pf p xb R.many (R.n:Int) a l R.o.1 (R.o.2:Int)))/\H p=some (.ins CP dp (uC wa wb wc wz))/\aE K H wb ys/\ys.length=R.c/\bA K H (jO R.wl) (.ref l)/\aE K H a (R.hk.map V.str)/\aS CB H xb R.g R.bw R.ss R.ls
 ok:KQ R
theorem Dd.same(h:Dd K C CB g H x R)(s:a7 H j):Dd K C CB g j x R:=by
 obtain⟨⟨b,p,c,a,l,dp,d,e,f,i,k,m,n,o,q,r,t,u⟩,v⟩:=h;exact⟨⟨b,p,c,a,l,dp,d,e,f,i,k,s _ _ m,s _ _ n,s.seq o,q,bA.same s _ _ r,s.seq t,u.same s⟩,v⟩
theorem FK{ss:List Str}(h:ve bw n b)(hn:1<=n)(g:ss.Perm (bo bw "" bw)):∀s∈ss,s.length<=n*b:=by
 intro s a;obtain⟨_,M,⟨u,_⟩,e⟩:=h;rcases(j0 _).mp (g.mem_iff.mp a) with rfl |⟨w,hw,i,hi,rfl,_⟩
 ·exact waJ _
 ·have d:=u w hw;have f:(bG w (1+i)).length=min (1+i) w.length:=by rw[<-aR,iO,wak,aR]
  have j:M-1<=(n:Int)*(b:Int):=by
   rw[if_neg (by omega)]at e;have c:=wgd (M-1+(n:Int)-1) (n:Int);have k:=wbi (M-1+(n:Int)-1) (show 0<(n:Int) by omega);rw[<-e]at c;omega
  have l:((n*b:Nat):Int)=(n:Int)*(b:Int):=wdB ..;omega
theorem bU.same(h:bU H j g)(s:a7 H l):bU l j g:=⟨h.1,λi r c a b=>s _ _ (h.2 i r c a b)⟩
end Bs
namespace L2
open PySem PySem.Spec PyProof.Rows
section
variable{X:Cx}{tg:Expr}
end
end L2
namespace L2
open PySem Bs
end L2
namespace L2
open PySem
end L2
namespace Bs
open PySem L2 Sx
end Bs
namespace K72
open PySem L2 Bs Sx
section
variable{P:wap}{w:World}{K:wa2}{mg:Str->Option Value}{base:Heap}
inductive IM(vs:List V)(H:Hp)(Q:VK)(dQ:XK):Prop
 |mk (a ts many) (_:vs=[.ref a,.int many]) (_:H a=some (.lst ((nI ts).map V.int))) (_:(∀t∈ts,(t:Int)<many)) (_:∀H',a7 H H'->Q .non H')
theorem wh(L:Lk K mg):aO P w K mg base cP 2 L.oK L.oZ ["data","many"] IM:=by
 have T:=L.T;refine L.k6.F.dq (N:=["data","many","number","thing"]) (λg A outer s H t Q E nd u h=>?_);obtain⟨a,j,many,rfl,ha,c,k⟩:=h
 refine⟨_,(a5 (bj (cS (bZ (aP cf (by rfl) T.Jd vM (a8 (pv 0) (aG (gf (v:=.ty "list") (by rfl) T.list iN rfl)))))) cJ aH)
  (a9 (forA (mn (by rfl) T.enum (aG (pv 0))) (dU rfl (aL (ax (i:=2)) (aL (ax (i:=3)) cG))) (a9 (bj (PW.pt (ee (cS (bZ (ai (iY L) L.fV (aG (pv 3))))) (ee (cq gW (pv 3) aj) (fI (cq Dt (pv 3) (pv 1)))))) cJ aH))))),?_⟩
 try dsimp only[dj,di,b0,b6]
 refine⟨_,rfl,_,_,_,true,rfl,ic.lst ha,rfl,true,rfl,bx ?_⟩;refine⟨_,rfl,a,_,rfl,aE.of ha,o4 (K:=K) (a:=a) (xs:=(nI j).map V.int) (λi σ b=>a7 H b/\∃d e,σ=[some (.ref a),some (.int many),d,e]) ⟨a7.refl _,none,none,rfl⟩ (λi σ b _ p=>p.1.seq (aE.of ha)) ?_ (λσ b p=>k b p.1)⟩;rintro i x σ b T l ⟨m,d,e,rfl⟩ q;obtain⟨n,hn,rfl⟩:=uB (wa8 l);have r:=c n hn;refine⟨T,_,rfl,hZ.of a6,rfl,_,_,rfl,_,_,rfl,rfl,?_⟩;have f:=m.trans (a7.upd (o:=.tup [.int (i:Nat),.int (n:Int)]) q);generalize upd b T (.tup [.int (i:Nat),.int (n:Int)])=y at f;refine⟨_,rfl,(n:Int),rfl,true,rfl,bx ?_⟩;refine⟨_,rfl,_,_,rfl,rfl,false,congrArg V.bl (decide_eq_false (by lia)),bx ?_⟩;refine⟨_,rfl,_,rfl,_,_,rfl,rfl,false,congrArg V.bl (decide_eq_false (by lia)),bx ?_⟩;exact⟨f,_,_,rfl⟩
inductive Nz(K:wa2)(C CB CP:Addr)(u:Wr->V)(vs:List V)(H:Hp)(Q:VK)(dQ:XK):Prop
 |mk (x R) (_:vs=[.ref x]) (_:Dd K C CB CP H x R) (_:Q (u R) H)
theorem si(L:Lk K mg):aO P w K mg base cP 1 L.lK L.lV ["self"] (Nz K L.ao L.az L.aV (λR=>.int (R.c:Int))):=by
 have T:=L.T;refine L.iG.F.dq (N:=["self"]) (λd A outer s H r Q E nd t h=>?_);obtain⟨x,R,rfl,⟨⟨e,p,u,a,l,dp,f,b,g,i,j,m,n,o,q,_⟩,_⟩,k⟩:=h;refine⟨_,(a9 (ay (Ig T.len (aM (aM (pv 0) rfl) rfl)))),?_⟩
 try dsimp only[dj,di,b0,b6]
 refine⟨_,rfl,x,L.ao,e,_,_,rfl,m,L.aA.cl,L.aA.oy,yM ..,p,L.aV,dp,_,_,rfl,n,L.cH.cl,L.cH.Ah,yC f b g i,b,j,rfl,.inl o,?_⟩;rw[q];exact k
inductive NA(K:wa2)(C CB CP:Addr)(vs:List V)(H:Hp)(Q:VK)(dQ:XK):Prop
 |mk (x a R ts) (_:vs=[.ref x,.ref a]) (_:Dd K C CB CP H x R) (_:H a=some (.lst ((nI ts).map V.int))) (_:(∀t∈ts,(t:Int)<R.many)) (_:ts.length<=10000) (_:∀H',a7 H H'->Q (.str (nQ R.wl R.b R.c ts)) H')
theorem kG(L:Lk K mg):aO P w K mg base cP 3 L.lL L.lW ["self","data"] (NA K L.ao L.az L.aV):=by
 refine L.fv.F.dq (N:=["self","data","found"]) (λgX A outer s H vs Q E nd hr h=>?_);obtain⟨x,a,R,ts,rfl,S,ha,e,RV,k⟩:=h
 refine⟨_,(a5 (bu (ai (wh L) L.k6 (a8 (pv 1) (aG (aM (pv 0) rfl)))))
  (a5 (ag (i:=2) (ai (xR L) L.p6 (a8 (aM (pv 0) rfl) (a8 (aM (pv 0) rfl) (aG (aN Gq (pv 1) (aN Gr (ck (aG aj)) (Af (pv 0) L.aA.cl L.iG (si L)))))))))
  (a9 (ay (aN n9 (aM (pv 0) rfl) (aX gF (pv 2) aj (λ_ _=>rfl))))))),?_⟩
 try dsimp only[dj,di,b0,b6]
 obtain⟨⟨f,p,xb,aa,ll,dp,wa,wb,wc,wz,ys,r,_,_,_,rl,_⟩,ok⟩:=id S;have m1:=ok.m1;have hb:=ok.b1;have yH:=ok.c1;have u:=sQ ok.w (wc3.mpr ok.w.ne) (ts:=wah R.b 0) λt B=>by rw[(wct.mp B).2];lia
 rw[waM]at u;refine⟨_,rfl,_,rfl,x,L.ao,f,_,_,rfl,r,L.aA.cl,L.aA.Il,D8 ..,a,ts,R.many,rfl,ha,e,λC T=>?_⟩;have U:=T _ _ r;refine⟨_,rfl,x,L.ao,f,_,_,rfl,U,L.aA.cl,L.aA.cC,Ay ..,_,rfl,x,L.ao,f,_,_,rfl,U,L.aA.cl,L.aA.DZ,Az ..,_,rfl,by show 1<=sizeLine;decide,λv D=>?_⟩;have X:=a7.upd (H:=C) (o:=.lst [V.int 0]) D;have G:(upd C v (.lst [V.int 0])) v=some (.lst [V.int 0]):=a6;generalize upd C v (.lst [V.int 0])=I at X G;have d:=T.trans X;refine⟨_,rfl,x,f,_,rfl,d _ _ r,vh _ _ _ _ _ _ _ _ (by decide+kernel),x,R,rfl,S.same d,?_⟩;refine⟨v,(R.c:Int),[V.int 0],rfl,rfl,G,by lia,by lia,aq (by show 1*((R.c:Int)).toNat<=_;lia),λy J=>?_⟩;rw[waA,vi];have Y:=a7.upd (H:=I) (o:=.lst ((nI (wah R.c 0)).map V.int)) J;have Z:(upd I y (.lst ((nI (wah R.c 0)).map V.int))) y=some (.lst ((nI (wah R.c 0)).map V.int)):=a6;generalize upd I y (.lst ((nI (wah R.c 0)).map V.int))=M at Y Z;have g:=d.trans Y;refine⟨a,y,_,_,rfl,rfl,g _ _ ha,Z,aq ?_,λz O=>?_⟩
 ·rw[wa0,wa0,cy,cy,waM]
  lia
 rw[<-wal,<-qc];have s4:=a7.upd (H:=M) (o:=.lst ((nI (ts++wah R.c 0)).map V.int)) O;have h4:(upd M z (.lst ((nI (ts++wah R.c 0)).map V.int))) z=some (.lst ((nI (ts++wah R.c 0)).map V.int)):=a6;generalize upd M z (.lst ((nI (ts++wah R.c 0)).map V.int))=H4 at s4 h4;have j:=g.trans s4;have l:∀t:Nat,t∈ts++wah R.c 0->(t:Int)<R.many:=λt B=>qu m1 e R.b R.c t (waH _ B);have w1:=sQ ok.w u.1 l;rw[wa7,waM]at w1;refine⟨.ref ll,_,z,R.many,R.n,R.wl,ts++wah R.c 0,rfl,bA.same j _ _ rl,aE.of h4,ok.w,u.1,l,by rw[wa7,waM];lia,ok.KN,λq H5 s5 hq=>?_⟩;have m:=j.trans s5;refine⟨_,rfl,x,L.ao,f,_,_,rfl,m _ _ r,L.aA.cl,L.aA.xD,wg ..,_,rfl,q,_,_,_,rfl,rfl,hZ.of hq,rfl,_,_,rfl,rfl,aq ?_,k H5 m⟩;show R.o.1.length+_<=_;unfold Wr.o;rw[u.2,w1.2];have h1:R.n*R.b<=10*1000:=wdj ok.KN hb;have G:R.n*(ts.length+R.c)<=10*11000:=wdj ok.KN (by lia)
 lia
theorem pw(L:Lk K mg):aO P w K mg base cP 1 L.ji L.jm ["self","row"] (C7 L.az):=by
 have T:=L.T;refine L.fY.F.dq (N:=["self","row","number","sign"]) (λm A outer s H z Q E nd C h=>?_);obtain⟨x,r,g,D,ss,ls,rfl,B,n,k⟩:=h;obtain⟨⟨t,b,d,q,G,u,I,J,M,O,R⟩,_,_,_⟩:=id B;refine⟨_,(a9 (forA (tP (by rfl) T.enum (aG (pv 1))) (dU rfl (aL (ax (i:=2)) (aL (ax (i:=3)) cG))) (a9 (bj (eW y8 (pv 3) (aM (pv 0) rfl) rfl) cJ aH)))),?_⟩
 try dsimp only[dj,di,b0,b6]
 refine⟨_,rfl,r,rfl,pR (λi σ a=>a7 H a/\∃f j,σ=[some (.ref x),some (.str r),f,j]) ⟨a7.refl _,none,none,rfl⟩ ?_ (λσ a p=>k a p.1)⟩;rintro i c σ a T hc ⟨v,f,j,rfl⟩ y;have l:=v.trans (a7.upd (o:=.tup [.int (i:Nat),.str ⟨#[c]⟩]) y);refine⟨T,_,rfl,hZ.of a6,rfl,_,_,rfl,_,_,rfl,rfl,?_⟩;refine⟨_,rfl,_,rfl,x,L.az,t,_,_,rfl,l _ _ u,L.aB.cl,L.aB.iS,eI g b d q,_,_,rfl,rfl,_,rfl,?_⟩
 have e:(!(wcQ g ⟨#[c]⟩ 0 g.length 1).isEmpty)=true:=by
  have:=DC g c;rw[decide_eq_true (n c (wa8 hc))]at this;exact this
 rw[e];exact bx ⟨l,_,_,rfl⟩
theorem qw(L:Lk K mg):aO P w K mg base cP 2 L.kj L.kr ["self","row"] (EJ L.az):=by
 have T:=L.T;refine L.gO.F.dq (N:=["self","row","place","number","sign"]) (λG A outer s H V Q E nd I h=>?_);obtain⟨x,r,g,n,ss,ls,rfl,B,p,t,hw,k⟩:=h;obtain⟨⟨u,b,d,q,mv,v,X,J,M,O,Y⟩,pm,_,_⟩:=id B;have y:("":Str)∈ss:=pm.mem_iff.mpr (bb n);have z:=ez I
 refine⟨_,(a5 (bu (FW (pv 0) L.aB.cl L.fY (pw L) (aG (pv 1))))
  (a5 (ag (i:=2) cI)
  (a5 (forA (tP (by rfl) T.enum (aG (pv 1))) (dU rfl (aL (ax (i:=3)) (aL (ax (i:=4)) cG))) (a5 (ag (i:=2) (cp z (cp z (aM (pv 0) rfl) (pv 2) (λ_ _=>rfl)) (pv 4) (λ_ _=>rfl)))
  (a9 (bj (cq Bm (pv 2) du) cJ aH))))
  (a9 (ay (pv 2)))))),?_⟩
 try dsimp only[dj,di,b0,b6]
 refine⟨_,rfl,x,u,_,rfl,v,BP _ _ _ _ (by decide+kernel) (by decide+kernel) (by decide+kernel) (by decide+kernel),_,rfl,x,r,g,n,ss,ls,rfl,B,p,λZ R=>?_⟩;refine⟨_,rfl,r,rfl,pR (λi σ e=>a7 H e/\∃j v4,σ=[some (.ref x),some (.str r),some (.str (lend ss (bG r i))),j,v4]) ⟨R,none,none,?_⟩ ?_ ?_⟩
 ·rw[take_zero,kY y];rfl
 ·rintro i c σ e T hc ⟨l,j,v4,rfl⟩ S;have f:=l.trans (a7.upd (o:=.tup [.int (i:Nat),.str ⟨#[c]⟩]) S);have m:=p c (wa8 hc);obtain⟨a,ha,U⟩:=i3 (mv:=mv) (k:=lend ss (bG r i)) (by rw[M];exact iq y _);have C:=dG.k (k:=(wav (lend ss (bG r i)):Key)) (f _ _ J);rw[U]at C;have D:=dG.k (k:=(wav (⟨#[c]⟩:Str):Key)) (f _ _ (O _ ha));rw[DG m,yo pm hw (dI (o9 r i) t),<-take_snoc hc,dI (o9 r (i+1)) t,if_neg (by simp)]at D;refine⟨T,_,rfl,hZ.of a6,rfl,_,_,rfl,_,_,rfl,rfl,?_⟩;refine⟨_,rfl,x,L.az,u,_,_,rfl,f _ _ v,L.aB.cl,L.aB.jR,jF g b d q,_,rfl,d,_,rfl,C,_,rfl,a,_,rfl,D,?_⟩;exact⟨_,rfl,rfl,_,rfl,bx ⟨f,_,_,rfl⟩⟩
 ·rintro σ e ⟨l,j,v4,rfl⟩;have:=k e l;rw[<-take_all r]at this;exact⟨_,rfl,by rw[take_all]at this ⊢;exact this⟩
theorem kH(L:Lk K mg):aO P w K mg base cP 3 L.lC L.lN ["band","place","sign","counts"] (F6 L.az):=by
 refine L.fj.F.dq (N:=["band","place","sign","counts","end"]) (λl A outer s H z Q E nd m h=>?_);obtain⟨x,o,p,c,n,g,a,ss,ls,rfl,B,r,hc,hd,k⟩:=h;have t:=ez m
 refine⟨_,(a5 (ag (i:=4) (FW (pv 0) L.aB.cl L.eK (gC L) (a8 (pv 1) (aG (pv 2)))))
  (a9 (ay (sU (cq Bm (pv 4) du) aj (cp t (pv 3) (pv 4) (λ_ _=>rfl)))))),?_⟩
 try dsimp only[dj,di,b0,b6]
 have u:("":Str)∈ss:=B.pm.mem_iff.mpr (bb a);obtain⟨⟨v,b,d,q,C,y,D,G,I,J,M⟩,_,_,_⟩:=id B;refine⟨_,rfl,x,v,_,rfl,y,BP _ _ _ _ (by decide+kernel) (by decide+kernel) (by decide+kernel) (by decide+kernel),_,rfl,_,rfl,x,p,c,g,a,ss,ls,rfl,B,r,hc,?_⟩;unfold O6 at k
 cases f:bears a (p++⟨#[c]⟩) with
 |true=>
  have e:pG a ss p c=.non:=by unfold pG;rw[f];rfl
  rw[e];rw[f]at k;exact⟨_,rfl,rfl,true,rfl,eE k⟩
 |false=>
  have e:pG a ss p c=.str (lend ss (p++⟨#[c]⟩)):=by unfold pG;rw[f];rfl
  rw[e];rw[f]at k;have j:=dG.k (k:=(wav (lend ss (p++⟨#[c]⟩)):Key)) hd;rw[kZ _ (iq u _)]at j;exact⟨_,rfl,rfl,false,rfl,bx ⟨_,rfl,_,rfl,o,_,rfl,j,k⟩⟩
theorem xW(L:Lk K mg):aO P w K mg base cP 6 L.Ai L.Am ["band","length","number"] (Kc L.az):=by
 have T:=L.T;refine L.p0.F.dq (N:=["band","length","number","table","row","place","rest","taken","counts","sign","rows"]) (λgX A outer s H vs Q E nd hr h=>?_);obtain⟨x,n,D,r,g,a,ss,ls,rfl,B,G,Z,yH,hn,I,k⟩:=h;have hu:=ez hr
 refine⟨_,(a5 (ag (i:=3) (ai (eD L) L.cN (a8 (pv 0) (aG (pv 1)))))
  (a5 (bj (PW.pt (ee (cS (bZ (ai (iY L) L.fV (aG (pv 2))))) (ee (cq gW (pv 2) aj) (fI (cq Dt (pv 2) (cp hu (aX aW (pv 3) (pv 1) (λ_ _=>rfl)) cI (λ_ _=>rfl))))))) cJ aH)
  (a5 (ag (i:=4) cI)
  (a5 (ag (i:=5) cI)
  (a5 (ag (i:=6) (pv 2))
  (a5 (forA (d8 rfl T.range (aG (pv 1))) (ax (i:=7)) (a5 (ag (i:=8) (aX aW (pv 3) (aN jA (aN jA (pv 1) (pv 7)) aj) (λ_ _=>rfl)))
  (a9 (forA (ng (aM (pv 0) rfl)) (ax (i:=9)) (a5 (ag (i:=10) (ai (kH L) L.fj (a8 (pv 0) (a8 (pv 5) (a8 (pv 9) (aG (pv 8)))))))
  (a5 (bj (cq gW (pv 6) (pv 10)) (a5 (kK (i:=4) nd rfl (wd3 rfl) (pv 9) DQ)
  (a5 (ag (i:=5) (FW (pv 0) L.aB.cl L.eK (gC L) (a8 (pv 5) (aG (pv 9)))))
  (a9 G5))) aH)
  (a9 (kK (i:=6) nd rfl (wd3 rfl) (pv 10) Mf))))))))
  (a9 (ay (pv 4))))))))),?_⟩
 try dsimp only[dj,di,b0,b6]
 have S:("":Str)∈ss:=B.pm.mem_iff.mpr (bb a);have pm:=B.pm
 have hk:(D:Int)<dY g a ss n "":=by
  have h1:=(wa5.mp I).1;have h2:=sI (g:=g) pm G n "" (mx G);rw[kY S]at h2;omega
 refine⟨_,rfl,_,rfl,x,(n:Int),g,a,ss,ls,rfl,B,Z,yH,by omega,by omega,λl ts H1 s1 f1 hl RV ht=>?_⟩;rw[waA]at RV;have B1:=B.same s1
 have row:∀i:Nat,i<=n->∃t,rT (ts.map V.ref) (i:Int)=some (.ref t)/\H1 t=some (.dK (ER g a ss i)):=λi hi=>by
  have o:i<ts.length:=by omega
  refine⟨ts[i],bB (by rw[wa4,wa1 o];rfl),ht i _ (wa1 o)⟩
 obtain⟨tn,etn,htn⟩:=row n (wab _);have e3:=dG.k (k:=(wav "":Key)) htn;rw[kZ _ S]at e3;refine⟨_,rfl,(D:Int),rfl,true,rfl,bx ?_⟩;refine⟨_,rfl,_,_,rfl,rfl,false,congrArg V.bl (decide_eq_false (by omega)),bx ?_⟩;refine⟨_,rfl,_,rfl,_,rfl,l,_,_,_,rfl,rfl,aE.of hl,etn,tn,_,rfl,e3,_,_,rfl,rfl,false,congrArg V.bl (decide_eq_false (by omega)),bx ?_⟩;refine⟨_,rfl,?_⟩;refine⟨_,rfl,(n:Int),rfl,by omega,by omega,?_⟩;rw[waA]
 refine da (lo:=0) (n:=n) (λi σ U=>U=H1/\∃(pre:Str) (q:Nat) (v7 v8 u v10:Option V),σ=[some (.ref x),some (.int (n:Int)),some (.int (D:Int)),some (.ref l),some (.str pre),some (.str (lend ss pre)),some (.int (q:Int)),v7,v8,u,v10]/\bears a pre=false/\pre.length=i/\∃v,r=pre++v/\(iH g a pre (n-i))[q]?=some v)
  ⟨rfl,"",D,none,none,none,none,by rw[kY S];rfl,mx G,rfl,r,(iQ r).symm,I⟩ ?_ ?_
 ·rintro i σ U hi ⟨rfl,pre,q,v7,v8,u,v10,rfl,X,J,v,Y,e⟩;obtain⟨m,em⟩:∃m,n-i=m+1:=⟨n-i-1,by omega⟩;obtain⟨tm,M,UK⟩:=row m (by omega);have UL:(n:Int)-(0+(i:Int))-1=(m:Int):=by omega
  rw[<-UL]at M;have hp:lend ss pre∈ss:=iq S _;refine⟨_,rfl,_,rfl,_,rfl,_,_,rfl,rfl,_,_,rfl,rfl,l,_,_,_,rfl,rfl,aE.of hl,M,?_⟩;obtain⟨⟨dx,b,d,qq,mv,h1,h2,h3,h4,h5,h6⟩,_,_,_⟩:=id B1;rw[em,u3]at e;refine⟨_,rfl,x,L.az,dx,_,_,rfl,h1,L.aB.cl,L.aB.iS,eI g b d qq,g,rfl,kR (ie g) (λj σ H3=>H3=U/\∃(q:Nat) (u v10:Option V),σ=[some (.ref x),some (.int (n:Int)),some (.int (D:Int)),some (.ref l),some (.str pre),some (.str (lend ss pre)),some (.int (q:Int)),some (.int (0+(i:Int))),some (.ref tm),u,v10]/\(O5 g a pre m ((ch g).drop j))[q]?=some v) ⟨rfl,q,_,_,rfl,by rw[wdW];exact e⟩ (λ_ _ _ _ _=>trivial) ?_ ?_⟩
  ·rintro j y σ H3 hy ⟨rfl,q,u,v10,rfl,C⟩;obtain⟨c,Wt,rfl,hj,O,_⟩:=wY hy
   have RG:(ch g).drop j=c::(ch g).drop (j+1):=by
    obtain⟨Nn,e'⟩:=wa5.mp Wt;rw[wbw Nn,e']
   rw[RG]at C;refine⟨_,rfl,_,rfl,_,rfl,_,rfl,x,tm,lend ss pre,c,m,g,a,ss,ls,rfl,B1,hp,O,UK,?_⟩;rw[Kb pm G X];refine⟨_,rfl,_,rfl,_,_,rfl,rfl,_,rfl,By (λo=>?_) (λMF=>?_)⟩
   ·have f:q<(iH g a (pre++⟨#[c]⟩) m).length:=by have:=of_decide_eq_true o;omega
    obtain⟨r2,e2,h2'⟩:=MX C f
    have R:bears a (pre++⟨#[c]⟩)=false:=by
     cases z:bears a (pre++⟨#[c]⟩) with
     |true=>rw[yp z]at f;exact absurd f (by simp)
     |false=>rfl
    have el:(⟨#[c]⟩:Str).length=1:=rfl;refine⟨_,rfl,_,rfl,_,_,rfl,rfl,aq (by omega),?_⟩;refine⟨_,rfl,x,dx,_,rfl,h1,BP _ _ _ _ (by decide+kernel) (by decide+kernel) (by decide+kernel) (by decide+kernel),_,rfl,_,rfl,x,lend ss pre,c,g,a,ss,ls,rfl,B1,hp,O,?_⟩;rw[yo pm G X,R,if_neg (by decide)];refine⟨rfl,pre++(⟨#[c]⟩:Str),q,_,_,_,_,rfl,R,by rw[len_app,J];rfl,r2,by rw[Y,e2,cL],?_⟩;rw[show n-(i+1)=m by omega];exact h2'
   ·have p:(iH g a (pre++⟨#[c]⟩) m).length<=q:=by have:=of_decide_eq_false (wh2.mpr MF);omega
    have:=Ka C p;refine⟨_,rfl,_,rfl,_,_,rfl,rfl,rfl,q-(iH g a (pre++⟨#[c]⟩) m).length,some (.str ⟨#[c]⟩),some (.int ((iH g a (pre++⟨#[c]⟩) m).length:Int)),?_,this⟩;rw[Int.ofNat_sub p];rfl
  ·rintro σ H3 ⟨rfl,q,u,v10,rfl,C⟩;exfalso;have:(cu g).length=(ch g).length:=by unfold cu;rw[wa0]
   rw[this,List.drop_length]at C;cases C
 ·rintro σ U ⟨rfl,pre,q,v7,v8,u,v10,rfl,X,J,v,Y,e⟩;rw[wbn,u0 X]at e
  have e0:v="":=by
   have:=wa8 e;exact wan.mp this
  rw[e0,iP]at Y;refine⟨_,rfl,?_⟩;rw[<-Y];exact k _ s1
theorem pz(L:Lk K mg):aO P w K mg base cP 6 L.rj L.rE ["band","row"] (Cm L.az):=by
 have T:=L.T;refine L.iW.F.dq (N:=["band","row","table","number","place","taken","sign","counts","ahead"]) (λgX A outer s H vs Q E nd hr h=>?_);obtain⟨x,kk,r,g,a,ss,ls,rfl,B,w1,ndg,Be,yH,CZ,q,k⟩:=h
 refine⟨_,(a5 (bu (FW (pv 0) L.aB.cl L.gO (qw L) (aG (pv 1))))
  (a5 (ag (i:=2) (ai (eD L) L.cN (a8 (pv 0) (aG (Ae T.len (pv 1))))))
  (a5 (ag (i:=3) aj)
  (a5 (ag (i:=4) cI)
  (a5 (forA (tP (by rfl) T.enum (aG (pv 1))) (dU rfl (aL (ax (i:=5)) (aL (ax (i:=6)) cG))) (a5 (ag (i:=7) (aX aW (pv 2) (aN jA (aN jA (Ae T.len (pv 1)) (pv 5)) aj) (λ_ _=>rfl)))
  (a5 (ag (i:=8) (d7 yf (aM (pv 0) rfl) hF (bL (iL wdd wew wg1 zZ (aM (pv 0) rfl) (aG (pv 6))))))
  (a5 (kK (i:=3) nd rfl (wd3 rfl) (aP (je rfl) (by rfl) T.sum BX (aG (bS rfl (au ["band","place","counts"] [0,4,7]) (ng (pv 8)) (λ_ _ _ _ _ _=>aY) (λ_ _ _ _ _ _=>(ai (kH L) L.fj (a8 (pv 1) (a8 (pv 2) (a8 (pv 0) (aG (pv 3)))))))))) Bj)
  (a9 (ag (i:=4) (FW (pv 0) L.aB.cl L.eK (gC L) (a8 (pv 4) (aG (pv 6))))))))))
  (a9 (ay (pv 3)))))))),?_⟩
 try dsimp only[dj,di,b0,b6]
 have he:("":Str)∈ss:=B.pm.mem_iff.mpr (bb a);have pm:=B.pm;obtain⟨f,_,u⟩:=yq (wa8 q);rw[iQ]at f;obtain⟨⟨dx,b,d,qq,mv,h1,h2,h3,h4,h5,h6⟩,_,_,_⟩:=id B;refine⟨_,rfl,x,dx,_,rfl,h1,BP _ _ _ _ (by decide+kernel) (by decide+kernel) (by decide+kernel) (by decide+kernel),_,rfl,x,r,g,a,ss,ls,rfl,B,u,f,w1,λH1 s1=>?_⟩;refine⟨_,rfl,_,rfl,r,rfl,aq (by omega),x,(r.length:Int),g,a,ss,ls,rfl,B.same s1,Be,yH,by omega,by omega,λl ts H2 s2 f2 hl RV ht=>?_⟩;rw[waA]at RV
 have row:∀i:Nat,i<=r.length->∃t,rT (ts.map V.ref) (i:Int)=some (.ref t)/\H2 t=some (.dK (ER g a ss i)):=λi hi=>by
  have v:i<ts.length:=by omega
  refine⟨ts[i],bB (by rw[wa4,wa1 v];rfl),ht i _ (wa1 v)⟩
 have y:=s1.trans s2;refine⟨_,rfl,r,rfl,pR (λi σ C=>a7 H2 C/\∃(N:Nat) (v5 v6 v7 v8:Option V),σ=[some (.ref x),some (.str r),some (.ref l),some (.int (N:Int)),some (.str (lend ss (bG r i))),v5,v6,v7,v8]/\∀k',(iH g a (bG r i) (r.length-i))[k']?=some (bW r i)->(iH g a "" r.length)[N+k']?=some r) ⟨a7.refl _,0,none,none,none,none,by rw[take_zero,kY he];rfl,λk' e=>?_⟩ ?_ ?_⟩
 ·rw[take_zero,Nat.sub_zero]at e;have e0:bW r 0=r:=cm (by rw[hO,wdW]);rw[e0]at e;rw[wev];exact e
 ·rintro i c σ C T hc ⟨s3,N,v5,v6,v7,v8,rfl,hN⟩ hT;have D:=s3.trans (a7.upd (o:=.tup [.int (i:Nat),.str ⟨#[c]⟩]) hT);have VP:i<r.length:=by have:=(wa5.mp hc).1;rw[aR]at this;exact this
  have G:=u c (wa8 hc);have I:bears a (bG r i)=false:=dI (o9 r i) f;have J:bears a (bG r (i+1))=false:=dI (o9 r (i+1)) f;obtain⟨m,em⟩:∃m,r.length-i=m+1:=⟨r.length-i-1,by omega⟩;obtain⟨tm,M,UK⟩:=row m (by omega);have UL:(r.length:Int)-(i:Int)-1=(m:Int):=by omega
  rw[<-UL]at M;have hp:lend ss (bG r i)∈ss:=iq he _;obtain⟨j,O,Tz,hj3⟩:=A0 G;have hjl:j<g.length:=by have:=(wa5.mp O).1;rw[aR]at this;exact this
  refine⟨T,_,rfl,hZ.of a6,rfl,_,_,rfl,_,_,rfl,rfl,?_⟩;generalize upd C T (.tup [.int (i:Nat),.str ⟨#[c]⟩])=H4 at D;have B4:=(B.same y).same D;obtain⟨⟨R,b4,d4,q4,mv4,x4,_⟩,_⟩:=id B4;refine⟨_,rfl,_,rfl,r,rfl,aq (by omega),_,rfl,_,_,rfl,rfl,_,_,rfl,rfl,l,_,_,_,rfl,rfl,aE.of (D _ _ hl),M,?_⟩;refine⟨_,rfl,x,L.az,R,_,_,rfl,x4,L.aB.cl,L.aB.iS,eI g b4 d4 q4,_,rfl,x,L.az,R,_,_,rfl,x4,L.aB.cl,L.aB.iS,eI g b4 d4 q4,rfl,_,rfl,g,c,j,rfl,rfl,O,Tz,_,rfl,g,rfl,aq (by omega),?_⟩;have p:ch (wby g none (some (j:Int)))=(ch g).take j:=zE g j;have eal:(wby g none (some (j:Int))).length<=10:=by have:=wdK g none (some (j:Int));omega
  generalize wby g none (some (j:Int))=U at p eal;have X:=D _ _ UK;refine⟨_,rfl,_,rfl,U,rfl,λlc FX=>?_⟩;refine comp_map (Q3 g a ss m (lend ss (bG r i))) (ie U) FX (by rw[nq];exact aq (by omega)) (λ_ _=>trivial) (λz H5 Q' hz Y qq=>?_) (λH5 Y h5=>?_)
  ·obtain⟨c',hc',rfl⟩:=waa.mp hz
   have Z:c'∈ch g:=by
    have h':c'∈ch U:=hc';rw[p]at h';exact wcH h'
   exact⟨_,rfl,_,rfl,_,rfl,_,rfl,x,tm,lend ss (bG r i),c',m,g,a,ss,ls,rfl,B4.same Y,hp,Z,Y _ _ X,qq H5 (a7.refl _)⟩
  have e5:(cu U).map (Q3 g a ss m (lend ss (bG r i)))=(((ch g).take j).map (O6 g a ss m (lend ss (bG r i)))).map V.int:=by
   rw[<-p];unfold cu;rw[waf,waf];rfl
  rw[e5]at h5;have n:=DR (g:=g) pm w1 I m ((ch g).take j);refine⟨lc,_,rfl,aE.of h5,_,_,rfl,rfl,?_⟩;have B5:=B4.same Y;obtain⟨⟨dx5,b5,d5,q5,mv5,x5,_⟩,_⟩:=id B5;refine⟨_,rfl,x,dx5,_,rfl,x5,BP _ _ _ _ (by decide+kernel) (by decide+kernel) (by decide+kernel) (by decide+kernel),_,rfl,_,rfl,x,lend ss (bG r i),c,g,a,ss,ls,rfl,B5,hp,G,?_⟩;rw[yo pm w1 I,<-take_snoc hc,J,if_neg (by decide)];generalize hS:(((ch g).take j).map λd=>(iH g a (bG r i++⟨#[d]⟩) m).length).sum=S at n;refine⟨D.trans Y,N+S,some (.int (i:Int)),some (.str ⟨#[c]⟩),some (.ref tm),some (.str U),?_,λk' e=>?_⟩
  ·show List.set _ _ _=_;rw[n,wci];rfl
  ·rw[show r.length-(i+1)=m by omega,take_snoc hc]at e;have h9:=MY hj3 e;rw[hS,drop_cons hc,<-em]at h9;have:=hN _ h9;rw[Nat.add_assoc];exact this
 ·rintro σ C ⟨s3,N,v5,v6,v7,v8,rfl,hN⟩
  have X1:=hN 0 (by
   rw[wbn,take_all,u0 f];have:bW r r.length="":=mw r;rw[this]
   rfl)
  have:N=kk:=u5 (pZ ndg "" r.length) (by rw[Nat.add_zero]at X1;exact X1) q;subst this;exact⟨_,rfl,k C (y.trans s3)⟩
end
end K72
namespace Bs
open PySem L2 AC Sx
end Bs
namespace Sx
open PySem L2 Bs
end Sx
namespace Bs
open PySem L2 AC Sx
end Bs
namespace PySem.SeqAt
open AutoSeq1 (wpAny_loadPart')
open MeetsSeq MeetsSeq2 MeetsSeq3 SeqRoads2
section
variable{P:wap}{W:World}
end
end PySem.SeqAt
namespace L2
open PySem PySem.Spec PyProof.Rows Sx Bs
section
variable{X:Cx}{pins:List (Addr×Obj)}{σ:St}{H:Hp}{s:Shared}
end
end L2
namespace Sx
open PySem L2 Bs
end Sx
namespace L2
open PySem
set_option genInjectivity true in
inductive Lt where
 |fl (v:V)
 |ls (vs:List V)
 |tp (vs:List V)
 deriving DecidableEq
end L2
namespace Bs
noncomputable def ltI:List Int->List Int->Bool
 |x::xs,y::ys=>if x=y then ltI xs ys else decide (x<y)
 |[],_::_=>true
 |_,[]=>false
end Bs
namespace PySem.SeqAt
open AutoSeq1 (wpAny_loadPart')
open MeetsSeq MeetsSeq2 MeetsSeq3 SeqRoads2 Bs
section
variable{P:wap}{W:World}
theorem KR(l b:Addr)(us vs:Array Value)(n m:Nat)(T U:Option Addr)(s1 s2:Array (Option Value)){xs ys:List Int}(hx:us.size=xs.length)(hy:vs.size=ys.length)(same:us.size=vs.size)
 (B:Around) (R:wcN->Shared->Prop) (z:Shared)
 (gl:z.heap.get? l=some {cls:=.type "list",dict:=T,data:=.seq us n,slots:=s1}) (r:z.heap.get? b=some {cls:=.type "list",dict:=U,data:=.seq vs m,slots:=s2})
 (a1:∀j (p:j<us.size),∃t,us[j]=.int (xs.getD j 0) t) (a2:∀j (p:j<vs.size),∃t,vs[j]=.int (ys.getD j 0) t)
 (al:∀j (C:j<us.size) (I:j<vs.size),EqAt B.in1 z us[j] vs[j] (decide (xs.getD j 0=ys.getD j 0))) :
 ∀(k i:Nat),us.size-i=k->R (.ok (.ret (.bool (ltI (xs.drop i) (ys.drop i))))) z->wpAny (model P W) B.in1 (wdS.«list.__eq__.loop» ⟨[.ref l,.ref b,rawInt i,rawInt 0],[]⟩) (λq s'=>match q with |.done f=>R (.ok f) s' |.again J=>J.quiet=true/\codeAny (model P W) B J R s') (λe s'=>R (.error e) s') z:=by
 intro k
 induction k with
 |zero=>
  intro i hk fin;obtain⟨d,g,h,o,os⟩:=z
  wp_walk using wpAny_loadPart' gl,wpAny_loadPart' r
  have n1:us[((i:Nat):Int).toNat]?=none:=by simp;omega
  have a:vs[((i:Nat):Int).toNat]?=none:=by simp;omega
  rw[n1,a]
  wp_walk using wpAny_loadPart' gl,wpAny_loadPart' r
  rw[wbN (by omega),wbN (by omega)]at fin;show R (.ok (.ret (.bool (decide (us.size<vs.size))))) _;rw[decide_eq_false (by omega)];exact fin
 |succ k s=>
  intro i hk fin;obtain⟨d,g,h,o,os⟩:=z
  wp_walk using wpAny_loadPart' gl,wpAny_loadPart' r
  have C:i<us.size:=by omega
  have I:i<vs.size:=by omega
  have n1:us[((i:Nat):Int).toNat]?=some us[i]:=by simp[C]
  have a:vs[((i:Nat):Int).toNat]?=some vs[i]:=by simp[I]
  have up:((i:Int)+1)=((i+1:Nat):Int):=by push_cast;rfl
  have u:xs.drop i=xs.getD i 0::xs.drop (i+1):=by
   rw[wbw (by omega),wa3,wa1 (by omega)];rfl
  have v:ys.drop i=ys.getD i 0::ys.drop (i+1):=by
   rw[wbw (by omega),wa3,wa1 (by omega)];rfl
  rw[u,v]at fin;unfold ltI at fin;rw[n1,a];refine wa6 (al i C I _ _ _ _ ?_)
  by_cases c:xs.getD i 0=ys.getD i 0
  ·rw[decide_eq_true c];rw[if_pos c]at fin
   wp_walk
   rw[up];refine⟨wbL weX _,wbk entry_eq_loop ?_⟩;rw[wba weX _];exact s (i+1) (by omega) fin
  ·rw[decide_eq_false c];rw[if_neg c]at fin
   wp_walk using wpAny_loadPart' gl,wpAny_loadPart' r
   rw[n1,a];obtain⟨y,w⟩:=a1 i C;obtain⟨A,x⟩:=a2 i I;rw[w,x];refine wa6 (PyProof.Rows.lt_int ?_)
   wp_walk
   exact fin
end
end PySem.SeqAt
namespace PySem.SeqAt
open AutoSeq1 (wpAny_loadPart')
open MeetsSeq MeetsSeq2 MeetsSeq3 SeqRoads2 Bs
theorem IP{P:wap}{W:World}{l b:Addr}{us vs:Array Value}{xs ys:List Int}{B:Around}{z:Shared}{E:Value->Shared->Prop}{Q:Value->Shared->Prop}(r:z.heap.IsList l us)(C:z.heap.IsList b vs)(I:us.size=xs.length)(J:vs.size=ys.length)(same:us.size=vs.size)(T:B.units<wcw)
 (a1:∀j (p:j<us.size),∃t,us[j]=.int (xs.getD j 0) t) (a2:∀j (p:j<vs.size),∃t,vs[j]=.int (ys.getD j 0) t)
 (U:∀j (p1:j<us.size) (p2:j<vs.size),EqAt B.in1 z us[j] vs[j] (decide (xs.getD j 0=ys.getD j 0))) (fin:Q (.bool (ltI xs ys)) z):wpAny (model P W) B (wb4 .Lt (.ref l) (.ref b)) Q E z:=by
 obtain⟨⟨c1,s,y,u⟩,h,a,n,c⟩:=id r;obtain⟨⟨A,v,D,w⟩,i,d,m,e⟩:=id C;simp only at a c d e;subst a c d e
 have code:MeetsIn P W (wdS.«list.__lt__» ⟨[.ref l,.ref b],[]⟩) (λk o q=>k=B/\q=z/\o (.ok (.ret (.bool (ltI xs ys)))) z):=by
  rintro k o q ⟨rfl,rfl,f⟩;obtain⟨G,g,H,L,os⟩:=q;have sub:=AutoSeq1.sub_list_list
  wp_walk using wpAny_loadPart' h,wpAny_loadPart' i
  refine⟨wbL weX _,wbk entry_eq_loop ?_⟩;rw[wba weX _];exact KR l b us vs n m s v u w I J same k o _ h i a1 a2 U _ 0 rfl f
 exact wpAny_richCompare_same_room (op:=.Lt) ⟨_,h,rfl⟩ ⟨_,i,rfl⟩ F.slot_list_lt (call_meetsIn F.slot_list_lt ⟨_,h,rfl⟩ F.entry_list_lt (F.args_list_lt_2 _ _) code ⟨rfl,rfl,⟨(λx=>nomatch x),fin⟩⟩) T
end PySem.SeqAt
namespace L2
open PySem PySem.Spec PyProof.Rows Sx Bs
section
variable{X:Cx}
inductive UM(K:wa2)(x y:V)(H:Hp)(Q:VK):Prop
 |mk (a b xs ys) (_:x=.ref a) (_:y=.ref b) (_:aE K H a (wcA V.int xs)) (_:aE K H b (wcA V.int ys)) (_:xs.length=ys.length) (_:Q (.bl (ltI xs ys)) H)
theorem int_at{xs:List Int}{g:List Value}(r:Vals (xs.map V.int) g)(j:Nat)(h:j<g.toArray.size):∃t,g.toArray[j]=.int (xs.getD j 0) t:=by
 have a:j<g.length:=by simpa using h
 have b:=r.length;rw[wa0]at b;have c:(xs.map V.int)[j]?=some (.int (xs.getD j 0)):=by rw[wa4,wa3,wa1 (show j<xs.length by omega)];rfl
 obtain⟨u,q,t,w⟩:=r.get c;rw[wa1 a]at q;exact⟨t,(wae q).trans w⟩
theorem IQ(l:X.A.units<wcw):kI X (wb4 .Lt) (UM X.K):=by
 intro f s σ H x y v u Q I i k h;obtain⟨a,b,xs,ys,rfl,rfl,ha,m,hl,q⟩:=h;cases i;cases k;obtain⟨n,c,o,_⟩:=I.list ha;obtain⟨g,d,p,_⟩:=I.list m;have r:=c.length;have t:=d.length;rw[wa0]at r t;refine SeqAt.IP (xs:=xs) (ys:=ys) o.isList p.isList (by simp only[waz];omega) (by simp only[waz];omega) (by simp only[waz];omega) l (int_at c) (int_at d) (λj w z=>?_) ⟨.bl _,H,I,rfl,q⟩;obtain⟨B,C⟩:=int_at c j w;obtain⟨D,E⟩:=int_at d j z;have e:=y7 (A:=X.A.in1) (s:=s) (y:=.int (xs.getD j 0)) (x:=.int (ys.getD j 0)) ⟨B,rfl⟩ ⟨D,rfl⟩ rfl rfl;rw[C,E];exact e
end
end L2
namespace Bs
open PySem L2 Sx
theorem IU{g:Str}:∀(n:Nat) (r:Str),r∈Jb g n->∀c∈ch r,c∈ch g
 |0,r,h,c,hc=>by
  rw[wan.mp h]at hc;exact nomatch hc
 |n+1,r,h,c,hc=>by
  obtain⟨p,a,h⟩:=wbW.mp h;obtain⟨d,hd,rfl⟩:=waa.mp h;rw[aJ]at hc;rcases waC.mp hc with z |z
  ·exact IU n p a c z
  ·rw[wan.mp z];exact hd
theorem KS{K:wa2}{C CB J T:Addr}{H:Hp}{x t:Addr}{g:Str}{bw ss ls:List Str}{many:Int}{n:Nat}{f:Str->Int}{r:List xB}{j:List Nat}{hs:List Str}{ws:List Int}{lns:List (List (Str×Nat))}{b:Nat}(B:aS CB H t g bw ss ls)(W:AA K C J T H x t many n (bX f ls) r j hs ws lns b)(P:fT g bw ss ls many n f r j hs ws lns)(U:Fz many n (dD lns j many.toNat))(I:ve bw n b)(nd:(ch g).Nodup)(hw:∀w∈bw,1<=w.length/\w.length<=900)(bl:bw.length<=1000)(gl:g.length<=10)(m1:1<=many)(m8:many<=8)(n1:1<=n)(KN:n<=10):Dd K C CB J H x ⟨g,bw,ss,ls,mj hs j,many,n,b,r.length,dD lns j many.toNat⟩:=by
 obtain⟨u,p,a,l,v,⟨dp,y,z,A,D,E,_,G,_,_⟩,L,M⟩:=W;obtain⟨S,N,O,Q,k⟩:=id G;cases O;have c:∀p∈ls,p∈ss:=λp h=>B.lv.sub.subset h;have i:∀w∈bw,1<=w.length:=λw h=>(hw w h).1
 have R:j.length<=40:=by
  have m:=P.ko.ab.sub.length_le;have o:=P.b.l;have V:=P.ln;rw[waO]at m
  lia
 have sl:=P.sl;have kp:0<j.length:=wc3.mpr P.ne;refine⟨⟨u,p,t,a,l,dp,y,z,A,D,N,v,E,.inl Q,by rw[k.len,wa0],M,.inl (sL L),B⟩,U,m1,m8,n1,KN,I.le,by show r.length<=1000;lia,?_,?_,I,hw,bl,gl,P.read nd B.pm i c (B.nd.sublist B.lv.sub) _,λd q s=>?_,?_,FK I n1 B.pm,B.pm⟩
 ·show (mj hs j).length=_;rw[vm];exact wa0 ..
 ·show (dD lns j many.toNat).length<=40;rw[vm];exact R
 ·have hd:=IK s;have m:=(yP (w:=q.1) (e:=q.2) s).2;have o:j.getD d 0<hs.length:=by have:=(P.ko.st _ (wa8 (getD_some 0 hd))).1;have:=P.b.l;lia
  exact IU n _ (P.cv.BL P.b.l (λp h=>c p (P.sb p h)) B.pm i o m).2.2
 ·show (mj hs j).getD 0 ""∈ss;rw[ia kp];have hk:=(P.steps B.pm i c many.toNat kp).1;rw[wa3,wa1 hk];exact c _ (P.sb _ (waE hk))
theorem E8{R:Wr}(ok:KQ R):∀(ts:List Nat) (d:Nat),d<R.wl.length->(∀t∈ts,(t:Int)<R.many)->∀u∈dE R.wl d ts,u.length=R.n/\∀c∈ch u,c∈ch R.g
 |[],_,_,_,_,h=>nomatch h
 |t::ts,d,hd,b,u,h=>by
  have a:=wa8 (step_at ok.w hd (b t (wad ..)));have hl:=wa8 (dO hd);rcases waD.mp h with rfl |h
  ·exact⟨ok.w.wd _ hl _ a,ok.gd d _ a⟩
  ·exact E8 ok ts _ (ok.w.e _ hl _ a) (λx f=>b x (wac _ f)) u h
structure FL(R:Wr)(ts:List Nat)(all:List Str):Prop where
 row:nQ R.wl R.b R.c ts=cat all
 u:∀u∈all,u.length=R.n/\∀c∈ch u,c∈ch R.g
 l:all.length=R.b+ts.length+R.c
 r:∀k,k<ts.length->∃bs w us,(all.take (k+(R.b+1+R.c))).drop k=bs++w::us/\bs.length=R.b/\us.length=R.c/\bears R.bw (cat bs)=false/\xV R.ss R.hk R.wl (cat bs) w us (ts.getD k 0)
theorem QV{R:Wr}(ok:KQ R){ts:List Nat}(g:∀t∈ts,(t:Int)<R.many):∃all,FL R ts all:=by
 refine⟨dE R.wl 0 (gR R.b R.c ts),FJ ..,E8 ok _ 0 (wc3.mpr ok.w.ne) (qu ok.m1 g _ _),?_,λk hk=>?_⟩
 ·rw[jt];unfold gR;rw[wa7,wa7,waM,waM]
  lia
 ·obtain⟨bs,w,a,d,e,f,i,j⟩:=Dc ok.rd ok.w ok.m1 ok.pm (λw h=>(ok.hw w h).1) ok.h0 ok.sh g hk;refine⟨bs,w,a,d,e,f,i,?_⟩;rw[wa3,wa1 hk];exact j
theorem E9{n:Nat}:∀{a b:List Str},a.length=b.length->(∀w∈a,w.length=n)->(∀w∈b,w.length=n)->cat a=cat b->a=b
 |[],[],_,_,_,_=>rfl
 |x::a,y::b,hl,ha,c,e=>by
  have e:ch (x++cat a)=ch (y++cat b):=congrArg ch e;rw[aJ,aJ]at e;obtain⟨d,f⟩:=wht e (by rw[aR,aR,ha x (wad ..),c y (wad ..)]);rw[cm d,E9 (wgM hl) (λw h=>ha w (wac _ h)) (λw h=>c w (wac _ h)) (cm f)]
theorem FL.inj{R:Wr}(ok:KQ R){ts j:List Nat}{all g:List Str}(h:FL R ts all)(h':FL R j g)(hl:ts.length=j.length)(e:cat all=cat g):ts=j:=by
 have c:=E9 (by rw[h.l,h'.l,hl]) (λw hw=>(h.u w hw).1) (λw hw=>(h'.u w hw).1) e;subst c;refine List.ext_getElem hl λk a b=>?_;obtain⟨bs,w,p,a1,a2,a3,q,d⟩:=h.r k a;obtain⟨f,s,i,b1,m,t,v,n⟩:=h'.r k b;obtain⟨rfl,o⟩:=wht (a1.symm.trans b1) (by rw[a2,m]);obtain⟨rfl,rfl⟩:=we7 o;have:=d.one ok.rd a3 n;rwa[wa3,wa1 a,wa3,wa1 b]at this
noncomputable def pA(g r:Str):List Int:=(ch r).map λc=>((ch g).idxOf c:Int)
noncomputable def QW(g:Str):V->V
 |.str z=>.int ((ch g).idxOf ((ch z).headD 0):Int)
 |_=>.non
theorem UN(g r:Str):(cu r).map (QW g)=(pA g r).map V.int:=by
 unfold cu pA;rw[waf,waf];rfl
theorem pB(g r:Str):(pA g r).length=r.length:=by
 unfold pA;rw[wa0,aR]
theorem AF:∀l:List Int,ltI l l=false
 |[]=>rfl
 |x::l=>by
  unfold ltI;rw[if_pos rfl];exact AF l
theorem IV:∀(k:Nat) (l g:List Int) {a b:Int},(∀m,m<k->l[m]?=g[m]?)->l[k]?=some a->g[k]?=some b->a<b->ltI l g=true/\ltI g l=false
 |_,[],_,_,_,_,c,_,_=>by simp at c
 |_,_::_,[],_,_,_,_,d,_=>by simp at d
 |0,x::l,y::g,a,b,_,c,d,h=>by
  cases c;cases d;unfold ltI;rw[if_neg (by omega),if_neg (by omega)];exact⟨decide_eq_true h,decide_eq_false (by omega)⟩
 |k+1,x::l,y::g,a,b,e,c,d,h=>by
  have:=wae (e 0 (Nat.succ_pos _));subst this;unfold ltI;rw[if_pos rfl,if_pos rfl];exact IV k l g (λm f=>e (m+1) (by omega)) c d h
theorem Ea{l:List Nat}{c:Nat}(h:c∈l):l[l.idxOf c]?=some c:=by
 have hl:=wbC.mpr h;rw[wa1 hl,wd8]
theorem De{l:List Nat}(nd:l.Nodup){i c:Nat}(h:l[i]?=some c):l.idxOf c=i:=by
 have a:=Ea (wa8 h);obtain⟨e,b⟩:=wa5.mp h;obtain⟨f,d⟩:=wa5.mp a;exact(wbI nd).mp (d.trans b.symm)
theorem KU{l:List Nat}{c:Nat}(nd:l.Nodup)(j:Nat)(g:j<l.idxOf c):l[j]?≠some c:=λz=>by
 have:=De nd z;omega
theorem IW{g r l:Str}(nd:(ch g).Nodup)(h:Q7 g r l):ltI (pA g r) (pA g l)=true/\ltI (pA g l) (pA g r)=false:=by
 obtain⟨k,c,d,h,hc,hd,i,j,hi,e,f⟩:=h;refine IV k _ _ (a:=((i:Nat):Int)) (b:=((j:Nat):Int)) (λm n=>?_) ?_ ?_ (by omega)
 ·unfold pA;rw[wa4,wa4,h m n]
 ·unfold pA;rw[wa4,hc,<-De nd hi];rfl
 ·unfold pA;rw[wa4,hd,<-De nd e];rfl
theorem Eb{g t:Str}{ws:List Str}{n i j:Nat}{r l:Str}(nd:(ch g).Nodup)(h:(iH g ws t n)[i]?=some r)(h':(iH g ws t n)[j]?=some l):ltI (pA g r) (pA g l)=decide (i<j):=by
 have c:(iH g ws t n).Pairwise (Q7 g):=(ub n).filter _;obtain⟨d,a⟩:=wa5.mp h;obtain⟨e,b⟩:=wa5.mp h';rcases wde i j with z |rfl |z
 ·have:=wfc.mp c i j d e z;rw[a,b]at this;rw[(IW nd this).1,decide_eq_true z]
 ·obtain rfl:r=l:=a.symm.trans b;rw[AF,decide_eq_false (wb7 _)]
 ·have:=wfc.mp c j i e d z;rw[a,b]at this;rw[(IW nd this).2,decide_eq_false (by omega)]
theorem Ec{g:Str}:∀l:List Nat,(∀c∈l,c∈ch g)->(⟨l.toArray⟩:Str)∈Ck g l.length
 |[],_=>wan.mpr rfl
 |c::l,h=>by
  refine wbW.mpr ⟨c,h c (wad ..),waa.mpr ⟨_,Ec l λd hd=>h d (wac _ hd),cm ?_⟩⟩;rw[aJ,kU];rfl
theorem Ed{g r:Str}{ws:List Str}(j:bears ws r=false)(hi:∀c∈ch r,c∈ch g):∃k:Nat,(iH g ws "" r.length)[k]?=some r:=by
 have a:r∈iH g ws "" r.length:=by
  refine wau.mpr ⟨?_,by rw[iQ,j];rfl⟩;have:=Ec (ch r) hi;rwa[aR]at this
 obtain⟨k,hk,e⟩:=wbp a;exact⟨k,by rw[wa1 hk,e]⟩
theorem AG{R:Wr}{ts:List Nat}{all:List Str}(h:FL R ts all):∀c∈ch (cat all),c∈ch R.g:=λc hc=>by
 rw[IL]at hc;obtain⟨l,a,b⟩:=List.mem_flatten.mp hc;obtain⟨u,d,rfl⟩:=waa.mp a;exact(h.u u d).2 c b
end Bs
namespace Sx
open PySem L2 Bs
inductive KW(vs:List V)(H:Hp)(Q:VK)(dQ:XK):Prop
 |mk (r g) (_:vs=[.str r,.str g]) (_:∀c∈ch r,c∈ch g) (_:(ch g).Nodup) (_:r.length<=1000) (_:g.length<=10) (_:∀l H',a7 H H'->H' l=some (.lst ((pA g r).map V.int))->Q (.ref l) H')
inductive KY(K:wa2)(C:Addr)(vs:List V)(H:Hp)(Q:VK)(dQ:XK):Prop
 |mk (x lw:Addr) (k:Nat) (r g:Str) (ws ss ls:List Str) (_:vs=[.ref x,.str r,.str g,.ref lw]) (_:aS C H x g ws ss ls) (_:H lw=some (.lst (ws.map V.str))) (_:(∀w∈ws,1<=w.length)) (_:(ch g).Nodup) (_:g.length<=10) (_:ss.length<=900) (_:ws.length<=1000) (_:r.length<=200) (_:(iH g ws "" r.length)[k]?=some r) (_:∀H',a7 H H'->Q (.int (k:Int)) H')
end Sx
namespace K72
open PySem L2 Bs Sx
section
variable{P:wap}{w:World}{K:wa2}{mg:Str->Option Value}{base:Heap}
theorem yS(L:Lk K mg):aO P w K mg base cP 1 L.rB L.rQ ["_law_row","_law_words"] (Hv K):=by
 have T:=L.T;refine L.m9.F.dq (N:=["_law_row","_law_words"]) (λi A outer s H o Q E nd p h=>?_);obtain⟨r,a,j,rfl,f,hl,k⟩:=h;refine⟨_,(a9 (ay (G4 (aP (tE rfl) (by rfl) T.any My (aG (bS rfl (au ["_law_row"] [0]) (aK (pv 1)) (λ_ _ _ _ _ _=>aY) (λ_ _ _ _ _ _=>(cT pJ (pv 0) (pv 1) rfl)))))))),?_⟩
 try dsimp only[dj,di,b0,b6]
 refine⟨_,rfl,a,rfl,⟨_,f⟩,λl d=>comp_map (Pu r) (aI K a (j.map V.str)) d (by rw[wa0];exact aq (by omega)) (λg e=>e.seq f) (λx m t n _ q=>?_) (λg e b=>?_)⟩
 ·obtain⟨c,_,rfl⟩:=waa.mp n;exact⟨_,rfl,_,rfl,_,_,rfl,rfl,q m (a7.refl _)⟩
 ·rw[zH]at b;refine⟨l,_,rfl,aE.of b,_,rfl,?_⟩;have:=k g e;rw[wes];exact this
theorem iZ(L:Lk K mg):aO P w K mg base cP 1 L.uL L.uT ["_law_row","_law_signs"] KW:=by
 refine L.fX.F.dq (N:=["_law_row","_law_signs"]) (λe A outer s H j Q E nd m h=>?_);obtain⟨r,g,rfl,hi,nd,f,n,k⟩:=h;refine⟨_,(a9 (ay (bS rfl (au ["_law_signs"] [1]) (ng (pv 0)) (λ_ _ _ _ _ _=>aY) (λ_ _ _ _ _ _=>(Cp (K:=K) rfl wdd wew wg1 zZ (pv 1) (aG (pv 0))))))),?_⟩
 try dsimp only[dj,di,b0,b6]
 refine⟨_,rfl,r,rfl,λl hl=>comp_map (QW g) (ie r) hl (by rw[nq];exact aq (by omega)) (λ_ _=>trivial) (λz a o i b q=>?_) (λa b d=>?_)⟩
 ·obtain⟨c,hc,rfl⟩:=waa.mp i;exact⟨_,rfl,rfl,_,rfl,g,c,(ch g).idxOf c,rfl,rfl,Ea (hi c hc),KU nd,q a (a7.refl _)⟩
 ·rw[UN]at d;exact k l a b d
theorem qx(L:Lk K mg):aO P w K mg base cP 8 L.gK L.kA ["_law_band_here","_law_row","_law_signs","_law_words"] (KY K L.az):=by
 have T:=L.T;refine L.gN.F.dq (N:=["_law_band_here","_law_row","_law_signs","_law_words","_law_number","_law_total","_law_other","_law_near","_law_ahead"]) (λO A outer s H vs Q E nd hr h=>?_);obtain⟨x,lw,b,r,g,e,ss,ls,rfl,B,R,m,nd,l,c,S,CZ,hk,k⟩:=h;have U:(A.deeper (wcO "_law_numbered" (aD (top 91)) s.heap.objs.size L.gK O)).units<wcw:=hr.t6
 refine⟨_,(a5 (ag (i:=4) (ai (pz L) L.iW (a8 (pv 0) (aG (pv 1)))))
  (a5 (bj (PW.pt (ee (cS (bZ (aP cf (by rfl) T.Jd vM (a8 (pv 4) (aG (gf (v:=.ty "int") (by rfl) T.int PY rfl)))))) (fI (bZ (aP cf (by rfl) T.Jd vM (a8 (pv 4) (aG (gf (v:=.ty "bool") (by rfl) T.bool Lq rfl)))))))) (a9 (ay du)) aH)
  (a5 (ag (i:=5) (ai (As L) L.sO (a8 (pv 0) (aG (Ae T.len (pv 1))))))
  (a5 (bj (PW.pt (ee (cS (zk Gd gW aj (pv 4) (pv 5))) (fI (cq wB (ai (xW L) L.p0 (a8 (pv 0) (a8 (Ae T.len (pv 1)) (aG (pv 4))))) (pv 1))))) (a9 (ay du)) aH)
  (a5 (forA (aK (ck (a8 (aN jA (pv 4) aj) (aG (aN gD (pv 4) aj))))) (ax (i:=6)) (a9 (bj (zk Gd gW aj (pv 6) (pv 5)) (a5 (ag (i:=7) (ai (xW L) L.p0 (a8 (pv 0) (a8 (Ae T.len (pv 1)) (aG (pv 6))))))
  (a5 (bj (PW.pt (ee (cS (bZ (aP cf (by rfl) T.Jd vM (a8 (pv 7) (aG (gf (v:=.ty "str") (by rfl) T.str GJ rfl)))))) (ee (cq wB (Ae T.len (pv 7)) (Ae T.len (pv 1))) (fI (cS (bZ (ai (yS L) L.m9 (a8 (pv 7) (aG (pv 3)))))))))) (a9 (ay du)) aH)
  (a5 (ag (i:=8) (cT (IQ U) (ai (iZ L) L.fX (a8 (pv 7) (aG (pv 2)))) (ai (iZ L) L.fX (a8 (pv 1) (aG (pv 2)))) (gE _)))
  (a9 (bj (PW.pt (ee (cq wB (pv 8) (cT gW (pv 6) (pv 4) (gE _))) (ee (cq nW (pv 7) (pv 1)) (fI (cq wB (ai (pz L) L.iW (a8 (pv 0) (aG (pv 7)))) (pv 6)))))) (a9 (ay du)) aH))))) aH)))
  (a9 (ay (pv 4)))))))),?_⟩
 try dsimp only[dj,di,b0,b6]
 refine⟨_,rfl,_,rfl,x,b,r,g,e,ss,ls,rfl,B,m,nd,l,c,by omega,hk,λH1 s1=>?_⟩;have B1:=B.same s1;refine⟨_,rfl,_,_,_,true,rfl,ic.int _,rfl,true,rfl,bx ?_⟩;refine⟨_,rfl,_,_,_,false,rfl,ic.int _,rfl,false,rfl,bx ?_⟩;refine⟨_,rfl,_,rfl,r,rfl,aq (by omega),x,(r.length:Int),g,e,ss,ls,rfl,B1,l,c,by omega,by omega,λH2 s2=>?_⟩
 obtain⟨M,eM,eL⟩:∃M:Nat,dY g e ss r.length ""=(M:Int)/\(iH g e "" r.length).length=M:=by
  have:=sI (g:=g) B.pm m r.length "" (mx m);rw[kY (B.pm.mem_iff.mpr (bb e))]at this;exact⟨_,this.symm,rfl⟩
 rw[waA,eM];have hkM:b<M:=by have:=(wa5.mp hk).1;omega
 have p:=s1.trans s2;have B2:=B.same p;refine⟨_,rfl,_,_,rfl,rfl,true,congrArg V.bl (decide_eq_true (by omega)),eE ⟨_,rfl,_,_,rfl,rfl,true,congrArg V.bl (decide_eq_true (by omega)),bx ?_⟩⟩;refine⟨_,rfl,_,rfl,r,rfl,aq (by omega),_,rfl,x,r.length,b,r,g,e,ss,ls,rfl,B2,m,l,c,by omega,hk,λX s3=>?_⟩;refine⟨_,rfl,rfl,false,tQ _,bx ?_⟩;have t:=p.trans s3;have B3:=B.same t;refine⟨_,rfl,_,_,rfl,rfl,_,rfl,_,_,rfl,rfl,by show 2<=sizeLine;decide,λu Y=>?_⟩;have t4:=a7.upd (H:=X) (o:=.lst [.int ((b:Int)-1),.int ((b:Int)+1)]) Y;have Z:(upd X u (.lst [.int ((b:Int)-1),.int ((b:Int)+1)])) u=some (.lst [.int ((b:Int)-1),.int ((b:Int)+1)]):=a6;generalize upd X u (.lst [.int ((b:Int)-1),.int ((b:Int)+1)])=H4 at t4 Z;have C:=t.trans t4;refine⟨u,rfl,⟨_,aE.of Z⟩,eh (K:=K) (a:=u) (xs:=[.int ((b:Int)-1),.int ((b:Int)+1)]) (λi σ D=>a7 H4 D/\∃v6 v7 v8,σ=[some (.ref x),some (.str r),some (.str g),some (.ref lw),some (.int (b:Int)),some (.int (M:Int)),v6,v7,v8]) ⟨a7.refl _,none,none,none,rfl⟩ (λi σ D _ q=>aE.of (q.1 _ _ Z)) ?_ ?_⟩
 ·rintro i y σ D hy ⟨n,v6,v7,v8,rfl⟩
  obtain⟨j,rfl,hjk⟩:∃j:Int,y=.int j/\(j=(b:Int)-1\/j=(b:Int)+1):=by
   have G:=wa8 hy;simp only[waD,wbu,or_false]at G;rcases G with rfl |rfl
   ·exact⟨_,rfl,.inl rfl⟩
   ·exact⟨_,rfl,.inr rfl⟩
  have I:=C.trans n;have B5:=B.same I;refine⟨_,rfl,_,_,rfl,rfl,?_⟩
  by_cases h0:0<=j
  ·refine⟨true,congrArg V.bl (decide_eq_true h0),eE ⟨_,rfl,_,_,rfl,rfl,?_⟩⟩
   by_cases h1:j<(M:Int)
   ·refine⟨true,congrArg V.bl (decide_eq_true h1),eE ?_⟩;obtain⟨q,rfl⟩:∃q:Nat,j=(q:Int):=⟨j.toNat,by omega⟩;obtain⟨f,d⟩:∃f,(iH g e "" r.length)[q]?=some f:=⟨_,wa1 (by omega)⟩;obtain⟨gb,gl,gi⟩:=yq (wa8 d);rw[iQ]at gb;refine⟨_,rfl,_,rfl,r,rfl,aq (by omega),_,rfl,x,r.length,q,f,g,e,ss,ls,rfl,B5,m,l,c,by omega,d,λH6 s6=>?_⟩;have J:=I.trans s6;refine⟨_,rfl,_,_,_,true,rfl,ic.str _,rfl,true,rfl,bx ?_⟩;refine⟨_,rfl,f,rfl,aq (by omega),_,rfl,r,rfl,aq (by omega),rfl,false,by rw[gl];exact tQ _,bx ?_⟩;refine⟨_,rfl,_,rfl,f,lw,e,rfl,aE.of (J _ _ R),S,λH7 s7=>?_⟩;rw[gb];refine⟨true,rfl,bx ?_⟩;have RW:=J.trans s7;refine⟨_,rfl,_,rfl,f,g,rfl,gi,nd,by omega,l,λl1 H8 s8 h8=>?_⟩;refine⟨_,rfl,_,rfl,r,g,rfl,(yq (wa8 hk)).2.2,nd,by omega,l,λl2 H9 s9 h9=>?_⟩;refine⟨l1,l2,_,_,rfl,rfl,aE.of (s9 _ _ h8),aE.of h9,by rw[pB,pB,gl],?_⟩;rw[Eb nd d hk];have hqk:q≠b:=by omega
    have zB:f≠r:=λz=>hqk (u5 (pZ nd "" r.length) d (by rw[z];exact hk));have s09:=RW.trans (s8.trans s9);refine⟨_,rfl,_,rfl,_,rfl,_,_,rfl,rfl,rfl,false,?_,bx ?_⟩
    ·rw[show decide ((q:Int)<(b:Int))=decide (q<b) from decide_eq_decide.mpr (by omega)];exact tQ _
    refine⟨_,rfl,_,rfl,rfl,false,congrArg V.bl (decide_eq_false λz=>zB (V.str.inj z)),bx ?_⟩;refine⟨_,rfl,_,rfl,x,q,f,g,e,ss,ls,rfl,B.same s09,m,nd,l,c,by omega,by rw[gl];exact d,λLO FC=>?_⟩;exact⟨_,rfl,rfl,false,tQ _,bx ⟨n.trans (s6.trans (s7.trans (s8.trans (s9.trans FC)))),_,_,_,rfl⟩⟩
   ·exact⟨false,congrArg V.bl (decide_eq_false h1),bx ⟨n,_,_,_,rfl⟩⟩
  ·exact⟨false,congrArg V.bl (decide_eq_false h0),bx ⟨false,rfl,bx ⟨n,_,_,_,rfl⟩⟩⟩
 ·rintro σ D ⟨n,v6,v7,v8,rfl⟩;exact⟨_,rfl,k D (C.trans n)⟩
theorem yT(L:Lk K mg):aO P w K mg base cP 12 L.rA L.rP ["_law_signs","_law_words","_law_many","_law_wide"] (KP K L.ao L.az L.aV L.aw):=by
 refine L.m7.F.dq (N:=["_law_signs","_law_words","_law_many","_law_wide","_law_told_here"]) (λY A outer s H vs Q E nd T h=>?_);obtain⟨g,a,many,n,bw,rfl,Z,q,m,d,v,k⟩:=h
 refine⟨_,(a5 (ag (i:=4) du)
  (a5 (KO ⟨rfl,rfl⟩ (GZ (JY (i:=4) nd rfl (wd3 rfl) (GY L.xN (nP L) (T.mono (by decide)) rfl L.Aq L.fu.b (a8 (mm L.yD (jr L) (T.mono (by decide)) rfl L.CW L.eC.b .nil o1 (a8 (pv 0) (aG (pv 1)))) (a8 (pv 2) (aG (pv 3))))))) rfl L.uY rfl L.yE L.gB L.uZ (L.gB.ne L.uZ (by decide+kernel)) (L.gB.neT L.XT (by decide+kernel)) nd (i:=4) rfl (wd3 rfl))
  (a9 (ay (pv 4))))),?_⟩
 try dsimp only[dj,di,b0,b6]
 have g2:=q.lo;have g4:=q.hi;have w1:∀w∈bw,1<=w.length/\w.length<=900:=λw h=>⟨(d w h).lo,by have:=(d w h).hi;lia⟩;refine⟨_,rfl,_,rfl,λy z l j U=>?_⟩;refine⟨y,z,g,a,bw,rfl,a6,(dH l j).seq Z,q,m,d,λss ls r t B=>⟨rfl,?_⟩⟩;have C:a7 H r:=λb o e=>B b o (dH l j _ _ e) (af e l);have yH:ss.length<=25:=t.few m d;have D:("":Str)∈ss:=t.pm.mem_iff.mpr ((j0 _).mpr (.inl rfl));refine⟨_,rfl,_,rfl,λx u nx G nex=>?_⟩;have sm:a7 r (upd (upd r u (.own x)) x (.ins L.ao u [])):=dH nx G;refine⟨x,u,y,many,n,g,bw,ss,ls,rfl,a6,t.same sm,w1,by lia,D,q.nd,g2,by lia,by lia,v,λI p la ll f0 f J ks hs ws M b V k2 x2 P2 r2 l2 hL O hP W0 hB=>⟨rfl,?_⟩,?_,?_⟩
 ·have X:a7 r V:=λc o e=>k2 _ _ (sm _ _ e) (af e nx);refine⟨_,rfl,k _ V (C.trans X) (.inr ⟨x,rfl,y,ss,ls,f0,f,J,ks,hs,ws,M,b,t.same X,⟨u,p,la,ll,x2,P2.same (cj _ _),bA.same (cj _ _) _ _ r2,bA.same (cj _ _) _ _ l2⟩,I,hL,O,hP,W0,hB⟩)⟩
 ·exact λk' d' R _ S _ _=>⟨.inl rfl,_,rfl,k .non R (C.trans (sm.trans S)) (.inl rfl)⟩
 ·exact λ_ _ R S=>⟨.inr rfl,_,rfl,k .non R (C.trans (sm.trans S)) (.inl rfl)⟩
theorem kd(L:Lk K mg):aO P w K mg base cP 1 L.rx L.rL ["_law_script","_law_place_here"] (Q2 K):=by
 have T:=L.T;refine L.gz.F.dq (N:=["_law_script","_law_place_here"]) (λb A outer s H e Q E nd f h=>?_);obtain⟨a,ns,p,rfl,c,k⟩:=h;refine⟨_,(a9 (ay (aP (je rfl) (by rfl) T.sum BX (aG (d7 iK (pv 0) (bL (pv 1)) (bL (aN gD (pv 1) aj))))))),?_⟩
 try dsimp only[dj,di,b0,b6]
 refine⟨_,rfl,_,rfl,_,rfl,_,rfl,_,_,rfl,rfl,_,rfl,a,_,rfl,c,λl hl=>?_⟩;obtain⟨d,em,_⟩:=Hl ns (some p) (some (p+1));rw[em];exact⟨l,d,rfl,aE.of a6,k _ _ (a7.upd hl)⟩
theorem ml(L:Lk K mg):aO P w K mg base cP 1 L.mQ L.mX ["_law_cell","_law_many"] Hw:=by
 have T:=L.T;refine L.gn.F.dq (N:=["_law_cell","_law_many","_law_found","_law_one","_law_turn","_law_two","_law_more"]) (λx A outer s H C Q E nd D h=>?_);obtain⟨c,m,rfl,G,k⟩:=h
 refine⟨_,(a5 (ag (i:=2) (ck fK))
  (a5 (ag (i:=3) (aN ua (pv 0) aj))
  (a5 (bj (cq nW (aN dk (pv 0) aj) aj) (a5 (forA (d8 rfl T.range (aG (pv 1))) (ax (i:=4)) (a5 (bu (iL waN waV wb2 cK (pv 2) (aG (aN dk (pv 3) aj))))
  (a9 (ag (i:=3) (aN ua (pv 3) aj)))))
  (a9 (ay (pv 2)))) aH)
  (a5 (ag (i:=5) (aN dk (aN ua (pv 3) aj) aj))
  (a5 (ag (i:=3) (aN dk (pv 3) aj))
  (a5 (forA (d8 rfl T.range (aG (aN gD (pv 1) aj))) (ax (i:=4)) (a5 (ag (i:=6) (aN gD (aN gD (aN gD (aN jB (pv 3) aj) (aN jB (pv 5) (pv 5))) (aN jB aj (pv 4))) aj))
  (a5 (ag (i:=3) (pv 5))
  (a5 (ag (i:=5) (aN dk (pv 6) aj))
  (a9 (bu (iL waN waV wb2 cK (pv 2) (aG (pv 5)))))))))
  (a9 (ay (d7 iK (pv 2) (bL aj) hF))))))))),?_⟩
 try dsimp only[dj,di,b0,b6]
 refine⟨waJ _,λl hl=>?_⟩;have t:a7 H (upd H l (.lst [])):=a7.upd hl;have app:∀{f:Hp} {d:List Int} {v:Int},a7 H f->f l=some (.lst (d.map V.int))->a7 H (upd f l (.lst (d.map V.int++[.int v])))/\(upd f l (.lst (d.map V.int++[.int v]))) l=some (.lst ((d++[v]).map V.int)):=λ{f d v} j g=>⟨λb I e=>by rw[ae (af e hl)];exact j _ _ e,by rw[a6,wal];rfl⟩;refine⟨_,rfl,_,_,rfl,rfl,⟨by decide,by decide+kernel⟩,?_⟩;refine⟨_,rfl,_,_,rfl,rfl,(by show (0:Int)<2;decide),rfl,_,rfl,By (λ_=>?_) (λ_=>?_)⟩
 ·refine⟨_,rfl,(m:Int),rfl,by lia,by lia,?_⟩;rw[waA];refine da (lo:=0) (n:=m) (λi σ f=>∃(one:Int) (d:List Int) (v4:Option V),σ=[some (.int c),some (.int (m:Int)),some (.ref l),some (.int one),v4,none,none]/\a7 H f/\f l=some (.lst (d.map V.int))/\d.length=i) ⟨_,[],none,rfl,t,a6,rfl⟩ ?_ ?_
  ·rintro i σ f hi ⟨one,d,v4,rfl,j,g,o⟩;refine⟨_,rfl,.inl ⟨rfl,_,aE.of g⟩,_,rfl,_,_,rfl,rfl,(by show (0:Int)<1999999973;decide),l,_,_,rfl,rfl,g,by rw[wa0];exact bF (by lia),?_⟩;exact⟨_,rfl,_,_,rfl,rfl,⟨by decide,by decide+kernel⟩,_,d++[one%1999999973],_,rfl,(app j g).1,(app j g).2,by rw[wa7,o];rfl⟩
  ·rintro σ f ⟨one,d,v4,rfl,j,g,o⟩;exact⟨_,rfl,k l d f j hl g o⟩
 ·refine⟨_,rfl,_,_,rfl,rfl,⟨by decide,by decide+kernel⟩,_,_,rfl,rfl,(by show (0:Int)<1999999943;decide),?_⟩;have q:=wbl (c/2/1999999973) (show (1999999943:Int)≠0 by decide);have u:=wbi (c/2/1999999973) (show (0:Int)<1999999943 by decide);refine⟨_,rfl,_,_,rfl,rfl,(by show (0:Int)<1999999973;decide),?_⟩;refine⟨_,rfl,_,_,rfl,rfl,_,rfl,by lia,by lia,?_⟩;rw[show ((m:Int)+2).toNat=m+2 by lia];refine da (lo:=0) (n:=m+2) (λi σ f=>∃(one a:Int) (d:List Int) (v4 v6:Option V),σ=[some (.int c),some (.int (m:Int)),some (.ref l),some (.int one),v4,some (.int a),v6]/\0<=a/\a<2000000000/\a7 H f/\f l=some (.lst (d.map V.int))/\d.length=i) ⟨c/2%1999999973,c/2/1999999973%1999999943,[],none,none,rfl,q,by lia,t,a6,rfl⟩ ?_ ?_
  ·rintro i σ f hi ⟨one,a,d,v4,v6,rfl,q,u,j,g,o⟩;refine⟨_,rfl,_,_,rfl,rfl,.inr ⟨by decide,by decide⟩,_,rfl,_,rfl,_,_,rfl,rfl,.inl ⟨by lia,by lia⟩,_,_,rfl,rfl,_,rfl,_,_,rfl,rfl,.inl ⟨by decide,by decide⟩,_,_,rfl,rfl,_,_,rfl,rfl,?_⟩;refine⟨_,rfl,?_⟩;refine⟨_,rfl,_,_,rfl,rfl,(by show (0:Int)<1999999973;decide),?_⟩;have y:=wbl (one*1664525+a*a+97*(0+(i:Int))+40503) (show (1999999973:Int)≠0 by decide);have J:=wbi (one*1664525+a*a+97*(0+(i:Int))+40503) (show (0:Int)<1999999973 by decide);refine⟨_,rfl,.inl ⟨rfl,_,aE.of g⟩,_,rfl,l,_,_,rfl,rfl,g,by rw[wa0];exact wbc (m:=2000) (by lia) (by rw[wc5];decide),?_⟩;exact⟨_,_,d++[(one*1664525+a*a+97*(0+(i:Int))+40503)%1999999973],_,_,rfl,y,by lia,(app j g).1,(app j g).2,by rw[wa7,o];rfl⟩
  ·rintro σ f ⟨one,a,d,v4,v6,rfl,q,u,j,g,o⟩;refine⟨_,rfl,_,rfl,l,_,rfl,aE.of g,λz p=>?_⟩;have B:=A1 (d.map V.int) 2;have r:j9 (d.map V.int) (some 2) none=(d.drop 2).map V.int:=by rw[we5];exact B
   rw[r];exact k z (d.drop 2) _ (j.trans (a7.upd p)) (none_of j p) a6 (by rw[wbm];lia)
theorem QX:∀st:Fin 36,∀sp∈[1,5,7,11,13,35],∀n∈[2,3,4],((lj st sp n).Nodup/\∀c∈lj st sp n,c∈ch f5):=by decide+kernel
theorem AH{st sp n:Nat}{x:Str}(j:st<36)(hs:sp∈[1,5,7,11,13,35])(hn:n∈[2,3,4])(g:ch x=lj st sp n):zF x:=by
 obtain⟨a,b⟩:=QX ⟨st,j⟩ sp hs n hn;have hl:x.length=n:=by grind [aR,lj,wa0]
 have c:n=2\/n=3\/n=4:=by simpa using hn
 exact⟨by lia,by lia,by rw[g];exact a,by rw[g];exact b⟩
theorem NF:∀d:Int,0<=d->d<8->∃n:Nat,rT ([.int 2,.int 2,.int 2,.int 3,.int 2,.int 4,.int 2,.int 3]:List V) d=some (.int (n:Int))/\n∈[2,3,4]:=under 8 λk=>⟨[2,2,2,3,2,4,2,3].getD k.val 0,by revert k;decide,by revert k;decide⟩
theorem NI:∀d:Int,0<=d->d<6->∃n:Nat,rT ([.int 1,.int 5,.int 7,.int 11,.int 13,.int 35]:List V) d=some (.int (n:Int))/\n∈[1,5,7,11,13,35]:=under 6 λk=>⟨[1,5,7,11,13,35].getD k.val 0,by revert k;decide,by revert k;decide⟩
theorem NK:∀d:Int,0<=d->d<8->∃n:Nat,rT ([.int 0,.int 1,.int 2,.int 3,.int 1,.int 2,.int 3,.int 6]:List V) d=some (.int (n:Int))/\n<=6:=under 8 λk=>⟨[0,1,2,3,1,2,3,6].getD k.val 0,by revert k;decide,by revert k;decide⟩
theorem NM:∀d:Int,0<=d->d<8->∃n:Nat,rT ([.int 2,.int 3,.int 4,.int 2,.int 3,.int 4,.int 1,.int 5]:List V) d=some (.int (n:Int))/\1<=n/\n<=5:=under 8 λk=>⟨[2,3,4,2,3,4,1,5].getD k.val 0,by revert k;decide,by revert k;decide⟩
theorem KZ{xs:List Int}(h:xs.length=4):∃a b c d,xs=[a,b,c,d]:=by
 match xs,h with
 |[a,b,c,d],_=>exact⟨a,b,c,d,rfl⟩
theorem yU(L:Lk K mg):aO P w K mg base cP 2 L.ry L.rM ["_law_script"] (Ke K):=by
 have T:=L.T;refine L.m4.F.dq (N:=["_law_script","_law_known","_law_xs","_law_size","_law_step","_law_signs","_law_words","_law_k","_law_ys","_law_long"]) (λgX A outer s H vs Q E nd hr h=>?_);obtain⟨a,ns,rfl,hS,k⟩:=h
 refine⟨_,(a5 (ag (i:=1) cI)
  (a5 (ag (i:=2) (ai (ml L) L.gn (a8 (ai (kd L) L.gz (a8 (pv 0) (aG aj))) (aG aj))))
  (a5 (ag (i:=3) (aX aW (ck (oh (is:=[2,2,2,3,2,4,2,3]) (by decide+kernel))) (aN dk (aX aW (pv 2) aj (λ_ _=>rfl)) aj) (λ_ _=>rfl)))
  (a5 (ag (i:=4) (aX aW (ck (oh (is:=[1,5,7,11,13,35]) (by decide+kernel))) (aN dk (aX aW (pv 2) aj (λ_ _=>rfl)) aj) (λ_ _=>rfl)))
  (a5 (ag (i:=5) (iL wdd wge wgf DB cI (aG (bS rfl (au ["_law_known","_law_xs","_law_step"] [1,2,4]) (d8 rfl T.range (aG (pv 3))) (λ_ _ _ _ _ _=>aY) (λ_ _ _ _ _ _=>(aX Gj (pv 1) (aN dk (aN gD (aX (gq (K:=K) rfl) (pv 2) aj (λ_ _=>rfl)) (aN jB (pv 3) (pv 0))) aj) (λ_ _=>rfl)))))))
  (a5 (ag (i:=6) (ck fK))
  (a5 (forA (d8 rfl T.range (aG (aX aW (ck (oh (is:=[0,1,2,3,1,2,3,6]) (by decide+kernel))) (aN dk (aX aW (pv 2) aj (λ_ _=>rfl)) aj) (λ_ _=>rfl)))) (ax (i:=7)) (a5 (ag (i:=8) (d7 iK (ai (ml L) L.gn (a8 (ai (kd L) L.gz (a8 (pv 0) (aG (aN gD aj (aN dk (pv 7) aj))))) (aG aj))) (bL (aN jB (aN sC (pv 7) aj) aj)) hF))
  (a5 (ag (i:=9) (aX aW (ck (oh (is:=[2,3,4,2,3,4,1,5]) (by decide+kernel))) (aN dk (aX aW (pv 8) aj (λ_ _=>rfl)) aj) (λ_ _=>rfl)))
  (a9 (bu (iL waN waV wb2 cK (pv 6) (aG (iL wdd wge wgf DB cI (aG (bS rfl (au ["_law_signs","_law_size"] [5,3]) (aK (d7 iK (pv 8) (bL aj) (bL (aN gD aj (pv 9))))) (λ_ _ _ _ _ _=>aY) (λ_ _ _ _ _ _=>(aX Gj (pv 1) (aN dk (pv 0) (pv 2)) (λ_ _=>rfl)))))))))))))
  (a9 (ay (dW (a8 (pv 5) (aG (pv 6))))))))))))),?_⟩
 try dsimp only[dj,di,b0,b6]
 refine⟨_,rfl,a,ns,0,rfl,hS,λc1 H1 s1=>?_⟩;refine⟨c1,4,rfl,by decide,λlx xs H2 s2 fx h2 hx=>?_⟩;obtain⟨x0,x1,x2,x3,rfl⟩:=KZ hx;clear hx;have Of:=s1.trans s2;obtain⟨n,hn,n1⟩:=NF _ (wbl x0 (show (8:Int)≠0 by decide)) (wbi x0 (show (0:Int)<8 by decide));refine⟨by decide,λp hp=>?_⟩;have G:=a7.upd (o:=.lst [.int 2,.int 2,.int 2,.int 3,.int 2,.int 4,.int 2,.int 3]) hp _ _ h2;have D2:=Of.trans (a7.upd (o:=.lst [.int 2,.int 2,.int 2,.int 3,.int 2,.int 4,.int 2,.int 3]) hp);refine⟨_,rfl,lx,_,0,_,rfl,rfl,aE.of G,rfl,_,_,rfl,rfl,(by show (0:Int)<8;decide),p,_,_,_,rfl,rfl,aE.of a6,hn,?_⟩;generalize upd H2 p _=H3 at G D2;obtain⟨sp,WK,X2⟩:=NI _ (wbl x2 (show (6:Int)≠0 by decide)) (wbi x2 (show (0:Int)<6 by decide));refine⟨by decide,λp2 QO=>?_⟩;have f:=a7.upd (o:=.lst [.int 1,.int 5,.int 7,.int 11,.int 13,.int 35]) QO _ _ G;have X3:=D2.trans (a7.upd (o:=.lst [.int 1,.int 5,.int 7,.int 11,.int 13,.int 35]) QO);refine⟨_,rfl,lx,_,2,_,rfl,rfl,aE.of f,rfl,_,_,rfl,rfl,(by show (0:Int)<6;decide),p2,_,_,_,rfl,rfl,aE.of a6,WK,?_⟩;generalize upd H3 p2 _=H4 at f X3
 have X4:sp<=35:=by
  simp only[waD,wbu,or_false]at X2
  lia
 have hn4:n<=4:=by
  simp only[waD,wbu,or_false]at n1
  lia
 obtain⟨st,est⟩:∃st:Nat,x1%36=(st:Int):=⟨(x1%36).toNat,by lia⟩;have hst:st<36:=by lia
 refine⟨rfl,_,rfl,(n:Int),rfl,by lia,by lia,λl hl=>?_⟩;rw[waA];refine comp_map (K7 st sp) (nc 0 n) hl (by rw[wa0,waO];exact aq (by lia)) (λ_ _=>trivial) (λx H5 Q' hx s5 q=>?_) (λH5 s5 m=>?_)
 ·obtain⟨i,hi,rfl⟩:=waa.mp hx;have hi':i<n:=wb3.mp hi;have hd:(st+i*sp)%36<(ch f5).length:=by rw[aR,zG];exact Nat.mod_lt _ (by decide)
  have e1:(ch f5)[(st+i*sp)%36]?=some ((ch f5).getD ((st+i*sp)%36) 0):=by rw[wa3,wa1 hd];rfl
  have e2:=bB e1
  have e3:(((st+i*sp)%36:Nat):Int)=(x1+(sp:Int)*(0+(i:Int)))%36:=by
   rw[wey,Int.mul_comm (sp:Int),Int.natCast_emod,wci,wdB,<-est];show (x1%36+(i:Int)*(sp:Int))%36=_;rw[Int.emod_add_emod]
  rw[e3]at e2
  have e4:K7 st sp (.int (0+(i:Int)))=.str ⟨#[(ch f5).getD ((st+i*sp)%36) 0]⟩:=by
   rw[wey];rfl
  have q':=q H5 (a7.refl _);rw[e4]at q';exact⟨_,rfl,_,rfl,lx,_,1,_,rfl,rfl,aE.of (s5 _ _ f),rfl,_,rfl,_,rfl,_,_,rfl,rfl,.inl ⟨by lia,by lia⟩,_,_,rfl,rfl,_,_,rfl,rfl,(by show (0:Int)<36;decide),f5,_,_,rfl,rfl,aq (by rw[zG];decide),e2,q'⟩
 have QY:((waI n).map λ(i:Nat)=>V.int (0+(i:Int))).map (K7 st sp)=((lj st sp n).map λc=>(⟨#[c]⟩:Str)).map V.str:=by
  unfold lj;rw[waf,waf,waf];refine waY λi _=>?_;show K7 st sp (.int (0+(i:Int)))=_;rw[wey];rfl
 have d:(lj st sp n).length=n:=by unfold lj;rw[wa0,waO]
 rw[QY]at m;refine⟨_,l,_,rfl,rfl,aE.of m,?_,?_⟩
 ·have u:∀r:List Nat,((r.map λc=>(⟨#[c]⟩:Str)).map (·.length)).sum=r.length:=by
   intro r
   induction r with
   |nil=>rfl
   |cons c r ih=>rw[wao,wao,waZ,ih,waF];show 1+r.length=_;lia
  rw[u,wa0,d];show n+n*0<=16777216
  lia
 have I:∀r:List Nat,((r.map λc=>(⟨#[c]⟩:Str)).map ch).flatten=r:=by
  intro r
  induction r with
  |nil=>rfl
  |cons c r ih=>rw[wao,wao,wbZ,ih];rfl
 have X5:=AH hst X2 n1 (x:=wdp "" ((lj st sp n).map λc=>(⟨#[c]⟩:Str))) (by rw[pN (by decide+kernel),I]);have Be:(wdp "" ((lj st sp n).map λc=>(⟨#[c]⟩:Str))).length=n:=by rw[<-aR,pN (by decide+kernel),I,d]
 generalize wdp "" ((lj st sp n).map λc=>(⟨#[c]⟩:Str))=g at X5 Be ⊢;clear m QY d I;have X6:=X3.trans s5;have h5x:=s5 _ _ f;obtain⟨nw,hnw,nw6⟩:=NK _ (wbl x3 (show (8:Int)≠0 by decide)) (wbi x3 (show (0:Int)<8 by decide));refine⟨waJ _,λJ M=>?_⟩;have fw:H J=none:=none_of X6 M;have h6x:=a7.upd (o:=.lst []) M _ _ h5x;have Qp:=X6.trans (a7.upd (o:=.lst []) M);refine⟨by decide,λp3 O=>?_⟩;have X7:=a7.upd (o:=.lst [.int 0,.int 1,.int 2,.int 3,.int 1,.int 2,.int 3,.int 6]) O _ _ h6x;have X8:=a7.upd (o:=.lst [.int 0,.int 1,.int 2,.int 3,.int 1,.int 2,.int 3,.int 6]) O _ _ (a6 (H:=H5) (a:=J) (o:=.lst []));have RW:=Qp.trans (a7.upd (o:=.lst [.int 0,.int 1,.int 2,.int 3,.int 1,.int 2,.int 3,.int 6]) O);refine⟨_,rfl,lx,_,3,_,rfl,rfl,aE.of X7,rfl,_,_,rfl,rfl,(by show (0:Int)<8;decide),p3,_,_,_,rfl,rfl,aE.of a6,hnw,?_⟩;generalize upd (upd H5 J _) p3 _=H7 at X7 X8 RW;refine⟨_,rfl,by lia,by lia,?_⟩;rw[waA]
 refine da (lo:=0) (n:=nw) (λi σ H8=>∃(R:List Str) (v7 v8 v9:Option V),σ=[some (.ref a),some (.str f5),some (.ref lx),some (.int (n:Int)),some (.int (sp:Int)),some (.str g),some (.ref J),v7,v8,v9]/\a7 H H8/\H8 J=some (.lst (R.map V.str))/\R.length=i/\∀w∈R,yj g w)
  ⟨[],none,none,none,rfl,RW,X8,rfl,(λw h=>nomatch h)⟩ ?_ ?_
 ·rintro i σ H8 hi ⟨R,v7,v8,v9,rfl,s8,h8,BO,S⟩;refine⟨_,rfl,_,rfl,_,_,rfl,rfl,(by show (0:Int)<3;decide),_,_,rfl,rfl,a,ns,_,rfl,s8.seq hS,λcc H9 s9=>?_⟩;refine⟨cc,12,rfl,by decide,λly ys LO FC fy Nt hy=>?_⟩;have hq:(0+(i:Int))/3*6=((i/3*6:Nat):Int):=by lia
  have hq6:i/3*6<=6:=by lia
  refine⟨_,rfl,_,_,rfl,rfl,⟨by decide,by decide⟩,_,_,rfl,rfl,.inr ⟨by decide,by decide⟩,_,rfl,ly,_,rfl,aE.of Nt,λl2 m=>?_⟩
  have ec:j9 (ys.map V.int) (some ((0+(i:Int))/3*6)) none=(ys.drop (i/3*6)).map V.int:=by
   rw[we5,hq];exact A1 _ _
  rw[ec];have U:(ys.drop (i/3*6)).length ≥ 6:=by rw[wbm];lia
  generalize ys.drop (i/3*6)=zs at U;have B:(upd LO l2 (.lst (zs.map V.int))) l2=some (.lst (zs.map V.int)):=a6;have Jg:=((s8.trans s9).trans FC).trans (a7.upd (o:=.lst (zs.map V.int)) m);have QC:=a7.upd (o:=.lst (zs.map V.int)) m _ _ (FC _ _ (s9 _ _ h8));generalize upd LO l2 _=FY at B Jg QC
  obtain⟨C,D,rfl⟩:∃C D,zs=C::D:=by
   cases zs with
   |nil=>exact absurd U (by decide)
   |cons C D=>exact⟨C,D,rfl⟩
  obtain⟨lg,hlg,lg1,lg5⟩:=NM _ (wbl C (show (8:Int)≠0 by decide)) (wbi C (show (0:Int)<8 by decide));refine⟨by decide,λp4 X=>?_⟩;have v:=a7.upd (o:=.lst [.int 2,.int 3,.int 4,.int 2,.int 3,.int 4,.int 1,.int 5]) X _ _ B;have KI:=Jg.trans (a7.upd (o:=.lst [.int 2,.int 3,.int 4,.int 2,.int 3,.int 4,.int 1,.int 5]) X);have Y:=a7.upd (o:=.lst [.int 2,.int 3,.int 4,.int 2,.int 3,.int 4,.int 1,.int 5]) X _ _ QC;refine⟨_,rfl,l2,_,0,_,rfl,rfl,aE.of v,(bB (xs:=(C::D).map V.int) (j:=0) rfl),_,_,rfl,rfl,(by show (0:Int)<8;decide),p4,_,_,_,rfl,rfl,aE.of a6,hlg,?_⟩;generalize upd FY p4 _=KH at v KI Y;refine⟨_,rfl,.inl ⟨rfl,_,aE.of Y⟩,rfl,_,rfl,?_⟩;refine⟨_,rfl,_,rfl,_,_,rfl,rfl,_,rfl,l2,_,rfl,aE.of v,λl3 JG=>?_⟩
  obtain⟨ms,em,Ub⟩:∃ms:List Int,j9 ((C::D).map V.int) (some 1) (some (1+(lg:Int)))=ms.map V.int/\ms.length=lg:=by
   refine⟨D.take lg,?_,by rw[wak];rw[waF]at U;lia⟩;rw[show (1+(lg:Int))=((1+lg:Nat):Int) by lia,show (1:Int)=((1:Nat):Int) from rfl,Kd _ (by lia),wcW];show (((D.map V.int).take (1+lg-1)))=_;rw[wck]
  rw[em];have NN:=KI.trans (a7.upd (o:=.lst (ms.map V.int)) JG);have RO:=a7.upd (o:=.lst (ms.map V.int)) JG _ _ Y;refine⟨l3,rfl,⟨_,aE.of a6⟩,λlc FX=>?_⟩
  have X9:0<(n:Int):=by
   simp only[waD,wbu,or_false]at n1
   lia
  refine GP (λy=>∃t,y=.str t/\∃cc,t=⟨#[cc]⟩/\cc∈ch g) (aI K l3 (ms.map V.int)) FX (by rw[wa0];exact aq (by lia)) (λH' s'=>s'.seq (aE.of a6)) (λx NP Q' hx Z q=>?_) (λus NP Z d hR UO=>?_)
  ·obtain⟨y,hy,rfl⟩:=waa.mp hx;have y0:=wbl y (show (n:Int)≠0 by lia);have y1:=wbi y X9;obtain⟨dd,edd⟩:∃dd:Nat,y%(n:Int)=(dd:Int):=⟨(y%(n:Int)).toNat,by lia⟩;have hd:dd<(ch g).length:=by rw[aR];lia
   have e1:(ch g)[dd]?=some (ch g)[dd]:=by simp[hd]
   have e2:=bB e1;rw[<-edd]at e2;exact⟨_,rfl,_,rfl,_,rfl,_,_,rfl,rfl,X9,g,_,_,rfl,rfl,aq (by lia),e2,q _ NP ⟨_,rfl,_,rfl,waE hd⟩ (a7.refl _)⟩
  obtain⟨ts,rfl,Xa⟩:=DF hR;rw[wa0,wa0]at d;have u:=zR Xa;refine⟨_,lc,ts,rfl,rfl,aE.of UO,?_,?_⟩
  ·rw[u];show ts.length+ts.length*0<=16777216
   lia
  have Xb:yj g (wdp "" ts):=Ez (by decide+kernel) (by lia) (by lia) Xa;generalize wdp "" ts=wd at Xb;have UP:=NN.trans Z;have UQ:=Z _ _ RO;refine⟨J,_,_,rfl,rfl,UQ,by rw[wa0];exact bF (by lia),?_⟩;refine⟨R++[wd],_,_,_,rfl,λb o e=>?_,?_,by simp[BO],λw hw=>?_⟩
  ·rw[ae (af e fw)];exact UP _ _ e
  ·rw[a6,wal];rfl
  ·rcases waC.mp hw with z |z
   ·exact S w z
   ·rw[wan.mp z];exact Xb
 ·rintro σ H8 ⟨R,v7,v8,v9,rfl,s8,h8,BO,S⟩;refine⟨_,rfl,_,rfl,by show 2<=sizeLine;decide,λq hq=>?_⟩;exact k q J g R _ (s8.trans (a7.upd hq)) (none_of s8 hq) fw a6 (a7.upd hq _ _ h8) X5 (by lia) S
theorem IX{n:Nat}{many wide:Int}(r:2<=n)(l:n<=4)(p:2<=many)(m8:many<=8)(g:1<=wide)(j:wide<=6)(h:2<n->wide<=3):fO n many wide:=by
 have key:∀(m:Fin 5) (k:Fin 7),(2<m.val->k.val<=3)->(m.val:Int)^k.val<=64:=by decide
 obtain⟨k,rfl⟩:=wfz (wdR (by decide) g);exact⟨p,m8,g,j,key ⟨n,wh3 l⟩ ⟨k,wh3 (Int.ofNat_le.mp j)⟩ λz=>Int.ofNat_le.mp (h z)⟩
noncomputable def UR:List (Int×Int):=[(2,2),(2,3),(4,3),(3,3),(2,4),(3,2),(5,3),(8,5),(2,1),(6,4),(7,5),(7,6)]
theorem NQ:∀d:Int,0<=d->d<12->∃p,UR[d.toNat]?=some p/\2<=p.1/\p.1<=8/\1<=p.2/\p.2<=6:=under 12 λk=>⟨UR.getD k.val (0,0),by revert k;decide⟩
theorem IY{X:Cx}{x:Str}{i:Nat}{g:List Expr}{ps:List (Int×Int)}{rest:List Stmt}{b:TS}{j l p:Pos}(r:X.N.Nodup)(hi:X.N[i]?=some x)(t:Loc X.env.scope x)(C:∀X,PA X g (uc ps))(I:sy X rest b)
 (hs:wc1 (.List g l) (some (.Name x j)) p.line X.env=pure false:=by rfl) (J:X.fn x=true\/X.env.scope.names.lookup x=some .local:=by first |exact .inl rfl |exact .inr rfl |assumption) :
 sy X (.Assign [.Name x j] (.List g l) p::rest) (M9 (Jn (OX (uc ps)) (eV i)) b):=a5 (G9 (i:=i) r hi t (ck (C _)) hs J) I
theorem yV(L:Lk K mg):aO P w K mg base cP 2 L.rz L.rN ["_law_script","_law_signs"] (Kf K):=by
 have T:=L.T;refine L.m6.F.dq (N:=["_law_script","_law_signs","_law_some","_law_many","_law_wide"]) (λV A outer s H vs Q E nd hr h=>?_);obtain⟨a,ns,g,rfl,Y,u,v,k⟩:=h;obtain⟨x,l,y,B,Z,C,D⟩:∃(x:Pos) (l:List Expr) (y B:Pos),bM (top 86)=.Assign [.Name "_law_some" x] (.List l y) B::(bM (top 86)).tail/\(∀X,PA X l (uc UR))/\∀env,wc1 (.List l y) (some (.Name "_law_some" x)) B.line env=pure false:=⟨_,_,_,_,rfl,λ_=>by repeat first |exact fK |refine Kg ?_,λ_=>rfl⟩;rw[Z]
 refine⟨_,(IY (i:=2) nd rfl (wd3 rfl) C (a5 (sW (aX aW (pv 2) (aN dk (ai (kd L) L.gz (a8 (pv 0) (aG aj))) aj) (λ_ _=>rfl)) (dU rfl (aL (ax (i:=3)) (aL (ax (i:=4)) cG))))
  (JR (bj (cq kL (Ae T.len (pv 1)) aj) (a9 (ag (i:=4) (aP (wC rfl) (by rfl) T.min MO (a8 (pv 4) (aG aj))))) aH)
  (a9 (ay (dW (a8 (pv 3) (aG (pv 4)))))))) (D _)),?_⟩
 try dsimp only[dj,di,b0,b6]
 refine DS λe G I hl hI=>⟨hl ▸ (by show 12<=sizeLine;decide),λb f=>?_⟩;have d:=I.trans (a7.upd (o:=.lst G) f);have M:=a6 (H:=e) (a:=b) (o:=.lst G);have O:=a7.upd (o:=.lst G) f;generalize upd e b _=G12 at d M O;refine⟨_,rfl,_,rfl,a,ns,4,rfl,d.seq Y,λc H2 J=>?_⟩;have R:=wbl c (show (12:Int)≠0 by decide);obtain⟨⟨many,wide⟩,m,m2,m8,n,r⟩:=NQ _ R (wbi c (show (0:Int)<12 by decide));obtain⟨q,t,hm⟩:=hI _ _ m;have t:=bB t;rw[wgB R]at t;have j:=d.trans J;refine⟨_,_,rfl,rfl,(by show (0:Int)<12;decide),b,_,_,_,rfl,rfl,aE.of (J _ _ M),t,q,_,rfl,hZ.of (J _ _ (O _ _ hm)),rfl,_,_,rfl,_,_,rfl,rfl,?_⟩;refine⟨λσ S=>S=H2/\∃(wd:Int),σ=[some (.ref a),some (.str g),some (.ref b),some (.int many),some (.int wd)]/\1<=wd/\wd<=6/\(2<g.length->wd<=3),?_,?_⟩
 ·refine⟨_,rfl,g,rfl,aq (by lia),_,_,rfl,rfl,_,rfl,By (λU=>?_) (λU=>?_)⟩
  ·refine⟨_,rfl,wide,3,rfl,?_⟩
   by_cases z:(3:Int)<wide
   ·rw[if_pos z];exact⟨rfl,3,rfl,by decide,by decide,λ_=>weL _⟩
   ·rw[if_neg z];exact⟨rfl,wide,rfl,n,r,λ_=>by lia⟩
  ·exact⟨rfl,wide,rfl,n,r,λz=>absurd (decide_eq_true (by lia)) U⟩
 ·rintro σ S ⟨rfl,wd,rfl,n,r,w3⟩;refine⟨_,rfl,_,rfl,by show 2<=sizeLine;decide,λp m=>?_⟩;exact k p many wd _ (j.trans (a7.upd m)) (none_of j m) a6 (IX u v m2 m8 n r w3)
end
end K72
namespace L2
open PySem PySem.Spec PyProof.Rows
section
variable{X:Cx}
end
end L2
namespace Bs
open PySem L2 Sx
open Classical in
noncomputable def UT(R:Wr)(bs:List Str)(w:Str)(us:List Str):V:=if bears R.bw (cat bs)=true then .non else if h:∃i,xV R.ss R.hk R.wl (cat bs) w us i then .int ((whg h:Nat):Int) else .non
noncomputable def NR(R:Wr)(all:List Str)(k:Nat):List Str:=(all.take (k+(R.b+1+R.c))).drop k
noncomputable def zaj(R:Wr)(all:List Str)(k:Nat):V:=UT R ((NR R all k).take R.b) ((NR R all k).getD R.b "") ((NR R all k).drop (R.b+1))
end Bs
namespace L2
open PySem PySem.Spec PyProof.Rows
theorem AI{xs:List V}{us:List Value}(r:Vals xs us):∀{ws:List Value},(∀u∈ws,u∈us)->∃ys,Vals ys ws/\∀y∈ys,y∈xs
 |[],_=>⟨[],.nil,λ_ h=>nomatch h⟩
 |w::ws,h=>by
  obtain⟨ys,c,d⟩:=AI r (ws:=ws) λu f=>h u (wac _ f);obtain⟨i,hi,e⟩:=wdq.mp (h w (wad ..));have a:i<xs.length:=by rw[r.length];exact hi
  obtain⟨u,b,g⟩:=r.get (wa1 a);rw[wa1 hi,e]at b;cases b
  exact⟨_,.cons g c,λy j=>by
   rcases waD.mp j with rfl |q
   ·exact waE a
   ·exact d y q⟩
theorem IZ(g:List Value)(lo hi st:Option Int):∀u∈(weN g.toArray lo hi st).toList,u∈g:=λu h=>by
 unfold weN at h;rw[weE]at h;obtain⟨i,_,e⟩:=wd0.mp h;rw[wei]at e;exact wa8 e
section
variable{X:Cx}{e:Expr}{te:TE}{lo hi:Option Expr}{st:Expr}{tl th ts:TO}{pos p2:Pos}
end
end L2
namespace L2
open PySem PySem.Calls PySem.Spec PyProof.Rows
section
variable{X:Cx}{elts:List Expr}{k:Nat}{OV:Pos}
end
theorem vo{ns:List Int}:∀{ys:List V},(∀y∈ys,y∈ns.map V.int)->∃g:List Int,ys=g.map V.int
 |[],_=>⟨[],rfl⟩
 |y::ys,h=>by
  obtain⟨g,rfl⟩:=vo (ys:=ys) λu a=>h u (wac _ a);obtain⟨m,_,rfl⟩:=waa.mp (h y (wad ..));exact⟨m::g,rfl⟩
end L2
namespace Bs
open PySem L2 Sx
noncomputable def NS(many:Int):V->V
 |.int c=>.int (c%many)
 |_=>.non
theorem AJ{many:Int}(j:2<=many)(g:List Int):∃ts:List Nat,(g.map V.int).map (NS many)=(nI ts).map V.int/\ts.length=g.length/\∀t∈ts,(t:Int)<many:=by
 refine⟨g.map λc=>(c%many).toNat,?_,by rw[wa0],λt a=>?_⟩
 ·unfold nI;rw[waf,waf,waf];refine waY λc hc=>?_;have:=wbl c (show many≠0 by omega);show V.int (c%many)=V.int (((c%many).toNat:Nat):Int);rw[wgB this]
 ·obtain⟨c,_,rfl⟩:=waa.mp a;have:=wbl c (show many≠0 by omega);have:=wbi c (show 0<many by omega);omega
end Bs
namespace L2
open PySem PySem.Spec PyProof.Rows
theorem J0{α β:Type}{f:α->Option β}:∀{l:List α},(∀x∈l,(f x).isSome=true)->(l.filterMap f).length=l.length
 |[],_=>rfl
 |x::l,h=>by
  obtain⟨y,a⟩:=wfi.mp (h x (wad ..));rw[wb5,a,waF,waF,J0 λz b=>h z (wac _ b)]
theorem J1(g:List Value)(a b:Nat):(weN g.toArray (some (a:Int)) (some (b:Int)) (some 2)).toList.length=(min b g.length-min a g.length+1)/2:=by
 unfold weN sliceRange wfS;rw[weE];simp only[wfl,waz,show (2:Int)>0 by decide,if_true,show ¬(a:Int)<0 by omega,show ¬(b:Int)<0 by omega,if_false];rw[J0,wa0,waO]
 ·split<;>omega
 ·intro x c;obtain⟨i,hi,rfl⟩:=waa.mp c;rw[wb3]at hi;rw[wei,wa1]
  ·rfl
  ·split at hi<;>omega
section
variable{X:Cx}{e:Expr}{te:TE}{lo hi:Option Expr}{st:Expr}{tl th ts:TO}{pos p2:Pos}
def UU(K:wa2)(te:TE)(tl th ts:TO):TE:=λσ H Q=>te σ H λx H1=>tl σ H1 λl H2=>th σ H2 λu H3=>ts σ H3 λk H4=>∃a xs,∃b c:Nat,x=.ref a/\l=some (b:Int)/\u=some (c:Int)/\k=some 2/\aE K H4 a xs/\∀ys:List V,(∀y∈ys,y∈xs)->ys.length=(min c xs.length-min b xs.length+1)/2->∀p,H4 p=none->Q (.ref p) (upd H4 p (.lst ys))
theorem xX(he:PE X e te)(hl:PO X lo tl)(J:PO X hi th)(hs:PO X (some st) ts):PE X (.Subscript e (.Slice lo hi (some st) p2) pos) (UU X.K te tl th ts):=by
 refine⟨?_⟩;intro d s σ H Q I h;refine wgi (bI (he d s σ H _ I h) λv E ⟨x,G,L,M,N⟩=>?_);refine wpAny_Slice (bI (hl d E σ G _ L N) λp O ⟨l,R,S,pl,T⟩=>bI (J d O σ R _ S T) λt U ⟨u,V,Y,Z,q3⟩=>bI (hs d U σ V _ Y q3) λy f ⟨k,H4,I4,pk,q4⟩=>?_);obtain⟨a,B,b,c,rfl,rfl,rfl,rfl,hx,q⟩:=q4;cases M;have j:Inv X d σ H4 {f with heap:=f.heap.push {cls:=.type "slice",data:=.fields #[p,t,y]}}:=I4.kept (t':=f.toks) λb ob q=>wa9 _ q;obtain⟨g,r,C,hz⟩:=j.list hx;have i:=r.length;obtain⟨m,D,hm⟩:=AI r (IZ g (some (b:Int)) (some (c:Int)) (some 2));have n:m.length=(min c B.length-min b B.length+1)/2:=by rw[D.length,i];exact J1 g b c
 show wpAny (model X.prog X.w) X.A (weS e (.Slice lo hi (some st) p2) (.ref a) (.ref f.heap.objs.size)) (EP X d σ Q) X.xe {f with heap:=f.heap.push {cls:=.type "slice",data:=.fields #[p,t,y]}};refine tail_any (ops:=[.ref a,.ref f.heap.objs.size]) C.isList.typeIs wf0.lookup ?_ (by with_unfolding_all rfl);refine wfj C.isList (wgJ ..) pl Z pk (by intro z;cases z) ?_ (by grind);refine⟨.ref _,_,j.laid (t':=f.toks) (o:=.lst m) (λb ob q=>wa9 _ q) (wab _) ?_,rfl,q m hm n _ (j.b7.fresh (wab _))⟩;exact⟨wai (by omega) hz,_,0,D,waw _ rfl⟩
end
end L2
namespace K72
open PySem L2 Bs Sx
section
variable{P:wap}{w:World}{K:wa2}{mg:Str->Option Value}{base:Heap}
noncomputable abbrev AK(R:Wr)(a lw x:Addr)(v6 v7 v8 v9 v10:Option V):St:=[some (.ref a),some (.str R.g),some (.ref lw),some (.int R.many),some (.int (R.n:Int)),some (.ref x),v6,v7,v8,v9,v10]
theorem sM(ts:List Nat)(j:Nat)(h:j<=ts.length):j9 ((nI ts).map V.int) none (some (j:Int))=(nI (ts.take j)).map V.int:=by
 rw[N1 _ j (by rw[wa0,cy];exact h)];unfold nI;rw[waf,waf,wcW]
theorem NT{f:Addr}{fd:waT}(L:Lk K mg)(F:zy K "law" "law" (top 92) f fd):aO P w K mg base cP 13 f fd ["_law_script"] (DH K):=by
 have T:=L.T;refine F.dq (N:=["_law_script","_law_signs","_law_words","_law_many","_law_wide","_law_told_here","_law_data","_law_other","_law_band_here","_law_rows","_law_numbers"]) (λgX A outer s H vs Q E nd hr h=>?_);obtain⟨a,ns,rfl,hS,hlen,k⟩:=h;have O8:(A.deeper (wcO "law" (aD (top 92)) s.heap.objs.size f gX)).units<wcw:=hr.t6
 refine⟨_,(a5 (sW (ai (yU L) L.m4 (aG (pv 0))) (dU rfl (aL (ax (i:=1)) (aL (ax (i:=2)) cG))))
  (a5 (sW (ai (yV L) L.m6 (a8 (pv 0) (aG (pv 1)))) (dU rfl (aL (ax (i:=3)) (aL (ax (i:=4)) cG))))
  (a5 (ag (i:=5) (ai (yT L) L.m7 (a8 (pv 1) (a8 (pv 2) (a8 (pv 3) (aG (pv 4)))))))
  (a5 (bj (cq Bm (pv 5) du) (a9 (ay iJ)) aH)
  (a5 (cW (i:=6) rfl (au ["_law_many"] [3]) nd rfl rfl (aK (xX (pv 0) (bL aj) (bL aj) (bL aj))) (λ_ _ _ _ _ _=>aY) (λ_ _ _ _ _ _=>(aN dk (pv 0) (pv 1))))
  (a5 (cW (i:=7) rfl (au ["_law_many"] [3]) nd rfl rfl (aK (xX (pv 0) (bL aj) (bL aj) (bL aj))) (λ_ _ _ _ _ _=>aY) (λ_ _ _ _ _ _=>(aN dk (pv 0) (pv 1))))
  (a5 (ag (i:=6) (d7 iK (pv 6) hF (bL (Ig T.len (pv 7)))))
  (a5 (ag (i:=8) (mm L.yD (jr L) (hr.mono (by decide)) rfl L.CW L.eC.b .nil o1 (a8 (pv 1) (aG (pv 2)))))
  (a5 (ag (i:=9) (ck (a8 (FW (pv 5) L.aA.cl L.fv (kG L) (aG (bE cA (by rfl) T.list iN (aG (pv 6))))) (aG (FW (pv 5) L.aA.cl L.fv (kG L) (aG (bE cA (by rfl) T.list iN (aG (pv 7)))))))))
  (a5 (bj (cq kL (Ae T.len (aX aW (pv 9) aj (λ_ _=>rfl))) aj) (a9 (ay iJ)) aH)
  (a5 (cW (i:=10) rfl (au ["_law_band_here","_law_signs","_law_words"] [8,1,2]) nd rfl rfl (aK (pv 9)) (λ_ _ _ _ _ _=>aY) (λ_ _ _ _ _ _=>(ai (qx L) L.gN (a8 (pv 1) (a8 (pv 0) (a8 (pv 2) (aG (pv 3))))))))
  (a5 (bj (PW.pt (ee (eW pL du (pv 10) rfl) (fI (cq wB (cT nW (aX aW (pv 10) aj (λ_ _=>rfl)) (aX aW (pv 10) aj (λ_ _=>rfl)) (gE _)) (cT (BD O8) (pv 6) (pv 7) (gE _)))))) (a9 (ay iJ)) aH)
  (a9 (ay (cT nW (cT gW (aX aW (pv 10) aj (λ_ _=>rfl)) (aX aW (pv 10) aj (λ_ _=>rfl)) (gE _)) (cT (IQ O8) (ai (iZ L) L.fX (a8 (aX aW (pv 9) aj (λ_ _=>rfl)) (aG (pv 1)))) (ai (iZ L) L.fX (a8 (aX aW (pv 9) aj (λ_ _=>rfl)) (aG (pv 1)))) (gE _)) (gE _)))))))))))))))),?_⟩
 try dsimp only[dj,di,b0,b6]
 refine xC λR1 c1=>?_;refine⟨_,rfl,a,ns,rfl,hS,λpt G g ws H1 s1 fpt flw hpt LN J RC m=>?_⟩;have g2:=J.lo;have g4:=J.hi;refine⟨pt,_,rfl,hZ.of hpt,rfl,_,_,rfl,_,_,rfl,rfl,?_⟩;refine c1 _ _ (xC λR2 c2=>?_);refine⟨_,rfl,_,rfl,a,ns,g,rfl,s1.seq hS,g2,g4,λpr many wide H2 s2 fpr UC IC=>?_⟩;refine⟨pr,_,rfl,hZ.of UC,rfl,_,_,rfl,_,_,rfl,rfl,?_⟩;refine c2 _ _ (xC λR3 c3=>?_);obtain⟨ra,rb,rc,rd,re⟩:=id IC;obtain⟨wd,rfl⟩:∃w:Nat,wide=(w:Int):=⟨wide.toNat,by omega⟩;have Of:=s1.trans s2;refine⟨_,rfl,_,rfl,_,rfl,_,rfl,g,G,many,wd,ws,rfl,aE.of (s2 _ _ LN),J,RC,m,IC,λv H3 s3 hv=>?_⟩;have D2:=Of.trans s3;have QZ:=s3 _ _ (s2 _ _ LN);refine c3 _ _ (xC λR4 c4=>?_);rcases hv with rfl |⟨x,rfl,hT⟩
 ·exact⟨_,rfl,rfl,true,rfl,eE (k H3)⟩
 refine⟨_,rfl,rfl,false,rfl,bx ?_⟩;refine c4 _ _ (xC λR5 c5=>?_)
 obtain⟨R,Wv,rfl,rfl,rfl,rfl,C⟩:∃R:Wr,Dd K L.ao L.az L.aV H3 x R/\many=R.many/\wd=R.n/\g=R.g/\ws=R.bw/\∀d:List Nat,(∀t∈d,(t:Int)<R.many)->bears R.bw (nQ R.wl R.b R.c d)=false:=by
  obtain⟨xb,ss,ls,f0,f,pH,ks,hs,wss,lns,b,B,Wv,QF,hL,hle,hP,W0,hB⟩:=hT;exact⟨_,KS B Wv hP W0 hB J.nd (λw h=>⟨(m w h).lo,by have:=(m w h).hi;omega⟩) (by omega) (by omega) (by omega) rb (by omega) (by omega),rfl,rfl,rfl,rfl,λd hu=>IJ hP B.pm (λw h=>(m w h).lo) (λp hp=>B.lv.sub.subset hp) W0 (by omega) hu⟩
 have ok:=Wv.ok;refine⟨_,rfl,_,rfl,_,rfl,_,rfl,a,_,5,35,rfl,rfl,rfl,rfl,D2.seq hS,λys1 Xc LL la Ol=>?_⟩;obtain⟨m1,rfl⟩:=vo Xc;rw[wa0,wa0]at LL;refine⟨la,rfl,⟨_,aE.of a6⟩,λlb UW=>?_⟩;have t1:=a7.upd (H:=H3) (o:=.lst (m1.map V.int)) Ol;have g1:(upd H3 la (.lst (m1.map V.int))) la=some (.lst (m1.map V.int)):=a6;generalize upd H3 la (.lst (m1.map V.int))=H4 at UW t1 g1;refine comp_map (NS R.many) (aI K la _) UW (by rw[wa0];exact aq (by omega)) (λH' s'=>aE.of (s' _ _ g1)) (λz H5 Q' hz s5 q=>?_) (λH5 s5 h5=>?_)
 ·obtain⟨c,hc,rfl⟩:=waa.mp hz;exact⟨_,rfl,_,rfl,_,_,rfl,rfl,by omega,q H5 (a7.refl _)⟩
 obtain⟨UX,e1,tl1,Xd⟩:=AJ ra m1;rw[e1]at h5;have QA:=t1.trans s5;clear t1 g1 s5 Xc e1;refine c5 (AK R a G x (some (.ref lb)) none none none none) _ (xC λR6 c6=>?_);refine⟨_,rfl,_,rfl,_,rfl,_,rfl,a,_,6,36,rfl,rfl,rfl,rfl,(D2.trans QA).seq hS,λys2 Xe LV lc FX=>?_⟩;obtain⟨m2,rfl⟩:=vo Xe;rw[wa0,wa0]at LV;refine⟨lc,rfl,⟨_,aE.of a6⟩,λld Oc=>?_⟩;have t2:=a7.upd (H:=H5) (o:=.lst (m2.map V.int)) FX;have UY:(upd H5 lc (.lst (m2.map V.int))) lc=some (.lst (m2.map V.int)):=a6;generalize upd H5 lc (.lst (m2.map V.int))=H6 at Oc t2 UY;refine comp_map (NS R.many) (aI K lc _) Oc (by rw[wa0];exact aq (by omega)) (λH' s'=>aE.of (s' _ _ UY)) (λz H7 Q' hz s7 q=>?_) (λH7 s7 h7=>?_)
 ·obtain⟨c,hc,rfl⟩:=waa.mp hz;exact⟨_,rfl,_,rfl,_,_,rfl,rfl,by omega,q H7 (a7.refl _)⟩
 obtain⟨d,e2,tl2,um⟩:=AJ ra m2;rw[e2]at h7;have Xf:=t2.trans s7;clear t2 UY s7 Xe e2;refine c6 (AK R a G x (some (.ref lb)) (some (.ref ld)) none none none) _ (xC λR7 c7=>?_);have UZ:d.length<=UX.length:=by omega
 have Nm:((nI d).map V.int).length=d.length:=by rw[wa0,cy]
 refine⟨_,rfl,_,rfl,ld,_,rfl,.inl (aE.of h7),?_⟩;rw[Nm];refine⟨_,rfl,lb,_,rfl,aE.of (Xf _ _ h5),λle hle=>?_⟩;rw[sM UX d.length UZ];obtain⟨j,QY,tl,tm⟩:∃j,UX.take d.length=j/\j.length=d.length/\∀t∈j,(t:Int)<R.many:=⟨_,rfl,by rw[wak];omega,λt h=>Xd t (wcH h)⟩;rw[QY];have t8:=a7.upd (H:=H7) (o:=.lst ((nI j).map V.int)) hle;have h8:(upd H7 le (.lst ((nI j).map V.int))) le=some (.lst ((nI j).map V.int)):=a6;show eV 6 (V.ref le) _ _ _;generalize upd H7 le (.lst ((nI j).map V.int))=H8 at t8 h8;have V0:=QA.trans (Xf.trans t8);have Xg:=t8 _ _ h7;clear QY Xd h5 h7 hle UW Oc Ol FX;refine c7 (AK R a G x (some (.ref le)) (some (.ref ld)) none none none) _ (xC λR8 c8=>?_);refine⟨_,rfl,_,rfl,λyb dyb RX M V1=>?_⟩;refine⟨yb,dyb,R.g,G,R.bw,rfl,a6,aE.of (dH RX M _ _ (V0 _ _ QZ)),J,RC,m,λss ls H9 B9 Xh=>⟨rfl,?_⟩⟩;have s9:a7 H8 H9:=λb o e=>Xh b o (dH RX M _ _ e) (af e RX);have yH:ss.length<=25:=B9.few RC m;clear Xh RX M V1;refine c8 (AK R a G x (some (.ref le)) (some (.ref ld)) (some (.ref yb)) none none) _ (xC λR9 c9=>?_);have Xi:=V0.trans s9;have W9:=Wv.same Xi;have d9:=s9 _ _ h8;have u9:=s9 _ _ Xg;have V2:=Xi _ _ QZ;obtain⟨⟨dx,p,xb',aa,ll,dp,wa,wb,wc,wz,ys,hx,_⟩,_⟩:=id W9;clear Wv V0 h8 Xg;refine⟨_,rfl,x,dx,_,rfl,hx,vh _ _ _ _ _ _ _ _ (by decide+kernel),_,rfl,le,_,rfl,.inl (aE.of d9),λl1 LL=>?_⟩;have a1:=a7.upd (H:=H9) (o:=.lst ((nI j).map V.int)) LL;refine⟨x,l1,R,j,rfl,W9.same a1,a6,tm,by omega,λLO FC=>?_⟩;have r:=a1.trans FC;clear a1 FC;refine⟨_,rfl,x,dx,_,rfl,r _ _ hx,vh _ _ _ _ _ _ _ _ (by decide+kernel),_,rfl,ld,_,rfl,.inl (aE.of (r _ _ u9)),λl2 LV=>?_⟩;have a2:=a7.upd (H:=LO) (o:=.lst ((nI d).map V.int)) LV;refine⟨x,l2,R,d,rfl,W9.same (r.trans a2),a6,um,by omega,λFY Jg=>?_⟩;have Ra:=r.trans (a2.trans Jg);clear a2 Jg r;obtain⟨al,O⟩:=QV ok tm;obtain⟨bl,hB⟩:=QV ok um;have Xj:=C j tm;have Xk:=C d um;have S:nQ R.wl R.b R.c j=nQ R.wl R.b R.c d->j=d:=λe=>FL.inj ok O hB tl (by rw[<-O.row,<-hB.row];exact e);have U:j=d->nQ R.wl R.b R.c j=nQ R.wl R.b R.c d:=λe=>by rw[e]
 have i0:=AG O;have i1:=AG hB
 have X:(nQ R.wl R.b R.c d).length=(nQ R.wl R.b R.c j).length:=by
  rw[O.row,hB.row,pj λu h=>(O.u u h).1,pj λu h=>(hB.u u h).1,O.l,hB.l,tl]
 rw[<-O.row]at i0;rw[<-hB.row]at i1
 have Rb:(nQ R.wl R.b R.c j).length<=65536:=by
  rw[O.row,pj λu h=>(O.u u h).1,O.l];have:=ok.b1;have:=ok.c1;exact wai (wdj ok.KN (show R.b+j.length+R.c<=2100 by omega)) (by decide)
 generalize nQ R.wl R.b R.c j=y at Xj S U i0 X Rb;generalize nQ R.wl R.b R.c d=Y at Xk S U i1 X;clear O hB C;refine⟨by show 2<=sizeLine;decide,λI Xl=>?_⟩;have a3:=a7.upd (H:=FY) (o:=.lst [.str y,.str Y]) Xl;have Z:(upd FY I (.lst [.str y,.str Y])) I=some (.lst [.str y,.str Y]):=a6;generalize upd FY I (.lst [.str y,.str Y])=KH at a3 Z;have NU:=Ra.trans a3;clear a3 Ra Xl LL LV;refine c9 (AK R a G x (some (.ref le)) (some (.ref ld)) (some (.ref yb)) (some (.ref I)) none) _ (xC λR10 c10=>?_);refine⟨_,rfl,I,_,_,_,rfl,rfl,aE.of Z,rfl,y,rfl,aq (by omega),?_⟩;refine⟨_,_,rfl,rfl,_,rfl,By (λh=>?_) (λh=>?_)⟩
 ·exact k KH
 have V3:y.length<=200:=by
  have:=of_decide_eq_false (wh2.mpr h);omega
 clear h Rb;refine c10 (AK R a G x (some (.ref le)) (some (.ref ld)) (some (.ref yb)) (some (.ref I)) none) _ (xC λR11 c11=>?_);obtain⟨k0,q0⟩:=Ed Xj i0;obtain⟨k1,q1⟩:=Ed Xk i1;rw[X]at q1;have NV:Y=y->k1=k0:=λe=>u5 (pZ J.nd "" y.length) (e ▸ q1) q0;have Xm:=B9.same NU;have w12:=NU _ _ V2;refine⟨_,rfl,I,rfl,⟨_,aE.of Z⟩,λln Iq=>?_⟩;refine comp_map (λv=>if v=.str y then V.int (k0:Int) else V.int (k1:Int)) (aI K I _) Iq (by show 2<=sizeLine;decide) (λH' s'=>aE.of (s' _ _ Z)) (λz RN Q' hz NN q=>?_) (λRN NN D=>?_)
 ·have hz':z=.str y\/z=.str Y:=by
   simp only[waD,wbu,or_false]at hz;exact hz
  have Xn:=Xm.same NN;have w13:=NN _ _ w12;rcases hz' with rfl |rfl
  ·refine⟨_,rfl,_,rfl,_,rfl,_,rfl,yb,G,k0,y,R.g,R.bw,ss,ls,rfl,Xn,w13,λw h=>(m w h).lo,J.nd,by omega,by omega,by omega,V3,q0,λNP Rc=>?_⟩;have:=q NP Rc;rwa[if_pos rfl]at this
  ·refine⟨_,rfl,_,rfl,_,rfl,_,rfl,yb,G,k1,Y,R.g,R.bw,ss,ls,rfl,Xn,w13,λw h=>(m w h).lo,J.nd,by omega,by omega,by omega,by omega,by rw[X];exact q1,λNP Rc=>?_⟩;have:=q NP Rc
   by_cases e:Y=y
   ·rw[if_pos (by rw[e]),<-NV e]at this;exact this
   ·rwa[if_neg λz=>e (V.str.inj z)]at this
 have RP:[V.str y,V.str Y].map (λv=>if v=.str y then V.int (k0:Int) else V.int (k1:Int))=[V.int (k0:Int),V.int (k1:Int)]:=by
  rw[wao,wao,if_pos rfl]
  by_cases e:Y=y
  ·rw[if_pos (by rw[e]),NV e];rfl
  ·rw[if_neg λz=>e (V.str.inj z)];rfl
 rw[RP]at D;clear RP Iq Xm;refine c11 (AK R a G x (some (.ref le)) (some (.ref ld)) (some (.ref yb)) (some (.ref I)) (some (.ref ln))) _ (xC λR12 c12=>?_);have Rf:=NU.trans NN;refine⟨_,rfl,ln,_,rfl,.inl (aE.of D),rfl,rfl,false,rfl,bx ?_⟩;refine⟨_,rfl,ln,_,_,_,rfl,rfl,aE.of D,rfl,_,rfl,ln,_,_,_,rfl,rfl,aE.of D,rfl,rfl,?_⟩;refine⟨_,rfl,_,rfl,le,ld,_,_,rfl,rfl,aE.of (Rf _ _ d9),aE.of (Rf _ _ u9),fS _,fS _,?_⟩;rw[qe];have e01:decide (V.int (k0:Int)=V.int (k1:Int))=decide (j=d):=decide_eq_decide.mpr ⟨λe=>S ?_,λe=>?_⟩
 rotate_left
 ·obtain rfl:k0=k1:=Int.ofNat.inj (V.int.inj e);exact wae (q0.symm.trans q1)
 ·rw[NV (U e).symm]
 rw[e01];refine⟨rfl,false,tQ _,bx ?_⟩;refine c12 (AK R a G x (some (.ref le)) (some (.ref ld)) (some (.ref yb)) (some (.ref I)) (some (.ref ln))) _ ?_;have Xo:=NN _ _ Z;refine⟨_,rfl,ln,_,_,_,rfl,rfl,aE.of D,rfl,_,rfl,ln,_,_,_,rfl,rfl,aE.of D,rfl,_,_,rfl,rfl,?_⟩;refine⟨_,rfl,I,_,_,_,rfl,rfl,aE.of Xo,rfl,_,rfl,y,R.g,rfl,i0,J.nd,by omega,by omega,λf0 NP Rc UO=>?_⟩;refine⟨_,rfl,I,_,_,_,rfl,rfl,aE.of (Rc _ _ Xo),rfl,_,rfl,Y,R.g,rfl,i1,J.nd,by omega,by omega,λf1 H15 UP UQ=>?_⟩;refine⟨f0,f1,_,_,rfl,rfl,aE.of (UP _ _ UO),aE.of UQ,by rw[pB,pB,X],?_⟩;rw[Eb J.nd q0 q1];refine⟨rfl,?_⟩;rw[show decide ((k0:Int)<(k1:Int))=decide (k0<k1) from decide_eq_decide.mpr (by omega)];exact C6 (V.bl (decide (k0<k1))) ▸ k H15
end
end K72
namespace K72
open PySem PySem.W L2 Bs Sx
theorem nz{K:Frag}{mg:Str->Option Value}{hp:Heap}{x:Str}(X:K.In hp)(G:hp.Ns waK mg)(a:nsIn K waK x=some none:=by k_is):mg x=none:=mg_none_of X G a
theorem na{K:Frag}{C:Addr}{f:Str}(a:findIn K (.ref C) f=some none:=by k_is):bQ K C f:=a
theorem fG{K:Frag}{mg:Str->Option Value}{hp:Heap}{f:Addr}{oc:Value}{od an:Option Addr}{Gw:Array (Option Value)}{kV doc pm gX ct:Value}(nm:Str)(st:Stmt)(ps:List Str)(X:K.In hp)(G:hp.Ns waK mg)(a:nsIn K waK nm=some (some (.ref f)):=by k_is)(l:K.lookup f=some ⟨oc,od,.func (fnOf nm nm (cV st) (bM st) (aD st) .none kV doc pm an gX ct),Gw⟩:=by k_is)(c:codeIn K gX nm=true:=by k_is)(k:keepIn K (.ref f)=true:=by k_is)(b:∀(kV doc pm:Value) (an:Option Addr) (gX ct:Value) (us:List Value),us.length=ps.length->bindArgs (fnOf nm nm (cV st) (bM st) (aD st) .none kV doc pm an gX ct) ⟨us,[]⟩=pure (ps.zip us):=by first |exact λ_ _ _ _ _ _=>L2.iI _ _ λ_=>rfl |exact λ_ _ _ _ _ _=>L2.iI _ _ λ_ _=>rfl |exact λ_ _ _ _ _ _=>L2.iI _ _ λ_ _ _=>rfl |exact λ_ _ _ _ _ _=>L2.iI _ _ λ_ _ _ _=>rfl |exact λ_ _ _ _ _ _=>L2.iI _ _ λ_ _ _ _ _=>rfl |exact λ_ _ _ _ _ _=>L2.iI _ _ λ_ _ _ _ _ _=>rfl):∃fd,FnAt K mg nm st ps f fd:=Raw.at_ X G a (BQ l c k) b
structure Xp(K:Frag)(mg:Str->Option Value)(x:Str)(C:Addr):Prop where
 g:mg x=some (.ref C)
 c:zp K C
 mi:makesIn K C=true
 kp:keepIn K (.ref C)=true
theorem RY{K:Frag}{mg:Str->Option Value}{hp:Heap}{C:Addr}(x:Str)(X:K.In hp)(G:hp.Ns waK mg)(a:nsIn K waK x=some (some (.ref C)):=by k_is)(b:plainGet K C why=true:=by k_is)(c:wen K C=true:=by k_is)(d:wg2 K C=true:=by k_is)(e:findIn K (.ref C) "__setattr__"=some (some (.builtin "object.__setattr__")):=by k_is)(f:makesIn K C=true:=by k_is)(g:keepIn K (.ref C)=true:=by k_is):Xp K mg x C:=⟨mg_of X G a,⟨b,c,d,e⟩,f,g⟩
theorem yW{K:Frag}{mg:Str->Option Value}{x:Str}{C f:Addr}{oc:Value}{od an:Option Addr}{Gw:Array (Option Value)}{kV doc pm gX ct:Value}(P:Xp K mg x C)(nm q:Str)(st:Stmt)(ps:List Str)(a:findIn K (.ref C) nm=some (some (.ref f)):=by k_is)(i:isFn K (.ref f)=true:=by k_is)(l:K.lookup f=some ⟨oc,od,.func (fnOf nm q (cV st) (bM st) (aD st) .none kV doc pm an gX ct),Gw⟩:=by k_is)(c:codeIn K gX q=true:=by k_is)(k:keepIn K (.ref f)=true:=by k_is)(b:∀(kV doc pm:Value) (an:Option Addr) (gX ct:Value) (us:List Value),us.length=ps.length->bindArgs (fnOf nm q (cV st) (bM st) (aD st) .none kV doc pm an gX ct) ⟨us,[]⟩=pure (ps.zip us):=by first |exact λ_ _ _ _ _ _=>L2.iI _ _ λ_=>rfl |exact λ_ _ _ _ _ _=>L2.iI _ _ λ_ _=>rfl |exact λ_ _ _ _ _ _=>L2.iI _ _ λ_ _ _=>rfl |exact λ_ _ _ _ _ _=>L2.iI _ _ λ_ _ _ _=>rfl |exact λ_ _ _ _ _ _=>L2.iI _ _ λ_ _ _ _ _=>rfl |exact λ_ _ _ _ _ _=>L2.iI _ _ λ_ _ _ _ _ _=>rfl):∃fd,dP K C nm q st ps f fd:=by
 obtain⟨fd,F,B⟩:=(BQ l c k).fn b;exact⟨fd,F,B,a,i,k⟩
theorem knA{K:Frag}{mg:Str->Option Value}{hp:Heap}{x:Str}{t:Tok}(X:K.In hp)(G:hp.Ns waK mg)(a:nsIn K waK "KNOWN_SIGNS"=some (some (.str x t)):=by k_is)(e:x=f5:=by first |rfl |decide+kernel):∃t,mg "KNOWN_SIGNS"=some (.str f5 t):=⟨t,e ▸ mg_of X G a⟩
theorem beA{K:Frag}{mg:Str->Option Value}{hp:Heap}{C:Addr}{q:Str}{N:Addr}{bs:List Value}{hd:Bool}{sn:List Str}{sub:List Value}{ab:Bool}{col:Option Bool}{dd:Option Addr}{k0 k1 k2 k3 k5:Option Value}(X:K.In hp)(G:hp.Ns waK mg)(a:nsIn K waK "BandError"=some (some (.ref C)):=by k_is)(l:K.lookup C=some (wbr "BandError" q C N bs Rp hd sn sub ab col dd k0 k1 k2 k3 k5 "ValueError.__new__"):=by k_is)(b:weQ K (.ref C) "__getattribute__"=some (some (.builtin "type.__getattribute__")):=by k_is)(c:readsIn K C (.type "type")=true:=by k_is)(d:findCls K (.ref C) (.type "type") "__init__"=some (.val (.builtin "ValueError.__init__")):=by k_is):mg "BandError"=some (.ref C)/\Hc K C "BandError"/\GU K C:=⟨mg_of X G a,K0 l,b,c,d⟩
theorem V4{K:Frag}{mg:Str->Option Value}{hp:Heap}{C CB:Addr}{q:Str}{N:Addr}{bs:List Value}{sn:List Str}{sub:List Value}{ab:Bool}{col:Option Bool}{dd:Option Addr}{k0 k1 k2 k3 k5:Option Value}(x:Str)(X:K.In hp)(G:hp.Ns waK mg)(B:Hc K CB "BandError")(a:nsIn K waK x=some (some (.ref C)):=by k_is)(l:K.lookup C=some (wbr x q C N bs (nr CB) true sn sub ab col dd k0 k1 k2 k3 k5 "ValueError.__new__"):=by k_is)(s:findIn K (.ref C) "__setattr__"=some (some (.builtin "object.__setattr__")):=by k_is)(g:findIn K (.ref C) "__getattribute__"=some (some (.builtin "BaseException.__getattribute__")):=by k_is)(h:findIn K (.ref C) "__getattr__"=some none:=by k_is)(k:keepIn K (.ref C)=true:=by k_is)(c:findIn K (.ref C) "__class__"=some (some (.builtin "object.__class__")):=by k_is)(n:weQ K (.builtin "object.__class__") "__get__"=some (some (.builtin "getset_descriptor.__get__")):=by k_is)(t:takesIn K (.builtin "object.__class__")=some true:=by k_is):mg x=some (.ref C)/\dX K C CB x/\Hd K C:=⟨mg_of X G a,⟨(JZ l).lk,s,g,h,k⟩,c,n,t⟩
theorem xiA{K:Frag}{C f:Addr}{oc:Value}{od an:Option Addr}{Gw:Array (Option Value)}{kV doc pm gX ct:Value}(Y:Hd K C)(q:Str)(st:Stmt)(ps:List Str)(nm:Str)(a:findIn K (.ref C) nm=some (some (.ref f)):=by k_is)(i:isFn K (.ref f)=true:=by k_is)(l:K.lookup f=some ⟨oc,od,.func (fnOf nm q (cV st) (bM st) (aD st) .none kV doc pm an gX ct),Gw⟩:=by k_is)(c:codeIn K gX q=true:=by k_is)(k:keepIn K (.ref f)=true:=by k_is)(b:∀(kV doc pm:Value) (an:Option Addr) (gX ct:Value) (us:List Value),us.length=ps.length->bindArgs (fnOf nm q (cV st) (bM st) (aD st) .none kV doc pm an gX ct) ⟨us,[]⟩=pure (ps.zip us):=by first |exact λ_ _ _ _ _ _=>L2.iI _ _ λ_=>rfl |exact λ_ _ _ _ _ _=>L2.iI _ _ λ_ _=>rfl |exact λ_ _ _ _ _ _=>L2.iI _ _ λ_ _ _=>rfl |exact λ_ _ _ _ _ _=>L2.iI _ _ λ_ _ _ _=>rfl |exact λ_ _ _ _ _ _=>L2.iI _ _ λ_ _ _ _ _=>rfl |exact λ_ _ _ _ _ _=>L2.iI _ _ λ_ _ _ _ _ _=>rfl):∃fd,zy K nm q st f fd/\Binds K fd ps []/\findIn K (.ref C) nm=some (some (.ref f))/\isFn K (.ref f)=true:=by
 obtain⟨fd,F,B⟩:=(BQ l c k).fn b;exact⟨fd,F,B,a,i⟩
theorem walk{l:weA}{q:wap}{loose:List Str}{XP:(Str->Option Value)->Heap->Prop}{YP:World->Heap->Prop}{d:DefRec}{K:Params->wa2}(hn:l.most=some 63)(hdf:d.params.defaults=[])
 (hY:∀(w:World) (h:Heap),YP w h->(K w.params).In h)
 (F:∀(w:World) (mg:Str->Option Value) (fa:Addr) (h:Heap),(K w.params).In h->h.Ns waK mg->mg d.name=some (.ref fa) ->
   ∃fd:waT,(∀(s:Shared) (u:Value),BindsTo s fd ⟨[u],[]⟩ [("_law_script",u)])/\∀base:Heap,(K w.params).In base->base.Ns waK mg->aO l.prog w (K w.params) mg base cP 13 fa fd ["_law_script"] (DH (K w.params))) :
 whi q loose XP YP l.row.toRowW d [] (λf vs=>whl f vs):=
 L2.JE (n:=63) (k:=13) (x:="_law_script") (CX:=λ_=>cP) (sp:=λw=>DH (K w.params)) hn (by decide) hdf ⟨rfl,by decide,by decide⟩ hY F (λ_ _ a ns hl _ hS=>⟨a,ns,rfl,hS,hl,λ_=>rfl⟩) λ_ _ _ _ _ z=>z
theorem V5{K:Frag}{mg:Str->Option Value}{hp:Heap}{f:Addr}{oc:Value}{od an:Option Addr}{Gw:Array (Option Value)}{kV doc pm gX ct:Value}(l:weA)(w:World)(fa:Addr)(hfa:mg "law"=some (.ref fa))(X:K.In hp)(G:hp.Ns waK mg)(L:Lk K mg)(a:nsIn K waK "law"=some (some (.ref f)):=by k_is)(lk:K.lookup f=some ⟨oc,od,.func (fnOf "law" "law" (cV (top 92)) (bM (top 92)) (aD (top 92)) .none kV doc pm an gX ct),Gw⟩:=by k_is)(c:codeIn K gX "law"=true:=by k_is)(k:keepIn K (.ref f)=true:=by k_is) :
 ∃fd:waT,(∀(s:Shared) (v:Value),BindsTo s fd ⟨[v],[]⟩ [("_law_script",v)])/\∀base:Heap,K.In base->base.Ns waK mg->aO l.prog w K mg base cP 13 fa fd ["_law_script"] (DH K):=by
 have e:=hfa.symm.trans (mg_of X G a);cases e;exact⟨_,λs v=>.of_eq rfl,λbase _ _=>NT L (Gx (st:=top 92) lk c k)⟩
end K72
open PySem PySem.W PyProof.Rows
local macro_rules |`(tactic|o_head $H)=>`(tactic|(refine PySem.W.holds_open (q:=K72.view) (loose:=[]) (Xt:=λs=>PySem.W.xlAt K72.view [] s&&PySem.W.recOk (PySem.W.RowW.records (PySem.W.OpenRow.toRowW (PySem.W.OpenLaw.row PySem.Challenge.rw_bandscribe_k72_whole_numbers_of_what_is))) s) (XP:=PySem.W.XL K72.view []) (Yf:=PySem.W.Hook.obs $H) (Ya:=PySem.W.Hook.val $H) (YP:=PySem.W.Hook.says $H) (N:=8100) ?hl (PySem.W.Hook.of $H) (PySem.W.Hook.keeps $H) (λs e=>PySem.W.xl_of s (Bool.and_eq_true_iff.mp e).1) PySem.W.XL.keeps (by rfl) (by rfl) (by rfl) (λs e=>PySem.W.recFacts_of (Bool.and_eq_true_iff.mp e).2) (by rfl) (by first |assumption |decide+kernel) (by decide+kernel) ⟨rfl,rfl,rfl,rfl,rfl,by decide+kernel⟩ ?hw ?hc;(case hl=>(intro w;exact K72.whole w))))
set_option maxRecDepth 100000 in
set_option maxHeartbeats 0 in
theorem PySem.Challenge.cw_bandscribe_k72_whole_numbers_of_what_is_holds : PySem.Challenge.rw_bandscribe_k72_whole_numbers_of_what_is.Holds := by
 w_on;o_law;o_head (PySem.W.kHook K72.pre.heap_39 K72.addrs (λ_=>by kernel_rfl));(case hw=>w_witness2)
 k_fill
 refine K72.walk (l:=PySem.Challenge.rw_bandscribe_k72_whole_numbers_of_what_is) rfl rfl (λw h Y=>PySem.W.kIn_of Y) ?F
 case F=>
  intro w mg fa h X G hmg;obtain⟨_,AO⟩:=K72.fG "ends_from" (K72.top 2) ["band","place"] X G;obtain⟨_,Df⟩:=K72.fG "all_ends" (K72.top 3) ["band"] X G;obtain⟨_,vp⟩:=K72.fG "counts_up_to" (K72.top 4) ["band","length"] X G;obtain⟨_,yX⟩:=K72.fG "count_from" (K72.top 5) ["band","place","length"] X G;obtain⟨_,L1⟩:=K72.fG "count" (K72.top 6) ["band","length"] X G;obtain⟨_,Dg⟩:=K72.fG "is_whole" (K72.top 22) ["thing"] X G;obtain⟨_,vq⟩:=K72.fG "rows_through" (K72.top 24) ["band","place","sign","counts"] X G;obtain⟨_,J4⟩:=K72.fG "row_at" (K72.top 25) ["band","length","number"] X G;obtain⟨_,AQ⟩:=K72.fG "number_of" (K72.top 26) ["band","row"] X G;obtain⟨_,AR⟩:=K72.fG "all_among" (K72.top 29) ["text","signs"] X G;obtain⟨_,AU⟩:=K72.fG "are_signs" (K72.top 30) ["thing"] X G;obtain⟨_,FN⟩:=K72.fG "is_word" (K72.top 31) ["thing","signs"] X G;obtain⟨_,vr⟩:=K72.fG "check_barred" (K72.top 32) ["barred","signs"] X G;obtain⟨_,vt⟩:=K72.fG "bears_barred" (K72.top 33) ["row","barred"] X G;obtain⟨_,sj⟩:=K72.fG "sorted_places" (K72.top 34) ["barred"] X G;obtain⟨_,wj⟩:=K72.fG "longest_end" (K72.top 35) ["row","places"] X G;obtain⟨_,yY⟩:=K72.fG "moves_from" (K72.top 36) ["place","signs","barred","places"] X G;obtain⟨_,yZ⟩:=K72.fG "leads_into" (K72.top 37) ["ends","lot"] X G;obtain⟨_,z0⟩:=K72.fG "live_among" (K72.top 38) ["moves"] X G;obtain⟨_,Dh⟩:=K72.fG "all_rows" (K72.top 41) ["band","wide"] X G;obtain⟨_,FO⟩:=K72.fG "is_rate" (K72.top 42) ["band","many","wide"] X G;obtain⟨_,z4⟩:=K72.fG "check_rate" (K72.top 43) ["band","many","wide"] X G;obtain⟨_,wk⟩:=K72.fG "longer_rows" (K72.top 44) ["band","rows"] X G;obtain⟨_,wm⟩:=K72.fG "blocks_from" (K72.top 45) ["band","place","wide"] X G;obtain⟨_,z5⟩:=K72.fG "block_ends" (K72.top 47) ["band","wide"] X G;obtain⟨_,AV⟩:=K72.fG "weight_of" (K72.top 48) ["places","weights"] X G;obtain⟨_,FP⟩:=K72.fG "lowered" (K72.top 49) ["ends","many","weights"] X G;obtain⟨_,Di⟩:=K72.fG "greatest" (K72.top 50) ["band","many","wide","most"] X G;obtain⟨_,J5⟩:=K72.fG "scarce" (K72.top 51) ["band","many","wide","most"] X G;obtain⟨_,vv⟩:=K72.fG "copied_steps" (K72.top 53) ["line"] X G;obtain⟨_,wo⟩:=K72.fG "first_sheet" (K72.top 55) ["band","many","wide","weights"] X G;obtain⟨_,vx⟩:=K72.fG "is_number_of" (K72.top 56) ["number","things"] X G;obtain⟨_,z6⟩:=K72.fG "check_part" (K72.top 57) ["sheet","many","steps","weight"] X G;obtain⟨_,z7⟩:=K72.fG "with_twins" (K72.top 58) ["line","desk","twin"] X G;obtain⟨_,L4⟩:=K72.fG "split" (K72.top 59) ["sheet","many","desk","numbers","weight"] X G;obtain⟨_,vy⟩:=K72.fG "copied_sheet" (K72.top 64) ["sheet"] X G;obtain⟨_,nR⟩:=K72.fG "check_not_scarce" (K72.top 66) ["band","many","wide"] X G;obtain⟨_,jv⟩:=K72.fG "weights_of_least_most" (K72.top 67) ["band","many","wide"] X G;obtain⟨_,vz⟩:=K72.fG "reached_from" (K72.top 68) ["sheet","desk"] X G;obtain⟨_,qy⟩:=K72.fG "closed_weights" (K72.top 69) ["band","many","wide","weights"] X G;obtain⟨_,z8⟩:=K72.fG "steps_into" (K72.top 70) ["line","desks"] X G;obtain⟨_,z9⟩:=K72.fG "kept_desks" (K72.top 71) ["sheet","many"] X G;obtain⟨_,AW⟩:=K72.fG "step_down" (K72.top 72) ["sheet"] X G;obtain⟨_,J6⟩:=K72.fG "run_by" (K72.top 73) ["weights","numbers","many"] X G;obtain⟨_,za⟩:=K72.fG "next_split" (K72.top 74) ["sheet","many"] X G;obtain⟨_,FQ⟩:=K72.fG "plan_of" (K72.top 75) ["band","many","wide"] X G;obtain⟨_,sq⟩:=K72.fG "blocks_behind" (K72.top 77) ["band","wide"] X G;obtain⟨_,ke⟩:=K72.fG "steps_by_new_numbers" (K72.top 78) ["line","kept","many"] X G;obtain⟨_,zb⟩:=K72.fG "check_data" (K72.top 79) ["data","many"] X G;obtain⟨_,J7⟩:=K72.fG "walked" (K72.top 80) ["lines","desk","data"] X G;obtain⟨_,AX⟩:=K72.fG "_law_here" (K72.top 83) ["_law_script","_law_place_here"] X G;obtain⟨_,wq⟩:=K72.fG "_law_shaken" (K72.top 84) ["_law_cell","_law_many"] X G;obtain⟨_,AY⟩:=K72.fG "_law_band" (K72.top 85) ["_law_script"] X G;obtain⟨_,AZ⟩:=K72.fG "_law_rate" (K72.top 86) ["_law_script","_law_signs"] X G;obtain⟨_,B6⟩:=K72.fG "_law_told" (K72.top 87) ["_law_signs","_law_words","_law_many","_law_wide"] X G;obtain⟨_,B8⟩:=K72.fG "_law_good" (K72.top 88) ["_law_row","_law_words"] X G;obtain⟨_,Dj⟩:=K72.fG "_law_key" (K72.top 90) ["_law_row","_law_signs"] X G;obtain⟨_,sr⟩:=K72.fG "_law_numbered" (K72.top 91) ["_law_band_here","_law_row","_law_signs","_law_words"] X G;have g7:=K72.RY "Band" X G;have pC:=K72.RY "Sheet" X G;have qz:=K72.RY "Plan" X G;have dF:=K72.RY "Writer" X G;obtain⟨_,gT⟩:=K72.yW g7 "__init__" "Band.__init__" (L2.inClass (K72.top 39) 0) ["self","signs","barred"];obtain⟨_,qA⟩:=K72.yW g7 "check_row" "Band.check_row" (L2.inClass (K72.top 39) 1) ["self","row"];obtain⟨_,nT⟩:=K72.yW g7 "check_place" "Band.check_place" (L2.inClass (K72.top 39) 2) ["self","place"];obtain⟨_,pD⟩:=K72.yW g7 "check_live" "Band.check_live" (L2.inClass (K72.top 39) 3) ["self","place"];obtain⟨_,wt⟩:=K72.yW g7 "places" "Band.places" (L2.inClass (K72.top 39) 5) ["self"];obtain⟨_,Ba⟩:=K72.yW g7 "live" "Band.live" (L2.inClass (K72.top 39) 6) ["self"];obtain⟨_,su⟩:=K72.yW g7 "place_of" "Band.place_of" (L2.inClass (K72.top 39) 7) ["self","row"];obtain⟨_,Dk⟩:=K72.yW g7 "led" "Band.led" (L2.inClass (K72.top 39) 8) ["self","place","sign"];obtain⟨_,vA⟩:=K72.yW g7 "longest" "Band.longest" (L2.inClass (K72.top 39) 9) ["self"];obtain⟨_,g8⟩:=K72.yW pC "__init__" "Sheet.__init__" (L2.inClass (K72.top 54) 0) ["self","homes","weights","lines"];obtain⟨_,gU⟩:=K72.yW qz "__init__" "Plan.__init__" (L2.inClass (K72.top 65) 0) ["self","weights","splits","kept","last"];obtain⟨_,zc⟩:=K72.yW qz "sheet" "Plan.sheet" (L2.inClass (K72.top 65) 1) ["self"];obtain⟨_,fF⟩:=K72.yW dF "__init__" "Writer.__init__" (L2.inClass (K72.top 81) 0) ["self","band","many","wide"];obtain⟨_,sv⟩:=K72.yW dF "behind" "Writer.behind" (L2.inClass (K72.top 81) 1) ["self"];obtain⟨_,vB⟩:=K72.yW dF "ahead" "Writer.ahead" (L2.inClass (K72.top 81) 2) ["self"];obtain⟨_,wu⟩:=K72.yW dF "lead" "Writer.lead" (L2.inClass (K72.top 81) 4) ["self"];obtain⟨_,vC⟩:=K72.yW dF "desks" "Writer.desks" (L2.inClass (K72.top 81) 5) ["self"];obtain⟨_,vD⟩:=K72.yW dF "steps" "Writer.steps" (L2.inClass (K72.top 81) 7) ["self","desk"];obtain⟨_,vE⟩:=K72.yW dF "write" "Writer.write" (L2.inClass (K72.top 81) 8) ["self","data"];have B:=K72.beA X G;have qE:=K72.V4 "NoSplit" X G B.2.1;have pE:=K72.V4 "Scarce" X G B.2.1;obtain⟨_,p8,p9,J8,J9⟩:=K72.xiA pE.2.2 "Scarce.__init__" (L2.inClass (K72.top 18) 0) ["self","length","rows"] "__init__";have Dl:=K72.V4 "Open" X G B.2.1;exact K72.V5 _ w fa hmg X G {T:=⟨K72.nz X G,K72.nz X G,K72.nz X G,K72.nz X G,K72.nz X G,K72.nz X G,K72.nz X G,K72.nz X G,K72.nz X G,K72.nz X G,K72.nz X G,K72.nz X G,K72.nz X G,K72.nz X G,K72.nz X G,K72.nz X G⟩,lX:=AO,nJ:=Df,cN:=vp,jU:=yX,sO:=L1,fV:=Dg,fj:=vq,p0:=J4,iW:=AQ,iX:=AR,lY:=AU,qg:=FN,iC:=vr,fk:=vt,gL:=sj,j2:=wj,jV:=yY,jW:=yZ,jX:=z0,nK:=Dh,qh:=FO,dN:=z4,j3:=wk,gk:=wm,jY:=z5,lZ:=AV,qi:=FP,nL:=Di,uU:=J5,iD:=vv,gm:=wo,fm:=vx,cD:=z6,jZ:=z7,p5:=L4,fo:=vy,cn:=nR,bz:=jv,iE:=vz,fW:=qy,hV:=z8,hX:=z9,m3:=AW,uV:=J6,k4:=za,jq:=FQ,gM:=sq,cZ:=ke,k6:=zb,p6:=J7,gz:=AX,gn:=wq,m4:=AY,m6:=AZ,m7:=B6,m9:=B8,fX:=Dj,gN:=sr,eC:=gT,fY:=qA,d1:=nT,fq:=pD,j4:=wt,gA:=Ba,gO:=su,eK:=Dk,iF:=vA,cO:=g8,gP:=gU,k8:=zc,fu:=fF,gQ:=sv,iG:=vB,vW:=wu,uW:=vC,uX:=vD,fv:=vE,CW:=g7.g,aB:=⟨g7.c,K72.na,K72.na,K72.na,K72.na⟩,yD:=⟨g7.mi,gT.m.1,gT.m.2,g7.kp⟩,sP:=pC.g,av:=⟨pC.c,K72.na,K72.na,K72.na⟩,p7:=⟨pC.mi,g8.m.1,g8.m.2,pC.kp⟩,Io:=qz.g,cH:=⟨qz.c,K72.na,K72.na,K72.na,K72.na⟩,E5:=⟨qz.mi,gU.m.1,gU.m.2,qz.kp⟩,Aq:=dF.g,aA:=⟨dF.c,K72.na,K72.na,K72.na,K72.na,K72.na,K72.na,K72.na,K72.na⟩,xN:=⟨dF.mi,fF.m.1,fF.m.2,dF.kp⟩,rR:=B.1,XT:=B.2.1,XB:=B.2.2,i7:=qE.1,i9:=qE.2.1,Fu:=qE.2.2,fZ:=by k_is,uY:=pE.1,gB:=pE.2.1,Ip:=pE.2.2,p8:=p8,p9:=p9,xO:=J8,xP:=J9,kB:=K72.na,mY:=K72.na,yE:=Dl.1,uZ:=Dl.2.1,Nk:=Dl.2.2,yF:=by k_is,mc:=⟨_,mg_of X G (by k_is)⟩,md:=⟨_,mg_of X G (by k_is)⟩,fH:=⟨_,mg_of X G (by k_is)⟩,known:=K72.knA X G,..}
#print axioms PySem.Challenge.cw_bandscribe_k72_whole_numbers_of_what_is_holds
