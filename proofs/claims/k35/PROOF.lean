import PyProof.Rows.All
import KE.KDictOf
import KE.KIsAll
import KE.KFromBytes
import KE.KDictSum
import KE.KEqDict
import KE.LcSums
import KE.KItem
import Lean
import PyProof.EqAt
import PyProof.EqKinds
import PyProof.TupleCall
import PyProof.Rows.SortStr
import PyProof.StrLawsReplace
import PyProof.StrLawsIdx
import PyProof.StrLawsIn
import PyProof.StrBlockI
import PyProof.StrBlockL
import PyProof.SliceList
import PyProof.InstStoreFacts
import PyProof.NsDelKeeps
import PyProof.StationsW
import PyProof.ExcArgs
import PyProof.ExcBaseAll.ValueError
import PyProof.StrCalls
import PyProof.ListRange
import PyProof.EnumMake
import PyProof.Draws
import PyProof.FactsAll.dict
import PyProof.StrBlock2
import PyProof.Rows.SumAny
import PyProof.NeKinds
import PyProof.Rows.MinMaxN
import PyProof.Rows.Range3
import PyProof.StrLawsFirst
import PyProof.AttrMissHeap
import PyProof.Rows.CallKwBuiltin
import KE.KMinKey
import PyProof.FString2
import PySem.Challenge.RW_bandscribe_k35_whole_freer_bands
set_option genInjectivity false
set_option genSizeOfSpec false
open List renaming length_map→Vn,getElem?_eq_getElem→Vp,getD_eq_getElem?_getD→Vq,length_append→Vs,getElem?_map→Vt,getElem?_eq_some_iff→Vu,mem_cons_of_mem→Vw,mem_map→Vx,mem_cons_self→Vz,mem_singleton→VD,map_append→VE,map_map→VG,map_cons→VL,mem_of_getElem?→VN,mem_append→VP,length_take→VQ,mem_filter→VR,getElem?_append_right→VY,getElem?_append_left→VZ,mem_cons→W3,size_toArray→W4,range→W5,take_length→W6,filter_cons_of_pos→W8,length_cons→Wa,mem_append_right→Wd,length_range→Wf,getElem_mem→Wg,filter_cons_of_neg→Wh,all_eq_true→Wj,map_congr_left→Wm,nodup_cons→Wn,filterMap_cons→Wq,append_nil→Wr,take_add_one→Ws,mem_range→Wt,sum_cons→Wu,append_assoc→Wx,filter_append→WC,length_filter_le→WG,nodup_nil→WH,mem_append_left→WN,filter_eq_self→WU,eq_nil_of_length_eq_zero→WY,length_singleton→X8,nodup_append→Xe,getElem?_set_self→Xf,any_eq_true→Xm,not_mem_nil→Xn,getElem?_set_ne→Xu,take_sublist→XE,getElem_of_mem→XI,length_drop→XM,take_of_length_le→XQ,length_set→Y0,getElem?_eq_none_iff→Y7,mem_or_eq_of_mem_set→Yd,replicate→Yg,getElem_inj→Yh,filter_sublist→Yi,any_cons→Yn,find?_cons→Yu,filter_map→Yx,length_pos_of_mem→Yz,filter_congr→YB,map_id'→YF,dropLast_concat_getLast→YJ,lookup_cons→YM,mem_iff_getElem→YR,length→YT,range_succ→YW,length_filterMap_le→Z6,flatten_cons→Zd,flatMap_cons→Ze,filter_cons→Zt,map→Zu,mem_flatMap→Zw,take_append_drop→Zy,length_replicate→ZA,map_nil→ZN,any_map→ZP,mem_of_mem_take→ZV,mem_filterMap→wa7,prefix_append→wa9,all_cons→wag,map_take→wak,any_eq_false→wan,foldl_append→waq,getElem_take→wat,extract_eq_take_drop→waw,all_map→waF,suffix_refl→waI,length_erase_of_mem→waJ,length_eq_zero_iff→waO,of_mem_zip→waY,length_nil→waZ,drop_of_length_le→wbc,range'→wbd,drop_zero→wbm,eq_nil_or_concat→wbn,singleton_append→wbo,filterMap_append→wbp,getElem?_eq_none→wbq,getElem_toArray→wbB,mem_of_mem_drop→wbE,map_drop→wbK,flatMap_append→wbR,ext_getElem?→wc9,mem_range'_1→wca,map_dropLast→wcb,drop_sublist→wcc,lookup→wcg,append_inj'→wct,take_prefix→wcu,drop_suffix→wcv,range'_succ→wcw,nodup_range→wcy,nil_suffix→wcD,nil_append→wcF,sum_append→wcG,take_zero→wcJ
open PySem.W renaming Frag→Vo,findIn→Ww,kia_one→X2,emptyDict→X7,recOk→Xi,xlAt→Xr,instObj→Xs,fnOf→Xv,keepIn→XJ,callWith_K→XU,boot_heap→Yp,codeIn→Z7,looks_clsIn→Z9,looks_findIn→Za,plainGet→Zq,methodCall_KW→Zz,hasDictIn→ZJ,OpenLaw→ZX,plainGet_of→ZZ,lookIn→wa4,specialIn→wae,methodObj→wam,set_plain→wao,isFn→waA,takerIn→waW,cellsFrom_some→wb6,plainOver→wbh,SharedT→wbi,kdl_values→wbZ,kitx_list→wc5,kitx_dict→wc6,looks_mroIn→wck,boot_o_0→wcl,handedIn→wcm,kdl_dict→wcq,kdl_call→wcr,WalkO→wcz,makesIn→wcA,KeqHits→wcE,kitOne→wcH
open PySem renaming wpAny_bind→Vr,FuncData→VB,Program→VO,wpAny_pure→VW,mainGlobals→Wc,boot_len→We,bootBuiltins→Wi,wpAny_mono→Wl,wpAny_holding→WL,compareOp→WV,wpAny_loadPart_at→WW,excClassObj→WX,importedModules→X1,wpAny_Call_Name_kw→X3,strKind→X5,OsState→Xa,wpAny_truthy_bool→Xc,foldedSetIterable→Xd,codeAny_mono→Xg,swapsWith→Xo,sizeLine_eq→Xq,lookup_relabel_local→Xw,codeAny_call_builtin→Xx,mem_of_lookup→XG,wpAny_isSubtype_exc→XH,wpAny_call→XO,wpAny_execs_nil→XY,wpAny_passesOwn→XZ,codeAny_builtin→Y2,attributeBase→Y3,wpAny_pyIter_list→Y5,plainObj_wpAny_Assign_Attribute→Yj,wpAny_getItem_str_slice→Yl,behindInMarks→Ym,sysModules→Yq,Scope→Yr,Result→Ys,cLine→Yt,wpAny_tryCatch→YG,wpAny_standAt→YS,GenState→YY,Within→Z0,tupleKind_room_in1→Z1,scanBound→Z3,wpAny_pyIter_enum→Zc,keywordEach→Zg,wpAny_field→Zh,plainId_quiet→Zk,wpAny_execs_cons→Zo,NameKind→Zr,checkBuiltinCall→Zv,Builtin→Zx,assignEach→ZG,letOwnedTupleGo→ZH,post_val_or_str→ZO,wpAny_loadPart→wa5,wpAny_setField→wa6,wpAny_letOwnedTupleGo_enum→wai,typeLookup→wav,Keyword→wax,wpAny_lookBehind→waB,pastItsLine_dict→waC,wpAny_comprehension_free→waE,treeTable→waR,tupleKind→waU,getMethod→waV,codeAny_of_tree→wb0,setFlight→wb2,wpAny_updateSeq→wb4,subscripted→wb7,wpAny_letGo→wbf,wpAny_isTrue_Compare1→wbj,weight_type_call_type→wbl,wpAny_seqItems→wbr,wpAny_loadName_local→wbu,PlainAttrs→wbv,isInstance→wbz,wpAny_loadName_cell→wbN,wpAt_of_wpAny→wbQ,wpAny_nsSet1→wbV,onTheHeap→wc1,seqIndex_of→wch,sliceBounds→wci,call→wcB,wpAt_bind→wcC
open PySem.Heap renaming get?_push_of_some→Vv,lt_size→VA,get?_push_size→VX,get?_update_other→Wz,size_push→Xb,get?_update_self→Xp,SameBut→ZF,get?_update_ne→wbO
open Nat renaming le_refl→Vy,le_trans→VF,lt_of_lt_of_le→VI,ne_of_lt→VM,zero_le→Wb,lt_irrefl→WK,lt_of_le_of_lt→WO,lt_succ_self→Xk,sub_self→Xy,ne_of_gt→XR,mul_le_mul_right→Yb,le_succ→Ye,add_sub_cancel_left→Yk,lt_succ_of_lt→Zb,le_of_eq→ZK,not_lt_zero→ZR,mul_le_mul_left→wa2,lt_or_eq_of_le→wad,lt_trichotomy→war,le_of_lt→waz,zero_add→waK,min_eq_left→wb1,le_antisymm→wb3,pow_le_pow_right→wbD,pow_succ→wc2,le_of_not_lt→wco,succ_le_succ→wcx
open Option.some renaming inj→VC
open PySem.Value renaming ref→VH,none→WZ,builtin→Zm,type→ZE,int→waS,str→waT,bool→wbt,isStrOf→wbF,isStrOf_shape→wbM,float→wce
open Bool renaming false_ne_true→VJ,and_eq_true→Xl,false_eq_true→XV,and_false→YC,false_and→YH,true_and→Zn,eq_iff_iff→ZI,false_or→wbI,not_true→wbJ
open PySem.PassesOwn renaming never→VS,leaving→wcd
open Sum renaming inr→VU,inl→WB
open Int renaming toNat_natCast→W2,le_refl→Xh,le_trans→Xz,emod_nonneg→XA,emod_lt_of_pos→XX,natCast_pow→YX,pow_succ→ZQ,natCast_add→ZS,zero_add→ZT,natCast_mul→ZU,mul_le_mul_of_nonneg_left→ZY,le_of_mul_le_mul_right→wal,le_ediv_iff_mul_le→wbe,add_mul→wbg
open False renaming elim→Wk
open PySem.Txt renaming slice→Wo,slice_le→YD,join→YQ,replace→wcj
open PySem.F renaming plainAttrs_list→Wv,slot_list_append→WD,type_list_append→WR,plain_min_loop→X6,called_set→X9,excBase_ValueError→Xj,slot_dict_values→Z2,entry_min_loop→Zi,plainAttrs_str→Zj,slot_str_join→ZC,type_str_join→ZD,called_enumerate→wac,type_dict_values→waM,slot_list_index→waP,plainAttrs_dict→waQ,entry_type_call→wbx,slot_list_pop→wbY
open PySem.W.OpenRow renaming toRowW→Wy
open PySem.W.RowW renaming records→WM
open Ne renaming symm→WQ
open PySem.W.OpenLaw renaming row→WT
open True renaming intro→X0
open PySem.Builtin.Str renaming strSliceIndices→X4,occurrences→Z8,subAt→wc7
open Array renaming length_toList→XF,getElem?_toList→Y1,getD_eq_getD_getElem?→YK,toArray_toList→YN,getElem?_eq_some_iff→waj,toList_inj→waG,getElem?_eq_none→wba,toList_extract→wbA
open PyProof.Rows renaming callWith_type1→XS,envOfC→YV,callWith_builtin1→ZL,int_text_len_1921→ZW,sortedS→waN,subscriptTail_builtinR→wb8,kws_cons→wbs,kws_nil→wbC,subscriptTail→wbH
open PyProof.Rows.F renaming plain_set_update_loop→XW,entry_set_update_loop→Z4
open PySem.NameKind renaming free→Y4,cell→wah
open Or renaming inl→Y6
open PySem.Obj renaming mapSeq→Y8,mapFields→Yo,data_mapFields→Yw,isFreed_of_fields→ZB
open PySem.Around renaming under_plainId→Y9,under→wbW,under_plain→wc0
open Classical renaming byContradiction→Yc
open ForInStep renaming yield→Yv
open Sum.inr renaming inj→Yy
open PySem.Str renaming length→YL,ofString→waL,join→wcs,empty→wcL
open Eq renaming trans→YZ
open PySem.Code renaming quiet_builtin→Z5,isFrame→wbX
open Prod.mk renaming inj→Zf
open Option renaming map_some→ZM,isSome_map→wap,isSome_iff_exists→waD,bind_some→waH,map_eq_some_iff→wb5,getD_some→wcp
open PySem.Calls renaming call_len_list→wa0,Name_function_global→waf,callWith_builtin→wb9,Constant_str→wbU
open PySem.Heap.SameBut renaming update→wa1
open Prod renaming ext→wa3
open PySem.W.Looks renaming here→wa8
open List.Nodup renaming sublist→waa
open PySem.Builtin.Builtins renaming bindParams→wab
open List.Sublist renaming refl→wau
open PySem.Within renaming cons→waX
open PySem.StrLaws renaming sliceText_from→wbb,sliceText_to→wby
open PySem.SeqAt.EqAt renaming str_str→wbk,int_str→wbS,str_int→wbT
open PySem.Walks renaming list→wbw
open PySem.Paired renaming length→wbG
open List.cons renaming inj→wbL
open PySem.EntryCells renaming newEntry→wbP
open PySem.Flt renaming mathRow→wc3
open PySem.Heap.Ns1 renaming of_empty→wc4
open List.Pairwise renaming map→wc8
open PySem.Data renaming fields→wcf,cell→wcK
open PySem.P renaming add_list→wcn
open PySem.Builtin.Frozenset renaming updateFrom→wcI
open PySem.Shared renaming TypeIs→wcM
set_option Elab.async false
set_option linter.all false
set_option maxRecDepth 100000
set_option maxHeartbeats 4000000
namespace Tt
open PySem PySem.W PySem.Calls PyProof.Rows
noncomputable def Ca(tb:String->Option Zx)(p:VO)(w:World)(n₀:Nat)(ann:Option Value):Nat->wbi->Thread->Option wbi
 |0,_,_=>none
 |n + 1,s,t=>match through t with
  |true=>some s
  |false=>match stepOk n₀ ann t with
   |false=>none
   |true=>match stepT (denote tb) p w s t with
    |some (s',t')=>Ca tb p w n₀ ann n s' t'
    |none=>none
theorem Cb{tb:String->Option Zx}{p:VO}{w:World}{n₀:Nat}{ann:Option Value}:∀{n:Nat} {s s':wbi} {t:Thread},Ca tb p w n₀ ann n s t=some s'->topRun tb p w n₀ ann n s.abs t=some s'.abs
 |0,_,_,_,h=>by cases h
 |n + 1,s,s',t,h=>by
  unfold Ca at h;unfold topRun
  cases ht:through t with
  |true=>rw[ht]at h;cases h;rfl
  |false=>
   rw[ht]at h
   cases hk:stepOk n₀ ann t with
   |false=>rw[hk]at h;cases h
   |true=>
    rw[hk]at h
    cases hs:stepT (denote tb) p w s t with
    |none=>rw[hs]at h;cases h
    |some r=>obtain⟨s₂,t₂⟩:=r;rw[hs]at h;rw[stepT_spec hs];exact Cb h
noncomputable def sound(p:VO)(h₀:Heap)(s:wbi):Bool:=staticsOk (X1 p.main.body) h₀ s.abs.heap && namesBound p s.abs.heap && gensDone s.abs && laidKept h₀ s.abs.heap
theorem EJ{p q:VO}{loose:List Str}{Xt:Shared->Bool}{α:Type}{Yf:Shared->α}{Ya:World->α}{N n m₀:Nat}{life:Params->Life}{g0:Bool}{H₀:Params->Heap}{T₀:Params->BT}{Li:Array YY}{d₀:Drawn}{k₀:Nat}{ann:Option Value}
 (Jw:∀w:World,(fencedOpening waR p w N).map (λs=>(s.heap,s.gens,s.drawn,s.toks))=some (H₀ w.params,Li,d₀,k₀))
 (size:∀P:Params,((H₀ P).isNs Wc && Li.size == 0,(H₀ P).objs.size,(H₀ P).nsMap Wc "__annotations__")=(true,m₀,ann))
 (tree:∀P:Params,absHeap (T₀ P) n (life P)=H₀ P)
 (run:∀(w:World) (os:Xa),∃s,Ca waR p w m₀ ann N ⟨T₀ w.params,n,life w.params,Li,d₀,k₀,os⟩ (topStub p)=some s/\sound p (H₀ w.params) s=true/\openSeen q loose (X1 p.main.body) Xt g0 s.abs=openGood q loose/\Yf s.abs=Ya w):LeftO p q loose Xt Yf Ya N g0:=λw=>by
 obtain⟨⟨h,gs,d,k,os⟩,e,e'⟩:=wb5.mp (Jw w);obtain⟨rfl,rfl,rfl,rfl⟩:h=H₀ w.params/\gs=Li/\d=d₀/\k=k₀:=by simpa using e'
 obtain⟨z1,z2,z3⟩:_/\_/\_:=by simpa only[Prod.mk.injEq] using size w.params
 obtain⟨s,r,l1,l2,l3⟩:=run w os;have r:=Cb r
 have ea:(SharedT.mk (T₀ w.params) n (life w.params) gs d k os).abs=⟨H₀ w.params,gs,d,k,os⟩:=by
  unfold SharedT.abs;rw[tree]
 rw[ea]at r
 have t:topFrom waR p w N ⟨H₀ w.params,gs,d,k,os⟩=some s.abs:=by
  unfold topFrom;dsimp only;rw[z1,z2,z3,r];show (match sound p (H₀ w.params) s with |true=>_ |false=>_)=_;rw[l1]
 unfold openEnds;rw[e];show (topFrom waR p w N _).map _=_;rw[t];exact congrArg some (wa3 l2 l3)
theorem Hn{S A B C:Type}{o:Option S}{f:S->A}{g:S->B}{h:S->C}{a:A}{b:B}{c:C}(x:o.map f=some a)(y:o.map g=some b)(z:o.map h=some c):∃s,o=some s/\f s=a/\g s=b/\h s=c:=by
 cases o with
 |none=>cases x
 |some s=>exact⟨s,rfl,VC x,VC y,VC z⟩
theorem four{S A B C D E F G:Type}{o:Option S}{f:S->A×B×C×D×E×F×G}{a:A×B×C×D×E×F×G}(h1:o.map (λs=>(f s).1)=some a.1)(h2:o.map (λs=>((f s).2.1,(f s).2.2.1))=some (a.2.1,a.2.2.1))(h3:o.map (λs=>((f s).2.2.2.1,(f s).2.2.2.2.1))=some (a.2.2.2.1,a.2.2.2.2.1))(h5:o.map (λs=>(f s).2.2.2.2.2.1)=some a.2.2.2.2.2.1)(h4:o.map (λs=>(f s).2.2.2.2.2.2)=some a.2.2.2.2.2.2):o.map f=some a:=by
 cases o with
 |none=>cases h1
 |some s=>
  have e1:(f s).1=a.1:=VC h1;have e2:((f s).2.1,(f s).2.2.1)=(a.2.1,a.2.2.1):=VC h2;have e3:((f s).2.2.2.1,(f s).2.2.2.2.1)=(a.2.2.2.1,a.2.2.2.2.1):=VC h3;have e5:(f s).2.2.2.2.2.1=a.2.2.2.2.2.1:=VC h5;have e4:(f s).2.2.2.2.2.2=a.2.2.2.2.2.2:=VC h4;exact congrArg some (wa3 e1 (wa3 (Zf e2).1 (wa3 (Zf e2).2 (wa3 (Zf e3).1 (wa3 (Zf e3).2 (wa3 e5 e4))))))
theorem cut(n:Nat){o:Option wbi}{as:List Addr}{v:List (Option Obj)}(h:o.map (λs=>(as.take n).map s.abs.heap.get?)=some (v.take n))(h':o.map (λs=>(as.drop n).map s.abs.heap.get?)=some (v.drop n)):o.map (λs=>as.map s.abs.heap.get?)=some v:=by
 cases o with
 |none=>cases h
 |some s=>
  have h1:(as.take n).map s.abs.heap.get?=v.take n:=VC h;have h2:(as.drop n).map s.abs.heap.get?=v.drop n:=VC h';show some (as.map s.abs.heap.get?)=some v;rw[<-Zy n as,VE,h1,h2,Zy]
end Tt
namespace K35
open PySem PySem.W
noncomputable def tp(i:Nat):Stmt:=PySem.Challenge.pw_bandscribe_k35_whole_freer_bands.main.body.getD i (.Pass ⟨0,0,0,0⟩)
noncomputable def view:VO:={PySem.Challenge.pw_bandscribe_k35_whole_freer_bands with main:={PySem.Challenge.pw_bandscribe_k35_whole_freer_bands.main with body:=[tp 0,tp 2,tp 3,tp 4,tp 5,tp 6,tp 7,tp 8,tp 9,tp 10,tp 12,tp 14,tp 15,tp 16,tp 17,tp 18,tp 20,tp 21,tp 22,tp 23,tp 24,tp 26,tp 27,tp 28,tp 29,tp 30,tp 32,tp 33,tp 34,tp 35,tp 36,tp 37,tp 38,tp 40,tp 41,tp 42,tp 43,tp 44,tp 45,tp 46,tp 47,tp 48,tp 49,tp 50,tp 51,tp 52,tp 53,tp 54,tp 56,tp 57,tp 58,tp 59,tp 60,tp 61,tp 62,tp 63,tp 64,tp 65,tp 66,tp 67,tp 69,tp 70,tp 71,tp 72,tp 73,tp 74,tp 75,tp 76,tp 77]}}
noncomputable def tree0(P:Params):BT:=(.node (boot_o_0 P) (.node (boot_o_1 P) (.node (boot_o_3 P) (.node (boot_o_7 P) .nil .nil) .nil) (.node (boot_o_5 P) (.node (boot_o_9 P) .nil .nil) .nil)) (.node (boot_o_2 P) (.node (boot_o_4 P) (.node (boot_o_8 P) .nil .nil) .nil) (.node (boot_o_6 P) (.node (boot_o_10 P) .nil .nil) .nil)))
noncomputable def run(w:World)(os:Xa):Option wbi:=(Tt.Ca waR PySem.Challenge.pw_bandscribe_k35_whole_freer_bands w 11 (some (VH 6)) 8100 ⟨tree0 w.params,11,(Yp w.params).life,Array.mk [],boot_drawn,boot_toks,os⟩ (topStub PySem.Challenge.pw_bandscribe_k35_whole_freer_bands))
noncomputable def lhsS(w:World)(os:Xa):=(run w os).map (λs=>Tt.sound PySem.Challenge.pw_bandscribe_k35_whole_freer_bands (Yp w.params) s)
noncomputable def lhsA1(w:World)(os:Xa):=(run w os).map (λs=>(openSeen view [] (X1 PySem.Challenge.pw_bandscribe_k35_whole_freer_bands.main.body) (λs=>Xr view [] s && Xi (WM (Wy (WT PySem.Challenge.rw_bandscribe_k35_whole_freer_bands))) s) true s.abs).1)
noncomputable def lhsA2(w:World)(os:Xa):=(run w os).map (λs=>((openSeen view [] (X1 PySem.Challenge.pw_bandscribe_k35_whole_freer_bands.main.body) (λs=>Xr view [] s && Xi (WM (Wy (WT PySem.Challenge.rw_bandscribe_k35_whole_freer_bands))) s) true s.abs).2.1,(openSeen view [] (X1 PySem.Challenge.pw_bandscribe_k35_whole_freer_bands.main.body) (λs=>Xr view [] s && Xi (WM (Wy (WT PySem.Challenge.rw_bandscribe_k35_whole_freer_bands))) s) true s.abs).2.2.1))
noncomputable def lhsA3(w:World)(os:Xa):=(run w os).map (λs=>((openSeen view [] (X1 PySem.Challenge.pw_bandscribe_k35_whole_freer_bands.main.body) (λs=>Xr view [] s && Xi (WM (Wy (WT PySem.Challenge.rw_bandscribe_k35_whole_freer_bands))) s) true s.abs).2.2.2.1,(openSeen view [] (X1 PySem.Challenge.pw_bandscribe_k35_whole_freer_bands.main.body) (λs=>Xr view [] s && Xi (WM (Wy (WT PySem.Challenge.rw_bandscribe_k35_whole_freer_bands))) s) true s.abs).2.2.2.2.1))
noncomputable def lhsA5(w:World)(os:Xa):=(run w os).map (λs=>(openSeen view [] (X1 PySem.Challenge.pw_bandscribe_k35_whole_freer_bands.main.body) (λs=>Xr view [] s && Xi (WM (Wy (WT PySem.Challenge.rw_bandscribe_k35_whole_freer_bands))) s) true s.abs).2.2.2.2.2.1)
noncomputable def lhsA4(w:World)(os:Xa):=(run w os).map (λs=>(openSeen view [] (X1 PySem.Challenge.pw_bandscribe_k35_whole_freer_bands.main.body) (λs=>Xr view [] s && Xi (WM (Wy (WT PySem.Challenge.rw_bandscribe_k35_whole_freer_bands))) s) true s.abs).2.2.2.2.2.2)
noncomputable def lhsB(as:List Addr)(w:World)(os:Xa):=(run w os).map (λs=>as.map s.abs.heap.get?)
end K35
noncomputable def PySem.W.Fast.tw14598715356260435866:=wcl
theorem PySem.W.Fast.te14598715356260435866:wcl=PySem.W.Fast.tw14598715356260435866:=rfl
noncomputable def PySem.W.Fast.tw2218344276768117320:=PySem.Challenge.pw_bandscribe_k35_whole_freer_bands
theorem PySem.W.Fast.te2218344276768117320:PySem.Challenge.pw_bandscribe_k35_whole_freer_bands=PySem.W.Fast.tw2218344276768117320:=rfl
noncomputable def PySem.W.Fast.tw13899100880601395773:=wc3
theorem PySem.W.Fast.te13899100880601395773:wc3=PySem.W.Fast.tw13899100880601395773:=rfl
lay_quick K35.lhsS K35.lhsA1 K35.lhsA2 K35.lhsA3 K35.lhsA4 K35.lhsA5 K35.lhsB
section
open PySem PySem.W PyProof.Rows
local macro_rules |`(tactic|o_head $H)=>`(tactic|(refine PySem.W.holds_open (q:=K35.view) (loose:=[]) (Xt:=λs=>PySem.W.xlAt K35.view [] s && PySem.W.recOk (PySem.W.RowW.records (PySem.W.OpenRow.toRowW (PySem.W.OpenLaw.row PySem.Challenge.rw_bandscribe_k35_whole_freer_bands))) s) (XP:=PySem.W.XL K35.view []) (Yf:=PySem.W.Hook.obs $H) (Ya:=PySem.W.Hook.val $H) (YP:=PySem.W.Hook.says $H) (N:=8100) ?hl (PySem.W.Hook.of $H) (PySem.W.Hook.keeps $H) (λs e=>PySem.W.xl_of s (Bool.and_eq_true_iff.mp e).1) PySem.W.XL.keeps (by rfl) (by rfl) (by rfl) (λs e=>PySem.W.recFacts_of (Bool.and_eq_true_iff.mp e).2) (by rfl) (by first |assumption |decide+kernel) (by decide+kernel) ⟨rfl,rfl,rfl,rfl,rfl,by decide+kernel⟩ ?hw ?hc;(case hl=>(intro w;contradiction))))
theorem K35.pre(h:False):(PySem.Challenge.rw_bandscribe_k35_whole_freer_bands).Holds:=by
 w_on;o_law;k_head
 all_goals contradiction
end
namespace K35
open PySem PySem.W
noncomputable def addrs:List Addr:=[2,3,15,17,18,20,21,22,29,30,31,32,35,42,43,44,47,54,56,57,59,60,61,62,63,66,73,75,76,78,79,80,81,82,85,92,94,95,97,98,99,100,101,104,111,112,113,116,123,124,125,128,135,137,138,140,141,142,143,144,147,154,155,156,159,161,162,164,165,166,168,169,171,172,173,175,176,178,179,180,182,183,185,186,187,189,190,192,193,194,197,198,199,202,203,204,206,207,209,210,211,214,215,216,218,219,221,222,223,225,226,228,229,230,233,234,235,238,239,240,242,243,245,246,247,249,250,252,253,254,256,257,259,260,261,264,265,273,276,277,278,279,280,281,282,285,288,289,290,292,293,295,296,297,300,301,302,304,305,307,308,309,312,313,314,316,317,319,320,328,331,332,333,335,336,338,339,340,341,342,343,344,347,349,350,352,353,354,356,357,359,360,361,363,364,366,367,368,371,372,373,376,377,378,381,382,383,385,386,388,389,390,392,393,395,396,397,400,401,402,404,405,407,408,409,412,413,414,416,417,419,420,421,423,424,426,427,428,430,431,433,434,435,438,439,440,442,443,445,446,447,449,450,452,453,454,456,457,459,460,461,464,465,466,469,470,478,480,481,483,484,485,487,488,490,491,492,494,495,497,498,499,501,502,504,505,506,508,509,511,512,513,515,516,518,519,520,522,523,525,526,527,529,530,532,533,534,536,537,539,540,541,543,544,546,547,548,549,550,551,552,555,557,558,560,561,562,564,565,567,568,569,572,573,574,577,578,579,581,582,584,585,586,588,589,591,592,593,596,597,598,600,601,603,604,605,608,609]
open PyProof.Rows in
theorem pS(w:World)(os:Xa):lhsS w os=some true:=YZ (congrFun (congrFun PySem.W.Fast.te11607928252548828716 w) os) (by kernel_rfl)
open PyProof.Rows in
theorem QQ(w:World)(os:Xa):lhsA5 w os=some (plainGoodE view (looseW view [])):=YZ (congrFun (congrFun PySem.W.Fast.te13124262186692804537 w) os) (by kernel_rfl)
open PyProof.Rows in
theorem QR(w:World)(os:Xa):lhsA3 w os=some (true,pinGoodD (drecsOf view)):=YZ (congrFun (congrFun PySem.W.Fast.te14252855256135798395 w) os) (by kernel_rfl)
open PyProof.Rows in
theorem QS(w:World)(os:Xa):lhsA4 w os=some (plainGoodD view [],wideGood view,clsGoodW view []):=YZ (congrFun (congrFun PySem.W.Fast.te11720513835305749870 w) os) (by kernel_rfl)
open PyProof.Rows in
theorem QT(w:World)(os:Xa):lhsA1 w os=some (expectedOf view):=YZ (congrFun (congrFun PySem.W.Fast.te9656883510158213645 w) os) (by kernel_rfl)
open PyProof.Rows in
theorem QU(w:World)(os:Xa):lhsA2 w os=some (bltViewBooted,true):=YZ (congrFun (congrFun PySem.W.Fast.te11186786910649139737 w) os) (by kernel_rfl)
theorem QV(w:World)(os:Xa):lhsB (K35.addrs.take 160) w os=some (((K35.pre.heap_39 w.params).map λp=>some p.2).take 160):=YZ (congrFun (congrFun (congrFun PySem.W.Fast.te5260938088736942583 _) w) os) (by kernel_rfl)
theorem QW(w:World)(os:Xa):lhsB (K35.addrs.drop 160) w os=some (((K35.pre.heap_39 w.params).map λp=>some p.2).drop 160):=YZ (congrFun (congrFun (congrFun PySem.W.Fast.te5260938088736942583 _) w) os) (by kernel_rfl)
theorem op:opening PySem.Challenge.pw_bandscribe_k35_whole_freer_bands=plainProg PySem.Challenge.pw_bandscribe_k35_whole_freer_bands.main.scope.names:=by kernel_rfl
theorem fe(s:Shared):fenceModules? PySem.Challenge.pw_bandscribe_k35_whole_freer_bands s=some s:=by kernel_rfl
theorem tr(P:Params):absHeap (tree0 P) 11 (Yp P).life=Yp P:=by kernel_rfl
theorem sz(P:Params):((Yp P).isNs Wc && (Array.mk []:Array YY).size == 0,(Yp P).objs.size,(Yp P).nsMap Wc "__annotations__")=(true,11,(some (VH 6))):=by kernel_rfl
theorem whole:LeftO PySem.Challenge.pw_bandscribe_k35_whole_freer_bands view [] (λs=>Xr view [] s && Xi (WM (Wy (WT PySem.Challenge.rw_bandscribe_k35_whole_freer_bands))) s) (λs=>K35.addrs.map s.heap.get?) (λw=>((K35.pre.heap_39 w.params).map λp=>some p.2)) 8100:=Tt.EJ (H₀:=Yp) (T₀:=tree0) (life:=λP=>(Yp P).life) (boot_open op (by decide+kernel) fe) sz tr λw os=>Tt.Hn (o:=run w os) (f:=λs=>Tt.sound PySem.Challenge.pw_bandscribe_k35_whole_freer_bands (Yp w.params) s) (g:=λs=>openSeen view [] (X1 PySem.Challenge.pw_bandscribe_k35_whole_freer_bands.main.body) (λs=>Xr view [] s && Xi (WM (Wy (WT PySem.Challenge.rw_bandscribe_k35_whole_freer_bands))) s) true s.abs) (h:=λs=>K35.addrs.map s.abs.heap.get?) (pS w os) (Tt.four (o:=run w os) (f:=λs=>openSeen view [] (X1 PySem.Challenge.pw_bandscribe_k35_whole_freer_bands.main.body) (λs=>Xr view [] s && Xi (WM (Wy (WT PySem.Challenge.rw_bandscribe_k35_whole_freer_bands))) s) true s.abs) (a:=openGood view []) (QT w os) (QU w os) (QR w os) (QQ w os) (QS w os)) (Tt.cut (o:=run w os) 160 (QV w os) (QW w os))
end K35
namespace L2
open PySem PySem.Spec PyProof.Rows
noncomputable abbrev Key:=Sum Int Str
noncomputable def tE:Key->Value->Bool
 |.inl k,v=>Value.isInt k v
 |.inr x,v=>wbF x v
noncomputable def M4(w:World):Key->Int
 |.inl k=>hashInt k
 |.inr x=>hashStr w x
theorem bD:∀{k:Key} {v:Value},tE k v=true->(∃i t,k=WB i/\v=waS i t)\/(∃x t,k=VU x/\v=waT x t)
 |.inl i,v,h=>by
  obtain⟨t,e⟩:=Value.isInt_shape (k:=i) (v:=v) h;exact .inl ⟨i,t,rfl,e⟩
 |.inr x,v,h=>by
  obtain⟨t,e⟩:=wbM (x:=x) (v:=v) h;exact .inr ⟨x,t,rfl,e⟩
theorem As(i:Int)(t:Tok):tE (.inl i) (.int i t)=true:=by simp[tE,Value.isInt]
theorem Au(x:Str)(t:Tok):tE (.inr x) (.str x t)=true:=by simp[tE,wbF]
theorem Ho(a b:Int):decide ((WB a:Key)=WB b)=(a == b):=by
 grind
theorem Hq(a b:Str):decide ((VU a:Key)=VU b)=decide (a=b):=by simp_all [Key,Yy,decide_eq_false]
theorem Hr(a:Int)(b:Str):decide ((WB a:Key)=VU b)=false:=decide_eq_false (λq=>nomatch q)
theorem Hs(a:Str)(b:Int):decide ((VU a:Key)=WB b)=false:=decide_eq_false (λq=>nomatch q)
noncomputable def b8(prog:VO)(w:World):PySem.KeyKind prog w Key where
 is:=tE
 hash:=M4 w
 inj:=λv a b ha hb=>by
  rcases bD ha with⟨i,t,rfl,rfl⟩ |⟨x,t,rfl,rfl⟩
  ·rcases bD hb with⟨j,u,rfl,e⟩ |⟨y,u,rfl,e⟩
   ·injection e with e1 _;rw[e1]
   ·exact nomatch e
  ·rcases bD hb with⟨j,u,rfl,e⟩ |⟨y,u,rfl,e⟩
   ·exact nomatch e
   ·injection e with e1 _;rw[e1]
 byValue:=λk v h=>by
   rcases bD h with⟨i,t,rfl,rfl⟩ |⟨x,t,rfl,rfl⟩ <;> rfl
 pyHash:=λhv h=>by
  rcases bD hv with⟨i,t,rfl,rfl⟩ |⟨x,t,rfl,rfl⟩
  ·exact wpAny_pyHash_int h
  ·exact wpAny_pyHash_str h
 eqBool:=λhu hv h=>by
  rcases bD hu with⟨i,t,rfl,rfl⟩ |⟨x,t,rfl,rfl⟩
  ·rcases bD hv with⟨j,u,rfl,rfl⟩ |⟨y,u,rfl,rfl⟩
   ·rw[Ho]at h;exact wpAny_eqBool_int h
   ·rw[Hr]at h;exact wbS i t y u _ _ _ _ h
  ·rcases bD hv with⟨j,u,rfl,rfl⟩ |⟨y,u,rfl,rfl⟩
   ·rw[Hs]at h;exact wbT x t j u _ _ _ _ h
   ·rw[Hq]at h;exact wpAny_eqBool_str h
 «strs»:=λk x t v h=>by
  rcases bD h with⟨i,u,rfl,e⟩ |⟨y,u,rfl,e⟩
  ·exact nomatch e
  ·injection e with e1 _
   subst e1;cases v <;> rfl
theorem wk(prog:VO)(w:World)(i:Int)(t:Tok):(b8 prog w).is (.inl i) (.int i t)=true:=As i t
theorem wm(prog:VO)(w:World)(x:Str)(t:Tok):(b8 prog w).is (.inr x) (.str x t)=true:=Au x t
set_option genInjectivity true in
inductive V where
 |non |bl (b:Bool) |int (i:Int) |str (x:Str) |byt (b:Array UInt8) |flt (b:UInt64) |ref (a:Addr) |ty (n:String)
 deriving DecidableEq
def RelV:V->Value->Prop
 |.non,u=>u=WZ
 |.bl b,u=>u=wbt b
 |.int i,u=>∃t,u=waS i t
 |.str x,u=>∃t,u=waT x t
 |.byt b,u=>∃t,u=Value.bytes b t
 |.flt b,u=>∃t,u=wce b t
 |.ref a,u=>u=VH a
 |.ty n,u=>u=ZE n
abbrev Vals:List V->List Value->Prop:=Paired RelV
theorem Vals.length{xs:List V}{us:List Value}(r:Vals xs us):xs.length=us.length:=wbG r
theorem Vals.get:∀{xs:List V} {us:List Value} {i:Nat} {x:V},Vals xs us->xs[i]?=some x->∃u,us[i]?=some u/\RelV x u
 |_,_,_,_,.nil,e=>by simp at e
 |_,_,0,_,.cons r _,e=>by simp at e;subst e;exact⟨_,rfl,r⟩
 |_,_,i + 1,x,.cons _ t,e=>by
  obtain⟨u,a,b⟩:=Vals.get (i:=i) (x:=x) t (by simpa using e);exact⟨u,by simpa using a,b⟩
theorem Vals.set(r:RelV x u):∀{xs:List V} {us:List Value} (i:Nat),Vals xs us->Vals (xs.set i x) (us.set i u)
 |_,_,_,.nil=>.nil
 |_,_,0,.cons _ t=>.cons r t
 |_,_,i + 1,.cons q t=>.cons q (Vals.set r i t)
theorem Vals.append:∀{xs ys:List V} {us ws:List Value},Vals xs us->Vals ys ws->Vals (xs++ys) (us++ws)
 |_,_,_,_,.nil,s=>s
 |_,_,_,_,.cons r t,s=>.cons r (Vals.append t s)
theorem Vals.take:∀{xs:List V} {us:List Value} (n:Nat),Vals xs us->Vals (xs.take n) (us.take n)
 |_,_,0,_=>.nil
 |_,_,_ + 1,.nil=>.nil
 |_,_,n + 1,.cons r t=>.cons r (Vals.take n t)
theorem Vals.drop:∀{xs:List V} {us:List Value} (n:Nat),Vals xs us->Vals (xs.drop n) (us.drop n)
 |_,_,0,r=>r
 |_,_,_ + 1,.nil=>.nil
 |_,_,n + 1,.cons _ t=>Vals.drop n t
theorem Vals.none_of:∀{xs:List V} {us:List Value} {i:Nat},Vals xs us->xs[i]?=none->us[i]?=none:=λ{xs us i} r e=>by
 have a:=r.length;have b:xs.length<=i:=Y7.mp e;exact Y7.mpr (by omega)
def gW:Option V->Option Value->Prop
 |some v,some u=>RelV v u
 |none,none=>True
 |_,_=>False
def KV{κ:Type}:List (κ×V)->List (κ×Value)->Prop:=Paired λ(p:κ×V) (q:κ×Value)=>p.1=q.1/\RelV p.2 q.2
noncomputable def kV:Key->V
 |.inl i=>.int i
 |.inr x=>.str x
set_option genInjectivity true in
inductive HO where
 |lst (xs:List V)
 |tup (xs:List V)
 |dK (kvs:List (Key×V)) |dT (kvs:List (List Key×V))
 |set (S:Int->Bool) (n:Nat)
 |ins (C dx:Addr) (fs:List (Str×V))
 |own (x:Addr)
 |xd (fs:List (Str×V))
 |met (f x:Addr)
 |rng (lo hi:Int)
 |frz (o:Obj) (u:HO)
 |tbl (ps:Array Value)
 |ext (φ:Heap->Prop)
noncomputable abbrev Hp:=Addr->Option HO
noncomputable def upd(H:Hp)(a:Addr)(o:HO):Hp:=λb=>if b=a then some o else H b
theorem a7:upd H a o a=some o:=by unfold upd;rw[if_pos rfl]
theorem aa(h:b≠a):upd H a o b=H b:=by unfold upd;rw[if_neg h]
theorem zK:upd (upd H a o) a u=upd H a u:=by
 funext b;unfold upd;split <;> rfl
theorem Jx{H:Hp}{a b:Addr}{o u:HO}(h:H a=some o)(h':H b=some u)(d:o≠u):a≠b:=by grind [VC]
theorem ae{H:Hp}{a b:Addr}{o:HO}(h:H a=some o)(h':H b=none):a≠b:=by
 grind
section
variable(P:VO)(w:World)
def bp(H:Hp)(h:Heap)(a:Addr):HO->Prop
 |.lst xs=>xs.length<=sizeLine/\∃(its:List Value) (n:Nat),Vals xs its/\h.get? a=some {cls:=.type "list",data:=.seq its.toArray n}
 |.tup xs=>xs.length<=sizeLine/\∃its:List Value,Vals xs its/\IsTup h a its.toArray
 |.dK kvs=>kvs.length<=sizeLine/\(a == Yq)=false/\∃vs,KV kvs vs/\h.DictOf (b8 P w) a vs
 |.dT kvs=>kvs.length<=sizeLine/\(a == Yq)=false/\∃xs:List (List Key×Addr×Value),
   Paired (λ(p:List Key×V) (q:List Key×Addr×Value)=>p.1=q.1/\H q.2.1=some (.tup (p.1.map kV))/\RelV p.2 q.2.2) kvs xs /\
   ∃o es ep,h.get? a=some o/\o.ExactDict/\o.data=.dict es ep/\es.toList=xs.map (entryOfKey (waU (b8 P w)))/\(xs.map (·.1)).Nodup
 |.set S n=>h.SetOf (intKind P w) a S n
 |.ins C dx fs=>H dx=some (.own a)/\fs.length<=1000/\dx≠a/\h.get? a=some (Xs C dx) /\
   ∃mA,h.Ns1 dx mA/\(∀f,gW (fs.lookup f) (mA f))/\Z0 mA (fs.map (·.1))
 |.own _=>∃o,h.get? a=some o
 |.xd fs=>∃mA,h.Ns1 a mA/\∀f,gW (fs.lookup f) (mA f)
 |.rng lo hi=>∃t u v,h.get? a=some {cls:=.type "range",data:=.fields #[.int lo t,.int hi u,.int 1 v]}
 |.frz o u=>h.get? a=some o/\bp H h a u
 |.tbl ps=>h.get? a=some {cls:=.none,data:=.fields ps}
 |.met f x=>h.get? a=some (wam (.ref f) (.ref x))
 |.ext φ=>φ h/\(∃o,h.get? a=some o)/\∀h1 h2:Heap,φ h1->(∀o,h1.get? a=some o->h2.get? a=some o)->φ h2
def iz(H:Hp)(h:Heap):Prop:=∀a o,H a=some o->bp P w H h a o
end
section
variable{P:VO}{w:World}{H H':Hp}{h h':Heap}{a:Addr}{o:HO}
theorem bp.lt(x:bp P w H h a o):a < h.objs.size:=by
 cases o with
 |lst c=>obtain⟨_,_,_,_,e⟩:=x;exact VA e
 |tup c=>obtain⟨_,_,_,p⟩:=x;exact p.lt
 |dK b=>obtain⟨_,_,_,_,o,_,_,e,_⟩:=x;exact VA e
 |dT b=>obtain⟨_,_,_,_,o,_,_,e,_⟩:=x;exact VA e
 |set S n=>obtain⟨o,_,_,_,e,_⟩:=x;exact VA e
 |ins C d fs=>obtain⟨_,_,_,e,_⟩:=x;exact VA e
 |own y=>obtain⟨_,e⟩:=x;exact VA e
 |xd fs=>obtain⟨_,⟨_,_,_,e,_⟩,_⟩:=x;exact VA e
 |rng lo hi=>obtain⟨_,_,_,e⟩:=x;exact VA e
 |frz ob u=>obtain⟨e,_⟩:=x;exact VA e
 |tbl ps=>exact VA (show h.get? a=some _ from x)
 |met f y=>exact VA (show h.get? a=some _ from x)
 |ext φ=>obtain⟨_,⟨_,e⟩,_⟩:=x;exact VA e
theorem Paired.Ht{α β:Type}{F G:α->β->Prop}:∀{g:List α} {j:List β},Paired F g j->(∀a b,F a b->G a b)->Paired G g j
 |_,_,.nil,_=>.nil
 |_,_,.cons r t,f=>.cons (f _ _ r) (Paired.Ht t f)
theorem bp.nO(x:bp P w H h a o)(k:∀b u,(b=a\/H b=some (.own a))->h.get? b=some u->h'.get? b=some u)
 (I:∀b,H b=some (.own a)->H' b=some (.own a)) (J:∀b xs,H b=some (.tup xs)->H' b=some (.tup xs)):bp P w H' h' a o:=by
 induction o with
 |lst xs=>obtain⟨z,j,n,r,e⟩:=x;exact⟨z,j,n,r,k _ _ (.inl rfl) e⟩
 |tup xs=>obtain⟨z,j,r,ob,e,c⟩:=x;exact⟨z,j,r,ob,k _ _ (.inl rfl) e,c⟩
 |dK l=>obtain⟨z,y,A,r,ob,g,i,e,c⟩:=x;exact⟨z,y,A,r,ob,g,i,k _ _ (.inl rfl) e,c⟩
 |dT l=>
  obtain⟨z,y,xs,r,ob,g,i,e,c⟩:=x;exact⟨z,y,xs,Paired.Ht r λp q z=>⟨z.1,J _ _ z.2.1,z.2.2⟩,ob,g,i,k _ _ (.inl rfl) e,c⟩
 |set S n=>obtain⟨ob,g,i,t,e,c⟩:=x;exact⟨ob,g,i,t,k _ _ (.inl rfl) e,c⟩
 |ins C E fs=>
  obtain⟨d,z,ne,e,m,⟨s,g,i,B,c⟩,r⟩:=x;exact⟨I _ d,z,ne,k _ _ (.inl rfl) e,m,⟨s,g,i,k _ _ (.inr d) B,c⟩,r⟩
 |own y=>obtain⟨ob,e⟩:=x;exact⟨ob,k _ _ (.inl rfl) e⟩
 |xd fs=>obtain⟨m,⟨s,g,i,e,c⟩,r⟩:=x;exact⟨m,⟨s,g,i,k _ _ (.inl rfl) e,c⟩,r⟩
 |rng lo hi=>obtain⟨t,u,v,e⟩:=x;exact⟨t,u,v,k _ _ (.inl rfl) e⟩
 |frz ob u D=>obtain⟨e,q⟩:=x;exact⟨k _ _ (.inl rfl) e,D q⟩
 |tbl ps=>
  have e:h.get? a=some {cls:=.none,data:=.fields ps}:=x;show h'.get? a=some {cls:=.none,data:=.fields ps};exact k a _ (.inl rfl) e
 |met f y=>
  have e:h.get? a=some (wam (.ref f) (.ref y)):=x;show h'.get? a=some (wam (.ref f) (.ref y));exact k a _ (.inl rfl) e
 |ext φ=>obtain⟨p,⟨o,e⟩,st⟩:=x;exact⟨st _ _ p λo q=>k _ _ (.inl rfl) q,⟨o,k _ _ (.inl rfl) e⟩,st⟩
theorem iz.lt(x:iz P w H h)(e:H a=some o):a < h.objs.size:=(x a o e).lt
theorem iz.fresh(x:iz P w H h)(e:h.objs.size<=a):H a=none:=by
 cases q:H a with
 |none=>rfl
 |some u=>exact absurd (VI (x.lt q) e) (WK _)
theorem iz.kept(x:iz P w H h)(k:∀b u,h.get? b=some u->h'.get? b=some u):iz P w H h':=λa o e=>
 (x a o e).nO (λb u _ q=>k b u q) (λ_ q=>q) λ_ _ q=>q
theorem iz.laid(x:iz P w H h)(k:∀b u,h.get? b=some u->h'.get? b=some u)(g:h.objs.size<=a)(new:bp P w (upd H a o) h' a o):iz P w (upd H a o) h':=λb u e=>by
 have hn:=x.fresh g
 by_cases d:b=a
 ·grind [a7]
 ·rw[aa d]at e;exact(x b u e).nO (λc v _ q=>k c v q) (λc q=>by rw[aa (ae q hn)];exact q) λc f q=>by rw[aa (ae q hn)];exact q
end
def Rd(H:Hp)(a:Addr)(u:HO):Prop:=H a=some u\/∃o,H a=some (.frz o u)
theorem Rd.of{H:Hp}{a:Addr}{u:HO}(h:H a=some u):Rd H a u:=.inl h
theorem Rd.ok{P:VO}{w:World}{H:Hp}{h:Heap}{a:Addr}{u:HO}(r:Rd H a u)(x:iz P w H h):bp P w H h a u:=by
 rcases r with r |⟨o,r⟩
 ·exact x a u r
 ·obtain⟨_,q⟩:=x a _ r;exact q
def Jy:Option HO->Prop
 |some (.lst _)=>True
 |some (.dK _)=>True
 |some (.dT _)=>True
 |some (.set _ _)=>True
 |some (.ins _ _ _)=>True
 |some (.ext _)=>True
 |_=>False
section
variable{P:VO}{w:World}{H:Hp}{h h':Heap}{x e:Addr}{o':HO}
theorem iz.write(ok:iz P w H h)(g:Jy (H x))(o:e=x\/H e=some (.own x))(k:∀b u,b≠e->h.get? b=some u->h'.get? b=some u)(l:∃u,h'.get? e=some u)
 (new:bp P w (upd H x o') h' x o'):iz P w (upd H x o') h':=λb u q=>by
 have d:∀c y,H c=some (.own y)->c≠x:=λc y r z=>by subst z;rw[r]at g;exact g
 have f:∀c i,H c=some (.tup i)->c≠x:=λc i r z=>by subst z;rw[r]at g;exact g
 by_cases j:b=x
 ·subst j;rw[a7]at q;cases q;exact new
 ·rw[aa j]at q
  by_cases a:b=e
  ·have m:H b=some (.own x):=by
    rcases o with z |z
    ·exact absurd (a.trans z) j
    ·rw[a];exact z
   rw[q]at m;cases m;obtain⟨v,n⟩:=l;exact⟨v,by rw[a];exact n⟩
  ·refine(ok b u q).nO (λc v hc r=>k c v ?_ r) (λc r=>by rw[aa (d c b r)];exact r) λc i r=>by rw[aa (f c i r)];exact r
   rcases hc with rfl |hc
   ·exact a
   ·rintro rfl;rcases o with z |z
    ·exact d c b hc z
    ·rw[hc]at z;cases z;exact j rfl
end
structure Un(fs ex:List Addr)(H H':Hp)(h h':Heap):Prop where
 keep:∀b o,h.get? b=some o->H b=none->b∉fs->b∉ex->h'.get? b=some o
 slot:∀b o,h.get? b=some o->H b=none->b∈fs->b∉ex->∃sl,h'.get? b=some {o with slots:=sl}
 free:∀b o,h.get? b=some o->H b=none->b∉ex->H' b=none
 there:∀b o,h.get? b=some o->b∉ex->∃o',h'.get? b=some o'
 jy:∀b xs,H b=some (.tup xs)->H' b=some (.tup xs)
 iA:∀b o u,H b=some (.frz o u)->H' b=some (.frz o u)
 jz:∀b ps,H b=some (.tbl ps)->∃more,H' b=some (.tbl (ps++more))
section
variable{fs M5 ex OB:List Addr}{H H1 H2:Hp}{h h1 h2 h':Heap}{a x e:Addr}{o:HO}
theorem Un.any(u:Un fs ex H H1 h h1){b:Addr}{ob:Obj}(q:h.get? b=some ob)(n:H b=none)(g:b∉ex):∃sl,h1.get? b=some {ob with slots:=sl}:=by
 by_cases a:b∈fs
 ·exact u.slot b ob q n a g
 ·exact⟨ob.slots,u.keep b ob q n a g⟩
theorem Un.trans(a:Un fs ex H H1 h h1)(b:Un fs ex H1 H2 h1 h2):Un fs ex H H2 h h2 where
 keep:=λc ob q n hc d=>b.keep c ob (a.keep c ob q n hc d) (a.free c ob q n d) hc d
 slot:=λc ob q n hc d=>by
  obtain⟨sl,e⟩:=a.slot c ob q n hc d;obtain⟨g,j⟩:=b.slot c _ e (a.free c ob q n d) hc d;exact⟨g,j⟩
 free:=λc ob q n d=>by
  obtain⟨i,e⟩:=a.there c ob q d;exact b.free c i e (a.free c ob q n d) d
 there:=λc ob q d=>by
  obtain⟨i,e⟩:=a.there c ob q d;exact b.there c i e d
 jy:=λc f q=>b.jy c f (a.jy c f q)
 iA:=λc ob f q=>b.iA c ob f (a.iA c ob f q)
 jz:=λc ps q=>by
  obtain⟨k,e⟩:=a.jz c ps q;obtain⟨l,j⟩:=b.jz c _ e;exact⟨k++l,by grind⟩
theorem Un.kept(k:∀b u,h.get? b=some u->h'.get? b=some u):Un fs ex H H h h':=
 ⟨λb ob q _ _ _=>k b ob q,λb ob q _ _ _=>⟨ob.slots,k b ob q⟩,λ_ _ _ n _=>n,λb ob q _=>⟨ob,k b ob q⟩,λ_ _ q=>q,λ_ _ _ q=>q,λ_ ps q=>⟨#[],by rw[q];simp⟩⟩
theorem Un.refl:Un fs ex H H h h:=Un.kept λ_ _ q=>q
theorem Un.laid(k:∀b u,h.get? b=some u->h'.get? b=some u)(g:h.objs.size<=a)(hn:H a=none):Un fs ex H (upd H a o) h h' where
 keep:=λb u q _ _ _=>k b u q
 slot:=λb u q _ _ _=>⟨u.slots,k b u q⟩
 free:=λb u q n _=>by rw[aa (VM (VI (VA q) g))];exact n
 there:=λb u q _=>⟨u,k b u q⟩
 jy:=λb c q=>by rw[aa (ae q hn)];exact q
 iA:=λb u c q=>by rw[aa (ae q hn)];exact q
 jz:=λb ps q=>⟨#[],by rw[aa (ae q hn),q];simp⟩
theorem Un.write(g:Jy (H x))(l:e=x\/H e=some (.own x))(k:∀b u,b≠e->h.get? b=some u->h'.get? b=some u)(j:∃u,h'.get? e=some u):Un fs ex H (upd H x o) h h':=by
 have f:∀b,H b=none->b≠x:=λb n z=>by subst z;rw[n]at g;exact g
 have d:∀b,H b=none->b≠e:=λb n z=>by
  subst z;rcases l with r |r
  ·grind
  ·grind
 have c:∀b u,H b=some u->¬Jy (some u)->b≠x:=λb u q i z=>by subst z;rw[q]at g;exact i g
 refine⟨λb u q n _ _=>k b u (d b n) q,λb u q n _ _=>⟨u.slots,k b u (d b n) q⟩,λb u q n _=>by rw[aa (f b n)];exact n,λb u q _=>?_,
  λb m q=>by rw[aa (c b _ q λz=>z)];exact q,λb u m q=>by rw[aa (c b _ q λz=>z)];exact q,λb ps q=>⟨#[],by rw[aa (c b _ q λz=>z),q];simp⟩⟩
 by_cases a:b=e
 ·subst a;exact j
 ·exact⟨u,k b u a q⟩
theorem Un.mono(u:Un fs ex H H1 h h1)(hs:∀b∈fs,b∈M5)(g:∀b∈ex,b∈OB):Un M5 OB H H1 h h1:=
 ⟨λb ob q n c a=>u.keep b ob q n (λz=>c (hs b z)) λz=>a (g b z),λ_ _ q n _ a=>u.any q n λz=>a (g _ z),λb ob q n a=>u.free b ob q n λz=>a (g b z),λb ob q a=>u.there b ob q λz=>a (g b z),u.jy,u.iA,u.jz⟩
end
noncomputable def M6(h:Heap)(H:Hp):List Addr:=(W5 h.objs.size).filter λa=>(H a).isSome
noncomputable def uT(h:Heap)(H:Hp):Heap:=PySem.W.hideAll h (M6 h H)
theorem Av(h:Heap)(H:Hp):(uT h H).objs.size=h.objs.size:=PySem.W.hideAll_size _ _
theorem Cd(e:h.get? b=some o)(n:H b=none):(uT h H).get? b=some o:=
 PySem.W.hideAll_get _ e λa=>by
  have q:(H b).isSome=true:=(VR.mp a).2;rw[n]at q;simp at q
theorem EK(e:(uT h H).get? b=some o):h.get? b=some o/\H b=none:=by
 have a:h.get? b=some o:=PySem.W.of_hideAll (M6 h H) e;refine⟨a,?_⟩
 cases q:H b with
 |none=>rfl
 |some x=>
  grind [M6,VA,uT,PySem.W.hideAll_none]
noncomputable def EL(g h:Heap)(L:Addr):List (Addr×Obj):=(W5 h.objs.size).filterMap λa=>if a=L\/(g.get? a).isSome=true then none else(h.get? a).map λo=>(a,o)
noncomputable def rest(g h:Heap)(L d:Addr):List (Addr×Obj):=(EL g h L).filter λp=>decide (p.1≠d)
structure Mod(K:Vo)(mg:Str->Option Value)(base:Heap):Prop where
 Gz:K.In base
 glob:base.Ns Wc mg
 blt:∃mb,base.Ns builtinsNs mb/\∀x:Str,x≠"__name__"->mb x=Wi x
 nolimit:base.NoLimit
structure Cx where
 prog:VO
 w:World
 K:Vo
 mg:Str->Option Value
 base:Heap
 A:Around
 N:List Str
 s₀:Shared
 H₀:Hp
 env:Env
 outer:List Env
 stack:List Env
 ex:List Addr
 fn:Str->Bool
 calm:Bool
 pn:List (Addr×Obj)
 xe:Value->Shared->Prop
noncomputable def pG(l:List Env):List Addr:=l.filterMap (·.frame)
noncomputable abbrev Cx.fs(X:Cx):List Addr:=pG X.outer
def Jg(sc:Yr)(x:Str):Prop:=sc.names.lookup x=some .local\/sc.names.lookup x=some .cell\/sc.names.lookup x=some .free
def Loc(sc:Yr)(x:Str):Prop:=sc.names.lookup x=some .local\/sc.names.lookup x=some .cell
def Look(env:Env)(h:Heap)(m:Str->Option Value)(x:Str)(u:Value):Prop:=
 (env.kindOf x=some .local/\m x=some u)\/((env.kindOf x=some .cell\/env.kindOf x=some .free)/\∃c,env.cells.lookup x=some c/\h.IsCell c (some u))
structure Cx.Ok(X:Cx):Prop where
 mod:Mod X.K X.mg X.base
 kind:X.env.scope.kind=.function
 glob:X.env.globals=Wc
 blt:X.env.builtins=builtinsNs
 above:X.s₀.heap.objs.size<=X.env.locals
 inj:∀x y c,X.env.cells.lookup x=some c->X.env.cells.lookup y=some c->x=y
 has:∀x,(X.env.kindOf x=some .cell\/X.env.kindOf x=some .free)->∃c,X.env.cells.lookup x=some c
 Hu:∀x c,X.fn x=true->X.env.cells.lookup x=some c->X.s₀.heap.objs.size<=c
 hd:X.calm=true->X.A.handled=none
 frames:X.A.frames=some X.stack
 Jh:X.stack=X.outer\/(X.stack=X.env :: X.outer/\X.env.frame=some X.env.locals)
 Lj:∀b∈X.ex,b≠X.env.locals/\∀x c,X.env.cells.lookup x=some c->c≠b
 bs:∀b o,X.base.get? b=some o->X.s₀.heap.get? b=some o/\X.H₀ b=none
 C9:X.base.objs.size<=X.s₀.heap.objs.size
 y3:∀b o,X.base.get? b=some o->b∉X.ex
 Aw:∀b∈X.ex,b∉X.fs
 lI:X.s₀.heap.FunFrames X.base X.outer
 EA:∀b∈X.fs,X.H₀ b=none
structure Inv(X:Cx)(pins:List (Addr×Obj))(σ:List (Option V))(H:Hp)(s:Shared):Prop where
 ok:X.Ok
 os:s.os=X.s₀.os
 bare:AllBare s.gens
 base:Un X.fs X.ex X.H₀ H X.s₀.heap s.heap
 loc:∃m,s.heap.Ns X.env.locals m/\∀(i:Nat) (x:Str) (v:V),X.N[i]?=some x->σ[i]?=some (some v)->Jg X.env.scope x->∃u,RelV v u/\Look X.env s.heap m x u
 cell:∀x c,X.env.cells.lookup x=some c->∃v,s.heap.IsCell c v
 free:H X.env.locals=none
 fZ:∀x c,X.env.cells.lookup x=some c->H c=none
 pin:∀p∈X.pn++pins,s.heap.get? p.1=some p.2/\H p.1=none/\p.1≠X.env.locals/\p.1∉X.fs/\∀v,p.2.data≠.cell v
 aS:iz X.prog X.w H s.heap
 len:σ.length=X.N.length
section
variable{X:Cx}{pins:List (Addr×Obj)}{σ:List (Option V)}{H H':Hp}{s:Shared}{h':Heap}
theorem Cx.Ok.M7(ok:X.Ok)(e:X.base.get? b=some o):b∉X.fs:=λa=>by
 have:=(ok.lI.mem a).1;rw[e]at this;cases this
theorem Inv.bs(I:Inv X pins σ H s):∀b o,X.base.get? b=some o->s.heap.get? b=some o/\H b=none:=λb o e=>
 ⟨I.base.keep b o (I.ok.bs b o e).1 (I.ok.bs b o e).2 (I.ok.M7 e) (I.ok.y3 b o e),I.base.free b o (I.ok.bs b o e).1 (I.ok.bs b o e).2 (I.ok.y3 b o e)⟩
theorem Inv.bk(I:Inv X pins σ H s):∀b o,X.base.get? b=some o->s.heap.get? b=some o:=λb o e=>(I.bs b o e).1
theorem Inv.mod(I:Inv X pins σ H s):Mod X.K X.mg X.base:=I.ok.mod
theorem Inv.fS(I:Inv X pins σ H s):X.K.In s.heap:=I.ok.mod.Gz.keeps I.bk
theorem Inv.nolimit(I:Inv X pins σ H s):s.heap.NoLimit:=I.ok.mod.nolimit.keeps I.bk
theorem Inv.lt(I:Inv X pins σ H s):X.env.locals < s.heap.objs.size:=let ⟨_,hn,_⟩:=I.loc;hn.lt
theorem Inv.sz(I:Inv X pins σ H s):X.s₀.heap.objs.size<=s.heap.objs.size:=VF I.ok.above (waz I.lt)
theorem Inv.M8(I:Inv X pins σ H s)(h:s.heap.objs.size<=a):a∉X.fs:=λb=>by
 obtain⟨_,o,c,_⟩:=I.ok.lI.mem b;exact absurd (VI (VA c) (VF I.sz h)) (WK _)
theorem Inv.Ce(I:Inv X pins σ H s):∀x c,X.env.cells.lookup x=some c->c≠X.env.locals:=λx c e z=>by
 obtain⟨v,o,d,hd⟩:=I.cell x c e;obtain⟨m,⟨f,g,h,a,b,_⟩,_⟩:=I.loc;rw[z,a]at d;cases d;rw[b]at hd;cases hd
theorem Inv.lI(I:Inv X pins σ H s):s.heap.FunFrames X.base X.outer:=by
 have all:∀(l:List Env),(∀b∈pG l,b∈X.fs)->X.s₀.heap.FunFrames X.base l->s.heap.FunFrames X.base l:=by
  intro l
  induction l with
  |nil=>intro _ _;trivial
  |cons env r g=>
   intro f hl;obtain⟨h,⟨L,o,a,hn,i,hd⟩,j⟩:=hl;have c:L∈X.fs:=f L (by unfold pG;rw[Wq,a];exact Vz);obtain⟨sl,e⟩:=I.base.slot L o i (I.ok.EA L c) c λz=>I.ok.Aw L z c;exact⟨h,⟨L,_,a,hn,e,hd⟩,g (λb d=>f b (by unfold pG;rw[Wq,a];exact Vw _ d)) j⟩
 exact all X.outer (λ_ d=>d) I.ok.lI
theorem Inv.stack(I:Inv X pins σ H s):s.heap.FunFrames X.base X.stack:=by
 rcases I.ok.Jh with e |⟨e,a⟩
 ·rw[e];exact I.lI
 ·rw[e];obtain⟨m,hn,_⟩:=I.loc;refine .cons (by rw[I.ok.kind];decide) a hn ?_ I.lI;exact Heap.get?_none_of_le (VF I.ok.C9 I.ok.above)
theorem Inv.q9(I:Inv X pins σ H s):∀b∈pG X.stack,b∈X.env.locals :: X.fs:=λb a=>by
 rcases I.ok.Jh with e |⟨e,c⟩
 ·grind
 ·grind [pG]
theorem Inv.pR(I:Inv X pins σ H s):∀b∈pG X.stack,H b=none:=λb a=>by
 rcases W3.mp (I.q9 b a) with e |a
 ·rw[e];exact I.free
 ·obtain⟨_,o,c,_⟩:=I.ok.lI.mem a;exact I.base.free b o c (I.ok.EA b a) λz=>I.ok.Aw b z a
theorem Inv.step{g':Array YY}{t':Nat}{d':Drawn}{ch:List Addr}(I:Inv X pins σ H s)
 (g:∀b∈ch,(b∈X.ex\/X.s₀.heap.objs.size<=b)/\b≠X.env.locals/\(∀x c,X.env.cells.lookup x=some c->c≠b)/\∀p∈X.pn++pins,p.1≠b)
 (keep:∀b o,b≠X.env.locals->b∉X.fs->b∉ch->s.heap.get? b=some o->H b=none->h'.get? b=some o)
 (slot:∀b o,b≠X.env.locals->b∈X.fs->b∉ch->s.heap.get? b=some o->H b=none->∃sl,h'.get? b=some {o with slots:=sl}) (free:∀b o,b∉ch->s.heap.get? b=some o->H b=none->H' b=none)
 (there:∀b o,b∉ch->s.heap.get? b=some o->∃C,h'.get? b=some C)
 (jy:∀b xs,H b=some (.tup xs)->H' b=some (.tup xs)) (iA:∀b o u,H b=some (.frz o u)->H' b=some (.frz o u)) (jz:∀b ps,H b=some (.tbl ps)->∃more,H' b=some (.tbl (ps++more)))
 (ns:∀m,s.heap.Ns X.env.locals m->h'.Ns X.env.locals m) (aS:iz X.prog X.w H' h') (J:AllBare g') :
 Inv X pins σ H' {s with heap:=h',gens:=g',drawn:=d',toks:=t'}:=by
 have B:∀b o,X.s₀.heap.get? b=some o->b≠X.env.locals:=λb o e=>VM (VI (VA e) I.ok.above)
 have j:∀b o,X.s₀.heap.get? b=some o->b∉X.ex->b∉ch:=λb o e a y=>by
  rcases(g b y).1 with z |z
  ·exact a z
  ·exact absurd (VI (VA e) z) (WK _)
 have f:∀x c,X.env.cells.lookup x=some c->∀v,s.heap.IsCell c v->h'.IsCell c v:=λx c e v ⟨o,A,hd⟩=>by
  have h:c∉ch:=λz=>(g c z).2.2.1 x c e rfl
  by_cases hc:c∈X.fs
  ·obtain⟨sl,q⟩:=slot c o (I.Ce x c e) hc h A (I.fZ x c e);exact⟨_,q,hd⟩
  ·exact⟨o,keep c o (I.Ce x c e) hc h A (I.fZ x c e),hd⟩
 refine⟨I.ok,I.os,J,⟨λb o e n y a=>?_,λb o e n y a=>?_,λb o e n a=>?_,λb o e a=>?_,λb xs e=>jy b xs (I.base.jy b xs e),λb o xs e=>iA b o xs (I.base.iA b o xs e),λb ps e=>?_⟩,?_,λx c e=>?_,?_,λx c e=>?_,λp F=>?_,aS,I.len⟩
 ·exact keep b o (B b o e) y (j b o e a) (I.base.keep b o e n y a) (I.base.free b o e n a)
 ·obtain⟨sl,t⟩:=I.base.slot b o e n y a;obtain⟨E,D⟩:=slot b _ (B b o e) y (j b o e a) t (I.base.free b o e n a);exact⟨E,D⟩
 ·obtain⟨C,t⟩:=I.base.there b o e a;exact free b C (j b o e a) t (I.base.free b o e n a)
 ·obtain⟨C,t⟩:=I.base.there b o e a;exact there b C (j b o e a) t
 ·obtain⟨K,t⟩:=I.base.jz b ps e;obtain⟨L,D⟩:=jz b _ t;exact⟨K++L,by rw[D,Array.append_assoc]⟩
 ·obtain⟨m,hn,hl⟩:=I.loc;refine⟨m,ns m hn,λi x v t D M=>?_⟩;obtain⟨u,r,l⟩:=hl i x v t D M;refine⟨u,r,?_⟩;rcases l with l |⟨k,c,e,z⟩
  ·exact .inl l
  ·exact .inr ⟨k,c,e,f x c e _ z⟩
 ·obtain⟨v,z⟩:=I.cell x c e;exact⟨v,f x c e v z⟩
 ·obtain⟨m,⟨o,_,_,A,_⟩,_⟩:=I.loc;exact free _ o (λz=>(g _ z).2.1 rfl) A I.free
 ·obtain⟨v,o,A,hd⟩:=I.cell x c e;exact free c o (λz=>(g c z).2.2.1 x c e rfl) A (I.fZ x c e)
 ·obtain⟨e,n,ne,G,d⟩:=I.pin p F;have h:p.1∉ch:=λz=>(g p.1 z).2.2.2 p F rfl;exact⟨keep p.1 p.2 ne G h e n,free p.1 p.2 h e n,ne,G,d⟩
theorem Inv.un{t':Nat}(I:Inv X pins σ H s)(u:Un X.fs [] H H' s.heap h')(aS:iz X.prog X.w H' h'):Inv X pins σ H' {s with heap:=h',toks:=t'}:=by
 obtain⟨m,⟨o,k,l,g,r⟩,_⟩:=id I.loc;obtain⟨sl,h⟩:=u.any g I.free (by simp)
 exact I.step (g':=s.gens) (d':=s.drawn) (ch:=[]) (λ_ z=>nomatch z) (λb o _ c _ e n=>u.keep b o e n c (by simp)) (λb o _ c _ e n=>u.slot b o e n c (by simp)) (λb o _ e n=>u.free b o e n (by simp)) (λb o _ e=>u.there b o e (by simp)) u.jy u.iA u.jz (λp i=>by
  obtain⟨q,d,f,a,j⟩:=i;rw[g]at a;cases a
  exact⟨_,d,f,h,j⟩) aS I.bare
theorem Inv.call{g':Array YY}{t':Nat}{d':Drawn}{ch:List Addr}(I:Inv X pins σ H s)(u:Un (pG X.stack) ch H H' s.heap h')(aS:iz X.prog X.w H' h')(j:AllBare g')
 (g:∀b∈ch,(b∈X.ex\/X.s₀.heap.objs.size<=b)/\b≠X.env.locals/\(∀x c,X.env.cells.lookup x=some c->c≠b)/\∀p∈X.pn++pins,p.1≠b) :
 Inv X pins σ H' {s with heap:=h',gens:=g',drawn:=d',toks:=t'}:=by
 obtain⟨m,⟨o,t,v,i,r⟩,_⟩:=id I.loc;obtain⟨sl,d⟩:=u.any i I.free λz=>(g _ z).2.1 rfl
 exact I.step (ch:=ch) g (λb o d k hc e n=>u.keep b o e n (λz=>(W3.mp (I.q9 b z)).elim d k) hc) (λb o _ _ hc e n=>u.any e n hc) (λb o hc e n=>u.free b o e n hc) (λb o hc e=>u.there b o e hc) u.jy u.iA u.jz (λy l=>by
  obtain⟨A,f,h,a,q⟩:=l;rw[i]at a;cases a
  exact⟨_,f,h,d,q⟩) aS j
theorem Inv.turned{t':Nat}{it:Addr}(I:Inv X pins σ H s)(k:∀b o,b≠it->s.heap.get? b=some o->h'.get? b=some o)(hn:H it=none)(g:it≠X.env.locals)
 (j:it∈X.ex\/X.s₀.heap.objs.size<=it) (l:∀x c,X.env.cells.lookup x=some c->c≠it) (C:∀p∈X.pn++pins,p.1≠it):Inv X pins σ H {s with heap:=h',toks:=t'}:=by
 have a:∀b u,H b=some u->b≠it:=λb u e z=>by rw[z,hn]at e;cases e
 refine I.step (g':=s.gens) (d':=s.drawn) (ch:=[it]) (λb d=>?_) (λb o _ _ hc e _=>k b o (λz=>hc (by simp[z])) e) (λb o _ _ hc e _=>⟨o.slots,k b o (λz=>hc (by simp[z])) e⟩) (λ_ _ _ _ n=>n)
  (λb o hc e=>⟨o,k b o (λz=>hc (by simp[z])) e⟩) (λ_ _ e=>e) (λ_ _ _ e=>e) (λb ps e=>⟨#[],by rw[e];simp⟩) (λm f=>?_) (λb u e=>?_) I.bare
 ·have e:b=it:=by simpa using d
  subst e;exact⟨j,g,l,C⟩
 ·obtain⟨o,h,i,t,r⟩:=f;exact⟨o,h,i,k _ o (WQ g) t,r⟩
 ·refine(I.aS b u e).nO (λc v hc q=>k c v ?_ q) (λ_ q=>q) λ_ _ q=>q;rcases hc with z |z
  ·rw[z];exact a b u e
  ·exact a c _ z
theorem Inv.tok(I:Inv X pins σ H s)(t:Nat):Inv X pins σ H {s with toks:=t}:=I.un (h':=s.heap) (t':=t) Un.refl I.aS
theorem Inv.kept(I:Inv X pins σ H s)(k:∀b u,s.heap.get? b=some u->h'.get? b=some u):Inv X pins σ H {s with heap:=h',toks:=t'}:=I.un (Un.kept k) (I.aS.kept k)
theorem Inv.laid(I:Inv X pins σ H s)(k:∀b u,s.heap.get? b=some u->h'.get? b=some u)(g:s.heap.objs.size<=a)(new:bp X.prog X.w (upd H a o) h' a o) :
 Inv X pins σ (upd H a o) {s with heap:=h',toks:=t'}:=I.un (Un.laid k g (I.aS.fresh g)) (I.aS.laid k g new)
theorem Inv.write(I:Inv X pins σ H s)(j:Jy (H x))(l:e=x\/H e=some (.own x))(k:∀b u,b≠e->s.heap.get? b=some u->h'.get? b=some u)(g:∃u,h'.get? e=some u)
 (new:bp X.prog X.w (upd H x o) h' x o):Inv X pins σ (upd H x o) {s with heap:=h',toks:=t'}:=I.un (Un.write j l k g) (I.aS.write j l k g new)
theorem Inv.zL(I:Inv X pins σ H s)(h:∀p∈g,s.heap.get? p.1=some p.2/\H p.1=none/\p.1≠X.env.locals/\p.1∉X.fs/\∀v,p.2.data≠.cell v):Inv X g σ H s:=
 ⟨I.ok,I.os,I.bare,I.base,I.loc,I.cell,I.free,I.fZ,λp a=>(VP.mp a).elim (λz=>I.pin p (WN _ z)) (h p),I.aS,I.len⟩
theorem qa{N:List Str}(g:N.Nodup){i j:Nat}{x:Str}(a:N[i]?=some x)(b:N[j]?=some x):i=j:=by
 obtain⟨e,c⟩:=Vu.mp a;obtain⟨f,d⟩:=Vu.mp b;exact(Yh g).mp (c.trans d.symm)
theorem tF{M:Model}{A:Around}{E:Value->Shared->Prop}{i:Nat}{x:Str}{v:V}{u:Value}{Q:Unit->Shared->Prop}(I:Inv X pins σ H s)(hN:X.N.Nodup)(hi:X.N[i]?=some x)(C:Loc X.env.scope x)(r:RelV v u)
 (h:∀s',Inv X pins (σ.set i (some v)) H s'->(∃a,ZF a s.heap s'.heap/\(a=X.env.locals\/X.env.cells.lookup x=some a))->Q () s') (hf:X.fn x=true\/X.env.scope.names.lookup x=some .local:=by first |exact .inl rfl |exact .inr rfl |assumption):wpAny M A (storeName X.env x u) Q E s:=by
 obtain⟨m,hn,hl⟩:=id I.loc;have K:(X.env.scope.kind == .class ||(X.env.scope.kind == .module && X.env.locals != X.env.globals))=false:=by rw[I.ok.kind];rfl
 have hiσ:i < σ.length:=by rw[I.len];exact(Vu.mp hi).1
 have Ce:=I.Ce
 have g:∀{a:Addr} {h':Heap},(∃o,s.heap.get? a=some o/\H a=none)->ZF a s.heap h'->iz X.prog X.w H h':=λ{a h'} ha f b ob e=>by
  obtain⟨_,_,t⟩:=ha;refine(I.aS b ob e).nO (λc S hc q=>(f.2 c ?_).trans q) (λ_ q=>q) λ_ _ q=>q;rintro rfl;rcases hc with rfl |hc
  ·rw[t]at e;cases e
  ·rw[t]at hc;cases hc
 rcases C with D |D
 ·refine wpAny_storeName_local D hn (λh' U f=>?_) K;obtain⟨oL,_,_,W,_⟩:=id hn;refine h _ ⟨I.ok,I.os,I.bare,⟨λb o e n F C=>?_,λb o e n F C=>?_,I.base.free,λb o e C=>?_,I.base.jy,I.base.iA,I.base.jz⟩,⟨_,U,λj y Y l B Z=>?_⟩,λy c e=>?_,I.free,I.fZ,λp hp=>?_,g ⟨oL,W,I.free⟩ f,by simpa using I.len⟩ ⟨_,f,.inl rfl⟩
  ·exact(f.2 b (VM (VI (VA e) I.ok.above))).trans (I.base.keep b o e n F C)
  ·obtain⟨sl,l⟩:=I.base.slot b o e n F C;exact⟨sl,(f.2 b (VM (VI (VA e) I.ok.above))).trans l⟩
  ·obtain⟨o',l⟩:=I.base.there b o e C;exact⟨o',(f.2 b (VM (VI (VA e) I.ok.above))).trans l⟩
  ·by_cases G:j=i
   ·subst G;rw[hi]at l;cases l;rw[Xf hiσ]at B;cases B;exact⟨u,r,.inl ⟨D,by simp⟩⟩
   ·rw[Xu (WQ G)]at B;obtain⟨u',r',q⟩:=hl j y Y l B Z;refine⟨u',r',?_⟩;rcases q with⟨k,e⟩ |⟨k,c,e,z⟩
    ·refine .inl ⟨k,?_⟩;have:y≠x:=λe=>G (qa hN l (e ▸ hi));simp[this,e]
    ·exact .inr ⟨k,c,e,z.sameBut f (Ce y c e)⟩
  ·obtain⟨S,z⟩:=I.cell y c e;exact⟨S,z.sameBut f (Ce y c e)⟩
  ·obtain⟨e,n,ne,nf,d⟩:=I.pin p hp;exact⟨(f.2 p.1 ne).trans e,n,ne,nf,d⟩
 ·have J:X.fn x=true:=by
   rcases hf with z |z
   ·exact z
   ·rw[z]at D;cases D
  obtain⟨c,hc⟩:=I.ok.has x (.inl D);obtain⟨S,z⟩:=I.cell x c hc;refine wpAny_storeName_cell I.ok.kind D hc z (λh' L f=>?_);obtain⟨oc,O,P⟩:=id z;refine h {s with heap:=h'} ⟨I.ok,I.os,I.bare,⟨λb o e n F C=>?_,λb o e n F C=>?_,I.base.free,λb o e C=>?_,I.base.jy,I.base.iA,I.base.jz⟩,⟨m,hn.sameBut f (WQ (Ce x c hc)),λj y Y l B Z=>?_⟩,λy T e=>?_,I.free,I.fZ,λp hp=>?_,g ⟨oc,O,I.fZ x c hc⟩ f,by simpa using I.len⟩ ⟨c,f,.inr hc⟩
  ·exact(f.2 b (VM (VI (VA e) (I.ok.Hu x c J hc)))).trans (I.base.keep b o e n F C)
  ·obtain⟨sl,l⟩:=I.base.slot b o e n F C;exact⟨sl,(f.2 b (VM (VI (VA e) (I.ok.Hu x c J hc)))).trans l⟩
  ·obtain⟨o',l⟩:=I.base.there b o e C;exact⟨o',(f.2 b (VM (VI (VA e) (I.ok.Hu x c J hc)))).trans l⟩
  ·by_cases G:j=i
   ·subst G;rw[hi]at l;cases l;rw[Xf hiσ]at B;cases B;exact⟨u,r,.inr ⟨.inl D,c,hc,L⟩⟩
   ·rw[Xu (WQ G)]at B;obtain⟨u',r',q⟩:=hl j y Y l B Z;refine⟨u',r',?_⟩;rcases q with q |⟨k,T,e,z'⟩
    ·exact .inl q
    ·refine .inr ⟨k,T,e,z'.sameBut f ?_⟩;rintro rfl;exact G (qa hN l (I.ok.inj _ _ _ e hc ▸ hi))
  ·by_cases R:T=c
   ·subst R;exact⟨_,L⟩
   ·obtain⟨w2,z2⟩:=I.cell y T e;exact⟨w2,z2.sameBut f R⟩
  ·obtain⟨e,n,ne,nf,d⟩:=I.pin p hp;refine⟨(f.2 p.1 ?_).trans e,n,ne,nf,d⟩;intro q;rw[q,O]at e;have q':oc=p.2:=VC e;exact d S (by rw[<-q'];exact P)
theorem jC{E:Value->Shared->Prop}{Q:Unit->Shared->Prop}(I:Inv X pins σ H s)(g:X.N.Nodup)(hi:X.N[i]?=some x)(j:Loc X.env.scope x)(r:RelV v u)
 (h:∀s',Inv X pins (σ.set i (some v)) H s'->Q () s') (l:X.fn x=true\/X.env.scope.names.lookup x=some .local:=by first |exact .inl rfl |exact .inr rfl |assumption):wpAny M A (storeName X.env x u) Q E s:=
 tF I g hi j r (λs' a _=>h s' a) l
theorem Inv.tG(I:Inv X pins σ H s)(j:s'.os=s.os)(u:Un (pG X.stack) ch H H' s.heap s'.heap)(aS:iz X.prog X.w H' s'.heap)(l:AllBare s'.gens)
 (g:∀b∈ch,(b∈X.ex\/X.s₀.heap.objs.size<=b)/\b≠X.env.locals/\(∀x c,X.env.cells.lookup x=some c->c≠b)/\∀p∈X.pn++pins,p.1≠b):Inv X pins σ H' s':=by
 obtain⟨h',g',d',t',a⟩:=s';have e:a=s.os:=j;subst e;exact I.call (g':=g') (t':=t') (d':=d') u aS l g
end
noncomputable abbrev XK:=Value->Option Addr->Hp->Prop
noncomputable abbrev St:=List (Option V)
noncomputable abbrev VK:=V->Hp->Prop
noncomputable abbrev TE:=St->Hp->VK->Prop
noncomputable abbrev TT:=St->Hp->(Bool->Hp->Prop)->Prop
noncomputable abbrev TA:=St->Hp->(List V->Hp->Prop)->Prop
structure Ends where
 nx:St->Hp->Prop
 rt:VK
 bk:St->Hp->Prop:=λ_ _=>False
 ct:St->Hp->Prop:=λ_ _=>False
noncomputable abbrev TS:=Ends->St->Hp->Prop
def EP(X:Cx)(pins:List (Addr×Obj))(σ:St)(Q:VK)(u:Value)(s':Shared):Prop:=∃v H',Inv X pins σ H' s'/\RelV v u/\Q v H'
def TP(X:Cx)(pins:List (Addr×Obj))(σ:St)(Q:Bool->Hp->Prop)(b:Bool)(s':Shared):Prop:=∃H',Inv X pins σ H' s'/\Q b H'
def AP(X:Cx)(pins:List (Addr×Obj))(σ:St)(Q:List V->Hp->Prop)(us:List Value)(s':Shared):Prop:=∃vs H',Inv X pins σ H' s'/\Vals vs us/\Q vs H'
def SP(X:Cx)(pins:List (Addr×Obj))(D:Ends)(f:Flow)(s':Shared):Prop:=
 match f with
 |.next=>∃σ' H',Inv X pins σ' H' s'/\D.nx σ' H'
 |.brk=>∃σ' H',Inv X pins σ' H' s'/\D.bk σ' H'
 |.cont=>∃σ' H',Inv X pins σ' H' s'/\D.ct σ' H'
 |.ret u=>∃v σ' H',Inv X pins σ' H' s'/\RelV v u/\D.rt v H'
def PE(X:Cx)(e:Expr)(t:TE):Prop:=
 ∀(pins:List (Addr×Obj)) (s:Shared) (σ:St) (H:Hp) (Q:VK),Inv X pins σ H s->t σ H Q->wpAny (model X.prog X.w) X.A (eval e X.env) (EP X pins σ Q) X.xe s
def PT(X:Cx)(e:Expr)(t:TT):Prop:=
 ∀(pins:List (Addr×Obj)) (s:Shared) (σ:St) (H:Hp) (Q:Bool->Hp->Prop),Inv X pins σ H s->t σ H Q->wpAny (model X.prog X.w) X.A (isTrue e X.env (eval e X.env)) (TP X pins σ Q) X.xe s
def PW(X:Cx)(e:Expr)(t:TT):Prop:=
 ∀(whole:Sem Value) (pins:List (Addr×Obj)) (s:Shared) (σ:St) (H:Hp) (Q:Bool->Hp->Prop),Inv X pins σ H s->t σ H Q->wpAny (model X.prog X.w) X.A (isTrue e X.env whole) (TP X pins σ Q) X.xe s
theorem PW.pt{X:Cx}{e:Expr}{t:TT}(h:PW X e t):PT X e t:=h _
def PA(X:Cx)(es:List Expr)(t:TA):Prop:=
 ∀(pos:Pos) (pins:List (Addr×Obj)) (s:Shared) (σ:St) (H:Hp) (Q:List V->Hp->Prop),Inv X pins σ H s->t σ H Q->wpAny (model X.prog X.w) X.A (spliced (backTo pos (starEach es X.env))) (AP X pins σ Q) X.xe s
def PS(X:Cx)(st:Stmt)(t:TS):Prop:=
 ∀(pins:List (Addr×Obj)) (s:Shared) (σ:St) (H:Hp) (D:Ends),Inv X pins σ H s->t D σ H->wpAny (model X.prog X.w) X.A (exec st X.env) (SP X pins D) X.xe s
def uU(X:Cx)(st:List Stmt)(t:TS):Prop:=
 ∀(pins:List (Addr×Obj)) (s:Shared) (σ:St) (H:Hp) (D:Ends),Inv X pins σ H s->t D σ H->wpAny (model X.prog X.w) X.A (execs st X.env) (SP X pins D) X.xe s
theorem bL{α:Type}{t:Sem α}{Q g:α->Shared->Prop}{M:Model}{A:Around}{E:Value->Shared->Prop}{s:Shared}(h:wpAny M A t Q E s)(j:∀a s,Q a s->g a s):wpAny M A t g E s:=Wl h j λ_ _ x=>x
section
variable{X:Cx}
inductive ER(i:Nat)(σ:St)(H:Hp)(Q:VK):Prop
 |mk (v) (_:σ[i]?=some (some v)) (_:Q v H)
def tC(v:V):TE:=λ_ H Q=>Q v H
theorem Cg(j:X.N[i]?=some x)(o:Jg X.env.scope x)(hd:(x == ("__debug__":Str))=false:=by decide)(g:(x == ("__classdict__":Str))=false:=by decide):PE X (.Name x pos) (ER i):=by
 intro d s σ H Q I h;obtain⟨v,e,h⟩:=h;obtain⟨m,hn,hl⟩:=I.loc;obtain⟨u,r,l⟩:=hl i x v j e o;have fin:EP X d σ Q u s:=⟨v,H,I,r,h⟩;rcases l with⟨b,f⟩ |⟨b,c,hc,a⟩
 ·exact wpAny_Name (wbu I.ok.kind b hn f fin) hd
 ·rcases b with b |b
  ·exact wpAny_Name (wbN I.ok.kind b hc a fin) hd
  ·exact wpAny_Name (wpAny_loadName_free I.ok.kind b hc a fin g) hd
theorem ag{i j pos}:PE X (.Constant (.int i) j pos) (tC (.int i)):=λ_ _ _ H _ I h=>wpAny_Constant_int ⟨.int i,H,I.tok _,⟨_,rfl⟩,h⟩
theorem dM{b j pos}:PE X (.Constant (.bool b) j pos) (tC (.bl b)):=λ_ _ _ H _ I h=>Constant_bool ⟨.bl b,H,I,rfl,h⟩
theorem gX{j pos}:PE X (.Constant .none j pos) (tC .non):=λ_ _ _ H _ I h=>Constant_none ⟨.non,H,I,rfl,h⟩
theorem cw{x j pos}:PE X (.Constant (.str x) j pos) (tC (.str x)):=λ_ _ _ H _ I h=>wbU ⟨.str x,H,I.tok _,⟨_,rfl⟩,h⟩
def Gl(X:Cx)(x:Str):Prop:=X.env.kindOf x=some .globalImplicit
theorem gG{E:Value->Shared->Prop}{Q:Value->Shared->Prop}(I:Inv X g σ H s)(j:Gl X x)(l:X.mg x=some u)(h:Q u s)
 (hd:(x == ("__debug__":Str))=false:=by decide):wpAny (model X.prog X.w) X.A (eval (.Name x pos) X.env) Q E s:=
 waf I.ok.kind j (Calls.loadGlobal_global (by rw[I.ok.glob];exact I.mod.glob.keeps I.bk) l h) hd
theorem iB{E:Value->Shared->Prop}{Q:Value->Shared->Prop}(I:Inv X g σ H s)(j:Gl X x)(l:X.mg x=none)(o:Wi x=some u)(h:Q u s)
 (hn:x≠"__name__":=by decide) (hd:(x == ("__debug__":Str))=false:=by decide):wpAny (model X.prog X.w) X.A (eval (.Name x pos) X.env) Q E s:=by
 obtain⟨c,a,b⟩:=I.mod.blt;exact waf I.ok.kind j (Calls.loadGlobal_builtin (by rw[I.ok.glob];exact I.mod.glob.keeps I.bk) l (by rw[I.ok.blt];exact a.keeps I.bk) ((b x hn).trans o) h) hd
theorem iC(g:Gl X x)(j:X.mg x=some u)(r:RelV v u)(hd:(x == ("__debug__":Str))=false:=by decide):PE X (.Name x pos) (tC v):=
 λ_ _ _ H _ I h=>gG I g j ⟨v,H,I,r,h⟩ hd
theorem kz(g:Gl X x)(j:X.mg x=none)(l:Wi x=some u)(r:RelV v u)(hn:x≠"__name__":=by decide)(hd:(x == ("__debug__":Str))=false:=by decide):PE X (.Name x pos) (tC v):=
 λ_ _ _ H _ I h=>iB I g j l ⟨v,H,I,r,h⟩ hn hd
variable{a b:Expr}{ta tb:TE}{pos:Pos}
def PC(X:Cx)(op:CmpOp)(a b:Expr)(t:TE):Prop:=
 ∀(pins:List (Addr×Obj)) (s:Shared) (σ:St) (H:Hp) (Q:VK),Inv X pins σ H s->t σ H Q ->
  wpAny (model X.prog X.w) X.A (eval a X.env) (λv s₁=>wpAny (model X.prog X.w) X.A (eval b X.env) (λu s₂=>wpAny (model X.prog X.w) X.A (WV op v u) (EP X pins σ Q) X.xe s₂) X.xe s₁) X.xe s
theorem Ch(b:Expr)(h:op≠.In)(g:op≠.NotIn):Ym op b=false:=by
 have a:(op == CmpOp.In)=false:=by grind
 have c:(op == CmpOp.NotIn)=false:=by grind
 cases b <;> simp[Ym,a,c]
inductive OC(x:V)(H:Hp)(Q:Bool->Hp->Prop):Prop
 |mk (c) (_:x=.bl c) (_:Q c H)
def tB(t:TE):TT:=λσ H Q=>t σ H λx H1=>OC x H1 Q
theorem y4{op:CmpOp}{t:TE}(h:PC X op a b t)(g:Ym op b=false:=by first |exact Ch _ (by decide) (by decide) |rfl):PT X (.Compare a [op] [b] pos) (tB t):=by
 intro e s σ H Q I hw;refine wbj (bL (h e s σ H _ I hw) λv m g=>bL g λu n f=>bL f λc o ⟨x,i,j,k,l⟩=>?_) g;obtain⟨d,rfl,q⟩:=l;cases k;exact Xc ⟨i,j,q⟩
theorem ck{e:Expr}{t:TE}(h:PE X e t)(g:∀whole,isTrue e X.env whole=(do let v <-whole;standAt e.pos;holding [v] (truthy v)):=by intro _;rfl):PT X e (tB t):=by
 intro a s σ H Q I hw;refine isTrue_plain (bL (h a s σ H _ I hw) λv j ⟨x,b,c,f,i⟩=>?_) (g _);obtain⟨d,rfl,q⟩:=i;cases f;exact Xc ⟨b,c,q⟩
variable{tA Ln:TT}{rest:List Expr}
def M9(t u:TT):TT:=λσ H Q=>t σ H λc H1=>if c=true then u σ H1 Q else Q false H1
def QX(t u:TT):TT:=λσ H Q=>t σ H λc H1=>if c=true then Q true H1 else u σ H1 Q
def Ma(t:TT):TT:=λσ H Q=>t σ H λc H1=>Q (!c) H1
theorem EV(ha:PT X a tA):PW X (.BoolOp .And [a] pos) tA:=by
 intro d b s σ H Q I h;refine isTrue_and (bL (ha b s σ H Q I h) λc f e=>?_)
 cases c with
 |true=>exact isTrue_and_nil e
 |false=>exact e
theorem iD(ha:PT X a tA):PW X (.BoolOp .Or [a] pos) tA:=by
 intro d b s σ H Q I h;refine isTrue_or (bL (ha b s σ H Q I h) λc f e=>?_)
 cases c with
 |false=>exact isTrue_or_nil e
 |true=>exact e
theorem Hv(ha:PT X a tA)(j:PW X (.BoolOp .And (b :: rest) pos) Ln):PW X (.BoolOp .And (a :: b :: rest) pos) (M9 tA Ln):=by
 intro i d s σ H Q I h;refine isTrue_and (bL (ha d s σ H _ I h) λc k ⟨e,f,g⟩=>?_)
 cases c with
 |true=>exact j i d k σ e Q f g
 |false=>exact⟨e,f,g⟩
theorem g7(ha:PT X a tA)(j:PW X (.BoolOp .Or (b :: rest) pos) Ln):PW X (.BoolOp .Or (a :: b :: rest) pos) (QX tA Ln):=by
 intro i d s σ H Q I h;refine isTrue_or (bL (ha d s σ H _ I h) λc k ⟨e,f,g⟩=>?_)
 cases c with
 |true=>exact⟨e,f,g⟩
 |false=>exact j i d k σ e Q f g
theorem cY(ha:PT X a tA):PT X (.UnaryOp .Not a pos) (Ma tA):=by
 intro b s σ H Q I h;exact isTrue_not (ha b s σ H (λc d=>Q (!c) d) I h)
def Jz(ta tb:TE):TE:=λσ H Q=>ta σ H λx H1=>∃c,x=.bl c/\if c=true then tb σ H1 Q else Q (.bl false) H1
def JA(ta:TE):TE:=λσ H Q=>ta σ H λx H1=>∃c,x=.bl c/\Q (.bl (!c)) H1
theorem qb{op}(h:PE X a t):PE X (.BoolOp op [a] pos) t:=λb s σ H Q I hw=>BoolOp_one (h b s σ H Q I hw)
theorem nP(ha:PE X a ta)(j:PE X (.BoolOp .And (b :: rest) pos) tb):PE X (.BoolOp .And (a :: b :: rest) pos) (Jz ta tb):=by
 intro d s σ H Q I h;refine BoolOp_and (bL (ha d s σ H _ I h) λv i ⟨x,f,g,k,e⟩=>?_);obtain⟨c,rfl,e⟩:=e;cases k;refine Xc ?_
 cases c with
 |true=>exact j d i σ f Q g e
 |false=>exact⟨.bl false,f,g,rfl,e⟩
theorem y6(ha:PE X a ta):PE X (.UnaryOp .Not a pos) (JA ta):=by
 intro b s σ H Q I h;refine UnaryOp_ (bL (ha b s σ H _ I h) λv i ⟨x,e,f,g,d⟩=>?_);obtain⟨c,rfl,d⟩:=d;cases g;exact not_of (Xc ⟨.bl (!c),e,f,rfl,d⟩)
def QY(t:TT)(ta tb:TE):TE:=λσ H Q=>t σ H λc H1=>if c=true then ta σ H1 Q else tb σ H1 Q
theorem wo{c:Expr}(hc:PT X c tA)(ha:PE X a ta)(l:PE X b tb):PE X (.IfExp c a b pos) (QY tA ta tb):=by
 intro e s σ H Q I h;refine wpAny_IfExp (bL (hc e s σ H _ I h) λd f ⟨g,i,j⟩=>?_)
 cases d with
 |true=>exact ha e f σ g Q i j
 |false=>exact l e f σ g Q i j
end
def aN(K:Vo)(H:Hp)(a:Addr)(xs:List V):Prop:=
 Rd H a (.lst xs) \/
  ∃(o:Obj) (its:Array Value) (n:Nat),K.lookup a=some o/\o.cls=.type "list"/\o.dict=none/\o.data=.seq its n/\its.size<=sizeLine/\Vals xs its.toList
def jA(K:Vo)(H:Hp)(a:Addr)(xs:List V):Prop:=
 Rd H a (.tup xs) \/
  ∃(o:Obj) (its:Array Value) (n:Nat),K.lookup a=some o/\o.cls=.type "tuple"/\o.data=.seq its n/\its.size<=sizeLine/\Vals xs its.toList
noncomputable def Mb:Value->Option V
 |.none=>some .non
 |.bool b=>some (.bl b)
 |.int i _=>some (.int i)
 |.str x _=>some (.str x)
 |.bytes b _=>some (.byt b)
 |.float b _=>some (.flt b)
 |.ref a=>some (.ref a)
 |.type n=>some (.ty n)
 |_=>none
theorem RelV.abs{x:V}{u:Value}(r:RelV x u):Mb u=some x:=by
 cases x with
 |non=>cases r;rfl
 |bl _=>cases r;rfl
 |int _=>obtain⟨t,rfl⟩:=r;rfl
 |str _=>obtain⟨t,rfl⟩:=r;rfl
 |byt _=>obtain⟨t,rfl⟩:=r;rfl
 |flt _=>obtain⟨t,rfl⟩:=r;rfl
 |ref _=>cases r;rfl
 |ty _=>cases r;rfl
theorem RelV.inj{x y:V}{u:Value}(r:RelV x u)(q:RelV y u):x=y:=VC (r.abs.symm.trans q.abs)
theorem Vals.inj:∀{xs ys:List V} {us:List Value},Vals xs us->Vals ys us->xs=ys
 |_,_,_,.nil,.nil=>rfl
 |_,_,_,.cons r t,.cons a b=>by rw[r.inj a,Vals.inj t b]
section
variable{X:Cx}{pins:List (Addr×Obj)}{σ:St}{H:Hp}{s:Shared}{a:Addr}{xs ys:List V}
theorem aN.of{K:Vo}(h:H a=some (.lst xs)):aN K H a xs:=.inl (.inl h)
theorem jA.of{K:Vo}(h:H a=some (.tup xs)):jA K H a xs:=.inl (.inl h)
theorem Inv.list(I:Inv X pins σ H s)(h:aN X.K H a xs):∃g:List Value,Vals xs g/\PlainL s.heap a g.toArray/\xs.length<=sizeLine:=by
 rcases h with h |⟨o,g,n,b,hc,hd,c,d,r⟩
 ·obtain⟨z,g,n,r,e⟩:=h.ok I.aS;exact⟨g,r,⟨_,n,e,rfl,rfl,rfl⟩,z⟩
 ·refine⟨g.toList,r,⟨o,n,I.fS a o b,hc,hd,by simpa using c⟩,?_⟩;have e:=r.length;simp only[XF]at e;omega
theorem Inv.tuple(I:Inv X pins σ H s)(h:jA X.K H a xs):∃g:List Value,Vals xs g/\IsTup s.heap a g.toArray/\xs.length<=sizeLine:=by
 rcases h with h |⟨o,g,n,b,hc,c,d,r⟩
 ·obtain⟨z,g,r,p⟩:=h.ok I.aS;exact⟨g,r,p,z⟩
 ·refine⟨g.toList,r,⟨o,I.fS a o b,hc,n,by simpa using c⟩,?_⟩;have e:=r.length;simp only[XF]at e;omega
theorem Inv.qc(I:Inv X pins σ H s)(h:aN X.K H a xs)(h':aN X.K H a ys):xs=ys:=by
 obtain⟨c,r,⟨o,n,e,_,_,d⟩,_⟩:=I.list h;obtain⟨b,i,⟨j,k,f,_,_,g⟩,_⟩:=I.list h';rw[e]at f;cases f;rw[d]at g;injection g with l _
 have:c=b:=by grind
 subst this;exact r.inj i
end
noncomputable abbrev Cx.lJ(X:Cx)(E:Value->Shared->Prop):Cx:={X with xe:=E}
noncomputable abbrev Cx.Ci(X:Cx):Cx:=X.lJ λ_ _=>False
theorem Cx.Ok.lJ{X:Cx}(ok:X.Ok)(E:Value->Shared->Prop):(X.lJ E).Ok:=
 ⟨ok.mod,ok.kind,ok.glob,ok.blt,ok.above,ok.inj,ok.has,ok.Hu,ok.hd,ok.frames,ok.Jh,ok.Lj,ok.bs,ok.C9,ok.y3,ok.Aw,ok.lI,ok.EA⟩
theorem Cx.Ok.eh{X:Cx}{E:Value->Shared->Prop}(ok:(X.lJ E).Ok):X.Ok:=
 ⟨ok.mod,ok.kind,ok.glob,ok.blt,ok.above,ok.inj,ok.has,ok.Hu,ok.hd,ok.frames,ok.Jh,ok.Lj,ok.bs,ok.C9,ok.y3,ok.Aw,ok.lI,ok.EA⟩
section
variable{X:Cx}{pins:List (Addr×Obj)}{σ:St}{H:Hp}{s:Shared}{E:Value->Shared->Prop}
theorem Inv.lJ(I:Inv X pins σ H s)(E:Value->Shared->Prop):Inv (X.lJ E) pins σ H s:=⟨I.ok.lJ E,I.os,I.bare,I.base,I.loc,I.cell,I.free,I.fZ,I.pin,I.aS,I.len⟩
theorem Inv.eh(I:Inv (X.lJ E) pins σ H s):Inv X pins σ H s:=⟨I.ok.eh,I.os,I.bare,I.base,I.loc,I.cell,I.free,I.fZ,I.pin,I.aS,I.len⟩
theorem SP.eh(h:SP (X.lJ E) pins D f s'):SP X pins D f s':=by
 cases f with
 |next=>obtain⟨a,b,I,q⟩:=h;exact⟨a,b,I.eh,q⟩
 |brk=>obtain⟨a,b,I,q⟩:=h;exact⟨a,b,I.eh,q⟩
 |cont=>obtain⟨a,b,I,q⟩:=h;exact⟨a,b,I.eh,q⟩
 |ret u=>obtain⟨v,a,b,I,r,q⟩:=h;exact⟨v,a,b,I.eh,r,q⟩
theorem PE.Ci(h:PE X.Ci e t):PE X e t:=λpins s σ H Q I hw=>
 Wl (h pins s σ H Q (I.lJ _) hw) (λ_ _ ⟨v,a,b,r,q⟩=>⟨v,a,b.eh,r,q⟩) λ_ _ z=>Wk z
theorem PT.Ci(h:PT X.Ci e t):PT X e t:=λpins s σ H Q I hw=>
 Wl (h pins s σ H Q (I.lJ _) hw) (λ_ _ ⟨a,b,q⟩=>⟨a,b.eh,q⟩) λ_ _ z=>Wk z
theorem uU.Ci{st:List Stmt}{t:TS}(h:uU X.Ci st t):uU X st t:=λpins s σ H D I hw=>
 Wl (h pins s σ H D (I.lJ _) hw) (λ_ _ q=>q.eh) λ_ _ z=>Wk z
end
section
variable{X:Cx}{st:Stmt}{rest:List Stmt}{t u:TS}{e:Expr}{te:TE}{pos:Pos}
def JB:TS:=λD σ H=>D.nx σ H
def Hw(t u:TS):TS:=λD σ H=>t {D with nx:=u D} σ H
theorem aJ:uU X [] JB:=λ_ _ σ H _ I h=>XY ⟨σ,H,I,h⟩
theorem a6(g:PS X st t)(j:uU X rest u):uU X (st :: rest) (Hw t u):=by
 intro a s σ H D I h;refine Zo (bL (g a s σ H {D with nx:=u D} I h) λf c q=>?_)
 cases f with
 |next=>
  obtain⟨b,d,e,q⟩:=q;exact j a c b d D e q
 |ret v=>exact q
 |brk=>exact q
 |cont=>exact q
theorem af(g:PS X st t):uU X [st] t:=by
 intro a s σ H D I h;refine Zo (bL (g a s σ H D I h) λf b q=>?_)
 cases f with
 |next=>exact XY q
 |ret v=>exact q
 |brk=>exact q
 |cont=>exact q
theorem Inv.quiet(I:Inv X g σ H s):interactive X.env=false:=by simp[interactive,I.ok.kind]
def JC(te:TE):TS:=λD σ H=>te σ H λ_ H1=>D.nx σ H1
theorem bH(g:PE X e te)(hs:Xo e none pos.line X.env=pure false:=by rfl):PS X (.Expr e pos) (JC te):=by
 intro a s σ H D I h;exact wpAny_Expr_any (bL (g a s σ H _ I h) λv f ⟨x,b,c,i,d⟩=>⟨σ,b,c,d⟩) I.quiet hs
def Md(te:TE):TS:=λD σ H=>te σ H D.rt
theorem aw(g:PE X e te):PS X (.Return (some e) pos) (Md te):=by
 intro a s σ H D I h;exact wpAny_Return_some (bL (g a s σ H _ I h) λv i ⟨x,b,c,d,f⟩=>⟨x,σ,b,c,d,f⟩)
def Mf(c:TT)(t u:TS):TS:=λD σ H=>c σ H λb H1=>if b=true then t D σ H1 else u D σ H1
theorem bE{c:Expr}{a b:List Stmt}{g:TT}(hc:PT X c g)(ha:uU X a t)(l:uU X b u):PS X (.If c a b pos) (Mf g t u):=by
 intro e s σ H D I h;refine wpAny_If (bL (hc e s σ H _ I h) λd f ⟨i,j,k⟩=>?_)
 cases d with
 |true=>exact ha e f σ i D j k
 |false=>exact l e f σ i D j k
def Hx:TS:=λ_ _ _=>False
theorem fT:uU X g Hx:=λ_ _ _ _ _ _ h=>h.elim
end
noncomputable abbrev TG:=V->St->Hp->(St->Hp->Prop)->Prop
noncomputable abbrev Lp:=List V->St->Hp->(St->Hp->Prop)->Prop
def PG(X:Cx)(target:Expr)(t:TG):Prop:=
 ∀(pins:List (Addr×Obj)) (s:Shared) (σ:St) (H:Hp) (v:V) (u:Value) (Q:St->Hp->Prop),Inv X pins σ H s->RelV v u->t v σ H Q ->
  wpAny (model X.prog X.w) X.A (assign target X.env u) (λ_ s'=>∃σ' H',Inv X pins σ' H' s'/\Q σ' H') X.xe s
def Lq(X:Cx)(ts:List Expr)(t:Lp):Prop:=
 ∀(pins:List (Addr×Obj)) (s:Shared) (σ:St) (H:Hp) (vs:List V) (us:List Value) (Q:St->Hp->Prop),Inv X pins σ H s->Vals vs us->t vs σ H Q ->
  wpAny (model X.prog X.w) X.A (assignInOrder ((ZG ts X.env).map (·.2)) us) (λ_ s'=>∃σ' H',Inv X pins σ' H' s'/\Q σ' H') X.xe s
noncomputable abbrev Hy:=V->V->V->Hp->(Hp->Prop)->Prop
def JD(X:Cx)(t:Hy):Prop:=
 ∀(pins:List (Addr×Obj)) (s:Shared) (σ:St) (H:Hp) (o i v:V) (ov iv u:Value) (Q:Hp->Prop),Inv X pins σ H s->RelV o ov->RelV i iv->RelV v u->t o i v H Q ->
  wpAny (model X.prog X.w) X.A (setItem ov iv u) (λ_ s'=>∃H',Inv X pins σ H' s'/\Q H') X.xe s
noncomputable abbrev JE:=V->V->Hp->VK->Prop
def Mg(X:Cx)(op:Operator)(t:JE):Prop:=
 ∀(pins:List (Addr×Obj)) (s:Shared) (σ:St) (H:Hp) (x y:V) (v u:Value) (Q:VK),Inv X pins σ H s->RelV x v->RelV y u->t x y H Q ->
  wpAny (model X.prog X.w) X.A (inplaceOp op v u) (EP X pins σ Q) X.xe s
section
variable{X:Cx}{pos:Pos}
def dv(i:Nat):TG:=λv σ H Q=>Q (σ.set i (some v)) H
theorem iE(g:X.N.Nodup)(hi:X.N[i]?=some x)(j:Loc X.env.scope x)(l:X.fn x=true\/X.env.scope.names.lookup x=some .local:=by first |exact .inl rfl |exact .inr rfl |assumption):PG X (.Name x pos) (dv i):=by
 intro a s σ H v u Q I r h;exact wpAny_assign_Name (jC I g hi j r (λc b=>⟨_,H,b,h⟩) l)
inductive Cj(vs:List V)(σ:St)(H:Hp)(Q:St->Hp->Prop):Prop
 |mk (_:vs=[]) (_:Q σ H)
inductive jD(t:TG)(u:Lp)(vs:List V)(σ:St)(H:Hp)(Q:St->Hp->Prop):Prop
 |mk (v r) (_:vs=v :: r) (_:t v σ H λσ' H'=>u r σ' H' Q)
theorem fi:Lq X [] Cj:=by
 intro a s σ H b c Q I r h;obtain⟨e,h⟩:=h;subst e;cases r;exact assignInOrder_nil ⟨σ,H,I,h⟩
theorem b6{e:Expr}{g:List Expr}{t:TG}{u:Lp}(j:PG X e t)(l:Lq X g u)
 (hs:(ZG (e :: g) X.env).map (·.2)=assign e X.env :: (ZG g X.env).map (·.2):=by rfl):Lq X (e :: g) (jD t u):=by
 intro a s σ H n o Q I r h;obtain⟨v,p,c,h⟩:=h;subst c
 cases r with
 |cons r d=>
  rw[hs];refine assignInOrder_cons (bL (j a s σ H _ _ _ I r h) λ_ f ⟨b,i,k,m⟩=>?_);exact l a f b i _ _ Q k d m
inductive Ck(K:Vo)(n:Nat)(t:Lp)(v:V)(σ:St)(H:Hp)(Q:St->Hp->Prop):Prop
 |mk (a xs) (_:v=.ref a) (_:jA K H a xs) (_:xs.length=n) (_:t xs σ H Q)
theorem gY(hc:X.calm=true)(h:Lq X g t)
 (hn:(ZG g X.env).length=n:=by rfl) (j:(ZG g X.env).findIdx? (·.1)=none:=by rfl):PG X (.Tuple g k pos) (Ck X.K n t):=by
 intro c s σ H v u Q I r hw;obtain⟨a,f,i,l,hl,hw⟩:=hw;subst i;cases r;obtain⟨m,d,p,y⟩:=I.tuple l;refine assign_Tuple_tuple (I.ok.hd hc) p (by simp[hn,<-hl,d.length]) j λq w=>?_;have x:Inv X c σ H {s with heap:=q}:=I.kept (t':=s.toks) λb o e=>w b o (VM (VA e)) e;exact h c _ σ H f _ Q x (by simpa using d) hw
def Mh(to ti:TE)(t:Hy):TG:=λv σ H Q=>to σ H λo H1=>ti σ H1 λi H2=>t o i v H2 λH3=>Q σ H3
theorem Cm{o i:Expr}{l p:TE}{t:Hy}(C:PE X o l)(hi:PE X i p)(hs:JD X t)
 (ha:∀v,assign (.Subscript o i pos) X.env v=(do
   let g <-holding [v] (eval o X.env)
   let j <-holding [v,g] (eval i X.env)
   standAt pos
   holding [v,g,j] (setItem g j v)
   release [v,g,j] []):=by intro _;rfl):PG X (.Subscript o i pos) (Mh l p t):=by
 intro a s σ H v u Q I r h;rw[ha];refine Vr (WL (bL (C a s σ H _ I h) λg b ⟨x,c,d,e,f⟩=>?_));refine Vr (WL (bL (hi a b σ c _ d f) λj k ⟨y,m,n,q,w⟩=>?_));refine Vr (YS (Vr (WL (bL (hs a k σ m x y v g j u _ n e q r w) λ_ D ⟨z,A,B⟩=>?_))));exact wpAny_release ⟨σ,z,A,B⟩
def EW(te:TE)(g:TG):TS:=λD σ H=>te σ H λx H1=>g x σ H1 D.nx
theorem y7{j e:Expr}{l:TE}{g:TG}(o:PE X e l)(p:PG X j g)(hs:swapsWithSole [j] e pos.line X.env=pure false:=by rfl)(hw:swappedStores [j] e X.env=pure none:=by rfl)
 (r:(ZG [j] X.env).map (·.2)=[assign j X.env]:=by rfl):PS X (.Assign [j] e pos) (EW l g):=by
 intro a s σ H D I h;refine wpAny_Assign_stores (bL (o a s σ H _ I h) λv b ⟨x,c,d,f,i⟩=>?_) hs hw;rw[r];exact bL (p a b σ c x v _ d f i) λ_ k q=>q
theorem iF{i:Nat}{x:Str}{e:Expr}{j:TE}{g:Pos}(l:X.N.Nodup)(hi:X.N[i]?=some x)(o:Loc X.env.scope x)(p:PE X e j)(hs:Xo e (some (.Name x g)) pos.line X.env=pure false:=by rfl)(r:X.fn x=true\/X.env.scope.names.lookup x=some .local:=by first |exact .inl rfl |exact .inr rfl |assumption) :
 PS X (.Assign [.Name x g] e pos) (EW j (dv i)):=by
 intro a s σ H D I h;refine wpAny_Assign_Name (bL (p a s σ H _ I h) λv m ⟨y,b,c,d,f⟩=>?_) hs;exact jC c l hi o d (λn k=>⟨_,b,k,f⟩) r
inductive Mi(i:Nat)(te:TE)(ti:JE)(D:Ends)(σ:St)(H:Hp):Prop
 |mk (x) (_:σ[i]?=some (some x)) (_:te σ H λy H1=>ti x y H1 λz H2=>D.nx (σ.set i (some z)) H2)
theorem uV{i:Nat}{x:Str}{e:Expr}{p:TE}{op:Operator}{C:JE}{g:Pos}(J:X.N.Nodup)(hi:X.N[i]?=some x)(o:Loc X.env.scope x)(T:PE X e p)(U:Mg X op C)(hf:X.fn x=true\/X.env.scope.names.lookup x=some .local:=by first |exact .inl rfl |exact .inr rfl |assumption) :
 PS X (.AugAssign (.Name x g) op e pos) (Mi i p C):=by
 intro a s σ H D I h;obtain⟨v,q,h⟩:=h;obtain⟨m,hn,hl⟩:=I.loc;have n:Jg X.env.scope x:=by rcases o with k |k;exact .inl k;exact .inr (.inl k)
 obtain⟨u,r,l⟩:=hl i x v hi q n;refine wpAny_AugAssign_Name ?_
 have go:wpAny (model X.prog X.w) X.A (eval e X.env) (λw f=>wpAny (model X.prog X.w) X.A (inplaceOp op u w) (λr j=>wpAny (model X.prog X.w) X.A (storeName X.env x r) (λ_=>SP X a D .next) X.xe j) X.xe f) X.xe s:=by
  refine bL (T a s σ H _ I h) λw t ⟨y,B,E,F,G⟩=>?_;refine bL (U a t σ B v y u w _ E r F G) λz R ⟨S,K,L,M,O⟩=>?_;exact jC L J hi o M (λV P=>⟨_,K,P,O⟩) hf
 rcases l with⟨b,Q⟩ |⟨b,c,hc,d⟩
 ·exact wbu I.ok.kind b hn Q go
 ·rcases b with b |b
  ·exact wbN I.ok.kind b hc d go
  ·rcases o with k |k
   ·have:X.env.scope.names.lookup x=some .free:=b;rw[k]at this;cases this
   ·have:X.env.scope.names.lookup x=some .free:=b;rw[k]at this;cases this
noncomputable def QZ(f:Int->Int->Int):JE:=λx y H Q=>∃i j,x=.int i/\y=.int j/\Q (.int (f i j)) H
theorem Cp:Mg X .Add (QZ λi j=>i + j):=by
 intro a s σ H x y v u Q I b c h;obtain⟨i,j,d,e,q⟩:=h;subst d;subst e;obtain⟨t,rfl⟩:=b;obtain⟨f,rfl⟩:=c;exact iadd_int ⟨.int _,H,I.tok _,⟨_,rfl⟩,q⟩
end
section
variable{X:Cx}{pos:Pos}
def HA(c:TT)(tb:TS):TS:=λD σ H=>∃W:Nat->St->Hp->Prop,(∃m,W m σ H)/\∀m σ H,W m σ H ->
 c σ H λb H1=>if b=true then ∃N:St->Hp->Prop,(∀σ' H',N σ' H'->∃m',m' < m/\W m' σ' H')/\tb {D with nx:=N,ct:=N,bk:=D.nx} σ H1 else D.nx σ H1
theorem i3{c:Expr}{body:List Stmt}{C:TT}{J:TS}(T:PassesOwn (model X.prog X.w) X.A X.env X.xe)(hc:PT X c C)(U:uU X body J):PS X (.While c body [] pos) (HA C J):=by
 intro a s σ H D I h;obtain⟨W,⟨B,E⟩,g⟩:=h;refine wpAny_While (codeAny_whileLoop (λn F=>∃i t,Inv X a i t F/\W n i t) ?_ B ⟨σ,H,I,E⟩);rintro n G ⟨e,u,K,L⟩;refine XZ T (bL (hc a G e u _ K (g n e u L)) λb M ⟨x,y,k⟩=>?_)
 cases b with
 |true=>
  obtain⟨N,z,k⟩:=k;rw[if_pos rfl];refine XZ T (bL (U a M e x _ y k) λf O l=>?_)
  cases f with
  |next=>
   obtain⟨d,j,m,o⟩:=l;obtain⟨p,q,r⟩:=z d j o;exact⟨p,q,d,j,m,r⟩
  |cont=>
   obtain⟨d,j,m,o⟩:=l;obtain⟨p,q,r⟩:=z d j o;exact⟨p,q,d,j,m,r⟩
  |brk=>exact l
  |ret v=>exact l
 |false=>
  rw[if_neg VJ];exact XY ⟨e,x,y,k⟩
end
structure It where
 go:Nat->Hp->Prop
 sD:Nat->Hp->V->Hp->Prop
 stop:Nat->Hp->Prop
def sE(X:Cx)(pins:List (Addr×Obj))(H:Hp)(b:Addr):Prop:=
 H b=none/\b≠X.env.locals/\b∉X.fs/\(b∈X.ex\/X.s₀.heap.objs.size<=b)/\(∀x c,X.env.cells.lookup x=some c->c≠b)/\∀p∈X.pn++pins,p.1≠b
theorem Inv.Ax{X:Cx}(I:Inv X g σ H s)(j:s.heap.objs.size<=b)(hn:l b=none):sE X g l b:=by
 refine⟨hn,XR (VI I.lt j),I.M8 j,.inr (VF I.sz j),λx c e z=>?_,λp a z=>?_⟩
 ·obtain⟨v,q⟩:=I.cell x c e;exact absurd (VI q.lt (by rw[z];exact j)) (WK _)
 ·exact absurd (VI (VA (I.pin p a).1) (by rw[z];exact j)) (WK _)
structure Turn(P:VO)(w:World)(K:Vo)(tg:Expr)(J:It)(fp:List Addr)(it:Addr)(tn:Nat->Heap->Prop):Prop where
 mem:it∈fp
 obj:∀i h,tn i h->∀b∈fp,∃o,h.get? b=some o/\∀v,o.data≠.cell v
 keep:∀i h h',tn i h->(∀b∈fp,∀o,h.get? b=some o->h'.get? b=some o)->tn i h'
 item:∀(X:Cx),X.prog=P->X.w=w->X.K=K->X.calm=true->∀(i:Nat) (pins:List (Addr×Obj)) (s:Shared) (σ:St) (H:Hp) (E:Value->Shared->Prop),Inv X pins σ H s->(∀b∈fp,sE X pins H b)->tn i s.heap->J.go i H ->
  wpAny (model P w) X.A (pyNext (.ref it)) (λr s1=>∃u,r=some u /\
   wpAny (model P w) X.A (ZH tg (.ref it) u) (λ_ s2=>∃x H',Inv X pins σ H' s2/\RelV x u/\J.sD i H x H'/\tn (i + 1) s2.heap/\∀b∈fp,H' b=none) E s1) E s
 done:∀(X:Cx),X.prog=P->X.w=w->X.K=K->X.calm=true->∀(i:Nat) (pins:List (Addr×Obj)) (s:Shared) (σ:St) (H:Hp) (E:Value->Shared->Prop),Inv X pins σ H s->(∀b∈fp,sE X pins H b)->tn i s.heap->J.stop i H ->
   wpAny (model P w) X.A (pyNext (.ref it)) (λr s1=>r=none/\Inv X pins σ H s1) E s
 self:∀(A:Around) (i:Nat) (s:Shared) (Q:Value->Shared->Prop) (E:Value->Shared->Prop),tn i s.heap->Q (.ref it) s->wpAny (model P w) A (pyIter (.ref it)) Q E s
noncomputable abbrev TI:=St->Hp->(It->Hp->Prop)->Prop
def Lr(X:Cx)(pins:List (Addr×Obj))(σ:St)(tg:Expr)(R:It->Hp->Prop)(OD:Value)(s2:Shared):Prop:=
 ∃(it:Addr) (fp:List Addr) (tn:Nat->Heap->Prop) (J:It) (H':Hp),OD=.ref it/\Inv X pins σ H' s2/\Turn X.prog X.w X.K tg J fp it tn/\tn 0 s2.heap/\(∀b∈fp,sE X pins H' b)/\R J H'
def PI(X:Cx)(tg iter:Expr)(wi:TI):Prop:=
 ∀(pins:List (Addr×Obj)) (s:Shared) (σ:St) (H:Hp) (R:It->Hp->Prop),Inv X pins σ H s->wi σ H R ->
  wpAny (model X.prog X.w) X.A (eval iter X.env) (λv s1=>wpAny (model X.prog X.w) X.A (pyIter v) (Lr X pins σ tg R) X.xe s1) X.xe s
theorem zM{E:Value->Shared->Prop}{Q:Unit->Shared->Prop}(j:s.heap.get? it=some o)(hc:o.cls=.type n)(hd:o.data=.fields vs)
 (hn:["enumerate","zip","dict_itemiterator","dict_reverseitemiterator","odict_iterator","itertools.zip_longest","itertools.pairwise"].contains n=false) (g:Q () s):wpAny M A (ZH l (.ref it) u) Q E s:=by
 unfold ZH
 cases l <;> first
  |exact VW g
  |(cases u <;> first
     |exact VW g
     |(refine Vr (wpAny_load j ?_)
       rw[hc,hd];show wpAny M A (if (["enumerate","zip","dict_itemiterator","dict_reverseitemiterator","odict_iterator","itertools.zip_longest","itertools.pairwise"].contains n && vs[0]? == some (rawInt _))=true then _ else _) Q E s;rw[if_neg (by grind)]
       exact VW g))
noncomputable def Ji(K:Vo)(a:Addr):It:=
 ⟨λi H=>∃xs x,aN K H a xs/\xs[i]?=some x,λi H x H'=>H'=H/\∀xs,aN K H a xs->xs[i]?=some x,λi H=>∃xs,aN K H a xs/\xs.length<=i⟩
noncomputable def GA(lo:Int)(n:Nat):It:=⟨λi _=>i < n,λi H x H'=>H'=H/\x=.int (lo + i),λi _=>n<=i⟩
theorem Ay{P:VO}{w:World}{K:Vo}{J:Expr}(a it:Addr):Turn P w K J (Ji K a) [it] it (λi h=>h.IsListIter it a i) where
 mem:=by simp
 obj:=λi h st b g=>by
  have e:b=it:=by simpa using g
  subst e;obtain⟨o,e,c,d⟩:=st;exact⟨o,e,λv z=>by rw[d]at z;cases z⟩
 keep:=λi h l st k=>st.at λo e=>k it (by simp) o e
 item:=by
  intro X q hw r hc i f s σ H E I m st t;subst q hw r;obtain⟨L,x,n,y⟩:=t;obtain⟨A,B,p,M⟩:=I.list n;obtain⟨u,N,O⟩:=B.get y;obtain⟨C,f1,f2,D,F,G⟩:=m it (by simp);refine wpAny_pyNext_list_item st p.isList (x:=u) (by simpa using N) λl j sb=>?_;have Q:Inv X f σ H {s with heap:=l}:=I.turned (t':=s.toks) (λb o g e=>(sb.2 b g).trans e) C f1 D F G;obtain⟨o,e,c,d⟩:=id j;exact⟨u,rfl,zM (s:={s with heap:=l}) e c d (by decide) ⟨x,H,Q,O,⟨rfl,λT R=>by rw[I.qc R n];exact y⟩,j,λb g=>(m b g).1⟩⟩
 done:=by
   intro X q hw r hc i f s σ H E I m st t;subst q hw r;obtain⟨L,n,y⟩:=t;obtain⟨A,B,p,M⟩:=I.list n;obtain⟨C,f1,f2,D,F,G⟩:=m it (by simp);have hl:=B.length;exact wpAny_pyNext_list_end (I.ok.hd hc) st p.isList (by simp;omega) λl S=>⟨rfl,I.turned (t':=s.toks) (λb o g e=>S b o g e) C f1 D F G⟩
 self:=λ_ _ _ _ _ st h=>wpAny_pyIter_listiter st h
theorem y8{P:VO}{w:World}{K:Vo}{C:Expr}(it:Addr)(lo:Int)(n:Nat):Turn P w K C (GA lo n) [it] it (λi h=>IsRangeIter h it (lo + (i:Nat) * 1) ((n:Int) - (i:Nat)) 1) where
 mem:=by simp
 obj:=λi h st b c=>by
  have e:b=it:=by simpa using c
  subst e
  exact⟨_,st,λv z=>by
   have y:wcf _=wcK v:=z
   cases y⟩
 keep:=λi h f st k=>k it (by simp) _ st
 item:=by
  intro X j hw l hc i a s σ H E I g st m;subst j hw l;obtain⟨p,f1,f2,q,r,u⟩:=g it (by simp);have W:=Walks.range (prog:=X.prog) (w:=X.w) (I.ok.hd hc) it lo 1 n;refine W.item i s _ _ m st λv f x A d B=>?_;obtain⟨t,rfl⟩:=A;have D:Inv X a σ H {s with heap:=f,toks:=x}:=I.turned (λb o c e=>B b o (by simpa using c) e) p f1 q r u;refine⟨_,rfl,zM (s:={s with heap:=f,toks:=x}) (n:="range_iterator") d rfl rfl (by decide) ⟨.int (lo + i),H,D,⟨t,?_⟩,⟨rfl,rfl⟩,d,λb c=>(g b c).1⟩⟩;rw[Int.mul_one]
 done:=by
   intro X j hw l hc i a s σ H E I g st m;subst j hw l;obtain⟨p,f1,f2,q,r,u⟩:=g it (by simp);exact wpAny_pyNext_range_end (I.ok.hd hc) st (by have:n<=i:=m;omega) λf F=>⟨rfl,I.turned (t':=s.toks) (λb o c e=>F b o c e) p f1 q r u⟩
 self:=λ_ _ _ _ _ st h=>wpAny_pyIter_rangeiter st h
section
variable{X:Cx}{tg:Expr}
def JF(K:Vo)(tl:TE):TI:=λσ H R=>tl σ H λx H1=>∃a,x=.ref a/\(∃xs,aN K H1 a xs)/\R (Ji K a) H1
theorem aM{l:Expr}{g:TE}(hl:PE X l g):PI X tg l (JF X.K g):=by
 intro c s σ H R I h;refine bL (hl c s σ H _ I h) λv d ⟨x,i,f,j,k⟩=>?_;obtain⟨a,e,⟨t,m⟩,q⟩:=k;subst e;cases j;obtain⟨n,u,p,w⟩:=f.list m;refine Y5 p.isList ?_;refine⟨d.heap.objs.size,[d.heap.objs.size],_,_,i,rfl,f.kept (t':=d.toks) λb o e=>Vv _ e,Ay a _,⟨_,VX _ rfl,rfl,rfl⟩,λb r=>?_,q⟩;have e:b=d.heap.objs.size:=by simpa using r
 subst e;exact f.Ax (Vy _) (f.aS.fresh (Vy _))
theorem wq{g:List (Addr×Obj)}{σ:St}{H:Hp}{s:Shared}{R:It->Hp->Prop}{E:Value->Shared->Prop}{lo hi:Int}{t u v:Tok}{tk:Nat}(I:Inv X g σ H s)(j:-(2 ^ 62)<=lo)(l:lo < 2 ^ 62)(p:-(2 ^ 62)<=hi)(r:hi < 2 ^ 62)
 (q:R (GA lo (hi - lo).toNat) H):wpAny (model X.prog X.w) X.A (pyIter (.ref s.heap.objs.size)) (Lr X g σ tg R) E {s with heap:=s.heap.push {cls:=.type "range",data:=.fields #[.int lo t,.int hi u,.int 1 v]},toks:=tk}:=by
 refine wpAny_pyIter_range (IsRange.new ..) (small_one j l p r) ?_;have a:Inv X g σ H {s with heap:=s.heap.push {cls:=.type "range",data:=.fields #[.int lo t,.int hi u,.int 1 v]},toks:=tk}:=I.kept λb o e=>Vv _ e
 refine⟨(s.heap.push {cls:=.type "range",data:=.fields #[.int lo t,.int hi u,.int 1 v]}).objs.size,[(s.heap.push {cls:=.type "range",data:=.fields #[.int lo t,.int hi u,.int 1 v]}).objs.size],_,_,H,rfl,
  a.kept (t':=tk) λb o e=>Vv _ e,y8 _ lo (hi - lo).toNat,?_,λb c=>?_,q⟩
 ·have d:lo + ((0:Nat):Int) * 1=lo:=by simp
  have f:(((hi - lo).toNat:Nat):Int) - ((0:Nat):Int)=Builtin.Range.rangeSize lo hi 1:=by rw[rangeSize_one];split <;> omega
  show IsRangeIter _ _ (lo + ((0:Nat):Int) * 1) ((((hi - lo).toNat:Nat):Int) - ((0:Nat):Int)) 1;rw[d,f];exact VX _ rfl
 ·have e:b=(s.heap.push {cls:=.type "range",data:=.fields #[.int lo t,.int hi u,.int 1 v]}).objs.size:=by simpa using c
  subst e;exact a.Ax (Vy _) (a.aS.fresh (Vy _))
def JG(ta:TA):TI:=λσ H R=>ta σ H λvs H1=>∃j:Int,vs=[.int j]/\-(2 ^ 62)<=j/\j < 2 ^ 62/\R (GA 0 j.toNat) H1
def JH(ta:TA):TI:=λσ H R=>ta σ H λvs H1=>∃i j:Int,vs=[.int i,.int j]/\(-(2 ^ 62)<=i/\i < 2 ^ 62/\-(2 ^ 62)<=j/\j < 2 ^ 62)/\R (GA i (j - i).toNat) H1
theorem cL(g:Gl X "range")(l:X.mg "range"=none)(ha:PA X [a] o)(hs:starEach [a] X.env=[(false,eval a X.env)]:=by rfl):PI X tg (.Call (.Name "range" p) [a] [] pos) (JG o):=by
 intro b s σ H R I h;refine Call_ (iB I g l boot_range (XS (bL (ha pos b s σ H _ I h) λm n ⟨u,v,d,f,c⟩=>?_) hs rfl));obtain⟨j,e,c,i,q⟩:=c;subst e
 cases f with
 |cons r k=>
  cases k;obtain⟨t,rfl⟩:=r;exact call_range_1 (wq d (by omega) (by omega) c i (by simpa using q))
theorem nQ(l:Gl X "range")(o:X.mg "range"=none)(ha:PA X [a,b] C)(hs:starEach [a,b] X.env=[(false,eval a X.env),(false,eval b X.env)]:=by rfl)(g:starEach [b] X.env=[(false,eval b X.env)]:=by rfl) :
 PI X tg (.Call (.Name "range" p) [a,b] [] pos) (JH C):=by
 intro c s σ H R I h;refine Call_ (iB I l o boot_range (XS (bL (ha pos c s σ H _ I h) λx y ⟨z,A,k,m,d⟩=>?_) (by rw[hs,g]) (by rw[g];rfl)));obtain⟨i,j,e,⟨d,n,u,v⟩,q⟩:=d;subst e
 cases m with
 |cons r f=>
  cases f with
  |cons w f=>
   cases f;obtain⟨t,rfl⟩:=r;obtain⟨B,rfl⟩:=w;exact call_range_2 (wq k d n u v q)
def Mj(wi:TI)(g:TG)(tb:TS):TS:=λD σ H=>wi σ H λJ H1=>∃W:Nat->Nat->St->Hp->Prop,(∃m,W 0 m σ H1)/\∀i m σ H,W i m σ H ->
 (J.stop i H/\D.nx σ H)\/(J.go i H/\∃N:St->Hp->Prop,(∀σ' H',N σ' H'->∃m',m' < m/\W (i + 1) m' σ' H')/\∀x H',J.sD i H x H'->g x σ H' λσ2 H2=>tb {D with nx:=N,ct:=N,bk:=D.nx} σ2 H2)
noncomputable def qe(fp:List Addr)(h:Heap):List (Addr×Obj):=fp.filterMap λb=>(h.get? b).map λo=>(b,o)
theorem iG(g:b∈j)(e:h.get? b=some o):(b,o)∈qe j h:=wa7.mpr ⟨b,g,by rw[e];rfl⟩
theorem Az(g:p∈qe j h):p.1∈j/\h.get? p.1=some p.2:=by
 obtain⟨b,a,e⟩:=wa7.mp g
 cases q:h.get? b with
 |none=>grind
 |some o=>
  grind
theorem Inv.pinned(I:Inv X g σ H s)(l:∀b∈j,sE X g H b)(r:∀b∈j,∃o,s.heap.get? b=some o/\∀v,o.data≠.cell v):Inv X (g++qe j s.heap) σ H s:=
 I.zL λp f=>(VP.mp f).elim (λz=>I.pin p (Wd _ z)) λz=>by
  obtain⟨a,e⟩:=Az z;obtain⟨h,f1,f2,_⟩:=l p.1 a;obtain⟨o,c,d⟩:=r p.1 a;rw[e]at c;cases c;exact⟨e,h,f1,f2,d⟩
theorem Inv.me(I:Inv X (g++pl) σ H s):Inv X g σ H s:=I.zL λp a=>I.pin p (Wd _ (WN _ a))
theorem b9(C:PassesOwn (model X.prog X.w) X.A X.env X.xe)(hc:X.calm=true)(hi:PI X tg iter wi)(hg:PG X tg g)(j:uU X body tb)
 (hs:∀x,Xd iter X.env x=pure x:=by intro _;rfl):PS X (.For tg iter body [] pos) (Mj wi g tb):=by
 intro a s σ H D I h;refine wpAny_For (bL (hi a s σ H _ I h) λv s1 h1=>bL h1 λOD s2 h2=>?_) hs;obtain⟨it,E,V,J,H2,e,I2,T,O,f2,W,⟨m0,w0⟩,F⟩:=h2;subst e;have k:∀{y:Hp},(∀b∈E,y b=none)->∀b∈E,sE X a y b:=λhn b j=>⟨hn b j,(f2 b j).2⟩;refine codeAny_forLoop_any (λn Y=>∃i l y,Inv X a l y Y/\V i Y.heap/\(∀b∈E,y b=none)/\W i n l y) ?_ m0 ⟨0,σ,H2,I2,O,λb j=>(f2 b j).1,w0⟩;rintro n Z ⟨i,p,M,I3,G,K,w3⟩;rcases F i n p M w3 with⟨stop,qn⟩ |⟨go,N,hN,step⟩
 ·refine XZ C (bL (T.done X rfl rfl rfl hc i a Z p M X.xe I3 (k K) G stop) λr s4 ⟨P,I4⟩=>?_);subst P;exact XY ⟨p,M,I4,qn⟩
 ·refine XZ C (bL (T.item X rfl rfl rfl hc i a Z p M X.xe I3 (k K) G go) λr s4 ⟨u,P,h4⟩=>?_);subst P;refine XZ C (bL h4 λ_ s5 ⟨x,H5,I5,r5,y5,B,Q⟩=>?_);have R:=I5.pinned (k Q) (T.obj _ _ B);refine XZ C (bL (hg _ s5 p H5 x u _ R r5 (step x H5 y5)) λ_ s6 ⟨S,H6,I6,q6⟩=>?_);refine XZ C (bL (j _ s6 S H6 _ I6 q6) λf U z=>?_)
  have again:∀{c:St} {q:Hp},Inv X (a++qe E s5.heap) c q U->N c q->∃m,m < n/\∃i l y,Inv X a l y U/\V i U.heap/\(∀b∈E,y b=none)/\W i m l y:=λ{c q} t L=>by
   obtain⟨m',hm,w7⟩:=hN c q L;refine⟨m',hm,i + 1,c,q,t.me,T.keep _ _ _ B λb j o e=>(t.pin (b,o) (Wd _ (Wd _ (iG j e)))).1,λb j=>?_,w7⟩;obtain⟨o,e,d⟩:=T.obj _ _ B b j;exact(t.pin (b,o) (Wd _ (Wd _ (iG j e)))).2.1
  cases f with
  |next=>obtain⟨c,q,t,L⟩:=z;exact again t L
  |cont=>obtain⟨c,q,t,L⟩:=z;exact again t L
  |brk=>obtain⟨c,q,t,z⟩:=z;exact⟨c,q,t.me,z⟩
  |ret v=>obtain⟨x7,c,q,t,r7,z⟩:=z;exact⟨x7,c,q,t.me,r7,z⟩
end
theorem cZ{K:Vo}{a:Addr}{xs:List V}{g:TG}{C:TS}{D:Ends}{σ:St}{H:Hp}(Pv:Nat->St->Hp->Prop)(J:Pv 0 σ H)(hl:∀i σ H,i<=xs.length->Pv i σ H->aN K H a xs)
 (hs:∀i x σ H,xs[i]?=some x->Pv i σ H->g x σ H λj r=>C {D with nx:=Pv (i + 1),ct:=Pv (i + 1),bk:=D.nx} j r) (hd:∀σ H,Pv xs.length σ H->D.nx σ H) :
 ∃W:Nat->Nat->St->Hp->Prop,(∃m,W 0 m σ H)/\∀i m σ H,W i m σ H ->
  ((Ji K a).stop i H/\D.nx σ H)\/((Ji K a).go i H/\∃N:St->Hp->Prop,(∀l o,N l o->∃I,I < m/\W (i + 1) I l o)/\∀x o,(Ji K a).sD i H x o->g x σ o λj r=>C {D with nx:=N,ct:=N,bk:=D.nx} j r):=by
 refine⟨λi m σ H=>m=xs.length - i/\i<=xs.length/\Pv i σ H,⟨xs.length,by simp,Wb _,J⟩,?_⟩;rintro i m σ H ⟨rfl,hi,p⟩;have q:=hl i σ H hi p
 by_cases b:i < xs.length
 ·refine .inr ⟨⟨xs,xs[i],q,by simp[b]⟩,Pv (i + 1),λl o c=>⟨xs.length - (i + 1),by omega,rfl,b,c⟩,λx o y=>?_⟩;obtain⟨e,y⟩:=y;subst e;exact hs i x σ _ (y xs q) p
 ·have e:i=xs.length:=by omega
  subst e;exact .inl ⟨⟨xs,q,Vy _⟩,hd σ H p⟩
theorem d9{lo:Int}{n:Nat}{g:TG}{C:TS}{D:Ends}{σ:St}{H:Hp}(Pv:Nat->St->Hp->Prop)(J:Pv 0 σ H)
 (hs:∀i σ H,i < n->Pv i σ H->g (.int (lo + i)) σ H λj r=>C {D with nx:=Pv (i + 1),ct:=Pv (i + 1),bk:=D.nx} j r) (hd:∀σ H,Pv n σ H->D.nx σ H) :
 ∃W:Nat->Nat->St->Hp->Prop,(∃m,W 0 m σ H)/\∀i m σ H,W i m σ H ->
  ((GA lo n).stop i H/\D.nx σ H)\/((GA lo n).go i H/\∃N:St->Hp->Prop,(∀l o,N l o->∃I,I < m/\W (i + 1) I l o)/\∀x o,(GA lo n).sD i H x o->g x σ o λj r=>C {D with nx:=N,ct:=N,bk:=D.nx} j r):=by
 refine⟨λi m σ H=>m=n - i/\i<=n/\Pv i σ H,⟨n,by simp,Wb _,J⟩,?_⟩;rintro i m σ H ⟨rfl,hi,p⟩
 by_cases a:i < n
 ·refine .inr ⟨a,Pv (i + 1),λl o b=>⟨n - (i + 1),by omega,rfl,a,b⟩,λx o y=>?_⟩;obtain⟨e,y⟩:=y;subst e y;exact hs i σ _ a p
 ·have e:i=n:=by omega
  subst e;exact .inl ⟨Vy _,hd σ H p⟩
noncomputable abbrev R2:=V->V->Hp->VK->Prop
def md(X:Cx)(f:Value->Value->Sem Value)(r:R2):Prop:=
 ∀(pins:List (Addr×Obj)) (s:Shared) (σ:St) (H:Hp) (x y:V) (v u:Value) (Q:VK),Inv X pins σ H s->RelV x v->RelV y u->r x y H Q ->
  wpAny (model X.prog X.w) X.A (f v u) (EP X pins σ Q) X.xe s
def Ml(X:Cx)(f:Value->Sem Value)(r:V->Hp->VK->Prop):Prop:=
 ∀(pins:List (Addr×Obj)) (s:Shared) (σ:St) (H:Hp) (x:V) (v:Value) (Q:VK),Inv X pins σ H s->RelV x v->r x H Q ->
  wpAny (model X.prog X.w) X.A (f v) (EP X pins σ Q) X.xe s
def cS(X:Cx)(f:Value)(r:List V->Hp->VK->Prop):Prop:=
 ∀(pins:List (Addr×Obj)) (s:Shared) (σ:St) (H:Hp) (xs:List V) (us:List Value) (Q:VK),Inv X pins σ H s->Vals xs us->r xs H Q ->
  wpAny (model X.prog X.w) X.A (call f us) (EP X pins σ Q) X.xe s
def Ls(r:R2)(ta tb:TE):TE:=λσ H Q=>ta σ H λx H1=>tb σ H1 λy H2=>r x y H2 Q
def R9(r:V->Hp->VK->Prop)(ta:TE):TE:=λσ H Q=>ta σ H λx H1=>r x H1 Q
inductive rI(C:Int->Int->Prop)(g:Int->Int->V)(x y:V)(H:Hp)(Q:VK):Prop
 |mk (i j) (_:x=.int i) (_:y=.int j) (_:C i j) (_:Q (g i j) H)
inductive GB(g:Int->Int->V)(x y:V)(H:Hp)(Q:VK):Prop
 |mk (i j) (_:x=.int i) (_:y=.int j) (_:Q (g i j) H)
inductive rU(g:Int->V)(x:V)(H:Hp)(Q:VK):Prop
 |mk (i) (_:x=.int i) (_:Q (g i) H)
section
variable{X:Cx}{a b c:Expr}{ta tb tc:TE}{pos:Pos}
theorem HB(ha:PE X a ta)(C:PE X b tb){R:V->V->Hp->Prop}(I:Inv X g σ H s)
 (h:ta σ H λx r=>tb σ r λy j=>R x y j) {Q:Value->Shared->Prop} {f:Value->Value->Sem Value}
 (J:∀v u p x y j,Inv X g σ j p->RelV x v->RelV y u->R x y j->wpAny (model X.prog X.w) X.A (f v u) Q X.xe p) :
 wpAny (model X.prog X.w) X.A (eval a X.env) (λv l=>wpAny (model X.prog X.w) X.A (eval b X.env) (λu o=>wpAny (model X.prog X.w) X.A (f v u) Q X.xe o) X.xe l) X.xe s:=by
 refine bL (ha g s σ H _ I h) λv c ⟨x,r,d,e,i⟩=>?_;refine bL (C g c σ r _ d i) λu p ⟨y,j,k,m,n⟩=>?_;exact J v u p x y j k e m n
theorem aI(g:md X (binaryOp op) r)(ha:PE X a ta)(j:PE X b tb):PE X (.BinOp a op b pos) (Ls r ta tb):=by
 intro c s σ H Q I h;exact wpAny_BinOp (HB ha j I h λv u d x y e f i k q=>g c d σ e x y v u Q f i k q)
theorem JI{r:V->Hp->VK->Prop}(g:Ml X (unaryOp op) r)(ha:PE X a ta):PE X (.UnaryOp op a pos) (R9 r ta):=by
 intro b s σ H Q I h;exact UnaryOp_ (bL (ha b s σ H _ I h) λv c ⟨x,d,e,f,i⟩=>g b c σ d x v Q e f i)
theorem Mm{f:Value->Value->Sem Value}{C:Int->Int->Prop}{g:Int->Int->Int}
 (rule:∀(i j:Int) (t u:Tok) (s:Shared) (Q:Value->Shared->Prop) (E:Value->Shared->Prop),C i j->Q (.int (g i j) s.toks) {s with toks:=s.toks + 1}->wpAny (model X.prog X.w) X.A (f (.int i t) (.int j u)) Q E s) :
 md X f (rI C λi j=>.int (g i j)):=by
 intro a s σ H x y v u Q I b c h;obtain⟨i,j,rfl,rfl,hc,q⟩:=h;obtain⟨t,rfl⟩:=b;obtain⟨d,rfl⟩:=c;exact rule i j t d s _ _ hc ⟨.int (g i j),H,I.tok _,⟨_,rfl⟩,q⟩
theorem JK{f:Value->Value->Sem Value}{g:Int->Int->Int}
 (rule:∀(i j:Int) (t u:Tok) (s:Shared) (Q:Value->Shared->Prop) (E:Value->Shared->Prop),Q (.int (g i j) s.toks) {s with toks:=s.toks + 1}->wpAny (model X.prog X.w) X.A (f (.int i t) (.int j u)) Q E s) :
 md X f (GB λi j=>.int (g i j)):=by
 intro a s σ H x y v u Q I b c h;obtain⟨i,j,rfl,rfl,q⟩:=h;obtain⟨t,rfl⟩:=b;obtain⟨d,rfl⟩:=c;exact rule i j t d s _ _ ⟨.int (g i j),H,I.tok _,⟨_,rfl⟩,q⟩
theorem EX{f:Value->Value->Sem Value}{g:Int->Int->Bool}
 (rule:∀(i j:Int) (t u:Tok) (s:Shared) (Q:Value->Shared->Prop) (E:Value->Shared->Prop),Q (.bool (g i j)) s->wpAny (model X.prog X.w) X.A (f (.int i t) (.int j u)) Q E s) :
 md X f (GB λi j=>.bl (g i j)):=by
 intro a s σ H x y v u Q I b c h;obtain⟨i,j,rfl,rfl,q⟩:=h;obtain⟨t,rfl⟩:=b;obtain⟨d,rfl⟩:=c;exact rule i j t d s _ _ ⟨.bl (g i j),H,I,rfl,q⟩
def Mo(i j:Int):Prop:=0 < j/\j < 1073741824
def EY(i j:Int):Prop:=(-(2 ^ 64) < i/\i < 2 ^ 64)\/(-(2 ^ 64) < j/\j < 2 ^ 64)
theorem EY.ok{i j:Int}(h:EY i j):IntMulOk i j:=by
 rcases h with⟨a,b⟩ |⟨a,b⟩
 ·exact .of_left (intBits_le_64 a b)
 ·exact .of_right (intBits_le_64 a b)
theorem d2:md X (binaryOp .Add) (GB λi j=>.int (i + j)):=JK λ_ _ _ _ _ _ _ q=>add_int q
theorem uW:md X (binaryOp .Sub) (GB λi j=>.int (i - j)):=JK λ_ _ _ _ _ _ _ q=>sub_int q
theorem fD:md X (binaryOp .Mult) (rI EY λi j=>.int (i * j)):=Mm λ_ _ _ _ _ _ _ hc q=>mul_int q hc.ok
theorem mh:md X (binaryOp .FloorDiv) (rI Mo λi j=>.int (i / j)):=Mm λi j _ _ _ _ _ hc q=>by
 have a:(0:Int) < j:=hc.1;have b:j < 1073741824:=hc.2;exact floordiv_int (by omega) (by rw[Int.fdiv_eq_ediv_of_nonneg i (by omega)];exact q) (.inl (PyProof.noPylong_small (by omega)))
theorem fE:md X (binaryOp .Mod) (rI (λ_ j=>0 < j) λi j=>.int (i % j)):=Mm λi j _ _ _ _ _ hc q=>by
 have a:(0:Int) < j:=hc;exact mod_int' (by omega) (by rw[Int.fmod_eq_emod_of_nonneg i (by omega)];exact q)
theorem Ra{f:Value->Sem Value}{g:Int->Int}
 (rule:∀(i:Int) (t:Tok) (s:Shared) (Q:Value->Shared->Prop) (E:Value->Shared->Prop),Q (.int (g i) s.toks) {s with toks:=s.toks + 1}->wpAny (model X.prog X.w) X.A (f (.int i t)) Q E s) :
 Ml X f (rU λi=>.int (g i)):=by
 intro a s σ H x v Q I b h;obtain⟨i,rfl,q⟩:=h;obtain⟨t,rfl⟩:=b;exact rule i t s _ _ ⟨.int (g i),H,I.tok _,⟨_,rfl⟩,q⟩
theorem HC:Ml X (unaryOp .USub) (rU λi=>.int (-i)):=Ra λ_ _ _ _ _ q=>neg_int q
end
noncomputable def JL:V->V->Bool
 |.non,.non=>true |.non,.int _=>true |.int _,.non=>true |.non,.bl _=>true |.bl _,.non=>true |.non,.str _=>true |.str _,.non=>true
 |.int _,.int _=>true |.bl _,.bl _=>true |.str _,.str _=>true |.byt _,.byt _=>true
 |.int _,.str _=>true |.str _,.int _=>true |.bl _,.str _=>true |.str _,.bl _=>true
 |_,_=>false
inductive Rb(x y:V)(H:Hp)(Q:VK):Prop
 |mk (_:JL x y=true) (_:Q (.bl (decide (x=y))) H)
inductive Rc(x y:V)(H:Hp)(Q:VK):Prop
 |mk (_:JL x y=true) (_:Q (.bl (!decide (x=y))) H)
theorem zN:decide (V.int i=V.int j)=(i == j):=by
 rw[ZI];simp
theorem Cq:decide (V.bl i=V.bl j)=(i == j):=by
 rw[ZI];simp
theorem zO:decide (V.str i=V.str j)=(i == j):=by
 rw[ZI];simp
theorem zP:decide (V.byt i=V.byt j)=(i.toList == j.toList):=by
 rw[ZI];cases i;cases j;simp
section
variable{X:Cx}{a b c:Expr}{ta tb tc:TE}{pos:Pos}
theorem b4(I:Inv X g σ H s)(q:Q (.bl k) H)(e:k=j):EP X g σ Q (.bool j) s:=by
 subst e;exact⟨.bl k,H,I,rfl,q⟩
theorem qf:md X (WV .Eq) Rb:=by
 intro e s σ H x y v u Q I d a h;obtain⟨c,q⟩:=h
 cases x with
 |non=>
  cases d
  cases y with
  |non=>cases a;exact PySem.EqNone.eq_none_none (b4 I q (by simp))
  |bl j=>cases a;exact PySem.EqNone.eq_none_bool (b4 I q (by simp))
  |int j=>obtain⟨b,rfl⟩:=a;exact PySem.EqNone.eq_none_int (b4 I q (by simp))
  |str j=>obtain⟨b,rfl⟩:=a;exact PySem.EqNone.eq_none_str (b4 I q (by simp))
  |_=>exact absurd (show false=true from c) VJ
 |bl i=>
  cases d
  cases y with
  |non=>cases a;exact PySem.EqNone.eq_bool_none (b4 I q (by simp))
  |bl j=>cases a;exact eq_bool (b4 I q Cq)
  |str j=>obtain⟨b,rfl⟩:=a;exact PySem.EqMixed.eq_bool_str (b4 I q (by simp))
  |_=>exact absurd (show false=true from c) VJ
 |int i=>
  obtain⟨t,rfl⟩:=d
  cases y with
  |non=>cases a;exact PySem.EqNone.eq_int_none (b4 I q (by simp))
  |int j=>obtain⟨b,rfl⟩:=a;exact eq_int (b4 I q zN)
  |str j=>obtain⟨b,rfl⟩:=a;exact PySem.EqMixed.eq_int_str (b4 I q (by simp))
  |_=>exact absurd (show false=true from c) VJ
 |str i=>
  obtain⟨t,rfl⟩:=d
  cases y with
  |non=>cases a;exact PySem.EqNone.eq_str_none (b4 I q (by simp))
  |bl j=>cases a;exact PySem.EqMixed.eq_str_bool (b4 I q (by simp))
  |int j=>obtain⟨b,rfl⟩:=a;exact PySem.EqMixed.eq_str_int (b4 I q (by simp))
  |str j=>obtain⟨b,rfl⟩:=a;exact eq_str (b4 I q zO)
  |_=>exact absurd (show false=true from c) VJ
 |byt i=>
  obtain⟨t,rfl⟩:=d
  cases y with
  |byt j=>obtain⟨b,rfl⟩:=a;exact PySem.W.eq_bytes (b4 I q zP)
  |_=>exact absurd (show false=true from c) VJ
 |_=>cases y <;> exact absurd (show false=true from c) VJ
theorem JM:md X (WV .NotEq) Rc:=by
 intro e s σ H x y v u Q I d a h;obtain⟨c,q⟩:=h
 cases x with
 |non=>
  cases d
  cases y with
  |non=>cases a;exact PySem.EqNone.ne_none_none (b4 I q (by simp))
  |bl j=>cases a;exact PySem.EqNone.ne_none_bool (b4 I q (by simp))
  |int j=>obtain⟨b,rfl⟩:=a;exact PySem.EqNone.ne_none_int (b4 I q (by simp))
  |str j=>obtain⟨b,rfl⟩:=a;exact PySem.EqNone.ne_none_str (b4 I q (by simp))
  |_=>exact absurd (show false=true from c) VJ
 |bl i=>
  cases d
  cases y with
  |non=>cases a;exact PySem.EqNone.ne_bool_none (b4 I q (by simp))
  |bl j=>cases a;exact ne_bool (b4 I q (congrArg not Cq))
  |str j=>obtain⟨b,rfl⟩:=a;exact PySem.EqMixed.ne_bool_str (b4 I q (by simp))
  |_=>exact absurd (show false=true from c) VJ
 |int i=>
  obtain⟨t,rfl⟩:=d
  cases y with
  |non=>cases a;exact PySem.EqNone.ne_int_none (b4 I q (by simp))
  |int j=>obtain⟨b,rfl⟩:=a;exact ne_int (b4 I q (congrArg not zN))
  |str j=>obtain⟨b,rfl⟩:=a;exact PySem.EqMixed.ne_int_str (b4 I q (by simp))
  |_=>exact absurd (show false=true from c) VJ
 |str i=>
  obtain⟨t,rfl⟩:=d
  cases y with
  |non=>cases a;exact PySem.EqNone.ne_str_none (b4 I q (by simp))
  |bl j=>cases a;exact PySem.EqMixed.ne_str_bool (b4 I q (by simp))
  |int j=>obtain⟨b,rfl⟩:=a;exact PySem.EqMixed.ne_str_int (b4 I q (by simp))
  |str j=>obtain⟨b,rfl⟩:=a;exact ne_str (b4 I q (congrArg not zO))
  |_=>exact absurd (show false=true from c) VJ
 |byt i=>
  obtain⟨t,rfl⟩:=d
  cases y with
  |byt j=>obtain⟨b,rfl⟩:=a;exact PySem.W.ne_bytes (b4 I q (congrArg not zP))
  |_=>exact absurd (show false=true from c) VJ
 |_=>cases y <;> exact absurd (show false=true from c) VJ
theorem je:md X (WV .Lt) (GB λi j=>.bl (decide (i < j))):=EX λ_ _ _ _ _ _ _ q=>lt_int q
theorem GC:md X (WV .LtE) (GB λi j=>.bl (decide (i<=j))):=EX λ_ _ _ _ _ _ _ q=>le_int q
theorem jE:md X (WV .Gt) (GB λi j=>.bl (decide (j < i))):=EX λ_ _ _ _ _ _ _ q=>gt_int q
theorem GD:md X (WV .GtE) (GB λi j=>.bl (decide (j<=i))):=EX λ_ _ _ _ _ _ _ q=>ge_int q
theorem tH:md X (WV .In) (λx y H Q=>∃i j,x=.str i/\y=.str j/\Q (.bl (!(Z8 j i 0 j.length 1).isEmpty)) H):=by
 intro a s σ H x y v u Q I b c h;obtain⟨i,j,rfl,rfl,q⟩:=h;obtain⟨t,rfl⟩:=b;obtain⟨d,rfl⟩:=c;exact in_str (b4 I q rfl)
theorem HD:md X (WV .Is) (λx y H Q=>y=.non/\Q (.bl (decide (x=.non))) H):=by
 intro a s σ H x y v u Q I b c h;obtain⟨rfl,q⟩:=h;cases c;refine is_none_gen (b4 I q ?_)
 cases x <;> first
  |(cases b;rfl)
  |(obtain⟨t,rfl⟩:=b;rfl)
theorem uX:md X (WV .IsNot) (λx y H Q=>y=.non/\Q (.bl (!decide (x=.non))) H):=by
 intro a s σ H x y v u Q I b c h;obtain⟨rfl,q⟩:=h;cases c;refine isnot_none_gen (b4 I q ?_)
 cases x <;> first
  |(cases b;rfl)
  |(obtain⟨t,rfl⟩:=b;rfl)
theorem aL(b:Expr)(h:op≠.In:=by decide)(g:op≠.NotIn:=by decide):Ym op b=false:=by
 have a:(op == CmpOp.In)=false:=by grind
 have c:(op == CmpOp.NotIn)=false:=by grind
 cases b <;> simp[Ym,a,c]
theorem fj(g:md X (WV op) r)(ha:PE X a ta)(j:PE X b tb)(l:Ym op b=false):PE X (.Compare a [op] [b] pos) (Ls r ta tb):=by
 intro c s σ H Q I h;exact wpAny_Compare1 (HB ha j I h λv u d x y e f i k q=>g c d σ e x y v u Q f i k q) l
def JN(t:TE):TT:=λσ H Q=>t σ H λx H'=>OC x H' Q
theorem aA(g:md X (WV op) r)(ha:PE X a ta)(j:PE X b tb)(l:Ym op b=false):PT X (.Compare a [op] [b] pos) (JN (Ls r ta tb)):=by
 intro d s σ H Q I h
 refine wbj (bL (ha d s σ H _ I h) λv f ⟨x,i,m,n,o⟩=>bL (j d f σ i _ m o) λu p ⟨y,q,t,w,A⟩=>
  bL (g d p σ q x y v u _ t n w A) λc F ⟨z,B,C,D,k,e,E⟩=>?_) l
 subst e;cases D;exact Xc ⟨B,C,E⟩
theorem lK:(sizeLine:Nat) < 2 ^ 63:=by rw[Xq];decide
theorem g8:md X (binaryOp .Add) (λx y H Q=>∃i j,x=.str i/\y=.str j/\i.length + j.length<=sizeLine/\Q (.str (i++j)) H):=by
 intro a s σ H x y v u Q I b c h;obtain⟨i,j,rfl,rfl,d,q⟩:=h;obtain⟨t,rfl⟩:=b;obtain⟨e,rfl⟩:=c;exact add_str (λe f=>⟨.str (i++j),H,I.tok _,⟨_,rfl⟩,q⟩) d
theorem vals1(r:Vals [x] us):∃u,us=[u]/\RelV x u:=by
 cases r with
 |cons a b=>cases b;exact⟨_,rfl,a⟩
theorem vals2(r:Vals [x,y] us):∃u g,us=[u,g]/\RelV x u/\RelV y g:=by
 cases r with
 |cons a b=>
  cases b with
  |cons c d=>cases d;exact⟨_,_,rfl,a,c⟩
theorem Cr:cS X (.builtin "abs") (λxs H Q=>∃i,xs=[.int i]/\Q (.int (if i < 0 then -i else i)) H):=by
 intro a s σ H xs b Q I r h;obtain⟨i,rfl,q⟩:=h;obtain⟨u,rfl,t,rfl⟩:=vals1 r;exact call_abs_int λu c=>⟨.int (if i < 0 then -i else i),H,I.tok _,⟨_,rfl⟩,q⟩
theorem tI(hc:X.calm=true):cS X (.builtin "min") (λxs H Q=>∃i j,xs=[.int i,.int j]/\Q (.int (if j < i then j else i)) H):=by
 intro b s σ H xs c Q I r h;obtain⟨i,j,rfl,q⟩:=h;obtain⟨u,d,rfl,⟨t,rfl⟩,⟨e,rfl⟩⟩:=vals2 r;refine min_two_ints (I.ok.hd hc) λf g k=>⟨_,H,I.kept k,?_,q⟩
 by_cases a:j < i
 ·rw[if_pos a,if_pos a];exact⟨_,rfl⟩
 ·rw[if_neg a,if_neg a];exact⟨_,rfl⟩
end
structure y9(h:Heap)(x dx C:Addr)(mA:Str->Option Value):Prop where
 obj:h.get? x=some (Xs C dx)
 ns:h.Ns1 dx mA
 ne:dx≠x
theorem AA{h:Heap}{g:Addr}{j:Str->Option Value}(n:h.Ns1 g j):∃od,h.get? g=some od/\∀name,wa4 name od=some (j name):=by
 obtain⟨o,c,m,d,hd,f,_,i⟩:=n;refine⟨o,d,λname=>?_⟩;have e:=i name;unfold nsFind findBy at e;rw[<-Array.find?_toList]at e;unfold wa4;rw[hd];dsimp only;split
 ·rename_i y q;rw[q]at e;exact congrArg some e
 ·rename_i q;rw[q]at e
  have a:c.toList.any (·.refKey)=false:=by
   rw[wan];intro y k;obtain⟨z,t,b⟩:=f y (Array.mem_toList_iff.mp k);simp[DictEntry.refKey,b]
  have l:¬c.toList.any (·.refKey)=true:=by rw[a];exact VJ
  rw[if_neg l];exact congrArg some e
theorem y9.look{h:Heap}{x g C:Addr}{j:Str->Option Value}(I:y9 h x g C j):∃od,PySem.W.InstAt h x (Xs C g) C (some od)/\∀name,wa4 name od=some (j name):=
 let ⟨od,a,hl⟩:=AA I.ns
 ⟨od,⟨I.obj,rfl,rfl,a⟩,hl⟩
section
variable{prog:VO}{w:World}{A:Around}{E:Value->Shared->Prop}{s:Shared}{K:Vo}{x dx C f:Addr}{mA:Str->Option Value}{name:Str}{v:Value}
theorem get_map{Q:Value->Shared->Prop}(X:K.In s.heap)(I:y9 s.heap x dx C mA)(j:Zq K C name=true)(l:ZJ K C=true)
 (ha:Ww K (.ref C) name=some none) (o:mA name=some v) (g:wcm v=true) (h:Q v {s with toks:=s.toks + 1}) :
 wpAny (model prog w) A (getAttr (.ref x) name expr) Q E s:=by
 obtain⟨a,J,hl⟩:=I.look;exact PySem.W.get_value X J (ZZ j).1 (PySem.W.findObj_own l ha rfl (by rw[hl,o])) g h
theorem Ct{Q:Value×List Value->Shared->Prop}(X:K.In s.heap)(I:y9 s.heap x dx C mA)(g:Zq K C name=true)
 (j:Ww K (.ref C) name=some (some (.ref f))) (l:waA K (.ref f)=true) (o:mA name=none) (h:Q (.ref f,[.ref x]) s) :
 wpAny (model prog w) A (waV (.ref x) name pl) Q E s:=by
 obtain⟨a,J,hl⟩:=I.look;exact PySem.W.method_fn X J (ZZ g).1 (ZZ g).2 j (beq_iff_eq.mp l) (by show (wa4 name a).map (·.isSome)=some false;rw[hl,o];rfl) h
theorem EZ{Q:Unit->Shared->Prop}(X:K.In s.heap)(I:y9 s.heap x dx C mA)
 (hs:Ww K (.ref C) "__setattr__"=some (some (.builtin "object.__setattr__"))) (g:wbh K C=true) (j:waW K C name=some none) (l:ZJ K C=true)
 (hw:Z0 mA ns) (hsz:ns.length<=sizeLine)
 (h:∀h',y9 h' x dx C (λy=>if y=name then some v else mA y)->ZF dx s.heap h'->Q () {s with heap:=h',toks:=s.toks + 2}) :
 wpAny (model prog w) A (setAttr (.ref x) name v) Q E s:=by
 obtain⟨p,J,hl⟩:=I.look;refine wao X J hs (PySem.W.osa_open (s:={s with toks:=s.toks + 1}) (r:=none) X J g j λb=>?_);obtain⟨q,hc,e⟩:=PySem.W.any_some l;have i:s.heap.get? x=some ⟨.ref C,some dx,.plain,#[]⟩:=I.obj;refine Vr (VW (Vr (Vr (wa5 i (Vr (wa8 (s:={s with toks:=s.toks + 1}) (Z9 X hc) ?_))))));rw[e];refine VW (a:=some dx) (Vr (VW (Vr ?_)));refine wbV (s:={s with toks:=s.toks + 1}) I.ns λh' c d=>?_;obtain⟨t,k,m,f,n,o⟩:=c.count (waX name v hw);refine Vr (waB f (by grind [waC,VF]) ?_);exact VW (h _ ⟨(d.2 _ (WQ I.ne)).trans I.obj,c,I.ne⟩ d)
theorem Cu{R:Ys->Shared->Prop}(X:K.In s.heap)(l:wcA K C=true)
 (hi:Ww K (.ref C) "__init__"=some (some (.ref f))) (o:PySem.W.typeIn K (.ref f)=some (.type "function"))
 (h:codeAny (model prog w) (A.under (.builtin "type.__call__" ⟨.ref C :: vs,j⟩)) (.call (.ref f) ⟨.ref (s.heap.objs.size + 1) :: vs,j⟩) (PySem.W.InitBack (s.heap.objs.size + 1) R)
   {s with heap:=(s.heap.push X7).push (Xs C s.heap.objs.size)}) :
 codeAny (model prog w) A (.call (.ref C) ⟨vs,j⟩) R s:=by
 obtain⟨a,g,d,t,os⟩:=s;exact PySem.W.make_core (PySem.W.makes_of X l) (Za X hi) (λself=>PySem.W.bind_fn X self o) (.inl rfl) h
end
noncomputable def d4(f:Str)(v:V):List (Str×V)->List (Str×V)
 |[]=>[(f,v)]
 |(g,x) :: r=>if g=f then(g,v) :: r else(g,x) :: d4 f v r
theorem aD(f g:Str)(v:V):∀fs:List (Str×V),(d4 f v fs).lookup g=if g=f then some v else fs.lookup g
 |[]=>by
  show wcg g [(f,v)]=_
  by_cases h:g=f
  ·grind
  ·grind
 |(k,x) :: r=>by
  have a:=aD f g v r;rw[show d4 f v ((k,x) :: r)=(if k=f then(k,v) :: r else(k,x) :: d4 f v r) from rfl]
  by_cases b:k=f
  ·grind
  ·grind
theorem nR(f:Str)(v:V):∀fs:List (Str×V),f∈(d4 f v fs).map (·.1)/\∀g,g∈fs.map (·.1)->g∈(d4 f v fs).map (·.1)
 |[]=>⟨by simp[d4],λg h=>by simp at h⟩
 |(k,x) :: r=>by
  obtain⟨a,b⟩:=nR f v r;rw[show d4 f v ((k,x) :: r)=(if k=f then(k,v) :: r else(k,x) :: d4 f v r) from rfl]
  by_cases c:k=f
  ·grind
  ·grind
theorem oJ(f:Str)(v:V):∀fs:List (Str×V),(d4 f v fs).length<=fs.length + 1
 |[]=>by simp[d4]
 |(k,x) :: r=>by
  have a:=oJ f v r;rw[show d4 f v ((k,x) :: r)=(if k=f then(k,v) :: r else(k,x) :: d4 f v r) from rfl]
  by_cases b:k=f
  ·grind
  ·grind
theorem gW.uY(r:gW (some v) o):∃u,o=some u/\RelV v u:=by
 cases o with
 |none=>exact(show False from r).elim
 |some u=>exact⟨u,rfl,r⟩
theorem gW.none_of(r:gW none o):o=none:=by grind [gW,cases False]
theorem AB(r:RelV v u):wcm u=true:=by
 cases v with
 |non=>cases(show u=WZ from r);rfl
 |bl b=>cases(show u=wbt b from r);rfl
 |int i=>obtain⟨t,e⟩:=(show ∃t,u=waS i t from r);cases e;rfl
 |str x=>obtain⟨t,e⟩:=(show ∃t,u=waT x t from r);cases e;rfl
 |byt b=>obtain⟨t,e⟩:=(show ∃t,u=Value.bytes b t from r);cases e;rfl
 |flt b=>obtain⟨t,e⟩:=(show ∃t,u=wce b t from r);cases e;rfl
 |ref a=>cases(show u=VH a from r);rfl
 |ty n=>cases(show u=ZE n from r);rfl
section
variable{P:VO}{w:World}{H H':Hp}{h h':Heap}{a C dx:Addr}{fs M5:List (Str×V)}
theorem pT(aS:iz P w H h)(e:H a=some (.ins C dx fs)):∃g,y9 h a dx C g/\(∀f,gW (fs.lookup f) (g f))/\Z0 g (fs.map (·.1))/\fs.length<=1000/\H dx=some (.own a):=by
 obtain⟨d,z,ne,ob,g,n,r,q⟩:=(show bp P w H h a (.ins C dx fs) from aS a _ e);exact⟨g,⟨ob,n,ne⟩,r,q,z,d⟩
end
structure zQ(K:Vo)(C:Addr):Prop where
 pg:Zq K C wcL=true
 hd:ZJ K C=true
 po:wbh K C=true
 sa:Ww K (.ref C) "__setattr__"=some (some (.builtin "object.__setattr__"))
theorem zQ.get{K:Vo}{C:Addr}(c:zQ K C)(f:Str):Zq K C f=true:=c.pg
def cO(K:Vo)(C:Addr)(f:Str):Prop:=Ww K (.ref C) f=some none
theorem cO.JO{K:Vo}{C:Addr}{f:Str}(n:cO K C f):waW K C f=some none:=by
 unfold waW;rw[show Ww K (.ref C) f=some none from n];rfl
structure F0(K:Vo)(C:Addr)(m:Str)(f:Addr):Prop where
 at_:Ww K (.ref C) m=some (some (.ref f))
 fn:waA K (.ref f)=true
 kp:XJ K (.ref f)=true
section
variable{X:Cx}{pins:List (Addr×Obj)}{σ:St}{H:Hp}{s:Shared}{a C dx:Addr}{fs:List (Str×V)}{f:Str}{v:V}{A:Around}{E:Value->Shared->Prop}
theorem ya{Q:Value->Shared->Prop}(I:Inv X pins σ H s)(e:H a=some (.ins C dx fs))(c:zQ X.K C)(n:cO X.K C f)(l:fs.lookup f=some v)
 (h:∀u s',Inv X pins σ H s'->RelV v u->Q u s'):wpAny (model X.prog X.w) A (getAttr (.ref a) f b) Q E s:=by
 obtain⟨g,O,r,_,_,_⟩:=pT I.aS e;obtain⟨u,i,d⟩:=gW.uY (v:=v) (o:=g f) (by grind);exact get_map I.fS O (c.get f) c.hd n i (AB d) (h u _ (I.tok _) d)
theorem qg{Q:Value×List Value->Shared->Prop}(I:Inv X pins σ H s)(e:H a=some (.ins C dx fs))(c:zQ X.K C)(k:F0 X.K C m g)(l:fs.lookup m=none)
 (h:Q (.ref g,[.ref a]) s):wpAny (model X.prog X.w) A (waV (.ref a) m pl) Q E s:=by
 obtain⟨b,O,r,_,_,_⟩:=pT I.aS e;have hn:b m=none:=gW.none_of (by grind);exact Ct I.fS O (c.get m) k.at_ k.fn hn h
theorem yb{Q:Unit->Shared->Prop}(I:Inv X pins σ H s)(e:H a=some (.ins C dx fs))(c:zQ X.K C)(n:cO X.K C f)(hl:fs.length < 1000)(l:RelV y u)
 (h:∀s',Inv X pins σ (upd H a (.ins C dx (d4 f y fs))) s'->Q () s'):wpAny (model X.prog X.w) A (setAttr (.ref a) f u) Q E s:=by
 obtain⟨i,O,r,j,_,k⟩:=pT I.aS e;have m:(fs.map (·.1)).length<=sizeLine:=by rw[Vn,Xq];omega
 refine EZ I.fS O c.sa c.po n.JO c.hd j m λp d sb=>h _ ?_;have hd:∃o,p.get? dx=some o:=let ⟨o,_,_,t,_⟩:=d.ns;⟨o,t⟩
 refine I.write (x:=a) (e:=dx) (by rw[e];exact X0) (.inr k) (λb q v z=>(sb.2 b v).trans z) hd ?_;refine⟨by rw[aa O.ne];exact k,?_,O.ne,d.obj,_,d.ns,λg=>?_,λg B=>?_⟩
 ·have:=oJ f y fs;omega
 ·show gW ((d4 f y fs).lookup g) (if g=f then some u else i g);rw[aD]
  by_cases q:g=f
  ·rw[if_pos q,if_pos q];exact l
  ·rw[if_neg q,if_neg q];exact r g
 ·by_cases q:g=f
  ·rw[q];exact(nR f y fs).1
  ·refine(nR f y fs).2 g (j g λz=>B ?_);show (if g=f then some u else i g)=none;rw[if_neg q];exact z
theorem Inv.made(I:Inv X pins σ H s):Inv X pins σ (upd (upd H s.heap.objs.size (.own (s.heap.objs.size + 1))) (s.heap.objs.size + 1) (.ins C s.heap.objs.size []))
 {s with heap:=(s.heap.push X7).push (Xs C s.heap.objs.size)}:=by
 have c:(s.heap.push X7).get? s.heap.objs.size=some X7:=VX s.heap rfl
 have d:((s.heap.push X7).push (Xs C s.heap.objs.size)).get? (s.heap.objs.size + 1)=some (Xs C s.heap.objs.size):=by
  have:=VX (s.heap.push X7) (o:=Xs C s.heap.objs.size) rfl;rwa[Xb]at this
 have f:(s.heap.push X7).Ns s.heap.objs.size (λ_=>none):=⟨X7,#[],_,c,rfl,(λe g=>absurd g (by simp)),λ_=>rfl⟩;have h:=I.laid (a:=s.heap.objs.size) (o:=.own (s.heap.objs.size + 1)) (h':=s.heap.push X7) (t':=s.toks) (λb u q=>Vv _ q) (Vy _) ⟨_,c⟩;refine h.laid (a:=s.heap.objs.size + 1) (o:=.ins C s.heap.objs.size []) (t':=s.toks) (λb u q=>Vv _ q) (ZK (Xb _ _)) ?_;have ne:s.heap.objs.size≠s.heap.objs.size + 1:=VM (Xk _);refine⟨by rw[aa ne,a7],Wb _,ne,d,λ_=>none,(wc4 f).at λo q=>Vv _ q,λ_=>X0,λy i=>absurd rfl i⟩
theorem F1{Q:Value->Shared->Prop}(j:Y3 e f env (eval e env)=eval e env)
 (h:wpAny (model prog w) A (eval e env) (λo g=>wpAny (model prog w) A (getAttr o f true) Q E g) E s):wpAny (model prog w) A (eval (.Attribute e f pos) env) Q E s:=
 Attribute_any_ h (by rw[arm_eval_Attribute,j])
end
inductive Rf(K:Vo)(f:Str)(x:V)(H:Hp)(Q:VK):Prop
 |mk (a C dx fs v) (_:x=.ref a) (_:H a=some (.ins C dx fs)) (_:zQ K C) (_:cO K C f) (_:fs.lookup f=some v) (_:Q v H)
def JP(K:Vo)(ta:TE)(f:Str):TE:=λσ H Q=>ta σ H λx H1=>Rf K f x H1 Q
def Mp(K:Vo)(ta tv:TE)(f:Str):TS:=λD σ H=>tv σ H λy H1=>ta σ H1 λx H2=>∃a C dx fs,x=.ref a/\H2 a=some (.ins C dx fs)/\zQ K C/\cO K C f/\fs.length < 1000 /\
 D.nx σ (upd H2 a (.ins C dx (d4 f y fs)))
section
variable{X:Cx}{o e value:Expr}{f:Str}{pos pos' Mq:Pos}{ta tv:TE}
theorem aX(g:PE X e ta)(j:Y3 e f X.env (eval e X.env)=eval e X.env):PE X (.Attribute e f pos) (JP X.K ta f):=by
 intro b s σ H Q I h;refine F1 j (bL (g b s σ H _ I h) λu r ⟨x,d,i,k,a,C,t,fs,v,ex,m,c,n,l,q⟩=>?_);subst ex;obtain rfl:u=VH a:=k;exact ya i m c n l λw y o p=>⟨v,d,o,p,q⟩
theorem g9(ha:PE X o ta)(g:PE X value tv)(hs:Xo value (some (.Attribute o f pos')) pos.line X.env=pure false):PS X (.Assign [.Attribute o f pos'] value pos) (Mp X.K ta tv f):=by
 intro b s σ H D I h;refine Yj (bL (g b s σ H _ I h) λu d ⟨y,e,i,j,q⟩=>bL (ha b d σ e _ i q) λk z m=>?_) hs;obtain⟨x,A,p,r,a,C,B,fs,ex,t,c,n,l,v⟩:=m;subst ex;obtain rfl:k=VH a:=r;exact yb p t c n l j λE w=>⟨σ,_,w,v⟩
end
section
variable{X:Cx}{pins:List (Addr×Obj)}{σ:St}{H:Hp}{s:Shared}{A:Around}{E:Value->Shared->Prop}{Q:Value->Shared->Prop}{c:Value}{b:Bool}
set_option genInjectivity true in
inductive dG(K:Vo)(H:Hp):V->Value->Prop where
 |non:dG K H .non (.type "NoneType")
 |bl (x:Bool):dG K H (.bl x) (.type "bool")
 |int (i:Int):dG K H (.int i) (.type "int")
 |str (x:Str):dG K H (.str x) (.type "str")
 |flt (x:UInt64):dG K H (.flt x) (.type "float")
 |lst {a:Addr} {xs:List V} (e:H a=some (.lst xs)):dG K H (.ref a) (.type "list")
 |frz {a:Addr} {o:Obj} {xs:List V} (e:H a=some (.frz o (.lst xs))):dG K H (.ref a) (.type "list")
 |tup {a:Addr} {xs:List V} (e:H a=some (.tup xs)):dG K H (.ref a) (.type "tuple")
 |dK {a:Addr} {kvs:List (Key×V)} (e:H a=some (.dK kvs)):dG K H (.ref a) (.type "dict")
 |dT {a:Addr} {kvs:List (List Key×V)} (e:H a=some (.dT kvs)):dG K H (.ref a) (.type "dict")
 |ins {a C dx:Addr} {fs:List (Str×V)} (e:H a=some (.ins C dx fs)) (cl:zQ K C) (ha:Ww K (.ref C) "__class__"=some (some (.builtin "object.__class__")))
   (hn:wae K (.builtin "object.__class__") "__get__"=some (some (.builtin "getset_descriptor.__get__"))) (oK:PySem.W.takesIn K (.builtin "object.__class__")=some true)
   (hm:PySem.W.mroIn K C (.type "object")=some true):dG K H (.ref a) (.ref C)
theorem nT(I:Inv X pins σ H s)(g:RelV x u)(ty:dG X.K H x t)(e:wcH X.K t c=some b)(h:∀tk,Q (.bool b) {s with toks:=tk}) :
 wpAny (model X.prog X.w) A (call (.builtin "isinstance") [u,c]) Q E s:=by
 cases ty with
 |non=>cases(show u=WZ from g);exact X2 PySem.W.kitx_none I.fS X0 e (λz=>nomatch z) h
 |bl y=>cases(show u=wbt y from g);exact X2 PySem.W.kitx_bool I.fS X0 e (λz=>nomatch z) h
 |int i=>obtain⟨t,q⟩:=(show ∃t,u=waS i t from g);cases q;exact X2 PySem.W.kitx_int I.fS X0 e (λz=>nomatch z) h
 |str y=>obtain⟨t,q⟩:=(show ∃t,u=waT y t from g);cases q;exact X2 PySem.W.kitx_str I.fS X0 e (λz=>nomatch z) h
 |flt y=>obtain⟨t,q⟩:=(show ∃t,u=wce y t from g);cases q;exact X2 PySem.W.kitx_float I.fS X0 e (λz=>nomatch z) h
 |@lst a k d=>
  cases(show u=VH a from g);obtain⟨_,_,n,_,f⟩:=(show bp X.prog X.w H s.heap a (.lst k) from I.aS a _ d);exact X2 wc5 I.fS ⟨_,f,rfl⟩ e (λz=>nomatch z) h
 |@frz a ob k d=>
  cases(show u=VH a from g);obtain⟨_,_,_,n,_,f⟩:=(show bp X.prog X.w H s.heap a (.frz ob (.lst k)) from I.aS a _ d);exact X2 wc5 I.fS ⟨_,f,rfl⟩ e (λz=>nomatch z) h
 |@tup a k d=>
  cases(show u=VH a from g);obtain⟨_,_,_,p⟩:=(show bp X.prog X.w H s.heap a (.tup k) from I.aS a _ d);obtain⟨o,f,l,_⟩:=p;exact X2 PySem.W.kitx_tuple I.fS ⟨o,f,l⟩ e (λz=>nomatch z) h
 |@dK a j d=>
  cases(show u=VH a from g);obtain⟨_,_,B,_,p⟩:=(show bp X.prog X.w H s.heap a (.dK j) from I.aS a _ d);obtain⟨o,m,r,f,l,_⟩:=p;exact X2 wc6 I.fS ⟨o,f,l.1⟩ e (λz=>nomatch z) h
 |@dT a j d=>
  cases(show u=VH a from g);obtain⟨_,_,k,_,o,m,r,f,l,_⟩:=(show bp X.prog X.w H s.heap a (.dT j) from I.aS a _ d);exact X2 wc6 I.fS ⟨o,f,l.1⟩ e (λz=>nomatch z) h
 |@ins a C D fs d cl ha hn oK v=>
  cases(show u=VH a from g);obtain⟨F,O,_⟩:=pT I.aS d;obtain⟨G,J,_⟩:=O.look;exact X2 (PySem.W.kitx_own (cl.get _) cl.hd ha hn oK v) I.fS J e (λz=>nomatch z) h
end
structure cJ(k:Nat)(A:Around):Prop where
 hd:A.handled=none
 dp:A.depth + 3 * k + 5 < recursionLimit
 un:A.units + 16 * k + 200 < Yt
theorem cJ.mono(r:cJ k A)(h:j<=k):cJ j A:=⟨r.hd,by have:=r.dp;omega,by have:=r.un;omega⟩
theorem cJ.deeper(r:cJ (k + 1) A)(env:Env):cJ k (A.deeper env):=
 ⟨r.hd,by have:=r.dp;show A.depth + 1 + 3 * k + 5 < _;omega,by have:=r.un;show A.units + 3 + 16 * k + 200 < _;omega⟩
theorem cJ.in1(r:cJ (k + 1) A):cJ k A.in1:=
 ⟨r.hd,by have:=r.dp;show A.depth + 3 * k + 5 < _;omega,by have:=r.un;show A.units + 1 + 16 * k + 200 < _;omega⟩
theorem yc{A:Around}{C:Addr}{us:List Value}{g:List (Str×Value)}:(A.under (.builtin "type.__call__" ⟨.ref C :: us,g⟩)).depth=A.depth + 1:=by
 first |rfl |simp[wbW,Code.weight,Code.isCreation,Code.isGuard,Code.isCaller,Code.frames,wbX,guardIds]
theorem yd{A:Around}{C:Addr}{us:List Value}{g:List (Str×Value)}:(A.under (.builtin "type.__call__" ⟨.ref C :: us,g⟩)).units=A.units + 1:=by
 first |rfl |simp[wbW,Code.cUnits,Code.frames,wbX]
theorem cJ.make(r:cJ (k + 1) A)(C:Addr)(us:List Value)(g:List (Str×Value)):cJ k (A.under (.builtin "type.__call__" ⟨.ref C :: us,g⟩)):=
 ⟨r.hd,by have:=r.dp;rw[yc];omega,by have:=r.un;rw[yd];omega⟩
theorem cJ.depth(r:cJ k A):A.depth < recursionLimit:=by have:=r.dp;omega
theorem cJ.units(r:cJ k A):A.units + 64 < Yt:=by have:=r.un;omega
theorem cJ.uZ(r:cJ k A):A.units < Yt:=by have:=r.un;omega
def F4:TA:=λ_ H Q=>Q [] H
def zR(ta:TE)(tr:TA):TA:=λσ H Q=>ta σ H λx H1=>tr σ H1 λxs H2=>Q (x :: xs) H2
section
variable{X:Cx}{e:Expr}{es:List Expr}{te:TE}{t:TA}{pos:Pos}
theorem a8:PA X [] F4:=λ_ _ _ _ H Q I h=>Calls.spliced_nil ⟨[],H,I,.nil,h⟩
theorem a5(ha:PE X e te)(g:PA X es t)(hs:starEach (e :: es) X.env=(false,eval e X.env) :: starEach es X.env:=by rfl):PA X (e :: es) (zR te t):=by
 intro pos a s σ H Q I h;rw[hs];show wpAny _ _ (spliced ((false,eval e X.env) :: backTo pos (starEach es X.env))) _ _ s;refine Calls.spliced_cons (bL (ha a s σ H _ I h) λu b ⟨x,c,d,f,i⟩=>?_);exact bL (g pos a b σ c _ d i) λo p ⟨j,k,l,m,n⟩=>⟨x :: j,k,l,.cons f m,n⟩
inductive Rg(xs:List V)(H:Hp)(Q:VK):Prop
 |mk (_:xs.length<=sizeLine) (_:∀p,H p=none->Q (.ref p) (upd H p (.tup xs)))
def JQ(t:TA):TE:=λσ H Q=>t σ H λxs H1=>Rg xs H1 Q
inductive Rh(xs:List V)(H:Hp)(Q:VK):Prop
 |mk (_:xs.length<=sizeLine) (_:∀p,H p=none->Q (.ref p) (upd H p (.lst xs)))
def JR(t:TA):TE:=λσ H Q=>t σ H λxs H1=>Rh xs H1 Q
theorem cB{g}(h:PA X es t):PE X (.Tuple es g pos) (JQ t):=by
 intro a s σ H Q I i;refine wpAny_Tuple_spliced (bL (h pos a s σ H _ I i) λj c ⟨k,d,f,r,z,q⟩=>⟨by rw[<-r.length];exact z,?_⟩);have l:d c.heap.objs.size=none:=f.aS.fresh (Vy _);refine⟨.ref c.heap.objs.size,upd d c.heap.objs.size (.tup k),f.laid (t':=c.toks) (λb u e=>Vv _ e) (Vy _) ?_,rfl,q _ l⟩;exact⟨z,j,r,⟨_,VX _ rfl,rfl,_,rfl⟩⟩
theorem cC(h:PA X es t):PE X (.List es pos) (JR t):=by
 intro a s σ H Q I g;refine wpAny_List_spliced (bL (h pos a s σ H _ I g) λi c ⟨j,d,f,r,z,q⟩=>⟨by rw[<-r.length];exact z,?_⟩);have k:d c.heap.objs.size=none:=f.aS.fresh (Vy _);refine⟨.ref c.heap.objs.size,upd d c.heap.objs.size (.lst j),f.laid (t':=c.toks) (λb u e=>Vv _ e) (Vy _) ?_,rfl,q _ k⟩;exact⟨z,i,0,r,VX _ rfl⟩
end
noncomputable abbrev Sp:=List V->Hp->VK->XK->Prop
noncomputable abbrev zS:=List Env->Hp->Shared->XK->Value->Shared->Prop
structure sF(P:VO)(w:World)(K:Vo)(mg:Str->Option Value)(base:Heap)(A:Around)(outer:List Env)(s:Shared)(H:Hp):Prop where
 frames:A.frames=some outer
 mod:Mod K mg base
 bs:∀b o,base.get? b=some o->s.heap.get? b=some o/\H b=none
 C9:base.objs.size<=s.heap.objs.size
 lI:s.heap.FunFrames base outer
 EA:∀b∈pG outer,H b=none
 aS:iz P w H s.heap
 bare:AllBare s.gens
def CE(outer:List Env)(P:VO)(w:World)(H:Hp)(s:Shared)(Q:VK)(u:Value)(s':Shared):Prop:=
 ∃v H',s'.os=s.os/\AllBare s'.gens/\Un (pG outer) [] H H' s.heap s'.heap/\iz P w H' s'.heap/\RelV v u/\Q v H'
def CR(CX:zS)(outer:List Env)(P:VO)(w:World)(H:Hp)(s:Shared)(Q:VK)(E:XK)(r:Ys)(s':Shared):Prop:=
 match r with
 |.ok (.ret u)=>CE outer P w H s Q u s'
 |.ok _=>False
 |.error e=>CX outer H s E e s'
structure aK(P:VO)(w:World)(K:Vo)(mg:Str->Option Value)(base:Heap)(CX:zS)(k:Nat)(f:Addr)(fd:VB)(ps:List Str)(sp:Sp):Prop where
 len:∀vs H Q E,sp vs H Q E->vs.length=ps.length
 run:∀(A:Around) (outer:List Env) (s:Shared) (H:Hp) (args:Args) (us:List Value) (vs:List V) (Q:VK) (E:XK),cJ k A->sF P w K mg base A outer s H->BindsTo s fd args (ps.zip us)->Vals vs us->sp vs H Q E ->
  codeAny (model P w) A (.call (.ref f) args) (CR CX outer P w H s Q E) s
theorem aK.mono{P:VO}{w:World}{K:Vo}{mg:Str->Option Value}{base:Heap}{CX:zS}{j k:Nat}{f:Addr}{fd:VB}{ps:List Str}{sp:Sp}(F:aK P w K mg base CX j f fd ps sp)(h:j<=k) :
 aK P w K mg base CX k f fd ps sp:=⟨F.len,λA outer s H args a b Q E c=>F.run A outer s H args a b Q E (c.mono h)⟩
theorem aK.imp{P:VO}{w:World}{K:Vo}{mg:Str->Option Value}{base:Heap}{CX:zS}{k:Nat}{f:Addr}{fd:VB}{ps:List Str}{sp g:Sp}(F:aK P w K mg base CX k f fd ps sp)
 (h:∀vs H Q E,g vs H Q E->sp vs H Q E):aK P w K mg base CX k f fd ps g:=
 ⟨λvs H Q E q=>F.len vs H Q E (h _ _ _ _ q),λA outer s H args a vs Q E b c d e i=>F.run A outer s H args a vs Q E b c d e (h _ _ _ _ i)⟩
theorem sF.make{P:VO}{w:World}{K:Vo}{mg:Str->Option Value}{base:Heap}{A:Around}{outer:List Env}{s:Shared}{H:Hp}(e:sF P w K mg base A outer s H)(C:Addr)(us:List Value)(g:List (Str×Value)) :
 sF P w K mg base (A.under (.builtin "type.__call__" ⟨.ref C :: us,g⟩)) outer s H:=⟨by first |exact e.frames |(simpa [wbW,Code.envs,wbX,pushEnvs] using e.frames),e.mod,e.bs,e.C9,e.lI,e.EA,e.aS,e.bare⟩
theorem sF.in1{P:VO}{w:World}{K:Vo}{mg:Str->Option Value}{base:Heap}{A:Around}{outer:List Env}{s:Shared}{H:Hp}(e:sF P w K mg base A outer s H) :
 sF P w K mg base A.in1 outer s H:=⟨e.frames,e.mod,e.bs,e.C9,e.lI,e.EA,e.aS,e.bare⟩
section
variable{X:Cx}{pins:List (Addr×Obj)}{σ:St}{H:Hp}{s s':Shared}
theorem Inv.F5(I:Inv X pins σ H s):sF X.prog X.w X.K X.mg X.base X.A X.stack s H:=
 ⟨I.ok.frames,I.ok.mod,I.bs,VF I.ok.C9 I.sz,I.stack,I.pR,I.aS,I.bare⟩
theorem Inv.after(I:Inv X pins σ H s)(h:CE X.stack X.prog X.w H s Q u s'):EP X pins σ Q u s':=by
 obtain⟨v,c,os,bare,un,aS,r,q⟩:=h;obtain⟨e,g,d,t,a⟩:=s';obtain rfl:a=s.os:=os;exact⟨v,c,I.call (h':=e) (g':=g) (d':=d) (t':=t) (ch:=[]) un aS bare (λb z=>absurd z (by simp)),r,q⟩
end
def GF(sp:Sp)(sG:List V)(E:XK)(t:TA):TE:=λσ H Q=>t σ H λvs H1=>sp (vs++sG) H1 Q E
inductive Ri(C:Addr)(m:Str)(x:V)(H:Hp)(k:Prop):Prop
 |mk (a dx fs) (_:x=.ref a) (_:H a=some (.ins C dx fs)) (_:fs.lookup m=none) (_:k)
def GH(C:Addr)(m:Str)(sp:Sp)(sG:List V)(E:XK)(ta:TE)(t:TA):TE:=λσ H Q=>ta σ H λx H1=>Ri C m x H1 (t σ H1 λvs H2=>sp (x :: (vs++sG)) H2 Q E)
def JS(C:Addr)(sp:Sp)(sG:List V)(E:XK)(t:TA):TE:=λσ H Q=>t σ H λvs H1=>∀x dx,H1 x=none->H1 dx=none->dx≠x ->
 sp (.ref x :: (vs++sG)) (upd (upd H1 dx (.own x)) x (.ins C dx [])) (λv H2=>v=.non/\Q (.ref x) H2) E
def Binds(K:Vo)(fd:VB)(ps:List Str)(ds:List Value):Prop:=
 ∀(s:Shared) (us:List Value),K.In s.heap->(us++ds).length=ps.length->BindsTo s fd ⟨us,[]⟩ (ps.zip (us++ds))
theorem Binds.all{K:Vo}{fd:VB}{ps:List Str}(h:∀us:List Value,us.length=ps.length->bindArgs fd ⟨us,[]⟩=pure (ps.zip us)):Binds K fd ps []:=λs us _ hl=>by
 rw[Wr]at hl ⊢;exact .of_eq (h us hl)
def Passes(CX:zS)(X:Cx)(E:XK):Prop:=∀(pins:List (Addr×Obj)) (σ:St) (H:Hp) (s:Shared) (e:Value) (s':Shared),Inv X pins σ H s->CX X.stack H s E e s'->X.xe e s'
section
variable{X:Cx}{CX:zS}{k:Nat}{f C:Addr}{fd:VB}{ps:List Str}{sp:Sp}{sG:List V}{ds:List Value}{E:XK}{x m:Str}{p pos apos:Pos}{e o:Expr}{es:List Expr}{ta:TE}{t:TA}
theorem ye(F:aK X.prog X.w X.K X.mg X.base CX k f fd ps sp)(j:cJ k X.A)(l:Binds X.K fd ps ds)(hd:Vals sG ds)(J:Passes CX X E)
 (I:Inv X g σ H s) (r:Vals vs us) (h:sp (vs++sG) H Q E):wpAny (model X.prog X.w) X.A (call (.ref f) us) (EP X g σ Q) X.xe s:=by
 have b:Vals (vs++sG) (us++ds):=r.append hd;have hl:(us++ds).length=ps.length:=by rw[<-b.length];exact F.len _ _ _ _ h
 refine XO (Xg (F.run X.A X.stack s H ⟨us,[]⟩ (us++ds) (vs++sG) Q E j I.F5 (l s us I.fS hl) b h) λr c a=>?_)
 cases r with
 |error e=>exact J g σ H s e c I a
 |ok fl=>
  cases fl with
  |ret u=>exact I.after a
  |next=>exact Wk a
  |brk=>exact Wk a
  |cont=>exact Wk a
theorem gH(F:aK X.prog X.w X.K X.mg X.base CX k f fd ps sp)(l:cJ k X.A)(J:Gl X x)(T:X.mg x=some (.ref f))(U:XJ X.K (.ref f)=true)(hb:Binds X.K fd ps ds)(hd:Vals sG ds)(hx:Passes CX X E)
 (ha:PA X (e :: es) t) (g:(x == ("__debug__":Str))=false:=by decide) (he:starEach (e :: es) X.env=(false,eval e X.env) :: starEach es X.env:=by rfl) (j:(backTo pos (starEach es X.env)).any (·.1)=false:=by rfl) :
 PE X (.Call (.Name x p) (e :: es) [] pos) (GF sp sG E t):=by
 intro a s σ H Q I h;refine X3 (gG I J T ?_ g);refine XU (h₀:=X.base) I.ok.mod.Gz U (bL (ha pos a s σ H _ I h) λc d ⟨i,m,b,r,q⟩=>⟨b.fS,?_⟩) he j;exact ye F l hb hd hx b r q
theorem mj(U:PE X o ta)(c:zQ X.K C)(J:F0 X.K C m f)(F:aK X.prog X.w X.K X.mg X.base CX k f fd ps sp)(hr:cJ k X.A)(hb:Binds X.K fd ps ds)(hd:Vals sG ds)(hx:Passes CX X E)(ha:PA X (e :: es) t)
 (g:starEach (e :: es) X.env=(false,eval e X.env) :: starEach es X.env:=by rfl) (j:(backTo pos (starEach es X.env)).any (·.1)=false:=by rfl)
 (ht:eval (.Call (.Attribute o m apos) (e :: es) [] pos) X.env=(do
   let T <-eval o X.env
   standAt apos.atName
   let (f,first) <-holding [T] (waV T m pl)
   callWith pos f first (backTo pos (starEach (e :: es) X.env)) (backToKw pos (Zg [] X.env))):=by rfl) :
 PE X (.Call (.Attribute o m apos) (e :: es) [] pos) (GH C m sp sG E ta t):=by
 intro b s σ H Q I h;refine Zz (pl:=pl) (bL (U b s σ H _ I h) λu n ⟨x,p,d,v,a,B,fs,ex,y,l,q⟩=>?_) ht;subst ex;obtain rfl:u=VH a:=v;refine qg d y c J l ?_;refine XU (first:=[.ref a]) (h₀:=X.base) I.ok.mod.Gz J.kp (bL (ha pos b n σ p _ d q) λus D ⟨vs,G,i,r,z⟩=>⟨i.fS,?_⟩) g j;exact ye (us:=.ref a :: us) (vs:=.ref a :: vs) F hr hb hd hx i (.cons rfl r) z
theorem jF(r:PE X o ta)(c:zQ X.K C)(g:F0 X.K C m f)(F:aK X.prog X.w X.K X.mg X.base CX k f fd ps sp)(J:cJ k X.A)(T:Binds X.K fd ps ds)(hd:Vals sG ds)(U:Passes CX X E)
 (ht:eval (.Call (.Attribute o m apos) [] [] pos) X.env=(do
   let j <-eval o X.env
   standAt apos.atName
   let (f,first) <-holding [j] (waV j m pl)
   callWith pos f first (backTo pos (starEach [] X.env)) (backToKw pos (Zg [] X.env))):=by rfl) :
 PE X (.Call (.Attribute o m apos) [] [] pos) (GH C m sp sG E ta F4):=by
 intro b s σ H Q I h;refine Zz (pl:=pl) (bL (r b s σ H _ I h) λu n ⟨x,p,d,e,a,t,fs,ex,i,l,q⟩=>?_) ht;subst ex;obtain rfl:u=VH a:=e;refine qg d i c g l ?_;exact PySem.W.callWith_K0 (first:=[.ref a]) d.fS g.kp (ye (us:=[.ref a]) (vs:=[.ref a]) F J T hd U d (.cons rfl .nil) q)
structure Mk(K:Vo)(C f:Addr):Prop where
 makes:wcA K C=true
 init:Ww K (.ref C) "__init__"=some (some (.ref f))
 fn:waA K (.ref f)=true
 kp:XJ K (.ref C)=true
theorem Cv(M:Mk X.K C f)(F:aK X.prog X.w X.K X.mg X.base CX k f fd ps sp)(l:cJ (k + 1) X.A)(J:Binds X.K fd ps ds)(hd:Vals sG ds)
 (T:Passes CX X E) (I:Inv X g σ H s) (r:Vals vs us)
 (h:∀x j,H x=none->H j=none->j≠x->sp (.ref x :: (vs++sG)) (upd (upd H j (.own x)) x (.ins C j [])) (λv U=>v=.non/\Q (.ref x) U) E) :
 wpAny (model X.prog X.w) X.A (call (.ref C) us) (EP X g σ Q) X.xe s:=by
 have c:=h (s.heap.objs.size + 1) s.heap.objs.size (I.aS.fresh (Ye _)) (I.aS.fresh (Vy _)) (VM (Xk _));have b:=Inv.made (C:=C) I;have d:Vals (V.ref (s.heap.objs.size + 1) :: (vs++sG)) (VH (s.heap.objs.size + 1) :: (us++ds)):=.cons rfl (r.append hd)
 have hl:(VH (s.heap.objs.size + 1) :: us++ds).length=ps.length:=by
  have e:=d.length;rw[F.len _ _ _ _ c]at e;exact e.symm
 refine XO (Cu (f:=f) I.fS M.makes M.init (beq_iff_eq.mp M.fn) (Xg (F.run _ X.stack _ _ ⟨VH (s.heap.objs.size + 1) :: us,[]⟩ (VH (s.heap.objs.size + 1) :: (us++ds)) _ _ E (l.make C us [])
  (b.F5.make C us []) (J _ (VH (s.heap.objs.size + 1) :: us) b.fS hl) d c) λr i a=>?_))
 cases r with
 |error e=>exact T g σ _ _ e i b a
 |ok fl=>
  cases fl with
  |ret u=>
   obtain⟨v,m,n,o,p,q⟩:=b.after a;subst p;exact⟨o,⟨V.ref (s.heap.objs.size + 1),m,n,rfl,q⟩⟩
  |next=>exact Wk a
  |brk=>exact Wk a
  |cont=>exact Wk a
theorem ml(M:Mk X.K C f)(F:aK X.prog X.w X.K X.mg X.base CX k f fd ps sp)(l:cJ (k + 1) X.A)(J:Gl X x)(T:X.mg x=some (.ref C))(U:Binds X.K fd ps ds)(hd:Vals sG ds)(hx:Passes CX X E)
 (ha:PA X (e :: es) t) (g:(x == ("__debug__":Str))=false:=by decide) (he:starEach (e :: es) X.env=(false,eval e X.env) :: starEach es X.env:=by rfl) (j:(backTo pos (starEach es X.env)).any (·.1)=false:=by rfl) :
 PE X (.Call (.Name x p) (e :: es) [] pos) (JS C sp sG E t):=by
 intro a s σ H Q I h;refine X3 (gG I J T ?_ g);refine XU (h₀:=X.base) I.ok.mod.Gz M.kp (bL (ha pos a s σ H _ I h) λc d ⟨i,m,b,r,q⟩=>⟨b.fS,?_⟩) he j;exact Cv M F l U hd hx b r q
end
section
variable{X:Cx}{CX:zS}{k:Nat}{f C:Addr}{fd:VB}{ps ks:List Str}{sp:Sp}{E:XK}{x m:Str}{p pos apos Rj:Pos}{e o:Expr}{es:List Expr}{Ur:List wax}{te ta:TE}{t tk:TA}{nm:Option Str}
variable{g:List Value->List Value->List Value}{gV:List V->List V->List V}
end
structure iH(N P:List Str)(sc:Yr):Prop where
 kind:sc.kind=.function
 co:sc.isCoroutine=false
 gen:sc.isGenerator=false
 nd:N.Nodup
 pre:N.take P.length=P
 par:∀x∈P,sc.names.lookup x=some .local\/sc.names.lookup x=some .cell
 HE:∀y∈sc.names,y.2≠.free
theorem tJ{kindOf:Str->Option Zr}:∀{binds:List (Str×Value)} {m:Str->Option Value},(∀v,(x,v)∉binds)->bindL kindOf binds m x=m x
 |[],_,_=>rfl
 |(n,v) :: r,m,h=>by
  unfold bindL;rw[tJ λw hw=>h w (Vw _ hw)];split
  ·grind
  ·rfl
theorem tK{kindOf:Str->Option Zr}:∀{binds:List (Str×Value)} {m:Str->Option Value},(∀v,(x,v)∉binds)->bindC kindOf binds m x=m x
 |[],_,_=>rfl
 |(n,v) :: r,m,h=>by
  unfold bindC;rw[tK λw hw=>h w (Vw _ hw)];split
  ·rfl
  ·grind
theorem tL{kindOf:Str->Option Zr}:∀{P:List Str} {vs:List Value} {i:Nat} {m:Str->Option Value},P.Nodup->P[i]?=some x->vs[i]?=some v->kindOf x=some .local ->
 bindL kindOf (P.zip vs) m x=some v
 |[],_,_,_,_,h,_,_=>by simp at h
 |_ :: _,[],_,_,_,_,h,_=>by simp at h
 |p :: P,w :: vs,0,m,nd,a,b,c=>by
  simp at a b;subst a;subst b;show bindL kindOf ((p,w) :: P.zip vs) m p=_;unfold bindL;rw[tJ λv d=>(Wn.mp nd).1 (waY d).1,if_pos c];simp
 |p :: P,w :: vs,i + 1,m,nd,a,b,c=>by
  show bindL kindOf ((p,w) :: P.zip vs) m x=_;unfold bindL;exact tL (i:=i) (Wn.mp nd).2 (by simpa using a) (by simpa using b) c
theorem tM{kindOf:Str->Option Zr}:∀{P:List Str} {vs:List Value} {i:Nat} {m:Str->Option Value},P.Nodup->P[i]?=some x->vs[i]?=some v->kindOf x≠some .local ->
 bindC kindOf (P.zip vs) m x=some v
 |[],_,_,_,_,h,_,_=>by simp at h
 |_ :: _,[],_,_,_,_,h,_=>by simp at h
 |p :: P,w :: vs,0,m,nd,a,b,c=>by
  simp at a b;subst a;subst b;show bindC kindOf ((p,w) :: P.zip vs) m p=_;unfold bindC;rw[tK λv d=>(Wn.mp nd).1 (waY d).1,if_neg c];simp
 |p :: P,w :: vs,i + 1,m,nd,a,b,c=>by
  show bindC kindOf ((p,w) :: P.zip vs) m x=_;unfold bindC;exact tM (i:=i) (Wn.mp nd).2 (by grind) (by grind) c
noncomputable def start(N:List Str)(vs:List V):St:=vs.map some++Yg (N.length - vs.length) none
noncomputable def sH(CX:zS)(P:VO)(w:World)(K:Vo)(mg:Str->Option Value)(base:Heap)(N:List Str)(qual:Str)(scope:Yr)(f:Addr)(cd:Value)(A:Around)(outer:List Env)(s:Shared)(H:Hp)(E:XK):Cx where
 prog:=P
 w:=w
 K:=K
 mg:=mg
 base:=base
 A:=A.deeper (envOfC qual scope s.heap.objs.size f cd)
 N:=N
 s₀:=s
 H₀:=H
 env:=envOfC qual scope s.heap.objs.size f cd
 outer:=outer
 stack:=envOfC qual scope s.heap.objs.size f cd :: outer
 ex:=[]
 calm:=true
 fn:=λ_=>true
 pn:=[]
 xe:=λe s'=>wpAny (model P w) (A.deeper (envOfC qual scope s.heap.objs.size f cd)) («leaving» (envOfC qual scope s.heap.objs.size f cd) e) (λ_ Mr=>CX outer H s E e Mr) (λe' Mr=>CX outer H s E e' Mr) s'
theorem wt{g:Yr}{n:Nat}{x:Str}(h:g.names.lookup x=some .cell):∃c,(cellsFrom n g.names []).lookup x=some c:=by
 have q:=wb6 g.names n [] (.inl h);exact waD.mp q
theorem AD{CX:zS}{P:VO}{w:World}{K:Vo}{mg:Str->Option Value}{base:Heap}{N ps:List Str}{g:Str}{scope:Yr}{f:Addr}{cd:Value}{A:Around}{outer:List Env}{s s1:Shared}{H:Hp}{E:XK}{us:List Value}{vs:List V}
 (S:iH N ps scope) (hd:A.handled=none) (j:sF P w K mg base A outer s H) (hl:vs.length=ps.length) (r:Vals vs us)
 (x:InCallC s s.heap.objs.size (bindL (envOfC g scope s.heap.objs.size f cd).kindOf (ps.zip us) λ_=>none) (cellsFrom (s.heap.objs.size + 1) scope.names []) (bindC (envOfC g scope s.heap.objs.size f cd).kindOf (ps.zip us) λ_=>none) s1) :
 Inv (sH CX P w K mg base N g scope f cd A outer s H E) [] (start N vs) H s1:=by
 have F:ps.length<=N.length:=by have:=congrArg YT S.pre;rw[VQ]at this;omega
 obtain⟨B,I,rfl,C⟩:=x.done;have l:∀b:Addr,b∉(sH CX P w K mg base N g scope f cd A outer s H E).ex:=λb z=>absurd (show b∈([]:List Addr) from z) (by simp)
 refine⟨⟨j.mod,S.kind,rfl,rfl,Vy _,λy z c B d=>?_,λy m=>?_,λy c _ h=>?_,λ_=>hd,Around.frames_deeper j.frames,.inr ⟨rfl,rfl⟩,λb z=>absurd z (l b),j.bs,j.C9,λb _ _=>l b,λb z=>absurd z (l b),j.lI,j.EA⟩,
  rfl,j.bare,Un.kept C,⟨_,x.toInCall.ns,λi y v B d J=>?_⟩,λy c h=>⟨_,x.cell y c h⟩,j.aS.fresh (Vy _),λy c h=>?_,λp o=>absurd (show p∈([]:List (Addr×Obj)) from o) (by simp),j.aS.kept C,?_⟩
 ·exact name_of_addr x.apart (XG B) (XG d)
 ·have m:scope.names.lookup y=some .cell\/scope.names.lookup y=some .free:=m;rcases m with m |m
  ·exact wt m
  ·exact absurd rfl (S.HE _ (XG m))
 ·exact waz (x.above y c (XG h))
 ·have hi:i < vs.length:=by
   unfold start at d
   by_cases hi:i < vs.length
   ·exact hi
   ·rw[VY (by simpa using hi)]at d;rw[List.getElem?_replicate]at d;split at d <;> cases d
  have ha:vs[i]?=some v:=by
   unfold start at d;rw[VZ (by simpa using hi),Vt]at d
   cases e:vs[i]? with
   |none=>rw[e]at d;cases d
   |some a=>rw[e]at d;cases d;rfl
  obtain⟨u,D,G⟩:=r.get ha
  have o:ps[i]?=some y:=by
   rw[<-S.pre,List.getElem?_take_of_lt (by omega)];exact B
  have t:ps.Nodup:=by rw[<-S.pre];exact S.nd.sublist (XE _ _)
  refine⟨u,G,?_⟩;rcases S.par y (VN o) with k |k
  ·exact .inl ⟨k,tL t o D k⟩
  ·obtain⟨c,e⟩:=wt (n:=s.heap.objs.size + 1) k;refine .inr ⟨.inl k,c,e,?_⟩;have q:=x.cell y c e;rw[tM t o D (by show scope.names.lookup y≠_;rw[k];decide)]at q;exact q
 ·exact j.aS.fresh (waz (x.above y c (XG h)))
 ·unfold start;show _=N.length;rw[Vs,Vn,ZA];omega
theorem GI{CX:zS}{P:VO}{w:World}{K:Vo}{mg:Str->Option Value}{base:Heap}{k:Nat}{f:Addr}{name g:Str}{l:Arguments}{body:List Stmt}{scope:Yr}{dV kV T pm j ct oc:Value}{an od:Option Addr}
 {U:Array (Option Value)} {N ps:List Str} {sp:Sp} (lk:K.lookup f=some ⟨oc,od,.func (Xv name g l body scope dV kV T pm an j ct),U⟩) (Ms:Z7 K j g=true) (S:iH N ps scope)
 (len:∀vs H Q E,sp vs H Q E->vs.length=ps.length)
 (C:∀(A:Around) (outer:List Env) (s:Shared) (H:Hp) (vs:List V) (Q:VK) (E:XK),cJ k (A.deeper (envOfC g scope s.heap.objs.size f j))->sp vs H Q E ->
   ∃t,uU (sH CX P w K mg base N g scope f j A outer s H E) body t/\t {nx:=λ_ p=>Q .non p,rt:=Q} (start N vs) H) :
 aK P w K mg base CX (k + 1) f (Xv name g l body scope dV kV T pm an j ct) ps sp:=by
 refine⟨len,λA outer s H args L vs Q E m h M r i=>?_⟩;have hl:=len _ _ _ _ i;have F:K.In s.heap:=h.mod.Gz.keeps λb o e=>(h.bs b o e).1;have z:s.heap.NoLimit:=h.mod.nolimit.keeps λb o e=>(h.bs b o e).1
 have c:∀y∈ps.zip L,scope.names.lookup y.1=some .local\/(scope.names.lookup y.1=some .cell/\((cellsFrom (s.heap.objs.size + 1) scope.names []).lookup y.1).isSome=true):=λ⟨n,v⟩ O=>by
  rcases S.par n (waY O).1 with q |q
  ·exact .inl q
  ·exact .inr ⟨q,wb6 _ _ _ (.inl q)⟩
 refine codeAny_call_function m.depth (F _ _ lk) rfl S.co S.gen rfl (PySem.W.codeRec_of F Ms) (M _ _ _ _ ?_);refine wpAny_newFunctionEnv_cells S.kind c λenv R G x=>?_;subst R;refine⟨z.keeps x.toInCall.keep,codeAny_func ?_⟩;obtain⟨t,X,Y⟩:=C A outer s H vs Q E (m.deeper _) i;have I:Inv (sH CX P w K mg base N g scope f j A outer s H E) [] (start N vs) H G:=AD S m.hd h hl r x;refine Wl (X [] G (start N vs) H _ I Y) (λfl B d=>?_) λe B d=>d
 have fin:∀{a:St} {p:Hp} {v:V} {u:Value},Inv (sH CX P w K mg base N g scope f j A outer s H E) [] a p B->RelV v u->Q v p->CE outer P w H s Q u B:=
  λ{a p v u} J D q=>⟨v,p,J.os,J.bare,J.base,J.aS,D,q⟩
 cases fl with
 |ret u=>
  obtain⟨v,a,p,J,D,q⟩:=d;exact fin J D q
 |next=>
  obtain⟨a,p,J,q⟩:=d;exact fin (v:=V.non) (u:=WZ) J rfl q
 |brk=>
  obtain⟨_,_,_,q⟩:=d;exact Wk q
 |cont=>
  obtain⟨_,_,_,q⟩:=d;exact Wk q
section
variable{X:Cx}{x:Str}{p pos:Pos}{e:Expr}{es:List Expr}{t:TA}{id T:String}{r:List V->Hp->VK->Prop}
def OG(r:List V->Hp->VK->Prop)(t:TA):TE:=λσ H Q=>t σ H λvs H1=>r vs H1 Q
theorem ax(hc:cS X (.builtin id) r)(l:Gl X x)(o:X.mg x=none)(C:Wi x=some (.builtin id))(ha:PA X (e :: es) t)(hn:x≠"__name__":=by decide)(g:(x == ("__debug__":Str))=false:=by decide)
 (J:starEach (e :: es) X.env=(false,eval e X.env) :: starEach es X.env:=by rfl) (j:(backTo pos (starEach es X.env)).any (·.1)=false:=by rfl):PE X (.Call (.Name x p) (e :: es) [] pos) (OG r t):=by
 intro a s σ H Q I h;refine X3 (iB I l o C ?_ hn g);exact ZL (bL (ha pos a s σ H _ I h) λb c ⟨d,f,i,k,m⟩=>hc a c σ f d b Q i k m) J j
theorem bu(hc:cS X (.type T) r)(l:Gl X x)(o:X.mg x=none)(C:Wi x=some (.type T))(ha:PA X (e :: es) t)(hn:x≠"__name__":=by decide)(g:(x == ("__debug__":Str))=false:=by decide)
 (J:starEach (e :: es) X.env=(false,eval e X.env) :: starEach es X.env:=by rfl) (j:(backTo pos (starEach es X.env)).any (·.1)=false:=by rfl):PE X (.Call (.Name x p) (e :: es) [] pos) (OG r t):=by
 intro a s σ H Q I h;refine X3 (iB I l o C ?_ hn g);exact XS (bL (ha pos a s σ H _ I h) λb c ⟨d,f,i,k,m⟩=>hc a c σ f d b Q i k m) J j
end
end L2
namespace HT
open PySem PyProof.Rows
section
open PySem.SeqAt
open PySem.AutoSeq1 (wpAny_loadPart')
open PySem.MeetsSeq PySem.MeetsSeq2 PySem.MeetsSeq3
end
section
variable{prog:VO}{w:World}{A:Around}{E:Value->Shared->Prop}{s:Shared}
noncomputable def yf(n d:Nat):Option Int->Nat
 |none=>d
 |some v=>if v < 0 then(v + (n:Int)).toNat else min v.toNat n
theorem F6(n d k:Nat):yf n d (some (k:Int))=min k n:=by
 show (if (k:Int) < 0 then((k:Int) + (n:Int)).toNat else min (k:Int).toNat n)=min k n;rw[if_neg (by omega),W2]
end
end HT
namespace L2
open PySem PySem.Spec PyProof.Rows
noncomputable abbrev TO:=St->Hp->(Option Int->Hp->Prop)->Prop
def PO(X:Cx)(e:Option Expr)(t:TO):Prop:=
 ∀(pins:List (Addr×Obj)) (s:Shared) (σ:St) (H:Hp) (Q:Option Int->Hp->Prop),Inv X pins σ H s->t σ H Q ->
  wpAny (model X.prog X.w) X.A (evalPart e X.env) (λu s'=>∃o H',Inv X pins σ H' s'/\IsPart u o/\Q o H') X.xe s
noncomputable def F7:TO:=λ_ H Q=>Q none H
inductive Rk(x:V)(H:Hp)(Q:Option Int->Hp->Prop):Prop
 |mk (i) (_:x=.int i) (_:Q (some i) H)
noncomputable def JT(t:TE):TO:=λσ H Q=>t σ H λx H1=>Rk x H1 Q
section
variable{X:Cx}{e:Expr}{te:TE}{lo hi:Option Expr}{tl th:TO}{pos p2:Pos}
theorem iI:PO X none F7:=by
 intro a s σ H Q I h;rw[evalPart_none];exact VW ⟨none,H,I,.none,h⟩
theorem da(h:PE X e te):PO X (some e) (JT te):=by
 intro a s σ H Q I hw;rw[evalPart_some];refine bL (h a s σ H _ I hw) λu g ⟨x,b,c,d,f⟩=>?_;obtain⟨i,rfl,q⟩:=f;obtain⟨t,rfl⟩:=d;exact⟨some i,b,c,.int i t,q⟩
def Mt(X:Cx)(r:V->Option Int->Option Int->Hp->VK->Prop):Prop:=
 ∀(pins:List (Addr×Obj)) (s:Shared) (σ:St) (H:Hp) (x:V) (v vl vu:Value) (lo hi:Option Int) (sl:Addr) (Q:VK),Inv X pins σ H s->RelV x v->s.heap.IsSliceOf sl vl vu .none->IsPart vl lo->IsPart vu hi->r x lo hi H Q ->
  ∃T id,wav (.type T) "__getitem__"=pure (some (.builtin id))/\s.TypeIs v T/\wpAny (model X.prog X.w) X.A (getItem v (.ref sl)) (EP X pins σ Q) X.xe s
def Rl(r:V->Option Int->Option Int->Hp->VK->Prop)(te:TE)(tl th:TO):TE:=λσ H Q=>te σ H λx H1=>tl σ H1 λl H2=>th σ H2 λu H3=>r x l u H3 Q
theorem dA{r:V->Option Int->Option Int->Hp->VK->Prop}(j:Mt X r)(o:PE X e te)(hl:PO X lo tl)(p:PO X hi th):PE X (.Subscript e (.Slice lo hi none p2) pos) (Rl r te tl th):=by
 intro a s σ H Q I h;refine Subscript_ (bL (o a s σ H _ I h) λv i ⟨x,k,m,n,t⟩=>?_);refine wpAny_Slice (bL (hl a i σ k _ m t) λd y ⟨l,z,B,pl,C⟩=>bL (p a y σ z _ B C) λf c ⟨u,g,D,E,F⟩=>?_);rw[evalPart_none];refine VW ?_;have G:Inv X a σ g {c with heap:=c.heap.push {cls:=.type "slice",data:=.fields #[d,f,.none]}}:=D.kept (t':=c.toks) λb ob q=>Vv _ q;obtain⟨T,id,J,K,L⟩:=j a {c with heap:=c.heap.push {cls:=.type "slice",data:=.fields #[d,f,.none]}} σ g x v d f l u c.heap.objs.size Q G n (Heap.IsSliceOf.new ..) pl E F;show wpAny (model X.prog X.w) X.A (wbH e (.Slice lo hi none p2) v (.ref c.heap.objs.size)) (EP X a σ Q) X.xe {c with heap:=c.heap.push {cls:=.type "slice",data:=.fields #[d,f,.none]}};exact tail_any (ops:=[.ref c.heap.objs.size,v]) K J L (by with_unfolding_all rfl)
noncomputable def sI(xs:List V)(lo hi:Option Int):List V:=(xs.drop (HT.yf xs.length 0 lo)).take (HT.yf xs.length xs.length hi - HT.yf xs.length 0 lo)
theorem wu(xs:List V)(lo hi:Option Int):(sI xs lo hi).length<=xs.length:=by
 unfold sI;rw[VQ,XM];omega
end
noncomputable def AF(n:Nat)(i:Int):Option Nat:=if 0<=i then(if i < n then some i.toNat else none) else if -(n:Int)<=i then some (i + n).toNat else none
noncomputable def wx{α:Type}(xs:List α)(i:Int):Option α:=(AF xs.length i).bind λj=>xs[j]?
theorem zT(h:AF n i=some j):seqIndex? i n=some j/\j < n/\-(n:Int)<=i/\i < n:=by
 unfold AF at h
 by_cases b:0<=i
 ·rw[if_pos b]at h
  by_cases a:i < n
  ·rw[if_pos a]at h;have e:i.toNat=j:=VC h;exact⟨by rw[wch b a,e],by omega,by omega,a⟩
  ·rw[if_neg a]at h;cases h
 ·rw[if_neg b]at h
  by_cases a:-(n:Int)<=i
  ·rw[if_pos a]at h;have e:(i + n).toNat=j:=VC h;exact⟨by rw[seqIndex_neg (by omega) a,e],by omega,a,by omega⟩
  ·rw[if_neg a]at h;cases h
theorem va{α:Type}{xs:List α}{i:Int}{v:α}(h:wx xs i=some v):∃j,seqIndex? i xs.length=some j/\xs[j]?=some v/\j < xs.length/\-(xs.length:Int)<=i/\i < xs.length:=by
 unfold wx at h
 cases e:AF xs.length i with
 |none=>rw[e]at h;cases h
 |some j=>
  rw[e]at h;obtain⟨a,b,c,d⟩:=zT e;exact⟨j,a,h,b,c,d⟩
theorem cb{α:Type}{xs:List α}{j:Nat}{v:α}(h:xs[j]?=some v):wx xs (j:Int)=some v:=by
 have a:j < xs.length:=(Vu.mp h).1
 have e:AF xs.length (j:Int)=some j:=by
  unfold AF;rw[if_pos (by omega),if_pos (by omega)];simp
 unfold wx;rw[e];exact h
theorem Cw{α:Type}(xs:List α)(v:α):wx (xs++[v]) (-1)=some v:=by
 have hl:(xs++[v]).length=xs.length + 1:=by simp
 have e:AF (xs++[v]).length (-1)=some xs.length:=by
  unfold AF;rw[hl,if_neg (by decide),if_pos (by omega)];congr 1;omega
 unfold wx;rw[e];show (xs++[v])[xs.length]?=some v;simp
def F8(b:Expr):Prop:=∀o i,wb7 b false o i=operate [o,i] (getItem o i)
def Jj(X:Cx)(r:R2):Prop:=
 ∀(value slice:Expr) (pins:List (Addr×Obj)) (s:Shared) (σ:St) (H:Hp) (x y:V) (v u:Value) (Q:VK),Inv X pins σ H s->RelV x v->RelV y u->r x y H Q ->
  wb7 slice false v u=operate [v,u] (getItem v u)->wpAny (model X.prog X.w) X.A (wbH value slice v u) (EP X pins σ Q) X.xe s
def HF(X:Cx)(id:String)(r:V->List V->Hp->VK->Prop):Prop:=
 ∀(pins:List (Addr×Obj)) (s:Shared) (σ:St) (H:Hp) (x:V) (xs:List V) (v:Value) (us:List Value) (Q:VK),Inv X pins σ H s->RelV x v->Vals xs us->r x xs H Q ->
  wpAny (model X.prog X.w) X.A (call (.builtin id) (v :: us)) (EP X pins σ Q) X.xe s
section
variable{X:Cx}{a b:Expr}{ta tb:TE}{pos:Pos}
theorem bV(g:Jj X r)(ha:PE X a ta)(j:PE X b tb)(hs:F8 b):PE X (.Subscript a b pos) (Ls r ta tb):=by
 intro c s σ H Q I h;exact Subscript_ (HB ha j I h λv u d x y e f i k q=>g a b c d σ e x y v u Q f i k q (hs _ _))
inductive JU(K:Vo)(x y:V)(H:Hp)(Q:VK):Prop
 |mk (p xs i v) (_:x=.ref p) (_:y=.int i) (_:aN K H p xs) (_:wx xs i=some v) (_:Q v H)
inductive JV(K:Vo)(x y:V)(H:Hp)(Q:VK):Prop
 |mk (p xs i v) (_:x=.ref p) (_:y=.int i) (_:jA K H p xs) (_:wx xs i=some v) (_:Q v H)
inductive Mu(x y:V)(H:Hp)(Q:VK):Prop
 |mk (z i c) (_:x=.str z) (_:y=.int i) (_:z.length<=sizeLine) (_:wx z.cps.toList i=some c) (_:Q (.str ⟨#[c]⟩) H)
theorem cD:Jj X (JU X.K):=by
 intro value slice a s σ H x y v u Q I l m h f;obtain⟨p,E,i,z,rfl,rfl,n,o,q⟩:=h;cases l;obtain⟨t,rfl⟩:=m;obtain⟨c,r,pl,F⟩:=I.list n;obtain⟨j,b,A,G,B,C⟩:=va o;obtain⟨w,g,d⟩:=r.get A;have hl:=r.length;have hn:=lK;have fin:EP X a σ Q w s:=⟨z,H,I,d,q⟩
 by_cases k:0<=i
 ·have e:i.toNat=j:=by
   rw[wch k C]at b;exact VC b
  exact item_listR pl.isList k (by omega) (by rw[e];simpa using g) fin f
 ·have e:(i + (c.toArray.size:Int)).toNat=j:=by
   rw[seqIndex_neg (by omega) B]at b;rw[W4,<-hl];exact VC b
  exact wb8 (x:=w) pl.isList.typeIs slot_list_getitem.lookup
   (wpAny_getItem_list_neg (Q:=λr D=>r=w/\EP X a σ Q r D) pl.isList (by omega) (by rw[W4] <;> omega) (by omega) (by rw[e];simpa using g) ⟨rfl,fin⟩) f
theorem iJ:Jj X (JV X.K):=by
 intro value slice a s σ H x y v u Q I c d h e;obtain⟨p,A,i,z,rfl,rfl,f,g,q⟩:=h;cases c;obtain⟨t,rfl⟩:=d;obtain⟨k,r,pl,B⟩:=I.tuple f;obtain⟨j,l,m,C,D,E⟩:=va g;obtain⟨w,n,b⟩:=r.get m;have hl:=r.length;have hn:=lK;have fin:EP X a σ Q w s:=⟨z,H,I,b,q⟩
 exact wb8 (x:=w) pl.typeIs slot_tuple_getitem.lookup
  (getItem_tuple (j:=j) (Q:=λr o=>r=w/\EP X a σ Q r o) pl (by omega) (by omega) (by rw[W4,<-hl];exact l) (by simpa using n) ⟨rfl,fin⟩) e
theorem yg:Jj X Mu:=by
 intro value slice a s σ H x y v u Q I b d h e;obtain⟨z,i,c,rfl,rfl,m,f,q⟩:=h;obtain⟨t,rfl⟩:=b;obtain⟨n,rfl⟩:=d;obtain⟨j,g,o,p,k,l⟩:=va f;have hl:z.cps.toList.length=z.length:=by simp[YL]
 rw[hl]at g k l;have hn:=lK
 exact tail_any (typeIs_str s z t) slot_str_getitem.lookup (getItem_str (c:=c) (by
  grind) (by grind) ⟨.str ⟨#[c]⟩,H,I.tok _,⟨_,rfl⟩,q⟩) e
theorem yh(g:List Value)(n j:Nat)(u:Value):Y8 (·.setIfInBounds j u) {cls:=.type "list",data:=.seq g.toArray n}={cls:=.type "list",data:=.seq (g.set j u).toArray n}:=by
 simp[Y8]
theorem Inv.lst(I:Inv X j σ H s)(h:H p=some (.lst xs)) :
 ∃(g:List Value) (n:Nat),Vals xs g/\s.heap.get? p=some {cls:=.type "list",data:=.seq g.toArray n}/\xs.length<=sizeLine:=by
 obtain⟨z,g,n,r,e⟩:=I.aS p _ h;exact⟨g,n,r,e,z⟩
theorem Inv.HG{g:List (Addr×Obj)}{σ:St}{H:Hp}{s:Shared}{p:Addr}{xs ys:List V}{j its':List Value}{n l:Nat}{f:Obj->Obj}(I:Inv X g σ H s)(h:H p=some (.lst xs))
 (C:s.heap.get? p=some {cls:=.type "list",data:=.seq j.toArray n}) (o:f {cls:=.type "list",data:=.seq j.toArray n}={cls:=.type "list",data:=.seq its'.toArray l}) (r:Vals ys its') (J:ys.length<=sizeLine) (t:Nat) :
 Inv X g σ (upd H p (.lst ys)) {s with heap:=s.heap.update p f,toks:=t}:=by
 have e:(s.heap.update p f).get? p=some {cls:=.type "list",data:=.seq its'.toArray l}:=by
  rw[Xp f C (by rw[o] <;> rfl),o]
 refine I.write (x:=p) (e:=p) (by rw[h];trivial) (.inl rfl) (λb u a q=>(Wz _ _ (WQ a)).trans q) ⟨_,e⟩ ?_;exact⟨J,its',l,r,e⟩
inductive JW(o i v:V)(H:Hp)(Q:Hp->Prop):Prop
 |mk (p xs k j) (_:o=.ref p) (_:i=.int k) (_:H p=some (.lst xs)) (_:AF xs.length k=some j) (_:Q (upd H p (.lst (xs.set j v))))
theorem set_list:JD X JW:=by
 intro a s σ H o i v D E u Q I x y z h;obtain⟨p,A,k,j,rfl,rfl,f,B,q⟩:=h;cases x;obtain⟨t,rfl⟩:=y;obtain⟨b,n,r,d,C⟩:=I.lst f;obtain⟨c,F,g,l⟩:=zT B;have hl:=r.length;have hn:=lK
 have m:Inv X a σ (upd H p (.lst (A.set j v))) {s with heap:=s.heap.update p (Y8 (·.setIfInBounds j u))}:=
  I.HG f d (yh b n j u) (r.set z j) (by rw[Y0];exact C) s.toks
 by_cases w:0<=k
 ·have e:k.toNat=j:=by
   rw[wch w l]at c;exact VC c
  exact PySem.W.ki_setAt d w (by omega) (by rw[W4,<-hl];exact l) (by rw[e];exact⟨_,m,q⟩)
 ·have e:(k + (b.toArray.size:Int)).toNat=j:=by
   rw[seqIndex_neg (by omega) g]at c;rw[W4,<-hl];exact VC c
  exact PySem.W.ki_setBack d (by omega) (by rw[W4,<-hl];exact g) (by omega) (by rw[e];exact⟨_,m,q⟩)
theorem vc(lo hi:Option Int)(n:Nat):(wci lo hi none n).1=((HT.yf n 0 lo:Nat):Int)/\(wci lo hi none n).2.1=((HT.yf n n hi:Nat):Int)/\(wci lo hi none n).2.2=1:=by
 have key:∀(i:Int) (d:Nat),max 0 (min (if i < 0 then i + (n:Int) else i) (n:Int))=((HT.yf n d (some i):Nat):Int):=by
  intro i d
  by_cases h:i < 0 <;> simp only[HT.yf,h,if_true,if_false] <;> omega
 exact⟨by cases lo with |none=>rfl |some i=>exact key i 0,by cases hi with |none=>rfl |some i=>exact key i n,rfl⟩
theorem sJ(g:List Value)(lo hi:Option Int):slicePick g.toArray lo hi none=((g.drop (HT.yf g.length 0 lo)).take (HT.yf g.length g.length hi - HT.yf g.length 0 lo)).toArray:=by
 obtain⟨a,b,c⟩:=vc lo hi g.toArray.size;unfold slicePick;rw[a,b,c];simp only[sliceRange_one,pick_run,W4] <;> rfl
inductive Mv(K:Vo)(x:V)(lo hi:Option Int)(H:Hp)(Q:VK):Prop
 |mk (a xs) (_:x=.ref a) (_:aN K H a xs) (_:∀p,H p=none->Q (.ref p) (upd H p (.lst (sI xs lo hi))))
theorem pU:Mt X (Mv X.K):=by
 intro e s σ H x v n p lo hi sl Q I g i pl j h;obtain⟨a,c,rfl,k,q⟩:=h;cases g;obtain⟨l,r,f,m⟩:=I.list k;have d:=r.length;refine⟨"list",_,slot_list_getitem.lookup,f.isList.typeIs,?_⟩;refine wpAny_getItem_list_slice f.isList i pl j .none (by simp) ?_ (by grind);rw[sJ,<-d];refine⟨.ref s.heap.objs.size,_,I.laid (t':=s.toks) (o:=.lst (sI c lo hi)) (λb ob q=>Vv _ q) (Vy _) ?_,rfl,q _ (I.aS.fresh (Vy _))⟩;exact⟨VF (wu c lo hi) m,_,0,(r.drop (HT.yf c.length 0 lo)).take (HT.yf c.length c.length hi - HT.yf c.length 0 lo),VX _ rfl⟩
noncomputable def cg:V->Bool
 |.non=>true
 |.bl _=>true
 |.int _=>true
 |.str _=>true
 |_=>false
noncomputable def oM:V->V->Bool
 |.non,.non=>true
 |.bl a,.bl b=>a == b
 |.bl a,.int b=>(if a then 1 else 0) == b
 |.int a,.bl b=>a == (if b then 1 else 0)
 |.int a,.int b=>a == b
 |.str a,.str b=>a == b
 |_,_=>false
theorem yi(j:RelV y u)(g:RelV x v)(o:cg y=true)(l:cg x=true):SeqAt.EqAt A s u v (oM y x):=by
 cases y with
 |non=>
  cases j
  cases x with
  |non=>cases g;exact SeqAt.EqAt.same _
  |bl b=>cases g;exact SeqAt.EqAt.none_bool b
  |int b=>obtain⟨t,rfl⟩:=g;exact SeqAt.EqAt.none_int b t
  |str b=>obtain⟨t,rfl⟩:=g;exact SeqAt.EqAt.none_str b t
  |_=>exact absurd (show false=true from l) VJ
 |bl a=>
  cases j
  cases x with
  |non=>cases g;exact SeqAt.EqAt.bool_none a
  |bl b=>cases g;exact SeqAt.EqAt.bool_bool a b
  |int b=>obtain⟨t,rfl⟩:=g;exact SeqAt.EqAt.bool_int a b t
  |str b=>obtain⟨t,rfl⟩:=g;exact SeqAt.EqAt.bool_str a b t
  |_=>exact absurd (show false=true from l) VJ
 |int a=>
  obtain⟨c,rfl⟩:=j
  cases x with
  |non=>cases g;exact SeqAt.EqAt.int_none a c
  |bl b=>cases g;exact SeqAt.EqAt.int_bool a c b
  |int b=>obtain⟨t,rfl⟩:=g;exact SeqAt.EqAt.int_int a c b t
  |str b=>obtain⟨t,rfl⟩:=g;exact wbS a c b t
  |_=>exact absurd (show false=true from l) VJ
 |str a=>
  obtain⟨c,rfl⟩:=j
  cases x with
  |non=>cases g;exact SeqAt.EqAt.str_none a c
  |bl b=>cases g;exact SeqAt.EqAt.str_bool a c b
  |int b=>obtain⟨t,rfl⟩:=g;exact wbT a c b t
  |str b=>obtain⟨t,rfl⟩:=g;exact wbk a c b t
  |_=>exact absurd (show false=true from l) VJ
 |_=>exact absurd (show false=true from o) VJ
noncomputable def yj(x:V)(u:Value):Bool:=match u with
 |.none=>oM .non x
 |.bool b=>oM (.bl b) x
 |.int i _=>oM (.int i) x
 |.str z _=>oM (.str z) x
 |_=>false
theorem Cy(r:RelV y u)(f:cg y=true):yj x u=oM y x:=by
 cases y with
 |non=>cases r;rfl
 |bl b=>cases r;rfl
 |int i=>obtain⟨t,rfl⟩:=r;rfl
 |str z=>obtain⟨t,rfl⟩:=r;rfl
 |_=>exact absurd (show false=true from f) VJ
theorem mm:∀{xs:List V} {us:List Value},Vals xs us->xs.all cg=true->us.any (yj x)=xs.any λy=>oM y x
 |_,_,.nil,_=>rfl
 |y :: xs,u :: us,.cons r t,f=>by
  rw[wag,Xl]at f;rw[Yn,Yn,Cy r f.1,mm t f.2]
theorem jG(g:RelV x v)(j:cg x=true):∀{xs:List V} {us:List Value},Vals xs us->xs.all cg=true->∀u∈us,SeqAt.EqAt A s u v (yj x u)
 |_,_,.nil,_=>λu a=>by cases a
 |y :: xs,u :: us,.cons r t,f=>λb a=>by
  rw[wag,Xl]at f;rcases W3.mp a with rfl |a
  ·rw[Cy r f.1];exact yi r g f.1 j
  ·exact jG g j t f.2 b a
noncomputable def kM(x:V)(xs:List V):Bool:=xs.any λy=>oM y x
inductive Lv(K:Vo)(neg:Bool)(x y:V)(H:Hp)(Q:VK):Prop
 |mk (p xs) (_:y=.ref p) (_:(aN K H p xs\/jA K H p xs)) (_:cg x=true) (_:xs.all cg=true) (_:Q (.bl (if neg then !kM x xs else kM x xs)) H)
theorem tN:md X (WV .In) (Lv X.K false):=by
 intro c s σ H x y v u Q I d f h;obtain⟨p,i,rfl,b,e,fs,q⟩:=h;cases f;rcases b with b |b
 ·obtain⟨a,r,pl,g⟩:=I.list b;refine SeqAt.in_listAt (yj x) pl.isList (λw hw=>jG d e r fs w (by grind)) ⟨.bl _,H,I,rfl,?_⟩;rw[show a.toArray.any (yj x)=a.any (yj x) by simp,mm r fs];exact q
 ·obtain⟨a,r,pl,g⟩:=I.tuple b;refine SeqAt.in_tupleAt (yj x) pl (λw hw=>jG d e r fs w (by grind)) ⟨.bl _,H,I,rfl,?_⟩;rw[show a.toArray.any (yj x)=a.any (yj x) by simp,mm r fs];exact q
theorem iK:md X (WV .NotIn) (Lv X.K true):=by
 intro c s σ H x y v u Q I d f h;obtain⟨p,i,rfl,b,e,fs,q⟩:=h;cases f;rcases b with b |b
 ·obtain⟨a,r,pl,g⟩:=I.list b;refine SeqAt.notIn_listAt (yj x) pl.isList (λw hw=>jG d e r fs w (by grind)) ⟨.bl _,H,I,rfl,?_⟩;rw[show a.toArray.any (yj x)=a.any (yj x) by simp,mm r fs];exact q
 ·obtain⟨a,r,pl,g⟩:=I.tuple b;refine SeqAt.notIn_tupleAt (yj x) pl (λw hw=>jG d e r fs w (by grind)) ⟨.bl _,H,I,rfl,?_⟩;rw[show a.toArray.any (yj x)=a.any (yj x) by simp,mm r fs];exact q
theorem vd:md X (WV .NotIn) (λx y H Q=>∃i j,x=.str i/\y=.str j/\Q (.bl (!(!(Z8 j i 0 j.length 1).isEmpty))) H):=by
 intro a s σ H x y v u Q I b c h;obtain⟨i,j,rfl,rfl,q⟩:=h;obtain⟨t,rfl⟩:=b;obtain⟨d,rfl⟩:=c;exact notIn_str ⟨.bl _,H,I,rfl,q⟩
theorem bf:cS X (.builtin "len") (λxs H Q=>∃p ys,xs=[.ref p]/\(aN X.K H p ys\/jA X.K H p ys)/\Q (.int ys.length) H):=by
 intro e s σ H xs i Q I r h;obtain⟨p,ys,rfl,a,q⟩:=h;obtain⟨u,rfl,f⟩:=vals1 r;cases f;have hn:=lK;rcases a with a |a
 ·obtain⟨c,d,pl,g⟩:=I.list a;have b:=d.length;exact wa0 pl.isList (by grind) ⟨.int ys.length,H,I.tok _,⟨s.toks + 1,by grind⟩,q⟩
 ·obtain⟨c,d,pl,g⟩:=I.tuple a;have b:=d.length;exact len_tuple pl (by grind) ⟨.int ys.length,H,I.tok _,⟨s.toks + 1,by grind⟩,q⟩
theorem bO:cS X (.builtin "len") (λxs H Q=>∃z,xs=[.str z]/\z.length<=sizeLine/\Q (.int z.length) H):=by
 intro a s σ H xs b Q I r h;obtain⟨z,rfl,c,q⟩:=h;obtain⟨u,rfl,t,rfl⟩:=vals1 r;have hn:=lK;exact len_str (by omega) ⟨.int z.length,H,I.tok _,⟨_,rfl⟩,q⟩
theorem cE:cS X (.type "list") (λxs H Q=>∃p ys,xs=[.ref p]/\(aN X.K H p ys\/jA X.K H p ys)/\∀l,H l=none->Q (.ref l) (upd H l (.lst ys))):=by
 intro g s σ H xs x Q I r h;obtain⟨p,ys,rfl,i,q⟩:=h;obtain⟨u,rfl,v⟩:=vals1 r;cases v
 have fin:∀(a:List Value),Vals ys a->ys.length<=sizeLine->∀(c:Heap) (d:Nat),(∀b t,s.heap.get? b=some t->c.get? b=some t) ->
  c.get? s.heap.objs.size=some {cls:=.type "list",dict:=none,data:=.seq a.toArray d,slots:=#[]}->EP X g σ Q (.ref s.heap.objs.size) {s with heap:=c}:=λa f j c d kp e=>
  ⟨.ref s.heap.objs.size,_,I.laid (t':=s.toks) kp (Vy _) (show bp X.prog X.w _ c _ (.lst ys) from ⟨j,a,d,f,e⟩),rfl,q _ (I.aS.fresh (Vy _))⟩
 rcases i with i |i
 ·obtain⟨a,f,pl,j⟩:=I.list i;have k:=f.length;obtain⟨o,m,hc,n,hd⟩:=pl.isList;exact call_list_seq p (.inl rfl) m hc hd (λc d kp e=>fin a f j c d kp e) (by grind)
 ·obtain⟨a,f,pl,j⟩:=I.tuple i;have k:=f.length;obtain⟨o,m,hc,n,hd⟩:=pl;exact call_list_seq p (.inr rfl) m hc hd (λc d kp e=>fin a f j c d kp e) (by grind)
def Mw(K:Vo)(T:String)(x:V)(H:Hp):Prop:=match x with
 |.str _=>T="str"
 |.int _=>T="int"
 |.ref p=>(T="list"/\∃xs,aN K H p xs)\/(T="tuple"/\∃o,K.lookup p=some o/\o.cls=.type "tuple"/\o.dict=none) \/
   (T="dict"/\((∃kvs,H p=some (.dK kvs))\/∃kvs,H p=some (.dT kvs)))\/(T="set"/\∃S n,H p=some (.set S n))
 |_=>False
theorem Cz(I:Inv X g σ H s)(r:RelV x v)(ty:Mw X.K T x H) :
 s.TypeIs v T/\∀a,v=.ref a->∃ob,s.heap.get? a=some ob/\ob.dict=none:=by
 cases x with
 |str z=>
  obtain⟨t,rfl⟩:=r;cases(show T="str" from ty);exact⟨typeIs_str s z t,λ_ e=>nomatch e⟩
 |int i=>
  obtain⟨t,rfl⟩:=r;cases(show T="int" from ty);exact⟨typeIs_int s i t,λ_ e=>nomatch e⟩
 |ref p=>
  cases r;rcases ty with⟨rfl,k,h⟩ |⟨rfl,o,b,hc,hd⟩ |⟨rfl,b⟩ |⟨rfl,S,n,b⟩
  ·obtain⟨j,_,pl,_⟩:=I.list h;refine⟨pl.isList.typeIs,λa e=>?_⟩;cases e;obtain⟨o,n,e,c,hd,_⟩:=pl;exact⟨o,e,hd⟩
  ·refine⟨⟨o,I.fS p o b,hc⟩,λa e=>?_⟩;cases e;exact⟨o,I.fS _ o b,hd⟩
  ·have z:∃o,s.heap.get? p=some o/\o.ExactDict:=by
    rcases b with⟨d,b⟩ |⟨d,b⟩
    ·obtain⟨_,_,_,_,o,_,_,e,ex,_⟩:=I.aS p _ b;exact⟨o,e,ex⟩
    ·obtain⟨_,_,_,_,o,_,_,e,ex,_⟩:=I.aS p _ b;exact⟨o,e,ex⟩
   obtain⟨o,e,ex⟩:=z;refine⟨⟨o,e,ex.1⟩,λa f=>?_⟩;cases f;exact⟨o,e,ex.2.1⟩
  ·obtain⟨o,_,_,_,e,ex,_⟩:=I.aS p _ b;refine⟨⟨o,e,ex.1⟩,λa f=>?_⟩;cases f;exact⟨o,e,ex.2.1⟩
 |_=>exact Wk ty
def JX(K:Vo)(T:String)(r:V->List V->Hp->VK->Prop)(to:TE):TE:=λσ H Q=>to σ H λx H1=>Mw K T x H1/\r x [] H1 Q
def OH(K:Vo)(T:String)(r:V->List V->Hp->VK->Prop)(to:TE)(t:TA):TE:=λσ H Q=>to σ H λx H1=>Mw K T x H1/\t σ H1 λxs H2=>r x xs H2 Q
variable{o e:Expr}{es:List Expr}{to:TE}{t:TA}{name:Str}{apos gb:Pos}{T id:String}{r:V->List V->Hp->VK->Prop}
theorem CA(p:wbv T)(slot:Slot T name id)(l:typeOf (.builtin id)=pure (.type "method_descriptor"))(C:HF X id r)(J:PE X o to)
 (g:Y3 o name X.env (eval o X.env)=eval o X.env:=by rfl) (j:(apos.endLine == gb.line)=true:=by rfl):PE X (.Call (.Attribute o name apos) [] [] gb) (JX X.K T r to):=by
 intro a s σ H Q I h;refine wpAny_Call_method0_late g j (bL (J a s σ H _ I h) λv d ⟨x,e,b,c,ty,f⟩=>?_);obtain⟨i,k⟩:=Cz b c ty;exact⟨T,id,p,slot,l,i,k,wb9 rfl (PySem.evalArgs_none (C a d σ e x [] v [] Q b c .nil f))⟩
theorem jf(J:wbv T)(slot:Slot T name id)(C:typeOf (.builtin id)=pure (.type "method_descriptor"))(U:HF X id r)(ho:PE X o to)(ha:PA X (e :: es) t)
 (j:Y3 o name X.env (eval o X.env)=eval o X.env:=by rfl)
 (p:((backTo gb (starEach (e :: es) X.env)).all (λx=>!x.1) && (backToKw gb (Zg [] X.env)).all (λx=>x.1.isSome)
   && decide ((e :: es).length + ([]:List wax).length + (if ([]:List wax).isEmpty then 0 else 1) < 30))=true:=by rfl)
 (l:(apos.endLine == gb.line)=true:=by rfl) (hs:starEach (e :: es) X.env=(false,eval e X.env) :: starEach es X.env:=by rfl) (g:(backTo gb (starEach es X.env)).any (·.1)=false:=by rfl) :
 PE X (.Call (.Attribute o name apos) (e :: es) [] gb) (OH X.K T r to t):=by
 intro a s σ H Q I h;refine wpAny_Call_method_late j p l rfl (bL (ho a s σ H _ I h) λv f ⟨x,i,b,c,ty,k⟩=>?_);obtain⟨m,n⟩:=Cz b c ty;refine⟨T,id,J,slot,C,m,n,?_⟩;have d:=ha gb a f σ i _ b k;rw[hs]at d ⊢;refine wb9 (by show (false ||(backTo gb (starEach es X.env)).any (·.1))=false;rw[g] <;> rfl) (Calls.evalArgs_plain ?_);exact bL d λq u ⟨w,y,z,A,B⟩=>U a u σ y x w v q Q z c A B
end
def OI(X:Cx)(id:String)(r:V->List V->Hp->VK->Prop):Prop:=
 ∀(pins:List (Addr×Obj)) (s:Shared) (σ:St) (H:Hp) (x:V) (xs:List V) (v:Value) (us:List Value) (Q:VK),Inv X pins σ H s->RelV x v->Vals xs us->r x xs H Q ->
  wpAny (model X.prog X.w) X.A (call (.builtin id) (v :: us)) (EP X pins σ Q) X.xe s
theorem Vals.one:∀{x:V} {us:List Value},Vals [x] us->∃u,us=[u]/\RelV x u
 |_,_,.cons r .nil=>⟨_,rfl,r⟩
theorem Vals.zero:∀{us:List Value},Vals [] us->us=[]
 |_,.nil=>rfl
theorem Vals.dropLast(h:Vals xs us):Vals xs.dropLast us.dropLast:=by
 induction h with
 |nil=>exact .nil
 |cons r t a=>
  cases t with
  |nil=>exact .nil
  |cons q b=>exact .cons r a
section
variable{X:Cx}{pins:List (Addr×Obj)}{σ:St}{H:Hp}{s:Shared}{l b:Addr}{xs ys zs:List V}
theorem Inv.JY{g its':List Value}{n:Nat}{f:Array Value->Array Value}{t':Nat}(I:Inv X pins σ H s)(j:H l=some (.lst xs))
 (e:s.heap.get? l=some {cls:=.type "list",data:=.seq g.toArray n}) (o:f g.toArray=its'.toArray) (p:Vals ys its') (r:ys.length<=sizeLine) :
 Inv X pins σ (upd H l (.lst ys)) {s with heap:=s.heap.update l (Y8 f),toks:=t'}:=by
 have q:=PySem.IsL.update e f;rw[o]at q;refine I.write (x:=l) (e:=l) (by rw[j];exact trivial) (.inl rfl) (λc u a b=>(Wz s.heap (Y8 f) (WQ a)).trans b) ⟨_,q⟩ ?_;exact⟨r,its',_,p,q⟩
theorem Inv.JZ(I:Inv X pins σ H s)(j:Vals ys g)(o:ys.length<=sizeLine) :
 Inv X pins σ (upd H s.heap.objs.size (.lst ys)) {s with heap:=s.heap.push {cls:=.type "list",data:=.seq g.toArray},toks:=t'}:=
 I.laid (λ_ _ q=>Vv _ q) (Vy _) ⟨o,g,0,j,VX _ rfl⟩
theorem Inv.fresh(I:Inv X pins σ H s):H s.heap.objs.size=none:=I.aS.fresh (Vy _)
theorem Inv.F9(I:Inv X pins σ H s)(j:H l=some (.lst xs)):xs.length<=sizeLine/\∃(g:List Value) (n:Nat),Vals xs g/\xs.length=g.length/\s.heap.get? l=some {cls:=.type "list",data:=.seq g.toArray n}:=by
 obtain⟨z,g,n,r,e⟩:=I.aS l _ j;exact⟨z,g,n,r,r.length,e⟩
end
section
variable{X:Cx}
inductive Fa(x:V)(vs:List V)(H:Hp)(Q:VK):Prop
 |mk (l xs y) (_:x=.ref l) (_:vs=[y]) (_:H l=some (.lst xs)) (_:xs.length < sizeLine) (_:Q .non (upd H l (.lst (xs++[y]))))
theorem df:OI X "list.append" Fa:=by
 intro b s σ H x i v j Q I d f h;obtain⟨l,k,y,rfl,rfl,c,m,q⟩:=h;cases d;obtain⟨u,rfl,g⟩:=f.one;obtain⟨z,a,n,r,hl,e⟩:=I.F9 c;refine call_meets WD ⟨_,e,rfl⟩ F.entry_list_append (F.args_list_append_2 _ _) (PySem.list_append l a.toArray n u (by grind)) ⟨e,?_⟩;refine⟨.non,_,I.JY (its':=a++[u]) c e (by simp) (r.append (.cons g .nil)) ?_,rfl,q⟩;rw[Vs,X8];omega
inductive Mx(x:V)(vs:List V)(H:Hp)(Q:VK):Prop
 |mk (l xs y) (_:x=.ref l) (_:vs=[]) (_:H l=some (.lst xs)) (_:xs[xs.length - 1]?=some y) (_:Q y (upd H l (.lst xs.dropLast)))
theorem HH:OI X "list.pop" Mx:=by
 intro d s σ H x m v o Q I g i h;obtain⟨l,p,y,rfl,rfl,f,j,q⟩:=h;cases g;have b:=i.zero;subst b;obtain⟨z,a,n,r,hl,e⟩:=I.F9 f;obtain⟨u,t,k⟩:=r.get j
 have c:a.toArray[a.toArray.size - 1]?=some u:=by
  grind
 refine call_meets wbY ⟨_,e,rfl⟩ F.entry_list_pop (F.args_list_pop_1 _) (MeetsSeq.list_pop_last l a.toArray n u c (by grind)) ⟨e,?_⟩;refine⟨y,_,I.JY (its':=a.dropLast) f e ?_ r.dropLast ?_,k,q⟩
 ·grind
 ·grind
inductive My(x y:V)(H:Hp)(Q:VK):Prop
 |mk (l b xs zs) (_:x=.ref l) (_:y=.ref b) (_:H l=some (.lst xs)) (_:H b=some (.lst zs)) (_:xs.length + zs.length<=sizeLine) (_:∀p,H p=none->Q (.ref p) (upd H p (.lst (xs++zs))))
theorem yk:md X (binaryOp .Add) My:=by
 intro d s σ H x y v u Q I f g h;obtain⟨l,b,t,w,rfl,rfl,i,j,A,q⟩:=h;cases f;cases g;obtain⟨z,c,n,r,hl,e⟩:=I.F9 i;obtain⟨B,a,C,k,m,o⟩:=I.F9 j;refine wcn e o ?_ (by rw[W4,W4];omega);have p:c.toArray++a.toArray=(c++a).toArray:=by simp
 rw[p];exact⟨.ref _,_,I.JZ (t':=s.toks) (r.append k) (by rw[Vs];omega),rfl,q _ I.fresh⟩
end
section
variable{prog:VO}{w:World}{A:Around}{E:Value->Shared->Prop}{s:Shared}
set_option maxRecDepth 100000 in
end
section
variable{X:Cx}
end
section
variable{κ:Type}[DecidableEq κ]
noncomputable def bc(kvs:List (κ×V))(k:κ):Option V:=(kvs.find? λkv=>decide (kv.1=k)).map (·.2)
noncomputable def putK(kvs:List (κ×V))(k:κ)(v:V):List (κ×V):=
 if (kvs.any λkv=>decide (kv.1=k))=true then kvs.map (λkv=>if kv.1=k then(kv.1,v) else kv) else kvs++[(k,v)]
noncomputable def GJ(kvs:List (κ×V))(k:κ):List (κ×V):=kvs.filter λkv=>decide (kv.1≠k)
theorem CC:bc ([]:List (κ×V)) k=none:=rfl
theorem bq{p:κ×V}{r:List (κ×V)}{k:κ}(e:p.1=k):bc (p :: r) k=some p.2:=by simp[bc,Yu,e]
theorem bt{p:κ×V}{r:List (κ×V)}{k:κ}(e:¬p.1=k):bc (p :: r) k=bc r k:=by simp[bc,Yu,e]
theorem fq(k:κ):∀kvs:List (κ×V),(kvs.any λg=>decide (g.1=k))=(bc kvs k).isSome
 |[]=>rfl
 |p :: r=>by
  rw[Yn]
  by_cases e:p.1=k
  ·simp only[bq e,decide_eq_true e,Bool.true_or,Option.isSome_some]
  ·rw[bt e,decide_eq_false e,wbI];exact fq k r
theorem wy(k j:κ)(y:V):∀kvs:List (κ×V),bc (kvs.map λg=>if g.1=k then(g.1,y) else g) j=(bc kvs j).map λx=>if j=k then y else x
 |[]=>rfl
 |p :: r=>by
  have a:=wy k j y r;rw[VL]
  by_cases h:p.1=k
  ·rw[if_pos h]
   by_cases e:p.1=j
   ·rw[bq (p:=(p.1,y)) e,bq e,ZM,if_pos (e.symm.trans h)]
   ·rw[bt (p:=(p.1,y)) e,bt e,a]
  ·rw[if_neg h]
   by_cases e:p.1=j
   ·rw[bq (p:=p) e,bq e,ZM,if_neg (λz=>h (e.trans z))]
   ·rw[bt (p:=p) e,bt e,a]
theorem tO(k j:κ)(y:V):∀kvs:List (κ×V),bc kvs k=none->bc (kvs++[(k,y)]) j=if j=k then some y else bc kvs j
 |[],_=>by
  by_cases e:k=j
  ·rw[if_pos e.symm];exact bq (p:=(k,y)) e
  ·rw[if_neg (λz=>e z.symm)];exact bt (p:=(k,y)) e
 |p :: r,hn=>by
  rw[List.cons_append];have a:¬p.1=k:=λz=>by rw[bq z]at hn;cases hn
  rw[bt a]at hn;have b:=tO k j y r hn
  by_cases e:p.1=j
  ·rw[bq e,bq e,if_neg (λz=>a (e.trans z))]
  ·rw[bt e,bt e,b]
theorem qh(kvs:List (κ×V))(k j:κ)(y:V):bc (putK kvs k y) j=if j=k then some y else bc kvs j:=by
 unfold putK
 by_cases a:(kvs.any λb=>decide (b.1=k))=true
 ·rw[if_pos a,wy];rw[fq]at a
  by_cases e:j=k
  ·obtain⟨x,c⟩:=waD.mp a;rw[if_pos e,e,c,ZM,if_pos rfl]
  ·rw[if_neg e]
   cases bc kvs j with
   |none=>rfl
   |some x=>rw[ZM,if_neg e]
 ·rw[if_neg a];refine tO k j y kvs ?_;rw[fq]at a
  cases q:bc kvs k with
  |none=>rfl
  |some x=>rw[q]at a;exact(a rfl).elim
theorem jH(kvs:List (κ×V))(k:κ)(v:V):(putK kvs k v).length<=kvs.length + 1:=by
 unfold putK;split
 ·rw[Vn];omega
 ·rw[Vs,Wa,waZ];omega
theorem cx{kvs:List (κ×V)}{k:κ}(v:V)(h:bc kvs k=none):putK kvs k v=kvs++[(k,v)]:=by simp_all [putK,fq,if_neg]
theorem gW.i5(r:gW o u):o.isSome=u.isSome:=by
 cases o with
 |none=>cases u with
  |none=>rfl
  |some _=>exact(show False from r).elim
 |some _=>cases u with
  |none=>exact(show False from r).elim
  |some _=>rfl
theorem gW.getD(r:gW o u)(rd:RelV d d'):RelV (o.getD d) (u.getD d'):=by
 cases o with
 |none=>cases u with
  |none=>exact rd
  |some _=>exact(show False from r).elim
 |some _=>cases u with
  |none=>exact(show False from r).elim
  |some _=>exact r
theorem KV.val{kvs:List (κ×V)}{vs:List (κ×Value)}(r:KV kvs vs)(k:κ):gW (bc kvs k) (valueAt vs k):=by
 unfold KV at r
 induction r with
 |nil=>exact X0
 |@cons p q ps a h t f=>
  obtain⟨d,g⟩:=h
  by_cases e:p.1=k
  ·have c:q.1=k:=d.symm.trans e;have b:valueAt (q :: a) k=some q.2:=by simp[valueAt,Yu,c]
   rw[bq e,b];exact g
  ·have c:¬q.1=k:=λz=>e (d.trans z);have b:valueAt (q :: a) k=valueAt a k:=by simp[valueAt,Yu,c]
   rw[bt e,b];exact f
theorem KV.any{kvs:List (κ×V)}{vs:List (κ×Value)}(r:KV kvs vs)(k:κ):(kvs.any λg=>decide (g.1=k))=vs.any λg=>decide (g.1=k):=by
 unfold KV at r
 induction r with
 |nil=>rfl
 |cons h t a=>rw[Yn,Yn,a,h.1]
theorem KV.repl(r:KV kvs vs)(k:κ)(j:RelV y u) :
 KV (kvs.map λg=>if g.1=k then(g.1,y) else g) (vs.map λg=>if g.1=k then(g.1,u) else g):=by
 unfold KV at r ⊢
 induction r with
 |nil=>exact .nil
 |@cons p q ps d h t b=>
  rw[VL,VL];refine .cons ?_ b;obtain⟨a,c⟩:=h
  by_cases e:p.1=k
  ·rw[if_pos e,if_pos (a.symm.trans e)];exact⟨a,j⟩
  ·rw[if_neg e,if_neg (λz=>e (a.trans z))];exact⟨a,c⟩
theorem KV.put{kvs:List (κ×V)}{vs:List (κ×Value)}(r:KV kvs vs)(k:κ){y:V}{u:Value}(g:RelV y u):KV (putK kvs k y) (stored vs k u):=by
 unfold putK stored;rw[r.any k]
 by_cases e:(vs.any λa=>decide (a.1=k))=true
 ·rw[if_pos e,if_pos e];exact r.repl k g
 ·rw[if_neg e,if_neg e];exact Paired.snoc r ⟨rfl,g⟩
theorem KV.drop{kvs:List (κ×V)}{vs:List (κ×Value)}(r:KV kvs vs)(k:κ):KV (GJ kvs k) (without vs k):=by
 unfold KV at r ⊢;unfold GJ without
 induction r with
 |nil=>exact .nil
 |@cons p q ps i h t d=>
  obtain⟨c,f⟩:=h;rw[Zt,Zt]
  by_cases e:p.1=k
  ·have a:¬decide (p.1≠k)=true:=by simp[e]
   have b:¬decide (q.1≠k)=true:=by simp[c.symm.trans e]
   rw[if_neg a,if_neg b];exact d
  ·have g:¬q.1=k:=λz=>e (c.trans z);have a:decide (p.1≠k)=true:=by simp[e]
   have b:decide (q.1≠k)=true:=by simp[g]
   rw[if_pos a,if_pos b];exact .cons ⟨c,f⟩ d
theorem KV.keys{kvs:List (κ×V)}{vs:List (κ×Value)}(r:KV kvs vs):kvs.map (·.1)=vs.map (·.1):=by
 unfold KV at r
 induction r with
 |nil=>rfl
 |cons h t a=>grind
theorem KV.length{kvs:List (κ×V)}{vs:List (κ×Value)}(r:KV kvs vs):kvs.length=vs.length:=wbG r
end
theorem tP(r:RelV (kV k) u):(b8 P w).is k u=true:=by grind [RelV,kV,b8,wk,wm]
theorem tQ:∀{g:List Key} {us:List Value},Vals (g.map kV) us->ItemsAre (b8 P w) g us
 |[],_,r=>by rw[ZN]at r;cases r;exact .nil
 |k :: g,_,r=>by
  rw[VL]at r
  cases r with
  |cons h t=>exact .cons (tP h) (tQ t)
abbrev KT(H:Hp):List (List Key×V)->List (List Key×Addr×Value)->Prop:=Paired λp q=>p.1=q.1/\H q.2.1=some (.tup (p.1.map kV))/\RelV p.2 q.2.2
theorem KT.val{H:Hp}{kvs:List (List Key×V)}{xs:List (List Key×Addr×Value)}(r:KT H kvs xs)(k:List Key):gW (bc kvs k) ((atKey xs k).map (·.2)):=by
 induction r with
 |nil=>exact X0
 |@cons p q ps a h t f=>
  obtain⟨d,_,g⟩:=h
  by_cases e:p.1=k
  ·have c:q.1=k:=d.symm.trans e;have b:atKey (q :: a) k=some q.2:=by simp[atKey,Yu,c]
   rw[bq e,b];exact g
  ·have c:¬q.1=k:=λz=>e (d.trans z);have b:atKey (q :: a) k=atKey a k:=by simp[atKey,Yu,c]
   rw[bt e,b];exact f
theorem KT.repl(r:KT H kvs xs)(k:List Key)(j:RelV y u) :
 KT H (kvs.map λg=>if g.1=k then(g.1,y) else g) (xs.map (putAt k u)):=by
 induction r with
 |nil=>exact .nil
 |@cons p q ps f h t c=>
  rw[VL,VL];refine .cons ?_ c;obtain⟨a,b,d⟩:=h;unfold putAt
  by_cases e:p.1=k
  ·rw[if_pos e,if_pos (a.symm.trans e)];exact⟨a,b,j⟩
  ·rw[if_neg e,if_neg (λz=>e (a.trans z))];exact⟨a,b,d⟩
theorem KT.put{H:Hp}{kvs:List (List Key×V)}{xs:List (List Key×Addr×Value)}(r:KT H kvs xs)(k:List Key){b:Addr}{y:V}{u:Value}(j:H b=some (.tup (k.map kV)))(g:RelV y u) :
 KT H (putK kvs k y) (storedH xs k b u):=by
 have e:(kvs.any λa=>decide (a.1=k))=(atKey xs k).isSome:=by
  rw[fq,(r.val k).i5,wap]
 unfold putK storedH;rw[e]
 by_cases q:(atKey xs k).isSome=true
 ·rw[if_pos q,if_pos q];exact r.repl k g
 ·rw[if_neg q,if_neg q];exact Paired.snoc r ⟨rfl,j,g⟩
theorem KT.keeps(r:KT H kvs xs)(g:∀b ys,H b=some (.tup ys)->j b=some (.tup ys)):KT j kvs xs:=
 Paired.Ht r λ_ _ z=>⟨z.1,g _ _ z.2.1,z.2.2⟩
section
variable{P:VO}{w:World}{H:Hp}{h:Heap}{a:Addr}
theorem GK(ok:iz P w H h)(e:Rd H a u):bp P w H h a u:=e.ok ok
theorem kN(ok:iz P w H h)(e:Rd H a (.dK kvs)):kvs.length<=sizeLine/\(a == Yq)=false/\∃vs,KV kvs vs/\h.DictOf (b8 P w) a vs:=
 show bp P w H h a (.dK kvs) from GK ok e
theorem qi(ok:iz P w H h)(e:H a=some (.dK kvs)):kvs.length<=sizeLine/\(a == Yq)=false/\∃vs,KV kvs vs/\h.DictOf (b8 P w) a vs:=kN ok (.inl e)
theorem qj(ok:iz P w H h)(e:H a=some (.tup (g.map kV))):(waU (b8 P w)).is h g a:=by
 obtain⟨_,b,r,o,c,d,n,f⟩:=(show bp P w H h a (.tup (g.map kV)) from ok a _ e);exact⟨o,b.toArray,n,c,d,f,by simpa using tQ r⟩
theorem wA(ok:iz P w H h)(e:Rd H a (.dT kvs)):kvs.length<=sizeLine/\(a == Yq)=false /\
 ∃xs,KT H kvs xs/\h.DictOfH (waU (b8 P w)) a xs:=by
 obtain⟨z,y,xs,r,o,b,c,d,f,g,i,j⟩:=(show bp P w H h a (.dT kvs) from GK ok e);refine⟨z,y,xs,r,o,b,c,d,f,g,i,λx k=>?_,j⟩
 have all:∀{l:List (List Key×V)} {m:List (List Key×Addr×Value)},KT H l m->∀x∈m,(waU (b8 P w)).is h x.1 x.2.1:=by
  intro l m q
  induction q with
  |nil=>grind
  |@cons p q ps n s t u=>
   grind [qj]
 exact all r x k
theorem K0(ok:iz P w H h)(e:H a=some (.dT kvs)):kvs.length<=sizeLine/\(a == Yq)=false /\
 ∃xs,KT H kvs xs/\h.DictOfH (waU (b8 P w)) a xs:=wA ok (.inl e)
end
def dm(H:Hp)(a:Addr)(y:V)(r:Option V):Prop:=
 (∃kvs k,Rd H a (.dK kvs)/\y=kV k/\r=bc kvs k)\/∃kvs k b,Rd H a (.dT kvs)/\y=.ref b/\H b=some (.tup (k.map kV))/\r=bc kvs k
def iL(H:Hp)(a:Addr)(y v:V)(H':Hp):Prop:=
 (∃kvs k,H a=some (.dK kvs)/\y=kV k/\kvs.length < sizeLine/\H'=upd H a (.dK (putK kvs k v))) \/
 ∃kvs k b,H a=some (.dT kvs)/\y=.ref b/\H b=some (.tup (k.map kV))/\kvs.length < sizeLine/\H'=upd H a (.dT (putK kvs k v))
theorem dm.k{H:Hp}{a:Addr}{kvs:List (Key×V)}{k:Key}(e:H a=some (.dK kvs)):dm H a (kV k) (bc kvs k):=.inl ⟨kvs,k,.inl e,rfl,rfl⟩
theorem dm.t{H:Hp}{a b:Addr}{kvs:List (List Key×V)}{k:List Key}(e:H a=some (.dT kvs))(g:H b=some (.tup (k.map kV))):dm H a (.ref b) (bc kvs k):=.inr ⟨kvs,k,b,.inl e,rfl,g,rfl⟩
theorem iL.k{H:Hp}{a:Addr}{kvs:List (Key×V)}{k:Key}{v:V}(e:H a=some (.dK kvs))(hl:kvs.length < sizeLine):iL H a (kV k) v (upd H a (.dK (putK kvs k v))):=.inl ⟨kvs,k,e,rfl,hl,rfl⟩
theorem iL.t{H:Hp}{a b:Addr}{kvs:List (List Key×V)}{k:List Key}{v:V}(e:H a=some (.dT kvs))(g:H b=some (.tup (k.map kV)))(hl:kvs.length < sizeLine) :
 iL H a (.ref b) v (upd H a (.dT (putK kvs k v))):=.inr ⟨kvs,k,b,e,rfl,g,hl,rfl⟩
section
variable{X:Cx}{pins:List (Addr×Obj)}{σ:St}{H:Hp}{s:Shared}{a:Addr}{y v:V}{u r:Value}{o:Option V}{A:Around}{E:Value->Shared->Prop}
theorem Inv.big(I:Inv X pins σ H s):Yq < s.heap.objs.size:=by
 have h:Wc < s.heap.objs.size:=(I.mod.glob.keeps I.bk).lt;exact Nat.lt_trans (by decide) h
theorem AG{Q:Value->Shared->Prop}(J:A.units + 1 < Yt)(I:Inv X pins σ H s)(g:dm H a y (some v))(C:RelV y u)(h:∀j s',Inv X pins σ H s'->RelV v j->Q j s') :
 wpAny (model X.prog X.w) A (getItem (.ref a) u) Q E s:=by
 rcases g with⟨d,k,e,f,l⟩ |⟨d,k,b,e,f,n,l⟩
 ·subst f;obtain⟨z,hd,q,rel,i⟩:=kN I.aS e;obtain⟨j,hw,c⟩:=gW.uY (v:=v) (o:=valueAt q k) (by rw[l];exact rel.val k);exact wpAny_getItem_of (tP C) i.mapOf hw (h j _ (I.tok _) c)
 ·subst f;cases(show u=VH b from C);obtain⟨z,hd,r,rel,i⟩:=wA I.aS e;obtain⟨j,hw,c⟩:=gW.uY (v:=v) (o:=(atKey r k).map (·.2)) (by rw[l];exact rel.val k);obtain⟨p,t,m⟩:=wb5.mp hw;refine wpAny_getItem_heap (Z1 J) (qj I.aS n) i t ?_;rw[m];exact h j _ (I.tok _) c
theorem Mz{Q:Value->Shared->Prop}(p:A.units + 1 < Yt)(I:Inv X pins σ H s)(g:dm H a y o)(j:RelV y u)(h:∀s',Inv X pins σ H s'->Q (.bool o.isSome) s') :
 wpAny (model X.prog X.w) A (WV .In u (.ref a)) Q E s:=by
 rcases g with⟨c,k,e,d,l⟩ |⟨c,k,b,e,d,i,l⟩
 ·subst d;obtain⟨z,hd,m,rel,f⟩:=kN I.aS e;refine wpAny_in_of (tP j) hd f.mapOf ?_;rw[<-(rel.val k).i5,<-l];exact h _ (I.tok _)
 ·subst d;cases(show u=VH b from j);obtain⟨z,hd,n,rel,f⟩:=wA I.aS e;refine wpAny_in_heap (Z1 p) (qj I.aS i) hd f ?_;have q:=(rel.val k).i5;rw[wap]at q;rw[<-q,<-l];exact h _ (I.tok _)
theorem Fb{Q:Value->Shared->Prop}(p:A.units + 1 < Yt)(I:Inv X pins σ H s)(g:dm H a y o)(j:RelV y u)(h:∀s',Inv X pins σ H s'->Q (.bool (!o.isSome)) s') :
 wpAny (model X.prog X.w) A (WV .NotIn u (.ref a)) Q E s:=by
 rcases g with⟨c,k,e,d,l⟩ |⟨c,k,b,e,d,i,l⟩
 ·subst d;obtain⟨z,hd,m,rel,f⟩:=kN I.aS e;refine wpAny_notIn_of (tP j) hd f.mapOf ?_;rw[<-(rel.val k).i5,<-l];exact h _ (I.tok _)
 ·subst d;cases(show u=VH b from j);obtain⟨z,hd,n,rel,f⟩:=wA I.aS e;refine wpAny_notIn_heap (Z1 p) (qj I.aS i) hd f ?_;have q:=(rel.val k).i5;rw[wap]at q;rw[<-q,<-l];exact h _ (I.tok _)
theorem ve(I:Inv X pins σ H s)(g:Jy (H a))(hs:ZF a s.heap h')(j:∃q,h'.get? a=some q)(new:bp X.prog X.w (upd H a ob) h' a ob) :
 Inv X pins σ (upd H a ob) {s with heap:=h',toks:=t'}:=
 I.write (x:=a) (e:=a) g (.inl rfl) (λb q c z=>(hs.2 b c).trans z) j new
theorem CD(z:kvs.length<=sizeLine)(hd:(a == Yq)=false)(rel:KV kvs vs)(dd:h'.DictOf (b8 P w) a vs) :
 bp P w g h' a (.dK kvs):=⟨z,hd,vs,rel,dd⟩
theorem AH{Q:Unit->Shared->Prop}(T:A.units + 1 < Yt)(I:Inv X pins σ H s)(g:iL H a y v U)(C:RelV y u)(J:RelV v r)(h:∀s',Inv X pins σ U s'->Q () s') :
 wpAny (model X.prog X.w) A (setItem (.ref a) u r) Q E s:=by
 rcases g with⟨d,k,e,j,l,m⟩ |⟨d,k,b,e,j,t,l,m⟩
 ·subst j m;obtain⟨z,hd,D,rel,n⟩:=qi I.aS e;have o:D.length<=sizeLine:=by rw[<-rel.length];exact z
  have hl:(putK d k v).length<=sizeLine:=by have:=jH d k v;omega
  refine wpAny_setItem_pairs (hsz:=o) (tP C) n λx f p=>h _ ?_;have F:∃q,x.get? a=some q:=let ⟨q,_,_,i,_⟩:=f;⟨q,i⟩
  exact ve I (by rw[e];exact X0) p F (CD hl hd (rel.put k J) f)
 ·subst j m;cases(show u=VH b from C);obtain⟨z,hd,G,rel,n⟩:=K0 I.aS e;have o:G.length<=sizeLine:=by rw[<-wbG rel];exact z
  have hl:(putK d k v).length<=sizeLine:=by have:=jH d k v;omega
  refine wpAny_setItem_heap (hsz:=o) (Z1 T) (qj I.aS t) n λx f p=>h _ ?_;obtain⟨q,K,L,i,M,N,O,_,P⟩:=f;refine ve I (by rw[e];exact X0) p ⟨q,i⟩ ⟨hl,hd,_,(rel.put k t J).keeps λc R B=>?_,q,K,L,i,M,N,O,P⟩;rw[aa (Jx B e (λz=>nomatch z))];exact B
end
section
variable{X:Cx}{pins:List (Addr×Obj)}{σ:St}{H:Hp}{s:Shared}{a:Addr}{kvs:List (Key×V)}{k:Key}{u:Value}{A:Around}{E:Value->Shared->Prop}
end
def K1(i:Expr):Prop:=∀ov iv,wb7 i false ov iv=operate [ov,iv] (getItem ov iv)
theorem Fc{prog:VO}{w:World}{A:Around}{E:Value->Shared->Prop}{s:Shared}{env:Env}{value slice:Expr}{pos:Pos}{T id:String}{Q:Value->Shared->Prop}
 (hl:wav (.type T) "__getitem__"=pure (some (.builtin id))) (hs:K1 slice)
 (h:wpAny (model prog w) A (eval value env) (λo j=>wpAny (model prog w) A (eval slice env) (λi g=>g.TypeIs o T/\wpAny (model prog w) A (getItem o i) Q E g) E j) E s) :
 wpAny (model prog w) A (eval (.Subscript value slice pos) env) Q E s:=by
 refine Subscript_ (Wl h (λo j c=>Wl c (λi g a=>?_) λ_ _ x=>x) λ_ _ x=>x);obtain⟨e,a⟩:=a;unfold wbH;refine Vr ?_;rw[getitemInPython_of_ne e.not_modules];refine Vr (wpAny_specialOf e hl ?_)
 have fin:wpAny (model prog w) A (wb7 slice false o i) (λr b=>wpAny (model prog w) A (letTemporaryGo value o r >>= λ_=>pure r) Q E b) E g:=by
  rw[hs o i];exact wpAny_operating (Wl a (λr b d=>Vr (wpAny_letTemporaryGo (VW d))) λ_ _ x=>x)
 first
  |exact VW (Vr fin)
  |exact Vr (VW (Vr fin))
  |exact Vr fin
theorem wB{X:Cx}(I:Inv X j σ H s)(g:dm H a y o):s.TypeIs (.ref a) "dict":=by
 rcases g with⟨c,k,e,_,_⟩ |⟨c,k,b,e,_,_,_⟩
 ·obtain⟨_,_,f,_,d⟩:=kN I.aS e;exact d.typeIs
 ·obtain⟨_,_,h,_,d⟩:=wA I.aS e;exact d.typeIs
def K2(td ty:TE):TE:=λσ H Q=>td σ H λx H1=>ty σ H1 λy H2=>∃a v,x=.ref a/\dm H2 a y (some v)/\Q v H2
def MA(ty td:TE):TE:=λσ H Q=>ty σ H λy H1=>td σ H1 λx H2=>∃a o,x=.ref a/\dm H2 a y o/\Q (.bl o.isSome) H2
def Fd(ty td:TE):TE:=λσ H Q=>ty σ H λy H1=>td σ H1 λx H2=>∃a o,x=.ref a/\dm H2 a y o/\Q (.bl (!o.isSome)) H2
def GL(td ty tv:TE):TS:=λD σ H=>tv σ H λv H1=>td σ H1 λx H2=>ty σ H2 λy H3=>∃a H4,x=.ref a/\iL H3 a y v H4/\D.nx σ H4
section
variable{X:Cx}{o i e value:Expr}{pos pos' Mq:Pos}{td ty tv:TE}
theorem cF(j:X.A.units + 1 < Yt)(l:PE X o td)(hi:PE X i ty)(hs:K1 i):PE X (.Subscript o i pos) (K2 td ty):=by
 intro b s σ H Q I h;refine Fc PySem.F.slot_dict_getitem.lookup hs (bL (l b s σ H _ I h) λu e ⟨x,f,k,m,n⟩=>bL (hi b e σ f _ k n) λw z ⟨y,p,d,q,a,v,ex,g,r⟩=>?_);subst ex;obtain rfl:u=VH a:=m;exact⟨wB d g,AG j d g q λB C t c=>⟨v,p,t,c,r⟩⟩
theorem HI(j:X.A.units + 1 < Yt)(hi:PE X i ty)(l:PE X o td):PC X .In i o (MA ty td):=by
 intro b s σ H Q I h;refine bL (hi b s σ H _ I h) λv c ⟨y,d,e,f,k⟩=>bL (l b c σ d _ e k) λu w ⟨x,m,n,p,a,q,ex,g,r⟩=>?_;subst ex;obtain rfl:u=VH a:=p;exact Mz j n g f λz t=>⟨.bl q.isSome,m,t,rfl,r⟩
theorem tR(j:X.A.units + 1 < Yt)(hi:PE X i ty)(l:PE X o td):PC X .NotIn i o (Fd ty td):=by
 intro b s σ H Q I h;refine bL (hi b s σ H _ I h) λv c ⟨y,d,e,f,k⟩=>bL (l b c σ d _ e k) λu w ⟨x,m,n,p,a,q,ex,g,r⟩=>?_;subst ex;obtain rfl:u=VH a:=p;exact Fb j n g f λz t=>⟨.bl (!q.isSome),m,t,rfl,r⟩
theorem dE(j:X.A.units + 1 < Yt)(l:PE X o td)(hi:PE X i ty)(p:PE X value tv)(hs:Xo value (some (.Subscript o i pos')) pos.line X.env=pure false) :
 PS X (.Assign [.Subscript o i pos'] value pos) (GL td ty tv):=by
 intro b s σ H D I h;refine wpAny_Assign_Subscript (bL (p b s σ H _ I h) λr c ⟨v,d,e,f,k⟩=>bL (l b c σ d _ e k) λu m ⟨x,n,q,t,w⟩=>bL (hi b m σ n _ q w) λG J ⟨y,K,z,B,a,C,ex,g,E⟩=>?_) hs;subst ex;obtain rfl:u=VH a:=t;exact AH j z g B f λL F=>⟨σ,C,F,E⟩
end
theorem qk(h:Heap)(g:Yq < h.objs.size):bp P w H (h.push {cls:=.type "dict",data:=.dict #[]}) h.objs.size (.dK []):=
 ⟨Wb _,beq_eq_false_iff_ne.mpr (WQ (VM g)),[],.nil,Heap.DictOf.new h⟩
def HJ:TE:=λ_ H Q=>∀p,H p=none->Q (.ref p) (upd H p (.dK []))
section
variable{X:Cx}{pos:Pos}
theorem dC:PE X (.Dict [] [] pos) HJ:=λb s σ H Q I h=>
 wpAny_Dict_empty ⟨.ref s.heap.objs.size,_,I.laid (a:=s.heap.objs.size) (o:=.dK []) (t':=s.toks) (λ_ _ q=>Vv _ q) (Vy _) (qk s.heap I.big),rfl,h _ (I.aS.fresh (Vy _))⟩
end
def ym:List (TE×TE)->St->Hp->(List (V×V)->Hp->Prop)->Prop
 |[],_,H,Q=>Q [] H
 |(tk,tv) :: r,σ,H,Q=>tk σ H λx H1=>tv σ H1 λy H2=>ym r σ H2 λps H3=>Q ((x,y) :: ps) H3
abbrev VV:List (V×V)->List (Value×Value)->Prop:=Paired λp q=>RelV p.1 q.1/\RelV p.2 q.2
def Lw(X:Cx)(pos:Pos)(keys:List (Option Expr))(values:List Expr)(MB:List (TE×TE)):Prop:=
 ∀(pins:List (Addr×Obj)) (s:Shared) (σ:St) (H:Hp) (Q:List (V×V)->Hp->Prop),Inv X pins σ H s->ym MB σ H Q ->
  wpAny (model X.prog X.w) X.A (evalPairs (pairTrees keys values X.env pos)) (λvs s'=>∃ps H',Inv X pins σ H' s'/\VV ps vs/\Q ps H') X.xe s
theorem zU{X:Cx}:Lw X pos [] [] []:=λa s σ H Q I h=>pairTrees_nil_walk ⟨[],H,I,.nil,h⟩
theorem wC{X:Cx}(j:PE X k tk)(l:PE X v o)(p:Lw X pos r vs g) :
 Lw X pos (some k :: r) (v :: vs) ((tk,o) :: g):=λa s σ H Q I h=>
 pairTrees_cons_walk (bL (j a s σ H _ I h) λu b ⟨x,c,d,e,f⟩=>bL (l a b σ c _ d f) λB i ⟨y,m,n,q,t⟩=>
  bL (p a i σ m _ n t) λC D ⟨ps,w,z,rel,A⟩=>⟨(x,y) :: ps,w,z,.cons ⟨e,q⟩ rel,A⟩)
noncomputable def iM(kvs more:List (Key×V)):List (Key×V):=more.foldl (λacc kv=>putK acc kv.1 kv.2) kvs
theorem KV.merge:∀{more:List (Key×V)} {g:List (Key×Value)} {kvs:List (Key×V)} {vs:List (Key×Value)},KV more g->KV kvs vs->KV (iM kvs more) (merged vs g):=by
 intro more g kvs vs r;unfold KV at r
 induction r generalizing kvs vs with
 |nil=>intro q;exact q
 |@cons p q ps c h t a=>
  intro b
  have e:KV (putK kvs p.1 p.2) (stored vs q.1 q.2):=by
   have:=b.put p.1 h.2;rw[<-h.1];exact this
  exact a e
theorem sL:∀(more kvs:List (Key×V)),(iM kvs more).length<=kvs.length + more.length:=by intro more;induction more <;> grind [putK,jH,iM,Wa]
theorem ql:∀{kvs:List (Key×V)} {ws:List (Value×Value)},VV (kvs.map λj=>(kV j.1,j.2)) ws->∃g,Carries (b8 P w) ws g/\KV kvs g
 |[],_,r=>by rw[ZN]at r;cases r;exact⟨[],X0,.nil⟩
 |p :: kvs,_,r=>by
  rw[VL]at r
  cases r with
  |@cons a b as bs h t=>
   obtain⟨g,c,q⟩:=ql (P:=P) (w:=w) t;obtain⟨e,d⟩:=b;exact⟨(p.1,d) :: g,⟨tP h.1,rfl,c⟩,.cons ⟨rfl,h.2⟩ q⟩
def K3(MB:List (TE×TE)):TE:=λσ H Q=>∀p,H p=none->ym MB σ (upd H p (.dK [])) λps H2=>H2 p=some (.dK [])/\∃kvs:List (Key×V),ps=kvs.map (λkv=>(kV kv.1,kv.2))/\kvs.length<=15/\Q (.ref p) (upd H2 p (.dK (iM [] kvs)))
theorem zV{X:Cx}(h:Lw X pos keys values j)(g:keys.all (·.isSome)=true)(hl:keys.length=values.length)(p:keys≠[])
 (l:keys.length<=15):PE X (.Dict keys values pos) (K3 j):=by
 intro b s σ H Q I q;have hn:=I.aS.fresh (Vy s.heap.objs.size);have k:=I.laid (a:=s.heap.objs.size) (o:=.dK []) (h':=s.heap.push {cls:=.type "dict",data:=.dict #[]}) (t':=s.toks) (λ_ _ q=>Vv _ q) (Vy _) (qk s.heap I.big);refine wpAny_Dict_walk (knd:=b8 X.prog X.w) g hl p l (bL (h b _ σ _ _ k (q _ hn)) λE F ⟨ps,G,i,rel,e,d,m,lk,n⟩=>?_);subst m;obtain⟨r,c,t⟩:=ql (P:=X.prog) (w:=X.w) rel;obtain⟨z,hd,u,v,x⟩:=qi i.aS e;cases v;refine⟨r,c,x,λh' f y=>⟨.ref s.heap.objs.size,_,?_,rfl,n⟩⟩
 have A:(iM [] d).length<=sizeLine:=by
  have B:=sL d [];rw[waZ]at B;rw[Xq];omega
 have C:∃q,h'.get? s.heap.objs.size=some q:=let ⟨q,_,_,D,_⟩:=f;⟨q,D⟩
 exact ve i (by rw[e];exact X0) y C (CD A hd (t.merge .nil) f)
structure M2(X:Cx)(o:Expr)(m:Str)(apos:Pos)(e f:Expr)(gb:Pos):Prop where
 base:Y3 o m X.env (eval o X.env)=eval o X.env
 few:((backTo gb (starEach [e,f] X.env)).all (λx=>!x.1) && (backToKw gb (Zg [] X.env)).all (λx=>x.1.isSome)
  && decide (([e,f]:List Expr).length + ([]:List wax).length + (if ([]:List wax).isEmpty then 0 else 1) < 30))=true
 line:(apos.endLine == gb.line)=true
 trees:backTo gb (starEach [e,f] X.env)=[(false,eval e X.env),(false,eval f X.env)]
section
variable{X:Cx}{pins:List (Addr×Obj)}{σ:St}{H:Hp}{s:Shared}{a:Addr}{y d:V}{u r:Value}{o:Option V}{A:Around}{E:Value->Shared->Prop}
end
section
variable{X:Cx}{o e f:Expr}{apos gb:Pos}{td ty tx:TE}
end
section
variable{X:Cx}{pins:List (Addr×Obj)}{σ:St}{H:Hp}{s:Shared}{a:Addr}{kvs:List (Key×V)}{A:Around}{E:Value->Shared->Prop}
end
section
variable{X:Cx}{pins:List (Addr×Obj)}{σ:St}{H:Hp}{s:Shared}{a:Addr}{y:V}{u:Value}{A:Around}{E:Value->Shared->Prop}
end
end L2
namespace OJ
open PySem PySem.W PySem.Calls PyProof.Rows
theorem pH:∀(ns:List Int) (vs:List Value),WellAll P h vs (ns.map WData.int)->IntsAre vs ns:=by
 intro ns
 induction ns with
 |nil=>
  intro vs w;rw[ZN]at w;cases w;exact .nil
 |cons n ns c=>
  intro vs w;rw[VL]at w
  cases w with
  |cons a b=>
   cases a;exact .cons _ _ (c _ b)
theorem AI{l:ZX}{n:Nat}(hn:l.most=some n){P:Params}{h:Heap}{args:List WData}{g:List Value}
 (j:l.row.toRowW.claim.pre args=true) (o:WellAll P h g args) :
 ∃a vs ns,g=[VH a]/\args=[WData.list (ns.map WData.int)]/\h.get? a=some {cls:=.type "list",data:=.seq vs.toArray}/\IntsAre vs ns/\ns.length<=n:=by
 have i:WShape.hasAll [] args [.list .int]=true:=(pre_splitW j).1;have hc:l.pre.holds [] {args:=args}=true:=(pre_splitW j).2;obtain⟨d,r,rfl,k,m⟩:=hasAllW_cons i;obtain rfl:=hasAllW_nil m;obtain⟨w,rfl,p⟩:=hasW_list k;obtain⟨ns,rfl⟩:=items_int p
 have b:ns.length<=n:=by
  unfold OpenLaw.pre at hc
  have e:(WTm.not (.lt (.lit (.int (n:Int))) (.len (.arg 0)))).holds [] {args:=[.list (ns.map .int)]}=true:=by
   have e:=(holds_andW hc).1;rw[hn]at e;exact e
  have f:=condW_of e (w_not (w_lt w_lit (w_len_list (w_arg rfl))));rw[Vn]at f;refine wco λq=>?_;have s:(n:Int) < ((ns.length:Nat):Int):=by omega
  first
   |(rw[decide_eq_true s]at f;exact absurd f (by decide))
   |(simp at f;omega)
 cases o with
 |cons t u=>
  cases u
  cases t with
  |list v c=>exact⟨_,_,ns,rfl,rfl,v,pH ns _ c,b⟩
theorem AJ(l:ZX)(args:List WData):l.row.toRowW.claim.post args (.bool true) args=true:=
 postW_of (r:=l.row.toRowW) (X:=(true == true))
  (show WShape.has [] (.bool true) .bool=true by first |rfl |decide |simp[WShape.has,WShape.arms,WShape.armsAll])
  (show (WTm.eq .res (.lit (.bool true))).value [] {args:=args,res:=some (.bool true),after:=args}=some (.bool (true == true)) from w_eq_bool (w_res rfl) w_lit) rfl
theorem wD{l:ZX}{n:Nat}{q:VO}{loose:List Str}{XP:(Str->Option Value)->Heap->Prop}{YP:World->Heap->Prop}{d:DefRec}
 (hn:l.most=some n) (C:d.params.defaults=[])
 (call:∀(w:World) (s₀ g:Shared) (mg I:Str->Option Value) (p:Addr) (o:Obj) (pm cd j:Value) (a:Addr) (vs:List Value) (ns:List Int),
   Ground q loose [] XP w s₀ mg I g.heap->YP w g.heap ->
   g.heap.get? p=some o->o.data=.func (docDef d.name d.params d.body d.scope pm cd j)->g.heap.CodeRec cd d.name->mg d.name=some (.ref p) ->
   g.heap.get? a=some {cls:=.type "list",data:=.seq vs.toArray}->IntsAre vs ns->ns.length<=n->g.gens=#[] ->
   codeAny (model l.prog w) callerA (.call (.ref p) ⟨[.ref a],[]⟩) (λr s'=>r=.ok (.ret (.bool true))/\OldK g.heap s'.heap/\s'.os=g.os/\AllBare s'.gens) g) :
 wcz q loose XP YP l.row.toRowW d [] (λf vs=>wcB f vs):=by
 intro w s₀ g mg I G Y p o pm cd j v kV x hd i s k y args t as c u z m A;obtain rfl:v=.none:=Dflts.none s C;obtain rfl:kV=.none:=Dflts.noKw s;obtain⟨a,vs,ns,rfl,rfl,e,b,h⟩:=AI hn c m;refine enter_call (Xg (call w s₀ g mg I p o pm cd j a vs ns G Y x (fd_plain hd) i k e b h y) λr s' B=>?_);obtain⟨rfl,D,E,F⟩:=B;exact⟨.inl ⟨.bool true,.bool true,[],rfl,λ_=>rfl,.bool true,AJ l _,λ_=>⟨List.Pairwise.nil,λ_ H=>(nomatch H)⟩⟩,D,E,F⟩
section
variable{prog:VO}{w:World}{A:Around}{E:Value->Shared->Prop}{s:Shared}{K:Frag}
end
end OJ
namespace L2
open PySem PySem.Spec PyProof.Rows
theorem tS:∀{vs:List Value} {ns:List Int},IntsAre vs ns->Vals (ns.map V.int) vs
 |_,_,.nil=>.nil
 |_,_,.cons n t h=>.cons ⟨t,rfl⟩ (tS h)
def Only(H:Hp):Prop:=∀b,H b=none\/∃o xs,H b=some (.frz o (.lst xs))
theorem CF{P:VO}{w:World}{K:Vo}{mg I:Str->Option Value}{CX:zS}{k:Nat}{J a:Addr}{fd:VB}{x:Str}{sp:Sp}{g:Shared}{vs:List Value}{ns:List Int}
 (KX:K.In g.heap) (p:g.heap.Ns Wc mg) (j:g.heap.Ns builtinsNs I) (T:∀x:Str,x≠"__name__"->I x=Wi x) (C:g.heap.NoLimit) (hg:g.gens=#[])
 (ha:g.heap.get? a=some {cls:=.type "list",data:=.seq vs.toArray}) (hi:IntsAre vs ns) (hl:ns.length<=sizeLine) (hr:cJ k callerA)
 (F:∀base:Heap,K.In base->base.Ns Wc mg->aK P w K mg base CX k J fd [x] sp) (l:∀(s:Shared) (u:Value),BindsTo s fd ⟨[u],[]⟩ [(x,u)])
 (U:∀H:Hp,Only H->aN K H a (ns.map V.int)->sp [.ref a] H (λv _=>v=.bl true) λ_ _ _=>False)
 (Rm:∀H e s',CX [] H g (λ_ _ _=>False) e s'->False) :
 codeAny (model P w) callerA (.call (.ref J) ⟨[.ref a],[]⟩) (λr s'=>r=.ok (.ret (.bool true))/\OldK g.heap s'.heap/\s'.os=g.os/\AllBare s'.gens) g:=by
 have L:=tS hi;have f:=hi.length
 have core:∀H:Hp,Only H->aN K H a (ns.map V.int)->iz P w H g.heap->(∀b,H b≠none->b=a)->(H a≠none->K.lookup a=none) ->
  codeAny (model P w) callerA (.call (.ref J) ⟨[.ref a],[]⟩) (λr s'=>r=.ok (.ret (.bool true))/\OldK g.heap s'.heap/\s'.os=g.os/\AllBare s'.gens) g:=by
  intro H M Q aS N R;have zW:∀{b:Addr} {o:Obj},g.heap.get? b=some o->H b=none->(uT g.heap H).get? b=some o:=λe n=>Cd e n
  have D:∀{b:Addr} {o:Obj} {i:Array DictEntry} {t:Nat},g.heap.get? b=some o->o.data=.dict i t->H b=none:=λ{b o i t} e d=>by
   cases q:H b with
   |none=>rfl
   |some u=>
    have E:b=a:=N b (by rw[q];simp);subst E;rw[ha]at e;cases e;have S:Data.seq vs.toArray _=Data.dict i t:=d;cases S
  have c:∀{b:Addr} {m:Str->Option Value},g.heap.Ns b m->(uT g.heap H).Ns b m:=λ{b m} ⟨o,i,t,e,d,r⟩=>⟨o,i,t,zW e (D e d),d,r⟩
  have y:K.In (uT g.heap H):=λb o e=>zW (KX b o e) (by
   cases q:H b with
   |none=>rfl
   |some u=>
    have E:b=a:=N b (by rw[q];simp);subst E
    rw[R (by rw[q];simp)]at e;cases e)
  have X:Mod K mg (uT g.heap H):=⟨y,c p,⟨I,c j,T⟩,let ⟨Y,Z,h2⟩:=C;⟨Y,c Z,h2⟩⟩;have e0:sF P w K mg (uT g.heap H) callerA [] g H:=⟨rfl,X,λb o e=>EK e,ZK (Av _ _),trivial,λb j=>absurd (show b∈([]:List Addr) from j) (by simp),aS,.of_eq hg⟩;refine Xg ((F _ y (c p)).run callerA [] g H ⟨[.ref a],[]⟩ [.ref a] [.ref a] _ _ hr e0 (l g (.ref a)) (.cons rfl .nil) (U H M Q)) λr s' h=>?_
  cases r with
  |error e=>exact(Rm H e s' h).elim
  |ok fl=>
   cases fl with
   |next=>exact Wk h
   |brk=>exact Wk h
   |cont=>exact Wk h
   |ret u=>
    obtain⟨v,H',os,bare,un,A,r',q⟩:=h;have q':v=.bl true:=q;subst q';obtain rfl:u=wbt true:=r';refine⟨rfl,OldK.of_keep λb o e=>?_,os,bare⟩
    cases q:H b with
    |none=>exact un.keep b o e q (by intro z;exact absurd (show b∈([]:List Addr) from z) (by simp)) (by simp)
    |some u=>
     rcases M b with z |⟨ob,xs,z⟩
     ·rw[q]at z;cases z
     ·have z2:=un.iA b ob _ z;obtain⟨O,_⟩:=aS b _ z;obtain⟨e2,_⟩:=A b _ z2;rw[e]at O;cases O;exact e2
 cases G:K.lookup a with
 |some o=>
  have e:=KX a o G;rw[ha]at e;cases e;refine core (λ_=>none) (λ_=>.inl rfl) (.inr ⟨_,vs.toArray,_,G,rfl,rfl,rfl,by rw[W4,f];exact hl,by simpa using L⟩) (λb u z=>by have B:(none:Option HO)=some u:=z;cases B) (λb z=>absurd rfl z) λz=>absurd rfl z
 |none=>
  refine core (λb=>if b=a then some (.frz {cls:=.type "list",data:=.seq vs.toArray} (.lst (ns.map V.int))) else none) (λb=>?_) (.inl (.inr ⟨{cls:=.type "list",data:=.seq vs.toArray},if_pos rfl⟩)) (λb u z=>?_) (λb z=>?_) λ_=>G
  ·by_cases j:b=a
   ·exact .inr ⟨_,_,if_pos j⟩
   ·exact .inl (if_neg j)
  ·by_cases j:b=a
   ·have B:=(if_pos j).symm.trans z;cases B;subst j;exact⟨ha,by rw[Vn];exact hl,vs,_,L,ha⟩
   ·have B:=(if_neg j).symm.trans z;cases B
  ·by_cases j:b=a
   ·exact j
   ·exact absurd (if_neg j) z
noncomputable abbrev Us{K:Vo}{h:Heap}(_:K.In h):Vo:=K
theorem Fe{l:ZX}{n k:Nat}{q:VO}{loose:List Str}{XP:(Str->Option Value)->Heap->Prop}{YP:World->Heap->Prop}{d:DefRec}{K:Params->Vo}{CX:World->zS}{sp:World->Sp}{x:Str}
 (hn:l.most=some n) (r:n<=sizeLine) (C:d.params.defaults=[]) (U:cJ k callerA)
 (hY:∀(w:World) (h:Heap),YP w h->(K w.params).In h)
 (F:∀(w:World) (mg:Str->Option Value) (p:Addr) (h:Heap),(K w.params).In h->h.Ns Wc mg->mg d.name=some (.ref p) ->
   ∃fd:VB,(∀(s:Shared) (u:Value),BindsTo s fd ⟨[u],[]⟩ [(x,u)]) /\
    ∀base:Heap,(K w.params).In base->base.Ns Wc mg->aK l.prog w (K w.params) mg base (CX w) k p fd [x] (sp w))
 (I:∀(w:World) (H:Hp) (a:Addr) (ns:List Int),ns.length<=n->Only H->aN (K w.params) H a (ns.map V.int)->sp w [.ref a] H (λv _=>v=.bl true) λ_ _ _=>False)
 (J:∀(w:World) (H:Hp) (s:Shared) (e:Value) (s':Shared),CX w [] H s (λ_ _ _=>False) e s'->False) :
 wcz q loose XP YP l.row.toRowW d [] (λf vs=>wcB f vs):=by
 refine OJ.wD hn C λw y j mg O p o pm P A a vs ns G Y Q hd B t m i c D=>?_;have z:=hY w _ Y;obtain⟨fd,E,L⟩:=F w mg p _ z G.T.g t;exact CF z G.T.g G.T.b G.T.builtins G.T.nolimit D m i (VF c r) U L E (λH M N=>I w H a ns c M N) λH e s'=>J w H j e s'
noncomputable def inClass(s:Stmt)(j:Nat):Stmt:=match s with
 |.ClassDef _ _ _ body _ _ _ _ _ _ _=>body.getD j (.Pass ⟨0,0,0,0⟩)
 |_=>.Pass ⟨0,0,0,0⟩
noncomputable def cG(s:Stmt):Arguments:=match s with
 |.FunctionDef _ a _ _ _ _ _ _ _ _=>a
 |_=>{posonlyargs:=[],args:=[],vararg:=none,kwonlyargs:=[],kw_defaults:=[],kwarg:=none,defaults:=[]}
noncomputable def bA(s:Stmt):List Stmt:=match s with
 |.FunctionDef _ _ b _ _ _ _ _ _ _=>b
 |_=>[]
noncomputable def ay(s:Stmt):Yr:=match s with
 |.FunctionDef _ _ _ _ _ _ sc _ _ _=>sc
 |_=>{kind:=.function,names:=[],isGenerator:=false,isCoroutine:=false}
noncomputable abbrev dn:zS:=λ_ _ _ _ _ _=>False
abbrev E0:XK:=λ_ _ _=>False
theorem fN{X:Cx}:Passes dn X E0:=λ_ _ _ _ _ _ _ h=>h.elim
structure wF(K:Vo)(x qual:Str)(st:Stmt)(f:Addr)(fd:VB):Prop where
 ex:∃(oc:Value) (od:Option Addr) (kV doc pm:Value) (an:Option Addr) (gd ct:Value) (CG:Array (Option Value)),
  fd=Xv x qual (cG st) (bA st) (ay st) .none kV doc pm an gd ct/\K.lookup f=some ⟨oc,od,.func fd,CG⟩/\Z7 K gd qual=true
 kp:XJ K (.ref f)=true
section
variable{P:VO}{w:World}{K:Vo}{mg:Str->Option Value}{base:Heap}
theorem wF.ok{x g:Str}{st:Stmt}{f:Addr}{fd:VB}{N ps:List Str}{k:Nat}{sp:Sp}(F:wF K x g st f fd)(S:iH N ps (ay st))(len:∀vs H Q E,sp vs H Q E->vs.length=ps.length)
 (l:∀(j:Value) (A:Around) (outer:List Env) (s:Shared) (H:Hp) (vs:List V) (Q:VK) (E:XK),cJ k (A.deeper (envOfC g (ay st) s.heap.objs.size f j))->sp vs H Q E ->
   ∃t,uU (sH dn P w K mg base N g (ay st) f j A outer s H E).Ci (bA st) t/\t {nx:=λ_ o=>Q .non o,rt:=Q} (start N vs) H):aK P w K mg base dn (k + 1) f fd ps sp:=by
 obtain⟨i,m,kV,c,pm,n,j,ct,d,rfl,lk,a⟩:=F.ex;refine GI lk a S len λA outer s H vs Q E e b=>?_;obtain⟨t,h,q⟩:=l j A outer s H vs Q E e b;exact⟨t,h.Ci,q⟩
theorem wF.binds{x g:Str}{st:Stmt}{f:Addr}{fd:VB}{ps:List Str}(F:wF K x g st f fd)
 (h:∀(kV j pm:Value) (o:Option Addr) (l ct:Value) (us:List Value),us.length=ps.length->bindArgs (Xv x g (cG st) (bA st) (ay st) .none kV j pm o l ct) ⟨us,[]⟩=pure (ps.zip us)):Binds K fd ps []:=by
 obtain⟨c,d,kV,j,pm,o,l,ct,a,rfl,lk,b⟩:=F.ex;exact .all (h kV j pm o l ct)
theorem CH{x g:Str}{st:Stmt}{f:Addr}{C:Value}{od r:Option Addr}{p:Array (Option Value)}{kV o pm j ct:Value}(l:K.lookup f=some ⟨C,od,.func (Xv x g (cG st) (bA st) (ay st) .none kV o pm r j ct),p⟩)
 (c:Z7 K j g=true) (k:XJ K (.ref f)=true):wF K x g st f (Xv x g (cG st) (bA st) (ay st) .none kV o pm r j ct):=⟨⟨C,od,kV,o,pm,r,j,ct,p,rfl,l,c⟩,k⟩
end
theorem et(g:cJ k A):A.units + 1 < Yt:=WO (Nat.add_le_add_left (by decide:1<=64) _) g.units
theorem bx(h:n<=1000):n < sizeLine:=WO h (by decide)
section
variable{X:Cx}
theorem pv(i:Nat)(j:X.N[i]?=some x:=by rfl)(l:Jg X.env.scope x:=by first |exact Y6 rfl |exact Or.inr (Y6 rfl) |exact Or.inr (Or.inr rfl))(hd:(x == ("__debug__":Str))=false:=by decide)
 (g:(x == ("__classdict__":Str))=false:=by decide):PE X (.Name x pos) (ER i):=Cg j l hd g
end
theorem bB{A B:Prop}(h:B):if false=true then A else B:=by
 grind
theorem cP{A B:Prop}(h:A):if true=true then A else B:=by
 grind
theorem CI{c A B:Prop}[Decidable c](g:c->A)(j:¬c->B):if c then A else B:=by
 by_cases h:c
 ·rw[if_pos h];exact g h
 ·rw[if_neg h];exact j h
def a9(H H':Hp):Prop:=∀b o,H b=some o->H' b=some o
theorem a9.refl(H:Hp):a9 H H:=λ_ _ h=>h
theorem a9.trans(a:a9 H g)(b:a9 g j):a9 H j:=λc o h=>b c o (a c o h)
theorem a9.free(e:a9 H g)(h:g l=Option.none):H l=Option.none:=by
 cases q:H l with
 |none=>rfl
 |some o=>
  rw[e l o q]at h;cases h
theorem a9.seq{K:Vo}{H g:Hp}{a:Addr}{xs:List V}(e:a9 H g)(h:aN K H a xs):aN K g a xs:=by
 rcases h with(h |⟨o,h⟩) |h
 ·exact .inl (.inl (e _ _ h))
 ·exact .inl (.inr ⟨o,e _ _ h⟩)
 ·exact .inr h
section
variable{κ:Type}[DecidableEq κ]
theorem wG{kvs:List (κ×V)}{k:κ}(h:bc kvs k=none):¬k∈kvs.map (·.1):=by
 intro m;obtain⟨p,a,e⟩:=Vx.mp m;have q:(kvs.any λb=>decide (b.1=k))=true:=Xm.mpr ⟨p,a,decide_eq_true e⟩;rw[fq,h]at q;exact absurd q (by simp)
theorem pV{kvs:List (κ×V)}{k:κ}{v:V}(h:bc kvs k=some v):k∈kvs.map (·.1):=by
 have q:(kvs.any λa=>decide (a.1=k))=true:=by
  rw[fq,h]
  all_goals rfl
 obtain⟨p,b,e⟩:=Xm.mp q;exact Vx.mpr ⟨p,b,of_decide_eq_true e⟩
theorem Ff:∀{l:List κ} {k:κ},l.Nodup->¬k∈l->(l++[k]).Nodup:=by intro l;induction l <;> grind
theorem zX{kvs:List (κ×V)}{k:κ}(v:V)(hn:(kvs.map (·.1)).Nodup)(h:bc kvs k=none):((putK kvs k v).map (·.1)).Nodup:=by
 rw[cx v h,VE];exact Ff hn (wG h)
end
theorem a9.upd(h:H a=none):a9 H (upd H a o):=λb u e=>by rw[aa (ae e h)];exact e
structure kK(J:It)(Ok:Hp->Prop)(xs:List V):Prop where
 go:∀i H,Ok H->i < xs.length->J.go i H
 sD:∀i H x H',Ok H->i < xs.length->J.sD i H x H'->H'=H/\xs[i]?=some x
 stop:∀H,Ok H->J.stop xs.length H
theorem aO(K:Vo)(a:Addr)(xs:List V):kK (Ji K a) (λH=>aN K H a xs) xs:=
 ⟨λi H q hi=>⟨xs,xs[i],q,by simp[hi]⟩,λi H x b q _ y=>⟨y.1,y.2 xs q⟩,λH q=>⟨xs,q,Vy _⟩⟩
noncomputable def Lx(n:Nat)(val:Nat->V):It:=⟨λi _=>i < n,λi H x H'=>H'=H/\x=val i,λi _=>n<=i⟩
theorem HK{val:Nat->V}(hn:xs.length=n)(g:∀i x,xs[i]?=some x->val i=x):kK (Lx n val) (λ_=>True) xs:=by
 subst hn;refine⟨λi H _ hi=>hi,λi H x a _ hi y=>⟨y.1,?_⟩,λH _=>Vy _⟩;have e:xs[i]?=some xs[i]:=by simp[hi]
 rw[e,y.2,g i _ e]
theorem iN(lo:Int)(n:Nat):kK (GA lo n) (λ_=>True) ((W5 n).map λi=>V.int (lo + (i:Nat))):=by
 refine⟨λi H _ hi=>(show i < n by simpa using hi),λi H x b _ hi y=>⟨y.1,?_⟩,λH _=>?_⟩
 ·have a:i < n:=by simpa using hi
  rw[y.2];simp[a]
 ·show n<=_;simp
theorem lL{J:It}{Ok:Hp->Prop}{xs:List V}{g:TG}{I:TS}{D:Ends}{σ:St}{H:Hp}(r:kK J Ok xs)(Pv:Nat->St->Hp->Prop)(U:Pv 0 σ H)(hS:∀i σ H,i<=xs.length->Pv i σ H->Ok H)
 (hs:∀i x σ H,xs[i]?=some x->Pv i σ H->g x σ H λl C=>I {D with nx:=Pv (i + 1),ct:=Pv (i + 1),bk:=D.nx} l C) (hd:∀σ H,Pv xs.length σ H->D.nx σ H) :
 ∃W:Nat->Nat->St->Hp->Prop,(∃m,W 0 m σ H)/\∀i m σ H,W i m σ H ->
  (J.stop i H/\D.nx σ H)\/(J.go i H/\∃N:St->Hp->Prop,(∀o j,N o j->∃T,T < m/\W (i + 1) T o j)/\∀x j,J.sD i H x j->g x σ j λl C=>I {D with nx:=N,ct:=N,bk:=D.nx} l C):=by
 refine⟨λi m σ H=>m=xs.length - i/\i<=xs.length/\Pv i σ H,⟨xs.length,by simp,Wb _,U⟩,?_⟩;rintro i m σ H ⟨rfl,hi,p⟩;have q:=hS i σ H hi p
 by_cases a:i < xs.length
 ·refine .inr ⟨r.go i H q a,Pv (i + 1),λo j b=>⟨xs.length - (i + 1),by omega,rfl,a,b⟩,λx j y=>?_⟩;obtain⟨e,c⟩:=r.sD i H x j q a y;subst e;exact hs i x σ _ c p
 ·have e:i=xs.length:=by omega
  subst e;exact .inl ⟨r.stop H q,hd σ H p⟩
abbrev GN(nm:String):Prop:=["enumerate","zip","dict_itemiterator","dict_reverseitemiterator","odict_iterator","itertools.zip_longest","itertools.pairwise"].contains nm=false
theorem yn{P:VO}{w:World}{K:Vo}{T:Expr}{it:Addr}{n:Nat}{Pv:Nat->Value->Prop}{St:Nat->Heap->Prop}{val:Nat->V}
 (J:∀A:Around,A.handled=none->Walks P w A it [it] [it] n Pv St)
 (g:∀i h,St i h->∃(o:Obj) (nm:String) (vs:Array Value),h.get? it=some o/\o.cls=.type nm/\o.data=.fields vs/\GN nm)
 (j:∀i h h',St i h->(∀o,h.get? it=some o->h'.get? it=some o)->St i h')
 (l:∀(A:Around) (i:Nat) (s:Shared) (Q:Value->Shared->Prop) (E:Value->Shared->Prop),St i s.heap->Q (.ref it) s->wpAny (model P w) A (pyIter (.ref it)) Q E s)
 (p:∀i u,Pv i u->RelV (val i) u):Turn P w K T (Lx n val) [it] it (λi h=>St i h/\i<=n) where
 mem:=by simp
 obj:=λi h st b f=>by
  have e:b=it:=by simpa using f
  subst e;obtain⟨o,nm,vs,e,c,d,_⟩:=g i h st.1;exact⟨o,e,λv z=>by rw[d]at z;cases z⟩
 keep:=λi h h' st k=>⟨j i h h' st.1 λo e=>k it (by simp) o e,st.2⟩
 item:=by
  intro X t hw x hc i a s σ H E I q st r;subst t hw x;obtain⟨y,f1,f2,B,C,D⟩:=q it (by simp);refine(J X.A (I.ok.hd hc)).item i s _ _ r st.1 λv h' F L m G=>?_;have M:Inv X a σ H {s with heap:=h',toks:=F}:=I.turned (λb o f e=>G b o (by simpa using f) e) y f1 B C D;obtain⟨o,nm,vs,e,c,d,hn⟩:=g _ _ m;exact⟨_,rfl,zM (s:={s with heap:=h',toks:=F}) e c d hn ⟨val i,H,M,p i v L,⟨rfl,rfl⟩,⟨m,r⟩,λb f=>(q b f).1⟩⟩
 done:=by
   intro X t hw x hc i a s σ H E I q st r;subst t hw x;obtain⟨y,f1,f2,B,C,D⟩:=q it (by simp)
   have e:i=n:=by
    have N:=st.2;have O:n<=i:=r;omega
   subst e;exact(J X.A (I.ok.hd hc)).done s _ _ st.1 λh' F G=>⟨rfl,I.turned (λb o f e=>G b o (by simpa using f) e) y f1 B C D⟩
 self:=λA i s Q E st h=>l A i s Q E st.1 h
noncomputable def zY(z:Str)(i:Nat):V:=.str ⟨#[z.cps.getD i 0]⟩
noncomputable def cQ(z:Str):List V:=z.cps.toList.map λc=>V.str ⟨#[c]⟩
theorem jI(z:Str):kK (Lx z.cps.size (zY z)) (λ_=>True) (cQ z):=by simp_all [HK,cQ,Vt,VC,Y1,zY,YK]
def MC(tl:TE):TI:=λσ H R=>tl σ H λx H1=>∃z,x=.str z/\R (Lx z.cps.size (zY z)) H1
section
variable{X:Cx}{tg:Expr}
theorem qm{l:Expr}{C:TE}(hl:PE X l C):PI X tg l (MC C):=by
 intro f s σ H R I h;refine bL (hl f s σ H _ I h) λv a ⟨x,B,n,D,F⟩=>?_;obtain⟨z,e,q⟩:=F;subst e;obtain⟨t,rfl⟩:=D
 have fin:∀(j:String) (o:Obj),(∀m:Around,m.handled=none->Walks X.prog X.w m a.heap.objs.size [a.heap.objs.size] [a.heap.objs.size] z.cps.size (SignAt z) (λi h=>h.IsStrIter a.heap.objs.size j z t i)) ->
  (∀(A:Around) (i:Nat) (s:Shared) (Q:Value->Shared->Prop) (E:Value->Shared->Prop),s.heap.IsStrIter a.heap.objs.size j z t i->Q (.ref a.heap.objs.size) s->wpAny (model X.prog X.w) A (pyIter (.ref a.heap.objs.size)) Q E s) ->
  GN j->(a.heap.push o).IsStrIter a.heap.objs.size j z t 0->Lr X f σ tg R (.ref a.heap.objs.size) {a with heap:=a.heap.push o}:=by
  intro j o G g p r
  refine⟨a.heap.objs.size,[a.heap.objs.size],_,_,B,rfl,n.kept (t':=a.toks) λb o e=>Vv _ e,
   yn (val:=zY z) G (λi h st=>?_) (λi h M st k=>?_) g (λi u J=>?_),⟨r,Wb _⟩,λb K=>?_,q⟩
  ·obtain⟨o,e,c,d⟩:=st;exact⟨o,j,_,e,c,d,p⟩
  ·obtain⟨o,e,c,d⟩:=st;exact⟨o,k o e,c,d⟩
  ·obtain⟨c,L,hc,e⟩:=J;refine⟨L,?_⟩;rw[e,YK,hc];rfl
  ·have e:b=a.heap.objs.size:=by simpa using K
   subst e;exact n.Ax (Vy _) (n.aS.fresh (Vy _))
 cases ha:z.cps.all (· < 128)
 ·exact wpAny_pyIter_wide ha (fin "str_iterator" _ (λm y=>Walks.strWide y _ z t) (λA i s Q E st h=>wpAny_pyIter_striter_wide st h) (by decide) ⟨_,VX _ rfl,rfl,rfl⟩)
 ·exact wpAny_pyIter_ascii ha (fin "str_ascii_iterator" _ (λm y=>Walks.strAscii y _ z t) (λA i s Q E st h=>wpAny_pyIter_striter_ascii st h) (by decide) ⟨_,VX _ rfl,rfl,rfl⟩)
end
theorem Un.sameBut(u:Un fs ex H l h g)(hs:∀b,b≠L->j.get? b=g.get? b)(p:h.objs.size<=L):Un fs ex H l h j:=
 have ne:∀{b:Addr} {o:Obj},h.get? b=some o->b≠L:=λe=>VM (VI (VA e) p)
 ⟨λb o e n g j=>(hs b (ne e)).trans (u.keep b o e n g j),λb o e n g j=>let ⟨sl,q⟩:=u.slot b o e n g j;⟨sl,(hs b (ne e)).trans q⟩,u.free,
   λb o e a=>let ⟨c,q⟩:=u.there b o e a;⟨c,(hs b (ne e)).trans q⟩,u.jy,u.iA,u.jz⟩
def HL(scope:Yr)(env:Env):Prop:=∀y∈scope.names,y.2=.free->env.kindOf y.1=some .cell\/env.kindOf y.1=some .free
theorem lM:∀{names:List (Str×Zr)} (g:List (Str×Addr)),(∀y∈names,y.2=.free->∃c,env.cells.lookup y.1=some c)->(∀y c,g.lookup y=some c->env.cells.lookup y=some c) ->
 ∃cl:List (Str×Addr),(forIn names g (λ(x:Str×Zr) cs=>(match x with |(name,kind)=>if kind == .free then do let c <-cellOf env name;pure (Yv ((name,c) :: cs)) else pure (Yv cs):Sem (ForInStep (List (Str×Addr))))))=pure cl /\
  (∀y c,cl.lookup y=some c->env.cells.lookup y=some c)/\(∀y c,g.lookup y=some c->∃j,cl.lookup y=some j)/\∀y∈names,y.2=.free->∃c,cl.lookup y.1=some c
 |[],g,_,ha=>⟨g,rfl,ha,λy c e=>⟨c,e⟩,λ_ h=>nomatch h⟩
 |(n,k) :: r,g,i,ha=>by
  rw[List.forIn_cons]
  by_cases f:k=.free
  ·obtain⟨c,hc⟩:=i (n,k) Vz f;have l:(k == Y4)=true:=by rw[f];rfl
   obtain⟨cl,m,o,d,p⟩:=lM (env:=env) (names:=r) ((n,c) :: g) (λy a=>i y (Vw _ a)) (λy j e=>by
    rw[YM]at e
    cases q:y == n with
    |true=>
     rw[q]at e;have:c=j:=VC e;subst this;have:y=n:=eq_of_beq q;subst this;exact hc
    |false=>
     rw[q]at e
     exact ha y j e)
   refine⟨cl,?_,o,λy j e=>?_,λy a b=>?_⟩
   ·rw[<-m];simp only[l,if_true];have s:cellOf env n=pure c:=by unfold cellOf;rw[hc]
    rw[s];rfl
   ·by_cases q:y=n
    ·subst q;exact d y c (by simp[YM])
    ·refine d y j ?_;have:(y == n)=false:=beq_eq_false_iff_ne.mpr q;rw[YM,this];exact e
   ·rcases W3.mp a with rfl |a
    ·exact d n c (by simp[YM])
    ·exact p y a b
  ·have l:(k == Y4)=false:=by simpa using f
   obtain⟨cl,m,o,d,p⟩:=lM (env:=env) (names:=r) g (λy a=>i y (Vw _ a)) ha;refine⟨cl,?_,o,d,λy a b=>?_⟩
   ·rw[<-m];simp only[l,XV,if_false];rfl
   ·rcases W3.mp a with rfl |a
    ·exact absurd b f
    ·exact p y a b
theorem kP(g:∀y∈scope.names,y.2=.free->∃c,env.cells.lookup y.1=some c) :
 ∃cl,closureFor scope env=pure cl/\(∀y c,cl.lookup y=some c->env.cells.lookup y=some c)/\∀y∈scope.names,y.2=.free->∃c,cl.lookup y.1=some c:=by
 obtain⟨cl,b,d,_,f⟩:=lM (env:=env) (names:=scope.names) [] g (λy c e=>by simp at e);refine⟨cl,?_,d,f⟩;simp only[closureFor]
 first
  |(rw[b];rfl)
  |(have a:=b;simp only at a ⊢;rw[a];rfl)
  |(refine YZ (congrArg (λm=>m >>= λh=>pure h) ?_) ?_;exact pure cl;exact b;rfl)
theorem vf(g:∀y∈scope.names,y.2≠.cell)(h:(relabel scope env).names.lookup x=some .cell\/(relabel scope env).names.lookup x=some .free):∃k,(x,k)∈scope.names/\k=Y4:=by
 unfold relabel at h;dsimp only at h
 have key:∀(names:List (Str×Zr)),(∀y∈names,y.2≠.cell) ->
  ((names.map λ(n,k)=>if (k == Y4 && env.scope.kind == .function && env.kindOf n == some .cell) then(n,wah) else(n,k)).lookup x=some .cell \/
   (names.map λ(n,k)=>if (k == Y4 && env.scope.kind == .function && env.kindOf n == some .cell) then(n,wah) else(n,k)).lookup x=some .free)->∃k,(x,k)∈names/\k=Y4:=by
  intro names
  induction names with
  |nil=>grind
  |cons y r a=>
   grind
 exact key scope.names g h
noncomputable def b5(X:Cx)(scope:Yr)(N:List Str)(cl:List (Str×Addr))(L:Addr)(s:Shared)(H:Hp)(ex:List Addr)(pn:List (Addr×Obj)):Cx where
 prog:=X.prog
 w:=X.w
 K:=X.K
 mg:=X.mg
 base:=X.base
 A:=X.A
 N:=N
 s₀:=s
 H₀:=H
 env:=compEnvC scope cl L X.env
 outer:=X.stack
 stack:=X.stack
 ex:=ex
 fn:=λ_=>false
 calm:=X.calm
 pn:=pn
 xe:=λ_ _=>False
def EB(X:Cx)(ifs:List Expr)(t:TT):Prop:=
 ∀(pins:List (Addr×Obj)) (s:Shared) (σ:St) (H:Hp) (Q:Bool->Hp->Prop),Inv X pins σ H s->t σ H Q ->
  wpAny (model X.prog X.w) X.A (forIn ifs true λc r=>if r=true then do let ok <-isTrue c X.env (eval c X.env);pure (Yv ok) else pure (Yv r)) (TP X pins σ Q) X.xe s
def sM:TT:=λ_ H Q=>Q true H
theorem bI{X:Cx}:EB X [] sM:=λ_ _ _ H _ I h=>wpAny_tests_nil ⟨H,I,h⟩
theorem dF{X:Cx}(h:PT X c t):EB X [c] t:=λa s σ H Q I hw=>wpAny_tests_one (h a s σ H Q I hw)
section
variable{prog:VO}{w:World}{A:Around}{E:Value->Shared->Prop}{R:Ys->Shared->Prop}{s:Shared}
theorem AK(I:Nat->Shared->Prop)
 (J:∀n s,I n s->wpAny (model prog w) A (pyNext it) (λr g=>match r with
   |none=>R (.ok .next) g
   |some v=>wpAny (model prog w) A (ZH target it v) (λ_ j=>wpAny (model prog w) A (assign target env v) (λ_ o=>
     wpAny (model prog w) A (forIn T true λc r=>if r=true then do let ok <-isTrue c env (eval c env);pure (Yv ok) else pure (Yv r)) (λok l=>
      if ok=true then wpAny (model prog w) A (eval U env) (λx p=>
       wpAny (model prog w) A (call (.builtin "list.append") [acc,x]) (λ_ C=>∃m,m < n/\I m C) (notedBy (model prog w) A env λe s'=>R (.error e) s') p) (notedBy (model prog w) A env λe s'=>R (.error e) s') l
      else ∃m,m < n/\I m l) (notedBy (model prog w) A env λe s'=>R (.error e) s') o) (notedBy (model prog w) A env λe s'=>R (.error e) s') j) (notedBy (model prog w) A env λe s'=>R (.error e) s') g) (notedBy (model prog w) A env λe s'=>R (.error e) s') s)
 (n:Nat) (h:I n s) :
 codeAny (model prog w) A (.compLoop (.ListComp U [⟨target,iter,T,0⟩] scope pos) 0 it acc env) R s:=by
 refine codeAny_loop rfl I (λn s t=>?_) n h;show wpAny _ A ((compTurn (.ListComp U [⟨target,iter,T,0⟩] scope pos) 0 it acc env).onRaise (λx=>do noteFrame x env;theTreesLotGoes x)) _ _ s;refine wpAny_noted ?_;rw[compTurn_list];refine Vr (YS (Vr (Wl (J n s t) (λr g b=>?_) λ_ _ a=>a)))
 cases r with
 |none=>exact VW b
 |some v=>
  refine Vr (Wl b (λ_ j f=>?_) λ_ _ a=>a);refine Vr (Wl f (λ_ o i=>Vr (Wl i (λok l d=>?_) λ_ _ a=>a)) λ_ _ a=>a)
  cases ok with
  |false=>exact VW ⟨rfl,d⟩
  |true=>
   exact Vr (Vr (Wl d (λx p k=>Vr (Wl k (λ_ C q=>VW (VW ⟨rfl,q⟩)) λ_ _ a=>a)) λ_ _ a=>a))
end
def kQ(J:It)(l:Addr)(σf:St)(tt:TT)(te:TE)(H:Hp)(Q:Hp->Prop):Prop:=
 ∃W:Nat->Nat->List V->Hp->Prop,(∃m,W 0 m [] (upd H l (.lst [])))/\∀i m ys H2,W i m ys H2->H2 l=some (.lst ys) /\
  ((J.stop i H2/\Q H2)\/(J.go i H2/\ys.length < sizeLine/\∀x H3,J.sD i H2 x H3->tt (some x :: σf) H3 λb H4=>
    if b=true then te (some x :: σf) H4 λy H5=>H5 l=some (.lst ys)/\∃m',m' < m/\W (i + 1) m' (ys++[y]) (upd H5 l (.lst (ys++[y])))
    else ∃m',m' < m/\W (i + 1) m' ys H4))
def tT(g:TG)(n:Nat)(J:It)(l:Addr)(σf:St)(tt:TT)(te:TE)(H:Hp)(Q:Hp->Prop):Prop:=
 ∃W:Nat->Nat->List V->Hp->Prop,(∃m,W 0 m [] (upd H l (.lst [])))/\∀i m ys H2,W i m ys H2->H2 l=some (.lst ys) /\
  ((J.stop i H2/\Q H2)\/(J.go i H2/\ys.length < sizeLine/\∀x H3 vs,vs.length=n->J.sD i H2 x H3->g x (vs++σf) H3 λσ' H'=>(∃K4,K4.length=n/\σ'=K4++σf)/\tt σ' H' λb H4=>
    if b=true then te σ' H4 λy H5=>H5 l=some (.lst ys)/\∃m',m' < m/\W (i + 1) m' (ys++[y]) (upd H5 l (.lst (ys++[y])))
    else ∃m',m' < m/\W (i + 1) m' ys H4))
def K5{α:Type}:Nat->(List α->Prop)->Prop
 |0,P=>P []
 |n + 1,P=>∀a,K5 n λus=>P (a :: us)
theorem gE{α:Type}:∀n P,K5 n P->∀us:List α,us.length=n->P us
 |0,_,h,[],_=>h
 |n + 1,_,h,a :: us,e=>gE n _ (h a) us (Nat.succ.inj e)
theorem zZ(h:kQ J l g j o H Q):tT (dv 0) 1 J l g j o H Q:=
 let ⟨W,a,t⟩:=h
 ⟨W,a,λi m d e w=>let ⟨p,q⟩:=t i m d e w;⟨p,q.imp id λ⟨a,b,c⟩=>⟨a,b,λx f k n y=>by revert k;refine gE 1 _ ?_;exact λ_=>⟨⟨[some x],rfl,rfl⟩,c x f y⟩⟩⟩⟩
noncomputable def pick(σ:St)(ix:List Nat):St:=ix.map λi=>(σ[i]?).join
def K6(wi:TI)(ix:List Nat)(tt:TT)(te:TE):TE:=λσ H Q=>wi σ H λJ H1=>∀l,H1 l=none->kQ J l (pick σ ix) tt te H1 (λH2=>Q (.ref l) H2)
def HM(wi:TI)(ix:List Nat)(tt:TT)(te:TE)(i:Nat):TS:=λD σ H=>wi σ H λJ H1=>∀l,H1 l=none->kQ J l (pick σ ix) tt te H1 (λH2=>D.nx (σ.set i (some (.ref l))) H2)
structure bo(X:Cx)(scope:Yr)(x:Str)(ys:List Str)(ix:List Nat):Prop where
 kind:scope.kind=.function
 CJ:∀y∈scope.names,y.2≠.cell
 names:∀y∈scope.names,y.2=.local->scope.names.lookup y.1=some .local
 var:scope.names.lookup x=some .local
 free:HL scope X.env
 nd:(x :: ys).Nodup
 len:ix.length=ys.length
 slots:∀(j:Nat) (y:Str),ys[j]?=some y->∃i:Nat,ix[j]?=some i/\X.N[i]?=some y/\(X.env.scope.names.lookup y=some .cell\/X.env.scope.names.lookup y=some .free)/\scope.names.lookup y=some .free
theorem qo(h:scope.names.lookup x=some .free):(relabel scope env).names.lookup x=some .cell\/(relabel scope env).names.lookup x=some .free:=by
 unfold relabel;dsimp only
 have key:∀(names:List (Str×Zr)),names.lookup x=some .free ->
  ((names.map λ(n,k)=>if (k == Y4 && env.scope.kind == .function && env.kindOf n == some .cell) then(n,wah) else(n,k)).lookup x=some .cell \/
   (names.map λ(n,k)=>if (k == Y4 && env.scope.kind == .function && env.kindOf n == some .cell) then(n,wah) else(n,k)).lookup x=some .free):=by
  intro names
  induction names with
  |nil=>grind
  |cons y r a=>
   grind
 exact key scope.names h
section
variable{X:Cx}{pins:List (Addr×Obj)}{σ:St}{H:Hp}{s₂:Shared}{scope:Yr}{x:Str}{xs ys:List Str}{ix:List Nat}{cl:List (Str×Addr)}{fp:List Addr}{L:Addr}
theorem Fg(B:bo X scope x ys ix)(I:Inv X pins σ H s₂)(j:∀b∈fp,sE X pins H b)(l:∀b∈fp,b < s₂.heap.objs.size)(r:s₂.heap.objs.size<=L)
 (g:∀y c,cl.lookup y=some c->X.env.cells.lookup y=some c) (p:∀y∈scope.names,y.2=.free->∃c,cl.lookup y.1=some c):(b5 X scope N cl L s₂ H fp (X.pn++pins)).Ok where
 mod:=I.ok.mod
 kind:=B.kind
 glob:=I.ok.glob
 blt:=I.ok.blt
 above:=r
 inj:=λa b c i m=>I.ok.inj a b c (g a c i) (g b c m)
 has:=λa ha=>by
  obtain⟨k,f,n⟩:=vf (env:=X.env) B.CJ (x:=a) ha;exact p (a,k) f n
 Hu:=λ_ _ h=>nomatch h
 hd:=I.ok.hd
 frames:=I.ok.frames
 Jh:=.inl rfl
 Lj:=λb d=>⟨VM (VI (l b d) r),λy c h=>(j b d).2.2.2.2.1 y c (g y c h)⟩
 bs:=I.bs
 C9:=VF I.ok.C9 I.sz
 y3:=λb o e d=>by
  rcases(j b d).2.2.2.1 with z |z
  ·exact I.ok.y3 b o e z
  ·exact absurd (VI (VI (VA e) I.ok.C9) z) (WK _)
 Aw:=λb d f=>by
  rcases W3.mp (I.q9 b f) with z |z
  ·exact(j b d).2.1 z
  ·exact(j b d).2.2.1 z
 lI:=I.stack
 EA:=I.pR
theorem CK{m₁:Str->Option Value}(B:bo X scope x ys ix)(I:Inv X pins σ H s₂)(hf:∀b∈fp,sE X pins H b)(T:∀b∈fp,b < s₂.heap.objs.size)(U:s₂.heap.objs.size<=L)
 (g:∀y c,cl.lookup y=some c->X.env.cells.lookup y=some c) (J:∀y∈scope.names,y.2=.free->∃c,cl.lookup y.1=some c)
 (kp:∀b o,s₂.heap.get? b=some o->C.get? b=some o) (Rn:C.Ns L m₁) (hl:l=s₂.heap.objs.size) (OM:l≠L) (ho:C.get? l=some {cls:=.type "list",data:=.seq ([]:List Value).toArray n₀}) :
 Inv (b5 X scope (xs++ys) cl L s₂ H fp (X.pn++pins)) [] (Yg xs.length none++pick σ ix) (upd H l (.lst [])) {s₂ with heap:=C,toks:=tk}:=by
 subst hl;have N:=I.aS.fresh (Vy s₂.heap.objs.size);refine⟨Fg B I hf T U g J,rfl,I.bare,Un.laid kp (Vy _) N,⟨m₁,Rn,λi y v A D S=>?_⟩,λy c e=>?_,?_,λy c e=>?_,λp K=>?_,I.aS.laid kp (Vy _) ⟨Wb _,[],n₀,.nil,ho⟩,?_⟩
 ·obtain⟨j,rfl⟩:∃j,i=xs.length + j:=by
   by_cases z:i < xs.length
   ·rw[VZ (by simpa using z)]at D;simp[z]at D
   ·exact⟨i - xs.length,by omega⟩
  have E:ys[j]?=some y:=by
   have A:(xs++ys)[xs.length + j]?=some y:=A;rwa[VY (Nat.le_add_right _ _),Yk]at A
  obtain⟨i,hi,O,M,a⟩:=B.slots j y E
  have f:(σ[i]?).join=some v:=by
   have:(pick σ ix)[j]?=some (some v):=by rwa[VY (by simp),ZA,Yk]at D
   unfold pick at this;rw[Vt,hi]at this;exact VC this
  have s:σ[i]?=some (some v):=by
   cases q:σ[i]? with
   |none=>rw[q]at f;cases f
   |some z=>rw[q]at f;rw[show z=some v from f]
  obtain⟨m,hn,F⟩:=I.loc;have G:Jg X.env.scope y:=.inr (M.imp id id);obtain⟨u,r,l⟩:=F i y v O s G;refine⟨u,r,.inr ⟨qo a,?_⟩⟩;rcases l with⟨k,_⟩ |⟨_,c,hc,h⟩
  ·have w:X.env.scope.names.lookup y=some .local:=k;rcases M with z |z
   ·rw[z]at w;cases w
   ·rw[z]at w;cases w
  ·obtain⟨P,t⟩:=J (y,.free) (XG a) rfl;have:=g y P t;rw[hc]at this;cases this;obtain⟨o,q,d⟩:=h;exact⟨c,t,o,kp c o q,d⟩
 ·obtain⟨v,o,q,d⟩:=I.cell y c (g y c e);exact⟨v,o,kp c o q,d⟩
 ·show upd H s₂.heap.objs.size (.lst []) L=none;rw[aa (WQ OM)];exact I.aS.fresh U
 ·obtain⟨v,o,q,d⟩:=I.cell y c (g y c e);rw[aa (VM (VA q))];exact I.fZ y c (g y c e)
 ·rw[Wr]at K;obtain⟨q,n,ne,Q,d⟩:=I.pin p K;have lt:=VA q;refine⟨kp _ _ q,by rw[aa (VM lt)];exact n,VM (VI lt U),λR=>?_,d⟩;rcases W3.mp (I.q9 p.1 R) with z |z
  ·exact ne z
  ·exact Q z
 ·simp[pick,B.len,b5]
theorem tU{tn:Nat->Heap->Prop}{Qd:Addr->Hp->Prop}{RR:Value->Addr->Ys->Shared->Prop}{E:Value->Shared->Prop}
 (hc:X.calm=true) (B:bo X scope x ys ix) (I:Inv X pins σ H s₂) (T:Turn X.prog X.w X.K tg J fp it tn) (OO:tn 0 s₂.heap) (U:∀b∈fp,sE X pins H b)
 (wH:∀y c,cl.lookup y=some c->X.env.cells.lookup y=some c) (Ro:∀y∈scope.names,y.2=.free->∃c,cl.lookup y.1=some c)
 (ht:∀L s H ex pn,EB (b5 X scope (xs++ys) cl L s H ex pn) ifs tt) (he:∀L s H ex pn,PE (b5 X scope (xs++ys) cl L s H ex pn) elt te)
 (hg:∀L s H ex pn,PG (b5 X scope (xs++ys) cl L s H ex pn) tg g) (hw:∀l,H l=none->tT g xs.length J l (pick σ ix) tt te H (Qd l))
 (Rp:∀D L H' s' m,Inv X pins σ H' s'->s'.heap.Ns L m->H' L=none->L≠X.env.locals->X.s₀.heap.objs.size<=L->(∀y c,X.env.cells.lookup y=some c->c≠L)->(∀p∈X.pn++pins,p.1≠L)->Qd D H'->RR (.ref D) L (.ok .next) s') :
 wpAny (model X.prog X.w) X.A (newList []) (λacc C=>wpAny (model X.prog X.w) X.A (newFunctionEnv scope X.env.globals cl [] X.env.qual none .none (some X.env)) (λK7 s₄=>
  codeAny (model X.prog X.w) X.A (.compStart (.ListComp elt [⟨tg,iter,ifs,0⟩] scope pos) 0 (.ref it) acc {K7 with scope:=relabel scope X.env}) (RR acc K7.locals) s₄) E C) E s₂:=by
 refine wpAny_newObj_type (wpAny_newFunctionEnv B.CJ (by intro y hy;simp at hy) (λk j a=>?_) B.kind);dsimp only at j a ⊢;generalize N:s₂.heap.push {cls:=.type "list",dict:=none,data:=.seq ([]:List Value).toArray}=t at j a ⊢;have hC:t.objs.size=s₂.heap.objs.size + 1:=by rw[<-N,Xb]
 have Y:s₂.heap.objs.size≠t.objs.size:=by rw[hC];exact VM (Xk _)
 have f:s₂.heap.objs.size<=t.objs.size:=by rw[hC];exact Ye _
 have old:∀b o,s₂.heap.get? b=some o->k.get? b=some o:=λb o e=>a.extBut b o (VM (VI (VA e) f)) (Vv _ (N ▸ Vv _ e));have Z:k.get? s₂.heap.objs.size=some {cls:=.type "list",data:=.seq ([]:List Value).toArray}:=a.extBut _ _ Y (Vv _ (N ▸ VX _ rfl));have O:∀b∈fp,b < s₂.heap.objs.size:=λb h=>let ⟨o,e,_⟩:=T.obj 0 _ OO b h;VA e
 have Rq:∀b∈fp,∀o,s₂.heap.get? b=some o->k.get? b=some o:=λb _ o e=>old b o e;have OQ:tn 0 k:=T.keep 0 _ _ OO Rq;obtain⟨W,⟨m0,w0⟩,turn⟩:=hw s₂.heap.objs.size (I.aS.fresh (Vy _))
 have M:∀C:Shared,C={s₂ with heap:=k,toks:=s₂.toks + ([]:List (Str×Value)).length} ->
  codeAny (model X.prog X.w) X.A (.compLoop (.ListComp elt [⟨tg,iter,ifs,0⟩] scope pos) 0 (.ref it) (.ref s₂.heap.objs.size) (compEnvC scope cl t.objs.size X.env))
   (RR (.ref s₂.heap.objs.size) t.objs.size) C:=by
  rintro C rfl;have I0:=CK (xs:=xs) (tk:=s₂.toks + ([]:List (Str×Value)).length) (n₀:=0) (m₁:=_) (L:=t.objs.size) B I U O f wH Ro old j rfl Y Z
  refine AK (env:=compEnvC scope cl t.objs.size X.env)
   (λn s'=>∃i F vs H',vs.length=xs.length/\Inv (b5 X scope (xs++ys) cl t.objs.size s₂ H fp (X.pn++pins)) [] (vs++pick σ ix) H' s'/\tn i s'.heap/\(∀b∈fp,H' b=none)/\W i n F H') ?_ m0
   ⟨0,[],_,_,ZA,I0,OQ,λb h=>by rw[aa (VM (O b h))];exact(U b h).1,w0⟩
  rintro n s3 ⟨i,F,vs,H3,hv,I3,OS,OT,w3⟩;obtain⟨Jk,alt⟩:=turn i n F H3 w3
  have G:∀{H':Hp},(∀b∈fp,H' b=none)->∀b∈fp,sE (b5 X scope (xs++ys) cl t.objs.size s₂ H fp (X.pn++pins)) [] H' b:=λhn b h=>
   ⟨hn b h,VM (VI (O b h) f),λhm=>by
     rcases W3.mp (I.q9 b hm) with z |z
     ·exact(U b h).2.1 z
     ·exact(U b h).2.2.1 z,.inl h,λy c e=>(U b h).2.2.2.2.1 y c (wH y c e),λp hp=>(U b h).2.2.2.2.2 p (by simpa [b5] using hp)⟩
  rcases alt with⟨stop,qd⟩ |⟨go,hsz,step⟩
  ·refine bL (T.done (b5 X scope (xs++ys) cl t.objs.size s₂ H fp (X.pn++pins)) rfl rfl rfl hc i [] s3 _ H3 _ I3 (G OT) OS stop) λr s4 ⟨hr,S⟩=>?_;subst hr;obtain⟨m,hn,_⟩:=S.loc;refine Rp s₂.heap.objs.size t.objs.size H3 s4 m ?_ hn S.free (XR (VI I.lt f)) (VF I.sz f) (λy c e=>?_) (λp hp=>?_) qd
   ·exact I.tG S.os S.base S.aS S.bare λb h=>⟨(U b h).2.2.2.1,(U b h).2.1,(U b h).2.2.2.2.1,(U b h).2.2.2.2.2⟩
   ·obtain⟨v,o,q,d⟩:=I.cell y c e;exact VM (VI (VA q) f)
   ·exact VM (VI (VA (I.pin p hp).1) f)
  ·refine bL (T.item (b5 X scope (xs++ys) cl t.objs.size s₂ H fp (X.pn++pins)) rfl rfl rfl hc i [] s3 _ H3 _ I3 (G OT) OS go) λr s4 ⟨u,hr,h4⟩=>?_;subst hr;refine bL h4 λ_ s5 ⟨xv,H5,I5,r5,y5,P,Rr⟩=>?_;have Rt:=I5.pinned (G Rr) (T.obj _ _ P);refine Wl (hg _ _ _ _ _ _ s5 _ H5 xv u _ Rt r5 (step xv _ vs hv y5)) (λ_ s6 ⟨σ6,H6,I6,⟨K4,OU,e6⟩,q6⟩=>?_) λ_ _ z=>Wk z;subst e6;refine Wl (ht _ _ _ _ _ _ s6 _ _ _ I6 q6) (λb s7 ⟨H7,I7,q7⟩=>?_) λ_ _ z=>Wk z
   have again:∀{Q:St} {R:Hp} {V:Shared},Inv (b5 X scope (xs++ys) cl t.objs.size s₂ H fp (X.pn++pins)) ([]++qe fp s5.heap) Q R V ->
    Inv (b5 X scope (xs++ys) cl t.objs.size s₂ H fp (X.pn++pins)) [] Q R V/\tn (i + 1) V.heap/\∀b∈fp,R b=none:=λ{Q R V} I8=>by
    refine⟨I8.me,T.keep _ _ _ P λb h o e=>(I8.pin (b,o) (Wd _ (Wd _ (iG h e)))).1,λb h=>?_⟩;obtain⟨o,e,d⟩:=T.obj _ _ P b h;exact(I8.pin (b,o) (Wd _ (Wd _ (iG h e)))).2.1
   cases b with
   |false=>
    rw[if_neg VJ]at q7 ⊢;obtain⟨m',hm,w7⟩:=q7;obtain⟨a1,a2,a3⟩:=again I7;exact⟨m',hm,i + 1,F,K4,H7,OU,a1,a2,a3,w7⟩
   |true=>
    rw[if_pos rfl]at q7 ⊢;refine Wl (he _ _ _ _ _ _ s7 _ _ _ I7 q7) (λuy V ⟨y,R,I8,r8,Ly,m',hm,w8⟩=>?_) λ_ _ z=>Wk z
    refine Wl (df (X:=b5 X scope (xs++ys) cl t.objs.size s₂ H fp (X.pn++pins)) _ V _ R (.ref s₂.heap.objs.size) [y] (.ref s₂.heap.objs.size) [uy] (λ_ H9=>H9=upd R s₂.heap.objs.size (.lst (F++[y]))) I8 rfl (.cons r8 .nil) ⟨_,F,y,rfl,rfl,Ly,hsz,rfl⟩)
     (λ_ s9 ⟨v9,H9,I9,_,e9⟩=>?_) λ_ _ z=>Wk z
    subst e9;obtain⟨a1,a2,a3⟩:=again I9;exact⟨m',hm,i + 1,F++[y],K4,_,OU,a1,a2,a3,w8⟩
 exact codeAny_compStart_list (M _ rfl) (T.self X.A 0 _ _ _ OQ (M _ rfl))
theorem qp{C:It->Addr->St->Hp->(Hp->Prop)->Prop}(hc:X.calm=true)(B:bo X scope x ys ix)(hg:∀cl L s H ex pn,PG (b5 X scope (xs++ys) cl L s H ex pn) U g)(hC:∀J l j H Q,C J l j H Q->tT g xs.length J l j tt te H Q)(hi:PI X U iter wi)
 (ht:∀cl L s H ex pn,EB (b5 X scope (xs++ys) cl L s H ex pn) p tt) (he:∀cl L s H ex pn,PE (b5 X scope (xs++ys) cl L s H ex pn) r te)
 (hs:∀v,Xd iter X.env v=pure v:=by intro _;rfl):PE X (.ListComp r [⟨U,iter,p,0⟩] scope pos) (λσ H Q=>wi σ H λJ H1=>∀l,H1 l=none->C J l (pick σ ix) H1 (λH2=>Q (.ref l) H2)):=by
 intro pins s σ H Q I h;obtain⟨cl,a,d,f⟩:=kP (scope:=scope) (env:=X.env) (λy F i=>I.ok.has y.1 (B.free y F i));rw[eval_ListComp];refine waE (use:=none) rfl hs a B.kind B.names (bL (hi pins s σ H _ I h) λS V k=>bL k λG W n=>?_);obtain⟨it,fp,Y,J,H2,e,K,T,t,f2,hw⟩:=n;subst e;refine tU (RR:=λu C=>compPost (model X.prog X.w) X.A X.xe none (EP X pins σ Q) u C) (Qd:=λl z=>Q (.ref l) z) hc B K T t f2 d f (ht cl) (he cl) (hg cl) (λl h=>hC _ _ _ _ _ (hw l h)) ?_;intro D L z M m N hn c k n O P q;exact⟨m,hn,λZ E=>⟨.ref D,z,N.turned (it:=L) (t':=M.toks) (λb o R e=>(E.2 b R).trans e) c k (.inr n) O P,rfl,q⟩⟩
theorem A0(B:bo X scope x ys ix)(cl L s H ex pn):PG (b5 X scope ([x]++ys) cl L s H ex pn) (.Name x g) (dv 0):=
 have a:(relabel scope X.env).names.lookup x=some .local:=Xw B.var
 iE B.nd rfl (.inl a) (.inr a)
theorem cT(hc:X.calm=true)(B:bo X scope x ys ix)(hi:PI X (.Name x r) iter I)
 (T:∀cl L s H ex pn,EB (b5 X scope (x :: ys) cl L s H ex pn) g o) (U:∀cl L s H ex pn,PE (b5 X scope (x :: ys) cl L s H ex pn) j p)
 (hs:∀v,Xd iter X.env v=pure v:=by intro _;rfl):PE X (.ListComp j [⟨.Name x r,iter,g,0⟩] scope pos) (K6 I ix o p):=
 qp (C:=λJ l a H Q=>kQ J l a o p H Q) (xs:=[x]) hc B (A0 B) (λ_ _ _ _ _=>zZ) hi T U hs
end
section
variable{X:Cx}{scope:Yr}{x:Str}{xs ys:List Str}{ix:List Nat}
theorem oN{C:It->Addr->St->Hp->(Hp->Prop)->Prop}(hc:X.calm=true)(B:bo X scope x ys ix)(hN:X.N.Nodup)(hy:X.N[i]?=some y)(r:X.env.scope.names.lookup y=some .local)(hg:∀cl L s H ex pn,PG (b5 X scope (xs++ys) cl L s H ex pn) tg g)(hC:∀J l U H Q,C J l U H Q->tT g xs.length J l U tt te H Q)(hi:PI X tg iter wi)
 (ht:∀cl L s H ex pn,EB (b5 X scope (xs++ys) cl L s H ex pn) j tt) (he:∀cl L s H ex pn,PE (b5 X scope (xs++ys) cl L s H ex pn) p te)
 (MD:Xo (.ListComp p [⟨tg,iter,j,0⟩] scope pos) (some (.Name y py)) ME.line X.env=pure true:=by rfl)
 (hs:∀v,Xd iter X.env v=pure v:=by intro _;rfl):PS X (.Assign [.Name y py] (.ListComp p [⟨tg,iter,j,0⟩] scope pos) ME) (λD σ H=>wi σ H λJ H1=>∀l,H1 l=none->C J l (pick σ ix) H1 (λH2=>D.nx (σ.set i (some (.ref l))) H2)):=by
 intro c s σ H D I h;obtain⟨cl,d,t,u⟩:=kP (scope:=scope) (env:=X.env) (λy hy E=>I.ok.has y.1 (B.free y hy E));rw[exec_Assign_Name_used _ _ _ _ MD];refine Vr (YS (Vr ?_));show wpAny _ X.A (do let _ <-comprehension (.ListComp p [⟨tg,iter,j,0⟩] scope pos) scope X.env _ (newList []) false (eval iter X.env) (some (assign (.Name y py) X.env))) _ _ s
 refine Vr (Wl (waE (use:=some (assign (.Name y py) X.env)) (Q:=λ_ k=>SP X c D .next k) rfl hs d B.kind B.names
  (bL (hi c s σ H _ I h) λxv s1 n=>bL n λY s2 F=>?_)) (λ_ k Z=>VW (VW Z)) λ_ _ e=>e)
 obtain⟨it,fp,tn,J,H2,e,I2,T,G,f2,hw⟩:=F;subst e;refine tU (RR:=λK C=>compPost (model X.prog X.w) X.A X.xe (some (assign (.Name y py) X.env)) (λ_ k=>SP X c D .next k) K C) (Qd:=λl M=>D.nx (σ.set i (some (.ref l))) M) hc B I2 T G f2 t u (ht cl) (he cl) (hg cl) (λl h=>hC _ _ _ _ _ (hw l h)) ?_;intro V L M k m I' hn f n F W h4 q;show wpAny _ X.A (assign (.Name y py) X.env (.ref V)) _ _ _;refine wpAny_assign_Name (tF I' hN hy (.inl r) (v:=.ref V) rfl (λO P sb=>?_) (.inr r));obtain⟨a,R,ha⟩:=sb
 have hL:L≠a:=by
  rcases ha with z |z
  ·rw[z];exact n
  ·exact(W y a z).symm
 refine⟨m,hn.sameBut R hL,λh' S=>⟨_,M,P.turned (it:=L) (t':=O.toks) (λb o hb e=>(S.2 b hb).trans e) f n (.inr F) W h4,q⟩⟩
theorem dH(hc:X.calm=true)(B:bo X scope x ys ix)(hN:X.N.Nodup)(hy:X.N[i]?=some y)(p:X.env.scope.names.lookup y=some .local)(hi:PI X (.Name x I) iter wi)
 (ht:∀cl L s H ex pn,EB (b5 X scope (x :: ys) cl L s H ex pn) g T) (he:∀cl L s H ex pn,PE (b5 X scope (x :: ys) cl L s H ex pn) j U)
 (r:Xo (.ListComp j [⟨.Name x I,iter,g,0⟩] scope pos) (some (.Name y py)) o.line X.env=pure true:=by rfl)
 (hs:∀v,Xd iter X.env v=pure v:=by intro _;rfl):PS X (.Assign [.Name y py] (.ListComp j [⟨.Name x I,iter,g,0⟩] scope pos) o) (HM wi ix T U i):=
 oN (C:=λJ l a H Q=>kQ J l a T U H Q) (xs:=[x]) hc B hN hy p (A0 B) (λ_ _ _ _ _=>zZ) hi ht he r hs
end
theorem dg{Ok:Hp->Prop}{Q:Hp->Prop}(p:V->Bool)(g:V->V)(U:kK J Ok xs)(hl:H l=none)(hz:xs.length<=sizeLine)(C:∀j,a9 H j->Ok j)
 (ht:∀x r I,x∈xs->a9 H r->(∀j,a9 r j->I (p x) j)->tt (some x :: T) r I)
 (he:∀x r I,x∈xs->p x=true->a9 H r->(∀j,a9 r j->I (g x) j)->te (some x :: T) r I)
 (hd:∀j,a9 H j->j l=some (.lst ((xs.filter p).map g))->Q j):kQ J l T tt te H Q:=by
 refine⟨λi m n d=>m=xs.length - i/\i<=xs.length/\a9 H d/\d l=some (.lst n)/\n=((xs.take i).filter p).map g,⟨xs.length,by simp,Wb _,a9.upd hl,a7,by simp⟩,?_⟩;rintro i m n d ⟨rfl,hi,c,h,k⟩;refine⟨h,?_⟩
 by_cases a:i < xs.length
 ·refine .inr ⟨U.go i d (C _ c) a,?_,λx r y=>?_⟩
  ·rw[k,Vn];refine WO (WG _ _) ?_;rw[VQ];omega
  ·obtain⟨e,s⟩:=U.sD i d x r (C _ c) a y;subst e;have mem:x∈xs:=VN s;have t:xs.take (i + 1)=xs.take i++[x]:=by rw[Ws,s];rfl
   refine ht x _ _ mem c λv f=>?_
   cases q:p x with
   |false=>
    rw[if_neg VJ];refine⟨xs.length - (i + 1),by omega,rfl,a,c.trans f,f _ _ h,?_⟩;rw[t,WC,k];simp[q]
   |true=>
    rw[if_pos rfl];refine he x _ _ mem q (c.trans f) λw u=>?_;refine⟨u _ _ (f _ _ h),xs.length - (i + 1),by omega,rfl,a,?_,a7,?_⟩
    ·intro b o e;rw[aa (ae e hl)];exact u _ _ (f _ _ (c _ _ e))
    ·rw[t,WC,k];simp[q]
 ·have e:i=xs.length:=by omega
  subst e;refine .inl ⟨U.stop d (C _ c),hd d c ?_⟩;rw[h,k,W6]
theorem oO:∀{us:List Value},Vals (bs.map V.bl) us->LSm.BoolsAre us bs:=by
 induction bs with
 |nil=>intro us r;rw[ZN]at r;cases r;exact .nil
 |cons n ns a=>
  intro us r;rw[VL]at r
  cases r with
  |cons b c=>
   cases b;exact .cons n (a c)
theorem yo:∀{us:List Value},Vals (ns.map V.str) us->StrsAre us ns:=by
 induction ns with
 |nil=>intro us r;rw[ZN]at r;cases r;exact .nil
 |cons n ns a=>
  intro us r;rw[VL]at r
  cases r with
  |cons b c=>
   obtain⟨t,e⟩:=b;subst e;exact .cons n t (a c)
theorem tV:∀{vs:List Value} {ns:List Str},StrsAre vs ns->Vals (ns.map V.str) vs
 |_,_,.nil=>.nil
 |_,_,.cons n t h=>.cons ⟨t,rfl⟩ (tV h)
section
variable{X:Cx}
theorem wI(hc:X.calm=true):cS X (.builtin "any") (λxs H Q=>∃p bs,xs=[.ref p]/\aN X.K H p (Zu V.bl bs)/\Q (.bl (bs.any id)) H):=by
 intro d s σ H xs t Q I r h;obtain⟨p,bs,rfl,j,q⟩:=h;obtain⟨u,rfl,k⟩:=vals1 r;cases k;obtain⟨a,l,pl,w⟩:=I.list j;have f:=oO l;have hl:=pl.isList;have m:=I.ok.hd hc;have c:p < s.heap.objs.size:=by obtain⟨_,e,_⟩:=hl;exact VA e
 refine call_any_walk (Y5 hl ?_)
 refine⟨s.heap.objs.size,[s.heap.objs.size,p],[s.heap.objs.size],a.toArray.size,_,_,λi=>(bs[i]?).getD false,rfl,wbw (A:=X.A.in1) m _ p (VM c) a.toArray,
  ⟨⟨_,VX _ rfl,rfl,rfl⟩,hl.push _⟩,λi v x y z n g=>?_,λB C o=>?_⟩
 ·obtain⟨b,e,rfl⟩:=f.get i v (by simpa using n);simp only[e,wcp]at g;exact Xc g
 ·have e:((W5 a.toArray.size).any λi=>(bs[i]?).getD false)=bs.any id:=by
   rw[W4,f.length];exact LSm.range_any bs
  rw[e];exact⟨.bl _,H,I.kept (LSm.kept_iter o),rfl,q⟩
theorem wJ(hc:X.calm=true):cS X (.builtin "all") (λxs H Q=>∃p bs,xs=[.ref p]/\aN X.K H p (Zu V.bl bs)/\Q (.bl (bs.all id)) H):=by
 intro d s σ H xs t Q I r h;obtain⟨p,bs,rfl,j,q⟩:=h;obtain⟨u,rfl,k⟩:=vals1 r;cases k;obtain⟨a,l,pl,w⟩:=I.list j;have f:=oO l;have hl:=pl.isList;have m:=I.ok.hd hc;have c:p < s.heap.objs.size:=by obtain⟨_,e,_⟩:=hl;exact VA e
 refine call_all_walk (Y5 hl ?_)
 refine⟨s.heap.objs.size,[s.heap.objs.size,p],[s.heap.objs.size],a.toArray.size,_,_,λi=>(bs[i]?).getD true,rfl,wbw (A:=X.A.in1) m _ p (VM c) a.toArray,
  ⟨⟨_,VX _ rfl,rfl,rfl⟩,hl.push _⟩,λi v x y z n g=>?_,λB C o=>?_⟩
 ·obtain⟨b,e,rfl⟩:=f.get i v (by simpa using n);simp only[e,wcp]at g;exact Xc g
 ·have e:((W5 a.toArray.size).all λi=>(bs[i]?).getD true)=bs.all id:=by
   rw[W4,f.length];exact LSm.range_all bs
  rw[e];exact⟨.bl _,H,I.kept (LSm.kept_iter o),rfl,q⟩
theorem CL(l:kvs.map (·.1)=g.map (VU:Str->Key))(rel:KV kvs vs)(hl:us.length=vs.length)
 (o:∀(j:Nat) (u:Value),us[j]?=some u->∃k x,vs[j]?=some (k,x)/\(b8 P w).is k u=true):StrsAre us g:=by
 have e:vs.map (·.1)=g.map (VU:Str->Key):=rel.keys ▸ l;clear l rel
 induction g generalizing us vs with
 |nil=>
  have:vs=[]:=by cases vs with |nil=>rfl |cons a b=>simp at e
  subst this;have:us=[]:=waO.mp hl;subst this;exact .nil
 |cons k g i=>
  cases vs with
  |nil=>simp at e
  |cons v vs=>
   cases us with
   |nil=>simp at hl
   |cons u us=>
    rw[VL,VL]at e;injection e with m n
    obtain⟨f,x,p,q⟩:=o 0 u rfl;have c:v=(f,x):=by simpa using p
    subst c;have d:f=(VU k:Key):=m;subst d;obtain⟨t,rfl⟩:=wbM (x:=k) (v:=u) q;exact .cons k t (i (by simpa using hl) (λj r h=>o (j + 1) r (by simpa using h)) n)
theorem vg(hc:X.calm=true):cS X (.builtin "sorted") (λxs H Q=>∃d kvs g,xs=[.ref d]/\H d=some (.dK kvs)/\kvs.map (·.1)=Zu (VU:Str->Key) g/\g.length < 64 /\
 ∀l ss,H l=none->ss.Perm g->waN ss=true->Q (.ref l) (upd H l (.lst (ss.map V.str)))):=by
 intro k s σ H xs U Q I r h;obtain⟨d,kvs,g,rfl,hd,D,v,q⟩:=h;obtain⟨u,rfl,M⟩:=vals1 r;cases M;obtain⟨E,lo,x,rel,N⟩:=qi I.aS hd;obtain⟨ep,y⟩:=N.dictAt;have O:=I.ok.hd hc;have n:kvs.length=g.length:=by have:=congrArg YT D;simpa using this
 have hn:x.length<=sizeLine:=by rw[<-rel.length];exact E
 refine Calls.call_function_entry kind_sorted plain_sorted entry_sorted (args_sorted1 _) ?_;unfold Zx.«sorted»;refine Vr (m:=checkCount "sorted" 1 1 _) (VW ?_);refine Vr (PySem.W.kdu_collect (A:=X.A.in1) (wcq (knd:=b8 X.prog X.w) (kvs:=x) (ep:=ep) lo) O y hn λi F a z c=>?_);have hl:a.toList.length=x.length:=by rw[XF];exact c.1
 refine Vr (wpAny_newList ?_ (by rw[hl];exact hn));have B:StrsAre a.toList g:=CL (P:=X.prog) (w:=X.w) D rel hl λj u e=>c.2 j u (by rw[<-Y1];exact e);have f:(i.push (seqObj "list" a.toList.toArray 0)).get? i.objs.size=some (seqObj "list" a.toList.toArray 0):=VX _ rfl;have p:a.toList.length < 64:=by rw[hl,<-rel.length,n];exact v
 refine Vr (WL (wpAny_call_entry slot_list_sort ⟨_,f,rfl⟩ entry_list_sort (list_sort_treeK strKind_oneLt f B.keysOf (λG J rest e=>keyKind_strs (by rw[<-e];exact B)) p λC a1 a2=>⟨_,rfl,?_⟩) (args_list_sort _)));obtain⟨t,R,K,S⟩:=sorted_out_str B a1 a2;have L:Inv X k σ H {s with heap:=i,toks:=F}:=I.kept z;obtain⟨e,T⟩:=sortedHeap_at (out:=(arrOf C).map (·.2)) f;refine VW ⟨_,rfl,⟨.ref i.objs.size,upd H i.objs.size (.lst (t.map V.str)),L.laid (t':=F) (λb o q=>?_) (Vy _) ⟨?_,_,e,tV R,?_⟩,rfl,q _ t (L.aS.fresh (Vy _)) K S⟩⟩
 ·have lt:b < i.objs.size:=VA q;rw[sortedHeap_old (VM lt) (by rw[size_push'];exact Zb lt)];exact Vv _ q
 ·rw[Vn,K.length_eq,<-n];exact E
 ·rw[YN];exact T
theorem tW:∀{kvs:List (Key×V)} {vs:List (Key×Value)} {us:List Value},KV kvs vs->us.length=vs.length ->
 (∀(j:Nat) (u:Value),us[j]?=some u->∃k x,vs[j]?=some (k,x)/\(b8 P w).is k u=true)->Vals (kvs.map λg=>kV g.1) us
 |_,_,us,.nil,hl,_=>by
  have:us=[]:=waO.mp hl;subst this;exact .nil
 |_,_,us,.cons (a:=p) (b:=q) r t,hl,d=>by
  cases us with
  |nil=>simp at hl
  |cons u us=>
   obtain⟨f,x,l,m⟩:=d 0 u rfl;have c:q=(f,x):=by simpa using l
   subst c;refine .cons ?_ (tW t (by simpa using hl) λj n h=>d (j + 1) n (by simpa using h));have e:p.1=f:=r.1;show RelV (kV p.1) u;rw[e];rcases bD m with⟨i,t,rfl,rfl⟩ |⟨y,t,rfl,rfl⟩
   ·exact⟨t,rfl⟩
   ·exact⟨t,rfl⟩
theorem lN(hc:X.calm=true):cS X (.type "list") (λxs H Q=>∃d kvs,xs=[.ref d]/\H d=some (.dK kvs)/\∀l,H l=none->Q (.ref l) (upd H l (.lst (kvs.map λg=>kV g.1)))):=by
 intro k s σ H xs y Q I r h;obtain⟨d,kvs,rfl,hd,q⟩:=h;obtain⟨u,rfl,n⟩:=vals1 r;cases n;obtain⟨m,lo,f,rel,o⟩:=qi I.aS hd;obtain⟨ep,i⟩:=o.dictAt;have p:=I.ok.hd hc;have hn:f.length<=sizeLine:=by rw[<-rel.length];exact m
 refine wcr (wcq (knd:=b8 X.prog X.w) (kvs:=f) (ep:=ep) lo) p i hn λt v b c kp x a=>?_;have hl:b.toList.length=f.length:=by rw[XF];exact a.1
 refine⟨.ref s.heap.objs.size,_,I.laid (t':=v) kp (Vy _) (show bp X.prog X.w _ t _ (.lst (kvs.map λg=>kV g.1)) from ⟨?_,b.toList,c,tW (P:=X.prog) (w:=X.w) rel hl λj u e=>a.2 j u (by rw[<-Y1];exact e),?_⟩),rfl,q _ (I.aS.fresh (Vy _))⟩
 ·rw[Vn];exact m
 ·rw[YN];exact x
noncomputable def jJ(v d:Addr):HO:=.ext λh=>h.IsValuesView v d
theorem tX:HF X "dict.values" (λx xs H Q=>∃d kvs,x=.ref d/\xs=[]/\H d=some (.dK kvs)/\∀v,H v=none->Q (.ref v) (upd H v (jJ v d))):=by
 intro a s σ H x xs v j Q I f g h;obtain⟨d,kvs,rfl,rfl,hd,q⟩:=h;cases f;have:=g.zero;subst this;obtain⟨l,lo,i,rel,c⟩:=qi I.aS hd;refine call_meetsIn Z2 c.typeIs PySem.F.entry_dict_values (PySem.F.args_dict_values_1 _) (meets_dict_values (b8 X.prog X.w) d lo) ⟨⟨i,c⟩,?_⟩;refine⟨.ref s.heap.objs.size,_,I.laid (t':=s.toks) (o:=jJ s.heap.objs.size d) (λb o e=>Vv _ e) (Vy _) ⟨⟨_,VX _ rfl,rfl,rfl⟩,⟨_,VX _ rfl⟩,λm n ⟨o,e,r⟩ k=>⟨o,k o e,r⟩⟩,rfl,q _ (I.aS.fresh (Vy _))⟩
theorem yp(hc:X.calm=true):cS X (.type "list") (λxs H Q=>∃v d kvs,xs=[.ref v]/\H v=some (jJ v d)/\H d=some (.dK kvs)/\∀l,H l=none->Q (.ref l) (upd H l (.lst (kvs.map (·.2))))):=by
 intro k s σ H xs D Q I r h;obtain⟨v,d,kvs,rfl,n,hd,q⟩:=h;obtain⟨u,rfl,o⟩:=vals1 r;cases o;obtain⟨m,lo,b,rel,p⟩:=qi I.aS hd;obtain⟨ep,i⟩:=p.dictAt;obtain⟨g,_⟩:=(show bp X.prog X.w H s.heap v (jJ v d) from I.aS v _ n);have x:=I.ok.hd hc;have hn:b.length<=sizeLine:=by rw[<-rel.length];exact m
 refine wcr (wbZ (knd:=b8 X.prog X.w) (kvs:=b) (ep:=ep)) x ⟨g,i⟩ hn λy z a c kp A f=>?_;have hl:a.toList.length=b.length:=by rw[XF];exact f.1
 have e:a.toList=b.map (·.2):=PySem.W.kdl_vals_eq a.toList hl λj u e=>f.2 j u (by rw[<-Y1];exact e)
 have B:∀{kvs:List (Key×V)} {b:List (Key×Value)},KV kvs b->Vals (kvs.map (·.2)) (b.map (·.2)):=λ{kvs b} r=>by
  induction r with
  |nil=>exact .nil
  |cons r t C=>exact .cons r.2 C
 refine⟨.ref s.heap.objs.size,_,I.laid (t':=z) kp (Vy _) (show bp X.prog X.w _ y _ (.lst (kvs.map (·.2))) from ⟨?_,a.toList,c,by rw[e];exact B rel,?_⟩),rfl,q _ (I.aS.fresh (Vy _))⟩
 ·rw[Vn];exact m
 ·rw[YN];exact A
noncomputable def pI:List V->List V->Bool
 |[],[]=>true
 |x :: xs,y :: ys=>oM x y && pI xs ys
 |_,_=>false
theorem CM(h:xs.length≠ys.length):pI xs ys=false:=by
 induction xs generalizing ys with
 |nil=>cases ys with
  |nil=>exact absurd rfl h
  |cons _ _=>rfl
 |cons x xs a=>cases ys with
  |nil=>rfl
  |cons y ys=>
   show (oM x y && pI xs ys)=false;rw[a (by simpa using h),YC]
theorem qt:∀{xs ys:List V},xs.length=ys.length->pI xs ys=(W5 xs.length).all λj=>oM (xs.getD j .non) (ys.getD j .non)
 |[],[],_=>rfl
 |[],_ :: _,h=>by simp at h
 |_ :: _,[],h=>by simp at h
 |x :: xs,y :: ys,h=>by
  show (oM x y && pI xs ys)=_;rw[Wa,List.range_succ_eq_map,wag,waF,qt (by simpa using h)];rfl
inductive MF(K:Vo)(x y:V)(H:Hp)(Q:VK):Prop
 |mk (a b xs ys) (_:x=.ref a) (_:y=.ref b) (_:aN K H a xs) (_:aN K H b ys) (_:xs.all cg=true) (_:ys.all cg=true) (_:Q (.bl (pI xs ys)) H)
theorem yq(l:X.A.units < Yt):md X (WV .Eq) (MF X.K):=by
 intro m s σ H x y v u Q I C D h;obtain⟨a,b,f,g,rfl,rfl,ha,E,F,G,q⟩:=h;cases C;cases D;obtain⟨d,n,o,_⟩:=I.list ha;obtain⟨c,p,r,_⟩:=I.list E;have J:=n.length;have S:=p.length
 by_cases hl:f.length=g.length
 ·refine SeqAt.eq_listAt (e:=λj=>oM (f.getD j .non) (g.getD j .non)) o.isList r.isList (by simp only[W4];omega) l (λj L M=>?_) ?_
  ·have i:j < d.length:=by simpa using L
   have k:j < c.length:=by simpa using M
   have t:f[j]?=some (f.getD j .non):=by rw[Vq];simp[show j < f.length by omega]
   have w:g[j]?=some (g.getD j .non):=by rw[Vq];simp[show j < g.length by omega]
   obtain⟨N,z,O⟩:=n.get t;obtain⟨P,B,R⟩:=p.get w
   have g1:d.toArray[j]=N:=by
    have:d[j]?=some d[j]:=by simp[i]
    rw[this]at z;simpa using VC z
   have g2:c.toArray[j]=P:=by
    have:c[j]?=some c[j]:=by simp[k]
    rw[this]at B;simpa using VC B
   rw[g1,g2];exact yi O R (Wj.mp F _ (VN t)) (Wj.mp G _ (VN w))
  ·rw[qt hl]at q;refine⟨.bl _,H,I,rfl,?_⟩;rw[W4,<-J];exact q
 ·refine SeqAt.eq_list_lengthsAt o.isList r.isList (by simp only[W4,bne_iff_ne];omega) l ⟨.bl false,H,I,rfl,?_⟩;rw[CM hl]at q;exact q
theorem dN:cS X (.builtin "isinstance") (λxs H Q=>∃x T t b,xs=[x,.ty T]/\dG X.K H x t/\wcH X.K t (.type T)=some b/\Q (.bl b) H):=by
 intro a s σ H xs g Q I r h;obtain⟨x,T,t,b,rfl,ty,e,q⟩:=h;obtain⟨u,i,rfl,c,d⟩:=vals2 r;cases d;exact nT I c ty e λf=>⟨.bl b,H,I.tok f,rfl,q⟩
theorem nU:Mt X (λx lo hi H Q=>∃z,x=.str z/\z.length<=sizeLine/\Q (.str (Wo z lo hi)) H):=by
 intro a s σ H x v p r lo hi sl Q I m n pl f h;obtain⟨z,rfl,b,q⟩:=h;obtain⟨t,rfl⟩:=m;refine⟨"str",_,slot_str_getitem.lookup,typeIs_str s z t,?_⟩;have fin:∀d k,EP X a σ Q (.str (Wo z lo hi) d) {s with toks:=k}:=λd k=>⟨.str _,H,I.tok k,⟨d,rfl⟩,q⟩;obtain⟨o,c,hc,hd⟩:=n
 cases pl with
 |none=>cases f with
  |none=>exact Yl (l:=none) (u:=none) (st:=none) ⟨o,c,hc,hd⟩ rfl (ZO ⟨VF (YD z _ _) b,fin⟩)
  |int j e=>exact Yl (l:=none) (u:=some (j,e)) (st:=none) ⟨o,c,hc,hd⟩ rfl (ZO ⟨VF (YD z _ _) b,fin⟩)
 |int i g=>cases f with
  |none=>exact Yl (l:=some (i,g)) (u:=none) (st:=none) ⟨o,c,hc,hd⟩ rfl (ZO ⟨VF (YD z _ _) b,fin⟩)
  |int j e=>exact Yl (l:=some (i,g)) (u:=some (j,e)) (st:=none) ⟨o,c,hc,hd⟩ rfl (ZO ⟨VF (YD z _ _) b,fin⟩)
theorem vh:HF X "str.join" (λx xs H Q=>∃z p g,x=.str z/\xs=[.ref p]/\aN X.K H p (Zu V.str g)/\(g.map (·.length)).sum + g.length * z.length<=16777216/\Q (.str (YQ z g)) H):=by
 intro a s σ H x xs v m Q I b c h;obtain⟨z,p,g,rfl,rfl,d,e,q⟩:=h;obtain⟨t,rfl⟩:=b;obtain⟨u,rfl,f⟩:=c.one;cases f;obtain⟨i,j,pl,_⟩:=I.list d;exact join_list pl.isList (by simpa using yo j) e λl k=>⟨.str _,H,I.tok k,⟨l,rfl⟩,q⟩
end
noncomputable def Jl(K:Vo)(a:Addr):It:=
 ⟨λi H=>∃xs x,aN K H a xs/\xs[i]?=some x,λi H x H'=>∃T xv,H T=none/\x=.ref T/\H'=upd H T (.tup [.int (i:Nat),xv])/\∀xs,aN K H a xs->xs[i]?=some xv,λi H=>∃xs,aN K H a xs/\xs.length<=i⟩
theorem AO{P:VO}{w:World}{K:Vo}{C:List Expr}{k:Nat}{pos:Pos}(a e it:Addr)(J:e≠it):Turn P w K (.Tuple C k pos) (Jl K a) [e,it] e (λi h=>(∃old,IsEnum h e it (i:Nat) old)/\h.IsListIter it a i) where
 mem:=by simp
 obj:=λi h st b d=>by
  obtain⟨⟨old,f⟩,o,M,hc,hd⟩:=st;rcases W3.mp d with rfl |d
  ·exact⟨_,f,λv z=>by
    have z':wcf _=wcK v:=z
    cases z'⟩
  ·have A:b=it:=by simpa using d
   subst A;exact⟨o,M,λv z=>by rw[hd]at z;cases z⟩
 keep:=λi h h' st k=>⟨st.1.imp λold f=>k e (by simp) _ f,st.2.at λo q=>k it (by simp) o q⟩
 item:=by
  intro X N hw O hc i l s σ H E I B st Q;subst N hw O;obtain⟨xs,x,L,R⟩:=Q;obtain⟨S,T,p,hz⟩:=I.list L;obtain⟨u,hu,ru⟩:=T.get R;obtain⟨⟨old,f⟩,hit⟩:=st;obtain⟨f0,f1,f2,f3,f4,f5⟩:=B e (by simp);obtain⟨U,g1,g2,g3,V,Y⟩:=B it (by simp);refine wpAny_pyNext_enum_item f hit p.isList (x:=u) (by simpa using hu) J λh' M D hT hsz hk=>?_;refine⟨_,rfl,wai M λg Z t=>?_⟩;have kp:∀b o,b≠e->b≠it->s.heap.get? b=some o->g.get? b=some o:=λb o h1 h2 q=>(t.2 b h1).trans (hk b o h1 h2 q);have F:e < s.heap.objs.size:=VA f;have HN:s.heap.objs.size≠e:=XR F;have MG:g.get? s.heap.objs.size=some {cls:=.type "tuple",data:=.seq #[.int i s.toks,u]}:=(t.2 _ HN).trans hT;have y:=I.aS.fresh (Vy s.heap.objs.size);have j:∀b o,H b=some o->b≠e/\b≠it:=λb o q=>⟨(λz=>by rw[z,f0]at q;cases q),(λz=>by rw[z,U]at q;cases q)⟩
  have G:iz X.prog X.w (upd H s.heap.objs.size (.tup [.int (i:Nat),x])) g:=by
   intro b o q
   by_cases d:b=s.heap.objs.size
   ·subst d;rw[a7]at q;cases q;exact⟨by show 2<=sizeLine;decide,[.int i s.toks,u],.cons ⟨_,rfl⟩ (.cons ru .nil),⟨_,MG,rfl,_,rfl⟩⟩
   ·rw[aa d]at q;refine(I.aS b o q).nO (λc v hc r=>?_) (λc r=>by rw[aa (ae r y)];exact r) λc ys r=>by rw[aa (ae r y)];exact r
    rcases hc with z |z
    ·rw[z]at r ⊢;exact kp b v (j b o q).1 (j b o q).2 r
    ·exact kp c v (j c _ z).1 (j c _ z).2 r
  have I1:Inv X l σ (upd H s.heap.objs.size (.tup [.int (i:Nat),x])) {s with heap:=g,gens:=s.gens,drawn:=s.drawn,toks:=s.toks + 1}:=by
   refine I.step (ch:=[e,it]) (λb d=>?_) (λb o _ _ hc q _=>kp b o (λz=>hc (by simp[z])) (λz=>hc (by simp[z])) q) (λb o _ _ hc q _=>⟨o.slots,kp b o (λz=>hc (by simp[z])) (λz=>hc (by simp[z])) q⟩)
    (λb o _ q n=>by rw[aa (VM (VA q))];exact n) (λb o hc q=>⟨o,kp b o (λz=>hc (by simp[z])) (λz=>hc (by simp[z])) q⟩)
    (λb ys r=>by rw[aa (ae r y)];exact r) (λb o u r=>by rw[aa (ae r y)];exact r) (λb ps r=>⟨#[],by rw[aa (ae r y),r];simp⟩)
    (λm ⟨o,es,ep,MH,r⟩=>⟨o,es,ep,kp _ o (WQ f1) (WQ g1) MH,r⟩) G I.bare
   rcases W3.mp d with rfl |d
   ·exact⟨f3,f1,f4,f5⟩
   ·have A:b=it:=by simpa using d
    subst A;exact⟨g3,g1,V,Y⟩
  refine⟨.ref s.heap.objs.size,_,I1,rfl,⟨s.heap.objs.size,x,y,rfl,rfl,λys hy=>by rw[I.qc hy L];exact R⟩,⟨⟨u,by simpa using Z⟩,?_⟩,λb d=>?_⟩
  ·exact D.at λo q=>(t.2 it (WQ J)).trans q
  ·have:b < s.heap.objs.size:=by
    rcases W3.mp d with rfl |d
    ·exact F
    ·have A:b=it:=by simpa using d
     subst A;obtain⟨o,q,_⟩:=hit;exact VA q
   rw[aa (VM this)];exact(B b d).1
 done:=by
   intro X N hw O hc i l s σ H E I B st Q;subst N hw O;obtain⟨xs,L,R⟩:=Q;obtain⟨S,T,p,hz⟩:=I.list L;have hl:=T.length;obtain⟨⟨old,f⟩,hit⟩:=st;obtain⟨U,g1,g2,g3,V,Y⟩:=B it (by simp);exact wpAny_pyNext_enum_end (I.ok.hd hc) f hit p.isList (wba (by simp;omega)) λh' eb=>⟨rfl,I.turned (t':=s.toks) (λb o d e=>eb b o d e) U g1 g3 V Y⟩
 self:=λ_ _ _ _ _ st h=>let ⟨⟨_,f⟩,_⟩:=st;Zc f h
theorem jg:Wi "enumerate"=some (.type "enumerate"):=by decide+kernel
section
variable{X:Cx}
def K8(K:Vo)(ta:TA):TI:=λσ H R=>ta σ H λvs H1=>∃a xs,vs=[.ref a]/\aN K H1 a xs/\R (Jl K a) H1
theorem mn{g:List Expr}{k:Nat}{j:Pos}{l:Expr}{o:TA}{p pos:Pos}(r:Gl X "enumerate")(C:X.mg "enumerate"=none)(ha:PA X [l] o)(hs:starEach [l] X.env=[(false,eval l X.env)]:=by rfl) :
 PI X (.Tuple g k j) (.Call (.Name "enumerate" p) [l] [] pos) (K8 X.K o):=by
 intro c s σ H R I h;refine Call_ (iB I r C jg (XS (bL (ha pos c s σ H _ I h) λD d ⟨E,m,i,t,v⟩=>?_) hs rfl));obtain⟨a,F,e,w,q⟩:=v;subst e;obtain⟨u,rfl,x⟩:=vals1 t;cases x;obtain⟨y,G,pl,J⟩:=i.list w;refine call_enumerate_list pl.isList λz n hit A kp=>Zc n ?_;have B:Inv X c σ m {d with heap:=z}:=i.kept (t':=d.toks) kp;refine⟨d.heap.objs.size + 1,[d.heap.objs.size + 1,d.heap.objs.size],_,_,m,rfl,B,AO a _ _ (XR (Xk _)),⟨⟨_,n⟩,hit⟩,λb L=>?_,q⟩
 have f:d.heap.objs.size<=b:=by
  grind
 exact i.Ax f (i.aS.fresh f)
end
theorem qu{K:Vo}{a:Addr}{xs:List V}{g:TG}{C:TS}{D:Ends}{σ:St}{H:Hp}(Pv:Nat->St->Hp->Prop)(J:Pv 0 σ H)(hl:∀i σ H,i<=xs.length->Pv i σ H->aN K H a xs)
 (hs:∀i x σ H T,xs[i]?=some x->Pv i σ H->H T=none->g (.ref T) σ (upd H T (.tup [.int (i:Nat),x])) λj r=>C {D with nx:=Pv (i + 1),ct:=Pv (i + 1),bk:=D.nx} j r) (hd:∀σ H,Pv xs.length σ H->D.nx σ H) :
 ∃W:Nat->Nat->St->Hp->Prop,(∃m,W 0 m σ H)/\∀i m σ H,W i m σ H ->
  ((Jl K a).stop i H/\D.nx σ H)\/((Jl K a).go i H/\∃N:St->Hp->Prop,(∀l o,N l o->∃I,I < m/\W (i + 1) I l o)/\∀x o,(Jl K a).sD i H x o->g x σ o λj r=>C {D with nx:=N,ct:=N,bk:=D.nx} j r):=by
 refine⟨λi m σ H=>m=xs.length - i/\i<=xs.length/\Pv i σ H,⟨xs.length,by simp,Wb _,J⟩,?_⟩;rintro i m σ H ⟨rfl,hi,p⟩;have q:=hl i σ H hi p
 by_cases b:i < xs.length
 ·refine .inr ⟨⟨xs,xs[i],q,by simp[b]⟩,Pv (i + 1),λl o c=>⟨xs.length - (i + 1),by omega,rfl,b,c⟩,λx o y=>?_⟩;obtain⟨T,d,f,h,k,y⟩:=y;subst h k;exact hs i d σ _ T (y xs q) p f
 ·have e:i=xs.length:=by omega
  subst e;exact .inl ⟨⟨xs,q,Vy _⟩,hd σ H p⟩
noncomputable def oP(σ:List Str)(v:Str):List Str:=if σ.any (· == v)=true then σ else σ++[v]
noncomputable def cp(val:Nat->Str)(i:Nat):List Str:=((W5 i).map val).foldl oP []
theorem gJ(val:Nat->Str)(i:Nat):cp val (i + 1)=oP (cp val i) (val i):=by
 unfold cp;rw[YW,VE,waq];rfl
theorem tY(val:Nat->Str):∀i,(cp val i).length<=i
 |0=>Vy _
 |i + 1=>by
  rw[gJ];unfold oP;have a:=tY val i;split
  ·omega
  ·grind
theorem AQ(σ:List Str)(v k:Str):(oP σ v).any (· == k)=(σ.any (· == k) ||decide (k=v)):=by
 unfold oP
 by_cases h:σ.any (· == v)=true
 ·rw[if_pos h]
  by_cases e:k=v
  ·subst e;rw[h];simp
  ·simp[e]
 ·rw[if_neg h,List.any_append]
  by_cases e:k=v
  ·subst e;simp
  ·have a:(v == k)=false:=by simpa [beq_iff_eq] using(λb:v=k=>e b.symm)
   simp[a,e]
theorem vi(σ:List Str)(v:Str):(oP σ v).length=if σ.any (· == v) then σ.length else σ.length + 1:=by
 unfold oP;split <;> simp
theorem sub_str_set:isSubtype (.type "str") (.type "set")=pure false:=by rw[isSubtype_type];kernel_rfl
theorem sub_str_frozenset:isSubtype (.type "str") (.type "frozenset")=pure false:=by rw[isSubtype_type];kernel_rfl
theorem GO(P:VO)(w:World)(x:Str)(t:Tok):(X5 P w).is x (.str x t)=true:=by simp[X5,wbF]
section
variable{prog:VO}{w:World}{A:Around}{R:Ys->Shared->Prop}{I:Addr}{fp wr:List Addr}{G:Array YY->Array YY->Prop}{n:Nat}{P:Nat->Value->Prop}{St:Nat->Shared->Prop}
theorem wK(W:WalksS prog w A.in1 I fp wr G n P St)(S:Addr)(l:S∉fp)
 (val:Nat->Str) (p:∀i v,P i v->∃t,v=.str (val i) t) (j:n + 1 < Z3) :
 ∀(k i:Nat) (s:Shared),n - i=k->i<=n->St i s ->
  s.heap.SetOf (X5 prog w) S (λg=>(cp val i).any (· == g)) (cp val i).length ->
  (∀s',Moved (S :: wr) G s s'->s'.heap.SetOf (X5 prog w) S (λg=>(cp val n).any (· == g)) (cp val n).length->R (.ok (.ret .none)) s') ->
  codeAny (model prog w) A (.builtin "set.update.loop" ⟨[.ref S,.ref I],[]⟩) R s:=by
 have f:S∉wr:=λh=>l (W.sub _ h);have a:∀b∈wr,b∈S :: wr:=λb j=>Vw _ j;intro k
 induction k with
 |zero=>
  intro i s N hi c z B;have C:i=n:=by omega
  subst C;refine Y2 Z4 ?_;rw[Y9 XW _];show wpAny _ A.in1 (pyNext (.ref I) >>= _) _ _ s;refine Vr (W.done s _ _ c λs' m=>?_);show wpAny _ A.in1 (ret WZ) _ _ s'
  exact VW (B s' (m.mono a) (by
   obtain⟨o,D,E,t,H,rest⟩:=z
   exact⟨o,D,E,t,m.heap S _ f H,rest⟩))
 |succ k O=>
  intro i s N hi c z B;have q:i < n:=by omega
  refine Y2 Z4 ?_;rw[Y9 XW _];show wpAny _ A.in1 (pyNext (.ref I) >>= _) _ _ s;refine Vr (W.item i s _ _ q c λv s' Q r m=>?_);obtain⟨t,rfl⟩:=p i v Q
  have J:s'.heap.SetOf (X5 prog w) S (λg=>(cp val i).any (· == g)) (cp val i).length:=by
   obtain⟨o,D,E,T,H,rest⟩:=z;exact⟨o,D,E,T,m.heap S _ f H,rest⟩
  show wpAny _ A.in1 (holding [waT (val i) t] (setAdd S (.str (val i) t)) >>= _) _ _ s';refine Vr (WL ?_);unfold setAdd;refine WL ?_;refine Vr ((X5 prog w).pyHash (k:=val i) (GO _ _ _ _) ?_);have d:(cp val i).length + 1 < Z3:=by have:=tY val i;omega
  refine wpAny_setAddHashed_of (knd:=X5 prog w) (s:={s' with toks:=s'.toks + 1}) (GO _ _ _ _) rfl J d λU u K=>?_
  have L:U.SetOf (X5 prog w) S (λg=>(cp val (i + 1)).any (· == g)) (cp val (i + 1)).length:=
   SetOf_congr K (λg=>by rw[gJ,AQ]) (by rw[gJ,vi])
  refine VW ⟨Zk XW _,O (i + 1) _ (by omega) q (W.frame _ s' _ _ r (Ye _) λb j o e=>?_) L λM x y=>?_⟩
  ·rw[u.2 b (λh:b=S=>l (by rw[<-h];exact j))];exact e
  ·refine B M (Moved.trans W.gtrans ((m.mono a).then_heap (Ye _) λb o j e=>?_) x) y;rw[u.2 b (λh:b=S=>j (by rw[h];exact Vz))];exact e
end
section
variable{prog:VO}{w:World}{A:Around}{E:Value->Shared->Prop}{s:Shared}
noncomputable def d5(x:Str)(i:Nat):Str:=⟨#[x.cps.getD i 0]⟩
set_option maxRecDepth 100000 in
set_option maxHeartbeats 3200000 in
theorem vj{Q:Value->Shared->Prop}
 (hh:A.handled=none) (p:x.cps.size + 1 < Z3)
 (h:∀(h':Heap) (tk:Nat),h'.SetOf (X5 prog w) s.heap.objs.size (λC=>(cp (d5 x) x.cps.size).any (· == C)) (cp (d5 x) x.cps.size).length ->
   (∀b o,b < s.heap.objs.size->s.heap.get? b=some o->h'.get? b=some o)->Q (.ref s.heap.objs.size) {s with heap:=h',toks:=tk}) :
 wpAny (model prog w) A (call (.type "set") [.str x I]) Q E s:=by
 obtain⟨c,tl,P⟩:=X9.mro;have y:=X9.made;have S:=X9.sub;refine XO (wb0 ?_);show wpAny _ _ (callAny (.type "set") _) _ _ _;refine VW ⟨Z5 _ (by decide+kernel),Y2 wbx ?_⟩;rw[wc0 (wbl "set" [.str x I] []) rfl];have h1:=X9.notType;have h2:=X9.canCreate;have W:=PySem.F.typeCall_set_1 (.str x I)
 repeat (any_goals (first |assumption |wp_step))
 refine Xg (code_set_new_1 (.str x I) (E:=E) (Q₁:=λobj f=>∃a:Bool,obj=.ref s.heap.objs.size/\f={s with heap:=s.heap.push {cls:=.type "set",dict:=none,data:=.set #[] 0 (.fresh 0 0 a)}}) λa=>⟨a,rfl,rfl⟩) λr f z=>?_
 cases r with
 |error e=>exact z
 |ok fl=>
  cases fl with
  |ret obj=>
   obtain⟨a,rfl,rfl⟩:=z;have T:(s.heap.push {cls:=.type "set",dict:=none,data:=.set #[] 0 (.fresh 0 0 a)}).get? s.heap.objs.size=some {cls:=.type "set",dict:=none,data:=.set #[] 0 (.fresh 0 0 a)}:=VX _ rfl;have X:wcM {s with heap:=s.heap.push {cls:=.type "set",dict:=none,data:=.set #[] 0 (.fresh 0 0 a)}} (.ref s.heap.objs.size) "set":=⟨_,T,rfl⟩;have Y:=X9.init.lookup;have Z:=X9.init.bind (.ref s.heap.objs.size)
   repeat (any_goals (first |assumption |wp_step))
   refine Xg (Xx (R:=wants (λr g=>r=.none/\∃h' tk,g={s with heap:=h',toks:=tk} /\
    h'.SetOf (X5 prog w) s.heap.objs.size (λC=>(cp (d5 x) x.cps.size).any (· == C)) (cp (d5 x) x.cps.size).length /\
    (∀b o,b < s.heap.objs.size->s.heap.get? b=some o->h'.get? b=some o)) E) X9.init.plain PySem.F.entry_set_init (check_set_init_1 X ?_)) λl g d=>?_
   ·have U:=sub_str_set;have V:=sub_str_frozenset;have yr:(ZE "str" == ZE "dict")=false:=by decide
    unfold Zx.«set.__init__» noKeywords wcI;generalize B:pyIter=PI
    wp_walk
    subst B;refine wpAny_pyIter_str λo St hW D=>?_;refine Vr (wpAny_runValue ?_);have G:A.in1.in1.in1.handled=none:=by simp[hh]
    have H:s.heap.objs.size∉[(s.heap.push {cls:=.type "set",dict:=none,data:=.set #[] 0 (.fresh 0 0 a)}).objs.size]:=by
     rw[Xb];simp only[W3,VD,Xn,or_false,not_or];exact VM (Xk _)
    have m:∀(i:Nat) (v:Value),SignAt x i v->∃t,v=.str (d5 x i) t:=λi v hv=>by
     obtain⟨c,u,hc,e⟩:=hv;refine⟨u,?_⟩;rw[e];unfold d5;rw[YK,hc];rfl
    refine wK ((hW _ G).toS) s.heap.objs.size H (d5 x) m p (x.cps.size - 0) 0 _ (by omega) (Wb _) D ?J ?hR
    case J=>
     have n:((s.heap.push {cls:=.type "set",dict:=none,data:=.set #[] 0 (.fresh 0 0 a)}).push o).get? s.heap.objs.size
      =some {cls:=.type "set",dict:=none,data:=.set #[] 0 (.fresh 0 0 a)}:=Vv _ T
     exact SetOf_congr ((setObjOf_fresh (knd:=X5 prog w) a).setOf n (by unfold Z3;omega)) (λ_=>rfl) rfl
    case hR=>
     intro s' q j;obtain⟨h',g',d',K,L⟩:=s';have eg:g'=s.gens:=q.gens;have ed:d'=s.drawn:=q.drawn;have eo:L=s.os:=q.os;subst eg;subst ed;subst eo;show wpAny _ _ _ _ _ _;refine VW ?_;show wpAny _ _ (ret WZ) _ _ _;refine VW ⟨rfl,h',K,rfl,j,λb o' p e=>?_⟩;have M:b≠s.heap.objs.size:=VM p
     have N:b≠(s.heap.push {cls:=.type "set",dict:=none,data:=.set #[] 0 (.fresh 0 0 a)}).objs.size:=by
      rw[Xb];exact VM (Zb p)
     exact q.heap b o' (by simp only[W3,VD,Xn,or_false,not_or];exact⟨M,N⟩) (Vv _ (Vv _ e))
   ·cases l with
    |error e=>exact d
    |ok k=>
     cases k with
     |ret r=>
      obtain⟨rfl,h',tk,rfl,j,O⟩:=d
      repeat (any_goals (first |assumption |wp_step))
      exact h _ _ j O
     |_=>exact d.elim
  |_=>exact z.elim
end
section
variable{X:Cx}
noncomputable def Fh(P:VO)(w:World)(a:Addr)(n:Nat):HO:=.ext λh=>∃S,h.SetOf (X5 P w) a S n
theorem wL(hc:X.calm=true):cS X (.type "set") (λxs H Q=>∃z,xs=[.str z]/\z.cps.size + 1 < Z3/\∀p,H p=none->Q (.ref p) (upd H p (Fh X.prog X.w p (cp (d5 z) z.cps.size).length))):=by
 intro c s σ H xs n Q I r h;obtain⟨z,rfl,f,q⟩:=h;obtain⟨u,rfl,t,rfl⟩:=vals1 r;refine vj (I.ok.hd hc) f λg i d kp=>?_;have a:∀b o,s.heap.get? b=some o->g.get? b=some o:=λb o e=>kp b o (VA e) e;refine⟨.ref s.heap.objs.size,_,I.laid (t':=i) (o:=Fh X.prog X.w s.heap.objs.size (cp (d5 z) z.cps.size).length) a (Vy _) ⟨⟨_,d⟩,?_,?_⟩,rfl,q _ (I.aS.fresh (Vy _))⟩
 ·obtain⟨o,_,_,_,e,_⟩:=d;exact⟨o,e⟩
 ·rintro v x ⟨S,o,j,l,m,e,rest⟩ k;exact⟨S,o,j,l,m,k o e,rest⟩
theorem wM:cS X (.builtin "len") (λxs H Q=>∃p n,xs=[.ref p]/\H p=some (Fh X.prog X.w p n)/\Q (.int n) H):=by
 intro b s σ H xs g Q I r h;obtain⟨p,n,rfl,c,q⟩:=h;obtain⟨u,rfl,d⟩:=vals1 r;cases d;obtain⟨⟨S,o,i,j,k,e,hex,hd,_,_,f,a,hn⟩,_⟩:=(show bp X.prog X.w H s.heap p (Fh X.prog X.w p n) from I.aS p _ c);refine call_len_set e hex hd a (by grind [Z3]) ⟨.int n,H,I.tok _,⟨s.toks + 1,?_⟩,q⟩;rw[hn]
end
section
variable{X:Cx}{pins:List (Addr×Obj)}{σ:St}{H:Hp}{s:Shared}
end
section
variable{X:Cx}{st:Stmt}{rest:List Stmt}{t u:TS}{pos:Pos}
end
end L2
namespace Bs
open PySem PySem.Spec PyProof.Rows
noncomputable abbrev ch(x:Str):List Nat:=x.cps.toList
theorem aE(x:Str):(ch x).length=x.length:=by simp[ch,YL]
theorem dq(h:ch x=ch y):x=y:=by
 obtain⟨a⟩:=x;obtain⟨b⟩:=y;have:a=b:=waG.mp h;rw[this]
theorem aC(a b:Str):ch (a++b)=ch a++ch b:=by grind [Str.cps_append,Array.toList_append]
theorem vk(c:Nat):ch ⟨#[c]⟩=[c]:=rfl
theorem gZ(h:z.length=0):ch z=[]:=by grind [aE]
theorem mq(x:Str)(l u:Option Int):Wo x l u=StrLaws.sliceText x l u:=rfl
theorem qw(x:Str)(j:Nat):ch (Wo x none (some (j:Int)))=(ch x).take j:=by
 by_cases h:j<=x.length
 ·grind [mq,wby,YL]
 ·have hn:X4 none (some (j:Int)) 1 x.length=X4 none (some ((x.length:Nat):Int)) 1 x.length:=by
   grind [X4]
  have e:Wo x none (some (j:Int))=Wo x none (some ((x.length:Nat):Int)):=by
   grind [Wo]
  rw[e,mq,wby ⟨by omega,by simp[YL]⟩];have a:(ch x).length<=j:=by rw[aE];omega
  rw[XQ a];have b:x.cps.toList.take x.cps.size=x.cps.toList:=XQ (by simp);simp[YL,b]
theorem lO(x:Str)(i:Nat):ch (Wo x (some (i:Int)) none)=(ch x).drop i:=by
 by_cases h:i<=x.length
 ·rw[mq,wbb ⟨by omega,by simp[YL]at h ⊢;omega⟩];show ((x.cps.toList.drop (i:Int).toNat).take ((x.cps.toList.length:Int) - (i:Int)).toNat).toArray.toList=(ch x).drop i;rw[List.toList_toArray,W2,XQ];rw[XM];omega
 ·have hn:X4 (some (i:Int)) none 1 x.length=X4 (some ((x.length:Nat):Int)) none 1 x.length:=by
   have a:¬((i:Int) < 0):=by omega
   have b:¬(((x.length:Nat):Int) < 0):=by omega
   have c:max (0:Int) (min (i:Int) (x.length:Int))=max 0 (min ((x.length:Nat):Int) (x.length:Int)):=by omega
   simp[X4,a,b,c]
  have e:Wo x (some (i:Int)) none=Wo x (some ((x.length:Nat):Int)) none:=by
   unfold Wo;rw[hn]
  rw[e,mq,wbb ⟨by omega,by simp[YL]⟩];have d:(ch x).length<=i:=by rw[aE];omega
  rw[wbc d];simp[YL]
noncomputable def kR(c:Nat)(l:List Nat):List Nat:=l.filter λk=>decide (k≠c)
theorem lP(c:Nat)(l:List Nat)(h:c∉l):kR c l=l:=by
 unfold kR;refine WU.mpr λa ha=>decide_eq_true λe=>h (e ▸ ha)
theorem qx(c:Nat)(g:z.length=0):∀parts:List Str,(∀p∈parts,c∉ch p)->kR c (ch (wcs ⟨#[c]⟩ parts))=ch (wcs z parts)
 |[],_=>rfl
 |[p],h=>lP c _ (h p (VD.mpr rfl))
 |p :: q :: r,h=>by
  have d:=qx c g (q :: r) λa ha=>h a (Vw _ ha);show kR c (ch (p++⟨#[c]⟩++wcs ⟨#[c]⟩ (q :: r)))=ch (p++z++wcs z (q :: r));rw[aC,aC,aC,aC,<-d,gZ g,Wr];unfold kR;rw[WC,WC];have b:=lP c _ (h p (Vz ..));unfold kR at b;rw[b];simp
theorem vm(g:z.length=0)(x:Str)(c:Nat):ch (wcj x ⟨#[c]⟩ z)=kR c (ch x):=by
 grind [StrLaws.replace_one,qx,StrLaws.split_free,StrLaws.join_split]
theorem kA(j:z.length=0):∀g:List Str,ch (YQ z g)=(g.map ch).flatten:=by
 intro g;unfold YQ Builtin.Str.glued
 have b:z.cps=#[]:=by
  have:=gZ j;exact waG.mp this
 have key:∀(l:List Str) (a:Array Nat),(l.foldl (λa p=>a++z.cps++p.cps) a).toList=a.toList++(l.map ch).flatten:=by
  intro l
  induction l with
  |nil=>grind
  |cons p l c=>
   grind
 cases g with
 |nil=>rfl
 |cons p l=>
  show ((List.drop 1 (p :: l)).foldl (λa q=>a++z.cps++q.cps) p.cps).toList=_;rw[List.drop_one,List.tail_cons,key];rfl
noncomputable def dj:Str:="abcdefghijklmnopqrstuvwxyz0123456789"
structure qy(x:Str):Prop where
 lo:2<=x.length
 hi:x.length<=4
 nd:(ch x).Nodup
 sub:∀c∈ch x,c∈ch dj
structure Drawn(i:Nat)(Fi found:Str):Prop where
 pl:Fi.length + i=36
 fl:found.length=i
 pn:(ch Fi).Nodup
 fn:(ch found).Nodup
 ps:∀c∈ch Fi,c∈ch dj
 fs:∀c∈ch found,c∈ch dj
 ap:∀c∈ch found,c∉ch Fi
theorem yt:(ch dj).Nodup:=by decide+kernel
theorem qz:dj.length=36:=by decide+kernel
theorem Drawn.zero(g:e.length=0):Drawn 0 dj e:=
 ⟨qz,g,yt,(by rw[gZ g];exact WH),(λ_ h=>h),(λc h=>by grind [gZ]),(λc h=>by grind [gZ])⟩
theorem nV:∀{l:List Nat},l.Nodup->c∈l->(kR c l).length + 1=l.length:=by
 intro l
 induction l with
 |nil=>intro _ h;cases h
 |cons a r b=>
  intro nd h;obtain⟨d,f⟩:=Wn.mp nd;unfold kR at b ⊢
  by_cases e:a=c
  ·subst e;have:r.filter (λk=>decide (k≠a))=r:=lP a r d;rw[Zt,if_neg (by simp),this];rfl
  ·have hc:c∈r:=(W3.mp h).resolve_left (λz=>e z.symm);rw[Zt,if_pos (by simp[e]),Wa,Wa,b f hc]
theorem Drawn.step(d:Drawn i g found)(j:z.length=0)(hc:c∈ch g):Drawn (i + 1) (wcj g ⟨#[c]⟩ z) (found++⟨#[c]⟩):=by
 have e:=vm j g c;have p:=nV d.pn hc;have q:(wcj g ⟨#[c]⟩ z).length=(kR c (ch g)).length:=by rw[<-aE,e]
 have r:=aE g;refine⟨by have:=d.pl;omega,?_,?_,?_,λk f=>?_,λk f=>?_,λk f=>?_⟩
 ·rw[<-aE,aC,Vs,aE,d.fl];rfl
 ·rw[e];exact d.pn.filter _
 ·rw[aC];refine Xe.mpr ⟨d.fn,by simp[ch],λa ha b l=>?_⟩;have:b=c:=by simpa [ch] using l
  subst this;rintro rfl;exact d.ap a ha hc
 ·rw[e]at f;exact d.ps k (VR.mp f).1
 ·rw[aC]at f;rcases VP.mp f with h |h
  ·exact d.fs k h
  ·have:k=c:=by simpa [ch] using h
   subst this;exact d.ps k hc
 ·rw[e];intro m;obtain⟨n,o⟩:=VR.mp m;rw[aC]at f;rcases VP.mp f with h |h
  ·exact d.ap k h n
  ·have:k=c:=by simpa [ch] using h
   subst this;simp at o
theorem Drawn.signs(d:Drawn i g found)(j:2<=i)(l:i<=4):qy found:=⟨by rw[d.fl];exact j,by rw[d.fl];exact l,d.fn,d.fs⟩
structure qA(sg w:Str):Prop where
 lo:1<=w.length
 hi:w.length<=5
 sub:∀c∈ch w,c∈ch sg
theorem AR(o:z.length=0)(p:1<=g.length)(r:g.length<=5)(h:∀t∈g,∃c,t=⟨#[c]⟩/\c∈ch j):qA j (YQ z g):=by
 have e:=kA o g
 have hl:∀(l:List Str),(∀t∈l,∃c,t=⟨#[c]⟩/\c∈ch j)->((l.map ch).flatten).length=l.length/\∀c∈(l.map ch).flatten,c∈ch j:=by
  intro l
  induction l with
  |nil=>intro _;exact⟨rfl,λc h=>by cases h⟩
  |cons t l d=>
   intro a;obtain⟨c,rfl,hc⟩:=a t (Vz ..);obtain⟨f,i⟩:=d λt h=>a t (Vw _ h);refine⟨by rw[VL,Zd,Vs,f,Wa];exact Nat.add_comm 1 _,λk b=>?_⟩;rw[VL,Zd]at b;rcases VP.mp b with h |h
   ·have:k=c:=by simpa [ch] using h
    subst this;exact hc
   ·exact i k h
 obtain⟨m,n⟩:=hl g h;have q:(YQ z g).length=g.length:=by rw[<-aE,e,m]
 exact⟨by omega,by omega,λc hc=>n c (e ▸ hc)⟩
noncomputable def EC(y x:Str):Bool:=!(Z8 x y 0 x.length 1).isEmpty
theorem A1(x:Str)(c:Nat):EC ⟨#[c]⟩ x=decide (c∈ch x):=StrLaws.found_one x c
noncomputable def bears(ws:List Str)(r:Str):Bool:=ws.any λw=>EC w r
noncomputable def dO(w:Str)(n:Nat):Str:=Wo w none (some (n:Int))
theorem AU(w:Str)(n:Nat):(dO w n).length<=w.length:=YD _ _ _
noncomputable def vn(ks:List Str)(b:Str):List Str:=if b∈ks then ks else ks++[b]
noncomputable def nW(ws:List Str)(ks:List Str)(b:Str):List Str:=if bears ws b=true then ks else vn ks b
theorem CQ(ws g:List Str)(b:Str):(nW ws g b).length<=g.length + 1:=by
 unfold nW vn;split
 ·omega
 ·split
  ·omega
  ·simp
noncomputable def upTo(ws:List Str)(w:Str)(ks:List Str)(n:Nat):List Str:=((W5 n).map λi=>dO w (1 + i)).foldl (nW ws) ks
theorem eP(ws:List Str)(w:Str)(g:List Str)(n:Nat):upTo ws w g (n + 1)=nW ws (upTo ws w g n) (dO w (1 + n)):=by
 unfold upTo;rw[YW,VE,waq];rfl
theorem qD(ws:List Str)(w:Str)(g:List Str):∀n,(upTo ws w g n).length<=g.length + n
 |0=>Vy _
 |n + 1=>by
  rw[eP];have:=qD ws w g n;have:=CQ ws (upTo ws w g n) (dO w (1 + n));omega
noncomputable def addW(ws:List Str)(ks:List Str)(w:Str):List Str:=upTo ws w ks (w.length - 1)
noncomputable def bW(ws:List Str)(e:Str)(us:List Str):List Str:=us.foldl (addW ws) [e]
theorem yu(ws:List Str)(e:Str)(us:List Str)(w:Str):bW ws e (us++[w])=addW ws (bW ws e us) w:=by
 unfold bW;rw[waq];rfl
theorem kB(h:∀w∈us,w.length<=5):(bW ws e us).length<=1 + 4 * us.length:=by
 have key:∀(us a:List Str),(∀w∈us,w.length<=5)->(us.foldl (addW ws) a).length<=a.length + 4 * us.length:=by
  intro us
  induction us with
  |nil=>grind
  |cons w us b=>
   grind [addW,Vw,qD]
 exact key us [e] h
theorem yv(h:g.Nodup):(vn g b).Nodup:=by
 unfold vn;split
 ·exact h
 ·rename_i d;refine Xe.mpr ⟨h,by simp,λa ha c hc=>?_⟩;have:c=b:=by simpa using hc
  subst this;rintro rfl;exact d ha
theorem yw(h:g.Nodup):(nW ws g b).Nodup:=by
 unfold nW;split
 ·exact h
 ·exact yv h
theorem qE(h:g.Nodup):∀n,(upTo ws w g n).Nodup
 |0=>h
 |n + 1=>by rw[eP];exact yw (qE h n)
theorem oQ(us:List Str):(bW ws e us).Nodup:=by
 have key:∀(us a:List Str),a.Nodup->(us.foldl (addW ws) a).Nodup:=by
  intro us
  induction us with
  |nil=>intro a h;exact h
  |cons w us b=>intro a h;exact b _ (qE h _)
 exact key us [e] (by simp)
theorem CT(h:k∈g):k∈nW ws g b:=by grind [nW,vn,WN]
theorem mem_upTo(h:k∈g):∀n,k∈upTo ws w g n
 |0=>h
 |n + 1=>by rw[eP];exact CT (mem_upTo h n)
theorem bS(us:List Str):e∈bW ws e us:=by
 have key:∀(us a:List Str),e∈a->e∈us.foldl (addW ws) a:=by
  intro us
  induction us with
  |nil=>intro a h;exact h
  |cons w us b=>intro a h;exact b _ (mem_upTo h _)
 exact key us [e] (by simp)
end Bs
namespace L2
open PySem PySem.Spec PyProof.Rows
noncomputable def lQ(sc scope:Yr)(N:List Str)(x:Str)(ys:List Str)(ix:List Nat):Bool:=
 (match scope.kind with |.function=>true |_=>false) &&
 (scope.names.all λy=>!decide (y.2=.cell)) && (scope.names.all λy=>!decide (y.2=.local) ||decide (scope.names.lookup y.1=some .local)) &&
 (scope.names.all λy=>!decide (y.2=.free) ||decide (sc.names.lookup y.1=some .cell) ||decide (sc.names.lookup y.1=some .free)) &&
 decide (scope.names.lookup x=some .local) && decide ((x :: ys).Nodup) && decide (ix.length=ys.length) &&
 ((W5 ys.length).all λj=>match ys[j]?,ix[j]? with
   |some y,some i=>decide (N[i]?=some y) && (decide (sc.names.lookup y=some .cell) ||decide (sc.names.lookup y=some .free)) && decide (scope.names.lookup y=some .free)
   |_,_=>false)
theorem yx{X:Cx}(g:X.env.scope=l)(p:X.N=N)(h:lQ l scope N x ys o=true):bo X scope x ys o:=by
 unfold lQ at h;simp only[Xl]at h;obtain⟨⟨⟨⟨⟨⟨⟨b,d⟩,f⟩,k⟩,m⟩,n⟩,r⟩,s⟩:=h;refine⟨?_,λy a=>?_,λy a e=>?_,of_decide_eq_true m,λy a e=>?_,of_decide_eq_true n,of_decide_eq_true r,λj y c=>?_⟩
 ·cases e:scope.kind <;> rw[e]at b <;> first |rfl |cases b
 ·have:=Wj.mp d y a;simpa using this
 ·have:=Wj.mp f y a;simpa [e] using this
 ·have:=Wj.mp k y a;have q:l.names.lookup y.1=some .cell\/l.names.lookup y.1=some .free:=by simpa [e] using this
  show X.env.scope.names.lookup y.1=some .cell\/X.env.scope.names.lookup y.1=some .free;rw[g];exact q
 ·have hl:j < ys.length:=(Vu.mp c).1;have:=Wj.mp s j (Wt.mpr hl);rw[c]at this
  cases e:o[j]? with
  |none=>rw[e]at this;cases this
  |some i=>
   rw[e]at this;simp only[Xl,Bool.or_eq_true,decide_eq_true_eq]at this;exact⟨i,rfl,by rw[p];exact this.1.1,by rw[g];exact this.1.2,this.2⟩
theorem comp_map{Ok:Hp->Prop}{Q:Hp->Prop}(g:V->V)(I:kK J Ok xs)(hl:H l=none)(T:xs.length<=sizeLine)(r:∀j,a9 H j->Ok j)
 (U:∀x o p,x∈xs->a9 H o->(∀j,a9 o j->p (g x) j)->te (some x :: C) o p)
 (hd:∀j,a9 H j->j l=some (.lst (xs.map g))->Q j):kQ J l C sM te H Q:=
 dg (λ_=>true) g I hl T r (λx o p _ _ q=>q o (a9.refl _)) (λx o p a _ s q=>U x o p a s q) (λj s h=>hd j s (by rw[h,WU.mpr (λ_ _=>rfl)]))
structure FnAt(K:Vo)(mg:Str->Option Value)(nm:Str)(st:Stmt)(ps:List Str)(f:Addr)(fd:VB):Prop where
 F:wF K nm nm st f fd
 b:Binds K fd ps []
 g:mg nm=some (.ref f)
theorem eQ{X:Cx}{K:Vo}(g:X.K=K):md X (WV .In) (Lv K false):=by
 subst g;exact tN
theorem sN{X:Cx}{K:Vo}(g:X.K=K):md X (WV .NotIn) (Lv K true):=by
 subst g;exact iK
theorem jK{X:Cx}{K:Vo}(g:X.K=K):Jj X (JU K):=by
 subst g;exact cD
theorem sO{X:Cx}{K:Vo}(g:X.K=K):cS X (.builtin "len") (λxs H Q=>∃p ys,xs=[.ref p]/\(aN K H p ys\/jA K H p ys)/\Q (.int ys.length) H):=by
 subst g;exact bf
theorem A2{X:Cx}{K:Vo}{o:Expr}{C:TE}{name:Str}{apos g:Pos}{T id:String}{r:V->List V->Hp->VK->Prop}(I:X.K=K)(J:wbv T)(slot:Slot T name id)(p:typeOf (.builtin id)=pure (.type "method_descriptor"))(U:HF X id r)(ho:PE X o C)
 (j:Y3 o name X.env (eval o X.env)=eval o X.env:=by rfl) (l:(apos.endLine == g.line)=true:=by rfl):PE X (.Call (.Attribute o name apos) [] [] g) (JX K T r C):=by
 subst I;exact CA J slot p U ho j l
theorem mr{X:Cx}{K:Vo}{e:Expr}{f:Str}{pos:Pos}{g:TE}(j:X.K=K)(l:PE X e g)(o:Y3 e f X.env (eval e X.env)=eval e X.env):PE X (.Attribute e f pos) (JP K g f):=by
 subst j;exact aX l o
theorem CU{c A B:Prop}[Decidable c](h:¬c)(b:B):if c then A else B:=by
 grind
theorem MI{c A B:Prop}[Decidable c](h:c)(a:A):if c then A else B:=by
 grind
theorem av(h:n<=1000000):n<=sizeLine:=VF h (by rw[Xq];decide)
theorem gf(y:Str)(ps:List Str):kM (.str y) (ps.map V.str)=decide (y∈ps):=by
 unfold kM;rw[ZP]
 induction ps with
 |nil=>rfl
 |cons p ps a=>
  rw[Yn,a];show ((p == y) ||decide (y∈ps))=decide (y∈p :: ps)
  by_cases e:p=y
  ·subst e;simp
  ·grind
theorem dP(ps:List Str):(ps.map V.str).all cg=true:=by
 rw[waF];exact Wj.mpr λ_ _=>rfl
noncomputable def Lz(r:Str):V->V:=λv=>match v with
 |.str y=>.bl (Bs.EC y r)
 |_=>.non
theorem CV(r:Str)(ws:List Str):(ws.map V.str).map (Lz r)=(ws.map λw=>Bs.EC w r).map V.bl:=by
 rw[VG,VG];rfl
theorem AV(a b:Str):(cQ a).map (Lz b)=((Bs.ch a).map λc=>decide (c∈Bs.ch b)).map V.bl:=by
 unfold cQ;rw[VG,VG];refine Wm λc _=>?_;show V.bl (Bs.EC ⟨#[c]⟩ b)=V.bl (decide (c∈Bs.ch b));rw[Bs.A1]
noncomputable def jh(ks:List Str):List (Key×V):=ks.map λk=>((VU k:Key),V.bl true)
theorem yy(g:List Str):(jh g).map (·.1)=g.map (VU:Str->Key):=by
 unfold jh;rw[VG];rfl
theorem AW(g:List Str)(b:Str):putK (jh g) (VU b:Key) (.bl true)=jh (Bs.vn g b):=by
 unfold putK Bs.vn
 by_cases h:b∈g
 ·have a:((jh g).any λc=>decide (c.1=(VU b:Key)))=true:=by
   refine Xm.mpr ⟨(VU b,.bl true),?_,decide_eq_true rfl⟩;exact Vx.mpr ⟨b,h,rfl⟩
  rw[if_pos a,if_pos h];unfold jh;rw[VG];refine Wm λk _=>?_;show (if (VU k:Key)=VU b then((VU k:Key),V.bl true) else((VU k:Key),V.bl true))=_;split <;> rfl
 ·have a:¬((jh g).any λc=>decide (c.1=(VU b:Key)))=true:=by
   intro z;obtain⟨p,d,e⟩:=Xm.mp z;obtain⟨k,f,rfl⟩:=Vx.mp d;have:(VU k:Key)=VU b:=of_decide_eq_true e;have:k=b:=Yy this;subst this;exact h f
  rw[if_neg a,if_neg h];unfold jh;rw[VE];rfl
theorem AX(g:List Str):(jh g).length=g.length:=by unfold jh;rw[Vn]
theorem mw(h:(Bs.ch x).Nodup):∀i,i<=x.cps.size->cp (d5 x) i=(W5 i).map (d5 x)
 |0,_=>rfl
 |i + 1,hi=>by
  have d:=mw h i (by omega);rw[gJ,d,YW,VE];unfold oP;rw[if_neg]
  ·rfl
  ·intro z;obtain⟨y,f,e⟩:=Xm.mp z;obtain⟨j,l,rfl⟩:=Vx.mp f;have m:j < i:=Wt.mp l;have b:d5 x j=d5 x i:=eq_of_beq e;unfold d5 at b
   have c:x.cps.getD j 0=x.cps.getD i 0:=by
    injection b with n
    have:=congrArg Array.toList n;simpa using this
   have g:∀k,(a:k < x.cps.size)->x.cps.getD k 0=(Bs.ch x)[k]'(by simpa using a):=λk a=>by
    simp[Array.getD,a]
   rw[g j (by omega),g i (by omega)]at c;have:=(Yh h).mp c;omega
theorem wN(h:(Bs.ch x).Nodup):(cp (d5 x) x.cps.size).length=x.length:=by
 rw[mw h _ (Vy _),Vn,Wf];rfl
section
variable{X:Cx}
end
theorem CW{κ:Type}(f:κ->V)(g:κ->Str)(j:∀a b,g a=g b->f a=f b):∀{l:List κ} {c:κ},c∈l->bc (l.map λc=>((VU (g c):Key),f c)) (VU (g c):Key)=some (f c):=by intro a;induction a <;> grind [bq,bt,Yy]
end L2
namespace L2
open PySem
structure kT(K:Vo)(C:Addr)(nm qual:Str)(st:Stmt)(ps:List Str)(f:Addr)(fd:VB):Prop where
 F:wF K nm qual st f fd
 b:Binds K fd ps []
 m:F0 K C nm f
end L2
namespace Sx
open PySem L2 Bs
theorem K9:Wi "all"=some (.builtin "all"):=by decide+kernel
theorem Ka:Wi "any"=some (.builtin "any"):=by decide+kernel
theorem Fj:Wi "sorted"=some (.builtin "sorted"):=by decide+kernel
theorem vo:Wi "isinstance"=some (.builtin "isinstance"):=by decide+kernel
theorem Fl:Wi "str"=some (.type "str"):=by decide+kernel
theorem ji:Wi "list"=some (.type "list"):=by decide+kernel
theorem MJ:Wi "set"=some (.type "set"):=by decide+kernel
section
variable{P:VO}{w:World}{K:Vo}{mg:Str->Option Value}{base:Heap}{f:Addr}{fd:VB}
inductive Fm(vs:List V)(H:Hp)(Q:VK)(eN:XK):Prop
 |mk (a b) (_:vs=[.str a,.str b]) (_:a.length<=1000) (_:∀H',a9 H H'->Q (.bl ((ch a).all λc=>decide (c∈ch b))) H')
inductive Fn(K:Vo)(vs:List V)(H:Hp)(Q:VK)(eN:XK):Prop
 |mk (r a ws) (_:vs=[.str r,.ref a]) (_:aN K H a (ws.map V.str)) (_:ws.length<=1000) (_:∀H',a9 H H'->Q (.bl (bears ws r)) H')
end
section
variable{P:VO}{w:World}{K:Vo}{mg:Str->Option Value}{base:Heap}{f:Addr}{fd:VB}
inductive Kb(vs:List V)(H:Hp)(Q:VK)(eN:XK):Prop
 |mk (x) (_:vs=[.str x]) (_:qy x) (_:∀H',a9 H H'->Q (.bl true) H')
inductive Kc(vs:List V)(H:Hp)(Q:VK)(eN:XK):Prop
 |mk (t g) (_:vs=[.str t,.str g]) (_:qA g t) (_:∀H',a9 H H'->Q (.bl true) H')
inductive Fo(K:Vo)(vs:List V)(H:Hp)(Q:VK)(eN:XK):Prop
 |mk (a:Addr) (g:Str) (ws:List Str) (_:vs=[.ref a,.str g]) (_:aN K H a (ws.map V.str)) (_:ws.length<=6) (_:(∀w∈ws,qA g w)) (_:∀H',a9 H H'->Q .non H')
end
end Sx
namespace Bs
open PySem
noncomputable def fw(r:Str)(n:Nat):Str:=Wo r (some (n:Int)) none
theorem nX(r:Str):fw r r.length="":=by
 refine dq ?_;show ch (Wo r (some (r.length:Int)) none)=[];rw[lO];exact wbc (ZK (aE r))
noncomputable def CY(ps:List Str)(r:Str):Nat:=((W5 (r.length + 1)).find? λn=>decide (fw r n∈ps)).getD 0
noncomputable def lend(ps:List Str)(r:Str):Str:=fw r (CY ps r)
theorem wO(g:fw r n∈ps)(j:∀m,m < n->fw r m∉ps)(l:n<=r.length):CY ps r=n:=by
 unfold CY
 have e:(W5 (r.length + 1)).find? (λn=>decide (fw r n∈ps))=some n:=by
  grind [List.find?_range_eq_some]
 rw[e];rfl
end Bs
namespace L2
open PySem Bs
noncomputable def pW(ws ps:List Str)(p:Str)(c:Nat):V:=if bears ws (p++⟨#[c]⟩)=true then .non else .str (lend ps (p++⟨#[c]⟩))
noncomputable def rowOf(g:Str)(ws ps:List Str)(p:Str):List (Key×V):=(ch g).map λc=>((VU (⟨#[c]⟩:Str):Key),pW ws ps p c)
theorem AY(g:Str)(ws ps:List Str)(p:Str):(rowOf g ws ps p).length=g.length:=by unfold rowOf;rw[Vn,aE]
theorem yz(g:Str)(ws ps:List Str)(p:Str):((rowOf g ws ps p).map (·.2)).all cg=true:=by
 unfold rowOf;rw[VG];refine Wj.mpr λv a=>?_;obtain⟨c,_,rfl⟩:=Vx.mp a;show cg (pW ws ps p c)=true;unfold pW;split <;> rfl
end L2
namespace Sx
open PySem L2 Bs
section
variable{P:VO}{w:World}{K:Vo}{mg:Str->Option Value}{base:Heap}{f:Addr}{fd:VB}
inductive CZ(K:Vo)(vs:List V)(H:Hp)(Q:VK)(eN:XK):Prop
 |mk (a ws) (_:vs=[.ref a]) (_:aN K H a (ws.map V.str)) (_:ws.length<=6) (_:(∀w∈ws,w.length<=5)) (_:∀(l:Addr) (ss:List Str) (H':Hp),a9 H H'->H l=none->H' l=some (.lst (ss.map V.str))->ss.Perm (bW ws "" ws)->waN ss=true->Q (.ref l) H')
inductive HP(K:Vo)(vs:List V)(H:Hp)(Q:VK)(eN:XK):Prop
 |mk (r a ps) (_:vs=[.str r,.ref a]) (_:aN K H a (ps.map V.str)) (_:("":Str)∈ps) (_:r.length<=1000) (_:∀H',a9 H H'->Q (.str (lend ps r)) H')
inductive Fp(K:Vo)(vs:List V)(H:Hp)(Q:VK)(eN:XK):Prop
 |mk (p g a b ws ps) (_:vs=[.str p,.str g,.ref a,.ref b]) (_:aN K H a (ws.map V.str)) (_:aN K H b (ps.map V.str)) (_:("":Str)∈ps) (_:p.length<=100) (_:g.length<=10) (_:(ch g).Nodup) (_:ws.length<=1000) (_:∀(d:Addr) (H':Hp),a9 H H'->H d=none->H' d=some (.dK (rowOf g ws ps p))->Q (.ref d) H')
end
end Sx
namespace L2
open PySem Bs
noncomputable def i6(es:List (Key×V))(HQ:List Str):Bool:=(es.map (·.2)).any λe=>kM e (HQ.map V.str)
theorem D0{e:V}{a b:List Str}(h:∀k∈a,k∈b)(q:kM e (a.map V.str)=true):kM e (b.map V.str)=true:=by grind [kM]
theorem yA{g:List (Key×V)}{a b:List Str}(h:∀k∈a,k∈b)(q:i6 g a=true):i6 g b=true:=by
 unfold i6 at q ⊢;obtain⟨y,c,d⟩:=Xm.mp q;exact Xm.mpr ⟨y,c,D0 h d⟩
structure yB(ks:List Str)(es:Str->List (Key×V))(ls:List Str):Prop where
 sub:ls.Sublist ks
 Ru:∀k∈ls,i6 (es k) ls=true
 most:∀HQ:List Str,(∀k∈HQ,k∈ks/\i6 (es k) HQ=true)->∀k∈HQ,k∈ls
theorem tZ:∀(a b:List Str),pI (a.map V.str) (b.map V.str)=decide (a=b)
 |[],[]=>rfl
 |[],_ :: _=>rfl
 |_ :: _,[]=>rfl
 |x :: c,y :: d=>by
  show ((x == y) && pI (c.map V.str) (d.map V.str))=_;rw[tZ c d]
  by_cases e:x=y
  ·grind
  ·grind
noncomputable def bh(mv:List (Str×Addr)):List (Key×V):=mv.map λm=>((VU m.1:Key),V.ref m.2)
theorem gg(mv:List (Str×Addr)):((bh mv).map λg=>kV g.1)=(mv.map (·.1)).map V.str:=by
 unfold bh;rw[VG,VG];rfl
theorem i7(h:k∈mv.map (·.1)):∃a,(k,a)∈mv/\bc (bh mv) (VU k:Key)=some (.ref a):=by
 induction mv with
 |nil=>simp at h
 |cons m mv b=>
  grind [bq,bh,bt]
theorem iO(h:k∉mv.map (·.1)):bc (bh mv) (VU k:Key)=none:=by
 cases q:bc (bh mv) (VU k:Key) with
 |none=>rfl
 |some v=>
  have:=pV q;unfold bh at this;rw[VG]at this;obtain⟨m,a,e⟩:=Vx.mp this;have b:m.1=k:=Yy e;exact absurd (Vx.mpr ⟨m,a,b⟩) h
end L2
namespace Sx
open PySem L2 Bs
section
variable{P:VO}{w:World}{K:Vo}{mg:Str->Option Value}{base:Heap}{f:Addr}{fd:VB}
noncomputable def Kd(ls:List V):V->V:=λv=>.bl (kM v ls)
inductive Fq(K:Vo)(vs:List V)(H:Hp)(Q:VK)(eN:XK):Prop
 |mk (a b es ls) (_:vs=[.ref a,.ref b]) (_:aN K H a es) (_:aN K H b ls) (_:es.all cg=true) (_:ls.all cg=true) (_:es.length<=1000) (_:∀H',a9 H H'->Q (.bl (es.any λe=>kM e ls)) H')
inductive HR(K:Vo)(vs:List V)(H:Hp)(Q:VK)(eN:XK):Prop
 |mk (d mv es) (_:vs=[.ref d]) (_:H d=some (.dK (bh mv))) (_:mv.length<=1000) (_:(∀m∈mv,H m.2=some (.dK (es m.1)))) (_:(∀k,((es k).map (·.2)).all cg=true)) (_:(∀k,(es k).length<=1000)) (_:∀(l:Addr) (ls:List Str) (H':Hp),a9 H H'->H l=none->H' l=some (.lst (ls.map V.str))->yB (mv.map (·.1)) es ls->Q (.ref l) H')
end
noncomputable def AZ(g:Str)(b d q:Addr):List (Str×V):=[("signs",.str g),("barred",.ref b),("moves",.ref d),("lasting",.ref q)]
noncomputable def LA(g:Str):List (Str×V):=[("signs",.str g)]
noncomputable def Jm(g:Str)(b:Addr):List (Str×V):=[("signs",.str g),("barred",.ref b)]
noncomputable def HS(g:Str)(b d:Addr):List (Str×V):=[("signs",.str g),("barred",.ref b),("moves",.ref d)]
theorem HU(g:Str):d4 "signs" (.str g) []=LA g:=rfl
theorem put2(g:Str)(b:Addr):d4 "barred" (.ref b) (LA g)=Jm g b:=by
 show (if ("signs":Str)="barred" then(("signs":Str),V.ref b) :: [] else(("signs":Str),V.str g) :: d4 "barred" (.ref b) [])=_;rw[if_neg (by decide+kernel)];rfl
theorem put3(g:Str)(b d:Addr):d4 "moves" (.ref d) (Jm g b)=HS g b d:=by
 show (if ("signs":Str)="moves" then(("signs":Str),V.ref d) :: [(("barred":Str),V.ref b)] else(("signs":Str),V.str g) :: (if ("barred":Str)="moves" then(("barred":Str),V.ref d) :: [] else(("barred":Str),V.ref b) :: d4 "moves" (.ref d) []))=_;rw[if_neg (by decide+kernel),if_neg (by decide+kernel)];rfl
theorem D1(g:Str)(b d q:Addr):d4 "lasting" (.ref q) (HS g b d)=AZ g b d q:=by
 show (if ("signs":Str)="lasting" then(("signs":Str),V.ref q) :: [(("barred":Str),V.ref b),(("moves":Str),V.ref d)] else(("signs":Str),V.str g) :: (if ("barred":Str)="lasting" then(("barred":Str),V.ref q) :: [(("moves":Str),V.ref d)] else(("barred":Str),V.ref b) :: (if ("moves":Str)="lasting" then(("moves":Str),V.ref q) :: [] else(("moves":Str),V.ref d) :: d4 "lasting" (.ref q) [])))=_;rw[if_neg (by decide+kernel),if_neg (by decide+kernel),if_neg (by decide+kernel)];rfl
theorem jL(g:Str)(b d:Addr):(HS g b d).lookup ("moves":Str)=some (.ref d):=by
 rw[<-put3,aD,if_pos rfl]
theorem lR(g:Str)(b d q:Addr):(AZ g b d q).lookup ("moves":Str)=some (.ref d):=by
 rw[<-D1,aD,if_neg (by decide+kernel)];exact jL g b d
structure aV(C:Addr)(H:Hp)(x:Addr)(g:Str)(ws ss ls:List Str):Prop where
 ex:∃(dx b d q:Addr) (mv:List (Str×Addr)),H x=some (.ins C dx (AZ g b d q))/\H b=some (.lst (ws.map V.str))/\H d=some (.dK (bh mv))/\mv.map (·.1)=ss/\(∀m∈mv,H m.2=some (.dK (rowOf g ws ss m.1)))/\H q=some (.lst (ls.map V.str))
 pm:ss.Perm (bW ws "" ws)
 so:waN ss=true
 lv:yB ss (rowOf g ws ss) ls
theorem aV.same(B:aV C H x g ws ss ls)(s:a9 H j):aV C j x g ws ss ls:=by
 obtain⟨⟨a,b,d,q,c,e,f,h,i,k,n⟩,p,o,l⟩:=B;exact⟨⟨a,b,d,q,c,s _ _ e,s _ _ f,s _ _ h,i,λm r=>s _ _ (k m r),s _ _ n⟩,p,o,l⟩
section
variable{P:VO}{w:World}{K:Vo}{mg:Str->Option Value}{base:Heap}{f:Addr}{fd:VB}
inductive HV(K:Vo)(C:Addr)(vs:List V)(H:Hp)(Q:VK)(eN:XK):Prop
 |mk (x dx g a ws) (_:vs=[.ref x,.str g,.ref a]) (_:H x=some (.ins C dx [])) (_:aN K H a (ws.map V.str)) (_:qy g) (_:ws.length<=6) (_:(∀w∈ws,qA g w)) (_:∀(ss ls:List Str) (H':Hp),aV C H' x g ws ss ls->(∀b o,H b=some o->b≠x->H' b=some o)->Q .non H')
theorem B1(hw:∀w∈ws,w.length<=5):∀k∈bW ws "" ws,k.length<=5:=by
 have h1:∀(w:Str),w.length<=5->∀(n:Nat) (ks:List Str),(∀k∈ks,k.length<=5)->∀k∈upTo ws w ks n,k.length<=5:=by
  intro w B5 n
  induction n with
  |zero=>intro ks h;exact h
  |succ n ih=>
   intro ks h k hk;rw[eP]at hk;unfold nW vn at hk;split at hk
   ·exact ih ks h k hk
   ·split at hk
    ·exact ih ks h k hk
    ·rcases VP.mp hk with z |z
     ·exact ih ks h k z
     ·have:k=dO w (1 + n):=by simpa using z
      rw[this];exact VF (AU _ _) B5
 have h2:∀(us ks:List Str),(∀w∈us,w.length<=5)->(∀k∈ks,k.length<=5)->∀k∈us.foldl (addW ws) ks,k.length<=5:=by
  intro us
  induction us with
  |nil=>intro ks _ h;exact h
  |cons w us ih=>intro ks hu h;exact ih _ (λv hv=>hu v (Vw _ hv)) (h1 w (hu w (Vz ..)) _ ks h)
 exact h2 ws [""] hw (λk hk=>by have:k="":=by simpa using hk
                                subst this
                                decide+kernel)
inductive D2(C:Addr)(vs:List V)(H:Hp)(Q:VK)(eN:XK):Prop
 |mk (x g ws ss ls) (_:vs=[.ref x]) (_:aV C H x g ws ss ls) (_:∀(l:Addr) (H':Hp),a9 H H'->H l=none->H' l=some (.lst (ss.map V.str))->Q (.ref l) H')
end
section
variable{P:VO}{w:World}{K:Vo}{mg:Str->Option Value}{base:Heap}{f:Addr}{fd:VB}
inductive D3(vs:List V)(H:Hp)(Q:VK)(eN:XK):Prop
 |mk (c t m) (_:vs=[.int c,.int t,.int m]) (_:0<=t) (_:t<=100000) (_:0 < m) (_:∀d,0<=d->d < m->Q (.int d) H)
inductive Fs(vs:List V)(H:Hp)(Q:VK)(eN:XK):Prop
 |mk (c) (_:vs=[.int c]) (_:∀(x:Str) (H':Hp),qy x->a9 H H'->Q (.str x) H')
end
end Sx
namespace L2
open PySem PySem.Spec PyProof.Rows
theorem D4{Ok:Hp->Prop}{Q:Hp->Prop}(R:V->Prop)(r:kK J Ok xs)(hl:H l=none)(I:xs.length<=sizeLine)(j:∀g,a9 H g->Ok g)
 (U:∀x p T,x∈xs->a9 H p->(∀y g,R y->a9 p g->T y g)->te (some x :: C) p T)
 (hd:∀ys g,a9 H g->ys.length=xs.length->(∀y∈ys,R y)->g l=some (.lst ys)->Q g):kQ J l C sM te H Q:=by
 refine⟨λi m ys a=>m=xs.length - i/\i<=xs.length/\a9 H a/\a l=some (.lst ys)/\ys.length=i/\∀y∈ys,R y,⟨xs.length,by simp,Wb _,a9.upd hl,a7,rfl,λy f=>(nomatch f)⟩,?_⟩;rintro i m ys a ⟨rfl,hi,d,h,k,n⟩;refine⟨h,?_⟩
 by_cases c:i < xs.length
 ·refine .inr ⟨r.go i a (j _ d) c,by omega,λx p y=>?_⟩;obtain⟨e,t⟩:=r.sD i a x p (j _ d) c y;subst e;unfold sM;dsimp only;rw[if_pos rfl];refine U x _ _ (VN t) d λz u I s=>?_;refine⟨s _ _ h,xs.length - (i + 1),by omega,rfl,c,?_,a7,by simp[k],λy f=>?_⟩
  ·intro b o e;rw[aa (ae e hl)];exact s _ _ (d _ _ e)
  ·rcases VP.mp f with q |q
   ·exact n y q
   ·have:y=z:=by simpa using q
    subst this;exact I
 ·have e:i=xs.length:=by omega
  subst e;exact .inl ⟨r.stop a (j _ d),hd ys a d k n h⟩
theorem A3{R:Str->Prop}:∀{ys:List V},(∀y∈ys,∃t,y=.str t/\R t)->∃g:List Str,ys=g.map V.str/\∀t∈g,R t
 |[],_=>⟨[],rfl,λ_ h=>nomatch h⟩
 |y :: ys,h=>by
  obtain⟨t,rfl,c⟩:=h y (Vz ..);obtain⟨g,rfl,a⟩:=A3 (R:=R) (ys:=ys) λy d=>h y (Vw _ d);refine⟨t :: g,rfl,λu b=>?_⟩;rcases W3.mp b with rfl |b
  ·exact c
  ·exact a u b
end L2
namespace Sx
open PySem L2 Bs
section
variable{P:VO}{w:World}{K:Vo}{mg:Str->Option Value}{base:Heap}{f:Addr}{fd:VB}
end
end Sx
namespace L2
open PySem Bs
noncomputable def roundF(ss:List Str)(es:Str->List (Key×V))(HQ:List Str):List Str:=ss.filter λp=>i6 (es p) HQ
noncomputable def rounds(ss:List Str)(es:Str->List (Key×V)):Nat->List Str
 |0=>ss
 |n + 1=>roundF ss es (rounds ss es n)
theorem Ft(h:c∈ch g):bc (rowOf g ws ps p) (VU (⟨#[c]⟩:Str):Key)=some (pW ws ps p c):=
 CW (pW ws ps p) (λc=>(⟨#[c]⟩:Str)) (λa b e=>by
  grind) h
end L2
namespace Sx
open PySem L2 Bs
theorem u0(g:Str)(b d q:Addr):(AZ g b d q).lookup ("lasting":Str)=some (.ref q):=by
 rw[<-D1,aD,if_pos rfl]
theorem Fu(g:Str)(b d q:Addr){m:Str}(j:¬m="signs")(l:¬m="barred")(o:¬m="moves")(p:¬m="lasting"):(AZ g b d q).lookup m=none:=by
 rw[<-D1,aD,if_neg p,<-put3,aD,if_neg o,<-put2,aD,if_neg l,<-HU,aD,if_neg j];rfl
theorem aV.nd(B:aV C H x g ws ss ls):ss.Nodup:=B.pm.nodup_iff.mpr (oQ ws)
section
variable{P:VO}{w:World}{K:Vo}{mg:Str->Option Value}{base:Heap}{f:Addr}{fd:VB}
inductive Fv(C:Addr)(vs:List V)(H:Hp)(Q:VK)(eN:XK):Prop
 |mk (x g ws ss ls) (_:vs=[.ref x]) (_:aV C H x g ws ss ls) (_:∀(l:Addr) (H':Hp),a9 H H'->H l=none->H' l=some (.lst (ls.map V.str))->Q (.ref l) H')
inductive MK(C:Addr)(vs:List V)(H:Hp)(Q:VK)(eN:XK):Prop
 |mk (x p g ws ss ls) (_:vs=[.ref x,.str p]) (_:aV C H x g ws ss ls) (_:p∈ss) (_:Q .non H)
inductive Ke(C:Addr)(vs:List V)(H:Hp)(Q:VK)(eN:XK):Prop
 |mk (x p c g ws ss ls) (_:vs=[.ref x,.str p,.str ⟨#[c]⟩]) (_:aV C H x g ws ss ls) (_:p∈ss) (_:c∈ch g) (_:Q (pW ws ss p c) H)
theorem B6(g:Str)(ws ss:List Str)(p:Str)(j:List Str):((ch g).map λc=>kM (pW ws ss p c) (j.map V.str)).any id=i6 (rowOf g ws ss p) j:=by grind [i6,rowOf,VG,ZP]
end
structure Raw(K:Vo)(nm qual:Str)(st:Stmt)(f:Addr):Prop where
 ex:∃(oc:Value) (od:Option Addr) (kV doc pm:Value) (an:Option Addr) (gd ct:Value) (CG:Array (Option Value)),
  K.lookup f=some ⟨oc,od,.func (Xv nm qual (cG st) (bA st) (ay st) .none kV doc pm an gd ct),CG⟩/\Z7 K gd qual=true
 kp:XJ K (.ref f)=true
theorem yC{K:Vo}{nm g:Str}{st:Stmt}{f:Addr}{r:Value}{od C:Option Addr}{o:Array (Option Value)}{kV p pm j ct:Value}(l:K.lookup f=some ⟨r,od,.func (Xv nm g (cG st) (bA st) (ay st) .none kV p pm C j ct),o⟩)
 (c:Z7 K j g=true) (k:XJ K (.ref f)=true):Raw K nm g st f:=⟨⟨r,od,kV,p,pm,C,j,ct,o,l,c⟩,k⟩
theorem Raw.fn(R:Raw K nm g st f)
 (h:∀(kV j pm:Value) (p:Option Addr) (o ct:Value) (us:List Value),us.length=ps.length->bindArgs (Xv nm g (cG st) (bA st) (ay st) .none kV j pm p o ct) ⟨us,[]⟩=pure (ps.zip us)) :
 ∃fd,wF K nm g st f fd/\Binds K fd ps []:=by
 obtain⟨⟨b,d,kV,j,pm,p,o,ct,a,l,c⟩,k⟩:=R;have F:=CH (st:=st) l c k;exact⟨_,F,F.binds h⟩
theorem Raw.at_{mg:Str->Option Value}(X:K.In l)(G:l.Ns Wc mg)(a:PySem.W.nsIn K Wc nm=some (some (.ref f)))(R:Raw K nm nm st f)
 (h:∀(kV g pm:Value) (o:Option Addr) (j ct:Value) (us:List Value),us.length=ps.length->bindArgs (Xv nm nm (cG st) (bA st) (ay st) .none kV g pm o j ct) ⟨us,[]⟩=pure (ps.zip us)) :
 ∃fd,FnAt K mg nm st ps f fd:=by
 obtain⟨fd,F,b⟩:=R.fn h;exact⟨fd,F,b,PySem.W.mg_of X G a⟩
theorem fx{ss:List Str}{i:Nat}{y:V}(h:(ss.map V.str)[i]?=some y):∃p,ss[i]?=some p/\y=.str p/\i < ss.length/\p∈ss/\ss.take (i + 1)=ss.take i++[p]:=by
 rw[Vt]at h
 cases e:ss[i]? with
 |none=>rw[e]at h;cases h
 |some z=>
  rw[e]at h;exact⟨z,rfl,(VC h).symm,(Vu.mp e).1,VN e,by rw[Ws,e];rfl⟩
theorem B7(h:(cQ g)[i]?=some y):∃c,(ch g)[i]?=some c/\y=.str ⟨#[c]⟩/\i < (ch g).length/\c∈ch g/\(ch g).take (i + 1)=(ch g).take i++[c]:=by
 unfold cQ at h;rw[Vt]at h
 cases e:(ch g)[i]? with
 |none=>rw[show g.cps.toList[i]?=none from e]at h;cases h
 |some z=>
  rw[show g.cps.toList[i]?=some z from e]at h;exact⟨z,rfl,(VC h).symm,(Vu.mp e).1,VN e,by rw[Ws,e];rfl⟩
theorem yD(g:Str):(cQ g).length=g.length:=by grind [cQ,aE]
inductive A4(K:Vo)(vs:List V)(H:Hp)(Q:VK)(eN:XK):Prop
 |mk (a:Addr) (ns:List Int) (_:vs=[.ref a]) (_:aN K H a (ns.map V.int)) (_:ns.length<=63) (_:∀H',Q (.bl true) H')
end Sx
namespace L2
open PySem PySem.Spec PyProof.Rows
section
variable{X:Cx}{st:Stmt}{rest:List Stmt}{t u:TS}
end
theorem Fw(xs:List V)(n:Nat):sI xs none (some (n:Int))=xs.take n:=by simp_all [sI,HT.yf,wbm,Nat.sub_zero,if_neg,wb1,Nat.min_eq_right,W6,XQ]
end L2
namespace Sx
open PySem L2 Bs
noncomputable def one(c:Nat):Str:=⟨#[c]⟩
theorem fU(nx:g x=none)(j:g l=none):a9 g (upd (upd g l p) x o2):=λb o e=>by rw[aa (ae e nx),aa (ae e j)];exact e
theorem aV.few(B:aV C H x g ws ss ls)(hl:ws.length<=6)(hw:∀w∈ws,qA g w):ss.length<=25:=by
 have:=kB (ws:=ws) (e:="") (us:=ws) λw a=>(hw w a).hi;rw[B.pm.length_eq];omega
end Sx
namespace L2
open PySem PySem.Spec PyProof.Rows PySem.W
section
variable{prog:VO}{w:World}{A:Around}{R:Ys->Shared->Prop}{h:Heap}{g:Array YY}{d:Drawn}{t:Nat}{os:Xa}
variable{nm q:Str}{C N:Addr}{bs bm Ut:List Value}{hdct:Bool}{sn:List Str}{sub:List Value}{ab:Bool}{col:Option Bool}{dd:Option Addr}{k0 k1 k2 k3 k5:Option Value}{B newId ML:String}
noncomputable abbrev dI(C t:Addr):Obj:={cls:=.ref C,data:=.fields #[.ref t,.none,.none,.none,.bool false,.none]}
noncomputable abbrev nY(vs:List Value):Obj:={cls:=.type "tuple",data:=.seq vs.toArray}
end
end L2
namespace L2
open PySem PySem.Spec PyProof.Rows PySem.W
open Builtin Builtin.ObjectAttr
noncomputable abbrev Jn:List Value:=[.type "ValueError",.type "Exception",.type "BaseException",.type "object"]
noncomputable abbrev pJ(CB:Addr):List Value:=.ref CB :: Jn
section
variable{prog:VO}{w:World}{A:Around}{E:Value->Shared->Prop}{s:Shared}{K:Vo}{x dx C CB f:Addr}{mA:Str->Option Value}{name:Str}{v:Value}{R:Ys->Shared->Prop}
theorem u3(X:K.In s.heap)(I:InstAt s.heap x ox C od)(hc:clsIn K C=some cd)(hm:cd.mro=.ref C :: pJ CB)(ha:findIn K (.ref C) name=some none)
 (h:wpAny (model prog w) A.in1 (storeInOwnDict (.ref x) (.ref C) (.str name tk) name v false)
   (λfin s'=>match fin with |.done f=>R (.ok f) s' |.again c'=>c'.quiet=true/\codeAny (model prog w) A c' R s') (λe s'=>R (.error e) s') s) :
 codeAny (model prog w) A (.call (.builtin "object.__setattr__") ⟨[.ref x,.str name tk,v],[]⟩) R s:=by
 have SF:=PySem.F.store_object;have sub:Looks (model prog w) s.heap (wbz (.ref x) (.type "object")) true:=I.type.andThen (wck X (by unfold mroIn;rw[hc,waH,hm];rfl));refine Xx SF.slot.plain SF.entry (@check_slot (model prog w) _ _ s "object.__setattr__" "object" "__setattr__" (.ref x) [.str name tk,v] [] _ SF.kind SF.split sub (SF.args (.ref x) (.str name tk) v) ?_);have Rv:Looks (model prog w) s.heap (mroOf (.ref C)) cd.mro:=(Z9 X hc).andThen .now;have L3:Looks (model prog w) s.heap (storeTaker? none) none:=.now;rw[osa_eq,refuse_eq];refine Vr (Vr (I.type.here (Vr (Rv.here ?_))));rw[hm,refuseLoop_ref,refuseLoop_ref,PySem.F.store_ValueError.passes];refine VW (Vr (I.type.here (Vr ((Za X ha).here (Vr (L3.here ?_))))));exact h
theorem D5{Q:Unit->Shared->Prop}(X:K.In s.heap)(hx:s.heap.get? x=some (dI C t))(hc:clsIn K C=some cd)(hm:cd.mro=.ref C :: pJ CB)(hh:cd.hasDict=true)(ha:findIn K (.ref C) name=some none)
 (hs:findIn K (.ref C) "__setattr__"=some (some (.builtin "object.__setattr__")))
 (h:∀h' d tk,s.heap.objs.size<=d->(∀b o,b≠x->s.heap.get? b=some o->h'.get? b=some o)->h'.get? x=some {cls:=.ref C,dict:=some d,data:=.fields #[.ref t,.none,.none,.none,.bool false,.none]}->h'.Ns1 d (λy=>if y=name then some v else none)->Q () {s with heap:=h',toks:=tk}) :
 wpAny (model prog w) A (setAttr (.ref x) name v) Q E s:=by
 have J:InstAt s.heap x (dI C t) C none:=⟨hx,rfl,rfl,trivial⟩;refine wao X J hs (u3 (s:={s with toks:=s.toks + 1}) X J hc hm ha ?_);unfold storeInOwnDict;refine Vr (VW ?_);rw[if_neg (by simp)];unfold ownDictForStores instanceDict;refine Vr (Vr (wa5 hx ?_));dsimp only;refine Vr (wa8 (s:={s with toks:=s.toks + 1}) (Z9 X hc) ?_);rw[hh];have OV:(s.heap.push {cls:=.type "dict",data:=.dict #[]}).get? x=some (dI C t):=Vv _ hx;have OW:x≠s.heap.objs.size:=VM (VA hx);simp only[wbJ,XV,if_false,Bool.not_false,wbI];rw[if_neg (by simp[typeHasDict])];refine Vr (wpAny_alloc ?_);refine Vr (wpAny_update OV ?_);refine VW ?_
 have LC:((s.heap.push {cls:=.type "dict",data:=.dict #[]}).update x λo=>{cls:=o.cls,dict:=some s.heap.objs.size,data:=o.data,slots:=o.slots}).get? s.heap.objs.size
  =some {cls:=.type "dict",data:=.dict #[]}:=(wbO _ _ _ _ OW.symm).trans (Heap.get?_push_at rfl rfl)
 have MM:((s.heap.push {cls:=.type "dict",data:=.dict #[]}).update x λo=>{cls:=o.cls,dict:=some s.heap.objs.size,data:=o.data,slots:=o.slots}).Ns s.heap.objs.size (λ_=>none):=
  ⟨_,#[],_,LC,rfl,λe he=>absurd he (by simp),λ_=>rfl⟩
 show wpAny _ _ (storeInDict s.heap.objs.size (.str name s.toks) name v) _ _ _;unfold storeInDict newKeyGuard;refine Vr (VW (Vr (wbV (wc4 MM) λh' A5 Jo=>?_)));obtain⟨oD,Rw,Rx,MN,OX,OY⟩:=A5.count (waX name v Within.nil);refine Vr (waB MN (by rw[OX];exact waC (VF OY (by grind))) ?_)
 wp_walk
 refine h h' s.heap.objs.size _ (Vy _) (λb ob Ry hb=>?_) ?_ A5
 ·exact(Jo.2 b (VM (VA hb))).trans ((wbO _ _ _ _ Ry).trans (Vv _ hb))
 ·exact(Jo.2 x OW).trans (Xp _ OV rfl)
end
section
variable{prog:VO}{w:World}{A:Around}{E:Value->Shared->Prop}{s:Shared}{K:Vo}{x dx C CB f:Addr}{mA:Str->Option Value}{name:Str}{v:Value}{R:Ys->Shared->Prop}
end
section
variable{prog:VO}{w:World}{A:Around}{E:Value->Shared->Prop}{s:Shared}{K:Vo}{x dx C CB f:Addr}{mA:Str->Option Value}{name:Str}{v:Value}{R:Ys->Shared->Prop}{nm q:Str}{N:Addr}{bs:List Value}{sn:List Str}{sub:List Value}{ab:Bool}{col:Option Bool}{dd:Option Addr}{k0 k1 k2 k3 k5:Option Value}
theorem qF(X:K.In s.heap)(j:s.heap.get? x=some (dI C t))(l:K.lookup C=some (WX nm q C N bs (pJ CB) true sn sub ab col dd k0 k1 k2 k3 k5 "ValueError.__new__"))
 (h:∀h' t',(∀b o,b≠x->s.heap.get? b=some o->h'.get? b=some o)->h'.get? x=some (dI C t')->R (.ok (.ret .none)) {s with heap:=h'}) :
 codeAny (model prog w) A (.call (.builtin "ValueError.__init__") ⟨[.ref x,u],[]⟩) R s:=by
 have F:=Xj;have f:=X _ _ l;have J:InstAt s.heap x (dI C t) C none:=⟨j,rfl,rfl,trivial⟩;have sub:Looks (model prog w) s.heap (wbz (.ref x) (.type "ValueError")) true:=J.type.andThen (wck X (by unfold mroIn clsIn;rw[l];rfl));refine Xx F.init.plain F.initEntry ?_;simp only[Zv,F.initKind,F.initSplit,F.initRow];refine Vr (sub.here ?_);simp only[wbJ,XV,if_false];have a:=F.noStar;obtain⟨c,g,d,m,os⟩:=s
 repeat (first |with_reducible refine WW f ?_ |wp_step)
 have i:x≠c.objs.size:=VM (VA j);refine h _ c.objs.size (λb o k e=>?_) ?_
 ·rw[Wz _ _ (WQ k)];exact Vv _ e
 ·exact Xp _ (Vv _ j) rfl
theorem yE{Q:Value->Shared->Prop}(X:K.In s.heap)(g:s.heap.get? x=some (dI C t))(j:K.lookup C=some (WX nm q C N bs (pJ CB) true sn sub ab col dd k0 k1 k2 k3 k5 "ValueError.__new__"))
 (h:∀h' t',(∀b o,b≠x->s.heap.get? b=some o->h'.get? b=some o)->h'.get? x=some (dI C t')->Q .none {s with heap:=h'}) :
 wpAny (model prog w) A (call (.builtin "ValueError.__init__") [.ref x,u]) Q E s:=XO (qF X g j h)
end
end L2
namespace L2
open PySem PySem.Spec PyProof.Rows
structure ED(lo:Nat)(H:Hp)(h:Heap)(e C:Addr)(od:Option Addr):Prop where
 ge:lo<=e
 nt:H e=none
 ob:∃vs sl,h.get? e=some ⟨.ref C,od,.fields vs,sl⟩/\1 < vs.size /\
  (vs[1]?=some .none\/∃T oT ts,vs[1]?=some (.ref T)/\lo<=T/\H T=none/\T≠e/\h.get? T=some oT/\oT.data=.fields ts/\ts[3]?=some .none)
theorem ED.low{lo j:Nat}{H:Hp}{h:Heap}{e C:Addr}{od:Option Addr}(F:ED lo H h e C od)(hl:j<=lo):ED j H h e C od:=by
 obtain⟨g,n,i,sl,k,l,f⟩:=F;refine⟨VF hl g,n,i,sl,k,l,?_⟩;rcases f with f |⟨T,m,o,a,b,c,d⟩
 ·exact .inl f
 ·exact .inr ⟨T,m,o,a,VF hl b,c,d⟩
section
variable{M:Model}{A:Around}{E:Value->Shared->Prop}{s:Shared}{base:Heap}{env:Env}{outer:List Env}{L e C:Addr}{od:Option Addr}{lo:Nat}{H:Hp}
structure D6(lo:Nat)(H:Hp)(fs:List Addr)(h h':Heap):Prop where
 keep:∀b o,h.get? b=some o->(b < lo\/H b≠none)->b∉fs->h'.get? b=some o
 slot:∀b o,h.get? b=some o->b∈fs->∃sl,h'.get? b=some {o with slots:=sl}
theorem u5{Q:Unit->Shared->Prop}
 (HW:A.frames=some (env :: outer)) (hl:s.heap.FunFrames base (env :: outer)) (hf:env.frame=some L) (Kf:lo<=s.heap.objs.size) (Kg:∀b,s.heap.objs.size<=b->H b=none) (OZ:lo<=e) (P0:H e=none)
 (he:s.heap.get? e=some oe) (wH:oe.cls=.ref C) (P2:oe.dict=od) (hd:oe.data=.fields vs) (hsz:1 < vs.size)
 (h:∀h',ED lo H h' e C od->D6 lo H ((env :: outer).filterMap (·.frame)) s.heap h'->Q () {s with heap:=h'}) :
 wpAny M A (do let a <-frameOf env;let pl <-entryPlaceOf L LD;let b <-wbP head a .none (rawInt L) .none pl;setField (.ref e) 1 b) (λ_ s'=>wpAny M A (wb2 (.ref e) none) Q E s') E s:=by
 have Kh:e∉(env :: outer).filterMap (·.frame):=λhm=>by
  obtain⟨_,o,ho,MO⟩:=hl.mem hm;rw[he]at ho;injection ho with ho;subst ho;exact MO vs hd
 refine Vr (wpAny_frameOf_fun HW hl hf λh₁ Ki=>?_);refine Vr (wpAny_entryPlaceOf λpl Jp=>?_);unfold wbP newFields;refine Vr (wpAny_newObj_type ?_ (Jp.sizeOk5 _ _ _ _ _));have P4:h₁.get? e=some oe:=(Ki.2.1 e Kh).trans he;have P5:=Vv (h:=h₁) {cls:=.type "traceback",dict:=none,data:=.fields ([head,.ref L,.none,rawInt L,.none]++(if pl.isEmpty then Yg 6 WZ else pl)).toArray} P4;refine wa6 P5 hd hsz ?_;have HN:h₁.objs.size≠e:=XR (VA P4);have P6:=Yw hd (·.setIfInBounds 1 (VH h₁.objs.size));have P7:=Xp (Yo (·.setIfInBounds 1 (VH h₁.objs.size))) P5 (ZB P6)
 have P8:=(Wz (h₁.push {cls:=.type "traceback",dict:=none,data:=.fields ([head,.ref L,.none,rawInt L,.none]++(if pl.isEmpty then Yg 6 WZ else pl)).toArray})
  (Yo (·.setIfInBounds 1 (VH h₁.objs.size))) (WQ HN)).trans (VX h₁ rfl)
 unfold wb2;refine Vr (Zh P7 P6 (x:=.ref h₁.objs.size) (by simp[hsz]) ?_);rw[if_pos (show (VH h₁.objs.size != WZ)=true from by simp)];refine wa6 P8 rfl (by simp only[W4,Vs,Wa,waZ] <;> omega) (h _ ?_ ?_)
 ·refine⟨OZ,P0,vs.setIfInBounds 1 (.ref h₁.objs.size),oe.slots,?_,by simpa using hsz,.inr ⟨h₁.objs.size,_,_,by simp[hsz],by rw[Ki.1];exact Kf,Kg _ (by rw[Ki.1];exact Vy _),HN,
   Xp _ P8 (ZB (Yw rfl _)),Yw rfl _,by first |(simp;done) |(rcases Jp with rfl |⟨_,_,_,_,_,_,_,rfl⟩ <;> simp)⟩⟩
  rw[Wz _ _ HN,P7];obtain⟨c,d,dt,sl⟩:=oe;dsimp only at wH P2 hd;subst wH P2 hd;rfl
 ·have keep:∀b o,b≠e->h₁.get? b=some o ->
   (((h₁.push {cls:=.type "traceback",dict:=none,data:=.fields ([head,.ref L,.none,rawInt L,.none]++(if pl.isEmpty then Yg 6 WZ else pl)).toArray}).update e (Yo (·.setIfInBounds 1 (VH h₁.objs.size)))).update h₁.objs.size
     (Yo (·.setIfInBounds 3 ((none:Option Addr).elim WZ λf=>rawInt f)))).get? b=some o:=λb o Rz hb=>by
   have RA:h₁.objs.size≠b:=XR (VA hb);rw[Wz _ _ RA,Wz _ _ (WQ Rz)];exact Vv _ hb
  refine⟨λb o hb hx MO=>keep b o ?_ ((Ki.2.1 b MO).trans hb),λb o hb hm=>?_⟩
  ·rintro rfl;rcases hx with hx |hx
   ·exact absurd (VI hx OZ) (WK _)
   ·exact hx P0
  ·obtain⟨sl,hs⟩:=Ki.2.2 b o hb;exact⟨sl,keep b _ (λz=>Kh (z ▸ hm)) hs⟩
theorem wQ{Q:Unit->Shared->Prop}(p:A.frames=some (env :: outer))(hl:s.heap.FunFrames base (env :: outer))(I:env.frame=some L)(r:lo<=s.heap.objs.size)(g:∀b,s.heap.objs.size<=b->H b=none)
 (F:ED lo H s.heap e C od) (h:∀h',ED lo H h' e C od->D6 lo H ((env :: outer).filterMap (·.frame)) s.heap h'->Q () {s with heap:=h'}) :
 wpAny M A (noteFrame (.ref e) env) (λ_ s'=>wpAny M A (wb2 (.ref e) none) Q E s') E s:=by
 obtain⟨m,n,z,sl,v,t,k⟩:=F;unfold noteFrame;simp only[I];rcases k with k |⟨T,K,B,G,u,x,y,w,i,k⟩
 ·refine Vr (Zh v rfl k ?_);rw[if_neg (by decide)];exact u5 p hl I r g m n v rfl rfl rfl t h
 ·refine Vr (Zh v rfl G ?_);rw[if_pos (show (VH T != WZ)=true from by simp)];refine Vr (Zh w i k ?_);rw[if_neg (show ¬((WZ == rawInt L)=true) from by simp[rawInt])];refine Vr (wa6 w i (waj.mp k).1 ?_);have other:∀b,b≠T->(s.heap.update T (Yo (·.setIfInBounds 3 WZ))).get? b=s.heap.get? b:=λb a=>Wz _ _ (WQ a)
  have c:∀b o,s.heap.get? b=some o->(∀z,o.data≠.fields z)->b≠T:=λb o a d q=>by
   rw[q,w]at a;injection a with a;subst a;exact d B i
  have f:(s.heap.update T (Yo (·.setIfInBounds 3 WZ))).objs.size=s.heap.objs.size:=Heap.size_after_update ..;refine u5 (s:={s with heap:=s.heap.update T (Yo (·.setIfInBounds 3 WZ))}) p (hl.of_keeps λb o a d=>⟨o,(other b (c b o a d)).trans a,rfl⟩) I (by show lo<=_;rw[f];exact r) (λb a=>g b (by rw[<-f];exact a)) m n ((other e (WQ y)).trans v) rfl rfl rfl t λh' J P=>h h' J ⟨λb o a l hn=>P.keep b o ((other b ?_).trans a) l hn,λb o a D=>P.slot b o ((other b ?_).trans a) D⟩
  ·rintro rfl;rcases l with l |l
   ·exact absurd (VI l u) (WK _)
   ·exact l x
  ·rintro rfl;obtain⟨_,N,j,d⟩:=hl.mem D;rw[w]at j;injection j with j;subst j
   exact d B i
end
noncomputable def wj(P:VO)(w:World):zS:=λouter H s E ev s'=>∃e C od H',ev=.ref e/\s'.os=s.os/\AllBare s'.gens/\Un (pG outer) [] H H' s.heap s'.heap/\iz P w H' s'.heap/\ED s.heap.objs.size H' s'.heap e C od/\E (.ref C) od H'
def A6(X:Cx)(E:XK):Prop:=∀(pins:List (Addr×Obj)) (σ:St) (H:Hp) (s:Shared) (e C:Addr) (od:Option Addr),Inv X pins σ H s->ED X.s₀.heap.objs.size H s.heap e C od->E (.ref C) od H->X.xe (.ref e) s
theorem u9{X:Cx}(g:A6 X E):Passes (wj X.prog X.w) X E:=λa σ H s k d I h=>by
 obtain⟨e,C,f,i,rfl,c,bare,un,aS,F,j⟩:=h;exact g a σ i d e C f (I.tG c un aS bare λb z=>absurd z (by simp)) (F.low I.sz) j
section
variable{P:VO}{w:World}{K:Vo}{mg:Str->Option Value}{base:Heap}{N:List Str}{qual:Str}{scope:Yr}{f:Addr}{cd:Value}{A:Around}{outer:List Env}{s:Shared}{H:Hp}{E:XK}
theorem iz.past{lo:Nat}{H:Hp}{fs:List Addr}{h h':Heap}(x:iz P w H h)(p:D6 lo H fs h h')(g:∀b∈fs,H b=none):iz P w H h':=λa o e=>
 (x a o e).nO (λb u c q=>p.keep b u q (.inr (by grind)) λd=>by
   grind) (λ_ q=>q) λ_ _ q=>q
theorem bX:A6 (sH (wj P w) P w K mg base N qual scope f cd A outer s H E) E:=by
 intro v σ l x e C y I F B;show wpAny (model P w) _ («leaving» _ (.ref e)) (λ_ d=>wj P w outer H s E (.ref e) d) (λD d=>wj P w outer H s E D d) x;unfold «leaving»;have g:∀b,x.heap.objs.size<=b->l b=none:=λb a=>I.aS.fresh a;refine Vr (wQ (lo:=s.heap.objs.size) (H:=l) (base:=base) (outer:=outer) I.ok.frames I.stack rfl I.sz g F λJ G p=>?_);have m:=I.pR
 have h:∀b o,s.heap.get? b=some o->b∉pG outer->b∉(envOfC qual scope s.heap.objs.size f cd :: outer).filterMap (·.frame):=λb o a hn j=>by
  rcases W3.mp (show b∈s.heap.objs.size :: pG outer from j) with z |z
  ·exact absurd (VA a) (by rw[z];exact WK _)
  ·exact hn z
 refine⟨e,C,y,l,rfl,I.os,I.bare,?_,I.aS.past p m,G,B⟩;have u:=I.base;refine⟨λb o a n c i=>?_,λb o a n c i=>?_,λb o a n i=>u.free b o a n i,λb o a i=>?_,u.jy,u.iA,u.jz⟩
 ·exact p.keep b o (u.keep b o a n c i) (.inl (VA a)) (h b o a c)
 ·obtain⟨sl,k⟩:=u.slot b o a n c i;obtain⟨q,r⟩:=p.slot b _ k (show b∈s.heap.objs.size :: pG outer from Vw _ c);exact⟨q,r⟩
 ·obtain⟨t,k⟩:=u.there b o a i
  by_cases j:b∈(envOfC qual scope s.heap.objs.size f cd :: outer).filterMap (·.frame)
  ·obtain⟨sl,r⟩:=p.slot b t k j;exact⟨_,r⟩
  ·exact⟨t,p.keep b t k (.inl (VA a)) j⟩
theorem wF.MP{x qual:Str}{st:Stmt}{f:Addr}{fd:VB}{N ps:List Str}{k:Nat}{sp:Sp}(F:wF K x qual st f fd)(S:iH N ps (ay st))(len:∀vs H Q E,sp vs H Q E->vs.length=ps.length)
 (j:∀(g:Value) (A:Around) (outer:List Env) (s:Shared) (H:Hp) (vs:List V) (Q:VK) (E:XK),cJ k (A.deeper (envOfC qual (ay st) s.heap.objs.size f g))->sp vs H Q E ->
   ∃t,uU (sH (wj P w) P w K mg base N qual (ay st) f g A outer s H E) (bA st) t/\t {nx:=λ_ l=>Q .non l,rt:=Q} (start N vs) H):aK P w K mg base (wj P w) (k + 1) f fd ps sp:=by
 obtain⟨h,i,kV,c,pm,m,g,ct,d,rfl,lk,a⟩:=F.ex;exact GI lk a S len λA outer s H vs Q E e b=>j g A outer s H vs Q E e b
end
open PySem.W (Looks looks_findIn looks_typeIn InitBack bind_fn findIn clsIn specialIn readsIn findCls keepIn isFn typeIn InstAt)
section
variable{prog:VO}{w:World}{A:Around}{R:Ys->Shared->Prop}{h:Heap}{g:Array YY}{d:Drawn}{t:Nat}{os:Xa}
variable{nm q:Str}{C CB N:Addr}{bs:List Value}{hdct:Bool}{sn:List Str}{sub:List Value}{ab:Bool}{col:Option Bool}{dd:Option Addr}{k0 k1 k2 k3 k5:Option Value}
theorem Fx{M:Model}{E:Value->Shared->Prop}{rest:List Value}{Q:Unit->Shared->Prop}(j:h.get? C=some (WX nm q C N bs (pJ CB) hdct sn sub ab col dd k0 k1 k2 k3 k5 "ValueError.__new__"))
 (l:Q () ⟨h,g,d,t,os⟩):wpAny M A (Zv "ValueError.__new__" ⟨.ref C :: rest,[]⟩) Q E ⟨h,g,d,t,os⟩:=by
 have F:=Xj;have a:(VH C :: pJ CB).contains (.type "ValueError")=true:=rfl;have b:=F.noStar;simp only[Zv,F.newKind,F.newSplit,F.newRow]
 repeat (first |refine WW j ?_ |(refine XH j ?_;rw[a]) |refine wpAny_staticBase_exc j ?_ |refine wpAny_madeBy_exc j ?_ |simp only[bne_self_eq_false,XV,if_false] |wp_step)
 exact l
theorem Fy{rest:List Value}(j:h.get? C=some (WX nm q C N bs (pJ CB) hdct sn sub ab col dd k0 k1 k2 k3 k5 "ValueError.__new__"))
 (o:R (.ok (.ret (.ref (h.objs.size + 1)))) ⟨(h.push {cls:=.type "tuple",data:=.seq rest.toArray}).push
   {cls:=.ref C,data:=.fields #[.ref h.objs.size,.none,.none,.none,.bool false,.none]},g,d,t,os⟩) (l:rest.length<=sizeLine:=by size_fits) :
 codeAny (model prog w) A (.builtin "ValueError.__new__" ⟨.ref C :: rest,[]⟩) R ⟨h,g,d,t,os⟩:=by
 have F:=Xj;have a:=F.ends;have b:(VH C :: pJ CB).contains (.type "ValueError")=true:=rfl;have c:(VH C :: pJ CB).contains (.type "AttributeError")=false:=rfl;have e:(VH C :: pJ CB).contains (.type "NameError")=false:=rfl;refine codeAny_builtinAt F.entry ?_;unfold Zx.«BaseException.__new__»;refine wcC ?_;show PySem.wpAt _ _ _ (PySem.stack >>= _) _ _ _;refine wcC (PySem.wpAt_stack λp f=>wbQ ?_)
 wp_walk
 refine wbQ ?_;rw[F.owner]
 repeat (first |with_reducible refine wpAny_madeHere_exc F.canon j ?_ |with_reducible refine WW j ?_ |(with_reducible refine XH j ?_;first |rw[b] |rw[c] |rw[e]) |wp_step)
 show R _ _;rw[Xb];exact o
theorem D7{rest:List Value}{init:Value}{p:Around}(l:h.get? C=some (WX nm q C N bs (pJ CB) hdct sn sub ab col dd k0 k1 k2 k3 k5 "ValueError.__new__"))
 (hi:Looks (model prog w) h (wav (.ref C) "__init__") (some init)) (J:∀self,Looks (model prog w) h (bindSpecial init self) (init,[self])) (j:rest.length<=sizeLine)
 (T:codeAny (model prog w) p (.call init ⟨.ref (h.objs.size + 1) :: rest,[]⟩) (InitBack (h.objs.size + 1) R) ⟨(h.push (nY rest)).push (dI C h.objs.size),g,d,t,os⟩) :
 wpAny (model prog w) p (Zx.«type.__call__» ⟨.ref C :: rest,[]⟩) (λfin s'=>match fin with |.done f=>R (.ok f) s' |.again I=>I.quiet=true/\codeAny (model prog w) A I R s') (λe s'=>R (.error e) s') ⟨h,g,d,t,os⟩:=by
 have F:=Xj
 repeat (first |with_reducible refine WW l ?_ |with_reducible refine wpAny_madeBy_exc l ?_ |wp_step)
 refine codeAny_call_builtin_code (Z5 _ F.quiet) (Fx l ?_);refine Fy l ?_ j;show wpAny _ _ _ _ _ _;have k:∀b o,h.get? b=some o->((h.push (nY rest)).push (dI C h.objs.size)).get? b=some o:=λb o e=>Vv _ (Vv _ e)
 have a:=Vv {cls:=.ref C,data:=.fields #[.ref h.objs.size,.none,.none,.none,.bool false,.none]}
  (Vv {cls:=.type "tuple",data:=.seq rest.toArray} l)
 have c:((h.push {cls:=.type "tuple",data:=.seq rest.toArray}).push {cls:=.ref C,data:=.fields #[.ref h.objs.size,.none,.none,.none,.bool false,.none]}).get? (h.objs.size + 1)=some {cls:=.ref C,data:=.fields #[.ref h.objs.size,.none,.none,.none,.bool false,.none]}:=by heap_get
 have i:(VH C :: pJ CB).contains (.ref C)=true:=by simp
 have m:=hi.keeps k;have n:=(J (.ref (h.objs.size + 1))).keeps k;unfold wbz
 repeat (first |with_reducible refine WW c ?_ |(with_reducible refine XH a ?_;rw[i]) |wp_step)
 show wpAny _ _ (wav (.ref C) _) _ _ _;refine m.at ?_;refine WL (Vr (n.at ?_));refine Vr (XO (Xg T λr s' z=>?_));rcases r with e |(v |_ |_ |_) <;> first |exact z |exact z.elim |skip
 obtain⟨rfl,z⟩:=z
 wp_walk
 exact z
theorem wR{rest:List Value}{init:Value}(l:h.get? C=some (WX nm q C N bs (pJ CB) hdct sn sub ab col dd k0 k1 k2 k3 k5 "ValueError.__new__"))
 (hi:Looks (model prog w) h (wav (.ref C) "__init__") (some init)) (o:∀self,Looks (model prog w) h (bindSpecial init self) (init,[self])) (j:rest.length<=sizeLine)
 (p:codeAny (model prog w) (A.under (.builtin "type.__call__" ⟨.ref C :: rest,[]⟩)) (.call init ⟨.ref (h.objs.size + 1) :: rest,[]⟩) (InitBack (h.objs.size + 1) R) ⟨(h.push (nY rest)).push (dI C h.objs.size),g,d,t,os⟩) :
 codeAny (model prog w) A (.call (.ref C) ⟨rest,[]⟩) R ⟨h,g,d,t,os⟩:=by
 have f1:=tc_lookup;have f2:=PySem.tc_bind (.ref C);have a:(⟨h,g,d,t,os⟩:Shared).TypeIs (.ref C) "type":=⟨_,l,rfl⟩;refine wb0 ?_;show wpAny _ _ (callAny (.ref C) _) _ _ _
 repeat (any_goals (first |assumption |with_reducible refine WW l ?_ |wp_step))
 refine⟨rfl,?_⟩;exact codeAny_call_builtin_at (Z5 _ (by decide+kernel)) entry_typeCall (wpAny_check_type_call_sub l (D7 l hi o j p))
theorem oR{E:Value->Shared->Prop}{Q:Flow->Shared->Prop}(l:A.handled=none)
 (h:wpAny M A (eval x env) (λv j=>∃e od t,v=.ref e/\j.heap.get? C=some (WX nm q C N bs (pJ CB) hdct sn sub ab col dd k0 k1 k2 k3 k5 "ValueError.__new__") /\
   j.heap.get? e=some {cls:=.ref C,dict:=od,data:=.fields #[.ref t,.none,.none,.none,.bool false,.none]}/\E (.ref e) j) E s) :
 wpAny M A (exec (.Raise (some x) none pos) env) Q E s:=by
 have key:wpAny M A (raiseStmt env (some (do let v <-eval x env;standAt pos;pure v)) none) Q E s:=by
  have b:(VH C :: pJ CB).contains (.type "BaseException")=true:=rfl;unfold raiseStmt;refine Vr (Vr (Wl h (λv j a=>Vr (YS (VW ?_))) λ_ _ x=>x));obtain⟨e,od,t,rfl,c,f,i⟩:=a;obtain⟨k,g,d,m,os⟩:=j
  repeat (first |with_reducible refine WW f ?_ |with_reducible refine WW c ?_ |(with_reducible refine XH c ?_;rw[b]) |wp_step)
  exact wpAny_raiseNew_none l i
 rw[arm_exec_Raise];exact Vr (YS key)
end
end L2
namespace L2
open PySem PySem.Spec PyProof.Rows
open PySem.W (Looks looks_findIn looks_typeIn InitBack bind_fn findIn clsIn specialIn readsIn findCls keepIn isFn typeIn InstAt)
structure bJ(K:Vo)(C CB:Addr)(nm:Str):Prop where
 lk:∃(q:Str) (N:Addr) (bs:List Value) (sn:List Str) (sub:List Value) (ab:Bool) (col:Option Bool) (dd:Option Addr) (k0 k1 k2 k3 k5:Option Value),
  K.lookup C=some (WX nm q C N bs (pJ CB) true sn sub ab col dd k0 k1 k2 k3 k5 "ValueError.__new__")
 sa:findIn K (.ref C) "__setattr__"=some (some (.builtin "object.__setattr__"))
 ga:findIn K (.ref C) "__getattribute__"=some (some (.builtin "BaseException.__getattribute__"))
 gh:findIn K (.ref C) "__getattr__"=some none
 kp:keepIn K (.ref C)=true
structure D8(K:Vo)(CB:Addr):Prop where
 sp:wae K (.ref CB) "__getattribute__"=some (some (.builtin "type.__getattribute__"))
 rd:readsIn K CB (.type "type")=true
 fc:findCls K (.ref CB) (.type "type") "__init__"=some (.val (.builtin "ValueError.__init__"))
noncomputable def XN(x C:Addr):HO:=.ext λh=>∃t,h.get? x=some (dI C t)
noncomputable abbrev pX(C d t:Addr):Obj:={cls:=.ref C,dict:=some d,data:=.fields #[.ref t,.none,.none,.none,.bool false,.none]}
noncomputable def XD(x C d:Addr):HO:=.ext λh=>∃t,h.get? x=some (pX C d t)
section
variable{P:VO}{w:World}{H:Hp}{h:Heap}{x C d t:Addr}
theorem HX(e:h.get? x=some (dI C t)):bp P w H h x (XN x C):=⟨⟨t,e⟩,⟨_,e⟩,λc d ⟨a,b⟩ k=>⟨a,k _ b⟩⟩
theorem MQ(e:h.get? x=some (pX C d t)):bp P w H h x (XD x C d):=⟨⟨t,e⟩,⟨_,e⟩,λc f ⟨a,b⟩ k=>⟨a,k _ b⟩⟩
end
theorem HY(h:H x=some o):upd H x o=H:=by grind [upd]
noncomputable def del(H:Hp)(x:Addr):Hp:=λb=>if b=x then none else H b
theorem fy:del H x x=none:=if_pos rfl
theorem gi(h:b≠x):del H x b=H b:=if_neg h
theorem A7(h:H x=none):del (upd H x o) x=H:=by grind [fy,gi,aa]
theorem yF(h:d≠x):del (upd H d o) x=upd (del H x) d o:=by
 funext b
 by_cases e:b=x
 ·subst e;rw[fy,aa (WQ h),fy]
 ·rw[gi e]
  by_cases a:b=d
  ·subst a;rw[a7,a7]
  ·rw[aa a,aa a,gi e]
theorem vp:del (upd H x o) x=del H x:=by grind [fy,gi,aa]
section
variable{X:Cx}{pins:List (Addr×Obj)}{σ:St}{H:Hp}{s:Shared}{x:Addr}{φ:Heap->Prop}
theorem Inv.del(I:Inv X pins σ H s)(g:H x=some (.ext φ)):Inv X pins σ (L2.del H x) s:=by
 have ne:∀{b:Addr} {o:HO},H b=some o->(∀ψ,o≠.ext ψ)->b≠x:=λe n z=>by rw[z,g]at e;exact n φ (VC e).symm
 have nn:∀{b:Addr},H b=none->L2.del H x b=none:=λ{b} e=>by
  by_cases z:b=x
  ·rw[z];exact fy
  ·rw[gi z];exact e
 have u:=I.base;refine⟨I.ok,I.os,I.bare,⟨u.keep,u.slot,λb o q n d=>nn (u.free b o q n d),u.there,λb f q=>?_,λb o v q=>?_,λb ps q=>?_⟩,I.loc,I.cell,nn I.free,λy c e=>nn (I.fZ y c e),λp h=>?_,λa o e=>?_,I.len⟩
 ·have e:=u.jy b f q;rw[gi (ne e λψ z=>by cases z)];exact e
 ·have e:=u.iA b o v q;rw[gi (ne e λψ z=>by cases z)];exact e
 ·obtain⟨m,e⟩:=u.jz b ps q;exact⟨m,by rw[gi (ne e λψ z=>by cases z)];exact e⟩
 ·obtain⟨a1,a2,a3⟩:=I.pin p h;exact⟨a1,nn a2,a3⟩
 ·have i:H a=some o:=by
   by_cases z:a=x
   ·rw[z,fy]at e;cases e
   ·rw[gi z]at e;exact e
  refine(I.aS a o i).nO (λb u _ q=>q) (λb q=>?_) λb f q=>?_
  ·rw[gi (ne q λψ z=>by cases z)];exact q
  ·rw[gi (ne q λψ z=>by cases z)];exact q
end
def HZ(K:Vo)(CB:Addr)(t:TA):TE:=λσ H Q=>t σ H λvs H1=>∃x C nm m,vs=[.ref x,m]/\H1 x=some (XN x C)/\bJ K C CB nm/\Q .non H1
section
variable{X:Cx}{CB C f:Addr}{p pos apos gb:Pos}{e e2:Expr}{es:List Expr}{t:TA}{B8 name:Str}{ta tv:TE}{o value:Expr}{pos':Pos}
theorem D9(J:Gl X B8)(T:X.mg B8=some (.ref CB))(B:D8 X.K CB)(ha:PA X [e,e2] t)(g:(B8 == ("__debug__":Str))=false:=by decide)
 (he:starEach [e,e2] X.env=(false,eval e X.env) :: starEach [e2] X.env:=by rfl) (j:(backTo pos (starEach [e2] X.env)).any (·.1)=false:=by rfl)
 (l:eval (.Call (.Attribute (.Name B8 p) "__init__" apos) [e,e2] [] pos) X.env=(do
   let r <-eval (.Name B8 p) X.env
   standAt apos.atName
   let (f,first) <-holding [r] (waV r "__init__" pl)
   callWith pos f first (backTo pos (starEach [e,e2] X.env)) (backToKw pos (Zg [] X.env))):=by rfl) :
 PE X (.Call (.Attribute (.Name B8 p) "__init__" apos) [e,e2] [] pos) (HZ X.K CB t):=by
 intro a s σ H Q I h;refine Zz (pl:=pl) (gG I J T ?_ g) l;refine PySem.W.method_cls I.fS B.sp (PySem.W.cls_value I.fS B.rd B.fc rfl ?_);refine ZL (bL (ha pos a _ σ H _ (I.tok _) h) λF i n=>?_) he j;obtain⟨G,v,c,w,x,C,L,m,y,d,U,q⟩:=n;subst y;obtain⟨M,O,rfl,A,P⟩:=vals2 w;cases A;obtain⟨⟨t,l⟩,_⟩:=c.aS x _ d;obtain⟨R,N,bs,S,sub,ab,D,V,Y,Z,k2,k3,k5,lk⟩:=U.lk;refine yE c.fS l lk λh' t' k ex=>⟨.non,v,?_,rfl,q⟩;have:=c.write (x:=x) (e:=x) (o:=XN x C) (h':=h') (t':=i.toks) (by rw[d];exact X0) (.inl rfl) (λb u E z=>k b u E z) ⟨_,ex⟩ (HX ex);rw[HY d]at this;exact this
def Kj(K:Vo)(CB:Addr)(ta tv:TE)(name:Str):TS:=λD σ H=>tv σ H λy H1=>ta σ H1 λz H2=>∃x C nm,z=.ref x/\H2 x=some (XN x C)/\bJ K C CB nm/\findIn K (.ref C) name=some none /\
 ∀d,H2 d=none->D.nx σ (upd (upd H2 d (.xd [(name,y)])) x (XD x C d))
theorem Fz(ha:PE X o ta)(J:PE X value tv)(hs:Xo value (some (.Attribute o name pos')) pos.line X.env=pure false):PS X (.Assign [.Attribute o name pos'] value pos) (Kj X.K CB ta tv name):=by
 intro g s σ H D I h;refine Yj (bL (J g s σ H _ I h) λu L ⟨y,M,O,P,q⟩=>bL (ha g L σ M _ O q) λQ F R=>?_) hs;obtain⟨z,m,i,S,x,C,T,V,l,U,hn,W⟩:=R;subst V;obtain rfl:Q=VH x:=S;obtain⟨⟨t,Y⟩,_⟩:=i.aS x _ l;obtain⟨Z,N,bs,sn,sub,ab,r,dd,k0,k1,k2,k3,k5,lk⟩:=U.lk;refine D5 (CB:=CB) i.fS Y (cd:={name:=T,bases:=bs,mro:=.ref C :: pJ CB,ns:=N,qualname:=Z,hasDict:=true,slotNames:=sn,subclasses:=sub,abstract:=ab,collection:=r,hasDel:=false}) (by unfold clsIn;rw[lk]) rfl rfl hn U.sa λA d tk hd k ex ns=>⟨σ,_,?_,W d (i.aS.fresh hd)⟩;have P9:d≠x:=λz=>by rw[z]at hd;exact absurd (VI (i.aS.lt l) hd) (WK _)
 have c:=i.aS.fresh hd
 have un:Un (pG X.stack) [] m (upd (upd m d (.xd [(name,y)])) x (XD x C d)) F.heap A:=by
  have nx:∀{b:Addr} {o:HO},m b=some o->(∀ψ,o≠.ext ψ)->b≠x:=λe n z=>by rw[z,l]at e;exact n _ (VC e).symm
  have B:∀{b:Addr},m b=none->b≠x:=λe z=>by rw[z,l]at e;cases e
  refine⟨λb o q n _ _=>k b o (B n) q,λb o q n _ _=>⟨o.slots,k b o (B n) q⟩,λb o q n _=>?_,λb o q _=>?_,λb vs q=>?_,λb o v q=>?_,λb ps q=>?_⟩
  ·rw[aa (B n),aa (λz=>by rw[z]at q;exact absurd (VI (VA q) hd) (WK _))];exact n
  ·by_cases z:b=x
   ·rw[z];exact⟨_,ex⟩
   ·exact⟨o,k b o z q⟩
  ·rw[aa (nx q λψ z=>by cases z),aa (ae q c)];exact q
  ·rw[aa (nx q λψ z=>by cases z),aa (ae q c)];exact q
  ·exact⟨#[],by rw[aa (nx q λψ z=>by cases z),aa (ae q c),q];simp⟩
 have aS:iz X.prog X.w (upd (upd m d (.xd [(name,y)])) x (XD x C d)) A:=λa o e=>by
  by_cases z:a=x
  ·subst z;rw[a7]at e;cases e;exact MQ ex
  ·rw[aa z]at e
   by_cases G:a=d
   ·subst G;rw[a7]at e;cases e;refine⟨_,ns,λf=>?_⟩
    by_cases p:f=name
    ·have j:(f == name)=true:=beq_iff_eq.mpr p;simp only[wcg,j,if_pos p];exact P
    ·have j:(f == name)=false:=beq_eq_false_iff_ne.mpr p;simp only[wcg,j,if_neg p]
     trivial
   ·rw[aa G]at e;refine(i.aS a o e).nO (λb u j q=>k b u ?_ q) (λb q=>?_) λb vs q=>?_
    ·rintro rfl;rcases j with rfl |j
     ·exact z rfl
     ·rw[l]at j;cases j
    ·have:b≠x:=λE=>by rw[E,l]at q;cases q
     rw[aa this,aa (ae q c)];exact q
    ·have:b≠x:=λE=>by rw[E,l]at q;cases q
     rw[aa this,aa (ae q c)];exact q
 exact i.tG (s':={F with heap:=A,toks:=tk}) rfl un aS i.bare λb z=>absurd z (by simp)
end
end L2
namespace L2
open PySem PySem.Spec PyProof.Rows
open PySem.W (Looks looks_findIn looks_typeIn InitBack bind_fn findIn clsIn specialIn readsIn findCls keepIn isFn typeIn InstAt)
def Ia(K:Vo)(C:Addr)(sp:Sp)(E:XK)(t:TA):TS:=λ_ σ H=>t σ H λvs H1=>vs.length<=sizeLine/\∀x,H1 x=none ->
 sp (.ref x :: vs) (upd H1 x (XN x C)) (λv H2=>v=.non/\((H2 x=some (XN x C)/\E (.ref C) none (del H2 x))\/∃d,H2 x=some (XD x C d)/\E (.ref C) (some d) (del H2 x))) E0
def FA(C:Addr)(E:XK)(t:TA):TS:=λ_ σ H=>t σ H λvs H1=>vs.length=1/\E (.ref C) none H1
section
variable{X:Cx}{CB C f:Addr}{fd:VB}{ps:List Str}{sp:Sp}{E:XK}{k:Nat}{p pos gb:Pos}{e:Expr}{es:List Expr}{t:TA}{x nm:Str}
theorem Inv.newExc(I:Inv X g σ H s)(us:List Value)(C:Addr) :
 Inv X g σ (upd H (s.heap.objs.size + 1) (XN (s.heap.objs.size + 1) C)) {s with heap:=(s.heap.push (nY us)).push (dI C s.heap.objs.size)}:=by
 have c:=I.kept (h':=s.heap.push (nY us)) (t':=s.toks) λb u q=>Vv _ q;refine c.laid (a:=s.heap.objs.size + 1) (t':=s.toks) (λb u q=>Vv _ q) (ZK (Xb _ _)) (HX (t:=s.heap.objs.size) ?_);have:=VX (s.heap.push (nY us)) (o:=dI C s.heap.objs.size) rfl;rwa[Xb]at this
theorem Dc(hT:A6 X E)(hc:X.calm=true)(U:bJ X.K C CB nm)(hi:findIn X.K (.ref C) "__init__"=some (some (.ref f)))(J:isFn X.K (.ref f)=true)
 (F:aK X.prog X.w X.K X.mg X.base dn k f fd ps sp) (hr:cJ (k + 1) X.A) (hb:Binds X.K fd ps []) (hg:Gl X x) (hm:X.mg x=some (.ref C)) (ha:PA X (e :: es) t)
 (T:(x == ("__debug__":Str))=false:=by decide) (he:starEach (e :: es) X.env=(false,eval e X.env) :: starEach es X.env:=by rfl) (Jp:(backTo gb (starEach es X.env)).any (·.1)=false:=by rfl) :
 PS X (.Raise (some (.Call (.Name x p) (e :: es) [] gb)) none pos) (Ia X.K C sp E t):=by
 intro a s σ H D I h;obtain⟨Y,N,bs,sn,sub,ab,col,dd,k0,k1,k2,k3,k5,lk⟩:=U.lk;refine oR (C:=C) (CB:=CB) (nm:=nm) (q:=Y) (N:=N) (bs:=bs) (hdct:=true) (sn:=sn) (sub:=sub) (ab:=ab) (col:=col) (dd:=dd) (k0:=k0) (k1:=k1) (k2:=k2) (k3:=k3) (k5:=k5) (I.ok.hd hc) ?_;refine X3 (gG I hg hm ?_ T);refine XU (h₀:=X.base) I.ok.mod.Gz U.kp (bL (ha gb a s σ H _ I h) λc i ⟨Z,H1,j,r,m,q⟩=>⟨j.fS,?_⟩) he Jp;have B:=j.aS.fresh (Ye i.heap.objs.size);have P:=q (i.heap.objs.size + 1) B;have G:=Inv.newExc j c C;have Q:Vals (V.ref (i.heap.objs.size + 1) :: Z) (VH (i.heap.objs.size + 1) :: c):=.cons rfl r
 have hl:(VH (i.heap.objs.size + 1) :: c++[]).length=ps.length:=by
  have R:=Q.length;rw[F.len _ _ _ _ P]at R;rw[Wr];exact R.symm
 have n:=hb _ (VH (i.heap.objs.size + 1) :: c) G.fS hl;rw[Wr]at n;obtain⟨L,g,dr,tk,os⟩:=i;refine XO (wR (j.fS _ _ lk) (Za j.fS hi) (λself=>bind_fn j.fS self (beq_iff_eq.mp J)) (by show c.length<=sizeLine;rw[<-r.length];exact m) ?_);refine Xg (F.run _ X.stack _ _ ⟨VH (L.objs.size + 1) :: c,[]⟩ (VH (L.objs.size + 1) :: c) _ _ E0 (hr.make C c []) (G.F5.make C c []) n Q P) λrr S b=>?_
 cases rr with
 |error e=>exact Wk b
 |ok fl=>
  cases fl with
  |next=>exact Wk b
  |brk=>exact Wk b
  |cont=>exact Wk b
  |ret u=>
   obtain⟨v,H',l,rv,ev,q3⟩:=G.after b;subst ev;refine⟨rv,?_⟩;have o:X.s₀.heap.objs.size<=L.objs.size + 1:=VF j.sz (Ye _);rcases q3 with⟨y,M⟩ |⟨d,y,M⟩
   ·obtain⟨⟨O,z⟩,_⟩:=l.aS _ _ y;exact⟨_,none,O,rfl,l.fS _ _ lk,z,hT a σ _ S _ C none (l.del y) ⟨o,fy,_,_,z,by show 1 < 6;decide,.inl rfl⟩ M⟩
   ·obtain⟨⟨O,z⟩,_⟩:=l.aS _ _ y;exact⟨_,some d,O,rfl,l.fS _ _ lk,z,hT a σ _ S _ C (some d) (l.del y) ⟨o,fy,_,_,z,by show 1 < 6;decide,.inl rfl⟩ M⟩
theorem dQ(T:A6 X E)(hc:X.calm=true)(U:bJ X.K C CB nm)(hi:findIn X.K (.ref C) "__init__"=some (some (.builtin "ValueError.__init__")))(hg:Gl X x)(hm:X.mg x=some (.ref C))(ha:PA X (e :: es) t)
 (l:(x == ("__debug__":Str))=false:=by decide) (he:starEach (e :: es) X.env=(false,eval e X.env) :: starEach es X.env:=by rfl) (J:(backTo gb (starEach es X.env)).any (·.1)=false:=by rfl) :
 PS X (.Raise (some (.Call (.Name x p) (e :: es) [] gb)) none pos) (FA C E t):=by
 intro a s σ H D I h;obtain⟨y,N,bs,sn,sub,ab,col,dd,k0,k1,k2,k3,k5,lk⟩:=U.lk;refine oR (C:=C) (CB:=CB) (nm:=nm) (q:=y) (N:=N) (bs:=bs) (hdct:=true) (sn:=sn) (sub:=sub) (ab:=ab) (col:=col) (dd:=dd) (k0:=k0) (k1:=k1) (k2:=k2) (k3:=k3) (k5:=k5) (I.ok.hd hc) ?_;refine X3 (gG I hg hm ?_ l);refine XU (h₀:=X.base) I.ok.mod.Gz U.kp (bL (ha gb a s σ H _ I h) λA c ⟨P,B,d,r,f,q⟩=>⟨d.fS,?_⟩) he J
 obtain⟨u,rfl⟩:∃u,A=[u]:=by
  have:=r.length;rw[f]at this;exact List.length_eq_one_iff.mp this.symm
 have m:=Inv.newExc d [u] C;have i:(upd B (c.heap.objs.size + 1) (XN (c.heap.objs.size + 1) C)) (c.heap.objs.size + 1)=some (XN (c.heap.objs.size + 1) C):=a7;have j:=d.aS.fresh (Ye c.heap.objs.size);obtain⟨k,g,Q,G,os⟩:=c;refine XO (wR (d.fS _ _ lk) (Za d.fS hi) (λself=>Looks.of_pure (Xj.init.bind self)) (by show 1<=sizeLine;decide) ?_);obtain⟨⟨R,L⟩,_⟩:=m.aS _ _ i;refine qF m.fS L lk λh' t' M ex=>⟨rfl,?_⟩;have w:=m.write (x:=k.objs.size + 1) (e:=k.objs.size + 1) (o:=XN (k.objs.size + 1) C) (h':=h') (t':=G) (by rw[i];exact X0) (.inl rfl) (λb u O z=>M b u O z) ⟨_,ex⟩ (HX ex);rw[zK]at w;have n:=w.del (x:=k.objs.size + 1) a7;rw[A7 j]at n;have v:X.s₀.heap.objs.size<=k.objs.size + 1:=VF d.sz (Ye _);exact⟨_,none,t',rfl,n.fS _ _ lk,ex,T a σ _ _ _ C none n ⟨v,j,_,_,ex,by show 1 < 6;decide,.inl rfl⟩ q⟩
end
end L2
namespace L2
open PySem PySem.Spec PyProof.Rows
noncomputable abbrev TJ:=Str->St->Hp->(Str->Hp->Prop)->Prop
def PJ(X:Cx)(es:List Expr)(t:TJ):Prop:=∀(pins:List (Addr×Obj)) (s:Shared) (σ:St) (H:Hp) (acc:Str) (Q:Str->Hp->Prop),Inv X pins σ H s->t acc σ H Q ->
 wpAny (model X.prog X.w) X.A (joinParts acc (evalEach es X.env)) (λu s'=>∃z H',Inv X pins σ H' s'/\(∃tk,u=.str z tk)/\Q z H') X.xe s
section
variable{X:Cx}{e:Expr}{es:List Expr}{te:TE}{t:TJ}{pos:Pos}
noncomputable def MR:TJ:=λacc _ H Q=>acc.length<=sizeLine/\Q acc H
theorem Ib:PJ X [] MR:=λb s σ H a Q I h=>joinParts_nil ⟨a,H,I.tok _,⟨_,rfl⟩,h.2⟩ h.1
noncomputable def MS(z:Str)(t:TJ):TJ:=λacc σ H Q=>(acc++z).length<=sizeLine/\t (acc++z) σ H Q
theorem yG(h:PJ X es t):PJ X (.Constant (.str z) j pos :: es) (MS z t):=λa s σ H b Q I q=>
 joinParts_cons (wbU ⟨q.1,h a _ σ H _ Q (I.tok _) q.2⟩)
noncomputable def MT(te:TE)(t:TJ):TJ:=λacc σ H Q=>te σ H λv H1=>(∃i,v=.int i/\i.natAbs.log2 < 1920/\(acc++(toString i:String)).length<=sizeLine/\t (acc++(toString i:String)) σ H1 Q)\/(∃z,v=.str z/\z.length<=sizeLine/\(acc++z).length<=sizeLine/\t (acc++z) σ H1 Q)
theorem Dd(j:PE X e te)(h:PJ X es t):PJ X (.FormattedValue e (-1) none pos :: es) (MT te t):=λa s σ H k Q I q=>by
 refine joinParts_cons (FormattedValue_plain (bL (j a s σ H _ I q) λv o ⟨y,d,f,g,l⟩=>?_));rcases l with⟨i,rfl,hl,b,c⟩ |⟨z,rfl,hl,b,c⟩
 ·obtain⟨m,rfl⟩:=g;exact formatField_int_small hl ⟨b,h a _ σ d _ Q (f.tok _) c⟩
 ·obtain⟨m,rfl⟩:=g;exact formatField_str (λp n=>⟨b,h a _ σ d _ Q (f.tok _) c⟩) hl
theorem FC(h:PJ X (e :: g :: es) t):PE X (.JoinedStr (e :: g :: es) pos) (λσ H Q=>t wcL σ H λz j=>Q (.str z) j):=λa s σ H Q I q=>
 JoinedStr_many (bL (h a s σ H _ _ I q) λu f ⟨z,b,c,r,d⟩=>⟨.str z,b,c,r,d⟩)
end
noncomputable abbrev LI:=XK->TE
noncomputable abbrev GP:=(St->XK)->TS
def MU(X:Cx)(pins:List (Addr×Obj))(σ:St)(E:XK)(ev:Value)(s':Shared):Prop:=∃H0 s0,Inv X pins σ H0 s0/\wj X.prog X.w X.stack H0 s0 E ev s'
def Pa(X:Cx)(pins:List (Addr×Obj))(E:St->XK)(ev:Value)(s':Shared):Prop:=∃σ,MU X pins σ (E σ) ev s'
def Pb(X:Cx)(e:Expr)(t:LI):Prop:=∀(pins:List (Addr×Obj)) (s:Shared) (σ:St) (H:Hp) (Q:VK) (E:XK),Inv X pins σ H s->t E σ H Q->wpAny (model X.prog X.w) X.A (eval e X.env) (EP X pins σ Q) (MU X pins σ E) s
def Pg(X:Cx)(st:Stmt)(t:GP):Prop:=∀(pins:List (Addr×Obj)) (s:Shared) (σ:St) (H:Hp) (D:Ends) (E:St->XK),Inv X pins σ H s->t E D σ H->wpAny (model X.prog X.w) X.A (exec st X.env) (SP X pins D) (Pa X pins E) s
def Kk(X:Cx)(st:List Stmt)(t:GP):Prop:=∀(pins:List (Addr×Obj)) (s:Shared) (σ:St) (H:Hp) (D:Ends) (E:St->XK),Inv X pins σ H s->t E D σ H->wpAny (model X.prog X.w) X.A (execs st X.env) (SP X pins D) (Pa X pins E) s
section
variable{X:Cx}{k:Nat}{f C:Addr}{fd:VB}{ps:List Str}{sp:Sp}{x m:Str}{p pos apos:Pos}{e o:Expr}{es:List Expr}{ta:TE}{t:TA}{st:Stmt}{rest:List Stmt}
theorem Kl{α:Type}{M:Model}{A:Around}{m:Sem α}{Q:α->Shared->Prop}{E:Value->Shared->Prop}{s:Shared}(h:wpAny M A m Q (λ_ _=>False) s):wpAny M A m Q E s:=Wl h (λ_ _ x=>x) λ_ _ z=>z.elim
theorem AP.eh{E:Value->Shared->Prop}{Q:List V->Hp->Prop}(h:AP (X.lJ E) g σ Q us s'):AP X g σ Q us s':=by
 obtain⟨a,b,I,r,q⟩:=h;exact⟨a,b,I.eh,r,q⟩
theorem FD(F:aK X.prog X.w X.K X.mg X.base (wj X.prog X.w) k f fd ps sp)(j:cJ k X.A)(l:Binds X.K fd ps [])
 (I:Inv X g σ H s) (r:Vals vs us) (h:sp vs H Q E):wpAny (model X.prog X.w) X.A (call (.ref f) us) (EP X g σ Q) (MU X g σ E) s:=by
 have hl:(us++[]).length=ps.length:=by rw[Wr,<-r.length];exact F.len _ _ _ _ h
 have a:=l s us I.fS hl;rw[Wr]at a;refine XO (Xg (F.run X.A X.stack s H ⟨us,[]⟩ us vs Q E j I.F5 a r h) λr c b=>?_)
 cases r with
 |error e=>exact⟨H,s,I,b⟩
 |ok fl=>
  cases fl with
  |ret u=>exact I.after b
  |next=>exact Wk b
  |brk=>exact Wk b
  |cont=>exact Wk b
noncomputable def Ic(sp:Sp)(t:TA):LI:=λE σ H Q=>t σ H λvs H1=>sp vs H1 Q E
theorem De(F:aK X.prog X.w X.K X.mg X.base (wj X.prog X.w) k f fd ps sp)(l:cJ k X.A)(J:Gl X x)(T:X.mg x=some (.ref f))(U:XJ X.K (.ref f)=true)(hb:Binds X.K fd ps [])
 (ha:PA X.Ci (e :: es) t) (g:(x == ("__debug__":Str))=false:=by decide) (he:starEach (e :: es) X.env=(false,eval e X.env) :: starEach es X.env:=by rfl) (j:(backTo pos (starEach es X.env)).any (·.1)=false:=by rfl) :
 Pb X (.Call (.Name x p) (e :: es) [] pos) (Ic sp t):=by
 intro a s σ H Q E I h;refine X3 (gG I J T ?_ g);refine XU (h₀:=X.base) I.ok.mod.Gz U (Kl (bL (ha pos a s σ H _ (I.lJ _) h) λd i c=>?_)) he j;obtain⟨m,n,b,r,q⟩:=c.eh;exact⟨b.fS,Wl (FD F l hb b r q) (λ_ _ z=>z) λ_ _ z=>z⟩
variable{te:LI}{i:Nat}{pos':Pos}{tx ty:GP}{tc:TT}{c:Expr}{a b:List Stmt}{ts:TS}
noncomputable def Km(te:LI):GP:=λE D σ H=>te (E σ) σ H λ_ H1=>D.nx σ H1
theorem Df(g:Pb X e te)(hs:Xo e none pos.line X.env=pure false:=by rfl):Pg X (.Expr e pos) (Km te):=by
 intro a s σ H D E I h;exact wpAny_Expr_any (Wl (g a s σ H _ (E σ) I h) (λv b ⟨x,c,d,i,f⟩=>⟨σ,c,d,f⟩) λj b z=>⟨σ,z⟩) I.quiet hs
theorem Dg(g:Pg X st tx):Kk X [st] tx:=by
 intro a s σ H D E I h;refine Zo (Wl (g a s σ H D E I h) (λf b q=>?_) λ_ _ z=>z)
 cases f with
 |next=>exact XY q
 |ret v=>exact q
 |brk=>exact q
 |cont=>exact q
end
section
variable{M:Model}{A:Around}{E:Value->Shared->Prop}{s:Shared}{e C CB:Addr}{od:Option Addr}{lo:Nat}{H:Hp}
theorem yH{Q:Unit->Shared->Prop}(F:ED lo H s.heap e C od)(h:∀h',ED lo H h' e C od->(∀b o,s.heap.get? b=some o->(b < lo\/H b≠none)->h'.get? b=some o)->Q () {s with heap:=h'}) :
 wpAny M A (wb2 (.ref e) none) Q E s:=by
 obtain⟨g,i,p,sl,n,j,f⟩:=F;unfold wb2;rcases f with f |⟨T,v,u,r,a,k,l,t,d,f⟩
 ·refine Vr (Zh n rfl f ?_);rw[if_neg (by decide)];exact VW (h _ ⟨g,i,p,sl,n,j,.inl f⟩ λb o q _=>q)
 ·have c:3 < u.size:=(waj.mp f).1;refine Vr (Zh n rfl r ?_);rw[if_pos (show (VH T != WZ)=true from by simp)];refine wa6 t d c (h _ ⟨g,i,p,sl,?_,j,.inr ⟨T,_,_,r,a,k,l,Xp _ t (ZB (Yw d _)),Yw d _,by simp[c]⟩⟩ λb o q m=>?_)
  ·exact(Wz _ _ l).trans n
  ·refine(Wz _ _ ?_).trans q;rintro rfl;rcases m with m |m
   ·exact absurd (VI m a) (WK _)
   ·exact m k
variable{nm q B8 qB:Str}{N NB:Addr}{bs RB:List Value}{hdct RC:Bool}{sn RD:List Str}{sub subB:List Value}{ab RE:Bool}{col MV:Option Bool}{dd RF:Option Addr}{k0 k1 k2 k3 k5 l0 l1 l2 l3 l5:Option Value}
theorem Ie{h:Heap}{g:Array YY}{d:Drawn}{t:Nat}{os:Xa}{l:Obj}{Q:Bool->Shared->Prop}(o:h.get? C=some (WX nm q C N bs (pJ CB) hdct sn sub ab col dd k0 k1 k2 k3 k5 "ValueError.__new__"))
 (p:h.get? CB=some (WX B8 qB CB NB RB Jn RC RD subB RE MV RF l0 l1 l2 l3 l5 "ValueError.__new__")) (r:h.get? e=some l) (j:l.cls=.ref C) (I:Q true ⟨h,g,d,t,os⟩) :
 wpAny M A (excMatches (.ref e) (.ref CB)) Q E ⟨h,g,d,t,os⟩:=by
 have a:(VH CB :: Jn).contains (.type "BaseException")=true:=rfl;have b:(VH C :: pJ CB).contains (.ref CB)=true:=by grind
 have f:=tc_notTuple;unfold excMatches
 repeat (first |(with_reducible refine WW r ?_;rw[j]) |with_reducible refine WW o ?_ |with_reducible refine WW p ?_ |(with_reducible refine XH o ?_;rw[b]) |(with_reducible refine XH p ?_;rw[a]) |wp_step)
 exact I
end
noncomputable abbrev Cx.marked(X:Cx)(e:Addr):Cx:={X with A:=X.A.mark (some (.ref e)),calm:=false}
section
variable{X:Cx}{pins:List (Addr×Obj)}{σ:St}{H:Hp}{s:Shared}{e:Addr}
theorem Cx.Ok.marked(ok:X.Ok):(X.marked e).Ok:=
 ⟨ok.mod,ok.kind,ok.glob,ok.blt,ok.above,ok.inj,ok.has,ok.Hu,λz=>Bool.noConfusion z,ok.frames,ok.Jh,ok.Lj,ok.bs,ok.C9,ok.y3,ok.Aw,ok.lI,ok.EA⟩
theorem Inv.marked(I:Inv X pins σ H s):Inv (X.marked e) pins σ H s:=⟨I.ok.marked,I.os,I.bare,I.base,I.loc,I.cell,I.free,I.fZ,I.pin,I.aS,I.len⟩
theorem Inv.unmarked(ok:X.Ok)(I:Inv (X.marked e) pins σ H s):Inv X pins σ H s:=⟨ok,I.os,I.bare,I.base,I.loc,I.cell,I.free,I.fZ,I.pin,I.aS,I.len⟩
theorem Inv.Dh{l g:Hp}{j s1:Shared}{h':Heap}(I:Inv X pins σ l j)(r:s1.os=j.os)(bare:AllBare s1.gens)(un:Un (pG X.stack) [] l g j.heap s1.heap)(aS:iz X.prog X.w g s1.heap)
 (p:D6 j.heap.objs.size g (pG X.stack) s1.heap h') (C:∀b∈pG X.stack,g b=none):Un (pG X.stack) [] l g j.heap h'/\iz X.prog X.w g h'/\∀tk,Inv X pins σ g {s1 with heap:=h',toks:=tk}:=by
 have e:Un (pG X.stack) [] l g j.heap h':=by
  refine⟨λb o d n a f=>p.keep b o (un.keep b o d n a f) (.inl (VA d)) a,λb o d n a f=>?_,un.free,λb o d f=>?_,un.jy,un.iA,un.jz⟩
  ·obtain⟨sl,h⟩:=un.slot b o d n a f;obtain⟨i,k⟩:=p.slot b _ h a;exact⟨i,k⟩
  ·obtain⟨m,h⟩:=un.there b o d f
   by_cases q:b∈pG X.stack
   ·obtain⟨sl,k⟩:=p.slot b m h q;exact⟨_,k⟩
   ·exact⟨m,p.keep b m h (.inl (VA d)) q⟩
 have c:=aS.past p C;exact⟨e,c,λtk=>I.tG (s':={s1 with heap:=h',toks:=tk}) r e c bare λb z=>absurd z (by simp)⟩
noncomputable def XC(x C:Addr)(od:Option Addr):HO:=.ext λh=>∃vs sl,h.get? x=some ⟨.ref C,od,.fields vs,sl⟩
theorem MX(e:h.get? x=some ⟨.ref C,od,.fields vs,sl⟩):bp P w H h x (XC x C od):=
 ⟨⟨vs,sl,e⟩,⟨_,e⟩,λd f ⟨a,b,c⟩ k=>⟨a,b,k _ c⟩⟩
theorem Inv.Kn{φ:Heap->Prop}(I:Inv X pins σ H s)(hn:H x=none)(g:X.s₀.heap.objs.size<=x)(hl:x≠X.env.locals)(hc:∀y c,X.env.cells.lookup y=some c->c≠x)(j:∀p∈X.pn++pins,p.1≠x)(ok:bp X.prog X.w (upd H x (.ext φ)) s.heap x (.ext φ)) :
 Inv X pins σ (upd H x (.ext φ)) s:=by
 have u:=I.base;refine⟨I.ok,I.os,I.bare,⟨u.keep,u.slot,λb o q n h=>?_,u.there,λb f q=>?_,λb o v q=>?_,λb ps q=>?_⟩,I.loc,I.cell,by rw[aa (WQ hl)];exact I.free,λy c e=>by rw[aa (hc y c e)];exact I.fZ y c e,λp d=>?_,λa o e=>?_,I.len⟩
 ·rw[aa (λz=>by rw[z]at q;exact absurd (VI (VA q) g) (WK _))];exact u.free b o q n h
 ·have e:=u.jy b f q;rw[aa (ae e hn)];exact e
 ·have e:=u.iA b o v q;rw[aa (ae e hn)];exact e
 ·obtain⟨m,e⟩:=u.jz b ps q;exact⟨m,by rw[aa (ae e hn)];exact e⟩
 ·obtain⟨a1,a2,a3⟩:=I.pin p d;exact⟨a1,by rw[aa (j p d)];exact a2,a3⟩
 ·by_cases z:a=x
  ·subst z;rw[a7]at e;cases e;exact ok
  ·rw[aa z]at e;refine(I.aS a o e).nO (λb u _ q=>q) (λb q=>?_) λb f q=>?_
   ·rw[aa (ae q hn)];exact q
   ·rw[aa (ae q hn)];exact q
theorem Inv.Di{m:Str->Option Value}(I:Inv X pins σ H s)(J:X.N.Nodup)(C:X.N[j]?=some n)(U:X.env.scope.names.lookup n=some .local)
 (T:∃m,s.heap.Ns X.env.locals m/\(∀(i:Nat) (x:Str) (v:V),X.N[i]?=some x->σ[i]?=some (some v)->Jg X.env.scope x->∃u,RelV v u/\Look X.env s.heap m x u)/\h'.Ns X.env.locals (λx=>if x=n then v else m x))
 (hs:ZF X.env.locals s.heap h'):Inv X pins (σ.set j none) H {s with heap:=h',toks:=tk}:=by
 obtain⟨m,hn,hl,r⟩:=T;have Ce:=I.Ce;obtain⟨M,_,_,A,_⟩:=id hn;refine⟨I.ok,I.os,I.bare,⟨λb o e n t h=>?_,λb o e n t h=>?_,I.base.free,λb o e h=>?_,I.base.jy,I.base.iA,I.base.jz⟩,⟨_,r,λi y B g l D=>?_⟩,λy c e=>?_,I.free,I.fZ,λp E=>?_,λb ob e=>?_,by simpa using I.len⟩
 ·exact(hs.2 b (VM (VI (VA e) I.ok.above))).trans (I.base.keep b o e n t h)
 ·obtain⟨sl,g⟩:=I.base.slot b o e n t h;exact⟨sl,(hs.2 b (VM (VI (VA e) I.ok.above))).trans g⟩
 ·obtain⟨F,g⟩:=I.base.there b o e h;exact⟨F,(hs.2 b (VM (VI (VA e) I.ok.above))).trans g⟩
 ·by_cases f:i=j
  ·subst f;have:i < σ.length:=by rw[I.len];exact(Vu.mp C).1
   rw[Xf this]at l;cases l
  ·rw[Xu (WQ f)]at l;obtain⟨G,K,q⟩:=hl i y B g l D;refine⟨G,K,?_⟩;rcases q with⟨k,e⟩ |⟨k,c,e,z⟩
   ·refine .inl ⟨k,?_⟩;have:y≠n:=λe=>f (qa J g (e ▸ C));simp[this,e]
   ·exact .inr ⟨k,c,e,z.sameBut hs (Ce y c e)⟩
 ·obtain⟨w,z⟩:=I.cell y c e;exact⟨w,z.sameBut hs (Ce y c e)⟩
 ·obtain⟨e,n,ne,L,d⟩:=I.pin p E;exact⟨(hs.2 p.1 ne).trans e,n,ne,L,d⟩
 ·refine(I.aS b ob e).nO (λc w hc q=>(hs.2 c ?_).trans q) (λ_ q=>q) λ_ _ q=>q;rintro rfl;have a:=I.free;rcases hc with rfl |hc
  ·rw[a]at e;cases e
  ·rw[a]at hc;cases hc
end
structure wU(K:Vo)(CB:Addr)(nm:Str):Prop where
 lk:∃(q:Str) (N:Addr) (bs:List Value) (hd:Bool) (sn:List Str) (sub:List Value) (ab:Bool) (col:Option Bool) (dd:Option Addr) (k0 k1 k2 k3 k5:Option Value),
  K.lookup CB=some (WX nm q CB N bs Jn hd sn sub ab col dd k0 k1 k2 k3 k5 "ValueError.__new__")
def MY(K:Vo)(CB:Addr)(tb:GP)(j i:Nat):TS:=λD σ H=>tb (λσ' cv od H'=>∃C nm,cv=.ref C/\bJ K C CB nm/\∀e,H' e=none->D.nx (((σ'.set j (some (.ref e))).set i (some (.ref e))).set j none) (upd H' e (XC e C od))) D σ H
section
variable{X:Cx}{CB:Addr}{B8 n x Ig:Str}{body:List Stmt}{tb:GP}{i j:Nat}{p1 p2 p3 p4 Ih pos:Pos}
theorem Ii(r:X.stack=X.env :: X.outer/\X.env.frame=some X.env.locals)(l:Kk X body tb)(hg:Gl X B8)(hm:X.mg B8=some (.ref CB))(TB:wU X.K CB Ig)(T:X.N.Nodup)(J:X.N[j]?=some n)(hi:X.N[i]?=some x)
 (g:X.env.scope.names.lookup n=some .local) (hx:Loc X.env.scope x) (RG:(B8 == ("__debug__":Str))=false:=by decide) (RH:(n == ("__debug__":Str))=false:=by decide) (RJ:(n == ("__classdict__":Str))=false:=by decide)
 (hf:X.fn x=true\/X.env.scope.names.lookup x=some .local:=by first |exact .inl rfl |exact .inr rfl |assumption) (MD:Xo (.Name n p3) (some (.Name x p2)) p4.line X.env=pure false:=by rfl) :
 PS X (.Try body [.ExceptHandler (some (.Name B8 p1)) (some n) [.Assign [.Name x p2] (.Name n p3) p4] Ih] [] [] pos) (MY X.K CB tb j i):=by
 intro a s σ H D I h;refine wpAny_Try_except (Wl (l a s σ H D _ I h) (λf s1 q=>?_) λev s1 q=>?_)
 ·cases f with
  |next=>exact XY q
  |ret v=>exact q
  |brk=>exact q
  |cont=>exact q
 obtain⟨k,H0,w,d,e,L,M,u,rfl,t,bare,un,aS,F,C,Ph,O,U,hD⟩:=q;cases O;have I1:Inv X a k u s1:=d.tG t un aS bare λb z=>absurd z (by simp);have P:(X.env :: X.outer).filterMap (·.frame)=pG X.stack:=by rw[r.1];rfl
 have A:=I1.pR
 have B:w.heap.objs.size<=s1.heap.objs.size:=wco λz=>by
  obtain⟨Q,_,vs,sl,he,_⟩:=F;exact absurd (VI (WO Q (VA he)) (waz z)) (WK _)
 refine wQ (lo:=w.heap.objs.size) (H:=u) (base:=X.base) (outer:=X.outer) (by rw[<-r.1];exact d.ok.frames) (by rw[<-r.1];exact I1.stack) r.2 B (λb l=>aS.fresh l) F λh2 F2 p=>?_;rw[P]at p;obtain⟨R,E,J2⟩:=d.Dh t bare un aS p A;have S:=J2 s1.toks;obtain⟨qC,NC,Uu,Uv,RK,Uw,RL,Ux,c0,c1,c2,c3,c5,V⟩:=U.lk;obtain⟨qT,NT,Uy,Uz,UA,RM,UB,RN,UC,t0,t1,t2,t3,t5,W⟩:=TB.lk;obtain⟨RO,UD,Y,_⟩:=id F2.ob;refine wpAny_handleBy_cons (codeAny_handlers_test (gG (X:=X.marked e) (S.marked (e:=e)) hg hm ?_ RG)) (by intro z;cases z);refine Ie (S.fS _ _ V) (S.fS _ _ W) Y rfl ?_;refine codeAny_handlers_suite_as ?_;refine yH F2 λh3 F3 k3=>?_;have Z:D6 w.heap.objs.size u (pG X.stack) h2 h3:=⟨λb o q l _=>k3 b o q l,λb o q l=>⟨o.slots,k3 b o q (.inl ?_)⟩⟩
 rotate_left
 ·
  have:∃o,w.heap.get? b=some o:=by
   obtain⟨_,o,G,_⟩:=d.stack.mem l;exact⟨o,G⟩
  obtain⟨o,G⟩:=this;exact VA G
 obtain⟨UE,RP,J3⟩:=d.Dh (s1:={s1 with heap:=h2}) t bare R E Z A;have I3:=J3 s1.toks;obtain⟨Pj,UG,RQ,_⟩:=id F3.ob;have old:∀{b:Addr},b < w.heap.objs.size->b≠e:=λl z=>by rw[z]at l;exact absurd (VI l F.ge) (WK _)
 have RT:Inv X a k (upd u e (XC e L M)) {s1 with heap:=h3}:=I3.Kn F.nt (VF d.sz F.ge) (WQ (old d.lt)) (λy c hc=>old (by
  obtain⟨v,o,G,_⟩:=d.cell y c hc
  exact VA G)) (λp hp=>old (VA (d.pin p hp).1)) (MX RQ)
 refine jC (v:=.ref e) RT T J (.inl g) rfl (λs4 I4=>?_) (.inr g);have MZ:j < k.length:=by rw[d.len];exact(Vu.mp J).1
 have ev:=Cg (X:=(X.marked e).Ci) (pos:=p3) J (.inl g) RH RJ a s4 _ (upd u e (XC e L M)) (λv RU=>v=.ref e/\RU=upd u e (XC e L M)) ((I4.marked (e:=e)).lJ _) ⟨.ref e,Xf MZ,rfl,rfl⟩;refine Zo (wpAny_Assign_Name (Kl (bL ev λv s5 ⟨y,H5,I5,r5,ey,eH⟩=>?_)) MD);subst ey;subst eH;have I5:=(I5.eh).unmarked d.ok;refine jC I5 T hi hx r5 (λs6 I6=>XY ?_) hf;obtain⟨m,hn,hl⟩:=id I6.loc;refine wpAny_nameGoes_keeps g hn (by rw[I6.ok.kind];rfl) λh7 v7 RV RW=>?_;exact⟨_,_,I6.Di (m:=m) (tk:=s6.toks + 1) T J g ⟨m,hn,hl,RV⟩ RW,hD e F.nt⟩
end
open PySem.W (Looks looks_findIn looks_typeIn looks_find looks_hook looks_mroIn findIn clsIn specialIn takesIn mroIn typeIn subIn InstAt KitX kitOne kitCls kia_one findObj findObj_data class_get handed_on handedOut_of)
open Builtin Builtin.ObjectAttr
theorem bJ.ne{K:Vo}{C D CB j:Addr}{nm g:Str}(U:bJ K C CB nm)(l:bJ K D j g)(h:¬nm=g):C≠D:=λe=>by
 subst e;obtain⟨q,N,bs,s,sub,ab,d,t,u,v,w,x,y,f⟩:=U.lk;obtain⟨z,A,i,k,b,m,c,n,B,p,E,F,G,a⟩:=l.lk;rw[f]at a;have:=congrArg (λo=>match o with |some (⟨_,_,.cls r,_⟩:Obj)=>r.name |_=>nm) a;exact h this
theorem bJ.neT{K:Vo}{C CB g:Addr}{nm j:Str}(U:bJ K C CB nm)(T:wU K g j)(h:¬nm=j):C≠g:=λe=>by
 subst e;obtain⟨q,N,bs,s,sub,ab,d,t,u,v,w,x,y,f⟩:=U.lk;obtain⟨z,A,i,k,l,b,m,c,n,B,p,D,E,F,a⟩:=T.lk;rw[f]at a;have:=congrArg (λo=>match o with |some (⟨_,_,.cls r,_⟩:Obj)=>r.name |_=>nm) a;exact h this
section
variable{prog:VO}{w:World}{A:Around}{E:Value->Shared->Prop}{s:Shared}{K:Vo}{x C CB D:Addr}{nm B9 Ig:Str}{od:Option Addr}
def ExcAt(x C:Addr)(od:Option Addr)(h:Heap):Prop:=(∃vs sl,h.get? x=some ⟨.ref C,od,.fields vs,sl⟩)/\∀d,od=some d->∃o,h.get? d=some o
theorem ExcAt.inst(e:ExcAt x C od h):∃ox o,InstAt h x ox C o:=by
 obtain⟨⟨c,sl,a⟩,hd⟩:=e
 cases od with
 |none=>exact⟨_,none,a,rfl,rfl,trivial⟩
 |some d=>
  obtain⟨o,b⟩:=hd d rfl;exact⟨_,some o,a,rfl,rfl,b⟩
structure sP(K:Vo)(C:Addr):Prop where
 ha:findIn K (.ref C) "__class__"=some (some (.builtin "object.__class__"))
 hn:wae K (.builtin "object.__class__") "__get__"=some (some (.builtin "getset_descriptor.__get__"))
 oK:takesIn K (.builtin "object.__class__")=some true
theorem Ba{Q:Option Value->Shared->Prop}(U:bJ K C CB nm)(Y:sP K C)(X:K.In s.heap)(I:ExcAt x C od s.heap)(h:Q (some (.ref C)) {s with toks:=s.toks + 1}):wpAny (model prog w) A (getAttr? (.ref x) "__class__") Q E s:=by
 obtain⟨ox,o,I⟩:=I.inst;obtain⟨q,N,bs,k,sub,ab,c,l,m,n,p,r,t,lk⟩:=U.lk;have hc:∃b,clsIn K C=some b:=⟨_,by unfold clsIn;rw[lk]⟩;have d:mroIn K C (.type "object")=some true:=by unfold mroIn clsIn;rw[lk];rfl
 have a:mroIn K C (.type "BaseException")=some true:=by unfold mroIn clsIn;rw[lk];rfl
 have G:=PySem.F.excAttr_ValueError.ga
 have f:findObj K C o "__class__"=some (.bind (.builtin "getset_descriptor.__get__") (.builtin "object.__class__")):=by
  obtain⟨b,hc⟩:=hc;unfold findObj;rw[hc,Y.ha];simp only[waH];rw[Y.hn];simp only[waH];rw[Y.oK];rfl
 unfold getAttr? getAttrBy? getAttrBy;refine Vr (wpAny_mkText (Vr (wpAny_attempt (WL (Vr (I.type _ _ _ _ (λ_ _ e=>e) (Vr (Za X U.ga _ _ _ _ (λ_ _ e=>e) ?_))))))));dsimp only;rw[show (wc1 (VH C) && Zm "BaseException.__getattribute__" == Zm "object.__getattribute__")=false from by rw[show (Zm "BaseException.__getattribute__" == Zm "object.__getattribute__")=false from by decide+kernel,YC],if_neg (by decide)];have g:Looks (model prog w) s.heap (hookBefore (.ref C)) none:=looks_hook X (by show (if wc1 (VH C) then findIn K (.ref C) "__getattr__" else some none)=some none;rw[if_pos (show wc1 (VH C)=true from rfl)];exact U.gh);refine Vr (g _ _ _ _ (λ_ _ e=>e) (Vr (wpAny_attempt (WL ?_))));unfold callGetattribute;rw[show (false && wc1 (Zm "BaseException.__getattribute__"))=false from rfl,if_neg (by decide)];unfold boundAndCalled;rw[G.bind];refine Vr (VW ?_);show wpAny _ _ (call (.builtin "BaseException.__getattribute__") [.ref x,.str "__class__" s.toks]) _ _ _;refine XO ?_;have sub:Looks (model prog w) s.heap (wbz (.ref x) (.type "BaseException")) true:=I.type.andThen (wck X a);refine Xx G.plain PySem.F.entry_bexc_ga ?_;refine @PySem.W.check_slot (model prog w) _ _ {s with toks:=s.toks + 1} "BaseException.__getattribute__" "BaseException" "__getattribute__" (.ref x) [.str "__class__" s.toks] [] _ (by decide+kernel) (by decide+kernel) sub (PySem.F.args_bexc_ga (.ref x) (.str "__class__" s.toks)) ?_;have i:=I.type (M:=model prog w);have j:=looks_find (M:=model prog w) X I f;unfold Zx.«object.__getattribute__»;refine Vr (VW ?_);refine Vr (VW (Vr (i _ _ _ _ (λ_ _ e=>e) (Vr (j _ _ _ _ (λ_ _ e=>e) ?_)))));show wpAny _ _ (holding [.builtin "object.__class__"] (call (.builtin "getset_descriptor.__get__") [.builtin "object.__class__",.ref x,.ref C]) >>= ret) _ _ _;refine Vr (WL (XO (class_get (s:={s with toks:=s.toks + 1}) (ox:=ox) (od:=o) X I d ?_)));refine VW ?_;exact handed_on rfl (VW h)
theorem wV(U:bJ K C CB nm)(Y:sP K C):KitX K (.ref x) (.ref C) (ExcAt x C od) where
 ty:=λM h X I=>by
  obtain⟨r,o,I⟩:=I.inst;exact I.type
 it:=λM h X I=>by
  obtain⟨q,N,bs,c,sub,ab,a,d,f,g,i,j,l,lk⟩:=U.lk;intro s t u v k q;unfold isType loadHead;exact Vr (wa5 (k _ _ (X _ _ lk)) (VW q))
 ne:=λh tp m p n sl X b=>by
  obtain⟨q,N,bs,c,sub,ab,a,d,f,g,i,j,l,lk⟩:=U.lk;refine Bool.eq_false_iff.mpr λq=>?_;have e:C=tp:=Value.ref.inj (beq_iff_eq.mp q);subst e;have z:=congrArg (λo=>o.map (·.cls)) ((X _ _ lk).symm.trans b);simp at z
 ca:=λX I k=>Ba U Y X I k
theorem Dj:kitOne K (.ref C) (.ref C)=some true:=by
 unfold kitOne;rw[if_pos (by simp)]
theorem bJ.cls(V:bJ K D CB B9):(clsIn K D).isSome=true/\typeIn K (.ref D)=some (.type "type"):=by
 obtain⟨h,i,d,e,b,f,c,g,j,k,l,m,n,a⟩:=V.lk;refine⟨by unfold clsIn;rw[a];rfl,?_⟩;show Option.map (λx=>x.cls) (K.lookup D)=some (.type "type");rw[a];rfl
theorem wW(U:bJ K C CB nm)(V:bJ K D CB B9)(T:wU K CB Ig)(g:¬B9=Ig)(e:¬nm=B9):kitOne K (.ref C) (.ref D)=some false:=by
 unfold kitOne;have ne:=U.ne V e;rw[if_neg (by grind)];obtain⟨q,N,bs,h,sub,ab,a,i,j,k,l,m,n,lk⟩:=U.lk;obtain⟨b,c⟩:=V.cls;unfold kitCls;dsimp only;rw[b,c,if_pos (by rfl)];unfold subIn mroIn clsIn;dsimp only;rw[lk];show some ((VH C :: pJ CB).contains (.ref D))=some false;have d:(VH D == VH C)=false:=by grind
 have f:(VH D == VH CB)=false:=by simpa using V.neT T g
 simp only[List.contains_cons,d,f,wbI];rfl
end
set_option genInjectivity true in
inductive Dk(K:Vo)(H:Hp):V->V->Bool->Prop where
 |exc {e C CB:Addr} {od:Option Addr} {nm:Str} {D:Addr} {b:Bool} (h:H e=some (XC e C od)) (hd:∀d,od=some d->∃fs,H d=some (.xd fs)) (U:bJ K C CB nm) (Y:sP K C) (k:kitOne K (.ref C) (.ref D)=some b):Dk K H (.ref e) (.ref D) b
 |val {e C CB:Addr} {od:Option Addr} {nm:Str} {T:String} {b:Bool} (h:H e=some (XC e C od)) (hd:∀d,od=some d->∃fs,H d=some (.xd fs)) (U:bJ K C CB nm) (Y:sP K C) (k:kitOne K (.ref C) (.type T)=some b):Dk K H (.ref e) (.ty T) b
 |oth {x:V} {t:Value} {D:Addr} {b:Bool} (h:dG K H x t) (k:kitOne K t (.ref D)=some b):Dk K H x (.ref D) b
 |otb {x:V} {t:Value} {T:String} {b:Bool} (h:dG K H x t) (k:kitOne K t (.type T)=some b):Dk K H x (.ty T) b
section
variable{X:Cx}
theorem nZ:cS X (.builtin "isinstance") (λxs H Q=>∃x c b,xs=[x,c]/\Dk X.K H x c b/\Q (.bl b) H):=by
 intro j s σ H xs v Q I r h;obtain⟨x,c,b,rfl,l,q⟩:=h;obtain⟨u,w,rfl,f,g⟩:=vals2 r
 have at_:∀{e C:Addr} {i:Option Addr},H e=some (XC e C i)->(∀d,i=some d->∃fs,H d=some (.xd fs))->ExcAt e C i s.heap:=λ{e C i} h hd=>by
  obtain⟨⟨m,sl,n⟩,_⟩:=I.aS e _ h;refine⟨⟨m,sl,n⟩,λd e=>?_⟩;obtain⟨fs,p⟩:=hd d e;obtain⟨y,⟨o,_,_,t,_⟩,_⟩:=I.aS d _ p;exact⟨o,t⟩
 cases l with
 |exc h hd U Y k=>
  cases f;cases g;exact kia_one (wV U Y) I.fS (at_ h hd) k (λz=>nomatch z) λa=>⟨.bl b,H,I.tok a,rfl,q⟩
 |val h hd U Y k=>
  cases f;cases g;exact kia_one (wV U Y) I.fS (at_ h hd) k (λz=>nomatch z) λa=>⟨.bl b,H,I.tok a,rfl,q⟩
 |oth h k=>
  cases g;exact nT I f h k λa=>⟨.bl b,H,I.tok a,rfl,q⟩
 |otb h k=>
  cases g;exact nT I f h k λa=>⟨.bl b,H,I.tok a,rfl,q⟩
end
end L2
namespace L2
open PySem
theorem Ij{X:Cx}:Passes (wj P w) X E0:=λ_ _ _ _ _ _ _ h=>by
 obtain⟨_,_,_,_,_,_,_,_,_,_,a⟩:=h;exact a.elim
end L2
namespace Sx
open PySem L2 Bs
theorem N0:Wi "int"=some (.type "int"):=by decide+kernel
theorem Ko:Wi "dict"=some (.type "dict"):=by decide+kernel
theorem Kp:Wi "bool"=some (.type "bool"):=by decide+kernel
theorem Dl:Wi "sum"=some (.builtin "sum"):=by decide+kernel
theorem Ik:Wi "min"=some (.builtin "min"):=by decide+kernel
structure wX(K:Vo)(C CB:Addr)(nm:Str):Prop where
 lk:∃(q:Str) (N:Addr) (bs:List Value) (sn:List Str) (sub:List Value) (ab:Bool) (col:Option Bool) (dd:Option Addr) (k0 k1 k2 k3 k5:Option Value),
  K.lookup C=some (WX nm q C N bs (pJ CB) true sn sub ab col dd k0 k1 k2 k3 k5 "ValueError.__new__")
theorem FE
 (l:K.lookup C=some (WX nm q C N bs (pJ CB) true sn sub ab col dd k0 k1 k2 k3 k5 "ValueError.__new__")):wX K C CB nm:=⟨q,N,bs,sn,sub,ab,col,dd,k0,k1,k2,k3,k5,l⟩
theorem FG
 (l:K.lookup CB=some (WX nm q CB N bs Jn hd sn sub ab col dd k0 k1 k2 k3 k5 "ValueError.__new__")):wU K CB nm:=⟨q,N,bs,hd,sn,sub,ab,col,dd,k0,k1,k2,k3,k5,l⟩
end Sx
namespace Sx
open PySem PySem.Spec PyProof.Rows L2
open PySem.W (clsIn mroIn typeIn subIn kitOne kitCls)
section
variable{K:Vo}{C CB D:Addr}{nm B9 Ig:Str}
theorem wX.ne(U:bJ K C CB nm)(V:wX K D CB B9)(h:¬nm=B9):C≠D:=λe=>by
 subst e;obtain⟨q,N,bs,n,sub,ab,d,p,r,s,t,u,v,f⟩:=U.lk;obtain⟨w,x,g,i,b,j,c,k,y,l,z,A,B,a⟩:=V.lk;rw[f]at a;have:=congrArg (λo=>match o with |some (⟨_,_,.cls m,_⟩:Obj)=>m.name |_=>nm) a;exact h this
theorem wX.neT(V:wX K D CB B9)(T:wU K CB Ig)(h:¬B9=Ig):D≠CB:=λe=>by
 subst e;obtain⟨q,N,bs,p,sub,ab,d,r,s,t,u,v,w,f⟩:=V.lk;obtain⟨x,y,g,i,j,b,k,c,l,z,m,A,B,C,a⟩:=T.lk;rw[f]at a;have:=congrArg (λo=>match o with |some (⟨_,_,.cls n,_⟩:Obj)=>n.name |_=>B9) a;exact h this
theorem wX.cls(V:wX K D CB B9):(clsIn K D).isSome=true/\typeIn K (.ref D)=some (.type "type"):=by grind [cases wX,K,typeIn,clsIn,Option.map]
end
end Sx
namespace AC
section
variable{W:List (List Nat)}{P:List Nat->Bool}{l m p q u:List Nat}{c:Nat}
def Good(W:List (List Nat))(l:List Nat):Prop:=∀w∈W,¬w <:+: l
def Pl(W:List (List Nat))(p:List Nat):Prop:=p=[]\/((∃w∈W,p <+: w/\p.length < w.length)/\Good W p)
theorem Good.sub(h:Good W l)(hs:m <:+: l):Good W m:=λw hw hi=>h w hw (hi.trans hs)
theorem Pl.init(h:Pl W (u++[c])):Pl W u:=by
 rcases h with h |⟨⟨w,hw,a,hl⟩,b⟩
 ·simp at h
 ·by_cases e:u=[]
  ·exact .inl e
  ·refine .inr ⟨⟨w,hw,(wa9 u [c]).trans a,?_⟩,b.sub (wa9 u [c]).isInfix⟩;rw[Vs]at hl;simp at hl;omega
noncomputable def iP(P:List Nat->Bool):List Nat->List Nat
 |[]=>[]
 |a :: l=>if P (a :: l)=true then a :: l else iP P l
theorem i9:∀l,iP P l <:+ l
 |[]=>waI _
 |a :: l=>by
  unfold iP;split
  ·exact waI _
  ·exact(i9 l).trans (List.suffix_cons a l)
theorem qG(g:P []=true):∀l,P (iP P l)=true
 |[]=>g
 |a :: l=>by
  unfold iP;split
  ·assumption
  ·exact qG g l
theorem ia(g:P q=true):∀{l},q <:+ l->q <:+ iP P l
 |[],h=>h
 |a :: l,h=>by
  unfold iP;split
  ·exact h
  ·rename_i hn;rcases List.suffix_cons_iff.mp h with e |h
   ·grind
   ·exact ia g h
theorem Dm(g:p <:+ q)(j:q <:+ p):p=q:=g.eq_of_length (wb3 g.length_le j.length_le)
theorem wY:∀{q l:List Nat},q <:+ l++[c]->q=[]\/∃u,q=u++[c]/\u <:+ l:=λ{q l} h=>by
 rcases wbn q with e |⟨u,d,e⟩
 ·exact .inl e
 ·right
  rw[List.concat_eq_append]at e;obtain⟨t,a⟩:=h;subst e;rw[<-Wx]at a;have b:=wct a rfl;have hd:d=c:=by grind
  exact⟨u,by rw[hd],t,b.1⟩
theorem yI(h:w <:+: l++[c]):w <:+: l\/w <:+ l++[c]:=by
 obtain⟨a,b,e⟩:=h;rcases wbn b with f |⟨g,d,f⟩
 ·grind
 ·grind [wct]
theorem Bb(o:∀x,P x=true↔Pl W x)(j:Good W l)(g:∀w∈W,w≠[]):Good W (iP P l++[c])↔Good W (l++[c]):=by
 have f:=i9 (P:=P) l;constructor
 ·intro h w hw hi;rcases yI hi with z |z
  ·exact j w hw z
  ·rcases wY z with e |⟨u,rfl,d⟩
   ·exact g w hw e
   ·have a:Pl W u:=by
     by_cases e:u=[]
     ·exact .inl e
     ·exact .inr ⟨⟨_,hw,wa9 u [c],by simp⟩,j.sub d.isInfix⟩
    have:=ia ((o u).mpr a) d;obtain⟨t,b⟩:=this;exact h _ hw (show u++[c] <:+ iP P l++[c] from ⟨t,by rw[<-Wx,b]⟩).isInfix
 ·intro h;obtain⟨t,b⟩:=f;exact h.sub (show iP P l++[c] <:+ l++[c] from ⟨t,by rw[<-Wx,b]⟩).isInfix
theorem yJ(g:∀x,P x=true↔Pl W x)(j:Good W l):iP P (iP P l++[c])=iP P (l++[c]):=by
 have f:=i9 (P:=P) l;have b:P []=true:=(g []).mpr (.inl rfl)
 have d:iP P l++[c] <:+ l++[c]:=by
  obtain⟨t,h⟩:=f;exact⟨t,by grind⟩
 refine Dm (ia (qG b _) ((i9 _).trans d)) (ia (qG b _) ?_);rcases wY (i9 (P:=P) (l++[c])) with e |⟨u,e,i⟩
 ·rw[e];exact wcD
 ·have a:=(g _).mp (qG b (l++[c]));rw[e]at a ⊢;obtain⟨t,h⟩:=ia ((g u).mpr a.init) i;exact⟨t,by grind⟩
end
end AC
namespace Bs
open PySem AC
theorem ua(x y:Str)(i:Nat):wc7 x y i=true↔((ch x).drop i).take y.length=ch y:=by
 unfold wc7;rw[beq_iff_eq];constructor
 ·intro h;have:=congrArg Array.toList h;rw[wbA,waw,Yk]at this;exact this
 ·intro h;refine waG.mp ?_;rw[wbA,waw,Yk];exact h
theorem A8(y x:Str):EC y x=true↔ch y <:+: ch x:=by
 unfold EC;rw[StrLaws.found_iff];constructor
 ·grind [ua,wcu,wcv]
 ·rintro⟨a,b,e⟩;refine⟨a.length,?_,(ua x y _).mpr ?_⟩
  ·rw[<-aE x,<-e,Vs,Vs,aE];omega
  ·rw[<-e,Wx,List.drop_left,<-aE y,List.take_left]
noncomputable def wl(ws:List Str):List (List Nat):=ws.map ch
theorem cM(ws:List Str)(r:Str):bears ws r=false↔Good (wl ws) (ch r):=by simp_all [bears,Good,wl,wan,A8,ch]
theorem iQ(w:Str)(n:Nat):ch (dO w n)=(ch w).take n:=qw w n
theorem mx(w:Str)(n:Nat):ch (fw w n)=(ch w).drop n:=lO w n
theorem vq:k∈nW ws g b↔k∈g\/(k=b/\bears ws b=false):=by
 unfold nW vn
 by_cases a:bears ws b=true
 ·grind
 ·grind
theorem my:∀n,k∈upTo ws w g n↔k∈g\/∃i,i < n/\k=dO w (1 + i)/\bears ws k=false
 |0=>by
  show k∈g↔_;simp
 |n + 1=>by
  rw[eP,vq,my n];constructor
  ·grind
  ·grind
theorem sQ(us:List Str):k∈bW ws e us↔k=e\/∃w∈us,∃i,i < w.length - 1/\k=dO w (1 + i)/\bears ws k=false:=by
 have key:∀(us b:List Str),k∈us.foldl (addW ws) b↔k∈b\/∃w∈us,∃i,i < w.length - 1/\k=dO w (1 + i)/\bears ws k=false:=by
  intro us
  induction us with
  |nil=>intro b;simp
  |cons w us d=>
   intro b;rw[List.foldl_cons,d];unfold addW;rw[my];constructor
   ·rintro((h |⟨i,h⟩) |⟨c,a,h⟩)
    ·exact .inl h
    ·exact .inr ⟨w,Vz ..,i,h⟩
    ·exact .inr ⟨c,Vw _ a,h⟩
   ·rintro(h |⟨c,a,h⟩)
    ·exact .inl (.inl h)
    ·rcases W3.mp a with rfl |a
     ·exact .inl (.inr h)
     ·exact .inr ⟨c,a,h⟩
 unfold bW;rw[key];simp
theorem mem_keys:k∈bW ws "" ws↔Pl (wl ws) (ch k):=by
 rw[sQ];constructor
 ·rintro(rfl |⟨w,hw,i,hi,e,b⟩)
  ·exact .inl rfl
  ·right
   refine⟨⟨ch w,Vx.mpr ⟨w,hw,rfl⟩,?_,?_⟩,(cM ws k).mp b⟩
   ·rw[e,iQ];exact wcu _ _
   ·rw[e,iQ,VQ,aE];omega
 ·rintro(h |⟨⟨v,c,d,hl⟩,f⟩)
  ·exact .inl (dq h)
  ·by_cases a:ch k=[]
   ·exact .inl (dq a)
   obtain⟨w,hw,rfl⟩:=Vx.mp c
   right
   rw[aE,aE]at hl;have g:k.length≠0:=λz=>a (gZ z);refine⟨w,hw,k.length - 1,by omega,dq ?_,(cM ws k).mpr f⟩;rw[iQ,show 1 + (k.length - 1)=k.length by omega,<-aE k];exact(List.prefix_iff_eq_take.mp d)
noncomputable def Kq(ss:List Str)(l:List Nat):Bool:=decide (l∈ss.map ch)
theorem iR:Kq ss (ch k)=true↔k∈ss:=by
 unfold Kq;rw[decide_eq_true_iff];constructor
 ·grind [dq]
 ·grind
theorem Dn(g:ss.Perm (bW ws "" ws))(l:List Nat):Kq ss l=true↔Pl (wl ws) l:=by
 have e:ch ⟨l.toArray⟩=l:=rfl;rw[<-e,iR,g.mem_iff,mem_keys]
theorem ub{P:List Nat->Bool}(g:P []=true):∀{l:List Nat} {n:Nat},P (l.drop n)=true->(∀m,m < n->P (l.drop m)=false)->iP P l=l.drop n
 |[],n,_,_=>by simp[iP]
 |a :: l,0,b,_=>by
  unfold iP;rw[wbm]at b;rw[if_pos b];rfl
 |a :: l,n + 1,b,c=>by
  have:=c 0 (by omega);rw[wbm]at this;unfold iP;rw[this,if_neg (by simp),List.drop_succ_cons];exact ub g (by grind) λm d=>by grind
theorem iS(g:("":Str)∈ss)(r:Str):ch (lend ss r)=iP (Kq ss) (ch r):=by
 have d:∃n,n<=r.length/\fw r n∈ss/\∀m,m < n->fw r m∉ss:=by
  have i:∃n,fw r n∈ss:=⟨r.length,by rw[nX];exact g⟩
  have key:∀k,(∃n,n < k/\fw r n∈ss/\∀m,m < n->fw r m∉ss)\/∀m,m < k->fw r m∉ss:=by
   intro k
   induction k with
   |zero=>right;intro m a;omega
   |succ k f=>
    rcases f with⟨n,hn,h⟩ |h
    ·exact .inl ⟨n,by omega,h⟩
    ·by_cases c:fw r k∈ss
     ·exact .inl ⟨k,by omega,c,h⟩
     ·right
      intro m a
      by_cases e:m=k
      ·rw[e];exact c
      ·exact h m (by omega)
  rcases key (r.length + 1) with⟨n,hn,h⟩ |h
  ·exact⟨n,by omega,h⟩
  ·exact absurd (by rw[nX];exact g) (h r.length (by omega))
 obtain⟨n,hn,a,hl⟩:=d;unfold lend;rw[wO a hl hn,mx];refine(ub (iR (k:="").mpr g) ?_ λm b=>?_).symm
 ·rw[<-mx];exact iR.mpr a
 ·rw[<-mx];have:=hl m b;rw[<-iR]at this;simpa using this
section
variable{ws ss:List Str}{r:Str}{c:Nat}
theorem Dp(g:("":Str)∈ss):lend ss ""="":=by
 refine dq ?_;rw[iS g];rfl
theorem o1(g:ss.Perm (bW ws "" ws))(j:bears ws r=false):lend ss (lend ss r++⟨#[c]⟩)=lend ss (r++⟨#[c]⟩):=by
 have a:("":Str)∈ss:=g.mem_iff.mpr (bS ws);refine dq ?_;rw[iS a,aC,iS a,iS a,aC];exact yJ (Dn g) ((cM ws r).mp j)
theorem lS(g:ss.Perm (bW ws "" ws))(j:bears ws r=false)(hw:∀w∈ws,1<=w.length):bears ws (lend ss r++⟨#[c]⟩)=bears ws (r++⟨#[c]⟩):=by
 have b:("":Str)∈ss:=g.mem_iff.mpr (bS ws)
 have a:∀w∈wl ws,w≠[]:=by
  intro w d z;obtain⟨v,e,rfl⟩:=Vx.mp d;have:=hw v e;rw[<-aE,z]at this;simp at this
 have:=Bb (c:=c) (Dn g) ((cM ws r).mp j) a;rw[show [c]=ch (⟨#[c]⟩:Str) from rfl,<-iS b,<-aC,<-aC,<-cM,<-cM]at this;cases f:bears ws (lend ss r++⟨#[c]⟩) <;> cases h:bears ws (r++⟨#[c]⟩) <;> simp[f,h]at this ⊢
theorem kC(h:ch a <:+: ch b)(g:bears ws b=false):bears ws a=false:=(cM ws a).mpr (((cM ws b).mp g).sub h)
end
end Bs
namespace L2
open PySem PySem.Spec PyProof.Rows
section
variable{X:Cx}
theorem wZ:cS X (.type "range") (λxs H Q=>∃j:Int,xs=[.int j]/\∀p,H p=none->Q (.ref p) (upd H p (.rng 0 j))):=by
 intro a s σ H xs c Q I r h;obtain⟨j,rfl,q⟩:=h;obtain⟨u,rfl,t,rfl⟩:=vals1 r;refine call_range_1 ⟨.ref s.heap.objs.size,_,I.laid (λb ob q=>Vv _ q) (Vy _) (show bp X.prog X.w _ _ _ (.rng 0 j) from ⟨_,_,_,VX _ rfl⟩),rfl,q _ (I.aS.fresh (Vy _))⟩
theorem yK(hc:X.calm=true):cS X (.type "list") (λxs H Q=>∃(p:Addr) (n:Nat),xs=[.ref p]/\H p=some (.rng 0 (n:Int))/\n<=sizeLine/\∀l,H l=none->Q (.ref l) (upd H l (.lst ((W5 n).map λi=>V.int (i:Nat))))):=by
 intro m s σ H xs b Q I r h;obtain⟨p,n,rfl,x,hn,q⟩:=h;obtain⟨u,rfl,y⟩:=vals1 r;cases y;obtain⟨t,u,v,e⟩:=I.aS p _ x;have f:n<=2 ^ 24:=by rw[Xq]at hn;omega
 refine call_list_range (I.ok.hd hc) (n:=n) (show IsRange s.heap p 0 (n:Int) 1 t u v from e) (small_one (by omega) (by omega) (by omega) (by omega)) (by rw[rangeSize_one];split <;> omega) f λg z d c kp A a=>?_
 have B:∀(b:List Value) (k:Nat),(∀(j:Nat) (u:Value),b[j]?=some u->∃t,u=.int ((k + j:Nat):Int) t)->Vals ((wbd k b.length).map λi=>V.int (i:Nat)) b:=by
  intro b
  induction b with
  |nil=>intro k _;exact .nil
  |cons u b C=>
   intro k h;obtain⟨t,e⟩:=h 0 u rfl;rw[Wa,wcw,VL];refine .cons ⟨t,e⟩ (C (k + 1) λj u g=>?_);obtain⟨t,e⟩:=h (j + 1) u (by simpa using g);exact⟨t,by rw[e];congr 1;omega⟩
 have hl:d.toList.length=n:=by rw[XF];exact a.1
 have o:=B d.toList 0 λj u e=>by
  obtain⟨t,D⟩:=a.2 j u (by rw[<-Y1];exact e);exact⟨t,by rw[D];congr 1;omega⟩
 rw[hl,<-List.range_eq_range']at o;refine⟨.ref s.heap.objs.size,_,I.laid (t':=z) kp (Vy _) (show bp X.prog X.w _ g _ (.lst ((W5 n).map λi=>V.int (i:Nat))) from ⟨?_,d.toList,c,o,?_⟩),rfl,q _ (I.aS.fresh (Vy _))⟩
 ·rw[Vn,Wf];exact hn
 ·rw[YN];exact A
end
section
variable{X:Cx}
end
end L2
namespace Sx
open PySem L2
theorem Kr:Wi "max"=some (.builtin "max"):=by decide+kernel
theorem FH:Wi "range"=some (.type "range"):=by decide+kernel
end Sx
namespace Sx
open PySem L2 Bs
set_option genInjectivity true in
inductive Thing(H:Hp):V->Prop where
 |flat {v:V} (h:cg v=true):Thing H v
 |lst {a:Addr} {xs:List V} (h:H a=some (.lst xs)) (f:xs.all cg=true):Thing H (.ref a)
 |tup {a:Addr} {xs:List V} (h:H a=some (.tup xs)) (f:xs.all cg=true):Thing H (.ref a)
 |dic {a:Addr} (h:H a=some (.dK [])):Thing H (.ref a)
theorem Thing.same(t:Thing H v)(s:a9 H g):Thing g v:=by
 cases t with
 |flat h=>exact .flat h
 |lst h f=>exact .lst (s _ _ h) f
 |tup h f=>exact .tup (s _ _ h) f
 |dic h=>exact .dic (s _ _ h)
theorem yL(j:H e=none)(hd:(upd H e g) d=none):d≠e/\H d=none/\del (upd (upd (upd H e g) d o2) e o3) e=upd H d o2:=by grind [a7,aa,vp,yF,A7]
section
variable{P:VO}{w:World}{K:Vo}{mg:Str->Option Value}{base:Heap}{f:Addr}{fd:VB}
end
end Sx
namespace PySem.SeqAt
open AutoSeq1 (wpAny_loadPart')
open MeetsSeq
section
variable{A:Around}{s:Shared}
end
end PySem.SeqAt
namespace L2
open PySem PySem.Spec PyProof.Rows Sx
section
variable{X:Cx}
end
end L2
namespace L2
open PySem PySem.Spec PyProof.Rows
section
variable{X:Cx}
end
theorem Dq(v:V):V.bl (decide (v=v))=V.bl true:=by simp
end L2
namespace Bs
open PySem AC
theorem mz(g:("":Str)∈ss)(r:Str):lend ss r∈ss:=by
 rw[<-iR,iS g];exact qG (iR (k:="").mpr g) _
theorem take_zero(r:Str):dO r 0="":=dq (by rw[iQ];rfl)
theorem take_all(r:Str):dO r r.length=r:=dq (by rw[iQ,<-aE,W6])
theorem uc(hw:∀w∈ws,1<=w.length):bears ws ""=false:=by
 refine(cM ws "").mpr λw a hi=>?_;obtain⟨v,b,rfl⟩:=Vx.mp a;have d:=hw v b;have c:=hi.length_le;rw[aE]at c;have:(ch ("":Str)).length=0:=rfl;omega
end Bs
namespace L2
open PySem Bs
end L2
namespace Sx
open PySem L2 Bs
theorem lT(g:Str)(b d q:Addr):(AZ g b d q).lookup ("signs":Str)=some (.str g):=by
 rw[<-D1,aD,if_neg (by decide+kernel),<-put3,aD,if_neg (by decide+kernel),<-put2,aD,if_neg (by decide+kernel),<-HU,aD,if_pos rfl]
section
variable{P:VO}{w:World}{K:Vo}{mg:Str->Option Value}{base:Heap}{f:Addr}{fd:VB}
end
end Sx
namespace L2
open PySem PySem.Spec PyProof.Rows
section
variable{X:Cx}
end
end L2
namespace Bs
open PySem
theorem len_app(a b:Str):(a++b).length=a.length + b.length:=by grind [aE,aC]
structure Out(g r:Str)(i:Nat):Prop where
 at_:∃c,(ch r)[i]?=some c/\c∉ch g
 lo:∀j c,j < i->(ch r)[j]?=some c->c∈ch g
def RX(g r:Str):Prop:=∀c∈ch r,c∈ch g
structure Bad(ws:List Str)(r:Str)(n:Nat):Prop where
 lt:n < r.length
 good:bears ws (dO r n)=false
 bad:bears ws (dO r (n + 1))=true
theorem Out.lt(o:Out g r i):i < r.length:=by grind [cases Out,aE]
theorem Out.one(o:Out g r i)(p:Out g r j):i=j:=by grind [cases Out,war]
theorem ud(h:i<=j)(g:bears ws (dO r j)=false):bears ws (dO r i)=false:=by
 refine kC ?_ g;rw[iQ,iQ];exact(List.take_prefix_take_left h).isInfix
theorem Bad.one(a:Bad ws r n)(b:Bad ws r m):n=m:=by
 rcases war n m with h |h |h
 ·have:=ud (j:=m) (i:=n + 1) h b.good;rw[a.bad]at this;cases this
 ·exact h
 ·have:=ud (j:=n) (i:=m + 1) h a.good;rw[b.bad]at this;cases this
theorem Bad.ex(hw:∀w∈ws,1<=w.length)(h:bears ws r=true):∃n,Bad ws r n:=by
 have key:∀m,m<=r.length->bears ws (dO r m)=true->∃n,Bad ws r n:=by
  intro m
  induction m with
  |zero=>grind [take_zero,uc]
  |succ m a=>
   intro b q
   cases e:bears ws (dO r m) with
   |true=>exact a (by omega) e
   |false=>exact⟨m,by omega,e,q⟩
 exact key r.length (Vy _) (by rw[take_all];exact h)
end Bs
namespace Sx
open PySem L2 Bs
def N1(CN:Addr)(nm:Str)(v:V)(H:Hp)(E:XK):Prop:=∀(d:Addr) (H':Hp),a9 H H'->H d=none->H' d=some (.xd [(nm,v)])->E (.ref CN) (some d) H'
theorem none_of(s:a9 H g)(h:g d=none):H d=none:=by
 cases q:H d with
 |none=>rfl
 |some o=>rw[s _ _ q]at h;cases h
theorem N1.same(n:N1 g nm v H E)(s:a9 H j):N1 g nm v j E:=λd a b c e=>n d a (s.trans b) (none_of s c) e
inductive A9(K:Vo)(C:Addr)(vs:List V)(H:Hp)(Q:VK)(eN:XK):Prop
 |mk (x lw r g o ws ss ls) (_:vs=[.ref x,.str r,.ref lw,o]) (_:aV C H x g ws ss ls) (_:aN K H lw (ws.map V.str)) (_:r.length<=1000) (_:ws.length<=6) (_:(∀w∈ws,1<=w.length)) (_:((o=.non/\RX g r)\/(∃i:Nat,o=.int (i:Nat)/\Out g r i))) (_:∀H',a9 H H'->Q (.bl true) H')
end Sx
namespace Bs
open PySem
end Bs
namespace Sx
open PySem L2 Bs
end Sx
namespace L2
open PySem
end L2
namespace L2
open PySem PySem.Spec PyProof.Rows
section
variable{P:VO}{w:World}{K:Vo}{mg:Str->Option Value}{base:Heap}{x qual:Str}{st:Stmt}{f:Addr}{fd:VB}{N ps:List Str}{k:Nat}{sp:Sp}
theorem wF.eL(F:wF K x qual st f fd)
 (l:∀(j:Value) (A:Around) (outer:List Env) (s:Shared) (H:Hp) (vs:List V) (Q:VK) (E:XK),N.Nodup->cJ k (A.deeper (envOfC qual (ay st) s.heap.objs.size f j))->sp vs H Q E ->
   ∃t,uU (sH dn P w K mg base N qual (ay st) f j A outer s H E).Ci (bA st) t/\t {nx:=λ_ o=>Q .non o,rt:=Q} (start N vs) H)
 (a:(ay st).kind=.function:=by rfl) (b:(ay st).isCoroutine=false:=by rfl) (c:(ay st).isGenerator=false:=by rfl) (nd:N.Nodup:=by decide+kernel) (e:N.take ps.length=ps:=by rfl)
 (g:∀x∈ps,(ay st).names.lookup x=some .local\/(ay st).names.lookup x=some .cell:=by decide+kernel) (h:∀y∈(ay st).names,y.2≠.free:=by decide+kernel)
 (len:∀vs H Q E,sp vs H Q E->vs.length=ps.length:=by intro _ _ _ _ h;cases h;subst_vars;rfl):aK P w K mg base dn (k + 1) f fd ps sp:=
 F.ok ⟨a,b,c,nd,e,g,h⟩ len λj A outer s H vs Q E=>l j A outer s H vs Q E nd
theorem wF.FI(F:wF K x qual st f fd)
 (l:∀(j:Value) (A:Around) (outer:List Env) (s:Shared) (H:Hp) (vs:List V) (Q:VK) (E:XK),N.Nodup->cJ k (A.deeper (envOfC qual (ay st) s.heap.objs.size f j))->sp vs H Q E ->
   ∃t,uU (sH (wj P w) P w K mg base N qual (ay st) f j A outer s H E) (bA st) t/\t {nx:=λ_ o=>Q .non o,rt:=Q} (start N vs) H)
 (a:(ay st).kind=.function:=by rfl) (b:(ay st).isCoroutine=false:=by rfl) (c:(ay st).isGenerator=false:=by rfl) (nd:N.Nodup:=by decide+kernel) (e:N.take ps.length=ps:=by rfl)
 (g:∀x∈ps,(ay st).names.lookup x=some .local\/(ay st).names.lookup x=some .cell:=by decide+kernel) (h:∀y∈(ay st).names,y.2≠.free:=by decide+kernel)
 (len:∀vs H Q E,sp vs H Q E->vs.length=ps.length:=by intro _ _ _ _ h;cases h;subst_vars;rfl):aK P w K mg base (wj P w) (k + 1) f fd ps sp:=
 F.MP ⟨a,b,c,nd,e,g,h⟩ len λj A outer s H vs Q E=>l j A outer s H vs Q E nd
end
section
variable{X:Cx}
theorem ai(F:aK X.prog X.w X.K X.mg X.base dn k f fd ps sp)(a:FnAt X.K X.mg x sm ps f fd)(ha:PA X (e :: j) t)(r:cJ k X.A:=by exact cJ.mono (by assumption) (by decide))(C:Gl X x:=by rfl)(l:(x == ("__debug__":Str))=false:=by decide)
 (I:starEach (e :: j) X.env=(false,eval e X.env) :: starEach j X.env:=by rfl) (o:(backTo pos (starEach j X.env)).any (·.1)=false:=by rfl):PE X (.Call (.Name x p) (e :: j) [] pos) (GF sp [] E0 t):=
 gH F r C a.g a.F.kp a.b .nil fN ha l I o
theorem aj{i:Nat}{x:Str}{e:Expr}{j:TE}{g:Pos}(l:PE X e j)(o:X.N.Nodup:=by assumption)(hi:X.N[i]?=some x:=by rfl)(p:Loc X.env.scope x:=by first |exact Y6 rfl |exact Or.inr rfl)(hs:Xo e (some (.Name x g)) pos.line X.env=pure false:=by rfl)
 (r:X.fn x=true\/X.env.scope.names.lookup x=some .local:=by first |exact .inl rfl |exact .inr rfl |assumption):PS X (.Assign [.Name x g] e pos) (EW j (dv i)):=
 iF o hi p l hs r
theorem az{i:Nat}{x:Str}(g:X.N.Nodup:=by assumption)(hi:X.N[i]?=some x:=by rfl)(j:Loc X.env.scope x:=by first |exact Y6 rfl |exact Or.inr rfl)(l:X.fn x=true\/X.env.scope.names.lookup x=some .local:=by first |exact .inl rfl |exact .inr rfl |assumption):PG X (.Name x pos) (dv i):=
 iE g hi j l
end
section
variable{X:Cx}
theorem lU:∀{ns:List Int} {g:List Value},Vals (ns.map V.int) g->∃xs:List (Int×Tok),g=xs.map (λp=>waS p.1 p.2)/\xs.map (·.1)=ns
 |[],g,r=>by cases r;exact⟨[],rfl,rfl⟩
 |n :: ns,g,r=>by
  cases r with
  |cons h t=>
   obtain⟨a,rfl⟩:=h;obtain⟨xs,rfl,e⟩:=lU t;exact⟨(n,a) :: xs,rfl,by grind⟩
theorem mB(hc:X.calm=true):cS X (.builtin "sum") (λxs H Q=>∃p ns,xs=[.ref p]/\aN X.K H p (Zu V.int ns)/\Q (.int ns.sum) H):=by
 intro b s σ H xs k Q I r h;obtain⟨p,ns,rfl,d,q⟩:=h;obtain⟨u,rfl,f⟩:=vals1 r;cases f;obtain⟨a,g,pl,l⟩:=I.list d;obtain⟨c,e,rfl⟩:=lU g
 have hl:s.heap.IsList p (intItems c.toArray):=by
  have:intItems c.toArray=a.toArray:=by rw[e];unfold intItems;simp
  rw[this];exact pl.isList
 refine sum_intListG (I.ok.hd hc) hl λm n i j=>?_;refine⟨.int _,H,I.kept j,⟨i,?_⟩,q⟩;rw[preSum_eq,XQ (by simp)]
end
theorem Inv.freeze{X:Cx}(I:Inv X g σ H s)(e:H d=some (.dK kvs)):∃o,s.heap.get? d=some o/\Inv X g σ (upd H d (.frz o (.dK kvs))) s:=by
 have ok:=I.aS d _ e;obtain⟨z,y,f,rel,o,h,i,a,j⟩:=id ok;refine⟨o,a,?_⟩;exact I.write (x:=d) (e:=d) (h':=s.heap) (t':=s.toks) (by rw[e];exact trivial) (.inl rfl) (λb u _ c=>c) ⟨_,a⟩ ⟨a,ok⟩
noncomputable def FJ(d:Addr)(o:Obj)(kvs:List (Key×V)):It:=⟨λi H=>H d=some (.frz o (.dK kvs))/\i < kvs.length,λi H x H'=>H'=H/\∃kv,kvs[i]?=some kv/\x=kV kv.1,λi H=>H d=some (.frz o (.dK kvs))/\kvs.length<=i⟩
theorem ib(d:Addr)(o:Obj)(kvs:List (Key×V)):kK (FJ d o kvs) (λH=>H d=some (.frz o (.dK kvs))) (kvs.map λg=>kV g.1) where
 go:=λi H ok h=>⟨ok,by rwa[Vn]at h⟩
 sD:=λi H x a ok h q=>by
  obtain⟨rfl,g,e,rfl⟩:=q;refine⟨rfl,?_⟩;rw[Vt,e];rfl
 stop:=λH ok=>⟨ok,by rw[Vn];exact Vy _⟩
theorem Dr{κ:Type}:∀{kvs:List (κ×V)} {vs:List (κ×Value)},KV kvs vs->∀{i:Nat} {p:κ×V},kvs[i]?=some p->∃q,vs[i]?=some q/\p.1=q.1/\RelV p.2 q.2
 |_,_,.nil,i,p,h=>by simp at h
 |_,_,.cons r t,i,p,h=>by
  cases i with
  |zero=>exact⟨_,rfl,by have:=VC h;subst this;exact r⟩
  |succ i=>exact Dr t h
theorem yM{X:Cx}(I:Inv X g σ H s)(e:H d=some (.frz o (.dK kvs)))(j:o.data=.dict p ep) :
 ∃vs,KV kvs vs/\s.heap.DictAt (b8 X.prog X.w) d vs ep:=by
 obtain⟨f,_⟩:=I.aS d _ e;obtain⟨_,_,vs,rel,h,a,i,b,k,c,l⟩:=kN I.aS (.inr ⟨o,e⟩);refine⟨vs,rel,h,a,b,k,?_,l⟩;rw[f]at b;cases b;rw[c]at j;cases j;exact c
theorem Bc{P:VO}{w:World}{K:Vo}{T:Expr}(d it:Addr)(o:Obj)(kvs:List (Key×V))(U:Array DictEntry)(ep:Nat)(J:o.data=.dict U ep):Turn P w K T (FJ d o kvs) [it] it (λi h=>h.IsKeyIter it d i kvs.length ep) where
 mem:=by simp
 obj:=λi h st b j=>by
  have e:b=it:=by grind
  subst e;obtain⟨o,e,c,D⟩:=st;exact⟨o,e,λv z=>by grind⟩
 keep:=λi h m st k=>st.at λo e=>k it (by simp) o e
 item:=by
  intro X p hw q hc i a s σ H E I n st r;subst p hw q;obtain⟨u,hi⟩:=r;obtain⟨G,rel,f⟩:=yM I u J;have F:kvs[i]?=some kvs[i]:=by simp[hi]
  obtain⟨⟨k,v⟩,L,M,_⟩:=Dr rel F;obtain⟨x,f1,f2,A,B,C⟩:=n it (by simp);rw[rel.length]at st;refine wpAny_pyNext_dict_item st f L λkey m l g sb=>?_;have N:Inv X a σ H {s with heap:=m}:=I.turned (t':=s.toks) (λb o j e=>(sb.2 b j).trans e) x f1 A B C;obtain⟨R,e,c,D⟩:=id g;rw[<-rel.length]at g;refine⟨key,rfl,zM (s:={s with heap:=m}) e c D (by decide) ⟨kV kvs[i].1,H,N,?_,⟨rfl,_,F,rfl⟩,g,λb j=>(n b j).1⟩⟩;have O:kvs[i].1=k:=M;rw[O];rcases bD l with⟨i,t,rfl,rfl⟩ |⟨y,t,rfl,rfl⟩
  ·exact⟨t,rfl⟩
  ·exact⟨t,rfl⟩
 done:=by
   intro X p hw q hc i a s σ H E I n st r;subst p hw q;obtain⟨u,hi⟩:=r;obtain⟨G,rel,f⟩:=yM I u J;obtain⟨x,f1,f2,A,B,C⟩:=n it (by simp);rw[rel.length]at st hi;exact wpAny_pyNext_dict_end (I.ok.hd hc) st f (by simp;omega) λm Q=>⟨rfl,I.turned (t':=s.toks) (λb o j e=>Q b o j e) x f1 A B C⟩
 self:=λ_ _ _ _ _ st h=>wpAny_pyIter_keyiter st h
section
variable{X:Cx}{tg:Expr}
def Ks(tl:TE):TI:=λσ H R=>tl σ H λx H1=>∃d kvs,x=.ref d/\((H1 d=some (.dK kvs)/\∀o,R (FJ d o kvs) (upd H1 d (.frz o (.dK kvs))))\/∃o,H1 d=some (.frz o (.dK kvs))/\R (FJ d o kvs) H1)
theorem pY{l:Expr}{p:TE}(hl:PE X l p):PI X tg l (Ks p):=by
 intro a s σ H R I h;refine bL (hl a s σ H _ I h) λv g ⟨x,D,m,t,j⟩=>?_;obtain⟨d,f,e,q⟩:=j;subst e;cases t
 have key:∀{i:Hp} {o:Obj},Inv X a σ i g->i d=some (.frz o (.dK f))->R (FJ d o f) i->wpAny (model X.prog X.w) X.A (pyIter (.ref d)) (Lr X a σ tg R) X.xe g:=λ{i o} c hd u=>by
  obtain⟨E,lo,y,n,F,z,B,j,G,r,J⟩:=kN c.aS (.inr ⟨o,hd⟩);obtain⟨C,_⟩:=c.aS d _ hd;rw[C]at j;cases j;obtain⟨K,rel,k⟩:=yM c hd r;refine wpAny_pyIter_dict lo k ?_;refine⟨g.heap.objs.size,[g.heap.objs.size],_,_,i,rfl,c.kept (t':=g.toks) λb o e=>Vv _ e,Bc d _ o f z B r,⟨_,VX _ rfl,rfl,by rw[rel.length];rfl⟩,λb L=>?_,u⟩;have e:b=g.heap.objs.size:=by grind
  subst e;exact c.Ax (Vy _) (c.aS.fresh (Vy _))
 rcases q with⟨hd,q⟩ |⟨o,hd,q⟩
 ·obtain⟨o,M,c⟩:=m.freeze hd;exact key c a7 (q o)
 ·exact key m hd q
end
end L2
namespace L2
open PySem Bs
theorem dm.f{H:Hp}{a:Addr}{o:Obj}{kvs:List (Key×V)}{k:Key}(e:H a=some (.frz o (.dK kvs))):dm H a (kV k) (bc kvs k):=.inl ⟨kvs,k,.inr ⟨o,e⟩,rfl,rfl⟩
noncomputable def cR(g:Str)(ws ss:List Str)(p:Str):List Str:=(ch g).filterMap λc=>if bears ws (p++⟨#[c]⟩)=true then none else some (lend ss (p++⟨#[c]⟩))
noncomputable def yN(v:V):Bool:=!decide (v=.non)
theorem x6(ws ss:List Str)(p:Str)(cs:List Nat):((cs.map (pW ws ss p)).filter yN)=(cs.filterMap λc=>if bears ws (p++⟨#[c]⟩)=true then none else some (lend ss (p++⟨#[c]⟩))).map V.str:=by
 induction cs with
 |nil=>rfl
 |cons c cs a=>
  grind [pW,lend,yN]
theorem yO(g:Str)(ws ss:List Str)(p:Str):(cR g ws ss p).length<=g.length:=by
 unfold cR;have:=Z6 (λc=>if bears ws (p++⟨#[c]⟩)=true then none else some (lend ss (p++(⟨#[c]⟩:Str)))) (ch g);rw[aE]at this;exact this
theorem yP(j:("":Str)∈ss)(h:t∈cR g ws ss p):t∈ss:=by grind [cR,mz]
noncomputable def bM(g:Str)(ws ss:List Str):Nat->Str->Int
 |0,_=>1
 |n + 1,p=>((cR g ws ss p).map (bM g ws ss n)).sum
noncomputable def o4(f:Str->V)(ks:List Str):List (Key×V):=ks.map λp=>((VU p:Key),f p)
theorem qH(f:Str->V)(h:k∈g):bc (o4 f g) (VU k:Key)=some (f k):=by
 induction g with
 |nil=>simp at h
 |cons j g a=>
  by_cases e:j=k
  ·subst e;exact bq rfl
  ·unfold o4;rw[VL,bt (λz=>e (Yy z))];exact a (by grind)
theorem ue(f:Str->V)(h:k∉g):bc (o4 f g) (VU k:Key)=none:=by
 cases q:bc (o4 f g) (VU k:Key) with
 |none=>rfl
 |some v=>
  have:=pV q;unfold o4 at this;rw[VG]at this;obtain⟨m,a,e⟩:=Vx.mp this;have b:m=k:=Yy e;subst b;exact absurd a h
theorem x8(f:Str->V)(g:List Str):(o4 f g).length=g.length:=by unfold o4;rw[Vn]
theorem uf(f:Str->V)(g:List Str)(k:Str):o4 f (g++[k])=o4 f g++[((VU k:Key),f k)]:=by unfold o4;rw[VE];rfl
theorem gj{ss:List Str}(nd:ss.Nodup){i:Nat}{p:Str}(h:ss[i]?=some p):p∉ss.take i:=by
 intro b;obtain⟨j,c,a⟩:=YR.mp b;rw[wat]at a;rw[VQ]at c;have d:=(Vu.mp h).2;have:=(Yh nd).mp (a.trans d.symm);omega
noncomputable abbrev Il(g:Str)(ws ss:List Str)(n:Nat):List (Key×V):=o4 (λp=>.int (bM g ws ss n p)) ss
noncomputable def Pk(ws ss:List Str)(p:Str):V->V:=λv=>match v with
 |.str z=>pW ws ss p (z.cps.getD 0 0)
 |_=>.non
theorem Bd(g:Str)(ws ss:List Str)(p:Str):(cQ g).map (Pk ws ss p)=(ch g).map (pW ws ss p):=by
 unfold cQ;rw[VG];rfl
noncomputable def FK(f:Str->Int):V->V:=λv=>match v with
 |.str z=>.int (f z)
 |_=>.non
theorem o6(f:Str->Int)(g:List Str):(g.map V.str).map (FK f)=(g.map f).map V.int:=by
 rw[VG,VG];rfl
end L2
namespace Sx
open PySem L2 Bs
inductive yQ(C:Addr)(vs:List V)(H:Hp)(Q:VK)(eN:XK):Prop
 |mk (x p g ws ss ls) (_:vs=[.ref x,.str p]) (_:aV C H x g ws ss ls) (_:p∈ss) (_:g.length<=10) (_:∀(l:Addr) (H':Hp),a9 H H'->H l=none->H' l=some (.lst ((cR g ws ss p).map V.str))->Q (.ref l) H')
inductive Be(C:Addr)(vs:List V)(H:Hp)(Q:VK)(eN:XK):Prop
 |mk (x g ws ss ls) (_:vs=[.ref x]) (_:aV C H x g ws ss ls) (_:g.length<=10) (_:ss.length<=900) (_:∀(d:Addr) (ev:List (Str×Addr)) (H':Hp),a9 H H'->H d=none->H' d=some (.dK (bh ev))->ev.map (·.1)=ss->(∀m∈ev,H' m.2=some (.lst ((cR g ws ss m.1).map V.str)))->(∀m∈ev,H m.2=none)->Q (.ref d) H')
inductive FL(C:Addr)(vs:List V)(H:Hp)(Q:VK)(eN:XK):Prop
 |mk (x n g ws ss ls) (_:vs=[.ref x,.int n]) (_:aV C H x g ws ss ls) (_:g.length<=10) (_:ss.length<=900) (_:0<=n) (_:n<=100000) (_:∀(l:Addr) (ts:List Addr) (H':Hp),a9 H H'->H l=none->H' l=some (.lst (ts.map V.ref))->ts.length=n.toNat + 1->(∀i t,ts[i]?=some t->H' t=some (.dK (Il g ws ss i)))->Q (.ref l) H')
inductive FN(C:Addr)(vs:List V)(H:Hp)(Q:VK)(eN:XK):Prop
 |mk (x n g ws ss ls) (_:vs=[.ref x,.int n]) (_:aV C H x g ws ss ls) (_:g.length<=10) (_:ss.length<=900) (_:0<=n) (_:n<=100000) (_:∀H',a9 H H'->Q (.int (bM g ws ss n.toNat "")) H')
end Sx
namespace L2
open PySem PySem.Spec PyProof.Rows
section
variable{X:Cx}
noncomputable def RY:JE:=λx y H Q=>∃i j,x=.int i/\y=.int j/\EY i j/\Q (.int (i * j)) H
theorem Ds:Mg X .Mult RY:=by
 intro a s σ H x y v u Q I b c h;obtain⟨i,j,d,e,hc,q⟩:=h;subst d;subst e;obtain⟨t,rfl⟩:=b;obtain⟨f,rfl⟩:=c;exact imul_int ⟨.int _,H,I.tok _,⟨_,rfl⟩,q⟩ hc.ok
end
end L2
namespace Sx
open PySem L2 Bs
inductive Bg(C:Addr)(vs:List V)(H:Hp)(Q:VK)(eN:XK):Prop
 |mk (x n g ws ss ls) (_:vs=[.ref x,.int n]) (_:aV C H x g ws ss ls) (_:g.length<=10) (_:0<=n) (_:n<=10) (_:Q (.int ((g.length:Int) ^ n.toNat)) H)
structure gk(m:Nat)(many wide:Int):Prop where
 a:2<=many
 b:many<=8
 c:1<=wide
 d:wide<=6
 e:(m:Int) ^ wide.toNat<=64
inductive qI(C:Addr)(vs:List V)(H:Hp)(Q:VK)(eN:XK):Prop
 |mk (x many wide g ws ss ls) (_:vs=[.ref x,.int many,.int wide]) (_:aV C H x g ws ss ls) (_:g.length<=10) (_:gk g.length many wide) (_:Q (.bl true) H)
end Sx
namespace L2
open PySem PySem.Spec PyProof.Rows
theorem N2:Wi "abs"=some (.builtin "abs"):=by decide+kernel
theorem x9(ns:List Int)(lo hi:Option Int):∃g:List Int,sI (ns.map V.int) lo hi=g.map V.int/\g.length<=ns.length:=by
 refine⟨_,by unfold sI;rw[<-wbK,<-wak],?_⟩;rw[VQ,XM];omega
section
variable{X:Cx}
theorem Bh(hc:X.calm=true):cS X (.builtin "max") (λxs H Q=>∃p ns,xs=[.ref p]/\aN X.K H p (Zu V.int ns)/\ns≠[]/\∀M,M∈ns->(∀a∈ns,a<=M)->Q (.int M) H):=by
 intro g s σ H xs x Q I r h;obtain⟨p,ns,rfl,i,c,q⟩:=h;obtain⟨u,rfl,k⟩:=vals1 r;cases k;obtain⟨d,l,pl,y⟩:=I.list i;obtain⟨b,e,rfl⟩:=lU l
 have hl:s.heap.IsList p (intItems b.toArray):=by
  have:intItems b.toArray=d.toArray:=by grind [intItems]
  rw[this];exact pl.isList
 have f:0 < b.toArray.size:=by
  rw[W4];exact Nat.pos_of_ne_zero λz=>c (by grind)
 refine max_intList (I.ok.hd hc) hl f λv A B m n=>?_;obtain⟨t,rfl⟩:=intItems_at m;obtain⟨C,o⟩:=argBest_gt (numAt b.toArray) (b.toArray.size - 1);refine⟨.int _,H,I.kept n,⟨t,rfl⟩,q _ ?_ λa ha=>?_⟩
 ·rw[numAt_eq];exact getD_mem (by grind)
 ·obtain⟨j,w,rfl⟩:=mem_getD ha;rw[Vn]at w;have:=o j (by grind);rw[numAt_eq]at this;exact this
end
end L2
namespace Bs
open PySem L2
noncomputable def oS(st sp n:Nat):List Nat:=(W5 n).map λk=>(ch dj).getD ((st + k * sp) % 36) 0
theorem Im:∀st:Fin 36,∀sp∈[1,5,7,11,13,17],∀n∈[2,3,4],((oS st sp n).Nodup/\∀c∈oS st sp n,c∈ch dj):=by decide+kernel
theorem xa(j:st < 36)(hs:sp∈[1,5,7,11,13,17])(hn:n∈[2,3,4])(g:ch x=oS st sp n):qy x:=by
 obtain⟨a,b⟩:=Im ⟨st,j⟩ sp hs n hn;have hl:x.length=n:=by rw[<-aE,g];unfold oS;rw[Vn,Wf]
 have c:n=2\/n=3\/n=4:=by simpa using hn
 exact⟨by omega,by omega,by rw[g];exact a,by rw[g];exact b⟩
theorem mC{P:Nat->Prop}:∀{g:List Str},(∀t∈g,∃c,t=⟨#[c]⟩/\P c)->(g.map (·.length)).sum=g.length
 |[],_=>rfl
 |t :: g,h=>by
  obtain⟨c,rfl,_⟩:=h t (Vz ..);rw[VL,Wu,mC λt a=>h t (Vw _ a),Wa];show 1 + g.length=_;omega
theorem xc{P:Nat->Prop}(j:z.length=0)(h:∀t∈g,∃c,t=⟨#[c]⟩/\P c):(YQ z g).length=g.length:=by
 rw[<-aE,kA j,List.length_flatten,VG];have e:=mC h;rw[<-e];congr 1
noncomputable def FO(st sp:Nat):V->V:=λv=>match v with
 |.int k=>.str ⟨#[(ch dj).getD ((st + k.toNat * sp) % 36) 0]⟩
 |_=>.non
end Bs
namespace Sx
open PySem L2 Bs
inductive Kt(K:Vo)(vs:List V)(H:Hp)(Q:VK)(eN:XK):Prop
 |mk (a:Addr) (ns:List Int) (p:Int) (_:vs=[.ref a,.int p]) (_:aN K H a (ns.map V.int)) (_:∀(c:Int) (H':Hp),a9 H H'->Q (.int c) H')
end Sx
namespace Bs
noncomputable def xf(k:Nat)(l:List Nat):List Nat:=l.drop (l.length - k)
theorem Bi(k:Nat)(l:List Nat):xf k l <:+ l:=wcv _ _
theorem Bj(k:Nat)(l:List Nat):(xf k l).length<=k:=by grind [xf]
theorem gm{α:Type}[DecidableEq α]:∀{g l:List α},g.Nodup->(∀k∈g,k∈l)->g.length<=l.length
 |[],l,_,_=>Wb _
 |k :: g,l,nd,h=>by
  rw[Wn]at nd;have a:=h k (Vz ..);have:=gm (l:=l.erase k) nd.2 λj b=>(List.mem_erase_of_ne (λz=>nd.1 (by rw[<-z];exact b))).mpr (h j (Vw _ b));rw[waJ a]at this;have:0 < l.length:=Yz a;rw[Wa];omega
noncomputable def jM(cs:List Nat):Nat->List (List Nat)
 |0=>[[]]
 |n + 1=>[] :: cs.flatMap λc=>(jM cs n).map (c :: ·)
theorem ug(cs:List Nat):∀(n:Nat) (l:List Nat),l.length<=n->(∀c∈l,c∈cs)->l∈jM cs n
 |0,l,h,_=>by
  rw[WY (Nat.le_zero.mp h)];exact VD.mpr rfl
 |n + 1,[],_,_=>Vz ..
 |n + 1,c :: l,h,hc=>by
  refine Vw _ (Zw.mpr ⟨c,hc c (Vz ..),Vx.mpr ⟨l,?_,rfl⟩⟩);exact ug cs n l (by grind) λd hd=>hc d (Vw _ hd)
theorem mD{α β:Type}(f:α->List β)(b:Nat):∀(cs:List α),(∀c∈cs,(f c).length<=b)->(cs.flatMap f).length<=cs.length * b
 |[],_=>Wb _
 |c :: cs,h=>by
  rw[Ze,Vs,Wa,Nat.succ_mul];have:=mD f b cs λd hd=>h d (Vw _ hd);have:=h c (Vz ..);omega
theorem kD(cs:List Nat)(h:cs.length<=4):∀n b g,(jM cs n).length<=b->g=1 + 4 * b->(jM cs (n + 1)).length<=g:=by
 intro n b g d a;unfold jM;rw[Wa];have e:=mD (λc=>(jM cs n).map (c :: ·)) b cs λc _=>by grind
 have f:cs.length * b<=4 * b:=Yb _ h;omega
theorem Io(cs:List Nat)(h:cs.length<=4):(jM cs 4).length<=341:=
 kD cs h 3 85 _ (kD cs h 2 21 _ (kD cs h 1 5 _ (kD cs h 0 1 _ (Vy 1) rfl) rfl) rfl) rfl
section
variable{κ:Type}[DecidableEq κ]
noncomputable def bump:List (κ×Int)->κ->Int->List (κ×Int)
 |[],k,v=>[(k,v)]
 |(j,u) :: m,k,v=>if j=k then(j,u + v) :: m else(j,u) :: bump m k v
theorem dh(k:κ)(v:Int):∀m:List (κ×Int),(bump m k v).map (·.1)=if k∈m.map (·.1) then m.map (·.1) else m.map (·.1)++[k]
 |[]=>rfl
 |(j,u) :: m=>by
  unfold bump
  by_cases h:j=k
  ·rw[if_pos h,if_pos (by grind)];rfl
  ·rw[if_neg h,VL,dh k v m,VL]
   by_cases a:k∈m.map (·.1)
   ·grind
   ·grind
end
end Bs
namespace Bs
open PySem L2 AC
variable{ws ss:List Str}
noncomputable def Dt(L:Nat)(r:Str):Str:=fw r (r.length - (L - 1))
theorem FP(L:Nat)(r:Str):ch (Dt L r)=xf (L - 1) (ch r):=by unfold Dt xf;rw[mx,aE]
noncomputable def FQ(ws:List Str)(L:Nat)(e:Str)(v:Int)(m:List (Str×Int))(c:Nat):List (Str×Int):=if bears ws (e++⟨#[c]⟩)=true then m else bump m (Dt L (e++⟨#[c]⟩)) v
noncomputable def Ku(g:Str)(ws:List Str)(L:Nat)(m:List (Str×Int))(p:Str×Int):List (Str×Int):=(ch g).foldl (FQ ws L p.1 p.2) m
noncomputable def Kv(g:Str)(ws:List Str)(L:Nat)(hs:List (Str×Int)):List (Str×Int):=hs.foldl (Ku g ws L) []
noncomputable def GQ(g:Str)(ws:List Str)(L:Nat):Nat->List (Str×Int)
 |0=>[("",1)]
 |n + 1=>Kv g ws L (GQ g ws L n)
theorem sR(f:Nat->Option Str)(h:Str->Int):∀cs:List Nat,((cs.filterMap f).map h).sum=(cs.map λc=>(match f c with |none=>0 |some x=>h x)).sum:=by intro cs;induction cs <;> grind
structure bP(g:Str)(L:Nat)(m:List (Str×Int)):Prop where
 nd:(m.map (·.1)).Nodup
 sh:∀k∈m.map (·.1),(∀c∈ch k,c∈ch g)/\k.length<=L - 1
theorem bP.nil(g:Str)(L:Nat):bP g L []:=⟨WH,λk h=>nomatch h⟩
theorem bP.bump(h:bP g L m)(l:(∀c∈ch k,c∈ch g)/\k.length<=L - 1):bP g L (bump m k v):=by
 by_cases d:k∈m.map (·.1)
 ·exact⟨by rw[dh,if_pos d];exact h.nd,by rw[dh,if_pos d];exact h.sh⟩
 ·refine⟨?_,?_⟩
  ·rw[dh,if_neg d];exact Xe.mpr ⟨h.nd,Wn.mpr ⟨λz=>(nomatch z),WH⟩,λa ha b e z=>d (by rw[<-VD.mp e,<-z];exact ha)⟩
  ·rw[dh,if_neg d];intro j f;rcases VP.mp f with z |z
   ·exact h.sh j z
   ·rw[VD.mp z];exact l
theorem Bk(j:∀c∈ch e,c∈ch g)(hc:c∈ch g):(∀d∈ch (Dt L (e++⟨#[c]⟩)),d∈ch g)/\(Dt L (e++⟨#[c]⟩)).length<=L - 1:=by grind [aE,FP,Bj,Bi,aC,vk]
theorem bP.add(h:bP g L m)(j:∀c∈ch e,c∈ch g)(hc:c∈ch g):bP g L (FQ ws L e v m c):=by
 unfold FQ;split
 ·exact h
 ·exact h.bump (Bk j hc)
theorem bP.fold(j:∀c∈ch e,c∈ch g):∀{cs:List Nat} {m:List (Str×Int)},bP g L m->(∀c∈cs,c∈ch g)->bP g L (cs.foldl (FQ ws L e v) m)
 |[],m,h,_=>h
 |c :: cs,m,h,hc=>bP.fold (cs:=cs) j (h.add j (hc c (Vz ..))) λd hd=>hc d (Vw _ hd)
theorem bP.steps:∀{hs m:List (Str×Int)},bP g L m->(∀p∈hs,∀c∈ch p.1,c∈ch g)->bP g L (hs.foldl (Ku g ws L) m)
 |[],m,h,_=>h
 |p :: hs,m,h,hc=>bP.steps (hs:=hs) (bP.fold (hc p (Vz ..)) h λc hc=>hc) λq a=>hc q (Vw _ a)
theorem bP.here:∀n,bP g L (GQ g ws L n)
 |0=>⟨Wn.mpr ⟨λz=>(nomatch z),WH⟩,λk a=>by
   rw[VD.mp a]
   exact⟨λc hc=>(nomatch hc),Wb _⟩⟩
 |n + 1=>bP.steps (bP.nil g L) λp b=>((bP.here n).sh p.1 (Vx.mpr ⟨p,b,rfl⟩)).1
theorem bP.len(h:bP g L m)(j:g.length<=4)(o:L<=5):m.length<=341:=by
 have d:((m.map (·.1)).map ch).Nodup:=by
  refine wc8 _ ?_ h.nd;intro a b c z;exact c (dq z)
 have e:=gm (l:=jM (ch g) 4) d λk f=>by
  obtain⟨x,i,rfl⟩:=Vx.mp f;obtain⟨a,b⟩:=h.sh x i;exact ug _ _ _ (by rw[aE];omega) a
 have n:=Io (ch g) (by rw[aE];exact j);rw[Vn,Vn]at e;omega
noncomputable def aZ(m:List (Str×Int)):List (Key×V):=m.map λp=>((VU p.1:Key),V.int p.2)
theorem ic(m:List (Str×Int)):(aZ m).length=m.length:=Vn ..
noncomputable def jN:List (Str×Int)->Str->Option Int
 |[],_=>none
 |(j,u) :: m,k=>if j=k then some u else jN m k
theorem cN(k:Str):∀m:List (Str×Int),bc (aZ m) (VU k:Key)=(jN m k).map V.int
 |[]=>rfl
 |(j,u) :: m=>by
  unfold jN
  by_cases h:j=k
  ·rw[if_pos h,h];exact bq rfl
  ·rw[if_neg h,<-cN k m];exact bt (λz=>h (Yy z))
theorem qJ:∀{m:List (Str×Int)},k∉m.map (·.1)->jN m k=none
 |[],_=>rfl
 |(j,u) :: m,h=>by
  unfold jN;rw[if_neg (λz=>h (by rw[z];exact Vz ..))];exact qJ λz=>h (Vw _ z)
end Bs
namespace L2
open PySem
theorem xg{R:It->Hp->Prop}(h:g d=some (.dK kvs)\/∃o,g d=some (.frz o (.dK kvs)))
 (k:∀o j,j d=some (.frz o (.dK kvs))->(∀c,c≠d->j c=g c)->R (FJ d o kvs) j) :
 (g d=some (.dK kvs)/\∀o,R (FJ d o kvs) (upd g d (.frz o (.dK kvs))))\/∃o,g d=some (.frz o (.dK kvs))/\R (FJ d o kvs) g:=by
 rcases h with h |⟨o,h⟩
 ·exact .inl ⟨h,λo=>k o _ a7 λc hc=>aa hc⟩
 ·exact .inr ⟨o,h,k o _ h λc _=>rfl⟩
end L2
namespace Sx
open PySem L2 Bs
end Sx
namespace L2
open PySem PySem.Spec PyProof.Rows
def iT(K:Vo)(J:It)(l:Addr)(σf:St)(tt:TT)(te:TE)(H:Hp)(Q:Hp->Prop):Prop:=
 ∃W:Nat->Nat->List V->Hp->Prop,(∃m,W 0 m [] (upd H l (.lst [])))/\∀i m ys H2,W i m ys H2->H2 l=some (.lst ys) /\
  ((J.stop i H2/\Q H2)\/(J.go i H2/\ys.length < sizeLine/\∀x H3,J.sD i H2 x H3->∃p a b,x=.ref p/\jA K H3 p [a,b]/\tt (some a :: some b :: σf) H3 λok H4=>
    if ok=true then te (some a :: some b :: σf) H4 λy H5=>H5 l=some (.lst ys)/\∃m',m' < m/\W (i + 1) m' (ys++[y]) (upd H5 l (.lst (ys++[y])))
    else ∃m',m' < m/\W (i + 1) m' ys H4))
def Ip(K:Vo)(wi:TI)(ix:List Nat)(tt:TT)(te:TE):TE:=λσ H Q=>wi σ H λJ H1=>∀l,H1 l=none->iT K J l (pick σ ix) tt te H1 (λH2=>Q (.ref l) H2)
section
variable{X:Cx}{pins:List (Addr×Obj)}{σ:St}{H:Hp}{s₂:Shared}{scope:Yr}{x x2:Str}{ys:List Str}{ix:List Nat}{cl:List (Str×Addr)}{fp:List Addr}{L:Addr}
theorem xh(hc:X.calm=true)(B:bo X scope x ys ix)(g:bo X scope x2 ys ix)(j:x≠x2)(cl L s H ex pn):PG (b5 X scope ([x,x2]++ys) cl L s H ex pn) (.Tuple [.Name x o,.Name x2 l] p pt) (Ck X.K 2 (jD (dv 0) (jD (dv 1) Cj))):=by
 have c:(relabel scope X.env).names.lookup x=some .local:=Xw B.var;have a:(relabel scope X.env).names.lookup x2=some .local:=Xw g.var
 have b:(x :: x2 :: ys).Nodup:=by
  have:=B.nd;have:=g.nd
  grind
 exact gY hc (b6 (iE b rfl (.inl c) (.inr c)) (b6 (iE b rfl (.inl a) (.inr a)) fi))
theorem xi{K:Vo}{J:It}(h:iT K J l g j o H Q):tT (Ck K 2 (jD (dv 0) (jD (dv 1) Cj))) 2 J l g j o H Q:=
 let ⟨W,a,t⟩:=h
 ⟨W,a,λi m ys f w=>let ⟨p,q⟩:=t i m ys f w;⟨p,q.imp id λ⟨a,b,c⟩=>⟨a,b,λx k n u y=>by revert n;refine gE 2 _ ?_;exact λ_ _=>let ⟨p,v,d,e,r,s⟩:=c x k y;⟨p,[v,d],e,r,rfl,v,[d],rfl,d,[],rfl,rfl,⟨[some v,some d],rfl,rfl⟩,s⟩⟩⟩⟩
theorem fz(hc:X.calm=true)(B:bo X scope x ys ix)(T:bo X scope x2 ys ix)(g:x≠x2)(hi:PI X (.Tuple [.Name x U,.Name x2 j] kt pt) iter wi)
 (ht:∀cl L s H ex pn,EB (b5 X scope (x :: x2 :: ys) cl L s H ex pn) o r) (he:∀cl L s H ex pn,PE (b5 X scope (x :: x2 :: ys) cl L s H ex pn) p I)
 (hs:∀v,Xd iter X.env v=pure v:=by intro _;rfl):PE X (.ListComp p [⟨.Tuple [.Name x U,.Name x2 j] kt pt,iter,o,0⟩] scope pos) (Ip X.K wi ix r I):=
 qp (C:=λJ l a H Q=>iT X.K J l a r I H Q) (xs:=[x,x2]) hc B (xh hc B T g) (λ_ _ _ _ _=>xi) hi ht he hs
end
def bY(H:Hp)(rs:List Addr)(Pm:List (List V)):Prop:=rs.length=Pm.length/\∀(i:Nat) (r:Addr) (xs:List V),rs[i]?=some r->Pm[i]?=some xs->H r=some (.tup xs)
theorem bY.nil(H:Hp):bY H [] []:=⟨rfl,λi r a h=>by simp at h⟩
theorem bY.keep(t:bY H j g)(k:∀r xs,H r=some (.tup xs)->l r=some (.tup xs)):bY l j g:=⟨t.1,λi r xs a b=>k _ _ (t.2 i r xs a b)⟩
theorem bY.same(t:bY H j g)(s:a9 H l):bY l j g:=t.keep λr a h=>s _ _ h
theorem bY.snoc(t:bY H g j)(h:H r=some (.tup xs)):bY H (g++[r]) (j++[xs]):=by
 refine⟨by rw[Vs,Vs,t.1];rfl,λi a b c d=>?_⟩
 by_cases hi:i < g.length
 ·rw[VZ hi]at c;rw[VZ (by rw[<-t.1];exact hi)]at d;exact t.2 i a b c d
 ·have e:i=g.length:=by
   have:=(Vu.mp c).1;rw[Vs,X8]at this;omega
  subst e;rw[VY (Vy _),Xy]at c;rw[VY (by rw[t.1];exact Vy _),t.1,Xy]at d;cases c;cases d;exact h
theorem bY.mem(t:bY H j g)(h:r∈j):∃xs∈g,H r=some (.tup xs):=by
 obtain⟨i,hi,e⟩:=YR.mp h;have a:i < g.length:=by rw[<-t.1];exact hi
 exact⟨g[i],Wg a,t.2 i r _ (by grind) (Vp a)⟩
noncomputable def mE(q:V×V):List V:=[q.1,q.2]
theorem iU{K:Vo}{J:It}{Ok:Hp->Prop}{j:List Addr}{prs:List (V×V)}{l:Addr}{I:St}{tt:TT}{te:TE}{H:Hp}{Q:Hp->Prop}(p:V×V->Bool)(g:V×V->V)(hJ:kK J Ok (j.map V.ref))(hT:bY H j (prs.map mE))(hl:H l=none)(hz:j.length<=sizeLine)(T:∀r,a9 H r->Ok r)
 (ht:∀q C U,q∈prs->a9 H C->(∀r,a9 C r->U (p q) r)->tt (some q.1 :: some q.2 :: I) C U)
 (he:∀q C U,q∈prs->p q=true->a9 H C->(∀r,a9 C r->U (g q) r)->te (some q.1 :: some q.2 :: I) C U)
 (hd:∀r,a9 H r->r l=some (.lst ((prs.filter p).map g))->Q r):iT K J l I tt te H Q:=by
 have f:j.length=prs.length:=by rw[hT.1,Vn]
 refine⟨λi m s d=>m=j.length - i/\i<=j.length/\a9 H d/\d l=some (.lst s)/\s=((prs.take i).filter p).map g,⟨j.length,by simp,Wb _,a9.upd hl,a7,by simp⟩,?_⟩;rintro i m s d ⟨rfl,hi,c,k,n⟩;refine⟨k,?_⟩
 by_cases a:i < j.length
 ·refine .inr ⟨hJ.go i d (T _ c) (by rw[Vn];exact a),?_,λx C y=>?_⟩
  ·rw[n,Vn];refine WO (WG _ _) ?_;rw[VQ];omega
  ·obtain⟨e,u⟩:=hJ.sD i d x C (T _ c) (by rw[Vn];exact a) y;subst e;have v:prs[i]?=some prs[i]:=Vp (by omega);have w:j[i]?=some j[i]:=Vp a;rw[Vt,w]at u;obtain rfl:V.ref j[i]=x:=VC u;have mem:prs[i]∈prs:=Wg _;have z:prs.take (i + 1)=prs.take i++[prs[i]]:=by rw[Ws,v];rfl
   refine⟨j[i],prs[i].1,prs[i].2,rfl,jA.of (c _ _ (hT.2 i j[i] _ w (by rw[Vt,v];rfl))),ht prs[i] _ _ mem c λB h=>?_⟩
   cases t:p prs[i] with
   |false=>
    rw[if_neg VJ];refine⟨j.length - (i + 1),by omega,rfl,a,c.trans h,h _ _ k,?_⟩;rw[z,WC,n];simp[t]
   |true=>
    rw[if_pos rfl];refine he prs[i] _ _ mem t (c.trans h) λD A=>⟨A _ _ (h _ _ k),j.length - (i + 1),by omega,rfl,a,λb o e=>?_,a7,?_⟩
    ·rw[aa (ae e hl)];exact A _ _ (h _ _ (c _ _ e))
    ·rw[z,WC,n];simp[t]
 ·have e:i=j.length:=by omega
  subst e;refine .inl ⟨?_,hd d c ?_⟩
  ·have:=hJ.stop d (T _ c);rwa[Vn]at this
  ·rw[k,n,f,W6]
theorem Bl{K:Vo}{J:It}{Ok:Hp->Prop}{j:List Addr}{prs:List (V×V)}{l:Addr}{T:St}{tt:TT}{te:TE}{H:Hp}{Q:Hp->Prop}(p:V×V->Bool)(g:V×V->List V)(hJ:kK J Ok (j.map V.ref))(hT:bY H j (prs.map mE))(hl:H l=none)(hz:j.length<=sizeLine)(U:∀C,a9 H C->Ok C)
 (ht:∀q I Q',q∈prs->a9 H I->(∀C,a9 I C->Q' (p q) C)->tt (some q.1 :: some q.2 :: T) I Q')
 (he:∀q I Q',q∈prs->p q=true->a9 H I->(∀r C,a9 I C->C r=some (.tup (g q))->Q' (.ref r) C)->te (some q.1 :: some q.2 :: T) I Q')
 (hd:∀ys C,a9 H C->C l=some (.lst (ys.map V.ref))->bY C ys ((prs.filter p).map g)->Q C):iT K J l T tt te H Q:=by
 have h:j.length=prs.length:=by rw[hT.1,Vn]
 refine⟨λi m A d=>m=j.length - i/\i<=j.length/\a9 H d/\∃ys:List Addr,A=ys.map V.ref/\d l=some (.lst (ys.map V.ref))/\bY d ys (((prs.take i).filter p).map g),⟨j.length,by simp,Wb _,a9.upd hl,[],rfl,a7,by simpa using bY.nil _⟩,?_⟩;rintro i m A d ⟨rfl,hi,c,ys,rfl,k,n⟩;refine⟨k,?_⟩
 by_cases a:i < j.length
 ·refine .inr ⟨hJ.go i d (U _ c) (by rw[Vn];exact a),?_,λx I y=>?_⟩
  ·rw[Vn,n.1,Vn];refine WO (WG _ _) ?_;rw[VQ];omega
  ·obtain⟨e,B⟩:=hJ.sD i d x I (U _ c) (by rw[Vn];exact a) y;subst e;have D:prs[i]?=some prs[i]:=Vp (by omega);have E:j[i]?=some j[i]:=Vp a;rw[Vt,E]at B;obtain rfl:V.ref j[i]=x:=VC B;have mem:prs[i]∈prs:=Wg _;have F:prs.take (i + 1)=prs.take i++[prs[i]]:=by rw[Ws,D];rfl
   refine⟨j[i],prs[i].1,prs[i].2,rfl,jA.of (c _ _ (hT.2 i j[i] _ E (by rw[Vt,D];rfl))),ht prs[i] _ _ mem c λL f=>?_⟩
   cases t:p prs[i] with
   |false=>
    rw[if_neg VJ];refine⟨j.length - (i + 1),by omega,rfl,a,c.trans f,ys,rfl,f _ _ k,?_⟩
    have e:((prs.take (i + 1)).filter p).map g=((prs.take i).filter p).map g:=by
     rw[F,WC];simp[t]
    rw[e];exact n.same f
   |true=>
    rw[if_pos rfl];refine he prs[i] _ _ mem t (c.trans f) λr M s u=>⟨s _ _ (f _ _ k),j.length - (i + 1),by omega,rfl,a,λb o e=>?_,ys++[r],by rw[VE];rfl,by rw[a7,VE];rfl,?_⟩
    ·rw[aa (ae e hl)];exact s _ _ (f _ _ (c _ _ e))
    ·have e:((prs.take (i + 1)).filter p).map g=((prs.take i).filter p).map g++[g prs[i]]:=by
      rw[F,WC];simp[t]
     rw[e];have v:=s _ _ (f _ _ k);refine bY.keep ((n.same (f.trans s)).snoc u) λN G w=>?_;rw[aa (λz=>by rw[z,v]at w;cases w)];exact w
 ·have e:i=j.length:=by omega
  subst e;refine .inl ⟨?_,hd ys d c k ?_⟩
  ·have:=hJ.stop d (U _ c);rwa[Vn]at this
  ·rw[h,W6]at n;exact n
theorem Rd.same(h:Rd H a u)(s:a9 H g):Rd g a u:=by
 rcases h with h |⟨o,h⟩
 ·exact .inl (s _ _ h)
 ·exact .inr ⟨o,s _ _ h⟩
theorem dm.rd{H:Hp}{a:Addr}{kvs:List (Key×V)}{k:Key}(e:Rd H a (.dK kvs)):dm H a (kV k) (bc kvs k):=.inl ⟨kvs,k,e,rfl,rfl⟩
def Iq(tl:TE):TI:=λσ H R=>tl σ H λx H1=>∃d kvs,x=.ref d/\(H1 d=some (.dK kvs)\/∃o,H1 d=some (.frz o (.dK kvs)))/\∀o H',H' d=some (.frz o (.dK kvs))->(∀c,c≠d->H' c=H1 c)->R (FJ d o kvs) H'
theorem xj{X:Cx}(hl:PE X l g)(p:∀{σ H} {Q o:VK},(∀x j,Q x j->o x j)->g σ H Q->g σ H o:=by intro _ _ _ _ h q;obtain⟨v,e,q⟩:=q;exact⟨v,e,h _ _ q⟩):PI X r l (Iq g):=by
 intro c s σ H R I h;refine pY hl c s σ H R I (p (λx j q=>?_) h);obtain⟨d,f,e,a,b⟩:=q;exact⟨d,f,e,xg a b⟩
noncomputable def hitsD(kb ka:List (Key×V)):Bool:=ka.all λkv=>match bc kb kv.1 with
 |some y=>oM kv.2 y
 |none=>false
noncomputable def N3(ka kb:List (Key×V)):Bool:=ka.length == kb.length && hitsD kb ka
noncomputable def qK(kvs:List (Key×V)):Bool:=kvs.all λkv=>cg kv.2
theorem Bm(h:qK kvs=true)(e:bc kvs k=some v):cg v=true:=by
 unfold bc at e
 cases q:kvs.find? λa=>decide (a.1=k) with
 |none=>rw[q]at e;cases e
 |some a=>
  rw[q]at e;have:=Wj.mp h a (List.mem_of_find?_eq_some q);cases e;exact this
section
variable{X:Cx}{A:Around}{s:Shared}
theorem qL(o:KV g j)(r:qK g=true):∀{l:List (Key×V)} {C:List (Key×Value)},KV l C->qK l=true->wcE A s j C (hitsD g l)
 |_,_,.nil,_=>.nil
 |_,_,@Paired.cons _ _ _ p q ps d h t,c=>by
  obtain⟨k,v⟩:=p;obtain⟨f,u⟩:=q;obtain⟨i,m⟩:=h;obtain rfl:k=f:=i;have f1:cg v=true:=Wj.mp c (k,v) (Vz ..);have f2:qK ps=true:=Wj.mpr λz n=>Wj.mp c z (Vw _ n);have w:=qL o r t f2;have a:=o.val k;unfold hitsD;rw[wag];show wcE A s j ((k,u) :: d) ((match bc g k with |some y=>oM v y |none=>false) && _)
  cases e:bc g k with
  |none=>
   rw[e]at a
   cases b:valueAt j k with
   |none=>exact .miss b
   |some y=>rw[b]at a;exact Wk a
  |some y=>
   rw[e]at a
   cases b:valueAt j k with
   |none=>rw[b]at a;exact Wk a
   |some x=>
    rw[b]at a;exact .hit b (yi m a f1 (Bm r e)) w
inductive N4(x y:V)(H:Hp)(Q:VK):Prop
 |mk (a b ka kb) (_:x=.ref a) (_:y=.ref b) (_:Rd H a (.dK ka)) (_:Rd H b (.dK kb)) (_:qK ka=true) (_:qK kb=true) (_:Q (.bl (N3 ka kb)) H)
theorem Ir(g:X.A.units < Yt):md X (WV .Eq) N4:=by
 intro c s σ H x y v u Q I f i h;obtain⟨a,b,r,t,rfl,rfl,ha,j,k,l,q⟩:=h;cases f;cases i;obtain⟨_,m,w,d,n⟩:=kN I.aS ha;obtain⟨_,o,z,e,p⟩:=kN I.aS j;refine PySem.W.keq_eq m o n p g (λ_=>qL e l d k) ⟨.bl _,H,I,rfl,?_⟩;rw[<-d.length,<-e.length];exact q
end
end L2
namespace Bs
open PySem L2
noncomputable def eR(g:Str)(ws ss:List Str)(q:Str×Str):List (Str×Str):=(ch g).filterMap λc=>if bears ws (q.2++⟨#[c]⟩)=true then none else some (q.1++⟨#[c]⟩,lend ss (q.2++⟨#[c]⟩))
noncomputable def cU(g:Str)(ws ss:List Str)(qs:List (Str×Str)):List (Str×Str):=qs.flatMap (eR g ws ss)
noncomputable def hF(g:Str)(ws ss:List Str)(p:Str):Nat->List (Str×Str)
 |0=>[("",p)]
 |n + 1=>cU g ws ss (hF g ws ss p n)
noncomputable def aF(g:Str)(ws ss ls:List Str)(n:Nat)(p:Str):List (Str×Str):=(hF g ws ss p n).filter λq=>decide (q.2∈ls)
theorem yR(g:Str)(ws ss:List Str)(q:Str×Str):(eR g ws ss q).length<=g.length:=by
 unfold eR;have:=Z6 (λc=>if bears ws (q.2++⟨#[c]⟩)=true then none else some (q.1++(⟨#[c]⟩:Str),lend ss (q.2++(⟨#[c]⟩:Str)))) (ch g);rw[aE]at this;exact this
theorem oU(g:Str)(ws ss:List Str)(j:List (Str×Str)):(cU g ws ss j).length<=j.length * g.length:=mD _ _ _ λq _=>yR g ws ss q
theorem mF(g:Str)(ws ss:List Str)(p:Str):∀n,(hF g ws ss p n).length<=g.length ^ n
 |0=>Vy 1
 |n + 1=>VF (oU g ws ss _) (by rw[wc2];exact Yb _ (mF g ws ss p n))
theorem yS(j:("":Str)∈ss)(h:r∈eR g ws ss q):r.2∈ss/\r.1.length=q.1.length + 1:=by
 unfold eR at h;obtain⟨c,_,e⟩:=wa7.mp h;split at e
 ·cases e
 ·cases e;exact⟨mz j _,len_app _ _⟩
theorem qM(j:("":Str)∈ss)(l:p∈ss):∀n,∀r∈hF g ws ss p n,r.2∈ss/\r.1.length=n
 |0,r,h=>by
  rw[VD.mp h];exact⟨l,rfl⟩
 |n + 1,r,h=>by
  obtain⟨q,a,b⟩:=Zw.mp h;have:=yS j b;have:=(qM j l n q a).2;exact⟨‹r.2∈ss/\_›.1,by omega⟩
theorem cq(h:r∈aF g ws ss ls n p):r.2∈ls:=of_decide_eq_true (VR.mp h).2
theorem eS(g:Str)(ws ss ls:List Str)(n:Nat)(p:Str):(aF g ws ss ls n p).length<=g.length ^ n:=VF (WG _ _) (mF g ws ss p n)
noncomputable def oV(q:Str×Str):List V:=[.str q.1,.str q.2]
noncomputable def mG(q:Str×Str):V×V:=(.str q.1,.str q.2)
theorem Aa(g:List (Str×Str)):(g.map mG).map mE=g.map oV:=by
 rw[VG];rfl
structure cH(H:Hp)(l:Addr)(rs:List Addr)(qs:List (Str×Str)):Prop where
 l:H l=some (.lst (rs.map V.ref))
 t:bY H rs (qs.map oV)
theorem cH.same{H g:Hp}{l:Addr}{j:List Addr}{o:List (Str×Str)}(r:cH H l j o)(s:a9 H g):cH g l j o:=⟨s _ _ r.l,r.t.same s⟩
theorem cH.len{H:Hp}{l:Addr}{g:List Addr}{j:List (Str×Str)}(r:cH H l g j):g.length=j.length:=by rw[r.t.1,Vn]
theorem cH.push{H:Hp}{l:Addr}{g:List Addr}{j:List (Str×Str)}(R:cH H l g j){r:Addr}(o:H r=none)(q:Str×Str):cH (upd (upd H r (.tup (oV q))) l (.lst (g.map V.ref++[.ref r]))) l (g++[r]) (j++[q]):=by
 have hl:(upd H r (.tup (oV q))) l=some (.lst (g.map V.ref)):=a9.upd o _ _ R.l;refine⟨by rw[a7,VE];rfl,?_⟩;rw[VE];refine bY.keep ((R.t.same (a9.upd o)).snoc a7) λa b h=>?_;rw[aa (λz=>by rw[z,hl]at h;cases h)];exact h
theorem cH.upd{H:Hp}{l:Addr}{g:List Addr}{j:List (Str×Str)}(R:cH H l g j){d:Addr}{kvs:List (Key×V)}{u:HO}(h:H d=some (.dK kvs)):cH (L2.upd H d u) l g j:=by
 refine⟨?_,R.t.keep λr a b=>?_⟩
 ·rw[aa (λz=>by have:=R.l;rw[z,h]at this;cases this)];exact R.l
 ·grind [aa]
theorem xk(ls:List Str)(g:List (Str×Str)):((g.map mG).filter λq=>kM q.2 (ls.map V.str)).map mE=(g.filter λq=>decide (q.2∈ls)).map oV:=by
 induction g with
 |nil=>rfl
 |cons q g a=>
  have e:kM (mG q).2 (ls.map V.str)=decide (q.2∈ls):=gf q.2 ls;rw[VL]
  by_cases h:q.2∈ls
  ·rw[W8 (by rw[e];exact decide_eq_true h),W8 (by exact decide_eq_true h),VL,VL,a];rfl
  ·rw[Wh (by rw[e];simpa using h),Wh (by simpa using h),a]
noncomputable def eu(g:Str)(ws ss ls:List Str)(n:Nat)(f:Str->Int)(p:Str):Int:=((aF g ws ss ls n p).map λq=>f q.2).sum
def Du(m:List (Str×Int))(ls:List Str)(f:Str->Int):Prop:=∀p∈ls,jN m p=some (f p)
theorem qN(m:List (Str×Int)):qK (aZ m)=true:=Wj.mpr λa h=>by
 obtain⟨p,_,rfl⟩:=Vx.mp h;rfl
theorem o7(h:k∉m.map (·.1))(v:Int):putK (aZ m) (VU k:Key) (.int v)=aZ (m++[(k,v)]):=by
 rw[cx _ (by rw[cN,qJ h];rfl)];unfold aZ;rw[VE];rfl
noncomputable def N5(m:List (Str×Int))(p:Str):Int:=(jN m p).getD 0
theorem yT(h:k∈m.map (·.1)):jN m k=some (N5 m k):=by
 unfold N5
 induction m with
 |nil=>exact nomatch h
 |cons p m a=>
  obtain⟨j,u⟩:=p;unfold jN
  by_cases e:j=k
  ·grind
  ·grind
theorem Du.of(h:m.map (·.1)=ls):Du m ls (N5 m):=λp a=>yT (by grind)
structure yU(H:Hp)(db:Addr)(o:Obj)(ev:List (Str×Addr))(Bf:Str->List (Str×Str))(ls:List Str):Prop where
 d:H db=some (.frz o (.dK (bh ev)))
 k:ev.map (·.1)=ls
 r:∀q∈ev,∃rs,cH H q.2 rs (Bf q.1)
 e:∀p,∀q∈Bf p,q.2∈ls
 n:∀p,(Bf p).length<=1000
 nd:ls.Nodup
 few:ls.length<=60
theorem yU.same{g:Str->List (Str×Str)}(b:yU H j o l g ls)(s:a9 H p):yU p j o l g ls:=
 ⟨s _ _ b.d,b.k,λq a=>let ⟨c,h⟩:=b.r q a;⟨c,h.same s⟩,b.e,b.n,b.nd,b.few⟩
theorem uh{f:Str->Int}:∀{os:List Str},k∈os->jN (os.map λp=>(p,f p)) k=some (f k)
 |[],h=>nomatch h
 |j :: os,h=>by
  show (if j=k then some (f j) else jN (os.map λp=>(p,f p)) k)=_
  by_cases e:j=k
  ·rw[if_pos e,e]
  ·rw[if_neg e];rcases W3.mp h with z |z
   ·grind
   ·exact uh z
end Bs
namespace Sx
open PySem L2 Bs
inductive N6(C:Addr)(vs:List V)(H:Hp)(Q:VK)(eN:XK):Prop
 |mk (x p g ws ss ls) (_:vs=[.ref x,.str p]) (_:aV C H x g ws ss ls) (_:p∈ls) (_:Q .non H)
inductive Dv(C:Addr)(vs:List V)(H:Hp)(Q:VK)(eN:XK):Prop
 |mk (x l rs qs g ws ss ls) (_:vs=[.ref x,.ref l]) (_:aV C H x g ws ss ls) (_:cH H l rs qs) (_:(∀q∈qs,q.2∈ss/\q.1.length<=100)) (_:qs.length<=100) (_:g.length<=10) (_:∀(l':Addr) (N7:List Addr) (H':Hp),a9 H H'->H l'=none->cH H' l' N7 (cU g ws ss qs)->Q (.ref l') H')
inductive Dw(C:Addr)(vs:List V)(H:Hp)(Q:VK)(eN:XK):Prop
 |mk (x:Addr) (p:Str) (n:Nat) (g:Str) (ws ss ls:List Str) (_:vs=[.ref x,.str p,.int (n:Int)]) (_:aV C H x g ws ss ls) (_:p∈ls) (_:g.length ^ n<=100) (_:n<=10) (_:2<=g.length) (_:g.length<=10) (_:∀(l':Addr) (N7:List Addr) (H':Hp),a9 H H'->H l'=none->cH H' l' N7 (aF g ws ss ls n p)->Q (.ref l') H')
inductive xm(C:Addr)(vs:List V)(H:Hp)(Q:VK)(eN:XK):Prop
 |mk (x:Addr) (n:Nat) (g:Str) (ws ss ls:List Str) (_:vs=[.ref x,.int (n:Int)]) (_:aV C H x g ws ss ls) (_:g.length ^ n<=100) (_:n<=10) (_:2<=g.length) (_:g.length<=10) (_:ss.length<=900) (_:∀(d:Addr) (ev:List (Str×Addr)) (H':Hp),a9 H H'->H d=none->H' d=some (.dK (bh ev))->ev.map (·.1)=ls->(∀m∈ev,H' m.2=some (.lst (((aF g ws ss ls n m.1).map (·.2)).map V.str)))->(∀m∈ev,H m.2=none)->Q (.ref d) H')
inductive Dx(K:Vo)(vs:List V)(H:Hp)(Q:VK)(eN:XK):Prop
 |mk (l d es m f) (_:vs=[.ref l,.ref d]) (_:aN K H l (es.map V.str)) (_:es.length<=1000) (_:Rd H d (.dK (aZ m))) (_:Du m es f) (_:∀H',a9 H H'->Q (.int ((es.map f).sum)) H')
end Sx
namespace Bs
open PySem L2 AC
section
variable{g:Str}{ws ss ls:List Str}
theorem qO{α:Type}{a b:α->Int}:∀{l:List α},(∀x∈l,a x<=b x)->(l.map a).sum<=(l.map b).sum
 |[],_=>Xh _
 |x :: l,h=>by
  rw[VL,VL,Wu,Wu];exact Int.add_le_add (h x (Vz ..)) (qO λy c=>h y (Vw _ c))
theorem o8{α:Type}{a:α->Int}{l:List α}(h:∀x∈l,0<=a x):0<=(l.map a).sum:=by
 have:=qO (a:=λ_=>(0:Int)) (b:=a) h
 have e:∀l:List α,(l.map λ_=>(0:Int)).sum=0:=by
  intro l
  induction l with
  |nil=>rfl
  |cons x l c=>grind
 rw[e]at this;exact this
theorem Ab{α:Type}(k:Int)(a:α->Int):∀l:List α,(l.map λx=>k * a x).sum=k * (l.map a).sum:=by intro l;induction l <;> grind [Int.mul_add]
theorem kU{α:Type}{a:α->Int}{p:α->Bool}:∀{l:List α},(∀x∈l,0<=a x)->((l.filter p).map a).sum<=(l.map a).sum
 |[],_=>Xh _
 |x :: l,h=>by
  have c:=kU (p:=p) (l:=l) λy b=>h y (Vw _ b);have:=h x (Vz ..);rw[VL,Wu]
  by_cases e:p x=true
  ·grind
  ·grind
theorem yV(n:Nat):∀p,0<=bM g ws ss n p:=by
 induction n with
 |zero=>intro p;show (0:Int)<=1;decide
 |succ n a=>intro p;exact o8 λe _=>a e
theorem xn(n:Nat)(p:Str):bM g ws ss (n + 1) p=((ch g).map λc=>if bears ws (p++⟨#[c]⟩)=true then 0 else bM g ws ss n (lend ss (p++⟨#[c]⟩))).sum:=by
 show ((cR g ws ss p).map (bM g ws ss n)).sum=_;unfold cR;rw[sR];congr 1;refine Wm λc _=>?_;cases bears ws (p++⟨#[c]⟩) <;> rfl
theorem Dy(j:ss.Perm (bW ws "" ws))(hw:∀w∈ws,1<=w.length)(n:Nat):∀t t':Str,ch t' <:+ ch t->bears ws t=false->bM g ws ss n (lend ss t)<=bM g ws ss n (lend ss t'):=by
 induction n with
 |zero=>intro t t' _ _;exact Xh _
 |succ n i=>
  intro t t' f d;have a:bears ws t'=false:=kC f.isInfix d;rw[xn,xn];refine qO λc _=>?_;rw[lS j d hw,lS j a hw,o1 j d,o1 j a]
  have b:ch (t'++⟨#[c]⟩) <:+ ch (t++⟨#[c]⟩):=by
   rw[aC,aC];obtain⟨u,e⟩:=f;exact⟨u,by rw[<-Wx,e]⟩
  cases h:bears ws (t++⟨#[c]⟩) with
  |true=>
   rw[if_pos rfl];split
   ·exact Xh _
   ·exact yV _ _
  |false=>
   rw[kC b.isInfix h];exact i _ _ b h
theorem qP(j:ss.Perm (bW ws "" ws))(hw:∀w∈ws,1<=w.length)(h:p∈ss):bears ws p=false/\lend ss p=p:=by
 have a:("":Str)∈ss:=j.mem_iff.mpr (bS ws);constructor
 ·rcases mem_keys.mp (j.mem_iff.mp h) with z |z
  ·have:p="":=dq (by rw[z];exact(gZ rfl).symm);rw[this];exact uc hw
  ·exact(cM ws p).mpr z.2
 ·refine dq ?_;rw[iS a];have b:Kq ss (ch p)=true:=iR.mpr h;exact Dm (i9 _) (ia b (waI _))
theorem Iu(j:ss.Perm (bW ws "" ws))(hw:∀w∈ws,1<=w.length)(h:p∈ss)(n:Nat):bM g ws ss n p<=bM g ws ss n "":=by
 have a:("":Str)∈ss:=j.mem_iff.mpr (bS ws);obtain⟨b,c⟩:=qP j hw h;have:=Dy (g:=g) j hw n p "" (by rw[gZ (z:="") rfl];exact wcD) b;rw[c,Dp a]at this;exact this
theorem Dz(q:Str×Str)(h:Str->Int):((eR g ws ss q).map λr=>h r.2).sum=((cR g ws ss q.2).map h).sum:=by
 unfold eR cR
 induction ch g with
 |nil=>rfl
 |cons c a b=>
  grind
theorem xo{α β:Type}(f:α->List β)(h:β->Int):∀l:List α,((l.flatMap f).map h).sum=(l.map λx=>((f x).map h).sum).sum:=by intro l;induction l <;> grind
theorem Ac(p:Str):∀(n m:Nat),((hF g ws ss p n).map λq=>bM g ws ss m q.2).sum=bM g ws ss (n + m) p
 |0,m=>by
  rw[waK];show bM g ws ss m p + 0=_;rw[Int.add_zero]
 |n + 1,m=>by
  show (((hF g ws ss p n).flatMap (eR g ws ss)).map λq=>bM g ws ss m q.2).sum=_;rw[xo];have e:∀q:Str×Str,((eR g ws ss q).map λq=>bM g ws ss m q.2).sum=bM g ws ss (m + 1) q.2:=λq=>Dz q (bM g ws ss m);have a:((hF g ws ss p n).map λx=>((eR g ws ss x).map λq=>bM g ws ss m q.2).sum)=(hF g ws ss p n).map λq=>bM g ws ss (m + 1) q.2:=Wm λq _=>e q;rw[a,Ac p n (m + 1)];congr 1;omega
def y2(g:Str)(ws ss ls:List Str)(many:Int)(n:Nat)(f:Str->Int):Prop:=∀p∈ls,many * f p<=eu g ws ss ls n f p
theorem ui{f:Str->Int}(j:0<=many)(l:0<=top)(o:∀p∈ls,f p<=top)(r:y2 g ws ss ls many n f):∀(k:Nat),∀p∈ls,many ^ k * f p<=top * bM g ws ss (k * n) p
 |0,p,a=>by
  rw[Int.pow_zero,Int.one_mul,Nat.zero_mul];show _<=_ * (1:Int);rw[Int.mul_one];exact o p a
 |k + 1,p,a=>by
  have b:=ui j l o r k;have c:many ^ (k + 1) * f p=many ^ k * (many * f p):=by rw[ZQ,Int.mul_assoc]
  have d:0<=many ^ k:=Int.pow_nonneg j;have e:many ^ k * (many * f p)<=many ^ k * eu g ws ss ls n f p:=ZY (r p a) d;have h:many ^ k * eu g ws ss ls n f p=((aF g ws ss ls n p).map λq=>many ^ k * f q.2).sum:=(Ab _ _ _).symm;have i:((aF g ws ss ls n p).map λq=>many ^ k * f q.2).sum<=((aF g ws ss ls n p).map λq=>top * bM g ws ss (k * n) q.2).sum:=qO λq m=>b q.2 (cq m);have s:((aF g ws ss ls n p).map λq=>top * bM g ws ss (k * n) q.2).sum<=((hF g ws ss p n).map λq=>top * bM g ws ss (k * n) q.2).sum:=kU λq _=>Int.mul_nonneg l (yV _ _)
  have t:((hF g ws ss p n).map λq=>top * bM g ws ss (k * n) q.2).sum=top * bM g ws ss ((k + 1) * n) p:=by
   rw[Ab,Ac,Nat.succ_mul,Nat.add_comm]
  rw[c,<-t];exact Xz e (by rw[h];exact Xz i s)
theorem DA{f:Str->Int}:∀{l:List Str},l≠[]->∃p∈l,∀q∈l,f q<=f p
 |[],h=>absurd rfl h
 |x :: l,_=>by
  by_cases e:l=[]
  ·subst e;exact⟨x,Vz ..,λq a=>by grind⟩
  ·obtain⟨p,b,c⟩:=DA (f:=f) e
   by_cases z:f x<=f p
   ·grind
   ·grind
theorem sS{f:Str->Int}(o:ss.Perm (bW ws "" ws))(hw:∀w∈ws,1<=w.length)(j:∀p∈ls,p∈ss)(r:0<=many)(C:y2 g ws ss ls many n f)(hs:bM g ws ss (k * n) "" < many ^ k):∀p∈ls,f p<=0:=by
 intro p b;obtain⟨q,c,a⟩:=DA (f:=f) (l:=ls) (λz=>by rw[z]at b;exact nomatch b);refine Xz (a p b) ?_
 by_cases d:f q<=0
 ·exact d
 ·exfalso;have e:=ui r (by grind) a C k q c;have h:=Iu (g:=g) o hw (j q c) (k * n);have i:f q * bM g ws ss (k * n) q<=f q * bM g ws ss (k * n) "":=ZY h (by omega);have m:f q * bM g ws ss (k * n) "" < f q * many ^ k:=Int.mul_lt_mul_of_pos_left hs (by omega);rw[Int.mul_comm]at e;omega
noncomputable def bU(f:Str->Int)(ls:List Str):List (Str×Int):=ls.map λp=>(p,f p)
theorem o9(f:Str->Int)(ls:List Str):(bU f ls).map (·.1)=ls:=by
 unfold bU;rw[VG];exact List.map_id _
theorem gK(f:Str->Int)(ls:List Str):Du (bU f ls) ls f:=λp a=>uh a
theorem GR{f h:Str->Int}:N3 (aZ (bU f ls)) (aZ (bU h ls))=true↔∀p∈ls,f p=h p:=by
 unfold N3;rw[ic,ic];have e:(bU f ls).length=(bU h ls).length:=by unfold bU;rw[Vn,Vn]
 rw[e,beq_self_eq_true,Zn];unfold hitsD;rw[Wj];constructor
 ·intro q p a;have:=q ((VU p:Key),.int (f p)) (Vx.mpr ⟨(p,f p),Vx.mpr ⟨p,a,rfl⟩,rfl⟩);have this:(match bc (aZ (bU h ls)) (VU p:Key) with |some y=>oM (.int (f p)) y |none=>false)=true:=this;rw[cN,gK h ls p a]at this;have this:oM (.int (f p)) (.int (h p))=true:=this;unfold oM at this;simpa using this
 ·intro q d b;obtain⟨z,c,rfl⟩:=Vx.mp b;obtain⟨p,a,rfl⟩:=Vx.mp c;show (match bc (aZ (bU h ls)) (VU p:Key) with |some y=>oM (.int (f p)) y |none=>false)=true;rw[cN,gK h ls p a];show oM (.int (f p)) (.int (h p))=true;rw[q p a];unfold oM;simp
noncomputable def ie(g:Str)(ws ss ls:List Str)(many:Int)(n:Nat)(f:Str->Int)(p:Str):Int:=if eu g ws ss ls n f p / many < f p then eu g ws ss ls n f p / many else f p
theorem DB{n:Nat}{f:Str->Int}(h:∀p∈ls,0<=f p)(p:Str):0<=eu g ws ss ls n f p:=o8 λq a=>h _ (cq a)
theorem yW{f h:Str->Int}(e:∀p∈ls,f p<=h p)(p:Str):eu g ws ss ls n f p<=eu g ws ss ls n h p:=qO λq a=>e _ (cq a)
theorem yX(many:Int)(n:Nat)(f:Str->Int)(p:Str):ie g ws ss ls many n f p<=f p:=by
 unfold ie;split <;> omega
theorem yY{f:Str->Int}(j:2<=many)(h:∀p∈ls,0<=f p):∀p∈ls,0<=ie g ws ss ls many n f p:=λp a=>by
 have b:=Int.ediv_nonneg (DB (g:=g) (ws:=ws) (ss:=ss) (n:=n) h p) (show 0<=many by omega);have c:=h p a;unfold ie;split <;> omega
theorem uj{f h:Str->Int}(l:2<=many)(j:y2 g ws ss ls many n f)(e:∀p∈ls,f p<=h p):∀p∈ls,f p<=ie g ws ss ls many n h p:=λp a=>by
 have b:=j p a;have c:=yW (g:=g) (ws:=ws) (ss:=ss) (n:=n) e p;have d:f p<=eu g ws ss ls n h p / many:=(wbe (by omega)).mpr (by grind);have i:=e p a;unfold ie;split <;> omega
theorem vr{f:Str->Int}(j:2<=many)(e:∀p∈ls,ie g ws ss ls many n f p=f p):y2 g ws ss ls many n f:=λp a=>by
 have h:=e p a;unfold ie at h
 have b:f p<=eu g ws ss ls n f p / many:=by
  grind
 have:=(wbe (show 0 < many by omega)).mp b;rw[Int.mul_comm]at this;exact this
theorem yZ{f:Str->Int}(j:2<=many)(o:∀p∈ls,0<=f p)(e:¬∀p∈ls,ie g ws ss ls many n f p=f p):(ls.map λp=>(ie g ws ss ls many n f p).toNat).sum < (ls.map λp=>(f p).toNat).sum:=by
 have b:∀p∈ls,ie g ws ss ls many n f p<=f p:=λp _=>yX many n f p;have c:=yY (g:=g) (ws:=ws) (ss:=ss) (n:=n) j o;generalize ie g ws ss ls many n f=h at e b c
 have key:∀l:List Str,(∀p∈l,h p<=f p/\0<=h p)->(l.map λp=>(h p).toNat).sum<=(l.map λp=>(f p).toNat).sum/\((∃p∈l,h p≠f p)->(l.map λp=>(h p).toNat).sum < (l.map λp=>(f p).toNat).sum):=by
  intro l
  induction l with
  |nil=>intro _;exact⟨Vy _,λ⟨p,a,_⟩=>nomatch a⟩
  |cons x l i=>
   intro hl;obtain⟨m,k⟩:=i λp a=>hl p (Vw _ a);obtain⟨r,s⟩:=hl x (Vz ..);rw[VL,VL,Wu,Wu];refine⟨by omega,λ⟨p,a,d⟩=>?_⟩;rcases W3.mp a with z |z
   ·rw[z]at d;omega
   ·have:=k ⟨p,z,d⟩;omega
 refine(key ls λp a=>⟨b p a,c p a⟩).2 ?_;apply Yc;intro q;exact e λp a=>Yc λz=>q ⟨p,a,z⟩
end
end Bs
namespace Sx
open PySem L2 Bs
inductive DC(C:Addr)(vs:List V)(H:Hp)(Q:VK)(eN:XK):Prop
 |mk (x p n g ws ss ls) (_:vs=[.ref x,.str p,.int n]) (_:aV C H x g ws ss ls) (_:p∈ss) (_:g.length<=10) (_:ss.length<=900) (_:0<=n) (_:n<=100000) (_:∀H',a9 H H'->Q (.int (bM g ws ss n.toNat p)) H')
inductive Bn(vs:List V)(H:Hp)(Q:VK)(eN:XK):Prop
 |mk (de dw many n o ev f g ws ss ls) (_:vs=[.ref de,.int many,.ref dw]) (_:H de=some (.frz o (.dK (bh ev)))) (_:ev.map (·.1)=ls) (_:(∀m∈ev,H m.2=some (.lst (((aF g ws ss ls n m.1).map (·.2)).map V.str)))) (_:g.length ^ n<=100) (_:ls.Nodup) (_:ls.length<=900) (_:2<=many) (_:many<=8) (_:Rd H dw (.dK (aZ (bU f ls)))) (_:∀(d:Addr) (H':Hp),a9 H H'->H d=none->H' d=some (.dK (aZ (bU (ie g ws ss ls many n f) ls)))->Q (.ref d) H')
structure ez(g:Str)(ws ss ls:List Str)(many:Int)(n:Nat)(most:Int)(f:Str->Int):Prop where
 nn:∀p∈ls,0<=f p
 le:∀p∈ls,f p<=most
 fit:y2 g ws ss ls many n f
 top:∀h:Str->Int,(∀p∈ls,h p<=most)->y2 g ws ss ls many n h->∀p∈ls,h p<=f p
inductive FR(C:Addr)(vs:List V)(H:Hp)(Q:VK)(eN:XK):Prop
 |mk (x:Addr) (many:Int) (n:Nat) (most:Int) (g:Str) (ws ss ls:List Str) (_:vs=[.ref x,.int many,.int (n:Int),.int most]) (_:aV C H x g ws ss ls) (_:2<=g.length) (_:g.length<=10) (_:ss.length<=900) (_:gk g.length many n) (_:0<=most) (_:∀(d:Addr) (f:Str->Int) (H':Hp),a9 H H'->H d=none->H' d=some (.dK (aZ (bU f ls)))->ez g ws ss ls many n most f->Q (.ref d) H')
set_option genInjectivity true in
inductive Kw(g:Str)(ws ss:List Str)(many:Int)(n:Nat)(most:Int):V->Prop where
 |some (k:Nat) (a:1<=k) (b:(k:Int)<=most) (c:bM g ws ss (k * n) "" < many ^ k) (d:∀j:Nat,1<=j->j < k->¬bM g ws ss (j * n) "" < many ^ j):Kw g ws ss many n most (.int (k:Nat))
 |none (a:∀j:Nat,1<=j->(j:Int)<=most->¬bM g ws ss (j * n) "" < many ^ j):Kw g ws ss many n most .non
inductive Bo(C:Addr)(vs:List V)(H:Hp)(Q:VK)(eN:XK):Prop
 |mk (x many wide most g ws ss ls) (_:vs=[.ref x,.int many,.int wide,.int most]) (_:aV C H x g ws ss ls) (_:g.length<=10) (_:ss.length<=900) (_:gk g.length many wide) (_:0<=most) (_:most<=100) (_:∀v H',a9 H H'->Kw g ws ss many wide.toNat most v->Q v H')
end Sx
namespace Bs
open PySem L2
end Bs
namespace L2
open PySem PySem.Spec PyProof.Rows
section
variable{X:Cx}
theorem z0:cS X (.type "dict") (λxs H Q=>∃d kvs,xs=[.ref d]/\Rd H d (.dK kvs)/\∀l,H l=none->Q (.ref l) (upd H l (.dK kvs))):=by
 intro a s σ H xs n Q I r h;obtain⟨d,kvs,rfl,hd,q⟩:=h;obtain⟨u,rfl,f⟩:=vals1 r;cases f;obtain⟨c,lo,g,rel,i⟩:=kN I.aS hd;refine kt_call_dict (knd:=b8 X.prog X.w) lo i (by rw[<-rel.length];exact c) λp j k=>?_;have m:=(qk (P:=X.prog) (w:=X.w) (H:=H) s.heap I.big);refine⟨.ref s.heap.objs.size,upd H s.heap.objs.size (.dK kvs),I.laid (t':=s.toks) (λb o e=>?_) (Vy _) ⟨c,m.2.1,g,rel,j⟩,rfl,q _ (I.aS.fresh (Vy _))⟩;exact k.extBut b o (VM (VA e)) (Vv _ e)
end
end L2
namespace Bs
open PySem L2
end Bs
namespace Sx
open PySem L2 Bs
end Sx
namespace Bs
open PySem L2
section
variable{g:Str}{ws ss ls:List Str}
end
end Bs
namespace Sx
open PySem L2 Bs
section
variable{g:Str}{ws ss ls:List Str}{many Pn most GU:Int}{n:Nat}{f f':Str->Int}
theorem ez.Ad(G:ez g ws ss ls many n most f)(j:ez g ws ss ls many n GU f')(h:most<=GU):∀p∈ls,f p<=f' p:=j.top f (λp a=>Xz (G.le p a) h) G.fit
theorem ez.one(G:ez g ws ss ls many n most f)(j:ez g ws ss ls many n most f'):∀p∈ls,f p=f' p:=λp a=>Int.le_antisymm (G.Ad j (Xh _) p a) (j.Ad G (Xh _) p a)
end
end Sx
namespace Bs
open PySem L2 AC
section
variable{g:Str}{ws ss:List Str}
theorem Ae(r:Str):r++("":Str)=r:=dq (by rw[aC,gZ (z:="") rfl,Wr])
theorem FT(r:Str):("":Str)++r=r:=dq (by rw[aC,gZ (z:="") rfl,wcF])
theorem oa(a b c:Str):a++b++c=a++(b++c):=by grind [dq,aC,Wx]
noncomputable def Iv(g:Str):Nat->List Str
 |0=>[""]
 |n + 1=>(ch g).flatMap λc=>(Iv g n).map λr=>(⟨#[c]⟩:Str)++r
noncomputable def Iw(g:Str):Nat->List Str
 |0=>[""]
 |n + 1=>(Iw g n).flatMap λr=>(ch g).map λc=>r++(⟨#[c]⟩:Str)
theorem pZ:∀n,Iw g n=Iv g n
 |0=>rfl
 |1=>by
  show ([""]:List Str).flatMap (λr=>(ch g).map λc=>r++(⟨#[c]⟩:Str))=(ch g).flatMap λc=>([""]:List Str).map λr=>(⟨#[c]⟩:Str)++r;rw[List.flatMap_singleton]
  have:∀a:List Nat,(a.map λc=>("":Str)++(⟨#[c]⟩:Str))=a.flatMap λc=>([""]:List Str).map λr=>(⟨#[c]⟩:Str)++r:=by
   intro a
   induction a with
   |nil=>rfl
   |cons c a b=>
    grind [FT,Ae]
  exact this _
 |n + 2=>by
  show (Iw g (n + 1)).flatMap (λr=>(ch g).map λc=>r++(⟨#[c]⟩:Str))=(ch g).flatMap λc=>(Iv g (n + 1)).map λr=>(⟨#[c]⟩:Str)++r;rw[pZ (n + 1)];show ((ch g).flatMap λc=>(Iv g n).map λr=>(⟨#[c]⟩:Str)++r).flatMap (λr=>(ch g).map λc=>r++(⟨#[c]⟩:Str))=_;rw[List.flatMap_assoc];congr 1;funext c;rw[<-pZ (n + 1)];show _=((Iw g n).flatMap λr=>(ch g).map λc=>r++(⟨#[c]⟩:Str)).map λr=>(⟨#[c]⟩:Str)++r;rw[pZ n,List.map_flatMap,List.flatMap_map];congr 1;funext r;rw[VG];refine Wm λd _=>?_;exact oa _ _ _
theorem uk(nd:(ch g).Nodup):∀n,(Iv g n).Nodup
 |0=>Wn.mpr ⟨λz=>(nomatch z),WH⟩
 |n + 1=>by
  show ((ch g).flatMap λc=>(Iv g n).map λr=>(⟨#[c]⟩:Str)++r).Nodup;have l:=uk nd n
  have key:∀f:List Nat,f.Nodup->(f.flatMap λc=>(Iv g n).map λr=>(⟨#[c]⟩:Str)++r).Nodup:=by
   intro f
   induction f with
   |nil=>intro _;exact WH
   |cons c f i=>
    intro hn;rw[Wn]at hn;rw[Ze];refine Xe.mpr ⟨?_,i hn.2,λa ha b m z=>?_⟩
    ·refine wc8 _ ?_ l;intro a b j z;have:=congrArg ch z;rw[aC,aC]at this;exact j (dq (List.append_cancel_left this))
    ·obtain⟨r,_,rfl⟩:=Vx.mp ha;obtain⟨d,hd,k⟩:=Zw.mp m;obtain⟨q,_,rfl⟩:=Vx.mp k;have:=congrArg ch z;rw[aC,aC,vk,vk]at this
     have e:c=d:=by
      have h:=this;rw[wbo,wbo]at h;exact(wbL h).1
     exact hn.1 (by rw[e];exact hd)
  exact key _ nd
end
end Bs
namespace L2
open PySem PySem.Spec PyProof.Rows
section
variable{X:Cx}
end
end L2
namespace Bs
open PySem L2
end Bs
namespace Sx
open PySem L2 Bs
end Sx
namespace L2
open PySem PySem.Spec PyProof.Rows
section
variable{X:Cx}
end
end L2
namespace Sx
open PySem L2 Bs
end Sx
namespace L2
open PySem PySem.Spec PyProof.Rows
section
variable{X:Cx}{tg:Expr}
end
end L2
namespace Bs
open PySem L2
section
variable{ws ss:List Str}
noncomputable def addQ(ws ss:List Str)(e:Str)(v:Int)(m:List (Str×Int))(c:Nat):List (Str×Int):=if bears ws (e++⟨#[c]⟩)=true then m else bump m (lend ss (e++⟨#[c]⟩)) v
noncomputable def Kx(g:Str)(ws ss:List Str)(m:List (Str×Int))(p:Str×Int):List (Str×Int):=(ch g).foldl (addQ ws ss p.1 p.2) m
noncomputable def GV(g:Str)(ws ss:List Str):Nat->List (Str×Int)
 |0=>[("",1)]
 |n + 1=>(GV g ws ss n).foldl (Kx g ws ss) []
structure d7(ss:List Str)(m:List (Str×Int)):Prop where
 nd:(m.map (·.1)).Nodup
 sh:∀k∈m.map (·.1),k∈ss
theorem d7.nil:d7 ss []:=⟨WH,λk h=>nomatch h⟩
theorem d7.bump(h:d7 ss m)(g:k∈ss):d7 ss (bump m k v):=by
 by_cases c:k∈m.map (·.1)
 ·exact⟨by rw[dh,if_pos c];exact h.nd,by rw[dh,if_pos c];exact h.sh⟩
 ·refine⟨?_,?_⟩
  ·rw[dh,if_neg c];exact Xe.mpr ⟨h.nd,Wn.mpr ⟨λz=>(nomatch z),WH⟩,λa ha b d z=>c (by rw[<-VD.mp d,<-z];exact ha)⟩
  ·rw[dh,if_neg c];intro j e;rcases VP.mp e with z |z
   ·exact h.sh j z
   ·rw[VD.mp z];exact g
theorem d7.add(g:("":Str)∈ss)(h:d7 ss m):d7 ss (addQ ws ss e v m c):=by
 unfold addQ;split
 ·exact h
 ·exact h.bump (mz g _)
theorem d7.fold(g:("":Str)∈ss):∀{cs:List Nat} {m:List (Str×Int)},d7 ss m->d7 ss (cs.foldl (addQ ws ss e v) m)
 |[],m,h=>h
 |c :: cs,m,h=>d7.fold (cs:=cs) g (h.add g)
theorem d7.steps(j:("":Str)∈ss):∀{hs m:List (Str×Int)},d7 ss m->d7 ss (hs.foldl (Kx g ws ss) m)
 |[],m,h=>h
 |p :: hs,m,h=>d7.steps (hs:=hs) j (d7.fold j h)
theorem d7.here(j:("":Str)∈ss):∀n,d7 ss (GV g ws ss n)
 |0=>⟨Wn.mpr ⟨λz=>(nomatch z),WH⟩,λk a=>by
   rw[VD.mp a]
   exact j⟩
 |n + 1=>d7.steps j d7.nil
theorem d7.len(h:d7 ss m):m.length<=ss.length:=by
 have:=gm h.nd h.sh;rw[Vn]at this;exact this
end
end Bs
namespace Sx
open PySem L2 Bs
end Sx
namespace L2
open PySem PySem.Spec PyProof.Rows
section
variable{M:Model}{A:Around}{E:Value->Shared->Prop}{e C CB:Addr}{nm q:Str}{N:Addr}{bs:List Value}{hdct:Bool}{sn:List Str}{sub:List Value}{ab:Bool}{col:Option Bool}{dd:Option Addr}{k0 k1 k2 k3 k5:Option Value}
end
section
variable{X:Cx}{CB C:Addr}{RZ x nm:Str}{b:Bool}{body:List Stmt}{tb:GP}{i jj:Nat}{p1 p2 p3 p4 Ih pos:Pos}
theorem Iy{X:Cx}{K:Vo}{o e:Expr}{l:List Expr}{to:TE}{t:TA}{name:Str}{apos g:Pos}{T id:String}{r:V->List V->Hp->VK->Prop}(hK:X.K=K)(pa:wbv T)(slot:Slot T name id)(U:typeOf (.builtin id)=pure (.type "method_descriptor"))(hm:HF X id r)(ho:PE X o to)(ha:PA X (e :: l) t)
 (p:Y3 o name X.env (eval o X.env)=eval o X.env:=by rfl)
 (J:((backTo g (starEach (e :: l) X.env)).all (λx=>!x.1) && (backToKw g (Zg [] X.env)).all (λx=>x.1.isSome)
   && decide ((e :: l).length + ([]:List wax).length + (if ([]:List wax).isEmpty then 0 else 1) < 30))=true:=by rfl)
 (I:(apos.endLine == g.line)=true:=by rfl) (hs:starEach (e :: l) X.env=(false,eval e X.env) :: starEach l X.env:=by rfl) (j:(backTo g (starEach l X.env)).any (·.1)=false:=by rfl) :
 PE X (.Call (.Attribute o name apos) (e :: l) [] g) (OH K T r to t):=by
 subst hK;exact jf pa slot U hm ho ha p J I hs j
end
end L2
namespace Bs
open PySem L2
section
variable{g:Str}{ws ss:List Str}
structure N8(g r r':Str)(k c d:Nat):Prop where
 eq:∀m,m < k->(ch r)[m]?=(ch r')[m]?
 hc:(ch r)[k]?=some c
 hd:(ch r')[k]?=some d
 lt:∃i j:Nat,(ch g)[i]?=some c/\(ch g)[j]?=some d/\i < j
theorem N8.cons(h:N8 g r j k c d)(e:Nat):N8 g ((⟨#[e]⟩:Str)++r) ((⟨#[e]⟩:Str)++j) (k + 1) c d:=by
 have a:∀z:Str,ch ((⟨#[e]⟩:Str)++z)=e :: ch z:=λz=>by rw[aC,vk];rfl
 refine⟨λm b=>?_,?_,?_,h.lt⟩
 ·rw[a,a]
  cases m with
  |zero=>rfl
  |succ m=>exact h.eq m (by omega)
 ·rw[a];exact h.hc
 ·rw[a];exact h.hd
structure eA(H:Hp)(de:Addr)(g:Str)(ws ss:List Str)(ev:List (Str×Addr)):Prop where
 at_:H de=some (.dK (bh ev))
 nd:(ev.map (·.1)).Nodup
 sh:∀k∈ev.map (·.1),k∈ss
 row:∀m∈ev,H m.2=some (.lst ((cR g ws ss m.1).map V.str))
theorem eA.ne(h:eA H o g ws ss j)(hd:H l=some (.dK p)):∀m∈j,m.2≠l:=by grind [cases eA]
theorem eA.len(h:eA H l g ws ss j):j.length<=ss.length:=by
 have:=gm h.nd h.sh;rw[Vn]at this;exact this
theorem eA.keep(h:eA H l g ws ss r)(hd:H p=some (.dK I))(j:l≠p)(k:∀c o,H c=some o->c≠p->C c=some o):eA C l g ws ss r:=
 ⟨k _ _ h.at_ j,h.nd,h.sh,λm a=>k _ _ (h.row m a) (h.ne hd m a)⟩
theorem eA.same(h:eA H j g ws ss l)(s:a9 H o):eA o j g ws ss l:=⟨s _ _ h.at_,h.nd,h.sh,λm a=>s _ _ (h.row m a)⟩
theorem eA.put(h:eA H j g ws ss l)(o:p∈ss)(hn:p∉l.map (·.1))(ha:H a=some (.lst ((cR g ws ss p).map V.str))):eA (upd H j (.dK (putK (bh l) (VU p:Key) (.ref a)))) j g ws ss (l++[(p,a)]):=by
 refine⟨?_,?_,?_,?_⟩
 ·rw[a7,cx _ (iO hn)];unfold bh;rw[VE];rfl
 ·rw[VE];exact Xe.mpr ⟨h.nd,Wn.mpr ⟨λz=>(nomatch z),WH⟩,λy d b f z=>hn (by have e:b=p:=VD.mp f;rw[<-e,<-z];exact d)⟩
 ·intro k c;rw[VE]at c;rcases VP.mp c with z |z
  ·exact h.sh k z
  ·rw[VD.mp z];exact o
 ·intro m i;rcases VP.mp i with z |z
  ·rw[aa (h.ne h.at_ m z)];exact h.row m z
  ·have:m=(p,a):=by simpa using z
   subst this;have:a≠j:=λz=>by rw[z,h.at_]at ha;cases ha
   rw[aa this];exact ha
end
end Bs
namespace Sx
open PySem L2 Bs
end Sx
namespace L2
open PySem PySem.Spec PyProof.Rows
section
variable{prog:VO}{w:World}{A:Around}{R:Ys->Shared->Prop}{s:Shared}{d it l t:Addr}{i:Nat}{items:Array Value}
end
section
variable{prog:VO}{w:World}{K:Type}[DecidableEq K]{knd:KeyKind prog w K}{A:Around}{E:Value->Shared->Prop}{s:Shared}{l:Addr}{o:Obj}{items:Array Value}{n:Nat}
end
section
variable{X:Cx}{A:Around}{pins:List (Addr×Obj)}{σ:St}{H:Hp}{d it l:Addr}{ts:List Addr}{ps:List (Key×V)}{R:Ys->Shared->Prop}
end
end L2
namespace Bs
open PySem L2
end Bs
namespace Sx
open PySem L2 Bs
end Sx
namespace L2
open PySem PySem.Spec PyProof.Rows
section
variable{X:Cx}
end
end L2
namespace Bs
open PySem L2
section
variable{g:Str}{ws ss UH:List Str}
end
noncomputable def isInt:V->Bool
 |.int _=>true
 |_=>false
end Bs
namespace Sx
open PySem L2 Bs
inductive DE(vs:List V)(H:Hp)(Q:VK)(eN:XK):Prop
 |mk (v) (_:vs=[v]) (_:Thing H v) (_:Q (.bl (isInt v)) H)
end Sx
namespace L2
open PySem PySem.Spec PyProof.Rows
set_option genInjectivity true in
inductive jl where
 |at (v:V)
 |tup (ds:List jl)
 |lst (ds:List jl)
noncomputable def Iz:V->Bool
 |.non=>true
 |.bl _=>true
 |.int _=>true
 |.str _=>true
 |_=>false
mutual
def bG(K:Vo)(H:Hp):jl->V->Prop
 |.at x,v=>v=x/\Iz x=true
 |.tup ds,v=>∃a xs,v=.ref a/\H a=some (.tup xs)/\aW K H ds xs
 |.lst ds,v=>∃a xs,v=.ref a/\Rd H a (.lst xs)/\aW K H ds xs
def aW(K:Vo)(H:Hp):List jl->List V->Prop
 |[],xs=>xs=[]
 |d :: ds,xs=>∃v vs,xs=v :: vs/\bG K H d v/\aW K H ds vs
end
section
variable{K:Vo}{H:Hp}
end
section
variable{X:Cx}{pins:List (Addr×Obj)}{σ:St}{H:Hp}{s:Shared}
end
end L2
namespace L2
open PySem PySem.Spec PyProof.Rows Sx
section
variable{X:Cx}
end
end L2
namespace Bs
open PySem L2 AC
section
variable{g:Str}{ws ss ls:List Str}{p:Str}
noncomputable def jB(ws ss:List Str)(p:Str)(r:Str):Option (Str×Str):=if bears ws (p++r)=true then none else some (r,lend ss (p++r))
theorem DF(h:bears ws (p++a)=true):jB ws ss p (a++c)=none:=by
 unfold jB;rw[if_pos]
 cases e:bears ws (p++(a++c)) with
 |true=>rfl
 |false=>
  have:=kC (a:=p++a) (b:=p++(a++c)) (by rw[<-oa,aC (p++a) c];exact⟨[],ch c,by simp⟩) e;rw[h]at this;cases this
theorem qQ{α β:Type}{f:α->Option β}:∀{l:List α},(∀a∈l,f a=none)->l.filterMap f=[]:=by intro l;induction l <;> grind [Vz,Vw]
theorem um(j:ss.Perm (bW ws "" ws))(hw:∀w∈ws,1<=w.length)(h:bears ws (p++r)=false):∀cs:List Nat,(cs.filterMap λc=>if bears ws (lend ss (p++r)++⟨#[c]⟩)=true then none else some (r++(⟨#[c]⟩:Str),lend ss (lend ss (p++r)++(⟨#[c]⟩:Str))))=(cs.map λc=>r++(⟨#[c]⟩:Str)).filterMap (jB ws ss p)
 |[]=>rfl
 |c :: cs=>by
  rw[VL,Wq,Wq,um j hw h cs]
  have e:(if bears ws (lend ss (p++r)++⟨#[c]⟩)=true then none else some (r++(⟨#[c]⟩:Str),lend ss (lend ss (p++r)++(⟨#[c]⟩:Str))))=jB ws ss p (r++⟨#[c]⟩):=by
   unfold jB;rw[lS j h hw,o1 j h,oa]
  rw[e]
theorem xq(j:ss.Perm (bW ws "" ws))(hw:∀w∈ws,1<=w.length):∀L:List Str,cU g ws ss (L.filterMap (jB ws ss p))=(L.flatMap λr=>(ch g).map λc=>r++(⟨#[c]⟩:Str)).filterMap (jB ws ss p)
 |[]=>rfl
 |r :: L=>by
  rw[Ze,wbp,<-xq j hw L,Wq]
  cases h:bears ws (p++r) with
  |true=>
   have e:jB ws ss p r=none:=by unfold jB;rw[if_pos h]
   rw[e,qQ (l:=(ch g).map λc=>r++(⟨#[c]⟩:Str)) λa ha=>by grind [DF]];rfl
  |false=>
   have e:jB ws ss p r=some (r,lend ss (p++r)):=by unfold jB;rw[if_neg (by rw[h];exact VJ)]
   rw[e,<-um j hw h];exact Ze ..
theorem xr(l:ss.Perm (bW ws "" ws))(hw:∀w∈ws,1<=w.length)(j:p∈ss):∀n,hF g ws ss p n=(Iw g n).filterMap (jB ws ss p)
 |0=>by
  obtain⟨b,a⟩:=qP l hw j;show [(("":Str),p)]=[("":Str)].filterMap (jB ws ss p);have e:jB ws ss p ""=some (("":Str),p):=by unfold jB;rw[Ae,a,if_neg (by grind)]
  rw[Wq,e];rfl
 |n + 1=>by
  show cU g ws ss (hF g ws ss p n)=((Iw g n).flatMap λr=>(ch g).map λc=>r++(⟨#[c]⟩:Str)).filterMap (jB ws ss p);rw[xr l hw j n,xq l hw]
noncomputable def FU(ws ss ls:List Str)(p:Str)(r:Str):Option (Str×Str):=if bears ws (p++r)=true then none else if lend ss (p++r)∈ls then some (r,lend ss (p++r)) else none
theorem z4(l:ss.Perm (bW ws "" ws))(hw:∀w∈ws,1<=w.length)(j:p∈ss)(n:Nat):(Iw g n).filterMap (FU ws ss ls p)=aF g ws ss ls n p:=by
 unfold aF;rw[xr l hw j]
 have:∀L:List Str,L.filterMap (FU ws ss ls p)=(L.filterMap (jB ws ss p)).filter λq=>decide (q.2∈ls):=by
  intro L
  induction L with
  |nil=>rfl
  |cons r L a=>
   rw[Wq,Wq,a];unfold FU jB
   cases h:bears ws (p++r) with
   |true=>rfl
   |false=>
    rw[if_neg VJ,if_neg VJ]
    by_cases hl:lend ss (p++r)∈ls
    ·rw[if_pos hl,W8 (by exact decide_eq_true hl)]
    ·rw[if_neg hl,Wh (by simpa using hl)]
 exact this _
end
end Bs
namespace L2
open PySem Bs
end L2
namespace Sx
open PySem L2 Bs
end Sx
namespace L2
open PySem PySem.Spec PyProof.Rows Sx
section
variable{X:Cx}
end
theorem aW.og{K:Vo}{H:Hp}:∀(g:List jl) (ys:List V),g.length=ys.length->(∀(i:Nat) (d:jl) (y:V),g[i]?=some d->ys[i]?=some y->bG K H d y)->aW K H g ys
 |[],[],_,_=>rfl
 |[],_ :: _,h,_=>by simp at h
 |_ :: _,[],h,_=>by simp at h
 |d :: g,y :: ys,h,r=>⟨y,ys,rfl,r 0 d y rfl rfl,aW.og g ys (by simpa using h) λi a b c e=>r (i + 1) a b c e⟩
theorem xt{Ok:Hp->Prop}{Q:Hp->Prop}(R:Nat->V->Hp->Prop)(I:∀i y T g ys,R i y T->T l=some (.lst ys)->(∀b o,T b=some o->b≠l->g b=some o)->R i y g)(U:kK J Ok xs)(hl:H l=none)(hz:xs.length<=sizeLine)(r:∀p,a9 H p->Ok p)
 (he:∀i x C ys Q',xs[i]?=some x->a9 H C->C l=some (.lst ys)->(∀y p,a9 C p->R i y p->Q' y p)->te (some x :: σf) C Q')
 (hd:∀ys p,a9 H p->p l=some (.lst ys)->ys.length=xs.length->(∀i y,ys[i]?=some y->R i y p)->Q p):kQ J l σf sM te H Q:=by
 refine⟨λi m a g=>m=xs.length - i/\i<=xs.length/\a9 H g/\g l=some (.lst a)/\a.length=i/\∀j y,a[j]?=some y->R j y g,⟨xs.length,by simp,Wb _,a9.upd hl,a7,rfl,λj y h=>by simp at h⟩,?_⟩;rintro i m a g ⟨rfl,hi,f,k,c,A⟩;refine⟨k,?_⟩
 by_cases d:i < xs.length
 ·refine .inr ⟨U.go i g (r _ f) d,by rw[c];omega,λx C y=>?_⟩;obtain⟨e,B⟩:=U.sD i g x C (r _ f) d y;subst e;unfold sM;dsimp only;rw[if_pos rfl];refine he i x _ a _ B f k λy s t u=>⟨t _ _ k,xs.length - (i + 1),by omega,rfl,d,λb o e=>?_,a7,by rw[Vs,c];rfl,λj z n=>?_⟩
  ·rw[aa (ae e hl)];exact t _ _ (f _ _ e)
  ·have q:=t _ _ k;have kp:∀b o,s b=some o->b≠l->(upd s l (.lst (a++[y]))) b=some o:=λb o e D=>by rw[aa D];exact e
   by_cases v:j < a.length
   ·rw[VZ v]at n;exact I j z s _ _ (I j z _ _ _ (A j z n) k λb o e _=>t _ _ e) q kp
   ·rw[VY (by omega)]at n
    have w:j - a.length=0:=by
     have:=(Vu.mp n).1;simp at this;omega
    rw[w]at n;cases n;have:j=i:=by omega
    rw[this];exact I i y s _ _ u q kp
 ·have e:i=xs.length:=by omega
  subst e;exact .inl ⟨U.stop g (r _ f),hd a g f k c A⟩
section
variable{X:Cx}
theorem Bp{K:Vo}(J:X.K=K):HF X "list.index" (λx xs H Q=>∃l g k i,x=.ref l/\xs=[.str k]/\aN K H l (Zu V.str g)/\g.length<=1000/\g[i]?=some k/\(∀j:Nat,j < i->g[j]?≠some k)/\Q (.int (i:Nat)) H):=by
 subst J;intro A s σ H x xs v U Q I E G h;obtain⟨l,g,k,i,rfl,rfl,L,M,hi,f,q⟩:=h;cases E;obtain⟨u,rfl,N,rfl⟩:=G.one;obtain⟨a,B,pl,Y⟩:=I.list L;obtain⟨⟨cls,O,data,sl⟩,C,hc,n,hd⟩:=pl.isList;simp only at hc hd;subst hc hd;have c:=B.length;rw[Vn]at c;have P:i < g.length:=(Vu.mp hi).1
 have at_:∀m (b:m < a.length),∃t,a[m]=.str (g[m]'(by omega)) t:=λm b=>by
  obtain⟨w,D,R⟩:=B.get (i:=m) (x:=.str (g[m]'(by omega))) (by rw[Vt,Vp (by omega)];rfl);rw[Vp b]at D;obtain⟨t,rfl⟩:=R;exact⟨t,VC D⟩
 refine call_meets waP ⟨_,C,rfl⟩ PySem.F.entry_list_index (PySem.F.args_list_index_2 _ _)
  (PySem.SeqAt.list_indexAt l a.toArray n O sl (.str k N) (λw=>match w with |.str z _=>z == k |_=>false) i (by simp;omega) (by omega) ?_ ?_) ⟨C,λy S=>?_,?_⟩
 ·obtain⟨t,e⟩:=at_ i (by omega);have T:g[i]=k:=(Vu.mp hi).2;simp only[wbB];rw[e,T];simp
 ·intro m b o;have p:m < a.length:=by simpa using b
  obtain⟨t,e⟩:=at_ m p;simp only[wbB];rw[e];have d:=f m o;rw[Vp (by omega)]at d;simp only[beq_eq_false_iff_ne,ne_eq];exact λz=>d (by rw[z])
 ·have r:y∈a:=by simpa using S
  obtain⟨m,b,rfl⟩:=XI r;obtain⟨t,e⟩:=at_ m b;rw[e];exact wbk _ _ _ _
 ·exact⟨.int (i:Nat),H,I.tok _,⟨_,rfl⟩,q⟩
end
end L2
namespace L2
open PySem PySem.Spec PyProof.Rows Sx Bs
theorem mH(s:a9 H g)(h:Rd H a o):Rd g a o:=by
 rcases h with e |⟨z,e⟩
 ·exact .inl (s _ _ e)
 ·exact .inr ⟨z,s _ _ e⟩
theorem a9.FV{K:Vo}{H g:Hp}{a:Addr}{xs:List V}(s:a9 H g)(h:jA K H a xs):jA K g a xs:=by
 rcases h with e |e
 ·exact .inl (mH s e)
 ·exact .inr e
mutual
theorem bG.same{K:Vo}{H g:Hp}(s:a9 H g):∀(d:jl) (v:V),bG K H d v->bG K g d v
 |.at _,_,h=>h
 |.tup c,_,h=>by
  obtain⟨a,b,e,f,hl⟩:=h;exact⟨a,b,e,s _ _ f,aW.same s c b hl⟩
 |.lst c,_,h=>by
  obtain⟨a,b,e,f,hl⟩:=h;exact⟨a,b,e,mH s f,aW.same s c b hl⟩
theorem aW.same{K:Vo}{H j:Hp}(s:a9 H j):∀(g:List jl) (xs:List V),aW K H g xs->aW K j g xs
 |[],_,h=>h
 |d :: g,_,h=>by
  obtain⟨v,a,e,b,hl⟩:=h;exact⟨v,a,e,bG.same s d v b,aW.same s g a hl⟩
end
theorem aW.len{K:Vo}{H:Hp}:∀{g:List jl} {xs:List V},aW K H g xs->xs.length=g.length
 |[],xs,h=>by
  have e:xs=[]:=h;subst e;rfl
 |d :: g,_,h=>by
  obtain⟨v,a,rfl,_,hl⟩:=h;rw[Wa,Wa,aW.len hl]
theorem aW.get{K:Vo}{H:Hp}:∀{g:List jl} {xs:List V},aW K H g xs->∀(i:Nat) (x:V),xs[i]?=some x->∃d,g[i]?=some d/\bG K H d x
 |[],_,h,i,x,e=>by
  rw[show _=[] from h]at e;simp at e
 |d :: g,_,h,i,x,e=>by
  obtain⟨v,a,rfl,b,hl⟩:=h
  cases i with
  |zero=>grind
  |succ i=>exact aW.get hl i x e
theorem aW.at{K:Vo}{H:Hp}{g:List jl}{xs:List V}(h:aW K H g xs){i:Nat}{d:jl}(e:g[i]?=some d):∃x,xs[i]?=some x/\bG K H d x:=by
 have hi:i < g.length:=(Vu.mp e).1;have a:xs[i]?=some (xs[i]'(by rw[h.len];exact hi)):=Vp _;obtain⟨c,b,r⟩:=h.get i _ a;rw[e]at b;cases b;exact⟨_,a,r⟩
noncomputable def aG(H H':Hp):Hp:=λa=>match H a with
 |none=>H' a
 |some _=>none
theorem dS(H g:Hp):a9 (aG H g) g:=λa o e=>by
 grind [aG]
theorem dU(s:a9 g H):a9 (aG H j) (aG g j):=λa o e=>by
 unfold aG at e ⊢
 cases h:H a with
 |none=>rw[h]at e;rw[none_of s h];exact e
 |some z=>rw[h]at e;cases e
theorem gn(s:a9 g j):a9 (aG H g) (aG H j):=by grind [a9,aG]
theorem bZ(hl:H l=some o)(kp:∀b o,g b=some o->b≠l->j b=some o):a9 (aG H g) (aG H j):=by grind [a9,aG]
theorem bF(h:H a=none)(e:g a=some o):aG H g a=some o:=by
 grind [aG]
theorem xu{K:Vo}{J:It}{Ok:Hp->Prop}{xs:List V}{l:Addr}{C:St}{te:TE}{H:Hp}{Q:Hp->Prop}(p:List jl)(hJ:kK J Ok xs)(hl:H l=none)(hz:xs.length<=sizeLine)(I:p.length=xs.length)(T:∀g,a9 H g->Ok g)
 (he:∀(i:Nat) (x:V) (d:jl) j U,xs[i]?=some x->p[i]?=some d->a9 H j->(∀y g,a9 j g->bG K (aG j g) d y->U y g)->te (some x :: C) j U)
 (hd:∀g,a9 H g->bG K (aG H g) (.lst p) (.ref l)->Q g):kQ J l C sM te H Q:=by
 refine xt (λi y g=>∀d,p[i]?=some d->∃j o,a9 H j/\j l=some o/\bG K (aG j g) d y) ?_ hJ hl hz T (λi x j f U k b c m=>?_) (λf g h n e q=>?_)
 ·intro i y u v f r s kp d a;obtain⟨j,o,b,c,r⟩:=r d a;exact⟨j,o,b,c,bG.same (bZ c kp) d y r⟩
 ·have hi:i < p.length:=by rw[I];exact(Vu.mp k).1
  refine he i x p[i] j _ k (Vp hi) b λy g h r=>m y g h λd a=>?_;rw[Vp hi]at a;cases a;exact⟨j,_,b,c,r⟩
 ·refine hd g h ⟨l,f,rfl,.inl (bF hl n),aW.og p f (by rw[I,e]) λi d y a t=>?_⟩;obtain⟨j,o,b,c,r⟩:=q i y t d a;exact bG.same (dU b) d y r
theorem oh{K:Vo}{J:It}{Ok:Hp->Prop}{xs:List V}{prs:List (V×V)}{l:Addr}{T:St}{tt:TT}{te:TE}{H:Hp}{Q:Hp->Prop}(p:V×V->Bool)(D:V×V->jl)(hJ:kK J Ok xs)(I:xs.length=prs.length)
 (hT:∀(i:Nat) (q:V×V),prs[i]?=some q->∃r,xs[i]?=some (.ref r)/\jA K H r [q.1,q.2]) (hl:H l=none) (hz:xs.length<=sizeLine) (U:∀C,a9 H C->Ok C)
 (ht:∀q g Q',q∈prs->a9 H g->(∀C,a9 g C->Q' (p q) C)->tt (some q.1 :: some q.2 :: T) g Q')
 (he:∀q g Q',q∈prs->p q=true->a9 H g->(∀y C,a9 g C->bG K (aG g C) (D q) y->Q' y C)->te (some q.1 :: some q.2 :: T) g Q')
 (hd:∀C,a9 H C->bG K (aG H C) (.lst ((prs.filter p).map D)) (.ref l)->Q C):iT K J l T tt te H Q:=by
 refine⟨λi m c s=>m=xs.length - i/\i<=xs.length/\a9 H s/\s l=some (.lst c)/\c.length=((prs.take i).filter p).length/\∀(j:Nat) (d:jl) (y:V),(((prs.take i).filter p).map D)[j]?=some d->c[j]?=some y->∃g o,a9 H g/\g l=some o/\bG K (aG g s) d y,
  ⟨xs.length,by simp,Wb _,a9.upd hl,a7,by simp,λj d y h=>by simp at h⟩,?_⟩
 rintro i m c s ⟨rfl,hi,k,L,f,S⟩;refine⟨L,?_⟩
 by_cases n:i < xs.length
 ·have S0:((prs.take i).filter p).length<=i:=VF (WG _ _) (by rw[VQ];omega);refine .inr ⟨hJ.go i s (U _ k) n,by omega,λx g y=>?_⟩;obtain⟨e,hx⟩:=hJ.sD i s x g (U _ k) n y;subst e;have X:prs[i]?=some prs[i]:=Vp (by omega);obtain⟨r,w,hr⟩:=hT i _ X;rw[hx]at w;cases w;have mem:prs[i]∈prs:=Wg _;have Y:prs.take (i + 1)=prs.take i++[prs[i]]:=by rw[Ws,X];rfl
  refine⟨r,prs[i].1,prs[i].2,rfl,k.FV hr,ht prs[i] _ _ mem k λZ u=>?_⟩
  have A:∀(j:Nat) (d:jl) (y:V),(((prs.take i).filter p).map D)[j]?=some d->c[j]?=some y->∃g o,a9 H g/\g l=some o/\bG K (aG g Z) d y:=λj d y h1 h3=>by
   obtain⟨M,o,B,h5,N⟩:=S j d y h1 h3;exact⟨M,o,B,h5,bG.same (gn u) d y N⟩
  cases O:p prs[i] with
  |false=>
   rw[if_neg VJ];have E:(prs.take (i + 1)).filter p=(prs.take i).filter p:=by rw[Y,WC];simp[O]
   exact⟨xs.length - (i + 1),by omega,rfl,n,k.trans u,u _ _ L,by rw[E];exact f,by rw[E];exact A⟩
  |true=>
   rw[if_pos rfl];have E:(prs.take (i + 1)).filter p=(prs.take i).filter p++[prs[i]]:=by rw[Y,WC];simp[O]
   have v:=u _ _ L;refine he prs[i] _ _ mem O (k.trans u) λy M B N=>⟨B _ _ v,xs.length - (i + 1),by omega,rfl,n,λb o e=>?_,a7,by rw[E,Vs,Vs,f];rfl,λj d z t a=>?_⟩
   ·rw[aa (ae e hl)];exact B _ _ (u _ _ (k _ _ e))
   ·have kp:∀b o,M b=some o->b≠l->(upd M l (.lst (c++[y]))) b=some o:=λb o e hb=>by rw[aa hb];exact e
    rw[E,VE]at t;have P:(((prs.take i).filter p).map D).length=c.length:=by rw[Vn,f]
    by_cases R:j < c.length
    ·rw[VZ (by omega)]at t;rw[VZ R]at a;obtain⟨H6,o,s6,h6,r6⟩:=A j d z t a;exact⟨H6,o,s6,h6,bG.same ((gn B).trans (bZ h6 kp)) d z r6⟩
    ·rw[VY (by omega)]at t a
     have F:j - c.length=0:=by
      have:=(Vu.mp a).1;simp at this;omega
     rw[P,F]at t;rw[F]at a;cases t;cases a;exact⟨Z,_,k.trans u,v,bG.same (bZ v kp) _ _ N⟩
 ·have e:i=xs.length:=by omega
  subst e;refine .inl ⟨hJ.stop s (U _ k),hd s k ⟨l,c,rfl,.inl (bF hl L),aW.og _ c ?_ λj d y t hy=>?_⟩⟩
  ·rw[I,W6]at f;rw[Vn,f]
  ·have G:=S j d y;rw[I,W6]at G;obtain⟨g,o,s3,h3,r3⟩:=G t hy;exact bG.same (dU s3) d y r3
noncomputable def eM(H:Hp)(x:Addr):Hp:=λd=>if d=x then none else H d
theorem jO(h:H d=some o)(hd:d≠x):eM H x d=some o:=by
 unfold eM;rw[if_neg hd];exact h
theorem kE(kp:∀b o,H b=some o->b≠x->g b=some o):a9 (eM H x) g:=λd o e=>by
 unfold eM at e
 by_cases hd:d=x
 ·grind
 ·grind
theorem IA(j:H x=some (.ins C g fs))(h:Rd H d o)(l:∀z,o≠.ins C g z)(p:∀a b,HO.frz a b≠.ins C g fs):Rd (eM H x) d o:=by grind [Rd,eM,jO,VC]
theorem Af{K:Vo}{H:Hp}{x C g:Addr}{fs:List (Str×V)}(j:H x=some (.ins C g fs)){d:Addr}{ys:List V}(h:aN K H d ys):aN K (eM H x) d ys:=by
 rcases h with(e |⟨o,e⟩) |e
 ·exact .inl (.inl (jO e λz=>by grind))
 ·exact .inl (.inr ⟨o,jO e λz=>by grind⟩)
 ·exact .inr e
mutual
theorem bG.off{K:Vo}{H:Hp}{x C j:Addr}{fs:List (Str×V)}(g:H x=some (.ins C j fs)):∀(d:jl) (v:V),bG K H d v->bG K (eM H x) d v
 |.at _,_,h=>h
 |.tup c,_,h=>by
  obtain⟨a,b,e,f,hl⟩:=h;exact⟨a,b,e,jO f (λz=>by grind),aW.off g c b hl⟩
 |.lst c,_,h=>by
  obtain⟨a,b,e,f,hl⟩:=h;exact⟨a,b,e,IA g f (λ_ z=>by cases z) (λ_ _ z=>by cases z),aW.off g c b hl⟩
theorem aW.off{K:Vo}{H:Hp}{x C l:Addr}{fs:List (Str×V)}(j:H x=some (.ins C l fs)):∀(g:List jl) (xs:List V),aW K H g xs->aW K (eM H x) g xs
 |[],_,h=>h
 |d :: g,_,h=>by
  obtain⟨v,a,e,b,hl⟩:=h;exact⟨v,a,e,bG.off j d v b,aW.off j g a hl⟩
end
theorem fV{K:Vo}{H:Hp}{d:jl}{v:V}:∀{g:List jl} {xs:List V},aW K H g xs->bG K H d v->aW K H (g++[d]) (xs++[v])
 |[],xs,h,r=>by
  have e:xs=[]:=h;subst e;exact⟨v,[],rfl,r,rfl⟩
 |c :: g,_,h,r=>by
  obtain⟨v0,a,rfl,b,hl⟩:=h;exact⟨v0,a++[v],rfl,b,fV hl r⟩
end L2
namespace Bs
open PySem L2 Sx
noncomputable def jm(q:Str×Nat):jl:=.tup [.at (.str q.1),.at (.int (q.2:Int))]
noncomputable def cj(qs:List (Str×Nat)):jl:=.lst (qs.map jm)
noncomputable def vt(lns:List (List (Str×Nat))):jl:=.lst (lns.map cj)
noncomputable def qR(hs:List Str):jl:=.lst (hs.map λh=>.at (.str h))
noncomputable def kW(ws:List Int):jl:=.lst (ws.map λw=>.at (.int w))
theorem DG(h:bG K H (qR hs) v):∃a,v=.ref a/\aN K H a (hs.map V.str):=by
 obtain⟨a,b,rfl,f,hl⟩:=h;refine⟨a,rfl,?_⟩
 have:b=hs.map V.str:=by
  refine wc9 λi=>?_
  cases e:b[i]? with
  |none=>
   have:=hl.len;rw[Vn]at this;rw[wbq (by rw[Vn];have:=Y7.mp e;omega)]
  |some x=>
   obtain⟨d,hd,r⟩:=hl.get i x e;rw[Vt]at hd ⊢
   cases c:hs[i]? with
   |none=>rw[c]at hd;cases hd
   |some z=>
    rw[c]at hd;cases hd;rw[r.1];rfl
 rw[<-this];exact .inl f
theorem gp(h:bG K H (kW ws) v):∃a,v=.ref a/\aN K H a (ws.map V.int):=by
 obtain⟨a,b,rfl,f,hl⟩:=h;refine⟨a,rfl,?_⟩
 have:b=ws.map V.int:=by
  refine wc9 λi=>?_
  cases e:b[i]? with
  |none=>
   have:=hl.len;rw[Vn]at this;rw[wbq (by rw[Vn];have:=Y7.mp e;omega)]
  |some x=>
   obtain⟨d,hd,r⟩:=hl.get i x e;rw[Vt]at hd ⊢
   cases c:ws[i]? with
   |none=>rw[c]at hd;cases hd
   |some z=>
    rw[c]at hd;cases hd;rw[r.1];rfl
 rw[<-this];exact .inl f
theorem qS(h:H a=some (.lst (hs.map V.str))):bG K H (qR hs) (.ref a):=
 ⟨a,_,rfl,.inl h,aW.og _ _ (by simp) λi d y hd b=>by
   rw[Vt]at hd b
   cases e:hs[i]? with
   |none=>rw[e]at hd;cases hd
   |some z=>rw[e]at hd b;cases hd;cases b;exact⟨rfl,rfl⟩⟩
theorem ig(h:H a=some (.lst (ws.map V.int))):bG K H (kW ws) (.ref a):=
 ⟨a,_,rfl,.inl h,aW.og _ _ (by simp) λi d y hd b=>by
   rw[Vt]at hd b
   cases e:ws[i]? with
   |none=>rw[e]at hd;cases hd
   |some z=>rw[e]at hd b;cases hd;cases b;exact⟨rfl,rfl⟩⟩
noncomputable def dW(q:Str×Nat):V×V:=(.str q.1,.int (q.2:Int))
theorem lV(h:bG K H (cj g) v):∃a xs,v=.ref a/\aN K H a xs/\xs.length=(g.map dW).length/\∀(i:Nat) (q:V×V),(g.map dW)[i]?=some q->∃r,xs[i]?=some (.ref r)/\H r=some (.tup [q.1,q.2]):=by
 obtain⟨a,xs,rfl,j,hl⟩:=h;refine⟨a,xs,rfl,.inl j,by rw[hl.len,Vn,Vn],λi q b=>?_⟩;rw[Vt]at b
 cases e:g[i]? with
 |none=>rw[e]at b;cases b
 |some z=>
  rw[e]at b;cases b;obtain⟨x,k,r⟩:=hl.at (i:=i) (d:=jm z) (by grind);obtain⟨l,p,rfl,f,m⟩:=r;obtain⟨v1,s,rfl,⟨rfl,_⟩,n⟩:=m;obtain⟨t,c,rfl,⟨rfl,_⟩,o⟩:=n;rw[show c=[] from o]at f;exact⟨l,k,f⟩
theorem qU(g:H r=none)(q:Str×Nat):bG K (aG H (upd H r (.tup [.str q.1,.int (q.2:Int)]))) (jm q) (.ref r):=
 ⟨r,_,rfl,bF g a7,.str q.1,[.int (q.2:Int)],rfl,⟨rfl,rfl⟩,.int (q.2:Int),[],rfl,⟨rfl,rfl⟩,rfl⟩
noncomputable def oW(a:Addr):List (Str×V):=[("homes",.ref a)]
noncomputable def mI(a b:Addr):List (Str×V):=[("homes",.ref a),("weights",.ref b)]
noncomputable def z6(a b c:Addr):List (Str×V):=[("homes",.ref a),("weights",.ref b),("lines",.ref c)]
theorem GW(a:Addr):d4 "homes" (.ref a) []=oW a:=rfl
theorem DH(a b:Addr):d4 "weights" (.ref b) (oW a)=mI a b:=by
 show (if ("homes":Str)="weights" then(("homes":Str),V.ref b) :: [] else(("homes":Str),V.ref a) :: d4 "weights" (.ref b) [])=_;rw[if_neg (by decide+kernel)];rfl
theorem Ag(a b c:Addr):d4 "lines" (.ref c) (mI a b)=z6 a b c:=by
 show (if ("homes":Str)="lines" then(("homes":Str),V.ref c) :: [(("weights":Str),V.ref b)] else(("homes":Str),V.ref a) :: (if ("weights":Str)="lines" then(("weights":Str),V.ref c) :: [] else(("weights":Str),V.ref b) :: d4 "lines" (.ref c) []))=_;rw[if_neg (by decide+kernel),if_neg (by decide+kernel)];rfl
theorem fA(a b c:Addr):(z6 a b c).lookup ("homes":Str)=some (.ref a):=by
 rw[<-Ag,aD,if_neg (by decide+kernel),<-DH,aD,if_neg (by decide+kernel),<-GW,aD,if_pos rfl]
theorem bT(a b c:Addr):(z6 a b c).lookup ("weights":Str)=some (.ref b):=by
 rw[<-Ag,aD,if_neg (by decide+kernel),<-DH,aD,if_pos rfl]
theorem bj(a b c:Addr):(z6 a b c).lookup ("lines":Str)=some (.ref c):=by
 rw[<-Ag,aD,if_pos rfl]
structure bC(K:Vo)(C:Addr)(H:Hp)(x:Addr)(hs:List Str)(ws:List Int)(lns:List (List (Str×Nat))):Prop where
 ex:∃dx a b c,H x=some (.ins C dx (z6 a b c))/\bG K H (qR hs) (.ref a)/\bG K H (kW ws) (.ref b)/\bG K H (vt lns) (.ref c)
theorem bC.same(h:bC K C H x hs ws lns)(s:a9 H g):bC K C g x hs ws lns:=by
 obtain⟨d,a,b,c,e,f,i,j⟩:=h;exact⟨d,a,b,c,s _ _ e,bG.same s _ _ f,bG.same s _ _ i,bG.same s _ _ j⟩
end Bs
namespace Sx
open PySem L2 Bs
inductive DI(K:Vo)(vs:List V)(H:Hp)(Q:VK)(eN:XK):Prop
 |mk (v qs) (_:vs=[v]) (_:bG K H (cj qs) v) (_:qs.length<=10000) (_:∀y H',a9 H H'->bG K (aG H H') (cj qs) y->Q y H')
inductive DJ(K:Vo)(C:Addr)(vs:List V)(H:Hp)(Q:VK)(eN:XK):Prop
 |mk (x dx u v w hs ws lns) (_:vs=[.ref x,u,v,w]) (_:H x=some (.ins C dx [])) (_:bG K H (qR hs) u) (_:bG K H (kW ws) v) (_:bG K H (vt lns) w) (_:hs.length<=10000) (_:ws.length<=10000) (_:lns.length<=10000) (_:(∀l∈lns,l.length<=10000)) (_:∀a b c H',H' x=some (.ins C dx (z6 a b c))->bG K (aG H H') (qR hs) (.ref a)->bG K (aG H H') (kW ws) (.ref b)->bG K (aG H H') (vt lns) (.ref c)->(∀b o,H b=some o->b≠x->H' b=some o)->Q .non H')
end Sx
namespace Bs
open PySem L2 Sx
noncomputable def ak(ls:List Str)(f:Str->Int):List Str:=ls.filter λp=>decide (0 < f p)
noncomputable def eT(g:Str)(ws ss ls:List Str)(n:Nat)(hs:List Str)(p:Str):List (Str×Nat):=((aF g ws ss ls n p).filter λq=>decide (q.2∈hs)).map λq=>(q.1,hs.idxOf q.2)
noncomputable def bg(g:Str)(ws ss ls:List Str)(n:Nat)(hs:List Str):List (List (Str×Nat)):=hs.map (eT g ws ss ls n hs)
theorem z7(g:Str)(ws ss ls:List Str)(n:Nat)(hs:List Str)(p:Str):(eT g ws ss ls n hs p).length<=g.length ^ n:=by
 unfold eT;rw[Vn];exact VF (WG _ _) (eS g ws ss ls n p)
theorem oX:∀{hs:List Str} {j:Nat} (h:j < hs.length),hs.idxOf hs[j]<=j
 |[],j,h=>absurd h (ZR _)
 |a :: hs,0,h=>by
  show (a :: hs).idxOf a<=0;rw[List.idxOf_cons_self];exact Vy 0
 |a :: hs,j + 1,h=>by
  have b:j < hs.length:=by simpa using h
  show (a :: hs).idxOf hs[j]<=j + 1;rw[List.idxOf_cons];have:=oX b
  cases(a == hs[j]) with
  |true=>grind
  |false=>grind
theorem oi{hs:List Str}{k:Str}(h:k∈hs):hs[hs.idxOf k]?=some k/\∀j:Nat,j < hs.idxOf k->hs[j]?≠some k:=by grind [Vp,VC,oX]
end Bs
namespace Sx
open PySem L2 Bs
inductive FW(K:Vo)(C CS:Addr)(vs:List V)(H:Hp)(Q:VK)(eN:XK):Prop
 |mk (x d:Addr) (many:Int) (n:Nat) (m:List (Str×Int)) (f:Str->Int) (g:Str) (ws ss ls:List Str) (_:vs=[.ref x,.int many,.int (n:Int),.ref d]) (_:aV C H x g ws ss ls) (_:2<=g.length) (_:g.length<=10) (_:ss.length<=900) (_:gk g.length many n) (_:Rd H d (.dK (aZ m))) (_:Du m ls f) (_:∀(y:Addr) (H':Hp),a9 H H'->bC K CS (aG H H') y (ak ls f) ((ak ls f).map f) (bg g ws ss ls n (ak ls f))->Q (.ref y) H')
end Sx
namespace L2
open PySem PySem.Spec PyProof.Rows Sx
section
variable{X:Cx}
end
end L2
namespace L2
open PySem
theorem dG.rd(h:Rd H a (.lst xs)):dG K H (.ref a) (.type "list"):=by
 rcases h with e |⟨o,e⟩
 ·exact .lst e
 ·exact .frz e
end L2
namespace PySem
section
variable{P:VO}{W0:World}{B:Around}{R:Ys->Shared->Prop}{I:Addr}{fp wr:List Addr}{n:Nat}{Pr:Nat->Value->Prop}{St:Nat->Heap->Prop}
end
section
variable{P:VO}{W0:World}{B:Around}{E:Value->Shared->Prop}{z:Shared}
end
end PySem
namespace L2
open PySem PySem.Spec PyProof.Rows Sx
section
variable{X:Cx}{e e2:Expr}{te t2:TE}{p kp pos:Pos}
end
section
variable{X:Cx}{e e2:Expr}{t:TA}{t2:TE}{p kp pos:Pos}
end
end L2
namespace L2
open PySem PySem.Spec PyProof.Rows Sx Bs
def FX(K:Vo)(wi:TI)(ix:List Nat)(tt:TT)(te:TE)(i:Nat):TS:=λD σ H=>wi σ H λJ H1=>∀l,H1 l=none->iT K J l (pick σ ix) tt te H1 (λH2=>D.nx (σ.set i (some (.ref l))) H2)
section
variable{X:Cx}{scope:Yr}{x x2:Str}{ys:List Str}{ix:List Nat}
theorem oY(hc:X.calm=true)(B:bo X scope x ys ix)(hN:X.N.Nodup)(hy:X.N[i]?=some y)(r:X.env.scope.names.lookup y=some .local)(B2:bo X scope x2 ys ix)(I:x≠x2)(hi:PI X (.Tuple [.Name x U,.Name x2 g] kt pt) iter wi)
 (ht:∀cl L s H ex pn,EB (b5 X scope (x :: x2 :: ys) cl L s H ex pn) j tt) (he:∀cl L s H ex pn,PE (b5 X scope (x :: x2 :: ys) cl L s H ex pn) o te)
 (T:Xo (.ListComp o [⟨.Tuple [.Name x U,.Name x2 g] kt pt,iter,j,0⟩] scope pos) (some (.Name y py)) p.line X.env=pure true:=by rfl)
 (hs:∀v,Xd iter X.env v=pure v:=by intro _;rfl):PS X (.Assign [.Name y py] (.ListComp o [⟨.Tuple [.Name x U,.Name x2 g] kt pt,iter,j,0⟩] scope pos) p) (FX X.K wi ix tt te i):=
 oN (C:=λJ l a H Q=>iT X.K J l a tt te H Q) (xs:=[x,x2]) hc B hN hy r (xh hc B B2 I) (λ_ _ _ _ _=>xi) hi ht he T hs
inductive Ky(x y:V)(H:Hp)(Q:VK):Prop
 |mk (l b xs zs) (_:x=.ref l) (_:y=.ref b) (_:Rd H l (.lst xs)) (_:Rd H b (.lst zs)) (_:xs.length + zs.length<=sizeLine) (_:∀p,H p=none->Q (.ref p) (upd H p (.lst (xs++zs))))
theorem vv:md X (binaryOp .Add) Ky:=by
 intro d s σ H x y v u Q I g i h;obtain⟨l,b,t,w,rfl,rfl,j,k,A,q⟩:=h;cases g;cases i;obtain⟨z,c,n,r,e⟩:=j.ok I.aS;obtain⟨B,a,C,f,m⟩:=k.ok I.aS;have hl:=r.length;have o:=f.length;refine wcn e m ?_ (by grind);have p:c.toArray++a.toArray=(c++a).toArray:=by simp
 rw[p];exact⟨.ref _,_,I.JZ (t':=s.toks) (r.append f) (by grind),rfl,q _ I.fresh⟩
theorem sT{K:Vo}(g:X.K=K):cS X (.type "list") (λxs H Q=>∃p ys,xs=[.ref p]/\(aN K H p ys\/jA K H p ys)/\∀l,H l=none->Q (.ref l) (upd H l (.lst ys))):=by
 subst g;exact cE
end
noncomputable def aU{α:Type}(p:Nat->Bool):Nat->List α->List α
 |_,[]=>[]
 |i,x :: xs=>if p i then x :: aU p (i + 1) xs else aU p (i + 1) xs
theorem lW{α:Type}(p:Nat->Bool)(x:α):∀(k:Nat) (xs:List α),aU p k (xs++[x])=aU p k xs++(if p (k + xs.length) then[x] else[])
 |k,[]=>by
  show (if p k then x :: [] else[])=[]++_;rw[wcF];rfl
 |k,y :: xs=>by
  have e:k + (y :: xs).length=k + 1 + xs.length:=by grind
  rw[e];show (if p k then y :: aU p (k + 1) (xs++[x]) else aU p (k + 1) (xs++[x]))=(if p k then y :: aU p (k + 1) xs else aU p (k + 1) xs)++_;rw[lW p x (k + 1) xs];cases p k <;> rfl
theorem kF{α:Type}(p:Nat->Bool):∀(k:Nat) (xs:List α),(aU p k xs).length<=xs.length
 |_,[]=>Vy _
 |k,x :: xs=>by
  have:=kF p (k + 1) xs;show (if p k then x :: aU p (k + 1) xs else aU p (k + 1) xs).length<=xs.length + 1
  cases p k with
  |true=>grind
  |false=>grind
theorem uo{α β:Type}(f:α->β)(p:Nat->Bool):∀(k:Nat) (xs:List α),aU p k (xs.map f)=(aU p k xs).map f
 |_,[]=>rfl
 |k,x :: xs=>by
  show (if p k then f x :: aU p (k + 1) (xs.map f) else aU p (k + 1) (xs.map f))=(if p k then x :: aU p (k + 1) xs else aU p (k + 1) xs).map f;rw[uo f p (k + 1) xs];cases p k <;> rfl
theorem oj{α:Type}(p:Nat->Bool):∀(k:Nat) (xs:List α),(aU p k xs).Sublist xs
 |_,[]=>wau _
 |k,x :: xs=>by
  show (if p k then x :: aU p (k + 1) xs else aU p (k + 1) xs).Sublist (x :: xs)
  cases p k with
  |true=>exact(oj p (k + 1) xs).cons₂ x
  |false=>exact(oj p (k + 1) xs).cons x
theorem fW{α:Type}{p:Nat->Bool}{k:Nat}{xs:List α}{x:α}(h:x∈aU p k xs):x∈xs:=(oj p k xs).subset h
theorem aW.pick{K:Vo}{H:Hp}(p:Nat->Bool):∀(k:Nat) (g:List jl) (xs:List V),aW K H g xs->aW K H (aU p k g) (aU p k xs)
 |_,[],xs,h=>by
  have e:xs=[]:=h;subst e;rfl
 |k,d :: g,_,h=>by
  obtain⟨v,a,rfl,c,hl⟩:=h;have b:=aW.pick p (k + 1) g a hl;show aW K H (if p k then d :: aU p (k + 1) g else aU p (k + 1) g) (if p k then v :: aU p (k + 1) a else aU p (k + 1) a)
  cases p k with
  |true=>exact⟨v,_,rfl,c,b⟩
  |false=>exact b
theorem aW.set{K:Vo}{H:Hp}{d:jl}{v:V}:∀{g:List jl} {xs:List V},aW K H g xs->∀i:Nat,bG K H d v->aW K H (g.set i d) (xs.set i v)
 |[],xs,h,i,r=>by
  have e:xs=[]:=h;subst e;exact h
 |c :: g,_,h,0,r=>by
  obtain⟨v0,a,rfl,b,hl⟩:=h;exact⟨v,a,rfl,r,hl⟩
 |c :: g,_,h,i + 1,r=>by
  obtain⟨v0,a,rfl,b,hl⟩:=h;exact⟨v0,a.set i v,rfl,b,aW.set hl i r⟩
theorem uq{K:Vo}{a l:Addr}{xs:List V}{r:St}{J:TT}{U:TE}{H:Hp}{Q:Hp->Prop}(p:Nat->Bool)(I:aN K H a xs)(hl:H l=none)(hz:xs.length<=sizeLine)
 (ht:∀(i:Nat) (x:V) j C,xs[i]?=some x->a9 H j->(∀g,a9 j g->C (p i) g)->J (some (.int (i:Nat)) :: some x :: r) j C)
 (he:∀(i:Nat) (x:V) j C,xs[i]?=some x->a9 H j->(∀g,a9 j g->C x g)->U (some (.int (i:Nat)) :: some x :: r) j C)
 (hd:∀g,a9 H g->g l=some (.lst (aU p 0 xs))->Q g):iT K (Jl K a) l r J U H Q:=by
 refine⟨λi m t f=>m=xs.length - i/\i<=xs.length/\a9 H f/\f l=some (.lst t)/\t=aU p 0 (xs.take i),⟨xs.length,by simp,Wb _,a9.upd hl,a7,rfl⟩,?_⟩;rintro i m t f ⟨rfl,hi,c,u,k⟩;refine⟨u,?_⟩
 by_cases d:i < xs.length
 ·refine .inr ⟨⟨xs,xs[i],c.seq I,Vp d⟩,?_,λx j y=>?_⟩
  ·rw[k];refine WO (kF p 0 _) ?_;rw[VQ];omega
  ·obtain⟨T,h,D,E,F,y⟩:=y;subst E F;have v:xs[i]?=some h:=y xs (c.seq I);have n:a9 f (upd f T (.tup [.int (i:Nat),h])):=a9.upd D;have w:xs.take (i + 1)=xs.take i++[h]:=by rw[Ws,v];rfl
   have q:(xs.take i).length=i:=by rw[VQ];omega
   refine⟨T,.int (i:Nat),h,rfl,jA.of a7,ht i h _ _ v (c.trans n) λG s=>?_⟩;have z:=s _ _ (n _ _ u)
   cases A:p i with
   |false=>
    rw[if_neg VJ];exact⟨xs.length - (i + 1),by omega,rfl,d,(c.trans n).trans s,z,by rw[w,lW,q,waK,A,if_neg VJ,Wr];exact k⟩
   |true=>
    rw[if_pos rfl];refine he i h _ _ v ((c.trans n).trans s) λL B=>⟨B _ _ z,xs.length - (i + 1),by omega,rfl,d,λb o e=>?_,a7,?_⟩
    ·rw[aa (ae e hl)];exact B _ _ (s _ _ (n _ _ (c _ _ e)))
    ·rw[w,lW,q,waK,A,if_pos rfl,k]
 ·have e:i=xs.length:=by omega
  subst e;rw[W6]at k;exact .inl ⟨⟨xs,c.seq I,Vy _⟩,hd f c (by rw[u,k])⟩
theorem qV(y:Int)(ns:List Int):kM (.int y) (ns.map V.int)=decide (y∈ns):=by
 unfold kM;rw[ZP]
 induction ns with
 |nil=>rfl
 |cons a l b=>
  rw[Yn,b];show ((a == y) ||decide (y∈l))=decide (y∈a :: l)
  by_cases e:a=y
  ·subst e;simp
  ·grind
theorem eU(ns:List Int):(ns.map V.int).all cg=true:=by grind [cg]
end L2
namespace Bs
open PySem L2 Sx
noncomputable def dD(i:Int)(n:Nat):Bool:=decide (0<=i) && decide (i < (n:Int))
noncomputable def aR(ws:List Int)(qs:List (Str×Nat)):Int:=(qs.map λq=>ws.getD q.2 0).sum
noncomputable def du(ws:List Int)(many:Int)(qs:List (Str×Nat))(w:Int):Bool:=!qs.isEmpty && (decide (1<=w) && decide (many * w<=aR ws qs))
noncomputable def aT{α:Type}(ns:List Int)(l:List α):List α:=aU (λi=>decide ((i:Int)∈ns)) 0 l
noncomputable def aP{α:Type}(ns:List Int)(l:List α):List α:=aU (λi=>!decide ((i:Int)∈ns)) 0 l
noncomputable def eB(d t:Nat)(l:List (Str×Nat)):List (Str×Nat):=l.flatMap λq=>if q.2=d then[q,(q.1,t)] else[q]
noncomputable def cV(ws:List Int)(lns:List (List (Str×Nat)))(many pK:Int)(ns:List Int)(w:Int):Bool:=
 dD pK lns.length && (ns.all (λi=>dD i (lns.getD pK.toNat []).length) && (du ws many (aT ns (lns.getD pK.toNat [])) w && du ws many (aP ns (lns.getD pK.toNat [])) (ws.getD pK.toNat 0 - w)))
noncomputable def cI(hs:List Str)(d:Nat):List Str:=hs++[hs.getD d ""]
noncomputable def bK(ws:List Int)(d:Nat)(w:Int):List Int:=(ws++[ws.getD d 0 - w]).set d w
noncomputable def gq(lns:List (List (Str×Nat)))(d:Nat)(ns:List Int):List (List (Str×Nat)):=((lns++[aP ns (lns.getD d [])]).set d (aT ns (lns.getD d []))).map (eB d lns.length)
theorem om(d t:Nat):∀l:List (Str×Nat),(eB d t l).length<=2 * l.length
 |[]=>Vy _
 |q :: l=>by
  have:=om d t l;show ((if q.2=d then[q,(q.1,t)] else[q])++eB d t l).length<=2 * (l.length + 1);rw[Vs];split
  ·grind
  ·grind
theorem qW(d t:Nat)(l:List (Str×Nat))(q:Str×Nat):eB d t (l++[q])=eB d t l++(if q.2=d then[q,(q.1,t)] else[q]):=by simp_all [eB,wbR,congr,Wr]
theorem xx(p:Nat->Bool)(h:aW K H (g.map jm) xs):aW K H ((aU p 0 g).map jm) (aU p 0 xs):=by
 rw[<-uo];exact h.pick p 0 _ _
theorem vx{α:Type}{K:Vo}{H:Hp}(f:α->V):∀(g:List α) (xs:List V),aW K H (g.map λz=>jl.at (f z)) xs->xs=g.map f
 |[],xs,h=>h
 |z :: g,_,h=>by
  obtain⟨v,a,rfl,⟨rfl,_⟩,hl⟩:=h;rw[vx f g a hl];rfl
theorem Ah(h:bG K H (qR hs) (.ref a)):Rd H a (.lst (hs.map V.str)):=by
 obtain⟨d,b,e,c,hl⟩:=h;cases e;rwa[vx V.str hs b hl]at c
theorem FY(h:bG K H (kW ws) (.ref a)):Rd H a (.lst (ws.map V.int)):=by
 obtain⟨d,b,e,c,hl⟩:=h;cases e;rwa[vx V.int ws b hl]at c
theorem eV(h:bG K H (cj j) v):∃a l,v=.ref a/\aN K H a (l.map V.ref)/\bY H l ((j.map dW).map mE):=by
 obtain⟨a,d,rfl,n,b,k⟩:=lV h
 have ex:d=(d.map λv=>match v with |.ref r=>r |_=>0).map V.ref:=by
  rw[VG];refine(YF d).symm.trans (Wm λv o=>?_);obtain⟨i,hi,rfl⟩:=XI o;obtain⟨r,m,_⟩:=k i _ (Vp (by rw[<-b];exact hi));rw[Vp hi]at m;rw[VC m];rfl
 refine⟨a,_,rfl,by rw[<-ex];exact n,by rw[Vn,Vn,b],λi r s f c=>?_⟩;rw[Vt]at f c
 cases e:(j.map dW)[i]? with
 |none=>rw[e]at c;cases c
 |some q=>
  rw[e]at c;cases c;obtain⟨t,g,p⟩:=k i q e;rw[g]at f;cases f;exact p
structure GX(hs:List Str)(ws:List Int)(lns:List (List (Str×Nat))):Prop where
 w:ws.length=hs.length
 l:lns.length=hs.length
 e:∀l∈lns,∀q∈l,q.2 < hs.length
 n:hs.length<=1000
 m:∀l∈lns,l.length<=5000
end Bs
namespace Sx
open PySem L2 Bs
inductive FZ(K:Vo)(vs:List V)(H:Hp)(Q:VK)(eN:XK):Prop
 |mk (i a xs) (_:vs=[.int i,.ref a]) (_:aN K H a xs) (_:Q (.bl (dD i xs.length)) H)
inductive IB(K:Vo)(CS CN:Addr)(vs:List V)(H:Hp)(Q:VK)(E:XK):Prop
 |mk (x many v w hs ws lns qs) (_:vs=[.ref x,.int many,v,.int w]) (_:bC K CS H x hs ws lns) (_:bG K H (cj qs) v) (_:qs.length<=10000) (_:(∀q∈qs,q.2 < ws.length)) (_:0<=many) (_:many<=1000) (_:((du ws many qs w=true/\∀H',a9 H H'->Q .non H')\/(du ws many qs w=false/\∀H',a9 H H'->E (.ref CN) none H')))
inductive G0(K:Vo)(vs:List V)(H:Hp)(Q:VK)(eN:XK):Prop
 |mk (v:V) (d t:Nat) (qs:List (Str×Nat)) (_:vs=[v,.int (d:Int),.int (t:Int)]) (_:bG K H (cj qs) v) (_:qs.length<=5000) (_:∀y H',a9 H H'->bG K (aG H H') (cj (eB d t qs)) y->Q y H')
inductive G1(K:Vo)(CS CN:Addr)(vs:List V)(H:Hp)(Q:VK)(E:XK):Prop
 |mk (x a many pK w ns hs ws lns) (_:vs=[.ref x,.int many,.int pK,.ref a,.int w]) (_:bC K CS H x hs ws lns) (_:aN K H a (ns.map V.int)) (_:ns.length<=10000) (_:GX hs ws lns) (_:0<=many) (_:many<=1000) (_:((cV ws lns many pK ns w=true/\∀y H',a9 H H'->bC K CS (aG H H') y (cI hs pK.toNat) (bK ws pK.toNat w) (gq lns pK.toNat ns)->Q (.ref y) H')\/(cV ws lns many pK ns w=false/\∀H',a9 H H'->E (.ref CN) none H')))
end Sx
namespace L2
open PySem PySem.Spec PyProof.Rows Sx Bs
section
variable{X:Cx}
end
end L2
namespace Bs
open PySem L2 Sx
def Kz(z:Str):Prop:=z.length < 2\/4 < z.length\/(∃c∈ch z,c∉ch dj)\/∃i j,i < j/\j < z.length/\d5 z i=d5 z j
def IC(H:Hp)(v:V):Prop:=Thing H v/\∀z,v=.str z->Kz z/\z.length<=100
def KA(g z:Str):Prop:=z.length < 1\/5 < z.length\/∃c∈ch z,c∉ch g
def IE(g:Str)(H:Hp)(v:V):Prop:=Thing H v/\∀z,v=.str z->KA g z/\z.length<=100
theorem IC.same(h:IC H v)(s:a9 H g):IC g v:=⟨h.1.same s,h.2⟩
theorem IE.same(h:IE g H v)(s:a9 H j):IE g j v:=⟨h.1.same s,h.2⟩
end Bs
namespace Sx
open PySem L2 Bs
def IG(C:Addr)(name:Str)(n:Int)(H:Hp)(E:XK):Prop:=∀(d:Addr) (H':Hp),a9 H H'->H d=none->H' d=some (.xd [(name,.int n)])->E (.ref C) (some d) H'
end Sx
namespace Bs
open PySem L2 Sx
theorem IG.same(h:IG C name n H E)(s:a9 H g):IG C name n g E:=λd a b hd e=>h d a (s.trans b) (none_of s hd) e
end Bs
namespace Sx
open PySem L2 Bs
end Sx
namespace Bs
open PySem L2 Sx
theorem mJ(hi:i < ws.length)(g:i≠d):(bK ws d w).getD i 0=ws.getD i 0:=by grind [bK,Xu,VZ]
theorem oZ(hd:d < ws.length):(bK ws d w).getD d 0=w:=by
 unfold bK;rw[Vq,Xf (by rw[Vs];omega)];rfl
theorem p0(hd:d < ws.length):(bK ws d w).getD ws.length 0=ws.getD d 0 - w:=by
 unfold bK;rw[Vq,Xu (by omega),VY (Vy _),Xy];rfl
theorem z8(ws:List Int)(d:Nat)(w:Int):(bK ws d w).length=ws.length + 1:=by
 unfold bK;rw[Y0,Vs];rfl
theorem bQ(ws:List Int)(q:Str×Nat)(g:List (Str×Nat)):aR ws (q :: g)=ws.getD q.2 0 + aR ws g:=rfl
theorem qX(ws:List Int)(ps g:List (Str×Nat)):aR ws (ps++g)=aR ws ps + aR ws g:=by
 unfold aR;rw[VE,wcG]
theorem kX(hd:d < ws.length):∀g:List (Str×Nat),(∀q∈g,q.2 < ws.length)->aR (bK ws d w) (eB d ws.length g)=aR ws g
 |[],_=>rfl
 |q :: g,h=>by
  have c:=kX (w:=w) hd g λq b=>h q (Vw _ b);have b:=h q (Vz ..);have e:eB d ws.length (q :: g)=(if q.2=d then[q,(q.1,ws.length)] else[q])++eB d ws.length g:=rfl;rw[e,qX,c,bQ]
  by_cases a:q.2=d
  ·rw[if_pos a,bQ,bQ,a,oZ hd];have f:(bK ws d w).getD ((q.1,ws.length):Str×Nat).2 0=ws.getD d 0 - w:=p0 hd;rw[f];show w + (ws.getD d 0 - w + 0) + _=_;omega
  ·rw[if_neg a,bQ,mJ b a];show ws.getD q.2 0 + 0 + _=_;omega
theorem Ai:∀(ws:List Int) (d:Nat) (w:Int),d < ws.length->(ws.set d w).sum=ws.sum - ws.getD d 0 + w
 |[],_,_,h=>absurd h (ZR _)
 |x :: ws,0,w,_=>by
  show w + ws.sum=x + ws.sum - x + w;omega
 |x :: ws,d + 1,w,h=>by
  have a:=Ai ws d w (by simpa using h);show x + (ws.set d w).sum=x + ws.sum - ws.getD d 0 + w;rw[a];omega
theorem z9(hd:d < ws.length):(bK ws d w).sum=ws.sum:=by grind [bK,Ai,Vs,VZ]
structure gL(many:Int)(hs:List Str)(ws:List Int)(lns:List (List (Str×Nat))):Prop where
 w:ws.length=hs.length
 l:lns.length=hs.length
 p:∀w∈ws,1<=w
 e:∀l∈lns,∀q∈l,q.2 < hs.length
 b:∀(i:Nat) (l:List (Str×Nat)),lns[i]?=some l->many * ws.getD i 0<=aR ws l
theorem za(h:q∈eB d t l):q.2=t\/q∈l:=by grind [eB]
theorem qY(h:du ws many g w=true):g≠[]/\1<=w/\many * w<=aR ws g:=by simp_all [du,Xl,of_decide_eq_true]
theorem gL.split{many:Int}{hs:List Str}{ws:List Int}{lns:List (List (Str×Nat))}(S:gL many hs ws lns){d:Nat}{ns:List Int}{w:Int}(h:cV ws lns many (d:Int) ns w=true):gL many (cI hs d) (bK ws d w) (gq lns d ns)/\d < hs.length:=by
 unfold cV at h;simp only[Xl]at h;obtain⟨n,A,v,x⟩:=h;rw[W2]at A v x;obtain⟨E,F,B⟩:=qY v;obtain⟨G,H,C⟩:=qY x;have j:=S.w;have o:=S.l
 have hd:d < lns.length:=by
  unfold dD at n;rw[Xl]at n;have:=of_decide_eq_true n.2;omega
 have f:d < ws.length:=by omega
 have r:(cI hs d).length=hs.length + 1:=by unfold cI;rw[Vs];rfl
 have a:lns.getD d []∈lns:=by
  rw[Vq,Vp hd];exact Wg hd
 have k:=S.e _ a
 have c:∀l∈(lns++[aP ns (lns.getD d [])]).set d (aT ns (lns.getD d [])),∀q∈l,q.2 < hs.length:=λl hl=>by
  rcases Yd hl with z |z
  ·rcases VP.mp z with z |z
   ·exact S.e l z
   ·rw[VD.mp z];exact λq a=>k q (fW a)
  ·rw[z];exact λq a=>k q (fW a)
 refine⟨⟨by rw[r,z8,j],?_,λz y=>?_,λl hl q a=>?_,λi l hl=>?_⟩,by omega⟩
 ·unfold gq;rw[r,Vn,Y0,Vs,o];rfl
 ·unfold bK at y;rcases Yd y with q |q
  ·rcases VP.mp q with q |q
   ·exact S.p z q
   ·rw[VD.mp q];omega
  ·rw[q];omega
 ·rw[r];unfold gq at hl;obtain⟨m,s,rfl⟩:=Vx.mp hl;rcases za a with e |e
  ·omega
  ·have:=c m s q e;omega
 ·unfold gq at hl;rw[Vt]at hl
  cases e:((lns++[aP ns (lns.getD d [])]).set d (aT ns (lns.getD d [])))[i]? with
  |none=>rw[e]at hl;cases hl
  |some m=>
   rw[e]at hl;cases hl;have D:=c m (VN e);rw[show lns.length=ws.length by omega,kX f m (λq a=>by rw[j];exact D q a)]
   by_cases g:i=d
   ·subst g;rw[Xf (by rw[Vs];omega)]at e;cases e;rw[oZ f];exact B
   ·rw[Xu (λz=>g z.symm)]at e
    by_cases t:i < lns.length
    ·rw[VZ t]at e;rw[mJ (by omega) g];exact S.b i m e
    ·have u:i=lns.length:=by
      have:=(Vu.mp e).1;rw[Vs]at this;simp at this;omega
     subst u;rw[VY (Vy _),Xy]at e;cases e;rw[show lns.length=ws.length by omega,p0 f];exact C
noncomputable def pre(ls:List Int)(k:Nat):Int:=(ls.take k).sum
end Bs
namespace L2
open PySem PySem.Spec PyProof.Rows
section
variable{prog:VO}{w:World}{κ:Type}[DecidableEq κ]{knd:HeapKind prog w κ}{A:Around}{E:Value->Shared->Prop}{s:Shared}
end
theorem KT.len:∀{g:List (List Key×V)} {j:List (List Key×Addr×Value)},KT H g j->g.length=j.length
 |_,_,.nil=>rfl
 |_,_,.cons _ t=>congrArg (· + 1) (KT.len t)
section
variable{X:Cx}
end
end L2
namespace Bs
open PySem L2 Sx
theorem LJ{a b:Prop}[Decidable a][Decidable b]{α:Type}{x y:α}(h:a↔b):(if a then x else y)=if b then x else y:=by simp_all [if_pos,if_neg]
noncomputable def gF(p:Str)(z:Str×Nat):List Str->List (List (Str×Nat))->Nat
 |h :: hs,l :: lns=>(if h=p then l.count z else 0) + gF p z hs lns
 |_,_=>0
theorem ur(p:Str)(z:Str×Nat)(h:Str)(l:List (Str×Nat)):∀(hs:List Str) (lns:List (List (Str×Nat))),hs.length=lns.length->gF p z (hs++[h]) (lns++[l])=gF p z hs lns + (if h=p then l.count z else 0)
 |[],[],_=>by
  show (if h=p then l.count z else 0) + 0=0 + _;omega
 |[],_ :: _,e=>by cases e
 |_ :: _,[],e=>by cases e
 |x :: hs,y :: lns,e=>by
  show (if x=p then y.count z else 0) + gF p z (hs++[h]) (lns++[l])=_;rw[ur p z h l hs lns (by simpa using e)];show _=(if x=p then y.count z else 0) + gF p z hs lns + _;omega
theorem xA(p:Str)(z:Str×Nat)(g:List (Str×Nat)):∀(hs:List Str) (lns:List (List (Str×Nat))) (d:Nat),hs.length=lns.length->d < lns.length ->
 gF p z hs (lns.set d g) + (if hs.getD d ""=p then(lns.getD d []).count z else 0)=gF p z hs lns + (if hs.getD d ""=p then g.count z else 0)
 |_,[],d,_,h=>absurd h (ZR _)
 |[],_ :: _,_,e,_=>by cases e
 |x :: hs,y :: lns,0,_,_=>by
  show (if x=p then g.count z else 0) + gF p z hs lns + (if x=p then y.count z else 0)=(if x=p then y.count z else 0) + gF p z hs lns + (if x=p then g.count z else 0);omega
 |x :: hs,y :: lns,d + 1,e,h=>by
  have a:=xA p z g hs lns d (by simpa using e) (by simpa using h);show (if x=p then y.count z else 0) + gF p z hs (lns.set d g) + (if hs.getD d ""=p then(lns.getD d []).count z else 0)=(if x=p then y.count z else 0) + gF p z hs lns + (if hs.getD d ""=p then g.count z else 0);omega
theorem xB(p:Str){f:List (Str×Nat)->List (Str×Nat)}:∀(hs:List Str) (lns:List (List (Str×Nat))),(∀l∈lns,(f l).count z=l.count z')->gF p z hs (lns.map f)=gF p z' hs lns
 |_,[],_=>by cases ‹List Str› <;> rfl
 |[],_ :: _,_=>rfl
 |x :: hs,y :: lns,h=>by
  show (if x=p then(f y).count z else 0) + gF p z hs (lns.map f)=(if x=p then y.count z' else 0) + gF p z' hs lns;rw[xB p hs lns λl hl=>h l (Vw _ hl),h y (Vz ..)]
theorem vy:∀{hs:List Str} {lns:List (List (Str×Nat))} {i:Nat} {l:List (Str×Nat)},hs[i]?=some p->lns[i]?=some l->l.count z<=gF p z hs lns
 |y :: hs,x :: lns,0,l,a,b=>by
  cases a;cases b;show _<=(if p=p then x.count z else 0) + _;rw[if_pos rfl];omega
 |h :: hs,x :: lns,i + 1,l,a,b=>by
  have:=vy (z:=z) (hs:=hs) (lns:=lns) (i:=i) (by simpa using a) (by simpa using b);show _<=_ + gF p z hs lns;omega
 |[],_,_,_,a,_=>by simp at a
 |_ :: _,[],_,_,_,b=>by simp at b
theorem cnt_cons(q z:Str×Nat)(l:List (Str×Nat)):(q :: l).count z=l.count z + if q=z then 1 else 0:=by simp_all [List.count_cons,if_pos,beq_self_eq_true,if_neg]
theorem qZ(f:Nat->Bool)(z:Str×Nat):∀(k:Nat) (l:List (Str×Nat)),(aU f k l).count z + (aU (λi=>!f i) k l).count z=l.count z
 |_,[]=>rfl
 |k,q :: l=>by
  have a:=qZ f z (k + 1) l;show (if f k then q :: aU f (k + 1) l else aU f (k + 1) l).count z + (if !f k then q :: aU (λi=>!f i) (k + 1) l else aU (λi=>!f i) (k + 1) l).count z=_;rw[cnt_cons]
  cases f k with
  |true=>
   grind
  |false=>
   grind
theorem p5(hd:d < t)(w:Str)(e:Nat):∀l:List (Str×Nat),(∀q∈l,q.2 < t)->(eB d t l).count (w,e)=l.count (w,if e=t then d else e)
 |[],_=>rfl
 |q :: l,h=>by
  have f:=p5 hd w e l λq c=>h q (Vw _ c);have c:=h q (Vz ..);have g:eB d t (q :: l)=(if q.2=d then[q,(q.1,t)] else[q])++eB d t l:=rfl;rw[g,List.count_append,f,cnt_cons];obtain⟨a,b⟩:=q;have c:b < t:=c;show (if b=d then[(a,b),(a,t)] else[(a,b)]).count (w,e) + _=_
  by_cases i:b=d
  ·grind
  ·grind
def EE(B:Str->List (Str×Str))(hs:List Str)(lns:List (List (Str×Nat))):Prop:=
 ∀(p w:Str) (e:Nat),gF p (w,e) hs lns=if e < hs.length/\p∈hs/\(w,hs.getD e "")∈B p then 1 else 0
theorem EE.split{B:Str->List (Str×Str)}(h:EE B hs lns)(hl:lns.length=hs.length)(o:∀l∈lns,∀q∈l,q.2 < hs.length)(hd:d < hs.length)(ns:List Int):EE B (cI hs d) (gq lns d ns):=by
 intro p w e
 have u:lns.getD d []∈lns:=by
  rw[Vq,Vp (by omega)];exact Wg _
 have k:∀l∈(lns++[aP ns (lns.getD d [])]).set d (aT ns (lns.getD d [])),∀q∈l,q.2 < lns.length:=λl b=>by
  rw[hl];rcases Yd b with z |z
  ·rcases VP.mp z with z |z
   ·exact o l z
   ·rw[VD.mp z];exact λq c=>o _ u q (fW c)
  ·rw[z];exact λq c=>o _ u q (fW c)
 have n:(hs++[hs.getD d ""]).getD d ""=hs.getD d "":=by
  rw[Vq,VZ hd,<-Vq]
 have r:(lns++[aP ns (lns.getD d [])]).getD d []=lns.getD d []:=by
  rw[Vq,VZ (by omega),<-Vq]
 unfold cI gq;rw[xB p (z':=(w,if e=lns.length then d else e)) _ _ λl b=>p5 (by omega) w e l (k l b)];have s:=xA p (w,if e=lns.length then d else e) (aT ns (lns.getD d [])) (hs++[hs.getD d ""]) (lns++[aP ns (lns.getD d [])]) d (by rw[Vs,Vs];simp[hl]) (by rw[Vs];omega);rw[n,r,ur p _ _ _ hs lns hl.symm]at s;have v:=qZ (λi=>decide ((i:Int)∈ns)) (w,if e=lns.length then d else e) 0 (lns.getD d []);have A:(aT ns (lns.getD d [])).count (w,if e=lns.length then d else e) + (aP ns (lns.getD d [])).count (w,if e=lns.length then d else e)=(lns.getD d []).count (w,if e=lns.length then d else e):=v;have x:=h p w (if e=lns.length then d else e)
 have y:gF p (w,if e=lns.length then d else e) (hs++[hs.getD d ""]) ((lns++[aP ns (lns.getD d [])]).set d (aT ns (lns.getD d [])))=gF p (w,if e=lns.length then d else e) hs lns:=by
  by_cases j:hs.getD d ""=p
  ·rw[if_pos j,if_pos j,if_pos j]at s;omega
  ·rw[if_neg j,if_neg j,if_neg j]at s;omega
 rw[y,x]
 have m:p∈hs++[hs.getD d ""]↔p∈hs:=by
  rw[VP,VD];refine⟨λz=>z.elim id λz=>?_,.inl⟩;rw[z,Vq,Vp hd];exact Wg _
 have a:(hs++[hs.getD d ""]).length=hs.length + 1:=by rw[Vs];rfl
 by_cases f:e=lns.length
 ·rw[if_pos f]
  have t:(hs++[hs.getD d ""]).getD e ""=hs.getD d "":=by
   rw[f,hl,Vq,VY (Vy _),Xy];rfl
  rw[t,a];refine LJ ⟨λz=>⟨by omega,m.mpr z.2.1,z.2.2⟩,λz=>⟨hd,m.mp z.2.1,z.2.2⟩⟩
 ·rw[if_neg f]
  by_cases g:e < hs.length
  ·have t:(hs++[hs.getD d ""]).getD e ""=hs.getD e "":=by
    rw[Vq,VZ g,<-Vq]
   rw[t,a];refine LJ ⟨λz=>⟨by omega,m.mpr z.2.1,z.2.2⟩,λz=>⟨g,m.mp z.2.1,z.2.2⟩⟩
  ·rw[if_neg (λz=>g z.1),if_neg (λz=>by have:=z.1;omega)]
theorem EE.line{B:Str->List (Str×Str)}(h:EE B hs lns)(hl:lns.length=hs.length)(g:∀p,(B p).length<=b):∀l∈lns,l.length<=b * hs.length:=by
 intro l j;obtain⟨i,hi,e⟩:=XI j;have f:lns[i]?=some l:=by rw[Vp hi,e]
 have a:hs[i]?=some (hs[i]'(by omega)):=Vp _;generalize hs[i]'(by omega)=p at a
 have one:∀z,l.count z<=1:=λz=>by
  have c:=vy (z:=z) a f;have d:=h p z.1 z.2;rw[show ((z.1,z.2):Str×Nat)=z from rfl]at d;rw[d]at c;split at c <;> omega
 have nd:l.Nodup:=List.nodup_iff_count.mpr one
 have sub:∀z∈l,z∈((B p).map (·.1)).flatMap λw=>(W5 hs.length).map λe=>(w,e):=λz k=>by
  have c:=vy (z:=z) a f;have d:=h p z.1 z.2;rw[show ((z.1,z.2):Str×Nat)=z from rfl]at d;rw[d]at c;have m:0 < l.count z:=List.count_pos_iff.mpr k
  by_cases hc:z.2 < hs.length/\p∈hs/\(z.1,hs.getD z.2 "")∈B p
  ·exact Zw.mpr ⟨z.1,Vx.mpr ⟨_,hc.2.2,rfl⟩,Vx.mpr ⟨z.2,Wt.mpr hc.1,rfl⟩⟩
  ·rw[if_neg hc]at c;omega
 have c:=gm nd sub
 have d:(((B p).map (·.1)).flatMap λw=>(W5 hs.length).map λe=>(w,e)).length<=(B p).length * hs.length:=by
  have:=mD (λw=>(W5 hs.length).map λe=>((w,e):Str×Nat)) hs.length ((B p).map (·.1)) λw _=>by rw[Vn,Wf];exact Vy _
  rwa[Vn]at this
 exact VF c (VF d (Yb _ (g p)))
theorem rg(p:Str)(z:Str×Nat)(f:Str->List (Str×Nat)):∀hs:List Str,hs.Nodup->gF p z hs (hs.map f)=if p∈hs then(f p).count z else 0
 |[],_=>rfl
 |h :: hs,nd=>by
  rw[Wn]at nd;show (if h=p then(f h).count z else 0) + gF p z hs (hs.map f)=_;rw[rg p z f hs nd.2]
  by_cases e:h=p
  ·grind
  ·grind
theorem hH{f:Str->Option (Str×Str)}(g:∀r x,f r=some x->x.1=r):∀L:List Str,((L.filterMap f).map (·.1)).Sublist L
 |[]=>.slnil
 |r :: L=>by
  rw[Wq]
  cases e:f r with
  |none=>exact(hH g L).cons _
  |some x=>
   show (x.1 :: (L.filterMap f).map (·.1)).Sublist _;rw[g r x e];exact(hH g L).cons₂ _
theorem vz(nd:(ch g).Nodup)(l:ss.Perm (bW ws "" ws))(hw:∀w∈ws,1<=w.length)(j:p∈ss)(n:Nat):((aF g ws ss ls n p).map (·.1)).Nodup:=by
 rw[<-z4 l hw j n];refine waa (hH (λr x e=>?_) _) (by rw[pZ];exact uk nd n);unfold FU at e;split at e
 ·cases e
 ·grind
theorem vA:∀{l:List (Str×Str)},(l.map (·.1)).Nodup->l.Nodup:=by intro l;induction l <;> grind [WH,Wn]
theorem zb{g:List (Str×Str)}{hs:List Str}(nd:g.Nodup)(hn:hs.Nodup)(w:Str)(e:Nat) :
 (((g.filter λq=>decide (q.2∈hs)).map λq=>(q.1,hs.idxOf q.2)):List (Str×Nat)).count (w,e)=if e < hs.length/\(w,hs.getD e "")∈g then 1 else 0:=by
 have inj:∀q∈g.filter (λq=>decide (q.2∈hs)),((q.1,hs.idxOf q.2):Str×Nat)=(w,e)↔(e < hs.length/\q=(w,hs.getD e "")):=λq a=>by
  grind
 have gen:∀L:List (Str×Str),L.Nodup->(∀q∈L,((q.1,hs.idxOf q.2):Str×Nat)=(w,e)↔(e < hs.length/\q=(w,hs.getD e "")))->(L.map λq=>((q.1,hs.idxOf q.2):Str×Nat)).count (w,e)=if e < hs.length/\(w,hs.getD e "")∈L then 1 else 0:=by
  intro L
  induction L with
  |nil=>grind
  |cons q L b=>
   grind
 rw[gen _ (nd.filter _) inj];refine LJ ⟨λz=>⟨z.1,(VR.mp z.2).1⟩,λz=>⟨z.1,VR.mpr ⟨z.2,decide_eq_true ?_⟩⟩⟩;rw[Vq,Vp z.1];exact Wg _
theorem EE.first{g:Str}{ws ss ls:List Str}{n:Nat}{hs:List Str}(nd:(ch g).Nodup)(l:ss.Perm (bW ws "" ws))(hw:∀w∈ws,1<=w.length)(j:∀p∈hs,p∈ss)(hn:hs.Nodup):EE (aF g ws ss ls n) hs (bg g ws ss ls n hs):=by
 intro p w e;unfold bg;rw[rg p (w,e) _ hs hn]
 by_cases h:p∈hs
 ·rw[if_pos h];unfold eT;rw[zb (vA (vz nd l hw (j p h) n)) hn];exact LJ ⟨λz=>⟨z.1,h,z.2⟩,λz=>⟨z.1,z.2.2⟩⟩
 ·rw[if_neg h,if_neg (λz=>h z.2.1)]
noncomputable def fP(p w:Str)(e:Nat):List Key:=[.inr p,.inr w,.inl (e:Int)]
theorem xC(h:fP p w e=fP g j l):p=g/\w=j/\e=l:=by grind [fP]
structure mK(kvs:List (List Key×V))(c:Str->Str->Nat->Nat):Prop where
 nd:(kvs.map (·.1)).Nodup
 v:∀p w e,bc kvs (fP p w e)=if c p w e=0 then none else some (.int (c p w e:Int))
 k:∀kv∈kvs,∃p w e,kv.1=fP p w e
theorem mK.nil:mK [] λ_ _ _=>0:=⟨WH,λ_ _ _=>rfl,λ_ h=>nomatch h⟩
theorem kG{κ:Type}[DecidableEq κ]{kvs:List (κ×V)}{k:κ}{v y:V}(h:bc kvs k=some y):(putK kvs k v).map (·.1)=kvs.map (·.1):=by
 unfold putK;have e:(kvs.any λa=>decide (a.1=k))=true:=by rw[fq,h];rfl
 rw[if_pos e,VG];refine Wm λa _=>?_;show (if a.1=k then(a.1,v) else a).1=a.1;split <;> rfl
theorem mK.put{kvs:List (List Key×V)}{c:Str->Str->Nat->Nat}(h:mK kvs c)(p w:Str)(e:Nat){v:Nat}(r:v≠0){o:Str->Str->Nat->Nat}(hc:∀g j l,o g j l=if g=p/\j=w/\l=e then v else c g j l):mK (putK kvs (fP p w e) (.int (v:Int))) o:=by
 refine⟨?_,λg j l=>?_,λm f=>?_⟩
 ·cases a:bc kvs (fP p w e) with
  |none=>exact zX _ h.nd a
  |some y=>rw[kG a];exact h.nd
 ·rw[qh,hc]
  by_cases b:fP g j l=fP p w e
  ·rw[if_pos b,if_pos (xC b),if_neg r]
  ·rw[if_neg b,if_neg (c:=g=p/\j=w/\l=e) (λz=>b (by obtain⟨rfl,rfl,rfl⟩:=z;rfl))];exact h.v g j l
 ·have d:m.1∈(putK kvs (fP p w e) (.int (v:Int))).map (·.1):=Vx.mpr ⟨m,f,rfl⟩
  have old:∀{x:List Key},x∈kvs.map (·.1)->∃p w e,x=fP p w e:=λn=>by
   obtain⟨i,q,rfl⟩:=Vx.mp n;exact h.k i q
  cases a:bc kvs (fP p w e) with
  |none=>
   rw[cx _ a,VE]at d;rcases VP.mp d with z |z
   ·exact old z
   ·exact⟨p,w,e,VD.mp z⟩
  |some y=>
   rw[kG a]at d;exact old d
theorem xD{κ:Type}[DecidableEq κ]:∀{kvs:List (κ×V)} {g:κ×V},(kvs.map (·.1)).Nodup->g∈kvs->bc kvs g.1=some g.2:=by intro kvs;induction kvs <;> grind [Wn,bq,bt]
theorem mK.hits{c:Str->Str->Nat->Nat}(ha:mK j c)(l:mK o c):∀g∈j,∃i:Int,g.2=.int i/\bc o g.1=some (.int i):=λg a=>by
 obtain⟨p,w,e,d⟩:=ha.k g a;have f:=xD ha.nd a;have b:=ha.v p w e;have h:=l.v p w e;rw[<-d]at b h;rw[f]at b
 by_cases m:c p w e=0
 ·grind
 ·grind
theorem mK.le{c:Str->Str->Nat->Nat}(ha:mK g c)(j:mK l c):g.length<=l.length:=by
 have:=gm ha.nd λk a=>by
  obtain⟨b,d,rfl⟩:=Vx.mp a;obtain⟨i,_,e⟩:=ha.hits j b d;exact pV e
 rwa[Vn,Vn]at this
theorem mK.len{c:Str->Str->Nat->Nat}(ha:mK j c)(g:mK l c):j.length=l.length:=wb3 (ha.le g) (g.le ha)
structure DK(kvs:List (List Key×V))(S:Str->Str->Nat->Prop):Prop where
 nd:(kvs.map (·.1)).Nodup
 y:∀p w e,S p w e->bc kvs (fP p w e)=some (.int 1)
 n:∀p w e,¬S p w e->bc kvs (fP p w e)=none
 k:∀kv∈kvs,∃p w e,kv.1=fP p w e
theorem DK.nil{S:Str->Str->Nat->Prop}(h:∀p w e,¬S p w e):DK [] S:=⟨WH,λp w e z=>absurd z (h p w e),λ_ _ _ _=>rfl,λ_ h=>nomatch h⟩
theorem DK.put{S r:Str->Str->Nat->Prop}(h:DK kvs S)(p w:Str)(e:Nat)(o:∀g j l,r g j l↔S g j l\/(g=p/\j=w/\l=e)):DK (putK kvs (fP p w e) (.int 1)) r:=by
 refine⟨?_,λg j l z=>?_,λg j l z=>?_,λi d=>?_⟩
 ·cases b:bc kvs (fP p w e) with
  |none=>exact zX _ h.nd b
  |some y=>rw[kG b];exact h.nd
 ·rw[qh]
  by_cases a:fP g j l=fP p w e
  ·rw[if_pos a]
  ·rw[if_neg a];refine h.y g j l (((o _ _ _).mp z).resolve_right λq=>a ?_);obtain⟨rfl,rfl,rfl⟩:=q;rfl
 ·rw[qh]
  by_cases a:fP g j l=fP p w e
  ·exact absurd ((o _ _ _).mpr (.inr (xC a))) z
  ·rw[if_neg a];exact h.n g j l λq=>z ((o _ _ _).mpr (.inl q))
 ·have c:i.1∈(putK kvs (fP p w e) (.int 1)).map (·.1):=Vx.mpr ⟨i,d,rfl⟩
  have old:∀{x:List Key},x∈kvs.map (·.1)->∃p w e,x=fP p w e:=λm=>by
   obtain⟨f,s,rfl⟩:=Vx.mp m;exact h.k f s
  cases b:bc kvs (fP p w e) with
  |none=>
   rw[cx _ b,VE]at c;rcases VP.mp c with z |z
   ·exact old z
   ·exact⟨p,w,e,VD.mp z⟩
  |some y=>
   rw[kG b]at c;exact old c
theorem mL{α:Type}(f:α->Int):∀l:List α,(∀x∈l,0<=f x)->(l.map f).sum=((l.filter λx=>decide (0 < f x)).map f).sum:=by intro l;induction l <;> grind [Vw,Vz,W8,decide_eq_true,Wh,decide_eq_false]
theorem uv{f:Str->Int}(h:∀p∈ls,0<=f p):((ak ls f).map f).sum=(ls.map f).sum:=(mL f ls h).symm
theorem DL{f:Str->Int}(hn:∀p∈ls,0<=f p)(p:Str):aR ((ak ls f).map f) (eT g ws ss ls n (ak ls f) p)=eu g ws ss ls n f p:=by
 unfold eu;rw[mL (λq:Str×Str=>f q.2) (aF g ws ss ls n p) λq a=>hn _ (cq a)];unfold aR eT;rw[VG]
 have e:(aF g ws ss ls n p).filter (λq=>decide (q.2∈ak ls f))=(aF g ws ss ls n p).filter λq=>decide (0 < f q.2):=YB λq a=>by
  unfold ak;exact decide_eq_decide.mpr (by rw[VR];exact⟨λz=>of_decide_eq_true z.2,λz=>⟨cq a,decide_eq_true z⟩⟩)
 rw[e];refine congrArg List.sum (Wm λq a=>?_)
 have b:q.2∈ak ls f:=by
  unfold ak;have:=VR.mp a;exact VR.mpr ⟨cq this.1,this.2⟩
 show ((ak ls f).map f).getD ((ak ls f).idxOf q.2) 0=f q.2;rw[Vq,Vt,(oi b).1];rfl
theorem gL.first{f:Str->Int}(hn:∀p∈ls,0<=f p)(j:y2 g ws ss ls many n f):gL many (ak ls f) ((ak ls f).map f) (bg g ws ss ls n (ak ls f)):=by
 have a:∀p∈ak ls f,p∈ls/\0 < f p:=λp b=>⟨(VR.mp b).1,of_decide_eq_true (VR.mp b).2⟩;refine⟨Vn _,Vn _,λw hw=>?_,λl hl q c=>?_,λi l hl=>?_⟩
 ·obtain⟨p,b,rfl⟩:=Vx.mp hw;have:=(a p b).2;omega
 ·obtain⟨p,b,rfl⟩:=Vx.mp hl;obtain⟨z,d,rfl⟩:=Vx.mp c;exact List.idxOf_lt_length_of_mem (of_decide_eq_true (VR.mp d).2)
 ·unfold bg at hl;rw[Vt]at hl
  cases e:(ak ls f)[i]? with
  |none=>rw[e]at hl;cases hl
  |some p=>
   rw[e]at hl;cases hl;rw[DL hn,Vq,Vt,e];exact j p (a p (VN e)).1
end Bs
namespace L2
open PySem PySem.Calls PySem.Spec PyProof.Rows
theorem p6:∀ns:List Int,preSum (λi=>ns.getD i 0) ns.length=ns.sum
 |[]=>rfl
 |n :: ns=>by
  show preSum (λi=>(n :: ns).getD i 0) (ns.length + 1)=n + ns.sum;rw[PySem.W.kdu_shift,<-p6 ns];rfl
section
variable{X:Cx}
theorem Bq(hc:X.calm=true):cS X (.builtin "sum") (λxs H Q=>∃v d kvs ns,xs=[.ref v]/\H v=some (jJ v d)/\H d=some (.dK kvs)/\kvs.map (·.2)=Zu V.int ns/\Q (.int ns.sum) H):=by
 intro m s σ H xs R Q I r h;obtain⟨v,d,kvs,ns,rfl,D,hd,hn,q⟩:=h;obtain⟨u,rfl,E⟩:=vals1 r;cases E;obtain⟨S,lo,c,rel,F⟩:=qi I.aS hd;obtain⟨ep,f⟩:=F.dictAt;obtain⟨a,_⟩:=(show bp X.prog X.w H s.heap v (jJ v d) from I.aS v _ D);have G:=I.ok.hd hc
 have g:c.length=ns.length:=by
  have:=congrArg YT hn;rw[Vn,Vn]at this;rw[<-rel.length];exact this
 have J:∀{kvs:List (Key×V)} {c:List (Key×Value)} {ns:List Int},KV kvs c->kvs.map (·.2)=ns.map V.int->∀(i:Nat) (k:Key) (x:Value),c[i]?=some (k,x)->∃t,x=.int (ns.getD i 0) t:=by
  intro kvs c ns r
  induction r generalizing ns with
  |nil=>intro _ i k x e;simp at e
  |@cons p q ps T h t K=>
   intro e i k x j
   cases ns with
   |nil=>cases e
   |cons n ns=>
    rw[VL,VL]at e;injection e with L M
    cases i with
    |zero=>
     simp at j;have y:=h.2;rw[L,j]at y;exact y
    |succ i=>exact K M i k x (by simpa using j)
 have z:=wbZ (prog:=X.prog) (w:=X.w) (r:=v) (d:=d) (knd:=b8 X.prog X.w) (kvs:=c) (ep:=ep);refine call_sum_walkAnyS ?_;obtain⟨N,St,hit,W,st⟩:=z.iter X.A.in1 s G ⟨a,f⟩;refine hit _ _ ⟨s.heap.objs.size,_,_,_,c.length,_,_,λi=>ns.getD i 0,rfl,W.toS,st,λb l=>?_,λi x ⟨k,e⟩=>J rel hn i k x e,λB t' C=>?_⟩
 ·show b < (s.heap.push N).objs.size;rw[size_push'];rcases W3.mp l with e |l
  ·rw[e];exact Xk _
  ·rw[VD.mp l];exact Zb (z.there _ ⟨a,f⟩).2
 ·have O:∀b o,s.heap.get? b=some o->B.heap.get? b=some o:=λb o e=>
   C.heap b o (λP=>absurd (VA e) (by rw[VD.mp P];exact WK _)) (Vv _ e)
  rw[Moved.eq_with C];refine⟨.int ns.sum,H,I.kept (t':=B.toks) O,⟨t',?_⟩,q⟩;rw[g,p6]
end
section
variable{prog:VO}{w:World}{A:Around}{E:Value->Shared->Prop}{s:Shared}{l I S:Addr}{vs:List Value}{R:Ys->Shared->Prop}{Q:Value->Shared->Prop}
theorem fB{h h':Heap}{p:Addr}{g:Array Value}(e:h.IsList p g)(j:∀b o,h.get? b=some o->h'.get? b=some o):h'.IsList p g:=let ⟨o,a,r⟩:=e;⟨o,j _ _ a,r⟩
theorem vB(kf:Nat->Int)(hh:A.handled=none)(hl:s.heap.IsList l vs.toArray)(hI:I=s.heap.objs.size)(IH:S≠I)(S3:s.heap.objs.size<=S)
 (turn:∀(i:Nat) (v:Value),vs[i]?=some v->∃p items,v=.ref p/\s.heap.IsList p items/\(items.size:Int)=kf i/\(items.size:Int) < 2 ^ 63)
 (hR:∀(v:Value) (h':Heap) (zc:Nat),v∈vs->(∀b o,s.heap.get? b=some o->h'.get? b=some o)->R (.ok (.ret v)) {s with heap:=h',toks:=zc}) :
 ∀(r j i:Nat) (h:Heap) (tk:Nat) (vb:Value) (tb:Tok) (c:Nat),vs.length - (j + 1)=r->j + 1<=vs.length->(∀b o,s.heap.get? b=some o->h.get? b=some o) ->
  h.get? S=some (seqObj "list" #[vb,.int (kf i) tb] c)->h.IsListIter I l (j + 1)->vs[i]?=some vb ->
  codeAny (model prog w) A (.builtin "min.loop" ⟨[.ref I,.builtin "len",.ref S],[]⟩) R {s with heap:=h,toks:=tk}:=by
 have xE:(toString "min"++toString ".loop":String)="min.loop":=by decide
 have Br:l < s.heap.objs.size:=let ⟨o,ho,_⟩:=hl;VA ho
 have N9:l≠I:=by rw[hI];exact VM Br
 have W:=wbw (prog:=prog) (w:=w) (A:=A.in1) hh I l N9 vs.toArray;have hsz:vs.toArray.size=vs.length:=W4 ..
 have old:∀{b:Addr} {o:Obj},s.heap.get? b=some o->b≠S/\b≠I:=λ{b o} e=>by
  have hb:b < s.heap.objs.size:=VA e;exact⟨VM (VI hb S3),by rw[hI];exact VM hb⟩
 intro r
 induction r with
 |zero=>
  intro j i h tk vb tb c hr hj mono nS hit Nb;have Sa:j + 1=vs.length:=by omega
  refine Y2 Zi ?_;rw[Y9 X6 _];show wpAny _ A.in1 (seqItems? (.ref S) >>= _) _ _ _;refine Vr (wbr nS rfl ?_);show wpAny _ A.in1 (tryCatch (pyNext (.ref I)) _ >>= _) _ _ _;refine Vr (YG (W.done _ _ _ ⟨by rw[hsz,<-Sa];exact hit,fB hl mono⟩ λh' zc EF=>?_));have Sb:=EF S _ (by simpa using IH) nS;have s1:=wa1 h' S (Y8 λ_=>(#[]:Array Value));show wpAny _ A.in1 (updateSeq S (λ_=>#[]) >>= _) _ _ _;refine Vr ?_;refine wb4 Sb rfl (Vr (wbf (VW ?_)));exact hR vb _ _ (VN Nb) λb o e=>(s1.2 b (old e).1).trans (EF b o (by simpa using(old e).2) (mono b o e))
 |succ r ih=>
  intro j i h tk vb tb c hr hj mono nS hit Nb;have II:j + 1 < vs.length:=by omega
  refine Y2 Zi ?_;rw[Y9 X6 _];show wpAny _ A.in1 (seqItems? (.ref S) >>= _) _ _ _;refine Vr (wbr nS rfl ?_);show wpAny _ A.in1 (tryCatch (pyNext (.ref I)) _ >>= _) _ _ _;refine Vr (YG (W.item (j + 1) _ _ _ (by rw[hsz];exact II) ⟨hit,fB hl mono⟩ λv h' zc hP G3 EF=>?_));have hv:vs[j + 1]?=some v:=by simpa using hP
  have uw:∀b o,s.heap.get? b=some o->h'.get? b=some o:=λb o e=>EF b o (by simpa using(old e).2) (mono b o e);have Jq:=EF S _ (by simpa using IH) nS;obtain⟨p,items,rfl,hp,Nc,Bt⟩:=turn (j + 1) v hv;show wpAny _ A.in1 (tryCatch (holding [VH p] (call (.builtin "len") [.ref p])) _ >>= _) _ _ _;refine Vr (YG (WL (wa0 (fB hp uw) Bt ?_)));rw[Nc];show wpAny _ A.in1 (tryCatch (holding [VH p,.int (kf (j + 1)) _] (richCompare .Lt (.int (kf (j + 1)) _) (.int (kf i) tb) >>= _)) _ >>= _) _ _ _;refine Vr (YG (WL (Vr (CmpOf.ints_lt (prog:=prog) (w:=w) (A:=A.in1) (P:=λi v=>∃t,v=.int (kf i) t) kf (λi v h=>h) (j + 1) i _ _ _ _ _ ⟨_,rfl⟩ ⟨tb,rfl⟩ ?_))));refine Vr (WL (Xc ?_));refine Vr (wbf (VW ?_))
  by_cases DM:kf (j + 1) < kf i
  ·simp only[DM,decide_true,if_true];refine Vr ?_;refine wb4 Jq rfl (Vr (wbf ?_));rw[xE];have s1:=wa1 h' S (Y8 λ_=>#[VH p,.int (kf (j + 1)) (zc + 1)]);obtain⟨c2,Nf⟩:∃c2,(h'.update S (Y8 λ_=>#[VH p,.int (kf (j + 1)) (zc + 1)])).get? S=some (seqObj "list" #[VH p,.int (kf (j + 1)) (zc + 1)] c2):=⟨_,get?_update_seq Jq λ_=>#[VH p,.int (kf (j + 1)) (zc + 1)]⟩;refine VW ⟨Zk X6 _,ih (j + 1) (j + 1) _ _ _ _ c2 (by omega) II (λb o e=>(s1.2 b (old e).1).trans (uw b o e)) Nf ?_ hv⟩;obtain⟨Ng,IJ,Nh⟩:=id G3.1;exact⟨Ng,(s1.2 I IH.symm).trans IJ,Nh⟩
  ·simp only[DM,decide_false,XV,if_false];refine Vr (wbf ?_);rw[xE];exact VW ⟨Zk X6 _,ih (j + 1) i _ _ vb tb c (by omega) II uw Jq G3.1 Nb⟩
theorem G5(kf:Nat->Int)(hh:A.handled=none)(hl:s.heap.IsList l vs.toArray)(yr:0 < vs.length)
 (turn:∀(i:Nat) (v:Value),vs[i]?=some v->∃p items,v=.ref p/\s.heap.IsList p items/\(items.size:Int)=kf i/\(items.size:Int) < 2 ^ 63)
 (hQ:∀(v:Value) (h':Heap) (zc:Nat),v∈vs->(∀b o,s.heap.get? b=some o->h'.get? b=some o)->Q v {s with heap:=h',toks:=zc}) :
 wpAny (model prog w) A (call (.builtin "min") [.ref l] [(waL "key",.builtin "len")]) Q E s:=by
 have xE:(toString "min"++toString ".loop":String)="min.loop":=by decide
 have Br:l < s.heap.objs.size:=let ⟨o,ho,_⟩:=hl;VA ho
 refine kmk_tree PySem.F.kind_min PySem.F.plain_min PySem.F.entry_min (kmk_min_key _ _) ?_;show wpAny _ A.in1 (wab "min" ["key","default"] 0 ⟨[],[(waL "key",.builtin "len")]⟩ >>= _) _ _ s;refine Vr (wpAny_of_eq (show wab "min" ["key","default"] 0 ⟨[],[(waL "key",.builtin "len")]⟩=pure [some (.builtin "len"),none] from rfl) ?_);refine Vr (VW ?_);refine Vr (Y5 hl ?_);refine Vr (wpAny_newList ?_ (Wb _));rw[xE];have hS:(s.heap.push {cls:=.type "list_iterator",data:=.fields #[.ref l,.int 0 0]}).objs.size=s.heap.objs.size + 1:=size_push' ..;have N9:l≠s.heap.objs.size:=VM Br;have IH:(s.heap.push {cls:=.type "list_iterator",data:=.fields #[.ref l,.int 0 0]}).objs.size≠s.heap.objs.size:=by rw[hS];exact XR (Xk _)
 refine VW ⟨Zk X6 _,?_⟩
 have gI:((s.heap.push {cls:=.type "list_iterator",data:=.fields #[.ref l,.int 0 0]}).push (seqObj "list" #[] 0)).get? s.heap.objs.size=some {cls:=.type "list_iterator",data:=.fields #[.ref l,.int 0 0]}:=
  Vv _ (VX _ rfl)
 have gS:((s.heap.push {cls:=.type "list_iterator",data:=.fields #[.ref l,.int 0 0]}).push (seqObj "list" #[] 0)).get? (s.heap.push {cls:=.type "list_iterator",data:=.fields #[.ref l,.int 0 0]}).objs.size=some (seqObj "list" #[] 0):=VX _ rfl;have GY:∀b o,s.heap.get? b=some o->((s.heap.push {cls:=.type "list_iterator",data:=.fields #[.ref l,.int 0 0]}).push (seqObj "list" #[] 0)).get? b=some o:=λb o e=>Vv _ (Vv _ e)
 have old:∀{b:Addr} {o:Obj},s.heap.get? b=some o->b≠s.heap.objs.size + 1/\b≠s.heap.objs.size:=λ{b o} e=>by
  have hb:b < s.heap.objs.size:=VA e;exact⟨VM (Zb hb),VM hb⟩
 have W:=wbw (prog:=prog) (w:=w) (A:=A.in1) hh s.heap.objs.size l N9 vs.toArray;have hsz:vs.toArray.size=vs.length:=W4 ..;refine Y2 Zi ?_;rw[Y9 X6 _];show wpAny _ A.in1 (seqItems? (.ref _) >>= _) _ _ _;refine Vr (wbr gS rfl ?_);show wpAny _ A.in1 (tryCatch (pyNext (.ref s.heap.objs.size)) _ >>= _) _ _ _;refine Vr (YG (W.item 0 _ _ _ (by rw[hsz];exact yr) ⟨⟨_,gI,rfl,rfl⟩,fB hl GY⟩ λv h' zc hP G3 EF=>?_));have hv:vs[0]?=some v:=by simpa using hP
 have uw:∀b o,s.heap.get? b=some o->h'.get? b=some o:=λb o e=>EF b o (by simpa using(old e).2) (GY b o e);have Jq:=EF _ _ (by simpa using IH) gS;obtain⟨p,items,rfl,hp,Nc,Bt⟩:=turn 0 v hv;show wpAny _ A.in1 (tryCatch (holding [VH p] (call (.builtin "len") [.ref p])) _ >>= _) _ _ _;refine Vr (YG (WL (wa0 (fB hp uw) Bt ?_)));rw[Nc];have s1:=wa1 h' (s.heap.push {cls:=.type "list_iterator",data:=.fields #[.ref l,.int 0 0]}).objs.size (Y8 λ_=>#[VH p,.int (kf 0) (zc + 1)]);obtain⟨c2,Nf⟩:∃c2,(h'.update (s.heap.push {cls:=.type "list_iterator",data:=.fields #[.ref l,.int 0 0]}).objs.size (Y8 λ_=>#[VH p,.int (kf 0) (zc + 1)])).get? (s.heap.push {cls:=.type "list_iterator",data:=.fields #[.ref l,.int 0 0]}).objs.size=some (seqObj "list" #[VH p,.int (kf 0) (zc + 1)] c2):=⟨_,get?_update_seq Jq λ_=>#[VH p,.int (kf 0) (zc + 1)]⟩;show wpAny _ A.in1 (updateSeq (s.heap.push {cls:=.type "list_iterator",data:=.fields #[.ref l,.int 0 0]}).objs.size (λ_=>#[VH p,.int (kf 0) (zc + 1)]) >>= _) _ _ _;refine Vr ?_;refine wb4 Jq rfl ?_;rw[xE];obtain⟨Ng,IJ,Nh⟩:=id G3.1;refine VW ⟨Zk X6 _,vB kf hh hl rfl IH (by rw[hS];exact Ye _) turn hQ _ 0 0 _ _ _ _ c2 rfl yr (λb o e=>(s1.2 b (by rw[hS];exact(old e).1)).trans (uw b o e)) Nf ⟨Ng,(s1.2 _ IH.symm).trans IJ,Nh⟩ hv⟩
end
section
variable{X:Cx}{e:Expr}{t:TA}{p p2 kp pos:Pos}
def KB(K:Vo)(t:TA):TE:=λσ H Q=>t σ H λvs H1=>∃(a:Addr) (ps:List Addr),vs=[.ref a]/\aN K H1 a (ps.map V.ref)/\ps≠[]/\(∀q∈ps,∃ys,aN K H1 q ys)/\∀q∈ps,Q (.ref q) H1
theorem G6(hc:X.calm=true)(C:Gl X "min")(J:X.mg "min"=none)(l:Gl X "len")(o:X.mg "len"=none)(ha:PA X [e] t)(hs:starEach [e] X.env=[(false,eval e X.env)]:=by rfl):PE X (.Call (.Name "min" p) [e] [⟨some "key",.Name "len" p2,kp⟩] pos) (KB X.K t):=by
 intro f s σ H Q I h;refine X3 (iB I C J (show Wi "min"=some (.builtin "min") from Sx.Ik) ?_ (by decide) (by decide));refine PyProof.Rows.callWith_kw (bL (ha pos f s σ H _ I h) λP A ⟨R,B,g,D,E⟩=>?_) (by rw[hs];rfl) (by rw[hs];rfl);refine wbs (iB g l o (show Wi "len"=some (.builtin "len") from We) (wbC ?_) (by decide) (by decide));obtain⟨a,ps,rfl,F,m,n,q⟩:=E;obtain⟨u,rfl,G⟩:=vals1 D;cases G;obtain⟨b,k,pl,y⟩:=g.list F;have hl:b.length=ps.length:=by have:=k.length;rw[Vn]at this;exact this.symm
 have j:∀{ps:List Addr} {b:List Value},Vals (ps.map V.ref) b->b=ps.map VH:=by
  intro ps
  induction ps with
  |nil=>intro b r;cases r;rfl
  |cons x ps L=>
   intro b r
   cases r with
   |cons h t=>rw[L t];cases h;rfl
 have e:=j k;subst e
 have sz:∀q∈ps,∃b:List Value,A.heap.IsList q b.toArray/\b.length<=sizeLine:=λq c=>by
  obtain⟨S,M⟩:=n q c;obtain⟨b,k,pl,y⟩:=g.list M;exact⟨b,pl.isList,by rw[<-k.length];exact y⟩
 have hn:=lK;refine G5 (kf:=λi=>match ps[i]? with |some q=>if c:q∈ps then((Classical.choose (sz q c)).length:Int) else 0 |none=>0) (g.ok.hd hc) pl.isList (by rw[Vn];cases ps with |nil=>exact absurd rfl m |cons _ _=>exact Nat.succ_pos _) (λi v d=>?_) λv T w d N=>?_
 ·rw[Vt]at d
  cases e:ps[i]? with
  |none=>rw[e]at d;cases d
  |some q=>
   rw[e]at d;cases d;have c:q∈ps:=VN e;obtain⟨O,U⟩:=Classical.choose_spec (sz q c);refine⟨q,_,rfl,O,?_,?_⟩
   ·show _=if c:q∈ps then _ else _
    rw[dif_pos c,W4]
   ·rw[W4];omega
 ·obtain⟨z,c,rfl⟩:=Vx.mp d;exact⟨.ref z,B,g.kept (t':=w) N,rfl,q z c⟩
end
open AutoSeq1 (wpAny_loadPart')
noncomputable abbrev GZ(t:Tok):List (Str×Value):=[(waL "start",.int 1 t)]
theorem Bu(l:Addr)(items:Array Value)(n:Nat)(j:Option Addr)(sl:Array (Option Value))(t:Tok) :
 Meets (Zx.«enumerate.__new__» ⟨[.type "enumerate",.ref l],GZ t⟩) (λ_ R s=>s.heap.get? l=some {cls:=.type "list",dict:=j,data:=.seq items n,slots:=sl} /\
  R (.ok (.ret (.ref (s.heap.objs.size + 1)))) {s with heap:=(s.heap.push {cls:=.type "list_iterator",data:=.fields #[.ref l,.int 0 0]}).push {cls:=.type "enumerate",data:=.fields #[.none,.bool false,.ref s.heap.objs.size,rawInt 1,.none,.none]}}):=
 .of_wp λprog w A R s h=>by
  obtain⟨a,g,d,i,os⟩:=s;obtain⟨hl,h⟩:=h;have b:(a.push {cls:=.type "list_iterator",data:=.fields #[.ref l,.int 0 0]}).objs.size=a.objs.size + 1:=Xb ..;have e:=sub_enumerate;have f:Heap.IsList (Shared.heap ⟨a,g,d,i,os⟩) l items:=⟨_,hl,rfl,n,rfl⟩
  wp_walk using wpAny_loadPart' hl
  refine wpAny_stack_any λst=>VW ?_;split
  ·rename_i c _ _ _ _ _;cases(c == ZE "enumerate") <;> (wp_walk using wpAny_loadPart' hl,Y5 f;exact⟨_,rfl,by rw[b];exact h⟩)
  ·wp_walk using wpAny_loadPart' hl,Y5 f
   exact⟨_,rfl,by rw[b];exact h⟩
section
variable{prog:VO}{w:World}{A:Around}{E:Value->Shared->Prop}{s:Shared}
theorem DN(l:Addr)(t:Tok):checkTypeCall "enumerate" ⟨[.ref l],GZ t⟩=pure ():=by kernel_rfl
theorem DP(l:Addr)(t:Tok):Zv "enumerate.__new__" ⟨[.type "enumerate",.ref l],GZ t⟩=pure ():=by kernel_rfl
theorem zf(o l:Addr)(t:Tok):argsOk "object.__init__" ⟨[.ref o,.ref l],GZ t⟩:=by unfold argsOk;kernel_rfl
theorem zg(o l:Addr)(t:Tok):Meets (Zx.«object.__init__» ⟨[.ref o,.ref l],GZ t⟩) (λ_ R s=>s.TypeIs (.ref o) "enumerate"/\R (.ok (.ret .none)) s):=by
 have hl:=wac.init.lookup;have c:=wac.made;have a:(some "enumerate.__new__" != some "object.__new__")=true:=by decide
 refine Meets.of_wp λprog w A R s ⟨d,b⟩=>?_
 repeat (any_goals (first |assumption |wp_step))
 exact⟨_,rfl,b⟩
theorem zh{Q:Value->Shared->Prop}(C:s.heap.IsList l items)
 (h:∀h',IsEnum h' (s.heap.objs.size + 1) s.heap.objs.size 1 .none->h'.IsListIter s.heap.objs.size l 0->(∀b o,s.heap.get? b=some o->h'.get? b=some o)->Q (.ref (s.heap.objs.size + 1)) {s with heap:=h'}) :
 wpAny (model prog w) A (call (.type "enumerate") [.ref l] (GZ t)) Q E s:=by
 obtain⟨⟨c,f,x,sl⟩,hl,hc,n,hd⟩:=C;have y:c=.type "list":=hc;have z:x=.seq items n:=hd;subst y z;have B:(s.heap.push {cls:=.type "list_iterator",data:=.fields #[.ref l,.int 0 0]}).objs.size=s.heap.objs.size + 1:=Xb ..;have a:=wac;obtain⟨c,J,k⟩:=a.mro;have g:=a.made;have m:=a.sub;have K:=a.notType;have L:=a.canCreate;have D:=DN l t;refine XO (wb0 (show wpAny _ _ (callAny (.type "enumerate") _) _ _ _ from VW ⟨Z5 _ (by decide+kernel),Y2 wbx ?_⟩));rw[wc0 (wbl "enumerate" [.ref l] (GZ t)) (units_type_call_type "enumerate" [.ref l] (GZ t))]
 repeat (any_goals (first |assumption |wp_step))
 have p:((s.heap.push {cls:=.type "list_iterator",data:=.fields #[.ref l,.int 0 0]}).push {cls:=.type "enumerate",data:=.fields #[.none,.bool false,.ref s.heap.objs.size,rawInt 1,.none,.none]}).get? (s.heap.objs.size + 1)=some {cls:=.type "enumerate",data:=.fields #[.none,.bool false,.ref s.heap.objs.size,rawInt 1,.none,.none]}:=by
  rw[<-B];exact VX _ rfl
 refine Xg (Xx a.plain F.entry_enumerate_new (wpAny_of_eq (DP l t) ((Bu l items n f sl t) prog w A.in1 (wants (λv i=>v=.ref (s.heap.objs.size + 1)/\i={s with heap:=(s.heap.push {cls:=.type "list_iterator",data:=.fields #[.ref l,.int 0 0]}).push {cls:=.type "enumerate",data:=.fields #[.none,.bool false,.ref s.heap.objs.size,rawInt 1,.none,.none]}}) E) s ⟨hl,rfl,rfl⟩))) λr q j=>?_
 cases r with
 |error e=>exact j
 |ok fl=>
  cases fl with
  |ret obj=>
   obtain⟨rfl,rfl⟩:=j;have u:wcM {s with heap:=(s.heap.push {cls:=.type "list_iterator",data:=.fields #[.ref l,.int 0 0]}).push {cls:=.type "enumerate",data:=.fields #[.none,.bool false,.ref s.heap.objs.size,rawInt 1,.none,.none]}} (.ref (s.heap.objs.size + 1)) "enumerate":=⟨_,p,rfl⟩;have G:=a.init.lookup;have H:=a.init.bind (.ref (s.heap.objs.size + 1));have M:=h _ p ⟨_,Vv _ (VX _ rfl),rfl,rfl⟩ λb o e=>Vv _ (Vv _ e)
   repeat (any_goals (first |assumption |wp_step))
   refine Xg (Xx a.init.plain F.entry_object_init (a.init.check _ _ _ _ _ _ _ _ u (zf _ l t) ((zg (s.heap.objs.size + 1) l t) prog w A.in1 (wants (λv i=>v=.none/\i={s with heap:=(s.heap.push {cls:=.type "list_iterator",data:=.fields #[.ref l,.int 0 0]}).push {cls:=.type "enumerate",data:=.fields #[.none,.bool false,.ref s.heap.objs.size,rawInt 1,.none,.none]}}) E) _ ⟨u,rfl,rfl⟩))) λI N d=>?_
   cases I with
   |error e=>exact d
   |ok Jm=>
    cases Jm with
    |ret r=>
     obtain⟨rfl,rfl⟩:=d
     repeat (any_goals (first |assumption |wp_step))
    |_=>exact d.elim
  |_=>exact j.elim
theorem zi{P:Nat->Value->Prop}{St:Nat->Heap->Prop}(D:Draws prog w A it g n P St):Draws prog w A it g (n + 1) (λj v=>∃i,j=i + 1/\P i v) (λj h=>∃i,j=i + 1/\St i h) where
 live:=λ_ _ ⟨i,_,st⟩=>D.live i _ st
 frame:=λ_ h a ⟨i,e,st⟩ b=>⟨i,e,D.frame i h a st b⟩
 item:=λ_ s Q E m ⟨i,e,st⟩ c=>D.item i s Q E (by omega) st λx a d f k sb=>c x a d ⟨i,e,f⟩ ⟨i + 1,by omega,k⟩ sb
 done:=λs Q E ⟨i,e,st⟩ l=>D.done s Q E ((show n=i by omega) ▸ st) l
theorem Bv(g:A.handled=none)(it l:Addr)(items:Array Value)(i:Nat)(p:items[i]?=none):Draws prog w A it [it,l] (i + 1) (λ_ _=>False) (λj h=>j=i + 1/\h.IsListIter it l i/\h.IsList l items) where
 live:=λ_ _ ⟨_,st,_⟩=>let ⟨o,b,_⟩:=st;⟨o,b⟩
 frame:=λ_ _ _ ⟨e,st,sl⟩ a=>⟨e,st.at λo q=>a it (by simp) o q,sl.at λo q=>a l (by simp) o q⟩
 item:=λ_ _ _ _ c ⟨e,_⟩ _=>absurd e (VM c)
 done:=λ_ _ _ ⟨_,st,sl⟩ d=>wpAny_nextOf_list_end g st sl p d
end
noncomputable def DQ(K:Vo)(a:Addr):It:=
 ⟨λi H=>∃xs x,aN K H a xs/\xs[i]?=some x,λi H x H'=>∃T xv,H T=none/\x=.ref T/\H'=upd H T (.tup [.int ((i + 1:Nat):Int),xv])/\∀xs,aN K H a xs->xs[i]?=some xv,λi H=>∃xs,aN K H a xs/\xs.length<=i⟩
theorem zj{P:VO}{w:World}{K:Vo}{T:List Expr}{k:Nat}{pos:Pos}(a e it:Addr)(C:e≠it)(U:a≠it):Turn P w K (.Tuple T k pos) (DQ K a) [e,it] e (λi h=>(∃old,IsEnum h e it ((i + 1:Nat):Int) old)/\h.IsListIter it a i) where
 mem:=by simp
 obj:=λi h st b d=>by
  obtain⟨⟨old,f⟩,o,F,hc,hd⟩:=st;rcases W3.mp d with z |d
  ·exact⟨_,z ▸ f,λv q=>by
    have q':wcf _=wcK v:=q
    cases q'⟩
  ·exact⟨o,VD.mp d ▸ F,λv q=>by rw[hd]at q;cases q⟩
 keep:=λi h h' st k=>⟨st.1.imp λold f=>k e (by simp) _ f,st.2.at λo q=>k it (by simp) o q⟩
 item:=by
  intro X S hw V hc i B s σ H E I L st Y;subst S hw V;obtain⟨xs,x,R,Z⟩:=Y;obtain⟨g,rv,p,hz⟩:=I.list R;obtain⟨u,hu,ru⟩:=rv.get Z;obtain⟨⟨old,f⟩,hit⟩:=st;obtain⟨f0,f1,f2,f3,f4,f5⟩:=L e (by simp);obtain⟨g0,g1,g2,g3,g4,g5⟩:=L it (by simp)
  have yr:e≠a:=λz=>by
   obtain⟨o,F,Sd,_⟩:=p.isList;have j:=f;rw[z]at j;rw[j]at F;cases F;have q:ZE "enumerate"=.type "list":=Sd;injection q with q
   exact absurd q (by decide)
  have UI:i < g.length:=(Vu.mp hu).1;refine wpAny_pyNext_enum_itemD (i:=i + 1) (zi (Draws.list (A:=X.A.in1) (I.ok.hd hc) it a U g.toArray)) f ⟨i,rfl,hit,p.isList⟩ (by rw[W4];omega) C (by simp[C,yr]) λy h' tk G F Se hT hsz hk=>?_;obtain⟨M,e1,G⟩:=G;obtain⟨i2,e2,N,Sf⟩:=Se;have e1:M=i:=by omega
  have e2:i2=i + 1:=by omega
  subst e1 e2
  have ey:y=u:=by
   rw[List.getElem?_toArray,hu]at G;exact(VC G).symm
  subst ey;refine⟨_,rfl,wai F λl j D=>?_⟩;have kp:∀b o,b≠e->b≠it->s.heap.get? b=some o->l.get? b=some o:=λb o h1 h2 q=>(D.2 b h1).trans (hk b o h1 h2 q);have O:e < s.heap.objs.size:=VA f;have HN:s.heap.objs.size≠e:=XR O;have MG:l.get? s.heap.objs.size=some {cls:=.type "tuple",data:=.seq #[.int ((M + 1:Nat):Int) tk,y]}:=(D.2 _ HN).trans hT;have J:=I.aS.fresh (Vy s.heap.objs.size);have t:∀b o,H b=some o->b≠e/\b≠it:=λb o q=>⟨(λz=>by rw[z,f0]at q;cases q),(λz=>by rw[z,g0]at q;cases q)⟩
  have Q:iz X.prog X.w (upd H s.heap.objs.size (.tup [.int ((M + 1:Nat):Int),x])) l:=by
   intro b o q
   by_cases d:b=s.heap.objs.size
   ·subst d;rw[a7]at q;cases q;exact⟨by show 2<=sizeLine;decide,[.int ((M + 1:Nat):Int) tk,y],.cons ⟨_,rfl⟩ (.cons ru .nil),⟨_,MG,rfl,_,rfl⟩⟩
   ·rw[aa d]at q;refine(I.aS b o q).nO (λc v hc r=>?_) (λc r=>by rw[aa (ae r J)];exact r) λc ys r=>by rw[aa (ae r J)];exact r
    rcases hc with z |z
    ·rw[z]at r ⊢;exact kp b v (t b o q).1 (t b o q).2 r
    ·exact kp c v (t c _ z).1 (t c _ z).2 r
  have I1:Inv X B σ (upd H s.heap.objs.size (.tup [.int ((M + 1:Nat):Int),x])) {s with heap:=l,gens:=s.gens,drawn:=s.drawn,toks:=tk + 1}:=by
   refine I.step (ch:=[e,it]) (λb d=>?_) (λb o _ _ hc q _=>kp b o (λz=>hc (by simp[z])) (λz=>hc (by simp[z])) q) (λb o _ _ hc q _=>⟨o.slots,kp b o (λz=>hc (by simp[z])) (λz=>hc (by simp[z])) q⟩)
    (λb o _ q n=>by rw[aa (VM (VA q))];exact n) (λb o hc q=>⟨o,kp b o (λz=>hc (by simp[z])) (λz=>hc (by simp[z])) q⟩)
    (λb ys r=>by rw[aa (ae r J)];exact r) (λb o u r=>by rw[aa (ae r J)];exact r) (λb ps r=>⟨#[],by rw[aa (ae r J),r];simp⟩)
    (λm ⟨o,es,ep,MH,r⟩=>⟨o,es,ep,kp _ o (WQ f1) (WQ g1) MH,r⟩) Q I.bare
   rcases W3.mp d with rfl |d
   ·exact⟨f3,f1,f4,f5⟩
   ·have e':b=it:=by simpa using d
    subst e';exact⟨g3,g1,g4,g5⟩
  refine⟨.ref s.heap.objs.size,_,I1,rfl,⟨s.heap.objs.size,x,J,rfl,rfl,λys G=>by rw[I.qc G R];exact Z⟩,⟨⟨y,by simpa using j⟩,?_⟩,λb d=>?_⟩
  ·exact N.at λo q=>(D.2 it (WQ C)).trans q
  ·have:b < s.heap.objs.size:=by
    rcases W3.mp d with rfl |d
    ·exact O
    ·have e':b=it:=by simpa using d
     subst e';obtain⟨o,q,_⟩:=hit;exact VA q
   rw[aa (VM this)];exact(L b d).1
 done:=by
   intro X S hw V hc i B s σ H E I L st Y;subst S hw V;obtain⟨xs,R,Z⟩:=Y;obtain⟨g,rv,p,hz⟩:=I.list R;have hl:=rv.length;obtain⟨⟨old,f⟩,hit⟩:=st;obtain⟨g0,g1,g2,g3,g4,g5⟩:=L it (by simp);exact wpAny_pyNext_enum_endD (Bv (A:=X.A.in1) (I.ok.hd hc) it a g.toArray i (wba (by simp;omega))) f ⟨rfl,hit,p.isList⟩ λh' eb=>⟨rfl,I.turned (t':=s.toks) (λb o d e=>eb b o d e) g0 g1 g3 g4 g5⟩
 self:=λ_ _ _ _ _ st h=>let ⟨⟨_,f⟩,_⟩:=st;Zc f h
theorem vC{E:Value->Shared->Prop}{Q:Value->Shared->Prop}(l:args.any (·.1)=false)(o:j.any (·.1.isNone)=false)
 (h:wpAny M A (evalArgs (.type T) true args j) (λa g=>wpAny M A (call (.type T) (first++a.pos) a.kw) Q E g) E s):wpAny M A (callWith pos (.type T) first args j) Q E s:=by
 unfold callWith;refine Vr (WL (Wl h (λa g b=>Vr (YS ?_)) λ_ _ x=>x));simp only[l,o,Bool.or_false];exact Vr (VW (Vr (Wl b (λr c d=>Vr (WL (wpAny_point (VW d)))) λ_ _ x=>x)))
section
variable{X:Cx}
def IK(K:Vo)(ta:TA):TI:=λσ H R=>ta σ H λvs H1=>∃a xs,vs=[.ref a]/\aN K H1 a xs/\R (DQ K a) H1
theorem DR{g:List Expr}{k j:Nat}{o:Pos}{l:Expr}{C:TA}{p J kp pos:Pos}(T:Gl X "enumerate")(U:X.mg "enumerate"=none)(ha:PA X [l] C)(hs:starEach [l] X.env=[(false,eval l X.env)]:=by rfl) :
 PI X (.Tuple g k o) (.Call (.Name "enumerate" p) [l] [⟨some "start",.Constant (.int 1) j J,kp⟩] pos) (IK X.K C):=by
 intro c s σ H R I h;refine X3 (iB I T U jg ?_ (by decide) (by decide));refine vC (by rw[hs];rfl) rfl ?_
 have w:backTo pos (starEach [l] X.env)=(false,(backTo pos (starEach [l] X.env)).head (by rw[hs];exact λz=>nomatch z) |>.2) :: []:=by
  simp only[hs];rfl
 rw[w];refine evalArgs_kwB rfl ?_;rw[<-w];refine bL (ha pos c s σ H _ I h) λZ E ⟨vs,A,F,G,L⟩=>?_;refine wbs (bL (ag (X:=X) (i:=1) c E σ A (λx m=>x=.int 1/\m=A) F ⟨rfl,rfl⟩) λv d ⟨y,m,n,M,N,O⟩=>wbC ?_);subst N O;obtain⟨t,rfl⟩:=M;obtain⟨a,xs,e,P,q⟩:=L;subst e;obtain⟨u,rfl,Q⟩:=vals1 G;cases Q;obtain⟨S,rv,pl,hz⟩:=n.list P;refine zh pl.isList λV B hit kp=>Zc B ?_;have W:Inv X c σ m {d with heap:=V}:=n.kept (t':=d.toks) kp;have r:a < d.heap.objs.size:=let ⟨_,Y,_⟩:=pl.isList;VA Y
 refine⟨d.heap.objs.size + 1,[d.heap.objs.size + 1,d.heap.objs.size],_,_,m,rfl,W,zj a _ _ (XR (Xk _)) (VM r),⟨⟨_,B⟩,hit⟩,λb D=>?_,q⟩
 have f:d.heap.objs.size<=b:=by
  rcases W3.mp D with rfl |D
  ·grind
  ·grind
 exact n.Ax f (n.aS.fresh f)
end
theorem Bw{K:Vo}{a:Addr}{xs:List V}{g:TG}{C:TS}{D:Ends}{σ:St}{H:Hp}(Pv:Nat->St->Hp->Prop)(J:Pv 0 σ H)(hl:∀i σ H,i<=xs.length->Pv i σ H->aN K H a xs)
 (hs:∀i x σ H T,xs[i]?=some x->Pv i σ H->H T=none->g (.ref T) σ (upd H T (.tup [.int ((i + 1:Nat):Int),x])) λj r=>C {D with nx:=Pv (i + 1),ct:=Pv (i + 1),bk:=D.nx} j r) (hd:∀σ H,Pv xs.length σ H->D.nx σ H) :
 ∃W:Nat->Nat->St->Hp->Prop,(∃m,W 0 m σ H)/\∀i m σ H,W i m σ H ->
  ((DQ K a).stop i H/\D.nx σ H)\/((DQ K a).go i H/\∃N:St->Hp->Prop,(∀l o,N l o->∃I,I < m/\W (i + 1) I l o)/\∀x o,(DQ K a).sD i H x o->g x σ o λj r=>C {D with nx:=N,ct:=N,bk:=D.nx} j r):=by
 refine⟨λi m σ H=>m=xs.length - i/\i<=xs.length/\Pv i σ H,⟨xs.length,by simp,Wb _,J⟩,?_⟩;rintro i m σ H ⟨rfl,hi,p⟩;have q:=hl i σ H hi p
 by_cases b:i < xs.length
 ·refine .inr ⟨⟨xs,xs[i],q,by simp[b]⟩,Pv (i + 1),λl o c=>⟨xs.length - (i + 1),by omega,rfl,b,c⟩,λx o y=>?_⟩;obtain⟨T,d,f,h,k,y⟩:=y;subst h k;exact hs i d σ _ T (y xs q) p f
 ·have e:i=xs.length:=by omega
  subst e;exact .inl ⟨⟨xs,q,Vy _⟩,hd σ H p⟩
end L2
namespace L2
open PySem PySem.Spec PyProof.Rows
def ri(K:Vo)(J:It)(l:Addr)(σf:St)(tt:TT)(te:TE)(H:Hp)(Q:Hp->Prop):Prop:=
 ∃W:Nat->Nat->List V->Hp->Prop,(∃m,W 0 m [] (upd H l (.lst [])))/\∀i m ys H2,W i m ys H2->H2 l=some (.lst ys) /\
  ((J.stop i H2/\Q H2)\/(J.go i H2/\ys.length < sizeLine/\∀x H3,J.sD i H2 x H3->∃p a b c,x=.ref p/\jA K H3 p [a,b,c]/\tt (some a :: some b :: some c :: σf) H3 λok H4=>
    if ok=true then te (some a :: some b :: some c :: σf) H4 λy H5=>H5 l=some (.lst ys)/\∃m',m' < m/\W (i + 1) m' (ys++[y]) (upd H5 l (.lst (ys++[y])))
    else ∃m',m' < m/\W (i + 1) m' ys H4))
def IL(K:Vo)(wi:TI)(ix:List Nat)(tt:TT)(te:TE):TE:=λσ H Q=>wi σ H λJ H1=>∀l,H1 l=none->ri K J l (pick σ ix) tt te H1 (λH2=>Q (.ref l) H2)
section
variable{X:Cx}{pins:List (Addr×Obj)}{σ:St}{H:Hp}{s₂:Shared}{scope:Yr}{x x2 x3:Str}{ys:List Str}{ix:List Nat}{cl:List (Str×Addr)}{fp:List Addr}{L:Addr}
theorem DS(hc:X.calm=true)(B:bo X scope x ys ix)(g:bo X scope x2 ys ix)(j:bo X scope x3 ys ix)(l:x≠x2/\x≠x3/\x2≠x3)(cl L s H ex pn):PG (b5 X scope ([x,x2,x3]++ys) cl L s H ex pn) (.Tuple [.Name x r,.Name x2 o,.Name x3 p] C pt) (Ck X.K 3 (jD (dv 0) (jD (dv 1) (jD (dv 2) Cj)))):=by
 have d:(relabel scope X.env).names.lookup x=some .local:=Xw B.var;have b:(relabel scope X.env).names.lookup x2=some .local:=Xw g.var;have c:(relabel scope X.env).names.lookup x3=some .local:=Xw j.var
 have a:(x :: x2 :: x3 :: ys).Nodup:=by
  have:=B.nd;have:=g.nd;have:=j.nd
  grind
 exact gY hc (b6 (iE a rfl (.inl d) (.inr d)) (b6 (iE a rfl (.inl b) (.inr b)) (b6 (iE a rfl (.inl c) (.inr c)) fi)))
theorem DT{K:Vo}{J:It}(h:ri K J l g j o H Q):tT (Ck K 3 (jD (dv 0) (jD (dv 1) (jD (dv 2) Cj)))) 3 J l g j o H Q:=
 let ⟨W,a,t⟩:=h
 ⟨W,a,λi m ys k w=>let ⟨p,q⟩:=t i m ys k w;⟨p,q.imp id λ⟨a,b,c⟩=>⟨a,b,λx n r z y=>by revert r;refine gE 3 _ ?_;exact λ_ _ _=>let ⟨p,v,f,d,e,u,s⟩:=c x n y;⟨p,[v,f,d],e,u,rfl,v,[f,d],rfl,f,[d],rfl,d,[],rfl,rfl,⟨[some v,some f,some d],rfl,rfl⟩,s⟩⟩⟩⟩
theorem DU(hc:X.calm=true)(B:bo X scope x ys ix)(U:bo X scope x2 ys ix)(B3:bo X scope x3 ys ix)(g:x≠x2/\x≠x3/\x2≠x3)(hi:PI X (.Tuple [.Name x px,.Name x2 j,.Name x3 o] kt pt) iter wi)
 (ht:∀cl L s H ex pn,EB (b5 X scope (x :: x2 :: x3 :: ys) cl L s H ex pn) p I) (he:∀cl L s H ex pn,PE (b5 X scope (x :: x2 :: x3 :: ys) cl L s H ex pn) r T)
 (hs:∀v,Xd iter X.env v=pure v:=by intro _;rfl):PE X (.ListComp r [⟨.Tuple [.Name x px,.Name x2 j,.Name x3 o] kt pt,iter,p,0⟩] scope pos) (IL X.K wi ix I T):=
 qp (C:=λJ l a H Q=>ri X.K J l a I T H Q) (xs:=[x,x2,x3]) hc B (DS hc B U B3 g) (λ_ _ _ _ _=>DT) hi ht he hs
end
end L2
namespace Bs
open PySem L2 Sx
noncomputable def dJ(ds:List Nat)(qs:List (Str×Nat)):List (Str×Nat):=qs.filter λq=>decide (q.2∈ds)
theorem ux(h:∀d∈S,d∈T):∀g:List (Str×Nat),(dJ S g).length<=(dJ T g).length
 |[]=>Vy _
 |q :: g=>by
  have a:=ux h g;unfold dJ at a ⊢
  by_cases b:q.2∈S
  ·rw[W8 (by exact decide_eq_true b),W8 (by exact decide_eq_true (h _ b))];exact wcx a
  ·rw[Wh (by simpa using b)]
   by_cases c:q.2∈T
   ·rw[W8 (by exact decide_eq_true c)];exact Nat.le_succ_of_le a
   ·rw[Wh (by simpa using c)];exact a
noncomputable def rj(lns:List (List (Str×Nat)))(many:Int)(ds:List Nat):List Nat:=ds.filter λd=>decide (many<=((dJ ds (lns.getD d [])).length:Int))
def Aj(lns:List (List (Str×Nat)))(many:Int)(S:List Nat):Prop:=∀d∈S,d < lns.length/\many<=((dJ S (lns.getD d [])).length:Int)
structure Above(lns:List (List (Str×Nat)))(many:Int)(ks:List Nat):Prop where
 sub:ks.Sublist (W5 lns.length)
 top:∀S,Aj lns many S->∀d∈S,d∈ks
theorem Above.start(lns:List (List (Str×Nat)))(many:Int):Above lns many (W5 lns.length):=⟨wau _,λS h d hd=>Wt.mpr (h d hd).1⟩
theorem Above.next(h:Above lns many g):Above lns many (rj lns many g):=by
 refine⟨Yi.trans h.sub,λS a d hd=>VR.mpr ⟨h.top S a d hd,decide_eq_true ?_⟩⟩;have b:=(a d hd).2;have c:=ux (h.top S a) (lns.getD d []);omega
theorem Above.stays(h:Above lns many g)(e:rj lns many g=g):Aj lns many g:=λd hd=>by
 refine⟨Wt.mp (h.sub.subset hd),?_⟩;rw[<-e]at hd;exact of_decide_eq_true (VR.mp hd).2
theorem DV(e:rj lns many g≠g):(rj lns many g).length < g.length:=by
 have a:(rj lns many g).Sublist g:=Yi;exact Nat.lt_of_le_of_ne a.length_le λz=>e (a.eq_of_length z)
structure oo(lns:List (List (Str×Nat)))(many:Int)(ks:List Nat):Prop where
 ab:Above lns many ks
 st:Aj lns many ks
theorem lX:∀g:List (Str×Nat),(∀q∈g,ws.getD q.2 0<=h)->aR ws g<=(g.length:Int) * h
 |[],_=>by show (0:Int)<=(0:Nat) * h;simp
 |q :: g,a=>by
  have c:=lX g λp b=>a p (Vw _ b);have d:=a q (Vz ..);rw[bQ,Wa,ZS,wbg];show _<=_ + 1 * h;omega
theorem getD_mem{ws:List Int}{i:Nat}(h:i < ws.length):ws.getD i 0∈ws:=by
 grind
theorem xF{many h:Int}{hs:List Str}{ws:List Int}{lns:List (List (Str×Nat))}(S:gL many hs ws lns)(K:oo lns many [])(C:h∈ws)(I:∀w∈ws,w<=h)(J:1<=many) :
 ∃(d i:Nat) (g:List (Str×Nat)) (q:Str×Nat),lns[d]?=some g/\g[i]?=some q/\ws.getD d 0=h/\ws.getD q.2 0 < h:=by
 have f:=S.w;have u:=S.l
 by_cases s:∃(d i:Nat) (g:List (Str×Nat)) (q:Str×Nat),lns[d]?=some g/\g[i]?=some q/\ws.getD d 0=h/\ws.getD q.2 0 < h
 ·exact s
 exfalso
 have all:∀(d:Nat) (g:List (Str×Nat)),lns[d]?=some g->ws.getD d 0=h->∀q∈g,ws.getD q.2 0=h:=λd g hd hw q c=>by
  obtain⟨i,hi,e⟩:=XI c;have v:¬ws.getD q.2 0 < h:=λz=>s ⟨d,i,g,q,hd,by rw[Vp hi,e],hw,z⟩;have o:=I _ (getD_mem (ws:=ws) (i:=q.2) (by rw[f];exact S.e g (VN hd) q c));omega
 obtain⟨x,j,y⟩:=XI C;have v:1<=h:=S.p h C
 have r:Aj lns many ((W5 ws.length).filter λd=>decide (ws.getD d 0=h)):=λd hd=>by
  obtain⟨t,n⟩:=VR.mp hd;have t:=Wt.mp t;have n:ws.getD d 0=h:=of_decide_eq_true n;have k:d < lns.length:=by omega
  have c:lns[d]?=some (lns.getD d []):=by rw[Vq,Vp k];rfl
  refine⟨k,?_⟩;have m:=all d _ c n;have A:dJ ((W5 ws.length).filter λd=>decide (ws.getD d 0=h)) (lns.getD d [])=lns.getD d []:=WU.mpr λq a=>decide_eq_true (VR.mpr ⟨Wt.mpr (by rw[f];exact S.e _ (VN c) q a),decide_eq_true (m q a)⟩);rw[A];have o:=S.b d _ c;have B:=lX (lns.getD d []) λq a=>Int.le_of_eq (m q a);rw[n]at o;have D:many * h<=((lns.getD d []).length:Int) * h:=Xz o B;exact wal D (by omega)
 have:=K.ab.top _ r x (VR.mpr ⟨Wt.mpr j,decide_eq_true (by rw[Vq,Vp j,y];rfl)⟩);cases this
theorem uz(f:Nat->Bool)(ws:List Int):∀(k:Nat) (g:List (Str×Nat)),aR ws (aU f k g)=(((wbd k g.length).filter f).map λi=>ws.getD (g.getD (i - k) ("",0)).2 0).sum
 |_,[]=>rfl
 |k,q :: g=>by
  have a:=uz f ws (k + 1) g
  have e:((wbd (k + 1) g.length).filter f).map (λi=>ws.getD ((q :: g).getD (i - k) ("",0)).2 0)=((wbd (k + 1) g.length).filter f).map λi=>ws.getD (g.getD (i - (k + 1)) ("",0)).2 0:=Wm λi hi=>by
   have:=(wca.mp (VR.mp hi).1).1;rw[show i - k=(i - (k + 1)) + 1 by omega];rfl
  show aR ws (if f k then q :: aU f (k + 1) g else aU f (k + 1) g)=_;rw[Wa,wcw]
  cases b:f k with
  |true=>
   rw[if_pos rfl,W8 b,VL,e,bQ,a,Wu,Xy];rfl
  |false=>
   rw[if_neg (by decide),Wh (by grind),e,a]
theorem DW{a b:List Int}(h:a.Perm b):a.sum=b.sum:=by
 induction h with
 |nil=>rfl
 |cons x _ c=>grind
 |swap x y l=>grind
 |trans _ _ d e=>grind
theorem zk{a b:List Nat}(na:a.Nodup)(g:b.Nodup)(h:∀x,x∈a↔x∈b):a.Perm b:=by grind [wb3]
theorem zm(ws:List Int)(g:List (Str×Nat)){ns:List Nat}(nd:ns.Nodup)(j:∀n∈ns,n < g.length):aR ws (aT (ns.map λn:Nat=>(n:Int)) g)=(ns.map λi=>ws.getD (g.getD i ("",0)).2 0).sum:=by
 unfold aT;rw[uz];refine DW (List.Perm.map _ (zk ((List.nodup_range' ..).filter _) nd λx=>?_));rw[VR,wca,decide_eq_true_eq,Vx];constructor
 ·grind
 ·grind
theorem Bx(ws:List Int)(ns:List Int)(g:List (Str×Nat)):aR ws (aT ns g) + aR ws (aP ns g)=aR ws g:=by
 have gen:∀(f:Nat->Bool) (k:Nat) (l:List (Str×Nat)),aR ws (aU f k l) + aR ws (aU (λi=>!f i) k l)=aR ws l:=by
  intro f k l
  induction l generalizing k with
  |nil=>rfl
  |cons q l a=>
   have a:=a (k + 1);show aR ws (if f k then q :: aU f (k + 1) l else aU f (k + 1) l) + aR ws (if !f k then q :: aU (λi=>!f i) (k + 1) l else aU (λi=>!f i) (k + 1) l)=_;rw[bQ]
   cases f k with
   |true=>
    rw[if_pos (by decide),if_neg (by decide),bQ];omega
   |false=>
    rw[if_neg (by decide),if_pos (by decide),bQ];omega
 exact gen _ 0 g
theorem lY{f:Nat->Int}:∀ns:List Nat,(∀n∈ns,f n<=h)->(ns.map f).sum<=(ns.length:Int) * h
 |[],_=>by show (0:Int)<=(0:Nat) * h;simp
 |n :: ns,a=>by
  have c:=lY ns λp b=>a p (Vw _ b);have d:=a n (Vz ..);rw[VL,Wu,Wa,ZS,wbg];show _<=_ + 1 * h;omega
theorem rk{f:Nat->Int}:∀ns:List Nat,(∀n∈ns,f n<=h)->x∈ns->f x < h->(ns.map f).sum < (ns.length:Int) * h
 |[],_,a,_=>nomatch a
 |n :: ns,c,a,b=>by
  have i:=c n (Vz ..);rw[VL,Wu,Wa,ZS,wbg];show _ < _ + 1 * h;rcases W3.mp a with e |a
  ·have g:=lY ns λp d=>c p (Vw _ d);rw[e]at b;omega
  ·have g:=rk ns (λp d=>c p (Vw _ d)) a b;omega
theorem rm{f:Nat->Int}:∀ns:List Nat,(∀n∈ns,1<=f n)->ns≠[]->1<=(ns.map f).sum
 |[],_,h=>absurd rfl h
 |[n],a,_=>by
  have:=a n (Vz ..);show 1<=f n + 0;omega
 |n :: m :: ns,a,_=>by
  have c:=a n (Vz ..);have d:=rm (m :: ns) (λp b=>a p (Vw _ b)) (λz=>nomatch z);rw[VL,Wu];omega
theorem By{many h w:Int}{hs:List Str}{ws:List Int}{lns:List (List (Str×Nat))}(S:gL many hs ws lns){d i0:Nat}{g:List (Str×Nat)}{ns:List Nat}(T:∀w∈ws,w<=h)(hd:lns[d]?=some g)(hw:ws.getD d 0=h)(U:1<=many)
 (nd:ns.Nodup) (r:∀n∈ns,n < g.length) (C:ns≠[]) (J:(ns.length:Int)<=many) (o:(ns.length:Int)=many->i0∈ns) (I:ws.getD (g.getD i0 ("",0)).2 0 < h)
 (j:(ns.map λi=>ws.getD (g.getD i ("",0)).2 0).sum=many * w):cV ws lns many (d:Int) (ns.map λn:Nat=>(n:Int)) w=true:=by
 have k:=S.w;have t:=S.l;have u:d < lns.length:=(Vu.mp hd).1;have m:lns.getD d []=g:=by rw[Vq,hd];rfl
 have q:g∈lns:=VN hd
 have a:∀i,i < g.length->ws.getD (g.getD i ("",0)).2 0∈ws:=λi hi=>by
  have e:g.getD i ("",0)=g[i]:=by rw[Vq,Vp hi];rfl
  rw[e];exact getD_mem (by rw[k];exact S.e g q _ (Wg hi))
 have c:∀n∈ns,1<=ws.getD (g.getD n ("",0)).2 0:=λn hn=>S.p _ (a n (r n hn));have f:∀n∈ns,ws.getD (g.getD n ("",0)).2 0<=h:=λn hn=>T _ (a n (r n hn));have x:=rm ns c C;rw[j]at x
 have y:1<=w:=by
  by_cases z:1<=w
  ·exact z
  ·have:=Int.mul_nonpos_of_nonneg_of_nonpos (show 0<=many by omega) (show w<=0 by omega);omega
 have H:1<=h:=by rw[<-hw];exact S.p _ (getD_mem (by omega))
 have K:w < h:=by
  have lt:many * w < many * h:=by
   rw[<-j]
   by_cases z:(ns.length:Int)=many
   ·have:=rk ns f (o z) I;rw[z]at this;exact this
   ·have A:=lY ns f;have B:((ns.length:Int) + 1) * h<=many * h:=Int.mul_le_mul_of_nonneg_right (by omega) (by omega);rw[wbg]at B;omega
  exact Int.lt_of_mul_lt_mul_left lt (by omega)
 have s:=zm ws g nd r;rw[j]at s;have L:=Bx ws (ns.map λn:Nat=>(n:Int)) g;have b:=S.b d g hd;rw[hw]at b
 have D:many * (h - w)<=aR ws (aP (ns.map λn:Nat=>(n:Int)) g):=by
  rw[Int.mul_sub];omega
 have part:∀(l:List (Str×Nat)) (v:Int),1<=v->many * v<=aR ws l->du ws many l v=true:=λl v E hl=>by
  have hn:l≠[]:=λz=>by
   rw[z]at hl;have A:many * v<=0:=hl;have:=Int.mul_pos (show 0 < many by omega) (show 0 < v by omega);omega
  unfold du;rw[decide_eq_true E,decide_eq_true hl]
  cases l with
  |nil=>exact absurd rfl hn
  |cons _ _=>rfl
 unfold cV;rw[W2,m,hw,part _ w y (Int.le_of_eq s.symm),part _ (h - w) (by omega) D];have F:dD (d:Int) lns.length=true:=by unfold dD;rw[decide_eq_true (by omega),decide_eq_true (by omega)];rfl
 have G:(ns.map λn:Nat=>(n:Int)).all (λi=>dD i g.length)=true:=Wj.mpr λi hi=>by
  obtain⟨n,hn,rfl⟩:=Vx.mp hi;have:=r n hn;unfold dD;rw[decide_eq_true (by omega),decide_eq_true (by omega)];rfl
 rw[F,G];rfl
noncomputable def nI(ds:List Nat):List Int:=ds.map λn:Nat=>(n:Int)
theorem IM{g:List Nat}{e:Nat}:(e:Int)∈nI g↔e∈g:=by grind [nI]
theorem xG(e:Nat)(g:List Nat):kM (.int (e:Int)) ((nI g).map V.int)=decide (e∈g):=by
 rw[qV];exact decide_eq_decide.mpr IM
theorem gu(g:List Nat):(nI g).length=g.length:=Vn _
theorem IP{g:List Nat}{i n:Nat}(h:g[i]?=some n):((nI g).map V.int)[i]?=some (.int (n:Int)):=by
 unfold nI;rw[Vt,Vt,h];rfl
theorem DX:∀{a b:List Nat},nI a=nI b->a=b
 |[],[],_=>rfl
 |[],_ :: _,h=>nomatch h
 |_ :: _,[],h=>nomatch h
 |x :: a,y :: b,h=>by
  unfold nI at h;rw[VL,VL]at h;injection h with d c
  rw[DX (a:=a) (b:=b) c,show x=y by omega]
theorem uA(a b:List Nat):nI (a++b)=nI a++nI b:=VE
structure Reach(lns:List (List (Str×Nat)))(rs:List Nat):Prop where
 cl:∀d∈rs,∀q∈lns.getD d [],q.2∈rs
 lt:∀d∈rs,d < lns.length
 ne:rs≠[]
 nd:rs.Nodup
noncomputable def cu(Jo:List Str)(f:Str->Int):Str->Int:=λp=>if p∈Jo then f p else 0
theorem ro{α:Type}{f g:α->Int}:∀l:List α,(∀x∈l,f x<=g x)->(l.map f).sum<=(l.map g).sum
 |[],_=>Xh _
 |x :: l,h=>by
  have:=h x (Vz ..);have:=ro l λy a=>h y (Vw _ a);rw[VL,VL,Wu,Wu];omega
theorem rp{α:Type}{f:α->Int}{x:α}:∀l:List α,(∀x∈l,0<=f x)->x∈l->0 < f x->0 < (l.map f).sum
 |y :: l,h,a,c=>by
  have d:=h y (Vz ..);have hn:=o8 λz b=>h z (Vw _ b);rw[VL,Wu];rcases W3.mp a with e |a
  ·rw[<-e];omega
  ·have:=rp l (λz b=>h z (Vw _ b)) a c;omega
theorem rq{ls g:List Str}{f:Str->Int}(h:∀p∈ls,0<=f p):∀p∈ls,0<=cu g f p:=λp a=>by
 unfold cu;split
 ·exact h p a
 ·grind
theorem xH{ls g:List Str}{f:Str->Int}(h:∀p∈ls,0<=f p):∀p∈ls,cu g f p<=f p:=λp a=>by
 unfold cu;split
 ·grind
 ·exact h p a
theorem Bz{ls g:List Str}{f:Str->Int}(h:∀p∈ls,0<=f p):(ls.map (cu g f)).sum<=(ls.map f).sum:=ro ls (xH h)
theorem BC{ls:List Str}{f:Str->Int}{g:List Nat}(h:∀p∈ls,0<=f p)(hl:∀d∈g,d < (ak ls f).length)(j:g≠[]):0 < (ls.map (cu (g.map λd=>(ak ls f).getD d "") f)).sum:=by
 cases g with
 |nil=>exact absurd rfl j
 |cons d g=>
  have hd:=hl d (Vz ..)
  have a:(ak ls f).getD d ""∈ak ls f:=by
   grind
  obtain⟨b,c⟩:=VR.mp a;refine rp ls (rq h) b ?_;unfold cu;rw[if_pos (Vx.mpr ⟨d,Vz ..,rfl⟩)];exact of_decide_eq_true c
theorem BD{g:Str}{ws ss ls:List Str}{n:Nat}{many:Int}{f:Str->Int}{j:List Nat}(hn:∀p∈ls,0<=f p)(o:y2 g ws ss ls many n f)(R:Reach (bg g ws ss ls n (ak ls f)) j) :
 y2 g ws ss ls many n (cu (j.map λd=>(ak ls f).getD d "") f):=by
 intro p m
 by_cases h:p∈j.map λd=>(ak ls f).getD d ""
 ·obtain⟨d,hd,rfl⟩:=Vx.mp h;have b:=R.lt d hd;have c:d < (ak ls f).length:=by unfold bg at b;rwa[Vn]at b
  have k:(bg g ws ss ls n (ak ls f)).getD d []=eT g ws ss ls n (ak ls f) ((ak ls f).getD d ""):=by
   unfold bg;rw[Vq,Vt,Vp c,Vq,Vp c];rfl
  have e:eu g ws ss ls n (cu (j.map λd=>(ak ls f).getD d "") f) ((ak ls f).getD d "")=eu g ws ss ls n f ((ak ls f).getD d ""):=by
   unfold eu;refine congrArg List.sum (Wm λq i=>?_);unfold cu
   by_cases a:q.2∈j.map λd=>(ak ls f).getD d ""
   ·rw[if_pos a]
   ·rw[if_neg a]
    by_cases r:0 < f q.2
    ·exfalso;have l:q.2∈ak ls f:=VR.mpr ⟨cq i,decide_eq_true r⟩
     have s:(q.1,(ak ls f).idxOf q.2)∈(bg g ws ss ls n (ak ls f)).getD d []:=by
      rw[k];unfold eT;exact Vx.mpr ⟨q,VR.mpr ⟨i,decide_eq_true l⟩,rfl⟩
     have:=R.cl d hd _ s;refine a (Vx.mpr ⟨_,this,?_⟩);show (ak ls f).getD ((ak ls f).idxOf q.2) ""=q.2;rw[Vq,(oi l).1];rfl
    ·have:=hn _ (cq i);omega
  rw[e];unfold cu;rw[if_pos h];exact o _ m
 ·have e:cu (j.map λd=>(ak ls f).getD d "") f p=0:=by unfold cu;rw[if_neg h]
  rw[e,Int.mul_zero];unfold eu;exact o8 λq i=>rq hn _ (cq i)
end Bs
namespace Sx
open PySem L2 Bs
inductive IQ(K:Vo)(vs:List V)(H:Hp)(Q:VK)(eN:XK):Prop
 |mk (v a ds qs) (_:vs=[v,.ref a]) (_:bG K H (cj qs) v) (_:aN K H a ((nI ds).map V.int)) (_:qs.length<=10000) (_:∀y H',a9 H H'->bG K (aG H H') (cj (dJ ds qs)) y->Q y H')
inductive IU(K:Vo)(C:Addr)(vs:List V)(H:Hp)(Q:VK)(eN:XK):Prop
 |mk (x many hs ws lns) (_:vs=[.ref x,.int many]) (_:bC K C H x hs ws lns) (_:lns.length<=1000) (_:(∀l∈lns,l.length<=10000)) (_:∀(l:Addr) (ks:List Nat) (H':Hp),a9 H H'->H l=none->H' l=some (.lst ((nI ks).map V.int))->oo lns many ks->Q (.ref l) H')
inductive BE(K:Vo)(C:Addr)(vs:List V)(H:Hp)(Q:VK)(eN:XK):Prop
 |mk (x:Addr) (d:Nat) (hs:List Str) (ws:List Int) (lns:List (List (Str×Nat))) (_:vs=[.ref x,.int (d:Int)]) (_:bC K C H x hs ws lns) (_:d < lns.length) (_:(∀l∈lns,∀q∈l,q.2 < lns.length)) (_:lns.getD d []≠[]) (_:lns.length<=1000) (_:∀(l:Addr) (rs:List Nat) (H':Hp),a9 H H'->H l=none->H' l=some (.lst ((nI rs).map V.int))->Reach lns rs->Q (.ref l) H')
structure Down(ws:List Int)(lns:List (List (Str×Nat)))(h:Int)(d i:Nat)(qs:List (Str×Nat))(q:Str×Nat):Prop where
 m:h∈ws
 t:∀w∈ws,w<=h
 l:lns[d]?=some qs
 s:qs[i]?=some q
 e:ws.getD d 0=h
 lt:ws.getD q.2 0 < h
inductive IV(K:Vo)(C:Addr)(vs:List V)(H:Hp)(Q:VK)(eN:XK):Prop
 |mk (x hs ws lns) (_:vs=[.ref x]) (_:bC K C H x hs ws lns) (_:ws.length=lns.length) (_:(∀l∈lns,∀q∈l,q.2 < ws.length)) (_:ws≠[]) (_:(∀h∈ws,(∀w∈ws,w<=h)->∃d i qs q,Down ws lns h d i qs q)) (_:∀(t:Addr) (h:Int) (d i:Nat) (qs:List (Str×Nat)) (q:Str×Nat) (H':Hp),a9 H H'->H' t=some (.tup [.int (d:Int),.int (i:Int)])->Down ws lns h d i qs q->Q (.ref t) H')
inductive KC(K:Vo)(vs:List V)(H:Hp)(Q:VK)(eN:XK):Prop
 |mk (a b:Addr) (many:Int) (wl:List Int) (nums:List Nat) (_:vs=[.ref a,.ref b,.int many]) (_:aN K H a (wl.map V.int)) (_:aN K H b ((nI nums).map V.int)) (_:1<=many) (_:many<=1000) (_:(nums.length:Int)=many) (_:(∀n∈nums,n < wl.length)) (_:∀(l:Addr) (i j:Nat) (H':Hp),a9 H H'->H l=none->i < j->j<=nums.length->(((nums.take j).drop i).map λn=>wl.getD n 0).sum % many=0->H' l=some (.lst ((nI ((nums.take j).drop i)).map V.int))->Q (.ref l) H')
inductive IW(K:Vo)(C:Addr)(vs:List V)(H:Hp)(Q:VK)(eN:XK):Prop
 |mk (x many hs ws lns) (_:vs=[.ref x,.int many]) (_:bC K C H x hs ws lns) (_:gL many hs ws lns) (_:oo lns many []) (_:hs≠[]) (_:hs.length<=1000) (_:(∀l∈lns,l.length<=10000)) (_:1<=many) (_:many<=1000) (_:∀(t l:Addr) (d:Nat) (ns:List Nat) (w:Int) (H':Hp),a9 H H'->H l=none->H t=none->H' t=some (.tup [.int (d:Int),.ref l,.int w])->H' l=some (.lst ((nI ns).map V.int))->cV ws lns many (d:Int) (nI ns) w=true->d < hs.length->ns.length<=1000->Q (.ref t) H')
end Sx
namespace Bs
open PySem L2 Sx
theorem uB:∀(a b:List Int),pI (a.map V.int) (b.map V.int)=decide (a=b)
 |[],[]=>rfl
 |[],_ :: _=>rfl
 |_ :: _,[]=>rfl
 |x :: a,y :: b=>by
  have d:=uB a b;show (oM (.int x) (.int y) && pI (a.map V.int) (b.map V.int))=_;rw[d]
  by_cases h:x=y
  ·subst h
   by_cases c:a=b
   ·subst c;have:oM (.int x) (.int x)=true:=by simp[oM]
    rw[this,decide_eq_true rfl,decide_eq_true rfl];rfl
   ·rw[decide_eq_false c,YC,decide_eq_false λz=>c (wbL z).2]
  ·have:oM (.int x) (.int y)=false:=by simp[oM,h]
   rw[this,YH,decide_eq_false λz=>h (wbL z).1]
theorem oq(a b:List Nat):pI ((nI a).map V.int) ((nI b).map V.int)=decide (a=b):=by
 rw[uB];exact decide_eq_decide.mpr ⟨DX,λe=>by rw[e]⟩
theorem uC{p:V->Bool}{f:Nat->Bool}(h:∀n:Nat,p (.int (n:Int))=f n):∀g:List Nat,((nI g).map V.int).filter p=(nI (g.filter f)).map V.int:=by intro n;induction n <;> grind [nI,W8,Wh]
theorem vD(h:x∈(nI g).map V.int):∃n∈g,x=.int (n:Int):=by grind [nI]
theorem xI(n:Nat):((W5 n).map λi=>V.int (i:Nat))=(nI (W5 n)).map V.int:=by
 unfold nI;rw[VG];rfl
noncomputable def dB(rs:List Nat):List (Key×V):=rs.map λn:Nat=>((WB (n:Int):Key),V.bl true)
theorem zo(e:Nat):∀g:List Nat,bc (dB g) (WB (e:Int):Key)=if e∈g then some (.bl true) else none
 |[]=>rfl
 |r :: g=>by
  have a:=zo e g
  by_cases h:r=e
  ·subst h;rw[if_pos (Vz ..)];exact bq (p:=((WB (r:Int):Key),V.bl true)) (r:=dB g) rfl
  ·have hn:¬(WB (r:Int):Key)=WB (e:Int):=λz=>h (by grind);rw[show dB (r :: g)=((WB (r:Int):Key),V.bl true) :: dB g from rfl,bt hn,a]
   by_cases b:e∈g
   ·grind
   ·grind
theorem IX{e:Nat}{g:List Nat}(h:e∉g):putK (dB g) (WB (e:Int):Key) (.bl true)=dB (g++[e]):=by
 rw[cx _ (by rw[zo,if_neg h])];unfold dB;rw[VE];rfl
theorem G7(g:List Nat):((dB g).map λj=>kV j.1)=(nI g).map V.int:=by
 unfold dB nI;rw[VG,VG];rfl
theorem jP{n:Nat}{g:List Nat}(nd:g.Nodup)(h:∀r∈g,r < n):g.length<=n:=by
 have:=gm nd λr a=>Wt.mpr (h r a);rwa[Wf]at this
theorem G8(h:g≠[]):∃(z:Nat) (ys:List Nat),g=ys++[z]/\((nI g).map V.int)[((nI g).map V.int).length - 1]?=some (.int (z:Int))/\((nI g).map V.int).dropLast=(nI ys).map V.int:=by
 refine⟨g.getLast h,g.dropLast,(YJ h).symm,?_,?_⟩
 ·have e:nI g=nI g.dropLast++[((g.getLast h:Nat):Int)]:=by
   conv=>lhs;rw[<-YJ h]
   exact uA _ _
  rw[e,VE,Vs];show (_++[V.int _])[_ + 1 - 1]?=_;rw[Nat.add_sub_cancel,VY (Vy _),Xy];rfl
 ·unfold nI;rw[<-wcb,<-wcb]
noncomputable def iV(wl:List Int)(nums:List Nat)(j:Nat):Int:=((nums.take j).map λn=>wl.getD n 0).sum
theorem BF{wl:List Int}{g:List Nat}{j n:Nat}(h:g[j]?=some n):iV wl g (j + 1)=iV wl g j + wl.getD n 0:=by
 unfold iV;rw[Ws,h,VE,wcG];show _ + (wl.getD n 0 + 0)=_;omega
theorem DY(wl:List Int)(g:List Nat)(h:i<=j):(((g.take j).drop i).map λn=>wl.getD n 0).sum=iV wl g j - iV wl g i:=by grind [iV,Zy,wb1]
theorem DZ{wl:List Int}{g:List Nat}{i j:Nat}{many:Int}(h:i<=j)(e:iV wl g i % many=iV wl g j % many):(((g.take j).drop i).map λn=>wl.getD n 0).sum % many=0:=by
 rw[DY wl g h];exact Int.emod_eq_emod_iff_emod_sub_eq_zero.mp e.symm
noncomputable def dR(many:Int)(p:Nat->Int)(n:Nat):List (Key×V):=(W5 n).map λi:Nat=>((WB (p i % many):Key),V.int (i:Int))
theorem BG{κ:Type}[DecidableEq κ]{k:κ}{v:V}:∀{kvs:List (κ×V)},bc kvs k=some v->(k,v)∈kvs:=by intro kvs;induction kvs <;> grind [CC,bq,Vz,bt,Vw]
theorem E1(many:Int)(p:Nat->Int)(n:Nat)(r:Int):(bc (dR many p n) (WB r:Key)=none/\∀i,i < n->p i % many≠r)\/∃i,i < n/\p i % many=r/\bc (dR many p n) (WB r:Key)=some (.int (i:Int)):=by
 cases h:bc (dR many p n) (WB r:Key) with
 |none=>
  refine .inl ⟨rfl,λi hi e=>?_⟩;refine wG h (Vx.mpr ⟨((WB (p i % many):Key),V.int (i:Int)),Vx.mpr ⟨i,Wt.mpr hi,rfl⟩,?_⟩);show (WB (p i % many):Key)=_;rw[e]
 |some v=>
  obtain⟨i,hi,e⟩:=Vx.mp (BG h);have a:p i % many=r:=Sum.inl.inj (Zf e).1;have b:V.int (i:Int)=v:=(Zf e).2;exact .inr ⟨i,Wt.mp hi,a,by rw[b]⟩
theorem IY{p:Nat->Int}(h:bc (dR many p n) (WB (p n % many):Key)=none):putK (dR many p n) (WB (p n % many):Key) (.int (n:Int))=dR many p (n + 1):=by
 rw[cx _ h];unfold dR;rw[YW,VE];rfl
theorem IZ(many:Int)(p:Nat->Int)(n:Nat):(dR many p n).length=n:=by unfold dR;rw[Vn,Wf]
theorem nodup_map_on{α β:Type}{f:α->β}:∀{l:List α},l.Nodup->(∀a∈l,∀b∈l,f a=f b->a=b)->(l.map f).Nodup:=by intro l;induction l <;> grind [WH,Vw,Vz]
theorem zp{many:Int}{p:Nat->Int}{n:Nat}(g:0 < many)(hn:(n:Int)=many)(hd:∀i k,i < k->k<=n->p i % many≠p k % many):False:=by
 have nd:((W5 (n + 1)).map λi=>(p i % many).toNat).Nodup:=nodup_map_on wcy λa ha b c e=>by
  have ha:=Wt.mp ha;have c:=Wt.mp c;have a0:=XA (p a) (show many≠0 by omega);have f:=XA (p b) (show many≠0 by omega);have j:p a % many=p b % many:=by grind
  rcases war a b with h |h |h
  ·grind
  ·exact h
  ·grind
 have:=jP (n:=n) nd λr d=>by
  obtain⟨i,_,rfl⟩:=Vx.mp d;have a0:=XA (p i) (show many≠0 by omega);have a1:=XX (p i) g;show (p i % many).toNat < n;omega
 rw[Vn,Wf]at this;omega
theorem E2(xs:List Int)(g:i<=j)(l:j<=xs.length):sI (xs.map V.int) (some (i:Int)) (some (j:Int))=((xs.take j).drop i).map V.int:=by grind [sI,HT.F6,Vn,wb1,wbK,wak,List.drop_take]
theorem Ak(ns:List Nat)(j:Nat):(nI ns).take j=nI (ns.take j):=by unfold nI;rw[wak]
theorem G9(ns:List Nat)(j:Nat):(nI ns).drop j=nI (ns.drop j):=by unfold nI;rw[wbK]
noncomputable def restOf(m i0:Nat):List Nat:=(W5 m).filter λn=>decide (n≠i0)
noncomputable def numsOf(m i0 k:Nat):List Nat:=i0 :: (restOf m i0).take k
theorem xJ:∀{m:Nat},i0 < m->(restOf m i0).length=m - 1
 |m + 1,h=>by
  unfold restOf;rw[YW,WC,Vs]
  by_cases e:i0=m
  ·subst e;have b:(W5 i0).filter (λn=>decide (n≠i0))=W5 i0:=WU.mpr λn hn=>decide_eq_true (by grind);rw[b,Wh (by simp),Wf];rfl
  ·have a:=xJ (i0:=i0) (m:=m) (by omega);unfold restOf at a;rw[a,W8 (by grind)];show m - 1 + 1=_;omega
theorem zq(m i0 k:Nat):(numsOf m i0 k).Nodup:=by
 unfold numsOf;refine Wn.mpr ⟨λh=>?_,(wcy.filter _).sublist (XE _ _)⟩;have:=of_decide_eq_true (VR.mp ((XE _ _).subset h)).2;exact this rfl
theorem vE(h:i0 < m):∀n∈numsOf m i0 k,n < m:=λn hn=>by
 rcases W3.mp hn with rfl |hn
 ·exact h
 ·exact Wt.mp (VR.mp ((XE _ _).subset hn)).1
theorem xK(h:i0 < m)(g:k + 1<=m):(numsOf m i0 k).length=k + 1:=by
 grind [numsOf,Wa,xJ]
theorem uD(S:gL many hs ws lns)(D:Down ws lns h d i g q):many<=(g.length:Int):=by
 have a:g∈lns:=VN D.l;have c:=S.b d g D.l;have f:=lX (ws:=ws) (h:=h) g λp j=>D.t _ (getD_mem (by rw[S.w];exact S.e g a p j));rw[D.e]at c;have k:1<=h:=S.p h D.m;exact wal (Xz c f) (by omega)
theorem J0(ws:List Int){g:List (Str×Nat)}{n:Nat}(h:n < g.length):(g.map λq=>ws.getD q.2 0).getD n 0=ws.getD (g.getD n ("",0)).2 0:=by
 rw[Vq,Vt,Vp h,Vq (l:=g),Vp h];rfl
theorem Ga{many h:Int}{hs:List Str}{ws:List Int}{lns:List (List (Str×Nat))}(S:gL many hs ws lns)(p:1<=many){d i0:Nat}{g:List (Str×Nat)}{q:Str×Nat}(D:Down ws lns h d i0 g q){i j:Nat}(r:i < j)(I:j<=(numsOf g.length i0 (many - 1).toNat).length)
 (C:((((numsOf g.length i0 (many - 1).toNat).take j).drop i).map λn=>(g.map λq=>ws.getD q.2 0).getD n 0).sum % many=0) :
 cV ws lns many (d:Int) (nI (((numsOf g.length i0 (many - 1).toNat).take j).drop i)) (((((numsOf g.length i0 (many - 1).toNat).take j).drop i).map λn=>(g.map λq=>ws.getD q.2 0).getD n 0).sum / many)=true:=by
 have b:i0 < g.length:=(Vu.mp D.s).1;have hl:=uD S D;have u:=xK (k:=(many - 1).toNat) b (by omega);have c:=zq g.length i0 (many - 1).toNat;have f:=vE (k:=(many - 1).toNat) b;have m:i0∈numsOf g.length i0 (many - 1).toNat:=Vz ..;generalize numsOf g.length i0 (many - 1).toNat=a at *;have sub:((a.take j).drop i).Sublist a:=(wcc _ _).trans (XE _ _);have len:((a.take j).drop i).length=j - i:=by rw[XM,VQ];omega
 have o:∀n∈(a.take j).drop i,n < g.length:=λn hn=>f n (sub.subset hn);have e:((a.take j).drop i).map (λn=>(g.map λq=>ws.getD q.2 0).getD n 0)=((a.take j).drop i).map λn=>ws.getD (g.getD n ("",0)).2 0:=Wm λn hn=>J0 ws (o n hn);rw[e]at C ⊢;have v:g.getD i0 ("",0)=q:=by rw[Vq,D.s];rfl
 refine By S (i0:=i0) D.t D.l D.e p (c.sublist sub) o (λz=>?_) ?_ (λz=>?_) (by rw[v];exact D.lt) ?_
 ·rw[z]at len;have:(0:Nat)=j - i:=len;omega
 ·rw[len];omega
 ·have w:(a.take j).drop i=a:=sub.eq_of_length (by grind);rw[w];exact m
 ·have:=Int.mul_ediv_add_emod ((((a.take j).drop i).map λn=>ws.getD (g.getD n ("",0)).2 0).sum) many;omega
end Bs
namespace L2
open PySem
theorem Gb{X:Cx}(g:X.K=K):Jj X (JV K):=by
 subst g;exact iJ
end L2
namespace Bs
open PySem L2 Sx
structure vF(g:Str)(ws ss ls:List Str)(many:Int)(n:Nat)(f:Str->Int):Prop where
 gr:∃most:Int,1<=most/\most<=8/\ez g ws ss ls many n most f/\∀(m:Int) (h:Str->Int),1<=m->m < most->ez g ws ss ls many n m h->(ls.map h).sum=0
 ps:0 < (ls.map f).sum
 le:(ls.map f).sum<=40
def vG(g:Str)(ws ss ls:List Str)(many:Int)(n:Nat):Prop:=∃most:Int,1<=most/\most<=9/\(∀(m:Int) (h:Str->Int),1<=m->m < most->ez g ws ss ls many n m h->(ls.map h).sum=0)/\(most=9\/∃f,ez g ws ss ls many n most f/\40 < (ls.map f).sum)
theorem BH{f h:Str->Int}(a:ez g ws ss ls many n most f)(b:ez g ws ss ls many n most h):∀p∈ls,f p=h p:=λp c=>by
 have d:=a.top h b.le b.fit p c;have e:=b.top f a.le a.fit p c;omega
theorem BI{f h:Str->Int}(a:ez g ws ss ls many n most f)(b:ez g ws ss ls many n most h):(ls.map f).sum=(ls.map h).sum:=congrArg List.sum (Wm λp c=>BH a b p c)
theorem zr(f:Str->Int)(ls:List Str):(aZ (bU f ls)).map (·.2)=(ls.map f).map V.int:=by simp_all [aZ,bU,VG]
theorem Gd{R:Addr->Prop}:(∀y∈ys,∃q,y=.ref q/\R q)->∃ps:List Addr,ys=ps.map V.ref/\∀q∈ps,R q:=by
 induction ys with
 |nil=>exact λ_=>⟨[],rfl,λq h=>nomatch h⟩
 |cons y ys a=>
  intro h;obtain⟨q,rfl,c⟩:=h y (Vz ..);obtain⟨ps,rfl,d⟩:=a λz b=>h z (Vw _ b)
  exact⟨q :: ps,rfl,λr e=>by
   grind⟩
end Bs
namespace Sx
open PySem L2 Bs
inductive E3(C CO:Addr)(vs:List V)(H:Hp)(Q:VK)(E:XK):Prop
 |mk (x:Addr) (many:Int) (n:Nat) (g:Str) (ws ss ls:List Str) (_:vs=[.ref x,.int many,.int (n:Int)]) (_:aV C H x g ws ss ls) (_:2<=g.length) (_:g.length<=10) (_:ss.length<=900) (_:gk g.length many n) (_:(∀(d:Addr) (f:Str->Int) (H':Hp),a9 H H'->H d=none->H' d=some (.dK (aZ (bU f ls)))->vF g ws ss ls many n f->Q (.ref d) H')) (_:(vG g ws ss ls many n->∀H',a9 H H'->E (.ref CO) none H'))
inductive E4(C:Addr)(vs:List V)(H:Hp)(Q:VK)(eN:XK):Prop
 |mk (x d:Addr) (many:Int) (n:Nat) (f:Str->Int) (g:Str) (ws ss ls:List Str) (_:vs=[.ref x,.int many,.int (n:Int),.ref d]) (_:aV C H x g ws ss ls) (_:(∀w∈ws,1<=w.length)) (_:(ch g).Nodup) (_:2<=g.length) (_:g.length<=10) (_:ss.length<=900) (_:gk g.length many n) (_:H d=some (.dK (aZ (bU f ls)))) (_:(∀p∈ls,0<=f p)) (_:y2 g ws ss ls many n f) (_:0 < (ls.map f).sum) (_:∀(dl:Addr) (f':Str->Int) (H':Hp),(∀c o,H c=some o->c≠d->H' c=some o)->H dl=none->H' dl=some (.dK (aZ (bU f' ls)))->(∀p∈ls,0<=f' p)->y2 g ws ss ls many n f'->0 < (ls.map f').sum->(∀p∈ls,f' p<=f p)->(ls.map f').sum<=(ls.map f).sum->Q (.ref dl) H')
end Sx
namespace L2
open PySem Sx Bs
theorem BJ{Ok:Hp->Prop}{Q:Hp->Prop}(R:Nat->V->Hp->Prop)(T:∀i y U g ys,R i y U->U l=some (.lst ys)->(∀b o,U b=some o->b≠l->g b=some o)->R i y g)(hJ:kK J Ok xs)(hl:H l=none)(hz:xs.length<=sizeLine)(C:∀r,a9 H r->Ok r)
 (he:∀i x I ys,xs[i]?=some x->a9 H I->I l=some (.lst ys)->∃p a b c,x=.ref p/\jA K I p [a,b,c]/\∀Q',(∀y r,a9 I r->R i y r->Q' y r)->te (some a :: some b :: some c :: σf) I Q')
 (hd:∀ys r,a9 H r->r l=some (.lst ys)->ys.length=xs.length->(∀i y,ys[i]?=some y->R i y r)->Q r):ri K J l σf sM te H Q:=by
 refine⟨λi m d g=>m=xs.length - i/\i<=xs.length/\a9 H g/\g l=some (.lst d)/\d.length=i/\∀j y,d[j]?=some y->R j y g,⟨xs.length,by simp,Wb _,a9.upd hl,a7,rfl,λj y h=>by simp at h⟩,?_⟩;rintro i m d g ⟨rfl,hi,n,q,f,D⟩;refine⟨q,?_⟩
 by_cases k:i < xs.length
 ·refine .inr ⟨hJ.go i g (C _ n) k,by rw[f];omega,λx I y=>?_⟩;obtain⟨e,E⟩:=hJ.sD i g x I (C _ n) k y;subst e;obtain⟨p,a,b,c,rfl,F,G⟩:=he i x _ d E n q;refine⟨p,a,b,c,rfl,F,?_⟩;unfold sM;dsimp only;rw[if_pos rfl];refine G _ λy u v w=>⟨v _ _ q,xs.length - (i + 1),by omega,rfl,k,λb o e=>?_,a7,by rw[Vs,f];rfl,λj z s=>?_⟩
  ·rw[aa (ae e hl)];exact v _ _ (n _ _ e)
  ·have t:=v _ _ q;have kp:∀b o,u b=some o->b≠l->(upd u l (.lst (d++[y]))) b=some o:=λb o e L=>by rw[aa L];exact e
   by_cases A:j < d.length
   ·rw[VZ A]at s;exact T j z u _ _ (T j z _ _ _ (D j z s) q λb o e _=>v _ _ e) t kp
   ·rw[VY (by omega)]at s
    have B:j - d.length=0:=by
     have:=(Vu.mp s).1;simp at this;omega
    rw[B]at s;cases s;have:j=i:=by omega
    rw[this];exact T i y u _ _ w t kp
 ·have e:i=xs.length:=by omega
  subst e;exact .inl ⟨hJ.stop g (C _ n),hd d g n q f D⟩
theorem E5{Ok:Hp->Prop}{Q:Hp->Prop}(C:List jl)(hJ:kK J Ok xs)(hl:H l=none)(hz:xs.length<=sizeLine)(I:C.length=xs.length)(U:∀g,a9 H g->Ok g)
 (he:∀(i:Nat) (x:V) (d:jl) j,xs[i]?=some x->C[i]?=some d->a9 H j->∃p a b c,x=.ref p/\jA K j p [a,b,c]/\∀T,(∀y g,a9 j g->bG K (aG j g) d y->T y g)->te (some a :: some b :: some c :: σf) j T)
 (hd:∀g,a9 H g->bG K (aG H g) (.lst C) (.ref l)->Q g):ri K J l σf sM te H Q:=by
 refine BJ (λi y g=>∀d,C[i]?=some d->∃j o,a9 H j/\j l=some o/\bG K (aG j g) d y) ?_ hJ hl hz U (λi x j n s h k=>?_) (λn g q t m u=>?_)
 ·intro i y D E n r v kp d f;obtain⟨j,o,h,k,r⟩:=r d f;exact⟨j,o,h,k,bG.same (bZ k kp) d y r⟩
 ·have hi:i < C.length:=by rw[I];exact(Vu.mp s).1
  obtain⟨p,a,b,c,e,w,z⟩:=he i x C[i] j s (Vp hi) h;refine⟨p,a,b,c,e,w,λT A=>z T λy g q r=>A y g q λd f=>?_⟩;rw[Vp hi]at f;cases f;exact⟨j,_,h,k,r⟩
 ·refine hd g q ⟨l,n,rfl,.inl (bF hl t),aW.og C n (by rw[I,m]) λi d y f B=>?_⟩;obtain⟨j,o,h,k,r⟩:=u i y B d f;exact bG.same (dU h) d y r
end L2
namespace Bs
open PySem L2 Sx
noncomputable abbrev BK:=Nat×List Nat×Int
noncomputable def vH(s:BK):jl:=.tup [.at (.int (s.1:Int)),kW (nI s.2.1),.at (.int s.2.2)]
set_option genInjectivity true in
inductive Runs(many:Int)(LK:List Str)(LL:List Int)(Ge:List (List (Str×Nat))):List BK->List Str->List Int->List (List (Str×Nat))->Prop
 |nil:Runs many LK LL Ge [] LK LL Ge
 |snoc {l:List BK} {hs:List Str} {ws:List Int} {lns:List (List (Str×Nat))} {d:Nat} {ns:List Nat} {w:Int}:Runs many LK LL Ge l hs ws lns->cV ws lns many (d:Int) (nI ns) w=true->Runs many LK LL Ge (l++[(d,ns,w)]) (cI hs d) (bK ws d w) (gq lns d (nI ns))
noncomputable def p7(a:Addr):List (Str×V):=[("weights",.ref a)]
noncomputable def mM(a b:Addr):List (Str×V):=[("weights",.ref a),("splits",.ref b)]
noncomputable def p8(a b c:Addr):List (Str×V):=[("weights",.ref a),("splits",.ref b),("kept",.ref c)]
noncomputable def vI(a b c d:Addr):List (Str×V):=[("weights",.ref a),("splits",.ref b),("kept",.ref c),("last",.ref d)]
theorem KD(a:Addr):d4 "weights" (.ref a) []=p7 a:=rfl
theorem KG(a b:Addr):d4 "splits" (.ref b) (p7 a)=mM a b:=by
 show (if ("weights":Str)="splits" then _ else(("weights":Str),V.ref a) :: d4 "splits" (.ref b) [])=_;rw[if_neg (by decide+kernel)];rfl
theorem Hc(a b c:Addr):d4 "kept" (.ref c) (mM a b)=p8 a b c:=by
 show (if ("weights":Str)="kept" then _ else(("weights":Str),V.ref a) :: (if ("splits":Str)="kept" then _ else(("splits":Str),V.ref b) :: d4 "kept" (.ref c) []))=_;rw[if_neg (by decide+kernel),if_neg (by decide+kernel)];rfl
theorem E6(a b c d:Addr):d4 "last" (.ref d) (p8 a b c)=vI a b c d:=by
 show (if ("weights":Str)="last" then _ else(("weights":Str),V.ref a) :: (if ("splits":Str)="last" then _ else(("splits":Str),V.ref b) :: (if ("kept":Str)="last" then _ else(("kept":Str),V.ref c) :: d4 "last" (.ref d) [])))=_;rw[if_neg (by decide+kernel),if_neg (by decide+kernel),if_neg (by decide+kernel)];rfl
theorem zt(a b c d:Addr):(vI a b c d).lookup ("last":Str)=some (.ref d):=by
 rw[<-E6,aD,if_pos rfl]
theorem lZ(a b c d:Addr):(vI a b c d).lookup ("kept":Str)=some (.ref c):=by
 rw[<-E6,aD,if_neg (by decide+kernel),<-Hc,aD,if_pos rfl]
structure ot(K:Vo)(C CS:Addr)(H:Hp)(x:Addr)(m:List (Str×Int))(rx:List BK)(ks:List Nat)(hs:List Str)(ws:List Int)(lns:List (List (Str×Nat))):Prop where
 ex:∃dx a b c d,H x=some (.ins C dx (vI a b c d))/\H a=some (.dK (aZ m))/\bG K H (.lst (rx.map vH)) (.ref b)/\bG K H (kW (nI ks)) (.ref c)/\bC K CS H d hs ws lns
theorem ot.same(h:ot K C j H x m g l hs ws lns)(s:a9 H o):ot K C j o x m g l hs ws lns:=by
 obtain⟨e,a,b,c,d,f,i,k,n,p⟩:=h;exact⟨e,a,b,c,d,s _ _ f,s _ _ i,bG.same s _ _ k,bG.same s _ _ n,p.same s⟩
theorem mN(s:a9 H g):a9 (eM H b) (eM g b):=λc o e=>by
 unfold eM at e ⊢
 by_cases h:c=b
 ·rw[if_pos h]at e;cases e
 ·rw[if_neg h]at e ⊢;exact s _ _ e
theorem Gf:eM (upd H b o) b=eM H b:=by
 funext c;unfold eM
 by_cases h:c=b
 ·rw[if_pos h,if_pos h]
 ·rw[if_neg h,if_neg h,aa h]
theorem ry:a9 (eM H b) H:=kE λ_ _ e _=>e
theorem Gg(h:H b=some o):a9 (aG H g) (eM g b):=by grind [a9,eM,dS,jO,aG]
theorem E7(s:a9 H g)(h:H b=none):a9 H (eM g b):=λc o e=>jO (s _ _ e) (ae e h)
theorem Al(g:H t=some (.tup [.int (d:Int),.ref l,.int w]))(j:H l=some (.lst ((nI ns).map V.int))):bG K H (vH (d,ns,w)) (.ref t):=
 ⟨t,_,rfl,g,_,_,rfl,⟨rfl,rfl⟩,_,_,rfl,ig j,_,_,rfl,⟨rfl,rfl⟩,rfl⟩
structure E8(g:Str)(bw ss ls:List Str)(many:Int)(n:Nat)(f:Str->Int)(rx:List BK)(ks:List Nat)(hs:List Str)(ws:List Int)(lns:List (List (Str×Nat))):Prop where
 nn:∀p∈ls,0<=f p
 le:∀p∈ls,f p<=8
 fit:y2 g bw ss ls many n f
 ps:0 < (ls.map f).sum
 m:(ls.map f).sum<=40
 rn:Runs many (ak ls f) ((ak ls f).map f) (bg g bw ss ls n (ak ls f)) rx hs ws lns
 b:gL many hs ws lns
 cv:EE (aF g bw ss ls n) hs lns
 ln:hs.length<=40
 ko:oo lns many ks
 ne:ks≠[]
 sl:rx.length<=40
 sb:∀p∈hs,p∈ls
end Bs
namespace Sx
open PySem L2 Bs
inductive E9(K:Vo)(C:Addr)(vs:List V)(H:Hp)(Q:VK)(eN:XK):Prop
 |mk (x hs ws lns) (_:vs=[.ref x]) (_:bC K C H x hs ws lns) (_:hs.length<=10000) (_:ws.length<=10000) (_:lns.length<=10000) (_:(∀l∈lns,l.length<=10000)) (_:∀y H',a9 H H'->bC K C (aG H H') y hs ws lns->Q (.ref y) H')
inductive Gh(K:Vo)(C CS:Addr)(vs:List V)(H:Hp)(Q:VK)(eN:XK):Prop
 |mk (x dx d z:Addr) (u v:V) (m:List (Str×Int)) (rx:List BK) (ks:List Nat) (hs:List Str) (ws:List Int) (lns:List (List (Str×Nat))) (_:vs=[.ref x,.ref d,u,v,.ref z]) (_:H x=some (.ins C dx [])) (_:Rd H d (.dK (aZ m))) (_:bG K H (.lst (rx.map vH)) u) (_:bG K H (kW (nI ks)) v) (_:bC K CS H z hs ws lns) (_:hs.length<=10000) (_:ws.length<=10000) (_:lns.length<=10000) (_:(∀l∈lns,l.length<=10000)) (_:rx.length<=10000) (_:∀a b c y H',H' x=some (.ins C dx (vI a b c y))->H a=none->H' a=some (.dK (aZ m))->bG K (aG H H') (.lst (rx.map vH)) (.ref b)->bG K (aG H H') (kW (nI ks)) (.ref c)->bC K CS (aG H H') y hs ws lns->(∀b o,H b=some o->b≠x->H' b=some o)->Q .non H')
inductive BL(K:Vo)(C CS:Addr)(vs:List V)(H:Hp)(Q:VK)(eN:XK):Prop
 |mk (x m rx ks hs ws lns) (_:vs=[.ref x]) (_:ot K C CS H x m rx ks hs ws lns) (_:hs.length<=10000) (_:ws.length<=10000) (_:lns.length<=10000) (_:(∀l∈lns,l.length<=10000)) (_:∀y H',a9 H H'->bC K CS (aG H H') y hs ws lns->Q (.ref y) H')
end Sx
namespace L2
open PySem PySem.Spec PyProof.Rows
theorem under(n:Nat){P:Int->Prop}(h:∀k:Fin n,P ((k.val:Nat):Int))(d:Int)(a:0<=d)(b:d < (n:Int)):P d:=by
 obtain⟨k,rfl⟩:=Int.eq_ofNat_of_zero_le a;exact h ⟨k,Int.ofNat_lt.mp b⟩
theorem gM{t u:TS}{D:Ends}{σ:St}{H:Hp}(h:∀R:St->Hp->Prop,(∀σ H,u D σ H->R σ H)->t {D with nx:=R} σ H):Hw t u D σ H:=h (u D) λ_ _ x=>x
theorem au{X:Cx}(ys:List Str)(ix:List Nat)(h:lQ X.env.scope scope X.N x ys ix=true:=by kernel_rfl):bo X scope x ys ix:=yx rfl rfl h
end L2
namespace Bs
open PySem L2 Sx
theorem rz:∀{ws:List Int},(∀w∈ws,1<=w)->(ws.length:Int)<=ws.sum
 |[],_=>Xh _
 |w :: ws,h=>by
  have b:=h w (Vz ..);have c:=rz (ws:=ws) λx a=>h x (Vw _ a);rw[Wu,Wa];omega
structure eW(g:Str)(bw ss ls:List Str)(many:Int)(n:Nat)(f:Str->Int)(rx:List BK)(hs:List Str)(ws:List Int)(lns:List (List (Str×Nat))):Prop where
 rn:Runs many (ak ls f) ((ak ls f).map f) (bg g bw ss ls n (ak ls f)) rx hs ws lns
 b:gL many hs ws lns
 cv:EE (aF g bw ss ls n) hs lns
 sm:ws.sum=(ls.map f).sum
 sl:rx.length + (ak ls f).length=hs.length
 sb:∀p∈hs,p∈ls
theorem eW.start{f:Str->Int}(nd:(ch g).Nodup)(j:ss.Perm (bW l "" l))(hw:∀w∈l,1<=w.length)(o:∀p∈ls,p∈ss)(hl:ls.Nodup)(hn:∀p∈ls,0<=f p)(r:y2 g l ss ls many n f) :
 eW g l ss ls many n f [] (ak ls f) ((ak ls f).map f) (bg g l ss ls n (ak ls f)):=
 ⟨.nil,gL.first hn r,EE.first nd j hw (λp j=>o p (VR.mp j).1) (hl.filter _),uv hn,waK _,λp j=>(VR.mp j).1⟩
theorem eW.step{g:Str}{o ss ls:List Str}{many:Int}{n:Nat}{f:Str->Int}{j:List BK}{hs:List Str}{ws:List Int}{lns:List (List (Str×Nat))}(h:eW g o ss ls many n f j hs ws lns){d:Nat}{ns:List Nat}{w:Int}(ok:cV ws lns many (d:Int) (nI ns) w=true) :
 eW g o ss ls many n f (j++[(d,ns,w)]) (cI hs d) (bK ws d w) (gq lns d (nI ns)):=by
 obtain⟨b,hd⟩:=h.b.split ok;have hw:=h.b.w;have hl:=h.b.l;refine⟨.snoc h.rn ok,b,h.cv.split hl h.b.e hd (nI ns),?_,?_,λp a=>?_⟩
 ·rw[z9 (by omega)];exact h.sm
 ·have:=h.sl;unfold cI;rw[Vs,Vs];show j.length + 1 + _=hs.length + 1;omega
 ·unfold cI at a;rcases VP.mp a with a |a
  ·exact h.sb p a
  ·rw[VD.mp a,Vq,Vp hd];exact h.sb _ (Wg hd)
theorem eW.len{f:Str->Int}(h:eW g l ss ls many n f j hs ws lns):(hs.length:Int)<=(ls.map f).sum:=by
 have:=rz h.b.p;have a:=h.sm;have c:=h.b.w;omega
theorem eW.whole{f:Str->Int}(h:eW g o ss ls many n f r hs ws lns)(C:(ls.map f).sum<=40)(j:g.length ^ n<=64):GX hs ws lns:=by
 have hl:=h.len;refine⟨h.b.w,h.b.l,h.b.e,by omega,λl a=>?_⟩;have c:=h.cv.line h.b.l (b:=64) (λp=>VF (eS g o ss ls n p) j) l a;have d:64 * hs.length<=64 * 40:=wa2 _ (by omega);omega
def BM(g:Str)(bw ss:List Str)(many:Int)(n:Nat):Prop:=∀j:Nat,1<=j->(j:Int)<=24->¬bM g bw ss (j * n) "" < many ^ j
end Bs
namespace Sx
open PySem L2 Bs
def Pp(CX:Addr)(g:Str)(bw ss:List Str)(many:Int)(n:Nat)(H:Hp)(E:XK):Prop:=∀(k:Nat) (d:Addr) (H':Hp),Kw g bw ss many n 24 (.int (k:Nat))->a9 H H'->H d=none->H' d=some (.xd [("length",.int (k:Nat)),("rows",.int (bM g bw ss (k * n) ""))])->E (.ref CX) (some d) H'
inductive Gi(C CX:Addr)(vs:List V)(H:Hp)(Q:VK)(E:XK):Prop
 |mk (x:Addr) (many:Int) (n:Nat) (g:Str) (bw ss ls:List Str) (_:vs=[.ref x,.int many,.int (n:Int)]) (_:aV C H x g bw ss ls) (_:g.length<=10) (_:ss.length<=900) (_:gk g.length many n) (_:(BM g bw ss many n->∀H',a9 H H'->Q .non H')) (_:Pp CX g bw ss many n H E)
inductive Ea(K:Vo)(C CP CS CX CO:Addr)(vs:List V)(H:Hp)(Q:VK)(E:XK):Prop
 |mk (x:Addr) (many:Int) (n:Nat) (g:Str) (bw ss ls:List Str) (_:vs=[.ref x,.int many,.int (n:Int)]) (_:aV C H x g bw ss ls) (_:(∀w∈bw,1<=w.length)) (_:(ch g).Nodup) (_:2<=g.length) (_:g.length<=10) (_:ss.length<=900) (_:gk g.length many n) (_:(BM g bw ss many n->∀(y:Addr) (f0 f:Str->Int) (rx:List BK) (ks:List Nat) (hs:List Str) (ws:List Int) (lns:List (List (Str×Nat))) (H':Hp),a9 H H'->ot K CP CS (aG H H') y (bU f ls) rx ks hs ws lns->vF g bw ss ls many n f0->(∀p∈ls,f p<=f0 p)->E8 g bw ss ls many n f rx ks hs ws lns->Q (.ref y) H')) (_:Pp CX g bw ss many n H E) (_:(BM g bw ss many n->vG g bw ss ls many n->∀H',a9 H H'->E (.ref CO) none H'))
end Sx
namespace K35
open PySem L2 Bs Sx
noncomputable def top(i:Nat):Stmt:=PySem.Challenge.pw_bandscribe_k35_whole_freer_bands.main.body.getD i (.Pass ⟨0,0,0,0⟩)
structure Txt(mg:Str->Option Value):Prop where
 «abs»:mg "abs"=none
 «all»:mg "all"=none
 «any»:mg "any"=none
 «bool»:mg "bool"=none
 «dict»:mg "dict"=none
 «enum»:mg "enumerate"=none
 «int»:mg "int"=none
 «Gj»:mg "isinstance"=none
 «len»:mg "len"=none
 «list»:mg "list"=none
 «max»:mg "max"=none
 «min»:mg "min"=none
 «range»:mg "range"=none
 «set»:mg "set"=none
 «sorted»:mg "sorted"=none
 «str»:mg "str"=none
 «sum»:mg "sum"=none
structure Eb(K:Vo)(C:Addr):Prop where
 cl:zQ K C
 kH:cO K C "homes"
 cy:cO K C "weights"
 di:cO K C "lines"
structure Gk(K:Vo)(C:Addr):Prop where
 cl:zQ K C
 cy:cO K C "weights"
 Ec:cO K C "splits"
 vJ:cO K C "kept"
 Ed:cO K C "last"
structure Gm(K:Vo)(C:Addr):Prop where
 cl:zQ K C
 q5:cO K C "signs"
 Ee:cO K C "barred"
 kI:cO K C "moves"
 ou:cO K C "lasting"
structure Lk(K:Vo)(mg:Str->Option Value) where
 T:Txt mg
 rA:Addr
 rB:VB
 eX:FnAt K mg "is_whole" (top 12) ["thing"] rA rB
 rD:Addr
 rE:VB
 iW:FnAt K mg "all_rows" (top 14) ["band","wide"] rD rE
 uE:Addr
 uF:VB
 kJ:FnAt K mg "is_rate" (top 15) ["band","many","wide"] uE uF
 iX:Addr
 iY:VB
 bR:FnAt K mg "check_rate" (top 16) ["band","many","wide"] iX iY
 kY:Addr
 kZ:VB
 hO:FnAt K mg "longer_rows" (top 17) ["band","rows"] kY kZ
 lg:Addr
 lj:VB
 fk:FnAt K mg "blocks_from" (top 18) ["band","place","wide"] lg lj
 p9:Addr
 pd:VB
 jQ:FnAt K mg "ends_from" (top 20) ["band","place"] p9 pd
 rF:Addr
 rG:VB
 m3:FnAt K mg "all_ends" (top 21) ["band"] rF rG
 jR:Addr
 jS:VB
 eC:FnAt K mg "counts_up_to" (top 22) ["band","length"] jR jS
 mO:Addr
 mP:VB
 iZ:FnAt K mg "count_from" (top 23) ["band","place","length"] mO mP
 Am:Addr
 An:VB
 vK:FnAt K mg "count" (top 24) ["band","length"] Am An
 mQ:Addr
 mR:VB
 j0:FnAt K mg "block_ends" (top 26) ["band","wide"] mQ mR
 pe:Addr
 pf:VB
 jT:FnAt K mg "weight_of" (top 27) ["places","weights"] pe pf
 uG:Addr
 uH:VB
 ow:FnAt K mg "lowered" (top 28) ["ends","many","weights"] uG uH
 m4:Addr
 rH:VB
 j1:FnAt K mg "greatest" (top 29) ["band","many","wide","most"] m4 rH
 xM:Addr
 xN:VB
 mS:FnAt K mg "scarce" (top 30) ["band","many","wide","most"] xM xN
 jU:Addr
 jV:VB
 gv:FnAt K mg "copied_steps" (top 32) ["line"] jU jV
 eY:Addr
 ik:VB
 lq:Addr
 ly:VB
 fm:FnAt K mg "first_sheet" (top 34) ["band","many","wide","weights"] lq ly
 jW:Addr
 jX:VB
 eD:FnAt K mg "is_number_of" (top 35) ["number","things"] jW jX
 mU:Addr
 mV:VB
 cm:FnAt K mg "check_part" (top 36) ["sheet","many","steps","weight"] mU mV
 mW:Addr
 mX:VB
 j2:FnAt K mg "with_twins" (top 37) ["line","desk","twin"] mW mX
 Ao:Addr
 Ap:VB
 mY:FnAt K mg "split" (top 38) ["sheet","many","desk","numbers","weight"] Ao Ap
 jY:Addr
 jZ:VB
 eE:FnAt K mg "copied_sheet" (top 43) ["sheet"] jY jZ
 fF:Addr
 jo:VB
 mZ:Addr
 n0:VB
 gw:Addr
 gx:VB
 c9:FnAt K mg "check_not_scarce" (top 45) ["band","many","wide"] gw gx
 dX:Addr
 dY:VB
 bb:FnAt K mg "weights_of_least_most" (top 46) ["band","many","wide"] dX dY
 k6:Addr
 k7:VB
 gy:FnAt K mg "reached_from" (top 47) ["sheet","desk"] k6 k7
 il:Addr
 ip:VB
 eZ:FnAt K mg "closed_weights" (top 48) ["band","many","wide","weights"] il ip
 n6:Addr
 n7:VB
 j3:FnAt K mg "steps_into" (top 49) ["line","desks"] n6 n7
 j4:Addr
 n8:VB
 fQ:FnAt K mg "kept_desks" (top 50) ["sheet","many"] j4 n8
 ph:Addr
 pj:VB
 k8:FnAt K mg "step_down" (top 51) ["sheet"] ph pj
 xO:Addr
 xP:VB
 rJ:FnAt K mg "run_by" (top 52) ["weights","numbers","many"] xO xP
 n9:Addr
 nc:VB
 j5:FnAt K mg "next_split" (top 53) ["sheet","many"] n9 nc
 uI:Addr
 uJ:VB
 dZ:FnAt K mg "plan_of" (top 54) ["band","many","wide"] uI uJ
 pk:Addr
 pq:VB
 gN:FnAt K mg "all_among" (top 57) ["text","signs"] pk pq
 pw:Addr
 pz:VB
 k9:FnAt K mg "are_signs" (top 58) ["thing"] pw pz
 uK:Addr
 uL:VB
 oy:FnAt K mg "is_word" (top 59) ["thing","signs"] uK uL
 kc:Addr
 kd:VB
 gz:FnAt K mg "check_barred" (top 60) ["barred","signs"] kc kd
 ke:Addr
 kg:VB
 eF:FnAt K mg "bears_barred" (top 61) ["row","barred"] ke kg
 jq:Addr
 jr:VB
 fG:FnAt K mg "sorted_places" (top 62) ["barred"] jq jr
 lz:Addr
 lA:VB
 hU:FnAt K mg "longest_end" (top 63) ["row","places"] lz lA
 ng:Addr
 nh:VB
 j6:FnAt K mg "moves_from" (top 64) ["place","signs","barred","places"] ng nh
 ni:Addr
 nj:VB
 j7:FnAt K mg "leads_into" (top 65) ["ends","lot"] ni nj
 j8:Addr
 nk:VB
 j9:FnAt K mg "live_among" (top 66) ["moves"] j8 nk
 fH:Addr
 js:VB
 gA:Addr
 gB:VB
 gO:Addr
 gP:VB
 lB:Addr
 lC:VB
 pA:Addr
 pB:VB
 rK:Addr
 rL:VB
 rM:Addr
 rN:VB
 f7:FnAt K mg "_law_nth" (top 69) ["_law_script","_law_k"] rM rN
 nq:Addr
 nr:VB
 aY:FnAt K mg "_law_mixed" (top 70) ["_law_cell","_law_turn","_law_many"] nq nr
 nu:Addr
 nv:VB
 ja:FnAt K mg "_law_signs" (top 71) ["_law_cell"] nu nv
 gQ:Addr
 gR:VB
 eG:FnAt K mg "_law_words_with" (top 72) ["_law_script","_law_at","_law_signs_here"] gQ gR
 iq:Addr
 ir:VB
 f9:FnAt K mg "_law_free_rate" (top 73) ["_law_cell","_law_signs_here"] iq ir
 kh:Addr
 ki:VB
 gC:FnAt K mg "_law_no_rate" (top 74) ["_law_cell"] kh ki
 jb:Addr
 nA:VB
 jc:FnAt K mg "_law_right" (top 75) ["_law_band","_law_many","_law_wide"] jb nA
 kj:Addr
 kl:VB
 gD:FnAt K mg "_law_refused" (top 76) ["_law_band","_law_pair"] kj kl
 aq:Addr
 q8:mg "Sheet"=some (.ref aq)
 ao:Eb K aq
 nB:Mk K aq eY
 aQ:Addr
 Ef:mg "Plan"=some (.ref aQ)
 cf:Gk K aQ
 Aq:Mk K aQ fF
 aB:Addr
 Eg:mg "Band"=some (.ref aB)
 aH:Gm K aB
 Ar:Mk K aB fH
 cz:kT K aq "__init__" "Sheet.__init__" (inClass (top 33) 0) ["self","homes","weights","lines"] eY ik
 fI:kT K aQ "__init__" "Plan.__init__" (inClass (top 44) 0) ["self","weights","splits","kept","last"] fF jo
 fR:kT K aQ "sheet" "Plan.sheet" (inClass (top 44) 1) ["self"] mZ n0
 fJ:kT K aB "__init__" "Band.__init__" (inClass (top 67) 0) ["self","signs","barred"] fH js
 bz:kT K aB "check_place" "Band.check_place" (inClass (top 67) 2) ["self","place"] gA gB
 cW:kT K aB "check_live" "Band.check_live" (inClass (top 67) 3) ["self","place"] gO gP
 fo:kT K aB "places" "Band.places" (inClass (top 67) 5) ["self"] lB lC
 cA:kT K aB "live" "Band.live" (inClass (top 67) 6) ["self"] pA pB
 fb:kT K aB "led" "Band.led" (inClass (top 67) 8) ["self","place","sign"] rK rL
 cn:Addr
 km:mg "BandError"=some (.ref cn)
 XT:wU K cn "BandError"
 XB:D8 K cn
 cK:Addr
 rP:mg "NoRate"=some (.ref cK)
 fC:bJ K cK cn "NoRate"
 nC:sP K cK
 uM:Ww K (.ref cK) "__init__"=some (some (.builtin "ValueError.__init__"))
 ee:Addr
 fX:mg "NoSplit"=some (.ref ee)
 fY:bJ K ee cn "NoSplit"
 BO:sP K ee
 fg:Ww K (.ref ee) "__init__"=some (some (.builtin "ValueError.__init__"))
 bN:Addr
 rQ:mg "Scarce"=some (.ref bN)
 iu:bJ K bN cn "Scarce"
 Eh:sP K bN
 cX:Addr
 eI:VB
 nD:wF K "__init__" "Scarce.__init__" (inClass (top 9) 0) cX eI
 nE:Binds K eI ["self","length","rows"] []
 uN:Ww K (.ref bN) "__init__"=some (some (.ref cX))
 uO:waA K (.ref cX)=true
 jt:Ww K (.ref bN) "length"=some none
 lD:Ww K (.ref bN) "rows"=some none
 m5:Addr
 vL:mg "Open"=some (.ref m5)
 vM:bJ K m5 cn "Open"
 J1:sP K m5
 vN:Ww K (.ref m5) "__init__"=some (some (.builtin "ValueError.__init__"))
 kn:∃t,mg "MOST_BLOCKS"=some (.int 24 t)
 kq:∃t,mg "MOST_WEIGHT"=some (.int 8 t)
 eO:∃t,mg "MOST_WEIGHT_IN_ALL"=some (.int 40 t)
 known:∃t,mg "KNOWN_SIGNS"=some (.str dj t)
section
variable{P:VO}{w:World}{K:Vo}{mg:Str->Option Value}{base:Heap}
theorem KH:∀d:Int,0<=d->d < 4->∃n:Nat,wx ([.int 2,.int 3,.int 2,.int 4]:List V) d=some (.int (n:Int))/\n∈[2,3,4]:=under 4 λk=>⟨[2,3,2,4].getD k.val 0,by revert k;decide,by revert k;decide⟩
theorem KI:∀d:Int,0<=d->d < 6->∃n:Nat,wx ([.int 1,.int 5,.int 7,.int 11,.int 13,.int 17]:List V) d=some (.int (n:Int))/\n∈[1,5,7,11,13,17]:=under 6 λk=>⟨[1,5,7,11,13,17].getD k.val 0,by revert k;decide,by revert k;decide⟩
theorem gT(L:Lk K mg):aK P w K mg base dn 1 L.rM L.rN ["_law_script","_law_k"] (Kt K):=by
 refine L.f7.F.eL (N:=["_law_script","_law_k","_law_cell"]) (λg A outer s H o Q E nd r h=>?_);obtain⟨a,ns,p,rfl,j,k⟩:=h
 refine⟨_,(a6 (b9 VS rfl (aM (dA pU (pv 0) (da (pv 1)) (da (aI d2 (pv 1) ag)))) (az (i:=2)) (af (aw (pv 2))))
  (af (aw ag))),?_⟩
 refine⟨_,rfl,_,rfl,_,rfl,_,rfl,_,_,rfl,rfl,_,rfl,a,_,rfl,j,λl hl=>?_⟩;obtain⟨d,m,_⟩:=x9 ns (some p) (some (p + 1));rw[m];have f:a9 H (upd H l (.lst (d.map V.int))):=a9.upd hl;refine⟨l,rfl,⟨_,aN.of a7⟩,cZ (K:=K) (a:=l) (xs:=d.map V.int) (λi σ b=>b=upd H l (.lst (d.map V.int))/\∃e,σ=[some (.ref a),some (.int p),e]) ⟨rfl,none,rfl⟩ (λi σ b _ q=>by rw[q.1];exact aN.of a7) ?_ ?_⟩
 ·rintro i y σ b n ⟨rfl,e,rfl⟩;obtain⟨c,_,rfl⟩:=Vx.mp (VN n);exact⟨_,rfl,k c _ f⟩
 ·rintro σ b ⟨rfl,e,rfl⟩;exact k 0 _ f
theorem b7(L:Lk K mg):aK P w K mg base dn 1 L.nq L.nr ["_law_cell","_law_turn","_law_many"] D3:=by
 have T:=L.T;refine L.aY.F.eL (N:=["_law_cell","_law_turn","_law_many","_law_digits","_law_step","_law_low","_law_high","_law_number"]) (λe A outer s H v Q E nd x h=>?_);obtain⟨c,t,m,rfl,f,g,a,k⟩:=h
 refine⟨_,(a6 (bE (aA qf (aI fE (pv 0) ag) ag (aL _)) (a6 (aj (i:=3) (aI mh (ax Cr (by rfl) T.abs N2 (a5 (pv 0) a8)) ag))
  (a6 (b9 VS rfl (cL rfl T.range (a5 (pv 1) a8)) (az (i:=4)) (af (aj (i:=3) (aI mh (pv 3) ag))))
  (af (aw (aI fE (aI fE (pv 3) ag) (pv 2)))))) aJ)
  (a6 (aj (i:=5) (aI fE (pv 0) ag))
  (a6 (aj (i:=6) (aI fE (aI mh (pv 0) ag) ag))
  (a6 (aj (i:=7) (aI d2 (aI fD (pv 5) (aI d2 ag (aI fD (pv 1) ag))) (aI fD (pv 6) (aI d2 (pv 1) ag))))
  (a6 (aj (i:=7) (aI fE (aI d2 (aI d2 (pv 7) (aI fD (aI fD (pv 1) (pv 1)) ag)) ag) ag))
  (af (aw (aI fE (aI fE (aI fD (pv 7) (pv 7)) ag) (pv 2))))))))),?_⟩
 refine⟨_,rfl,_,_,rfl,rfl,(by show (0:Int) < 2;decide),rfl,_,rfl,?_⟩;refine CI (λ_=>?_) (λ_=>?_)
 ·refine⟨_,rfl,c,rfl,_,_,rfl,rfl,⟨by decide,by decide⟩,?_⟩;refine⟨_,rfl,_,rfl,by omega,by omega,d9 (lo:=0) (n:=t.toNat) (λi σ b=>b=H/\∃d v4,σ=[some (.int c),some (.int t),some (.int m),some (.int d),v4,none,none,none]) ⟨rfl,_,none,rfl⟩ ?_ ?_⟩
  ·rintro i σ b hi ⟨rfl,d,v4,rfl⟩;exact⟨_,rfl,_,_,rfl,rfl,⟨by decide,by decide⟩,rfl,_,_,rfl⟩
  ·rintro σ b ⟨rfl,d,v4,rfl⟩;exact⟨_,rfl,_,_,rfl,rfl,(by show (0:Int) < 1000003;decide),_,rfl,_,_,rfl,rfl,a,k _ (XA _ (by omega)) (XX _ a)⟩
 ·refine⟨_,rfl,_,_,rfl,rfl,(by show (0:Int) < 998244353;decide),?_⟩;have j:=XA c (show (998244353:Int)≠0 by decide);have l:=XX c (show (0:Int) < 998244353 by decide);generalize c % 998244353=o at j l ⊢;refine⟨_,rfl,_,_,rfl,rfl,⟨by decide,by decide⟩,_,_,rfl,rfl,(by show (0:Int) < 1000000007;decide),?_⟩;have p:=XA (c / 998244353) (show (1000000007:Int)≠0 by decide);have g1:=XX (c / 998244353) (show (0:Int) < 1000000007 by decide);generalize c / 998244353 % 1000000007=q at p g1 ⊢;refine⟨_,rfl,_,rfl,_,_,rfl,rfl,.inr ⟨by decide,by decide⟩,_,_,rfl,rfl,_,_,rfl,rfl,.inl ⟨by omega,by omega⟩,_,rfl,_,rfl,_,_,rfl,rfl,_,_,rfl,rfl,.inl ⟨by omega,by omega⟩,_,_,rfl,rfl,?_⟩;generalize o * (4099 + t * 30) + q * (t + 2)=nn;refine⟨_,rfl,_,rfl,_,rfl,_,_,rfl,rfl,.inl ⟨by omega,by omega⟩,_,_,rfl,rfl,.inr ⟨by decide,by decide⟩,_,_,rfl,rfl,_,_,rfl,rfl,_,_,rfl,rfl,(by show (0:Int) < 1000000007;decide),?_⟩;have r:=XA (nn + t * t * 104729 + 31) (show (1000000007:Int)≠0 by decide);have u:=XX (nn + t * t * 104729 + 31) (show (0:Int) < 1000000007 by decide);generalize (nn + t * t * 104729 + 31) % 1000000007=y at r u ⊢;exact⟨_,rfl,_,rfl,_,_,rfl,rfl,.inl ⟨by omega,by omega⟩,_,_,rfl,rfl,(by show (0:Int) < 1000000007;decide),_,rfl,_,_,rfl,rfl,a,k _ (XA _ (by omega)) (XX _ a)⟩
theorem sU(L:Lk K mg):aK P w K mg base dn 2 L.nu L.nv ["_law_cell"] Fs:=by
 have T:=L.T;refine L.ja.F.eL (N:=["_law_cell","_law_letters","_law_many","_law_start","_law_step"]) (λG A outer s H vs Q E nd hr h=>?_);obtain⟨c,rfl,k⟩:=h
 refine⟨_,(a6 (aj (i:=1) cw)
  (a6 (aj (i:=2) (bV cD (cC (a5 ag (a5 ag (a5 ag (a5 ag a8))))) (ai (b7 L) L.aY (a5 (pv 0) (a5 ag (a5 ag a8)))) (λ_ _=>rfl)))
  (a6 (aj (i:=3) (ai (b7 L) L.aY (a5 (pv 0) (a5 ag (a5 ag a8)))))
  (a6 (aj (i:=4) (bV cD (cC (a5 ag (a5 ag (a5 ag (a5 ag (a5 ag (a5 ag a8))))))) (ai (b7 L) L.aY (a5 (pv 0) (a5 ag (a5 ag a8)))) (λ_ _=>rfl)))
  (af (aw (jf Zj ZC ZD vh cw (a5 (cT rfl (au ["_law_letters","_law_start","_law_step"] [1,3,4]) (cL rfl T.range (a5 (pv 2) a8)) (λ_ _ _ _ _ _=>bI) (λ_ _ _ _ _ _=>(bV yg (pv 1) (aI fE (aI d2 (pv 2) (aI fD (pv 0) (pv 3))) ag) (λ_ _=>rfl)))) a8)))))))),?_⟩
 refine⟨by decide,λp I=>?_⟩;refine⟨_,rfl,c,1,4,rfl,by decide,by decide,by decide,λd J M=>?_⟩;obtain⟨n,hn,z⟩:=KH d J M;refine⟨p,_,d,_,rfl,rfl,aN.of a7,hn,?_⟩;refine⟨_,rfl,c,2,36,rfl,by decide,by decide,by decide,λb q0 q1=>?_⟩;obtain⟨st,rfl⟩:∃st:Nat,b=(st:Int):=⟨b.toNat,by omega⟩;have m:st < 36:=by omega
 refine⟨by decide,λO o=>?_⟩;refine⟨_,rfl,c,3,6,rfl,by decide,by decide,by decide,λB R S=>?_⟩;obtain⟨sp,r,e⟩:=KI B R S;refine⟨O,_,B,_,rfl,rfl,aN.of a7,r,?_⟩
 have t:sp<=17:=by
  simp only[W3,Xn,or_false]at e;omega
 have U:n<=4:=by
  simp only[W3,Xn,or_false]at z;omega
 refine⟨rfl,_,rfl,(n:Int),rfl,by omega,by omega,λl hl=>?_⟩;rw[W2];refine comp_map (FO st sp) (iN 0 n) hl (by rw[Vn,Wf];exact av (by omega)) (λ_ _=>trivial) (λx W Q' X s3 q=>?_) (λY Z f=>?_)
 ·obtain⟨i,hi,rfl⟩:=Vx.mp X;have UJ:i < n:=Wt.mp hi;have hd:(st + i * sp) % 36 < (ch dj).length:=by rw[aE,qz];exact Nat.mod_lt _ (by decide)
  have e1:(ch dj)[(st + i * sp) % 36]?=some ((ch dj).getD ((st + i * sp) % 36) 0):=by rw[Vq,Vp hd];rfl
  have C:=cb e1;have e3:(((st + i * sp) % 36:Nat):Int)=((st:Int) + (0 + (i:Int)) * (sp:Int)) % 36:=by rw[ZT];rfl
  rw[e3]at C
  have e4:FO st sp (.int (0 + (i:Int)))=.str ⟨#[(ch dj).getD ((st + i * sp) % 36) 0]⟩:=by
   rw[ZT];rfl
  have D:=q W (a9.refl _);rw[e4]at D;exact⟨_,rfl,_,rfl,_,rfl,_,rfl,_,_,rfl,rfl,.inl ⟨by omega,by omega⟩,_,_,rfl,rfl,_,_,rfl,rfl,(by show (0:Int) < 36;decide),dj,_,_,rfl,rfl,av (by rw[qz];decide),C,D⟩
 ·have u:((W5 n).map λ(i:Nat)=>V.int (0 + (i:Int))).map (FO st sp)=((oS st sp n).map λc=>(⟨#[c]⟩:Str)).map V.str:=by
   unfold oS;rw[VG,VG,VG];refine Wm λi _=>?_;show FO st sp (.int (0 + (i:Int)))=_;rw[ZT];rfl
  have g:(oS st sp n).length=n:=by unfold oS;rw[Vn,Wf]
  rw[u]at f;refine⟨_,l,_,rfl,rfl,aN.of f,?_,?_⟩
  ·have j:∀a:List Nat,((a.map λc=>(⟨#[c]⟩:Str)).map (·.length)).sum=a.length:=by
    intro a
    induction a with
    |nil=>rfl
    |cons c a v=>rw[VL,VL,Wu,v,Wa];show 1 + a.length=_;omega
   rw[j,Vn,g];show n + n * 0<=16777216;omega
  ·have y:∀a:List Nat,((a.map λc=>(⟨#[c]⟩:Str)).map ch).flatten=a:=by
    intro a
    induction a with
    |nil=>rfl
    |cons c a v=>rw[VL,VL,Zd,v];rfl
   refine k _ Y (xa m e z ?_) (((a9.upd I).trans (a9.upd o)).trans Z);rw[kA (by decide+kernel),y]
end
end K35
namespace L2
open PySem PySem.Spec PyProof.Rows PySem.W
open Builtin Builtin.ObjectAttr
section
variable{prog:VO}{w:World}{A:Around}{E:Value->Shared->Prop}{s:Shared}{K:Vo}{x dx C CB f:Addr}{mA:Str->Option Value}{name:Str}{v:Value}{R:Ys->Shared->Prop}
theorem BP{Q:Unit->Shared->Prop}(X:K.In s.heap)(hx:s.heap.get? x=some (pX C d t))(hd:s.heap.Ns1 d mA)(hw:Z0 mA ns)(hl:ns.length<=100)(hc:clsIn K C=some cd)(hm:cd.mro=.ref C :: pJ CB)(hh:cd.hasDict=true)(ha:findIn K (.ref C) name=some none)
 (hs:findIn K (.ref C) "__setattr__"=some (some (.builtin "object.__setattr__")))
 (h:∀h' tk,(∀b,b≠d->h'.get? b=s.heap.get? b)->h'.Ns1 d (λy=>if y=name then some v else mA y)->Q () {s with heap:=h',toks:=tk}) :
 wpAny (model prog w) A (setAttr (.ref x) name v) Q E s:=by
 obtain⟨od,es,ep,e1,_⟩:=id hd;have J:InstAt s.heap x (pX C d t) C (some od):=⟨hx,rfl,rfl,e1⟩;refine wao X J hs (u3 (s:={s with toks:=s.toks + 1}) X J hc hm ha ?_);unfold storeInOwnDict;refine Vr (VW ?_);rw[if_neg (by simp)];unfold ownDictForStores instanceDict;refine Vr (Vr (wa5 hx ?_));dsimp only;refine Vr (wa8 (s:={s with toks:=s.toks + 1}) (Z9 X hc) ?_);rw[hh];simp only[wbJ,XV,if_false];refine VW ?_;show wpAny _ _ (storeInDict d (.str name s.toks) name v) _ _ _;unfold storeInDict newKeyGuard;refine Vr (VW (Vr (wbV hd λh' A5 Jo=>?_)));obtain⟨oD,Rw,Rx,MN,OX,OY⟩:=A5.count (waX name v hw);refine Vr (waB MN (by grind [waC,VF,Xq]) ?_)
 wp_walk
 exact h h' _ (λb hb=>Jo.2 b hb) A5
end
section
variable{X:Cx}{CB:Addr}{o value:Expr}{ta tv:TE}{name:Str}{pos pos':Pos}
theorem BQ{fs:List (Str×V)}{g:Str->Option Value}(r:∀f,gW (fs.lookup f) (g f)):Z0 g (fs.map (·.1)):=by grind [gW,Z0,Vz,Vw]
theorem xQ(h:fs.lookup name=none)(f:Str):(fs++[(name,y)]).lookup f=if f=name then some y else fs.lookup f:=by
 grind
def J4(K:Vo)(CB:Addr)(ta tv:TE)(name:Str):TS:=λD σ H=>tv σ H λy H1=>ta σ H1 λz H2=>∃x C nm d fs,z=.ref x/\H2 x=some (XD x C d)/\H2 d=some (.xd fs)/\fs.length<=50/\bJ K C CB nm/\findIn K (.ref C) name=some none/\fs.lookup name=none/\D.nx σ (upd H2 d (.xd (fs++[(name,y)])))
theorem Ei(ha:PE X o ta)(J:PE X value tv)(hs:Xo value (some (.Attribute o name pos')) pos.line X.env=pure false):PS X (.Assign [.Attribute o name pos'] value pos) (J4 X.K CB ta tv name):=by
 intro c s σ H D I h;refine Yj (bL (J c s σ H _ I h) λu F ⟨y,G,L,M,q⟩=>bL (ha c F σ G _ L q) λO E P=>?_) hs;obtain⟨z,i,g,Q,x,C,R,d,fs,S,T,hd,hl,U,hn,V,W⟩:=P;subst S;obtain rfl:O=VH x:=Q;obtain⟨⟨t,Y⟩,_⟩:=g.aS x _ T;obtain⟨mA,ns,r⟩:=g.aS d _ hd;obtain⟨Z,N,bs,sn,sub,ab,m,dd,k0,k1,k2,k3,k5,lk⟩:=U.lk;refine BP (CB:=CB) g.fS Y ns (BQ r) (by rw[Vn];omega) (cd:={name:=R,bases:=bs,mro:=.ref C :: pJ CB,ns:=N,qualname:=Z,hasDict:=true,slotNames:=sn,subclasses:=sub,abstract:=ab,collection:=m,hasDel:=false}) (by unfold clsIn;rw[lk]) rfl rfl hn U.sa λp tk k j=>⟨σ,_,?_,W⟩;obtain⟨o',_,_,eo,_⟩:=id j;have nx:∀{b:Addr} {o:HO},i b=some o->(∀fs,o≠.xd fs)->b≠d:=λe n z=>by rw[z,hd]at e;exact n _ (VC e).symm
 have A:∀{b:Addr},i b=none->b≠d:=λe z=>by rw[z,hd]at e;cases e
 have un:Un (pG X.stack) [] i (upd i d (.xd (fs++[(name,y)]))) E.heap p:=by
  refine⟨λb o q n _ _=>by rw[k b (A n)];exact q,λb o q n _ _=>⟨o.slots,by rw[k b (A n)];exact q⟩,λb o q n _=>?_,λb o q _=>?_,λb vs q=>?_,λb o v q=>?_,λb ps q=>?_⟩
  ·rw[aa (A n)];exact n
  ·by_cases z:b=d
   ·rw[z];exact⟨_,eo⟩
   ·exact⟨o,by rw[k b z];exact q⟩
  ·rw[aa (nx q λψ z=>by cases z)];exact q
  ·rw[aa (nx q λψ z=>by cases z)];exact q
  ·exact⟨#[],by rw[aa (nx q λψ z=>by cases z),q];simp⟩
 have aS:iz X.prog X.w (upd i d (.xd (fs++[(name,y)]))) p:=λa o e=>by
  by_cases z:a=d
  ·subst z;rw[a7]at e;cases e;refine⟨_,j,λf=>?_⟩;rw[xQ V]
   by_cases e:f=name
   ·rw[if_pos e,if_pos e];exact M
   ·rw[if_neg e,if_neg e];exact r f
  ·rw[aa z]at e;refine(g.aS a o e).nO (λb u l q=>?_) (λb q=>?_) λb vs q=>?_
   ·rw[k b ?_]
    ·exact q
    ·rintro rfl;rcases l with rfl |l
     ·exact z rfl
     ·rw[hd]at l;cases l
   ·rw[aa (λB=>by rw[B,hd]at q;cases q)];exact q
   ·rw[aa (λB=>by rw[B,hd]at q;cases q)];exact q
 exact g.tG (s':={E with heap:=p,toks:=tk}) rfl un aS g.bare λb z=>absurd z (by simp)
end
end L2
namespace Sx
open PySem L2 Bs
def Hd(v:V):Prop:=∃i:Int,v=.int i/\i.natAbs.log2 < 1920
inductive Ni(C:Addr)(n1 n2:Str)(eL Sg:V->Prop)(vs:List V)(H:Hp)(Q:VK)(eN:XK):Prop
 |mk (x u v) (_:vs=[.ref x,u,v]) (_:eL u) (_:Sg v) (_:H x=some (XN x C)) (_:∀d,H d=none->Q .non (upd (upd H d (.xd [(n1,u),(n2,v)])) x (XD x C d)))
end Sx
namespace Bs
open PySem L2 Sx
theorem eJ{a b:Str}{m n:Nat}(g:a.length<=m)(j:b.length<=n):(a++b).length<=m + n:=by
 rw[len_app];exact Nat.add_le_add g j
theorem zu{m j N:Nat}{many wide:Int}{g:Str}{l ss:List Str}(o:gk m many wide)(b:(j:Int)<=24)(c:bM g l ss N "" < many ^ j):(bM g l ss N "").natAbs.log2 < 1920:=by
 have f:0<=bM g l ss N "":=yV N "";obtain⟨k,e⟩:∃k:Nat,many=k:=⟨many.toNat,by have:=o.a;omega⟩;have d:k<=8:=by have:=o.b;omega
 rw[e,<-YX]at c;have h:k ^ j<=8 ^ 24:=VF (Nat.pow_le_pow_left d j) (wbD (by decide) (by omega))
 have i:(bM g l ss N "").natAbs < 2 ^ 72:=by
  grind
 have p:=Nat.log2_lt (n:=(bM g l ss N "").natAbs) (k:=72)
 by_cases z:(bM g l ss N "").natAbs=0
 ·rw[z];decide
 ·grind
end Bs
namespace L2
open PySem PySem.Spec PyProof.Rows Sx
section
variable{X:Cx}
end
end L2
namespace Bs
open PySem L2 Sx
noncomputable def Gn(ks:List Nat)(m:Nat)(qs:List (Str×Nat)):List (Str×Nat):=((dJ ks qs).take m).map λq=>(q.1,ks.idxOf q.2)
noncomputable def Go(lns:List (List (Str×Nat)))(ks:List Nat)(m:Nat):List (List (Str×Nat)):=ks.map λd=>Gn ks m (lns.getD d [])
noncomputable def KJ(wl:List (List (Str×Nat)))(s:Str×Nat)(t:Nat):Str×Nat:=(s.1++((wl.getD s.2 []).getD t ("",0)).1,((wl.getD s.2 []).getD t ("",0)).2)
noncomputable def He(wl:List (List (Str×Nat)))(d:Nat)(ts:List Nat):Str×Nat:=ts.foldl (KJ wl) ("",d)
structure Sh(many:Int)(n:Nat)(wl:List (List (Str×Nat))):Prop where
 ne:wl≠[]
 ln:∀l∈wl,(l.length:Int)=many
 e:∀l∈wl,∀q∈l,q.2 < wl.length
 wd:∀l∈wl,∀q∈l,q.1.length=n
theorem BR{wl:List (List (Str×Nat))}{d:Nat}(h:d < wl.length):wl[d]?=some (wl.getD d []):=by
 grind
end Bs
namespace Sx
open PySem L2 Bs
structure J5(bw:List Str)(M:Int):Prop where
 u:∀w∈bw,(w.length:Int)<=M
 a:M=0/\bw=[]\/∃w∈bw,(w.length:Int)=M
structure KL(bw:List Str)(n:Nat)(b:Nat):Prop where
 le:b<=1000
 is:∃M:Int,J5 bw M/\(b:Int)=((if 0 > M - 1 then 0 else M - 1) + (n:Int) - 1) / (n:Int)
end Sx
namespace Bs
open PySem L2 Sx
theorem Ej:∀{fs:List (Str×V)},n∉fs.map (·.1)->fs.lookup n=none:=by grind [Vz,Vw]
noncomputable def Nj(p b:Addr)(many wide:Int)(h l:Addr)(o:Str)(i:Int):List (Str×V):=[("scheme",.ref p),("band",.ref b),("many",.int many),("wide",.int wide),("homes",.ref h),("lines",.ref l),("opening",.str o),("first",.int i)]
section
variable(p b h l:Addr)(many wide i:Int)(o:Str)
end
structure nF(K:Vo)(C CP CS:Addr)(H:Hp)(x xb:Addr)(many:Int)(n:Nat)(m:List (Str×Int))(rx:List BK)(ks:List Nat)(hs:List Str)(ws:List Int)(lns:List (List (Str×Nat)))(b:Nat):Prop where
 ex:∃dx p a l,H x=some (.ins C dx (Nj p xb many (n:Int) a l (He (Go lns ks many.toNat) 0 (Yg b 0)).1 ((He (Go lns ks many.toNat) 0 (Yg b 0)).2:Int)))/\ot K CP CS H p m rx ks hs ws lns/\bG K H (qR (ks.map λd=>hs.getD d "")) (.ref a)/\bG K H (vt (Go lns ks many.toNat)) (.ref l)
theorem nF.same(h:nF K C j o H x r many n m g I hs ws lns b)(s:a9 H J):nF K C j o J x r many n m g I hs ws lns b:=by
 obtain⟨c,p,a,l,d,e,f,i⟩:=h;exact⟨c,p,a,l,s _ _ d,e.same s,bG.same s _ _ f,bG.same s _ _ i⟩
end Bs
namespace Sx
open PySem L2 Bs
end Sx
namespace Bs
open PySem L2 Sx
end Bs
namespace L2
open PySem PySem.Spec PyProof.Rows Sx
section
variable{X:Cx}{e:Expr}{es:List Expr}{te:TE}{t:TJ}{pos:Pos}
end
end L2
namespace Sx
open PySem L2 Bs
end Sx
namespace L2
open PySem PySem.Spec PyProof.Rows
section
variable{M:Model}{A:Around}{E:Value->Shared->Prop}{e C C1 CB:Addr}{nm q:Str}{N:Addr}{bs:List Value}{hdct:Bool}{sn:List Str}{sub:List Value}{ab:Bool}{col:Option Bool}{dd:Option Addr}{k0 k1 k2 k3 k5:Option Value}
 {B9 q':Str} {N':Addr} {UK:List Value} {Pq:Bool} {UL:List Str} {Si:List Value} {UM:Bool} {Sj:Option Bool} {UN:Option Addr} {UO UP UQ UR UT:Option Value}
end
section
variable{X:Cx}{CB C1 C2:Addr}{RZ UU x nm B9:Str}{body:List Stmt}{tb:GP}{i jj jk:Nat}{p1 p2 p3 p4 Ih q1 q2 q3 q4 Sl pos:Pos}
end
end L2
namespace Bs
open PySem L2 Sx
structure zv(K:Vo)(C CB CP CS:Addr)(H:Hp)(x:Addr)(g:Str)(bw:List Str)(many:Int)(n:Nat):Prop where
 ex:∃(xb:Addr) (ss ls:List Str) (f0 f:Str->Int) (rx:List BK) (ks:List Nat) (hs:List Str) (ws:List Int) (lns:List (List (Str×Nat))) (b:Nat),aV CB H xb g bw ss ls/\nF K C CP CS H x xb many n (bU f ls) rx ks hs ws lns b/\BM g bw ss many n/\vF g bw ss ls many n f0/\(∀p∈ls,f p<=f0 p)/\E8 g bw ss ls many n f rx ks hs ws lns/\Sh many n (Go lns ks many.toNat)/\KL bw n b
theorem zv.same(h:zv K C CB j l H x g o many n)(s:a9 H p):zv K C CB j l p x g o many n:=by
 obtain⟨d,e,ls,i,f,a,k,m,q,c,b,r,t,u⟩:=h;exact⟨d,e,ls,i,f,a,k,m,q,c,b,r.same s,t.same s,u⟩
end Bs
namespace Sx
open PySem L2 Bs
end Sx
namespace Bs
open PySem L2 Sx
noncomputable def free(c:Nat)(t:Str):Bool:=decide (c∉ch t)
noncomputable def lE(c:Nat)(p:Str):Int:=if free c p=true then 1 else 0
theorem rR(hw:∀w∈ws,c∈ch w)(h:free c t=true):bears ws t=false:=by
 have h:=of_decide_eq_true h;unfold bears;rw[wan];intro w a z;exact h (((A8 w t).mp z).subset (hw w a))
theorem uP(h:free c t=true):free c (lend ss t)=true:=by
 refine decide_eq_true λz=>of_decide_eq_true h ?_;unfold lend at z;rw[mx]at z;exact wbE z
theorem oz(h:free c t=true)(hd:d≠c):free c (t++⟨#[d]⟩)=true:=by
 refine decide_eq_true λz=>?_;rw[aC,VP]at z;rcases z with z |z
 ·exact of_decide_eq_true h z
 ·exact hd (VD.mp z).symm
noncomputable def dk(c:Nat)(qs:List (Str×Str)):Nat:=(qs.filter λq=>free c q.2).length
theorem BU(c:Nat)(a b:List (Str×Str)):dk c (a++b)=dk c a + dk c b:=by
 unfold dk;rw[WC,Vs]
theorem uQ{q:Str×Str}(hw:∀w∈ws,c∈ch w)(h:free c q.2=true):∀cs:List Nat,(cs.filter λd=>decide (d≠c)).length<=dk c (cs.filterMap λd=>if bears ws (q.2++⟨#[d]⟩)=true then none else some (q.1++(⟨#[d]⟩:Str),lend ss (q.2++(⟨#[d]⟩:Str))))
 |[]=>Vy 0
 |d :: cs=>by
  have a:=uQ hw h (ss:=ss) cs
  by_cases hd:d=c
  ·rw[Wh (by simp[hd])];refine VF a ?_;unfold dk;rw[Wq];split
   ·exact Vy _
   ·exact((List.sublist_cons_self _ _).filter _).length_le
  ·rw[W8 (by simp[hd]),Wq,rR hw (oz h hd),if_neg VJ];unfold dk at a ⊢;rw[W8 (by exact uP (oz h hd))];exact wcx a
theorem rS{g:Str}(hw:∀w∈ws,c∈ch w)(hn:(ch g).Nodup)(hc:c∈ch g):∀j:List (Str×Str),dk c j * (g.length - 1)<=dk c (cU g ws ss j)
 |[]=>by show 0 * _<=_;omega
 |q :: j=>by
  have i:=rS hw hn hc (ss:=ss) j;have e:cU g ws ss (q :: j)=eR g ws ss q++cU g ws ss j:=rfl;rw[e,BU]
  cases h:free c q.2 with
  |false=>
   have:dk c (q :: j)=dk c j:=by unfold dk;rw[Wh (by rw[h];exact VJ)]
   rw[this];omega
  |true=>
   have:dk c (q :: j)=dk c j + 1:=by unfold dk;rw[W8 (by exact h)];rfl
   rw[this,Nat.add_mul,Nat.one_mul];have a:=uQ (ss:=ss) hw h (ch g)
   have b:((ch g).filter λd=>decide (d≠c)).length=g.length - 1:=by
    have:=List.Nodup.erase_eq_filter hn c;rw[<-aE,<-waJ hc,this];congr 1
    exact YB λx _=>by
     by_cases z:x=c <;> simp[z]
   rw[b]at a;have f:eR g ws ss q=(ch g).filterMap λd=>if bears ws (q.2++⟨#[d]⟩)=true then none else some (q.1++(⟨#[d]⟩:Str),lend ss (q.2++(⟨#[d]⟩:Str))):=rfl
   rw[<-f]at a;omega
theorem uR{g:Str}(hw:∀w∈ws,c∈ch w)(hn:(ch g).Nodup)(hc:c∈ch g)(j:free c p=true):∀n,(g.length - 1) ^ n<=dk c (hF g ws ss p n)
 |0=>by
  have:dk c (hF g ws ss p 0)=1:=by unfold dk hF;rw[W8 (by exact j)];rfl
  rw[this];exact Vy 1
 |n + 1=>by
  rw[wc2];exact VF (Yb _ (uR hw hn hc j n)) (rS hw hn hc _)
theorem oA{g:Str}(l:yB ss (rowOf g ws ss) ls)(hw:∀w∈ws,c∈ch w)(o:("":Str)∈ss)(hd:d∈ch g)(j:d≠c)(r:p∈ss)(C:free c p=true):p∈ls:=by
 refine l.most (ss.filter λk=>free c k) (λk b=>?_) p (VR.mpr ⟨r,C⟩);obtain⟨e,f⟩:=VR.mp b;refine⟨e,?_⟩;rw[<-B6];refine Xm.mpr ⟨true,Vx.mpr ⟨d,hd,?_⟩,rfl⟩;have a:=oz f j;unfold pW;rw[rR hw a,if_neg VJ,gf];exact decide_eq_true (VR.mpr ⟨mz o _,uP a⟩)
theorem xR(c:Nat)(p:Str):0<=lE c p/\lE c p<=1:=by
 unfold lE;split <;> omega
theorem xS(c:Nat)(ls:List Str):∀g:List (Str×Str),(∀q∈g,free c q.2=true->q.2∈ls)->((dk c g:Nat):Int)<=((g.filter λq=>decide (q.2∈ls)).map λq=>lE c q.2).sum
 |[],_=>Xh 0
 |q :: g,h=>by
  have d:=xS c ls g λz f=>h z (Vw _ f);have hn:=(xR c q.2).1
  have e:dk c (q :: g)=dk c g + if free c q.2=true then 1 else 0:=by
   unfold dk
   cases a:free c q.2 with
   |false=>rw[Wh (by simp[a])];rfl
   |true=>rw[W8 (by exact a)];rfl
  rw[e]
  by_cases b:q.2∈ls
  ·rw[W8 (by exact decide_eq_true b),VL,Wu];have i:lE c q.2=if free c q.2=true then 1 else 0:=rfl
   rw[i];split <;> omega
  ·have a:¬free c q.2=true:=λz=>b (h q (Vz ..) z);rw[Wh (by simpa using b),if_neg a];exact d
theorem xT{g:Str}{n:Nat}{many:Int}(l:yB ss (rowOf g ws ss) ls)(hw:∀w∈ws,c∈ch w)(o:("":Str)∈ss)(hn:(ch g).Nodup)(hc:c∈ch g)(hd:d∈ch g)(j:d≠c)(r:many<=(((g.length - 1) ^ n:Nat):Int)):y2 g ws ss ls many n (lE c):=λp e=>by
 have a:=l.sub.subset e;unfold eu aF;have f:=xS c ls (hF g ws ss p n) λq h b=>oA l hw o hd j (qM o a n q h).1 b;refine Xz ?_ f;unfold lE;split
 ·rename_i b;have:=uR (ss:=ss) hw hn hc b n;omega
 ·omega
theorem rT{g:Str}{n:Nat}{many:Int}{f:Str->Int}(o:yB ss (rowOf g ws ss) ls)(hw:∀w∈ws,c∈ch w)(l:("":Str)∈ss)(hn:(ch g).Nodup)(hc:c∈ch g)(hd:d∈ch g)(j:d≠c)(C:many<=(((g.length - 1) ^ n:Nat):Int))(r:ez g ws ss ls many n 1 f):("":Str)∈ls/\f ""=1:=by
 have b:free c ("":Str)=true:=decide_eq_true (by show c∉ch "";exact λz=>nomatch z);have a:=oA o hw l hd j l b;have e:=r.top (lE c) (λp _=>(xR c p).2) (xT o hw l hn hc hd j C) _ a;have h:=r.le _ a;have i:lE c ""=1:=if_pos b;exact⟨a,by omega⟩
theorem xU{g:Str}{n:Nat}{many most:Int}(j:2<=many)(l:0<=most):∃f,ez g ws ss ls many n most f:=by
 have key:∀(k:Nat) (h:Str->Int),(ls.map λp=>(h p).toNat).sum<=k->(∀p∈ls,0<=h p)->(∀p∈ls,h p<=most)->(∀c:Str->Int,(∀p∈ls,c p<=most)->y2 g ws ss ls many n c->∀p∈ls,c p<=h p)->∃f,ez g ws ss ls many n most f:=by
  intro k
  induction k with
  |zero=>
   intro h i hn hl d
   by_cases e:∀p∈ls,ie g ws ss ls many n h p=h p
   ·exact⟨h,hn,hl,vr j e,d⟩
   ·have:=yZ j hn e;omega
  |succ k m=>
   intro h i hn hl d
   by_cases e:∀p∈ls,ie g ws ss ls many n h p=h p
   ·exact⟨h,hn,hl,vr j e,d⟩
   ·have:=yZ j hn e;exact m (ie g ws ss ls many n h) (by omega) (yY j hn) (λp o=>Xz (yX many n h p) (hl p o)) λc a b=>uj j b (d c a b)
 exact key _ (λ_=>most) (Vy _) (λ_ _=>l) (λ_ _=>Xh _) λc a _=>a
theorem Gp{ls:List Str}{f:Str->Int}(g:∀p∈ls,0<=f p)(j:p∈ls):f p<=(ls.map f).sum:=by
 induction ls with
 |nil=>exact nomatch j
 |cons x l b=>
  rw[VL,Wu];have c:=g x (Vz ..);have hn:0<=(l.map f).sum:=o8 λq a=>g q (Vw _ a);rcases W3.mp j with z |z
  ·rw[z];omega
  ·have:=b (λq a=>g q (Vw _ a)) z;omega
theorem Ek{ls:List Str}{f:Str->Int}(h:∀p∈ls,f p<=1):(ls.map f).sum<=ls.length:=by
 induction ls with
 |nil=>exact Xh 0
 |cons x l a=>
  rw[VL,Wu,Wa];have:=h x (Vz ..);have:=a λq b=>h q (Vw _ b);omega
section
variable{g:Str}{n:Nat}{many:Int}
theorem BV(o:yB ss (rowOf g ws ss) ls)(C:ss.Perm (bW ws "" ws))(hw:∀w∈ws,c∈ch w)(r:("":Str)∈ss)(hn:(ch g).Nodup)(hc:c∈ch g)(hd:d∈ch g)(l:d≠c)(J:2<=many)(I:many<=(((g.length - 1) ^ n:Nat):Int)):BM g ws ss many n:=λj _ _ z=>by
 have a:free c ("":Str)=true:=decide_eq_true (by show c∉ch "";exact λz=>nomatch z);have b:=oA o hw r hd l r a;have e:=sS C (λw h=>by have:=Yz (hw w h);rwa[aE]at this) (λp h=>o.sub.subset h) (by omega) (xT o hw r hn hc hd l I) z _ b;have f:lE c ""=1:=if_pos a;omega
theorem zx(l:yB ss (rowOf g ws ss) ls)(hw:∀w∈ws,c∈ch w)(o:("":Str)∈ss)(hn:(ch g).Nodup)(hc:c∈ch g)(hd:d∈ch g)(j:d≠c)(p:2<=many)(r:many<=(((g.length - 1) ^ n:Nat):Int))(hl:ls.length<=40):¬vG g ws ss ls many n:=by
 rintro⟨most,q,s,h,i⟩;obtain⟨f,a⟩:=xU (g:=g) (ws:=ws) (ss:=ss) (ls:=ls) (n:=n) (most:=1) p (by omega);obtain⟨k,t⟩:=rT l hw o hn hc hd j r a;have u:=Gp a.nn k
 by_cases e:most=1
 ·subst e;rcases i with z |⟨v,b,m⟩
  ·omega
  ·have:=Ek b.le;omega
 ·have:=h 1 f (by omega) (by omega) a;omega
end
end Bs
namespace K35
open PySem L2 Bs Sx
section
variable{P:VO}{w:World}{K:Vo}{mg:Str->Option Value}{base:Heap}
inductive Gq(vs:List V)(H:Hp)(Q:VK)(eN:XK):Prop
 |mk (c g) (_:vs=[.int c,.str g]) (_:3<=g.length) (_:g.length<=4) (_:∀(p:Addr) (many:Int) (n:Nat) (H':Hp),a9 H H'->H p=none->H' p=some (.tup [.int many,.int (n:Int)])->gk g.length many (n:Int)->many<=(((g.length - 1) ^ n:Nat):Int)->Q (.ref p) H')
theorem BW{m w:Nat}(g:3<=m)(j:m<=4)(l:1<=w)(o:w<=3):2<=(m - 1) ^ w/\(m - 1) ^ w<=27/\(m:Int) ^ w<=64:=by
 have a:m=3\/m=4:=by omega
 have hw:w=1\/w=2\/w=3:=by omega
 rcases a with rfl |rfl <;> rcases hw with rfl |rfl |rfl <;> decide
theorem nG(L:Lk K mg):aK P w K mg base dn 2 L.iq L.ir ["_law_cell","_law_signs_here"] Gq:=by
 have T:=L.T;refine L.f9.F.eL (N:=["_law_cell","_law_signs_here","_law_wide","_law_rows","_law_step"]) (λr A outer s H y Q E nd B h=>?_);obtain⟨c,g,rfl,a,b,k⟩:=h
 refine⟨_,(a6 (aj (i:=2) (aI d2 ag (ai (b7 L) L.aY (a5 (pv 0) (a5 ag (a5 ag a8))))))
  (a6 (aj (i:=3) ag)
  (a6 (b9 VS rfl (cL rfl T.range (a5 (pv 2) a8)) (az (i:=4)) (af (aj (i:=3) (aI fD (pv 3) (aI uW (ax bO (by rfl) T.len We (a5 (pv 1) a8)) ag)))))
  (af (aw (cB (a5 (aI d2 ag (ai (b7 L) L.aY (a5 (pv 0) (a5 ag (a5 (ax (tI rfl) (by rfl) T.min Ik (a5 ag (a5 (aI uW (pv 3) ag) a8))) a8))))) (a5 (pv 2) a8)))))))),?_⟩
 refine⟨_,rfl,c,14,3,rfl,by decide,by decide,by decide,λd C D=>⟨_,_,rfl,rfl,?_⟩⟩;obtain⟨wd,e,f,j⟩:∃w:Nat,(1:Int) + d=(w:Int)/\1<=w/\w<=3:=⟨(1 + d).toNat,by omega,by omega,by omega⟩;show dv 2 (V.int (1 + d)) _ _ _;rw[e];obtain⟨G,t,l⟩:=BW a b f j;refine⟨_,rfl,(wd:Int),rfl,by omega,by omega,d9 (lo:=0) (n:=wd) (λi σ m=>m=H/\∃v4,σ=[some (.int c),some (.str g),some (.int (wd:Int)),some (.int (((g.length - 1) ^ i:Nat):Int)),v4]) ⟨rfl,none,rfl⟩ ?_ ?_⟩
 ·rintro i σ m hi ⟨o,v4,rfl⟩;rw[o];refine⟨_,rfl,_,rfl,g,rfl,av (by omega),_,_,rfl,rfl,_,_,rfl,rfl,.inr ⟨by omega,by omega⟩,rfl,some (.int (0 + (i:Int))),?_⟩;rw[wc2];have u:(((g.length - 1) ^ i * (g.length - 1):Nat):Int)=(((g.length - 1) ^ i:Nat):Int) * ((g.length:Int) - 1):=by rw[ZU];congr 1;omega
  rw[u];rfl
 rintro σ m ⟨o,v4,rfl⟩;rw[o];refine⟨_,rfl,_,rfl,_,_,rfl,rfl,_,_,rfl,?_⟩
 obtain⟨z,v,I,J,M⟩:∃z:Int,(if (((g.length - 1) ^ wd:Nat):Int) - 1 < 7 then(((g.length - 1) ^ wd:Nat):Int) - 1 else 7)=z/\1<=z/\z<=7/\z + 1<=(((g.length - 1) ^ wd:Nat):Int):=by
  refine⟨_,rfl,?_⟩;split <;> omega
 show D3 [.int c,.int 15,.int (if (((g.length - 1) ^ wd:Nat):Int) - 1 < 7 then(((g.length - 1) ^ wd:Nat):Int) - 1 else 7)] _ _ _;rw[v];refine⟨c,15,z,rfl,by decide,by decide,by omega,λx O g1=>⟨_,_,rfl,rfl,_,rfl,by show 2<=sizeLine;decide,λp q=>?_⟩⟩;exact k p (2 + x) wd _ (a9.upd q) q a7 ⟨by omega,by omega,by omega,by omega,by rw[W2];exact l⟩ (by omega)
inductive Gr(K:Vo)(vs:List V)(H:Hp)(Q:VK)(eN:XK):Prop
 |mk (a:Addr) (ns:List Int) (p:Int) (g:Str) (_:vs=[.ref a,.int p,.str g]) (_:aN K H a (ns.map V.int)) (_:2<=g.length) (_:g.length<=4) (_:∀(l:Addr) (ws:List Str) (H':Hp),a9 H H'->H l=none->H' l=some (.lst (ws.map V.str))->ws.length<=3->(∀w∈ws,qA g w/\(ch g).getD 0 0∈ch w)->Q (.ref l) H')
theorem El{g w:Str}{j c:Nat}(h:qA g w)(l:j < w.length)(hc:c∈ch g):qA g ((Wo w none (some (j:Int))++⟨#[c]⟩)++Wo w (some ((j:Int) + 1)) none)/\c∈ch ((Wo w none (some (j:Int))++⟨#[c]⟩)++Wo w (some ((j:Int) + 1)) none):=by
 have e:ch ((Wo w none (some (j:Int))++⟨#[c]⟩)++Wo w (some ((j:Int) + 1)) none)=((ch w).take j++[c])++(ch w).drop (j + 1):=by
  rw[aC,aC,qw];exact congrArg (_++·) (lO w (j + 1))
 have hl:=aE w;refine⟨⟨?_,?_,λd hd=>?_⟩,?_⟩
 ·rw[<-aE,e,Vs,Vs,VQ,XM,X8];omega
 ·have:=h.hi;rw[<-aE,e,Vs,Vs,VQ,XM,X8];omega
 ·rw[e]at hd;rcases VP.mp hd with z |z
  ·rcases VP.mp z with z |z
   ·exact h.sub d (ZV z)
   ·rw[VD.mp z];exact hc
  ·exact h.sub d (wbE z)
 ·rw[e];exact WN _ (Wd _ (VD.mpr rfl))
theorem m6(L:Lk K mg):aK P w K mg base dn 2 L.gQ L.gR ["_law_script","_law_at","_law_signs_here"] (Gr K):=by
 have T:=L.T;refine L.eG.F.eL (N:=["_law_script","_law_at","_law_signs_here","_law_words","_law_k","_law_cell","_law_size","_law_word","_law_place"]) (λgd A outer s H vs Q E nd hr h=>?_);obtain⟨a,ns,p,g,rfl,hS,BX,Sn,k⟩:=h
 refine⟨_,(a6 (aj (i:=3) (cC a8))
  (a6 (b9 VS rfl (cL rfl T.range (a5 (aI d2 ag (ai (b7 L) L.aY (a5 (ai (gT L) L.f7 (a5 (pv 0) (a5 (pv 1) a8))) (a5 ag (a5 ag a8))))) a8)) (az (i:=4)) (a6 (aj (i:=5) (ai (gT L) L.f7 (a5 (pv 0) (a5 (aI d2 (pv 1) (pv 4)) a8))))
  (a6 (aj (i:=6) (aI d2 ag (ai (b7 L) L.aY (a5 (pv 5) (a5 ag (a5 ag a8))))))
  (a6 (aj (i:=7) (jf Zj ZC ZD vh cw (a5 (cT rfl (au ["_law_signs_here","_law_cell"] [2,5]) (cL rfl T.range (a5 (pv 6) a8)) (λ_ _ _ _ _ _=>bI) (λ_ _ _ _ _ _=>(bV yg (pv 1) (ai (b7 L) L.aY (a5 (pv 2) (a5 (aI d2 ag (pv 0)) (a5 (ax bO (by rfl) T.len We (a5 (pv 1) a8)) a8)))) (λ_ _=>rfl)))) a8)))
  (a6 (aj (i:=8) (ai (b7 L) L.aY (a5 (pv 5) (a5 ag (a5 (pv 6) a8)))))
  (af (bH (jf Wv WD WR df (pv 3) (a5 (aI g8 (aI g8 (dA nU (pv 7) iI (da (pv 8))) (bV yg (pv 2) ag (λ_ _=>rfl))) (dA nU (pv 7) (da (aI d2 (pv 8) ag)) iI)) a8)))))))))
  (af (aw (pv 3))))),?_⟩
 refine⟨Wb _,λl hl=>?_⟩;have s0:a9 H (upd H l (.lst [])):=a9.upd hl;refine⟨_,rfl,_,rfl,a,ns,p,rfl,s0.seq hS,λc1 H1 s1=>?_⟩;refine⟨c1,4,3,rfl,by decide,by decide,by decide,λd1 g0 g1=>⟨_,_,rfl,rfl,?_⟩⟩
 refine⟨1 + d1,rfl,by omega,by omega,d9 (lo:=0) (n:=(1 + d1).toNat) (λi σ D=>∃(m:List Str) (v4 O v6 R S:Option V),σ=[some (.ref a),some (.int p),some (.str g),some (.ref l),v4,O,v6,R,S]/\a9 H D/\D l=some (.lst (m.map V.str))/\m.length=i/\∀w∈m,qA g w/\(ch g).getD 0 0∈ch w)
  ⟨[],none,none,none,none,none,rfl,s0.trans s1,s1 _ _ a7,rfl,(λw h=>nomatch h)⟩ ?_ ?_⟩
 ·rintro i σ D hi ⟨m,v4,O,v6,R,S,rfl,M,U,G,r⟩;refine⟨_,rfl,_,rfl,_,rfl,_,_,rfl,rfl,a,ns,_,rfl,M.seq hS,λv H4 s4=>?_⟩;have h4:=s4 _ _ U;refine⟨_,rfl,v,5,5,rfl,by decide,by decide,by decide,λW a0 a1=>⟨_,_,rfl,rfl,?_⟩⟩;show dv 6 (V.int (1 + W)) _ _ _;obtain⟨sz,X,z1,z5⟩:∃sz:Nat,(1:Int) + W=(sz:Int)/\1<=sz/\sz<=5:=⟨(1 + W).toNat,by omega,by omega,by omega⟩;rw[X];refine⟨rfl,_,rfl,(sz:Int),rfl,by omega,by omega,λlc Y=>?_⟩;rw[W2];refine D4 (λy=>∃t,y=.str t/\∃v,t=⟨#[v]⟩/\v∈ch g) (iN 0 sz) Y (by rw[Vn,Wf];exact av (by omega)) (λ_ _=>trivial) (λx H5 Q' hx Z q=>?_) (λys H5 Z c hR h5=>?_)
  ·obtain⟨j,hj,rfl⟩:=Vx.mp hx;have UW:j < sz:=Wt.mp hj;refine⟨_,rfl,_,rfl,_,rfl,_,_,rfl,rfl,_,rfl,g,rfl,av (by omega),v,6 + (0 + (j:Int)),g.length,rfl,by omega,by omega,by omega,λB h0 h1=>?_⟩;have hd:B.toNat < (ch g).length:=by rw[aE];omega
   have e1:(ch g)[B.toNat]?=some (ch g)[B.toNat]:=by simp[hd]
   have e2:=cb e1;rw[show ((B.toNat:Nat):Int)=B by omega]at e2;exact⟨g,B,_,rfl,rfl,av (by omega),e2,q _ H5 ⟨_,rfl,_,rfl,Wg hd⟩ (a9.refl _)⟩
  obtain⟨C,rfl,d⟩:=A3 hR;rw[Vn,Vn,Wf]at c;have f:=mC d;have I:=xc (z:="") (by decide+kernel) d;refine⟨_,lc,C,rfl,rfl,aN.of h5,?_,?_⟩
  ·rw[f];show C.length + C.length * 0<=16777216;omega
  have u:qA g (YQ "" C):=AR (by decide+kernel) (by omega) (by omega) d;have Sq:(YQ "" C).length=sz:=by rw[I,c]
  generalize YQ "" C=wd at u Sq;clear f I d c hR;have h6:=Z _ _ h4;have s6:=(M.trans s4).trans Z;have UX:=u.hi;refine⟨_,rfl,_,rfl,v,12,(sz:Int),rfl,by decide,by decide,by omega,λd3 b0 b1=>?_⟩;obtain⟨j,rfl⟩:∃j:Nat,d3=(j:Int):=⟨d3.toNat,by omega⟩;have J:(ch g)[0]?=some ((ch g).getD 0 0):=by rw[Vq,Vp (by rw[aE];omega)];rfl
  have Sr:(ch g).getD 0 0∈ch g:=VN J;obtain⟨w1,w2⟩:=El u (show j < wd.length by omega) Sr;have l1:=YD wd none (some (j:Int));have l2:=YD wd (some ((j:Int) + 1)) none;refine⟨_,rfl,.inl ⟨rfl,_,aN.of h6⟩,_,rfl,_,rfl,_,rfl,wd,rfl,av (by omega),_,rfl,g,0,_,rfl,rfl,av (by omega),cb J,_,_,rfl,rfl,av (by show _ + 1<=_;omega),_,rfl,_,rfl,_,_,rfl,rfl,_,rfl,wd,rfl,av (by omega),_,_,rfl,rfl,av (by have:=len_app (Wo wd none (some (j:Int))) ⟨#[(ch g).getD 0 0]⟩;have e1:(⟨#[(ch g).getD 0 0]⟩:Str).length=1:=rfl;omega),l,_,_,rfl,rfl,h6,by rw[Vn];exact bx (by omega),?_⟩;refine⟨m++[(Wo wd none (some (j:Int))++⟨#[(ch g).getD 0 0]⟩)++Wo wd (some ((j:Int) + 1)) none],_,_,_,_,_,rfl,λb o e=>?_,?_,by simp[G],λw hw=>?_⟩
  ·rw[aa (ae e hl)];exact s6 _ _ e
  ·rw[a7,VE];rfl
  ·rcases VP.mp hw with z |z
   ·exact r w z
   ·rw[VD.mp z];exact⟨w1,w2⟩
 ·rintro σ D ⟨m,v4,O,v6,R,S,rfl,M,U,G,r⟩;exact⟨_,rfl,k l m D M hl U (by omega) r⟩
end
end K35
namespace Bs
open PySem L2 AC Sx
noncomputable def pC(m:Nat):V->V->Bool
 |.int many,.int wide=>decide (2<=many/\many<=8/\1<=wide/\wide<=6/\(m:Int) ^ wide.toNat<=64)
 |_,_=>false
end Bs
namespace Sx
open PySem L2 Bs
structure KM(C:Addr)(x:Addr)(v u:V)(H:Hp):Prop where
 ex:∃(g:Str) (ws ss ls:List Str),aV C H x g ws ss ls/\1<=g.length/\g.length<=10/\Thing H v/\Thing H u/\pC g.length v u=false
def Pt(C CR:Addr)(x:Addr)(v u:V)(H:Hp)(E:XK):Prop:=KM C x v u H/\∀H',a9 H H'->E (.ref CR) none H'
def BZ(C:Addr):Sp:=λvs H Q E=>qI C vs H Q E\/∃(x:Addr) (v u:V),vs=[.ref x,v,u]/\KM C x v u H/\Q (.bl false) H
def Em(C CR:Addr):Sp:=λvs H Q E=>qI C vs H Q E\/∃(x:Addr) (v u:V),vs=[.ref x,v,u]/\Pt C CR x v u H E
set_option genInjectivity true in
inductive lF(H:Hp)(big:Bool):Nat->V->Prop where
 |a0:lF H big 0 (.bl true)
 |a1:lF H big 1 (.bl true)
 |a2 {d:Addr} (h:H d=some (.dK (aZ [("",if big=true then 3 else 0)]))):lF H big 2 (.ref d)
 |a3:lF H big 3 (if big=true then .non else .int 1)
theorem lF.keep{H g:Hp}{big:Bool}{i:Nat}{y:V}{l:Addr}{ys:List V}(h:lF H big i y)(hl:H l=some (.lst ys))(kp:∀b o,H b=some o->b≠l->g b=some o):lF g big i y:=by
 cases h with
 |a0=>exact .a0
 |a1=>exact .a1
 |a2 h=>exact .a2 (kp _ _ h λz=>by rw[z,hl]at h;cases h)
 |a3=>exact .a3
theorem lF.same{H g:Hp}{big:Bool}{i:Nat}{y:V}(h:lF H big i y)(s:a9 H g):lF g big i y:=by
 cases h with
 |a0=>exact .a0
 |a1=>exact .a1
 |a2 h=>exact .a2 (s _ _ h)
 |a3=>exact .a3
end Sx
namespace Bs
open PySem L2 AC Sx
end Bs
namespace K35
open PySem L2 Bs Sx
section
variable{P:VO}{w:World}{K:Vo}{mg:Str->Option Value}{base:Heap}
def iw:List (V×V)->TA
 |[]=>F4
 |p :: ps=>zR (JQ (zR (tC p.1) (zR (tC p.2) F4))) (iw ps)
theorem KN{X:Cx}{ps:List (V×V)}{g:List Expr}(h:PA X g (iw ps)):PA X (.Tuple [.Constant (.int i) l o,.Constant (.int j) p r] C pt :: g) (iw ((.int i,.int j) :: ps)):=a5 (cB (a5 ag (a5 ag a8))) h
theorem KO{X:Cx}{ps:List (V×V)}{g:List Expr}(h:PA X g (iw ps)):PA X (.Tuple [.Constant (.bool i) l o,.Constant (.int j) p r] C pt :: g) (iw ((.bl i,.int j) :: ps)):=a5 (cB (a5 dM (a5 ag a8))) h
theorem KP{X:Cx}{ps:List (V×V)}{g:List Expr}(h:PA X g (iw ps)):PA X (.Tuple [.Constant (.str i) l o,.Constant (.int j) p r] C pt :: g) (iw ((.str i,.int j) :: ps)):=a5 (cB (a5 cw (a5 ag a8))) h
theorem KQ{X:Cx}{ps:List (V×V)}{g:List Expr}(h:PA X g (iw ps)):PA X (.Tuple [.Constant (.none) l o,.Constant (.int j) p r] C pt :: g) (iw ((.non,.int j) :: ps)):=a5 (cB (a5 gX (a5 ag a8))) h
def kr(G:Hp)(ps:List (V×V))(qs:List V):Prop:=∀(i:Nat) p,ps[i]?=some p->∃q,qs[i]?=some (.ref q)/\G q=some (.tup [p.1,p.2])
theorem vO{σ:St}:∀{ps:List (V×V)} {H Q},(∀g j,a9 H g->j.length=ps.length->kr g ps j->Q j g)->iw ps σ H Q
 |[],H,_,k=>k H [] (a9.refl _) rfl λ_ _ h=>nomatch h
 |_ :: _,_,_,k=>⟨(by show 2<=sizeLine;decide),λq f=>vO λg j s e a=>k g (.ref q :: j) ((a9.upd f).trans s) (congrArg (· + 1) e) λ
  |0,_,h=>⟨q,rfl,by cases h;exact s _ _ a7⟩
  |i + 1,p,h=>a i p h⟩
theorem kr.same(h:kr G ps g)(s:a9 G j):kr j ps g:=λi p e=>let ⟨q,a,b⟩:=h i p e;⟨q,a,s _ _ b⟩
theorem kr.app{ps g:List (V×V)}(h:kr G ps l)(o:kr G g j)(hl:l.length=ps.length):kr G (ps++g) (l++j):=λi p e=>by
 by_cases z:i < ps.length
 ·rw[VZ z]at e;rw[VZ (by omega)];exact h i p e
 ·rw[VY (by omega)]at e;rw[VY (by omega),hl];exact o _ p e
theorem En{X:Cx}{x:Str}{i:Nat}{g:List Expr}{ps:List (V×V)}{rest:List Stmt}{b:TS}{j l o:Pos}(p:X.N.Nodup)(hi:X.N[i]?=some x)(r:Loc X.env.scope x)(C:∀X,PA X g (iw ps))(I:uU X rest b)
 (hs:Xo (.List g l) (some (.Name x j)) o.line X.env=pure false:=by rfl) (J:X.fn x=true\/X.env.scope.names.lookup x=some .local:=by first |exact .inl rfl |exact .inr rfl |assumption) :
 uU X (.Assign [.Name x j] (.List g l) o :: rest) (Hw (EW (JR (iw ps)) (dv i)) b):=a6 (iF (i:=i) p hi r (cC (C _)) hs J) I
noncomputable def Nk:List (V×V):=[(.int 1,.int 2),(.int 9,.int 2),(.int 2,.int 0),(.int 2,.int 4),(.int 0,.int 1),(.int 3,.int 7),(.bl true,.int 2),(.str "2",.int 1),(.non,.int 1)]
noncomputable def J6:List (V×V):=[(.int 2,.bl true),(.int 2,.str "1"),(.int 2,.non)]
theorem J7:∀p∈Nk++J6,cg p.1=true/\cg p.2=true/\pC 3 p.1 p.2=false/\pC 4 p.1 p.2=false:=by decide+kernel
inductive C0(vs:List V)(H:Hp)(Q:VK)(eN:XK):Prop
 |mk (c) (_:vs=[.int c]) (_:∀(p:Addr) (v u:V) (H':Hp),a9 H H'->H' p=some (.tup [v,u])->cg v=true->cg u=true->pC 3 v u=false->pC 4 v u=false->Q (.ref p) H')
theorem pL(L:Lk K mg):aK P w K mg base dn 2 L.kh L.ki ["_law_cell"] C0:=by
 refine L.gC.F.eL (N:=["_law_cell","_law_some"]) (λM A outer s H vs Q E nd hr h=>?_);obtain⟨c,rfl,k⟩:=h
 obtain⟨n,l,p,r,O,t,u⟩:∃(n:Pos) (l:List Expr) (p r:Pos),bA (top 74)=.Assign [.Name "_law_some" n] (.List l p) r :: (bA (top 74)).tail/\(∀X,PA X l (iw Nk))/\∀env,Xo (.List l p) (some (.Name "_law_some" n)) r.line env=pure false:=⟨_,_,_,_,rfl,λ_=>by
  iterate 6 refine KN ?_
  exact KO (KP (KQ a8)),λ_=>rfl⟩
 rw[O];refine⟨_,(En (i:=1) nd rfl (Y6 rfl) t (af (aw (bV cD (aI yk (pv 1) (cC (a5 (cB (a5 ag (a5 dM a8))) (a5 (cB (a5 ag (a5 cw a8))) (a5 (cB (a5 ag (a5 gX a8))) a8))))) (ai (b7 L) L.aY (a5 (pv 0) (a5 ag (a5 ag a8)))) (λ_ _=>rfl)))) (u _)),?_⟩;refine vO λD v R hl S=>⟨hl ▸ (by show 9<=sizeLine;decide),λx f1=>?_⟩;have y:=a9.upd (o:=.lst v) f1;have G:=a7 (H:=D) (a:=x) (o:=.lst v);generalize upd D x _=G2 at y G;refine⟨_,rfl,?_⟩;refine vO (ps:=J6) λI f z g B=>⟨g ▸ (by show 3<=sizeLine;decide),λC f2=>?_⟩;have e:=a9.upd (o:=.lst f) f2;have j:=a7 (H:=I) (a:=C) (o:=.lst f);generalize upd I C _=G4 at e j;have T:=((S.same y).same (z.trans e)).app (B.same e) hl;refine⟨x,C,_,_,rfl,rfl,e _ _ (z _ _ G),j,by rw[hl,g];show 12<=sizeLine;decide,λU V=>?_⟩;refine⟨_,rfl,c,16,12,rfl,by decide,by decide,by decide,λd W h1=>?_⟩;have hd:d.toNat < (Nk++J6).length:=by show d.toNat < 12;omega
 have Y:=Vp hd;obtain⟨a,b,Z,r4⟩:=J7 _ (Wg hd);obtain⟨q,m,hm⟩:=T _ _ Y;have m:=cb m;rw[Int.toNat_of_nonneg W]at m;have J:=a9.upd (o:=.lst (v++f)) V;refine⟨U,_,d,_,rfl,rfl,aN.of a7,m,?_⟩;exact k q _ _ _ (((R.trans y).trans (z.trans e)).trans J) (J _ _ hm) a b Z r4
theorem nH(L:Lk K mg):aK P w K mg base dn 1 L.pk L.pq ["text","signs"] Fm:=by
 have T:=L.T;refine L.gN.F.eL (N:=["text","signs"]) (λf A outer s H n Q E nd o h=>?_);obtain⟨a,b,rfl,hl,k⟩:=h;refine⟨_,(af (aw (ax (wJ rfl) (by rfl) T.all K9 (a5 (cT rfl (au ["signs"] [1]) (qm (pv 0)) (λ_ _ _ _ _ _=>bI) (λ_ _ _ _ _ _=>(fj tH (pv 0) (pv 1) rfl))) a8)))),?_⟩;refine⟨_,rfl,a,rfl,λl e=>comp_map (Lz b) (jI a) e (by unfold cQ;rw[Vn];exact av (VF (ZK (aE a)) (by omega))) (λ_ _=>trivial) (λx g p i _ q=>?_) (λj m d=>?_)⟩
 ·obtain⟨c,_,rfl⟩:=Vx.mp i;exact⟨_,rfl,_,rfl,_,_,rfl,rfl,q g (a9.refl _)⟩
 ·rw[AV]at d;refine⟨l,_,rfl,aN.of d,?_⟩;have:=k j m;rw[waF];exact this
theorem ju(L:Lk K mg):aK P w K mg base dn 1 L.ke L.kg ["row","barred"] (Fn K):=by
 have T:=L.T;refine L.eF.F.eL (N:=["row","barred"]) (λi A outer s H o Q E nd p h=>?_);obtain⟨r,a,j,rfl,f,hl,k⟩:=h;refine⟨_,(af (aw (ax (wI rfl) (by rfl) T.any Ka (a5 (cT rfl (au ["row"] [0]) (aM (pv 1)) (λ_ _ _ _ _ _=>bI) (λ_ _ _ _ _ _=>(fj tH (pv 0) (pv 1) rfl))) a8)))),?_⟩;refine⟨_,rfl,a,rfl,⟨_,f⟩,λl d=>comp_map (Lz r) (aO K a (j.map V.str)) d (by rw[Vn];exact av (by omega)) (λg e=>e.seq f) (λx m t n _ q=>?_) (λg e b=>?_)⟩
 ·obtain⟨c,_,rfl⟩:=Vx.mp n;exact⟨_,rfl,_,rfl,_,_,rfl,rfl,q m (a9.refl _)⟩
 ·rw[CV]at b;refine⟨l,_,rfl,aN.of b,?_⟩;have:=k g e;rw[ZP];exact this
theorem vP(L:Lk K mg):aK P w K mg base dn 2 L.pw L.pz ["thing"] Kb:=by
 have T:=L.T;refine L.k9.F.eL (N:=["thing"]) (λd A outer s H l Q E nd m h=>?_);obtain⟨x,rfl,S,k⟩:=h;have a:x.length<=sizeLine:=av (by have:=S.hi;omega);obtain⟨f,b⟩:=L.known
 refine⟨_,(a6 (bE (PW.pt (g7 (cY (ck (ax dN (by rfl) T.Gj vo (a5 (pv 0) (a5 (kz (v:=.ty "str") (by rfl) T.str Fl rfl) a8))))) (g7 (aA je (ax bO (by rfl) T.len We (a5 (pv 0) a8)) ag (aL _)) (iD (aA jE (ax bO (by rfl) T.len We (a5 (pv 0) a8)) ag (aL _)))))) (af (aw dM)) aJ)
  (af (aw (nP (fj qf (ax wM (by rfl) T.len We (a5 (bu (wL rfl) (by rfl) T.set MJ (a5 (pv 0) a8)) a8)) (ax bO (by rfl) T.len We (a5 (pv 0) a8)) (aL _)) (qb (ai (nH L) L.gN (a5 (pv 0) (a5 (iC (v:=.str dj) (by rfl) b ⟨f,rfl⟩) a8)))))))),?_⟩
 refine⟨_,rfl,_,_,_,true,rfl,dG.str x,rfl,true,rfl,?_⟩;refine bB ?_;refine⟨_,rfl,x,rfl,a,_,_,rfl,rfl,_,rfl,?_⟩;refine CU (by have:=S.lo;simp;omega) ?_;refine⟨_,rfl,x,rfl,a,_,_,rfl,rfl,_,rfl,?_⟩;refine CU (by have:=S.hi;simp;omega) ?_;refine⟨_,rfl,x,rfl,?_,λp g=>?_⟩
 ·have:=S.hi;show x.length + 1 < Z3;unfold Z3;omega
 refine⟨p,_,rfl,a7,_,rfl,x,rfl,a,rfl,?_⟩;refine⟨_,rfl,?_⟩;refine MI (by rw[wN S.nd];simp) ?_;refine⟨_,rfl,x,dj,rfl,by have:=S.hi;omega,λi j=>?_⟩;have e:((ch x).all λc=>decide (c∈ch dj))=true:=Wj.mpr λc hc=>decide_eq_true (S.sub c hc);rw[e];exact k i ((a9.upd g).trans j)
theorem zy(L:Lk K mg):aK P w K mg base dn 2 L.uK L.uL ["thing","signs"] Kc:=by
 have T:=L.T;refine L.oy.F.eL (N:=["thing","signs"]) (λb A outer s H i Q E nd j h=>?_);obtain⟨x,g,rfl,S,k⟩:=h;have a:x.length<=sizeLine:=av (by have:=S.hi;omega)
 refine⟨_,(a6 (bE (PW.pt (g7 (cY (ck (ax dN (by rfl) T.Gj vo (a5 (pv 0) (a5 (kz (v:=.ty "str") (by rfl) T.str Fl rfl) a8))))) (g7 (aA je (ax bO (by rfl) T.len We (a5 (pv 0) a8)) ag (aL _)) (iD (aA jE (ax bO (by rfl) T.len We (a5 (pv 0) a8)) ag (aL _)))))) (af (aw dM)) aJ)
  (af (aw (ai (nH L) L.gN (a5 (pv 0) (a5 (pv 1) a8)))))),?_⟩
 refine⟨_,rfl,_,_,_,true,rfl,dG.str x,rfl,true,rfl,?_⟩;refine bB ?_;refine⟨_,rfl,x,rfl,a,_,_,rfl,rfl,_,rfl,?_⟩;refine CU (by have:=S.lo;simp;omega) ?_;refine⟨_,rfl,x,rfl,a,_,_,rfl,rfl,_,rfl,?_⟩;refine CU (by have:=S.hi;simp;omega) ?_;refine⟨_,rfl,_,rfl,x,g,rfl,by have:=S.hi;omega,λd f=>?_⟩;have e:((ch x).all λc=>decide (c∈ch g))=true:=Wj.mpr λc hc=>decide_eq_true (S.sub c hc);rw[e];exact k d f
theorem pM(L:Lk K mg):aK P w K mg base dn 3 L.kc L.kd ["barred","signs"] (Fo K):=by
 have T:=L.T;refine L.gz.F.eL (N:=["barred","signs","number","thing"]) (λj A outer s H q Q E nd r h=>?_);obtain⟨a,g,d,rfl,c,hl,hw,k⟩:=h
 refine⟨_,(a6 (bE (aA jE (ax bf (by rfl) T.len We (a5 (pv 0) a8)) ag (aL _)) fT aJ)
  (af (b9 VS rfl (mn (by rfl) T.enum (a5 (pv 0) a8)) (gY rfl (b6 (az (i:=2)) (b6 (az (i:=3)) fi))) (af (bE (cY (ck (ai (zy L) L.oy (a5 (pv 3) (a5 (pv 1) a8))))) fT aJ))))),?_⟩
 refine⟨_,rfl,a,_,rfl,.inl c,_,_,rfl,rfl,_,rfl,?_⟩;refine CU (by grind) ?_;refine⟨_,rfl,a,_,rfl,c,qu (K:=K) (a:=a) (xs:=d.map V.str) (λi σ b=>a9 H b/\∃e f,σ=[some (.ref a),some (.str g),e,f]) ⟨a9.refl _,none,none,rfl⟩ (λi σ b _ p=>p.1.seq c) ?_ (λσ b p=>k b p.1)⟩;rintro i x σ b T u ⟨l,e,f,rfl⟩ m
 obtain⟨t,rfl,n⟩:∃t,x=.str t/\t∈d:=by
  grind
 refine⟨T,_,rfl,jA.of a7,rfl,_,_,rfl,_,_,rfl,rfl,?_⟩;refine⟨_,rfl,_,rfl,t,g,rfl,hw t n,λv o=>⟨true,rfl,?_⟩⟩;refine bB ?_;exact⟨(l.trans (a9.upd m)).trans o,_,_,rfl⟩
theorem oB(L:Lk K mg):aK P w K mg base dn 2 L.jq L.jr ["barred"] (CZ K):=by
 have T:=L.T;refine L.fG.F.eL (N:=["barred","found","word","length","beginning"]) (λM A outer s H vs Q E nd O h=>?_);obtain⟨a,ws,rfl,y,hl,hw,k⟩:=h;have R:=et O
 refine⟨_,(a6 (aj (i:=1) (zV (wC cw dM zU) rfl rfl (by simp) (by decide)))
  (a6 (b9 VS rfl (aM (pv 0)) (az (i:=2)) (af (b9 VS rfl (nQ rfl T.range (a5 ag (a5 (ax bO (by rfl) T.len We (a5 (pv 2) a8)) a8))) (az (i:=3)) (a6 (aj (i:=4) (dA nU (pv 2) iI (da (pv 3))))
  (af (bE (cY (ck (ai (ju L) L.eF (a5 (pv 4) (a5 (pv 0) a8))))) (af (dE R (pv 1) (pv 4) dM rfl)) aJ))))))
  (af (aw (ax (vg rfl) (by rfl) T.sorted Fj (a5 (pv 1) a8)))))),?_⟩
 intro d hd;refine⟨a7,[((VU "":Key),V.bl true)],rfl,by decide,?_⟩
 have G:a9 H (upd (upd H d (.dK [])) d (.dK (iM [] [((VU "":Key),V.bl true)]))):=by
  rw[zK];exact a9.upd hd
 refine⟨_,rfl,a,rfl,⟨_,G.seq y⟩,cZ (K:=K) (a:=a) (xs:=ws.map V.str) (λi σ m=>∃B c v4,σ=[some (.ref a),some (.ref d),B,c,v4]/\a9 H m/\m d=some (.dK (jh (bW ws "" (ws.take i)))))
  ⟨none,none,none,rfl,G,a7⟩ (λi σ m _ ⟨_,_,_,_,f,_⟩=>f.seq y) ?_ ?_⟩
 ·rintro i x σ m g ⟨B,c,v4,rfl,f,t⟩;have hi:i < ws.length:=by have:=(Vu.mp g).1;rwa[Vn]at this
  obtain⟨wd,p,rfl⟩:∃wd,ws[i]?=some wd/\x=.str wd:=by
   rw[Vt]at g
   cases e:ws[i]? with
   |none=>rw[e]at g;cases g
   |some z=>rw[e]at g;exact⟨z,rfl,(VC g).symm⟩
  have S:wd∈ws:=VN p;have U:=hw wd S;have W:ws.take (i + 1)=ws.take i++[wd]:=by rw[Ws,p];rfl
  have X:(bW ws "" (ws.take i)).length<=30:=by
   have:=kB (ws:=ws) (e:="") (us:=ws.take i) λv Y=>hw v (ZV Y);rw[VQ]at this;omega
  refine⟨_,rfl,wd,rfl,av (by omega),1,_,rfl,⟨by decide,by decide,by omega,by omega⟩,?_⟩;have Z:((wd.length:Int) - 1).toNat=wd.length - 1:=by omega
  refine d9 (lo:=1) (n:=((wd.length:Int) - 1).toNat) (λj σ u=>∃c v4,σ=[some (.ref a),some (.ref d),some (.str wd),c,v4]/\a9 H u/\u d=some (.dK (jh (upTo ws wd (bW ws "" (ws.take i)) j))))
   ⟨c,v4,rfl,f,t⟩ ?_ ?_
  ·rintro j σ u hj ⟨c,v4,rfl,q,C⟩;have ec:(1 + (j:Int))=((1 + j:Nat):Int):=by omega
   refine⟨_,rfl,_,rfl,_,rfl,wd,rfl,av (by omega),?_⟩;rw[ec];have UY:=qD ws wd (bW ws "" (ws.take i)) j;refine⟨_,rfl,_,rfl,dO wd (1 + j),a,ws,rfl,q.seq y,by omega,λH4 D=>⟨_,rfl,?_⟩⟩;have I:=D _ _ C
   cases J:bears ws (dO wd (1 + j)) with
   |true=>
    refine bB ?_;refine⟨_,_,rfl,q.trans D,?_⟩;rw[I,eP];unfold nW;rw[if_pos J]
   |false=>
    refine cP ?_;refine⟨_,rfl,_,rfl,d,_,rfl,iL.k (k:=VU (dO wd (1 + j))) I (by rw[AX];exact bx (by omega)),?_⟩;refine⟨_,_,rfl,λb o e=>?_,?_⟩
    ·rw[aa (ae e hd)];exact D _ _ (q _ _ e)
    ·rw[a7,AW,eP];unfold nW;rw[if_neg (by rw[J];exact VJ)]
  ·rintro σ u ⟨c,v4,rfl,q,C⟩;refine⟨_,c,v4,rfl,q,?_⟩;rw[C,W,yu,Z];rfl
 ·rintro σ m ⟨B,c,v4,rfl,f,t⟩;rw[Vn,W6]at t;have J8:=kB (ws:=ws) (e:="") (us:=ws) hw;refine⟨_,rfl,d,_,_,rfl,t,yy _,by omega,λl ss r hp hs=>?_⟩;exact k l ss _ (f.trans (a9.upd r)) (f.free r) a7 hp hs
theorem rV(L:Lk K mg):aK P w K mg base dn 1 L.lz L.lA ["row","places"] (HP K):=by
 refine L.hU.F.eL (N:=["row","places","cut"]) (λq A outer s H x Q E nd y h=>?_);obtain⟨r,a,ps,rfl,t,u,hl,k⟩:=h
 refine⟨_,(a6 (aj (i:=2) ag)
  (a6 (i3 VS (aA iK (dA nU (pv 0) (da (pv 2)) iI) (pv 1) rfl) (af (uV (i:=2) nd rfl (Y6 rfl) ag Cp)))
  (af (aw (dA nU (pv 0) (da (pv 2)) iI))))),?_⟩
 refine⟨λm σ c=>∃n:Nat,n<=r.length/\m=r.length - n/\σ=[some (.str r),some (.ref a),some (.int (n:Int))]/\a9 H c/\∀j,j < n->fw r j∉ps,⟨r.length,0,Wb _,rfl,rfl,a9.refl _,λj d=>absurd d (ZR j)⟩,?_⟩;rintro m σ c ⟨n,hn,rfl,rfl,f,o⟩;refine⟨_,rfl,_,rfl,_,rfl,r,rfl,av (by omega),_,rfl,a,_,rfl,.inl (f.seq t),rfl,dP ps,_,rfl,?_⟩;rw[if_pos rfl,gf]
 by_cases h:fw r n∈ps
 ·have e:decide (Wo r (some (n:Int)) none∈ps)=true:=decide_eq_true h;rw[e];refine bB ?_;refine⟨_,rfl,_,rfl,_,rfl,r,rfl,av (by omega),?_⟩;have:=k c f;unfold lend at this;rw[wO h o hn]at this;exact this
 ·have e:decide (Wo r (some (n:Int)) none∈ps)=false:=decide_eq_false h;rw[e];refine cP ?_
  have g:n < r.length:=by
   rcases wad hn with z |z
   ·exact z
   ·subst z;rw[nX]at h;exact absurd u h
  refine⟨λb p=>∃l:Nat,l=n + 1/\b=[some (.str r),some (.ref a),some (.int (l:Int))]/\a9 H p,?_,?_⟩
  ·rintro b p ⟨l,rfl,rfl,v⟩;refine⟨r.length - (n + 1),by omega,n + 1,g,rfl,rfl,v,λj d=>?_⟩;rcases wad (Nat.le_of_lt_succ d) with z |z
   ·exact o j z
   ·rw[z];exact h
  ·exact⟨_,rfl,_,_,rfl,rfl,n + 1,rfl,rfl,f⟩
theorem sV(L:Lk K mg):aK P w K mg base dn 2 L.ng L.nh ["place","signs","barred","places"] (Fp K):=by
 refine L.j6.F.eL (N:=["place","signs","barred","places","moves","sign","row"]) (λR A outer s H vs Q E nd S h=>?_);obtain⟨p,g,a,b,l,ps,rfl,T,U,V,W,X,B,C,k⟩:=h;have Y:=et S
 refine⟨_,(a6 (aj (i:=4) dC)
  (a6 (b9 VS rfl (qm (pv 1)) (az (i:=5)) (a6 (aj (i:=6) (aI g8 (pv 0) (pv 5)))
  (af (dE Y (pv 4) (pv 5) (wo (ck (ai (ju L) L.eF (a5 (pv 6) (a5 (pv 2) a8)))) gX (ai (rV L) L.hU (a5 (pv 6) (a5 (pv 3) a8)))) rfl))))
  (af (aw (pv 4))))),?_⟩
 intro d hd
 refine⟨_,rfl,g,rfl,lL (jI g) (λi σ f=>∃r v6,σ=[some (.str p),some (.str g),some (.ref a),some (.ref b),some (.ref d),r,v6]/\a9 H f/\f d=some (.dK (((ch g).take i).map λc=>((VU (⟨#[c]⟩:Str):Key),pW l ps p c))))
  ⟨none,none,rfl,a9.upd hd,a7⟩ (λ_ _ _ _ _=>trivial) ?_ ?_⟩
 ·rintro i x σ f m ⟨r,v6,rfl,t,y⟩
  obtain⟨c,hc,rfl⟩:∃c,(ch g)[i]?=some c/\x=.str ⟨#[c]⟩:=by
   unfold cQ at m;rw[Vt]at m
   cases e:(ch g)[i]? with
   |none=>rw[show g.cps.toList[i]?=none from e]at m;cases m
   |some z=>rw[show g.cps.toList[i]?=some z from e]at m;exact⟨z,rfl,(VC m).symm⟩
  have hi:i < (ch g).length:=(Vu.mp hc).1;have J:=aE g;have Z:(p++(⟨#[c]⟩:Str)).length=p.length + 1:=by rw[<-aE,aC,Vs,aE];rfl
  refine⟨_,rfl,_,rfl,p,⟨#[c]⟩,rfl,rfl,av (by show p.length + 1<=_;omega),?_⟩
  have fin:∀u,a9 f u->GL (ER 4) (ER 5) (λ_ D Q5=>Q5 (pW l ps p c) D) {nx:=λσ f=>∃r v6,σ=[some (.str p),some (.str g),some (.ref a),some (.ref b),some (.ref d),r,v6]/\a9 H f/\f d=some (.dK (((ch g).take (i + 1)).map λc=>((VU (⟨#[c]⟩:Str):Key),pW l ps p c))),rt:=Q}
   [some (.str p),some (.str g),some (.ref a),some (.ref b),some (.ref d),some (.str ⟨#[c]⟩),some (.str (p++⟨#[c]⟩))] u:=by
   intro u n;have h4:=n _ _ y;refine⟨_,rfl,_,rfl,d,_,rfl,iL.k (k:=VU (⟨#[c]⟩:Str)) h4 (by rw[Vn,VQ];exact bx (by omega)),?_⟩;refine⟨_,_,rfl,λb o e=>?_,?_⟩
   ·rw[aa (ae e hd)];exact n _ _ (t _ _ e)
   ·rw[a7,cx]
    ·have:(ch g).take (i + 1)=(ch g).take i++[c]:=by rw[Ws,hc];rfl
     rw[this,VE];rfl
    ·cases q:bc (((ch g).take i).map λc=>((VU (⟨#[c]⟩:Str):Key),pW l ps p c)) (VU (⟨#[c]⟩:Str):Key) with
     |none=>rfl
     |some v=>
      have:=pV q;rw[VG]at this;obtain⟨G,I,e⟩:=Vx.mp this;have e':(⟨#[G]⟩:Str)=⟨#[c]⟩:=Yy e
      have:G=c:=by
       have:=congrArg ch e';simpa [ch] using this
      subst this;obtain⟨j,hj,M⟩:=YR.mp I;rw[wat]at M;rw[VQ]at hj;have e1:(ch g)[i]=G:=(Vu.mp hc).2;have:=(Yh B).mp (M.trans e1.symm);omega
  refine⟨_,rfl,_,rfl,_,a,l,rfl,t.seq T,C,λu n=>⟨_,rfl,?_⟩⟩
  cases O:bears l (p++⟨#[c]⟩) with
  |true=>
   refine cP ?_;have:=fin u n;unfold pW at this;rw[if_pos O]at this;unfold pW;exact this
  |false=>
   refine bB ?_;refine⟨_,rfl,_,rfl,_,b,ps,rfl,(t.trans n).seq U,V,by omega,λD s5=>?_⟩;have:=fin D (n.trans s5);unfold pW at this;rw[if_neg (by rw[O];exact VJ)]at this;unfold pW;exact this
 ·rintro σ f ⟨r,v6,rfl,t,y⟩;have e:(cQ g).length=(ch g).length:=by unfold cQ;rw[Vn]
  rw[e,W6]at y;exact⟨_,rfl,k d f t hd y⟩
theorem sW(L:Lk K mg):aK P w K mg base dn 1 L.ni L.nj ["ends","lot"] (Fq K):=by
 have T:=L.T;refine L.j7.F.eL (N:=["ends","lot"]) (λm A outer s H v Q E nd y h=>?_);obtain⟨a,b,d,ls,rfl,i,n,o,p,hl,k⟩:=h;refine⟨_,(af (aw (ax (wI rfl) (by rfl) T.any Ka (a5 (cT rfl (au ["lot"] [1]) (aM (pv 0)) (λ_ _ _ _ _ _=>bI) (λ_ _ _ _ _ _=>(fj (eQ (K:=K) rfl) (pv 0) (pv 1) rfl))) a8)))),?_⟩;refine⟨_,rfl,a,rfl,⟨_,i⟩,λl f=>comp_map (Kd ls) (aO K a d) f (av (by omega)) (λj g=>g.seq i) (λx r z t u q=>?_) (λj g c=>?_)⟩
 ·exact⟨_,rfl,_,rfl,b,ls,rfl,.inl (u.seq n),Wj.mp o x t,p,q r (a9.refl _)⟩
 ·have e:d.map (Kd ls)=(d.map λe=>kM e ls).map V.bl:=by rw[VG];rfl
  rw[e]at c;refine⟨l,_,rfl,aN.of c,?_⟩;have:=k j g;rw[ZP];exact this
theorem sX(L:Lk K mg):aK P w K mg base dn 2 L.j8 L.nk ["moves"] (HR K):=by
 have T:=L.T;refine L.j9.F.eL (N:=["moves","lot","left"]) (λY A outer s H vs Q E nd hr h=>?_);obtain⟨d,Z,o,rfl,hd,hl,hm,hf,Ss,k⟩:=h;have hu:=et hr;have KR:(A.deeper (YV "live_among" (ay (top 66)) s.heap.objs.size L.j8 Y)).units < Yt:=hr.uZ
 refine⟨_,(a6 (aj (i:=1) (bu (lN rfl) (by rfl) T.list ji (a5 (pv 0) a8)))
  (af (i3 VS (ck dM) (a6 (dH (i:=2) rfl (au ["moves","lot"] [0,1]) nd rfl rfl (aM (pv 1)) (λ_ _ _ _ _ _=>dF (ck (ai (sW L) L.j7 (a5 (bu (yp rfl) (by rfl) T.list ji (a5 (A2 (K:=K) rfl waQ Z2 waM tX (cF hu (pv 1) (pv 0) (λ_ _=>rfl))) a8)) (a5 (pv 2) a8))))) (λ_ _ _ _ _ _=>(pv 0)))
  (a6 (bE (aA (yq KR) (pv 2) (pv 1) (aL _)) (af (aw (pv 1))) aJ)
  (af (aj (i:=1) (pv 2)))))))),?_⟩
 refine⟨_,rfl,d,_,rfl,hd,λl0 u=>?_⟩
 refine⟨λm σ H2=>∃(l:Addr) (ls:List Str) (v:Option V),m=ls.length/\σ=[some (.ref d),some (.ref l),v]/\a9 H H2/\H l=none/\H2 l=some (.lst (ls.map V.str))/\ls.Sublist (Z.map (·.1)) /\
  ∀b:List Str,(∀k∈b,k∈Z.map (·.1)/\i6 (o k) b=true)->∀k∈b,k∈ls,
  ⟨_,l0,Z.map (·.1),none,rfl,rfl,a9.upd u,u,by rw[a7,gg],wau _,λb h k r=>(h k r).1⟩,?_⟩
 rintro m σ H2 ⟨l,ls,v,rfl,rfl,U,J9,W,f,c⟩;refine⟨true,rfl,cP ?_⟩;have Br:ls.length<=1000:=by have:=f.length_le;rw[Vn]at this;omega
 let p:V->Bool:=λx=>match x with
  |.str k=>i6 (o k) ls
  |_=>false
 let g:List Str:=ls.filter λk=>i6 (o k) ls
 have y:(ls.map V.str).filter p=g.map V.str:=by
  rw[Yx];rfl
 refine⟨λB t=>∃(C:Addr) (v:Option V),B=[some (.ref d),some (.ref C),v]/\a9 H t/\H C=none/\t C=some (.lst (g.map V.str))/\g.length < ls.length,?_,?_⟩
 ·rintro B t ⟨C,v,rfl,n,A5,D,II⟩;refine⟨g.length,II,C,g,v,rfl,rfl,n,A5,D,(Yi).trans f,λb h k r=>?_⟩;have Su:=c b h k r;exact VR.mpr ⟨Su,yA (c b h) (h k r).2⟩
 ·refine⟨_,rfl,l,rfl,⟨_,aN.of W⟩,λl2 G=>dg p (λx=>x) (aO K l (ls.map V.str)) G (by rw[Vn];exact av (by omega)) (λt n=>n.seq (aN.of W)) (λx I Q' hx s3 q=>?_) (λx I Q' hx _ s3 q=>⟨_,rfl,q I (a9.refl _)⟩) (λt n D=>?_)⟩
  ·obtain⟨X,Sv,rfl⟩:=Vx.mp hx;obtain⟨a,ha,J⟩:=i7 (f.subset Sv);have M:a9 H I:=U.trans s3;have LN:=M _ _ hd;have j:=M _ _ (hm _ ha);refine⟨_,rfl,_,rfl,d,.ref a,rfl,?_,?_⟩
   ·have:=dm.k (k:=(VU X:Key)) LN;rw[J]at this;exact this
   refine⟨.inr (.inr (.inl ⟨rfl,.inl ⟨_,j⟩⟩)),a,_,rfl,rfl,j,λvw O=>?_⟩;refine⟨vw,a,_,rfl,a7,by rw[aa (ae j O)];exact j,λl3 Jk=>?_⟩;have s4:a9 I (upd (upd I vw (jJ vw a)) l3 (.lst ((o X).map (·.2)))):=(a9.upd O).trans (a9.upd Jk);refine⟨_,rfl,l3,l,_,_,rfl,aN.of a7,aN.of (s4 _ _ (s3 _ _ W)),hf X,dP ls,by rw[Vn];exact Ss X,λH5 s5=>⟨_,rfl,?_⟩⟩;exact q H5 (s4.trans s5)
  ·rw[YF,y]at D;have R:=n _ _ W;refine⟨_,rfl,_,rfl,l2,l,_,_,rfl,rfl,aN.of D,aN.of R,dP _,dP _,_,rfl,?_⟩;rw[tZ];have S:H l2=none:=U.free G
   by_cases e:g=ls
   ·rw[decide_eq_true e];refine cP ?_;refine⟨_,rfl,k l ls t (U.trans n) J9 R ⟨f,λkk r=>?_,c⟩⟩;have:=e ▸ r;exact(VR.mp this).2
   ·rw[decide_eq_false e];refine bB ?_;refine⟨_,rfl,l2,_,rfl,U.trans n,S,D,?_⟩;rcases wad (WG (λk=>i6 (o k) ls) ls) with z |z
    ·exact z
    ·exact absurd ((Yi (p:=λk=>i6 (o k) ls)).eq_of_length z) e
theorem oC(L:Lk K mg):aK P w K mg base dn 4 L.fH L.js ["self","signs","barred"] (HV K L.aB):=by
 have T:=L.T;refine L.fJ.F.eL (N:=["self","signs","barred","places","place"]) (λgd A outer s H vs Q E nd hr h=>?_);obtain⟨x,u,g,a,ws,rfl,hx,hS,sg,hl,hw,k⟩:=h;have Z:∀w∈ws,w.length<=5:=λw h=>(hw w h).hi;have hu:=et hr
 refine⟨_,(a6 (bE (cY (ck (ai (vP L) L.k9 (a5 (pv 1) a8)))) fT aJ)
  (a6 (bH (ai (pM L) L.gz (a5 (pv 2) (a5 (pv 1) a8))))
  (a6 (g9 (pv 0) (pv 1) rfl)
  (a6 (g9 (pv 0) (bu cE (by rfl) T.list ji (a5 (pv 2) a8)) rfl)
  (a6 (g9 (pv 0) dC rfl)
  (a6 (aj (i:=3) (ai (oB L) L.fG (a5 (pv 2) a8)))
  (a6 (b9 VS rfl (aM (pv 3)) (az (i:=4)) (af (dE hu (aX (pv 0) rfl) (pv 4) (ai (sV L) L.j6 (a5 (pv 4) (a5 (pv 1) (a5 (pv 2) (a5 (pv 3) a8))))) rfl)))
  (af (g9 (pv 0) (ai (sX L) L.j9 (a5 (aX (pv 0) rfl) a8)) rfl))))))))),?_⟩
 refine⟨_,rfl,g,rfl,sg,λH1 s1=>⟨true,rfl,bB ?_⟩⟩;refine⟨_,rfl,_,rfl,a,g,ws,rfl,s1.seq hS,hl,hw,λH2 s2=>?_⟩;have G:a9 H H2:=s1.trans s2;have Sw:=G _ _ hx;refine⟨_,rfl,_,rfl,x,L.aB,u,_,rfl,Sw,L.aH.cl,L.aH.q5,by decide,?_⟩;rw[HU];have KS:∀(o:HO) b ob,H b=some ob->b≠x->(upd H2 x o) b=some ob:=λo b ob e hb=>by rw[aa hb];exact G _ _ e
 have I:∀{H':Hp} (h:∀b o,H b=some o->b≠x->H' b=some o),aN K H' a (ws.map V.str):=λ{H'} h=>by
  have Pu:∀o,H a=some o->(∀fs,o≠.ins L.aB u fs)->a≠x:=λo e ne z=>by
   subst z;rw[hx]at e;exact ne [] (VC e).symm
  rcases hS with(e |⟨o,e⟩) |e
  ·exact .inl (.inl (h _ _ e (Pu _ e (λ_ z=>by cases z))))
  ·exact .inl (.inr ⟨o,h _ _ e (Pu _ e (λ_ z=>by cases z))⟩)
  ·exact .inr e
 refine⟨_,rfl,a,_,rfl,.inl (I (KS _)),λb hb=>?_⟩;have B:x≠b:=ae a7 hb;have Nm:H2 b=none:=by rw[aa B.symm]at hb;exact hb
 refine⟨_,rfl,x,L.aB,u,LA g,rfl,by rw[aa B,a7],L.aH.cl,L.aH.Ee,(show 1 < 1000 by decide),?_⟩;rw[put2];intro d hd;have t:x≠d:=ae a7 hd
 have KU:b≠d:=by
  intro z;subst z;rw[aa B.symm,a7]at hd;cases hd
 have J:H2 d=none:=by rw[aa t.symm,aa KU.symm,aa t.symm]at hd;exact hd
 refine⟨_,rfl,x,L.aB,u,Jm g b,rfl,by rw[aa t,a7],L.aH.cl,L.aH.kI,(show 2 < 1000 by decide),?_⟩;rw[put3];generalize M:upd (upd (upd (upd (upd H2 x (.ins L.aB u (LA g))) b (.lst (ws.map V.str))) x (.ins L.aB u (Jm g b))) d (.dK [])) x (.ins L.aB u (HS g b d))=H3;have x3:H3 x=some (.ins L.aB u (HS g b d)):=by rw[<-M,a7]
 have d3:H3 d=some (.dK []):=by rw[<-M,aa t.symm,a7]
 have b3:H3 b=some (.lst (ws.map V.str)):=by rw[<-M,aa B.symm,aa KU,aa B.symm,a7]
 have k3:∀c o,H c=some o->c≠x->H3 c=some o:=λc o e hc=>by
  have e2:=G _ _ e;rw[<-M,aa hc,aa (ae e2 J),aa hc,aa (ae e2 Nm),aa hc];exact e2
 clear M;refine⟨_,rfl,a,ws,rfl,I k3,hl,Z,λl n H4 s4 S h4 hp Sy=>?_⟩;have MM:n.Nodup:=hp.nodup_iff.mpr (oQ ws);have C3:n.length<=25:=by have:=kB (ws:=ws) (e:="") (us:=ws) Z;rw[hp.length_eq];omega
 have KW:∀p∈n,p.length<=5:=λp zz=>B1 Z p (hp.mem_iff.mp zz);have Nn:("":Str)∈n:=hp.mem_iff.mpr (bS ws);have LO:l≠d:=λz=>by rw[z,d3]at S;cases S
 have UZ:l≠x:=λz=>by rw[z,x3]at S;cases S
 refine⟨_,rfl,l,rfl,⟨_,aN.of h4⟩,cZ (K:=K) (a:=l) (xs:=n.map V.str) (λi σ U=>∃v4 C,σ=[some (.ref x),some (.str g),some (.ref a),some (.ref l),v4]/\U d=some (.dK (bh C))/\C.map (·.1)=n.take i/\(∀m∈C,U m.2=some (.dK (rowOf g ws n m.1)))/\(∀m∈C,H4 m.2=none)/\(∀c o,H4 c=some o->c≠d->U c=some o))
  ⟨none,[],rfl,s4 _ _ d3,rfl,λm v=>(nomatch v),λm v=>(nomatch v),λc o e _=>e⟩ (λi σ U _ ⟨_,_,_,_,_,_,_,O⟩=>aN.of (O _ _ h4 LO)) ?_ ?_⟩
 ·rintro i y σ U hy ⟨v4,C,rfl,D,r,f,HW,O⟩
  obtain⟨p,W,rfl⟩:∃p,n[i]?=some p/\y=.str p:=by
   rw[Vt]at hy
   cases e:n[i]? with
   |none=>rw[e]at hy;cases hy
   |some z=>rw[e]at hy;exact⟨z,rfl,(VC hy).symm⟩
  have hi:i < n.length:=(Vu.mp W).1;have zz:p∈n:=VN W
  have k5:∀c o,H c=some o->c≠x->U c=some o:=λc o e hc=>O _ _ (s4 _ _ (k3 c o e hc)) (λz=>by
   subst z;have:=G _ _ e
   rw[J]at this;cases this)
  have x5:U x=some (.ins L.aB u (HS g b d)):=O _ _ (s4 _ _ x3) t;refine⟨_,rfl,_,rfl,_,rfl,_,rfl,p,g,a,l,ws,n,rfl,I k5,aN.of (O _ _ h4 LO),Nn,by have:=KW p zz;omega,by have:=sg.hi;omega,sg.nd,by omega,λe H6 R X h6=>?_⟩;have d6:=R _ _ D
  have Eo:p∉C.map (·.1):=by
   rw[r];intro v;obtain⟨j,hj,ej⟩:=YR.mp v;rw[wat]at ej;rw[VQ]at hj;have e1:n[i]=p:=(Vu.mp W).2;have:=(Yh MM).mp (ej.trans e1.symm);omega
  have Y:C.length<=25:=by have:=congrArg YT r;rw[Vn,VQ]at this;omega
  refine⟨_,rfl,x,L.aB,u,_,_,rfl,R _ _ x5,L.aH.cl,L.aH.kI,jL g b d,_,rfl,d,_,rfl,iL.k (k:=VU p) d6 (by unfold bh;rw[Vn];exact bx (by omega)),?_⟩;have Jr:e≠d:=λz=>by rw[z,D]at X;cases X
  have e4:H4 e=none:=by
   cases q:H4 e with
   |none=>rfl
   |some o=>
    have:=O _ _ q Jr;rw[this]at X;cases X
  refine⟨_,C++[(p,e)],rfl,?_,?_,?_,?_,?_⟩
  ·rw[a7,cx _ (iO Eo)];unfold bh;rw[VE];rfl
  ·rw[VE,r];have:n.take (i + 1)=n.take i++[p]:=by rw[Ws,W];rfl
   rw[this];rfl
  ·intro m v;rcases VP.mp v with z |z
   ·have nm:m.2≠d:=λq=>by
     have:=f m z;rw[q,D]at this;have:=HW m z;rw[q]at this;rw[s4 _ _ d3]at this;cases this
    rw[aa nm];exact R _ _ (f m z)
   ·have:m=(p,e):=by simpa using z
    subst this;rw[aa Jr];exact h6
  ·intro m v;rcases VP.mp v with z |z
   ·exact HW m z
   ·have:m=(p,e):=by simpa using z
    subst this;exact e4
  ·intro c o hc Pw;rw[aa Pw];exact R _ _ (O c o hc Pw)
 ·rintro σ U ⟨v4,C,rfl,D,r,f,HW,O⟩;rw[Vn,W6]at r;have x5:U x=some (.ins L.aB u (HS g b d)):=O _ _ (s4 _ _ x3) t;have Y:C.length<=1000:=by have:=congrArg YT r;rw[Vn]at this;omega
  refine⟨_,rfl,x,L.aB,u,_,_,rfl,x5,L.aH.cl,L.aH.kI,jL g b d,d,C,rowOf g ws n,rfl,D,Y,f,λkx=>yz g ws n kx,λkx=>by rw[AY];have:=sg.hi;omega,λq ls H6 R hq h6 lv=>?_⟩;refine⟨_,rfl,x,L.aB,u,_,rfl,R _ _ x5,L.aH.cl,L.aH.ou,(show 3 < 1000 by decide),?_⟩;rw[D1];have Sz:q≠x:=λz=>by rw[z,x5]at hq;cases hq
  have Ph:∀m∈C,m.2≠x:=λm v z=>by
   have:=f m v;rw[z,x5]at this;cases this
  refine k n ls _ ⟨⟨u,b,d,q,C,a7,?_,?_,r,λm v=>?_,?_⟩,hp,Sy,r ▸ lv⟩ λc o e hc=>?_
  ·rw[aa B.symm];exact R _ _ (O _ _ (s4 _ _ b3) KU)
  ·rw[aa t.symm];exact R _ _ D
  ·rw[aa (Ph m v)];exact R _ _ (f m v)
  ·rw[aa Sz];exact h6
  ·rw[aa hc]
   exact R _ _ (O _ _ (s4 _ _ (k3 c o e hc)) (λz=>by
    subst z;have:=G _ _ e
    rw[J]at this;cases this))
theorem rW(L:Lk K mg):aK P w K mg base dn 1 L.lB L.lC ["self"] (D2 L.aB):=by
 have T:=L.T;refine L.fo.F.eL (N:=["self"]) (λa A outer s H j Q E nd m h=>?_);obtain⟨x,g,n,o,ls,rfl,B,k⟩:=h;obtain⟨⟨c,b,d,q,p,e,r,f,i,t,u⟩,_,_,_⟩:=B;refine⟨_,(af (aw (bu (lN rfl) (by rfl) T.list ji (a5 (aX (pv 0) rfl) a8)))),?_⟩;refine⟨_,rfl,x,L.aB,c,_,_,rfl,e,L.aH.cl,L.aH.kI,lR g b d q,d,_,rfl,f,λl hl=>?_⟩;rw[gg,i];exact k l _ (a9.upd hl) hl a7
theorem jd(L:Lk K mg):aK P w K mg base dn 1 L.pA L.pB ["self"] (Fv L.aB):=by
 have T:=L.T;refine L.cA.F.eL (N:=["self"]) (λa A outer s H i Q E nd j h=>?_);obtain⟨x,g,m,n,ls,rfl,B,k⟩:=h;obtain⟨⟨c,b,d,q,o,e,p,r,t,u,f⟩,_,_,_⟩:=B;refine⟨_,(af (aw (bu cE (by rfl) T.list ji (a5 (aX (pv 0) rfl) a8)))),?_⟩;refine⟨_,rfl,x,L.aB,c,_,_,rfl,e,L.aH.cl,L.aH.ou,u0 g b d q,q,_,rfl,.inl (aN.of f),λl hl=>?_⟩;exact k l _ (a9.upd hl) hl a7
theorem fO(L:Lk K mg):aK P w K mg base dn 1 L.gA L.gB ["self","place"] (MK L.aB):=by
 have T:=L.T;refine L.bz.F.eL (N:=["self","place"]) (λc A outer s H r Q E nd e h=>?_);obtain⟨x,p,g,t,u,ls,rfl,B,f,k⟩:=h;obtain⟨⟨i,b,d,q,mv,j,y,l,m,z,C⟩,_,_,_⟩:=B;obtain⟨a,ha,n⟩:=i7 (mv:=mv) (k:=p) (by rw[m];exact f);have o:=et e;refine⟨_,(af (bE (PW.pt (g7 (cY (ck (ax dN (by rfl) T.Gj vo (a5 (pv 1) (a5 (kz (v:=.ty "str") (by rfl) T.str Fl rfl) a8))))) (iD (y4 (tR o (pv 1) (aX (pv 0) rfl)))))) fT aJ)),?_⟩;refine⟨_,rfl,_,_,_,true,rfl,dG.str p,rfl,true,rfl,bB ?_⟩;refine⟨_,rfl,_,rfl,x,L.aB,i,_,_,rfl,j,L.aH.cl,L.aH.kI,lR g b d q,d,_,rfl,dm.k (k:=(VU p:Key)) l,_,rfl,?_⟩;rw[n];exact bB k
theorem pD(L:Lk K mg):aK P w K mg base dn 2 L.rK L.rL ["self","place","sign"] (Ke L.aB):=by
 refine L.fb.F.eL (N:=["self","place","sign"]) (λr A outer s H D Q E nd e h=>?_);obtain⟨x,p,c,g,t,u,ls,rfl,B,f,hc,k⟩:=h;obtain⟨⟨i,b,d,q,mv,j,G,v,y,z,I⟩,_,_,_⟩:=id B;obtain⟨a,ha,C⟩:=i7 (mv:=mv) (k:=p) (by rw[y];exact f);have l:=et e
 refine⟨_,(a6 (bH (mj (pv 0) L.aH.cl L.bz.m (fO L) (e.mono (by decide)) L.bz.b .nil fN (a5 (pv 1) a8)))
  (af (aw (cF l (cF l (aX (pv 0) rfl) (pv 1) (λ_ _=>rfl)) (pv 2) (λ_ _=>rfl))))),?_⟩
 refine⟨_,rfl,x,i,_,rfl,j,Fu _ _ _ _ (by decide+kernel) (by decide+kernel) (by decide+kernel) (by decide+kernel),_,rfl,x,p,g,t,u,ls,rfl,B,f,?_⟩;have n:=dm.k (k:=(VU p:Key)) v;rw[C]at n;have o:=dm.k (k:=(VU (⟨#[c]⟩:Str):Key)) (z _ ha);rw[Ft hc]at o;exact⟨_,rfl,x,L.aB,i,_,_,rfl,j,L.aH.cl,L.aH.kI,lR g b d q,_,rfl,d,_,rfl,n,_,rfl,a,_,rfl,o,k⟩
theorem vQ(L:Lk K mg):aK P w K mg base dn 3 L.p9 L.pd ["band","place"] (yQ L.aB):=by
 refine L.jQ.F.eL (N:=["band","place","ends"]) (λM A outer s H Z Q E nd O h=>?_);obtain⟨x,p,g,C,D,ls,rfl,B,R,S,k⟩:=h
 refine⟨_,(a6 (dH (i:=2) rfl (au ["band","place"] [0,1]) nd rfl rfl (qm (aX (pv 0) rfl)) (λ_ _ _ _ _ _=>bI) (λ_ _ _ _ _ _=>(mj (pv 1) L.aH.cl L.fb.m (pD L) (O.mono (by decide)) L.fb.b .nil fN (a5 (pv 2) (a5 (pv 0) a8)))))
  (af (aw (cT rfl (au [] []) (aM (pv 2)) (λ_ _ _ _ _ _=>dF (aA uX (pv 0) gX (aL _))) (λ_ _ _ _ _ _=>(pv 0)))))),?_⟩
 obtain⟨⟨T,b,d,q,mv,U,h2,h3,h4,h5,h6⟩,pm,_,_⟩:=id B;refine⟨_,rfl,x,L.aB,T,_,_,rfl,U,L.aH.cl,L.aH.q5,lT g b d q,g,rfl,λl hl=>?_⟩;refine comp_map (Pk C D p) (jI g) hl (by rw[yD];exact av (by omega)) (λ_ _=>trivial) (λz G I V o e=>?_) (λG o a=>?_)
 ·obtain⟨c,hc,rfl⟩:=Vx.mp V;have J:=B.same o;obtain⟨⟨r,_,_,_,_,t,_⟩,_⟩:=id J;exact⟨_,rfl,x,r,_,rfl,t,Fu _ _ _ _ (by decide+kernel) (by decide+kernel) (by decide+kernel) (by decide+kernel),_,rfl,_,rfl,x,p,c,g,C,D,ls,rfl,J,R,hc,e G (a9.refl _)⟩
 ·rw[Bd]at a;refine⟨_,rfl,l,rfl,⟨_,aN.of a⟩,λW f=>?_⟩;refine dg yN (λv=>v) (aO K l _) f (by rw[Vn,aE];exact av (by omega)) (λH' X=>aN.of (X _ _ a)) (λy j I Y u e=>⟨_,rfl,rfl,_,rfl,e j (a9.refl _)⟩) (λy j I Y _ u e=>⟨_,rfl,e j (a9.refl _)⟩) (λj u n=>?_);rw[YF,x6]at n;exact k W j (o.trans u) (none_of o f) n
theorem xV(L:Lk K mg):aK P w K mg base dn 4 L.rF L.rG ["band"] (Be L.aB):=by
 refine L.m3.F.eL (N:=["band","ends","place"]) (λgd A outer s H vs Q E nd hr h=>?_);obtain⟨x,g,W,G,ls,rfl,B,X,C3,k⟩:=h;have hu:=et hr
 refine⟨_,(a6 (aj (i:=1) dC)
  (a6 (b9 VS rfl (aM (jF (pv 0) L.aH.cl L.fo.m (rW L) (hr.mono (by decide)) L.fo.b .nil fN)) (az (i:=2)) (af (dE hu (pv 1) (pv 2) (ai (vQ L) L.jQ (a5 (pv 0) (a5 (pv 2) a8))) rfl)))
  (af (aw (pv 1))))),?_⟩
 refine λn r=>?_;have S:a9 H (upd H n (.dK [])):=a9.upd r;have B0:=B.same S;obtain⟨⟨dx,b,d,q,mv,h1,h2,h3,h4,h5,h6⟩,pm,_,_⟩:=id B0;refine⟨_,rfl,x,dx,_,rfl,h1,Fu _ _ _ _ (by decide+kernel) (by decide+kernel) (by decide+kernel) (by decide+kernel),x,g,W,G,ls,rfl,B0,λY T I f1 J=>?_⟩;have Z:Y≠n:=λz=>by rw[z,a7]at f1;cases f1
 have nd:=B.nd
 refine⟨Y,rfl,⟨_,aN.of J⟩,cZ (K:=K) (a:=Y) (xs:=G.map V.str) (λi σ U=>∃v2 l,σ=[some (.ref x),some (.ref n),v2]/\U n=some (.dK (bh l))/\l.map (·.1)=G.take i/\(∀m∈l,U m.2=some (.lst ((cR g W G m.1).map V.str)))/\(∀m∈l,T m.2=none)/\(∀c o,T c=some o->c≠n->U c=some o))
  ⟨none,[],rfl,I _ _ a7,rfl,λm t=>(nomatch t),λm t=>(nomatch t),λc o e _=>e⟩ (λi σ U _ ⟨_,_,_,_,_,_,_,D⟩=>aN.of (D _ _ J Z)) ?_ ?_⟩
 ·rintro i y σ H5 hy ⟨v2,l,rfl,u,f,j,v,D⟩;obtain⟨p,KY,rfl,hi,zz,oK⟩:=fx hy;have Np:a9 H H5:=λc o e=>D _ _ (I _ _ (S _ _ e)) (ae e r);refine⟨_,rfl,_,rfl,x,p,g,W,G,ls,rfl,B.same Np,zz,X,λe H6 s6 C SA=>?_⟩;have d6:=s6 _ _ u;have M:p∉l.map (·.1):=by rw[f];exact gj nd KY
  have Nq:l.length<=900:=by have:=congrArg YT f;rw[Vn,VQ]at this;omega
  refine⟨_,rfl,_,rfl,n,_,rfl,iL.k (k:=VU p) d6 (by unfold bh;rw[Vn];exact bx (by omega)),?_⟩;have O:e≠n:=λz=>by rw[z,u]at C;cases C
  have e1:T e=none:=by
   cases q:T e with
   |none=>rfl
   |some o=>
    have:=D _ _ q O;rw[this]at C;cases C
  refine⟨_,l++[(p,e)],rfl,?_,?_,?_,?_,?_⟩
  ·rw[a7,cx _ (iO M)];unfold bh;rw[VE];rfl
  ·rw[VE,f,oK];rfl
  ·intro m t;rcases VP.mp t with z |z
   ·have nm:m.2≠n:=λq=>by
     have:=v m z;rw[q,I _ _ a7]at this;cases this
    rw[aa nm];exact s6 _ _ (j m z)
   ·have:m=(p,e):=by simpa using z
    subst this;rw[aa O];exact SA
  ·intro m t;rcases VP.mp t with z |z
   ·exact v m z
   ·have:m=(p,e):=by simpa using z
    subst this;exact e1
  ·intro c o hc R;rw[aa R];exact s6 _ _ (D c o hc R)
 ·rintro σ H5 ⟨v2,l,rfl,u,f,j,v,D⟩;rw[Vn,W6]at f;exact⟨_,rfl,k n l H5 (λc o e=>D _ _ (I _ _ (S _ _ e)) (ae e r)) r u f j λm t=>none_of S (none_of I (v m t))⟩
theorem jv(L:Lk K mg):aK P w K mg base dn 5 L.jR L.jS ["band","length"] (FL L.aB):=by
 have T:=L.T;refine L.eC.F.eL (N:=["band","length","ends","counts","place","table","step","longer"]) (λgd A outer s H vs Q E nd hr h=>?_);obtain⟨x,n,g,I,r,ls,rfl,B,EG,C3,V0,V1,k⟩:=h;have hu:=et hr
 refine⟨_,(a6 (aj (i:=2) (ai (xV L) L.m3 (a5 (pv 0) a8)))
  (a6 (aj (i:=3) dC)
  (a6 (b9 VS rfl (pY (pv 2)) (az (i:=4)) (af (dE hu (pv 3) (pv 4) ag rfl)))
  (a6 (aj (i:=5) (cC (a5 (pv 3) a8)))
  (a6 (b9 VS rfl (cL rfl T.range (a5 (pv 1) a8)) (az (i:=6)) (a6 (aj (i:=7) dC)
  (a6 (b9 VS rfl (pY (pv 2)) (az (i:=4)) (af (dE hu (pv 7) (pv 4) (ax (mB rfl) (by rfl) T.sum Dl (a5 (cT rfl (au ["counts"] [3]) (aM (cF hu (pv 2) (pv 4) (λ_ _=>rfl))) (λ_ _ _ _ _ _=>bI) (λ_ _ _ _ _ _=>(cF hu (pv 1) (pv 0) (λ_ _=>rfl)))) a8)) rfl)))
  (a6 (bH (jf Wv WD WR df (pv 5) (a5 (pv 7) a8)))
  (af (aj (i:=3) (pv 7)))))))
  (af (aw (pv 5)))))))),?_⟩
 have nd:=B.nd;have he:("":Str)∈r:=B.pm.mem_iff.mpr (bS I);refine⟨_,rfl,x,g,I,r,ls,rfl,B,EG,C3,λd l H1 s1 Nr h1 ek er ef=>?_⟩;refine λq C=>?_;have Nt:d≠q:=ae h1 C;have M:((bh l).map λkv=>kV kv.1)=r.map V.str:=by rw[gg,ek]
 have SD:∀m∈l,m.2≠d:=λm u z=>by have:=er m u;rw[z,h1]at this;cases this
 refine⟨_,rfl,d,_,rfl,.inl ⟨(a9.upd C) _ _ h1,λo=>?_⟩⟩;have J:=ib d o (bh l);rw[M]at J;have W:(upd (upd H1 q (.dK [])) d (.frz o (.dK (bh l)))) q=some (.dK []):=by rw[aa (WQ Nt),a7]
 have X:(upd (upd H1 q (.dK [])) d (.frz o (.dK (bh l)))) d=some (.frz o (.dK (bh l))):=a7
 have sz:a9 H (upd (upd H1 q (.dK [])) d (.frz o (.dK (bh l)))):=λc v e=>by
  rw[aa (ae e Nr)];exact a9.upd C _ _ (s1 _ _ e)
 have Y:∀m∈l,(upd (upd H1 q (.dK [])) d (.frz o (.dK (bh l)))) m.2=some (.lst ((cR g I r m.1).map V.str)):=λm u=>by
  rw[aa (SD m u)];exact a9.upd C _ _ (er m u)
 have f0:H q=none:=none_of s1 C;generalize upd (upd H1 q (.dK [])) d (.frz o (.dK (bh l)))=Hz at W X sz Y;have Nu:∀m∈l,m.2≠q:=λm u z=>by have:=Y m u;rw[z,W]at this;cases this
 refine lL J (λi σ H3=>∃v4,σ=[some (.ref x),some (.int n),some (.ref d),some (.ref q),v4,none,none,none]/\H3 q=some (.dK (o4 (λp=>.int (bM g I r 0 p)) (r.take i)))/\∀c v,Hz c=some v->c≠q->H3 c=some v) ⟨none,rfl,W,λc v e _=>e⟩ (λi σ H3 _ ⟨_,_,_,b⟩=>b _ _ X Nt) ?_ ?_
 ·rintro i y σ H3 hy ⟨v4,rfl,h3,b⟩;obtain⟨p,KY,rfl,hi,zz,oK⟩:=fx hy;refine⟨_,rfl,_,rfl,q,_,rfl,iL.k (k:=VU p) h3 (by rw[x8,VQ];exact bx (by omega)),?_⟩;refine⟨_,rfl,?_,λc v e hc=>by rw[aa hc];exact b c v e hc⟩;rw[a7,cx _ (ue _ (gj nd KY)),oK,uf];rfl
 rintro σ H3 ⟨v4,rfl,h3,b⟩;rw[Vn,W6]at h3;have s3:a9 H H3:=λc v e=>b _ _ (sz _ _ e) (ae e f0);have Nv:=b _ _ X Nt;have LQ:∀m∈l,H3 m.2=some (.lst ((cR g I r m.1).map V.str)):=λm u=>b _ _ (Y m u) (Nu m u);clear b W X sz Y J C h1 er;refine⟨_,rfl,by show 1<=sizeLine;decide,λlt D=>?_⟩;have flt:H lt=none:=none_of s3 D
 refine⟨_,rfl,n,rfl,by omega,by omega,d9 (lo:=0) (n:=n.toNat) (λi σ O=>∃(Z:List Addr) (dc:Addr) (v4 v6 v7:Option V),σ=[some (.ref x),some (.int n),some (.ref d),some (.ref dc),v4,some (.ref lt),v6,v7]/\Z.length=i + 1/\Z[i]?=some dc/\O lt=some (.lst (Z.map V.ref))/\(∀j t,Z[j]?=some t->O t=some (.dK (Il g I r j)))/\O d=some (.frz o (.dK (bh l)))/\(∀m∈l,O m.2=some (.lst ((cR g I r m.1).map V.str)))/\a9 H O)
  ⟨[q],q,_,none,none,rfl,rfl,rfl,a7,?_,a9.upd D _ _ Nv,λm u=>a9.upd D _ _ (LQ m u),s3.trans (a9.upd D)⟩ ?_ ?_⟩
 ·intro j t U
  cases j with
  |zero=>
   obtain rfl:q=t:=VC U;exact a9.upd D _ _ h3
  |succ j=>simp at U
 ·rintro i σ O hi ⟨Z,dc,v4,v6,v7,rfl,R,Px,Nw,LR,G,Hf,s4⟩;refine λdl Hg=>?_;have sd:a9 O (upd O dl (.dK [])):=a9.upd Hg;have Ms:=LR i dc Px;have J:=ib d o (bh l);rw[M]at J;have V2:d≠dl:=ae G Hg;refine⟨_,rfl,d,_,rfl,.inr ⟨o,sd _ _ G,?_⟩⟩;refine lL J (λj σ H5=>∃v4,σ=[some (.ref x),some (.int n),some (.ref d),some (.ref dc),v4,some (.ref lt),some (.int (0 + (i:Int))),some (.ref dl)]/\H5 dl=some (.dK (o4 (λp=>.int (bM g I r (i + 1) p)) (r.take j)))/\∀c v,O c=some v->H5 c=some v) ⟨_,rfl,a7,λc v e=>sd _ _ e⟩ (λj σ H5 _ ⟨_,_,_,b⟩=>b _ _ G) ?_ ?_
  ·rintro j y σ H5 hy ⟨v4,rfl,h5,b⟩;obtain⟨p,Js,rfl,hj,zz,oK⟩:=fx hy;obtain⟨a,ha,hv⟩:=i7 (mv:=l) (k:=p) (by rw[ek];exact zz);have e1:=dm.f (k:=(VU p:Key)) (b _ _ G);rw[hv]at e1;have Py:=b _ _ (Hf _ ha);have Nx:=b _ _ Ms;have el:=yO g I r p;refine⟨_,rfl,_,rfl,d,_,rfl,e1,a,rfl,⟨_,aN.of Py⟩,λlm Ny=>?_⟩;refine comp_map (FK (bM g I r i)) (aO K a ((cR g I r p).map V.str)) Ny (by rw[Vn];exact av (by omega)) (λH' s'=>aN.of (s' _ _ Py)) (λz H6 Q' hz s6 qq=>?_) (λH6 s6 h6=>?_)
   ·obtain⟨t,U,rfl⟩:=Vx.mp hz;have e2:=dm.k (k:=(VU t:Key)) (s6 _ _ Nx);rw[qH _ (yP he U)]at e2;exact⟨_,rfl,_,rfl,dc,_,rfl,e2,qq H6 (a9.refl _)⟩
   ·rw[o6]at h6;refine⟨lm,_,rfl,aN.of h6,?_⟩;have SE:=s6 _ _ h5;refine⟨_,rfl,_,rfl,dl,_,rfl,iL.k (k:=VU p) SE (by rw[x8,VQ];exact bx (by omega)),?_⟩;refine⟨_,rfl,?_,λc v e=>by rw[aa (ae e Hg)];exact s6 _ _ (b c v e)⟩;rw[a7,cx _ (ue _ (gj nd Js)),oK,uf];rfl
  rintro σ H5 ⟨V3,rfl,h5,b⟩;rw[Vn,W6]at h5;have S:=b _ _ Nw;refine⟨_,rfl,.inl ⟨rfl,_,aN.of S⟩,_,rfl,lt,_,_,rfl,rfl,S,by rw[Vn];exact WO (m:=200000) (by omega) (by rw[Xq];decide),?_⟩;have SG:∀t,H5 t=some (.dK (Il g I r (i + 1)))->t≠lt:=λt e z=>by rw[z,S]at e;cases e
  refine⟨_,rfl,Z++[dl],dl,_,_,_,rfl,by rw[Vs,R];rfl,by rw[VY (by omega),R,Xy];rfl,by rw[a7,VE];rfl,?_,?_,?_,?_⟩
  ·intro j t U
   by_cases hj:j < Z.length
   ·rw[VZ hj]at U;have e:=b _ _ (LR j t U);rw[aa (λz=>by rw[z,S]at e;cases e)];exact e
   ·have SH:j=i + 1:=by
     have:=(Vu.mp U).1;rw[Vs,X8]at this;omega
    subst SH;rw[VY (by omega),R,Xy]at U;obtain rfl:dl=t:=VC U;rw[aa (SG _ h5)];exact h5
  ·have e:=b _ _ G;rw[aa (λz=>by rw[z,S]at e;cases e)];exact e
  ·intro m u;have e:=b _ _ (Hf m u)
   by_cases z:m.2=lt
   ·exfalso;have f:=LQ m u;rw[z,D]at f;cases f
   ·rw[aa z];exact e
  ·exact λc v e=>by rw[aa (ae e flt)];exact b _ _ (s4 _ _ e)
 ·rintro σ O ⟨Z,dc,v4,v6,v7,rfl,R,Px,Nw,LR,G,Hf,s4⟩;exact⟨_,rfl,k lt Z O s4 flt Nw R LR⟩
theorem sY(L:Lk K mg):aK P w K mg base dn 6 L.mO L.mP ["band","place","length"] (DC L.aB):=by
 refine L.iZ.F.eL (N:=["band","place","length"]) (λG A outer s H W Q E nd u h=>?_);obtain⟨x,p,n,g,v,y,ls,rfl,B,C,e,f,i,j,k⟩:=h;have I:=et u
 refine⟨_,(a6 (bH (mj (pv 0) L.aH.cl L.bz.m (fO L) (u.mono (by decide)) L.bz.b .nil fN (a5 (pv 1) a8)))
  (af (aw (cF I (bV cD (ai (jv L) L.eC (a5 (pv 0) (a5 (pv 2) a8))) (JI HC ag) (λ_ _=>rfl)) (pv 1) (λ_ _=>rfl))))),?_⟩
 obtain⟨⟨J,b,d,q,X,M,Y,Z,h4,h5,h6⟩,_,_,_⟩:=id B;refine⟨_,rfl,x,J,_,rfl,M,Fu _ _ _ _ (by decide+kernel) (by decide+kernel) (by decide+kernel) (by decide+kernel),_,rfl,x,p,g,v,y,ls,rfl,B,C,?_⟩;refine⟨_,rfl,_,rfl,x,n,g,v,y,ls,rfl,B,e,f,i,j,λl o O R f1 hl a S=>?_⟩;obtain⟨c,t,rfl⟩:∃l t,o=l++[t]:=⟨o.dropLast,o.getLast (by intro z;rw[z]at a;simp at a),(YJ _).symm⟩;have T:wx ((c++[t]).map V.ref) (-1)=some (.ref t):=by rw[VE];exact Cw _ _
 have r:c.length=n.toNat:=by rw[Vs,X8]at a;omega
 have U:=S n.toNat t (by rw[VY (by omega),r,Xy];rfl);have D:=dm.k (k:=(VU p:Key)) U;rw[qH _ C]at D;exact⟨_,rfl,l,_,-1,_,rfl,rfl,aN.of hl,T,_,rfl,t,_,rfl,D,k O R⟩
theorem Ep(L:Lk K mg):aK P w K mg base dn 7 L.Am L.An ["band","length"] (FN L.aB):=by
 refine L.vK.F.eL (N:=["band","length"]) (λi A outer s H l Q E nd m h=>?_);obtain⟨x,n,g,e,f,ls,rfl,B,a,b,c,d,k⟩:=h;refine⟨_,(af (aw (ai (sY L) L.iZ (a5 (pv 0) (a5 cw (a5 (pv 1) a8)))))),?_⟩;have j:("":Str)∈f:=B.pm.mem_iff.mpr (bS e);exact⟨_,rfl,_,rfl,x,"",n,g,e,f,ls,rfl,B,j,a,b,c,d,k⟩
theorem gU(L:Lk K mg):aK P w K mg base dn 1 L.rA L.rB ["thing"] DE:=by
 have T:=L.T;refine L.eX.F.eL (N:=["thing"]) (λa A outer s H c Q E nd d h=>?_);obtain⟨v,rfl,b,k⟩:=h;refine⟨_,(af (aw (nP (ax dN (by rfl) T.Gj vo (a5 (pv 0) (a5 (kz (v:=.ty "int") (by rfl) T.int N0 rfl) a8))) (qb (y6 (ax dN (by rfl) T.Gj vo (a5 (pv 0) (a5 (kz (v:=.ty "bool") (by rfl) T.bool Kp rfl) a8)))))))),?_⟩
 cases b with
 |flat f=>
  cases v with
  |non=>exact⟨_,rfl,_,_,_,false,rfl,dG.non,rfl,false,rfl,bB k⟩
  |bl z=>exact⟨_,rfl,_,_,_,true,rfl,dG.bl z,rfl,true,rfl,cP ⟨_,rfl,_,_,_,true,rfl,dG.bl z,rfl,true,rfl,k⟩⟩
  |int z=>exact⟨_,rfl,_,_,_,true,rfl,dG.int z,rfl,true,rfl,cP ⟨_,rfl,_,_,_,false,rfl,dG.int z,rfl,false,rfl,k⟩⟩
  |str z=>exact⟨_,rfl,_,_,_,false,rfl,dG.str z,rfl,false,rfl,bB k⟩
  |flt z=>exact⟨_,rfl,_,_,_,false,rfl,dG.flt z,rfl,false,rfl,bB k⟩
  |ref z=>cases f
  |ty z=>cases f
  |_=>cases f
 |lst h f=>exact⟨_,rfl,_,_,_,false,rfl,dG.lst h,rfl,false,rfl,bB k⟩
 |tup h f=>exact⟨_,rfl,_,_,_,false,rfl,dG.tup h,rfl,false,rfl,bB k⟩
 |dic h=>exact⟨_,rfl,_,_,_,false,rfl,dG.dK h,rfl,false,rfl,bB k⟩
theorem pE(L:Lk K mg):aK P w K mg base dn 1 L.rD L.rE ["band","wide"] (Bg L.aB):=by
 have T:=L.T;refine L.iW.F.eL (N:=["band","wide","rows","step"]) (λf A outer s H r Q E nd t h=>?_);obtain⟨x,n,g,u,v,ls,rfl,B,j,l,m,k⟩:=h
 refine⟨_,(a6 (aj (i:=2) ag)
  (a6 (b9 VS rfl (cL rfl T.range (a5 (pv 1) a8)) (az (i:=3)) (af (uV (i:=2) nd rfl (Y6 rfl) (ax bO (by rfl) T.len We (a5 (aX (pv 0) rfl) a8)) Ds)))
  (af (aw (pv 2))))),?_⟩
 obtain⟨⟨o,b,d,q,y,p,z,C,D,G,I⟩,_,_,_⟩:=id B;refine⟨_,rfl,n,rfl,by omega,by omega,d9 (lo:=0) (n:=n.toNat) (λi σ a=>a=H/\∃c,σ=[some (.ref x),some (.int n),some (.int ((g.length:Int) ^ i)),c]) ⟨rfl,none,rfl⟩ ?_ ?_⟩
 ·rintro i σ a hi ⟨e,c,rfl⟩;rw[e];refine⟨_,rfl,_,rfl,x,L.aB,o,_,_,rfl,p,L.aH.cl,L.aH.q5,lT g b d q,g,rfl,av (by omega),_,_,rfl,rfl,.inr ⟨by omega,by omega⟩,rfl,some (.int (0 + (i:Int))),?_⟩;rw[ZQ];rfl
 ·rintro σ a ⟨e,c,rfl⟩;rw[e];exact⟨_,rfl,k⟩
theorem zA:iH ["band","many","wide"] ["band","many","wide"] (ay (top 15)):=⟨rfl,rfl,rfl,by decide+kernel,rfl,by decide+kernel,by decide+kernel⟩
theorem rX(L:Lk K mg):aK P w K mg base dn 2 L.uE L.uF ["band","many","wide"] (BZ L.aB):=by
 refine L.kJ.F.ok zA (λq H Q E h=>?_) (λr A outer s H q Q E G h=>?_)
 ·rcases h with⟨x,many,wide,g,c,d,ls,rfl,_⟩ |⟨x,v,u,rfl,_⟩ <;> rfl
 ·rcases h with⟨x,many,wide,g,c,d,ls,rfl,B,a,e,k⟩ |⟨x,v,u,rfl,⟨g,c,d,ls,B,t,a,y,C,hn⟩,k⟩
  ·skip
   refine⟨_,(a6 (bE (PW.pt (g7 (cY (ck (ai (gU L) L.eX (a5 (pv 1) a8)))) (g7 (aA je (pv 1) ag (aL _)) (iD (aA jE (pv 1) ag (aL _)))))) (af (aw dM)) aJ)
    (a6 (bE (PW.pt (g7 (cY (ck (ai (gU L) L.eX (a5 (pv 2) a8)))) (g7 (aA je (pv 2) ag (aL _)) (iD (aA jE (pv 2) ag (aL _)))))) (af (aw dM)) aJ)
    (af (aw (fj GC (ai (pE L) L.iW (a5 (pv 0) (a5 (pv 2) a8))) ag (aL _)))))),?_⟩
   obtain⟨ha,I,hc,hd,D⟩:=id e;refine⟨_,rfl,.int many,rfl,.flat rfl,true,rfl,bB ?_⟩;refine⟨_,rfl,_,_,rfl,rfl,false,congrArg V.bl (decide_eq_false (by omega)),bB ?_⟩;refine⟨_,rfl,_,_,rfl,rfl,false,congrArg V.bl (decide_eq_false (by omega)),bB ?_⟩;refine⟨_,rfl,.int wide,rfl,.flat rfl,true,rfl,bB ?_⟩;refine⟨_,rfl,_,_,rfl,rfl,false,congrArg V.bl (decide_eq_false (by omega)),bB ?_⟩;refine⟨_,rfl,_,_,rfl,rfl,false,congrArg V.bl (decide_eq_false (by omega)),bB ?_⟩;refine⟨_,rfl,_,rfl,x,wide,g,c,d,ls,rfl,B,a,by omega,by omega,_,_,rfl,rfl,?_⟩;show Q (V.bl (decide ((g.length:Int) ^ wide.toNat<=64))) H;rw[decide_eq_true D];exact k
  ·skip
   refine⟨_,(a6 (bE (PW.pt (g7 (cY (ck (ai (gU L) L.eX (a5 (pv 1) a8)))) (g7 (aA je (pv 1) ag (aL _)) (iD (aA jE (pv 1) ag (aL _)))))) (af (aw dM)) aJ)
    (a6 (bE (PW.pt (g7 (cY (ck (ai (gU L) L.eX (a5 (pv 2) a8)))) (g7 (aA je (pv 2) ag (aL _)) (iD (aA jE (pv 2) ag (aL _)))))) (af (aw dM)) aJ)
    (af (aw (fj GC (ai (pE L) L.iW (a5 (pv 0) (a5 (pv 2) a8))) ag (aL _)))))),?_⟩
   by_cases l:∃many,v=.int many
   ·obtain⟨many,rfl⟩:=l;refine⟨_,rfl,.int many,rfl,.flat rfl,true,rfl,bB ?_⟩
    by_cases m:many < 2
    ·exact⟨_,rfl,_,_,rfl,rfl,true,congrArg V.bl (decide_eq_true m),cP k⟩
    refine⟨_,rfl,_,_,rfl,rfl,false,congrArg V.bl (decide_eq_false m),bB ?_⟩
    by_cases n:many > 8
    ·exact⟨_,rfl,_,_,rfl,rfl,true,congrArg V.bl (decide_eq_true n),cP k⟩
    refine⟨_,rfl,_,_,rfl,rfl,false,congrArg V.bl (decide_eq_false n),bB ?_⟩
    by_cases b:∃wide,u=.int wide
    ·obtain⟨wide,rfl⟩:=b;refine⟨_,rfl,.int wide,rfl,.flat rfl,true,rfl,bB ?_⟩
     by_cases o:wide < 1
     ·exact⟨_,rfl,_,_,rfl,rfl,true,congrArg V.bl (decide_eq_true o),cP k⟩
     refine⟨_,rfl,_,_,rfl,rfl,false,congrArg V.bl (decide_eq_false o),bB ?_⟩
     by_cases p:wide > 6
     ·exact⟨_,rfl,_,_,rfl,rfl,true,congrArg V.bl (decide_eq_true p),cP k⟩
     refine⟨_,rfl,_,_,rfl,rfl,false,congrArg V.bl (decide_eq_false p),bB ?_⟩;refine⟨_,rfl,_,rfl,x,wide,g,c,d,ls,rfl,B,a,by omega,by omega,_,_,rfl,rfl,?_⟩
     have f:¬(g.length:Int) ^ wide.toNat<=64:=λf=>by
      have i:=of_decide_eq_false (show decide (2<=many/\many<=8/\1<=wide/\wide<=6/\(g.length:Int) ^ wide.toNat<=64)=false from hn);exact i ⟨by omega,by omega,by omega,by omega,f⟩
     show Q (V.bl (decide ((g.length:Int) ^ wide.toNat<=64))) H;rw[decide_eq_false f];exact k
    ·have j:isInt u=false:=by
      cases u with
      |int z=>exact absurd ⟨_,rfl⟩ b
      |_=>rfl
     exact⟨_,rfl,u,rfl,C,false,by rw[j],cP k⟩
   ·have j:isInt v=false:=by
     cases v with
     |int z=>exact absurd ⟨_,rfl⟩ l
     |_=>rfl
    exact⟨_,rfl,v,rfl,y,false,by rw[j],cP k⟩
theorem hV(L:Lk K mg):aK P w K mg base dn 3 L.iX L.iY ["band","many","wide"] (qI L.aB):=by
 refine L.bR.F.eL (N:=["band","many","wide"]) (λc A outer s H f Q E nd i h=>?_);obtain⟨x,many,wide,g,d,e,ls,rfl,B,a,b,k⟩:=h
 refine⟨_,(a6 (bE (cY (ck (ai (rX L) L.kJ (a5 (pv 0) (a5 (pv 1) (a5 (pv 2) a8)))))) fT aJ)
  (af (aw dM))),?_⟩
 exact⟨_,rfl,_,rfl,_,rfl,.inl ⟨x,many,wide,g,d,e,ls,rfl,B,a,b,true,rfl,bB k⟩⟩
theorem uS(L:Lk K mg):aK P w K mg base dn 6 L.xM L.xN ["band","many","wide","most"] (Bo L.aB):=by
 have T:=L.T;refine L.mS.F.eL (N:=["band","many","wide","most","table","rows_of_data","length"]) (λgd A outer s H vs Q E nd hr h=>?_);obtain⟨x,many,wide,most,g,m,o,ls,rfl,B,r,G,t,Pz,SJ,Z⟩:=h;have k1:∀k:Nat,1<=k->(k:Int)<=most->bM g m o (k * wide.toNat) "" < many ^ k->(∀j:Nat,1<=j->j < k->¬bM g m o (j * wide.toNat) "" < many ^ j)->∀f,a9 H f->Q (.int (k:Nat)) f:=λk a b c d f I=>Z _ f I (.some k a b c d);have k2:(∀j:Nat,1<=j->(j:Int)<=most->¬bM g m o (j * wide.toNat) "" < many ^ j)->∀f,a9 H f->Q .non f:=λa f I=>Z _ f I (.none a);have hu:=et hr
 refine⟨_,(a6 (bH (ai (hV L) L.bR (a5 (pv 0) (a5 (pv 1) (a5 (pv 2) a8)))))
  (a6 (aj (i:=4) (ai (jv L) L.eC (a5 (pv 0) (a5 (aI fD (pv 3) (pv 2)) a8))))
  (a6 (aj (i:=5) ag)
  (a6 (b9 VS rfl (nQ rfl T.range (a5 ag (a5 (aI d2 (pv 3) ag) a8))) (az (i:=6)) (a6 (uV (i:=5) nd rfl (Y6 rfl) (pv 1) Ds)
  (af (bE (aA je (cF hu (bV cD (pv 4) (aI fD (pv 6) (pv 2)) (λ_ _=>rfl)) cw (λ_ _=>rfl)) (pv 5) (aL _)) (af (aw (pv 6))) aJ))))
  (af (aw gX)))))),?_⟩
 have he:("":Str)∈o:=B.pm.mem_iff.mpr (bS m);obtain⟨ha,hb,hc,hd,_⟩:=id t;obtain⟨e,u⟩:∃w:Nat,wide=(w:Int):=⟨wide.toNat,by omega⟩;obtain⟨v,J⟩:∃w:Nat,most=(w:Int):=⟨most.toNat,by omega⟩;have p:most * wide=((v * e:Nat):Int):=by rw[u,J,ZU]
 have V4:v * e<=600:=by
  have q:v<=100:=by omega
  have h2:e<=6:=by omega
  exact VF (Nat.mul_le_mul q h2) (by decide)
 have ew:wide.toNat=e:=by omega
 rw[ew]at k1 k2;refine⟨_,rfl,_,rfl,_,rfl,x,many,wide,g,m,o,ls,rfl,B,r,t,?_⟩;refine⟨_,rfl,_,rfl,_,rfl,_,_,rfl,rfl,.inl ⟨by omega,by omega⟩,x,most * wide,g,m,o,ls,rfl,B,r,G,by rw[p];omega,by rw[p];omega,λl M O s1 f1 hl R ht=>?_⟩;rw[p,W2]at R;refine⟨_,rfl,_,_,rfl,rfl,1,most + 1,rfl,⟨by omega,by omega,by omega,by omega⟩,d9 (lo:=1) (n:=(most + 1 - 1).toNat) (λi σ S=>S=O/\(∃v6,σ=[some (.ref x),some (.int many),some (.int wide),some (.int most),some (.ref l),some (.int (many ^ i)),v6])/\∀j:Nat,1<=j->j<=i->¬bM g m o (j * e) "" < many ^ j) ⟨rfl,⟨none,by rw[Int.pow_zero];rfl⟩,λj q h2=>by omega⟩ ?_ ?_⟩
 ·rintro i σ S hi ⟨U,⟨v6,rfl⟩,lo⟩;rw[U];have W:i + 1<=v:=by omega
  have PB:(i + 1) * e<=v * e:=Yb _ W;have y:(i + 1) * e < M.length:=by omega
  have e1:(M.map V.ref)[(i + 1) * e]?=some (.ref M[(i + 1) * e]):=by rw[Vt,Vp y];rfl
  have C:=cb e1;have ei:((((i + 1) * e:Nat)):Int)=(1 + (i:Int)) * wide:=by rw[u,ZU,ZS,Int.add_comm];rfl
  rw[ei]at C;have X:=ht _ _ (Vp y);have e3:=dm.k (k:=(VU "":Key)) X;rw[qH _ he]at e3;refine⟨_,rfl,_,rfl,_,_,rfl,rfl,.inr ⟨by omega,by omega⟩,?_⟩;refine⟨_,rfl,_,rfl,_,rfl,_,_,rfl,rfl,.inr ⟨by omega,by omega⟩,l,_,_,_,rfl,rfl,aN.of hl,C,_,_,rfl,e3,_,rfl,_,_,rfl,rfl,_,rfl,?_⟩;refine CI (λq=>?_) (λq=>⟨rfl,⟨_,by rw[ZQ];rfl⟩,λj D q2=>?_⟩)
  ·have Y:=of_decide_eq_true q;have:=k1 (i + 1) (by omega) (by omega) (by rw[ZQ];exact Y) (λj D q2=>lo j D (by omega)) O s1;rw[show (((i + 1:Nat):Nat):Int)=1 + (i:Int) by omega]at this;exact⟨_,rfl,this⟩
  ·by_cases hj:j<=i
   ·exact lo j D hj
   ·obtain rfl:j=i + 1:=by omega
    rw[ZQ];exact λz=>q (decide_eq_true z)
 ·rintro σ S ⟨U,⟨v6,rfl⟩,lo⟩;rw[U];exact k2 (λj D q2=>lo j D (by omega)) O s1
theorem m7(L:Lk K mg):aK P w K mg base dn 1 L.gO L.gP ["self","place"] (N6 L.aB):=by
 have T:=L.T;refine L.cW.F.eL (N:=["self","place"]) (λa A outer s H l Q E nd m h=>?_);obtain⟨x,p,g,n,o,ls,rfl,B,c,k⟩:=h;obtain⟨⟨f,b,d,q,r,i,t,u,y,z,j⟩,_,_,_⟩:=B;refine⟨_,(af (bE (PW.pt (g7 (cY (ck (ax dN (by rfl) T.Gj vo (a5 (pv 1) (a5 (kz (v:=.ty "str") (by rfl) T.str Fl rfl) a8))))) (iD (aA iK (pv 1) (aX (pv 0) rfl) rfl)))) fT aJ)),?_⟩;refine⟨_,rfl,_,_,_,true,rfl,dG.str p,rfl,true,rfl,bB ?_⟩;refine⟨_,rfl,_,rfl,x,L.aB,f,_,_,rfl,i,L.aH.cl,L.aH.ou,u0 g b d q,q,_,rfl,.inl (aN.of j),rfl,dP _,?_⟩;have e:kM (.str p) (ls.map V.str)=true:=by rw[gf];exact decide_eq_true c
 refine⟨false,?_,bB k⟩;show V.bl (!kM (.str p) (ls.map V.str))=V.bl false;rw[e];rfl
theorem rY(L:Lk K mg):aK P w K mg base dn 3 L.kY L.kZ ["band","rows"] (Dv L.aB):=by
 refine L.hO.F.eL (N:=["band","rows","longer","word","place","sign","end"]) (λgd A outer s H vs Q E nd hr h=>?_);obtain⟨x,l,rs,u,g,v,n,ls,rfl,B,R,hq,Hh,EG,k⟩:=h
 refine⟨_,(a6 (aj (i:=2) (cC a8))
  (a6 (b9 VS rfl (aM (pv 1)) (gY rfl (b6 (az (i:=3)) (b6 (az (i:=4)) fi))) (af (b9 VS rfl (qm (aX (pv 0) rfl)) (az (i:=5)) (a6 (aj (i:=6) (mj (pv 0) L.aH.cl L.fb.m (pD L) (hr.mono (by decide)) L.fb.b .nil fN (a5 (pv 4) (a5 (pv 5) a8))))
  (af (bE (aA uX (pv 6) gX (aL _)) (af (bH (jf Wv WD WR df (pv 2) (a5 (cB (a5 (aI g8 (pv 3) (pv 5)) (a5 (pv 6) a8))) a8)))) aJ))))))
  (af (aw (pv 2))))),?_⟩
 refine⟨Wb _,λz C=>?_⟩;have s0:a9 H (upd H z (.lst [])):=a9.upd C;refine⟨_,rfl,l,rfl,⟨_,aN.of (s0 _ _ R.l)⟩,cZ (K:=K) (a:=l) (xs:=rs.map V.ref) (λi σ S=>∃(v3 v4 D v6:Option V) (f:List Addr),σ=[some (.ref x),some (.ref l),some (.ref z),v3,v4,D,v6]/\a9 H S/\cH S z f (cU g v n (u.take i))) ⟨none,none,none,none,[],rfl,s0,⟨a7,bY.nil _⟩⟩ (λi σ S _ ⟨_,_,_,_,_,_,G,_⟩=>aN.of (G _ _ R.l)) ?_ ?_⟩
 ·rintro i y σ S I ⟨v3,v4,D,v6,f,rfl,G,R2⟩;rw[Vt]at I
  obtain⟨r,T,rfl⟩:∃r,rs[i]?=some r/\y=.ref r:=by
   cases q:rs[i]? with
   |none=>rw[q]at I;cases I
   |some r=>rw[q]at I;exact⟨r,rfl,(VC I).symm⟩
  have U:i < u.length:=by have:=(Vu.mp T).1;rw[R.len]at this;exact this
  have W:u[i]?=some u[i]:=Vp U;obtain⟨X,Y⟩:=hq u[i] (Wg U);have hT:=R.t.2 i r (oV u[i]) T (by rw[Vt,W];rfl);have oK:u.take (i + 1)=u.take i++[u[i]]:=by rw[Ws,W];rfl
  have J:cU g v n (u.take (i + 1))=cU g v n (u.take i)++eR g v n u[i]:=by
   unfold cU;rw[oK,wbR];simp
  have PD:(cU g v n (u.take i)).length<=1000:=by
   have h1:=oU g v n (u.take i);have h2:(u.take i).length<=100:=by rw[VQ];omega
   exact VF h1 (Nat.mul_le_mul h2 EG)
  generalize u[i]=q at X Y hT J;obtain⟨w,p⟩:=q;generalize cU g v n (u.take i)=M at R2 J PD;refine⟨r,_,rfl,jA.of (G _ _ hT),rfl,_,_,rfl,_,_,rfl,rfl,?_⟩;have B2:=B.same G;obtain⟨⟨dx,b,d,qq,mv,h1,h2,h3,h4,h5,h6⟩,pm,_,_⟩:=id B2;refine⟨_,rfl,x,L.aB,dx,_,_,rfl,h1,L.aH.cl,L.aH.q5,lT g b d qq,g,rfl,lL (jI g) (λj σ Z=>∃(D v6:Option V) (f:List Addr),σ=[some (.ref x),some (.ref l),some (.ref z),some (.str w),some (.str p),D,v6]/\a9 H Z/\cH Z z f (M++((ch g).take j).filterMap λc=>if bears v (p++⟨#[c]⟩)=true then none else some (w++⟨#[c]⟩,lend n (p++⟨#[c]⟩)))) ⟨_,_,f,rfl,G,by rw[wcJ,List.filterMap_nil,Wr];exact R2⟩ (λ_ _ _ _ _=>trivial) ?_ ?_⟩
  ·rintro j y σ Z I ⟨D,v6,f,rfl,s3,R3⟩;obtain⟨c,V5,rfl,hj,SK,KZ⟩:=B7 I;have B3:=B.same s3;obtain⟨⟨SM,_,_,_,_,SN,_⟩,_⟩:=id B3;refine⟨_,rfl,x,SM,_,rfl,SN,Fu _ _ _ _ (by decide+kernel) (by decide+kernel) (by decide+kernel) (by decide+kernel),_,rfl,_,rfl,x,p,c,g,v,n,ls,rfl,B3,X,SK,?_⟩
   have Nz:(M++((ch g).take j).filterMap λc=>if bears v (p++⟨#[c]⟩)=true then none else some (w++(⟨#[c]⟩:Str),lend n (p++(⟨#[c]⟩:Str)))).length<=1010:=by
    have:=Z6 (λc=>if bears v (p++⟨#[c]⟩)=true then none else some (w++(⟨#[c]⟩:Str),lend n (p++(⟨#[c]⟩:Str)))) ((ch g).take j);rw[VQ,aE]at this;rw[Vs];omega
   refine⟨_,rfl,rfl,_,rfl,?_⟩;rw[KZ,wbp,<-Wx];generalize (M++((ch g).take j).filterMap λc=>if bears v (p++⟨#[c]⟩)=true then none else some (w++(⟨#[c]⟩:Str),lend n (p++(⟨#[c]⟩:Str))))=M2 at R3 Nz
   cases hb:bears v (p++⟨#[c]⟩) with
   |true=>
    have e:pW v n p c=.non:=by unfold pW;rw[hb];rfl
    rw[e];refine bB ⟨_,_,f,rfl,s3,?_⟩
    have e2:([c].filterMap λc=>if bears v (p++⟨#[c]⟩)=true then none else some (w++(⟨#[c]⟩:Str),lend n (p++(⟨#[c]⟩:Str))))=[]:=by
     rw[Wq,hb];rfl
    rw[e2,Wr];exact R3
   |false=>
    have e:pW v n p c=.str (lend n (p++⟨#[c]⟩)):=by unfold pW;rw[hb];rfl
    rw[e]
    have e2:([c].filterMap λc=>if bears v (p++⟨#[c]⟩)=true then none else some (w++(⟨#[c]⟩:Str),lend n (p++(⟨#[c]⟩:Str))))=[(w++⟨#[c]⟩,lend n (p++⟨#[c]⟩))]:=by
     rw[Wq,hb];rfl
    rw[e2];have Gs:=R3.len;have SQ:w.length<=100:=Y;refine cP ⟨_,rfl,.inl ⟨rfl,_,aN.of R3.l⟩,_,rfl,_,rfl,_,_,rfl,rfl,av (by show w.length + 1<=_;omega),_,rfl,by show 2<=sizeLine;decide,λr' O=>?_⟩;refine⟨z,_,_,rfl,rfl,a9.upd O _ _ R3.l,by rw[Vn,Gs];exact WO Nz (by rw[Xq];decide),?_⟩;have key:=R3.push O (w++⟨#[c]⟩,lend n (p++⟨#[c]⟩))
    have sk:a9 H (upd (upd Z r' (.tup [.str (w++⟨#[c]⟩),.str (lend n (p++⟨#[c]⟩))])) z (.lst (f.map V.ref++[.ref r']))):=λa o ea=>by
     rw[aa (ae ea C)];exact a9.upd O _ _ (s3 _ _ ea)
    unfold oV at key;generalize lend n (p++⟨#[c]⟩)=le at key sk ⊢;refine⟨some (.str ⟨#[c]⟩),some (.str le),f++[r'],?_,?_,?_⟩
    ·rfl
    ·exact sk
    ·exact key
  ·rintro σ Z ⟨D,v6,f,rfl,s3,R3⟩;refine⟨_,_,_,_,f,rfl,s3,?_⟩;have:(cQ g).length=(ch g).length:=by unfold cQ;rw[Vn]
   rw[this,W6]at R3;rw[J];exact R3
 ·rintro σ S ⟨v3,v4,D,v6,f,rfl,G,R2⟩;rw[Vn,R.len,W6]at R2;exact⟨_,rfl,k z f S G C R2⟩
theorem ku(L:Lk K mg):aK P w K mg base dn 4 L.lg L.lj ["band","place","wide"] (Dw L.aB):=by
 have T:=L.T;refine L.fk.F.eL (N:=["band","place","wide","rows","step","live"]) (λgd A outer s H vs Q E nd D h=>?_);obtain⟨x,p,n,g,c,a,ls,rfl,B,hp,o,hn,BX,R,k⟩:=h
 refine⟨_,(a6 (bH (mj (pv 0) L.aH.cl L.cW.m (m7 L) (D.mono (by decide)) L.cW.b .nil fN (a5 (pv 1) a8)))
  (a6 (aj (i:=3) (cC (a5 (cB (a5 cw (a5 (pv 1) a8))) a8)))
  (a6 (b9 VS rfl (cL rfl T.range (a5 (pv 2) a8)) (az (i:=4)) (af (aj (i:=3) (ai (rY L) L.hO (a5 (pv 0) (a5 (pv 3) a8))))))
  (a6 (aj (i:=5) (jF (pv 0) L.aH.cl L.cA.m (jd L) (D.mono (by decide)) L.cA.b .nil fN))
  (af (aw (fz rfl (au ["live"] [5]) (au ["live"] [5]) (by decide) (aM (pv 3)) (λ_ _ _ _ _ _=>dF (aA (eQ (K:=K) rfl) (pv 1) (pv 2) rfl)) (λ_ _ _ _ _ _=>(cB (a5 (pv 0) (a5 (pv 1) a8))))))))))),?_⟩
 have he:("":Str)∈a:=B.pm.mem_iff.mpr (bS c);have S:p∈a:=B.lv.sub.subset hp;obtain⟨⟨dx,b,d,q,mv,u,G,h3,h4,h5,h6⟩,pm,_,_⟩:=id B;refine⟨_,rfl,x,dx,_,rfl,u,Fu _ _ _ _ (by decide+kernel) (by decide+kernel) (by decide+kernel) (by decide+kernel),_,rfl,x,p,g,c,a,ls,rfl,B,hp,?_⟩;refine⟨_,rfl,by show 2<=sizeLine;decide,λf U=>⟨by show 1<=sizeLine;decide,λI v=>?_⟩⟩
 have R0:cH (upd (upd H f (.tup [.str "",.str p])) I (.lst [.ref f])) I [f] (hF g c a p 0):=by
  refine⟨a7,rfl,λi r xs u G=>?_⟩
  match i,u,G with
  |0,u,G=>
   cases u;cases G;exact a9.upd v _ _ a7
 have s0:a9 H (upd (upd H f (.tup [.str "",.str p])) I (.lst [.ref f])):=(a9.upd U).trans (a9.upd v);refine⟨_,rfl,(n:Int),rfl,by omega,by omega,?_⟩;rw[W2];refine d9 (lo:=0) (n:=n) (λi σ J=>∃(l:Addr) (y:List Addr) (v4:Option V),σ=[some (.ref x),some (.str p),some (.int (n:Int)),some (.ref l),v4,none]/\a9 H J/\cH J l y (hF g c a p i)) ⟨I,[f],none,rfl,s0,R0⟩ ?_ ?_
 ·rintro i σ J hi ⟨l,y,v4,rfl,j,R2⟩;have e:(hF g c a p i).length<=100:=VF (mF g c a p i) (VF (wbD (by omega) (by omega)) o);refine⟨_,rfl,_,rfl,x,l,y,_,g,c,a,ls,rfl,B.same j,R2,λr D=>?_,e,R,λl' W H3 z f3 R3=>⟨l',W,_,rfl,j.trans z,R3⟩⟩;obtain⟨a1,a2⟩:=qM he S i r D;exact⟨a1,by omega⟩
 ·rintro σ J ⟨l,y,v4,rfl,j,R2⟩;have B2:=B.same j;obtain⟨⟨X,_,_,_,_,Y,_⟩,_⟩:=id B2;refine⟨_,rfl,x,X,_,rfl,Y,Fu _ _ _ _ (by decide+kernel) (by decide+kernel) (by decide+kernel) (by decide+kernel),x,g,c,a,ls,rfl,B2,λlv H3 z f3 Z=>?_⟩;have R3:=R2.same z;have e:(hF g c a p n).length<=100:=VF (mF g c a p n) o;have Gs:=R3.len;refine⟨_,rfl,l,rfl,⟨_,aN.of R3.l⟩,λlr C=>?_⟩;refine Bl (prs:=(hF g c a p n).map mG) (λq=>kM q.2 (ls.map V.str)) mE (aO K l (y.map V.ref)) (by rw[Aa];exact R3.t) C (av (by omega)) (λH' s'=>aN.of (s' _ _ R3.l)) (λqv M Q' hq O qq=>?_) (λqv M Q' hq _ O qq=>?_) (λys M O SR t4=>?_)
  ·obtain⟨q',_,rfl⟩:=Vx.mp hq;exact⟨_,rfl,_,rfl,lv,_,rfl,.inl (aN.of (O _ _ Z)),rfl,dP _,_,rfl,qq M (a9.refl _)⟩
  ·exact⟨_,rfl,_,rfl,by show 2<=sizeLine;decide,λr' NA=>qq r' _ (a9.upd NA) a7⟩
  ·rw[xk]at t4;exact k lr ys M ((j.trans z).trans O) (none_of (j.trans z) C) ⟨SR,t4⟩
theorem sZ(L:Lk K mg):aK P w K mg base dn 5 L.mQ L.mR ["band","wide"] (xm L.aB):=by
 refine L.j0.F.eL (N:=["band","wide","ends","place"]) (λgd A outer s H vs Q E nd hr h=>?_);obtain⟨x,n,g,J,M,ls,rfl,B,EH,hn,BX,EG,C3,k⟩:=h;have hu:=et hr
 refine⟨_,(a6 (aj (i:=2) dC)
  (a6 (b9 VS rfl (aM (jF (pv 0) L.aH.cl L.cA.m (jd L) (hr.mono (by decide)) L.cA.b .nil fN)) (az (i:=3)) (af (dE hu (pv 2) (pv 3) (fz rfl (au [] []) (au [] []) (by decide) (aM (ai (ku L) L.fk (a5 (pv 0) (a5 (pv 3) (a5 (pv 1) a8))))) (λ_ _ _ _ _ _=>bI) (λ_ _ _ _ _ _=>(pv 1))) rfl)))
  (af (aw (pv 2))))),?_⟩
 refine λu v=>?_;have Y:a9 H (upd H u (.dK [])):=a9.upd v;have B0:=B.same Y;obtain⟨⟨dx,b,d,q,mv,h1,h2,h3,h4,h5,h6⟩,pm,_,_⟩:=id B0;refine⟨_,rfl,x,dx,_,rfl,h1,Fu _ _ _ _ (by decide+kernel) (by decide+kernel) (by decide+kernel) (by decide+kernel),x,g,J,M,ls,rfl,B0,λlp Z S f1 T=>?_⟩;have LO:lp≠u:=λz=>by rw[z,a7]at f1;cases f1
 have nd:ls.Nodup:=B.nd.sublist B.lv.sub;have Br:ls.length<=900:=VF B.lv.sub.length_le C3
 refine⟨lp,rfl,⟨_,aN.of T⟩,cZ (K:=K) (a:=lp) (xs:=ls.map V.str) (λi σ H2=>∃v3 r,σ=[some (.ref x),some (.int (n:Int)),some (.ref u),v3]/\H2 u=some (.dK (bh r))/\r.map (·.1)=ls.take i/\(∀m∈r,H2 m.2=some (.lst (((aF g J M ls n m.1).map (·.2)).map V.str)))/\(∀m∈r,Z m.2=none)/\(∀c o,Z c=some o->c≠u->H2 c=some o))
  ⟨none,[],rfl,S _ _ a7,rfl,λm C=>(nomatch C),λm C=>(nomatch C),λc o e _=>e⟩ (λi σ H2 _ ⟨_,_,_,_,_,_,_,O⟩=>aN.of (O _ _ T LO)) ?_ ?_⟩
 ·rintro i y σ H5 hy ⟨v3,r,rfl,D,f,j,G,O⟩;obtain⟨p,KY,rfl,hi,zz,oK⟩:=fx hy;have Np:a9 H H5:=λc o e=>O _ _ (S _ _ (Y _ _ e)) (ae e v);refine⟨_,rfl,_,rfl,_,rfl,x,p,n,g,J,M,ls,rfl,B.same Np,zz,EH,hn,BX,EG,λlb rs H6 s6 f6 R6=>?_⟩;have PF:=eS g J M ls n p;have Gs:=R6.len;refine⟨lb,rfl,⟨_,aN.of R6.l⟩,λe he=>?_⟩;refine iU (prs:=(aF g J M ls n p).map mG) (λ_=>true) (λq=>q.2) (aO K lb (rs.map V.ref)) (by rw[Aa];exact R6.t) he (av (by omega)) (λH' s'=>aN.of (s' _ _ R6.l)) (λq H7 Q' _ _ qq=>qq H7 (a9.refl _)) (λq H7 Q' _ _ _ qq=>⟨_,rfl,qq H7 (a9.refl _)⟩) (λH7 s7 h7=>?_)
  have e7:(((aF g J M ls n p).map mG).filter λ_=>true).map (λq=>q.2)=((aF g J M ls n p).map (·.2)).map V.str:=by
   rw[WU.mpr (λ_ _=>rfl),VG,VG];rfl
  rw[e7]at h7;have R:=s6.trans s7;have d6:=R _ _ D;have I:H5 e=none:=none_of s6 he;have U:p∉r.map (·.1):=by rw[f];exact gj nd KY
  have Nq:r.length<=900:=by have:=congrArg YT f;rw[Vn,VQ]at this;omega
  refine⟨_,rfl,_,rfl,u,_,rfl,iL.k (k:=VU p) d6 (by unfold bh;rw[Vn];exact bx (by omega)),?_⟩;have W:e≠u:=λz=>by rw[z,D]at I;cases I
  have e1:Z e=none:=by
   cases q:Z e with
   |none=>rfl
   |some o=>
    have:=O _ _ q W;rw[this]at I;cases I
  refine⟨_,r++[(p,e)],rfl,?_,?_,?_,?_,?_⟩
  ·rw[a7,cx _ (iO U)];unfold bh;rw[VE];rfl
  ·rw[VE,f,oK];rfl
  ·intro m C;rcases VP.mp C with z |z
   ·have nm:m.2≠u:=λq=>by
     have:=G m z;rw[q,S _ _ a7]at this;cases this
    rw[aa nm];exact R _ _ (j m z)
   ·have:m=(p,e):=by simpa using z
    subst this;rw[aa W];exact h7
  ·intro m C;rcases VP.mp C with z |z
   ·exact G m z
   ·have:m=(p,e):=by simpa using z
    subst this;exact e1
  ·intro c o hc X;rw[aa X];exact R _ _ (O c o hc X)
 ·rintro σ H5 ⟨v3,r,rfl,D,f,j,G,O⟩;rw[Vn,W6]at f;exact⟨_,rfl,k u r H5 (λc o e=>O _ _ (S _ _ (Y _ _ e)) (ae e v)) v D f j λm C=>none_of Y (none_of S (G m C))⟩
theorem vR(L:Lk K mg):aK P w K mg base dn 1 L.pe L.pf ["places","weights"] (Dx K):=by
 have T:=L.T;refine L.jT.F.eL (N:=["places","weights"]) (λj A outer s H y Q E nd n h=>?_);obtain⟨l,d,o,m,f,rfl,g,p,hd,hw,k⟩:=h;have q:=et n;refine⟨_,(af (aw (ax (mB rfl) (by rfl) T.sum Dl (a5 (cT rfl (au ["weights"] [1]) (aM (pv 0)) (λ_ _ _ _ _ _=>bI) (λ_ _ _ _ _ _=>(cF q (pv 1) (pv 0) (λ_ _=>rfl)))) a8)))),?_⟩;refine⟨_,rfl,l,rfl,⟨_,g⟩,λr a=>?_⟩;refine comp_map (FK f) (aO K l (o.map V.str)) a (by rw[Vn];exact av (by omega)) (λB t=>t.seq g) (λz b C u c v=>?_) (λb c i=>?_)
 ·obtain⟨e,x,rfl⟩:=Vx.mp u;have g3:=dm.rd (k:=(VU e:Key)) (hd.same c);rw[cN,hw e x]at g3;exact⟨_,rfl,_,rfl,d,_,rfl,g3,v b (a9.refl _)⟩
 ·rw[o6]at i;exact⟨r,_,rfl,aN.of i,k b c⟩
theorem zB(L:Lk K mg):aK P w K mg base dn 2 L.uG L.uH ["ends","many","weights"] Bn:=by
 have T:=L.T;refine L.ow.F.eL (N:=["ends","many","weights","lower","place"]) (λX A outer s H vs Q E nd Y h=>?_);obtain⟨z,C,many,n,o,O,f,g,r,t,ls,rfl,l,R,Z,EH,nd,Br,V6,SU,D,k⟩:=h;have G:=et Y
 refine⟨_,(a6 (aj (i:=3) dC)
  (a6 (b9 VS rfl (pY (pv 0)) (az (i:=4)) (af (dE G (pv 3) (pv 4) (ax (tI rfl) (by rfl) T.min Ik (a5 (cF G (pv 2) (pv 4) (λ_ _=>rfl)) (a5 (aI mh (ai (vR L) L.jT (a5 (cF G (pv 0) (pv 4) (λ_ _=>rfl)) (a5 (pv 2) a8))) (pv 1)) a8))) rfl)))
  (af (aw (pv 3))))),?_⟩
 refine λdl m=>?_;have S:a9 H (upd H dl (.dK [])):=a9.upd m;have J:=ib z o (bh O);rw[gg,R]at J;refine⟨_,rfl,z,_,rfl,.inr ⟨o,S _ _ l,?_⟩⟩;refine lL J (λj σ u=>∃(v4:Option V),σ=[some (.ref z),some (.int many),some (.ref C),some (.ref dl),v4]/\u dl=some (.dK (aZ (bU (ie g r t ls many n f) (ls.take j))))/\a9 H u) ⟨none,rfl,a7,S⟩ (λj σ u _ ⟨_,_,_,b⟩=>b _ _ l) ?_ ?_
 ·rintro j y σ u hy ⟨v4,rfl,B,b⟩;obtain⟨p,I,rfl,hj,v,oK⟩:=fx hy;have d:=D.same b;have g3:=dm.rd (k:=(VU p:Key)) d;rw[cN,gK f ls p v]at g3;obtain⟨a,ha,hv⟩:=i7 (mv:=O) (k:=p) (by rw[R];exact v);have U:=dm.f (k:=(VU p:Key)) (b _ _ l);rw[hv]at U;have M:=b _ _ (Z _ ha);have PF:=eS g r t ls n p;refine⟨_,rfl,_,rfl,C,_,rfl,g3,_,rfl,_,rfl,z,_,rfl,U,_,rfl,a,C,(aF g r t ls n p).map (·.2),_,f,rfl,aN.of M,by rw[Vn];omega,d,λe he=>?_,λH4 W=>?_⟩
  ·obtain⟨q,hq,rfl⟩:=Vx.mp he;exact gK f ls _ (cq hq)
  have eb:(((aF g r t ls n p).map (·.2)).map f).sum=eu g r t ls n f p:=by unfold eu;rw[VG];rfl
  refine⟨_,rfl,_,_,rfl,rfl,⟨by omega,by omega⟩,_,_,rfl,?_⟩;have h4:=W _ _ B;have x:p∉(bU (ie g r t ls many n f) (ls.take j)).map (·.1):=by rw[o9];exact gj nd I
  refine⟨_,rfl,_,rfl,dl,_,rfl,iL.k (k:=VU p) h4 (by rw[ic];unfold bU;rw[Vn,VQ];exact bx (by omega)),?_⟩;refine⟨_,rfl,?_,λc oc e=>?_⟩
  ·rw[a7,o7 x,eb,oK];unfold bU;rw[VE];rfl
  ·rw[aa (ae e m)];exact W _ _ (b _ _ e)
 ·rintro σ u ⟨v4,rfl,B,b⟩;rw[Vn,W6]at B;exact⟨_,rfl,k dl u b m B⟩
theorem pF(L:Lk K mg):aK P w K mg base dn 6 L.m4 L.rH ["band","many","wide","most"] (FR L.aB):=by
 refine L.j1.F.eL (N:=["band","many","wide","most","ends","weights","place","lower"]) (λgd A outer s H vs Q E nd hr h=>?_);obtain⟨x,many,n,most,g,v,C,ls,rfl,B,BX,W,X,Y,Pz,k⟩:=h;have hu:=et hr;have KR:(A.deeper (YV "greatest" (ay (top 29)) s.heap.objs.size L.m4 gd)).units < Yt:=hr.uZ
 refine⟨_,(a6 (bH (ai (hV L) L.bR (a5 (pv 0) (a5 (pv 1) (a5 (pv 2) a8)))))
  (a6 (aj (i:=4) (ai (sZ L) L.j0 (a5 (pv 0) (a5 (pv 2) a8))))
  (a6 (aj (i:=5) dC)
  (a6 (b9 VS rfl (xj (pv 4)) (az (i:=6)) (af (dE hu (pv 5) (pv 6) (pv 3) rfl)))
  (af (i3 VS (ck dM) (a6 (aj (i:=7) (ai (zB L) L.ow (a5 (pv 4) (a5 (pv 1) (a5 (pv 5) a8)))))
  (a6 (bE (aA (Ir KR) (pv 7) (pv 5) (aL _)) (af (aw (pv 5))) aJ)
  (af (aj (i:=5) (pv 7))))))))))),?_⟩
 obtain⟨Z,rb,rc,rd,re⟩:=id Y
 have EH:g.length ^ n<=64:=by
  rw[W2]at re;have:((g.length ^ n:Nat):Int)<=64:=by rw[YX];exact re
  omega
 have nd:ls.Nodup:=B.nd.sublist B.lv.sub;have Br:ls.length<=900:=VF B.lv.sub.length_le X;refine⟨_,rfl,_,rfl,_,rfl,x,many,n,g,v,C,ls,rfl,B,W,Y,?_⟩;refine⟨_,rfl,_,rfl,x,n,g,v,C,ls,rfl,B,by omega,by omega,BX,W,X,λd I H1 s1 Nr h1 ek er ef=>?_⟩;have SV:∀q∈I,q.2≠d:=λq hq z=>by have:=er q hq;rw[z,h1]at this;cases this
 refine λa b=>?_;have M:d≠a:=ae h1 b;have PH:(upd H1 a (.dK [])) d=some (.dK (bh I)):=a9.upd b _ _ h1;refine⟨_,rfl,d,_,rfl,.inl PH,λo H2 h2 l=>?_⟩;have O:H2 a=some (.dK []):=by rw[l a (WQ M),a7]
 have s2:a9 H H2:=λc R e=>by
  rw[l c (ae e Nr)];exact a9.upd b _ _ (s1 _ _ e)
 have S:∀m∈I,H2 m.2=some (.lst (((aF g v C ls n m.1).map (·.2)).map V.str)):=λm r=>by
  rw[l _ (SV m r)];exact a9.upd b _ _ (er m r)
 have t:H a=none:=none_of s1 b;have J:=ib d o (bh I);rw[gg,ek]at J;refine lL J (λj σ u=>∃(v6:Option V),σ=[some (.ref x),some (.int many),some (.int (n:Int)),some (.int most),some (.ref d),some (.ref a),v6,none]/\u a=some (.dK (aZ (bU (λ_=>most) (ls.take j))))/\∀c R,H2 c=some R->c≠a->u c=some R) ⟨none,rfl,O,λc R e _=>e⟩ (λj σ u _ ⟨_,_,_,D⟩=>D _ _ h2 M) ?_ ?_
 ·rintro j y σ u hy ⟨v6,rfl,h3,D⟩;obtain⟨p,Js,rfl,hj,zz,oK⟩:=fx hy;have Eo:p∉(bU (λ_=>most) (ls.take j)).map (·.1):=by rw[o9];exact gj nd Js
  refine⟨_,rfl,_,rfl,_,rfl,a,_,rfl,iL.k (k:=VU p) h3 (by rw[ic];unfold bU;rw[Vn,VQ];exact bx (by omega)),?_⟩;refine⟨_,rfl,?_,λc R e hc=>by rw[aa hc];exact D c R e hc⟩;rw[a7,o7 Eo,oK];unfold bU;rw[VE];rfl
 rintro σ u ⟨v6,rfl,h3,D⟩;rw[Vn,W6]at h3;have Nv:=D _ _ h2 M;have s3:a9 H u:=λc R e=>D _ _ (s2 _ _ e) (ae e t);have ND:∀m∈I,m.2≠a:=λm r z=>by have:=S m r;rw[z,O]at this;cases this
 have LQ:∀m∈I,u m.2=some (.lst (((aF g v C ls n m.1).map (·.2)).map V.str)):=λm r=>D _ _ (S m r) (ND m r);clear D h2 O S er h1 l PH J b
 refine⟨λq σ H4=>∃(a:Addr) (f:Str->Int) (v6 v7:Option V),q=(ls.map λp=>(f p).toNat).sum/\σ=[some (.ref x),some (.int many),some (.int (n:Int)),some (.int most),some (.ref d),some (.ref a),v6,v7]/\a9 u H4/\H a=none/\H4 a=some (.dK (aZ (bU f ls)))/\(∀p∈ls,0<=f p)/\(∀p∈ls,f p<=most)/\(∀h:Str->Int,(∀p∈ls,h p<=most)->y2 g v C ls many n h->∀p∈ls,h p<=f p),
  ⟨_,a,λ_=>most,v6,none,rfl,rfl,a9.refl _,t,h3,λ_ _=>Pz,λ_ _=>Xh _,λh hh _ p hp=>hh p hp⟩,?_⟩
 rintro q σ H4 ⟨a,f,v6,v7,rfl,rfl,s4,t,h4,T,PK,PL⟩;refine⟨true,rfl,cP ?_⟩;refine⟨λσ' H'=>∃(dl:Addr) (v6 v7:Option V),σ'=[some (.ref x),some (.int many),some (.int (n:Int)),some (.int most),some (.ref d),some (.ref dl),v6,v7]/\a9 u H'/\H dl=none/\H' dl=some (.dK (aZ (bU (ie g v C ls many n f) ls)))/\¬∀p∈ls,ie g v C ls many n f p=f p,?_,?_⟩
 ·rintro σ' H' ⟨dl,v6,v7,rfl,s',U,h',yr⟩;exact⟨_,yZ Z T yr,dl,_,_,_,rfl,rfl,s',U,h',yY Z T,λp hp=>Xz (yX many n f p) (PK p hp),λh hh G=>uj Z G (PL h hh G)⟩
 ·refine⟨_,rfl,_,rfl,_,rfl,d,a,many,n,o,I,f,g,v,C,ls,rfl,s4 _ _ Nv,ek,λm r=>s4 _ _ (LQ m r),by omega,nd,Br,Z,rb,.inl h4,λdl H5 s5 U h5=>?_⟩;have PN:=s5 _ _ h4;refine⟨_,rfl,_,rfl,dl,a,_,_,rfl,rfl,.inl h5,.inl PN,qN _,qN _,_,rfl,?_⟩;refine CI (λhe=>?_) (λhe=>?_)
  ·have e:=GR.mp he;exact⟨_,rfl,k a f H5 ((s3.trans s4).trans s5) t PN ⟨T,PK,vr Z e,PL⟩⟩
  ·exact⟨_,rfl,dl,_,_,rfl,s4.trans s5,none_of s3 (none_of s4 U),h5,λe=>he (GR.mpr e)⟩
theorem pN(L:Lk K mg):aK P w K mg base dn 1 L.jU L.jV ["line"] (DI K):=by
 refine L.gv.F.eL (N:=["line"]) (λo A outer s H D Q E nd c h=>?_);obtain⟨v,p,rfl,t,hn,k⟩:=h;refine⟨_,(af (aw (fz rfl (au [] []) (au [] []) (by decide) (aM (pv 0)) (λ_ _ _ _ _ _=>bI) (λ_ _ _ _ _ _=>(cB (a5 (pv 0) (a5 (pv 1) a8))))))),?_⟩;obtain⟨a,u,rfl,j,b,x⟩:=lV t;have d:=b;rw[Vn]at d;refine⟨_,rfl,a,rfl,⟨_,j⟩,λl hl=>?_⟩;refine oh (prs:=p.map dW) (λ_=>true) (λq=>.tup [.at q.1,.at q.2]) (aO K a u) b (λi q e=>let ⟨r,y,B⟩:=x i q e;⟨r,y,jA.of B⟩) hl (av (by omega)) (λm f=>f.seq j) (λq n C _ _ g=>g n (a9.refl _)) (λq n C e _ G g=>?_) (λm f r=>?_)
 ·obtain⟨z,I,rfl⟩:=Vx.mp e;exact⟨_,rfl,_,rfl,by show 2<=sizeLine;decide,λr c=>g _ _ (a9.upd c) (qU c z)⟩
 ·rw[WU.mpr (λ_ _=>rfl),VG]at r;exact k _ m f r
theorem eK(L:Lk K mg):aK P w K mg base dn 2 L.eY L.ik ["self","homes","weights","lines"] (DJ K L.aq):=by
 have T:=L.T;refine L.cz.F.eL (N:=["self","homes","weights","lines"]) (λgd A outer s H vs Q E nd hr h=>?_);obtain⟨x,j,u,v,w,C,D,t,rfl,J,Y,Z,Ja,n1,n2,n3,n4,k⟩:=h
 refine⟨_,(a6 (g9 (pv 0) (bu cE (by rfl) T.list ji (a5 (pv 1) a8)) rfl)
  (a6 (g9 (pv 0) (bu cE (by rfl) T.list ji (a5 (pv 2) a8)) rfl)
  (af (g9 (pv 0) (cT rfl (au [] []) (aM (pv 3)) (λ_ _ _ _ _ _=>bI) (λ_ _ _ _ _ _=>(ai (pN L) L.gv (a5 (pv 0) a8)))) rfl)))),?_⟩
 obtain⟨a,rfl,ha⟩:=DG Y;obtain⟨b,rfl,hb⟩:=gp Z;obtain⟨c,xs,rfl,hc,M⟩:=Ja;have xl:xs.length=t.length:=by rw[M.len,Vn]
 have l:∀{d:Addr} {ys:List V} {H':Hp},aN K H d ys->(∀b o,H b=some o->b≠x->H' b=some o)->aN K H' d ys:=λhS kp=>(kE kp).seq (Af J hS);refine⟨_,rfl,a,_,rfl,.inl ha,λf B=>?_⟩;have m:x≠f:=ae J B;refine⟨_,rfl,x,L.aq,j,[],rfl,by rw[aa m];exact J,L.ao.cl,L.ao.kH,(show 0 < 1000 by decide),?_⟩;rw[GW];have W:∀d o,H d=some o->d≠x->(upd (upd H f (.lst (C.map V.str))) x (.ins L.aq j (oW f))) d=some o:=λd o e hd=>by rw[aa hd];exact a9.upd B _ _ e
 have x1:(upd (upd H f (.lst (C.map V.str))) x (.ins L.aq j (oW f))) x=some (.ins L.aq j (oW f)):=a7;have a1:(upd (upd H f (.lst (C.map V.str))) x (.ins L.aq j (oW f))) f=some (.lst (C.map V.str)):=by rw[aa m.symm,a7]
 generalize upd (upd H f (.lst (C.map V.str))) x (.ins L.aq j (oW f))=O at W x1 a1 ⊢;refine⟨_,rfl,b,_,rfl,.inl (l hb W),λg n=>?_⟩;have p:x≠g:=ae x1 n;have SW:f≠g:=ae a1 n
 have NF:H g=none:=by
  cases q:H g with
  |none=>rfl
  |some o=>have:=W _ _ q p.symm;rw[n]at this;cases this
 refine⟨_,rfl,x,L.aq,j,oW f,rfl,by rw[aa p];exact x1,L.ao.cl,L.ao.cy,(show 1 < 1000 by decide),?_⟩;rw[DH];have G:∀d o,H d=some o->d≠x->(upd (upd O g (.lst (D.map V.int))) x (.ins L.aq j (mI f g))) d=some o:=λd o e hd=>by rw[aa hd];exact a9.upd n _ _ (W _ _ e hd)
 have X:(upd (upd O g (.lst (D.map V.int))) x (.ins L.aq j (mI f g))) x=some (.ins L.aq j (mI f g)):=a7;have a2:(upd (upd O g (.lst (D.map V.int))) x (.ins L.aq j (mI f g))) f=some (.lst (C.map V.str)):=by rw[aa m.symm,aa SW];exact a1
 have b2:(upd (upd O g (.lst (D.map V.int))) x (.ins L.aq j (mI f g))) g=some (.lst (D.map V.int)):=by rw[aa p.symm,a7]
 generalize upd (upd O g (.lst (D.map V.int))) x (.ins L.aq j (mI f g))=H2 at G X a2 b2 ⊢;have R:=aW.same (kE G) _ _ (aW.off J _ _ M);refine⟨_,rfl,c,rfl,⟨_,l (.inl hc) G⟩,λc' S=>?_⟩;refine xu (K:=K) (t.map cj) (aO K c xs) S (av (by omega)) (by rw[Vn,xl]) (λH' s'=>s'.seq (l (.inl hc) G)) (λi y d U Q' hy hd I qq=>?_) (λU I r3=>?_)
 ·obtain⟨d',e',r⟩:=R.get i y hy;rw[hd]at e';cases e';rw[Vt]at hd
  cases e:t[i]? with
  |none=>rw[e]at hd;cases hd
  |some qs=>
   rw[e]at hd;cases hd;exact⟨_,rfl,y,qs,rfl,bG.same I _ _ r,n4 qs (VN e),λz H4 s4 r4=>qq z H4 s4 r4⟩
 ·have V7:x≠c':=ae X S;refine⟨_,rfl,x,L.aq,j,mI f g,rfl,I _ _ X,L.ao.cl,L.ao.di,(show 2 < 1000 by decide),?_⟩;rw[Ag];have up:a9 (aG H U) (aG H (upd U x (.ins L.aq j (z6 f g c')))):=bZ J λd o e hd=>by rw[aa hd];exact e
  have old:a9 (aG H2 U) (aG H U):=λd o e=>by
   unfold aG at e ⊢
   cases q:H d with
   |none=>
    cases q2:H2 d with
    |none=>rw[q2]at e;exact e
    |some z=>rw[q2]at e;cases e
   |some z=>
    by_cases hd:d=x
    ·rw[hd,X]at e;cases e
    ·rw[G _ _ q hd]at e;cases e
  refine k f g c' _ a7 ?_ ?_ (bG.same (old.trans up) _ _ r3) λd o e hd=>by rw[aa hd];exact I _ _ (G _ _ e hd)
  ·exact qS ((bF B (by rw[aa m.symm];exact I _ _ a2)))
  ·exact ig ((bF NF (by rw[aa p.symm];exact I _ _ b2)))
theorem jw(L:Lk K mg):aK P w K mg base dn 1 L.jW L.jX ["number","things"] (FZ K):=by
 have T:=L.T;refine L.eD.F.eL (N:=["number","things"]) (λd A outer s H g Q E nd j h=>?_);obtain⟨i,a,b,rfl,f,k⟩:=h;refine⟨_,(af (aw (nP (fj GD (pv 0) ag (aL _)) (qb (fj je (pv 0) (ax bf (by rfl) T.len We (a5 (pv 1) a8)) (aL _)))))),?_⟩
 by_cases c:0<=i
 ·have e:dD i b.length=decide (i < (b.length:Int)):=by unfold dD;rw[decide_eq_true c,Zn]
  rw[e]at k;exact⟨_,rfl,_,_,rfl,rfl,true,congrArg V.bl (decide_eq_true c),cP ⟨_,rfl,_,rfl,a,b,rfl,.inl f,_,_,rfl,rfl,k⟩⟩
 ·have e:dD i b.length=false:=by unfold dD;rw[decide_eq_false c,YH]
  rw[e]at k;exact⟨_,rfl,_,_,rfl,rfl,false,congrArg V.bl (decide_eq_false c),bB k⟩
theorem lG(L:Lk K mg):aK P w K mg base (wj P w) 1 L.mU L.mV ["sheet","many","steps","weight"] (IB K L.aq L.ee):=by
 have T:=L.T;refine L.cm.F.FI (N:=["sheet","many","steps","weight"]) (λW A outer s H vs Q E nd hr h=>?_);obtain⟨x,many,v,w,hs,c,X,b,rfl,S,Y,Z,t,m0,m1,k⟩:=h
 refine⟨_,(a6 (bE (aA qf (ax bf (by rfl) T.len We (a5 (pv 2) a8)) ag (aL _)) (af (dQ bX rfl L.fY L.fg rfl L.fX (a5 cw a8))) aJ)
  (a6 (bE (aA je (pv 3) ag (aL _)) (af (dQ bX rfl L.fY L.fg rfl L.fX (a5 cw a8))) aJ)
  (af (bE (aA je (ax (mB rfl) (by rfl) T.sum Dl (a5 (fz rfl (au ["sheet"] [0]) (au ["sheet"] [0]) (by decide) (aM (pv 2)) (λ_ _ _ _ _ _=>bI) (λ_ _ _ _ _ _=>(bV (jK (K:=K) rfl) (mr (K:=K) rfl (pv 2) rfl) (pv 1) (λ_ _=>rfl)))) a8)) (aI fD (pv 1) (pv 3)) (aL _)) (af (dQ bX rfl L.fY L.fg rfl L.fX (a5 cw a8))) aJ)))),?_⟩
 obtain⟨dx,ah,J,cl,hx,rh,u,rl⟩:=id S;obtain⟨PQ,eb,hb⟩:=gp u;cases eb;obtain⟨a,o,rfl,p,M⟩:=eV Y;have g:o.length=b.length:=by rw[M.1,Vn,Vn]
 have no:du c many b w=false->∀y,a9 H y->E (.ref L.ee) none y:=λh=>by
  rcases k with⟨r,_⟩ |⟨_,i⟩
  ·rw[h]at r;cases r
  ·exact i
 by_cases B:b=[]
 ·subst B;have r0:o=[]:=WY g;subst r0;exact⟨_,rfl,a,_,rfl,.inl p,rfl,true,Dq _,cP ⟨rfl,no rfl H (a9.refl _)⟩⟩
 have V8:o.length≠0:=by rw[g];exact λz=>B (WY z)
 have j:b.isEmpty=false:=by cases b with |nil=>exact absurd rfl B |cons _ _=>rfl
 refine⟨_,rfl,a,_,rfl,.inl p,rfl,false,congrArg V.bl (decide_eq_false λz=>by have:=V.int.inj z;rw[Vn]at this;omega),bB ?_⟩
 by_cases O:w < 1
 ·refine⟨_,rfl,_,_,rfl,rfl,true,congrArg V.bl (decide_eq_true O),cP ⟨rfl,no ?_ H (a9.refl _)⟩⟩;unfold du;rw[decide_eq_false (show ¬1<=w by omega),YH,YC]
 refine⟨_,rfl,_,_,rfl,rfl,false,congrArg V.bl (decide_eq_false O),bB ?_⟩;refine⟨_,rfl,a,rfl,⟨_,p⟩,λlc C=>?_⟩;refine iU (prs:=b.map dW) (λ_=>true) (λq=>match q.2 with |.int e=>.int (c.getD e.toNat 0) |_=>.non) (aO K a (o.map V.ref)) M C (av (by omega)) (λy s'=>s'.seq p) (λq d R _ _ D=>D d (a9.refl _)) (λq d R hq _ l D=>?_) (λd l U=>?_)
 ·obtain⟨f,G,rfl⟩:=Vx.mp hq;have m:=t f G;have I:wx (c.map V.int) (f.2:Int)=some (.int (c.getD f.2 0)):=cb (by rw[Vt,Vp m,Vq,Vp m];rfl)
  have q2:R (.int (c.getD f.2 0)) d:=by
   have:=D d (a9.refl _);rwa[show (dW f).2=.int (f.2:Int) from rfl]at this
  exact⟨_,rfl,x,L.aq,dx,_,_,rfl,l _ _ hx,L.ao.cl,L.ao.cy,bT ah J cl,_,rfl,J,_,_,_,rfl,rfl,l.seq hb,I,q2⟩
 have e7:((b.map dW).filter λ_=>true).map (λq=>match q.2 with |.int e=>V.int (c.getD e.toNat 0) |_=>.non)=(b.map λq=>c.getD q.2 0).map V.int:=by
  rw[WU.mpr (λ_ _=>rfl),VG,VG];rfl
 rw[e7]at U;refine⟨lc,_,rfl,aN.of U,_,rfl,_,rfl,_,_,rfl,rfl,.inl ⟨by omega,by omega⟩,_,_,rfl,rfl,?_⟩
 by_cases n:aR c b < many * w
 ·refine⟨true,congrArg V.bl (decide_eq_true n),cP ⟨rfl,no ?_ d l⟩⟩;unfold du;rw[decide_eq_false (show ¬many * w<=aR c b by omega),YC,YC]
 ·refine⟨false,congrArg V.bl (decide_eq_false n),bB ?_⟩;rcases k with⟨_,r⟩ |⟨i,_⟩
  ·exact r d l
  ·unfold du at i;rw[j,decide_eq_true (show 1<=w by omega),decide_eq_true (show many * w<=aR c b by omega)]at i;cases i
theorem t6(L:Lk K mg):aK P w K mg base dn 1 L.mW L.mX ["line","desk","twin"] (G0 K):=by
 refine L.j2.F.eL (N:=["line","desk","twin","steps","word","end"]) (λgd A outer s H vs Q E nd u h=>?_);obtain⟨v,d,t,p,rfl,hL,Hh,k⟩:=h
 refine⟨_,(a6 (aj (i:=3) (cC a8))
  (a6 (b9 VS rfl (aM (pv 0)) (gY rfl (b6 (az (i:=4)) (b6 (az (i:=5)) fi))) (a6 (bH (jf Wv WD WR df (pv 3) (a5 (cB (a5 (pv 4) (a5 (pv 5) a8))) a8)))
  (af (bE (aA qf (pv 5) (pv 1) (aL _)) (af (bH (jf Wv WD WR df (pv 3) (a5 (cB (a5 (pv 4) (a5 (pv 2) a8))) a8)))) aJ))))
  (af (aw (pv 3))))),?_⟩
 obtain⟨a,S,rfl,hS,hT⟩:=eV hL;have Z:S.length=p.length:=by rw[hT.1,Vn,Vn]
 refine⟨Wb _,λb M=>?_⟩;have sb:a9 H (upd H b (.lst [])):=a9.upd M;have x:(upd H b (.lst [])) b=some (.lst []):=a7;generalize upd H b (.lst [])=B at sb x;have keep:∀{g:Hp},(∀c o,B c=some o->c≠b->g c=some o)->a9 H g:=λC c o e=>C _ _ (sb _ _ e) (ae e M)
 refine⟨_,rfl,a,rfl,⟨_,sb.seq hS⟩,cZ (K:=K) (a:=a) (xs:=S.map V.ref) (λj σ g=>∃(v4 v5:Option V) (as:List V),σ=[some (.ref a),some (.int (d:Int)),some (.int (t:Int)),some (.ref b),v4,v5]/\g b=some (.lst as)/\(∀c o,B c=some o->c≠b->g c=some o)/\aW K (aG B g) ((eB d t (p.take j)).map jm) as)
  ⟨none,none,[],rfl,x,λc o e _=>e,rfl⟩ (λj σ g _ ⟨_,_,_,_,_,C,_⟩=>(keep C).seq hS) ?_ ?_⟩
 ·rintro j y σ g hy ⟨v4,v5,as,rfl,l,C,T⟩;have hj:j < S.length:=by have:=(Vu.mp hy).1;rwa[Vn]at this
  have U:j < p.length:=by omega
  rw[Vt,Vp hj]at hy;cases hy;have W:H S[j]=some (.tup [.str p[j].1,.int (p[j].2:Int)]):=hT.2 j S[j] (mE (dW p[j])) (Vp hj) (by rw[Vt,Vt,Vp U];rfl);have oK:p.take (j + 1)=p.take j++[p[j]]:=by rw[Ws,Vp U];rfl
  have PR:as.length<=2 * j:=by
   rw[T.len,Vn];exact VF (om d t _) (wa2 2 (by rw[VQ];omega))
  generalize p[j]=q at W oK;refine⟨S[j],_,rfl,jA.of (keep C _ _ W),rfl,_,_,rfl,_,_,rfl,rfl,?_⟩;refine⟨_,rfl,.inl ⟨rfl,_,aN.of l⟩,_,rfl,_,rfl,by show 2<=sizeLine;decide,λr u=>?_⟩;have I:∀n:Nat,n<=20000->n < sizeLine:=λn hn=>WO hn (by rw[Xq];decide);have LU:=a9.upd (o:=.tup [.str q.1,.int (q.2:Int)]) u _ _ l;refine⟨b,_,_,rfl,rfl,LU,I _ (by omega),?_⟩;have X:∀c o,(upd g r (.tup [.str q.1,.int (q.2:Int)])) c=some o->c≠b->(upd (upd g r (.tup [.str q.1,.int (q.2:Int)])) b (.lst (as++[.ref r]))) c=some o:=λc o e hc=>by rw[aa hc];exact e
  have D:∀c o,B c=some o->c≠b->(upd (upd g r (.tup [.str q.1,.int (q.2:Int)])) b (.lst (as++[.ref r]))) c=some o:=λc o e hc=>X _ _ (a9.upd u _ _ (C c o e hc)) hc
  have r0:B r=none:=by
   cases z:B r with
   |none=>rfl
   |some o=>
    by_cases hc:r=b
    ·rw[hc,l]at u;cases u
    ·rw[C _ _ z hc]at u;cases u
  have O:aW K (aG B (upd (upd g r (.tup [.str q.1,.int (q.2:Int)])) b (.lst (as++[.ref r])))) ((eB d t (p.take j)).map jm++[jm q]) (as++[.ref r]):=by
   refine fV (aW.same ((gn (a9.upd u)).trans (bZ x X)) _ _ T) ?_;have R:r≠b:=λz=>by rw[z,l]at u;cases u
   exact⟨r,_,rfl,bF r0 (by rw[aa R,a7]),.str q.1,[.int (q.2:Int)],rfl,⟨rfl,rfl⟩,.int (q.2:Int),[],rfl,⟨rfl,rfl⟩,rfl⟩
  have m:(upd (upd g r (.tup [.str q.1,.int (q.2:Int)])) b (.lst (as++[.ref r]))) b=some (.lst (as++[.ref r])):=a7;generalize upd (upd g r (.tup [.str q.1,.int (q.2:Int)])) b (.lst (as++[.ref r]))=H4 at D O m
  by_cases G:q.2=d
  ·refine⟨_,rfl,_,rfl,rfl,true,congrArg V.bl (decide_eq_true (by rw[G])),cP ?_⟩;refine⟨_,rfl,.inl ⟨rfl,_,aN.of m⟩,_,rfl,_,rfl,by show 2<=sizeLine;decide,λJ f=>?_⟩;have Hf:=a9.upd (o:=.tup [.str q.1,.int (t:Int)]) f _ _ m;refine⟨b,_,_,rfl,rfl,Hf,I _ (by rw[Vs,X8];omega),?_⟩;have Y:∀c o,(upd H4 J (.tup [.str q.1,.int (t:Int)])) c=some o->c≠b->(upd (upd H4 J (.tup [.str q.1,.int (t:Int)])) b (.lst (as++[.ref r]++[.ref J]))) c=some o:=λc o e hc=>by rw[aa hc];exact e
   have SX:B J=none:=by
    cases z:B J with
    |none=>rfl
    |some o=>
     by_cases hc:J=b
     ·rw[hc,m]at f;cases f
     ·rw[D _ _ z hc]at f;cases f
   refine⟨_,_,_,rfl,a7,λc o e hc=>Y _ _ (a9.upd f _ _ (D c o e hc)) hc,?_⟩;rw[oK,qW,if_pos G,VE];have em:([q,(q.1,t)]:List (Str×Nat)).map jm=[jm q]++[jm (q.1,t)]:=rfl;rw[em,<-Wx];refine fV (aW.same ((gn (a9.upd f)).trans (bZ x Y)) _ _ O) ?_;have R:J≠b:=λz=>by rw[z,m]at f;cases f
   exact⟨J,_,rfl,bF SX (by rw[aa R,a7]),.str q.1,[.int (t:Int)],rfl,⟨rfl,rfl⟩,.int (t:Int),[],rfl,⟨rfl,rfl⟩,rfl⟩
  ·refine⟨_,rfl,_,rfl,rfl,false,congrArg V.bl (decide_eq_false λz=>G (by have:=V.int.inj z;omega)),bB ?_⟩;refine⟨_,_,_,rfl,m,D,?_⟩;rw[oK,qW,if_neg G,VE];exact O
 ·rintro σ g ⟨v4,v5,as,rfl,l,C,T⟩;rw[Vn,Z,W6]at T;exact⟨_,rfl,k _ _ (keep C) ⟨b,as,rfl,.inl (bF M l),aW.same (dU sb) _ _ T⟩⟩
theorem Er(L:Lk K mg):aK P w K mg base (wj P w) 4 L.Ao L.Ap ["sheet","many","desk","numbers","weight"] (G1 K L.aq L.ee):=by
 have T:=L.T;refine L.mY.F.FI (N:=["sheet","many","desk","numbers","weight","line","chosen","others","rest","lines","weights","twin"]) (λgd A outer s H vs Q E nd hr h=>?_);obtain⟨x,a,many,B,w,ns,u,j,f,rfl,S,hA,L1,W,m0,m1,k⟩:=h
 refine⟨_,(a6 (bE (cY (ck (ai (jw L) L.eD (a5 (pv 2) (a5 (aX (pv 0) rfl) a8))))) (af (dQ bX rfl L.fY L.fg rfl L.fX (a5 cw a8))) aJ)
  (a6 (aj (i:=5) (bV cD (aX (pv 0) rfl) (pv 2) (λ_ _=>rfl)))
  (a6 (bE (cY (ck (ax (wJ rfl) (by rfl) T.all K9 (a5 (cT rfl (au ["line"] [5]) (aM (pv 3)) (λ_ _ _ _ _ _=>bI) (λ_ _ _ _ _ _=>(ai (jw L) L.eD (a5 (pv 0) (a5 (pv 1) a8))))) a8)))) (af (dQ bX rfl L.fY L.fg rfl L.fX (a5 cw a8))) aJ)
  (a6 (oY (i:=6) rfl (au ["numbers"] [3]) nd rfl rfl (au ["numbers"] [3]) (by decide) (mn (by rfl) T.enum (a5 (pv 5) a8)) (λ_ _ _ _ _ _=>dF (aA (eQ (K:=K) rfl) (pv 0) (pv 2) rfl)) (λ_ _ _ _ _ _=>(pv 1)))
  (a6 (oY (i:=7) rfl (au ["numbers"] [3]) nd rfl rfl (au ["numbers"] [3]) (by decide) (mn (by rfl) T.enum (a5 (pv 5) a8)) (λ_ _ _ _ _ _=>dF (aA (sN (K:=K) rfl) (pv 0) (pv 2) rfl)) (λ_ _ _ _ _ _=>(pv 1)))
  (a6 (aj (i:=8) (aI uW (bV cD (aX (pv 0) rfl) (pv 2) (λ_ _=>rfl)) (pv 4)))
  (a6 (bH (gH (lG L) (hr.mono (by decide)) rfl L.cm.g L.cm.F.kp L.cm.b .nil (u9 bX) (a5 (pv 0) (a5 (pv 1) (a5 (pv 6) (a5 (pv 4) a8))))))
  (a6 (bH (gH (lG L) (hr.mono (by decide)) rfl L.cm.g L.cm.F.kp L.cm.b .nil (u9 bX) (a5 (pv 0) (a5 (pv 1) (a5 (pv 7) (a5 (pv 8) a8))))))
  (a6 (aj (i:=9) (aI vv (aX (pv 0) rfl) (cC (a5 (pv 7) a8))))
  (a6 (y7 (pv 6) (Cm (pv 9) (pv 2) set_list))
  (a6 (aj (i:=10) (aI vv (aX (pv 0) rfl) (cC (a5 (pv 8) a8))))
  (a6 (y7 (pv 4) (Cm (pv 10) (pv 2) set_list))
  (a6 (aj (i:=11) (ax bf (by rfl) T.len We (a5 (aX (pv 0) rfl) a8)))
  (af (aw (ml L.nB (eK L) (hr.mono (by decide)) rfl L.q8 L.cz.b .nil fN (a5 (aI vv (aX (pv 0) rfl) (cC (a5 (bV cD (aX (pv 0) rfl) (pv 2) (λ_ _=>rfl)) a8))) (a5 (pv 10) (a5 (cT rfl (au ["desk","twin"] [2,11]) (aM (pv 9)) (λ_ _ _ _ _ _=>bI) (λ_ _ _ _ _ _=>(ai (t6 L) L.j2 (a5 (pv 0) (a5 (pv 1) (a5 (pv 2) a8)))))) a8))))))))))))))))))),?_⟩
 refine gM λR1 c1=>?_;obtain⟨dx,M,O,cl,hx,rh,EI,rl⟩:=id S;have hh:=Ah rh;have hw:=FY EI;obtain⟨L4,t,ec,hc,wH⟩:=id rl;cases ec;have xl:t.length=f.length:=by rw[wH.len,Vn]
 have hn:=W.n;have B5:=W.w;have Br:=W.l
 have no:cV j f many B ns w=false->∀H',a9 H H'->E (.ref L.ee) none H':=λh=>by
  rcases k with⟨k1,_⟩ |⟨_,k2⟩
  ·rw[h]at k1;cases k1
  ·exact k2
 cases h1:dD B f.length with
 |false=>
  refine⟨_,rfl,_,rfl,x,L.aq,dx,_,_,rfl,hx,L.ao.cl,L.ao.di,bj M O cl,B,cl,t,rfl,.inl hc,false,congrArg V.bl (by rw[xl];exact h1),cP ⟨rfl,no ?_ H (a9.refl _)⟩⟩;unfold cV;rw[h1,YH]
 |true=>
 obtain⟨d,rfl,hd⟩:∃d:Nat,B=(d:Int)/\d < f.length:=by
  unfold dD at h1;rw[Xl]at h1;have a1:=of_decide_eq_true h1.1;have a2:=of_decide_eq_true h1.2;exact⟨B.toNat,by omega,by omega⟩
 refine⟨_,rfl,_,rfl,x,L.aq,dx,_,_,rfl,hx,L.ao.cl,L.ao.di,bj M O cl,_,cl,t,rfl,.inl hc,true,congrArg V.bl (by rw[xl];exact h1),bB ?_⟩;refine c1 _ _ (gM λR2 c2=>?_);rw[W2]at k;have P9:d < t.length:=by omega
 have PU:t[d]?=some t[d]:=Vp P9;obtain⟨dd,PV,rd⟩:=wH.get d _ PU;have PX:f[d]?=some f[d]:=Vp hd;rw[Vt,PX]at PV;cases PV;have LC:f.getD d []=f[d]:=by rw[Vq,PX];rfl
 have Jt:f[d]∈f:=Wg hd;have NI:=W.m _ Jt;have NK:=W.e _ Jt
 have PY:cV j f many (d:Int) ns w=(ns.all (λi=>dD i f[d].length) && (du j many (aT ns f[d]) w && du j many (aP ns f[d]) (j.getD d 0 - w))):=by
  unfold cV;rw[h1,Zn,W2,LC]
 unfold gq at k;rw[LC]at k;rw[PY]at k no;refine⟨_,rfl,x,L.aq,dx,_,_,rfl,hx,L.ao.cl,L.ao.di,bj M O cl,_,rfl,cl,t,_,t[d],rfl,rfl,.inl hc,cb PU,?_⟩;obtain⟨al,ys,el,R,Hi⟩:=rd;rw[el];have yl:ys.length=f[d].length:=by rw[Hi.len,Vn]
 generalize f[d]=p at PY Jt NI NK Hi yl k no;refine c2 _ _ (gM λR3 c3=>?_);refine⟨_,rfl,a,rfl,⟨_,hA⟩,λl1 NM=>?_⟩;refine comp_map (λv=>match v with |.int i=>V.bl (dD i ys.length) |_=>.non) (aO K a (ns.map V.int)) NM (by rw[Vn];exact av (by omega)) (λH' s'=>s'.seq hA) (λz H2 Q' hz s2 U=>?_) (λH2 s2 h2=>?_)
 ·obtain⟨i,_,rfl⟩:=Vx.mp hz;exact⟨_,rfl,_,rfl,i,al,ys,rfl,s2.seq (.inl R),U H2 (a9.refl _)⟩
 have e2:(ns.map V.int).map (λv=>match v with |.int i=>V.bl (dD i ys.length) |_=>.non)=(ns.map λi=>dD i p.length).map V.bl:=by
  rw[VG,VG,yl];rfl
 rw[e2]at h2
 have L5:((ns.map λi=>dD i p.length).all id)=ns.all (λi=>dD i p.length):=by
  rw[waF];rfl
 cases h3:ns.all (λi=>dD i p.length) with
 |false=>
  refine⟨l1,_,rfl,aN.of h2,false,congrArg V.bl (L5.trans h3),cP ⟨rfl,no ?_ H2 s2⟩⟩;rw[h3,YH]
 |true=>
 refine⟨l1,_,rfl,aN.of h2,true,congrArg V.bl (L5.trans h3),bB ?_⟩;refine c3 _ _ (gM λR4 c4=>?_);rw[h3,Zn]at k no;refine⟨_,rfl,al,ys,rfl,s2.seq (.inl R),λlc L6=>?_⟩;refine uq (λi=>kM (.int (i:Nat)) (ns.map V.int)) (s2.seq (.inl R)) L6 (av (by omega)) (λi y H3 Q' _ s3 U=>?_) (λi y H3 Q' _ s3 U=>⟨_,rfl,U H3 (a9.refl _)⟩) (λH3 s3 PZ=>?_)
 ·exact⟨_,rfl,_,rfl,a,_,rfl,.inl ((s2.trans s3).seq hA),rfl,eU ns,_,rfl,U H3 (a9.refl _)⟩
 have SY:(λi:Nat=>kM (.int (i:Nat)) (ns.map V.int))=λi:Nat=>decide ((i:Int)∈ns):=funext λi=>qV _ ns;rw[SY]at PZ;have Es:=s2.trans s3;refine c4 _ _ (gM λR5 c5=>?_);refine⟨_,rfl,al,ys,rfl,Es.seq (.inl R),λlo Kf=>?_⟩;refine uq (λi=>!kM (.int (i:Nat)) (ns.map V.int)) (Es.seq (.inl R)) Kf (av (by omega)) (λi y H4 Q' _ s4 U=>?_) (λi y H4 Q' _ s4 U=>⟨_,rfl,U H4 (a9.refl _)⟩) (λH4 s4 Q0=>?_)
 ·exact⟨_,rfl,_,rfl,a,_,rfl,.inl ((Es.trans s4).seq hA),rfl,eU ns,_,rfl,U H4 (a9.refl _)⟩
 have NN:(λi:Nat=>!kM (.int (i:Nat)) (ns.map V.int))=λi:Nat=>!decide ((i:Int)∈ns):=funext λi=>congrArg (!·) (qV _ ns);rw[NN]at Q0;have C:=Es.trans s4;refine c5 _ _ (gM λR6 c6=>?_);have SZ:=s4 _ _ PZ;have rC:bG K H4 (cj (aT ns p)) (.ref lc):=⟨lc,_,rfl,.inl SZ,xx _ (aW.same C _ _ Hi)⟩;have rO:bG K H4 (cj (aP ns p)) (.ref lo):=⟨lo,_,rfl,.inl Q0,xx _ (aW.same C _ _ Hi)⟩;have T1:(aT ns p).length<=5000:=VF (kF _ _ _) NI;have T3:(aP ns p).length<=5000:=VF (kF _ _ _) NI;have ce:∀q∈aT ns p,q.2 < j.length:=λq hq=>by rw[B5];exact NK q (fW hq)
 have oe:∀q∈aP ns p,q.2 < j.length:=λq hq=>by rw[B5];exact NK q (fW hq)
 have Q1:d < j.length:=by omega
 have NP:wx (j.map V.int) (d:Int)=some (.int (j.getD d 0)):=cb (by rw[Vt,Vp Q1,Vq,Vp Q1];rfl);refine⟨_,rfl,x,L.aq,dx,_,_,rfl,C _ _ hx,L.ao.cl,L.ao.cy,bT M O cl,_,rfl,O,_,_,_,rfl,rfl,C.seq (.inl hw),NP,_,rfl,_,_,rfl,rfl,?_⟩;show dv 8 (V.int (j.getD d 0 - w)) _ _ _;refine c6 _ _ (gM λR7 c7=>?_);have S4:=S.same C;refine⟨_,rfl,_,rfl,_,rfl,_,rfl,x,many,.ref lc,w,u,j,f,aT ns p,rfl,S4,rC,by omega,ce,m0,m1,?_⟩
 cases h5:du j many (aT ns p) w with
 |false=>exact .inr ⟨rfl,λH5 s5=>no (by rw[h5,YH]) H5 (C.trans s5)⟩
 |true=>
 refine .inl ⟨rfl,λH5 s5=>?_⟩;refine c7 _ _ (gM λR8 c8=>?_);rw[h5,Zn]at k no;refine⟨_,rfl,_,rfl,_,rfl,_,rfl,x,many,.ref lo,j.getD d 0 - w,u,j,f,aP ns p,rfl,S4.same s5,bG.same s5 _ _ rO,by omega,oe,m0,m1,?_⟩
 cases h6:du j many (aP ns p) (j.getD d 0 - w) with
 |false=>exact .inr ⟨rfl,λH6 s6=>no h6 H6 ((C.trans s5).trans s6)⟩
 |true=>
 refine .inl ⟨rfl,λH6 s6=>?_⟩;refine c8 _ _ ?_;obtain⟨_,kk⟩:True/\_:=⟨trivial,k⟩;rcases kk with⟨_,k⟩ |⟨k1,_⟩
 rotate_left
 ·rw[h6]at k1;cases k1
 have NQ:=s5.trans s6;have NR:=C.trans NQ;have T4:=bG.same NQ _ _ rC;have T5:=bG.same NQ _ _ rO;have big:∀n:Nat,n<=20000->n<=sizeLine:=λn hn=>VF hn (by rw[Xq];decide);refine⟨_,rfl,x,L.aq,dx,_,_,rfl,NR _ _ hx,L.ao.cl,L.ao.di,bj M O cl,_,rfl,by show 1<=sizeLine;decide,λl7 Q2=>?_⟩;refine⟨cl,l7,t,[.ref lo],rfl,rfl,mH (NR.trans (a9.upd Q2)) hc,.inl a7,big _ (by show t.length + 1<=_;omega),λX I=>?_⟩;have Q3:a9 H6 (upd H6 l7 (.lst [V.ref lo])):=a9.upd Q2;generalize upd H6 l7 (.lst [V.ref lo])=Y at Q3 I;have V9:a9 Y (upd Y X (.lst (t++[V.ref lo]))):=a9.upd I
 have PB:AF (t++[V.ref lo]).length (d:Int)=some d:=by
  have Z:(t++[V.ref lo]).length=t.length + 1:=by rw[Vs];rfl
  unfold AF;rw[Z,if_pos (by omega),if_pos (by omega),W2]
 refine⟨_,rfl,_,rfl,_,rfl,X,_,_,d,rfl,rfl,a7,PB,?_⟩;have Ly:(upd (upd Y X (.lst (t++[V.ref lo]))) X (.lst ((t++[V.ref lo]).set d (V.ref lc)))) X=some (.lst ((t++[V.ref lo]).set d (V.ref lc))):=a7
 have LV:a9 H6 (upd (upd Y X (.lst (t++[V.ref lo]))) X (.lst ((t++[V.ref lo]).set d (V.ref lc)))):=λc o e=>by
  have J:=Q3 _ _ e;rw[aa (ae J I),aa (ae J I)];exact J
 generalize upd (upd Y X (.lst (t++[V.ref lo]))) X (.lst ((t++[V.ref lo]).set d (V.ref lc)))=H8 at Ly LV;have LW:=NR.trans LV
 have T6:aW K H8 (((f++[aP ns p]).set d (aT ns p)).map cj) ((t++[V.ref lo]).set d (V.ref lc)):=by
  have r1:aW K H8 (f.map cj++[cj (aP ns p)]) (t++[V.ref lo]):=fV (aW.same LW _ _ wH) (bG.same LV _ _ T5)
  have e:((f++[aP ns p]).set d (aT ns p)).map cj=(f.map cj++[cj (aP ns p)]).set d (cj (aT ns p)):=by
   rw[List.map_set,VE];rfl
  rw[e];exact r1.set d (bG.same LV _ _ T4)
 refine⟨_,rfl,x,L.aq,dx,_,_,rfl,LW _ _ hx,L.ao.cl,L.ao.cy,bT M O cl,_,rfl,by show 1<=sizeLine;decide,λl9 Q4=>?_⟩;refine⟨O,l9,_,[.int (j.getD d 0 - w)],rfl,rfl,mH (LW.trans (a9.upd Q4)) hw,.inl a7,big _ (by rw[Vn];show j.length + 1<=_;omega),λlw L7=>?_⟩;have Q6:a9 H8 (upd H8 l9 (.lst [.int (j.getD d 0 - w)])):=a9.upd Q4;generalize upd H8 l9 (.lst [.int (j.getD d 0 - w)])=NS at Q6 L7;have Jb:j.map V.int++[V.int (j.getD d 0 - w)]=(j++[j.getD d 0 - w]).map V.int:=by rw[VE];rfl
 rw[Jb]
 have NU:AF ((j++[j.getD d 0 - w]).map V.int).length (d:Int)=some d:=by
  have Z:((j++[j.getD d 0 - w]).map V.int).length=j.length + 1:=by rw[Vn,Vs];rfl
  unfold AF;rw[Z,if_pos (by omega),if_pos (by omega),W2]
 refine⟨_,rfl,_,rfl,_,rfl,lw,_,_,d,rfl,rfl,a7,NU,?_⟩
 have NV:((j++[j.getD d 0 - w]).map V.int).set d (.int w)=(bK j d w).map V.int:=by
  unfold bK;rw[List.map_set]
 rw[NV];have Q7:(upd (upd NS lw (.lst ((j++[j.getD d 0 - w]).map V.int))) lw (.lst ((bK j d w).map V.int))) lw=some (.lst ((bK j d w).map V.int)):=a7
 have NW:a9 H8 (upd (upd NS lw (.lst ((j++[j.getD d 0 - w]).map V.int))) lw (.lst ((bK j d w).map V.int))):=λc o e=>by
  have J:=Q6 _ _ e;rw[aa (ae J L7),aa (ae J L7)];exact J
 generalize upd (upd NS lw (.lst ((j++[j.getD d 0 - w]).map V.int))) lw (.lst ((bK j d w).map V.int))=H9 at Q7 NW;have D:=LW.trans NW;refine⟨_,rfl,x,L.aq,dx,_,_,rfl,D _ _ hx,L.ao.cl,L.ao.di,bj M O cl,cl,t,rfl,.inl (D.seq (.inl hc)),?_⟩;rw[xl];have Q8:d < u.length:=by omega
 have NX:wx (u.map V.str) (d:Int)=some (.str (u.getD d "")):=cb (by rw[Vt,Vp Q8,Vq,Vp Q8];rfl);refine⟨_,rfl,x,L.aq,dx,_,_,rfl,D _ _ hx,L.ao.cl,L.ao.kH,fA M O cl,_,rfl,x,L.aq,dx,_,_,rfl,D _ _ hx,L.ao.cl,L.ao.kH,fA M O cl,_,rfl,M,_,_,_,rfl,rfl,D.seq (.inl hh),NX,by show 1<=sizeLine;decide,λl10 L8=>?_⟩;refine⟨M,l10,_,[.str (u.getD d "")],rfl,rfl,mH (D.trans (a9.upd L8)) hh,.inl a7,big _ (by rw[Vn];show u.length + 1<=_;omega),λlh Hj=>?_⟩;have Q9:a9 H9 (upd H9 l10 (.lst [.str (u.getD d "")])):=a9.upd L8;generalize upd H9 l10 (.lst [.str (u.getD d "")])=Qa at Q9 Hj;have La:u.map V.str++[V.str (u.getD d "")]=(cI u d).map V.str:=by unfold cI;rw[VE];rfl
 rw[La];have LX:=Q9.trans (a9.upd (o:=.lst ((cI u d).map V.str)) Hj);have Lb:(upd Qa lh (.lst ((cI u d).map V.str))) lh=some (.lst ((cI u d).map V.str)):=a7;generalize upd Qa lh (.lst ((cI u d).map V.str))=NY at LX Lb;have Hk:=NW.trans LX;have Hl:=Hk _ _ Ly;have NZ:=aW.same Hk _ _ T6;have zl:((t++[V.ref lo]).set d (V.ref lc)).length=f.length + 1:=by rw[Y0,Vs,xl];rfl
 refine⟨_,rfl,_,rfl,X,rfl,⟨_,aN.of Hl⟩,λlt II=>?_⟩
 have Qb:∀l∈(f++[aP ns p]).set d (aT ns p),l.length<=5000:=λl hl=>by
  rcases Yd hl with z |z
  ·rcases VP.mp z with z |z
   ·exact W.m l z
   ·rw[VD.mp z];exact T3
  ·rw[z];exact T1
 refine xu (K:=K) ((((f++[aP ns p]).set d (aT ns p)).map (eB d f.length)).map cj) (aO K X ((t++[V.ref lo]).set d (V.ref lc))) II (big _ (by rw[zl];omega)) (by rw[Vn,Vn,Y0,Vs,zl];rfl) (λH' s'=>aN.of (s' _ _ Hl)) (λi y dt Ju Q' hy Hm G U=>?_) (λJu G T7=>?_)
 ·obtain⟨d',J,r⟩:=NZ.get i y hy;rw[Vt]at J Hm;rw[Vt]at Hm
  cases e:((f++[aP ns p]).set d (aT ns p))[i]? with
  |none=>rw[e]at J;cases J
  |some l=>
   rw[e]at J Hm;cases J;cases Hm;exact⟨_,rfl,_,rfl,_,rfl,y,d,f.length,l,rfl,bG.same G _ _ r,Qb l (VN e),λz Jc Jv T8=>U z Jc Jv T8⟩
 intro y dy ny O0 T9;have sm:a9 Ju (upd (upd Ju dy (.own y)) y (.ins L.aq dy [])):=fU ny O0;have Et:=D.trans LX;refine⟨y,dy,.ref lh,.ref lw,.ref lt,cI u d,bK j d w,((f++[aP ns p]).set d (aT ns p)).map (eB d f.length),rfl,a7,qS (sm _ _ (G _ _ Lb)),ig (sm _ _ (G _ _ (LX _ _ Q7))),bG.same ((dS _ _).trans sm) _ _ T7,?_,?_,?_,?_,λa' b' c' Jc O1 q1 q2 q3 O2=>⟨rfl,?_⟩⟩
 ·unfold cI;rw[Vs];show u.length + 1<=_;omega
 ·unfold bK;rw[Y0,Vs];show j.length + 1<=_;omega
 ·rw[Vn,Y0,Vs];show f.length + 1<=_;omega
 ·intro l hl;obtain⟨l',Lc,rfl⟩:=Vx.mp hl;have:=om d f.length l';have:=Qb l' Lc;omega
 ·have Jv:a9 Ju Jc:=λc o e=>O2 _ _ (sm _ _ e) (ae e ny);refine k y Jc (Et.trans (G.trans Jv)) ?_;have O3:H y=none:=none_of (Et.trans G) ny;have nw:=λ(dd:jl) (v:V) (r:bG K (aG _ Jc) dd v)=>bG.same (dU ((Et.trans G).trans sm)) dd v r;exact⟨dy,a',b',c',bF O3 O1,nw _ _ q1,nw _ _ q2,nw _ _ q3⟩
theorem ky(L:Lk K mg):aK P w K mg base dn 5 L.lq L.ly ["band","many","wide","weights"] (FW K L.aB L.aq):=by
 refine L.fm.F.eL (N:=["band","many","wide","weights","homes","lines","place","blocks"]) (λgd A outer s H vs Q E nd hr h=>?_);obtain⟨x,d,many,n,m,f,g,u,C,ls,rfl,B,BX,EG,C3,Jd,hd,hw,k⟩:=h;have hu:=et hr
 refine⟨_,(a6 (bH (ai (hV L) L.bR (a5 (pv 0) (a5 (pv 1) (a5 (pv 2) a8)))))
  (a6 (aj (i:=4) (cT rfl (au ["weights"] [3]) (aM (jF (pv 0) L.aH.cl L.cA.m (jd L) (hr.mono (by decide)) L.cA.b .nil fN)) (λ_ _ _ _ _ _=>dF (aA jE (cF hu (pv 1) (pv 0) (λ_ _=>rfl)) ag (aL _))) (λ_ _ _ _ _ _=>(pv 0))))
  (a6 (aj (i:=5) (cC a8))
  (a6 (b9 VS rfl (aM (pv 4)) (az (i:=6)) (a6 (aj (i:=7) (ai (ku L) L.fk (a5 (pv 0) (a5 (pv 6) (a5 (pv 2) a8)))))
  (af (bH (jf Wv WD WR df (pv 5) (a5 (fz rfl (au ["homes"] [4]) (au ["homes"] [4]) (by decide) (aM (pv 7)) (λ_ _ _ _ _ _=>dF (aA (eQ (K:=K) rfl) (pv 1) (pv 2) rfl)) (λ_ _ _ _ _ _=>(cB (a5 (pv 0) (a5 (Iy (K:=K) rfl Wv waP PySem.F.type_list_index (Bp (K:=K) rfl) (pv 2) (a5 (pv 1) a8)) a8))))) a8))))))
  (af (aw (ml L.nB (eK L) (hr.mono (by decide)) rfl L.q8 L.cz.b .nil fN (a5 (pv 4) (a5 (cT rfl (au ["weights"] [3]) (aM (pv 4)) (λ_ _ _ _ _ _=>bI) (λ_ _ _ _ _ _=>(cF hu (pv 1) (pv 0) (λ_ _=>rfl)))) (a5 (pv 5) a8)))))))))),?_⟩
 obtain⟨ra,rb,rc,rd,re⟩:=id Jd
 have EH:g.length ^ n<=64:=by
  rw[W2]at re;have:((g.length ^ n:Nat):Int)<=64:=by rw[YX];exact re
  omega
 have Br:ls.length<=900:=VF B.lv.sub.length_le C3;refine⟨_,rfl,_,rfl,_,rfl,x,many,n,g,u,C,ls,rfl,B,EG,Jd,?_⟩;obtain⟨⟨dx,b,d0,q,mv,h1,h2,h3,h4,h5,h6⟩,pm,_,_⟩:=id B;refine⟨_,rfl,x,dx,_,rfl,h1,Fu _ _ _ _ (by decide+kernel) (by decide+kernel) (by decide+kernel) (by decide+kernel),x,g,u,C,ls,rfl,B,λlv H1 s1 f1 hv=>?_⟩;refine⟨lv,rfl,⟨_,aN.of hv⟩,λT Hj=>?_⟩;refine dg (λv=>match v with |.str p=>decide (0 < f p) |_=>false) (λv=>v) (aO K lv (ls.map V.str)) Hj (by rw[Vn];exact av (by omega)) (λH' s'=>aN.of (s' _ _ hv)) (λz M Q' hz s2 Y=>?_) (λz M Q' hz _ s2 Y=>⟨_,rfl,Y M (a9.refl _)⟩) (λM s2 hh=>?_)
 ·obtain⟨p,hp,rfl⟩:=Vx.mp hz;have g3:=dm.rd (k:=(VU p:Key)) (hd.same (s1.trans s2));rw[cN,hw p hp]at g3;have q2:Q' (decide (0 < f p)) M:=Y M (a9.refl _);exact⟨_,rfl,_,rfl,d,_,rfl,g3,_,_,rfl,rfl,_,rfl,q2⟩
 have Ta:((ls.map V.str).filter (λv=>match v with |.str p=>decide (0 < f p) |_=>false)).map (λv=>v)=(ak ls f).map V.str:=by
  rw[YF,Yx];rfl
 rw[Ta]at hh;have Qc:(ak ls f).length<=900:=VF (WG _ _) Br;have Ld:∀p∈ak ls f,p∈ls:=λp hp=>(VR.mp hp).1;have LY:=s1.trans s2;refine⟨Wb _,λD G=>?_⟩;have sb:a9 M (upd M D (.lst [])):=a9.upd G;have Z:(upd M D (.lst [])) D=some (.lst []):=a7;generalize upd M D (.lst [])=Hb at sb Z;have Tb:T≠D:=ae hh G
 refine⟨_,rfl,T,rfl,⟨_,aN.of (sb _ _ hh)⟩,cZ (K:=K) (a:=T) (xs:=(ak ls f).map V.str) (λj σ H3=>∃(v6 v7:Option V) (as:List V),σ=[some (.ref x),some (.int many),some (.int (n:Int)),some (.ref d),some (.ref T),some (.ref D),v6,v7]/\H3 D=some (.lst as)/\(∀c o,Hb c=some o->c≠D->H3 c=some o)/\aW K (aG Hb H3) (((ak ls f).take j).map λp=>cj (eT g u C ls n (ak ls f) p)) as)
  ⟨none,none,[],rfl,Z,λc o e _=>e,rfl⟩ (λj σ H3 _ ⟨_,_,_,_,_,kk,_⟩=>aN.of (kk _ _ (sb _ _ hh) Tb)) ?_ ?_⟩
 ·rintro j y σ H3 hy ⟨v6,v7,as,rfl,O4,kk,hR⟩;obtain⟨p,Js,rfl,hj,zz,oK⟩:=fx hy;have O:a9 M H3:=λc o e=>kk _ _ (sb _ _ e) (ae e G);have B3:=B.same (LY.trans O);refine⟨_,rfl,_,rfl,_,rfl,x,p,n,g,u,C,ls,rfl,B3,Ld p zz,by omega,by omega,BX,EG,λlb rb U I f4 R4=>?_⟩;have J:=I _ _ O4;have PF:=eS g u C ls n p
  have PR:as.length=j:=by
   rw[hR.len,Vn,VQ];omega
  refine⟨_,rfl,.inl ⟨rfl,_,aN.of J⟩,_,rfl,lb,rfl,⟨_,aN.of R4.l⟩,λlc L6=>?_⟩;have R:U T=some (.lst ((ak ls f).map V.str)):=I _ _ (O _ _ hh);refine oh (prs:=(aF g u C ls n p).map mG) (λq=>kM q.2 ((ak ls f).map V.str)) (λq=>.tup [.at q.1,.at (.int (match q.2 with |.str e=>((ak ls f).idxOf e:Nat) |_=>0))]) (aO K lb (rb.map V.ref)) (by rw[Vn,Vn,R4.len]) (λi q W=>?_) L6 (by rw[Vn,R4.len];exact av (by omega)) (λH' s'=>aN.of (s' _ _ R4.l)) (λq S Q' W X Y=>?_) (λq S Q' W Tc X Y=>?_) (λS X r5=>?_)
  ·have hi:i < rb.length:=by have:=(Vu.mp W).1;rw[Vn,<-R4.len]at this;exact this
   rw[Vt]at W
   cases e:(aF g u C ls n p)[i]? with
   |none=>rw[e]at W;cases W
   |some z=>
    rw[e]at W;cases W;refine⟨rb[i],by rw[Vt,Vp hi];rfl,jA.of (R4.t.2 i rb[i] (oV z) (Vp hi) (by rw[Vt,e];rfl))⟩
  ·obtain⟨z,hz,rfl⟩:=Vx.mp W;exact⟨_,rfl,_,rfl,T,_,rfl,.inl (aN.of (X _ _ R)),rfl,dP _,_,rfl,Y S (a9.refl _)⟩
  ·obtain⟨z,hz,rfl⟩:=Vx.mp W
   have hm:z.2∈ak ls f:=by
    have:kM (.str z.2) ((ak ls f).map V.str)=true:=Tc;rw[gf]at this;exact of_decide_eq_true this
   obtain⟨i1,i2⟩:=oi hm;refine⟨_,rfl,_,rfl,.inl ⟨rfl,_,aN.of (X _ _ R)⟩,_,rfl,T,ak ls f,z.2,(ak ls f).idxOf z.2,rfl,rfl,aN.of (X _ _ R),by omega,i1,i2,by show 2<=sizeLine;decide,λr hr=>?_⟩;exact Y _ _ (a9.upd hr) (qU hr (z.1,(ak ls f).idxOf z.2))
  have el:((((aF g u C ls n p).map mG).filter λq=>kM q.2 ((ak ls f).map V.str)).map λq=>jl.tup [.at q.1,.at (.int (match q.2 with |.str e=>((ak ls f).idxOf e:Nat) |_=>0))])=(eT g u C ls n (ak ls f) p).map jm:=by
   unfold eT;rw[Yx,VG,VG]
   have ep:((λq:V×V=>kM q.2 ((ak ls f).map V.str)) ∘ mG)=λq:Str×Str=>decide (q.2∈ak ls f):=by
    funext q;exact gf q.2 _
   rw[ep];rfl
  rw[el]at r5;refine⟨D,_,_,rfl,rfl,X _ _ J,by rw[PR];exact WO (show j<=900 by omega) (by rw[Xq];decide),?_⟩;have Qe:=I.trans X;have Qf:=X _ _ J;have kp:∀c o,S c=some o->c≠D->(upd S D (.lst (as++[.ref lc]))) c=some o:=λc o e hc=>by rw[aa hc];exact e
  refine⟨_,_,as++[.ref lc],rfl,a7,λc o e hc=>kp _ _ (Qe _ _ (kk c o e hc)) hc,?_⟩;rw[oK,VE];refine fV (aW.same ((gn Qe).trans (bZ Z kp)) _ _ hR) ?_
  have old:a9 (aG U S) (aG Hb S):=λc o e=>by
   unfold aG at e ⊢
   cases q:Hb c with
   |none=>
    cases q2:U c with
    |none=>rw[q2]at e;exact e
    |some z=>rw[q2]at e;cases e
   |some z=>
    by_cases hc:c=D
    ·rw[hc,J]at e;cases e
    ·rw[I _ _ (kk _ _ q hc)]at e;cases e
  exact bG.same (old.trans (bZ Z kp)) _ _ r5
 ·rintro σ H3 ⟨v6,v7,as,rfl,O4,kk,hR⟩;rw[Vn,W6]at hR;have O:a9 M H3:=λc o e=>kk _ _ (sb _ _ e) (ae e G);have Es:=LY.trans O;have O5:=O _ _ hh;refine⟨_,rfl,_,rfl,T,rfl,⟨_,aN.of O5⟩,λlw L7=>?_⟩;refine comp_map (FK f) (aO K T ((ak ls f).map V.str)) L7 (by rw[Vn];exact av (by omega)) (λH' s'=>aN.of (s' _ _ O5)) (λz U Q' hz I Y=>?_) (λU I Le=>?_)
  ·obtain⟨p,hp,rfl⟩:=Vx.mp hz;have g3:=dm.rd (k:=(VU p:Key)) (hd.same (Es.trans I));rw[cN,hw p (Ld p hp)]at g3;exact⟨_,rfl,_,rfl,d,_,rfl,g3,Y U (a9.refl _)⟩
  rw[o6]at Le;have J:=I _ _ O4;have Td:=I _ _ O5;refine⟨_,rfl,λy dy ny O0 T9=>?_⟩;have sm:a9 U (upd (upd U dy (.own y)) y (.ins L.aq dy [])):=fU ny O0;refine⟨y,dy,.ref T,.ref lw,.ref D,ak ls f,(ak ls f).map f,bg g u C ls n (ak ls f),rfl,a7,qS (sm _ _ Td),ig (sm _ _ Le),?_,by omega,by rw[Vn];omega,by unfold bg;rw[Vn];omega,?_,λa' b' c' S Te r1 r2 r3 Tf=>⟨rfl,?_⟩⟩
  ·have Tg:aW K U ((ak ls f).map λp=>cj (eT g u C ls n (ak ls f) p)) as:=aW.same ((dS _ _).trans I) _ _ hR;refine⟨D,as,rfl,.inl (sm _ _ J),?_⟩
   have e:(bg g u C ls n (ak ls f)).map cj=(ak ls f).map λp=>cj (eT g u C ls n (ak ls f) p):=by
    unfold bg;rw[VG];rfl
   rw[e];exact aW.same sm _ _ Tg
  ·intro l hl;obtain⟨p,_,rfl⟩:=Vx.mp hl;have:=z7 g u C ls n (ak ls f) p;omega
  ·have X:a9 U S:=λc o e=>Tf _ _ (sm _ _ e) (ae e ny);refine k y S (Es.trans (I.trans X)) ?_;have O3:H y=none:=none_of (Es.trans I) ny;have nw:=λ(d:jl) (v:V) (r:bG K (aG _ S) d v)=>bG.same (dU ((Es.trans I).trans sm)) d v r;exact⟨dy,a',b',c',bF O3 Te,nw _ _ r1,nw _ _ r2,nw _ _ r3⟩
theorem t7(L:Lk K mg):aK P w K mg base dn 1 L.n6 L.n7 ["line","desks"] (IQ K):=by
 refine L.j3.F.eL (N:=["line","desks"]) (λy A outer s H R Q E nd g h=>?_);obtain⟨v,b,f,j,rfl,B,C,hn,k⟩:=h;refine⟨_,(af (aw (fz rfl (au ["desks"] [1]) (au ["desks"] [1]) (by decide) (aM (pv 0)) (λ_ _ _ _ _ _=>dF (aA (eQ (K:=K) rfl) (pv 1) (pv 2) rfl)) (λ_ _ _ _ _ _=>(cB (a5 (pv 0) (a5 (pv 1) a8))))))),?_⟩;obtain⟨a,D,rfl,p,c,G⟩:=lV B;have m:=c;rw[Vn]at m;refine⟨_,rfl,a,rfl,⟨_,p⟩,λl hl=>?_⟩
 refine oh (prs:=j.map dW) (λq=>kM q.2 ((nI f).map V.int)) (λq=>.tup [.at q.1,.at q.2]) (aO K a D) c (λi q d=>let ⟨r,I,J⟩:=G i q d;⟨r,I,jA.of J⟩) hl (av (by omega)) (λt n=>n.seq p) (λq u M d x o=>by
  obtain⟨z,O,rfl⟩:=Vx.mp d
  exact⟨_,rfl,_,rfl,b,_,rfl,.inl (x.seq C),rfl,eU _,_,rfl,o u (a9.refl _)⟩) (λq u M d _ x o=>?_) (λt n r=>?_)
 ·obtain⟨z,O,rfl⟩:=Vx.mp d;exact⟨_,rfl,_,rfl,by show 2<=sizeLine;decide,λr g=>o _ _ (a9.upd g) (qU g z)⟩
 ·have e:((j.map dW).filter λq=>kM q.2 ((nI f).map V.int))=(dJ f j).map dW:=by
   unfold dJ;rw[Yx];refine congrArg _ (YB λq _=>?_);exact xG q.2 f
  rw[e,VG]at r;exact k _ t n r
theorem lH(L:Lk K mg):aK P w K mg base dn 2 L.j4 L.n8 ["sheet","many"] (IU K L.aq):=by
 have T:=L.T;refine L.fQ.F.eL (N:=["sheet","many","kept","left"]) (λG A outer s H vs Q E nd hr h=>?_);obtain⟨x,many,hs,ws,b,rfl,S,hn,hm,k⟩:=h;have I:(A.deeper (YV "kept_desks" (ay (top 50)) s.heap.objs.size L.j4 G)).units < Yt:=hr.uZ
 refine⟨_,(a6 (aj (i:=2) (bu (yK rfl) (by rfl) T.list ji (a5 (bu wZ (by rfl) T.range FH (a5 (ax bf (by rfl) T.len We (a5 (aX (pv 0) rfl) a8)) a8)) a8)))
  (af (i3 VS (ck dM) (a6 (dH (i:=3) rfl (au ["sheet","kept","many"] [0,2,1]) nd rfl rfl (aM (pv 2)) (λ_ _ _ _ _ _=>dF (aA GD (ax (sO (K:=K) rfl) (by rfl) T.len We (a5 (ai (t7 L) L.j3 (a5 (bV (jK (K:=K) rfl) (mr (K:=K) rfl (pv 1) rfl) (pv 0) (λ_ _=>rfl)) (a5 (pv 2) a8))) a8)) (pv 3) (aL _))) (λ_ _ _ _ _ _=>(pv 0)))
  (a6 (bE (aA (yq I) (pv 3) (pv 2) (aL _)) (af (aw (pv 2))) aJ)
  (af (aj (i:=2) (pv 3)))))))),?_⟩
 obtain⟨dx,ah,bw,cl,hx,rh,EI,rl⟩:=id S;obtain⟨L4,J,ec,hc,m⟩:=id rl;cases ec;have xl:J.length=b.length:=by rw[m.len,Vn]
 refine⟨_,rfl,x,L.aq,dx,_,_,rfl,hx,L.ao.cl,L.ao.di,bj ah bw cl,cl,J,rfl,.inl (.inl hc),?_⟩;rw[xl];refine⟨_,rfl,λp hp=>?_⟩;refine⟨p,b.length,rfl,a7,av (by omega),λl hl=>?_⟩;have s1:a9 H (upd H p (.rng 0 (b.length:Int))):=a9.upd hp;have fl:H l=none:=none_of s1 hl;have s2:=s1.trans (a9.upd (o:=.lst ((W5 b.length).map λi=>V.int (i:Nat))) hl);have h2:(upd (upd H p (.rng 0 (b.length:Int))) l (.lst ((W5 b.length).map λi=>V.int (i:Nat)))) l=some (.lst ((nI (W5 b.length)).map V.int)):=by rw[a7,xI]
 generalize upd (upd H p (.rng 0 (b.length:Int))) l (.lst ((W5 b.length).map λi=>V.int (i:Nat)))=H2 at s2 h2;refine⟨λq σ M=>∃(l:Addr) (c:List Nat) (v3:Option V),q=c.length/\σ=[some (.ref x),some (.int many),some (.ref l),v3]/\a9 H M/\H l=none/\M l=some (.lst ((nI c).map V.int))/\Above b many c,⟨_,l,_,none,rfl,rfl,s2,fl,h2,Above.start b many⟩,?_⟩;rintro q σ M ⟨l,c,v3,rfl,rfl,O,fl,r,t⟩;refine⟨true,rfl,cP ?_⟩;refine⟨λu C=>∃(g:Addr),u=[some (.ref x),some (.int many),some (.ref g),some (.ref g)]/\a9 H C/\H g=none/\C g=some (.lst ((nI (rj b many c)).map V.int))/\rj b many c≠c,?_,?_⟩
 ·rintro u C ⟨g,rfl,R,U,h',W⟩;exact⟨_,DV W,g,_,_,rfl,rfl,R,U,h',t.next⟩
 have X:∀d∈c,d < b.length:=λd hd=>Wt.mp (t.sub.subset hd);have J8:c.length<=1000:=by have:=t.sub.length_le;rw[Wf]at this;omega
 refine⟨_,rfl,l,rfl,⟨_,aN.of r⟩,λg z=>?_⟩;refine dg (λv=>match v with |.int d=>decide (many<=((dJ c (b.getD d.toNat [])).length:Int)) |_=>false) (λv=>v) (aO K l _) z (av (by rw[Vn,gu];omega)) (λC R=>aN.of (R _ _ r)) (λy D Q' hy j Y=>?_) (λy D Q' hy _ j Y=>⟨_,rfl,Y D (a9.refl _)⟩) (λD j Z=>?_)
 ·obtain⟨n,A5,rfl⟩:=vD hy;have L1:=X n A5;have hq:b[n]?=some (b.getD n []):=by rw[Vq,Vp L1];rfl
  obtain⟨v,Je,rd⟩:=m.at (i:=n) (d:=cj (b.getD n [])) (by rw[Vt,hq];rfl);have e:=O.trans j;refine⟨_,rfl,x,L.aq,dx,_,_,rfl,e _ _ hx,L.ao.cl,L.ao.di,bj ah bw cl,_,rfl,cl,J,_,_,rfl,rfl,e.seq (.inl hc),cb Je,_,rfl,v,l,c,b.getD n [],rfl,bG.same e _ _ rd,aN.of (j _ _ r),hm _ (VN hq),λy H5 s5 r5=>?_⟩;obtain⟨a,rs,rfl,hS,hT⟩:=eV r5;have Gs:rs.length=(dJ c (b.getD n [])).length:=by rw[hT.1,Vn,Vn]
  refine⟨a,_,rfl,.inl ((dS _ _).seq hS),?_⟩;rw[Vn,Gs];exact⟨_,rfl,_,_,rfl,rfl,_,rfl,Y H5 s5⟩
 rw[YF,uC (f:=λn=>decide (many<=((dJ c (b.getD n [])).length:Int))) (λn=>rfl)]at Z;have e:=O.trans j;refine⟨_,rfl,_,rfl,g,l,_,_,rfl,rfl,aN.of Z,aN.of (j _ _ r),eU _,eU _,_,rfl,?_⟩;refine CI (λB=>?_) (λB=>?_)
 ·rw[oq,decide_eq_true_eq]at B;exact⟨_,rfl,k l c D e fl (j _ _ r) ⟨t,t.stays B⟩⟩
 ·rw[oq,decide_eq_true_eq]at B;exact⟨_,rfl,g,rfl,e,none_of O z,Z,B⟩
theorem pO(L:Lk K mg):aK P w K mg base dn 1 L.k6 L.k7 ["sheet","desk"] (BE K L.aq):=by
 have T:=L.T;refine L.gy.F.eL (N:=["sheet","desk","reached","waiting","line","word","end"]) (λgd A outer s H vs Q E nd n h=>?_);obtain⟨x,d,hs,ws,c,rfl,S,hd,he,yr,hn,k⟩:=h;have hu:=et n
 refine⟨_,(a6 (aj (i:=2) dC)
  (a6 (aj (i:=3) (cC (a5 (pv 1) a8)))
  (a6 (i3 VS (aA jE (ax bf (by rfl) T.len We (a5 (pv 3) a8)) ag (aL _)) (a6 (aj (i:=4) (bV cD (aX (pv 0) rfl) (CA Wv wbY PySem.F.type_list_pop HH (pv 3)) (λ_ _=>rfl)))
  (af (b9 VS rfl (aM (pv 4)) (gY rfl (b6 (az (i:=5)) (b6 (az (i:=6)) fi))) (af (bE (y4 (tR hu (pv 6) (pv 2))) (a6 (dE hu (pv 2) (pv 6) dM rfl)
  (af (bH (jf Wv WD WR df (pv 3) (a5 (pv 6) a8))))) aJ))))))
  (af (aw (bu (lN rfl) (by rfl) T.list ji (a5 (pv 2) a8))))))),?_⟩
 obtain⟨dx,ah,bw,cl,hx,rh,EI,rl⟩:=id S;obtain⟨L4,xs,ec,hc,wH⟩:=id rl;cases ec;have xl:xs.length=c.length:=by rw[wH.len,Vn]
 refine λrd O6=>?_;refine⟨_,rfl,by show 1<=sizeLine;decide,λwl B5=>?_⟩;have M:rd≠wl:=ae a7 B5;have s0:a9 H (upd (upd H rd (.dK [])) wl (.lst [.int (d:Int)])):=(a9.upd O6).trans (a9.upd B5);have Qg:(upd (upd H rd (.dK [])) wl (.lst [.int (d:Int)])) rd=some (.dK (dB [])):=by rw[aa M,a7];rfl
 have Qh:(upd (upd H rd (.dK [])) wl (.lst [.int (d:Int)])) wl=some (.lst ((nI [d]).map V.int)):=a7;have Qi:H wl=none:=none_of (a9.upd O6) B5;generalize upd (upd H rd (.dK [])) wl (.lst [.int (d:Int)])=H0 at s0 Qg Qh
 refine⟨λq σ X=>∃(f Y:List Nat) (v4 B v6:Option V),q=2 * (c.length - f.length) + Y.length/\σ=[some (.ref x),some (.int (d:Int)),some (.ref rd),some (.ref wl),v4,B,v6]/\a9 H X/\X rd=some (.dK (dB f))/\X wl=some (.lst ((nI Y).map V.int))/\f.Nodup/\(∀r∈f,r < c.length)/\(∀w∈Y,w < c.length)/\(∀r∈f,r∉Y->∀q∈c.getD r [],q.2∈f)/\(d∉Y->∀q∈c.getD d [],q.2∈f)/\Y.length<=f.length + 1,
  ⟨_,[],[d],none,none,none,rfl,rfl,s0,Qg,Qh,WH,λr h=>absurd h Xn,λw h=>by rw[VD.mp h];exact hd,λr h=>absurd h Xn,λh=>absurd (VD.mpr rfl) h,Vy _⟩,?_⟩
 rintro q σ X ⟨f,Y,v4,B,v6,rfl,rfl,s3,LU,O,nd,O7,Qj,Z,LN,R⟩;have Gs:=jP nd O7
 by_cases Qk:Y=[]
 ·subst Qk;refine⟨_,rfl,wl,_,rfl,.inl (aN.of O),_,_,rfl,rfl,false,rfl,bB ?_⟩;refine⟨_,rfl,rd,_,rfl,LU,λl hl=>?_⟩;rw[G7];refine k l f _ (s3.trans (a9.upd hl)) (none_of s3 hl) a7 ⟨λr n=>Z r n Xn,O7,λz=>?_,nd⟩
  cases e:c.getD d [] with
  |nil=>exact yr e
  |cons q qs=>
   have:=LN Xn q (by rw[e];exact Vz ..);rw[z]at this;cases this
 obtain⟨z,t,rfl,hz,Hg⟩:=G8 Qk;refine⟨_,rfl,wl,_,rfl,.inl (aN.of O),_,_,rfl,rfl,true,congrArg V.bl (decide_eq_true (by rw[Vn,gu,Vs];show (0:Int) < ((_ + 1:Nat):Int);omega)),cP ?_⟩;have Th:z < c.length:=Qj z (Wd _ (VD.mpr rfl));have Ql:c[z]?=some (c.getD z []):=by rw[Vq,Vp Th];rfl
 have O8:∀q∈c.getD z [],q.2 < c.length:=he _ (VN Ql);obtain⟨v,Je,Ti⟩:=wH.at (i:=z) (d:=cj (c.getD z [])) (by rw[Vt,Ql];rfl);obtain⟨a,rr,rfl,hS,hT⟩:=eV Ti;have Qm:rr.length=(c.getD z []).length:=by rw[hT.1,Vn,Vn]
 refine⟨λσ' H'=>∃(ad:List Nat) (B v6:Option V),σ'=[some (.ref x),some (.int (d:Int)),some (.ref rd),some (.ref wl),some (.ref a),B,v6]/\a9 H H'/\H' rd=some (.dK (dB (f++ad)))/\H' wl=some (.lst ((nI (t++ad)).map V.int))/\(f++ad).Nodup/\(∀r∈f++ad,r < c.length)/\(∀q∈c.getD z [],q.2∈f++ad),?_,?_⟩
 ·rintro σ' H' ⟨ad,B,v6,rfl,s',NA,Tj,Qn,DM,j⟩;have Lc:=jP Qn DM;rw[Vs]at Lc;refine⟨_,?_,f++ad,t++ad,_,B,v6,rfl,rfl,s',NA,Tj,Qn,DM,λw hw=>?_,λr n U q J=>?_,λU q J=>?_,?_⟩
  ·rw[Vs,Vs,Vs];show _ < 2 * (c.length - f.length) + (t.length + 1);omega
  ·rcases VP.mp hw with hw |hw
   ·exact Qj w (WN _ hw)
   ·exact DM w (Wd _ hw)
  ·rcases VP.mp n with n |n
   ·by_cases C:r=z
    ·rw[C]at J;exact j q J
    ·refine WN _ (Z r n (λm=>?_) q J);rcases VP.mp m with m |m
     ·exact U (WN _ m)
     ·exact C (VD.mp m)
   ·exact absurd (Wd _ n) U
  ·by_cases C:d=z
   ·rw[C]at J;exact j q J
   ·refine WN _ (LN (λm=>?_) q J);rcases VP.mp m with m |m
    ·exact U (WN _ m)
    ·exact C (VD.mp m)
  ·rw[Vs]at R;rw[Vs,Vs];have:t.length + 1<=f.length + 1:=R;omega
 refine⟨_,rfl,x,L.aq,dx,_,_,rfl,s3 _ _ hx,L.ao.cl,L.ao.di,bj ah bw cl,_,rfl,.inl ⟨rfl,_,aN.of O⟩,wl,_,_,rfl,rfl,O,hz,?_⟩;rw[Hg];have s4:a9 H (upd X wl (.lst ((nI t).map V.int))):=λb o e=>by rw[aa (ae e Qi)];exact s3 _ _ e
 have Hf:(upd X wl (.lst ((nI t).map V.int))) rd=some (.dK (dB f)):=by rw[aa M];exact LU
 have Le:(upd X wl (.lst ((nI t).map V.int))) wl=some (.lst ((nI t).map V.int)):=a7;generalize upd X wl (.lst ((nI t).map V.int))=H4 at s4 Hf Le;refine⟨cl,xs,_,_,rfl,rfl,s4.seq (.inl hc),cb Je,?_⟩;refine⟨_,rfl,a,rfl,⟨_,s4.seq hS⟩,cZ (K:=K) (a:=a) (xs:=rr.map V.ref) (λi σ H5=>∃(ad:List Nat) (B v6:Option V),σ=[some (.ref x),some (.int (d:Int)),some (.ref rd),some (.ref wl),some (.ref a),B,v6]/\a9 H H5/\H5 rd=some (.dK (dB (f++ad)))/\H5 wl=some (.lst ((nI (t++ad)).map V.int))/\(f++ad).Nodup/\(∀r∈f++ad,r < c.length)/\(∀q∈(c.getD z []).take i,q.2∈f++ad)) ⟨[],_,_,rfl,s4,by rw[Wr];exact Hf,by rw[Wr];exact Le,by rw[Wr];exact nd,by rw[Wr];exact O7,λq J=>by rw[wcJ]at J;cases J⟩ (λi σ H5 _ ⟨_,_,_,_,s5,_⟩=>s5.seq hS) ?_ ?_⟩
 ·rintro i y σ H5 hy ⟨ad,B,v6,rfl,s5,D,W,G,I,j⟩;have hi:i < rr.length:=by have:=(Vu.mp hy).1;rwa[Vn]at this
  have O9:i < (c.getD z []).length:=by omega
  rw[Vt,Vp hi]at hy;cases hy;have Lf:H rr[i]=some (.tup [.str (c.getD z [])[i].1,.int ((c.getD z [])[i].2:Int)]):=hT.2 i rr[i] (mE (dW (c.getD z [])[i])) (Vp hi) (by rw[Vt,Vt,Vp O9];rfl);have KZ:(c.getD z []).take (i + 1)=(c.getD z []).take i++[(c.getD z [])[i]]:=by rw[Ws,Vp O9];rfl
  have Hh:=O8 _ (Wg O9);generalize (c.getD z [])[i]=q at Lf KZ Hh;have Tl:=jP G I;refine⟨rr[i],_,rfl,jA.of (s5 _ _ Lf),rfl,_,_,rfl,_,_,rfl,rfl,?_⟩;have g:=dm.k (k:=(WB (q.2:Int):Key)) D;rw[zo]at g
  by_cases m:q.2∈f++ad
  ·rw[if_pos m]at g;refine⟨_,rfl,_,rfl,rd,_,rfl,g,false,rfl,bB ?_⟩;refine⟨ad,_,_,rfl,s5,D,W,G,I,λp u=>?_⟩;rw[KZ]at u;rcases VP.mp u with u |u
   ·exact j p u
   ·rw[VD.mp u];exact m
  ·rw[if_neg m]at g;refine⟨_,rfl,_,rfl,rd,_,rfl,g,true,rfl,cP ?_⟩;refine⟨_,rfl,_,rfl,rd,_,rfl,iL.k (k:=WB (q.2:Int)) D (bx (by unfold dB;rw[Vn];omega)),?_⟩;rw[IX m];have Qo:(upd H5 rd (.dK (dB (f++ad++[q.2])))) wl=some (.lst ((nI (t++ad)).map V.int)):=by rw[aa M.symm];exact W
   refine⟨_,rfl,.inl ⟨rfl,_,aN.of Qo⟩,_,rfl,wl,_,_,rfl,rfl,Qo,?_,?_⟩
   ·rw[Vs]at R Tl;rw[Vn,gu,Vs];have:t.length + 1<=f.length + 1:=R;exact bx (by omega)
   refine⟨ad++[q.2],_,_,rfl,λb o e=>by rw[aa (ae e Qi),aa (ae e O6)];exact s5 _ _ e,by rw[aa M,a7,Wx],by rw[a7,<-Wx,uA (t++ad),VE];rfl,?_,λr n=>?_,λp u=>?_⟩
   ·rw[<-Wx];refine Xe.mpr ⟨G,by simp,λa ha b hb e=>?_⟩;rw[VD.mp hb]at e;rw[e]at ha;exact m ha
   ·rw[<-Wx]at n;rcases VP.mp n with n |n
    ·exact I r n
    ·rw[VD.mp n];exact Hh
   ·rw[<-Wx];rw[KZ]at u;rcases VP.mp u with u |u
    ·exact WN _ (j p u)
    ·rw[VD.mp u];exact Wd _ (VD.mpr rfl)
 ·rintro σ H5 ⟨ad,B,v6,rfl,s5,D,W,G,I,j⟩;rw[Vn,Qm,W6]at j;exact⟨ad,B,v6,rfl,s5,D,W,G,I,j⟩
theorem vS(L:Lk K mg):aK P w K mg base dn 1 L.ph L.pj ["sheet"] (IV K L.aq):=by
 have T:=L.T;refine L.k8.F.eL (N:=["sheet","heaviest","desk","line","number","step"]) (λgd A outer s H vs Q E nd hr h=>?_);obtain⟨x,hs,g,b,rfl,S,B5,he,yr,hex,k⟩:=h
 refine⟨_,(a6 (aj (i:=1) (ax (Bh rfl) (by rfl) T.max Kr (a5 (aX (pv 0) rfl) a8)))
  (a6 (b9 VS rfl (mn (by rfl) T.enum (a5 (aX (pv 0) rfl) a8)) (gY rfl (b6 (az (i:=2)) (b6 (az (i:=3)) fi))) (af (b9 VS rfl (mn (by rfl) T.enum (a5 (pv 3) a8)) (gY rfl (b6 (az (i:=4)) (b6 (az (i:=5)) fi))) (af (bE (PW.pt (Hv (aA qf (bV cD (aX (pv 0) rfl) (pv 2) (λ_ _=>rfl)) (pv 1) (aL _)) (EV (aA je (bV cD (aX (pv 0) rfl) (bV iJ (pv 5) ag (λ_ _=>rfl)) (λ_ _=>rfl)) (pv 1) (aL _))))) (af (aw (cB (a5 (pv 2) (a5 (pv 4) a8))))) aJ)))))
  (af (aw gX)))),?_⟩
 obtain⟨dx,ah,C,cl,hx,rh,EI,rl⟩:=id S;obtain⟨PQ,eb,hb⟩:=gp EI;cases eb;obtain⟨L4,xs,ec,hc,U⟩:=id rl;cases ec;have xl:xs.length=b.length:=by rw[U.len,Vn]
 refine⟨_,rfl,x,L.aq,dx,_,_,rfl,hx,L.ao.cl,L.ao.cy,bT ah C cl,C,g,rfl,hb,yr,λM hM hT=>?_⟩;have W:∀n:Nat,n < g.length->wx (g.map V.int) (n:Int)=some (.int (g.getD n 0)):=λn hn=>cb (by rw[Vt,Vp hn,Vq,Vp hn];rfl);refine⟨_,rfl,x,L.aq,dx,_,_,rfl,hx,L.ao.cl,L.ao.di,bj ah C cl,cl,xs,rfl,.inl hc,qu (K:=K) (a:=cl) (xs:=xs) (λi σ X=>a9 H X/\(∃v2 v3 v4 R,σ=[some (.ref x),some (.int M),v2,v3,v4,R])/\∀d f c q,Down g b M d f c q->i<=d) ⟨a9.refl _,⟨none,none,none,none,rfl⟩,λ_ _ _ _ _=>Wb _⟩ (λi σ X _ p=>p.1.seq (.inl hc)) ?_ (λσ X p=>?_)⟩
 ·rintro d y σ X T hy ⟨s2,⟨v2,v3,v4,R,rfl⟩,G⟩ Tn;have hd:d < xs.length:=(Vu.mp hy).1;have Hg:d < b.length:=by omega
  have Y:b[d]?=some (b.getD d []):=by rw[Vq,Vp Hg];rfl
  obtain⟨v,Z,rd⟩:=U.at (i:=d) (d:=cj (b.getD d [])) (by rw[Vt,Y];rfl);rw[hy]at Z;cases Z;obtain⟨a,B,rfl,hS,Lg⟩:=eV rd;have Qm:B.length=(b.getD d []).length:=by rw[Lg.1,Vn,Vn]
  have O8:∀q∈b.getD d [],q.2 < g.length:=he _ (VN Y);have s3:=s2.trans (a9.upd (o:=.tup [.int (d:Nat),.ref a]) Tn);refine⟨T,_,rfl,jA.of a7,rfl,_,_,rfl,_,_,rfl,rfl,?_⟩;generalize upd X T (.tup [.int (d:Nat),.ref a])=H3 at s3;refine⟨_,rfl,a,_,rfl,s3.seq hS,qu (K:=K) (a:=a) (xs:=B.map V.ref) (λi σ H4=>a9 H H4/\(∃v4 R,σ=[some (.ref x),some (.int M),some (.int (d:Int)),some (.ref a),v4,R])/\∀f c q,Down g b M d f c q->i<=f) ⟨s3,⟨_,_,rfl⟩,λ_ _ _ _=>Wb _⟩ (λi σ H4 _ p=>p.1.seq hS) ?_ (λσ H4 p=>?_)⟩
  ·rintro i y σ H4 T2 I ⟨s4,⟨v4,R,rfl⟩,j⟩ To;have hi:i < B.length:=by have:=(Vu.mp I).1;rwa[Vn]at this
   have J:i < (b.getD d []).length:=by omega
   rw[Vt,Vp hi]at I;cases I;have Lf:H B[i]=some (.tup [.str (b.getD d [])[i].1,.int ((b.getD d [])[i].2:Int)]):=Lg.2 i B[i] (mE (dW (b.getD d [])[i])) (Vp hi) (by rw[Vt,Vt,Vp J];rfl);have O:(b.getD d [])[i]?=some (b.getD d [])[i]:=Vp J;have Hh:=O8 _ (Wg J);generalize (b.getD d [])[i]=q at Lf O Hh;have m:=s4.trans (a9.upd (o:=.tup [.int (i:Nat),.ref B[i]]) To);refine⟨T2,_,rfl,jA.of a7,rfl,_,_,rfl,_,_,rfl,rfl,?_⟩;generalize upd H4 T2 (.tup [.int (i:Nat),.ref B[i]])=H5 at m
   have Qp:(¬∃c q,Down g b M d i c q)->∀f c q,Down g b M d f c q->i + 1<=f:=λhn f c q hD=>by
    have:=j f c q hD
    by_cases e:f=i
    ·subst e;exact absurd ⟨c,q,hD⟩ hn
    ·omega
   refine⟨_,rfl,x,L.aq,dx,_,_,rfl,m _ _ hx,L.ao.cl,L.ao.cy,bT ah C cl,_,rfl,C,_,_,_,rfl,rfl,m.seq hb,W d (by omega),_,rfl,?_⟩
   by_cases r:g.getD d 0=M
   ·refine⟨rfl,true,congrArg V.bl (decide_eq_true (by rw[r])),cP ?_⟩;refine⟨_,rfl,x,L.aq,dx,_,_,rfl,m _ _ hx,L.ao.cl,L.ao.cy,bT ah C cl,_,rfl,B[i],_,_,_,rfl,rfl,jA.of (m _ _ Lf),rfl,C,_,_,_,rfl,rfl,m.seq hb,W q.2 Hh,_,rfl,_,_,rfl,rfl,?_⟩
    by_cases u:g.getD q.2 0 < M
    ·refine⟨true,congrArg V.bl (decide_eq_true u),cP ?_⟩;refine⟨_,rfl,_,rfl,by show 2<=sizeLine;decide,λt ht=>?_⟩;exact k t M d i _ q _ (m.trans (a9.upd ht)) a7 ⟨hM,hT,Y,O,r,u⟩
    ·refine⟨false,congrArg V.bl (decide_eq_false u),bB ?_⟩;refine⟨m,⟨_,_,rfl⟩,Qp ?_⟩;rintro⟨c,q',D⟩;have e1:=D.l;rw[Y]at e1;cases e1;have e2:=D.s;rw[O]at e2;cases e2;exact u D.lt
   ·refine⟨rfl,false,congrArg V.bl (decide_eq_false λz=>r (V.int.inj z)),bB ?_⟩;refine bB ⟨m,⟨_,_,rfl⟩,Qp ?_⟩;rintro⟨c,q',D⟩;exact r D.e
  ·obtain⟨s4,⟨v4,R,rfl⟩,j⟩:=p;refine⟨s4,⟨_,_,_,_,rfl⟩,λd' f c q D=>?_⟩;have:=G d' f c q D
   by_cases e:d'=d
   ·subst e;have:=j f c q D;have e1:=D.l;rw[Y]at e1;cases e1;have:=(Vu.mp D.s).1;rw[Vn]at *;omega
   ·omega
 ·obtain⟨s2,_,G⟩:=p;obtain⟨d,i,c,q,D⟩:=hex M hM hT;have:=G d i c q D;have:=(Vu.mp D.l).1;omega
theorem C4(L:Lk K mg):aK P w K mg base dn 1 L.xO L.xP ["weights","numbers","many"] (KC K):=by
 have T:=L.T;refine L.rJ.F.eL (N:=["weights","numbers","many","taken_at","total","taken","number"]) (λgd A outer s H vs Q E nd hr h=>?_);obtain⟨a,b,many,wl,d,rfl,hA,I,m1,m2,J,M,k⟩:=h;have O:=et hr
 refine⟨_,(a6 (aj (i:=3) (zV (wC ag ag zU) rfl rfl (by simp) (by decide)))
  (a6 (aj (i:=4) ag)
  (a6 (b9 VS rfl (DR (by rfl) T.enum (a5 (pv 1) a8)) (gY rfl (b6 (az (i:=5)) (b6 (az (i:=6)) fi))) (a6 (uV (i:=4) nd rfl (Y6 rfl) (bV cD (pv 0) (pv 6) (λ_ _=>rfl)) Cp)
  (a6 (bE (y4 (HI O (aI fE (pv 4) (pv 2)) (pv 3))) (af (aw (dA pU (pv 1) (da (cF O (pv 3) (aI fE (pv 4) (pv 2)) (λ_ _=>rfl))) (da (pv 5))))) aJ)
  (af (dE O (pv 3) (aI fE (pv 4) (pv 2)) (pv 5) rfl)))))
  (af (aw (cC a8)))))),?_⟩
 have l:(0:Int) < many:=by omega
 refine λg m=>⟨a7,[((WB 0:Key),V.int 0)],rfl,by decide,?_⟩;have R:a9 H (upd (upd H g (.dK [])) g (.dK (iM [] [((WB 0:Key),V.int 0)]))):=λc o e=>by rw[aa (ae e m),aa (ae e m)];exact e
 have X:(upd (upd H g (.dK [])) g (.dK (iM [] [((WB 0:Key),V.int 0)]))) g=some (.dK (dR many (iV wl d) 1)):=by
  rw[a7];refine congrArg (λz=>some (HO.dK z)) ?_;show [((WB 0:Key),V.int 0)]=[((WB (0 % many):Key),V.int 0)];rw[Int.zero_emod]
 generalize upd (upd H g (.dK [])) g (.dK (iM [] [((WB 0:Key),V.int 0)]))=H0 at R X;refine⟨_,rfl,b,_,rfl,R.seq I,Bw (K:=K) (a:=b) (xs:=(nI d).map V.int) (λj σ q=>a9 H q/\(∃S v6,σ=[some (.ref a),some (.ref b),some (.int many),some (.ref g),some (.int (iV wl d j)),S,v6])/\q g=some (.dK (dR many (iV wl d) (j + 1)))/\∀i k,i < k->k<=j->iV wl d i % many≠iV wl d k % many) ⟨R,⟨none,none,rfl⟩,X,λi k Y C=>by omega⟩ (λi σ q _ p=>p.1.seq I) ?_ (λσ q p=>?_)⟩
 ·rintro j y σ q T U ⟨Z,⟨S,v6,rfl⟩,C,f⟩ hT;have hj:j < d.length:=by have:=(Vu.mp U).1;rwa[Vn,gu]at this
  have r:d[j]?=some d[j]:=Vp hj;rw[IP r]at U;cases U;have t:=M _ (Wg hj);have x:=BF (wl:=wl) r;generalize d[j]=n at r t x;have u:=Z.trans (a9.upd (o:=.tup [.int ((j + 1:Nat):Int),.int (n:Int)]) hT);have D:(upd q T (.tup [.int ((j + 1:Nat):Int),.int (n:Int)])) g=some (.dK (dR many (iV wl d) (j + 1))):=a9.upd hT _ _ C;refine⟨T,_,rfl,jA.of a7,rfl,_,_,rfl,_,_,rfl,rfl,?_⟩;generalize upd q T (.tup [.int ((j + 1:Nat):Int),.int (n:Int)])=H3 at u D;refine⟨_,rfl,_,rfl,_,rfl,a,_,_,_,rfl,rfl,u.seq hA,cb (v:=.int (wl.getD n 0)) (by rw[Vt,Vp t,Vq,Vp t];rfl),_,_,rfl,rfl,?_⟩;dsimp only;rw[<-x];refine⟨_,rfl,_,rfl,_,_,rfl,rfl,l,_,rfl,g,_,rfl,dm.k (k:=(WB (iV wl d (j + 1) % many):Key)) D,?_⟩;rcases E1 many (iV wl d) (j + 1) (iV wl d (j + 1) % many) with⟨G,B⟩ |⟨i,hi,W,G⟩
  ·rw[G];refine⟨false,rfl,bB ?_⟩;refine⟨_,rfl,_,rfl,_,rfl,_,rfl,_,_,rfl,rfl,l,g,_,rfl,iL.k (k:=WB (iV wl d (j + 1) % many)) D (by rw[IZ];exact bx (by omega)),?_⟩;rw[IY G];refine⟨λc o e=>by rw[aa (ae e m)];exact u _ _ e,⟨_,_,rfl⟩,a7,λi k Y C=>?_⟩
   by_cases e:k=j + 1
   ·subst e;exact B i (by omega)
   ·exact f i k Y (by omega)
  ·have hg:=dm.k (k:=(WB (iV wl d (j + 1) % many):Key)) D;rw[G]at hg ⊢;refine⟨true,rfl,cP ?_⟩;refine⟨_,rfl,_,rfl,_,rfl,_,rfl,_,_,rfl,rfl,l,g,_,rfl,hg,_,rfl,_,rfl,_,rfl,b,_,rfl,u.seq I,λp hp=>?_⟩;rw[E2 _ (by omega) (by rw[gu];omega),Ak,G9];exact k p i (j + 1) _ (u.trans (a9.upd hp)) (none_of u hp) (by omega) (by omega) (DZ (by omega) W) a7
 ·obtain⟨Z,⟨S,v6,rfl⟩,C,f⟩:=p;rw[Vn,gu]at f;exact absurd (zp l J f) id
theorem t8(L:Lk K mg):aK P w K mg base dn 2 L.n9 L.nc ["sheet","many"] (IW K L.aq):=by
 have T:=L.T;refine L.j5.F.eL (N:=["sheet","many","found","desk","weights","others","numbers"]) (λgd A outer s H vs Q E nd hr h=>?_);obtain⟨x,many,hs,c,u,rfl,S,B,hK,yr,hn,hm,m1,m2,k⟩:=h
 refine⟨_,(a6 (aj (i:=2) (ai (vS L) L.k8 (a5 (pv 0) a8)))
  (a6 (aj (i:=3) (bV iJ (pv 2) ag (λ_ _=>rfl)))
  (a6 (aj (i:=4) (fz rfl (au ["sheet"] [0]) (au ["sheet"] [0]) (by decide) (aM (bV cD (aX (pv 0) rfl) (pv 3) (λ_ _=>rfl))) (λ_ _ _ _ _ _=>bI) (λ_ _ _ _ _ _=>(bV (jK (K:=K) rfl) (mr (K:=K) rfl (pv 2) rfl) (pv 1) (λ_ _=>rfl)))))
  (a6 (dH (i:=5) rfl (au ["found"] [2]) nd rfl rfl (cL rfl T.range (a5 (ax bf (by rfl) T.len We (a5 (pv 4) a8)) a8)) (λ_ _ _ _ _ _=>dF (aA JM (pv 0) (bV (Gb (K:=K) rfl) (pv 1) ag (λ_ _=>rfl)) (aL _))) (λ_ _ _ _ _ _=>(pv 0)))
  (a6 (aj (i:=6) (ai (C4 L) L.rJ (a5 (pv 4) (a5 (aI yk (cC (a5 (bV iJ (pv 2) ag (λ_ _=>rfl)) a8)) (dA pU (pv 5) iI (da (aI uW (pv 1) ag)))) (a5 (pv 1) a8)))))
  (af (aw (cB (a5 (pv 3) (a5 (pv 6) (a5 (aI mh (ax (mB rfl) (by rfl) T.sum Dl (a5 (cT rfl (au ["weights"] [4]) (aM (pv 6)) (λ_ _ _ _ _ _=>bI) (λ_ _ _ _ _ _=>(bV (jK (K:=K) rfl) (pv 1) (pv 0) (λ_ _=>rfl)))) a8)) (pv 1)) a8))))))))))),?_⟩
 obtain⟨dx,ah,bw,cl,hx,rh,EI,rl⟩:=id S;obtain⟨PQ,eb,hb⟩:=gp EI;cases eb;obtain⟨L4,xs,ec,hc,wH⟩:=id rl;cases ec;have O:=B.w;have Br:=B.l;have xl:xs.length=u.length:=by rw[wH.len,Vn]
 have Tp:c≠[]:=λz=>yr (WY (by rw[<-O,z];rfl));refine⟨_,rfl,x,hs,c,u,rfl,S,by omega,λl hl q hq=>by rw[O];exact B.e l hl q hq,Tp,λh hh ht=>?_,λt h d i b q H1 R ht D=>?_⟩
 ·obtain⟨d,i,b,q,e1,e2,e3,e4⟩:=xF B hK hh ht m1;exact⟨d,i,b,q,hh,ht,e1,e2,e3,e4⟩
 have hd:d < u.length:=(Vu.mp D.l).1;have hi:i < b.length:=(Vu.mp D.s).1;have Jt:b∈u:=VN D.l;have Hh:=hm b Jt;have Qq:=uD B D;have hT:=jA.of (K:=K) ht;refine⟨_,rfl,t,_,_,_,rfl,rfl,hT,rfl,?_⟩;obtain⟨v,Je,rd⟩:=wH.at (i:=d) (d:=cj b) (by rw[Vt,D.l];rfl);obtain⟨a,rs,rfl,hS,Lg⟩:=eV rd;have Gs:rs.length=b.length:=by rw[Lg.1,Vn,Vn]
 refine⟨_,rfl,x,L.aq,dx,_,_,rfl,R _ _ hx,L.ao.cl,L.ao.di,bj ah bw cl,_,rfl,cl,xs,_,_,rfl,rfl,R.seq (.inl hc),cb Je,a,rfl,⟨_,R.seq hS⟩,λlc L6=>?_⟩;refine iU (prs:=b.map dW) (λ_=>true) (λq=>match q.2 with |.int e=>.int (c.getD e.toNat 0) |_=>.non) (aO K a (rs.map V.ref)) (Lg.same R) L6 (av (by omega)) (λH' s'=>(R.trans s').seq hS) (λq H7 Q' _ _ m=>m H7 (a9.refl _)) (λq H7 Q' hq _ s7 m=>?_) (λH7 s7 h7=>?_)
 ·obtain⟨U,Tq,rfl⟩:=Vx.mp hq;have C:U.2 < c.length:=by rw[O];exact B.e b Jt U Tq
  have Tr:wx (c.map V.int) (U.2:Int)=some (.int (c.getD U.2 0)):=cb (by rw[Vt,Vp C,Vq,Vp C];rfl)
  have q2:Q' (.int (c.getD U.2 0)) H7:=by
   have:=m H7 (a9.refl _);rwa[show (dW U).2=.int (U.2:Int) from rfl]at this
  have G:=R.trans s7;exact⟨_,rfl,x,L.aq,dx,_,_,rfl,G _ _ hx,L.ao.cl,L.ao.cy,bT ah bw cl,_,rfl,bw,_,_,_,rfl,rfl,G.seq hb,Tr,q2⟩
 have e7:((b.map dW).filter λ_=>true).map (λq=>match q.2 with |.int e=>V.int (c.getD e.toNat 0) |_=>.non)=(b.map λq=>c.getD q.2 0).map V.int:=by
  rw[WU.mpr (λ_ _=>rfl),VG,VG];rfl
 rw[e7]at h7;have G:=R.trans s7;have Qr:=s7.FV hT;have g:(b.map λq=>c.getD q.2 0).length=b.length:=Vn _;refine⟨_,rfl,lc,_,rfl,.inl (aN.of h7),_,rfl,by omega,by rw[Vn,g];omega,λlo Kf=>?_⟩;have en:((((b.map λq=>c.getD q.2 0).map V.int).length:Nat):Int).toNat=b.length:=by rw[Vn,g,W2]
 rw[en];refine dg (λv=>!decide (v=.int (i:Int))) (λv=>v) (iN 0 b.length) Kf (av (by rw[Vn,Wf];omega)) (λ_ _=>X0) (λy I Q' hy W m=>?_) (λy I Q' hy _ W m=>⟨_,rfl,m I (a9.refl _)⟩) (λI W h8=>?_)
 ·obtain⟨n,A5,rfl⟩:=Vx.mp hy;exact⟨_,rfl,_,rfl,t,_,_,_,rfl,rfl,W.FV Qr,rfl,rfl,_,rfl,m I (a9.refl _)⟩
 have e8:(((W5 b.length).map λi:Nat=>V.int (0 + (i:Nat))).filter λv=>!decide (v=.int (i:Int)))=(nI (restOf b.length i)).map V.int:=by
  have e9:((W5 b.length).map λi:Nat=>V.int (0 + (i:Nat)))=(nI (W5 b.length)).map V.int:=by
   rw[<-xI];exact Wm λn _=>by rw[ZT]
  rw[e9,uC (f:=λn=>decide (n≠i)) λn=>?_]
  ·rfl
  ·by_cases z:n=i
   ·subst z;simp
   ·have:¬V.int (n:Int)=V.int (i:Int):=λy=>z (by have:=V.int.inj y;omega);rw[decide_eq_false this,decide_eq_true z];rfl
 rw[YF,e8]at h8;have Qs:=G.trans W;have Ts:=W.FV Qr;have Qt:=W _ _ h7;refine⟨_,rfl,_,rfl,t,_,_,_,rfl,rfl,Ts,rfl,by show 1<=sizeLine;decide,λl1 NM=>?_⟩;have s9:=a9.upd (H:=I) (o:=.lst [V.int (i:Int)]) NM;have h9:(upd I l1 (.lst [V.int (i:Int)])) l1=some (.lst [V.int (i:Int)]):=a7;generalize upd I l1 (.lst [V.int (i:Int)])=H9 at s9 h9;have Tu:many - 1=(((many - 1).toNat:Nat):Int):=by omega
 refine⟨_,rfl,_,rfl,_,_,rfl,rfl,(((many - 1).toNat:Nat):Int),congrArg V.int Tu,lo,_,rfl,aN.of (s9 _ _ h8),λl2 Oa=>?_⟩;rw[Fw,<-wak,Ak];have X:=a9.upd (H:=H9) (o:=.lst ((nI ((restOf b.length i).take (many - 1).toNat)).map V.int)) Oa;have Qu:(upd H9 l2 (.lst ((nI ((restOf b.length i).take (many - 1).toNat)).map V.int))) l2=some (.lst ((nI ((restOf b.length i).take (many - 1).toNat)).map V.int)):=a7;generalize upd H9 l2 (.lst ((nI ((restOf b.length i).take (many - 1).toNat)).map V.int))=Y at X Qu;have L1:=xK (k:=(many - 1).toNat) hi (by omega);refine⟨l1,l2,_,_,rfl,rfl,X _ _ h9,Qu,av ?_,λl3 Jk=>?_⟩
 ·rw[Vn,gu,VQ];show 1 + _<=_;omega
 rw[show [V.int (i:Int)]++(nI ((restOf b.length i).take (many - 1).toNat)).map V.int=(nI (numsOf b.length i (many - 1).toNat)).map V.int from rfl];have Lh:=a9.upd (H:=Y) (o:=.lst ((nI (numsOf b.length i (many - 1).toNat)).map V.int)) Jk;have Qv:(upd Y l3 (.lst ((nI (numsOf b.length i (many - 1).toNat)).map V.int))) l3=some (.lst ((nI (numsOf b.length i (many - 1).toNat)).map V.int)):=a7;generalize upd Y l3 (.lst ((nI (numsOf b.length i (many - 1).toNat)).map V.int))=Ju at Lh Qv;have j:=(s9.trans X).trans Lh;refine⟨_,rfl,lc,l3,many,b.map λq=>c.getD q.2 0,numsOf b.length i (many - 1).toNat,rfl,aN.of (j _ _ Qt),aN.of Qv,m1,m2,by rw[L1];omega,λn hn=>by rw[g];exact vE hi n hn,λl i' j' Jc Jv Ob Tv hj hz p=>?_⟩;have aS:=Ga B m1 D Tv hj hz;have C:∀n∈((numsOf b.length i (many - 1).toNat).take j').drop i',n < b.length:=λn hn=>vE hi n (((wcc _ _).trans (XE _ _)).subset hn)
 have J9:(((numsOf b.length i (many - 1).toNat).take j').drop i').length<=1000:=by
  rw[XM,VQ];omega
 generalize ((numsOf b.length i (many - 1).toNat).take j').drop i'=ns at *;have J:=Qs.trans (j.trans Jv);have Tw:=Jv _ _ (j _ _ Qt);refine⟨_,rfl,_,rfl,_,rfl,l,rfl,⟨_,aN.of p⟩,λls Tx=>?_⟩;refine dg (λ_=>true) (λv=>match v with |.int n=>.int ((b.map λq=>c.getD q.2 0).getD n.toNat 0) |_=>.non) (aO K l _) Tx (av (by rw[Vn,gu];omega)) (λH' s'=>aN.of (s' _ _ p)) (λy I Q' hy W m=>m I (a9.refl _)) (λy Oc Q' hy _ r m=>?_) (λOc r Qw=>?_)
 ·obtain⟨n,A5,rfl⟩:=vD hy;have M:n < (b.map λq=>c.getD q.2 0).length:=by rw[g];exact C n A5
  exact⟨_,rfl,_,rfl,lc,_,_,_,rfl,rfl,aN.of (r _ _ Tw),cb (v:=.int ((b.map λq=>c.getD q.2 0).getD n 0)) (by rw[Vt,Vp M,Vq,Vp M];rfl),m Oc (a9.refl _)⟩
 have Tz:(((nI ns).map V.int).filter λ_=>true).map (λv=>match v with |.int n=>V.int ((b.map λq=>c.getD q.2 0).getD n.toNat 0) |_=>.non)=(ns.map λn=>(b.map λq=>c.getD q.2 0).getD n 0).map V.int:=by
  rw[WU.mpr (λ_ _=>rfl)];unfold nI;rw[VG,VG,VG];rfl
 rw[Tz]at Qw;refine⟨ls,_,rfl,aN.of Qw,_,rfl,_,_,rfl,rfl,⟨by omega,by omega⟩,by show 3<=sizeLine;decide,λt' Z=>?_⟩;exact k t' l d ns _ _ (J.trans (r.trans (a9.upd Z))) (none_of (Qs.trans j) Ob) (none_of (J.trans r) Z) a7 (a9.upd Z _ _ (r _ _ p)) aS (by omega) J9
theorem hX(L:Lk K mg):aK P w K mg base (wj P w) 7 L.dX L.dY ["band","many","wide"] (E3 L.aB L.m5):=by
 have T:=L.T;refine L.bb.F.FI (N:=["band","many","wide","most","weights","in_all"]) (λY A outer s H vs Q E nd hr h=>?_);obtain⟨x,many,n,g,O,R,ls,rfl,B,r,t,u,y,k,S⟩:=h
 refine⟨_,(a6 (b9 wcd rfl (nQ rfl T.range (a5 ag (a5 (aI d2 (iC (v:=.int 8) (by rfl) L.kq.choose_spec ⟨_,rfl⟩) ag) a8))) (az (i:=3)) (a6 (aj (i:=4) (ai (pF L) L.j1 (a5 (pv 0) (a5 (pv 1) (a5 (pv 2) (a5 (pv 3) a8))))))
  (a6 (aj (i:=5) (ax (Bq rfl) (by rfl) T.sum Dl (a5 (A2 (K:=K) rfl waQ Z2 waM tX (pv 4)) a8)))
  (a6 (bE (aA jE (pv 5) (iC (v:=.int 40) (by rfl) L.eO.choose_spec ⟨_,rfl⟩) (aL _)) (af (dQ bX rfl L.vM L.vN rfl L.vL (a5 cw a8))) aJ)
  (af (bE (aA jE (pv 5) ag (aL _)) (af (aw (pv 4))) aJ))))))
  (af (dQ bX rfl L.vM L.vN rfl L.vL (a5 cw a8)))),?_⟩
 refine⟨_,_,rfl,rfl,1,9,rfl,by decide,?_⟩;refine d9 (lo:=1) (n:=8) (λi σ q=>∃z v4 C:Option V,σ=[some (.ref x),some (.int many),some (.int (n:Int)),z,v4,C]/\a9 H q/\∀(m:Int) (h:Str->Int),1<=m->m < 1 + (i:Int)->ez g O R ls many n m h->(ls.map h).sum=0) ⟨none,none,none,rfl,a9.refl _,λm h U Z=>by omega⟩ ?_ ?_
 ·rintro i σ q hi ⟨z,v4,C,rfl,j,l⟩;refine⟨_,rfl,_,rfl,_,rfl,_,rfl,x,many,n,1 + (i:Int),g,O,R,ls,rfl,B.same j,r,t,u,y,by omega,λd f W s3 fd D G=>?_⟩;refine⟨_,rfl,.inr (.inr (.inl ⟨rfl,.inl ⟨_,D⟩⟩)),d,_,rfl,rfl,D,λv hv=>?_⟩;have I:=a9.upd (o:=jJ v d) hv;have J:=I _ _ D;have p:(upd W v (jJ v d)) v=some (jJ v d):=a7;generalize upd W v (jJ v d)=X at I J p;have a:=j.trans (s3.trans I);refine⟨v,d,_,ls.map f,rfl,p,J,zr f ls,?_⟩
  by_cases b:(40:Int) < (ls.map f).sum
  ·refine⟨_,rfl,_,_,rfl,rfl,true,congrArg V.bl (decide_eq_true b),cP ⟨rfl,?_⟩⟩;exact S ⟨1 + (i:Int),by omega,by omega,l,.inr ⟨f,G,b⟩⟩ X a
  refine⟨_,rfl,_,_,rfl,rfl,false,congrArg V.bl (decide_eq_false b),bB ?_⟩
  by_cases M:(0:Int) < (ls.map f).sum
  ·refine⟨_,rfl,_,_,rfl,rfl,true,congrArg V.bl (decide_eq_true M),cP ⟨_,rfl,?_⟩⟩;exact k d f X a (none_of j fd) J ⟨⟨1 + (i:Int),by omega,by omega,G,l⟩,M,by omega⟩
  ·refine⟨_,rfl,_,_,rfl,rfl,false,congrArg V.bl (decide_eq_false M),bB ?_⟩;refine⟨_,_,_,rfl,a,λm h U Z c=>?_⟩
   by_cases e:m=1 + (i:Int)
   ·subst e;have:=BI G c;have:=o8 c.nn;omega
   ·exact l m h U (by omega) c
 ·rintro σ q ⟨z,v4,C,rfl,j,l⟩;exact⟨rfl,S ⟨9,by decide,by decide,l,.inl rfl⟩ q j⟩
theorem nJ(L:Lk K mg):aK P w K mg base dn 6 L.il L.ip ["band","many","wide","weights"] (E4 L.aB):=by
 have T:=L.T;refine L.eZ.F.eL (N:=["band","many","wide","weights","sheet","lots","homes","closed","place"]) (λgd A outer s H vs Q E nd hr h=>?_);obtain⟨x,d,many,n,f,g,ws,ss,ls,rfl,B,Ja,Od,BX,EG,C3,Jd,hd,D,Y,Va,k⟩:=h;have hu:=et hr
 refine⟨_,(a6 (aj (i:=4) (ai (ky L) L.fm (a5 (pv 0) (a5 (pv 1) (a5 (pv 2) (a5 (pv 3) a8))))))
  (a6 (dH (i:=5) rfl (au ["sheet"] [4]) nd rfl rfl (cL rfl T.range (a5 (ax bf (by rfl) T.len We (a5 (aX (pv 4) rfl) a8)) a8)) (λ_ _ _ _ _ _=>bI) (λ_ _ _ _ _ _=>(ai (pO L) L.gy (a5 (pv 1) (a5 (pv 0) a8)))))
  (a6 (dH (i:=6) rfl (au ["sheet"] [4]) nd rfl rfl (aM (G6 rfl (by rfl) T.min (by rfl) T.len (a5 (pv 5) a8))) (λ_ _ _ _ _ _=>bI) (λ_ _ _ _ _ _=>(bV (jK (K:=K) rfl) (mr (K:=K) rfl (pv 1) rfl) (pv 0) (λ_ _=>rfl))))
  (a6 (aj (i:=7) dC)
  (a6 (b9 VS rfl (xj (pv 3)) (az (i:=8)) (af (dE hu (pv 7) (pv 8) (wo (aA tN (pv 8) (pv 6) rfl) (cF hu (pv 3) (pv 8) (λ_ _=>rfl)) ag) rfl)))
  (af (aw (pv 7)))))))),?_⟩
 have nd:ls.Nodup:=B.nd.sublist B.lv.sub;have Br:ls.length<=900:=VF B.lv.sub.length_le C3;refine⟨_,rfl,_,rfl,_,rfl,_,rfl,x,d,many,n,bU f ls,f,g,ws,ss,ls,rfl,B,BX,EG,C3,Jd,.inl hd,gK f ls,λy H1 s1 S1=>?_⟩;have S:=S1.same (dS _ _);have hB:=gL.first (g:=g) (ws:=ws) (ss:=ss) (n:=n) (many:=many) D Y;have Qc:(ak ls f).length<=ls.length:=WG _ _;have I:=hB.l;have Vb:(1:Int)<=many:=by have:=Jd.a;omega
 generalize Qx:ak ls f=m at S hB Qc I;generalize Oe:bg g ws ss ls n m=G at S hB I
 have Of:m≠[]:=λz=>by
  have h1:=uv D;rw[Qx,z]at h1;have:(0:Int)=(ls.map f).sum:=h1;omega
 have PD:0 < m.length:=List.length_pos_iff.mpr Of
 have Og:∀i,i < G.length->G.getD i []≠[]:=λi hi z=>by
  have U:G[i]?=some (G.getD i []):=by rw[Vq,Vp hi];rfl
  have h1:=hB.b i _ U;rw[z]at h1;have h2:many * (m.map f).getD i 0<=0:=h1;have hw:=hB.w;have h3:=hB.p _ (getD_mem (ws:=m.map f) (i:=i) (by omega));have:=Int.mul_pos (show 0 < many by omega) (show 0 < (m.map f).getD i 0 by omega);omega
 obtain⟨dx,ah,bw,cl,hx,rh,EI,rl⟩:=id S;have hh:=Ah rh;refine⟨_,rfl,y,L.aq,dx,_,_,rfl,hx,L.ao.cl,L.ao.kH,fA ah bw cl,ah,_,rfl,.inl (.inl hh),_,rfl,by omega,by rw[Vn];omega,λll Oh=>?_⟩;have en:(((m.map V.str).length:Nat):Int).toNat=m.length:=by rw[Vn,W2]
 rw[en];refine xt (λi v H'=>∃q r,v=.ref q/\q≠ll/\H' q=some (.lst ((nI r).map V.int))/\Reach G r) (λi v Ha Hb ys h hl kp=>?_) (iN 0 m.length) Oh (av (by rw[Vn,Wf];omega)) (λ_ _=>X0) (λi v H3 ys Q' hv s3 Jk qq=>?_) (λys H3 s3 h3 Hi hR=>?_)
 ·obtain⟨q,r,rfl,U,TC,W⟩:=h;exact⟨q,r,rfl,U,kp _ _ TC U,W⟩
 ·have hi:i < m.length:=by have:=(Vu.mp hv).1;rwa[Vn,Wf]at this
  rw[Vt,List.getElem?_range hi]at hv
  have hv:v=.int (i:Int):=by
   rw[<-VC hv];show V.int (0 + (i:Int))=_;rw[ZT]
  subst hv;refine⟨_,rfl,_,rfl,y,i,m,_,G,rfl,S.same s3,by omega,λl hl q U=>by rw[I];exact hB.e l hl q U,Og i (by omega),by omega,λl r H' s' fl Lc t=>?_⟩;exact qq _ H' s' ⟨l,r,rfl,(λz=>by rw[z,Jk]at fl;cases fl),Lc,t⟩
 obtain⟨ps,rfl,LZ⟩:=Gd (ys:=ys) (R:=λq=>∃r,H3 q=some (.lst ((nI r).map V.int))/\Reach G r) λv hv=>by
  obtain⟨i,hi,e⟩:=XI hv;obtain⟨q,r,e1,_,e2,e3⟩:=hR i v (by rw[Vp hi,e]);exact⟨q,e1,r,e2,e3⟩
 have Jp:ps≠[]:=λz=>by
  rw[Vn,Vn,Wf,z]at Hi;have:0=m.length:=Hi;omega
 refine⟨_,rfl,ll,ps,rfl,aN.of h3,Jp,λq U=>by obtain⟨r,e,_⟩:=LZ q U;exact⟨_,aN.of e⟩,λq U=>?_⟩;obtain⟨r,W,t⟩:=LZ q U;have Gs:=jP t.nd t.lt;refine⟨q,rfl,⟨_,aN.of W⟩,λlh Hj=>?_⟩;refine dg (λ_=>true) (λv=>match v with |.int d=>.str (m.getD d.toNat "") |_=>.non) (aO K q _) Hj (av (by rw[Vn,gu];omega)) (λH' s'=>aN.of (s' _ _ W)) (λv H8 Q' hy s8 qq=>qq H8 (a9.refl _)) (λv H4 Q' hy _ s4 qq=>?_) (λH4 s4 h4=>?_)
 ·obtain⟨n',A5,rfl⟩:=vD hy;have Z:n' < m.length:=by rw[<-I];exact t.lt n' A5
  have X:=s3.trans s4;exact⟨_,rfl,y,L.aq,dx,_,_,rfl,X _ _ hx,L.ao.cl,L.ao.kH,fA ah bw cl,_,rfl,ah,_,_,_,rfl,rfl,X.seq (.inl hh),cb (v:=.str (m.getD n' "")) (by rw[Vt,Vp Z,Vq,Vp Z];rfl),qq H4 (a9.refl _)⟩
 have e4:(((nI r).map V.int).filter λ_=>true).map (λv=>match v with |.int d=>V.str (m.getD d.toNat "") |_=>.non)=(r.map λd=>m.getD d "").map V.str:=by
  rw[WU.mpr (λ_ _=>rfl)];unfold nI;rw[VG,VG,VG];rfl
 rw[e4]at h4;have X:=s3.trans s4;refine λdl C=>?_;have M:=s1.trans X;have Jr:d≠dl:=ae (M _ _ hd) C;have Hm:(upd H4 dl (.dK [])) d=some (.dK (aZ (bU f ls))):=a9.upd C _ _ (M _ _ hd);refine⟨_,rfl,d,_,rfl,.inl Hm,λo H5 h5 Oi=>?_⟩;have Qf:H5 dl=some (.dK []):=by rw[Oi dl (WQ Jr),a7]
 have TF:lh≠d:=λz=>by rw[z]at h4;rw[M _ _ hd]at h4;cases h4
 have TH:H5 lh=some (.lst ((r.map λd=>m.getD d "").map V.str)):=by rw[Oi lh TF];exact a9.upd C _ _ h4
 have k5:∀c O,H c=some O->c≠d->H5 c=some O:=λc O e hc=>by rw[Oi c hc];exact a9.upd C _ _ (M _ _ e)
 have Oj:H dl=none:=none_of M C;have Ol:dl≠lh:=λz=>by rw[z]at C;rw[h4]at C;cases C
 have J:=ib d o (aZ (bU f ls));rw[show ((aZ (bU f ls)).map λkv=>kV kv.1)=ls.map V.str by unfold aZ bU;rw[VG,VG];rfl]at J;refine lL J (λj σ H6=>∃(v8:Option V),σ=[some (.ref x),some (.int many),some (.int (n:Int)),some (.ref d),some (.ref y),some (.ref ll),some (.ref lh),some (.ref dl),v8]/\H6 dl=some (.dK (aZ (bU (cu (r.map λd=>m.getD d "") f) (ls.take j))))/\∀c O,H5 c=some O->c≠dl->H6 c=some O) ⟨none,rfl,Qf,λc O e _=>e⟩ (λj σ H6 _ ⟨_,_,_,kk⟩=>kk _ _ h5 Jr) ?_ ?_
 ·rintro j v σ H6 hy ⟨v8,rfl,h6,kk⟩;obtain⟨p,Js,rfl,hj,zz,oK⟩:=fx hy;have Eo:p∉(bU (cu (r.map λd=>m.getD d "") f) (ls.take j)).map (·.1):=by rw[o9];exact gj nd Js
  have put:∀u,u=cu (r.map λd=>m.getD d "") f p->putK (aZ (bU (cu (r.map λd=>m.getD d "") f) (ls.take j))) (VU p:Key) (.int u)=aZ (bU (cu (r.map λd=>m.getD d "") f) (ls.take (j + 1))):=λu TK=>by
   rw[o7 Eo,oK,TK];unfold bU;rw[VE];rfl
  have hlen:(aZ (bU (cu (r.map λd=>m.getD d "") f) (ls.take j))).length < sizeLine:=by rw[ic];unfold bU;rw[Vn,VQ];exact bx (by omega)
  have g6:=dm.f (k:=(VU p:Key)) (kk _ _ h5 Jr);rw[cN,gK f ls p zz]at g6;refine⟨_,rfl,_,rfl,lh,_,rfl,.inl (aN.of (kk _ _ TH (WQ Ol))),rfl,dP _,decide (p∈r.map λd=>m.getD d ""),congrArg V.bl (gf p _),?_⟩
  by_cases hp:p∈r.map λd=>m.getD d ""
  ·rw[decide_eq_true hp];refine cP ⟨_,rfl,_,rfl,d,_,rfl,g6,_,rfl,_,rfl,dl,_,rfl,iL.k (k:=VU p) h6 hlen,?_⟩;exact⟨_,rfl,by rw[a7,put (f p) (by unfold cu;rw[if_pos hp])],λc O e hc=>by rw[aa hc];exact kk c O e hc⟩
  ·rw[decide_eq_false hp];refine bB ⟨_,rfl,_,rfl,dl,_,rfl,iL.k (k:=VU p) h6 hlen,?_⟩;exact⟨_,rfl,by rw[a7,put 0 (by unfold cu;rw[if_neg hp])],λc O e hc=>by rw[aa hc];exact kk c O e hc⟩
 rintro σ H6 ⟨v8,rfl,h6,kk⟩;rw[Vn,W6]at h6;subst Qx;subst Oe;exact⟨_,rfl,k dl _ H6 (λc o e hc=>kk _ _ (k5 c o e hc) (ae e Oj)) Oj h6 (rq D) (BD D Y t) (BC D (λd hd=>by rw[<-I];exact t.lt d hd) t.ne) (xH D) (Bz D)⟩
theorem m8(L:Lk K mg):aK P w K mg base dn 1 L.cX L.eI ["self","length","rows"] (Ni L.bN "length" "rows" Hd Hd):=by
 refine L.nD.eL (N:=["self","length","rows"]) (λn A outer s H o Q E nd p h=>?_);obtain⟨x,u,v,rfl,⟨i,rfl,a⟩,⟨j,rfl,b⟩,l,k⟩:=h
 refine⟨_,(a6 (bH (D9 rfl L.km L.XB (a5 (pv 0) (a5 (FC (yG (Dd (pv 1) (yG (Dd (pv 2) (yG Ib)))))) a8))))
  (a6 (Fz (CB:=L.cn) (pv 0) (pv 1) rfl)
  (af (Ei (CB:=L.cn) (pv 0) (pv 2) rfl)))),?_⟩
 have f:=ZW a;have m:=ZW b;refine⟨_,rfl,av ?_,_,rfl,.inl ⟨i,rfl,a,av ?_,av ?_,_,rfl,.inl ⟨j,rfl,b,av ?_,av ?_,av ?_,x,L.bN,_,_,rfl,l,L.iu,?_⟩⟩⟩
 ·exact VF (show _<=1000 by decide+kernel) (by decide)
 ·exact VF (eJ (show _<=1000 by decide+kernel) f) (by decide)
 ·exact VF (eJ (eJ (show _<=1000 by decide+kernel) f) (show _<=1000 by decide+kernel)) (by decide)
 ·exact VF (eJ (eJ (eJ (show _<=1000 by decide+kernel) f) (show _<=1000 by decide+kernel)) m) (by decide)
 ·exact VF (eJ (eJ (eJ (eJ (show _<=1000 by decide+kernel) f) (show _<=1000 by decide+kernel)) m) (show _<=1000 by decide+kernel)) (by decide)
 ·exact VF (eJ (eJ (eJ (eJ (show _<=1000 by decide+kernel) f) (show _<=1000 by decide+kernel)) m) (show _<=1000 by decide+kernel)) (by decide)
 refine⟨_,rfl,_,rfl,x,L.bN,_,rfl,l,L.iu,L.jt,λd hd=>?_⟩;have g:d≠x:=λz=>by rw[z,l]at hd;cases hd
 refine⟨_,rfl,_,rfl,x,L.bN,_,d,[("length",.int i)],rfl,a7,by rw[aa g,a7],by show 1<=50;decide,L.iu,L.lD,by rw[YM,show (("rows":Str) == "length")=false by decide+kernel];rfl,?_⟩
 have e:upd (upd (upd H d (.xd [(("length":Str),V.int i)])) x (XD x L.bN d)) d (.xd ([(("length":Str),V.int i)]++[(("rows":Str),V.int j)]))=upd (upd H d (.xd [(("length":Str),V.int i),(("rows":Str),V.int j)])) x (XD x L.bN d):=by
  funext c
  by_cases a:c=d
  ·subst a;rw[a7,aa g,a7];rfl
  ·rw[aa a]
   by_cases b:c=x
   ·subst b;rw[a7,a7]
   ·rw[aa b,aa b,aa a,aa a]
 rw[e];exact k d hd
theorem kL(L:Lk K mg):aK P w K mg base (wj P w) 8 L.gw L.gx ["band","many","wide"] (Gi L.aB L.bN):=by
 refine L.c9.F.FI (N:=["band","many","wide","length"]) (λG A outer s H V Q E nd I h=>?_);obtain⟨x,many,n,g,p,q,ls,rfl,B,l,m,f,k,J⟩:=h
 refine⟨_,(a6 (aj (i:=3) (ai (uS L) L.mS (a5 (pv 0) (a5 (pv 1) (a5 (pv 2) (a5 (iC (v:=.int 24) (by rfl) L.kn.choose_spec ⟨_,rfl⟩) a8))))))
  (af (bE (aA uX (pv 3) gX (aL _)) (af (Dc bX rfl L.iu L.uN L.uO (m8 L) (I.mono (by decide)) L.nE rfl L.rQ (a5 (pv 3) (a5 (ai (Ep L) L.vK (a5 (pv 0) (a5 (aI fD (pv 3) (pv 2)) a8))) a8)))) aJ))),?_⟩
 refine⟨_,rfl,_,rfl,_,rfl,x,many,(n:Int),24,g,p,q,ls,rfl,B,l,m,f,by decide,by decide,λv M o r=>?_⟩;rw[W2]at r;have t:=r
 cases r with
 |none a=>exact⟨_,rfl,rfl,false,rfl,bB (k (λj z O=>a j z O) M o)⟩
 |some j a b c d=>
  refine⟨_,rfl,rfl,true,rfl,cP ?_⟩
  have R:(j:Int) * (n:Int)<=100000:=by
   have z:(j:Int) * (n:Int)<=24 * 6:=Int.mul_le_mul b f.d (by omega) (by omega);omega
  have u:0<=(j:Int) * (n:Int):=Int.mul_nonneg (by omega) (by omega);have S:((j:Int) * (n:Int)).toNat=j * n:=by rw[<-ZU,W2]
  refine⟨_,rfl,_,rfl,_,rfl,_,rfl,_,_,rfl,rfl,?_,x,(j:Int) * (n:Int),g,p,q,ls,rfl,B.same o,l,m,u,R,λW C=>?_⟩
  ·exact .inl ⟨by omega,by omega⟩
  rw[S];refine⟨by show 2<=sizeLine;decide,λe T=>⟨e,_,_,rfl,⟨_,rfl,?_⟩,⟨_,rfl,?_⟩,a7,λy hd=>⟨rfl,.inr ⟨y,a7,?_⟩⟩⟩⟩
  ·have:=Nat.log2_le_self ((j:Nat):Int).natAbs;omega
  ·exact zu f b c
  obtain⟨X,D,U⟩:=yL (o2:=.xd [("length",.int (j:Nat)),("rows",.int (bM g p q (j * n) ""))]) (o3:=XD e L.bN y) T hd;rw[U];exact J j y _ t ((o.trans C).trans (a9.upd D)) (none_of (o.trans C) D) a7
theorem jx(L:Lk K mg):aK P w K mg base dn 4 L.jY L.jZ ["sheet"] (E9 K L.aq):=by
 refine L.eE.F.eL (N:=["sheet"]) (λC A outer s H vs Q E nd D h=>?_);obtain⟨x,G,I,l,rfl,S,J,M,O,R,k⟩:=h;refine⟨_,(af (aw (ml L.nB (eK L) (D.mono (by decide)) rfl L.q8 L.cz.b .nil fN (a5 (aX (pv 0) rfl) (a5 (aX (pv 0) rfl) (a5 (aX (pv 0) rfl) a8)))))),?_⟩;obtain⟨m,g,i,cl,n,T,p,U⟩:=id S;refine⟨_,rfl,x,L.aq,m,_,_,rfl,n,L.ao.cl,L.ao.kH,fA g i cl,_,rfl,x,L.aq,m,_,_,rfl,n,L.ao.cl,L.ao.cy,bT g i cl,_,rfl,x,L.aq,m,_,_,rfl,n,L.ao.cl,L.ao.di,bj g i cl,?_⟩;intro y j q t W;have sm:a9 H (upd (upd H j (.own y)) y (.ins L.aq j [])):=fU q t;refine⟨y,j,.ref g,.ref i,.ref cl,G,I,l,rfl,a7,bG.same sm _ _ T,bG.same sm _ _ p,bG.same sm _ _ U,J,M,O,R,λX Y Z a d q1 q2 q3 f=>⟨rfl,?_⟩⟩;have u:a9 H a:=λc o e=>f _ _ (sm _ _ e) (ae e q);have z:=λ(B:jl) (v:V) (r:bG K (aG _ a) B v)=>bG.same (dU sm) B v r;exact k y a u ⟨j,X,Y,Z,bF q d,z _ _ q1,z _ _ q2,z _ _ q3⟩
theorem oE(L:Lk K mg):aK P w K mg base dn 5 L.fF L.jo ["self","weights","splits","kept","last"] (Gh K L.aQ L.aq):=by
 have T:=L.T;refine L.fI.F.eL (N:=["self","weights","splits","kept","last"]) (λgd A outer s H vs Q E nd hr h=>?_);obtain⟨x,f,d,z,u,v,m,p,X,hs,ws,Y,rfl,D,hd,TL,TN,S,n1,n2,n3,n4,n5,k⟩:=h
 refine⟨_,(a6 (g9 (pv 0) (bu z0 (by rfl) T.dict Ko (a5 (pv 1) a8)) rfl)
  (a6 (g9 (pv 0) (DU rfl (au [] []) (au [] []) (au [] []) ⟨by decide,by decide,by decide⟩ (aM (pv 2)) (λ_ _ _ _ _ _=>bI) (λ_ _ _ _ _ _=>(cB (a5 (pv 0) (a5 (bu (sT (K:=K) rfl) (by rfl) T.list ji (a5 (pv 1) a8)) (a5 (pv 2) a8)))))) rfl)
  (a6 (g9 (pv 0) (bu cE (by rfl) T.list ji (a5 (pv 3) a8)) rfl)
  (af (g9 (pv 0) (ai (jx L) L.eE (a5 (pv 4) a8)) rfl))))),?_⟩
 obtain⟨c,rfl,hc⟩:=gp TN;obtain⟨b,xs,rfl,hb,Z⟩:=TL;have xl:xs.length=p.length:=by rw[Z.len,Vn]
 have G:∀{d:Addr} {ys:List V} {H':Hp},aN K H d ys->(∀b o,H b=some o->b≠x->H' b=some o)->aN K H' d ys:=λhS kp=>(kE kp).seq (Af D hS);refine⟨_,rfl,d,_,rfl,hd,λa I=>?_⟩;have B:x≠a:=ae D I;refine⟨_,rfl,x,L.aQ,f,[],rfl,by rw[aa B];exact D,L.cf.cl,L.cf.cy,(show 0 < 1000 by decide),?_⟩;rw[KD];have k1:∀d o,H d=some o->d≠x->(upd (upd H a (.dK (aZ m))) x (.ins L.aQ f (p7 a))) d=some o:=λd o e hd=>by rw[aa hd];exact a9.upd I _ _ e
 have x1:(upd (upd H a (.dK (aZ m))) x (.ins L.aQ f (p7 a))) x=some (.ins L.aQ f (p7 a)):=a7;have a1:(upd (upd H a (.dK (aZ m))) x (.ins L.aQ f (p7 a))) a=some (.dK (aZ m)):=by rw[aa B.symm,a7]
 generalize upd (upd H a (.dK (aZ m))) x (.ins L.aQ f (p7 a))=H1 at k1 x1 a1 ⊢;have Om:=aW.same (kE k1) _ _ (aW.off D _ _ Z);have Qy:aN K H1 b xs:=G (.inl hb) k1;refine⟨_,rfl,b,rfl,⟨_,Qy⟩,λg DM=>?_⟩;refine E5 (K:=K) (p.map vH) (aO K b xs) DM (av (by omega)) (by rw[Vn,xl]) (λH' s'=>s'.seq Qy) (λi v dd n hv l U=>?_) (λn U r3=>?_)
 ·obtain⟨d',e',r⟩:=Om.get i v hv;rw[l]at e';cases e';rw[Vt]at l
  cases e:p[i]? with
  |none=>rw[e]at l;cases l
  |some sp=>
   rw[e]at l;cases l;obtain⟨r0,ys,rfl,hT,h2⟩:=r;obtain⟨v1,Vc,rfl,⟨rfl,_⟩,h3⟩:=h2;obtain⟨v2,RO,rfl,r2,h4⟩:=h3;obtain⟨v3,Pj,rfl,⟨rfl,_⟩,h5⟩:=h4;cases(show Pj=[] from h5);obtain⟨l2,rfl,Oa⟩:=gp r2;refine⟨r0,_,_,_,rfl,jA.of (U _ _ hT),λQ' qq=>?_⟩;refine⟨_,rfl,_,rfl,l2,_,rfl,.inl (U.seq Oa),λl3 J=>?_⟩;refine⟨_,rfl,by show 3<=sizeLine;decide,λt ht=>?_⟩;have s4:a9 (upd n l3 (.lst ((nI sp.2.1).map V.int))) (upd (upd n l3 (.lst ((nI sp.2.1).map V.int))) t (.tup [.int (sp.1:Int),.ref l3,.int sp.2.2])):=a9.upd ht;refine qq _ _ ((a9.upd J).trans s4) ?_;exact Al (d:=sp.1) (ns:=sp.2.1) (w:=sp.2.2) (bF (none_of (a9.upd J) ht) a7) (bF J (s4 _ _ a7))
 have Vd:x≠g:=ae x1 DM;have x3:=U _ _ x1;have a3:=U _ _ a1;refine⟨_,rfl,x,L.aQ,f,p7 a,rfl,x3,L.cf.cl,L.cf.Ec,(show 1 < 1000 by decide),?_⟩;rw[KG];have k3:∀d o,H d=some o->d≠x->(upd n x (.ins L.aQ f (mM a g))) d=some o:=λd o e hd=>by rw[aa hd];exact U _ _ (k1 _ _ e hd)
 have x4:(upd n x (.ins L.aQ f (mM a g))) x=some (.ins L.aQ f (mM a g)):=a7;have a4:(upd n x (.ins L.aQ f (mM a g))) a=some (.dK (aZ m)):=by rw[aa B.symm];exact a3
 have old:a9 (aG H1 n) (aG H n):=λd o e=>by
  unfold aG at e ⊢
  cases q:H d with
  |none=>
   cases M:H1 d with
   |none=>rw[M]at e;exact e
   |some z=>rw[M]at e;cases e
  |some z=>
   by_cases hd:d=x
   ·rw[hd,x1]at e;cases e
   ·rw[k1 _ _ q hd]at e;cases e
 have r4:bG K (aG H (upd n x (.ins L.aQ f (mM a g)))) (.lst (p.map vH)) (.ref g):=bG.same (old.trans (bZ D λd o e hd=>by rw[aa hd];exact e)) _ _ r3;generalize upd n x (.ins L.aQ f (mM a g))=W at k3 x4 a4 r4 ⊢;refine⟨_,rfl,c,_,rfl,.inl (G hc k3),λj O=>?_⟩;have C:x≠j:=ae x4 O
 have TQ:H j=none:=by
  cases q:H j with
  |none=>rfl
  |some o=>have:=k3 _ _ q C.symm;rw[O]at this;cases this
 refine⟨_,rfl,x,L.aQ,f,mM a g,rfl,by rw[aa C];exact x4,L.cf.cl,L.cf.vJ,(show 2 < 1000 by decide),?_⟩;rw[Hc];have s5:∀d o,W d=some o->d≠x->(upd (upd W j (.lst ((nI X).map V.int))) x (.ins L.aQ f (p8 a g j))) d=some o:=λd o e hd=>by rw[aa hd];exact a9.upd O _ _ e
 have x5:(upd (upd W j (.lst ((nI X).map V.int))) x (.ins L.aQ f (p8 a g j))) x=some (.ins L.aQ f (p8 a g j)):=a7;have c5:(upd (upd W j (.lst ((nI X).map V.int))) x (.ins L.aQ f (p8 a g j))) j=some (.lst ((nI X).map V.int)):=by rw[aa C.symm,a7]
 generalize upd (upd W j (.lst ((nI X).map V.int))) x (.ins L.aQ f (p8 a g j))=H5 at s5 x5 c5 ⊢;have k5:∀d o,H d=some o->d≠x->H5 d=some o:=λd o e hd=>s5 _ _ (k3 _ _ e hd) hd
 have S5:bC K L.aq H5 z hs ws Y:=by
  obtain⟨dz,ah,bw,cl,hz,rh,EI,rl⟩:=id S;have TR:z≠x:=λq=>by rw[q,D]at hz;have:=VC hz;injection this with _ _ M;cases M
  have go:=λ(dd:jl) (v:V) (r:bG K H dd v)=>bG.same (kE k5) dd v (bG.off D dd v r);exact⟨dz,ah,bw,cl,k5 _ _ hz TR,go _ _ rh,go _ _ EI,go _ _ rl⟩
 refine⟨_,rfl,z,hs,ws,Y,rfl,S5,n1,n2,n3,n4,λy R s6 S6=>?_⟩;refine⟨_,rfl,x,L.aQ,f,p8 a g j,rfl,s6 _ _ x5,L.cf.cl,L.cf.Ed,(show 3 < 1000 by decide),?_⟩;rw[E6];have up:∀{Ha:Hp},(∀d o,Ha d=some o->d≠x->(upd R x (.ins L.aQ f (vI a g j y))) d=some o)->a9 (aG H Ha) (aG H (upd R x (.ins L.aQ f (vI a g j y)))):=λh=>bZ D h;have u6:∀d o,R d=some o->d≠x->(upd R x (.ins L.aQ f (vI a g j y))) d=some o:=λd o e hd=>by rw[aa hd];exact e
 have u4:∀d o,W d=some o->d≠x->(upd R x (.ins L.aQ f (vI a g j y))) d=some o:=λd o e hd=>u6 _ _ (s6 _ _ (s5 _ _ e hd)) hd
 have Oo:a9 (aG H5 R) (aG H R):=λd o e=>by
  unfold aG at e ⊢
  cases q:H d with
  |none=>
   cases M:H5 d with
   |none=>rw[M]at e;exact e
   |some z=>rw[M]at e;cases e
  |some z=>
   by_cases hd:d=x
   ·rw[hd,x5]at e;cases e
   ·rw[k5 _ _ q hd]at e;cases e
 exact k a g j y _ a7 I (u4 _ _ a4 B.symm) (bG.same (up u4) _ _ r4) (ig (bF TQ (u6 _ _ (s6 _ _ c5) C.symm))) (S6.same (Oo.trans (up u6))) λd o e hd=>u6 _ _ (s6 _ _ (k5 _ _ e hd)) hd
theorem t9(L:Lk K mg):aK P w K mg base dn 5 L.mZ L.n0 ["self"] (BL K L.aQ L.aq):=by
 refine L.fR.F.eL (N:=["self"]) (λe A outer s H v Q E nd B h=>?_);obtain⟨x,m,f,C,g,i,d,rfl,⟨j,a,b,c,z,l,ha,D,hc,S⟩,n,o,p,q,k⟩:=h;refine⟨_,(af (aw (ai (jx L) L.eE (a5 (aX (pv 0) rfl) a8)))),?_⟩;exact⟨_,rfl,x,L.aQ,j,_,_,rfl,l,L.cf.cl,L.cf.Ed,zt a b c z,z,g,i,d,rfl,S,n,o,p,q,λy r t u=>k y r t u⟩
theorem rZ:iH ["band","many","wide"] ["band","many","wide"] (ay (top 16)):=⟨rfl,rfl,rfl,by decide+kernel,rfl,by decide+kernel,by decide+kernel⟩
theorem se(L:Lk K mg):aK P w K mg base (wj P w) 3 L.iX L.iY ["band","many","wide"] (Em L.aB L.cK):=by
 refine L.bR.F.MP rZ (λe H Q E h=>?_) (λf A outer s H e Q E i h=>?_)
 ·rcases h with⟨x,many,wide,g,c,d,ls,rfl,_⟩ |⟨x,v,u,rfl,_⟩ <;> rfl
 ·skip
  refine⟨_,(a6 (bE (cY (ck (ai (rX L) L.kJ (a5 (pv 0) (a5 (pv 1) (a5 (pv 2) a8)))))) (af (dQ bX rfl L.fC L.uM rfl L.rP (a5 cw a8))) aJ)
   (af (aw dM))),?_⟩
  rcases h with⟨x,many,wide,g,c,d,ls,rfl,B,a,b,k⟩ |⟨x,v,u,rfl,hn,k⟩
  ·exact⟨_,rfl,_,rfl,_,rfl,.inl ⟨x,many,wide,g,c,d,ls,rfl,B,a,b,true,rfl,bB k⟩⟩
  ·exact⟨_,rfl,_,rfl,_,rfl,.inr ⟨x,v,u,rfl,hn,false,rfl,cP ⟨rfl,k H (a9.refl _)⟩⟩⟩
def Gu(K:Vo)(C CP CS CX CO CR:Addr):Sp:=λvs H Q E=>Ea K C CP CS CX CO vs H Q E\/∃(x:Addr) (v u:V),vs=[.ref x,v,u]/\Pt C CR x v u H E
theorem d8:iH ["band","many","wide","weights","sheet","splits","kept","part"] ["band","many","wide"] (ay (top 54)):=⟨rfl,rfl,rfl,by decide+kernel,rfl,by decide+kernel,by decide+kernel⟩
theorem sf(L:Lk K mg):aK P w K mg base (wj P w) 9 L.uI L.uJ ["band","many","wide"] (Gu K L.aB L.aQ L.aq L.bN L.m5 L.cK):=by
 have T:=L.T;refine L.dZ.F.MP d8 (λvs H Q E h=>?_) (λgd A outer s H vs Q E hr h=>?_)
 ·rcases h with⟨x,many,n,g,W,X,ls,rfl,_⟩ |⟨x,v,u,rfl,_⟩ <;> rfl
 ·skip
  refine⟨_,(a6 (bH (gH (se L) (hr.mono (by decide)) rfl L.bR.g L.bR.F.kp L.bR.b .nil (u9 bX) (a5 (pv 0) (a5 (pv 1) (a5 (pv 2) a8)))))
   (a6 (bH (gH (kL L) (hr.mono (by decide)) rfl L.c9.g L.c9.F.kp L.c9.b .nil (u9 bX) (a5 (pv 0) (a5 (pv 1) (a5 (pv 2) a8)))))
   (a6 (iF (i:=3) d8.nd rfl (Y6 rfl) (ai (nJ L) L.eZ (a5 (pv 0) (a5 (pv 1) (a5 (pv 2) (a5 (gH (hX L) (hr.mono (by decide)) rfl L.bb.g L.bb.F.kp L.bb.b .nil (u9 bX) (a5 (pv 0) (a5 (pv 1) (a5 (pv 2) a8)))) a8))))))
   (a6 (iF (i:=4) d8.nd rfl (Y6 rfl) (ai (ky L) L.fm (a5 (pv 0) (a5 (pv 1) (a5 (pv 2) (a5 (pv 3) a8))))))
   (a6 (iF (i:=5) d8.nd rfl (Y6 rfl) (cC a8))
   (a6 (iF (i:=6) d8.nd rfl (Y6 rfl) (ai (lH L) L.fQ (a5 (pv 4) (a5 (pv 1) a8))))
   (a6 (i3 wcd (aA qf (ax bf (by rfl) T.len We (a5 (pv 6) a8)) ag (aL _)) (a6 (iF (i:=7) d8.nd rfl (Y6 rfl) (ai (t8 L) L.j5 (a5 (pv 4) (a5 (pv 1) a8))))
   (a6 (iF (i:=4) d8.nd rfl (Y6 rfl) (gH (Er L) (hr.mono (by decide)) rfl L.mY.g L.mY.F.kp L.mY.b .nil (u9 bX) (a5 (pv 4) (a5 (pv 1) (a5 (bV iJ (pv 7) ag (λ_ _=>rfl)) (a5 (bV iJ (pv 7) ag (λ_ _=>rfl)) (a5 (bV iJ (pv 7) ag (λ_ _=>rfl)) a8)))))))
   (a6 (bH (jf Wv WD WR df (pv 5) (a5 (pv 7) a8)))
   (af (iF (i:=6) d8.nd rfl (Y6 rfl) (ai (lH L) L.fQ (a5 (pv 4) (a5 (pv 1) a8)))))))))
   (af (aw (ml L.Aq (oE L) (hr.mono (by decide)) rfl L.Ef L.fI.b .nil fN (a5 (pv 3) (a5 (pv 5) (a5 (pv 6) (a5 (pv 4) a8)))))))))))))),?_⟩
  rcases h with⟨x,many,n,g,W,X,ls,rfl,B,Ja,Od,BX,N,Y,I,k,kS,kO⟩ |⟨x,v,u,rfl,hE⟩
  rotate_left
  ·exact⟨_,rfl,_,rfl,_,rfl,.inr ⟨x,v,u,rfl,hE⟩⟩
  obtain⟨ra,rb,rc,rd,re⟩:=id I
  have EH:g.length ^ n<=64:=by
   rw[W2]at re;have:((g.length ^ n:Nat):Int)<=64:=by rw[YX];exact re
   omega
  have nd:ls.Nodup:=B.nd.sublist B.lv.sub;refine⟨_,rfl,_,rfl,_,rfl,.inl ⟨x,many,n,g,W,X,ls,rfl,B,N,I,?_⟩⟩;refine⟨_,rfl,_,rfl,_,rfl,x,many,n,g,W,X,ls,rfl,B,N,Y,I,λQz H1 s1=>?_,kS⟩;refine⟨_,rfl,_,rfl,_,rfl,_,rfl,_,rfl,_,rfl,x,many,n,g,W,X,ls,rfl,B.same s1,BX,N,Y,I,λd f0 H2 s2 fd h2 hL=>?_,λTU H2 s2=>kO Qz TU H2 (s1.trans s2)⟩;obtain⟨most,SJ,SU,hG,_⟩:=id hL.gr;refine⟨x,d,many,n,f0,g,W,X,ls,rfl,B.same (s1.trans s2),Ja,Od,BX,N,Y,I,h2,hG.nn,hG.fit,hL.ps,λdl f H3 k3 Oj h3 QA Bt LZ hle Oq=>?_⟩;have s3:a9 H H3:=λc o e=>k3 c o (s2 _ _ (s1 _ _ e)) (ae (s1 _ _ e) fd);have Z:(ls.map f).sum<=40:=Xz Oq hL.le;refine⟨_,rfl,_,rfl,_,rfl,_,rfl,x,dl,many,n,bU f ls,f,g,W,X,ls,rfl,B.same s3,BX,N,Y,I,.inl h3,gK f ls,λy H4 s4 S4=>?_⟩;have S4:=S4.same (dS _ _);have L0:eW g W X ls many n f [] _ _ _:=eW.start Od B.pm Ja (λp hp=>B.lv.sub.subset hp) nd QA Bt;refine⟨Wb _,λb hb=>?_⟩;have s5:a9 H4 (upd H4 b (.lst [])):=a9.upd hb;have h5:(upd H4 b (.lst [])) b=some (.lst []):=a7;have o5:a9 H4 (eM (upd H4 b (.lst [])) b):=E7 s5 hb;generalize upd H4 b (.lst [])=H5 at s5 h5 o5;have W0:=L0.whole Z EH;generalize ak ls f=D at S4 L0 W0;generalize D.map f=G at S4 L0 W0;generalize bg g W X ls n D=a at S4 L0 W0;have J9:a.length<=1000:=by rw[W0.l];exact W0.n
  refine⟨_,rfl,_,rfl,y,many,D,G,a,rfl,S4.same s5,J9,λl hl=>by have:=W0.m l hl;omega,λC J H6 s6 M J8 hK=>?_⟩;have Ot:C≠b:=λz=>by rw[z,h5]at M;cases M
  refine⟨λq σ O=>∃(y C:Addr) (D:List Str) (G:List Int) (a:List (List (Str×Nat))) (j:List BK) (r:List V) (J:List Nat) (v7:Option V),q=40 - D.length/\σ=[some (.ref x),some (.int many),some (.int (n:Int)),some (.ref dl),some (.ref y),some (.ref b),some (.ref C),v7]/\a9 H O/\O dl=some (.dK (aZ (bU f ls)))/\bC K L.aq (eM O b) y D G a/\eW g W X ls many n f j D G a/\O b=some (.lst r)/\aW K (eM O b) (j.map vH) r/\C≠b/\O C=some (.lst ((nI J).map V.int))/\oo a many J,
   ⟨_,y,C,D,G,a,[],[],J,none,rfl,rfl,s3.trans (s4.trans (s5.trans s6)),s6 _ _ (s5 _ _ (s4 _ _ h3)),S4.same (o5.trans (mN s6)),L0,s6 _ _ h5,rfl,Ot,J8,hK⟩,?_⟩
  clear hK J8 Ot M s6 J9 W0 L0 o5 h5 s5 S4;have NF:H b=none:=none_of (s3.trans s4) hb;have KU:dl≠b:=ae (s4 _ _ h3) hb;rintro q σ O ⟨y,C,D,G,a,j,r,J,v7,rfl,rfl,s7,QB,S7,R,M0,r7,Ot,Ou,hK⟩;have W7:=R.whole Z EH;have hlen:=R.len;have B5:=R.b.w;have J9:a.length<=1000:=by rw[W7.l];exact W7.n
  have Hi:r.length=j.length:=by rw[r7.len,Vn]
  have TV:=R.sl
  by_cases Ov:J=[]
  ·subst Ov
   have yr:D≠[]:=λz=>by
    have h1:=R.sm;rw[z]at B5;rw[WY B5]at h1;have:(0:Int)=(ls.map f).sum:=h1;omega
   refine⟨_,rfl,C,_,rfl,.inl (aN.of Ou),rfl,true,Dq _,cP ?_⟩;refine⟨λσ' H'=>∃(y C:Addr) (S:List Str) (G:List Int) (a:List (List (Str×Nat))) (j:List BK) (r:List V) (J:List Nat) (v7:Option V),S.length=D.length + 1/\σ'=[some (.ref x),some (.int many),some (.int (n:Int)),some (.ref dl),some (.ref y),some (.ref b),some (.ref C),v7]/\a9 H H'/\H' dl=some (.dK (aZ (bU f ls)))/\bC K L.aq (eM H' b) y S G a/\eW g W X ls many n f j S G a/\H' b=some (.lst r)/\aW K (eM H' b) (j.map vH) r/\C≠b/\H' C=some (.lst ((nI J).map V.int))/\oo a many J,?_,?_⟩
   ·rintro σ' H' ⟨y,C,S,G,a,j,r,J,v7,e1,rfl,s',Hm,S',L',DM,r',TX,EF,Ow⟩;have:=L'.len;exact⟨_,by omega,y,C,S,G,a,j,r,J,v7,rfl,rfl,s',Hm,S',L',DM,r',TX,EF,Ow⟩
   refine⟨_,rfl,_,rfl,y,many,D,G,a,rfl,S7.same ry,R.b,hK,yr,by omega,λl hl=>by have:=W7.m l hl;omega,by omega,by omega,λt l d ns w H8 s8 fl ft QC QD ok Hg L1=>?_⟩;have hT:=jA.of (K:=K) QC;have S8:=(S7.same ry).same s8;refine⟨_,rfl,_,rfl,_,rfl,t,_,_,_,rfl,rfl,hT,rfl,_,rfl,t,_,_,_,rfl,rfl,hT,rfl,_,rfl,t,_,_,_,rfl,rfl,hT,rfl,y,l,many,(d:Int),w,nI ns,D,G,a,rfl,S8,aN.of QD,by rw[gu];omega,W7,by omega,by omega,.inl ⟨ok,λy' H9 s9 S9=>?_⟩⟩;rw[W2]at S9;have QE:=s8 _ _ M0;have QF:=s9 _ _ QE;have L9:=R.step ok;have W9:=L9.whole Z EH;have Ox:(gq a d (nI ns)).length<=1000:=by rw[W9.l];exact W9.n
   have TY:l≠b:=λz=>by rw[z,M0]at fl;cases fl
   have TZ:t≠b:=λz=>by rw[z,M0]at ft;cases ft
   have r9:aW K (eM H9 b) ((j++[(d,ns,w)]).map vH) (r++[.ref t]):=by
    rw[VE];exact fV (aW.same (mN (s8.trans s9)) _ _ r7) (Al (jO (s9 _ _ QC) TZ) (jO (s9 _ _ QD) TY))
   have M1:bC K L.aq (eM H9 b) y' _ _ _:=S9.same (Gg QE);refine⟨_,rfl,.inl ⟨rfl,_,aN.of QF⟩,_,rfl,b,_,_,rfl,rfl,QF,bx (by omega),?_⟩;have eo:eM (upd H9 b (.lst (r++[.ref t]))) b=eM H9 b:=Gf;rw[<-eo]at r9 M1;have QG:a9 H (upd H9 b (.lst (r++[.ref t]))):=λc o e=>by rw[aa (ae e NF)];exact s9 _ _ (s8 _ _ (s7 _ _ e))
   have QH:(upd H9 b (.lst (r++[.ref t]))) dl=some (.dK (aZ (bU f ls))):=by rw[aa KU];exact s9 _ _ (s8 _ _ QB)
   have Oy:(upd H9 b (.lst (r++[.ref t]))) b=some (.lst (r++[.ref t])):=a7;generalize upd H9 b (.lst (r++[.ref t]))=NY at QG QH Oy r9 M1;refine⟨_,rfl,_,rfl,y',many,_,_,_,rfl,M1.same ry,Ox,λl hl=>by have:=W9.m l hl;omega,λU0 U1 Ju U M J8 Ow=>?_⟩;refine⟨y',U0,_,_,_,j++[(d,ns,w)],r++[.ref t],U1,_,?_,rfl,QG.trans U,U _ _ QH,M1.same (mN U),L9,U _ _ Oy,aW.same (mN U) _ _ r9,(λz=>by rw[z,Oy]at M;cases M),J8,Ow⟩;unfold cI;rw[Vs];rfl
  ·refine⟨_,rfl,C,_,rfl,.inl (aN.of Ou),rfl,false,congrArg V.bl (decide_eq_false λz=>Ov (WY (by have:=V.int.inj z;rw[Vn,gu]at this;omega))),bB ?_⟩;refine⟨_,rfl,_,rfl,_,rfl,_,rfl,?_⟩;intro z dz nz U2 Ve;have sm:a9 O (upd (upd O dz (.own z)) z (.ins L.aQ dz [])):=fU nz U2;refine⟨z,dz,dl,y,.ref b,.ref C,bU f ls,j,J,D,G,a,rfl,a7,.inl (sm _ _ QB),⟨b,r,rfl,.inl (sm _ _ M0),aW.same (ry.trans sm) _ _ r7⟩,ig (sm _ _ Ou),(S7.same ry).same sm,by omega,by omega,by omega,λl hl=>by have:=W7.m l hl;omega,by omega,λa' b' c' y' H8 h8 fa U3 r8 U4 S8 U5=>⟨rfl,?_⟩⟩;have s8:a9 O H8:=λc o e=>U5 _ _ (sm _ _ e) (ae e nz);have nw:a9 (aG (upd (upd O dz (.own z)) z (.ins L.aQ dz [])) H8) (aG H H8):=dU (s7.trans sm);refine k Qz z f0 f j J D G a H8 (s7.trans s8) ⟨dz,a',b',c',y',bF (none_of s7 nz) h8,bF (none_of (s7.trans sm) fa) U3,bG.same nw _ _ r8,bG.same nw _ _ U4,S8.same nw⟩ hL hle ⟨QA,λp hp=>?_,Bt,LZ,Z,R.rn,R.b,R.cv,by omega,hK,Ov,by omega,R.sb⟩;have h1:=hle p hp;have h2:=hG.le p hp;omega
theorem Eu(h:Kw g j ss many n 24 v)(l:BM g j ss many n):v=.non:=by
 cases h with
 |some k a b c d=>exact absurd c (l k a b)
 |none a=>rfl
inductive A9(C:Addr)(vs:List V)(H:Hp)(Q:VK)(eN:XK):Prop
 |mk (x many) (n:Nat) (g bw ss ls c d) (_:vs=[.ref x,.int many,.int (n:Int)]) (_:aV C H x g bw ss ls) (_:(∀w∈bw,c∈ch w)) (_:(ch g).Nodup) (_:3<=g.length) (_:g.length<=4) (_:ss.length<=40) (_:c∈ch g) (_:d∈ch g) (_:d≠c) (_:gk g.length many n) (_:many<=(((g.length - 1) ^ n:Nat):Int)) (_:∀H',a9 H H'->Q (.bl true) H')
theorem tf(L:Lk K mg):aK P w K mg base dn 10 L.jb L.nA ["_law_band","_law_many","_law_wide"] (A9 L.aB):=by
 have T:=L.T;refine L.jc.F.eL (N:=["_law_band","_law_many","_law_wide","_law_plan","_law_lines","_law_desk"]) (λgd A outer s H vs Q E nd hr h=>?_);obtain⟨x,many,n,g,W,X,ls,c,d,rfl,B,hw,r,Vf,Sn,C3,hc,hd,O,t,Y,k⟩:=h;have hu:=et hr;have KR:(A.deeper (YV "_law_right" (ay (top 75)) s.heap.objs.size L.jb gd)).units < Yt:=hr.uZ
 refine⟨_,(a6 (aj (i:=3) (gH (sf L) (hr.mono (by decide)) rfl L.dZ.g L.dZ.F.kp L.dZ.b .nil Ij (a5 (pv 0) (a5 (pv 1) (a5 (pv 2) a8)))))
  (a6 (aj (i:=4) (aX (jF (pv 3) L.cf.cl L.fR.m (t9 L) (hr.mono (by decide)) L.fR.b .nil fN) rfl))
  (a6 (bE (aA (yq KR) (aX (pv 3) rfl) (cC a8) (aL _)) (af (aw dM)) aJ)
  (a6 (b9 VS rfl (aM (aX (pv 3) rfl)) (az (i:=5)) (af (bE (aA je (ax bf (by rfl) T.len We (a5 (fz rfl (au ["_law_plan"] [3]) (au ["_law_plan"] [3]) (by decide) (aM (bV cD (pv 4) (pv 5) (λ_ _=>rfl))) (λ_ _ _ _ _ _=>dF (aA (eQ (K:=K) rfl) (pv 1) (mr (K:=K) rfl (pv 2) rfl) rfl)) (λ_ _ _ _ _ _=>(pv 1))) a8)) (pv 1) (aL _)) (af (aw dM)) aJ)))
  (af (aw (nP (fj HD (ai (uS L) L.mS (a5 (pv 0) (a5 (pv 1) (a5 (pv 2) (a5 ag a8))))) gX (aL _)) (qb (fj qf (cF hu (ai (pF L) L.j1 (a5 (pv 0) (a5 (pv 1) (a5 (pv 2) (a5 ag a8))))) cw (λ_ _=>rfl)) ag (aL _)))))))))),?_⟩
 obtain⟨ra,rb,rc,rd,re⟩:=id t;have he:("":Str)∈X:=B.pm.mem_iff.mpr (bS W);have Ja:∀w∈W,1<=w.length:=λw h=>by have:=Yz (hw w h);rwa[aE]at this
 have Z:=BV B.lv B.pm hw he r hc hd O ra Y;have U6:=zx B.lv hw he r hc hd O ra Y (VF B.lv.sub.length_le C3);refine⟨_,rfl,_,rfl,_,rfl,.inl ⟨x,many,n,g,W,X,ls,rfl,B,Ja,r,by omega,by omega,by omega,t,λ_ p f0 f rx C hs ws D H1 s1 P1 hL hle J=>?_,λkk d' H' z=>(nomatch Eu z Z),λ_ z=>absurd z U6⟩⟩;have P1:=P1.same (dS _ _);obtain⟨dp,wa,wb,M,wz,QI,_,_,U7,_⟩:=id P1;have U8:=J.ln;have Vg:=J.b.w;have OM:=J.b.l
 have EH:g.length ^ n<=64:=by
  rw[W2]at re;have:((g.length ^ n:Nat):Int)<=64:=by rw[YX];exact re
  omega
 have G:∀l∈D,l.length<=10000:=λl Y=>by
  have h1:=J.cv.line J.b.l (b:=64) (λp=>VF (eS g W X ls n p) EH) l Y;have h2:64 * hs.length<=64 * 40:=wa2 _ (by omega);omega
 have J8:C.length<=40:=by have:=J.ko.ab.sub.length_le;rw[Wf]at this;omega
 refine⟨_,rfl,p,dp,_,rfl,QI,Ej (by show ("sheet":Str)∉[("weights":Str),"splits","kept","last"];decide+kernel),p,bU f ls,rx,C,hs,ws,D,rfl,P1,by omega,by omega,by omega,G,λy H2 s2 S2=>?_⟩;obtain⟨dy,ah,U9,cl,hy,rh,Vh,rl⟩:=id (S2.same (dS _ _));refine⟨y,L.aq,dy,_,_,rfl,hy,L.ao.cl,L.ao.di,bj ah U9 cl,?_⟩;obtain⟨L4,xs,ec,wH,Ua⟩:=id rl;cases ec
 have I:aN K H2 M ((nI C).map V.int):=by
  obtain⟨c',e,h⟩:=gp (bG.same s2 _ _ U7);cases e;exact h
 have R:=s2 _ _ QI;have LY:=s1.trans s2;refine⟨_,rfl,p,L.aQ,dp,_,_,rfl,R,L.cf.cl,L.cf.vJ,lZ wa wb M wz,Wb _,λe0 Ub=>?_⟩;have s3:=a9.upd (o:=.lst []) Ub;have h3:(upd H2 e0 (.lst [])) e0=some (.lst []):=a7;generalize upd H2 e0 (.lst [])=H3 at s3 h3;refine⟨M,e0,_,[],rfl,rfl,s3.seq I,aN.of h3,eU _,rfl,_,rfl,CI (λz=>?_) (λ_=>?_)⟩
 ·have z':pI ((nI C).map V.int) ((nI []).map V.int)=true:=z;rw[oq,decide_eq_true_eq]at z';exact absurd z' J.ne
 refine⟨_,rfl,p,L.aQ,dp,_,_,rfl,s3 _ _ R,L.cf.cl,L.cf.vJ,lZ wa wb M wz,M,rfl,⟨_,s3.seq I⟩,cZ (K:=K) (a:=M) (xs:=(nI C).map V.int) (λi σ H4=>a9 H2 H4/\∃v5,σ=[some (.ref x),some (.int many),some (.int (n:Int)),some (.ref p),some (.ref cl),v5]) ⟨s3,none,rfl⟩ (λi σ H4 _ q=>q.1.seq I) ?_ ?_⟩
 ·rintro i v σ H4 hv ⟨S,v5,rfl⟩;obtain⟨j,hj,rfl⟩:=vD (VN hv);obtain⟨MZ,Uc⟩:=J.ko.st j hj;have hq:=BR MZ;obtain⟨u,Je,QJ⟩:=Ua.at (i:=j) (d:=cj (D.getD j [])) (by rw[Vt,hq];rfl);have G:=G _ (VN hq);generalize D.getD j []=qs at QJ Uc G;obtain⟨la,rs,rfl,hS,hT⟩:=eV (bG.same S _ _ QJ);have Gs:rs.length=qs.length:=by rw[hT.1,Vn,Vn]
  refine⟨_,rfl,_,rfl,cl,xs,_,_,rfl,rfl,S.seq (.inl wH),cb Je,la,rfl,⟨_,hS⟩,λl hl=>?_⟩;refine iU (prs:=qs.map dW) (λq=>kM q.2 ((nI C).map V.int)) (λq=>q.2) (aO K la (rs.map V.ref)) hT hl (av (by omega)) (λH' s'=>s'.seq hS) (λq H5 Q' hq U qq=>?_) (λq H5 Q' hq _ U qq=>⟨_,rfl,qq H5 (a9.refl _)⟩) (λH5 U h5=>?_)
  ·obtain⟨z,hz,rfl⟩:=Vx.mp hq;exact⟨_,rfl,_,rfl,p,L.aQ,dp,_,_,rfl,U _ _ (S _ _ R),L.cf.cl,L.cf.vJ,lZ wa wb M wz,M,_,rfl,.inl ((S.trans U).seq I),rfl,eU _,_,rfl,qq H5 (a9.refl _)⟩
  have e:((qs.map dW).filter λq=>kM q.2 ((nI C).map V.int))=(dJ C qs).map dW:=by
   unfold dJ;rw[Yx];exact congrArg _ (YB λq _=>xG q.2 C)
  rw[e]at h5;refine⟨l,_,rfl,.inl (aN.of h5),?_⟩;rw[Vn,Vn];exact⟨_,rfl,_,_,rfl,rfl,false,congrArg V.bl (decide_eq_false (by omega)),bB ⟨S.trans U,_,rfl⟩⟩
 rintro σ H4 ⟨S,v5,rfl⟩;have QK:=LY.trans S;refine⟨_,rfl,_,rfl,_,rfl,x,many,(n:Int),24,g,W,X,ls,rfl,B.same QK,by omega,by omega,t,by decide,by decide,λv H5 U hv=>?_⟩;rw[W2]at hv;obtain rfl:=Eu hv Z;refine⟨rfl,true,rfl,cP ?_⟩;have QL:=QK.trans U;refine⟨_,rfl,_,rfl,_,rfl,x,many,n,1,g,W,X,ls,rfl,B.same QL,by omega,by omega,by omega,t,by decide,λdd ff H6 s6 fd h6 hG=>?_⟩;obtain⟨g0,g1⟩:=rT B.lv hw he r hc hd O Y hG;have e3:=dm.k (k:=(VU "":Key)) h6;rw[cN,gK ff ls "" g0,g1]at e3;exact⟨dd,_,rfl,e3,rfl,k H6 (QL.trans s6)⟩
inductive Gv(C:Addr)(vs:List V)(H:Hp)(Q:VK)(eN:XK):Prop
 |mk (x p v u g bw ss ls) (_:vs=[.ref x,.ref p]) (_:aV C H x g bw ss ls) (_:3<=g.length) (_:g.length<=4) (_:H p=some (.tup [v,u])) (_:cg v=true) (_:cg u=true) (_:pC 3 v u=false) (_:pC 4 v u=false) (_:∀H',a9 H H'->Q (.bl true) H')
theorem pP(L:Lk K mg):aK P w K mg base dn 10 L.kj L.kl ["_law_band","_law_pair"] (Gv L.aB):=by
 have T:=L.T;refine L.gD.F.eL (N:=["_law_band","_law_pair","_law_caught","e"]) (λq A outer s H O Q E nd c h=>?_);obtain⟨x,p,v,u,g,r,t,ls,rfl,B,y,C,l,D,G,R,S,k⟩:=h
 refine⟨_,(a6 (aj (i:=2) gX)
  (a6 (Ii ⟨rfl,rfl⟩ (Dg (Df (De (sf L) (c.mono (by decide)) rfl L.dZ.g L.dZ.F.kp L.dZ.b (a5 (pv 0) (a5 (bV iJ (pv 1) ag (λ_ _=>rfl)) (a5 (bV iJ (pv 1) ag (λ_ _=>rfl)) a8)))))) rfl L.km L.XT nd (j:=3) (i:=2) rfl rfl rfl (Y6 rfl))
  (af (aw (nP (ax nZ (by rfl) T.Gj vo (a5 (pv 2) (a5 (iC (v:=.ref L.cK) (by rfl) L.rP rfl) a8))) (nP (y6 (ax nZ (by rfl) T.Gj vo (a5 (pv 2) (a5 (iC (v:=.ref L.m5) (by rfl) L.vL rfl) a8)))) (qb (y6 (ax nZ (by rfl) T.Gj vo (a5 (pv 2) (a5 (iC (v:=.ref L.bN) (by rfl) L.rQ rfl) a8))))))))))),?_⟩
 have c:pC g.length v u=false:=by
  have:g.length=3\/g.length=4:=by omega
  rcases this with z |z <;> rw[z] <;> assumption
 refine⟨_,rfl,_,rfl,p,_,_,_,rfl,rfl,jA.of l,rfl,_,rfl,p,_,_,_,rfl,rfl,jA.of l,rfl,.inr ⟨x,v,u,rfl,⟨g,r,t,ls,B,by omega,by omega,.flat D,.flat G,c⟩,λm I=>?_⟩⟩;refine⟨L.cK,_,rfl,L.fC,λe J=>?_⟩;have a:(upd m e (XC e L.cK none)) e=some (XC e L.cK none):=a7;have n:=I.trans (a9.upd (o:=XC e L.cK none) J);generalize upd m e (XC e L.cK none)=M at a n;have d:∀f,(none:Option Addr)=some f->∃fs,M f=some (.xd fs):=λf z=>nomatch z;exact⟨_,rfl,_,_,true,rfl,.exc a d L.fC L.nC Dj,true,rfl,cP ⟨_,rfl,_,_,false,rfl,.exc a d L.fC L.nC (wW L.fC L.vM L.XT (by decide+kernel) (by decide+kernel)),false,rfl,true,rfl,cP ⟨_,rfl,_,_,false,rfl,.exc a d L.fC L.nC (wW L.fC L.iu L.XT (by decide+kernel) (by decide+kernel)),false,rfl,k _ n⟩⟩⟩
theorem zC{g r:Str}{k:Nat}(j:qy g)(C:3<=k)(I:k<=4)(e:ch r=(ch g++(ch "xyz").filter λc=>!decide (c∈ch g)).take k):qy r/\3<=r.length:=by
 have d:ch "xyz"=[120,121,122]:=by decide+kernel
 have hl:=aE r;have h:=aE g;have g2:=j.lo
 have s:3<=(ch g++(ch "xyz").filter λc=>!decide (c∈ch g)).length:=by
  rw[Vs]
  by_cases z:3<=(ch g).length
  ·omega
  have:∃c∈ch "xyz",c∉ch g:=by
   rw[d];refine Yc λq=>?_;have f:∀c∈[120,121,122],c∈ch g:=λc hc=>Yc λn=>q ⟨c,hc,n⟩;have a:=f 120 (by simp);have b:=f 121 (by simp);have c:=f 122 (by simp);generalize ch g=l at *
   match l with
   |[]=>cases a
   |[p]=>simp at a b;omega
   |[p,q]=>simp at a b c;omega
   |_ :: _ :: _ :: _=>exact z (by simp)
  obtain⟨c,i,m⟩:=this;have:=Yz (VR.mpr ⟨i,by simpa using m⟩:c∈(ch "xyz").filter λc=>!decide (c∈ch g));omega
 have t:r.length=min k (ch g++(ch "xyz").filter λc=>!decide (c∈ch g)).length:=by rw[<-hl,e,VQ]
 refine⟨⟨by omega,by omega,?_,λc hc=>?_⟩,by omega⟩
 ·rw[e];refine waa (XE _ _) (Xe.mpr ⟨j.nd,waa Yi (by rw[d];decide),λa ha b o z=>?_⟩);have:=(VR.mp o).2;rw[<-z]at this;simp[ha]at this
 ·rw[e]at hc;rcases VP.mp (ZV hc) with z |z
  ·exact j.sub c z
  ·have:=(VR.mp z).1;rw[d]at this;exact(show ∀c∈[120,121,122],c∈ch dj by decide+kernel) c this
theorem Jf{f:Addr}{fd:VB}(L:Lk K mg)(F:wF K "law" "law" (top 77) f fd):aK P w K mg base dn 11 f fd ["_law_script"] (A4 K):=by
 have T:=L.T;refine F.eL (N:=["_law_script","_law_cell","_law_signs_here","_law_more","_law_words","_law_band","_law_many","_law_wide"]) (λgd A outer s H vs Q E nd hr h=>?_);obtain⟨a,ns,rfl,hS,hlen,k⟩:=h
 refine⟨_,(a6 (aj (i:=1) (ai (gT L) L.f7 (a5 (pv 0) (a5 ag a8))))
  (a6 (aj (i:=2) (ai (sU L) L.ja (a5 (pv 1) a8)))
  (a6 (dH (i:=3) rfl (au ["_law_signs_here"] [2]) nd rfl rfl (qm cw) (λ_ _ _ _ _ _=>dF (aA vd (pv 0) (pv 1) rfl)) (λ_ _ _ _ _ _=>(pv 0)))
  (a6 (aj (i:=2) (dA nU (aI g8 (pv 2) (jf Zj ZC ZD vh cw (a5 (pv 3) a8))) iI (da (aI d2 ag (ai (b7 L) L.aY (a5 (pv 1) (a5 ag (a5 ag a8))))))))
  (a6 (aj (i:=4) (ai (m6 L) L.eG (a5 (pv 0) (a5 ag (a5 (pv 2) a8)))))
  (a6 (aj (i:=5) (ml L.Ar (oC L) (hr.mono (by decide)) rfl L.Eg L.fJ.b .nil fN (a5 (pv 2) (a5 (bu cE (by rfl) T.list ji (a5 (pv 4) a8)) a8))))
  (a6 (b9 VS rfl (aM (aI yk (cC (a5 (ai (gT L) L.f7 (a5 (pv 0) (a5 ag a8))) a8)) (dA pU (pv 0) (da ag) (da ag)))) (az (i:=1)) (a6 (y7 (ai (nG L) L.f9 (a5 (pv 1) (a5 (pv 2) a8))) (gY rfl (b6 (az (i:=6)) (b6 (az (i:=7)) fi))))
  (af (bE (PW.pt (g7 (cY (ck (ai (tf L) L.jc (a5 (pv 5) (a5 (pv 6) (a5 (pv 7) a8)))))) (iD (cY (ck (ai (pP L) L.gD (a5 (pv 5) (a5 (ai (pL L) L.gC (a5 (pv 1) a8)) a8)))))))) (af (aw dM)) aJ))))
  (af (aw dM))))))))),?_⟩
 refine⟨_,rfl,a,ns,0,rfl,hS,λc0 H0 s0=>⟨_,rfl,c0,rfl,λj H1 C s1=>?_⟩⟩;have Ud:=s0.trans s1;have Vi:=C.lo;have Vj:=C.hi;refine⟨"xyz",rfl,λlm Ny=>?_⟩;refine dg (λv=>match v with |.str i=>!EC i j |_=>false) (λv=>v) (jI "xyz") Ny (by show 3<=sizeLine;decide) (λ_ _=>trivial) (λv H2 Q' hv s2 qq=>?_) (λv H2 Q' hv _ s2 qq=>⟨_,rfl,qq H2 (a9.refl _)⟩) (λH2 s2 h2=>?_)
 ·obtain⟨c,_,rfl⟩:=Vx.mp hv;exact⟨_,rfl,_,rfl,_,_,rfl,rfl,_,rfl,qq H2 (a9.refl _)⟩
 have em:(((cQ "xyz").filter λv=>match v with |.str i=>!EC i j |_=>false).map λv=>v)=(((ch "xyz").filter λc=>!decide (c∈ch j)).map λc=>(⟨#[c]⟩:Str)).map V.str:=by
  unfold cQ;rw[YF,Yx,VG];refine congrArg _ (YB λc _=>?_);show (!EC ⟨#[c]⟩ j)=_;rw[A1]
 rw[em]at h2;have S0:((ch "xyz").filter λc=>!decide (c∈ch j)).length<=3:=WG ..;have M:∀t∈((ch "xyz").filter λc=>!decide (c∈ch j)).map λc=>(⟨#[c]⟩:Str),∃c,t=⟨#[c]⟩/\True:=λt ht=>let ⟨c,_,e⟩:=Vx.mp ht;⟨c,e.symm,trivial⟩
 have O:=xc (z:="") (by decide+kernel) M;rw[Vn]at O;refine⟨_,rfl,?_⟩;refine⟨rfl,_,rfl,_,lm,_,rfl,rfl,aN.of h2,?_,?_⟩
 ·rw[mC M,Vn];show _ + _ * 0<=16777216;omega
 refine⟨_,_,rfl,rfl,av (by omega),_,rfl,c0,0,2,rfl,by decide,by decide,by decide,λd h0 h1=>⟨_,_,rfl,rfl,?_⟩⟩;obtain⟨J,ek,k3,k4⟩:∃J:Nat,(3:Int) + d=(J:Int)/\3<=J/\J<=4:=⟨(3 + d).toNat,by omega,by omega,by omega⟩;generalize Ue:YQ "" _=jn at O
 have ej:ch jn=(ch "xyz").filter λc=>!decide (c∈ch j):=by
  rw[<-Ue,kA (by decide+kernel),VG];generalize ((ch "xyz").filter λc=>!decide (c∈ch j))=cs
  induction cs with
  |nil=>rfl
  |cons c cs ih=>rw[VL,Zd,ih];rfl
 refine⟨_,rfl,_,rfl,av (by rw[len_app];omega),?_⟩;show dv 2 (V.str (Wo (j++jn) none (some (3 + d)))) _ _ _;rw[ek];obtain⟨R,g3⟩:=zC (r:=Wo (j++jn) none (some (J:Int))) C k3 k4 (by rw[qw,aC,ej]);generalize Wo (j++jn) none (some (J:Int))=g at R g3;have g4:=R.hi;have S:=Ud.trans s2;refine⟨_,rfl,_,rfl,a,ns,1,g,rfl,S.seq hS,by omega,g4,λl2 U H3 s3 f3 h3 B5 W=>?_⟩;have Es:=S.trans s3;have X:∀w∈U,qA g w:=λw h=>(W w h).1;refine⟨_,rfl,_,rfl,l2,_,rfl,.inl (aN.of h3),λl4 D x dx nx G Ug=>?_⟩;refine⟨x,dx,g,l4,U,rfl,a7,aN.of (fU nx G _ _ a7),R,by omega,X,λss ls H4 B4 Y=>⟨rfl,?_⟩⟩;have s4:a9 H3 H4:=λb o e=>Y b o (fU nx G _ _ (a9.upd D _ _ e)) (ae (a9.upd (o:=.lst (U.map V.str)) D _ _ e) nx);have C3:ss.length<=25:=B4.few (by omega) X;have Z:=Es.trans s4;clear Y nx G Ug D;refine⟨_,rfl,a,ns,4,rfl,Z.seq hS,λn H9 s9=>⟨by show 1<=sizeLine;decide,λlh Hj=>?_⟩⟩;have QM:=s9.trans (a9.upd (o:=.lst [.int n]) Hj);refine⟨_,rfl,_,rfl,_,rfl,a,_,rfl,(Z.trans QM).seq hS,λlu QN=>?_⟩;obtain⟨l,em,Nz⟩:=x9 ns (some 5) (some 6);rw[em];refine⟨lh,lu,_,_,rfl,rfl,a9.upd QN _ _ a7,a7,by rw[Vn];exact av (by show 1 + l.length<=_;omega),λlx Uh=>?_⟩;have Jb:[V.int n]++l.map V.int=(n :: l).map V.int:=rfl;rw[Jb];have QO:=QM.trans ((a9.upd (o:=.lst (l.map V.int)) QN).trans (a9.upd (o:=.lst ((n :: l).map V.int)) Uh));have m:(upd (upd (upd H9 lh (.lst [.int n])) lu (.lst (l.map V.int))) lx (.lst ((n :: l).map V.int))) lx=some (.lst ((n :: l).map V.int)):=a7;generalize upd (upd (upd H9 lh (.lst [.int n])) lu (.lst (l.map V.int))) lx (.lst ((n :: l).map V.int))=NY at QO m;have BA:=B4.same QO;have Vk:=aE g;have m0:(ch g).getD 0 0∈ch g:=by rw[Vq,Vp (by omega)];exact Wg _
 have m1:(ch g).getD 1 0∈ch g:=by rw[Vq,Vp (by omega)];exact Wg _
 have Ui:(ch g).getD 1 0≠(ch g).getD 0 0:=by
  rw[Vq,Vq,Vp (by omega),Vp (by omega)];exact λz=>absurd ((Yh R.nd).mp z) (by decide)
 refine⟨lx,rfl,⟨_,aN.of m⟩,cZ (K:=K) (a:=lx) (xs:=(n :: l).map V.int) (λi σ p=>a9 NY p/\∃v1 v6 v7,σ=[some (.ref a),v1,some (.str g),some (.ref lm),some (.ref l2),some (.ref x),v6,v7]) ⟨a9.refl _,_,none,none,rfl⟩ (λi σ p _ q=>aN.of (q.1 _ _ m)) ?_ ?_⟩
 ·rintro i z σ p hz ⟨Lh,v1,v6,v7,rfl⟩;obtain⟨cc,_,rfl⟩:=Vx.mp (VN hz);refine⟨_,rfl,_,rfl,cc,g,rfl,g3,g4,λpt many wd Jc y fp hp Jd HW=>?_⟩;refine⟨pt,_,rfl,jA.of hp,rfl,_,_,rfl,_,_,rfl,rfl,?_⟩;have y:=Lh.trans y;refine⟨_,rfl,_,rfl,_,rfl,x,many,wd,g,U,ss,ls,_,_,rfl,BA.same y,λw h=>(W w h).2,R.nd,g3,g4,by omega,m0,m1,Ui,Jd,HW,λOc I=>⟨true,rfl,bB ?_⟩⟩;have I:=y.trans I;refine⟨_,rfl,_,rfl,cc,rfl,λq v u Vl B hq fv fu r3 r4=>?_⟩;have B:=I.trans B;exact⟨x,q,v,u,g,U,ss,ls,rfl,BA.same B,g3,g4,hq,fv,fu,r3,r4,λVm Uj=>⟨true,rfl,bB ⟨B.trans Uj,_,_,_,rfl⟩⟩⟩
 ·rintro σ p ⟨Lh,v1,v6,v7,rfl⟩;exact k _
end
end K35
namespace K35
open PySem PySem.W L2 Bs Sx
theorem nz{K:Frag}{mg:Str->Option Value}{hp:Heap}{x:Str}(X:K.In hp)(G:hp.Ns Wc mg)(a:nsIn K Wc x=some none:=by k_is):mg x=none:=mg_none_of X G a
theorem na{K:Frag}{C:Addr}{f:Str}(a:findIn K (.ref C) f=some none:=by k_is):cO K C f:=a
theorem fK{K:Frag}{mg:Str->Option Value}{hp:Heap}{f:Addr}{oc:Value}{od an:Option Addr}{CG:Array (Option Value)}{kV doc pm gd ct:Value}(nm:Str)(st:Stmt)(ps:List Str)(X:K.In hp)(G:hp.Ns Wc mg)(a:nsIn K Wc nm=some (some (.ref f)):=by k_is)(l:K.lookup f=some ⟨oc,od,.func (fnOf nm nm (cG st) (bA st) (ay st) .none kV doc pm an gd ct),CG⟩:=by k_is)(c:codeIn K gd nm=true:=by k_is)(k:keepIn K (.ref f)=true:=by k_is)(b:∀(kV doc pm:Value) (an:Option Addr) (gd ct:Value) (us:List Value),us.length=ps.length->bindArgs (fnOf nm nm (cG st) (bA st) (ay st) .none kV doc pm an gd ct) ⟨us,[]⟩=pure (ps.zip us):=by first |exact λ_ _ _ _ _ _=>L2.gE _ _ λ_=>rfl |exact λ_ _ _ _ _ _=>L2.gE _ _ λ_ _=>rfl |exact λ_ _ _ _ _ _=>L2.gE _ _ λ_ _ _=>rfl |exact λ_ _ _ _ _ _=>L2.gE _ _ λ_ _ _ _=>rfl |exact λ_ _ _ _ _ _=>L2.gE _ _ λ_ _ _ _ _=>rfl |exact λ_ _ _ _ _ _=>L2.gE _ _ λ_ _ _ _ _ _=>rfl):∃fd,FnAt K mg nm st ps f fd:=Raw.at_ X G a (yC l c k) b
structure QP(K:Frag)(mg:Str->Option Value)(x:Str)(C:Addr):Prop where
 g:mg x=some (.ref C)
 c:zQ K C
 mi:makesIn K C=true
 kp:keepIn K (.ref C)=true
theorem Oz{K:Frag}{mg:Str->Option Value}{hp:Heap}{C:Addr}(x:Str)(X:K.In hp)(G:hp.Ns Wc mg)(a:nsIn K Wc x=some (some (.ref C)):=by k_is)(b:plainGet K C wcL=true:=by k_is)(c:ZJ K C=true:=by k_is)(d:wbh K C=true:=by k_is)(e:findIn K (.ref C) "__setattr__"=some (some (.builtin "object.__setattr__")):=by k_is)(f:makesIn K C=true:=by k_is)(g:keepIn K (.ref C)=true:=by k_is):QP K mg x C:=⟨mg_of X G a,⟨b,c,d,e⟩,f,g⟩
theorem Gw{K:Frag}{mg:Str->Option Value}{x:Str}{C f:Addr}{oc:Value}{od an:Option Addr}{CG:Array (Option Value)}{kV doc pm gd ct:Value}(P:QP K mg x C)(nm q:Str)(st:Stmt)(ps:List Str)(a:findIn K (.ref C) nm=some (some (.ref f)):=by k_is)(i:isFn K (.ref f)=true:=by k_is)(l:K.lookup f=some ⟨oc,od,.func (fnOf nm q (cG st) (bA st) (ay st) .none kV doc pm an gd ct),CG⟩:=by k_is)(c:codeIn K gd q=true:=by k_is)(k:keepIn K (.ref f)=true:=by k_is)(b:∀(kV doc pm:Value) (an:Option Addr) (gd ct:Value) (us:List Value),us.length=ps.length->bindArgs (fnOf nm q (cG st) (bA st) (ay st) .none kV doc pm an gd ct) ⟨us,[]⟩=pure (ps.zip us):=by first |exact λ_ _ _ _ _ _=>L2.gE _ _ λ_=>rfl |exact λ_ _ _ _ _ _=>L2.gE _ _ λ_ _=>rfl |exact λ_ _ _ _ _ _=>L2.gE _ _ λ_ _ _=>rfl |exact λ_ _ _ _ _ _=>L2.gE _ _ λ_ _ _ _=>rfl |exact λ_ _ _ _ _ _=>L2.gE _ _ λ_ _ _ _ _=>rfl |exact λ_ _ _ _ _ _=>L2.gE _ _ λ_ _ _ _ _ _=>rfl):∃fd,kT K C nm q st ps f fd:=by
 obtain⟨fd,F,B⟩:=(yC l c k).fn b;exact⟨fd,F,B,a,i,k⟩
theorem Uk{K:Frag}{mg:Str->Option Value}{hp:Heap}{x:Str}{t:Tok}(X:K.In hp)(G:hp.Ns Wc mg)(a:nsIn K Wc "KNOWN_SIGNS"=some (some (.str x t)):=by k_is)(e:x=dj:=by first |rfl |decide+kernel):∃t,mg "KNOWN_SIGNS"=some (.str dj t):=⟨t,e ▸ mg_of X G a⟩
theorem Ul{K:Frag}{mg:Str->Option Value}{hp:Heap}{C:Addr}{q:Str}{N:Addr}{bs:List Value}{hd:Bool}{sn:List Str}{sub:List Value}{ab:Bool}{col:Option Bool}{dd:Option Addr}{k0 k1 k2 k3 k5:Option Value}(X:K.In hp)(G:hp.Ns Wc mg)(a:nsIn K Wc "BandError"=some (some (.ref C)):=by k_is)(l:K.lookup C=some (WX "BandError" q C N bs Jn hd sn sub ab col dd k0 k1 k2 k3 k5 "ValueError.__new__"):=by k_is)(b:wae K (.ref C) "__getattribute__"=some (some (.builtin "type.__getattribute__")):=by k_is)(c:readsIn K C (.type "type")=true:=by k_is)(d:findCls K (.ref C) (.type "type") "__init__"=some (.val (.builtin "ValueError.__init__")):=by k_is):mg "BandError"=some (.ref C)/\wU K C "BandError"/\D8 K C:=⟨mg_of X G a,FG l,b,c,d⟩
theorem M3{K:Frag}{mg:Str->Option Value}{hp:Heap}{C CB:Addr}{q:Str}{N:Addr}{bs:List Value}{sn:List Str}{sub:List Value}{ab:Bool}{col:Option Bool}{dd:Option Addr}{k0 k1 k2 k3 k5:Option Value}(x:Str)(X:K.In hp)(G:hp.Ns Wc mg)(B:wU K CB "BandError")(a:nsIn K Wc x=some (some (.ref C)):=by k_is)(l:K.lookup C=some (WX x q C N bs (pJ CB) true sn sub ab col dd k0 k1 k2 k3 k5 "ValueError.__new__"):=by k_is)(s:findIn K (.ref C) "__setattr__"=some (some (.builtin "object.__setattr__")):=by k_is)(g:findIn K (.ref C) "__getattribute__"=some (some (.builtin "BaseException.__getattribute__")):=by k_is)(h:findIn K (.ref C) "__getattr__"=some none:=by k_is)(k:keepIn K (.ref C)=true:=by k_is)(c:findIn K (.ref C) "__class__"=some (some (.builtin "object.__class__")):=by k_is)(n:wae K (.builtin "object.__class__") "__get__"=some (some (.builtin "getset_descriptor.__get__")):=by k_is)(t:takesIn K (.builtin "object.__class__")=some true:=by k_is):mg x=some (.ref C)/\bJ K C CB x/\sP K C:=⟨mg_of X G a,⟨(FE l).lk,s,g,h,k⟩,c,n,t⟩
theorem Um{K:Frag}{C f:Addr}{oc:Value}{od an:Option Addr}{CG:Array (Option Value)}{kV doc pm gd ct:Value}(Y:sP K C)(q:Str)(st:Stmt)(ps:List Str)(nm:Str)(a:findIn K (.ref C) nm=some (some (.ref f)):=by k_is)(i:isFn K (.ref f)=true:=by k_is)(l:K.lookup f=some ⟨oc,od,.func (fnOf nm q (cG st) (bA st) (ay st) .none kV doc pm an gd ct),CG⟩:=by k_is)(c:codeIn K gd q=true:=by k_is)(k:keepIn K (.ref f)=true:=by k_is)(b:∀(kV doc pm:Value) (an:Option Addr) (gd ct:Value) (us:List Value),us.length=ps.length->bindArgs (fnOf nm q (cG st) (bA st) (ay st) .none kV doc pm an gd ct) ⟨us,[]⟩=pure (ps.zip us):=by first |exact λ_ _ _ _ _ _=>L2.gE _ _ λ_=>rfl |exact λ_ _ _ _ _ _=>L2.gE _ _ λ_ _=>rfl |exact λ_ _ _ _ _ _=>L2.gE _ _ λ_ _ _=>rfl |exact λ_ _ _ _ _ _=>L2.gE _ _ λ_ _ _ _=>rfl |exact λ_ _ _ _ _ _=>L2.gE _ _ λ_ _ _ _ _=>rfl |exact λ_ _ _ _ _ _=>L2.gE _ _ λ_ _ _ _ _ _=>rfl):∃fd,wF K nm q st f fd/\Binds K fd ps []/\findIn K (.ref C) nm=some (some (.ref f))/\isFn K (.ref f)=true:=by
 obtain⟨fd,F,B⟩:=(yC l c k).fn b;exact⟨fd,F,B,a,i⟩
theorem walk{l:ZX}{q:VO}{loose:List Str}{XP:(Str->Option Value)->Heap->Prop}{YP:World->Heap->Prop}{d:DefRec}{K:Params->Vo}(hn:l.most=some 63)(Uo:d.params.defaults=[])
 (hY:∀(w:World) (h:Heap),YP w h->(K w.params).In h)
 (F:∀(w:World) (mg:Str->Option Value) (fa:Addr) (h:Heap),(K w.params).In h->h.Ns Wc mg->mg d.name=some (.ref fa) ->
   ∃fd:VB,(∀(s:Shared) (u:Value),BindsTo s fd ⟨[u],[]⟩ [("_law_script",u)])/\∀base:Heap,(K w.params).In base->base.Ns Wc mg->aK l.prog w (K w.params) mg base dn 11 fa fd ["_law_script"] (A4 (K w.params))) :
 wcz q loose XP YP l.row.toRowW d [] (λf vs=>wcB f vs):=
 L2.Fe (n:=63) (k:=11) (x:="_law_script") (CX:=λ_=>dn) (sp:=λw=>A4 (K w.params)) hn (by decide) Uo ⟨rfl,by decide,by decide⟩ hY F (λ_ _ a ns hl _ hS=>⟨a,ns,rfl,hS,hl,λ_=>rfl⟩) λ_ _ _ _ _ z=>z
theorem OA{K:Frag}{mg:Str->Option Value}{hp:Heap}{f:Addr}{oc:Value}{od an:Option Addr}{CG:Array (Option Value)}{kV doc pm gd ct:Value}(l:ZX)(w:World)(fa:Addr)(Up:mg "law"=some (.ref fa))(X:K.In hp)(G:hp.Ns Wc mg)(L:Lk K mg)(a:nsIn K Wc "law"=some (some (.ref f)):=by k_is)(lk:K.lookup f=some ⟨oc,od,.func (fnOf "law" "law" (cG (top 77)) (bA (top 77)) (ay (top 77)) .none kV doc pm an gd ct),CG⟩:=by k_is)(c:codeIn K gd "law"=true:=by k_is)(k:keepIn K (.ref f)=true:=by k_is) :
 ∃fd:VB,(∀(s:Shared) (v:Value),BindsTo s fd ⟨[v],[]⟩ [("_law_script",v)])/\∀base:Heap,K.In base->base.Ns Wc mg->aK l.prog w K mg base dn 11 fa fd ["_law_script"] (A4 K):=by
 have e:=Up.symm.trans (mg_of X G a);cases e;exact⟨_,λs v=>.of_eq rfl,λbase _ _=>Jf L (CH (st:=top 77) lk c k)⟩
end K35
open PySem PySem.W PyProof.Rows
local macro_rules |`(tactic|o_head $H)=>`(tactic|(refine PySem.W.holds_open (q:=K35.view) (loose:=[]) (Xt:=λs=>PySem.W.xlAt K35.view [] s && PySem.W.recOk (PySem.W.RowW.records (PySem.W.OpenRow.toRowW (PySem.W.OpenLaw.row PySem.Challenge.rw_bandscribe_k35_whole_freer_bands))) s) (XP:=PySem.W.XL K35.view []) (Yf:=PySem.W.Hook.obs $H) (Ya:=PySem.W.Hook.val $H) (YP:=PySem.W.Hook.says $H) (N:=8100) ?hl (PySem.W.Hook.of $H) (PySem.W.Hook.keeps $H) (λs e=>PySem.W.xl_of s (Bool.and_eq_true_iff.mp e).1) PySem.W.XL.keeps (by rfl) (by rfl) (by rfl) (λs e=>PySem.W.recFacts_of (Bool.and_eq_true_iff.mp e).2) (by rfl) (by first |assumption |decide+kernel) (by decide+kernel) ⟨rfl,rfl,rfl,rfl,rfl,by decide+kernel⟩ ?hw ?hc;(case hl=>(intro w;exact K35.whole w))))
set_option maxRecDepth 100000 in
set_option maxHeartbeats 0 in
theorem PySem.Challenge.cw_bandscribe_k35_whole_freer_bands_holds : PySem.Challenge.rw_bandscribe_k35_whole_freer_bands.Holds := by
 w_on;o_law;o_head (PySem.W.kHook K35.pre.heap_39 K35.addrs (λ_=>by kernel_rfl));(case hw=>w_witness2)
 k_fill
 refine K35.walk (l:=PySem.Challenge.rw_bandscribe_k35_whole_freer_bands) rfl rfl (λw h Y=>PySem.W.kIn_of Y) ?F
 case F=>
  intro w mg fa h X G Uq;obtain⟨_,zD⟩:=K35.fK "is_whole" (K35.top 12) ["thing"] X G;obtain⟨_,zE⟩:=K35.fK "all_rows" (K35.top 14) ["band","wide"] X G;obtain⟨_,C5⟩:=K35.fK "is_rate" (K35.top 15) ["band","many","wide"] X G;obtain⟨_,vT⟩:=K35.fK "check_rate" (K35.top 16) ["band","many","wide"] X G;obtain⟨_,tj⟩:=K35.fK "longer_rows" (K35.top 17) ["band","rows"] X G;obtain⟨_,tm⟩:=K35.fK "blocks_from" (K35.top 18) ["band","place","wide"] X G;obtain⟨_,xW⟩:=K35.fK "ends_from" (K35.top 20) ["band","place"] X G;obtain⟨_,zF⟩:=K35.fK "all_ends" (K35.top 21) ["band"] X G;obtain⟨_,si⟩:=K35.fK "counts_up_to" (K35.top 22) ["band","length"] X G;obtain⟨_,vU⟩:=K35.fK "count_from" (K35.top 23) ["band","place","length"] X G;obtain⟨_,Gx⟩:=K35.fK "count" (K35.top 24) ["band","length"] X G;obtain⟨_,vV⟩:=K35.fK "block_ends" (K35.top 26) ["band","wide"] X G;obtain⟨_,xX⟩:=K35.fK "weight_of" (K35.top 27) ["places","weights"] X G;obtain⟨_,C6⟩:=K35.fK "lowered" (K35.top 28) ["ends","many","weights"] X G;obtain⟨_,zG⟩:=K35.fK "greatest" (K35.top 29) ["band","many","wide","most"] X G;obtain⟨_,Ew⟩:=K35.fK "scarce" (K35.top 30) ["band","many","wide","most"] X G;obtain⟨_,sj⟩:=K35.fK "copied_steps" (K35.top 32) ["line"] X G;obtain⟨_,tq⟩:=K35.fK "first_sheet" (K35.top 34) ["band","many","wide","weights"] X G;obtain⟨_,sq⟩:=K35.fK "is_number_of" (K35.top 35) ["number","things"] X G;obtain⟨_,vW⟩:=K35.fK "check_part" (K35.top 36) ["sheet","many","steps","weight"] X G;obtain⟨_,vX⟩:=K35.fK "with_twins" (K35.top 37) ["line","desk","twin"] X G;obtain⟨_,Gy⟩:=K35.fK "split" (K35.top 38) ["sheet","many","desk","numbers","weight"] X G;obtain⟨_,sr⟩:=K35.fK "copied_sheet" (K35.top 43) ["sheet"] X G;obtain⟨_,m9⟩:=K35.fK "check_not_scarce" (K35.top 45) ["band","many","wide"] X G;obtain⟨_,iy⟩:=K35.fK "weights_of_least_most" (K35.top 46) ["band","many","wide"] X G;obtain⟨_,su⟩:=K35.fK "reached_from" (K35.top 47) ["sheet","desk"] X G;obtain⟨_,oF⟩:=K35.fK "closed_weights" (K35.top 48) ["band","many","wide","weights"] X G;obtain⟨_,vY⟩:=K35.fK "steps_into" (K35.top 49) ["line","desks"] X G;obtain⟨_,vZ⟩:=K35.fK "kept_desks" (K35.top 50) ["sheet","many"] X G;obtain⟨_,xY⟩:=K35.fK "step_down" (K35.top 51) ["sheet"] X G;obtain⟨_,Ex⟩:=K35.fK "run_by" (K35.top 52) ["weights","numbers","many"] X G;obtain⟨_,w4⟩:=K35.fK "next_split" (K35.top 53) ["sheet","many"] X G;obtain⟨_,C7⟩:=K35.fK "plan_of" (K35.top 54) ["band","many","wide"] X G;obtain⟨_,xZ⟩:=K35.fK "all_among" (K35.top 57) ["text","signs"] X G;obtain⟨_,y0⟩:=K35.fK "are_signs" (K35.top 58) ["thing"] X G;obtain⟨_,C8⟩:=K35.fK "is_word" (K35.top 59) ["thing","signs"] X G;obtain⟨_,sv⟩:=K35.fK "check_barred" (K35.top 60) ["barred","signs"] X G;obtain⟨_,sx⟩:=K35.fK "bears_barred" (K35.top 61) ["row","barred"] X G;obtain⟨_,pQ⟩:=K35.fK "sorted_places" (K35.top 62) ["barred"] X G;obtain⟨_,tu⟩:=K35.fK "longest_end" (K35.top 63) ["row","places"] X G;obtain⟨_,w5⟩:=K35.fK "moves_from" (K35.top 64) ["place","signs","barred","places"] X G;obtain⟨_,w6⟩:=K35.fK "leads_into" (K35.top 65) ["ends","lot"] X G;obtain⟨_,w9⟩:=K35.fK "live_among" (K35.top 66) ["moves"] X G;obtain⟨_,zH⟩:=K35.fK "_law_nth" (K35.top 69) ["_law_script","_law_k"] X G;obtain⟨_,wc⟩:=K35.fK "_law_mixed" (K35.top 70) ["_law_cell","_law_turn","_law_many"] X G;obtain⟨_,we⟩:=K35.fK "_law_signs" (K35.top 71) ["_law_cell"] X G;obtain⟨_,nK⟩:=K35.fK "_law_words_with" (K35.top 72) ["_law_script","_law_at","_law_signs_here"] X G;obtain⟨_,oG⟩:=K35.fK "_law_free_rate" (K35.top 73) ["_law_cell","_law_signs_here"] X G;obtain⟨_,sy⟩:=K35.fK "_law_no_rate" (K35.top 74) ["_law_cell"] X G;obtain⟨_,wg⟩:=K35.fK "_law_right" (K35.top 75) ["_law_band","_law_many","_law_wide"] X G;obtain⟨_,sA⟩:=K35.fK "_law_refused" (K35.top 76) ["_law_band","_law_pair"] X G;have nL:=K35.Oz "Sheet" X G;have oH:=K35.Oz "Plan" X G;have hZ:=K35.Oz "Band" X G;obtain⟨_,fh⟩:=K35.Gw nL "__init__" "Sheet.__init__" (L2.inClass (K35.top 33) 0) ["self","homes","weights","lines"];obtain⟨_,fL⟩:=K35.Gw oH "__init__" "Plan.__init__" (L2.inClass (K35.top 44) 0) ["self","weights","splits","kept","last"];obtain⟨_,wh⟩:=K35.Gw oH "sheet" "Plan.sheet" (L2.inClass (K35.top 44) 1) ["self"];obtain⟨_,fM⟩:=K35.Gw hZ "__init__" "Band.__init__" (L2.inClass (K35.top 67) 0) ["self","signs","barred"];obtain⟨_,mc⟩:=K35.Gw hZ "check_place" "Band.check_place" (L2.inClass (K35.top 67) 2) ["self","place"];obtain⟨_,nM⟩:=K35.Gw hZ "check_live" "Band.check_live" (L2.inClass (K35.top 67) 3) ["self","place"];obtain⟨_,tD⟩:=K35.Gw hZ "places" "Band.places" (L2.inClass (K35.top 67) 5) ["self"];obtain⟨_,y1⟩:=K35.Gw hZ "live" "Band.live" (L2.inClass (K35.top 67) 6) ["self"];obtain⟨_,zI⟩:=K35.Gw hZ "led" "Band.led" (L2.inClass (K35.top 67) 8) ["self","place","sign"];have B:=K35.Ul X G;have sC:=K35.M3 "NoRate" X G B.2.1;have oI:=K35.M3 "NoSplit" X G B.2.1;have nN:=K35.M3 "Scarce" X G B.2.1;obtain⟨_,nD,nE,Ey,Ez⟩:=K35.Um nN.2.2 "Scarce.__init__" (L2.inClass (K35.top 9) 0) ["self","length","rows"] "__init__";have zJ:=K35.M3 "Open" X G B.2.1;exact K35.OA _ w fa Uq X G {T:=⟨K35.nz X G,K35.nz X G,K35.nz X G,K35.nz X G,K35.nz X G,K35.nz X G,K35.nz X G,K35.nz X G,K35.nz X G,K35.nz X G,K35.nz X G,K35.nz X G,K35.nz X G,K35.nz X G,K35.nz X G,K35.nz X G,K35.nz X G⟩,eX:=zD,iW:=zE,kJ:=C5,bR:=vT,hO:=tj,fk:=tm,jQ:=xW,m3:=zF,eC:=si,iZ:=vU,vK:=Gx,j0:=vV,jT:=xX,ow:=C6,j1:=zG,mS:=Ew,gv:=sj,fm:=tq,eD:=sq,cm:=vW,j2:=vX,mY:=Gy,eE:=sr,c9:=m9,bb:=iy,gy:=su,eZ:=oF,j3:=vY,fQ:=vZ,k8:=xY,rJ:=Ex,j5:=w4,dZ:=C7,gN:=xZ,k9:=y0,oy:=C8,gz:=sv,eF:=sx,fG:=pQ,hU:=tu,j6:=w5,j7:=w6,j9:=w9,f7:=zH,aY:=wc,ja:=we,eG:=nK,f9:=oG,gC:=sy,jc:=wg,gD:=sA,cz:=fh,fI:=fL,fR:=wh,fJ:=fM,bz:=mc,cW:=nM,fo:=tD,cA:=y1,fb:=zI,q8:=nL.g,ao:=⟨nL.c,K35.na,K35.na,K35.na⟩,nB:=⟨nL.mi,fh.m.1,fh.m.2,nL.kp⟩,Ef:=oH.g,cf:=⟨oH.c,K35.na,K35.na,K35.na,K35.na⟩,Aq:=⟨oH.mi,fL.m.1,fL.m.2,oH.kp⟩,Eg:=hZ.g,aH:=⟨hZ.c,K35.na,K35.na,K35.na,K35.na⟩,Ar:=⟨hZ.mi,fM.m.1,fM.m.2,hZ.kp⟩,km:=B.1,XT:=B.2.1,XB:=B.2.2,rP:=sC.1,fC:=sC.2.1,nC:=sC.2.2,uM:=by k_is,fX:=oI.1,fY:=oI.2.1,BO:=oI.2.2,fg:=by k_is,rQ:=nN.1,iu:=nN.2.1,Eh:=nN.2.2,nD:=nD,nE:=nE,uN:=Ey,uO:=Ez,jt:=K35.na,lD:=K35.na,vL:=zJ.1,vM:=zJ.2.1,J1:=zJ.2.2,vN:=by k_is,kn:=⟨_,mg_of X G (by k_is)⟩,kq:=⟨_,mg_of X G (by k_is)⟩,eO:=⟨_,mg_of X G (by k_is)⟩,known:=K35.Uk X G,..}
#print axioms PySem.Challenge.cw_bandscribe_k35_whole_freer_bands_holds
