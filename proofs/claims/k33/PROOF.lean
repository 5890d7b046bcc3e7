import PyProof.Rows.All
import KE.KDictOf
import KE.KIsAll
import KE.KFromBytes
import KE.KDictSum
import KE.KEqDict
import KE.LcSums
import KE.KItem
import Lean
import PyProof.EqAt
import PyProof.EqKinds
import PyProof.TupleCall
import PyProof.Rows.SortStr
import PyProof.StrLawsReplace
import PyProof.StrLawsIdx
import PyProof.StrLawsIn
import PyProof.StrBlockI
import PyProof.StrBlockL
import PyProof.SliceList
import PyProof.InstStoreFacts
import PyProof.NsDelKeeps
import PyProof.StationsW
import PyProof.ExcArgs
import PyProof.ExcBaseAll.ValueError
import PyProof.StrCalls
import PyProof.ListRange
import PyProof.EnumMake
import PyProof.Draws
import PyProof.FactsAll.dict
import PyProof.StrBlock2
import PyProof.Rows.SumAny
import PyProof.NeKinds
import PyProof.Rows.MinMaxN
import PyProof.Rows.Range3
import PyProof.StrLawsFirst
import PyProof.AttrMissHeap
import PyProof.Rows.CallKwBuiltin
import KE.KMinKey
import PySem.Challenge.RW_bandscribe_k33_whole_splits_keep
set_option Elab.async false
set_option linter.all false
set_option maxRecDepth 100000
set_option maxHeartbeats 4000000
namespace Tt
open PySem PySem.W PySem.Calls PyProof.Rows
noncomputable def Eb (tb:String→Option Builtin) (p:Program) (w:World) (n₀:Nat) (ann:Option Value):Nat→SharedT→Thread→Option SharedT
 | 0,_,_=>none
 | n + 1,s,t=>match through t with
   | true=>some s
   | false=>match stepOk n₀ ann t with
     | false=>none
     | true=>match stepT (denote tb) p w s t with
       | some (s',t')=>Eb tb p w n₀ ann n s' t'
       | none=>none
theorem Ec {tb:String→Option Builtin} {p:Program} {w:World} {n₀:Nat} {ann:Option Value}:∀ {n:Nat} {s s':SharedT} {t:Thread},Eb tb p w n₀ ann n s t=some s'→topRun tb p w n₀ ann n s.abs t=some s'.abs
 | 0,_,_,_,h=>by cases h
 | n + 1,s,s',t,h=>by
   unfold Eb at h
   unfold topRun
   cases ht:through t with
   | true=>rw [ht] at h; cases h; rfl
   | false=>
     rw [ht] at h
     cases hk:stepOk n₀ ann t with
     | false=>rw [hk] at h; cases h
     | true=>
       rw [hk] at h
       cases hs:stepT (denote tb) p w s t with
       | none=>rw [hs] at h; cases h
       | some r=>obtain ⟨s₂,t₂⟩:=r; rw [hs] at h; rw [stepT_spec hs]; exact Ec h
noncomputable def sound (p:Program) (h₀:Heap) (s:SharedT):Bool:=staticsOk (importedModules p.main.body) h₀ s.abs.heap && namesBound p s.abs.heap && gensDone s.abs && laidKept h₀ s.abs.heap
theorem GJ {p q:Program} {loose:List Str} {Xt:Shared→Bool} {α:Type} {Yf:Shared→α} {Ya:World→α} {N n m₀:Nat} {life:Params→Life} {g0:Bool} {H₀:Params→Heap} {T₀:Params→BT} {Qg:Array GenState} {d₀:Drawn} {k₀:Nat} {ann:Option Value}
 (MC:∀ w:World,(fencedOpening treeTable p w N).map (fun s=>(s.heap,s.gens,s.drawn,s.toks))=some (H₀ w.params,Qg,d₀,k₀))
 (size:∀ P:Params,((H₀ P).isNs mainGlobals && Qg.size == 0,(H₀ P).objs.size,(H₀ P).nsMap mainGlobals "__annotations__")=(true,m₀,ann))
 (tree:∀ P:Params,absHeap (T₀ P) n (life P)=H₀ P)
 (run:∀ (w:World) (os:OsState),∃ s,Eb treeTable p w m₀ ann N ⟨T₀ w.params,n,life w.params,Qg,d₀,k₀,os⟩ (topStub p)=some s∧sound p (H₀ w.params) s=true∧openSeen q loose (importedModules p.main.body) Xt g0 s.abs=openGood q loose∧Yf s.abs=Ya w):LeftO p q loose Xt Yf Ya N g0:=fun w=>by
 obtain ⟨⟨h,gs,d,k,os⟩,e,e'⟩:=Option.map_eq_some_iff.mp (MC w)
 obtain ⟨rfl,rfl,rfl,rfl⟩:h=H₀ w.params∧gs=Qg∧d=d₀∧k=k₀:=by simpa using e'
 obtain ⟨z1,z2,z3⟩:_∧_∧_:=by simpa only [Prod.mk.injEq] using size w.params
 obtain ⟨s,r,l1,l2,l3⟩:=run w os
 have r:=Ec r
 have ea:(SharedT.mk (T₀ w.params) n (life w.params) gs d k os).abs=⟨H₀ w.params,gs,d,k,os⟩:=by
  unfold SharedT.abs
  rw [tree]
 rw [ea] at r
 have t:topFrom treeTable p w N ⟨H₀ w.params,gs,d,k,os⟩=some s.abs:=by
  unfold topFrom
  dsimp only
  rw [z1,z2,z3,r]
  show (match sound p (H₀ w.params) s with | true=>_ | false=>_)=_
  rw [l1]
 unfold openEnds
 rw [e]
 show (topFrom treeTable p w N _).map _=_
 rw [t]
 exact congrArg some (Prod.ext l2 l3)
theorem JM {S A B C:Type} {o:Option S} {f:S→A} {g:S→B} {h:S→C} {a:A} {b:B} {c:C} (x:o.map f=some a) (y:o.map g=some b) (z:o.map h=some c):∃ s,o=some s∧f s=a∧g s=b∧h s=c:=by
 cases o with
 | none=>cases x
 | some s=>exact ⟨s,rfl,Option.some.inj x,Option.some.inj y,Option.some.inj z⟩
theorem four {S A B C D E F G:Type} {o:Option S} {f:S→A×B×C×D×E×F×G} {a:A×B×C×D×E×F×G} (h1:o.map (fun s=>(f s).1)=some a.1) (h2:o.map (fun s=>((f s).2.1,(f s).2.2.1))=some (a.2.1,a.2.2.1)) (h3:o.map (fun s=>((f s).2.2.2.1,(f s).2.2.2.2.1))=some (a.2.2.2.1,a.2.2.2.2.1)) (h5:o.map (fun s=>(f s).2.2.2.2.2.1)=some a.2.2.2.2.2.1) (h4:o.map (fun s=>(f s).2.2.2.2.2.2)=some a.2.2.2.2.2.2):o.map f=some a:=by
 cases o with
 | none=>cases h1
 | some s=>
   have e1:(f s).1=a.1:=Option.some.inj h1
   have e2:((f s).2.1,(f s).2.2.1)=(a.2.1,a.2.2.1):=Option.some.inj h2
   have e3:((f s).2.2.2.1,(f s).2.2.2.2.1)=(a.2.2.2.1,a.2.2.2.2.1):=Option.some.inj h3
   have e5:(f s).2.2.2.2.2.1=a.2.2.2.2.2.1:=Option.some.inj h5
   have e4:(f s).2.2.2.2.2.2=a.2.2.2.2.2.2:=Option.some.inj h4
   exact congrArg some (Prod.ext e1 (Prod.ext (Prod.mk.inj e2).1 (Prod.ext (Prod.mk.inj e2).2 (Prod.ext (Prod.mk.inj e3).1 (Prod.ext (Prod.mk.inj e3).2 (Prod.ext e5 e4))))))
theorem cut (n:Nat) {o:Option SharedT} {as:List Addr} {v:List (Option Obj)} (h:o.map (fun s=>(as.take n).map s.abs.heap.get?)=some (v.take n)) (h':o.map (fun s=>(as.drop n).map s.abs.heap.get?)=some (v.drop n)):o.map (fun s=>as.map s.abs.heap.get?)=some v:=by
 cases o with
 | none=>cases h
 | some s=>
   have h1:(as.take n).map s.abs.heap.get?=v.take n:=Option.some.inj h
   have h2:(as.drop n).map s.abs.heap.get?=v.drop n:=Option.some.inj h'
   show some (as.map s.abs.heap.get?)=some v
   rw [← List.take_append_drop n as,List.map_append,h1,h2,List.take_append_drop]
end Tt
namespace K33
open PySem PySem.W
noncomputable def tp (i:Nat):Stmt:=PySem.Challenge.pw_bandscribe_k33_whole_splits_keep.main.body.getD i (.Pass ⟨0,0,0,0⟩)
noncomputable def view:PySem.Program:={ PySem.Challenge.pw_bandscribe_k33_whole_splits_keep with main:={ PySem.Challenge.pw_bandscribe_k33_whole_splits_keep.main with body:=[tp 0,tp 2,tp 3,tp 4,tp 5,tp 6,tp 7,tp 8,tp 10,tp 12,tp 13,tp 14,tp 15,tp 16,tp 18,tp 19,tp 20,tp 21,tp 22,tp 23,tp 24,tp 26,tp 27,tp 28,tp 29,tp 30,tp 31,tp 32,tp 33,tp 34,tp 35,tp 36,tp 37,tp 39,tp 40,tp 41,tp 42,tp 44,tp 45,tp 46,tp 47,tp 48,tp 49,tp 50,tp 51,tp 52,tp 53,tp 54,tp 55] } }
noncomputable def tree0 (P:Params):BT:=(.node (boot_o_0 P) (.node (boot_o_1 P) (.node (boot_o_3 P) (.node (boot_o_7 P) .nil .nil) .nil) (.node (boot_o_5 P) (.node (boot_o_9 P) .nil .nil) .nil)) (.node (boot_o_2 P) (.node (boot_o_4 P) (.node (boot_o_8 P) .nil .nil) .nil) (.node (boot_o_6 P) (.node (boot_o_10 P) .nil .nil) .nil)))
noncomputable def run (w:World) (os:OsState):Option SharedT:=(Tt.Eb treeTable PySem.Challenge.pw_bandscribe_k33_whole_splits_keep w 11 (some (PySem.Value.ref 6)) 8100 ⟨tree0 w.params,11,(boot_heap w.params).life,Array.mk [],boot_drawn,boot_toks,os⟩ (topStub PySem.Challenge.pw_bandscribe_k33_whole_splits_keep))
noncomputable def lhsS (w:World) (os:OsState):=(run w os).map (fun s=>Tt.sound PySem.Challenge.pw_bandscribe_k33_whole_splits_keep (boot_heap w.params) s)
noncomputable def lhsA1 (w:World) (os:OsState):=(run w os).map (fun s=>(openSeen view [] (importedModules PySem.Challenge.pw_bandscribe_k33_whole_splits_keep.main.body) (fun s=>PySem.W.xlAt view [] s && PySem.W.recOk (PySem.W.RowW.records (PySem.W.OpenRow.toRowW (PySem.W.OpenLaw.row PySem.Challenge.rw_bandscribe_k33_whole_splits_keep))) s) true s.abs).1)
noncomputable def lhsA2 (w:World) (os:OsState):=(run w os).map (fun s=>((openSeen view [] (importedModules PySem.Challenge.pw_bandscribe_k33_whole_splits_keep.main.body) (fun s=>PySem.W.xlAt view [] s && PySem.W.recOk (PySem.W.RowW.records (PySem.W.OpenRow.toRowW (PySem.W.OpenLaw.row PySem.Challenge.rw_bandscribe_k33_whole_splits_keep))) s) true s.abs).2.1,(openSeen view [] (importedModules PySem.Challenge.pw_bandscribe_k33_whole_splits_keep.main.body) (fun s=>PySem.W.xlAt view [] s && PySem.W.recOk (PySem.W.RowW.records (PySem.W.OpenRow.toRowW (PySem.W.OpenLaw.row PySem.Challenge.rw_bandscribe_k33_whole_splits_keep))) s) true s.abs).2.2.1))
noncomputable def lhsA3 (w:World) (os:OsState):=(run w os).map (fun s=>((openSeen view [] (importedModules PySem.Challenge.pw_bandscribe_k33_whole_splits_keep.main.body) (fun s=>PySem.W.xlAt view [] s && PySem.W.recOk (PySem.W.RowW.records (PySem.W.OpenRow.toRowW (PySem.W.OpenLaw.row PySem.Challenge.rw_bandscribe_k33_whole_splits_keep))) s) true s.abs).2.2.2.1,(openSeen view [] (importedModules PySem.Challenge.pw_bandscribe_k33_whole_splits_keep.main.body) (fun s=>PySem.W.xlAt view [] s && PySem.W.recOk (PySem.W.RowW.records (PySem.W.OpenRow.toRowW (PySem.W.OpenLaw.row PySem.Challenge.rw_bandscribe_k33_whole_splits_keep))) s) true s.abs).2.2.2.2.1))
noncomputable def lhsA5 (w:World) (os:OsState):=(run w os).map (fun s=>(openSeen view [] (importedModules PySem.Challenge.pw_bandscribe_k33_whole_splits_keep.main.body) (fun s=>PySem.W.xlAt view [] s && PySem.W.recOk (PySem.W.RowW.records (PySem.W.OpenRow.toRowW (PySem.W.OpenLaw.row PySem.Challenge.rw_bandscribe_k33_whole_splits_keep))) s) true s.abs).2.2.2.2.2.1)
noncomputable def lhsA4 (w:World) (os:OsState):=(run w os).map (fun s=>(openSeen view [] (importedModules PySem.Challenge.pw_bandscribe_k33_whole_splits_keep.main.body) (fun s=>PySem.W.xlAt view [] s && PySem.W.recOk (PySem.W.RowW.records (PySem.W.OpenRow.toRowW (PySem.W.OpenLaw.row PySem.Challenge.rw_bandscribe_k33_whole_splits_keep))) s) true s.abs).2.2.2.2.2.2)
noncomputable def lhsB (as:List Addr) (w:World) (os:OsState):=(run w os).map (fun s=>as.map s.abs.heap.get?)
end K33
lay_quick K33.lhsS K33.lhsA1 K33.lhsA2 K33.lhsA3 K33.lhsA4 K33.lhsA5 K33.lhsB
section
open PySem PySem.W PyProof.Rows
local macro_rules | `(tactic| o_head $H)=>`(tactic| (refine PySem.W.holds_open (q:=K33.view) (loose:=[]) (Xt:=fun s=>PySem.W.xlAt K33.view [] s && PySem.W.recOk (PySem.W.RowW.records (PySem.W.OpenRow.toRowW (PySem.W.OpenLaw.row PySem.Challenge.rw_bandscribe_k33_whole_splits_keep))) s) (XP:=PySem.W.XL K33.view []) (Yf:=PySem.W.Hook.obs $H) (Ya:=PySem.W.Hook.val $H) (YP:=PySem.W.Hook.says $H) (N:=8100) ?hl (PySem.W.Hook.of $H) (PySem.W.Hook.keeps $H) (fun s e=>PySem.W.xl_of s (Bool.and_eq_true_iff.mp e).1) PySem.W.XL.keeps (by rfl) (by rfl) (by rfl) (fun s e=>PySem.W.recFacts_of (Bool.and_eq_true_iff.mp e).2) (by rfl) (by first | assumption | decide +kernel) (by decide +kernel) ⟨rfl,rfl,rfl,rfl,rfl,by decide +kernel⟩ ?hw ?hc; (case hl=>(intro w; contradiction))))
theorem K33.pre (h:False):(PySem.Challenge.rw_bandscribe_k33_whole_splits_keep).Holds:=by
 w_on; o_law; k_head
 all_goals contradiction
end
namespace K33
open PySem PySem.W
noncomputable def addrs:List Addr:=[2,3,15,17,18,20,21,22,29,30,31,32,35,42,43,44,47,54,56,57,59,60,61,62,63,66,73,75,76,78,79,80,81,82,85,92,94,95,97,98,99,100,101,104,111,112,113,116,123,124,125,128,130,131,133,134,135,137,138,140,141,142,144,145,147,148,149,151,152,154,155,156,158,159,161,162,163,166,167,168,171,172,180,183,184,185,186,187,188,189,192,195,196,197,199,200,202,203,204,207,208,209,211,212,214,215,216,219,220,221,224,225,226,228,229,231,232,233,235,236,238,239,240,242,243,245,246,247,250,251,252,254,255,257,258,259,261,262,264,265,266,268,269,271,272,273,276,277,278,281,282,290,292,293,295,296,297,299,300,302,303,304,306,307,309,310,311,313,314,316,317,318,320,321,323,324,325,327,328,330,331,332,334,335,337,338,339,341,342,344,345,346,348,349,351,352,353,355,356,358,359,360,361,362,363,364,367,370,371,372,375,376,377,379,380,382,383,384,386,387,389,390,391,393,394,396,397,398,400,401,403,404,405,408,409,410,413,414,415,417,418,420,421,422,424,425,427,428,429,431,432,434,435,436,438,439,441,442,443,445,446,448,449,450,452,453,455,456,457,460,461,462,465,466]
open PyProof.Rows in
theorem pS (w:World) (os:OsState):lhsS w os=some true:=Eq.trans (congrFun (congrFun PySem.W.Fast.te1523819636802118534 w) os) (by kernel_rfl)
open PyProof.Rows in
theorem XF (w:World) (os:OsState):lhsA5 w os=some (plainGoodE view (looseW view [])):=Eq.trans (congrFun (congrFun PySem.W.Fast.te15568440927433394195 w) os) (by kernel_rfl)
open PyProof.Rows in
theorem XG (w:World) (os:OsState):lhsA3 w os=some (true,pinGoodD (drecsOf view)):=Eq.trans (congrFun (congrFun PySem.W.Fast.te4028420623531798817 w) os) (by kernel_rfl)
open PyProof.Rows in
theorem XH (w:World) (os:OsState):lhsA4 w os=some (plainGoodD view [],wideGood view,clsGoodW view []):=Eq.trans (congrFun (congrFun PySem.W.Fast.te11377182394321497204 w) os) (by kernel_rfl)
open PyProof.Rows in
theorem XI (w:World) (os:OsState):lhsA1 w os=some (expectedOf view):=Eq.trans (congrFun (congrFun PySem.W.Fast.te2228692550239777383 w) os) (by kernel_rfl)
open PyProof.Rows in
theorem XJ (w:World) (os:OsState):lhsA2 w os=some (bltViewBooted,true):=Eq.trans (congrFun (congrFun PySem.W.Fast.te15255315966605997427 w) os) (by kernel_rfl)
theorem XM (w:World) (os:OsState):lhsB (K33.addrs.take 160) w os=some (((K33.pre.heap_39 w.params).map fun p=>some p.2).take 160):=Eq.trans (congrFun (congrFun (congrFun PySem.W.Fast.te9757599842689485053 _) w) os) (by kernel_rfl)
theorem XO (w:World) (os:OsState):lhsB (K33.addrs.drop 160) w os=some (((K33.pre.heap_39 w.params).map fun p=>some p.2).drop 160):=Eq.trans (congrFun (congrFun (congrFun PySem.W.Fast.te9757599842689485053 _) w) os) (by kernel_rfl)
theorem op:opening PySem.Challenge.pw_bandscribe_k33_whole_splits_keep=plainProg PySem.Challenge.pw_bandscribe_k33_whole_splits_keep.main.scope.names:=by kernel_rfl
theorem fe (s:Shared):fenceModules? PySem.Challenge.pw_bandscribe_k33_whole_splits_keep s=some s:=by kernel_rfl
theorem tr (P:Params):absHeap (tree0 P) 11 (boot_heap P).life=boot_heap P:=by kernel_rfl
theorem sz (P:Params):((boot_heap P).isNs mainGlobals && (Array.mk []:Array GenState).size == 0,(boot_heap P).objs.size,(boot_heap P).nsMap mainGlobals "__annotations__")=(true,11,(some (PySem.Value.ref 6))):=by kernel_rfl
theorem whole:LeftO PySem.Challenge.pw_bandscribe_k33_whole_splits_keep view [] (fun s=>PySem.W.xlAt view [] s && PySem.W.recOk (PySem.W.RowW.records (PySem.W.OpenRow.toRowW (PySem.W.OpenLaw.row PySem.Challenge.rw_bandscribe_k33_whole_splits_keep))) s) (fun s=>K33.addrs.map s.heap.get?) (fun w=>((K33.pre.heap_39 w.params).map fun p=>some p.2)) 8100:=Tt.GJ (H₀:=boot_heap) (T₀:=tree0) (life:=fun P=>(boot_heap P).life) (boot_open op (by decide +kernel) fe) sz tr fun w os=>Tt.JM (o:=run w os) (f:=fun s=>Tt.sound PySem.Challenge.pw_bandscribe_k33_whole_splits_keep (boot_heap w.params) s) (g:=fun s=>openSeen view [] (importedModules PySem.Challenge.pw_bandscribe_k33_whole_splits_keep.main.body) (fun s=>PySem.W.xlAt view [] s && PySem.W.recOk (PySem.W.RowW.records (PySem.W.OpenRow.toRowW (PySem.W.OpenLaw.row PySem.Challenge.rw_bandscribe_k33_whole_splits_keep))) s) true s.abs) (h:=fun s=>K33.addrs.map s.abs.heap.get?) (pS w os) (Tt.four (o:=run w os) (f:=fun s=>openSeen view [] (importedModules PySem.Challenge.pw_bandscribe_k33_whole_splits_keep.main.body) (fun s=>PySem.W.xlAt view [] s && PySem.W.recOk (PySem.W.RowW.records (PySem.W.OpenRow.toRowW (PySem.W.OpenLaw.row PySem.Challenge.rw_bandscribe_k33_whole_splits_keep))) s) true s.abs) (a:=openGood view []) (XI w os) (XJ w os) (XG w os) (XF w os) (XH w os)) (Tt.cut (o:=run w os) 160 (XM w os) (XO w os))
end K33
namespace L2
open PySem PySem.Spec PyProof.Rows
noncomputable abbrev Key:=Sum Int Str
noncomputable def tU:Key→Value→Bool
 | .inl k,v=>Value.isInt k v
 | .inr x,v=>Value.isStrOf x v
noncomputable def RA (w:World):Key→Int
 | .inl k=>hashInt k
 | .inr x=>hashStr w x
theorem bU:∀ {k:Key} {v:Value},tU k v=true→(∃ i t,k=Sum.inl i∧v=Value.int i t)∨(∃ x t,k=Sum.inr x∧v=Value.str x t)
 | .inl i,v,h=>by
   obtain ⟨t,e⟩:=Value.isInt_shape (k:=i) (v:=v) h
   exact .inl ⟨i,t,rfl,e⟩
 | .inr x,v,h=>by
   obtain ⟨t,e⟩:=Value.isStrOf_shape (x:=x) (v:=v) h
   exact .inr ⟨x,t,rfl,e⟩
theorem Cq (i:Int) (t:Tok):tU (.inl i) (.int i t)=true:=by simp [tU,Value.isInt]
theorem Cr (x:Str) (t:Tok):tU (.inr x) (.str x t)=true:=by simp [tU,Value.isStrOf]
theorem JN (a b:Int):decide ((Sum.inl a:Key)=Sum.inl b)=(a == b):=by
 by_cases e:a=b
 ·subst e; simp
 ·have h:¬ (Sum.inl a:Key)=Sum.inl b:=fun q=>e (Sum.inl.inj q)
  rw [decide_eq_false h]
  exact (beq_eq_false_iff_ne.mpr e).symm
theorem JO (a b:Str):decide ((Sum.inr a:Key)=Sum.inr b)=decide (a=b):=by
 by_cases e:a=b
 ·subst e; simp
 ·have h:¬ (Sum.inr a:Key)=Sum.inr b:=fun q=>e (Sum.inr.inj q)
  rw [decide_eq_false h,decide_eq_false e]
theorem JP (a:Int) (b:Str):decide ((Sum.inl a:Key)=Sum.inr b)=false:=decide_eq_false (fun q=>nomatch q)
theorem JQ (a:Str) (b:Int):decide ((Sum.inr a:Key)=Sum.inl b)=false:=decide_eq_false (fun q=>nomatch q)
noncomputable def bq (prog:Program) (w:World):PySem.KeyKind prog w Key where
 is:=tU
 hash:=RA w
 inj:=fun v a b ha hb=>by
  rcases bU ha with ⟨i,t,rfl,rfl⟩ | ⟨x,t,rfl,rfl⟩
  ·rcases bU hb with ⟨j,u,rfl,e⟩ | ⟨y,u,rfl,e⟩
   ·injection e with e1 _; rw [e1]
   ·exact nomatch e
  ·rcases bU hb with ⟨j,u,rfl,e⟩ | ⟨y,u,rfl,e⟩
   ·exact nomatch e
   ·injection e with e1 _; rw [e1]
 byValue:=fun k v h=>by
   rcases bU h with ⟨i,t,rfl,rfl⟩ | ⟨x,t,rfl,rfl⟩ <;> rfl
 pyHash:=fun hv h=>by
  rcases bU hv with ⟨i,t,rfl,rfl⟩ | ⟨x,t,rfl,rfl⟩
  ·exact wpAny_pyHash_int h
  ·exact wpAny_pyHash_str h
 eqBool:=fun hu hv h=>by
  rcases bU hu with ⟨i,t,rfl,rfl⟩ | ⟨x,t,rfl,rfl⟩
  ·rcases bU hv with ⟨j,u,rfl,rfl⟩ | ⟨y,u,rfl,rfl⟩
   ·rw [JN] at h; exact wpAny_eqBool_int h
   ·rw [JP] at h; exact SeqAt.EqAt.int_str i t y u _ _ _ _ h
  ·rcases bU hv with ⟨j,u,rfl,rfl⟩ | ⟨y,u,rfl,rfl⟩
   ·rw [JQ] at h; exact SeqAt.EqAt.str_int x t j u _ _ _ _ h
   ·rw [JO] at h; exact wpAny_eqBool_str h
 «strs»:=fun k x t v h=>by
  rcases bU h with ⟨i,u,rfl,e⟩ | ⟨y,u,rfl,e⟩
  ·exact nomatch e
  ·injection e with e1 _
   subst e1
   cases v <;> rfl
theorem xA (prog:Program) (w:World) (i:Int) (t:Tok):(bq prog w).is (.inl i) (.int i t)=true:=Cq i t
theorem xB (prog:Program) (w:World) (x:Str) (t:Tok):(bq prog w).is (.inr x) (.str x t)=true:=Cr x t
end L2
namespace L2
open PySem PySem.Spec PyProof.Rows
inductive V where
 | non | bl (b:Bool) | int (i:Int) | str (x:Str) | byt (b:Array UInt8) | flt (b:UInt64) | ref (a:Addr) | ty (n:String)
 deriving DecidableEq
noncomputable def RelV:V→Value→Prop
 | .non,u=>u=Value.none
 | .bl b,u=>u=Value.bool b
 | .int i,u=>∃ t,u=Value.int i t
 | .str x,u=>∃ t,u=Value.str x t
 | .byt b,u=>∃ t,u=Value.bytes b t
 | .flt b,u=>∃ t,u=Value.float b t
 | .ref a,u=>u=Value.ref a
 | .ty n,u=>u=Value.type n
noncomputable abbrev Vals:List V→List Value→Prop:=Paired RelV
theorem Vals.length {xs:List V} {us:List Value} (r:Vals xs us):xs.length=us.length:=Paired.length r
theorem Vals.get:∀ {xs:List V} {us:List Value} {i:Nat} {x:V},Vals xs us→xs[i]?=some x→∃ u,us[i]?=some u∧RelV x u
 | _,_,_,_,.nil,e=>by simp at e
 | _,_,0,_,.cons r _,e=>by simp at e; subst e; exact ⟨_,rfl,r⟩
 | _,_,i + 1,x,.cons _ t,e=>by
   obtain ⟨u,h1,h2⟩:=Vals.get (i:=i) (x:=x) t (by simpa using e)
   exact ⟨u,by simpa using h1,h2⟩
theorem Vals.set {x:V} {u:Value} (r:RelV x u):∀ {xs:List V} {us:List Value} (i:Nat),Vals xs us→Vals (xs.set i x) (us.set i u)
 | _,_,_,.nil=>.nil
 | _,_,0,.cons _ t=>.cons r t
 | _,_,i + 1,.cons q t=>.cons q (Vals.set r i t)
theorem Vals.append:∀ {xs ys:List V} {us ws:List Value},Vals xs us→Vals ys ws→Vals (xs++ys) (us++ws)
 | _,_,_,_,.nil,s=>s
 | _,_,_,_,.cons r t,s=>.cons r (Vals.append t s)
theorem Vals.take:∀ {xs:List V} {us:List Value} (n:Nat),Vals xs us→Vals (xs.take n) (us.take n)
 | _,_,0,_=>.nil
 | _,_,_ + 1,.nil=>.nil
 | _,_,n + 1,.cons r t=>.cons r (Vals.take n t)
theorem Vals.drop:∀ {xs:List V} {us:List Value} (n:Nat),Vals xs us→Vals (xs.drop n) (us.drop n)
 | _,_,0,r=>r
 | _,_,_ + 1,.nil=>.nil
 | _,_,n + 1,.cons _ t=>Vals.drop n t
theorem Vals.none_of:∀ {xs:List V} {us:List Value} {i:Nat},Vals xs us→xs[i]?=none→us[i]?=none:=fun {xs us i} r e=>by
 have h1:=r.length
 have h2:xs.length≤i:=List.getElem?_eq_none_iff.mp e
 exact List.getElem?_eq_none_iff.mpr (by omega)
noncomputable def kC:Option V→Option Value→Prop
 | some v,some u=>RelV v u
 | none,none=>True
 | _,_=>False
noncomputable def KV {κ:Type}:List (κ×V)→List (κ×Value)→Prop:=Paired fun (p:κ×V) (q:κ×Value)=>p.1=q.1∧RelV p.2 q.2
noncomputable def kV:Key→V
 | .inl i=>.int i
 | .inr x=>.str x
inductive HO where
 | lst (xs:List V)
 | tup (xs:List V)
 | dK (kvs:List (Key×V)) | dT (kvs:List (List Key×V))
 | set (S:Int→Bool) (n:Nat)
 | ins (C dx:Addr) (fs:List (Str×V))
 | own (x:Addr)
 | xd (fs:List (Str×V))
 | met (f x:Addr)
 | rng (lo hi:Int)
 | frz (o:Obj) (u:HO)
 | tbl (ps:Array Value)
 | ext (φ:Heap→Prop)
noncomputable abbrev Hp:=Addr→Option HO
noncomputable def upd (H:Hp) (a:Addr) (o:HO):Hp:=fun b=>if b=a then some o else H b
theorem a9 {H:Hp} {a:Addr} {o:HO}:upd H a o a=some o:=by unfold upd; rw [if_pos rfl]
theorem ai {H:Hp} {a b:Addr} {o:HO} (h:b≠a):upd H a o b=H b:=by unfold upd; rw [if_neg h]
theorem BK {H:Hp} {a:Addr} {o u:HO}:upd (upd H a o) a u=upd H a u:=by
 funext b; unfold upd; split <;> rfl
theorem MD {H:Hp} {a b:Addr} {o u:HO} (h:H a=some o) (h':H b=some u) (d:o≠u):a≠b:=by
 intro e; subst e; rw [h] at h'; exact d (Option.some.inj h')
theorem aj {H:Hp} {a b:Addr} {o:HO} (h:H a=some o) (h':H b=none):a≠b:=by
 intro e; subst e; rw [h] at h'; cases h'
section
variable (P:Program) (w:World)
noncomputable def cf (H:Hp) (h:Heap) (a:Addr):HO→Prop
 | .lst xs=>xs.length≤sizeLine∧∃ (its:List Value) (n:Nat),Vals xs its∧h.get? a=some { cls:=.type "list",data:=.seq its.toArray n }
 | .tup xs=>xs.length≤sizeLine∧∃ its:List Value,Vals xs its∧IsTup h a its.toArray
 | .dK kvs=>kvs.length≤sizeLine∧(a == sysModules)=false∧∃ vs,KV kvs vs∧h.DictOf (bq P w) a vs
 | .dT kvs=>kvs.length≤sizeLine∧(a == sysModules)=false∧∃ xs:List (List Key×Addr×Value),
    Paired (fun (p:List Key×V) (q:List Key×Addr×Value)=>p.1=q.1∧H q.2.1=some (.tup (p.1.map kV))∧RelV p.2 q.2.2) kvs xs ∧
    ∃ o es ep,h.get? a=some o∧o.ExactDict∧o.data=.dict es ep∧es.toList=xs.map (entryOfKey (tupleKind (bq P w)))∧(xs.map (·.1)).Nodup
 | .set S n=>h.SetOf (intKind P w) a S n
 | .ins C dx fs=>H dx=some (.own a)∧fs.length≤1000∧dx≠a∧h.get? a=some (PySem.W.instObj C dx) ∧
    ∃ mA,h.Ns1 dx mA∧(∀ f,kC (fs.lookup f) (mA f))∧PySem.Within mA (fs.map (·.1))
 | .own _=>∃ o,h.get? a=some o
 | .xd fs=>∃ mA,h.Ns1 a mA∧∀ f,kC (fs.lookup f) (mA f)
 | .rng lo hi=>∃ t u v,h.get? a=some { cls:=.type "range",data:=.fields #[.int lo t,.int hi u,.int 1 v] }
 | .frz o u=>h.get? a=some o∧cf H h a u
 | .tbl ps=>h.get? a=some { cls:=.none,data:=.fields ps }
 | .met f x=>h.get? a=some (PySem.W.methodObj (.ref f) (.ref x))
 | .ext φ=>φ h∧(∃ o,h.get? a=some o)∧∀ h1 h2:Heap,φ h1→(∀ o,h1.get? a=some o→h2.get? a=some o)→φ h2
noncomputable def kI (H:Hp) (h:Heap):Prop:=∀ a o,H a=some o→cf P w H h a o
end
section
variable {P:Program} {w:World} {H H':Hp} {h h':Heap} {a:Addr} {o:HO}
theorem cf.lt (x:cf P w H h a o):a < h.objs.size:=by
 cases o with
 | lst xs=>obtain ⟨_,_,_,_,e⟩:=x; exact Heap.lt_size e
 | tup xs=>obtain ⟨_,_,_,p⟩:=x; exact p.lt
 | dK kvs=>obtain ⟨_,_,_,_,o,_,_,e,_⟩:=x; exact Heap.lt_size e
 | dT kvs=>obtain ⟨_,_,_,_,o,_,_,e,_⟩:=x; exact Heap.lt_size e
 | set S n=>obtain ⟨o,_,_,_,e,_⟩:=x; exact Heap.lt_size e
 | ins C dx fs=>obtain ⟨_,_,_,e,_⟩:=x; exact Heap.lt_size e
 | own y=>obtain ⟨_,e⟩:=x; exact Heap.lt_size e
 | xd fs=>obtain ⟨_,⟨_,_,_,e,_⟩,_⟩:=x; exact Heap.lt_size e
 | rng lo hi=>obtain ⟨_,_,_,e⟩:=x; exact Heap.lt_size e
 | frz ob u=>obtain ⟨e,_⟩:=x; exact Heap.lt_size e
 | tbl ps=>exact Heap.lt_size (show h.get? a=some _ from x)
 | met f y=>exact Heap.lt_size (show h.get? a=some _ from x)
 | ext φ=>obtain ⟨_,⟨_,e⟩,_⟩:=x; exact Heap.lt_size e
theorem Paired.JR {α β:Type} {F G:α→β→Prop}:∀ {l₁:List α} {l₂:List β},Paired F l₁ l₂→(∀ a b,F a b→G a b)→Paired G l₁ l₂
 | _,_,.nil,_=>.nil
 | _,_,.cons r t,f=>.cons (f _ _ r) (Paired.JR t f)
theorem cf.xC (x:cf P w H h a o) (k:∀ b u,(b=a∨H b=some (.own a))→h.get? b=some u→h'.get? b=some u)
 (ho:∀ b,H b=some (.own a)→H' b=some (.own a)) (ht:∀ b xs,H b=some (.tup xs)→H' b=some (.tup xs)):cf P w H' h' a o:=by
 induction o with
 | lst xs=>obtain ⟨z,its,n,r,e⟩:=x; exact ⟨z,its,n,r,k _ _ (.inl rfl) e⟩
 | tup xs=>obtain ⟨z,its,r,ob,e,c⟩:=x; exact ⟨z,its,r,ob,k _ _ (.inl rfl) e,c⟩
 | dK kvs=>obtain ⟨z,y,vs,r,ob,es,ep,e,c⟩:=x; exact ⟨z,y,vs,r,ob,es,ep,k _ _ (.inl rfl) e,c⟩
 | dT kvs=>
   obtain ⟨z,y,xs,r,ob,es,ep,e,c⟩:=x
   exact ⟨z,y,xs,Paired.JR r fun p q z=>⟨z.1,ht _ _ z.2.1,z.2.2⟩,ob,es,ep,k _ _ (.inl rfl) e,c⟩
 | set S n=>obtain ⟨ob,es,ep,t,e,c⟩:=x; exact ⟨ob,es,ep,t,k _ _ (.inl rfl) e,c⟩
 | ins C dx fs=>
   obtain ⟨d,z,ne,e,mA,⟨od,es,ep,e2,c⟩,r⟩:=x
   exact ⟨ho _ d,z,ne,k _ _ (.inl rfl) e,mA,⟨od,es,ep,k _ _ (.inr d) e2,c⟩,r⟩
 | own y=>obtain ⟨ob,e⟩:=x; exact ⟨ob,k _ _ (.inl rfl) e⟩
 | xd fs=>obtain ⟨mA,⟨od,es,ep,e,c⟩,r⟩:=x; exact ⟨mA,⟨od,es,ep,k _ _ (.inl rfl) e,c⟩,r⟩
 | rng lo hi=>obtain ⟨t,u,v,e⟩:=x; exact ⟨t,u,v,k _ _ (.inl rfl) e⟩
 | frz ob u ih=>obtain ⟨e,q⟩:=x; exact ⟨k _ _ (.inl rfl) e,ih q⟩
 | tbl ps=>
   have e:h.get? a=some { cls:=.none,data:=.fields ps }:=x
   show h'.get? a=some { cls:=.none,data:=.fields ps }
   exact k a _ (.inl rfl) e
 | met f y=>
   have e:h.get? a=some (PySem.W.methodObj (.ref f) (.ref y)):=x
   show h'.get? a=some (PySem.W.methodObj (.ref f) (.ref y))
   exact k a _ (.inl rfl) e
 | ext φ=>obtain ⟨p,⟨o,e⟩,st⟩:=x; exact ⟨st _ _ p fun o q=>k _ _ (.inl rfl) q,⟨o,k _ _ (.inl rfl) e⟩,st⟩
theorem kI.lt (x:kI P w H h) (e:H a=some o):a < h.objs.size:=(x a o e).lt
theorem kI.fresh (x:kI P w H h) (e:h.objs.size≤a):H a=none:=by
 cases q:H a with
 | none=>rfl
 | some u=>exact absurd (Nat.lt_of_lt_of_le (x.lt q) e) (Nat.lt_irrefl _)
theorem kI.kept (x:kI P w H h) (k:∀ b u,h.get? b=some u→h'.get? b=some u):kI P w H h':=fun a o e=>
 (x a o e).xC (fun b u _ q=>k b u q) (fun _ q=>q) fun _ _ q=>q
theorem kI.laid (x:kI P w H h) (k:∀ b u,h.get? b=some u→h'.get? b=some u) (hp:h.objs.size≤a) (new:cf P w (upd H a o) h' a o):kI P w (upd H a o) h':=fun b u e=>by
 have hn:=x.fresh hp
 by_cases hb:b=a
 ·subst hb; rw [a9] at e; cases e; exact new
 ·rw [ai hb] at e
  exact (x b u e).xC (fun c v _ q=>k c v q) (fun c q=>by rw [ai (aj q hn)]; exact q) fun c xs q=>by rw [ai (aj q hn)]; exact q
end
noncomputable def Rd (H:Hp) (a:Addr) (u:HO):Prop:=H a=some u∨∃ o,H a=some (.frz o u)
theorem Rd.of {H:Hp} {a:Addr} {u:HO} (h:H a=some u):Rd H a u:=.inl h
theorem Rd.ok {P:Program} {w:World} {H:Hp} {h:Heap} {a:Addr} {u:HO} (r:Rd H a u) (x:kI P w H h):cf P w H h a u:=by
 rcases r with r | ⟨o,r⟩
 ·exact x a u r
 ·obtain ⟨_,q⟩:=x a _ r
  exact q
noncomputable def ME:Option HO→Prop
 | some (.lst _)=>True
 | some (.dK _)=>True
 | some (.dT _)=>True
 | some (.set _ _)=>True
 | some (.ins _ _ _)=>True
 | some (.ext _)=>True
 | _=>False
section
variable {P:Program} {w:World} {H:Hp} {h h':Heap} {x e:Addr} {o':HO}
theorem kI.write (ok:kI P w H h) (mu:ME (H x)) (he:e=x∨H e=some (.own x)) (k:∀ b u,b≠e→h.get? b=some u→h'.get? b=some u) (LO:∃ u,h'.get? e=some u)
 (new:cf P w (upd H x o') h' x o'):kI P w (upd H x o') h':=fun b u q=>by
 have MF:∀ c y,H c=some (.own y)→c≠x:=fun c y r z=>by subst z; rw [r] at mu; exact mu
 have RB:∀ c xs,H c=some (.tup xs)→c≠x:=fun c xs r z=>by subst z; rw [r] at mu; exact mu
 by_cases hb:b=x
 ·subst hb; rw [a9] at q; cases q; exact new
 ·rw [ai hb] at q
  by_cases GK:b=e
  ·have q':H b=some (.own x):=by
    rcases he with z | z
    ·exact absurd (GK.trans z) hb
    ·rw [GK]; exact z
   rw [q] at q'; cases q'
   obtain ⟨v,hv⟩:=LO
   exact ⟨v,by rw [GK]; exact hv⟩
  ·refine (ok b u q).xC (fun c v hc r=>k c v ?_ r) (fun c r=>by rw [ai (MF c b r)]; exact r) fun c xs r=>by rw [ai (RB c xs r)]; exact r
   rcases hc with rfl | hc
   ·exact GK
   ·rintro rfl
    rcases he with z | z
    ·exact MF c b hc z
    ·rw [hc] at z; cases z; exact hb rfl
end
set_option genInjectivity false in
set_option genSizeOfSpec false in
structure Un (fs ex:List Addr) (H H':Hp) (h h':Heap):Prop where
 keep:∀ b o,h.get? b=some o→H b=none→b∉fs→b∉ex→h'.get? b=some o
 slot:∀ b o,h.get? b=some o→H b=none→b∈fs→b∉ex→∃ sl,h'.get? b=some { o with slots:=sl }
 free:∀ b o,h.get? b=some o→H b=none→b∉ex→H' b=none
 there:∀ b o,h.get? b=some o→b∉ex→∃ o',h'.get? b=some o'
 mn:∀ b xs,H b=some (.tup xs)→H' b=some (.tup xs)
 lV:∀ b o u,H b=some (.frz o u)→H' b=some (.frz o u)
 mq:∀ b ps,H b=some (.tbl ps)→∃ more,H' b=some (.tbl (ps++more))
section
variable {fs JS ex Vi:List Addr} {H H1 H2:Hp} {h h1 h2 h':Heap} {a x e:Addr} {o:HO}
theorem Un.any (u:Un fs ex H H1 h h1) {b:Addr} {ob:Obj} (q:h.get? b=some ob) (n:H b=none) (hx:b∉ex):∃ sl,h1.get? b=some { ob with slots:=sl }:=by
 by_cases hb:b∈fs
 ·exact u.slot b ob q n hb hx
 ·exact ⟨ob.slots,u.keep b ob q n hb hx⟩
theorem Un.trans (a:Un fs ex H H1 h h1) (b:Un fs ex H1 H2 h1 h2):Un fs ex H H2 h h2 where
 keep:=fun c ob q n hc hx=>b.keep c ob (a.keep c ob q n hc hx) (a.free c ob q n hx) hc hx
 slot:=fun c ob q n hc hx=>by
  obtain ⟨sl,e1⟩:=a.slot c ob q n hc hx
  obtain ⟨MG,e2⟩:=b.slot c _ e1 (a.free c ob q n hx) hc hx
  exact ⟨MG,e2⟩
 free:=fun c ob q n hx=>by
  obtain ⟨o',e1⟩:=a.there c ob q hx
  exact b.free c o' e1 (a.free c ob q n hx) hx
 there:=fun c ob q hx=>by
  obtain ⟨o',e1⟩:=a.there c ob q hx
  exact b.there c o' e1 hx
 mn:=fun c xs q=>b.mn c xs (a.mn c xs q)
 lV:=fun c ob xs q=>b.lV c ob xs (a.lV c ob xs q)
 mq:=fun c ps q=>by
  obtain ⟨m1,e1⟩:=a.mq c ps q
  obtain ⟨m2,e2⟩:=b.mq c _ e1
  exact ⟨m1++m2,by rw [e2,Array.append_assoc]⟩
theorem Un.kept (k:∀ b u,h.get? b=some u→h'.get? b=some u):Un fs ex H H h h':=
 ⟨fun b ob q _ _ _=>k b ob q,fun b ob q _ _ _=>⟨ob.slots,k b ob q⟩,fun _ _ _ n _=>n,fun b ob q _=>⟨ob,k b ob q⟩,fun _ _ q=>q,fun _ _ _ q=>q,fun _ ps q=>⟨#[],by rw [q]; simp⟩⟩
theorem Un.refl:Un fs ex H H h h:=Un.kept fun _ _ q=>q
theorem Un.laid (k:∀ b u,h.get? b=some u→h'.get? b=some u) (hp:h.objs.size≤a) (hn:H a=none):Un fs ex H (upd H a o) h h' where
 keep:=fun b u q _ _ _=>k b u q
 slot:=fun b u q _ _ _=>⟨u.slots,k b u q⟩
 free:=fun b u q n _=>by rw [ai (Nat.ne_of_lt (Nat.lt_of_lt_of_le (Heap.lt_size q) hp))]; exact n
 there:=fun b u q _=>⟨u,k b u q⟩
 mn:=fun b xs q=>by rw [ai (aj q hn)]; exact q
 lV:=fun b u xs q=>by rw [ai (aj q hn)]; exact q
 mq:=fun b ps q=>⟨#[],by rw [ai (aj q hn),q]; simp⟩
theorem Un.write (mu:ME (H x)) (he:e=x∨H e=some (.own x)) (k:∀ b u,b≠e→h.get? b=some u→h'.get? b=some u) (LO:∃ u,h'.get? e=some u):Un fs ex H (upd H x o) h h':=by
 have hx:∀ b,H b=none→b≠x:=fun b n z=>by subst z; rw [n] at mu; exact mu
 have hb:∀ b,H b=none→b≠e:=fun b n z=>by
  subst z
  rcases he with r | r
  ·exact hx b n r
  ·rw [n] at r; cases r
 have hm:∀ b u,H b=some u→¬ ME (some u)→b≠x:=fun b u q nm z=>by subst z; rw [q] at mu; exact nm mu
 refine ⟨fun b u q n _ _=>k b u (hb b n) q,fun b u q n _ _=>⟨u.slots,k b u (hb b n) q⟩,fun b u q n _=>by rw [ai (hx b n)]; exact n,fun b u q _=>?_,
  fun b xs q=>by rw [ai (hm b _ q fun z=>z)]; exact q,fun b u xs q=>by rw [ai (hm b _ q fun z=>z)]; exact q,fun b ps q=>⟨#[],by rw [ai (hm b _ q fun z=>z),q]; simp⟩⟩
 by_cases GK:b=e
 ·subst GK; exact LO
 ·exact ⟨u,k b u GK q⟩
theorem Un.mono (u:Un fs ex H H1 h h1) (hs:∀ b∈fs,b∈JS) (hx:∀ b∈ex,b∈Vi):Un JS Vi H H1 h h1:=
 ⟨fun b ob q n hb he=>u.keep b ob q n (fun z=>hb (hs b z)) fun z=>he (hx b z),fun _ _ q n _ he=>u.any q n fun z=>he (hx _ z),fun b ob q n he=>u.free b ob q n fun z=>he (hx b z),fun b ob q he=>u.there b ob q fun z=>he (hx b z),u.mn,u.lV,u.mq⟩
end
noncomputable def Qh (h:Heap) (H:Hp):List Addr:=(List.range h.objs.size).filter fun a=>(H a).isSome
noncomputable def uL (h:Heap) (H:Hp):Heap:=PySem.W.hideAll h (Qh h H)
theorem Ct (h:Heap) (H:Hp):(uL h H).objs.size=h.objs.size:=PySem.W.hideAll_size _ _
theorem Ed {h:Heap} {H:Hp} {b:Addr} {o:Obj} (e:h.get? b=some o) (n:H b=none):(uL h H).get? b=some o:=
 PySem.W.hideAll_get _ e fun hm=>by
  have q:(H b).isSome=true:=(List.mem_filter.mp hm).2
  rw [n] at q; simp at q
theorem GL {h:Heap} {H:Hp} {b:Addr} {o:Obj} (e:(uL h H).get? b=some o):h.get? b=some o∧H b=none:=by
 have e':h.get? b=some o:=PySem.W.of_hideAll (Qh h H) e
 refine ⟨e',?_⟩
 cases q:H b with
 | none=>rfl
 | some x=>
   have hm:b∈Qh h H:=List.mem_filter.mpr ⟨List.mem_range.mpr (Heap.lt_size e'),by simp [q]⟩
   have z:(uL h H).get? b=none:=PySem.W.hideAll_none (Qh h H) hm
   rw [z] at e; cases e
noncomputable def GN (g h:Heap) (L:Addr):List (Addr×Obj):=(List.range h.objs.size).filterMap fun a=>if a=L∨(g.get? a).isSome=true then none else (h.get? a).map fun o=>(a,o)
noncomputable def rest (g h:Heap) (L d:Addr):List (Addr×Obj):=(GN g h L).filter fun p=>decide (p.1≠d)
end L2
namespace L2
open PySem PySem.Spec PyProof.Rows
set_option genInjectivity false in
set_option genSizeOfSpec false in
structure Mod (K:PySem.W.Frag) (mg:Str→Option Value) (base:Heap):Prop where
 LQ:K.In base
 glob:base.Ns mainGlobals mg
 blt:∃ mb,base.Ns builtinsNs mb∧∀ x:Str,x≠"__name__"→mb x=bootBuiltins x
 nolimit:base.NoLimit
set_option genInjectivity false in
set_option genSizeOfSpec false in
structure Cx where
 prog:Program
 w:World
 K:PySem.W.Frag
 mg:Str→Option Value
 base:Heap
 A:Around
 N:List Str
 s₀:Shared
 H₀:Hp
 env:Env
 outer:List Env
 stack:List Env
 ex:List Addr
 fn:Str→Bool
 calm:Bool
 pn:List (Addr×Obj)
 xe:Value→Shared→Prop
noncomputable def zK (l:List Env):List Addr:=l.filterMap (·.frame)
noncomputable abbrev Cx.fs (X:Cx):List Addr:=zK X.outer
noncomputable def LR (sc:Scope) (x:Str):Prop:=sc.names.lookup x=some .local∨sc.names.lookup x=some .cell∨sc.names.lookup x=some .free
noncomputable def Loc (sc:Scope) (x:Str):Prop:=sc.names.lookup x=some .local∨sc.names.lookup x=some .cell
noncomputable def Look (env:Env) (h:Heap) (m:Str→Option Value) (x:Str) (u:Value):Prop:=
 (env.kindOf x=some .local∧m x=some u)∨((env.kindOf x=some .cell∨env.kindOf x=some .free)∧∃ c,env.cells.lookup x=some c∧h.IsCell c (some u))
set_option genInjectivity false in
set_option genSizeOfSpec false in
structure Cx.Ok (X:Cx):Prop where
 mod:Mod X.K X.mg X.base
 kind:X.env.scope.kind=.function
 glob:X.env.globals=mainGlobals
 blt:X.env.builtins=builtinsNs
 above:X.s₀.heap.objs.size≤X.env.locals
 inj:∀ x y c,X.env.cells.lookup x=some c→X.env.cells.lookup y=some c→x=y
 has:∀ x,(X.env.kindOf x=some .cell∨X.env.kindOf x=some .free)→∃ c,X.env.cells.lookup x=some c
 IY:∀ x c,X.fn x=true→X.env.cells.lookup x=some c→X.s₀.heap.objs.size≤c
 hd:X.calm=true→X.A.handled=none
 frames:X.A.frames=some X.stack
 JT:X.stack=X.outer∨(X.stack=X.env :: X.outer∧X.env.frame=some X.env.locals)
 MH:∀ b∈X.ex,b≠X.env.locals∧∀ x c,X.env.cells.lookup x=some c→c≠b
 bs:∀ b o,X.base.get? b=some o→X.s₀.heap.get? b=some o∧X.H₀ b=none
 zL:X.base.objs.size≤X.s₀.heap.objs.size
 uM:∀ b o,X.base.get? b=some o→b∉X.ex
 zM:∀ b∈X.ex,b∉X.fs
 lW:X.s₀.heap.FunFrames X.base X.outer
 Ee:∀ b∈X.fs,X.H₀ b=none
set_option genInjectivity false in
set_option genSizeOfSpec false in
structure Inv (X:Cx) (pins:List (Addr×Obj)) (σ:List (Option V)) (H:Hp) (s:Shared):Prop where
 ok:X.Ok
 os:s.os=X.s₀.os
 bare:AllBare s.gens
 base:Un X.fs X.ex X.H₀ H X.s₀.heap s.heap
 loc:∃ m,s.heap.Ns X.env.locals m∧∀ (i:Nat) (x:Str) (v:V),X.N[i]?=some x→σ[i]?=some (some v)→LR X.env.scope x→∃ u,RelV v u∧Look X.env s.heap m x u
 cell:∀ x c,X.env.cells.lookup x=some c→∃ v,s.heap.IsCell c v
 free:H X.env.locals=none
 jD:∀ x c,X.env.cells.lookup x=some c→H c=none
 pin:∀ p∈X.pn++pins,s.heap.get? p.1=some p.2∧H p.1=none∧p.1≠X.env.locals∧p.1∉X.fs∧∀ v,p.2.data≠.cell v
 bt:kI X.prog X.w H s.heap
 len:σ.length=X.N.length
section
variable {X:Cx} {pins:List (Addr×Obj)} {σ:List (Option V)} {H H':Hp} {s:Shared} {h':Heap}
theorem Cx.Ok.RC (ok:X.Ok) {b:Addr} {o:Obj} (e:X.base.get? b=some o):b∉X.fs:=fun hb=>by
 have:=(ok.lW.mem hb).1
 rw [e] at this; cases this
theorem Inv.bs (I:Inv X pins σ H s):∀ b o,X.base.get? b=some o→s.heap.get? b=some o∧H b=none:=fun b o e=>
 ⟨I.base.keep b o (I.ok.bs b o e).1 (I.ok.bs b o e).2 (I.ok.RC e) (I.ok.uM b o e),I.base.free b o (I.ok.bs b o e).1 (I.ok.bs b o e).2 (I.ok.uM b o e)⟩
theorem Inv.bk (I:Inv X pins σ H s):∀ b o,X.base.get? b=some o→s.heap.get? b=some o:=fun b o e=>(I.bs b o e).1
theorem Inv.mod (I:Inv X pins σ H s):Mod X.K X.mg X.base:=I.ok.mod
theorem Inv.n8 (I:Inv X pins σ H s):X.K.In s.heap:=I.ok.mod.LQ.keeps I.bk
theorem Inv.nolimit (I:Inv X pins σ H s):s.heap.NoLimit:=I.ok.mod.nolimit.keeps I.bk
theorem Inv.lt (I:Inv X pins σ H s):X.env.locals < s.heap.objs.size:=let ⟨_,hn,_⟩:=I.loc; hn.lt
theorem Inv.sz (I:Inv X pins σ H s):X.s₀.heap.objs.size≤s.heap.objs.size:=Nat.le_trans I.ok.above (Nat.le_of_lt I.lt)
theorem Inv.RD (I:Inv X pins σ H s) {a:Addr} (h:s.heap.objs.size≤a):a∉X.fs:=fun hb=>by
 obtain ⟨_,o,ho,_⟩:=I.ok.lW.mem hb
 exact absurd (Nat.lt_of_lt_of_le (Heap.lt_size ho) (Nat.le_trans I.sz h)) (Nat.lt_irrefl _)
theorem Inv.JU (I:Inv X pins σ H s):∀ x c,X.env.cells.lookup x=some c→c≠X.env.locals:=fun x c e z=>by
 obtain ⟨v,o,ho,hd⟩:=I.cell x c e
 obtain ⟨m,⟨o',es,ep,BL,zN,_⟩,_⟩:=I.loc
 rw [z,BL] at ho; cases ho; rw [zN] at hd; cases hd
theorem Inv.lW (I:Inv X pins σ H s):s.heap.FunFrames X.base X.outer:=by
 have all:∀ (l:List Env),(∀ b∈zK l,b∈X.fs)→X.s₀.heap.FunFrames X.base l→s.heap.FunFrames X.base l:=by
  intro l
  induction l with
  | nil=>intro _ _; trivial
  | cons env r ih=>
    intro hs hl
    obtain ⟨hk,⟨L,o,hf,hn,ho,hd⟩,hr⟩:=hl
    have hL:L∈X.fs:=hs L (by unfold zK; rw [List.filterMap_cons,hf]; exact List.mem_cons_self)
    obtain ⟨sl,e⟩:=I.base.slot L o ho (I.ok.Ee L hL) hL fun z=>I.ok.zM L z hL
    exact ⟨hk,⟨L,_,hf,hn,e,hd⟩,ih (fun b hb=>hs b (by unfold zK; rw [List.filterMap_cons,hf]; exact List.mem_cons_of_mem _ hb)) hr⟩
 exact all X.outer (fun _ hb=>hb) I.ok.lW
theorem Inv.stack (I:Inv X pins σ H s):s.heap.FunFrames X.base X.stack:=by
 rcases I.ok.JT with e | ⟨e,hf⟩
 ·rw [e]; exact I.lW
 ·rw [e]
  obtain ⟨m,hn,_⟩:=I.loc
  refine .cons (by rw [I.ok.kind]; decide) hf hn ?_ I.lW
  exact Heap.get?_none_of_le (Nat.le_trans I.ok.zL I.ok.above)
theorem Inv.kJ (I:Inv X pins σ H s):∀ b∈zK X.stack,b∈X.env.locals :: X.fs:=fun b hb=>by
 rcases I.ok.JT with e | ⟨e,hf⟩
 ·rw [e] at hb; exact List.mem_cons_of_mem _ hb
 ·rw [e] at hb
  unfold zK at hb
  rw [List.filterMap_cons,hf] at hb
  exact hb
theorem Inv.pT (I:Inv X pins σ H s):∀ b∈zK X.stack,H b=none:=fun b hb=>by
 rcases List.mem_cons.mp (I.kJ b hb) with e | hb
 ·rw [e]; exact I.free
 ·obtain ⟨_,o,ho,_⟩:=I.ok.lW.mem hb
  exact I.base.free b o ho (I.ok.Ee b hb) fun z=>I.ok.zM b z hb
theorem Inv.step {g':Array GenState} {t':Nat} {d':Drawn} {ch:List Addr} (I:Inv X pins σ H s)
 (Gu:∀ b∈ch,(b∈X.ex∨X.s₀.heap.objs.size≤b)∧b≠X.env.locals∧(∀ x c,X.env.cells.lookup x=some c→c≠b)∧∀ p∈X.pn++pins,p.1≠b)
 (keep:∀ b o,b≠X.env.locals→b∉X.fs→b∉ch→s.heap.get? b=some o→H b=none→h'.get? b=some o)
 (slot:∀ b o,b≠X.env.locals→b∈X.fs→b∉ch→s.heap.get? b=some o→H b=none→∃ sl,h'.get? b=some { o with slots:=sl }) (free:∀ b o,b∉ch→s.heap.get? b=some o→H b=none→H' b=none)
 (there:∀ b o,b∉ch→s.heap.get? b=some o→∃ o',h'.get? b=some o')
 (mn:∀ b xs,H b=some (.tup xs)→H' b=some (.tup xs)) (lV:∀ b o u,H b=some (.frz o u)→H' b=some (.frz o u)) (mq:∀ b ps,H b=some (.tbl ps)→∃ more,H' b=some (.tbl (ps++more)))
 (ns:∀ m,s.heap.Ns X.env.locals m→h'.Ns X.env.locals m) (bt:kI X.prog X.w H' h') (hg:AllBare g') :
 Inv X pins σ H' { s with heap:=h',gens:=g',drawn:=d',toks:=t' }:=by
 have Vj:∀ b o,X.s₀.heap.get? b=some o→b≠X.env.locals:=fun b o e=>Nat.ne_of_lt (Nat.lt_of_lt_of_le (Heap.lt_size e) I.ok.above)
 have Qi:∀ b o,X.s₀.heap.get? b=some o→b∉X.ex→b∉ch:=fun b o e hx hb=>by
  rcases (Gu b hb).1 with z | z
  ·exact hx z
  ·exact absurd (Nat.lt_of_lt_of_le (Heap.lt_size e) z) (Nat.lt_irrefl _)
 have cellK:∀ x c,X.env.cells.lookup x=some c→∀ v,s.heap.IsCell c v→h'.IsCell c v:=fun x c e v ⟨o,ho,hd⟩=>by
  have MI:c∉ch:=fun z=>(Gu c z).2.2.1 x c e rfl
  by_cases hc:c∈X.fs
  ·obtain ⟨sl,q⟩:=slot c o (I.JU x c e) hc MI ho (I.jD x c e)
   exact ⟨_,q,hd⟩
  ·exact ⟨o,keep c o (I.JU x c e) hc MI ho (I.jD x c e),hd⟩
 refine ⟨I.ok,I.os,hg,⟨fun b o e n hb hx=>?_,fun b o e n hb hx=>?_,fun b o e n hx=>?_,fun b o e hx=>?_,fun b xs e=>mn b xs (I.base.mn b xs e),fun b o xs e=>lV b o xs (I.base.lV b o xs e),fun b ps e=>?_⟩,?_,fun x c e=>?_,?_,fun x c e=>?_,fun p hp=>?_,bt,I.len⟩
 ·exact keep b o (Vj b o e) hb (Qi b o e hx) (I.base.keep b o e n hb hx) (I.base.free b o e n hx)
 ·obtain ⟨sl,e1⟩:=I.base.slot b o e n hb hx
  obtain ⟨MG,e2⟩:=slot b _ (Vj b o e) hb (Qi b o e hx) e1 (I.base.free b o e n hx)
  exact ⟨MG,e2⟩
 ·obtain ⟨o',e1⟩:=I.base.there b o e hx
  exact free b o' (Qi b o e hx) e1 (I.base.free b o e n hx)
 ·obtain ⟨o',e1⟩:=I.base.there b o e hx
  exact there b o' (Qi b o e hx) e1
 ·obtain ⟨m1,e1⟩:=I.base.mq b ps e
  obtain ⟨m2,e2⟩:=mq b _ e1
  exact ⟨m1++m2,by rw [e2,Array.append_assoc]⟩
 ·obtain ⟨m,hn,hl⟩:=I.loc
  refine ⟨m,ns m hn,fun i x v e1 e2 e3=>?_⟩
  obtain ⟨u,r,l⟩:=hl i x v e1 e2 e3
  refine ⟨u,r,?_⟩
  rcases l with l | ⟨k,c,e,z⟩
  ·exact .inl l
  ·exact .inr ⟨k,c,e,cellK x c e _ z⟩
 ·obtain ⟨v,z⟩:=I.cell x c e
  exact ⟨v,cellK x c e v z⟩
 ·obtain ⟨m,⟨o,_,_,ho,_⟩,_⟩:=I.loc
  exact free _ o (fun z=>(Gu _ z).2.1 rfl) ho I.free
 ·obtain ⟨v,o,ho,hd⟩:=I.cell x c e
  exact free c o (fun z=>(Gu c z).2.2.1 x c e rfl) ho (I.jD x c e)
 ·obtain ⟨e,n,ne,nf,d⟩:=I.pin p hp
  have MI:p.1∉ch:=fun z=>(Gu p.1 z).2.2.2 p hp rfl
  exact ⟨keep p.1 p.2 ne nf MI e n,free p.1 p.2 MI e n,ne,nf,d⟩
theorem Inv.un {t':Nat} (I:Inv X pins σ H s) (u:Un X.fs [] H H' s.heap h') (bt:kI X.prog X.w H' h'):Inv X pins σ H' { s with heap:=h',toks:=t' }:=by
 obtain ⟨m,⟨o,es,ep,ho,r⟩,_⟩:=id I.loc
 obtain ⟨sl,hL⟩:=u.any ho I.free (by simp)
 exact I.step (g':=s.gens) (d':=s.drawn) (ch:=[]) (fun _ z=>nomatch z) (fun b o _ hb _ e n=>u.keep b o e n hb (by simp)) (fun b o _ hb _ e n=>u.slot b o e n hb (by simp)) (fun b o _ e n=>u.free b o e n (by simp)) (fun b o _ e=>u.there b o e (by simp)) u.mn u.lV u.mq (fun m' hm=>by
  obtain ⟨o',JV,MJ,BL,r'⟩:=hm
  rw [ho] at BL; cases BL
  exact ⟨_,JV,MJ,hL,r'⟩) bt I.bare
theorem Inv.call {g':Array GenState} {t':Nat} {d':Drawn} {ch:List Addr} (I:Inv X pins σ H s) (u:Un (zK X.stack) ch H H' s.heap h') (bt:kI X.prog X.w H' h') (hg:AllBare g')
 (Gu:∀ b∈ch,(b∈X.ex∨X.s₀.heap.objs.size≤b)∧b≠X.env.locals∧(∀ x c,X.env.cells.lookup x=some c→c≠b)∧∀ p∈X.pn++pins,p.1≠b) :
 Inv X pins σ H' { s with heap:=h',gens:=g',drawn:=d',toks:=t' }:=by
 obtain ⟨m,⟨o,es,ep,ho,r⟩,_⟩:=id I.loc
 obtain ⟨sl,hL⟩:=u.any ho I.free fun z=>(Gu _ z).2.1 rfl
 exact I.step (ch:=ch) Gu (fun b o hL hb hc e n=>u.keep b o e n (fun z=>(List.mem_cons.mp (I.kJ b z)).elim hL hb) hc) (fun b o _ _ hc e n=>u.any e n hc) (fun b o hc e n=>u.free b o e n hc) (fun b o hc e=>u.there b o e hc) u.mn u.lV u.mq (fun m' hm=>by
  obtain ⟨o',JV,MJ,BL,r'⟩:=hm
  rw [ho] at BL; cases BL
  exact ⟨_,JV,MJ,hL,r'⟩) bt hg
theorem Inv.turned {t':Nat} {it:Addr} (I:Inv X pins σ H s) (k:∀ b o,b≠it→s.heap.get? b=some o→h'.get? b=some o) (hn:H it=none) (hL:it≠X.env.locals)
 (h1:it∈X.ex∨X.s₀.heap.objs.size≤it) (h2:∀ x c,X.env.cells.lookup x=some c→c≠it) (h3:∀ p∈X.pn++pins,p.1≠it):Inv X pins σ H { s with heap:=h',toks:=t' }:=by
 have Vk:∀ b u,H b=some u→b≠it:=fun b u e z=>by rw [z,hn] at e; cases e
 refine I.step (g':=s.gens) (d':=s.drawn) (ch:=[it]) (fun b hb=>?_) (fun b o _ _ hc e _=>k b o (fun z=>hc (by simp [z])) e) (fun b o _ _ hc e _=>⟨o.slots,k b o (fun z=>hc (by simp [z])) e⟩) (fun _ _ _ _ n=>n)
  (fun b o hc e=>⟨o,k b o (fun z=>hc (by simp [z])) e⟩) (fun _ _ e=>e) (fun _ _ _ e=>e) (fun b ps e=>⟨#[],by rw [e]; simp⟩) (fun m hm=>?_) (fun b u e=>?_) I.bare
 ·have e:b=it:=by simpa using hb
  subst e
  exact ⟨h1,hL,h2,h3⟩
 ·obtain ⟨o,es,ep,ho,r⟩:=hm
  exact ⟨o,es,ep,k _ o (Ne.symm hL) ho,r⟩
 ·refine (I.bt b u e).xC (fun c v hc q=>k c v ?_ q) (fun _ q=>q) fun _ _ q=>q
  rcases hc with z | z
  ·rw [z]; exact Vk b u e
  ·exact Vk c _ z
theorem Inv.tok (I:Inv X pins σ H s) (t:Nat):Inv X pins σ H { s with toks:=t }:=I.un (h':=s.heap) (t':=t) Un.refl I.bt
theorem Inv.kept {t':Nat} (I:Inv X pins σ H s) (k:∀ b u,s.heap.get? b=some u→h'.get? b=some u):Inv X pins σ H { s with heap:=h',toks:=t' }:=I.un (Un.kept k) (I.bt.kept k)
theorem Inv.laid {a:Addr} {o:HO} {t':Nat} (I:Inv X pins σ H s) (k:∀ b u,s.heap.get? b=some u→h'.get? b=some u) (hp:s.heap.objs.size≤a) (new:cf X.prog X.w (upd H a o) h' a o) :
 Inv X pins σ (upd H a o) { s with heap:=h',toks:=t' }:=I.un (Un.laid k hp (I.bt.fresh hp)) (I.bt.laid k hp new)
theorem Inv.write {x e:Addr} {o:HO} {t':Nat} (I:Inv X pins σ H s) (mu:ME (H x)) (he:e=x∨H e=some (.own x)) (k:∀ b u,b≠e→s.heap.get? b=some u→h'.get? b=some u) (LO:∃ u,h'.get? e=some u)
 (new:cf X.prog X.w (upd H x o) h' x o):Inv X pins σ (upd H x o) { s with heap:=h',toks:=t' }:=I.un (Un.write mu he k LO) (I.bt.write mu he k LO new)
theorem Inv.BM {IZ:List (Addr×Obj)} (I:Inv X pins σ H s) (h:∀ p∈IZ,s.heap.get? p.1=some p.2∧H p.1=none∧p.1≠X.env.locals∧p.1∉X.fs∧∀ v,p.2.data≠.cell v):Inv X IZ σ H s:=
 ⟨I.ok,I.os,I.bare,I.base,I.loc,I.cell,I.free,I.jD,fun p hp=>(List.mem_append.mp hp).elim (fun z=>I.pin p (List.mem_append_left _ z)) (h p),I.bt,I.len⟩
theorem xD {N:List Str} (hN:N.Nodup) {i j:Nat} {x:Str} (a:N[i]?=some x) (b:N[j]?=some x):i=j:=by
 obtain ⟨h1,e1⟩:=List.getElem?_eq_some_iff.mp a
 obtain ⟨h2,e2⟩:=List.getElem?_eq_some_iff.mp b
 exact (List.getElem_inj hN).mp (e1.trans e2.symm)
theorem nZ {M:Model} {A:Around} {E:Value→Shared→Prop} {i:Nat} {x:Str} {v:V} {u:Value} {Q:Unit→Shared→Prop} (I:Inv X pins σ H s) (hN:X.N.Nodup) (hi:X.N[i]?=some x) (hx:Loc X.env.scope x) (r:RelV v u)
 (h:∀ s',Inv X pins (σ.set i (some v)) H s'→(∃ a,Heap.SameBut a s.heap s'.heap∧(a=X.env.locals∨X.env.cells.lookup x=some a))→Q () s') (hf:X.fn x=true∨X.env.scope.names.lookup x=some .local:=by first | exact .inl rfl | exact .inr rfl | assumption):wpAny M A (storeName X.env x u) Q E s:=by
 obtain ⟨m,hn,hl⟩:=id I.loc
 have RE:(X.env.scope.kind == .class || (X.env.scope.kind == .module && X.env.locals != X.env.globals))=false:=by rw [I.ok.kind]; rfl
 have hiσ:i < σ.length:=by rw [I.len]; exact (List.getElem?_eq_some_iff.mp hi).1
 have JU:=I.JU
 have tracked:∀ {a:Addr} {h':Heap},(∃ o,s.heap.get? a=some o∧H a=none)→Heap.SameBut a s.heap h'→kI X.prog X.w H h':=fun {a h'} ha hs b ob e=>by
  obtain ⟨_,_,eP⟩:=ha
  refine (I.bt b ob e).xC (fun c w' hc q=>(hs.2 c ?_).trans q) (fun _ q=>q) fun _ _ q=>q
  rintro rfl
  rcases hc with rfl | hc
  ·rw [eP] at e; cases e
  ·rw [eP] at hc; cases hc
 rcases hx with hk | hk
 ·refine wpAny_storeName_local hk hn (fun h' Qj hs=>?_) RE
  obtain ⟨oL,_,_,GO,_⟩:=id hn
  refine h _ ⟨I.ok,I.os,I.bare,⟨fun b o e n hb hx=>?_,fun b o e n hb hx=>?_,I.base.free,fun b o e hx=>?_,I.base.mn,I.base.lV,I.base.mq⟩,⟨_,Qj,fun j y v' e1 e2 e3=>?_⟩,fun y c e=>?_,I.free,I.jD,fun p hp=>?_,tracked ⟨oL,GO,I.free⟩ hs,by simpa using I.len⟩ ⟨_,hs,.inl rfl⟩
  ·exact (hs.2 b (Nat.ne_of_lt (Nat.lt_of_lt_of_le (Heap.lt_size e) I.ok.above))).trans (I.base.keep b o e n hb hx)
  ·obtain ⟨sl,e1⟩:=I.base.slot b o e n hb hx
   exact ⟨sl,(hs.2 b (Nat.ne_of_lt (Nat.lt_of_lt_of_le (Heap.lt_size e) I.ok.above))).trans e1⟩
  ·obtain ⟨o',e1⟩:=I.base.there b o e hx
   exact ⟨o',(hs.2 b (Nat.ne_of_lt (Nat.lt_of_lt_of_le (Heap.lt_size e) I.ok.above))).trans e1⟩
  ·by_cases hj:j=i
   ·subst hj
    rw [hi] at e1; cases e1
    rw [List.getElem?_set_self hiσ] at e2
    cases e2
    exact ⟨u,r,.inl ⟨hk,by simp⟩⟩
   ·rw [List.getElem?_set_ne (Ne.symm hj)] at e2
    obtain ⟨u',r',q⟩:=hl j y v' e1 e2 e3
    refine ⟨u',r',?_⟩
    rcases q with ⟨k,e⟩ | ⟨k,c,e,z⟩
    ·refine .inl ⟨k,?_⟩
     have:y≠x:=fun e=>hj (xD hN e1 (e ▸ hi))
     simp [this,e]
    ·exact .inr ⟨k,c,e,z.sameBut hs (JU y c e)⟩
  ·obtain ⟨w',z⟩:=I.cell y c e
   exact ⟨w',z.sameBut hs (JU y c e)⟩
  ·obtain ⟨e,n,ne,nf,d⟩:=I.pin p hp
   exact ⟨(hs.2 p.1 ne).trans e,n,ne,nf,d⟩
 ·have RF:X.fn x=true:=by
   rcases hf with z | z
   ·exact z
   ·rw [z] at hk; cases hk
  obtain ⟨c,hc⟩:=I.ok.has x (.inl hk)
  obtain ⟨w',z⟩:=I.cell x c hc
  refine wpAny_storeName_cell I.ok.kind hk hc z (fun h' Cu hs=>?_)
  obtain ⟨oc,Vl,RG⟩:=id z
  refine h { s with heap:=h' } ⟨I.ok,I.os,I.bare,⟨fun b o e n hb hx=>?_,fun b o e n hb hx=>?_,I.base.free,fun b o e hx=>?_,I.base.mn,I.base.lV,I.base.mq⟩,⟨m,hn.sameBut hs (Ne.symm (JU x c hc)),fun j y v' e1 e2 e3=>?_⟩,fun y c' e=>?_,I.free,I.jD,fun p hp=>?_,tracked ⟨oc,Vl,I.jD x c hc⟩ hs,by simpa using I.len⟩ ⟨c,hs,.inr hc⟩
  ·exact (hs.2 b (Nat.ne_of_lt (Nat.lt_of_lt_of_le (Heap.lt_size e) (I.ok.IY x c RF hc)))).trans (I.base.keep b o e n hb hx)
  ·obtain ⟨sl,e1⟩:=I.base.slot b o e n hb hx
   exact ⟨sl,(hs.2 b (Nat.ne_of_lt (Nat.lt_of_lt_of_le (Heap.lt_size e) (I.ok.IY x c RF hc)))).trans e1⟩
  ·obtain ⟨o',e1⟩:=I.base.there b o e hx
   exact ⟨o',(hs.2 b (Nat.ne_of_lt (Nat.lt_of_lt_of_le (Heap.lt_size e) (I.ok.IY x c RF hc)))).trans e1⟩
  ·by_cases hj:j=i
   ·subst hj
    rw [hi] at e1; cases e1
    rw [List.getElem?_set_self hiσ] at e2
    cases e2
    exact ⟨u,r,.inr ⟨.inl hk,c,hc,Cu⟩⟩
   ·rw [List.getElem?_set_ne (Ne.symm hj)] at e2
    obtain ⟨u',r',q⟩:=hl j y v' e1 e2 e3
    refine ⟨u',r',?_⟩
    rcases q with q | ⟨k,c',e,z'⟩
    ·exact .inl q
    ·refine .inr ⟨k,c',e,z'.sameBut hs ?_⟩
     rintro rfl
     exact hj (xD hN e1 (I.ok.inj _ _ _ e hc ▸ hi))
  ·by_cases Vm:c'=c
   ·subst Vm; exact ⟨_,Cu⟩
   ·obtain ⟨w2,z2⟩:=I.cell y c' e
    exact ⟨w2,z2.sameBut hs Vm⟩
  ·obtain ⟨e,n,ne,nf,d⟩:=I.pin p hp
   refine ⟨(hs.2 p.1 ?_).trans e,n,ne,nf,d⟩
   intro q
   rw [q,Vl] at e
   have q':oc=p.2:=Option.some.inj e
   exact d w' (by rw [← q']; exact RG)
theorem q8 {M:Model} {A:Around} {E:Value→Shared→Prop} {i:Nat} {x:Str} {v:V} {u:Value} {Q:Unit→Shared→Prop} (I:Inv X pins σ H s) (hN:X.N.Nodup) (hi:X.N[i]?=some x) (hx:Loc X.env.scope x) (r:RelV v u)
 (h:∀ s',Inv X pins (σ.set i (some v)) H s'→Q () s') (hf:X.fn x=true∨X.env.scope.names.lookup x=some .local:=by first | exact .inl rfl | exact .inr rfl | assumption):wpAny M A (storeName X.env x u) Q E s:=
 nZ I hN hi hx r (fun s' I' _=>h s' I') hf
theorem Inv.Ef {s':Shared} {ch:List Addr} (I:Inv X pins σ H s) (ho:s'.os=s.os) (u:Un (zK X.stack) ch H H' s.heap s'.heap) (bt:kI X.prog X.w H' s'.heap) (hg:AllBare s'.gens)
 (Gu:∀ b∈ch,(b∈X.ex∨X.s₀.heap.objs.size≤b)∧b≠X.env.locals∧(∀ x c,X.env.cells.lookup x=some c→c≠b)∧∀ p∈X.pn++pins,p.1≠b):Inv X pins σ H' s':=by
 obtain ⟨h',g',d',t',o'⟩:=s'
 have e:o'=s.os:=ho
 subst e
 exact I.call (g':=g') (t':=t') (d':=d') u bt hg Gu
end
noncomputable abbrev XK:=Value→Option Addr→Hp→Prop
noncomputable abbrev St:=List (Option V)
noncomputable abbrev VK:=V→Hp→Prop
noncomputable abbrev TE:=St→Hp→VK→Prop
noncomputable abbrev TT:=St→Hp→(Bool→Hp→Prop)→Prop
noncomputable abbrev TA:=St→Hp→(List V→Hp→Prop)→Prop
set_option genInjectivity false in
set_option genSizeOfSpec false in
structure Ends where
 nx:St→Hp→Prop
 rt:VK
 bk:St→Hp→Prop:=fun _ _=>False
 ct:St→Hp→Prop:=fun _ _=>False
noncomputable abbrev TS:=Ends→St→Hp→Prop
noncomputable def EP (X:Cx) (pins:List (Addr×Obj)) (σ:St) (Q:VK) (u:Value) (s':Shared):Prop:=∃ v H',Inv X pins σ H' s'∧RelV v u∧Q v H'
noncomputable def TP (X:Cx) (pins:List (Addr×Obj)) (σ:St) (Q:Bool→Hp→Prop) (b:Bool) (s':Shared):Prop:=∃ H',Inv X pins σ H' s'∧Q b H'
noncomputable def AP (X:Cx) (pins:List (Addr×Obj)) (σ:St) (Q:List V→Hp→Prop) (us:List Value) (s':Shared):Prop:=∃ vs H',Inv X pins σ H' s'∧Vals vs us∧Q vs H'
noncomputable def SP (X:Cx) (pins:List (Addr×Obj)) (D:Ends) (f:Flow) (s':Shared):Prop:=
 match f with
 | .next=>∃ σ' H',Inv X pins σ' H' s'∧D.nx σ' H'
 | .brk=>∃ σ' H',Inv X pins σ' H' s'∧D.bk σ' H'
 | .cont=>∃ σ' H',Inv X pins σ' H' s'∧D.ct σ' H'
 | .ret u=>∃ v σ' H',Inv X pins σ' H' s'∧RelV v u∧D.rt v H'
noncomputable def PE (X:Cx) (e:Expr) (t:TE):Prop:=
 ∀ (pins:List (Addr×Obj)) (s:Shared) (σ:St) (H:Hp) (Q:VK),Inv X pins σ H s→t σ H Q→wpAny (model X.prog X.w) X.A (eval e X.env) (EP X pins σ Q) X.xe s
noncomputable def PT (X:Cx) (e:Expr) (t:TT):Prop:=
 ∀ (pins:List (Addr×Obj)) (s:Shared) (σ:St) (H:Hp) (Q:Bool→Hp→Prop),Inv X pins σ H s→t σ H Q→wpAny (model X.prog X.w) X.A (isTrue e X.env (eval e X.env)) (TP X pins σ Q) X.xe s
noncomputable def PW (X:Cx) (e:Expr) (t:TT):Prop:=
 ∀ (whole:Sem Value) (pins:List (Addr×Obj)) (s:Shared) (σ:St) (H:Hp) (Q:Bool→Hp→Prop),Inv X pins σ H s→t σ H Q→wpAny (model X.prog X.w) X.A (isTrue e X.env whole) (TP X pins σ Q) X.xe s
theorem PW.pt {X:Cx} {e:Expr} {t:TT} (h:PW X e t):PT X e t:=h _
noncomputable def PA (X:Cx) (es:List Expr) (t:TA):Prop:=
 ∀ (pos:Pos) (pins:List (Addr×Obj)) (s:Shared) (σ:St) (H:Hp) (Q:List V→Hp→Prop),Inv X pins σ H s→t σ H Q→wpAny (model X.prog X.w) X.A (spliced (backTo pos (starEach es X.env))) (AP X pins σ Q) X.xe s
noncomputable def PS (X:Cx) (st:Stmt) (t:TS):Prop:=
 ∀ (pins:List (Addr×Obj)) (s:Shared) (σ:St) (H:Hp) (D:Ends),Inv X pins σ H s→t D σ H→wpAny (model X.prog X.w) X.A (exec st X.env) (SP X pins D) X.xe s
noncomputable def xE (X:Cx) (st:List Stmt) (t:TS):Prop:=
 ∀ (pins:List (Addr×Obj)) (s:Shared) (σ:St) (H:Hp) (D:Ends),Inv X pins σ H s→t D σ H→wpAny (model X.prog X.w) X.A (execs st X.env) (SP X pins D) X.xe s
theorem cg {α:Type} {t:Sem α} {Q Q':α→Shared→Prop} {M:Model} {A:Around} {E:Value→Shared→Prop} {s:Shared} (h:wpAny M A t Q E s) (hQ:∀ a s,Q a s→Q' a s):wpAny M A t Q' E s:=wpAny_mono h hQ fun _ _ x=>x
end L2
namespace L2
open PySem PySem.Spec PyProof.Rows
section
variable {X:Cx}
theorem bin {a b:Expr} {ta tb:TE} (ha:PE X a ta) (hb:PE X b tb) {pins:List (Addr×Obj)} {s:Shared} {σ:St} {H:Hp} {R:V→V→Hp→Prop} (I:Inv X pins σ H s) (h:ta σ H fun x H1=>tb σ H1 fun y H2=>R x y H2)
 {α:Type} {Q:α→Shared→Prop} {f:Value→Value→Sem α}
 (hf:∀ v u s2 x y H2,Inv X pins σ H2 s2→RelV x v→RelV y u→R x y H2→wpAny (model X.prog X.w) X.A (f v u) Q X.xe s2) :
 wpAny (model X.prog X.w) X.A (eval a X.env) (fun v s₁=>wpAny (model X.prog X.w) X.A (eval b X.env) (fun u s₂=>wpAny (model X.prog X.w) X.A (f v u) Q X.xe s₂) X.xe s₁) X.xe s:=by
 refine cg (ha pins s σ H _ I h) fun v s1 ⟨x,H1,I1,r1,q1⟩=>?_
 refine cg (hb pins s1 σ H1 _ I1 q1) fun u s2 ⟨y,H2,I2,r2,q2⟩=>?_
 exact hf v u s2 x y H2 I2 r1 r2 q2
noncomputable def GP (i:Nat):TE:=fun σ H Q=>∃ v,σ[i]?=some (some v)∧Q v H
noncomputable def tC (v:V):TE:=fun _ H Q=>Q v H
theorem JW {i:Nat} {x:Str} {pos:Pos} (hN:X.N[i]?=some x) (hv:LR X.env.scope x) (hd:(x == ("__debug__":Str))=false:=by decide) (Cv:(x == ("__classdict__":Str))=false:=by decide):PE X (.Name x pos) (GP i):=by
 intro pins s σ H Q I h
 obtain ⟨v,e,h⟩:=h
 obtain ⟨m,hn,hl⟩:=I.loc
 obtain ⟨u,r,l⟩:=hl i x v hN e hv
 have fin:EP X pins σ Q u s:=⟨v,H,I,r,h⟩
 rcases l with ⟨hk,hm⟩ | ⟨hk,c,hc,lZ⟩
 ·exact wpAny_Name (wpAny_loadName_local I.ok.kind hk hn hm fin) hd
 ·rcases hk with hk | hk
  ·exact wpAny_Name (wpAny_loadName_cell I.ok.kind hk hc lZ fin) hd
  ·exact wpAny_Name (wpAny_loadName_free I.ok.kind hk hc lZ fin Cv) hd
theorem ae {i j pos}:PE X (.Constant (.int i) j pos) (tC (.int i)):=fun _ _ _ H _ I h=>wpAny_Constant_int ⟨.int i,H,I.tok _,⟨_,rfl⟩,h⟩
theorem iR {b j pos}:PE X (.Constant (.bool b) j pos) (tC (.bl b)):=fun _ _ _ H _ I h=>Constant_bool ⟨.bl b,H,I,rfl,h⟩
theorem q9 {j pos}:PE X (.Constant .none j pos) (tC .non):=fun _ _ _ H _ I h=>Constant_none ⟨.non,H,I,rfl,h⟩
theorem jr {x j pos}:PE X (.Constant (.str x) j pos) (tC (.str x)):=fun _ _ _ H _ I h=>Calls.Constant_str ⟨.str x,H,I.tok _,⟨_,rfl⟩,h⟩
noncomputable def Gl (X:Cx) (x:Str):Prop:=X.env.kindOf x=some .globalImplicit
theorem pU {E:Value→Shared→Prop} {pins:List (Addr×Obj)} {s:Shared} {σ:St} {H:Hp} {x:Str} {u:Value} {pos:Pos} {Q:Value→Shared→Prop} (I:Inv X pins σ H s) (hg:Gl X x) (hm:X.mg x=some u) (h:Q u s)
 (hd:(x == ("__debug__":Str))=false:=by decide):wpAny (model X.prog X.w) X.A (eval (.Name x pos) X.env) Q E s:=
 Calls.Name_function_global I.ok.kind hg (Calls.loadGlobal_global (by rw [I.ok.glob]; exact I.mod.glob.keeps I.bk) hm h) hd
theorem o4 {E:Value→Shared→Prop} {pins:List (Addr×Obj)} {s:Shared} {σ:St} {H:Hp} {x:Str} {u:Value} {pos:Pos} {Q:Value→Shared→Prop} (I:Inv X pins σ H s) (hg:Gl X x) (hm:X.mg x=none) (hv:bootBuiltins x=some u) (h:Q u s)
 (hn:x≠"__name__":=by decide) (hd:(x == ("__debug__":Str))=false:=by decide):wpAny (model X.prog X.w) X.A (eval (.Name x pos) X.env) Q E s:=by
 obtain ⟨mb,h1,h2⟩:=I.mod.blt
 exact Calls.Name_function_global I.ok.kind hg (Calls.loadGlobal_builtin (by rw [I.ok.glob]; exact I.mod.glob.keeps I.bk) hm (by rw [I.ok.blt]; exact h1.keeps I.bk) ((h2 x hn).trans hv) h) hd
theorem GQ {x:Str} {v:V} {u:Value} {pos:Pos} (hg:Gl X x) (hm:X.mg x=some u) (r:RelV v u) (hd:(x == ("__debug__":Str))=false:=by decide):PE X (.Name x pos) (tC v):=
 fun _ _ _ H _ I h=>pU I hg hm ⟨v,H,I,r,h⟩ hd
theorem lH {x:Str} {v:V} {u:Value} {pos:Pos} (hg:Gl X x) (hm:X.mg x=none) (hv:bootBuiltins x=some u) (r:RelV v u) (hn:x≠"__name__":=by decide) (hd:(x == ("__debug__":Str))=false:=by decide):PE X (.Name x pos) (tC v):=
 fun _ _ _ H _ I h=>o4 I hg hm hv ⟨v,H,I,r,h⟩ hn hd
noncomputable def Qk (ta tb:TE) (k:Int→Int→Hp→Prop):St→Hp→Prop:=fun σ H=>ta σ H fun x H1=>tb σ H1 fun y H2=>∃ i j,x=.int i∧y=.int j∧k i j H2
noncomputable def XQ (ta tb:TE):TE:=fun σ H Q=>Qk ta tb (fun i j H2=>Q (.int (i + j)) H2) σ H
noncomputable def XR (ta tb:TE):TE:=fun σ H Q=>Qk ta tb (fun i j H2=>Q (.int (i - j)) H2) σ H
noncomputable def XS (ta tb:TE):TE:=fun σ H Q=>Qk ta tb (fun i j H2=>(-(2 ^ 64) < i∧i < 2 ^ 64)∧Q (.int (i * j)) H2) σ H
variable {a b:Expr} {ta tb:TE} {pos:Pos}
noncomputable def PC (X:Cx) (op:CmpOp) (a b:Expr) (t:TE):Prop:=
 ∀ (pins:List (Addr×Obj)) (s:Shared) (σ:St) (H:Hp) (Q:VK),Inv X pins σ H s→t σ H Q →
  wpAny (model X.prog X.w) X.A (eval a X.env) (fun v s₁=>wpAny (model X.prog X.w) X.A (eval b X.env) (fun u s₂=>wpAny (model X.prog X.w) X.A (compareOp op v u) (EP X pins σ Q) X.xe s₂) X.xe s₁) X.xe s
theorem Eg (b:Expr) {op:CmpOp} (h:op≠.In) (h2:op≠.NotIn):behindInMarks op b=false:=by
 have e1:(op == CmpOp.In)=false:=by cases op <;> first | rfl | exact absurd rfl h
 have e2:(op == CmpOp.NotIn)=false:=by cases op <;> first | rfl | exact absurd rfl h2
 cases b <;> simp [behindInMarks,e1,e2]
noncomputable def Cw (p:Int→Int→Bool) (ta tb:TE):TE:=fun σ H Q=>Qk ta tb (fun i j H2=>Q (.bl (p i j)) H2) σ H
noncomputable abbrev tLt:TE→TE→TE:=Cw fun i j=>decide (i < j)
noncomputable abbrev tLe:TE→TE→TE:=Cw fun i j=>decide (i≤j)
noncomputable abbrev tGt:TE→TE→TE:=Cw fun i j=>decide (j < i)
noncomputable abbrev tGe:TE→TE→TE:=Cw fun i j=>decide (j≤i)
noncomputable abbrev XU:TE→TE→TE:=Cw fun i j=>decide (i=j)
noncomputable abbrev XV:TE→TE→TE:=Cw fun i j=>!decide (i=j)
noncomputable def XW (ta:TE):TE:=fun σ H Q=>ta σ H fun x H1=>Q (.bl (decide (x=.non))) H1
noncomputable def Vn (ta:TE):TE:=fun σ H Q=>ta σ H fun x H1=>Q (.bl (!decide (x=.non))) H1
noncomputable def tB (t:TE):TT:=fun σ H Q=>t σ H fun x H1=>∃ c,x=.bl c∧Q c H1
theorem JX {op:CmpOp} {t:TE} (h:PC X op a b t) (h1:behindInMarks op b=false:=by first | exact Eg _ (by decide) (by decide) | rfl):PT X (.Compare a [op] [b] pos) (tB t):=by
 intro pins s σ H Q I hw
 refine wpAny_isTrue_Compare1 (cg (h pins s σ H _ I hw) fun v s1 h1=>cg h1 fun u s2 h2=>cg h2 fun c s3 ⟨x,H1,I1,r1,q1⟩=>?_) h1
 obtain ⟨d,rfl,q⟩:=q1
 cases r1
 exact wpAny_truthy_bool ⟨H1,I1,q⟩
theorem eI {e:Expr} {t:TE} (h:PE X e t) (he:∀ whole,isTrue e X.env whole=(do let v ← whole; standAt e.pos; holding [v] (truthy v)):=by intro _; rfl):PT X e (tB t):=by
 intro pins s σ H Q I hw
 refine isTrue_plain (cg (h pins s σ H _ I hw) fun v s1 ⟨x,H1,I1,r1,q1⟩=>?_) (he _)
 obtain ⟨d,rfl,q⟩:=q1
 cases r1
 exact wpAny_truthy_bool ⟨H1,I1,q⟩
variable {tA Ql:TT} {rest:List Expr}
noncomputable def RH (t u:TT):TT:=fun σ H Q=>t σ H fun c H1=>if c=true then u σ H1 Q else Q false H1
noncomputable def XX (t u:TT):TT:=fun σ H Q=>t σ H fun c H1=>if c=true then Q true H1 else u σ H1 Q
noncomputable def RJ (t:TT):TT:=fun σ H Q=>t σ H fun c H1=>Q (!c) H1
theorem GR (ha:PT X a tA):PW X (.BoolOp .And [a] pos) tA:=by
 intro wh pins s σ H Q I h
 refine isTrue_and (cg (ha pins s σ H Q I h) fun c s1 e=>?_)
 cases c with
 | true=>exact isTrue_and_nil e
 | false=>exact e
theorem kK (ha:PT X a tA):PW X (.BoolOp .Or [a] pos) tA:=by
 intro wh pins s σ H Q I h
 refine isTrue_or (cg (ha pins s σ H Q I h) fun c s1 e=>?_)
 cases c with
 | false=>exact isTrue_or_nil e
 | true=>exact e
theorem JY (ha:PT X a tA) (hb:PW X (.BoolOp .And (b :: rest) pos) Ql):PW X (.BoolOp .And (a :: b :: rest) pos) (RH tA Ql):=by
 intro wh pins s σ H Q I h
 refine isTrue_and (cg (ha pins s σ H _ I h) fun c s1 ⟨H1,I1,q1⟩=>?_)
 cases c with
 | true=>exact hb wh pins s1 σ H1 Q I1 q1
 | false=>exact ⟨H1,I1,q1⟩
theorem jE (ha:PT X a tA) (hb:PW X (.BoolOp .Or (b :: rest) pos) Ql):PW X (.BoolOp .Or (a :: b :: rest) pos) (XX tA Ql):=by
 intro wh pins s σ H Q I h
 refine isTrue_or (cg (ha pins s σ H _ I h) fun c s1 ⟨H1,I1,q1⟩=>?_)
 cases c with
 | true=>exact ⟨H1,I1,q1⟩
 | false=>exact hb wh pins s1 σ H1 Q I1 q1
theorem gw (ha:PT X a tA):PT X (.UnaryOp .Not a pos) (RJ tA):=by
 intro pins s σ H Q I h
 exact isTrue_not (ha pins s σ H (fun c H1=>Q (!c) H1) I h)
noncomputable def MK (ta tb:TE):TE:=fun σ H Q=>ta σ H fun x H1=>∃ c,x=.bl c∧if c=true then tb σ H1 Q else Q (.bl false) H1
noncomputable def XY (ta tb:TE):TE:=fun σ H Q=>ta σ H fun x H1=>∃ c,x=.bl c∧if c=true then Q (.bl true) H1 else tb σ H1 Q
noncomputable def ML (ta:TE):TE:=fun σ H Q=>ta σ H fun x H1=>∃ c,x=.bl c∧Q (.bl (!c)) H1
theorem zO {op} {t:TE} (h:PE X a t):PE X (.BoolOp op [a] pos) t:=fun pins s σ H Q I hw=>BoolOp_one (h pins s σ H Q I hw)
theorem zP (ha:PE X a ta) (hb:PE X (.BoolOp .And (b :: rest) pos) tb):PE X (.BoolOp .And (a :: b :: rest) pos) (MK ta tb):=by
 intro pins s σ H Q I h
 refine BoolOp_and (cg (ha pins s σ H _ I h) fun v s1 ⟨x,H1,I1,r1,q1⟩=>?_)
 obtain ⟨c,rfl,q1⟩:=q1
 cases r1
 refine wpAny_truthy_bool ?_
 cases c with
 | true=>exact hb pins s1 σ H1 Q I1 q1
 | false=>exact ⟨.bl false,H1,I1,rfl,q1⟩
theorem JZ (ha:PE X a ta):PE X (.UnaryOp .Not a pos) (ML ta):=by
 intro pins s σ H Q I h
 refine UnaryOp_ (cg (ha pins s σ H _ I h) fun v s1 ⟨x,H1,I1,r1,q1⟩=>?_)
 obtain ⟨c,rfl,q1⟩:=q1
 cases r1
 exact not_of (wpAny_truthy_bool ⟨.bl (!c),H1,I1,rfl,q1⟩)
noncomputable def XZ (t:TT) (ta tb:TE):TE:=fun σ H Q=>t σ H fun c H1=>if c=true then ta σ H1 Q else tb σ H1 Q
theorem Eh {c:Expr} (hc:PT X c tA) (ha:PE X a ta) (hb:PE X b tb):PE X (.IfExp c a b pos) (XZ tA ta tb):=by
 intro pins s σ H Q I h
 refine wpAny_IfExp (cg (hc pins s σ H _ I h) fun d s1 ⟨H1,I1,q1⟩=>?_)
 cases d with
 | true=>exact ha pins s1 σ H1 Q I1 q1
 | false=>exact hb pins s1 σ H1 Q I1 q1
end
end L2
namespace L2
open PySem PySem.Spec PyProof.Rows
noncomputable def aK (K:PySem.W.Frag) (H:Hp) (a:Addr) (xs:List V):Prop:=
 Rd H a (.lst xs) ∨
  ∃ (o:Obj) (its:Array Value) (n:Nat),K.lookup a=some o∧o.cls=.type "list"∧o.dict=none∧o.data=.seq its n∧its.size≤sizeLine∧Vals xs its.toList
noncomputable def jF (K:PySem.W.Frag) (H:Hp) (a:Addr) (xs:List V):Prop:=
 Rd H a (.tup xs) ∨
  ∃ (o:Obj) (its:Array Value) (n:Nat),K.lookup a=some o∧o.cls=.type "tuple"∧o.data=.seq its n∧its.size≤sizeLine∧Vals xs its.toList
noncomputable def RK:Value→Option V
 | .none=>some .non
 | .bool b=>some (.bl b)
 | .int i _=>some (.int i)
 | .str x _=>some (.str x)
 | .bytes b _=>some (.byt b)
 | .float b _=>some (.flt b)
 | .ref a=>some (.ref a)
 | .type n=>some (.ty n)
 | _=>none
theorem RelV.abs {x:V} {u:Value} (r:RelV x u):RK u=some x:=by
 cases x with
 | non=>cases r; rfl
 | bl _=>cases r; rfl
 | int _=>obtain ⟨t,rfl⟩:=r; rfl
 | str _=>obtain ⟨t,rfl⟩:=r; rfl
 | byt _=>obtain ⟨t,rfl⟩:=r; rfl
 | flt _=>obtain ⟨t,rfl⟩:=r; rfl
 | ref _=>cases r; rfl
 | ty _=>cases r; rfl
theorem RelV.inj {x y:V} {u:Value} (r:RelV x u) (q:RelV y u):x=y:=Option.some.inj (r.abs.symm.trans q.abs)
theorem Vals.inj:∀ {xs ys:List V} {us:List Value},Vals xs us→Vals ys us→xs=ys
 | _,_,_,.nil,.nil=>rfl
 | _,_,_,.cons r t,.cons r' t'=>by rw [r.inj r',Vals.inj t t']
section
variable {X:Cx} {pins:List (Addr×Obj)} {σ:St} {H:Hp} {s:Shared} {a:Addr} {xs ys:List V}
theorem aK.of {K:PySem.W.Frag} (h:H a=some (.lst xs)):aK K H a xs:=.inl (.inl h)
theorem jF.of {K:PySem.W.Frag} (h:H a=some (.tup xs)):jF K H a xs:=.inl (.inl h)
theorem Inv.list (I:Inv X pins σ H s) (h:aK X.K H a xs):∃ its:List Value,Vals xs its∧PlainL s.heap a its.toArray∧xs.length≤sizeLine:=by
 rcases h with h | ⟨o,its,n,hk,hc,hd,hs,hz,r⟩
 ·obtain ⟨z,its,n,r,e⟩:=h.ok I.bt
  exact ⟨its,r,⟨_,n,e,rfl,rfl,rfl⟩,z⟩
 ·refine ⟨its.toList,r,⟨o,n,I.n8 a o hk,hc,hd,by simpa using hs⟩,?_⟩
  have e:=r.length
  simp only [Array.length_toList] at e
  omega
theorem Inv.tuple (I:Inv X pins σ H s) (h:jF X.K H a xs):∃ its:List Value,Vals xs its∧IsTup s.heap a its.toArray∧xs.length≤sizeLine:=by
 rcases h with h | ⟨o,its,n,hk,hc,hs,hz,r⟩
 ·obtain ⟨z,its,r,p⟩:=h.ok I.bt
  exact ⟨its,r,p,z⟩
 ·refine ⟨its.toList,r,⟨o,I.n8 a o hk,hc,n,by simpa using hs⟩,?_⟩
  have e:=r.length
  simp only [Array.length_toList] at e
  omega
theorem Inv.xF (I:Inv X pins σ H s) (h:aK X.K H a xs) (h':aK X.K H a ys):xs=ys:=by
 obtain ⟨its,r,⟨o,n,e,_,_,d⟩,_⟩:=I.list h
 obtain ⟨its',r',⟨o',n',e',_,_,d'⟩,_⟩:=I.list h'
 rw [e] at e'; cases e'
 rw [d] at d'
 injection d' with d1 _
 have:its=its':=by simpa using congrArg Array.toList d1
 subst this
 exact r.inj r'
end
noncomputable abbrev Cx.o5 (X:Cx) (E:Value→Shared→Prop):Cx:={ X with xe:=E }
noncomputable abbrev Cx.J0 (X:Cx):Cx:=X.o5 fun _ _=>False
theorem Cx.Ok.o5 {X:Cx} (ok:X.Ok) (E:Value→Shared→Prop):(X.o5 E).Ok:=
 ⟨ok.mod,ok.kind,ok.glob,ok.blt,ok.above,ok.inj,ok.has,ok.IY,ok.hd,ok.frames,ok.JT,ok.MH,ok.bs,ok.zL,ok.uM,ok.zM,ok.lW,ok.Ee⟩
theorem Cx.Ok.iE {X:Cx} {E:Value→Shared→Prop} (ok:(X.o5 E).Ok):X.Ok:=
 ⟨ok.mod,ok.kind,ok.glob,ok.blt,ok.above,ok.inj,ok.has,ok.IY,ok.hd,ok.frames,ok.JT,ok.MH,ok.bs,ok.zL,ok.uM,ok.zM,ok.lW,ok.Ee⟩
section
variable {X:Cx} {pins:List (Addr×Obj)} {σ:St} {H:Hp} {s:Shared} {E:Value→Shared→Prop}
theorem Inv.o5 (I:Inv X pins σ H s) (E:Value→Shared→Prop):Inv (X.o5 E) pins σ H s:=⟨I.ok.o5 E,I.os,I.bare,I.base,I.loc,I.cell,I.free,I.jD,I.pin,I.bt,I.len⟩
theorem Inv.iE (I:Inv (X.o5 E) pins σ H s):Inv X pins σ H s:=⟨I.ok.iE,I.os,I.bare,I.base,I.loc,I.cell,I.free,I.jD,I.pin,I.bt,I.len⟩
theorem SP.iE {D:Ends} {f:Flow} {s':Shared} (h:SP (X.o5 E) pins D f s'):SP X pins D f s':=by
 cases f with
 | next=>obtain ⟨σ',H',I,q⟩:=h; exact ⟨σ',H',I.iE,q⟩
 | brk=>obtain ⟨σ',H',I,q⟩:=h; exact ⟨σ',H',I.iE,q⟩
 | cont=>obtain ⟨σ',H',I,q⟩:=h; exact ⟨σ',H',I.iE,q⟩
 | ret u=>obtain ⟨v,σ',H',I,r,q⟩:=h; exact ⟨v,σ',H',I.iE,r,q⟩
theorem PE.J0 {e:Expr} {t:TE} (h:PE X.J0 e t):PE X e t:=fun pins s σ H Q I hw=>
 wpAny_mono (h pins s σ H Q (I.o5 _) hw) (fun _ _ ⟨v,H',I',r,q⟩=>⟨v,H',I'.iE,r,q⟩) fun _ _ z=>False.elim z
theorem PT.J0 {e:Expr} {t:TT} (h:PT X.J0 e t):PT X e t:=fun pins s σ H Q I hw=>
 wpAny_mono (h pins s σ H Q (I.o5 _) hw) (fun _ _ ⟨H',I',q⟩=>⟨H',I'.iE,q⟩) fun _ _ z=>False.elim z
theorem xE.J0 {st:List Stmt} {t:TS} (h:xE X.J0 st t):xE X st t:=fun pins s σ H D I hw=>
 wpAny_mono (h pins s σ H D (I.o5 _) hw) (fun _ _ q=>q.iE) fun _ _ z=>False.elim z
end
section
variable {X:Cx} {st:Stmt} {rest:List Stmt} {t u:TS} {e:Expr} {te:TE} {pos:Pos}
noncomputable def MM:TS:=fun D σ H=>D.nx σ H
noncomputable def RL (t u:TS):TS:=fun D σ H=>t { D with nx:=u D } σ H
theorem aP:xE X [] MM:=fun _ _ σ H _ I h=>wpAny_execs_nil ⟨σ,H,I,h⟩
theorem a7 (h1:PS X st t) (h2:xE X rest u):xE X (st :: rest) (RL t u):=by
 intro pins s σ H D I h
 refine wpAny_execs_cons (cg (h1 pins s σ H { D with nx:=u D } I h) fun f s1 q=>?_)
 cases f with
 | next=>
   obtain ⟨σ',H',I',q⟩:=q
   exact h2 pins s1 σ' H' D I' q
 | ret v=>exact q
 | brk=>exact q
 | cont=>exact q
theorem ag (h1:PS X st t):xE X [st] t:=by
 intro pins s σ H D I h
 refine wpAny_execs_cons (cg (h1 pins s σ H D I h) fun f s1 q=>?_)
 cases f with
 | next=>exact wpAny_execs_nil q
 | ret v=>exact q
 | brk=>exact q
 | cont=>exact q
noncomputable def RM:TS:=fun D σ H=>D.bk σ H
noncomputable def Vo:TS:=fun D σ H=>D.ct σ H
theorem Inv.quiet {pins:List (Addr×Obj)} {σ:St} {H:Hp} {s:Shared} (I:Inv X pins σ H s):interactive X.env=false:=by simp [interactive,I.ok.kind]
noncomputable def MN (te:TE):TS:=fun D σ H=>te σ H fun _ H1=>D.nx σ H1
theorem fo (he:PE X e te) (hs:swapsWith e none pos.line X.env=pure false:=by rfl):PS X (.Expr e pos) (MN te):=by
 intro pins s σ H D I h
 exact wpAny_Expr_any (cg (he pins s σ H _ I h) fun v s1 ⟨x,H1,I1,r1,q1⟩=>⟨σ,H1,I1,q1⟩) I.quiet hs
noncomputable def RN (te:TE):TS:=fun D σ H=>te σ H D.rt
theorem aF (he:PE X e te):PS X (.Return (some e) pos) (RN te):=by
 intro pins s σ H D I h
 exact wpAny_Return_some (cg (he pins s σ H _ I h) fun v s1 ⟨x,H1,I1,r1,q1⟩=>⟨x,σ,H1,I1,r1,q1⟩)
noncomputable def Vp:TS:=fun D _ H=>D.rt .non H
noncomputable def RO (c:TT) (t u:TS):TS:=fun D σ H=>c σ H fun b H1=>if b=true then t D σ H1 else u D σ H1
theorem bV {c:Expr} {a b:List Stmt} {tc:TT} (hc:PT X c tc) (ha:xE X a t) (hb:xE X b u):PS X (.If c a b pos) (RO tc t u):=by
 intro pins s σ H D I h
 refine wpAny_If (cg (hc pins s σ H _ I h) fun d s1 ⟨H1,I1,q1⟩=>?_)
 cases d with
 | true=>exact ha pins s1 σ H1 D I1 q1
 | false=>exact hb pins s1 σ H1 D I1 q1
noncomputable def K0:TS:=fun _ _ _=>False
theorem iM {Y0:List Stmt}:xE X Y0 K0:=fun _ _ _ _ _ _ h=>h.elim
end
noncomputable abbrev TG:=V→St→Hp→(St→Hp→Prop)→Prop
noncomputable abbrev K1:=List V→St→Hp→(St→Hp→Prop)→Prop
noncomputable def PG (X:Cx) (target:Expr) (t:TG):Prop:=
 ∀ (pins:List (Addr×Obj)) (s:Shared) (σ:St) (H:Hp) (v:V) (u:Value) (Q:St→Hp→Prop),Inv X pins σ H s→RelV v u→t v σ H Q →
  wpAny (model X.prog X.w) X.A (assign target X.env u) (fun _ s'=>∃ σ' H',Inv X pins σ' H' s'∧Q σ' H') X.xe s
noncomputable def Qm (X:Cx) (ts:List Expr) (t:K1):Prop:=
 ∀ (pins:List (Addr×Obj)) (s:Shared) (σ:St) (H:Hp) (vs:List V) (us:List Value) (Q:St→Hp→Prop),Inv X pins σ H s→Vals vs us→t vs σ H Q →
  wpAny (model X.prog X.w) X.A (assignInOrder ((assignEach ts X.env).map (·.2)) us) (fun _ s'=>∃ σ' H',Inv X pins σ' H' s'∧Q σ' H') X.xe s
noncomputable abbrev GU:=V→V→V→Hp→(Hp→Prop)→Prop
noncomputable def MO (X:Cx) (t:GU):Prop:=
 ∀ (pins:List (Addr×Obj)) (s:Shared) (σ:St) (H:Hp) (o i v:V) (ov iv u:Value) (Q:Hp→Prop),Inv X pins σ H s→RelV o ov→RelV i iv→RelV v u→t o i v H Q →
  wpAny (model X.prog X.w) X.A (setItem ov iv u) (fun _ s'=>∃ H',Inv X pins σ H' s'∧Q H') X.xe s
noncomputable abbrev LU:=V→V→Hp→VK→Prop
noncomputable def RP (X:Cx) (op:Operator) (t:LU):Prop:=
 ∀ (pins:List (Addr×Obj)) (s:Shared) (σ:St) (H:Hp) (x y:V) (v u:Value) (Q:VK),Inv X pins σ H s→RelV x v→RelV y u→t x y H Q →
  wpAny (model X.prog X.w) X.A (inplaceOp op v u) (EP X pins σ Q) X.xe s
section
variable {X:Cx} {pos:Pos}
noncomputable def jh (i:Nat):TG:=fun v σ H Q=>Q (σ.set i (some v)) H
theorem aG {i:Nat} {x:Str} (hN:X.N.Nodup) (hi:X.N[i]?=some x) (hx:Loc X.env.scope x) (hf:X.fn x=true∨X.env.scope.names.lookup x=some .local:=by first | exact .inl rfl | exact .inr rfl | assumption):PG X (.Name x pos) (jh i):=by
 intro pins s σ H v u Q I r h
 exact wpAny_assign_Name (q8 I hN hi hx r (fun s' I'=>⟨_,H,I',h⟩) hf)
noncomputable def MP:K1:=fun vs σ H Q=>vs=[]∧Q σ H
noncomputable def Ei (t:TG) (u:K1):K1:=fun vs σ H Q=>∃ v r,vs=v :: r∧t v σ H fun σ' H'=>u r σ' H' Q
theorem ji:Qm X [] MP:=by
 intro pins s σ H vs us Q I r h
 obtain ⟨e,h⟩:=h
 subst e
 cases r
 exact assignInOrder_nil ⟨σ,H,I,h⟩
theorem bW {e:Expr} {es:List Expr} {t:TG} {u:K1} (h1:PG X e t) (h2:Qm X es u)
 (hs:(assignEach (e :: es) X.env).map (·.2)=assign e X.env :: (assignEach es X.env).map (·.2):=by rfl):Qm X (e :: es) (Ei t u):=by
 intro pins s σ H vs us Q I r h
 obtain ⟨v,vr,e1,h⟩:=h
 subst e1
 cases r with
 | cons r rr=>
   rw [hs]
   refine assignInOrder_cons (cg (h1 pins s σ H _ _ _ I r h) fun _ s1 ⟨σ1,H1,I1,q1⟩=>?_)
   exact h2 pins s1 σ1 H1 _ _ Q I1 rr q1
noncomputable def MQ (K:PySem.W.Frag) (n:Nat) (t:K1):TG:=fun v σ H Q=>∃ a xs,v=.ref a∧jF K H a xs∧xs.length=n∧t xs σ H Q
theorem kM {es:List Expr} {k:Nat} {t:K1} {n:Nat} (hc:X.calm=true) (h:Qm X es t)
 (hn:(assignEach es X.env).length=n:=by rfl) (xG:(assignEach es X.env).findIdx? (·.1)=none:=by rfl):PG X (.Tuple es k pos) (MQ X.K n t):=by
 intro pins s σ H v u Q I r hw
 obtain ⟨a,xs,e1,hq,hl,hw⟩:=hw
 subst e1
 cases r
 obtain ⟨its,rv,ht,hz⟩:=I.tuple hq
 refine assign_Tuple_tuple (I.ok.hd hc) ht (by simp [hn,← hl,rv.length]) xG fun h' hx=>?_
 have I1:Inv X pins σ H { s with heap:=h' }:=I.kept (t':=s.toks) fun b o e=>hx b o (Nat.ne_of_lt (Heap.lt_size e)) e
 exact h pins _ σ H xs _ Q I1 (by simpa using rv) hw
noncomputable def RQ (to ti:TE) (t:GU):TG:=fun v σ H Q=>to σ H fun o H1=>ti σ H1 fun i H2=>t o i v H2 fun H3=>Q σ H3
theorem zQ {o i:Expr} {to ti:TE} {t:GU} (ho:PE X o to) (hi:PE X i ti) (hs:MO X t)
 (ha:∀ v,assign (.Subscript o i pos) X.env v=(do
   let ov ← holding [v] (eval o X.env)
   let iv ← holding [v,ov] (eval i X.env)
   standAt pos
   holding [v,ov,iv] (setItem ov iv v)
   release [v,ov,iv] []):=by intro _; rfl):PG X (.Subscript o i pos) (RQ to ti t):=by
 intro pins s σ H v u Q I r h
 rw [ha]
 refine wpAny_bind (wpAny_holding (cg (ho pins s σ H _ I h) fun ov s1 ⟨x,H1,I1,r1,q1⟩=>?_))
 refine wpAny_bind (wpAny_holding (cg (hi pins s1 σ H1 _ I1 q1) fun iv s2 ⟨y,H2,I2,r2,q2⟩=>?_))
 refine wpAny_bind (wpAny_standAt (wpAny_bind (wpAny_holding (cg (hs pins s2 σ H2 x y v ov iv u _ I2 r1 r2 r q2) fun _ s3 ⟨H3,I3,q3⟩=>?_))))
 exact wpAny_release ⟨σ,H3,I3,q3⟩
noncomputable def MR (te:TE) (g:TG):TS:=fun D σ H=>te σ H fun x H1=>g x σ H1 D.nx
theorem qa {tg e:Expr} {te:TE} {g:TG} (he:PE X e te) (hg:PG X tg g) (hs:swapsWithSole [tg] e pos.line X.env=pure false:=by rfl) (hw:swappedStores [tg] e X.env=pure none:=by rfl)
 (h1:(assignEach [tg] X.env).map (·.2)=[assign tg X.env]:=by rfl):PS X (.Assign [tg] e pos) (MR te g):=by
 intro pins s σ H D I h
 refine wpAny_Assign_stores (cg (he pins s σ H _ I h) fun v s1 ⟨x,H1,I1,r1,q1⟩=>?_) hs hw
 rw [h1]
 exact cg (hg pins s1 σ H1 x v _ I1 r1 q1) fun _ s2 q=>q
theorem av {i:Nat} {x:Str} {e:Expr} {te:TE} {pos':Pos} (hN:X.N.Nodup) (hi:X.N[i]?=some x) (hx:Loc X.env.scope x) (he:PE X e te) (hs:swapsWith e (some (.Name x pos')) pos.line X.env=pure false:=by rfl) (hf:X.fn x=true∨X.env.scope.names.lookup x=some .local:=by first | exact .inl rfl | exact .inr rfl | assumption) :
 PS X (.Assign [.Name x pos'] e pos) (MR te (jh i)):=by
 intro pins s σ H D I h
 refine wpAny_Assign_Name (cg (he pins s σ H _ I h) fun v s1 ⟨y,H1,I1,r1,q1⟩=>?_) hs
 exact q8 I1 hN hi hx r1 (fun s2 I2=>⟨_,H1,I2,q1⟩) hf
noncomputable def Y1 (i j:Nat) (ta:TA):TS:=fun D σ H=>ta σ H fun vs H1=>∃ v w,vs=[v,w]∧D.nx ((σ.set i (some v)).set j (some w)) H1
noncomputable def RT (i:Nat) (te:TE) (ti:LU):TS:=fun D σ H=>∃ x,σ[i]?=some (some x)∧te σ H fun y H1=>ti x y H1 fun z H2=>D.nx (σ.set i (some z)) H2
theorem Ej {i:Nat} {x:Str} {e:Expr} {te:TE} {op:Operator} {ti:LU} {pos':Pos} (hN:X.N.Nodup) (hi:X.N[i]?=some x) (hx:Loc X.env.scope x) (he:PE X e te) (ho:RP X op ti) (hf:X.fn x=true∨X.env.scope.names.lookup x=some .local:=by first | exact .inl rfl | exact .inr rfl | assumption) :
 PS X (.AugAssign (.Name x pos') op e pos) (RT i te ti):=by
 intro pins s σ H D I h
 obtain ⟨v,e1,h⟩:=h
 obtain ⟨m,hn,hl⟩:=I.loc
 have MS:LR X.env.scope x:=by rcases hx with k | k; exact .inl k; exact .inr (.inl k)
 obtain ⟨u,r,l⟩:=hl i x v hi e1 MS
 refine wpAny_AugAssign_Name ?_
 have go:wpAny (model X.prog X.w) X.A (eval e X.env) (fun w s₂=>wpAny (model X.prog X.w) X.A (inplaceOp op u w) (fun r s₃=>wpAny (model X.prog X.w) X.A (storeName X.env x r) (fun _=>SP X pins D .next) X.xe s₃) X.xe s₂) X.xe s:=by
  refine cg (he pins s σ H _ I h) fun w s1 ⟨y,H1,I1,r1,q1⟩=>?_
  refine cg (ho pins s1 σ H1 v y u w _ I1 r r1 q1) fun z s2 ⟨zv,H2,I2,r2,q2⟩=>?_
  exact q8 I2 hN hi hx r2 (fun s3 I3=>⟨_,H2,I3,q2⟩) hf
 rcases l with ⟨hk,hm⟩ | ⟨hk,c,hc,lZ⟩
 ·exact wpAny_loadName_local I.ok.kind hk hn hm go
 ·rcases hk with hk | hk
  ·exact wpAny_loadName_cell I.ok.kind hk hc lZ go
  ·rcases hx with k | k
   ·have:X.env.scope.names.lookup x=some .free:=hk
    rw [k] at this; cases this
   ·have:X.env.scope.names.lookup x=some .free:=hk
    rw [k] at this; cases this
noncomputable def Vq (to ti te:TE) (RU:V→V→Hp→VK→Prop) (Y2:LU) (RV:GU):TS:=fun D σ H=>to σ H fun o H1=>ti σ H1 fun i H2=>RU o i H2 fun x H3=>te σ H3 fun y H4=>Y2 x y H4 fun z H5=>RV o i z H5 fun H6=>D.nx σ H6
noncomputable def Y3 (X:Cx) (t:V→V→Hp→VK→Prop):Prop:=
 ∀ (pins:List (Addr×Obj)) (s:Shared) (σ:St) (H:Hp) (o i:V) (ov iv:Value) (Q:VK),Inv X pins σ H s→RelV o ov→RelV i iv→t o i H Q →
  wpAny (model X.prog X.w) X.A (getItem ov iv) (EP X pins σ Q) X.xe s
noncomputable def Y4 (f:Int→Int→Int):LU:=fun x y H Q=>∃ i j,x=.int i∧y=.int j∧Q (.int (f i j)) H
theorem K2:RP X .Add (Y4 fun i j=>i + j):=by
 intro pins s σ H x y v u Q I r1 r2 h
 obtain ⟨i,j,e1,e2,q⟩:=h
 subst e1; subst e2
 obtain ⟨t,rfl⟩:=r1
 obtain ⟨t',rfl⟩:=r2
 exact iadd_int ⟨.int _,H,I.tok _,⟨_,rfl⟩,q⟩
end
section
variable {X:Cx} {pos:Pos}
noncomputable def K3 (c:TT) (tb:TS):TS:=fun D σ H=>∃ W:Nat→St→Hp→Prop,(∃ m,W m σ H)∧∀ m σ H,W m σ H →
 c σ H fun b H1=>if b=true then ∃ N:St→Hp→Prop,(∀ σ' H',N σ' H'→∃ m',m' < m∧W m' σ' H')∧tb { D with nx:=N,ct:=N,bk:=D.nx } σ H1 else D.nx σ H1
theorem qb {c:Expr} {body:List Stmt} {tc:TT} {tb:TS} (hp:PassesOwn (model X.prog X.w) X.A X.env X.xe) (hc:PT X c tc) (hb:xE X body tb):PS X (.While c body [] pos) (K3 tc tb):=by
 intro pins s σ H D I h
 obtain ⟨W,⟨m0,w0⟩,turn⟩:=h
 refine wpAny_While (codeAny_whileLoop (fun n s'=>∃ σ' H',Inv X pins σ' H' s'∧W n σ' H') ?_ m0 ⟨σ,H,I,w0⟩)
 rintro n s1 ⟨σ1,H1,I1,w1⟩
 refine wpAny_passesOwn hp (cg (hc pins s1 σ1 H1 _ I1 (turn n σ1 H1 w1)) fun b s2 ⟨H2,I2,q2⟩=>?_)
 cases b with
 | true=>
   obtain ⟨N,hN,q2⟩:=q2
   rw [if_pos rfl]
   refine wpAny_passesOwn hp (cg (hb pins s2 σ1 H2 _ I2 q2) fun f s3 q3=>?_)
   cases f with
   | next=>
     obtain ⟨σ3,H3,I3,n3⟩:=q3
     obtain ⟨m',hm,w3⟩:=hN σ3 H3 n3
     exact ⟨m',hm,σ3,H3,I3,w3⟩
   | cont=>
     obtain ⟨σ3,H3,I3,n3⟩:=q3
     obtain ⟨m',hm,w3⟩:=hN σ3 H3 n3
     exact ⟨m',hm,σ3,H3,I3,w3⟩
   | brk=>exact q3
   | ret v=>exact q3
 | false=>
   rw [if_neg Bool.false_ne_true]
   exact wpAny_execs_nil ⟨σ1,H2,I2,q2⟩
end
set_option genInjectivity false in
set_option genSizeOfSpec false in
structure It where
 go:Nat→Hp→Prop
 xr:Nat→Hp→V→Hp→Prop
 stop:Nat→Hp→Prop
noncomputable def ng (X:Cx) (pins:List (Addr×Obj)) (H:Hp) (b:Addr):Prop:=
 H b=none∧b≠X.env.locals∧b∉X.fs∧(b∈X.ex∨X.s₀.heap.objs.size≤b)∧(∀ x c,X.env.cells.lookup x=some c→c≠b)∧∀ p∈X.pn++pins,p.1≠b
theorem Inv.Ek {X:Cx} {pins:List (Addr×Obj)} {σ:St} {H H':Hp} {s:Shared} {b:Addr} (I:Inv X pins σ H s) (hb:s.heap.objs.size≤b) (hn:H' b=none):ng X pins H' b:=by
 refine ⟨hn,Nat.ne_of_gt (Nat.lt_of_lt_of_le I.lt hb),I.RD hb,.inr (Nat.le_trans I.sz hb),fun x c e z=>?_,fun p hp z=>?_⟩
 ·obtain ⟨v,q⟩:=I.cell x c e
  exact absurd (Nat.lt_of_lt_of_le q.lt (by rw [z]; exact hb)) (Nat.lt_irrefl _)
 ·exact absurd (Nat.lt_of_lt_of_le (Heap.lt_size (I.pin p hp).1) (by rw [z]; exact hb)) (Nat.lt_irrefl _)
set_option genInjectivity false in
set_option genSizeOfSpec false in
structure Turn (P:Program) (w:World) (K:PySem.W.Frag) (tg:Expr) (J:It) (fp:List Addr) (it:Addr) (tn:Nat→Heap→Prop):Prop where
 mem:it∈fp
 obj:∀ i h,tn i h→∀ b∈fp,∃ o,h.get? b=some o∧∀ v,o.data≠.cell v
 keep:∀ i h h',tn i h→(∀ b∈fp,∀ o,h.get? b=some o→h'.get? b=some o)→tn i h'
 item:∀ (X:Cx),X.prog=P→X.w=w→X.K=K→X.calm=true→∀ (i:Nat) (pins:List (Addr×Obj)) (s:Shared) (σ:St) (H:Hp) (E:Value→Shared→Prop),Inv X pins σ H s→(∀ b∈fp,ng X pins H b)→tn i s.heap→J.go i H →
  wpAny (model P w) X.A (pyNext (.ref it)) (fun r s1=>∃ u,r=some u ∧
   wpAny (model P w) X.A (letOwnedTupleGo tg (.ref it) u) (fun _ s2=>∃ x H',Inv X pins σ H' s2∧RelV x u∧J.xr i H x H'∧tn (i + 1) s2.heap∧∀ b∈fp,H' b=none) E s1) E s
 done:∀ (X:Cx),X.prog=P→X.w=w→X.K=K→X.calm=true→∀ (i:Nat) (pins:List (Addr×Obj)) (s:Shared) (σ:St) (H:Hp) (E:Value→Shared→Prop),Inv X pins σ H s→(∀ b∈fp,ng X pins H b)→tn i s.heap→J.stop i H →
   wpAny (model P w) X.A (pyNext (.ref it)) (fun r s1=>r=none∧Inv X pins σ H s1) E s
 self:∀ (A:Around) (i:Nat) (s:Shared) (Q:Value→Shared→Prop) (E:Value→Shared→Prop),tn i s.heap→Q (.ref it) s→wpAny (model P w) A (pyIter (.ref it)) Q E s
noncomputable abbrev TI:=St→Hp→(It→Hp→Prop)→Prop
noncomputable def Qn (X:Cx) (pins:List (Addr×Obj)) (σ:St) (tg:Expr) (R:It→Hp→Prop) (LV:Value) (s2:Shared):Prop:=
 ∃ (it:Addr) (fp:List Addr) (tn:Nat→Heap→Prop) (J:It) (H':Hp),LV=.ref it∧Inv X pins σ H' s2∧Turn X.prog X.w X.K tg J fp it tn∧tn 0 s2.heap∧(∀ b∈fp,ng X pins H' b)∧R J H'
noncomputable def PI (X:Cx) (tg iter:Expr) (wi:TI):Prop:=
 ∀ (pins:List (Addr×Obj)) (s:Shared) (σ:St) (H:Hp) (R:It→Hp→Prop),Inv X pins σ H s→wi σ H R →
  wpAny (model X.prog X.w) X.A (eval iter X.env) (fun v s1=>wpAny (model X.prog X.w) X.A (pyIter v) (Qn X pins σ tg R) X.xe s1) X.xe s
theorem BO {M:Model} {A:Around} {E:Value→Shared→Prop} {s:Shared} {tg:Expr} {it:Addr} {u:Value} {o:Obj} {n:String} {vs:Array Value} {Q:Unit→Shared→Prop} (ho:s.heap.get? it=some o) (hc:o.cls=.type n) (hd:o.data=.fields vs)
 (hn:["enumerate","zip","dict_itemiterator","dict_reverseitemiterator","odict_iterator","itertools.zip_longest","itertools.pairwise"].contains n=false) (hQ:Q () s):wpAny M A (letOwnedTupleGo tg (.ref it) u) Q E s:=by
 unfold letOwnedTupleGo
 cases tg <;> first
  | exact wpAny_pure hQ
  | (cases u <;> first
      | exact wpAny_pure hQ
      | (refine wpAny_bind (wpAny_load ho ?_)
         rw [hc,hd]
         show wpAny M A (if (["enumerate","zip","dict_itemiterator","dict_reverseitemiterator","odict_iterator","itertools.zip_longest","itertools.pairwise"].contains n && vs[0]? == some (rawInt _))=true then _ else _) Q E s
         rw [if_neg (by intro h; rw [hn,Bool.false_and] at h; cases h)]
         exact wpAny_pure hQ))
noncomputable def LW (K:PySem.W.Frag) (a:Addr):It:=
 ⟨fun i H=>∃ xs x,aK K H a xs∧xs[i]?=some x,fun i H x H'=>H'=H∧∀ xs,aK K H a xs→xs[i]?=some x,fun i H=>∃ xs,aK K H a xs∧xs.length≤i⟩
noncomputable def Y5 (K:PySem.W.Frag) (a:Addr):It:=
 ⟨fun i H=>∃ xs x,jF K H a xs∧xs[i]?=some x,fun i H x H'=>H'=H∧∀ xs,jF K H a xs→xs[i]?=some x,fun i H=>∃ xs,jF K H a xs∧xs.length≤i⟩
noncomputable def J1 (lo:Int) (n:Nat):It:=⟨fun i _=>i < n,fun i H x H'=>H'=H∧x=.int (lo + i),fun i _=>n≤i⟩
theorem Cy {P:Program} {w:World} {K:PySem.W.Frag} {tg:Expr} (a it:Addr):Turn P w K tg (LW K a) [it] it (fun i h=>h.IsListIter it a i) where
 mem:=by simp
 obj:=fun i h st b hb=>by
  have e:b=it:=by simpa using hb
  subst e
  obtain ⟨o,e,c,d⟩:=st
  exact ⟨o,e,fun v z=>by rw [d] at z; cases z⟩
 keep:=fun i h h' st k=>st.at fun o e=>k it (by simp) o e
 item:=by
  intro X hP hw hK hc i pins s σ H E I hf st hg
  subst hP hw hK
  obtain ⟨xs,x,hq,hx⟩:=hg
  obtain ⟨its,rv,p,hz⟩:=I.list hq
  obtain ⟨u,hu,ru⟩:=rv.get hx
  obtain ⟨f0,f1,f2,f3,f4,f5⟩:=hf it (by simp)
  refine wpAny_pyNext_list_item st p.isList (x:=u) (by simpa using hu) fun h' zC sb=>?_
  have I1:Inv X pins σ H { s with heap:=h' }:=I.turned (t':=s.toks) (fun b o hb e=>(sb.2 b hb).trans e) f0 f1 f3 f4 f5
  obtain ⟨o,e,c,d⟩:=id zC
  exact ⟨u,rfl,BO (s:={ s with heap:=h' }) e c d (by decide) ⟨x,H,I1,ru,⟨rfl,fun ys hy=>by rw [I.xF hy hq]; exact hx⟩,zC,fun b hb=>(hf b hb).1⟩⟩
 done:=by
   intro X hP hw hK hc i pins s σ H E I hf st hg
   subst hP hw hK
   obtain ⟨xs,hq,hx⟩:=hg
   obtain ⟨its,rv,p,hz⟩:=I.list hq
   obtain ⟨f0,f1,f2,f3,f4,f5⟩:=hf it (by simp)
   have hl:=rv.length
   exact wpAny_pyNext_list_end (I.ok.hd hc) st p.isList (by simp; omega) fun h' eb=>⟨rfl,I.turned (t':=s.toks) (fun b o hb e=>eb b o hb e) f0 f1 f3 f4 f5⟩
 self:=fun _ _ _ _ _ st h=>wpAny_pyIter_listiter st h
theorem zR {P:Program} {w:World} {K:PySem.W.Frag} {tg:Expr} (it:Addr) (lo:Int) (n:Nat):Turn P w K tg (J1 lo n) [it] it (fun i h=>IsRangeIter h it (lo + (i:Nat) * 1) ((n:Int) - (i:Nat)) 1) where
 mem:=by simp
 obj:=fun i h st b hb=>by
  have e:b=it:=by simpa using hb
  subst e
  exact ⟨_,st,fun v z=>by
   have z':Data.fields _=Data.cell v:=z
   cases z'⟩
 keep:=fun i h h' st k=>k it (by simp) _ st
 item:=by
  intro X hP hw hK hc i pins s σ H E I hf st hg
  subst hP hw hK
  obtain ⟨f0,f1,f2,f3,f4,f5⟩:=hf it (by simp)
  have W:=Walks.range (prog:=X.prog) (w:=X.w) (I.ok.hd hc) it lo 1 n
  refine W.item i s _ _ hg st fun v h' tk hv zC kk=>?_
  obtain ⟨t,rfl⟩:=hv
  have I1:Inv X pins σ H { s with heap:=h',toks:=tk }:=I.turned (fun b o hb e=>kk b o (by simpa using hb) e) f0 f1 f3 f4 f5
  refine ⟨_,rfl,BO (s:={ s with heap:=h',toks:=tk }) (n:="range_iterator") zC rfl rfl (by decide) ⟨.int (lo + i),H,I1,⟨t,?_⟩,⟨rfl,rfl⟩,zC,fun b hb=>(hf b hb).1⟩⟩
  rw [Int.mul_one]
 done:=by
   intro X hP hw hK hc i pins s σ H E I hf st hg
   subst hP hw hK
   obtain ⟨f0,f1,f2,f3,f4,f5⟩:=hf it (by simp)
   exact wpAny_pyNext_range_end (I.ok.hd hc) st (by have:n≤i:=hg; omega) fun h' eb=>⟨rfl,I.turned (t':=s.toks) (fun b o hb e=>eb b o hb e) f0 f1 f3 f4 f5⟩
 self:=fun _ _ _ _ _ st h=>wpAny_pyIter_rangeiter st h
end L2
namespace L2
open PySem PySem.Spec PyProof.Rows
section
variable {X:Cx} {tg:Expr}
noncomputable def MT (K:PySem.W.Frag) (tl:TE):TI:=fun σ H R=>tl σ H fun x H1=>∃ a,x=.ref a∧(∃ xs,aK K H1 a xs)∧R (LW K a) H1
noncomputable def Y6 (K:PySem.W.Frag) (tl:TE):TI:=fun σ H R=>tl σ H fun x H1=>∃ a,x=.ref a∧(∃ xs,jF K H1 a xs)∧R (Y5 K a) H1
theorem bh {l:Expr} {tl:TE} (hl:PE X l tl):PI X tg l (MT X.K tl):=by
 intro pins s σ H R I h
 refine cg (hl pins s σ H _ I h) fun v s1 ⟨x,H1,I1,r1,q1⟩=>?_
 obtain ⟨a,e,⟨xs,hq⟩,q⟩:=q1
 subst e
 cases r1
 obtain ⟨its,rv,p,hz⟩:=I1.list hq
 refine wpAny_pyIter_list p.isList ?_
 refine ⟨s1.heap.objs.size,[s1.heap.objs.size],_,_,H1,rfl,I1.kept (t':=s1.toks) fun b o e=>Heap.get?_push_of_some _ e,Cy a _,⟨_,Heap.get?_push_size _ rfl,rfl,rfl⟩,fun b hb=>?_,q⟩
 have e:b=s1.heap.objs.size:=by simpa using hb
 subst e
 exact I1.Ek (Nat.le_refl _) (I1.bt.fresh (Nat.le_refl _))
theorem xH {pins:List (Addr×Obj)} {σ:St} {H:Hp} {s:Shared} {R:It→Hp→Prop} {E:Value→Shared→Prop} {lo hi:Int} {t u v:Tok} {tk:Nat} (I:Inv X pins σ H s) (h1:-(2 ^ 62)≤lo) (h2:lo < 2 ^ 62) (h3:-(2 ^ 62)≤hi) (h4:hi < 2 ^ 62)
 (q:R (J1 lo (hi - lo).toNat) H):wpAny (model X.prog X.w) X.A (pyIter (.ref s.heap.objs.size)) (Qn X pins σ tg R) E { s with heap:=s.heap.push { cls:=.type "range",data:=.fields #[.int lo t,.int hi u,.int 1 v] },toks:=tk }:=by
 refine wpAny_pyIter_range (IsRange.new ..) (small_one h1 h2 h3 h4) ?_
 have I1:Inv X pins σ H { s with heap:=s.heap.push { cls:=.type "range",data:=.fields #[.int lo t,.int hi u,.int 1 v] },toks:=tk }:=I.kept fun b o e=>Heap.get?_push_of_some _ e
 refine ⟨(s.heap.push { cls:=.type "range",data:=.fields #[.int lo t,.int hi u,.int 1 v] }).objs.size,[(s.heap.push { cls:=.type "range",data:=.fields #[.int lo t,.int hi u,.int 1 v] }).objs.size],_,_,H,rfl,
  I1.kept (t':=tk) fun b o e=>Heap.get?_push_of_some _ e,zR _ lo (hi - lo).toNat,?_,fun b hb=>?_,q⟩
 ·have e1:lo + ((0:Nat):Int) * 1=lo:=by simp
  have e2:(((hi - lo).toNat:Nat):Int) - ((0:Nat):Int)=Builtin.Range.rangeSize lo hi 1:=by rw [rangeSize_one]; split <;> omega
  show IsRangeIter _ _ (lo + ((0:Nat):Int) * 1) ((((hi - lo).toNat:Nat):Int) - ((0:Nat):Int)) 1
  rw [e1,e2]
  exact Heap.get?_push_size _ rfl
 ·have e:b=(s.heap.push { cls:=.type "range",data:=.fields #[.int lo t,.int hi u,.int 1 v] }).objs.size:=by simpa using hb
  subst e
  exact I1.Ek (Nat.le_refl _) (I1.bt.fresh (Nat.le_refl _))
noncomputable def MU (ta:TA):TI:=fun σ H R=>ta σ H fun vs H1=>∃ j:Int,vs=[.int j]∧-(2 ^ 62)≤j∧j < 2 ^ 62∧R (J1 0 j.toNat) H1
noncomputable def MV (ta:TA):TI:=fun σ H R=>ta σ H fun vs H1=>∃ i j:Int,vs=[.int i,.int j]∧(-(2 ^ 62)≤i∧i < 2 ^ 62∧-(2 ^ 62)≤j∧j < 2 ^ 62)∧R (J1 i (j - i).toNat) H1
theorem cC {a:Expr} {ta:TA} {p pos:Pos} (hg:Gl X "range") (hm:X.mg "range"=none) (ha:PA X [a] ta) (hs:starEach [a] X.env=[(false,eval a X.env)]:=by rfl):PI X tg (.Call (.Name "range" p) [a] [] pos) (MU ta):=by
 intro pins s σ H R I h
 refine Call_ (o4 I hg hm boot_range (PyProof.Rows.callWith_type1 (cg (ha pos pins s σ H _ I h) fun us s1 ⟨vs,H1,I1,r1,q1⟩=>?_) hs rfl))
 obtain ⟨j,e,q1,q2,q⟩:=q1
 subst e
 cases r1 with
 | cons r rr=>
   cases rr
   obtain ⟨t,rfl⟩:=r
   exact call_range_1 (xH I1 (by omega) (by omega) q1 q2 (by simpa using q))
theorem Cz {a b:Expr} {ta:TA} {p pos:Pos} (hg:Gl X "range") (hm:X.mg "range"=none) (ha:PA X [a,b] ta) (hs:starEach [a,b] X.env=[(false,eval a X.env),(false,eval b X.env)]:=by rfl) (J2:starEach [b] X.env=[(false,eval b X.env)]:=by rfl) :
 PI X tg (.Call (.Name "range" p) [a,b] [] pos) (MV ta):=by
 intro pins s σ H R I h
 refine Call_ (o4 I hg hm boot_range (PyProof.Rows.callWith_type1 (cg (ha pos pins s σ H _ I h) fun us s1 ⟨vs,H1,I1,r1,q1⟩=>?_) (by rw [hs,J2]) (by rw [J2]; rfl)))
 obtain ⟨i,j,e,⟨q1,q2,q3,q4⟩,q⟩:=q1
 subst e
 cases r1 with
 | cons r rr=>
   cases rr with
   | cons r' rr=>
     cases rr
     obtain ⟨t,rfl⟩:=r
     obtain ⟨t',rfl⟩:=r'
     exact call_range_2 (xH I1 q1 q2 q3 q4 q)
noncomputable def RW (wi:TI) (g:TG) (tb:TS):TS:=fun D σ H=>wi σ H fun J H1=>∃ W:Nat→Nat→St→Hp→Prop,(∃ m,W 0 m σ H1)∧∀ i m σ H,W i m σ H →
 (J.stop i H∧D.nx σ H)∨(J.go i H∧∃ N:St→Hp→Prop,(∀ σ' H',N σ' H'→∃ m',m' < m∧W (i + 1) m' σ' H')∧∀ x H',J.xr i H x H'→g x σ H' fun σ2 H2=>tb { D with nx:=N,ct:=N,bk:=D.nx } σ2 H2)
noncomputable def o6 (fp:List Addr) (h:Heap):List (Addr×Obj):=fp.filterMap fun b=>(h.get? b).map fun o=>(b,o)
theorem gU {fp:List Addr} {h:Heap} {b:Addr} {o:Obj} (hb:b∈fp) (e:h.get? b=some o):(b,o)∈o6 fp h:=List.mem_filterMap.mpr ⟨b,hb,by rw [e]; rfl⟩
theorem CA {fp:List Addr} {h:Heap} {p:Addr×Obj} (hp:p∈o6 fp h):p.1∈fp∧h.get? p.1=some p.2:=by
 obtain ⟨b,hb,e⟩:=List.mem_filterMap.mp hp
 cases q:h.get? b with
 | none=>rw [q] at e; cases e
 | some o=>
   rw [q] at e
   have e':(b,o)=p:=Option.some.inj e
   subst e'
   exact ⟨hb,q⟩
theorem Inv.pinned {pins:List (Addr×Obj)} {σ:St} {H:Hp} {s:Shared} {fp:List Addr} (I:Inv X pins σ H s) (hf:∀ b∈fp,ng X pins H b) (ho:∀ b∈fp,∃ o,s.heap.get? b=some o∧∀ v,o.data≠.cell v):Inv X (pins++o6 fp s.heap) σ H s:=
 I.BM fun p hp=>(List.mem_append.mp hp).elim (fun z=>I.pin p (List.mem_append_right _ z)) fun z=>by
  obtain ⟨hb,e⟩:=CA z
  obtain ⟨f0,f1,f2,_⟩:=hf p.1 hb
  obtain ⟨o,e',d⟩:=ho p.1 hb
  rw [e] at e'; cases e'
  exact ⟨e,f0,f1,f2,d⟩
theorem Inv.kO {pins pl:List (Addr×Obj)} {σ:St} {H:Hp} {s:Shared} (I:Inv X (pins++pl) σ H s):Inv X pins σ H s:=I.BM fun p hp=>I.pin p (List.mem_append_right _ (List.mem_append_left _ hp))
theorem bH {iter:Expr} {body:List Stmt} {wi:TI} {g:TG} {tb:TS} {pos:Pos} (hp:PassesOwn (model X.prog X.w) X.A X.env X.xe) (hc:X.calm=true) (hi:PI X tg iter wi) (hg:PG X tg g) (hb:xE X body tb)
 (hs:∀ x,foldedSetIterable iter X.env x=pure x:=by intro _; rfl):PS X (.For tg iter body [] pos) (RW wi g tb):=by
 intro pins s σ H D I h
 refine wpAny_For (cg (hi pins s σ H _ I h) fun v s1 h1=>cg h1 fun LV s2 h2=>?_) hs
 obtain ⟨it,fp,tn,J,H2,e,I2,T,GV,f2,W,⟨m0,w0⟩,turn⟩:=h2
 subst e
 have stat:∀ {H':Hp},(∀ b∈fp,H' b=none)→∀ b∈fp,ng X pins H' b:=fun hn b hb=>⟨hn b hb,(f2 b hb).2⟩
 refine codeAny_forLoop_any (fun n s'=>∃ i σ' H',Inv X pins σ' H' s'∧tn i s'.heap∧(∀ b∈fp,H' b=none)∧W i n σ' H') ?_ m0 ⟨0,σ,H2,I2,GV,fun b hb=>(f2 b hb).1,w0⟩
 rintro n s3 ⟨i,σ3,H3,I3,J3,J4,w3⟩
 rcases turn i n σ3 H3 w3 with ⟨stop,qn⟩ | ⟨go,N,hN,step⟩
 ·refine wpAny_passesOwn hp (cg (T.done X rfl rfl rfl hc i pins s3 σ3 H3 X.xe I3 (stat J4) J3 stop) fun r s4 ⟨hr,I4⟩=>?_)
  subst hr
  exact wpAny_execs_nil ⟨σ3,H3,I4,qn⟩
 ·refine wpAny_passesOwn hp (cg (T.item X rfl rfl rfl hc i pins s3 σ3 H3 X.xe I3 (stat J4) J3 go) fun r s4 ⟨u,hr,h4⟩=>?_)
  subst hr
  refine wpAny_passesOwn hp (cg h4 fun _ s5 ⟨x,H5,I5,r5,y5,El,MX⟩=>?_)
  have MY:=I5.pinned (stat MX) (T.obj _ _ El)
  refine wpAny_passesOwn hp (cg (hg _ s5 σ3 H5 x u _ MY r5 (step x H5 y5)) fun _ s6 ⟨σ6,H6,I6,q6⟩=>?_)
  refine wpAny_passesOwn hp (cg (hb _ s6 σ6 H6 _ I6 q6) fun f s7 q7=>?_)
  have again:∀ {σ7:St} {H7:Hp},Inv X (pins++o6 fp s5.heap) σ7 H7 s7→N σ7 H7→∃ m,m < n∧∃ i σ' H',Inv X pins σ' H' s7∧tn i s7.heap∧(∀ b∈fp,H' b=none)∧W i m σ' H':=fun {σ7 H7} I7 n7=>by
   obtain ⟨m',hm,w7⟩:=hN σ7 H7 n7
   refine ⟨m',hm,i + 1,σ7,H7,I7.kO,T.keep _ _ _ El fun b hb o e=>(I7.pin (b,o) (List.mem_append_right _ (List.mem_append_right _ (gU hb e)))).1,fun b hb=>?_,w7⟩
   obtain ⟨o,e,d⟩:=T.obj _ _ El b hb
   exact (I7.pin (b,o) (List.mem_append_right _ (List.mem_append_right _ (gU hb e)))).2.1
  cases f with
  | next=>obtain ⟨σ7,H7,I7,n7⟩:=q7; exact again I7 n7
  | cont=>obtain ⟨σ7,H7,I7,n7⟩:=q7; exact again I7 n7
  | brk=>obtain ⟨σ7,H7,I7,q7⟩:=q7; exact ⟨σ7,H7,I7.kO,q7⟩
  | ret v=>obtain ⟨x7,σ7,H7,I7,r7,q7⟩:=q7; exact ⟨x7,σ7,H7,I7.kO,r7,q7⟩
end
theorem eQ {K:PySem.W.Frag} {a:Addr} {xs:List V} {g:TG} {tb:TS} {D:Ends} {σ:St} {H:Hp} (Pv:Nat→St→Hp→Prop) (h0:Pv 0 σ H) (hl:∀ i σ H,i≤xs.length→Pv i σ H→aK K H a xs)
 (hs:∀ i x σ H,xs[i]?=some x→Pv i σ H→g x σ H fun σ2 H2=>tb { D with nx:=Pv (i + 1),ct:=Pv (i + 1),bk:=D.nx } σ2 H2) (hd:∀ σ H,Pv xs.length σ H→D.nx σ H) :
 ∃ W:Nat→Nat→St→Hp→Prop,(∃ m,W 0 m σ H)∧∀ i m σ H,W i m σ H →
  ((LW K a).stop i H∧D.nx σ H)∨((LW K a).go i H∧∃ N:St→Hp→Prop,(∀ σ' H',N σ' H'→∃ m',m' < m∧W (i + 1) m' σ' H')∧∀ x H',(LW K a).xr i H x H'→g x σ H' fun σ2 H2=>tb { D with nx:=N,ct:=N,bk:=D.nx } σ2 H2):=by
 refine ⟨fun i m σ H=>m=xs.length - i∧i≤xs.length∧Pv i σ H,⟨xs.length,by simp,Nat.zero_le _,h0⟩,?_⟩
 rintro i m σ H ⟨rfl,hi,p⟩
 have q:=hl i σ H hi p
 by_cases eM:i < xs.length
 ·refine .inr ⟨⟨xs,xs[i],q,by simp [eM]⟩,Pv (i + 1),fun σ' H' p'=>⟨xs.length - (i + 1),by omega,rfl,eM,p'⟩,fun x H' y=>?_⟩
  obtain ⟨e,y⟩:=y
  subst e
  exact hs i x σ _ (y xs q) p
 ·have e:i=xs.length:=by omega
  subst e
  exact .inl ⟨⟨xs,q,Nat.le_refl _⟩,hd σ H p⟩
theorem dz {lo:Int} {n:Nat} {g:TG} {tb:TS} {D:Ends} {σ:St} {H:Hp} (Pv:Nat→St→Hp→Prop) (h0:Pv 0 σ H)
 (hs:∀ i σ H,i < n→Pv i σ H→g (.int (lo + i)) σ H fun σ2 H2=>tb { D with nx:=Pv (i + 1),ct:=Pv (i + 1),bk:=D.nx } σ2 H2) (hd:∀ σ H,Pv n σ H→D.nx σ H) :
 ∃ W:Nat→Nat→St→Hp→Prop,(∃ m,W 0 m σ H)∧∀ i m σ H,W i m σ H →
  ((J1 lo n).stop i H∧D.nx σ H)∨((J1 lo n).go i H∧∃ N:St→Hp→Prop,(∀ σ' H',N σ' H'→∃ m',m' < m∧W (i + 1) m' σ' H')∧∀ x H',(J1 lo n).xr i H x H'→g x σ H' fun σ2 H2=>tb { D with nx:=N,ct:=N,bk:=D.nx } σ2 H2):=by
 refine ⟨fun i m σ H=>m=n - i∧i≤n∧Pv i σ H,⟨n,by simp,Nat.zero_le _,h0⟩,?_⟩
 rintro i m σ H ⟨rfl,hi,p⟩
 by_cases eM:i < n
 ·refine .inr ⟨eM,Pv (i + 1),fun σ' H' p'=>⟨n - (i + 1),by omega,rfl,eM,p'⟩,fun x H' y=>?_⟩
  obtain ⟨e,y⟩:=y
  subst e y
  exact hs i σ _ eM p
 ·have e:i=n:=by omega
  subst e
  exact .inl ⟨Nat.le_refl _,hd σ H p⟩
end L2
namespace L2
open PySem PySem.Spec PyProof.Rows
noncomputable abbrev R2:=V→V→Hp→VK→Prop
noncomputable def n9 (X:Cx) (f:Value→Value→Sem Value) (r:R2):Prop:=
 ∀ (pins:List (Addr×Obj)) (s:Shared) (σ:St) (H:Hp) (x y:V) (v u:Value) (Q:VK),Inv X pins σ H s→RelV x v→RelV y u→r x y H Q →
  wpAny (model X.prog X.w) X.A (f v u) (EP X pins σ Q) X.xe s
noncomputable def RX (X:Cx) (f:Value→Sem Value) (r:V→Hp→VK→Prop):Prop:=
 ∀ (pins:List (Addr×Obj)) (s:Shared) (σ:St) (H:Hp) (x:V) (v:Value) (Q:VK),Inv X pins σ H s→RelV x v→r x H Q →
  wpAny (model X.prog X.w) X.A (f v) (EP X pins σ Q) X.xe s
noncomputable def fK (X:Cx) (f:Value) (r:List V→Hp→VK→Prop):Prop:=
 ∀ (pins:List (Addr×Obj)) (s:Shared) (σ:St) (H:Hp) (xs:List V) (us:List Value) (Q:VK),Inv X pins σ H s→Vals xs us→r xs H Q →
  wpAny (model X.prog X.w) X.A (call f us) (EP X pins σ Q) X.xe s
noncomputable def Y7 (X:Cx) (r:V→Hp→(Bool→Hp→Prop)→Prop):Prop:=
 ∀ (pins:List (Addr×Obj)) (s:Shared) (σ:St) (H:Hp) (x:V) (v:Value) (Q:Bool→Hp→Prop),Inv X pins σ H s→RelV x v→r x H Q →
  wpAny (model X.prog X.w) X.A (truthy v) (TP X pins σ Q) X.xe s
noncomputable def Qo (r:R2) (ta tb:TE):TE:=fun σ H Q=>ta σ H fun x H1=>tb σ H1 fun y H2=>r x y H2 Q
noncomputable def Y8 (r:V→Hp→VK→Prop) (ta:TE):TE:=fun σ H Q=>ta σ H fun x H1=>r x H1 Q
noncomputable def rI (C:Int→Int→Prop) (g:Int→Int→V):R2:=fun x y H Q=>∃ i j,x=.int i∧y=.int j∧C i j∧Q (g i j) H
noncomputable def J5 (g:Int→Int→V):R2:=fun x y H Q=>∃ i j,x=.int i∧y=.int j∧Q (g i j) H
noncomputable def rU (g:Int→V):V→Hp→VK→Prop:=fun x H Q=>∃ i,x=.int i∧Q (g i) H
section
variable {X:Cx} {a b c:Expr} {ta tb tc:TE} {pos:Pos}
theorem K4 (ha:PE X a ta) (hb:PE X b tb) {pins:List (Addr×Obj)} {s:Shared} {σ:St} {H:Hp} {R:V→V→Hp→Prop} (I:Inv X pins σ H s)
 (h:ta σ H fun x H1=>tb σ H1 fun y H2=>R x y H2) {Q:Value→Shared→Prop} {f:Value→Value→Sem Value}
 (hf:∀ v u s2 x y H2,Inv X pins σ H2 s2→RelV x v→RelV y u→R x y H2→wpAny (model X.prog X.w) X.A (f v u) Q X.xe s2) :
 wpAny (model X.prog X.w) X.A (eval a X.env) (fun v s₁=>wpAny (model X.prog X.w) X.A (eval b X.env) (fun u s₂=>wpAny (model X.prog X.w) X.A (f v u) Q X.xe s₂) X.xe s₁) X.xe s:=by
 refine cg (ha pins s σ H _ I h) fun v s1 ⟨x,H1,I1,r1,q1⟩=>?_
 refine cg (hb pins s1 σ H1 _ I1 q1) fun u s2 ⟨y,H2,I2,r2,q2⟩=>?_
 exact hf v u s2 x y H2 I2 r1 r2 q2
theorem aI {op:Operator} {r:R2} (ho:n9 X (binaryOp op) r) (ha:PE X a ta) (hb:PE X b tb):PE X (.BinOp a op b pos) (Qo r ta tb):=by
 intro pins s σ H Q I h
 exact wpAny_BinOp (K4 ha hb I h fun v u s2 x y H2 I2 rx ry q=>ho pins s2 σ H2 x y v u Q I2 rx ry q)
theorem MZ {op:UnaryOp} {r:V→Hp→VK→Prop} (ho:RX X (unaryOp op) r) (ha:PE X a ta):PE X (.UnaryOp op a pos) (Y8 r ta):=by
 intro pins s σ H Q I h
 exact UnaryOp_ (cg (ha pins s σ H _ I h) fun v s1 ⟨x,H1,I1,r1,q1⟩=>ho pins s1 σ H1 x v Q I1 r1 q1)
theorem RY {f:Value→Value→Sem Value} {C:Int→Int→Prop} {g:Int→Int→Int}
 (rule:∀ (i j:Int) (t u:Tok) (s:Shared) (Q:Value→Shared→Prop) (E:Value→Shared→Prop),C i j→Q (.int (g i j) s.toks) { s with toks:=s.toks + 1 }→wpAny (model X.prog X.w) X.A (f (.int i t) (.int j u)) Q E s) :
 n9 X f (rI C fun i j=>.int (g i j)):=by
 intro pins s σ H x y v u Q I rx ry h
 obtain ⟨i,j,rfl,rfl,hc,q⟩:=h
 obtain ⟨t,rfl⟩:=rx
 obtain ⟨t',rfl⟩:=ry
 exact rule i j t t' s _ _ hc ⟨.int (g i j),H,I.tok _,⟨_,rfl⟩,q⟩
theorem N0 {f:Value→Value→Sem Value} {g:Int→Int→Int}
 (rule:∀ (i j:Int) (t u:Tok) (s:Shared) (Q:Value→Shared→Prop) (E:Value→Shared→Prop),Q (.int (g i j) s.toks) { s with toks:=s.toks + 1 }→wpAny (model X.prog X.w) X.A (f (.int i t) (.int j u)) Q E s) :
 n9 X f (J5 fun i j=>.int (g i j)):=by
 intro pins s σ H x y v u Q I rx ry h
 obtain ⟨i,j,rfl,rfl,q⟩:=h
 obtain ⟨t,rfl⟩:=rx
 obtain ⟨t',rfl⟩:=ry
 exact rule i j t t' s _ _ ⟨.int (g i j),H,I.tok _,⟨_,rfl⟩,q⟩
theorem GW {f:Value→Value→Sem Value} {g:Int→Int→Bool}
 (rule:∀ (i j:Int) (t u:Tok) (s:Shared) (Q:Value→Shared→Prop) (E:Value→Shared→Prop),Q (.bool (g i j)) s→wpAny (model X.prog X.w) X.A (f (.int i t) (.int j u)) Q E s) :
 n9 X f (J5 fun i j=>.bl (g i j)):=by
 intro pins s σ H x y v u Q I rx ry h
 obtain ⟨i,j,rfl,rfl,q⟩:=h
 obtain ⟨t,rfl⟩:=rx
 obtain ⟨t',rfl⟩:=ry
 exact rule i j t t' s _ _ ⟨.bl (g i j),H,I,rfl,q⟩
noncomputable def RZ (i j:Int):Prop:=0 < j∧j < 1073741824
noncomputable def Vr (i j:Int):Prop:=j≠0∧j.natAbs < 1073741824
noncomputable def Y9 (i j:Int):Prop:=0≤j∧j≤1000000∧i.natAbs < 2 ^ 64
noncomputable def GX (i j:Int):Prop:=(-(2 ^ 64) < i∧i < 2 ^ 64)∨(-(2 ^ 64) < j∧j < 2 ^ 64)
theorem GX.ok {i j:Int} (h:GX i j):IntMulOk i j:=by
 rcases h with ⟨h1,h2⟩ | ⟨h1,h2⟩
 ·exact .of_left (intBits_le_64 h1 h2)
 ·exact .of_right (intBits_le_64 h1 h2)
theorem eJ:n9 X (binaryOp .Add) (J5 fun i j=>.int (i + j)):=N0 fun _ _ _ _ _ _ _ q=>add_int q
theorem mr:n9 X (binaryOp .Sub) (J5 fun i j=>.int (i - j)):=N0 fun _ _ _ _ _ _ _ q=>sub_int q
theorem js:n9 X (binaryOp .Mult) (rI GX fun i j=>.int (i * j)):=RY fun _ _ _ _ _ _ _ hc q=>mul_int q hc.ok
theorem fV:n9 X (binaryOp .FloorDiv) (rI RZ fun i j=>.int (i / j)):=RY fun i j _ _ _ _ _ hc q=>by
 have h1:(0:Int) < j:=hc.1
 have h2:j < 1073741824:=hc.2
 exact floordiv_int (by omega) (by rw [Int.fdiv_eq_ediv_of_nonneg i (by omega)]; exact q) (.inl (PyProof.noPylong_small (by omega)))
theorem iS:n9 X (binaryOp .Mod) (rI (fun _ j=>0 < j) fun i j=>.int (i % j)):=RY fun i j _ _ _ _ _ hc q=>by
 have h1:(0:Int) < j:=hc
 exact mod_int' (by omega) (by rw [Int.fmod_eq_emod_of_nonneg i (by omega)]; exact q)
theorem Yb {f:Value→Sem Value} {g:Int→Int}
 (rule:∀ (i:Int) (t:Tok) (s:Shared) (Q:Value→Shared→Prop) (E:Value→Shared→Prop),Q (.int (g i) s.toks) { s with toks:=s.toks + 1 }→wpAny (model X.prog X.w) X.A (f (.int i t)) Q E s) :
 RX X f (rU fun i=>.int (g i)):=by
 intro pins s σ H x v Q I rx h
 obtain ⟨i,rfl,q⟩:=h
 obtain ⟨t,rfl⟩:=rx
 exact rule i t s _ _ ⟨.int (g i),H,I.tok _,⟨_,rfl⟩,q⟩
theorem K5:RX X (unaryOp .USub) (rU fun i=>.int (-i)):=Yb fun _ _ _ _ _ q=>neg_int q
end
noncomputable def N1:V→V→Bool
 | .non,.non=>true | .non,.int _=>true | .int _,.non=>true | .non,.bl _=>true | .bl _,.non=>true | .non,.str _=>true | .str _,.non=>true
 | .int _,.int _=>true | .bl _,.bl _=>true | .str _,.str _=>true | .byt _,.byt _=>true
 | .int _,.str _=>true | .str _,.int _=>true | .bl _,.str _=>true | .str _,.bl _=>true
 | _,_=>false
noncomputable def Yc:R2:=fun x y H Q=>N1 x y=true∧Q (.bl (decide (x=y))) H
noncomputable def Yd:R2:=fun x y H Q=>N1 x y=true∧Q (.bl (!decide (x=y))) H
theorem BP {i j:Int}:decide (V.int i=V.int j)=(i == j):=by
 rw [Bool.eq_iff_iff]
 simp
theorem Em {i j:Bool}:decide (V.bl i=V.bl j)=(i == j):=by
 rw [Bool.eq_iff_iff]
 simp
theorem BQ {i j:Str}:decide (V.str i=V.str j)=(i == j):=by
 rw [Bool.eq_iff_iff]
 simp
theorem BR {i j:Array UInt8}:decide (V.byt i=V.byt j)=(i.toList == j.toList):=by
 rw [Bool.eq_iff_iff]
 cases i
 cases j
 simp
section
variable {X:Cx} {a b c:Expr} {ta tb tc:TE} {pos:Pos}
theorem bo {pins:List (Addr×Obj)} {σ:St} {H:Hp} {s:Shared} {Q:VK} {k k':Bool} (I:Inv X pins σ H s) (q:Q (.bl k) H) (e:k=k'):EP X pins σ Q (.bool k') s:=by
 subst e
 exact ⟨.bl k,H,I,rfl,q⟩
theorem m3:n9 X (compareOp .Eq) Yc:=by
 intro pins s σ H x y v u Q I rx ry h
 obtain ⟨hs,q⟩:=h
 cases x with
 | non=>
   cases rx
   cases y with
   | non=>cases ry; exact PySem.EqNone.eq_none_none (bo I q (by simp))
   | bl j=>cases ry; exact PySem.EqNone.eq_none_bool (bo I q (by simp))
   | int j=>obtain ⟨t',rfl⟩:=ry; exact PySem.EqNone.eq_none_int (bo I q (by simp))
   | str j=>obtain ⟨t',rfl⟩:=ry; exact PySem.EqNone.eq_none_str (bo I q (by simp))
   | _=>exact absurd (show false=true from hs) Bool.false_ne_true
 | bl i=>
   cases rx
   cases y with
   | non=>cases ry; exact PySem.EqNone.eq_bool_none (bo I q (by simp))
   | bl j=>cases ry; exact eq_bool (bo I q Em)
   | str j=>obtain ⟨t',rfl⟩:=ry; exact PySem.EqMixed.eq_bool_str (bo I q (by simp))
   | _=>exact absurd (show false=true from hs) Bool.false_ne_true
 | int i=>
   obtain ⟨t,rfl⟩:=rx
   cases y with
   | non=>cases ry; exact PySem.EqNone.eq_int_none (bo I q (by simp))
   | int j=>obtain ⟨t',rfl⟩:=ry; exact eq_int (bo I q BP)
   | str j=>obtain ⟨t',rfl⟩:=ry; exact PySem.EqMixed.eq_int_str (bo I q (by simp))
   | _=>exact absurd (show false=true from hs) Bool.false_ne_true
 | str i=>
   obtain ⟨t,rfl⟩:=rx
   cases y with
   | non=>cases ry; exact PySem.EqNone.eq_str_none (bo I q (by simp))
   | bl j=>cases ry; exact PySem.EqMixed.eq_str_bool (bo I q (by simp))
   | int j=>obtain ⟨t',rfl⟩:=ry; exact PySem.EqMixed.eq_str_int (bo I q (by simp))
   | str j=>obtain ⟨t',rfl⟩:=ry; exact eq_str (bo I q BQ)
   | _=>exact absurd (show false=true from hs) Bool.false_ne_true
 | byt i=>
   obtain ⟨t,rfl⟩:=rx
   cases y with
   | byt j=>obtain ⟨t',rfl⟩:=ry; exact PySem.W.eq_bytes (bo I q BR)
   | _=>exact absurd (show false=true from hs) Bool.false_ne_true
 | _=>cases y <;> exact absurd (show false=true from hs) Bool.false_ne_true
theorem En:n9 X (compareOp .NotEq) Yd:=by
 intro pins s σ H x y v u Q I rx ry h
 obtain ⟨hs,q⟩:=h
 cases x with
 | non=>
   cases rx
   cases y with
   | non=>cases ry; exact PySem.EqNone.ne_none_none (bo I q (by simp))
   | bl j=>cases ry; exact PySem.EqNone.ne_none_bool (bo I q (by simp))
   | int j=>obtain ⟨t',rfl⟩:=ry; exact PySem.EqNone.ne_none_int (bo I q (by simp))
   | str j=>obtain ⟨t',rfl⟩:=ry; exact PySem.EqNone.ne_none_str (bo I q (by simp))
   | _=>exact absurd (show false=true from hs) Bool.false_ne_true
 | bl i=>
   cases rx
   cases y with
   | non=>cases ry; exact PySem.EqNone.ne_bool_none (bo I q (by simp))
   | bl j=>cases ry; exact ne_bool (bo I q (congrArg not Em))
   | str j=>obtain ⟨t',rfl⟩:=ry; exact PySem.EqMixed.ne_bool_str (bo I q (by simp))
   | _=>exact absurd (show false=true from hs) Bool.false_ne_true
 | int i=>
   obtain ⟨t,rfl⟩:=rx
   cases y with
   | non=>cases ry; exact PySem.EqNone.ne_int_none (bo I q (by simp))
   | int j=>obtain ⟨t',rfl⟩:=ry; exact ne_int (bo I q (congrArg not BP))
   | str j=>obtain ⟨t',rfl⟩:=ry; exact PySem.EqMixed.ne_int_str (bo I q (by simp))
   | _=>exact absurd (show false=true from hs) Bool.false_ne_true
 | str i=>
   obtain ⟨t,rfl⟩:=rx
   cases y with
   | non=>cases ry; exact PySem.EqNone.ne_str_none (bo I q (by simp))
   | bl j=>cases ry; exact PySem.EqMixed.ne_str_bool (bo I q (by simp))
   | int j=>obtain ⟨t',rfl⟩:=ry; exact PySem.EqMixed.ne_str_int (bo I q (by simp))
   | str j=>obtain ⟨t',rfl⟩:=ry; exact ne_str (bo I q (congrArg not BQ))
   | _=>exact absurd (show false=true from hs) Bool.false_ne_true
 | byt i=>
   obtain ⟨t,rfl⟩:=rx
   cases y with
   | byt j=>obtain ⟨t',rfl⟩:=ry; exact PySem.W.ne_bytes (bo I q (congrArg not BR))
   | _=>exact absurd (show false=true from hs) Bool.false_ne_true
 | _=>cases y <;> exact absurd (show false=true from hs) Bool.false_ne_true
theorem nh:n9 X (compareOp .Lt) (J5 fun i j=>.bl (decide (i < j))):=GW fun _ _ _ _ _ _ _ q=>lt_int q
theorem N2:n9 X (compareOp .LtE) (J5 fun i j=>.bl (decide (i≤j))):=GW fun _ _ _ _ _ _ _ q=>le_int q
theorem m4:n9 X (compareOp .Gt) (J5 fun i j=>.bl (decide (j < i))):=GW fun _ _ _ _ _ _ _ q=>gt_int q
theorem N3:n9 X (compareOp .GtE) (J5 fun i j=>.bl (decide (j≤i))):=GW fun _ _ _ _ _ _ _ q=>ge_int q
theorem tV:n9 X (compareOp .In) (fun x y H Q=>∃ i j,x=.str i∧y=.str j∧Q (.bl (!(Builtin.Str.occurrences j i 0 j.length 1).isEmpty)) H):=by
 intro pins s σ H x y v u Q I rx ry h
 obtain ⟨i,j,rfl,rfl,q⟩:=h
 obtain ⟨t,rfl⟩:=rx
 obtain ⟨t',rfl⟩:=ry
 exact in_str (bo I q rfl)
theorem BU:n9 X (compareOp .IsNot) (fun x y H Q=>y=.non∧Q (.bl (!decide (x=.non))) H):=by
 intro pins s σ H x y v u Q I rx ry h
 obtain ⟨rfl,q⟩:=h
 cases ry
 refine isnot_none_gen (bo I q ?_)
 cases x <;> first
  | (cases rx; rfl)
  | (obtain ⟨t,rfl⟩:=rx; rfl)
noncomputable def isObj:HO→Bool
 | .lst _=>true
 | .ins _ _ _=>true
 | _=>false
theorem aS (b:Expr) {op:CmpOp} (h:op≠.In:=by decide) (h2:op≠.NotIn:=by decide):behindInMarks op b=false:=by
 have e1:(op == CmpOp.In)=false:=by cases op <;> first | rfl | exact absurd rfl h
 have e2:(op == CmpOp.NotIn)=false:=by cases op <;> first | rfl | exact absurd rfl h2
 cases b <;> simp [behindInMarks,e1,e2]
theorem i3 {op:CmpOp} {r:R2} (ho:n9 X (compareOp op) r) (ha:PE X a ta) (hb:PE X b tb) (hm:behindInMarks op b=false):PE X (.Compare a [op] [b] pos) (Qo r ta tb):=by
 intro pins s σ H Q I h
 exact wpAny_Compare1 (K4 ha hb I h fun v u s2 x y H2 I2 rx ry q=>ho pins s2 σ H2 x y v u Q I2 rx ry q) hm
noncomputable def N4 (t:TE):TT:=fun σ H Q=>t σ H fun x H'=>∃ k,x=.bl k∧Q k H'
theorem aH {op:CmpOp} {r:R2} (ho:n9 X (compareOp op) r) (ha:PE X a ta) (hb:PE X b tb) (hm:behindInMarks op b=false):PT X (.Compare a [op] [b] pos) (N4 (Qo r ta tb)):=by
 intro pins s σ H Q I h
 refine wpAny_isTrue_Compare1 (cg (ha pins s σ H _ I h) fun v s1 ⟨x,H1,I1,r1,q1⟩=>cg (hb pins s1 σ H1 _ I1 q1) fun u s2 ⟨y,H2,I2,r2,q2⟩=>
  cg (ho pins s2 σ H2 x y v u _ I2 r1 r2 q2) fun c s3 ⟨z,H3,I3,r3,k,e,q3⟩=>?_) hm
 subst e
 cases r3
 exact wpAny_truthy_bool ⟨H3,I3,q3⟩
noncomputable def S0 (r r':R2) (ta tb tc:TE):TE:=fun σ H Q=>ta σ H fun x H1=>tb σ H1 fun y H2=>r x y H2 fun z H3=>∃ k,z=.bl k ∧
 (if k=true then tc σ H3 fun w' H4=>r' y w' H4 Q else Q (.bl false) H3)
noncomputable def Ye (K:PySem.W.Frag) (x:V) (H:Hp) (k:Bool):Prop:=
 match x with
 | .non=>k=false
 | .bl b=>k=b
 | .int i=>k=(i != 0)
 | .str y=>y.length≤sizeLine∧k=((y.length:Int) != 0)
 | .byt y=>y.size≤sizeLine∧k=((y.size:Int) != 0)
 | .ref p=>(∃ xs,aK K H p xs∧k=!xs.isEmpty)∨(∃ xs,jF K H p xs∧k=!xs.isEmpty)∨∃ kvs,H p=some (.dK kvs)∧k=!kvs.isEmpty
 | _=>False
theorem o7:(sizeLine:Nat) < 2 ^ 63:=by rw [sizeLine_eq]; decide
theorem mw:n9 X (binaryOp .Add) (fun x y H Q=>∃ i j,x=.str i∧y=.str j∧i.length + j.length≤sizeLine∧Q (.str (i++j)) H):=by
 intro pins s σ H x y v u Q I rx ry h
 obtain ⟨i,j,rfl,rfl,hz,q⟩:=h
 obtain ⟨t,rfl⟩:=rx
 obtain ⟨t',rfl⟩:=ry
 exact add_str (fun t' tk=>⟨.str (i++j),H,I.tok _,⟨_,rfl⟩,q⟩) hz
noncomputable def N5 (b:Expr):Prop:=∀ o i,subscripted b false o i=operate [o,i] (getItem o i)
theorem vals1 {x:V} {us:List Value} (r:Vals [x] us):∃ u,us=[u]∧RelV x u:=by
 cases r with
 | cons r1 r2=>cases r2; exact ⟨_,rfl,r1⟩
theorem vals2 {x y:V} {us:List Value} (r:Vals [x,y] us):∃ u w',us=[u,w']∧RelV x u∧RelV y w':=by
 cases r with
 | cons r1 r2=>
   cases r2 with
   | cons r3 r4=>cases r4; exact ⟨_,_,rfl,r1,r3⟩
theorem xI:fK X (.builtin "abs") (fun xs H Q=>∃ i,xs=[.int i]∧Q (.int (if i < 0 then -i else i)) H):=by
 intro pins s σ H xs us Q I r h
 obtain ⟨i,rfl,q⟩:=h
 obtain ⟨u,rfl,t,rfl⟩:=vals1 r
 exact call_abs_int fun u tk=>⟨.int (if i < 0 then -i else i),H,I.tok _,⟨_,rfl⟩,q⟩
theorem tW (hc:X.calm=true):fK X (.builtin "max") (fun xs H Q=>∃ i j,xs=[.int i,.int j]∧Q (.int (if j > i then j else i)) H):=by
 intro pins s σ H xs us Q I r h
 obtain ⟨i,j,rfl,q⟩:=h
 obtain ⟨u,w',rfl,⟨t,rfl⟩,⟨t',rfl⟩⟩:=vals2 r
 refine max_two_ints (I.ok.hd hc) fun h' tk k=>⟨_,H,I.kept k,?_,q⟩
 by_cases hj:j > i
 ·rw [if_pos hj,if_pos hj]; exact ⟨_,rfl⟩
 ·rw [if_neg hj,if_neg hj]; exact ⟨_,rfl⟩
theorem jG (hc:X.calm=true):fK X (.builtin "min") (fun xs H Q=>∃ i j,xs=[.int i,.int j]∧Q (.int (if j < i then j else i)) H):=by
 intro pins s σ H xs us Q I r h
 obtain ⟨i,j,rfl,q⟩:=h
 obtain ⟨u,w',rfl,⟨t,rfl⟩,⟨t',rfl⟩⟩:=vals2 r
 refine min_two_ints (I.ok.hd hc) fun h' tk k=>⟨_,H,I.kept k,?_,q⟩
 by_cases hj:j < i
 ·rw [if_pos hj,if_pos hj]; exact ⟨_,rfl⟩
 ·rw [if_neg hj,if_neg hj]; exact ⟨_,rfl⟩
theorem CC:fK X (.type "int") (fun xs H Q=>(∃ i,xs=[.int i]∧Q (.int i) H)∨∃ k,xs=[.bl k]∧Q (.int (if k then 1 else 0)) H):=by
 intro pins s σ H xs us Q I r h
 rcases h with ⟨i,rfl,q⟩ | ⟨k,rfl,q⟩
 ·obtain ⟨u,rfl,t,rfl⟩:=vals1 r
  exact call_int_int ⟨.int i,H,I,⟨_,rfl⟩,q⟩
 ·obtain ⟨u,rfl,r1⟩:=vals1 r
  cases r1
  exact call_int_bool ⟨.int (if k then 1 else 0),H,I.tok _,⟨_,rfl⟩,q⟩
noncomputable def Yg (K:PySem.W.Frag) (x:V) (H:Hp) (n:Nat):Prop:=
 match x with
 | .str y=>y.length≤sizeLine∧n=y.length
 | .byt y=>y.size≤sizeLine∧n=y.size
 | .ref p=>(∃ xs,aK K H p xs∧n=xs.length)∨∃ xs,jF K H p xs∧n=xs.length
 | _=>False
end
end L2
namespace L2
open PySem PySem.Spec PyProof.Rows
set_option genInjectivity false in
set_option genSizeOfSpec false in
structure zS (h:Heap) (x dx C:Addr) (mA:Str→Option Value):Prop where
 obj:h.get? x=some (PySem.W.instObj C dx)
 ns:h.Ns1 dx mA
 ne:dx≠x
theorem CD {h:Heap} {dx:Addr} {mA:Str→Option Value} (n:h.Ns1 dx mA):∃ od,h.get? dx=some od∧∀ name,PySem.W.lookIn name od=some (mA name):=by
 obtain ⟨o,es,ep,ho,hd,hk,_,hm⟩:=n
 refine ⟨o,ho,fun name=>?_⟩
 have e:=hm name
 unfold nsFind findBy at e
 rw [← Array.find?_toList] at e
 unfold PySem.W.lookIn
 rw [hd]
 dsimp only
 split
 ·rename_i y q
  rw [q] at e
  exact congrArg some e
 ·rename_i q
  rw [q] at e
  have a:es.toList.any (·.refKey)=false:=by
   rw [List.any_eq_false]
   intro y hy
   obtain ⟨z,t,K6⟩:=hk y (Array.mem_toList_iff.mp hy)
   simp [DictEntry.refKey,K6]
  have a':¬ es.toList.any (·.refKey)=true:=by rw [a]; exact Bool.false_ne_true
  rw [if_neg a']
  exact congrArg some e
theorem zS.look {h:Heap} {x dx C:Addr} {mA:Str→Option Value} (I:zS h x dx C mA):∃ od,PySem.W.InstAt h x (PySem.W.instObj C dx) C (some od)∧∀ name,PySem.W.lookIn name od=some (mA name):=
 let ⟨od,ho,hl⟩:=CD I.ns
 ⟨od,⟨I.obj,rfl,rfl,ho⟩,hl⟩
section
variable {prog:Program} {w:World} {A:Around} {E:Value→Shared→Prop} {s:Shared} {K:PySem.W.Frag} {x dx C f:Addr} {mA:Str→Option Value} {name:Str} {v:Value}
theorem get_map {expr:Bool} {Q:Value→Shared→Prop} (X:K.In s.heap) (I:zS s.heap x dx C mA) (hg:PySem.W.plainGet K C name=true) (hh:PySem.W.hasDictIn K C=true)
 (ha:PySem.W.findIn K (.ref C) name=some none) (hv:mA name=some v) (Yh:PySem.W.handedIn v=true) (h:Q v { s with toks:=s.toks + 1 }) :
 wpAny (model prog w) A (getAttr (.ref x) name expr) Q E s:=by
 obtain ⟨od,J,hl⟩:=I.look
 exact PySem.W.get_value X J (PySem.W.plainGet_of hg).1 (PySem.W.findObj_own hh ha rfl (by rw [hl,hv])) Yh h
theorem Eo {pl:Sem Bool} {Q:Value×List Value→Shared→Prop} (X:K.In s.heap) (I:zS s.heap x dx C mA) (hg:PySem.W.plainGet K C name=true)
 (hf:PySem.W.findIn K (.ref C) name=some (some (.ref f))) (ht:PySem.W.isFn K (.ref f)=true) (hv:mA name=none) (h:Q (.ref f,[.ref x]) s) :
 wpAny (model prog w) A (getMethod (.ref x) name pl) Q E s:=by
 obtain ⟨od,J,hl⟩:=I.look
 exact PySem.W.method_fn X J (PySem.W.plainGet_of hg).1 (PySem.W.plainGet_of hg).2 hf (beq_iff_eq.mp ht) (by show (PySem.W.lookIn name od).map (·.isSome)=some false; rw [hl,hv]; rfl) h
theorem GY {ns:List Str} {Q:Unit→Shared→Prop} (X:K.In s.heap) (I:zS s.heap x dx C mA)
 (hs:PySem.W.findIn K (.ref C) "__setattr__"=some (some (.builtin "object.__setattr__"))) (hp:PySem.W.plainOver K C=true) (ht:PySem.W.takerIn K C name=some none) (hh:PySem.W.hasDictIn K C=true)
 (hw:PySem.Within mA ns) (hsz:ns.length≤sizeLine)
 (h:∀ h',zS h' x dx C (fun y=>if y=name then some v else mA y)→Heap.SameBut dx s.heap h'→Q () { s with heap:=h',toks:=s.toks + 2 }) :
 wpAny (model prog w) A (setAttr (.ref x) name v) Q E s:=by
 obtain ⟨od,J,hl⟩:=I.look
 refine PySem.W.set_plain X J hs (PySem.W.osa_open (s:={ s with toks:=s.toks + 1 }) (r:=none) X J hp ht fun b=>?_)
 obtain ⟨cd,hc,zN⟩:=PySem.W.any_some hh
 have hx:s.heap.get? x=some ⟨.ref C,some dx,.plain,#[]⟩:=I.obj
 refine wpAny_bind (wpAny_pure (wpAny_bind (wpAny_bind (wpAny_loadPart hx (wpAny_bind (PySem.W.Looks.here (s:={ s with toks:=s.toks + 1 }) (PySem.W.looks_clsIn X hc) ?_))))))
 rw [zN]
 refine wpAny_pure (a:=some dx) (wpAny_bind (wpAny_pure (wpAny_bind ?_)))
 refine wpAny_nsSet1 (s:={ s with toks:=s.toks + 1 }) I.ns fun h' Qp J2=>?_
 obtain ⟨oD,esD,epD,Yi,Yj,Yk⟩:=Qp.count (PySem.Within.cons name v hw)
 refine wpAny_bind (wpAny_lookBehind Yi (by rw [Yj]; exact pastItsLine_dict (Nat.le_trans Yk (by rw [List.length_cons]; omega))) ?_)
 exact wpAny_pure (h _ ⟨(J2.2 _ (Ne.symm I.ne)).trans I.obj,Qp,I.ne⟩ J2)
theorem Ep {R:Result→Shared→Prop} {vs:List Value} {kw:List (Str×Value)} (X:K.In s.heap) (hm:PySem.W.makesIn K C=true)
 (hi:PySem.W.findIn K (.ref C) "__init__"=some (some (.ref f))) (hf:PySem.W.typeIn K (.ref f)=some (.type "function"))
 (h:codeAny (model prog w) (A.under (.builtin "type.__call__" ⟨.ref C :: vs,kw⟩)) (.call (.ref f) ⟨.ref (s.heap.objs.size + 1) :: vs,kw⟩) (PySem.W.InitBack (s.heap.objs.size + 1) R)
   { s with heap:=(s.heap.push PySem.W.emptyDict).push (PySem.W.instObj C s.heap.objs.size) }) :
 codeAny (model prog w) A (.call (.ref C) ⟨vs,kw⟩) R s:=by
 obtain ⟨hh,g,d,t,os⟩:=s
 exact PySem.W.make_core (PySem.W.makes_of X hm) (PySem.W.looks_findIn X hi) (fun self=>PySem.W.bind_fn X self hf) (.inl rfl) h
end
noncomputable def gx (f:Str) (v:V):List (Str×V)→List (Str×V)
 | []=>[(f,v)]
 | (g,x) :: r=>if g=f then (g,v) :: r else (g,x) :: gx f v r
theorem aQ (f g:Str) (v:V):∀ fs:List (Str×V),(gx f v fs).lookup g=if g=f then some v else fs.lookup g
 | []=>by
   show List.lookup g [(f,v)]=_
   by_cases h:g=f
   ·have hb:(g == f)=true:=beq_iff_eq.mpr h
    simp only [List.lookup,hb,if_pos h]
   ·have hb:(g == f)=false:=beq_eq_false_iff_ne.mpr h
    simp only [List.lookup,hb,if_neg h]
 | (k,x) :: r=>by
   have ih:=aQ f g v r
   rw [show gx f v ((k,x) :: r)=(if k=f then (k,v) :: r else (k,x) :: gx f v r) from rfl]
   by_cases hk:k=f
   ·rw [if_pos hk]
    by_cases h:g=k
    ·have hb:(g == k)=true:=beq_iff_eq.mpr h
     simp only [List.lookup,hb,if_pos (h.trans hk)]
    ·have hb:(g == k)=false:=beq_eq_false_iff_ne.mpr h
     simp only [List.lookup,hb,if_neg (fun e:g=f=>h (e.trans hk.symm))]
   ·rw [if_neg hk]
    by_cases h:g=k
    ·have hb:(g == k)=true:=beq_iff_eq.mpr h
     simp only [List.lookup,hb,if_neg (fun e:g=f=>hk (h.symm.trans e))]
    ·have hb:(g == k)=false:=beq_eq_false_iff_ne.mpr h
     simp only [List.lookup,hb]
     exact ih
theorem o8 (f:Str) (v:V):∀ fs:List (Str×V),f∈(gx f v fs).map (·.1)∧∀ g,g∈fs.map (·.1)→g∈(gx f v fs).map (·.1)
 | []=>⟨by simp [gx],fun g h=>by simp at h⟩
 | (k,x) :: r=>by
   obtain ⟨i1,i2⟩:=o8 f v r
   rw [show gx f v ((k,x) :: r)=(if k=f then (k,v) :: r else (k,x) :: gx f v r) from rfl]
   by_cases hk:k=f
   ·rw [if_pos hk]
    subst hk
    exact ⟨by simp,fun g h=>by simpa using h⟩
   ·rw [if_neg hk]
    refine ⟨?_,fun g h=>?_⟩
    ·rw [List.map_cons]
     exact List.mem_cons_of_mem _ i1
    ·rw [List.map_cons] at h ⊢
     rcases List.mem_cons.mp h with e | e
     ·exact List.mem_cons.mpr (.inl e)
     ·exact List.mem_cons_of_mem _ (i2 g e)
theorem oV (f:Str) (v:V):∀ fs:List (Str×V),(gx f v fs).length≤fs.length + 1
 | []=>by simp [gx]
 | (k,x) :: r=>by
   have ih:=oV f v r
   rw [show gx f v ((k,x) :: r)=(if k=f then (k,v) :: r else (k,x) :: gx f v r) from rfl]
   by_cases hk:k=f
   ·rw [if_pos hk,List.length_cons,List.length_cons]; omega
   ·rw [if_neg hk,List.length_cons,List.length_cons]; omega
theorem kC.uN {v:V} {o:Option Value} (r:kC (some v) o):∃ u,o=some u∧RelV v u:=by
 cases o with
 | none=>exact (show False from r).elim
 | some u=>exact ⟨u,rfl,r⟩
theorem kC.none_of {o:Option Value} (r:kC none o):o=none:=by
 cases o with
 | none=>rfl
 | some u=>exact (show False from r).elim
theorem CF {v:V} {u:Value} (r:RelV v u):PySem.W.handedIn u=true:=by
 cases v with
 | non=>cases (show u=Value.none from r); rfl
 | bl b=>cases (show u=Value.bool b from r); rfl
 | int i=>obtain ⟨t,e⟩:=(show ∃ t,u=Value.int i t from r); cases e; rfl
 | str x=>obtain ⟨t,e⟩:=(show ∃ t,u=Value.str x t from r); cases e; rfl
 | byt b=>obtain ⟨t,e⟩:=(show ∃ t,u=Value.bytes b t from r); cases e; rfl
 | flt b=>obtain ⟨t,e⟩:=(show ∃ t,u=Value.float b t from r); cases e; rfl
 | ref a=>cases (show u=Value.ref a from r); rfl
 | ty n=>cases (show u=Value.type n from r); rfl
section
variable {P:Program} {w:World} {H H':Hp} {h h':Heap} {a C dx:Addr} {fs JS:List (Str×V)}
theorem pV (bt:kI P w H h) (e:H a=some (.ins C dx fs)):∃ mA,zS h a dx C mA∧(∀ f,kC (fs.lookup f) (mA f))∧PySem.Within mA (fs.map (·.1))∧fs.length≤1000∧H dx=some (.own a):=by
 obtain ⟨d,z,ne,ob,mA,n,r,q⟩:=(show cf P w H h a (.ins C dx fs) from bt a _ e)
 exact ⟨mA,⟨ob,n,ne⟩,r,q,z,d⟩
end
set_option genInjectivity false in
set_option genSizeOfSpec false in
structure zT (K:PySem.W.Frag) (C:Addr):Prop where
 pg:PySem.W.plainGet K C Str.empty=true
 hd:PySem.W.hasDictIn K C=true
 po:PySem.W.plainOver K C=true
 sa:PySem.W.findIn K (.ref C) "__setattr__"=some (some (.builtin "object.__setattr__"))
theorem zT.get {K:PySem.W.Frag} {C:Addr} (c:zT K C) (f:Str):PySem.W.plainGet K C f=true:=c.pg
noncomputable def gy (K:PySem.W.Frag) (C:Addr) (f:Str):Prop:=PySem.W.findIn K (.ref C) f=some none
theorem gy.N6 {K:PySem.W.Frag} {C:Addr} {f:Str} (n:gy K C f):PySem.W.takerIn K C f=some none:=by
 unfold PySem.W.takerIn
 rw [show PySem.W.findIn K (.ref C) f=some none from n]
 rfl
set_option genInjectivity false in
set_option genSizeOfSpec false in
structure Yl (K:PySem.W.Frag) (C:Addr) (f:Str) (v:V) (u:Value):Prop where
 at_:PySem.W.findIn K (.ref C) f=some (some u)
 rel:RelV v u
 get:PySem.W.specialIn K u "__get__"=some none
 cp:PySem.W.copiedNames.contains f=false
set_option genInjectivity false in
set_option genSizeOfSpec false in
structure Er (K:PySem.W.Frag) (C:Addr) (m:Str) (f:Addr):Prop where
 at_:PySem.W.findIn K (.ref C) m=some (some (.ref f))
 fn:PySem.W.isFn K (.ref f)=true
 kp:PySem.W.keepIn K (.ref f)=true
section
variable {X:Cx} {pins:List (Addr×Obj)} {σ:St} {H:Hp} {s:Shared} {a C dx:Addr} {fs:List (Str×V)} {f:Str} {v:V} {A:Around} {E:Value→Shared→Prop}
theorem zU {b:Bool} {Q:Value→Shared→Prop} (I:Inv X pins σ H s) (e:H a=some (.ins C dx fs)) (c:zT X.K C) (n:gy X.K C f) (l:fs.lookup f=some v)
 (h:∀ u s',Inv X pins σ H s'→RelV v u→Q u s'):wpAny (model X.prog X.w) A (getAttr (.ref a) f b) Q E s:=by
 obtain ⟨mA,O,r,_,_,_⟩:=pV I.bt e
 obtain ⟨u,hu,ru⟩:=kC.uN (v:=v) (o:=mA f) (by rw [← l]; exact r f)
 exact get_map I.n8 O (c.get f) c.hd n hu (CF ru) (h u _ (I.tok _) ru)
theorem mx {m:Str} {g:Addr} {pl:Sem Bool} {Q:Value×List Value→Shared→Prop} (I:Inv X pins σ H s) (e:H a=some (.ins C dx fs)) (c:zT X.K C) (k:Er X.K C m g) (l:fs.lookup m=none)
 (h:Q (.ref g,[.ref a]) s):wpAny (model X.prog X.w) A (getMethod (.ref a) m pl) Q E s:=by
 obtain ⟨mA,O,r,_,_,_⟩:=pV I.bt e
 have hn:mA m=none:=kC.none_of (by rw [← l]; exact r m)
 exact Eo I.n8 O (c.get m) k.at_ k.fn hn h
theorem zV {y:V} {u:Value} {Q:Unit→Shared→Prop} (I:Inv X pins σ H s) (e:H a=some (.ins C dx fs)) (c:zT X.K C) (n:gy X.K C f) (hl:fs.length < 1000) (ry:RelV y u)
 (h:∀ s',Inv X pins σ (upd H a (.ins C dx (gx f y fs))) s'→Q () s'):wpAny (model X.prog X.w) A (setAttr (.ref a) f u) Q E s:=by
 obtain ⟨mA,O,r,wi,_,ho⟩:=pV I.bt e
 have hz:(fs.map (·.1)).length≤sizeLine:=by rw [List.length_map,sizeLine_eq]; omega
 refine GY I.n8 O c.sa c.po n.N6 c.hd wi hz fun h' O' sb=>h _ ?_
 have hd:∃ o,h'.get? dx=some o:=let ⟨o,_,_,e',_⟩:=O'.ns; ⟨o,e'⟩
 refine I.write (x:=a) (e:=dx) (by rw [e]; exact True.intro) (.inr ho) (fun b q hb z=>(sb.2 b hb).trans z) hd ?_
 refine ⟨by rw [ai O.ne]; exact ho,?_,O.ne,O'.obj,_,O'.ns,fun g=>?_,fun g hg=>?_⟩
 ·have:=oV f y fs; omega
 ·show kC ((gx f y fs).lookup g) (if g=f then some u else mA g)
  rw [aQ]
  by_cases q:g=f
  ·rw [if_pos q,if_pos q]; exact ry
  ·rw [if_neg q,if_neg q]; exact r g
 ·by_cases q:g=f
  ·rw [q]; exact (o8 f y fs).1
  ·refine (o8 f y fs).2 g (wi g fun z=>hg ?_)
   show (if g=f then some u else mA g)=none
   rw [if_neg q]; exact z
theorem Inv.made (I:Inv X pins σ H s):Inv X pins σ (upd (upd H s.heap.objs.size (.own (s.heap.objs.size + 1))) (s.heap.objs.size + 1) (.ins C s.heap.objs.size []))
 { s with heap:=(s.heap.push PySem.W.emptyDict).push (PySem.W.instObj C s.heap.objs.size) }:=by
 have e1:(s.heap.push PySem.W.emptyDict).get? s.heap.objs.size=some PySem.W.emptyDict:=Heap.get?_push_size s.heap rfl
 have e2:((s.heap.push PySem.W.emptyDict).push (PySem.W.instObj C s.heap.objs.size)).get? (s.heap.objs.size + 1)=some (PySem.W.instObj C s.heap.objs.size):=by
  have:=Heap.get?_push_size (s.heap.push PySem.W.emptyDict) (o:=PySem.W.instObj C s.heap.objs.size) rfl
  rwa [Heap.size_push] at this
 have e3:(s.heap.push PySem.W.emptyDict).Ns s.heap.objs.size (fun _=>none):=⟨PySem.W.emptyDict,#[],_,e1,rfl,(fun e he=>absurd he (by simp)),fun _=>rfl⟩
 have I1:=I.laid (a:=s.heap.objs.size) (o:=.own (s.heap.objs.size + 1)) (h':=s.heap.push PySem.W.emptyDict) (t':=s.toks) (fun b u q=>Heap.get?_push_of_some _ q) (Nat.le_refl _) ⟨_,e1⟩
 refine I1.laid (a:=s.heap.objs.size + 1) (o:=.ins C s.heap.objs.size []) (t':=s.toks) (fun b u q=>Heap.get?_push_of_some _ q) (Nat.le_of_eq (Heap.size_push _ _)) ?_
 have ne:s.heap.objs.size≠s.heap.objs.size + 1:=Nat.ne_of_lt (Nat.lt_succ_self _)
 refine ⟨by rw [ai ne,a9],Nat.zero_le _,ne,e2,fun _=>none,(Heap.Ns1.of_empty e3).at fun o q=>Heap.get?_push_of_some _ q,fun _=>True.intro,fun y hy=>absurd rfl hy⟩
theorem GZ {prog:Program} {w:World} {env:Env} {e:Expr} {f:Str} {pos:Pos} {s:Shared} {Q:Value→Shared→Prop} (hb:attributeBase e f env (eval e env)=eval e env)
 (h:wpAny (model prog w) A (eval e env) (fun o s₁=>wpAny (model prog w) A (getAttr o f true) Q E s₁) E s):wpAny (model prog w) A (eval (.Attribute e f pos) env) Q E s:=
 Attribute_any_ h (by rw [arm_eval_Attribute,hb])
end
noncomputable def N7 (K:PySem.W.Frag) (ta:TE) (f:Str):TE:=fun σ H Q=>ta σ H fun x H1=>∃ a C dx fs v,x=.ref a∧H1 a=some (.ins C dx fs)∧zT K C∧gy K C f∧fs.lookup f=some v∧Q v H1
noncomputable def Ym (K:PySem.W.Frag) (ta:TE) (f:Str):TE:=fun σ H Q=>ta σ H fun x H1=>∃ a C dx fs v u,x=.ref a∧H1 a=some (.ins C dx fs)∧zT K C∧Yl K C f v u∧fs.lookup f=none∧Q v H1
noncomputable def S1 (K:PySem.W.Frag) (ta tv:TE) (f:Str):TS:=fun D σ H=>tv σ H fun y H1=>ta σ H1 fun x H2=>∃ a C dx fs,x=.ref a∧H2 a=some (.ins C dx fs)∧zT K C∧gy K C f∧fs.length < 1000 ∧
 D.nx σ (upd H2 a (.ins C dx (gx f y fs)))
noncomputable def Yn (X:Cx) (op:Operator) (rd:V→V→Hp→VK→Prop):Prop:=
 ∀ (pins:List (Addr×Obj)) (s:Shared) (σ:St) (H:Hp) (x y:V) (u v:Value) (Q:VK),Inv X pins σ H s→RelV x u→RelV y v→rd x y H Q→wpAny (model X.prog X.w) X.A (inplaceOp op u v) (EP X pins σ Q) X.xe s
noncomputable def Qq (K:PySem.W.Frag) (ta tv:TE) (rd:V→V→Hp→VK→Prop) (f:Str):TS:=fun D σ H=>ta σ H fun x H1=>∃ a C dx fs v,x=.ref a∧H1 a=some (.ins C dx fs)∧zT K C∧gy K C f∧fs.lookup f=some v ∧
 tv σ H1 fun y H2=>rd v y H2 fun z H3=>∃ Vs JS,H3 a=some (.ins C Vs JS)∧JS.length < 1000∧D.nx σ (upd H3 a (.ins C Vs (gx f z JS)))
section
variable {X:Cx} {o e value:Expr} {f:Str} {pos pos' K7:Pos} {ta tv:TE}
theorem b4 (he:PE X e ta) (hb:attributeBase e f X.env (eval e X.env)=eval e X.env):PE X (.Attribute e f pos) (N7 X.K ta f):=by
 intro pins s σ H Q I h
 refine GZ hb (cg (he pins s σ H _ I h) fun u s1 ⟨x,H1,I1,rx,a,C,dx,fs,v,ex,ea,c,n,l,q⟩=>?_)
 subst ex
 obtain rfl:u=Value.ref a:=rx
 exact zU I1 ea c n l fun u' s2 I2 ru=>⟨v,H1,I2,ru,q⟩
theorem my (ha:PE X o ta) (hv:PE X value tv) (hs:swapsWith value (some (.Attribute o f pos')) pos.line X.env=pure false):PS X (.Assign [.Attribute o f pos'] value pos) (S1 X.K ta tv f):=by
 intro pins s σ H D I h
 refine plainObj_wpAny_Assign_Attribute (cg (hv pins s σ H _ I h) fun u s1 ⟨y,H1,I1,ry,q⟩=>cg (ha pins s1 σ H1 _ I1 q) fun ov s2 ⟨x,H2,I2,rx,a,C,dx,fs,ex,ea,c,n,l,q2⟩=>?_) hs
 subst ex
 obtain rfl:ov=Value.ref a:=rx
 exact zV I2 ea c n l ry fun s3 I3=>⟨σ,_,I3,q2⟩
noncomputable def Yo:V→V→Hp→VK→Prop:=fun x y H Q=>∃ i j,x=.int i∧y=.int j∧Q (.int (i + j)) H
noncomputable def Yp:V→V→Hp→VK→Prop:=fun x y H Q=>∃ i j,x=.int i∧y=.int j∧Q (.int (i - j)) H
theorem J6 {pl:Sem Bool} {m:Str} {apos:Pos} {args:List Expr} {pins:List (Addr×Obj)} {s:Shared} {σ:St} {H:Hp} {Q:Value→Shared→Prop} {te:TE} (he:PE X e te) (I:Inv X pins σ H s)
 (h:te σ H fun x H1=>∃ a C dx fs g,x=.ref a∧H1 a=some (.ins C dx fs)∧zT X.K C∧Er X.K C m g∧fs.lookup m=none ∧
   ∀ s1,Inv X pins σ H1 s1→wpAny (model X.prog X.w) X.A (callWith pos (.ref g) [.ref a] (backTo pos (starEach args X.env)) (backToKw pos (keywordEach [] X.env))) Q X.xe s1)
 (ht:eval (.Call (.Attribute e m apos) args [] pos) X.env=(do
   let ov ← eval e X.env
   standAt apos.atName
   let (f,first) ← holding [ov] (getMethod ov m pl)
   callWith pos f first (backTo pos (starEach args X.env)) (backToKw pos (keywordEach [] X.env)))) :
 wpAny (model X.prog X.w) X.A (eval (.Call (.Attribute e m apos) args [] pos) X.env) Q X.xe s:=by
 refine PySem.W.methodCall_KW (pl:=pl) (cg (he pins s σ H _ I h) fun u s1 ⟨x,H1,I1,rx,a,C,dx,fs,g,ex,ea,c,k,l,q⟩=>?_) ht
 subst ex
 obtain rfl:u=Value.ref a:=rx
 exact mx I1 ea c k l (q s1 I1)
end
section
variable {X:Cx} {pins:List (Addr×Obj)} {σ:St} {H:Hp} {s:Shared} {A:Around} {E:Value→Shared→Prop} {Q:Value→Shared→Prop} {c:Value} {b:Bool}
inductive iT (K:PySem.W.Frag) (H:Hp):V→Value→Prop where
 | non:iT K H .non (.type "NoneType")
 | bl (x:Bool):iT K H (.bl x) (.type "bool")
 | int (i:Int):iT K H (.int i) (.type "int")
 | str (x:Str):iT K H (.str x) (.type "str")
 | flt (x:UInt64):iT K H (.flt x) (.type "float")
 | lst {a:Addr} {xs:List V} (e:H a=some (.lst xs)):iT K H (.ref a) (.type "list")
 | frz {a:Addr} {o:Obj} {xs:List V} (e:H a=some (.frz o (.lst xs))):iT K H (.ref a) (.type "list")
 | tup {a:Addr} {xs:List V} (e:H a=some (.tup xs)):iT K H (.ref a) (.type "tuple")
 | dK {a:Addr} {kvs:List (Key×V)} (e:H a=some (.dK kvs)):iT K H (.ref a) (.type "dict")
 | dT {a:Addr} {kvs:List (List Key×V)} (e:H a=some (.dT kvs)):iT K H (.ref a) (.type "dict")
 | ins {a C dx:Addr} {fs:List (Str×V)} (e:H a=some (.ins C dx fs)) (cl:zT K C) (ha:PySem.W.findIn K (.ref C) "__class__"=some (some (.builtin "object.__class__")))
    (hn:PySem.W.specialIn K (.builtin "object.__class__") "__get__"=some (some (.builtin "getset_descriptor.__get__"))) (pW:PySem.W.takesIn K (.builtin "object.__class__")=some true)
    (hm:PySem.W.mroIn K C (.type "object")=some true):iT K H (.ref a) (.ref C)
theorem CG {x:V} {u t:Value} (I:Inv X pins σ H s) (rx:RelV x u) (ty:iT X.K H x t) (e:PySem.W.kitOne X.K t c=some b) (h:∀ tk,Q (.bool b) { s with toks:=tk }) :
 wpAny (model X.prog X.w) A (call (.builtin "isinstance") [u,c]) Q E s:=by
 cases ty with
 | non=>cases (show u=Value.none from rx); exact PySem.W.kia_one PySem.W.kitx_none I.n8 True.intro e (fun z=>nomatch z) h
 | bl y=>cases (show u=Value.bool y from rx); exact PySem.W.kia_one PySem.W.kitx_bool I.n8 True.intro e (fun z=>nomatch z) h
 | int i=>obtain ⟨t,q⟩:=(show ∃ t,u=Value.int i t from rx); cases q; exact PySem.W.kia_one PySem.W.kitx_int I.n8 True.intro e (fun z=>nomatch z) h
 | str y=>obtain ⟨t,q⟩:=(show ∃ t,u=Value.str y t from rx); cases q; exact PySem.W.kia_one PySem.W.kitx_str I.n8 True.intro e (fun z=>nomatch z) h
 | flt y=>obtain ⟨t,q⟩:=(show ∃ t,u=Value.float y t from rx); cases q; exact PySem.W.kia_one PySem.W.kitx_float I.n8 True.intro e (fun z=>nomatch z) h
 | @lst a xs ea=>
   cases (show u=Value.ref a from rx)
   obtain ⟨_,_,n,_,h1⟩:=(show cf X.prog X.w H s.heap a (.lst xs) from I.bt a _ ea)
   exact PySem.W.kia_one PySem.W.kitx_list I.n8 ⟨_,h1,rfl⟩ e (fun z=>nomatch z) h
 | @frz a ob xs ea=>
   cases (show u=Value.ref a from rx)
   obtain ⟨_,_,_,n,_,h1⟩:=(show cf X.prog X.w H s.heap a (.frz ob (.lst xs)) from I.bt a _ ea)
   exact PySem.W.kia_one PySem.W.kitx_list I.n8 ⟨_,h1,rfl⟩ e (fun z=>nomatch z) h
 | @tup a xs ea=>
   cases (show u=Value.ref a from rx)
   obtain ⟨_,_,_,p⟩:=(show cf X.prog X.w H s.heap a (.tup xs) from I.bt a _ ea)
   obtain ⟨o,h1,h2,_⟩:=p
   exact PySem.W.kia_one PySem.W.kitx_tuple I.n8 ⟨o,h1,h2⟩ e (fun z=>nomatch z) h
 | @dK a kvs ea=>
   cases (show u=Value.ref a from rx)
   obtain ⟨_,_,vs,_,p⟩:=(show cf X.prog X.w H s.heap a (.dK kvs) from I.bt a _ ea)
   obtain ⟨o,es,ep,h1,h2,_⟩:=p
   exact PySem.W.kia_one PySem.W.kitx_dict I.n8 ⟨o,h1,h2.1⟩ e (fun z=>nomatch z) h
 | @dT a kvs ea=>
   cases (show u=Value.ref a from rx)
   obtain ⟨_,_,xs,_,o,es,ep,h1,h2,_⟩:=(show cf X.prog X.w H s.heap a (.dT kvs) from I.bt a _ ea)
   exact PySem.W.kia_one PySem.W.kitx_dict I.n8 ⟨o,h1,h2.1⟩ e (fun z=>nomatch z) h
 | @ins a C dx fs ea cl ha hn pW hm=>
   cases (show u=Value.ref a from rx)
   obtain ⟨mA,O,_⟩:=pV I.bt ea
   obtain ⟨od,J,_⟩:=O.look
   exact PySem.W.kia_one (PySem.W.kitx_own (cl.get _) cl.hd ha hn pW hm) I.n8 J e (fun z=>nomatch z) h
end
end L2
namespace L2
open PySem PySem.Spec PyProof.Rows
set_option genInjectivity false in
set_option genSizeOfSpec false in
structure fZ (k:Nat) (A:Around):Prop where
 hd:A.handled=none
 dp:A.depth + 3 * k + 5 < recursionLimit
 un:A.units + 16 * k + 200 < cLine
theorem fZ.mono {j k:Nat} {A:Around} (r:fZ k A) (h:j≤k):fZ j A:=⟨r.hd,by have:=r.dp; omega,by have:=r.un; omega⟩
theorem fZ.deeper {k:Nat} {A:Around} (r:fZ (k + 1) A) (env:Env):fZ k (A.deeper env):=
 ⟨r.hd,by have:=r.dp; show A.depth + 1 + 3 * k + 5 < _; omega,by have:=r.un; show A.units + 3 + 16 * k + 200 < _; omega⟩
theorem fZ.in1 {k:Nat} {A:Around} (r:fZ (k + 1) A):fZ k A.in1:=
 ⟨r.hd,by have:=r.dp; show A.depth + 3 * k + 5 < _; omega,by have:=r.un; show A.units + 1 + 16 * k + 200 < _; omega⟩
theorem zW {A:Around} {C:Addr} {us:List Value} {kw:List (Str×Value)}:(A.under (.builtin "type.__call__" ⟨.ref C :: us,kw⟩)).depth=A.depth + 1:=by
 first | rfl | simp [Around.under,Code.weight,Code.isCreation,Code.isGuard,Code.isCaller,Code.frames,Code.isFrame,guardIds]
theorem zX {A:Around} {C:Addr} {us:List Value} {kw:List (Str×Value)}:(A.under (.builtin "type.__call__" ⟨.ref C :: us,kw⟩)).units=A.units + 1:=by
 first | rfl | simp [Around.under,Code.cUnits,Code.frames,Code.isFrame]
theorem fZ.make {k:Nat} {A:Around} (r:fZ (k + 1) A) (C:Addr) (us:List Value) (kw:List (Str×Value)):fZ k (A.under (.builtin "type.__call__" ⟨.ref C :: us,kw⟩)):=
 ⟨r.hd,by have:=r.dp; rw [zW]; omega,by have:=r.un; rw [zX]; omega⟩
theorem fZ.depth {k:Nat} {A:Around} (r:fZ k A):A.depth < recursionLimit:=by have:=r.dp; omega
theorem fZ.units {k:Nat} {A:Around} (r:fZ k A):A.units + 64 < cLine:=by have:=r.un; omega
theorem fZ.qc {k:Nat} {A:Around} (r:fZ k A):A.units < cLine:=by have:=r.un; omega
noncomputable def Es:TA:=fun _ H Q=>Q [] H
noncomputable def xJ (ta:TE) (tr:TA):TA:=fun σ H Q=>ta σ H fun x H1=>tr σ H1 fun xs H2=>Q (x :: xs) H2
section
variable {X:Cx} {e:Expr} {es:List Expr} {te:TE} {t:TA} {pos:Pos}
theorem a8:PA X [] Es:=fun _ _ _ _ H Q I h=>Calls.spliced_nil ⟨[],H,I,.nil,h⟩
theorem a5 (ha:PE X e te) (hr:PA X es t) (hs:starEach (e :: es) X.env=(false,eval e X.env) :: starEach es X.env:=by rfl):PA X (e :: es) (xJ te t):=by
 intro pos pins s σ H Q I h
 rw [hs]
 show wpAny _ _ (spliced ((false,eval e X.env) :: backTo pos (starEach es X.env))) _ _ s
 refine Calls.spliced_cons (cg (ha pins s σ H _ I h) fun u s1 ⟨x,H1,I1,r1,q1⟩=>?_)
 exact cg (hr pos pins s1 σ H1 _ I1 q1) fun us s2 ⟨xs,H2,I2,r2,q2⟩=>⟨x :: xs,H2,I2,.cons r1 r2,q2⟩
noncomputable def N8 (t:TA):TE:=fun σ H Q=>t σ H fun xs H1=>xs.length≤sizeLine∧∀ p,H1 p=none→Q (.ref p) (upd H1 p (.tup xs))
noncomputable def S2 (t:TA):TE:=fun σ H Q=>t σ H fun xs H1=>xs.length≤sizeLine∧∀ p,H1 p=none→Q (.ref p) (upd H1 p (.lst xs))
theorem iU {x1} (h:PA X es t):PE X (.Tuple es x1 pos) (N8 t):=by
 intro pins s σ H Q I hq
 refine wpAny_Tuple_spliced (cg (h pos pins s σ H _ I hq) fun us s1 ⟨xs,H1,I1,r,z,q⟩=>⟨by rw [← r.length]; exact z,?_⟩)
 have hf:H1 s1.heap.objs.size=none:=I1.bt.fresh (Nat.le_refl _)
 refine ⟨.ref s1.heap.objs.size,upd H1 s1.heap.objs.size (.tup xs),I1.laid (t':=s1.toks) (fun b u e=>Heap.get?_push_of_some _ e) (Nat.le_refl _) ?_,rfl,q _ hf⟩
 exact ⟨z,us,r,⟨_,Heap.get?_push_size _ rfl,rfl,_,rfl⟩⟩
theorem cQ (h:PA X es t):PE X (.List es pos) (S2 t):=by
 intro pins s σ H Q I hq
 refine wpAny_List_spliced (cg (h pos pins s σ H _ I hq) fun us s1 ⟨xs,H1,I1,r,z,q⟩=>⟨by rw [← r.length]; exact z,?_⟩)
 have hf:H1 s1.heap.objs.size=none:=I1.bt.fresh (Nat.le_refl _)
 refine ⟨.ref s1.heap.objs.size,upd H1 s1.heap.objs.size (.lst xs),I1.laid (t':=s1.toks) (fun b u e=>Heap.get?_push_of_some _ e) (Nat.le_refl _) ?_,rfl,q _ hf⟩
 exact ⟨z,us,0,r,Heap.get?_push_size _ rfl⟩
end
noncomputable abbrev Sp:=List V→Hp→VK→XK→Prop
noncomputable abbrev BV:=List Env→Hp→Shared→XK→Value→Shared→Prop
set_option genInjectivity false in
set_option genSizeOfSpec false in
structure sA (P:Program) (w:World) (K:PySem.W.Frag) (mg:Str→Option Value) (base:Heap) (A:Around) (outer:List Env) (s:Shared) (H:Hp):Prop where
 frames:A.frames=some outer
 mod:Mod K mg base
 bs:∀ b o,base.get? b=some o→s.heap.get? b=some o∧H b=none
 zL:base.objs.size≤s.heap.objs.size
 lW:s.heap.FunFrames base outer
 Ee:∀ b∈zK outer,H b=none
 bt:kI P w H s.heap
 bare:AllBare s.gens
noncomputable def CE (outer:List Env) (P:Program) (w:World) (H:Hp) (s:Shared) (Q:VK) (u:Value) (s':Shared):Prop:=
 ∃ v H',s'.os=s.os∧AllBare s'.gens∧Un (zK outer) [] H H' s.heap s'.heap∧kI P w H' s'.heap∧RelV v u∧Q v H'
noncomputable def CR (CX:BV) (outer:List Env) (P:Program) (w:World) (H:Hp) (s:Shared) (Q:VK) (E:XK) (r:Result) (s':Shared):Prop:=
 match r with
 | .ok (.ret u)=>CE outer P w H s Q u s'
 | .ok _=>False
 | .error e=>CX outer H s E e s'
set_option genInjectivity false in
set_option genSizeOfSpec false in
structure bD (P:Program) (w:World) (K:PySem.W.Frag) (mg:Str→Option Value) (base:Heap) (CX:BV) (k:Nat) (f:Addr) (fd:FuncData) (ps:List Str) (sp:Sp):Prop where
 len:∀ vs H Q E,sp vs H Q E→vs.length=ps.length
 run:∀ (A:Around) (outer:List Env) (s:Shared) (H:Hp) (args:Args) (us:List Value) (vs:List V) (Q:VK) (E:XK),fZ k A→sA P w K mg base A outer s H→BindsTo s fd args (ps.zip us)→Vals vs us→sp vs H Q E →
  codeAny (model P w) A (.call (.ref f) args) (CR CX outer P w H s Q E) s
theorem bD.mono {P:Program} {w:World} {K:PySem.W.Frag} {mg:Str→Option Value} {base:Heap} {CX:BV} {j k:Nat} {f:Addr} {fd:FuncData} {ps:List Str} {sp:Sp} (F:bD P w K mg base CX j f fd ps sp) (h:j≤k) :
 bD P w K mg base CX k f fd ps sp:=⟨F.len,fun A outer s H args us vs Q E hr=>F.run A outer s H args us vs Q E (hr.mono h)⟩
theorem bD.imp {P:Program} {w:World} {K:PySem.W.Frag} {mg:Str→Option Value} {base:Heap} {CX:BV} {k:Nat} {f:Addr} {fd:FuncData} {ps:List Str} {sp Vt:Sp} (F:bD P w K mg base CX k f fd ps sp)
 (h:∀ vs H Q E,Vt vs H Q E→sp vs H Q E):bD P w K mg base CX k f fd ps Vt:=
 ⟨fun vs H Q E q=>F.len vs H Q E (h _ _ _ _ q),fun A outer s H args us vs Q E hr he hb hv hs=>F.run A outer s H args us vs Q E hr he hb hv (h _ _ _ _ hs)⟩
theorem sA.make {P:Program} {w:World} {K:PySem.W.Frag} {mg:Str→Option Value} {base:Heap} {A:Around} {outer:List Env} {s:Shared} {H:Hp} (e:sA P w K mg base A outer s H) (C:Addr) (us:List Value) (kw:List (Str×Value)) :
 sA P w K mg base (A.under (.builtin "type.__call__" ⟨.ref C :: us,kw⟩)) outer s H:=⟨by first | exact e.frames | (simpa [Around.under,Code.envs,Code.isFrame,pushEnvs] using e.frames),e.mod,e.bs,e.zL,e.lW,e.Ee,e.bt,e.bare⟩
theorem sA.in1 {P:Program} {w:World} {K:PySem.W.Frag} {mg:Str→Option Value} {base:Heap} {A:Around} {outer:List Env} {s:Shared} {H:Hp} (e:sA P w K mg base A outer s H) :
 sA P w K mg base A.in1 outer s H:=⟨e.frames,e.mod,e.bs,e.zL,e.lW,e.Ee,e.bt,e.bare⟩
section
variable {X:Cx} {pins:List (Addr×Obj)} {σ:St} {H:Hp} {s s':Shared}
theorem Inv.N9 (I:Inv X pins σ H s):sA X.prog X.w X.K X.mg X.base X.A X.stack s H:=
 ⟨I.ok.frames,I.ok.mod,I.bs,Nat.le_trans I.ok.zL I.sz,I.stack,I.pT,I.bt,I.bare⟩
theorem Inv.after {Q:VK} {u:Value} (I:Inv X pins σ H s) (h:CE X.stack X.prog X.w H s Q u s'):EP X pins σ Q u s':=by
 obtain ⟨v,H',os,bare,un,bt,r,q⟩:=h
 obtain ⟨hh,g,d,t,S3⟩:=s'
 obtain rfl:S3=s.os:=os
 exact ⟨v,H',I.call (h':=hh) (g':=g) (d':=d) (t':=t) (ch:=[]) un bt bare (fun b z=>absurd z (by simp)),r,q⟩
end
noncomputable def Nb (sp:Sp) (sC:List V) (E:XK) (t:TA):TE:=fun σ H Q=>t σ H fun vs H1=>sp (vs++sC) H1 Q E
noncomputable def J7 (C:Addr) (m:Str) (sp:Sp) (sC:List V) (E:XK) (ta:TE) (t:TA):TE:=fun σ H Q=>ta σ H fun x H1=>∃ a dx fs,x=.ref a∧H1 a=some (.ins C dx fs)∧fs.lookup m=none ∧
 t σ H1 fun vs H2=>sp (x :: (vs++sC)) H2 Q E
noncomputable def Nc (C:Addr) (sp:Sp) (sC:List V) (E:XK) (t:TA):TE:=fun σ H Q=>t σ H fun vs H1=>∀ x dx,H1 x=none→H1 dx=none→dx≠x →
 sp (.ref x :: (vs++sC)) (upd (upd H1 dx (.own x)) x (.ins C dx [])) (fun v H2=>v=.non∧Q (.ref x) H2) E
noncomputable def Binds (K:PySem.W.Frag) (fd:FuncData) (ps:List Str) (ds:List Value):Prop:=
 ∀ (s:Shared) (us:List Value),K.In s.heap→(us++ds).length=ps.length→BindsTo s fd ⟨us,[]⟩ (ps.zip (us++ds))
theorem Binds.all {K:PySem.W.Frag} {fd:FuncData} {ps:List Str} (h:∀ us:List Value,us.length=ps.length→bindArgs fd ⟨us,[]⟩=pure (ps.zip us)):Binds K fd ps []:=fun s us _ hl=>by
 rw [List.append_nil] at hl ⊢
 exact .of_eq (h us hl)
noncomputable def Passes (CX:BV) (X:Cx) (E:XK):Prop:=∀ (pins:List (Addr×Obj)) (σ:St) (H:Hp) (s:Shared) (e:Value) (s':Shared),Inv X pins σ H s→CX X.stack H s E e s'→X.xe e s'
section
variable {X:Cx} {CX:BV} {k:Nat} {f C:Addr} {fd:FuncData} {ps:List Str} {sp:Sp} {sC:List V} {ds:List Value} {E:XK} {x m:Str} {p pos apos:Pos} {e o:Expr} {es:List Expr} {ta:TE} {t:TA}
theorem zY {pins:List (Addr×Obj)} {σ:St} {H:Hp} {s:Shared} {Q:VK} {us:List Value} {vs:List V} (F:bD X.prog X.w X.K X.mg X.base CX k f fd ps sp) (hr:fZ k X.A) (hb:Binds X.K fd ps ds) (hd:Vals sC ds) (hx:Passes CX X E)
 (I:Inv X pins σ H s) (r:Vals vs us) (h:sp (vs++sC) H Q E):wpAny (model X.prog X.w) X.A (call (.ref f) us) (EP X pins σ Q) X.xe s:=by
 have r2:Vals (vs++sC) (us++ds):=r.append hd
 have hl:(us++ds).length=ps.length:=by rw [← r2.length]; exact F.len _ _ _ _ h
 refine wpAny_call (codeAny_mono (F.run X.A X.stack s H ⟨us,[]⟩ (us++ds) (vs++sC) Q E hr I.N9 (hb s us I.n8 hl) r2 h) fun r s' hq=>?_)
 cases r with
 | error e=>exact hx pins σ H s e s' I hq
 | ok fl=>
   cases fl with
   | ret u=>exact I.after hq
   | next=>exact False.elim hq
   | brk=>exact False.elim hq
   | cont=>exact False.elim hq
theorem aq (F:bD X.prog X.w X.K X.mg X.base CX k f fd ps sp) (hr:fZ k X.A) (hg:Gl X x) (hm:X.mg x=some (.ref f)) (hk:PySem.W.keepIn X.K (.ref f)=true) (hb:Binds X.K fd ps ds) (hd:Vals sC ds) (hx:Passes CX X E)
 (ha:PA X (e :: es) t) (zD:(x == ("__debug__":Str))=false:=by decide) (he:starEach (e :: es) X.env=(false,eval e X.env) :: starEach es X.env:=by rfl) (uO:(backTo pos (starEach es X.env)).any (·.1)=false:=by rfl) :
 PE X (.Call (.Name x p) (e :: es) [] pos) (Nb sp sC E t):=by
 intro pins s σ H Q I h
 refine wpAny_Call_Name_kw (pU I hg hm ?_ zD)
 refine PySem.W.callWith_K (h₀:=X.base) I.ok.mod.LQ hk (cg (ha pos pins s σ H _ I h) fun us s1 ⟨vs,H1,I1,r,q⟩=>⟨I1.n8,?_⟩) he uO
 exact zY F hr hb hd hx I1 r q
theorem uP {pl:Sem Bool} (he:PE X o ta) (c:zT X.K C) (hm:Er X.K C m f) (F:bD X.prog X.w X.K X.mg X.base CX k f fd ps sp) (hr:fZ k X.A) (hb:Binds X.K fd ps ds) (hd:Vals sC ds) (hx:Passes CX X E) (ha:PA X (e :: es) t)
 (xG:starEach (e :: es) X.env=(false,eval e X.env) :: starEach es X.env:=by rfl) (uO:(backTo pos (starEach es X.env)).any (·.1)=false:=by rfl)
 (ht:eval (.Call (.Attribute o m apos) (e :: es) [] pos) X.env=(do
   let ov ← eval o X.env
   standAt apos.atName
   let (f,first) ← holding [ov] (getMethod ov m pl)
   callWith pos f first (backTo pos (starEach (e :: es) X.env)) (backToKw pos (keywordEach [] X.env))):=by rfl) :
 PE X (.Call (.Attribute o m apos) (e :: es) [] pos) (J7 C m sp sC E ta t):=by
 intro pins s σ H Q I h
 refine PySem.W.methodCall_KW (pl:=pl) (cg (he pins s σ H _ I h) fun u s1 ⟨x,H1,I1,rx,a,dx,fs,ex,ea,l,q⟩=>?_) ht
 subst ex
 obtain rfl:u=Value.ref a:=rx
 refine mx I1 ea c hm l ?_
 refine PySem.W.callWith_K (first:=[.ref a]) (h₀:=X.base) I.ok.mod.LQ hm.kp (cg (ha pos pins s1 σ H1 _ I1 q) fun us s2 ⟨vs,H2,I2,r,q2⟩=>⟨I2.n8,?_⟩) xG uO
 exact zY (us:=.ref a :: us) (vs:=.ref a :: vs) F hr hb hd hx I2 (.cons rfl r) q2
theorem qe {pl:Sem Bool} (he:PE X o ta) (c:zT X.K C) (hm:Er X.K C m f) (F:bD X.prog X.w X.K X.mg X.base CX k f fd ps sp) (hr:fZ k X.A) (hb:Binds X.K fd ps ds) (hd:Vals sC ds) (hx:Passes CX X E)
 (ht:eval (.Call (.Attribute o m apos) [] [] pos) X.env=(do
   let ov ← eval o X.env
   standAt apos.atName
   let (f,first) ← holding [ov] (getMethod ov m pl)
   callWith pos f first (backTo pos (starEach [] X.env)) (backToKw pos (keywordEach [] X.env))):=by rfl) :
 PE X (.Call (.Attribute o m apos) [] [] pos) (J7 C m sp sC E ta Es):=by
 intro pins s σ H Q I h
 refine PySem.W.methodCall_KW (pl:=pl) (cg (he pins s σ H _ I h) fun u s1 ⟨x,H1,I1,rx,a,dx,fs,ex,ea,l,q⟩=>?_) ht
 subst ex
 obtain rfl:u=Value.ref a:=rx
 refine mx I1 ea c hm l ?_
 exact PySem.W.callWith_K0 (first:=[.ref a]) I1.n8 hm.kp (zY (us:=[.ref a]) (vs:=[.ref a]) F hr hb hd hx I1 (.cons rfl .nil) q)
set_option genInjectivity false in
set_option genSizeOfSpec false in
structure Mk (K:PySem.W.Frag) (C f:Addr):Prop where
 makes:PySem.W.makesIn K C=true
 init:PySem.W.findIn K (.ref C) "__init__"=some (some (.ref f))
 fn:PySem.W.isFn K (.ref f)=true
 kp:PySem.W.keepIn K (.ref C)=true
theorem Et {pins:List (Addr×Obj)} {σ:St} {H:Hp} {s:Shared} {Q:VK} {us:List Value} {vs:List V} (M:Mk X.K C f) (F:bD X.prog X.w X.K X.mg X.base CX k f fd ps sp) (hr:fZ (k + 1) X.A) (hb:Binds X.K fd ps ds) (hd:Vals sC ds)
 (hx:Passes CX X E) (I:Inv X pins σ H s) (r:Vals vs us)
 (h:∀ x dx,H x=none→H dx=none→dx≠x→sp (.ref x :: (vs++sC)) (upd (upd H dx (.own x)) x (.ins C dx [])) (fun v H2=>v=.non∧Q (.ref x) H2) E) :
 wpAny (model X.prog X.w) X.A (call (.ref C) us) (EP X pins σ Q) X.xe s:=by
 have hq:=h (s.heap.objs.size + 1) s.heap.objs.size (I.bt.fresh (Nat.le_succ _)) (I.bt.fresh (Nat.le_refl _)) (Nat.ne_of_lt (Nat.lt_succ_self _))
 have I2:=Inv.made (C:=C) I
 have r2:Vals (V.ref (s.heap.objs.size + 1) :: (vs++sC)) (Value.ref (s.heap.objs.size + 1) :: (us++ds)):=.cons rfl (r.append hd)
 have hl:(Value.ref (s.heap.objs.size + 1) :: us++ds).length=ps.length:=by
  have e:=r2.length
  rw [F.len _ _ _ _ hq] at e
  exact e.symm
 refine wpAny_call (Ep (f:=f) I.n8 M.makes M.init (beq_iff_eq.mp M.fn) (codeAny_mono (F.run _ X.stack _ _ ⟨Value.ref (s.heap.objs.size + 1) :: us,[]⟩ (Value.ref (s.heap.objs.size + 1) :: (us++ds)) _ _ E (hr.make C us [])
  (I2.N9.make C us []) (hb _ (Value.ref (s.heap.objs.size + 1) :: us) I2.n8 hl) r2 hq) fun r s' CH=>?_))
 cases r with
 | error e=>exact hx pins σ _ _ e s' I2 CH
 | ok fl=>
   cases fl with
   | ret u=>
     obtain ⟨v,H',I3,rv,ev,q3⟩:=I2.after CH
     subst ev
     exact ⟨rv,⟨V.ref (s.heap.objs.size + 1),H',I3,rfl,q3⟩⟩
   | next=>exact False.elim CH
   | brk=>exact False.elim CH
   | cont=>exact False.elim CH
theorem uQ (M:Mk X.K C f) (F:bD X.prog X.w X.K X.mg X.base CX k f fd ps sp) (hr:fZ (k + 1) X.A) (hg:Gl X x) (hm:X.mg x=some (.ref C)) (hb:Binds X.K fd ps ds) (hd:Vals sC ds) (hx:Passes CX X E)
 (ha:PA X (e :: es) t) (zD:(x == ("__debug__":Str))=false:=by decide) (he:starEach (e :: es) X.env=(false,eval e X.env) :: starEach es X.env:=by rfl) (uO:(backTo pos (starEach es X.env)).any (·.1)=false:=by rfl) :
 PE X (.Call (.Name x p) (e :: es) [] pos) (Nc C sp sC E t):=by
 intro pins s σ H Q I h
 refine wpAny_Call_Name_kw (pU I hg hm ?_ zD)
 refine PySem.W.callWith_K (h₀:=X.base) I.ok.mod.LQ M.kp (cg (ha pos pins s σ H _ I h) fun us s1 ⟨vs,H1,I1,r,q⟩=>⟨I1.n8,?_⟩) he uO
 exact Et M F hr hb hd hx I1 r q
end
noncomputable def PK (X:Cx) (Vu:List Keyword) (t:TA):Prop:=
 ∀ (pos:Pos) (pins:List (Addr×Obj)) (s:Shared) (σ:St) (H:Hp) (Q:List V→Hp→Prop),Inv X pins σ H s→t σ H Q→wpAny (model X.prog X.w) X.A (evalAll ((backToKw pos (keywordEach Vu X.env)).map (·.2))) (AP X pins σ Q) X.xe s
section
variable {X:Cx} {CX:BV} {k:Nat} {f C:Addr} {fd:FuncData} {ps ks:List Str} {sp:Sp} {E:XK} {x m:Str} {p pos apos Yq:Pos} {e o:Expr} {es:List Expr} {Vu:List Keyword} {te ta:TE} {t tk:TA} {nm:Option Str}
set_option genInjectivity false in
set_option genSizeOfSpec false in
structure S5 (K:PySem.W.Frag) (fd:FuncData) (ps ks:List Str) (g:List Value→List Value→List Value) (gV:List V→List V→List V):Prop where
 to:∀ (s:Shared) (us ws:List Value),K.In s.heap→(g us ws).length=ps.length→BindsTo s fd ⟨us,ks.zip ws⟩ (ps.zip (g us ws))
 rel:∀ {vs:List V} {us:List Value} {zs:List V} {ws:List Value},Vals vs us→Vals zs ws→Vals (gV vs zs) (g us ws)
noncomputable def S6 (sp:Sp) (gV:List V→List V→List V) (E:XK) (t tk:TA):TE:=fun σ H Q=>t σ H fun vs H1=>tk σ H1 fun zs H2=>sp (gV vs zs) H2 Q E
variable {g:List Value→List Value→List Value} {gV:List V→List V→List V}
end
set_option genInjectivity false in
set_option genSizeOfSpec false in
structure az (N P:List Str) (sc:Scope):Prop where
 kind:sc.kind=.function
 co:sc.isCoroutine=false
 gen:sc.isGenerator=false
 nd:N.Nodup
 pre:N.take P.length=P
 par:∀ x∈P,sc.names.lookup x=some .local∨sc.names.lookup x=some .cell
 K8:∀ y∈sc.names,y.2≠.free
theorem tX {kindOf:Str→Option NameKind} {x:Str}:∀ {binds:List (Str×Value)} {m:Str→Option Value},(∀ v,(x,v)∉binds)→bindL kindOf binds m x=m x
 | [],_,_=>rfl
 | (n,v) :: r,m,h=>by
   unfold bindL
   rw [tX fun w hw=>h w (List.mem_cons_of_mem _ hw)]
   split
   ·have:x≠n:=by rintro rfl; exact h v List.mem_cons_self
    simp [this]
   ·rfl
theorem tY {kindOf:Str→Option NameKind} {x:Str}:∀ {binds:List (Str×Value)} {m:Str→Option Value},(∀ v,(x,v)∉binds)→bindC kindOf binds m x=m x
 | [],_,_=>rfl
 | (n,v) :: r,m,h=>by
   unfold bindC
   rw [tY fun w hw=>h w (List.mem_cons_of_mem _ hw)]
   split
   ·rfl
   ·have:x≠n:=by rintro rfl; exact h v List.mem_cons_self
    simp [this]
theorem tZ {kindOf:Str→Option NameKind} {x:Str} {v:Value}:∀ {P:List Str} {vs:List Value} {i:Nat} {m:Str→Option Value},P.Nodup→P[i]?=some x→vs[i]?=some v→kindOf x=some .local →
 bindL kindOf (P.zip vs) m x=some v
 | [],_,_,_,_,h,_,_=>by simp at h
 | _ :: _,[],_,_,_,_,h,_=>by simp at h
 | p :: P,w :: vs,0,m,nd,h1,h2,hk=>by
   simp at h1 h2; subst h1; subst h2
   show bindL kindOf ((p,w) :: P.zip vs) m p=_
   unfold bindL
   rw [tX fun v hv=>(List.nodup_cons.mp nd).1 (List.of_mem_zip hv).1,if_pos hk]
   simp
 | p :: P,w :: vs,i + 1,m,nd,h1,h2,hk=>by
   show bindL kindOf ((p,w) :: P.zip vs) m x=_
   unfold bindL
   exact tZ (i:=i) (List.nodup_cons.mp nd).2 (by simpa using h1) (by simpa using h2) hk
theorem u0 {kindOf:Str→Option NameKind} {x:Str} {v:Value}:∀ {P:List Str} {vs:List Value} {i:Nat} {m:Str→Option Value},P.Nodup→P[i]?=some x→vs[i]?=some v→kindOf x≠some .local →
 bindC kindOf (P.zip vs) m x=some v
 | [],_,_,_,_,h,_,_=>by simp at h
 | _ :: _,[],_,_,_,_,h,_=>by simp at h
 | p :: P,w :: vs,0,m,nd,h1,h2,hk=>by
   simp at h1 h2; subst h1; subst h2
   show bindC kindOf ((p,w) :: P.zip vs) m p=_
   unfold bindC
   rw [tY fun v hv=>(List.nodup_cons.mp nd).1 (List.of_mem_zip hv).1,if_neg hk]
   simp
 | p :: P,w :: vs,i + 1,m,nd,h1,h2,hk=>by
   show bindC kindOf ((p,w) :: P.zip vs) m x=_
   unfold bindC
   exact u0 (i:=i) (List.nodup_cons.mp nd).2 (by simpa using h1) (by simpa using h2) hk
noncomputable def start (N:List Str) (vs:List V):St:=vs.map some++List.replicate (N.length - vs.length) none
noncomputable def xK (CX:BV) (P:Program) (w:World) (K:PySem.W.Frag) (mg:Str→Option Value) (base:Heap) (N:List Str) (qual:Str) (scope:Scope) (f:Addr) (cd:Value) (A:Around) (outer:List Env) (s:Shared) (H:Hp) (E:XK):Cx where
 prog:=P
 w:=w
 K:=K
 mg:=mg
 base:=base
 A:=A.deeper (envOfC qual scope s.heap.objs.size f cd)
 N:=N
 s₀:=s
 H₀:=H
 env:=envOfC qual scope s.heap.objs.size f cd
 outer:=outer
 stack:=envOfC qual scope s.heap.objs.size f cd :: outer
 ex:=[]
 calm:=true
 fn:=fun _=>true
 pn:=[]
 xe:=fun e s'=>wpAny (model P w) (A.deeper (envOfC qual scope s.heap.objs.size f cd)) («leaving» (envOfC qual scope s.heap.objs.size f cd) e) (fun _ CI=>CX outer H s E e CI) (fun e' CI=>CX outer H s E e' CI) s'
theorem xM {sc:Scope} {n:Nat} {x:Str} (h:sc.names.lookup x=some .cell):∃ c,(cellsFrom n sc.names []).lookup x=some c:=by
 have q:=PySem.W.cellsFrom_some sc.names n [] (.inl h)
 exact Option.isSome_iff_exists.mp q
theorem CJ {CX:BV} {P:Program} {w:World} {K:PySem.W.Frag} {mg:Str→Option Value} {base:Heap} {N ps:List Str} {qual:Str} {scope:Scope} {f:Addr} {cd:Value} {A:Around} {outer:List Env} {s s1:Shared} {H:Hp} {E:XK} {us:List Value} {vs:List V}
 (S:az N ps scope) (hd:A.handled=none) (e0:sA P w K mg base A outer s H) (hl:vs.length=ps.length) (r:Vals vs us)
 (x:InCallC s s.heap.objs.size (bindL (envOfC qual scope s.heap.objs.size f cd).kindOf (ps.zip us) fun _=>none) (cellsFrom (s.heap.objs.size + 1) scope.names []) (bindC (envOfC qual scope s.heap.objs.size f cd).kindOf (ps.zip us) fun _=>none) s1) :
 Inv (xK CX P w K mg base N qual scope f cd A outer s H E) [] (start N vs) H s1:=by
 have uO:ps.length≤N.length:=by have:=congrArg List.length S.pre; rw [List.length_take] at this; omega
 obtain ⟨h1,tk,rfl,hk⟩:=x.done
 have Nf:∀ b:Addr,b∉(xK CX P w K mg base N qual scope f cd A outer s H E).ex:=fun b z=>absurd (show b∈([]:List Addr) from z) (by simp)
 refine ⟨⟨e0.mod,S.kind,rfl,rfl,Nat.le_refl _,fun y z c h1 h2=>?_,fun y hy=>?_,fun y c _ h=>?_,fun _=>hd,Around.frames_deeper e0.frames,.inr ⟨rfl,rfl⟩,fun b z=>absurd z (Nf b),e0.bs,e0.zL,fun b _ _=>Nf b,fun b z=>absurd z (Nf b),e0.lW,e0.Ee⟩,
  rfl,e0.bare,Un.kept hk,⟨_,x.toInCall.ns,fun i y v h1 h2 h3=>?_⟩,fun y c h=>⟨_,x.cell y c h⟩,e0.bt.fresh (Nat.le_refl _),fun y c h=>?_,fun p hp=>absurd (show p∈([]:List (Addr×Obj)) from hp) (by simp),e0.bt.kept hk,?_⟩
 ·exact name_of_addr x.apart (PySem.mem_of_lookup h1) (PySem.mem_of_lookup h2)
 ·have hy:scope.names.lookup y=some .cell∨scope.names.lookup y=some .free:=hy
  rcases hy with hy | hy
  ·exact xM hy
  ·exact absurd rfl (S.K8 _ (PySem.mem_of_lookup hy))
 ·exact Nat.le_of_lt (x.above y c (PySem.mem_of_lookup h))
 ·have hi:i < vs.length:=by
   unfold start at h2
   by_cases hi:i < vs.length
   ·exact hi
   ·rw [List.getElem?_append_right (by simpa using hi)] at h2
    rw [List.getElem?_replicate] at h2
    split at h2 <;> cases h2
  have ha:vs[i]?=some v:=by
   unfold start at h2
   rw [List.getElem?_append_left (by simpa using hi),List.getElem?_map] at h2
   cases e:vs[i]? with
   | none=>rw [e] at h2; cases h2
   | some a=>rw [e] at h2; cases h2; rfl
  obtain ⟨u,hu,rv⟩:=r.get ha
  have hp:ps[i]?=some y:=by
   rw [← S.pre,List.getElem?_take_of_lt (by omega)]; exact h1
  have Vv:ps.Nodup:=by rw [← S.pre]; exact S.nd.sublist (List.take_sublist _ _)
  refine ⟨u,rv,?_⟩
  rcases S.par y (List.mem_of_getElem? hp) with k | k
  ·exact .inl ⟨k,tZ Vv hp hu k⟩
  ·obtain ⟨c,e⟩:=xM (n:=s.heap.objs.size + 1) k
   refine .inr ⟨.inl k,c,e,?_⟩
   have q:=x.cell y c e
   rw [u0 Vv hp hu (by show scope.names.lookup y≠_; rw [k]; decide)] at q
   exact q
 ·exact e0.bt.fresh (Nat.le_of_lt (x.above y c (PySem.mem_of_lookup h)))
 ·unfold start
  show _=N.length
  rw [List.length_append,List.length_map,List.length_replicate]
  omega
theorem J8 {CX:BV} {P:Program} {w:World} {K:PySem.W.Frag} {mg:Str→Option Value} {base:Heap} {k:Nat} {f:Addr} {name qual:Str} {params:Arguments} {body:List Stmt} {scope:Scope} {dV kV doc pm cR ct oc:Value} {an od:Option Addr}
 {zE:Array (Option Value)} {N ps:List Str} {sp:Sp} (lk:K.lookup f=some ⟨oc,od,.func (PySem.W.fnOf name qual params body scope dV kV doc pm an cR ct),zE⟩) (Cv:PySem.W.codeIn K cR qual=true) (S:az N ps scope)
 (len:∀ vs H Q E,sp vs H Q E→vs.length=ps.length)
 (xN:∀ (A:Around) (outer:List Env) (s:Shared) (H:Hp) (vs:List V) (Q:VK) (E:XK),fZ k (A.deeper (envOfC qual scope s.heap.objs.size f cR))→sp vs H Q E →
   ∃ t,xE (xK CX P w K mg base N qual scope f cR A outer s H E) body t∧t { nx:=fun _ H'=>Q .non H',rt:=Q } (start N vs) H) :
 bD P w K mg base CX (k + 1) f (PySem.W.fnOf name qual params body scope dV kV doc pm an cR ct) ps sp:=by
 refine ⟨len,fun A outer s H args us vs Q E hr e0 hb r zZ=>?_⟩
 have hl:=len _ _ _ _ zZ
 have KX:K.In s.heap:=e0.mod.LQ.keeps fun b o e=>(e0.bs b o e).1
 have lim:s.heap.NoLimit:=e0.mod.nolimit.keeps fun b o e=>(e0.bs b o e).1
 have Ng:∀ y∈ps.zip us,scope.names.lookup y.1=some .local∨(scope.names.lookup y.1=some .cell∧((cellsFrom (s.heap.objs.size + 1) scope.names []).lookup y.1).isSome=true):=fun ⟨n,v⟩ hy=>by
  rcases S.par n (List.of_mem_zip hy).1 with q | q
  ·exact .inl q
  ·exact .inr ⟨q,PySem.W.cellsFrom_some _ _ _ (.inl q)⟩
 refine codeAny_call_function hr.depth (KX _ _ lk) rfl S.co S.gen rfl (PySem.W.codeRec_of KX Cv) (hb _ _ _ _ ?_)
 refine wpAny_newFunctionEnv_cells S.kind Ng fun env he s1 x=>?_
 subst he
 refine ⟨lim.keeps x.toInCall.keep,codeAny_func ?_⟩
 obtain ⟨t,ht,hq⟩:=xN A outer s H vs Q E (hr.deeper _) zZ
 have I:Inv (xK CX P w K mg base N qual scope f cR A outer s H E) [] (start N vs) H s1:=CJ S hr.hd e0 hl r x
 refine wpAny_mono (ht [] s1 (start N vs) H _ I hq) (fun fl s' hs=>?_) fun e s' hs=>hs
 have fin:∀ {σ':St} {H':Hp} {v:V} {u:Value},Inv (xK CX P w K mg base N qual scope f cR A outer s H E) [] σ' H' s'→RelV v u→Q v H'→CE outer P w H s Q u s':=
  fun {σ' H' v u} J rv q=>⟨v,H',J.os,J.bare,J.base,J.bt,rv,q⟩
 cases fl with
 | ret u=>
   obtain ⟨v,σ',H',J,rv,q⟩:=hs
   exact fin J rv q
 | next=>
   obtain ⟨σ',H',J,q⟩:=hs
   exact fin (v:=V.non) (u:=Value.none) J rfl q
 | brk=>
   obtain ⟨_,_,_,q⟩:=hs
   exact False.elim q
 | cont=>
   obtain ⟨_,_,_,q⟩:=hs
   exact False.elim q
end L2
namespace L2
open PySem PySem.Spec PyProof.Rows
section
variable {X:Cx} {x:Str} {p pos:Pos} {e:Expr} {es:List Expr} {t:TA} {id T:String} {r:List V→Hp→VK→Prop}
noncomputable def Vw (r:List V→Hp→VK→Prop) (t:TA):TE:=fun σ H Q=>t σ H fun vs H1=>r vs H1 Q
theorem au (hc:fK X (.builtin id) r) (hg:Gl X x) (hm:X.mg x=none) (hv:bootBuiltins x=some (.builtin id)) (ha:PA X (e :: es) t) (hn:x≠"__name__":=by decide) (zD:(x == ("__debug__":Str))=false:=by decide)
 (he:starEach (e :: es) X.env=(false,eval e X.env) :: starEach es X.env:=by rfl) (uO:(backTo pos (starEach es X.env)).any (·.1)=false:=by rfl):PE X (.Call (.Name x p) (e :: es) [] pos) (Vw r t):=by
 intro pins s σ H Q I h
 refine wpAny_Call_Name_kw (o4 I hg hm hv ?_ hn zD)
 exact PyProof.Rows.callWith_builtin1 (cg (ha pos pins s σ H _ I h) fun us s1 ⟨vs,H1,I1,r1,q1⟩=>hc pins s1 σ H1 vs us Q I1 r1 q1) he uO
theorem eE (hc:fK X (.type T) r) (hg:Gl X x) (hm:X.mg x=none) (hv:bootBuiltins x=some (.type T)) (ha:PA X (e :: es) t) (hn:x≠"__name__":=by decide) (zD:(x == ("__debug__":Str))=false:=by decide)
 (he:starEach (e :: es) X.env=(false,eval e X.env) :: starEach es X.env:=by rfl) (uO:(backTo pos (starEach es X.env)).any (·.1)=false:=by rfl):PE X (.Call (.Name x p) (e :: es) [] pos) (Vw r t):=by
 intro pins s σ H Q I h
 refine wpAny_Call_Name_kw (o4 I hg hm hv ?_ hn zD)
 exact PyProof.Rows.callWith_type1 (cg (ha pos pins s σ H _ I h) fun us s1 ⟨vs,H1,I1,r1,q1⟩=>hc pins s1 σ H1 vs us Q I1 r1 q1) he uO
end
end L2
namespace HT
open PySem PyProof.Rows
noncomputable def lexLt:List Int→List Int→Bool
 | [],[]=>false
 | [],_ :: _=>true
 | _ :: _,[]=>false
 | x :: xs,y :: ys=>if x=y then lexLt xs ys else decide (x < y)
section
open PySem.SeqAt
open PySem.AutoSeq1 (wpAny_loadPart')
open PySem.MeetsSeq PySem.MeetsSeq2 PySem.MeetsSeq3
end
section
variable {prog:Program} {w:World} {A:Around} {E:Value→Shared→Prop} {s:Shared}
noncomputable def sD (n d:Nat):Option Int→Nat
 | none=>d
 | some v=>if v < 0 then (v + (n:Int)).toNat else min v.toNat n
end
end HT
namespace L2
open PySem PySem.Spec PyProof.Rows
noncomputable abbrev TO:=St→Hp→(Option Int→Hp→Prop)→Prop
noncomputable def PO (X:Cx) (e:Option Expr) (t:TO):Prop:=
 ∀ (pins:List (Addr×Obj)) (s:Shared) (σ:St) (H:Hp) (Q:Option Int→Hp→Prop),Inv X pins σ H s→t σ H Q →
  wpAny (model X.prog X.w) X.A (evalPart e X.env) (fun u s'=>∃ o H',Inv X pins σ H' s'∧IsPart u o∧Q o H') X.xe s
noncomputable def Ha:TO:=fun _ H Q=>Q none H
noncomputable def Nh (t:TE):TO:=fun σ H Q=>t σ H fun x H1=>∃ i,x=.int i∧Q (some i) H1
section
variable {X:Cx} {e:Expr} {te:TE} {lo hi:Option Expr} {tl th:TO} {pos p2:Pos}
theorem ni:PO X none Ha:=by
 intro pins s σ H Q I h
 rw [evalPart_none]
 exact wpAny_pure ⟨none,H,I,.none,h⟩
theorem iI (h:PE X e te):PO X (some e) (Nh te):=by
 intro pins s σ H Q I hw
 rw [evalPart_some]
 refine cg (h pins s σ H _ I hw) fun u s1 ⟨x,H1,I1,r1,q1⟩=>?_
 obtain ⟨i,rfl,q⟩:=q1
 obtain ⟨t,rfl⟩:=r1
 exact ⟨some i,H1,I1,.int i t,q⟩
noncomputable def S7 (X:Cx) (r:V→Option Int→Option Int→Hp→VK→Prop):Prop:=
 ∀ (pins:List (Addr×Obj)) (s:Shared) (σ:St) (H:Hp) (x:V) (v vl vu:Value) (lo hi:Option Int) (sl:Addr) (Q:VK),Inv X pins σ H s→RelV x v→s.heap.IsSliceOf sl vl vu .none→IsPart vl lo→IsPart vu hi→r x lo hi H Q →
  ∃ T id,typeLookup (.type T) "__getitem__"=pure (some (.builtin id))∧s.TypeIs v T∧wpAny (model X.prog X.w) X.A (getItem v (.ref sl)) (EP X pins σ Q) X.xe s
noncomputable def Yr (r:V→Option Int→Option Int→Hp→VK→Prop) (te:TE) (tl th:TO):TE:=fun σ H Q=>te σ H fun x H1=>tl σ H1 fun l H2=>th σ H2 fun u H3=>r x l u H3 Q
theorem iV {r:V→Option Int→Option Int→Hp→VK→Prop} (hr:S7 X r) (he:PE X e te) (hl:PO X lo tl) (hu:PO X hi th):PE X (.Subscript e (.Slice lo hi none p2) pos) (Yr r te tl th):=by
 intro pins s σ H Q I h
 refine Subscript_ (cg (he pins s σ H _ I h) fun v s1 ⟨x,H1,I1,r1,q1⟩=>?_)
 refine wpAny_Slice (cg (hl pins s1 σ H1 _ I1 q1) fun vl s2 ⟨l,H2,I2,pl,q2⟩=>cg (hu pins s2 σ H2 _ I2 q2) fun vu s3 ⟨u,H3,I3,pu,q3⟩=>?_)
 rw [evalPart_none]
 refine wpAny_pure ?_
 have I4:Inv X pins σ H3 { s3 with heap:=s3.heap.push { cls:=.type "slice",data:=.fields #[vl,vu,.none] } }:=I3.kept (t':=s3.toks) fun b ob q=>Heap.get?_push_of_some _ q
 obtain ⟨T,id,hT,ht,hg⟩:=hr pins { s3 with heap:=s3.heap.push { cls:=.type "slice",data:=.fields #[vl,vu,.none] } } σ H3 x v vl vu l u s3.heap.objs.size Q I4 r1 (Heap.IsSliceOf.new ..) pl pu q3
 show wpAny (model X.prog X.w) X.A (subscriptTail e (.Slice lo hi none p2) v (.ref s3.heap.objs.size)) (EP X pins σ Q) X.xe { s3 with heap:=s3.heap.push { cls:=.type "slice",data:=.fields #[vl,vu,.none] } }
 exact tail_any (ops:=[.ref s3.heap.objs.size,v]) ht hT hg (by with_unfolding_all rfl)
noncomputable def uR (xs:List V) (lo hi:Option Int):List V:=(xs.drop (HT.sD xs.length 0 lo)).take (HT.sD xs.length xs.length hi - HT.sD xs.length 0 lo)
theorem xO (xs:List V) (lo hi:Option Int):(uR xs lo hi).length≤xs.length:=by
 unfold uR
 rw [List.length_take,List.length_drop]
 omega
noncomputable def Ys (K:PySem.W.Frag):V→Option Int→Option Int→Hp→VK→Prop:=fun x lo hi H Q=>∃ a xs,x=.ref a∧jF K H a xs ∧
 ¬ (HT.sD xs.length 0 lo=0∧HT.sD xs.length xs.length hi=xs.length)∧∀ p,H p=none→Q (.ref p) (upd H p (.tup (uR xs lo hi)))
noncomputable def Yt (K:PySem.W.Frag):R2:=fun x y H Q=>∃ a b ns ms,x=.ref a∧y=.ref b∧jF K H a (ns.map V.int)∧jF K H b (ms.map V.int)∧Q (.bl (HT.lexLt ns ms)) H
noncomputable def Vx (K:PySem.W.Frag):R2:=fun x y H Q=>∃ a b xs ys,x=.ref a∧y=.ref b∧jF K H a xs∧jF K H b ys∧xs≠[]∧xs.length + ys.length≤sizeLine ∧
 (ys=[]→Q (.ref a) H)∧(ys≠[]→∀ p,H p=none→Q (.ref p) (upd H p (.tup (xs++ys))))
end
end L2
namespace L2
open PySem PySem.Spec PyProof.Rows
noncomputable def CK (n:Nat) (i:Int):Option Nat:=if 0≤i then (if i < n then some i.toNat else none) else if -(n:Int)≤i then some (i + n).toNat else none
noncomputable def pA {α:Type} (xs:List α) (i:Int):Option α:=(CK xs.length i).bind fun j=>xs[j]?
theorem BW {n:Nat} {i:Int} {j:Nat} (h:CK n i=some j):seqIndex? i n=some j∧j < n∧-(n:Int)≤i∧i < n:=by
 unfold CK at h
 by_cases h0:0≤i
 ·rw [if_pos h0] at h
  by_cases h1:i < n
  ·rw [if_pos h1] at h
   have e:i.toNat=j:=Option.some.inj h
   exact ⟨by rw [seqIndex_of h0 h1,e],by omega,by omega,h1⟩
  ·rw [if_neg h1] at h; cases h
 ·rw [if_neg h0] at h
  by_cases h1:-(n:Int)≤i
  ·rw [if_pos h1] at h
   have e:(i + n).toNat=j:=Option.some.inj h
   exact ⟨by rw [seqIndex_neg (by omega) h1,e],by omega,h1,by omega⟩
  ·rw [if_neg h1] at h; cases h
theorem uS {α:Type} {xs:List α} {i:Int} {v:α} (h:pA xs i=some v):∃ j,seqIndex? i xs.length=some j∧xs[j]?=some v∧j < xs.length∧-(xs.length:Int)≤i∧i < xs.length:=by
 unfold pA at h
 cases e:CK xs.length i with
 | none=>rw [e] at h; cases h
 | some j=>
   rw [e] at h
   obtain ⟨h1,h2,h3,h4⟩:=BW e
   exact ⟨j,h1,h,h2,h3,h4⟩
theorem bZ {α:Type} {xs:List α} {j:Nat} {v:α} (h:xs[j]?=some v):pA xs (j:Int)=some v:=by
 have hj:j < xs.length:=(List.getElem?_eq_some_iff.mp h).1
 have e:CK xs.length (j:Int)=some j:=by
  unfold CK
  rw [if_pos (by omega),if_pos (by omega)]; simp
 unfold pA; rw [e]; exact h
theorem Eu {α:Type} (xs:List α) (v:α):pA (xs++[v]) (-1)=some v:=by
 have hl:(xs++[v]).length=xs.length + 1:=by simp
 have e:CK (xs++[v]).length (-1)=some xs.length:=by
  unfold CK
  rw [hl,if_neg (by decide),if_pos (by omega)]
  congr 1
  omega
 unfold pA
 rw [e]
 show (xs++[v])[xs.length]?=some v
 simp
noncomputable def Hc (b:Expr):Prop:=∀ o i,subscripted b false o i=operate [o,i] (getItem o i)
noncomputable def Ni (X:Cx) (r:R2):Prop:=
 ∀ (value slice:Expr) (pins:List (Addr×Obj)) (s:Shared) (σ:St) (H:Hp) (x y:V) (v u:Value) (Q:VK),Inv X pins σ H s→RelV x v→RelV y u→r x y H Q →
  subscripted slice false v u=operate [v,u] (getItem v u)→wpAny (model X.prog X.w) X.A (subscriptTail value slice v u) (EP X pins σ Q) X.xe s
noncomputable def K9 (X:Cx) (id:String) (r:V→List V→Hp→VK→Prop):Prop:=
 ∀ (pins:List (Addr×Obj)) (s:Shared) (σ:St) (H:Hp) (x:V) (xs:List V) (v:Value) (us:List Value) (Q:VK),Inv X pins σ H s→RelV x v→Vals xs us→r x xs H Q →
  wpAny (model X.prog X.w) X.A (call (.builtin id) (v :: us)) (EP X pins σ Q) X.xe s
section
variable {X:Cx} {a b:Expr} {ta tb:TE} {pos:Pos}
theorem cz {r:R2} (hr:Ni X r) (ha:PE X a ta) (hb:PE X b tb) (hs:Hc b):PE X (.Subscript a b pos) (Qo r ta tb):=by
 intro pins s σ H Q I h
 exact Subscript_ (K4 ha hb I h fun v u s2 x y H2 I2 rx ry q=>hr a b pins s2 σ H2 x y v u Q I2 rx ry q (hs _ _))
noncomputable def Ka (K:PySem.W.Frag):R2:=fun x y H Q=>∃ p xs i v,x=.ref p∧y=.int i∧aK K H p xs∧pA xs i=some v∧Q v H
noncomputable def Nj (K:PySem.W.Frag):R2:=fun x y H Q=>∃ p xs i v,x=.ref p∧y=.int i∧jF K H p xs∧pA xs i=some v∧Q v H
noncomputable def Nk:R2:=fun x y H Q=>∃ z i c,x=.str z∧y=.int i∧z.length≤sizeLine∧pA z.cps.toList i=some c∧Q (.str ⟨#[c]⟩) H
theorem b8:Ni X (Ka X.K):=by
 intro value slice pins s σ H x y v u Q I rx ry h hs
 obtain ⟨p,xs,i,z,rfl,rfl,hq,he,q⟩:=h
 cases rx
 obtain ⟨t,rfl⟩:=ry
 obtain ⟨its,r,pl,hz⟩:=I.list hq
 obtain ⟨j,h1,h2,h3,h4,h5⟩:=uS he
 obtain ⟨w,ew,qf⟩:=r.get h2
 have hl:=r.length
 have hn:=o7
 have fin:EP X pins σ Q w s:=⟨z,H,I,qf,q⟩
 by_cases h0:0≤i
 ·have hj:i.toNat=j:=by
   rw [seqIndex_of h0 h5] at h1
   exact Option.some.inj h1
  exact item_listR pl.isList h0 (by omega) (by rw [hj]; simpa using ew) fin hs
 ·have hj:(i + (its.toArray.size:Int)).toNat=j:=by
   rw [seqIndex_neg (by omega) h4] at h1
   rw [List.size_toArray,← hl]
   exact Option.some.inj h1
  exact subscriptTail_builtinR (x:=w) pl.isList.typeIs slot_list_getitem.lookup
   (wpAny_getItem_list_neg (Q:=fun r s'=>r=w∧EP X pins σ Q r s') pl.isList (by omega) (by rw [List.size_toArray] <;> omega) (by omega) (by rw [hj]; simpa using ew) ⟨rfl,fin⟩) hs
theorem Kb:Ni X (Nj X.K):=by
 intro value slice pins s σ H x y v u Q I rx ry h hs
 obtain ⟨p,xs,i,z,rfl,rfl,hq,he,q⟩:=h
 cases rx
 obtain ⟨t,rfl⟩:=ry
 obtain ⟨its,r,pl,hz⟩:=I.tuple hq
 obtain ⟨j,h1,h2,h3,h4,h5⟩:=uS he
 obtain ⟨w,ew,qf⟩:=r.get h2
 have hl:=r.length
 have hn:=o7
 have fin:EP X pins σ Q w s:=⟨z,H,I,qf,q⟩
 exact subscriptTail_builtinR (x:=w) pl.typeIs slot_tuple_getitem.lookup
  (getItem_tuple (j:=j) (Q:=fun r s'=>r=w∧EP X pins σ Q r s') pl (by omega) (by omega) (by rw [List.size_toArray,← hl]; exact h1) (by simpa using ew) ⟨rfl,fin⟩) hs
theorem Ew:Ni X Nk:=by
 intro value slice pins s σ H x y v u Q I rx ry h hs
 obtain ⟨z,i,c,rfl,rfl,hz,he,q⟩:=h
 obtain ⟨t,rfl⟩:=rx
 obtain ⟨t',rfl⟩:=ry
 obtain ⟨j,h1,h2,h3,h4,h5⟩:=uS he
 have hl:z.cps.toList.length=z.length:=by simp [Str.length]
 rw [hl] at h1 h4 h5
 have hn:=o7
 exact tail_any (typeIs_str s z t) slot_str_getitem.lookup (getItem_str (c:=c) (by
  have e1:decide (i < -(2 ^ 63:Int))=false:=decide_eq_false (by omega)
  have e2:decide (i ≥ 2 ^ 63)=false:=decide_eq_false (by omega)
  rw [e1,e2,Bool.or_false]) (by rw [h1]; simpa using h2) ⟨.str ⟨#[c]⟩,H,I.tok _,⟨_,rfl⟩,q⟩) hs
noncomputable def rIx (K:PySem.W.Frag):R2:=fun x y H Q=>Ka K x y H Q∨Nj K x y H Q∨Nk x y H Q
theorem A2 (its:List Value) (n j:Nat) (u:Value):Obj.mapSeq (·.setIfInBounds j u) { cls:=.type "list",data:=.seq its.toArray n }={ cls:=.type "list",data:=.seq (its.set j u).toArray n }:=by
 simp [Obj.mapSeq]
theorem Inv.lst {pins:List (Addr×Obj)} {σ:St} {H:Hp} {s:Shared} {p:Addr} {xs:List V} (I:Inv X pins σ H s) (h:H p=some (.lst xs)) :
 ∃ (its:List Value) (n:Nat),Vals xs its∧s.heap.get? p=some { cls:=.type "list",data:=.seq its.toArray n }∧xs.length≤sizeLine:=by
 obtain ⟨z,its,n,r,e⟩:=I.bt p _ h
 exact ⟨its,n,r,e,z⟩
theorem Inv.Kc {pins:List (Addr×Obj)} {σ:St} {H:Hp} {s:Shared} {p:Addr} {xs ys:List V} {its its':List Value} {n n':Nat} {f:Obj→Obj} (I:Inv X pins σ H s) (h:H p=some (.lst xs))
 (ho:s.heap.get? p=some { cls:=.type "list",data:=.seq its.toArray n }) (hf:f { cls:=.type "list",data:=.seq its.toArray n }={ cls:=.type "list",data:=.seq its'.toArray n' }) (r:Vals ys its') (hz:ys.length≤sizeLine) (t:Nat) :
 Inv X pins σ (upd H p (.lst ys)) { s with heap:=s.heap.update p f,toks:=t }:=by
 have e:(s.heap.update p f).get? p=some { cls:=.type "list",data:=.seq its'.toArray n' }:=by
  rw [Heap.get?_update_self f ho (by rw [hf] <;> rfl),hf]
 refine I.write (x:=p) (e:=p) (by rw [h]; trivial) (.inl rfl) (fun b u hb q=>(Heap.get?_update_other _ _ (Ne.symm hb)).trans q) ⟨_,e⟩ ?_
 exact ⟨hz,its',n',r,e⟩
noncomputable def Nm:V→V→V→Hp→(Hp→Prop)→Prop:=fun o i v H Q=>∃ p xs k j,o=.ref p∧i=.int k∧H p=some (.lst xs)∧CK xs.length k=some j∧Q (upd H p (.lst (xs.set j v)))
theorem set_list:MO X Nm:=by
 intro pins s σ H o i v ov iv u Q I ro ri rv h
 obtain ⟨p,xs,k,j,rfl,rfl,hp,hj,q⟩:=h
 cases ro
 obtain ⟨t,rfl⟩:=ri
 obtain ⟨its,n,r,ho,hz⟩:=I.lst hp
 obtain ⟨h1,h2,h3,h4⟩:=BW hj
 have hl:=r.length
 have hn:=o7
 have I':Inv X pins σ (upd H p (.lst (xs.set j v))) { s with heap:=s.heap.update p (Obj.mapSeq (·.setIfInBounds j u)) }:=
  I.Kc hp ho (A2 its n j u) (r.set rv j) (by rw [List.length_set]; exact hz) s.toks
 by_cases h0:0≤k
 ·have hk:k.toNat=j:=by
   rw [seqIndex_of h0 h4] at h1
   exact Option.some.inj h1
  exact PySem.W.ki_setAt ho h0 (by omega) (by rw [List.size_toArray,← hl]; exact h4) (by rw [hk]; exact ⟨_,I',q⟩)
 ·have hk:(k + (its.toArray.size:Int)).toNat=j:=by
   rw [seqIndex_neg (by omega) h3] at h1
   rw [List.size_toArray,← hl]
   exact Option.some.inj h1
  exact PySem.W.ki_setBack ho (by omega) (by rw [List.size_toArray,← hl]; exact h3) (by omega) (by rw [hk]; exact ⟨_,I',q⟩)
theorem uT (lo hi:Option Int) (n:Nat):(sliceBounds lo hi none n).1=((HT.sD n 0 lo:Nat):Int)∧(sliceBounds lo hi none n).2.1=((HT.sD n n hi:Nat):Int)∧(sliceBounds lo hi none n).2.2=1:=by
 refine ⟨?_,?_,rfl⟩
 ·cases lo with
  | none=>simp [sliceBounds,HT.sD]
  | some i=>
    simp only [sliceBounds,HT.sD,Option.getD_none,show (1:Int) > 0 by decide,if_true]
    by_cases h:i < 0
    ·simp only [h,if_true] <;> omega
    ·simp only [h,if_false] <;> omega
 ·cases hi with
  | none=>simp [sliceBounds,HT.sD]
  | some i=>
    simp only [sliceBounds,HT.sD,Option.getD_none,show (1:Int) > 0 by decide,if_true]
    by_cases h:i < 0
    ·simp only [h,if_true] <;> omega
    ·simp only [h,if_false] <;> omega
theorem sE (its:List Value) (lo hi:Option Int):slicePick its.toArray lo hi none=((its.drop (HT.sD its.length 0 lo)).take (HT.sD its.length its.length hi - HT.sD its.length 0 lo)).toArray:=by
 obtain ⟨h1,h2,h3⟩:=uT lo hi its.toArray.size
 unfold slicePick
 rw [h1,h2,h3]
 simp only [sliceRange_one,pick_run,List.size_toArray] <;> rfl
noncomputable def S8 (K:PySem.W.Frag):V→Option Int→Option Int→Hp→VK→Prop:=fun x lo hi H Q=>∃ a xs,x=.ref a∧aK K H a xs∧∀ p,H p=none→Q (.ref p) (upd H p (.lst (uR xs lo hi)))
theorem BX:S7 X (S8 X.K):=by
 intro pins s σ H x v vl vu lo hi sl Q I rx hs pl pu h
 obtain ⟨a,xs,rfl,hx,q⟩:=h
 cases rx
 obtain ⟨its,r,ht,hz⟩:=I.list hx
 have hlen:=r.length
 refine ⟨"list",_,slot_list_getitem.lookup,ht.isList.typeIs,?_⟩
 refine wpAny_getItem_list_slice ht.isList hs pl pu .none (by simp) ?_ (by rw [List.size_toArray] <;> omega)
 rw [sE,← hlen]
 refine ⟨.ref s.heap.objs.size,_,I.laid (t':=s.toks) (o:=.lst (uR xs lo hi)) (fun b ob q=>Heap.get?_push_of_some _ q) (Nat.le_refl _) ?_,rfl,q _ (I.bt.fresh (Nat.le_refl _))⟩
 exact ⟨Nat.le_trans (xO xs lo hi) hz,_,0,(r.drop (HT.sD xs.length 0 lo)).take (HT.sD xs.length xs.length hi - HT.sD xs.length 0 lo),Heap.get?_push_size _ rfl⟩
noncomputable def cP:V→Bool
 | .non=>true
 | .bl _=>true
 | .int _=>true
 | .str _=>true
 | _=>false
noncomputable def qg:V→V→Bool
 | .non,.non=>true
 | .bl a,.bl b=>a == b
 | .bl a,.int b=>(if a then 1 else 0) == b
 | .int a,.bl b=>a == (if b then 1 else 0)
 | .int a,.int b=>a == b
 | .str a,.str b=>a == b
 | _,_=>false
theorem qh {A:Around} {s:Shared} {y x:V} {u v:Value} (ry:RelV y u) (rx:RelV x v) (fy:cP y=true) (fx:cP x=true):SeqAt.EqAt A s u v (qg y x):=by
 cases y with
 | non=>
   cases ry
   cases x with
   | non=>cases rx; exact SeqAt.EqAt.same _
   | bl b=>cases rx; exact SeqAt.EqAt.none_bool b
   | int b=>obtain ⟨t,rfl⟩:=rx; exact SeqAt.EqAt.none_int b t
   | str b=>obtain ⟨t,rfl⟩:=rx; exact SeqAt.EqAt.none_str b t
   | _=>exact absurd (show false=true from fx) Bool.false_ne_true
 | bl a=>
   cases ry
   cases x with
   | non=>cases rx; exact SeqAt.EqAt.bool_none a
   | bl b=>cases rx; exact SeqAt.EqAt.bool_bool a b
   | int b=>obtain ⟨t,rfl⟩:=rx; exact SeqAt.EqAt.bool_int a b t
   | str b=>obtain ⟨t,rfl⟩:=rx; exact SeqAt.EqAt.bool_str a b t
   | _=>exact absurd (show false=true from fx) Bool.false_ne_true
 | int a=>
   obtain ⟨t',rfl⟩:=ry
   cases x with
   | non=>cases rx; exact SeqAt.EqAt.int_none a t'
   | bl b=>cases rx; exact SeqAt.EqAt.int_bool a t' b
   | int b=>obtain ⟨t,rfl⟩:=rx; exact SeqAt.EqAt.int_int a t' b t
   | str b=>obtain ⟨t,rfl⟩:=rx; exact SeqAt.EqAt.int_str a t' b t
   | _=>exact absurd (show false=true from fx) Bool.false_ne_true
 | str a=>
   obtain ⟨t',rfl⟩:=ry
   cases x with
   | non=>cases rx; exact SeqAt.EqAt.str_none a t'
   | bl b=>cases rx; exact SeqAt.EqAt.str_bool a t' b
   | int b=>obtain ⟨t,rfl⟩:=rx; exact SeqAt.EqAt.str_int a t' b t
   | str b=>obtain ⟨t,rfl⟩:=rx; exact SeqAt.EqAt.str_str a t' b t
   | _=>exact absurd (show false=true from fx) Bool.false_ne_true
 | _=>exact absurd (show false=true from fy) Bool.false_ne_true
noncomputable def A3 (x:V) (u:Value):Bool:=match u with
 | .none=>qg .non x
 | .bool b=>qg (.bl b) x
 | .int i _=>qg (.int i) x
 | .str z _=>qg (.str z) x
 | _=>false
theorem Ex {x y:V} {u:Value} (r:RelV y u) (f:cP y=true):A3 x u=qg y x:=by
 cases y with
 | non=>cases r; rfl
 | bl b=>cases r; rfl
 | int i=>obtain ⟨t,rfl⟩:=r; rfl
 | str z=>obtain ⟨t,rfl⟩:=r; rfl
 | _=>exact absurd (show false=true from f) Bool.false_ne_true
theorem nj {x:V}:∀ {xs:List V} {us:List Value},Vals xs us→xs.all cP=true→us.any (A3 x)=xs.any fun y=>qg y x
 | _,_,.nil,_=>rfl
 | y :: xs,u :: us,.cons r t,f=>by
   rw [List.all_cons,Bool.and_eq_true] at f
   rw [List.any_cons,List.any_cons,Ex r f.1,nj t f.2]
theorem kP {A:Around} {s:Shared} {x:V} {v:Value} (rx:RelV x v) (fx:cP x=true):∀ {xs:List V} {us:List Value},Vals xs us→xs.all cP=true→∀ u∈us,SeqAt.EqAt A s u v (A3 x u)
 | _,_,.nil,_=>fun u hu=>by cases hu
 | y :: xs,u :: us,.cons r t,f=>fun u' hu=>by
   rw [List.all_cons,Bool.and_eq_true] at f
   rcases List.mem_cons.mp hu with rfl | hu
   ·rw [Ex r f.1]; exact qh r rx f.1 fx
   ·exact kP rx fx t f.2 u' hu
noncomputable def nY (x:V) (xs:List V):Bool:=xs.any fun y=>qg y x
noncomputable def Qr (K:PySem.W.Frag) (neg:Bool):R2:=fun x y H Q=>∃ p xs,y=.ref p∧(aK K H p xs∨jF K H p xs)∧cP x=true∧xs.all cP=true∧Q (.bl (if neg then !nY x xs else nY x xs)) H
theorem CL:n9 X (compareOp .In) (Qr X.K false):=by
 intro pins s σ H x y v u Q I rx ry h
 obtain ⟨p,xs,rfl,hq,fx,fs,q⟩:=h
 cases ry
 rcases hq with hq | hq
 ·obtain ⟨its,r,pl,hz⟩:=I.list hq
  refine SeqAt.in_listAt (A3 x) pl.isList (fun w hw=>kP rx fx r fs w (by simpa using hw)) ⟨.bl _,H,I,rfl,?_⟩
  rw [show its.toArray.any (A3 x)=its.any (A3 x) by simp,nj r fs]
  exact q
 ·obtain ⟨its,r,pl,hz⟩:=I.tuple hq
  refine SeqAt.in_tupleAt (A3 x) pl (fun w hw=>kP rx fx r fs w (by simpa using hw)) ⟨.bl _,H,I,rfl,?_⟩
  rw [show its.toArray.any (A3 x)=its.any (A3 x) by simp,nj r fs]
  exact q
theorem iJ:n9 X (compareOp .NotIn) (Qr X.K true):=by
 intro pins s σ H x y v u Q I rx ry h
 obtain ⟨p,xs,rfl,hq,fx,fs,q⟩:=h
 cases ry
 rcases hq with hq | hq
 ·obtain ⟨its,r,pl,hz⟩:=I.list hq
  refine SeqAt.notIn_listAt (A3 x) pl.isList (fun w hw=>kP rx fx r fs w (by simpa using hw)) ⟨.bl _,H,I,rfl,?_⟩
  rw [show its.toArray.any (A3 x)=its.any (A3 x) by simp,nj r fs]
  exact q
 ·obtain ⟨its,r,pl,hz⟩:=I.tuple hq
  refine SeqAt.notIn_tupleAt (A3 x) pl (fun w hw=>kP rx fx r fs w (by simpa using hw)) ⟨.bl _,H,I,rfl,?_⟩
  rw [show its.toArray.any (A3 x)=its.any (A3 x) by simp,nj r fs]
  exact q
theorem aW:fK X (.builtin "len") (fun xs H Q=>∃ p ys,xs=[.ref p]∧(aK X.K H p ys∨jF X.K H p ys)∧Q (.int ys.length) H):=by
 intro pins s σ H xs us Q I r h
 obtain ⟨p,ys,rfl,hq,q⟩:=h
 obtain ⟨u,rfl,rx⟩:=vals1 r
 cases rx
 have hn:=o7
 rcases hq with hq | hq
 ·obtain ⟨its,r',pl,hz⟩:=I.list hq
  have hlen:=r'.length
  exact Calls.call_len_list pl.isList (by simp only [List.size_toArray] <;> omega) ⟨.int ys.length,H,I.tok _,⟨s.toks + 1,by rw [List.size_toArray,hlen]⟩,q⟩
 ·obtain ⟨its,r',pl,hz⟩:=I.tuple hq
  have hlen:=r'.length
  exact len_tuple pl (by simp only [List.size_toArray] <;> omega) ⟨.int ys.length,H,I.tok _,⟨s.toks + 1,by rw [List.size_toArray,hlen]⟩,q⟩
theorem bP:fK X (.builtin "len") (fun xs H Q=>∃ z,xs=[.str z]∧z.length≤sizeLine∧Q (.int z.length) H):=by
 intro pins s σ H xs us Q I r h
 obtain ⟨z,rfl,hz,q⟩:=h
 obtain ⟨u,rfl,t,rfl⟩:=vals1 r
 have hn:=o7
 exact len_str (by omega) ⟨.int z.length,H,I.tok _,⟨_,rfl⟩,q⟩
theorem gz:fK X (.type "list") (fun xs H Q=>∃ p ys,xs=[.ref p]∧(aK X.K H p ys∨jF X.K H p ys)∧∀ l,H l=none→Q (.ref l) (upd H l (.lst ys))):=by
 intro pins s σ H xs us Q I r h
 obtain ⟨p,ys,rfl,hq,q⟩:=h
 obtain ⟨u,rfl,rx⟩:=vals1 r
 cases rx
 have fin:∀ (its:List Value),Vals ys its→ys.length≤sizeLine→∀ (h':Heap) (c':Nat),(∀ b o',s.heap.get? b=some o'→h'.get? b=some o') →
  h'.get? s.heap.objs.size=some { cls:=.type "list",dict:=none,data:=.seq its.toArray c',slots:=#[] }→EP X pins σ Q (.ref s.heap.objs.size) { s with heap:=h' }:=fun its r' hz h' c' kp e=>
  ⟨.ref s.heap.objs.size,_,I.laid (t':=s.toks) kp (Nat.le_refl _) (show cf X.prog X.w _ h' _ (.lst ys) from ⟨hz,its,c',r',e⟩),rfl,q _ (I.bt.fresh (Nat.le_refl _))⟩
 rcases hq with hq | hq
 ·obtain ⟨its,r',pl,hz⟩:=I.list hq
  have hlen:=r'.length
  obtain ⟨o,ho,hc,n,hd⟩:=pl.isList
  exact call_list_seq p (.inl rfl) ho hc hd (fun h' c' kp e=>fin its r' hz h' c' kp e) (by simp only [List.size_toArray] <;> omega)
 ·obtain ⟨its,r',pl,hz⟩:=I.tuple hq
  have hlen:=r'.length
  obtain ⟨o,ho,hc,n,hd⟩:=pl
  exact call_list_seq p (.inr rfl) ho hc hd (fun h' c' kp e=>fin its r' hz h' c' kp e) (by simp only [List.size_toArray] <;> omega)
noncomputable def S9 (K:PySem.W.Frag) (T:String) (x:V) (H:Hp):Prop:=match x with
 | .str _=>T="str"
 | .int _=>T="int"
 | .ref p=>(T="list"∧∃ xs,aK K H p xs)∨(T="tuple"∧∃ o,K.lookup p=some o∧o.cls=.type "tuple"∧o.dict=none) ∨
    (T="dict"∧((∃ kvs,H p=some (.dK kvs))∨∃ kvs,H p=some (.dT kvs)))∨(T="set"∧∃ S n,H p=some (.set S n))
 | _=>False
theorem Ey {pins:List (Addr×Obj)} {σ:St} {H:Hp} {s:Shared} {T:String} {x:V} {v:Value} (I:Inv X pins σ H s) (r:RelV x v) (ty:S9 X.K T x H) :
 s.TypeIs v T∧∀ a,v=.ref a→∃ ob,s.heap.get? a=some ob∧ob.dict=none:=by
 cases x with
 | str z=>
   obtain ⟨t,rfl⟩:=r
   cases (show T="str" from ty)
   exact ⟨typeIs_str s z t,fun _ e=>nomatch e⟩
 | int i=>
   obtain ⟨t,rfl⟩:=r
   cases (show T="int" from ty)
   exact ⟨typeIs_int s i t,fun _ e=>nomatch e⟩
 | ref p=>
   cases r
   rcases ty with ⟨rfl,xs,hq⟩ | ⟨rfl,o,hk,hc,hd⟩ | ⟨rfl,hk⟩ | ⟨rfl,S,n,hk⟩
   ·obtain ⟨its,_,pl,_⟩:=I.list hq
    refine ⟨pl.isList.typeIs,fun a e=>?_⟩
    cases e
    obtain ⟨o,n,e,c,hd,_⟩:=pl
    exact ⟨o,e,hd⟩
   ·refine ⟨⟨o,I.n8 p o hk,hc⟩,fun a e=>?_⟩
    cases e
    exact ⟨o,I.n8 _ o hk,hd⟩
   ·have z:∃ o,s.heap.get? p=some o∧o.ExactDict:=by
     rcases hk with ⟨kvs,hk⟩ | ⟨kvs,hk⟩
     ·obtain ⟨_,_,_,_,o,_,_,e,ex,_⟩:=I.bt p _ hk
      exact ⟨o,e,ex⟩
     ·obtain ⟨_,_,_,_,o,_,_,e,ex,_⟩:=I.bt p _ hk
      exact ⟨o,e,ex⟩
    obtain ⟨o,e,ex⟩:=z
    refine ⟨⟨o,e,ex.1⟩,fun a e2=>?_⟩
    cases e2
    exact ⟨o,e,ex.2.1⟩
   ·obtain ⟨o,_,_,_,e,ex,_⟩:=I.bt p _ hk
    refine ⟨⟨o,e,ex.1⟩,fun a e2=>?_⟩
    cases e2
    exact ⟨o,e,ex.2.1⟩
 | _=>exact False.elim ty
noncomputable def Nn (K:PySem.W.Frag) (T:String) (r:V→List V→Hp→VK→Prop) (to:TE):TE:=fun σ H Q=>to σ H fun x H1=>S9 K T x H1∧r x [] H1 Q
noncomputable def Vy (K:PySem.W.Frag) (T:String) (r:V→List V→Hp→VK→Prop) (to:TE) (t:TA):TE:=fun σ H Q=>to σ H fun x H1=>S9 K T x H1∧t σ H1 fun xs H2=>r x xs H2 Q
variable {o e:Expr} {es:List Expr} {to:TE} {t:TA} {name:Str} {apos eN:Pos} {T id:String} {r:V→List V→Hp→VK→Prop}
theorem Kd (pa:PlainAttrs T) (slot:Slot T name id) (Ke:typeOf (.builtin id)=pure (.type "method_descriptor")) (hm:K9 X id r) (ho:PE X o to)
 (qi:attributeBase o name X.env (eval o X.env)=eval o X.env:=by rfl) (hline:(apos.endLine == eN.line)=true:=by rfl):PE X (.Call (.Attribute o name apos) [] [] eN) (Nn X.K T r to):=by
 intro pins s σ H Q I h
 refine wpAny_Call_method0_late qi hline (cg (ho pins s σ H _ I h) fun v s1 ⟨x,H1,I1,r1,ty,q1⟩=>?_)
 obtain ⟨h1,h2⟩:=Ey I1 r1 ty
 exact ⟨T,id,pa,slot,Ke,h1,h2,Calls.callWith_builtin rfl (PySem.evalArgs_none (hm pins s1 σ H1 x [] v [] Q I1 r1 .nil q1))⟩
theorem nk (pa:PlainAttrs T) (slot:Slot T name id) (Ke:typeOf (.builtin id)=pure (.type "method_descriptor")) (hm:K9 X id r) (ho:PE X o to) (ha:PA X (e :: es) t)
 (qi:attributeBase o name X.env (eval o X.env)=eval o X.env:=by rfl)
 (Kf:((backTo eN (starEach (e :: es) X.env)).all (fun x=>!x.1) && (backToKw eN (keywordEach [] X.env)).all (fun x=>x.1.isSome)
   && decide ((e :: es).length + ([]:List Keyword).length + (if ([]:List Keyword).isEmpty then 0 else 1) < 30))=true:=by rfl)
 (hline:(apos.endLine == eN.line)=true:=by rfl) (hs:starEach (e :: es) X.env=(false,eval e X.env) :: starEach es X.env:=by rfl) (A4:(backTo eN (starEach es X.env)).any (·.1)=false:=by rfl) :
 PE X (.Call (.Attribute o name apos) (e :: es) [] eN) (Vy X.K T r to t):=by
 intro pins s σ H Q I h
 refine wpAny_Call_method_late qi Kf hline rfl (cg (ho pins s σ H _ I h) fun v s1 ⟨x,H1,I1,r1,ty,q1⟩=>?_)
 obtain ⟨h1,h2⟩:=Ey I1 r1 ty
 refine ⟨T,id,pa,slot,Ke,h1,h2,?_⟩
 have hA:=ha eN pins s1 σ H1 _ I1 q1
 rw [hs] at hA ⊢
 refine Calls.callWith_builtin (by show (false || (backTo eN (starEach es X.env)).any (·.1))=false; rw [A4] <;> rfl) (Calls.evalArgs_plain ?_)
 exact cg hA fun us s2 ⟨vs,H2,I2,r2,q2⟩=>hm pins s2 σ H2 x vs v us Q I2 r1 r2 q2
end
end L2
namespace L2
open PySem PySem.Spec PyProof.Rows
noncomputable def Vz (X:Cx) (id:String) (r:V→List V→Hp→VK→Prop):Prop:=
 ∀ (pins:List (Addr×Obj)) (s:Shared) (σ:St) (H:Hp) (x:V) (xs:List V) (v:Value) (us:List Value) (Q:VK),Inv X pins σ H s→RelV x v→Vals xs us→r x xs H Q →
  wpAny (model X.prog X.w) X.A (call (.builtin id) (v :: us)) (EP X pins σ Q) X.xe s
theorem Vals.one:∀ {x:V} {us:List Value},Vals [x] us→∃ u,us=[u]∧RelV x u
 | _,_,.cons r .nil=>⟨_,rfl,r⟩
theorem Vals.zero:∀ {us:List Value},Vals [] us→us=[]
 | _,.nil=>rfl
theorem Vals.dropLast {xs:List V} {us:List Value} (h:Vals xs us):Vals xs.dropLast us.dropLast:=by
 induction h with
 | nil=>exact .nil
 | cons r t ih=>
   cases t with
   | nil=>exact .nil
   | cons q t'=>exact .cons r ih
theorem Vals.eraseIdx:∀ {xs:List V} {us:List Value} (i:Nat),Vals xs us→Vals (xs.eraseIdx i) (us.eraseIdx i)
 | _,_,_,.nil=>.nil
 | _,_,0,.cons _ t=>t
 | _,_,i + 1,.cons r t=>.cons r (Vals.eraseIdx i t)
theorem Vals.reverse {xs:List V} {us:List Value} (h:Vals xs us):Vals xs.reverse us.reverse:=by
 induction h with
 | nil=>exact .nil
 | cons r t ih=>rw [List.reverse_cons,List.reverse_cons]; exact Vals.append ih (.cons r .nil)
section
variable {X:Cx} {pins:List (Addr×Obj)} {σ:St} {H:Hp} {s:Shared} {l b:Addr} {xs ys zs:List V}
theorem Inv.Np {its its':List Value} {n:Nat} {f:Array Value→Array Value} {t':Nat} (I:Inv X pins σ H s) (hH:H l=some (.lst xs))
 (e:s.heap.get? l=some { cls:=.type "list",data:=.seq its.toArray n }) (hf:f its.toArray=its'.toArray) (hv:Vals ys its') (hz:ys.length≤sizeLine) :
 Inv X pins σ (upd H l (.lst ys)) { s with heap:=s.heap.update l (Obj.mapSeq f),toks:=t' }:=by
 have q:=PySem.IsL.update e f
 rw [hf] at q
 refine I.write (x:=l) (e:=l) (by rw [hH]; exact trivial) (.inl rfl) (fun b' u hb hu=>(Heap.get?_update_other s.heap (Obj.mapSeq f) (Ne.symm hb)).trans hu) ⟨_,q⟩ ?_
 exact ⟨hz,its',_,hv,q⟩
theorem Inv.Nq {its:List Value} {t':Nat} (I:Inv X pins σ H s) (hv:Vals ys its) (hz:ys.length≤sizeLine) :
 Inv X pins σ (upd H s.heap.objs.size (.lst ys)) { s with heap:=s.heap.push { cls:=.type "list",data:=.seq its.toArray },toks:=t' }:=
 I.laid (fun _ _ q=>Heap.get?_push_of_some _ q) (Nat.le_refl _) ⟨hz,its,0,hv,Heap.get?_push_size _ rfl⟩
theorem Inv.fresh (I:Inv X pins σ H s):H s.heap.objs.size=none:=I.bt.fresh (Nat.le_refl _)
theorem Inv.Ez (I:Inv X pins σ H s) (hH:H l=some (.lst xs)):xs.length≤sizeLine∧∃ (its:List Value) (n:Nat),Vals xs its∧xs.length=its.length∧s.heap.get? l=some { cls:=.type "list",data:=.seq its.toArray n }:=by
 obtain ⟨z,its,n,r,e⟩:=I.bt l _ hH
 exact ⟨z,its,n,r,r.length,e⟩
theorem EA {n:Nat} (h:n≤sizeLine):Builtin.List.listTooLong n=false:=by
 unfold Builtin.List.listTooLong
 exact decide_eq_false (by omega)
end
section
variable {X:Cx}
noncomputable def Hd:V→List V→Hp→VK→Prop:=fun x vs H Q=>∃ l xs y,x=.ref l∧vs=[y]∧H l=some (.lst xs)∧xs.length < sizeLine∧Q .non (upd H l (.lst (xs++[y])))
theorem gj:Vz X "list.append" Hd:=by
 intro pins s σ H x vs v us Q I rx rv h
 obtain ⟨l,xs,y,rfl,rfl,hH,hz,q⟩:=h
 cases rx
 obtain ⟨u,rfl,ru⟩:=rv.one
 obtain ⟨z,its,n,r,hl,e⟩:=I.Ez hH
 refine call_meets F.slot_list_append ⟨_,e,rfl⟩ F.entry_list_append (F.args_list_append_2 _ _) (PySem.list_append l its.toArray n u (by rw [List.size_toArray]; omega)) ⟨e,?_⟩
 refine ⟨.non,_,I.Np (its':=its++[u]) hH e (by simp) (r.append (.cons ru .nil)) ?_,rfl,q⟩
 rw [List.length_append,List.length_singleton]
 omega
noncomputable def He:V→List V→Hp→VK→Prop:=fun x vs H Q=>∃ l b xs zs,x=.ref l∧vs=[.ref b]∧H l=some (.lst xs)∧H b=some (.lst zs)∧xs.length + zs.length≤sizeLine∧Q .non (upd H l (.lst (xs++zs)))
theorem LX:Vz X "list.extend" He:=by
 intro pins s σ H x vs v us Q I rx rv h
 obtain ⟨l,b,xs,zs,rfl,rfl,hH,hB,hz,q⟩:=h
 cases rx
 obtain ⟨u,rfl,ru⟩:=rv.one
 cases ru
 obtain ⟨z,its,n,r,hl,e⟩:=I.Ez hH
 obtain ⟨z2,jH,n2,r2,o9,e2⟩:=I.Ez hB
 have hsz:its.toArray.size + jH.toArray.size≤sizeLine:=by rw [List.size_toArray,List.size_toArray]; omega
 have Nr:¬ (!its.toArray.isEmpty && Builtin.List.listTooLong (its.toArray.size + jH.toArray.size))=true:=by
  rw [EA hsz,Bool.and_false]
  exact Bool.false_ne_true
 refine call_meets F.slot_list_extend ⟨_,e,rfl⟩ F.entry_list_extend (F.args_list_extend_2 _ _)
  (AutoSeq1.list_extend_list_list_0 l its.toArray n b jH.toArray n2 Nr (by rw [List.size_toArray]; omega) (by omega)) ⟨e,e2,?_⟩
 refine ⟨.non,_,I.Np (its':=its++jH) hH e (by simp) (r.append r2) ?_,rfl,q⟩
 rw [List.length_append]
 omega
noncomputable def Yu:V→List V→Hp→VK→Prop:=fun x vs H Q=>∃ l xs y,x=.ref l∧vs=[]∧H l=some (.lst xs)∧xs[xs.length - 1]?=some y∧Q y (upd H l (.lst xs.dropLast))
noncomputable def Sa:V→List V→Hp→VK→Prop:=fun x vs H Q=>∃ l xs i k y,x=.ref l∧vs=[.int i]∧H l=some (.lst xs)∧-(2 ^ 63)≤i∧i < 2 ^ 63∧seqIndex? i xs.length=some k∧xs[k]?=some y∧Q y (upd H l (.lst (xs.eraseIdx k)))
noncomputable def Nt:V→List V→Hp→VK→Prop:=fun x vs H Q=>∃ l xs,x=.ref l∧vs=[]∧H l=some (.lst xs)∧Q .non (upd H l (.lst xs.reverse))
noncomputable def Sb:V→List V→Hp→VK→Prop:=fun x vs H Q=>∃ l xs,x=.ref l∧vs=[]∧H l=some (.lst xs)∧Q .non (upd H l (.lst []))
noncomputable def Sd:R2:=fun x y H Q=>∃ l b xs zs,x=.ref l∧y=.ref b∧H l=some (.lst xs)∧H b=some (.lst zs)∧xs.length + zs.length≤sizeLine∧∀ p,H p=none→Q (.ref p) (upd H p (.lst (xs++zs)))
theorem EB:n9 X (binaryOp .Add) Sd:=by
 intro pins s σ H x y v u Q I rx ry h
 obtain ⟨l,b,xs,zs,rfl,rfl,hH,hB,hz,q⟩:=h
 cases rx
 cases ry
 obtain ⟨z,its,n,r,hl,e⟩:=I.Ez hH
 obtain ⟨z2,jH,n2,r2,o9,e2⟩:=I.Ez hB
 refine PySem.P.add_list e e2 ?_ (by rw [List.size_toArray,List.size_toArray]; omega)
 have ea:its.toArray++jH.toArray=(its++jH).toArray:=by simp
 rw [ea]
 exact ⟨.ref _,_,I.Nq (t':=s.toks) (r.append r2) (by rw [List.length_append]; omega),rfl,q _ I.fresh⟩
noncomputable def Yv:R2:=fun x y H Q=>∃ l k xs,x=.ref l∧y=.int k∧H l=some (.lst xs)∧-(2 ^ 63)≤k∧k < 2 ^ 63∧xs.length * k.toNat≤sizeLine ∧
 ∀ p,H p=none→Q (.ref p) (upd H p (.lst (List.replicate k.toNat xs).flatten))
end
section
variable {prog:Program} {w:World} {A:Around} {E:Value→Shared→Prop} {s:Shared}
set_option maxRecDepth 100000 in
end
section
variable {X:Cx}
end
end L2
namespace L2
open PySem PySem.Spec PyProof.Rows
section
variable {κ:Type} [DecidableEq κ]
noncomputable def bK (kvs:List (κ×V)) (k:κ):Option V:=(kvs.find? fun kv=>decide (kv.1=k)).map (·.2)
noncomputable def putK (kvs:List (κ×V)) (k:κ) (v:V):List (κ×V):=
 if (kvs.any fun kv=>decide (kv.1=k))=true then kvs.map (fun kv=>if kv.1=k then (kv.1,v) else kv) else kvs++[(k,v)]
noncomputable def xP (kvs:List (κ×V)) (k:κ):List (κ×V):=kvs.filter fun kv=>decide (kv.1≠k)
theorem cE {p:κ×V} {r:List (κ×V)} {k:κ} (e:p.1=k):bK (p :: r) k=some p.2:=by simp [bK,List.find?_cons,e]
theorem cF {p:κ×V} {r:List (κ×V)} {k:κ} (e:¬ p.1=k):bK (p :: r) k=bK r k:=by simp [bK,List.find?_cons,e]
theorem gA (k:κ):∀ kvs:List (κ×V),(kvs.any fun kv=>decide (kv.1=k))=(bK kvs k).isSome
 | []=>rfl
 | p :: r=>by
   rw [List.any_cons]
   by_cases e:p.1=k
   ·simp only [cE e,decide_eq_true e,Bool.true_or,Option.isSome_some]
   ·rw [cF e,decide_eq_false e,Bool.false_or]; exact gA k r
theorem xQ (k j:κ) (y:V):∀ kvs:List (κ×V),bK (kvs.map fun kv=>if kv.1=k then (kv.1,y) else kv) j=(bK kvs j).map fun x=>if j=k then y else x
 | []=>rfl
 | p :: r=>by
   have ih:=xQ k j y r
   rw [List.map_cons]
   by_cases h:p.1=k
   ·rw [if_pos h]
    by_cases e:p.1=j
    ·rw [cE (p:=(p.1,y)) e,cE e,Option.map_some,if_pos (e.symm.trans h)]
    ·rw [cF (p:=(p.1,y)) e,cF e,ih]
   ·rw [if_neg h]
    by_cases e:p.1=j
    ·rw [cE (p:=p) e,cE e,Option.map_some,if_neg (fun z=>h (e.trans z))]
    ·rw [cF (p:=p) e,cF e,ih]
theorem u3 (k j:κ) (y:V):∀ kvs:List (κ×V),bK kvs k=none→bK (kvs++[(k,y)]) j=if j=k then some y else bK kvs j
 | [],_=>by
   by_cases e:k=j
   ·rw [if_pos e.symm]; exact cE (p:=(k,y)) e
   ·rw [if_neg (fun z=>e z.symm)]; exact cF (p:=(k,y)) e
 | p :: r,hn=>by
   rw [List.cons_append]
   have hk:¬ p.1=k:=fun z=>by rw [cE z] at hn; cases hn
   rw [cF hk] at hn
   have ih:=u3 k j y r hn
   by_cases e:p.1=j
   ·rw [cE e,cE e,if_neg (fun z=>hk (e.trans z))]
   ·rw [cF e,cF e,ih]
theorem qj (kvs:List (κ×V)) (k j:κ) (y:V):bK (putK kvs k y) j=if j=k then some y else bK kvs j:=by
 unfold putK
 by_cases a:(kvs.any fun kv=>decide (kv.1=k))=true
 ·rw [if_pos a,xQ]
  rw [gA] at a
  by_cases e:j=k
  ·obtain ⟨x,hx⟩:=Option.isSome_iff_exists.mp a
   rw [if_pos e,e,hx,Option.map_some,if_pos rfl]
  ·rw [if_neg e]
   cases bK kvs j with
   | none=>rfl
   | some x=>rw [Option.map_some,if_neg e]
 ·rw [if_neg a]
  refine u3 k j y kvs ?_
  rw [gA] at a
  cases q:bK kvs k with
  | none=>rfl
  | some x=>rw [q] at a; exact (a rfl).elim
theorem il (kvs:List (κ×V)) (k:κ) (v:V):(putK kvs k v).length≤kvs.length + 1:=by
 unfold putK
 split
 ·rw [List.length_map]; omega
 ·rw [List.length_append,List.length_cons,List.length_nil]; omega
theorem fM {kvs:List (κ×V)} {k:κ} (v:V) (h:bK kvs k=none):putK kvs k v=kvs++[(k,v)]:=by
 unfold putK
 rw [gA,h]
 exact if_neg (by decide)
theorem kC.og {o:Option V} {u:Option Value} (r:kC o u):o.isSome=u.isSome:=by
 cases o with
 | none=>cases u with
   | none=>rfl
   | some _=>exact (show False from r).elim
 | some _=>cases u with
   | none=>exact (show False from r).elim
   | some _=>rfl
theorem kC.getD {o:Option V} {u:Option Value} {d:V} {d':Value} (r:kC o u) (rd:RelV d d'):RelV (o.getD d) (u.getD d'):=by
 cases o with
 | none=>cases u with
   | none=>exact rd
   | some _=>exact (show False from r).elim
 | some _=>cases u with
   | none=>exact (show False from r).elim
   | some _=>exact r
theorem KV.val {kvs:List (κ×V)} {vs:List (κ×Value)} (r:KV kvs vs) (k:κ):kC (bK kvs k) (valueAt vs k):=by
 unfold KV at r
 induction r with
 | nil=>exact True.intro
 | @cons p q ps qs h t ih=>
   obtain ⟨h1,h2⟩:=h
   by_cases e:p.1=k
   ·have e':q.1=k:=h1.symm.trans e
    have b:valueAt (q :: qs) k=some q.2:=by simp [valueAt,List.find?_cons,e']
    rw [cE e,b]; exact h2
   ·have e':¬ q.1=k:=fun z=>e (h1.trans z)
    have b:valueAt (q :: qs) k=valueAt qs k:=by simp [valueAt,List.find?_cons,e']
    rw [cF e,b]; exact ih
theorem KV.any {kvs:List (κ×V)} {vs:List (κ×Value)} (r:KV kvs vs) (k:κ):(kvs.any fun kv=>decide (kv.1=k))=vs.any fun kv=>decide (kv.1=k):=by
 unfold KV at r
 induction r with
 | nil=>rfl
 | cons h t ih=>rw [List.any_cons,List.any_cons,ih,h.1]
theorem KV.repl {kvs:List (κ×V)} {vs:List (κ×Value)} (r:KV kvs vs) (k:κ) {y:V} {u:Value} (ry:RelV y u) :
 KV (kvs.map fun kv=>if kv.1=k then (kv.1,y) else kv) (vs.map fun kv=>if kv.1=k then (kv.1,u) else kv):=by
 unfold KV at r ⊢
 induction r with
 | nil=>exact .nil
 | @cons p q ps qs h t ih=>
   rw [List.map_cons,List.map_cons]
   refine .cons ?_ ih
   obtain ⟨h1,h2⟩:=h
   by_cases e:p.1=k
   ·rw [if_pos e,if_pos (h1.symm.trans e)]; exact ⟨h1,ry⟩
   ·rw [if_neg e,if_neg (fun z=>e (h1.trans z))]; exact ⟨h1,h2⟩
theorem KV.put {kvs:List (κ×V)} {vs:List (κ×Value)} (r:KV kvs vs) (k:κ) {y:V} {u:Value} (ry:RelV y u):KV (putK kvs k y) (stored vs k u):=by
 unfold putK stored
 rw [r.any k]
 by_cases e:(vs.any fun kv=>decide (kv.1=k))=true
 ·rw [if_pos e,if_pos e]; exact r.repl k ry
 ·rw [if_neg e,if_neg e]; exact Paired.snoc r ⟨rfl,ry⟩
theorem KV.drop {kvs:List (κ×V)} {vs:List (κ×Value)} (r:KV kvs vs) (k:κ):KV (xP kvs k) (without vs k):=by
 unfold KV at r ⊢
 unfold xP without
 induction r with
 | nil=>exact .nil
 | @cons p q ps qs h t ih=>
   obtain ⟨h1,h2⟩:=h
   rw [List.filter_cons,List.filter_cons]
   by_cases e:p.1=k
   ·have a:¬ decide (p.1≠k)=true:=by simp [e]
    have b:¬ decide (q.1≠k)=true:=by simp [h1.symm.trans e]
    rw [if_neg a,if_neg b]; exact ih
   ·have e':¬ q.1=k:=fun z=>e (h1.trans z)
    have a:decide (p.1≠k)=true:=by simp [e]
    have b:decide (q.1≠k)=true:=by simp [e']
    rw [if_pos a,if_pos b]; exact .cons ⟨h1,h2⟩ ih
theorem KV.keys {kvs:List (κ×V)} {vs:List (κ×Value)} (r:KV kvs vs):kvs.map (·.1)=vs.map (·.1):=by
 unfold KV at r
 induction r with
 | nil=>rfl
 | cons h t ih=>rw [List.map_cons,List.map_cons,ih,h.1]
theorem KV.length {kvs:List (κ×V)} {vs:List (κ×Value)} (r:KV kvs vs):kvs.length=vs.length:=Paired.length r
end
theorem u5 {P:Program} {w:World} {k:Key} {u:Value} (r:RelV (kV k) u):(bq P w).is k u=true:=by
 cases k with
 | inl i=>obtain ⟨t,e⟩:=(show ∃ t,u=Value.int i t from r); subst e; exact xA P w i t
 | inr x=>obtain ⟨t,e⟩:=(show ∃ t,u=Value.str x t from r); subst e; exact xB P w x t
theorem u6 {P:Program} {w:World}:∀ {ks:List Key} {us:List Value},Vals (ks.map kV) us→ItemsAre (bq P w) ks us
 | [],_,r=>by rw [List.map_nil] at r; cases r; exact .nil
 | k :: ks,_,r=>by
   rw [List.map_cons] at r
   cases r with
   | cons h t=>exact .cons (u5 h) (u6 t)
noncomputable abbrev KT (H:Hp):List (List Key×V)→List (List Key×Addr×Value)→Prop:=Paired fun p q=>p.1=q.1∧H q.2.1=some (.tup (p.1.map kV))∧RelV p.2 q.2.2
theorem KT.val {H:Hp} {kvs:List (List Key×V)} {xs:List (List Key×Addr×Value)} (r:KT H kvs xs) (k:List Key):kC (bK kvs k) ((atKey xs k).map (·.2)):=by
 induction r with
 | nil=>exact True.intro
 | @cons p q ps qs h t ih=>
   obtain ⟨h1,_,h2⟩:=h
   by_cases e:p.1=k
   ·have e':q.1=k:=h1.symm.trans e
    have b:atKey (q :: qs) k=some q.2:=by simp [atKey,List.find?_cons,e']
    rw [cE e,b]; exact h2
   ·have e':¬ q.1=k:=fun z=>e (h1.trans z)
    have b:atKey (q :: qs) k=atKey qs k:=by simp [atKey,List.find?_cons,e']
    rw [cF e,b]; exact ih
theorem KT.repl {H:Hp} {kvs:List (List Key×V)} {xs:List (List Key×Addr×Value)} (r:KT H kvs xs) (k:List Key) {y:V} {u:Value} (ry:RelV y u) :
 KT H (kvs.map fun kv=>if kv.1=k then (kv.1,y) else kv) (xs.map (putAt k u)):=by
 induction r with
 | nil=>exact .nil
 | @cons p q ps qs h t ih=>
   rw [List.map_cons,List.map_cons]
   refine .cons ?_ ih
   obtain ⟨h1,h2,h3⟩:=h
   unfold putAt
   by_cases e:p.1=k
   ·rw [if_pos e,if_pos (h1.symm.trans e)]; exact ⟨h1,h2,ry⟩
   ·rw [if_neg e,if_neg (fun z=>e (h1.trans z))]; exact ⟨h1,h2,h3⟩
theorem KT.put {H:Hp} {kvs:List (List Key×V)} {xs:List (List Key×Addr×Value)} (r:KT H kvs xs) (k:List Key) {b:Addr} {y:V} {u:Value} (hb:H b=some (.tup (k.map kV))) (ry:RelV y u) :
 KT H (putK kvs k y) (storedH xs k b u):=by
 have e:(kvs.any fun kv=>decide (kv.1=k))=(atKey xs k).isSome:=by
  rw [gA,(r.val k).og,Option.isSome_map]
 unfold putK storedH
 rw [e]
 by_cases q:(atKey xs k).isSome=true
 ·rw [if_pos q,if_pos q]; exact r.repl k ry
 ·rw [if_neg q,if_neg q]; exact Paired.snoc r ⟨rfl,hb,ry⟩
theorem KT.keeps {H H':Hp} {kvs:List (List Key×V)} {xs:List (List Key×Addr×Value)} (r:KT H kvs xs) (ht:∀ b ys,H b=some (.tup ys)→H' b=some (.tup ys)):KT H' kvs xs:=
 Paired.JR r fun _ _ z=>⟨z.1,ht _ _ z.2.1,z.2.2⟩
section
variable {P:Program} {w:World} {H:Hp} {h:Heap} {a:Addr}
theorem J9 {u:HO} (ok:kI P w H h) (e:Rd H a u):cf P w H h a u:=e.ok ok
theorem kQ {kvs:List (Key×V)} (ok:kI P w H h) (e:Rd H a (.dK kvs)):kvs.length≤sizeLine∧(a == sysModules)=false∧∃ vs,KV kvs vs∧h.DictOf (bq P w) a vs:=
 show cf P w H h a (.dK kvs) from J9 ok e
theorem u9 {kvs:List (Key×V)} (ok:kI P w H h) (e:H a=some (.dK kvs)):kvs.length≤sizeLine∧(a == sysModules)=false∧∃ vs,KV kvs vs∧h.DictOf (bq P w) a vs:=kQ ok (.inl e)
theorem qk {ks:List Key} (ok:kI P w H h) (e:H a=some (.tup (ks.map kV))):(tupleKind (bq P w)).is h ks a:=by
 obtain ⟨_,its,r,o,h1,h2,n,h3⟩:=(show cf P w H h a (.tup (ks.map kV)) from ok a _ e)
 exact ⟨o,its.toArray,n,h1,h2,h3,by simpa using u6 r⟩
theorem ua {kvs:List (List Key×V)} (ok:kI P w H h) (e:Rd H a (.dT kvs)):kvs.length≤sizeLine∧(a == sysModules)=false ∧
 ∃ xs,KT H kvs xs∧h.DictOfH (tupleKind (bq P w)) a xs:=by
 obtain ⟨z,y,xs,r,o,es,ep,h1,h2,h3,h4,h5⟩:=(show cf P w H h a (.dT kvs) from J9 ok e)
 refine ⟨z,y,xs,r,o,es,ep,h1,h2,h3,h4,fun x hx=>?_,h5⟩
 have all:∀ {l:List (List Key×V)} {m:List (List Key×Addr×Value)},KT H l m→∀ x∈m,(tupleKind (bq P w)).is h x.1 x.2.1:=by
  intro l m q
  induction q with
  | nil=>intro x hx; exact nomatch hx
  | @cons p q ps qs hq t ih=>
    intro x hx
    rcases List.mem_cons.mp hx with e | hx
    ·subst e
     exact qk ok (by rw [← hq.1]; exact hq.2.1)
    ·exact ih x hx
 exact all r x hx
theorem EC {kvs:List (List Key×V)} (ok:kI P w H h) (e:H a=some (.dT kvs)):kvs.length≤sizeLine∧(a == sysModules)=false ∧
 ∃ xs,KT H kvs xs∧h.DictOfH (tupleKind (bq P w)) a xs:=ua ok (.inl e)
end
noncomputable def fq (H:Hp) (a:Addr) (y:V) (r:Option V):Prop:=
 (∃ kvs k,Rd H a (.dK kvs)∧y=kV k∧r=bK kvs k)∨∃ kvs k b,Rd H a (.dT kvs)∧y=.ref b∧H b=some (.tup (k.map kV))∧r=bK kvs k
noncomputable def kR (H:Hp) (a:Addr) (y v:V) (H':Hp):Prop:=
 (∃ kvs k,H a=some (.dK kvs)∧y=kV k∧kvs.length < sizeLine∧H'=upd H a (.dK (putK kvs k v))) ∨
 ∃ kvs k b,H a=some (.dT kvs)∧y=.ref b∧H b=some (.tup (k.map kV))∧kvs.length < sizeLine∧H'=upd H a (.dT (putK kvs k v))
theorem fq.k {H:Hp} {a:Addr} {kvs:List (Key×V)} {k:Key} (e:H a=some (.dK kvs)):fq H a (kV k) (bK kvs k):=.inl ⟨kvs,k,.inl e,rfl,rfl⟩
theorem fq.t {H:Hp} {a b:Addr} {kvs:List (List Key×V)} {k:List Key} (e:H a=some (.dT kvs)) (eb:H b=some (.tup (k.map kV))):fq H a (.ref b) (bK kvs k):=.inr ⟨kvs,k,b,.inl e,rfl,eb,rfl⟩
theorem kR.k {H:Hp} {a:Addr} {kvs:List (Key×V)} {k:Key} {v:V} (e:H a=some (.dK kvs)) (hl:kvs.length < sizeLine):kR H a (kV k) v (upd H a (.dK (putK kvs k v))):=.inl ⟨kvs,k,e,rfl,hl,rfl⟩
theorem kR.t {H:Hp} {a b:Addr} {kvs:List (List Key×V)} {k:List Key} {v:V} (e:H a=some (.dT kvs)) (eb:H b=some (.tup (k.map kV))) (hl:kvs.length < sizeLine) :
 kR H a (.ref b) v (upd H a (.dT (putK kvs k v))):=.inr ⟨kvs,k,b,e,rfl,eb,hl,rfl⟩
section
variable {X:Cx} {pins:List (Addr×Obj)} {σ:St} {H:Hp} {s:Shared} {a:Addr} {y v:V} {u r:Value} {o:Option V} {A:Around} {E:Value→Shared→Prop}
theorem Inv.big (I:Inv X pins σ H s):sysModules < s.heap.objs.size:=by
 have h:mainGlobals < s.heap.objs.size:=(I.mod.glob.keeps I.bk).lt
 exact Nat.lt_trans (by decide) h
theorem CM {Q:Value→Shared→Prop} (hu:A.units + 1 < cLine) (I:Inv X pins σ H s) (g:fq H a y (some v)) (ry:RelV y u) (h:∀ w' s',Inv X pins σ H s'→RelV v w'→Q w' s') :
 wpAny (model X.prog X.w) A (getItem (.ref a) u) Q E s:=by
 rcases g with ⟨kvs,k,e,ey,l⟩ | ⟨kvs,k,b,e,ey,eb,l⟩
 ·subst ey
  obtain ⟨z,hd,vs,rel,dd⟩:=kQ I.bt e
  obtain ⟨w',hw,qf⟩:=kC.uN (v:=v) (o:=valueAt vs k) (by rw [l]; exact rel.val k)
  exact wpAny_getItem_of (u5 ry) dd.mapOf hw (h w' _ (I.tok _) qf)
 ·subst ey
  cases (show u=Value.ref b from ry)
  obtain ⟨z,hd,xs,rel,dd⟩:=ua I.bt e
  obtain ⟨w',hw,qf⟩:=kC.uN (v:=v) (o:=(atKey xs k).map (·.2)) (by rw [l]; exact rel.val k)
  obtain ⟨p,hp,Qs⟩:=Option.map_eq_some_iff.mp hw
  refine wpAny_getItem_heap (tupleKind_room_in1 hu) (qk I.bt eb) dd hp ?_
  rw [Qs]
  exact h w' _ (I.tok _) qf
theorem Hg {Q:Value→Shared→Prop} (hu:A.units + 1 < cLine) (I:Inv X pins σ H s) (g:fq H a y o) (ry:RelV y u) (h:∀ s',Inv X pins σ H s'→Q (.bool (!o.isSome)) s') :
 wpAny (model X.prog X.w) A (compareOp .NotIn u (.ref a)) Q E s:=by
 rcases g with ⟨kvs,k,e,ey,l⟩ | ⟨kvs,k,b,e,ey,eb,l⟩
 ·subst ey
  obtain ⟨z,hd,vs,rel,dd⟩:=kQ I.bt e
  refine wpAny_notIn_of (u5 ry) hd dd.mapOf ?_
  rw [← (rel.val k).og,← l]
  exact h _ (I.tok _)
 ·subst ey
  cases (show u=Value.ref b from ry)
  obtain ⟨z,hd,xs,rel,dd⟩:=ua I.bt e
  refine wpAny_notIn_heap (tupleKind_room_in1 hu) (qk I.bt eb) hd dd ?_
  have q:=(rel.val k).og
  rw [Option.isSome_map] at q
  rw [← q,← l]
  exact h _ (I.tok _)
theorem uU {h':Heap} {t':Nat} {ob:HO} (I:Inv X pins σ H s) (mu:ME (H a)) (hs:Heap.SameBut a s.heap h') (he:∃ q,h'.get? a=some q) (new:cf X.prog X.w (upd H a ob) h' a ob) :
 Inv X pins σ (upd H a ob) { s with heap:=h',toks:=t' }:=
 I.write (x:=a) (e:=a) mu (.inl rfl) (fun b q hb z=>(hs.2 b hb).trans z) he new
theorem ED {P:Program} {w:World} {H':Hp} {h':Heap} {kvs:List (Key×V)} {vs:List (Key×Value)} (z:kvs.length≤sizeLine) (hd:(a == sysModules)=false) (rel:KV kvs vs) (dd:h'.DictOf (bq P w) a vs) :
 cf P w H' h' a (.dK kvs):=⟨z,hd,vs,rel,dd⟩
theorem CO {H':Hp} {Q:Unit→Shared→Prop} (hu:A.units + 1 < cLine) (I:Inv X pins σ H s) (g:kR H a y v H') (ry:RelV y u) (rv:RelV v r) (h:∀ s',Inv X pins σ H' s'→Q () s') :
 wpAny (model X.prog X.w) A (setItem (.ref a) u r) Q E s:=by
 rcases g with ⟨kvs,k,e,ey,l,eH⟩ | ⟨kvs,k,b,e,ey,eb,l,eH⟩
 ·subst ey eH
  obtain ⟨z,hd,vs,rel,dd⟩:=u9 I.bt e
  have hz:vs.length≤sizeLine:=by rw [← rel.length]; exact z
  have hl:(putK kvs k v).length≤sizeLine:=by have:=il kvs k v; omega
  refine wpAny_setItem_pairs (hsz:=hz) (u5 ry) dd fun h' EE hs=>h _ ?_
  have he:∃ q,h'.get? a=some q:=let ⟨q,_,_,hq,_⟩:=EE; ⟨q,hq⟩
  exact uU I (by rw [e]; exact True.intro) hs he (ED hl hd (rel.put k rv) EE)
 ·subst ey eH
  cases (show u=Value.ref b from ry)
  obtain ⟨z,hd,xs,rel,dd⟩:=EC I.bt e
  have hz:xs.length≤sizeLine:=by rw [← Paired.length rel]; exact z
  have hl:(putK kvs k v).length≤sizeLine:=by have:=il kvs k v; omega
  refine wpAny_setItem_heap (hsz:=hz) (tupleKind_room_in1 hu) (qk I.bt eb) dd fun h' EE hs=>h _ ?_
  obtain ⟨q,es,ep,hq,h2,h3,h4,_,h5⟩:=EE
  refine uU I (by rw [e]; exact True.intro) hs ⟨q,hq⟩ ⟨hl,hd,_,(rel.put k eb rv).keeps fun c ys ec=>?_,q,es,ep,hq,h2,h3,h4,h5⟩
  rw [ai (MD ec e (fun z=>nomatch z))]
  exact ec
end
section
variable {X:Cx} {pins:List (Addr×Obj)} {σ:St} {H:Hp} {s:Shared} {a:Addr} {kvs:List (Key×V)} {k:Key} {u:Value} {A:Around} {E:Value→Shared→Prop}
end
noncomputable def Nu (i:Expr):Prop:=∀ ov iv,subscripted i false ov iv=operate [ov,iv] (getItem ov iv)
theorem Hh {prog:Program} {w:World} {A:Around} {E:Value→Shared→Prop} {s:Shared} {env:Env} {value slice:Expr} {pos:Pos} {T id:String} {Q:Value→Shared→Prop}
 (hl:typeLookup (.type T) "__getitem__"=pure (some (.builtin id))) (hs:Nu slice)
 (h:wpAny (model prog w) A (eval value env) (fun o s₁=>wpAny (model prog w) A (eval slice env) (fun i s₂=>s₂.TypeIs o T∧wpAny (model prog w) A (getItem o i) Q E s₂) E s₁) E s) :
 wpAny (model prog w) A (eval (.Subscript value slice pos) env) Q E s:=by
 refine Subscript_ (wpAny_mono h (fun o s₁ h₁=>wpAny_mono h₁ (fun i s₂ h₂=>?_) fun _ _ x=>x) fun _ _ x=>x)
 obtain ⟨hT,h₂⟩:=h₂
 unfold subscriptTail
 refine wpAny_bind ?_
 rw [getitemInPython_of_ne hT.not_modules]
 refine wpAny_bind (wpAny_specialOf hT hl ?_)
 have fin:wpAny (model prog w) A (subscripted slice false o i) (fun r s₃=>wpAny (model prog w) A (letTemporaryGo value o r >>= fun _=>pure r) Q E s₃) E s₂:=by
  rw [hs o i]
  exact wpAny_operating (wpAny_mono h₂ (fun r s₃ h₃=>wpAny_bind (wpAny_letTemporaryGo (wpAny_pure h₃))) fun _ _ x=>x)
 first
  | exact wpAny_pure (wpAny_bind fin)
  | exact wpAny_bind (wpAny_pure (wpAny_bind fin))
  | exact wpAny_bind fin
theorem xR {X:Cx} {pins:List (Addr×Obj)} {σ:St} {H:Hp} {s:Shared} {a:Addr} {y:V} {o:Option V} (I:Inv X pins σ H s) (g:fq H a y o):s.TypeIs (.ref a) "dict":=by
 rcases g with ⟨kvs,k,e,_,_⟩ | ⟨kvs,k,b,e,_,_,_⟩
 ·obtain ⟨_,_,vs,_,dd⟩:=kQ I.bt e
  exact dd.typeIs
 ·obtain ⟨_,_,xs,_,dd⟩:=ua I.bt e
  exact dd.typeIs
noncomputable def Nv (td ty:TE):TE:=fun σ H Q=>td σ H fun x H1=>ty σ H1 fun y H2=>∃ a v,x=.ref a∧fq H2 a y (some v)∧Q v H2
noncomputable def Yw (ty td:TE):TE:=fun σ H Q=>ty σ H fun y H1=>td σ H1 fun x H2=>∃ a o,x=.ref a∧fq H2 a y o∧Q (.bl o.isSome) H2
noncomputable def Hi (ty td:TE):TE:=fun σ H Q=>ty σ H fun y H1=>td σ H1 fun x H2=>∃ a o,x=.ref a∧fq H2 a y o∧Q (.bl (!o.isSome)) H2
noncomputable def Ja (td ty tv:TE):TS:=fun D σ H=>tv σ H fun v H1=>td σ H1 fun x H2=>ty σ H2 fun y H3=>∃ a H4,x=.ref a∧kR H3 a y v H4∧D.nx σ H4
noncomputable def VA (td ty tv:TE) (rd:V→V→Hp→VK→Prop):TS:=fun D σ H=>td σ H fun x H1=>ty σ H1 fun y H2=>∃ a v,x=.ref a∧fq H2 a y (some v) ∧
 tv σ H2 fun y2 H3=>rd v y2 H3 fun z H4=>∃ H5,kR H4 a y z H5∧D.nx σ H5
noncomputable def VB (td ty:TE):TS:=fun D σ H=>td σ H fun x H1=>ty σ H1 fun y H2=>∃ a kvs k,x=.ref a∧H2 a=some (.dK kvs)∧y=kV k∧(bK kvs k).isSome=true∧D.nx σ (upd H2 a (.dK (xP kvs k)))
section
variable {X:Cx} {o i e value:Expr} {pos pos' K7:Pos} {td ty tv:TE}
theorem ft (hu:X.A.units + 1 < cLine) (ho:PE X o td) (hi:PE X i ty) (hs:Nu i):PE X (.Subscript o i pos) (Nv td ty):=by
 intro pins s σ H Q I h
 refine Hh PySem.F.slot_dict_getitem.lookup hs (cg (ho pins s σ H _ I h) fun u s1 ⟨x,H1,I1,rx,q1⟩=>cg (hi pins s1 σ H1 _ I1 q1) fun iv s2 ⟨y,H2,I2,ry,a,v,ex,g,q2⟩=>?_)
 subst ex
 obtain rfl:u=Value.ref a:=rx
 exact ⟨xR I2 g,CM hu I2 g ry fun w' s3 I3 qf=>⟨v,H2,I3,qf,q2⟩⟩
theorem CP (hu:X.A.units + 1 < cLine) (hi:PE X i ty) (ho:PE X o td):PC X .NotIn i o (Hi ty td):=by
 intro pins s σ H Q I h
 refine cg (hi pins s σ H _ I h) fun iv s1 ⟨y,H1,I1,ry,q1⟩=>cg (ho pins s1 σ H1 _ I1 q1) fun u s2 ⟨x,H2,I2,rx,a,ov,ex,g,q2⟩=>?_
 subst ex
 obtain rfl:u=Value.ref a:=rx
 exact Hg hu I2 g ry fun s3 I3=>⟨.bl (!ov.isSome),H2,I3,rfl,q2⟩
theorem i5 (hu:X.A.units + 1 < cLine) (ho:PE X o td) (hi:PE X i ty) (hv:PE X value tv) (hs:swapsWith value (some (.Subscript o i pos')) pos.line X.env=pure false) :
 PS X (.Assign [.Subscript o i pos'] value pos) (Ja td ty tv):=by
 intro pins s σ H D I h
 refine wpAny_Assign_Subscript (cg (hv pins s σ H _ I h) fun r s1 ⟨v,H1,I1,rv,q1⟩=>cg (ho pins s1 σ H1 _ I1 q1) fun u s2 ⟨x,H2,I2,rx,q2⟩=>cg (hi pins s2 σ H2 _ I2 q2) fun iv s3 ⟨y,H3,I3,ry,a,H4,ex,g,q3⟩=>?_) hs
 subst ex
 obtain rfl:u=Value.ref a:=rx
 exact CO hu I3 g ry rv fun s4 I4=>⟨σ,H4,I4,q3⟩
end
theorem xS {P:Program} {w:World} {H:Hp} (h:Heap) (hb:sysModules < h.objs.size):cf P w H (h.push { cls:=.type "dict",data:=.dict #[] }) h.objs.size (.dK []):=
 ⟨Nat.zero_le _,beq_eq_false_iff_ne.mpr (Ne.symm (Nat.ne_of_lt hb)),[],.nil,Heap.DictOf.new h⟩
theorem EF {P:Program} {w:World} {H:Hp} (h:Heap) (hb:sysModules < h.objs.size):cf P w H (h.push { cls:=.type "dict",data:=.dict #[] }) h.objs.size (.dT []):=
 ⟨Nat.zero_le _,beq_eq_false_iff_ne.mpr (Ne.symm (Nat.ne_of_lt hb)),[],.nil,_,#[],0,Heap.get?_push_size _ rfl,⟨rfl,rfl,rfl⟩,rfl,rfl,List.nodup_nil⟩
noncomputable def Kg:TE:=fun _ H Q=>∀ p,H p=none→Q (.ref p) (upd H p (.dK []))
noncomputable def Kh:TE:=fun _ H Q=>∀ p,H p=none→Q (.ref p) (upd H p (.dT []))
section
variable {X:Cx} {pos:Pos}
theorem iW:PE X (.Dict [] [] pos) Kg:=fun pins s σ H Q I h=>
 wpAny_Dict_empty ⟨.ref s.heap.objs.size,_,I.laid (a:=s.heap.objs.size) (o:=.dK []) (t':=s.toks) (fun _ _ q=>Heap.get?_push_of_some _ q) (Nat.le_refl _) (xS s.heap I.big),rfl,h _ (I.bt.fresh (Nat.le_refl _))⟩
theorem xT:PE X (.Dict [] [] pos) Kh:=fun pins s σ H Q I h=>
 wpAny_Dict_empty ⟨.ref s.heap.objs.size,_,I.laid (a:=s.heap.objs.size) (o:=.dT []) (t':=s.toks) (fun _ _ q=>Heap.get?_push_of_some _ q) (Nat.le_refl _) (EF s.heap I.big),rfl,h _ (I.bt.fresh (Nat.le_refl _))⟩
end
noncomputable def A5:List (TE×TE)→St→Hp→(List (V×V)→Hp→Prop)→Prop
 | [],_,H,Q=>Q [] H
 | (tk,tv) :: r,σ,H,Q=>tk σ H fun x H1=>tv σ H1 fun y H2=>A5 r σ H2 fun ps H3=>Q ((x,y) :: ps) H3
noncomputable abbrev VV:List (V×V)→List (Value×Value)→Prop:=Paired fun p q=>RelV p.1 q.1∧RelV p.2 q.2
noncomputable def Qt (X:Cx) (pos:Pos) (keys:List (Option Expr)) (values:List Expr) (Hj:List (TE×TE)):Prop:=
 ∀ (pins:List (Addr×Obj)) (s:Shared) (σ:St) (H:Hp) (Q:List (V×V)→Hp→Prop),Inv X pins σ H s→A5 Hj σ H Q →
  wpAny (model X.prog X.w) X.A (evalPairs (pairTrees keys values X.env pos)) (fun vs s'=>∃ ps H',Inv X pins σ H' s'∧VV ps vs∧Q ps H') X.xe s
theorem Hk {X:Cx} {pos:Pos}:Qt X pos [] [] []:=fun pins s σ H Q I h=>pairTrees_nil_walk ⟨[],H,I,.nil,h⟩
theorem EG {X:Cx} {pos:Pos} {k v:Expr} {ks:List (Option Expr)} {vs:List Expr} {tk tv:TE} {Hj:List (TE×TE)} (hk:PE X k tk) (hv:PE X v tv) (hr:Qt X pos ks vs Hj) :
 Qt X pos (some k :: ks) (v :: vs) ((tk,tv) :: Hj):=fun pins s σ H Q I h=>
 pairTrees_cons_walk (cg (hk pins s σ H _ I h) fun u s1 ⟨x,H1,I1,rx,q1⟩=>cg (hv pins s1 σ H1 _ I1 q1) fun w2 s2 ⟨y,H2,I2,ry,q2⟩=>
  cg (hr pins s2 σ H2 _ I2 q2) fun ws s3 ⟨ps,H3,I3,rel,q3⟩=>⟨(x,y) :: ps,H3,I3,.cons ⟨rx,ry⟩ rel,q3⟩)
noncomputable def oh (kvs more:List (Key×V)):List (Key×V):=more.foldl (fun acc kv=>putK acc kv.1 kv.2) kvs
theorem KV.merge:∀ {more:List (Key×V)} {rs:List (Key×Value)} {kvs:List (Key×V)} {vs:List (Key×Value)},KV more rs→KV kvs vs→KV (oh kvs more) (merged vs rs):=by
 intro more rs kvs vs r
 unfold KV at r
 induction r generalizing kvs vs with
 | nil=>intro q; exact q
 | @cons p q ps qs h t ih=>
   intro r0
   have e:KV (putK kvs p.1 p.2) (stored vs q.1 q.2):=by
    have:=r0.put p.1 h.2
    rw [← h.1]; exact this
   exact ih e
theorem m5:∀ (more kvs:List (Key×V)),(oh kvs more).length≤kvs.length + more.length
 | [],kvs=>by show kvs.length≤kvs.length + 0; omega
 | p :: r,kvs=>by
   have h1:=m5 r (putK kvs p.1 p.2)
   have h2:=il kvs p.1 p.2
   show (oh (putK kvs p.1 p.2) r).length≤_
   rw [List.length_cons]; omega
theorem ql {P:Program} {w:World}:∀ {kvs:List (Key×V)} {ws:List (Value×Value)},VV (kvs.map fun kv=>(kV kv.1,kv.2)) ws→∃ rs,Carries (bq P w) ws rs∧KV kvs rs
 | [],_,r=>by rw [List.map_nil] at r; cases r; exact ⟨[],True.intro,.nil⟩
 | p :: kvs,_,r=>by
   rw [List.map_cons] at r
   cases r with
   | @cons a b as bs h t=>
     obtain ⟨rs,c,q⟩:=ql (P:=P) (w:=w) t
     obtain ⟨b1,b2⟩:=b
     exact ⟨(p.1,b2) :: rs,⟨u5 h.1,rfl,c⟩,.cons ⟨rfl,h.2⟩ q⟩
noncomputable def Nw (Hj:List (TE×TE)):TE:=fun σ H Q=>∀ p,H p=none→A5 Hj σ (upd H p (.dK [])) fun ps H2=>H2 p=some (.dK [])∧∃ kvs:List (Key×V),ps=kvs.map (fun kv=>(kV kv.1,kv.2))∧kvs.length≤15∧Q (.ref p) (upd H2 p (.dK (oh [] kvs)))
theorem Hl {X:Cx} {pos:Pos} {keys:List (Option Expr)} {values:List Expr} {Hj:List (TE×TE)} (h:Qt X pos keys values Hj) (Ki:keys.all (·.isSome)=true) (hl:keys.length=values.length) (h0:keys≠[])
 (Yx:keys.length≤15):PE X (.Dict keys values pos) (Nw Hj):=by
 intro pins s σ H Q I q
 have hn:=I.bt.fresh (Nat.le_refl s.heap.objs.size)
 have I1:=I.laid (a:=s.heap.objs.size) (o:=.dK []) (h':=s.heap.push { cls:=.type "dict",data:=.dict #[] }) (t':=s.toks) (fun _ _ q=>Heap.get?_push_of_some _ q) (Nat.le_refl _) (xS s.heap I.big)
 refine wpAny_Dict_walk (knd:=bq X.prog X.w) Ki hl h0 Yx (cg (h pins _ σ _ _ I1 (q _ hn)) fun ws s2 ⟨ps,H2,I2,rel,e,kvs,ep,lk,q2⟩=>?_)
 subst ep
 obtain ⟨rs,c,rk⟩:=ql (P:=X.prog) (w:=X.w) rel
 obtain ⟨z,hd,Yy,r0,dd⟩:=u9 I2.bt e
 cases r0
 refine ⟨rs,c,dd,fun h' EE hs=>⟨.ref s.heap.objs.size,_,?_,rfl,q2⟩⟩
 have hz:(oh [] kvs).length≤sizeLine:=by
  have h1:=m5 kvs []
  rw [List.length_nil] at h1
  rw [sizeLine_eq]; omega
 have he:∃ q,h'.get? s.heap.objs.size=some q:=let ⟨q,_,_,hq,_⟩:=EE; ⟨q,hq⟩
 exact uU I2 (by rw [e]; exact True.intro) hs he (ED hz hd (rk.merge .nil) EE)
set_option genInjectivity false in
set_option genSizeOfSpec false in
structure M1 (X:Cx) (o:Expr) (m:Str) (apos:Pos) (e:Expr) (eN:Pos):Prop where
 base:attributeBase o m X.env (eval o X.env)=eval o X.env
 few:((backTo eN (starEach [e] X.env)).all (fun x=>!x.1) && (backToKw eN (keywordEach [] X.env)).all (fun x=>x.1.isSome)
  && decide (([e]:List Expr).length + ([]:List Keyword).length + (if ([]:List Keyword).isEmpty then 0 else 1) < 30))=true
 line:(apos.endLine == eN.line)=true
 trees:backTo eN (starEach [e] X.env)=[(false,eval e X.env)]
set_option genInjectivity false in
set_option genSizeOfSpec false in
structure M2 (X:Cx) (o:Expr) (m:Str) (apos:Pos) (e f:Expr) (eN:Pos):Prop where
 base:attributeBase o m X.env (eval o X.env)=eval o X.env
 few:((backTo eN (starEach [e,f] X.env)).all (fun x=>!x.1) && (backToKw eN (keywordEach [] X.env)).all (fun x=>x.1.isSome)
  && decide (([e,f]:List Expr).length + ([]:List Keyword).length + (if ([]:List Keyword).isEmpty then 0 else 1) < 30))=true
 line:(apos.endLine == eN.line)=true
 trees:backTo eN (starEach [e,f] X.env)=[(false,eval e X.env),(false,eval f X.env)]
noncomputable def Nx (H:Hp) (a:Addr):Prop:=(∃ kvs,Rd H a (.dK kvs))∨∃ kvs,Rd H a (.dT kvs)
theorem Kj {X:Cx} {pins:List (Addr×Obj)} {σ:St} {H:Hp} {s:Shared} {a:Addr} (I:Inv X pins σ H s) (d:Nx H a) :
 s.TypeIs (.ref a) "dict"∧(∀ b,Value.ref a=.ref b→∃ ob,s.heap.get? b=some ob∧ob.dict=none)∧(a == sysModules)=false:=by
 rcases d with ⟨kvs,e⟩ | ⟨kvs,e⟩
 ·obtain ⟨_,hd,vs,_,dd⟩:=kQ I.bt e
  refine ⟨dd.typeIs,fun b q=>?_,hd⟩
  cases q
  obtain ⟨ob,_,_,h1,h2,_⟩:=dd
  exact ⟨ob,h1,h2.2.1⟩
 ·obtain ⟨_,hd,xs,_,dd⟩:=ua I.bt e
  refine ⟨dd.typeIs,fun b q=>?_,hd⟩
  cases q
  obtain ⟨ob,_,_,h1,h2,_⟩:=dd
  exact ⟨ob,h1,h2.2.1⟩
section
variable {X:Cx} {pins:List (Addr×Obj)} {σ:St} {H:Hp} {s:Shared} {a:Addr} {y d:V} {u r:Value} {o:Option V} {A:Around} {E:Value→Shared→Prop}
theorem Kk {Q:Value→Shared→Prop} (hu:A.units + 1 < cLine) (I:Inv X pins σ H s) (g:fq H a y o) (ry:RelV y u) (rd:RelV d r) (h:∀ w' s',Inv X pins σ H s'→RelV (o.getD d) w'→Q w' s') :
 wpAny (model X.prog X.w) A (call (.builtin "dict.get") [.ref a,u,r]) Q E s:=by
 rcases g with ⟨kvs,k,e,ey,l⟩ | ⟨kvs,k,b,e,ey,eb,l⟩
 ·subst ey
  obtain ⟨z,hd,vs,rel,dd⟩:=kQ I.bt e
  refine call_meetsIn PySem.F.slot_dict_get dd.typeIs PySem.F.entry_dict_get (PySem.F.args_dict_get_3 _ _ _) (meets_dict_get_default (bq X.prog X.w) a (u5 ry) hd r) ⟨_,dd.mapOf,h _ _ (I.tok _) ?_⟩
  rw [l]
  exact (rel.val k).getD rd
 ·subst ey
  cases (show u=Value.ref b from ry)
  obtain ⟨z,hd,xs,rel,dd⟩:=ua I.bt e
  refine call_meetsIn PySem.F.slot_dict_get dd.typeIs PySem.F.entry_dict_get (PySem.F.args_dict_get_3 _ _ _) (meetsH_dict_get_default (tupleKind (bq X.prog X.w)) a b hd r) ⟨tupleKind_room_in1 hu,k,xs,qk I.bt eb,dd,h _ _ (I.tok _) ?_⟩
  rw [l]
  exact (rel.val k).getD rd
end
noncomputable def Se (td ty:TE):TE:=fun σ H Q=>td σ H fun x H1=>∃ a,x=.ref a∧Nx H1 a∧ty σ H1 fun y H2=>∃ o,fq H2 a y o∧Q (o.getD .non) H2
noncomputable def Kl (td ty tx:TE):TE:=fun σ H Q=>td σ H fun x H1=>∃ a,x=.ref a∧Nx H1 a∧ty σ H1 fun y H2=>tx σ H2 fun z H3=>∃ o,fq H3 a y o∧Q (o.getD z) H3
noncomputable def Sf (td ty:TE):TE:=fun σ H Q=>td σ H fun x H1=>∃ a,x=.ref a∧Nx H1 a∧ty σ H1 fun y H2=>∃ kvs k v,H2 a=some (.dK kvs)∧y=kV k∧bK kvs k=some v∧Q v (upd H2 a (.dK (xP kvs k)))
noncomputable def Sg (td ty tx:TE):TE:=fun σ H Q=>td σ H fun x H1=>∃ a,x=.ref a∧Nx H1 a∧ty σ H1 fun y H2=>tx σ H2 fun z H3=>∃ kvs k,H3 a=some (.dK kvs)∧y=kV k ∧
 (∀ v,bK kvs k=some v→Q v (upd H3 a (.dK (xP kvs k))))∧(bK kvs k=none→Q z H3)
section
variable {X:Cx} {o e f:Expr} {apos eN:Pos} {td ty tx:TE}
theorem qm (hu:X.A.units + 1 < cLine) (ho:PE X o td) (he:PE X e ty) (hf:PE X f tx) (m:M2 X o "get" apos e f eN):PE X (.Call (.Attribute o "get" apos) [e,f] [] eN) (Kl td ty tx):=by
 intro pins s σ H Q I h
 refine wpAny_Call_method m.base m.few m.line PySem.F.plainAttrs_dict PySem.F.slot_dict_get PySem.F.type_dict_get (cg (ho pins s σ H _ I h) fun u s1 ⟨x,H1,I1,rx,a,ex,d,q1⟩=>?_)
 subst ex
 obtain rfl:u=Value.ref a:=rx
 obtain ⟨t1,t2,_⟩:=Kj I1 d
 refine ⟨t1,t2,?_⟩
 rw [m.trees]
 refine Calls.callWith_builtin rfl (Calls.evalArgs_plain (Calls.spliced_cons (cg (he pins s1 σ H1 _ I1 q1) fun iv s2 ⟨y,H2,I2,ry,q2⟩=>
  Calls.spliced_cons (cg (hf pins s2 σ H2 _ I2 q2) fun fv s3 ⟨z,H3,I3,rz,ov,g,q3⟩=>Calls.spliced_nil ?_))))
 exact Kk hu I3 g ry rz fun w' s4 I4 qf=>⟨_,H3,I4,qf,q3⟩
end
section
variable {X:Cx} {pins:List (Addr×Obj)} {σ:St} {H:Hp} {s:Shared} {a:Addr} {kvs:List (Key×V)} {A:Around} {E:Value→Shared→Prop}
end
section
variable {X:Cx} {pins:List (Addr×Obj)} {σ:St} {H:Hp} {s:Shared} {a:Addr} {y:V} {u:Value} {A:Around} {E:Value→Shared→Prop}
end
end L2
namespace VC
open PySem PySem.W PySem.Calls PyProof.Rows
theorem pB {P:Params} {h:Heap}:∀ (ns:List Int) (vs:List Value),WellAll P h vs (ns.map WData.int)→IntsAre vs ns:=by
 intro ns
 induction ns with
 | nil=>
   intro vs w
   rw [List.map_nil] at w
   cases w
   exact .nil
 | cons n ns ih=>
   intro vs w
   rw [List.map_cons] at w
   cases w with
   | cons a b=>
     cases a
     exact .cons _ _ (ih _ b)
theorem CQ {l:OpenLaw} {n:Nat} (hn:l.most=some n) {P:Params} {h:Heap} {args:List WData} {vals:List Value}
 (Hm:l.row.toRowW.claim.pre args=true) (nc:WellAll P h vals args) :
 ∃ a vs ns,vals=[Value.ref a]∧args=[WData.list (ns.map WData.int)]∧h.get? a=some { cls:=.type "list",data:=.seq vs.toArray }∧IntsAre vs ns∧ns.length≤n:=by
 have Yz:WShape.hasAll [] args [.list .int]=true:=(pre_splitW Hm).1
 have hc:l.pre.holds [] { args:=args }=true:=(pre_splitW Hm).2
 obtain ⟨d,r,rfl,h1,h2⟩:=hasAllW_cons Yz
 obtain rfl:=hasAllW_nil h2
 obtain ⟨xs,rfl,h3⟩:=hasW_list h1
 obtain ⟨ns,rfl⟩:=items_int h3
 have hlen:ns.length≤n:=by
  unfold OpenLaw.pre at hc
  have h4:(WTm.not (.lt (.lit (.int (n:Int))) (.len (.arg 0)))).holds [] { args:=[.list (ns.map .int)] }=true:=by
   have h4:=(holds_andW hc).1
   rw [hn] at h4
   exact h4
  have h5:=condW_of h4 (w_not (w_lt w_lit (w_len_list (w_arg rfl))))
  rw [List.length_map] at h5
  refine Nat.le_of_not_lt fun q=>?_
  have q':(n:Int) < ((ns.length:Nat):Int):=by omega
  first
   | (rw [decide_eq_true q'] at h5; exact absurd h5 (by decide))
   | (simp at h5; omega)
 cases nc with
 | cons w1 w2=>
   cases w2
   cases w1 with
   | list ho Ki=>exact ⟨_,_,ns,rfl,rfl,ho,pB ns _ Ki,hlen⟩
theorem CU (l:OpenLaw) (args:List WData):l.row.toRowW.claim.post args (.bool true) args=true:=
 postW_of (r:=l.row.toRowW) (X:=(true == true))
  (show WShape.has [] (.bool true) .bool=true by first | rfl | decide | simp [WShape.has,WShape.arms,WShape.armsAll])
  (show (WTm.eq .res (.lit (.bool true))).value [] { args:=args,res:=some (.bool true),after:=args }=some (.bool (true == true)) from w_eq_bool (w_res rfl) w_lit) rfl
theorem xU {l:OpenLaw} {n:Nat} {q:Program} {loose:List Str} {XP:(Str→Option Value)→Heap→Prop} {YP:World→Heap→Prop} {d:DefRec}
 (hn:l.most=some n) (Gv:d.params.defaults=[])
 (call:∀ (w:World) (s₀ s₁:Shared) (mg mb:Str→Option Value) (fa:Addr) (o:Obj) (pm cd doc:Value) (a:Addr) (vs:List Value) (ns:List Int),
   Ground q loose [] XP w s₀ mg mb s₁.heap→YP w s₁.heap →
   s₁.heap.get? fa=some o→o.data=.func (docDef d.name d.params d.body d.scope pm cd doc)→s₁.heap.CodeRec cd d.name→mg d.name=some (.ref fa) →
   s₁.heap.get? a=some { cls:=.type "list",data:=.seq vs.toArray }→IntsAre vs ns→ns.length≤n→s₁.gens=#[] →
   codeAny (model l.prog w) callerA (.call (.ref fa) ⟨[.ref a],[]⟩) (fun r s'=>r=.ok (.ret (.bool true))∧OldK s₁.heap s'.heap∧s'.os=s₁.os∧AllBare s'.gens) s₁) :
 WalkO q loose XP YP l.row.toRowW d [] (fun f vs=>PySem.call f vs):=by
 intro w s₀ s₁ mg mb G Y fa o pm cd doc dV kV ho hd Cv hD Ny hg args vals as Hm YB hrd nc EH
 obtain rfl:dV=.none:=Dflts.none hD Gv
 obtain rfl:kV=.none:=Dflts.noKw hD
 obtain ⟨a,vs,ns,rfl,rfl,CV,hints,hlen⟩:=CQ hn Hm nc
 refine enter_call (codeAny_mono (call w s₀ s₁ mg mb fa o pm cd doc a vs ns G Y ho (fd_plain hd) Cv Ny CV hints hlen hg) fun r s' hq=>?_)
 obtain ⟨rfl,h2,h3,h4⟩:=hq
 exact ⟨.inl ⟨.bool true,.bool true,[],rfl,fun _=>rfl,.bool true,CU l _,fun _=>⟨List.Pairwise.nil,fun _ hm=>(nomatch hm)⟩⟩,h2,h3,h4⟩
section
variable {prog:Program} {w:World} {A:Around} {E:Value→Shared→Prop} {s:Shared} {K:Frag}
noncomputable def Sh (h:Heap):Heap:={ h with objs:=#[] }
noncomputable def Si (h:Heap) (L d:Addr):List (Addr×Obj):=(List.range h.objs.size).filterMap fun a=>if a=L∨a=d then none else (h.get? a).map fun o=>(a,o)
end
end VC
namespace L2
open PySem PySem.Spec PyProof.Rows
theorem ub:∀ {vs:List Value} {ns:List Int},IntsAre vs ns→Vals (ns.map V.int) vs
 | _,_,.nil=>.nil
 | _,_,.cons n t h=>.cons ⟨t,rfl⟩ (ub h)
noncomputable def Only (H:Hp):Prop:=∀ b,H b=none∨∃ o xs,H b=some (.frz o (.lst xs))
theorem EI {P:Program} {w:World} {K:PySem.W.Frag} {mg mb:Str→Option Value} {CX:BV} {k:Nat} {fa a:Addr} {fd:FuncData} {x:Str} {sp:Sp} {s₁:Shared} {vs:List Value} {ns:List Int}
 (KX:K.In s₁.heap) (BZ:s₁.heap.Ns mainGlobals mg) (hb:s₁.heap.Ns builtinsNs mb) (YC:∀ x:Str,x≠"__name__"→mb x=bootBuiltins x) (Sj:s₁.heap.NoLimit) (hg:s₁.gens=#[])
 (ha:s₁.heap.get? a=some { cls:=.type "list",data:=.seq vs.toArray }) (hi:IntsAre vs ns) (hl:ns.length≤sizeLine) (hr:fZ k callerA)
 (F:∀ base:Heap,K.In base→base.Ns mainGlobals mg→bD P w K mg base CX k fa fd [x] sp) (Nz:∀ (s:Shared) (u:Value),BindsTo s fd ⟨[u],[]⟩ [(x,u)])
 (zZ:∀ H:Hp,Only H→aK K H a (ns.map V.int)→sp [.ref a] H (fun v _=>v=.bl true) fun _ _ _=>False)
 (Sl:∀ H e s',CX [] H s₁ (fun _ _ _=>False) e s'→False) :
 codeAny (model P w) callerA (.call (.ref fa) ⟨[.ref a],[]⟩) (fun r s'=>r=.ok (.ret (.bool true))∧OldK s₁.heap s'.heap∧s'.os=s₁.os∧AllBare s'.gens) s₁:=by
 have rv:=ub hi
 have Sn:=hi.length
 have core:∀ H:Hp,Only H→aK K H a (ns.map V.int)→kI P w H s₁.heap→(∀ b,H b≠none→b=a)→(H a≠none→K.lookup a=none) →
  codeAny (model P w) callerA (.call (.ref fa) ⟨[.ref a],[]⟩) (fun r s'=>r=.ok (.ret (.bool true))∧OldK s₁.heap s'.heap∧s'.os=s₁.os∧AllBare s'.gens) s₁:=by
  intro H hO hS bt hA hK
  have C0:∀ {b:Addr} {o:Obj},s₁.heap.get? b=some o→H b=none→(uL s₁.heap H).get? b=some o:=fun e n=>Ed e n
  have Nf:∀ {b:Addr} {o:Obj} {es:Array DictEntry} {ep:Nat},s₁.heap.get? b=some o→o.data=.dict es ep→H b=none:=fun {b o es ep} e d=>by
   cases q:H b with
   | none=>rfl
   | some u=>
     have e':b=a:=hA b (by rw [q]; simp)
     subst e'
     rw [ha] at e; cases e
     have d':Data.seq vs.toArray _=Data.dict es ep:=d
     cases d'
  have Qu:∀ {b:Addr} {m:Str→Option Value},s₁.heap.Ns b m→(uL s₁.heap H).Ns b m:=fun {b m} ⟨o,es,ep,e,d,r⟩=>⟨o,es,ep,C0 e (Nf e d),d,r⟩
  have VD:K.In (uL s₁.heap H):=fun b o e=>C0 (KX b o e) (by
   cases q:H b with
   | none=>rfl
   | some u=>
     have e':b=a:=hA b (by rw [q]; simp)
     subst e'
     rw [hK (by rw [q]; simp)] at e; cases e)
  have hM:Mod K mg (uL s₁.heap H):=⟨VD,Qu BZ,⟨mb,Qu hb,YC⟩,let ⟨mc,h1,h2⟩:=Sj; ⟨mc,Qu h1,h2⟩⟩
  have e0:sA P w K mg (uL s₁.heap H) callerA [] s₁ H:=⟨rfl,hM,fun b o e=>GL e,Nat.le_of_eq (Ct _ _),trivial,fun b hb=>absurd (show b∈([]:List Addr) from hb) (by simp),bt,.of_eq hg⟩
  refine codeAny_mono ((F _ VD (Qu BZ)).run callerA [] s₁ H ⟨[.ref a],[]⟩ [.ref a] [.ref a] _ _ hr e0 (Nz s₁ (.ref a)) (.cons rfl .nil) (zZ H hO hS)) fun r s' h=>?_
  cases r with
  | error e=>exact (Sl H e s' h).elim
  | ok fl=>
    cases fl with
    | next=>exact False.elim h
    | brk=>exact False.elim h
    | cont=>exact False.elim h
    | ret u=>
      obtain ⟨v,H',os,bare,un,Km,r',q⟩:=h
      have q':v=.bl true:=q
      subst q'
      obtain rfl:u=Value.bool true:=r'
      refine ⟨rfl,OldK.of_keep fun b o e=>?_,os,bare⟩
      cases q:H b with
      | none=>exact un.keep b o e q (by intro z; exact absurd (show b∈([]:List Addr) from z) (by simp)) (by simp)
      | some u=>
        rcases hO b with z | ⟨ob,xs,z⟩
        ·rw [q] at z; cases z
        ·have z2:=un.lV b ob _ z
         obtain ⟨e1,_⟩:=bt b _ z
         obtain ⟨e2,_⟩:=Km b _ z2
         rw [e] at e1; cases e1
         exact e2
 cases hk:K.lookup a with
 | some o=>
   have e:=KX a o hk
   rw [ha] at e
   cases e
   refine core (fun _=>none) (fun _=>.inl rfl) (.inr ⟨_,vs.toArray,_,hk,rfl,rfl,rfl,by rw [List.size_toArray,Sn]; exact hl,by simpa using rv⟩) (fun b u z=>by have z':(none:Option HO)=some u:=z; cases z') (fun b z=>absurd rfl z) fun z=>absurd rfl z
 | none=>
   refine core (fun b=>if b=a then some (.frz { cls:=.type "list",data:=.seq vs.toArray } (.lst (ns.map V.int))) else none) (fun b=>?_) (.inl (.inr ⟨{ cls:=.type "list",data:=.seq vs.toArray },if_pos rfl⟩)) (fun b u z=>?_) (fun b z=>?_) fun _=>hk
   ·by_cases hb:b=a
    ·exact .inr ⟨_,_,if_pos hb⟩
    ·exact .inl (if_neg hb)
   ·by_cases hb:b=a
    ·have z':=(if_pos hb).symm.trans z
     cases z'
     subst hb
     exact ⟨ha,by rw [List.length_map]; exact hl,vs,_,rv,ha⟩
    ·have z':=(if_neg hb).symm.trans z
     cases z'
   ·by_cases hb:b=a
    ·exact hb
    ·exact absurd (if_neg hb) z
end L2
namespace L2
open PySem PySem.Spec PyProof.Rows
noncomputable abbrev KOf {K:PySem.W.Frag} {h:Heap} (_:K.In h):PySem.W.Frag:=K
theorem Hn {l:PySem.W.OpenLaw} {n k:Nat} {q:Program} {loose:List Str} {XP:(Str→Option Value)→Heap→Prop} {YP:World→Heap→Prop} {d:DefRec} {K:Params→PySem.W.Frag} {CX:World→BV} {sp:World→Sp} {x:Str}
 (hn:l.most=some n) (Qp:n≤sizeLine) (Gv:d.params.defaults=[]) (hr:fZ k callerA)
 (hY:∀ (w:World) (h:Heap),YP w h→(K w.params).In h)
 (F:∀ (w:World) (mg:Str→Option Value) (fa:Addr) (h:Heap),(K w.params).In h→h.Ns mainGlobals mg→mg d.name=some (.ref fa) →
   ∃ fd:FuncData,(∀ (s:Shared) (u:Value),BindsTo s fd ⟨[u],[]⟩ [(x,u)]) ∧
    ∀ base:Heap,(K w.params).In base→base.Ns mainGlobals mg→bD l.prog w (K w.params) mg base (CX w) k fa fd [x] (sp w))
 (zZ:∀ (w:World) (H:Hp) (a:Addr) (ns:List Int),ns.length≤n→Only H→aK (K w.params) H a (ns.map V.int)→sp w [.ref a] H (fun v _=>v=.bl true) fun _ _ _=>False)
 (Sl:∀ (w:World) (H:Hp) (s:Shared) (e:Value) (s':Shared),CX w [] H s (fun _ _ _=>False) e s'→False) :
 PySem.W.WalkO q loose XP YP l.row.toRowW d [] (fun f vs=>PySem.call f vs):=by
 refine VC.xU hn Gv fun w s₀ s₁ mg mb fa o pm cd doc a vs ns G Y ho hd Cv Ny CV hints hlen hg=>?_
 have KX:=hY w _ Y
 obtain ⟨fd,hb,hF⟩:=F w mg fa _ KX G.T.g Ny
 exact EI KX G.T.g G.T.b G.T.builtins G.T.nolimit hg CV hints (Nat.le_trans hlen Qp) hr hF hb (fun H hO hS=>zZ w H a ns hlen hO hS) fun H e s'=>Sl w H s₁ e s'
end L2
namespace L2
open PySem PySem.Spec PyProof.Rows
noncomputable def inClass (s:Stmt) (j:Nat):Stmt:=match s with
 | .ClassDef _ _ _ body _ _ _ _ _ _ _=>body.getD j (.Pass ⟨0,0,0,0⟩)
 | _=>.Pass ⟨0,0,0,0⟩
noncomputable def jk (s:Stmt):Arguments:=match s with
 | .FunctionDef _ a _ _ _ _ _ _ _ _=>a
 | _=>{ posonlyargs:=[],args:=[],vararg:=none,kwonlyargs:=[],kw_defaults:=[],kwarg:=none,defaults:=[] }
noncomputable def i6 (s:Stmt):List Stmt:=match s with
 | .FunctionDef _ _ b _ _ _ _ _ _ _=>b
 | _=>[]
noncomputable def aa (s:Stmt):Scope:=match s with
 | .FunctionDef _ _ _ _ _ _ sc _ _ _=>sc
 | _=>{ kind:=.function,names:=[],isGenerator:=false,isCoroutine:=false }
noncomputable abbrev iN:BV:=fun _ _ _ _ _ _=>False
noncomputable abbrev E0:XK:=fun _ _ _=>False
theorem aC {X:Cx}:Passes iN X E0:=fun _ _ _ _ _ _ _ h=>h.elim
set_option genInjectivity false in
set_option genSizeOfSpec false in
structure EJ (K:PySem.W.Frag) (x qual:Str) (st:Stmt) (f:Addr) (fd:FuncData):Prop where
 ex:∃ (oc:Value) (od:Option Addr) (kV doc pm:Value) (an:Option Addr) (cR ct:Value) (zE:Array (Option Value)),
  fd=PySem.W.fnOf x qual (jk st) (i6 st) (aa st) .none kV doc pm an cR ct∧K.lookup f=some ⟨oc,od,.func fd,zE⟩∧PySem.W.codeIn K cR qual=true
 kp:PySem.W.keepIn K (.ref f)=true
section
variable {P:Program} {w:World} {K:PySem.W.Frag} {mg:Str→Option Value} {base:Heap}
theorem EJ.ok {x qual:Str} {st:Stmt} {f:Addr} {fd:FuncData} {N ps:List Str} {k:Nat} {sp:Sp} (F:EJ K x qual st f fd) (S:az N ps (aa st)) (len:∀ vs H Q E,sp vs H Q E→vs.length=ps.length)
 (xN:∀ (cR:Value) (A:Around) (outer:List Env) (s:Shared) (H:Hp) (vs:List V) (Q:VK) (E:XK),fZ k (A.deeper (envOfC qual (aa st) s.heap.objs.size f cR))→sp vs H Q E →
   ∃ t,xE (xK iN P w K mg base N qual (aa st) f cR A outer s H E).J0 (i6 st) t∧t { nx:=fun _ H'=>Q .non H',rt:=Q } (start N vs) H):bD P w K mg base iN (k + 1) f fd ps sp:=by
 obtain ⟨oc,od,kV,doc,pm,an,cR,ct,zE,rfl,lk,Cv⟩:=F.ex
 refine J8 lk Cv S len fun A outer s H vs Q E hr zZ=>?_
 obtain ⟨t,h,q⟩:=xN cR A outer s H vs Q E hr zZ
 exact ⟨t,h.J0,q⟩
theorem EJ.binds {x qual:Str} {st:Stmt} {f:Addr} {fd:FuncData} {ps:List Str} (F:EJ K x qual st f fd)
 (h:∀ (kV doc pm:Value) (an:Option Addr) (cR ct:Value) (us:List Value),us.length=ps.length→bindArgs (PySem.W.fnOf x qual (jk st) (i6 st) (aa st) .none kV doc pm an cR ct) ⟨us,[]⟩=pure (ps.zip us)):Binds K fd ps []:=by
 obtain ⟨oc,od,kV,doc,pm,an,cR,ct,zE,rfl,lk,Cv⟩:=F.ex
 exact .all (h kV doc pm an cR ct)
theorem EK {x qual:Str} {st:Stmt} {f:Addr} {oc:Value} {od an:Option Addr} {zE:Array (Option Value)} {kV doc pm cR ct:Value} (l:K.lookup f=some ⟨oc,od,.func (PySem.W.fnOf x qual (jk st) (i6 st) (aa st) .none kV doc pm an cR ct),zE⟩)
 (c:PySem.W.codeIn K cR qual=true) (k:PySem.W.keepIn K (.ref f)=true):EJ K x qual st f (PySem.W.fnOf x qual (jk st) (i6 st) (aa st) .none kV doc pm an cR ct):=⟨⟨oc,od,kV,doc,pm,an,cR,ct,zE,rfl,l,c⟩,k⟩
end
theorem iX {A:Around} {k:Nat} (hr:fZ k A):A.units + 1 < cLine:=Nat.lt_of_le_of_lt (Nat.add_le_add_left (by decide:1≤64) _) hr.units
theorem fu {n:Nat} (h:n≤1000):n < sizeLine:=Nat.lt_of_le_of_lt h (by decide)
section
variable {X:Cx}
theorem pv (i:Nat) {x:Str} {pos:Pos} (hN:X.N[i]?=some x:=by rfl) (hv:LR X.env.scope x:=by first | exact Or.inl rfl | exact Or.inr (Or.inl rfl) | exact Or.inr (Or.inr rfl)) (hd:(x == ("__debug__":Str))=false:=by decide)
 (Cv:(x == ("__classdict__":Str))=false:=by decide):PE X (.Name x pos) (GP i):=JW hN hv hd Cv
end
theorem fz {A B:Prop} (h:B):if false=true then A else B:=by
 rw [if_neg Bool.false_ne_true]
 exact h
theorem kD {A B:Prop} (h:A):if true=true then A else B:=by
 rw [if_pos rfl]
 exact h
theorem uV {c A B:Prop} [Decidable c] (h1:c→A) (h2:¬ c→B):if c then A else B:=by
 by_cases h:c
 ·rw [if_pos h]
  exact h1 h
 ·rw [if_neg h]
  exact h2 h
noncomputable def a6 (H H':Hp):Prop:=∀ b o,H b=some o→H' b=some o
theorem a6.refl (H:Hp):a6 H H:=fun _ _ h=>h
theorem a6.trans {H H1 H2:Hp} (a:a6 H H1) (b:a6 H1 H2):a6 H H2:=fun c o h=>b c o (a c o h)
theorem a6.free {H H':Hp} (e:a6 H H') {l:Addr} (h:H' l=Option.none):H l=Option.none:=by
 cases q:H l with
 | none=>rfl
 | some o=>
   rw [e l o q] at h
   cases h
theorem a6.seq {K:PySem.W.Frag} {H H':Hp} {a:Addr} {xs:List V} (e:a6 H H') (h:aK K H a xs):aK K H' a xs:=by
 rcases h with (h | ⟨o,h⟩) | h
 ·exact .inl (.inl (e _ _ h))
 ·exact .inl (.inr ⟨o,e _ _ h⟩)
 ·exact .inr h
section
variable {κ:Type} [DecidableEq κ]
theorem EL {kvs:List (κ×V)} {k:κ} (h:bK kvs k=none):¬ k∈kvs.map (·.1):=by
 intro m
 obtain ⟨p,hp,e⟩:=List.mem_map.mp m
 have q:(kvs.any fun kv=>decide (kv.1=k))=true:=List.any_eq_true.mpr ⟨p,hp,decide_eq_true e⟩
 rw [gA,h] at q
 exact absurd q (by simp)
theorem uW {kvs:List (κ×V)} {k:κ} {v:V} (h:bK kvs k=some v):k∈kvs.map (·.1):=by
 have q:(kvs.any fun kv=>decide (kv.1=k))=true:=by
  rw [gA,h]
  all_goals rfl
 obtain ⟨p,hp,e⟩:=List.any_eq_true.mp q
 exact List.mem_map.mpr ⟨p,hp,of_decide_eq_true e⟩
theorem C1:∀ {l:List κ} {k:κ},l.Nodup→¬ k∈l→(l++[k]).Nodup
 | [],k,_,_=>by simp
 | a :: r,k,h,hk=>by
   obtain ⟨h1,h2⟩:=List.nodup_cons.mp h
   show (a :: (r++[k])).Nodup
   refine List.nodup_cons.mpr ⟨fun m=>?_,C1 h2 fun m=>hk (List.mem_cons.mpr (Or.inr m))⟩
   rcases List.mem_append.mp m with q | q
   ·exact h1 q
   ·exact hk (List.mem_cons.mpr (Or.inl (List.mem_singleton.mp q).symm))
theorem C2 {kvs:List (κ×V)} {k:κ} (v:V) (hn:(kvs.map (·.1)).Nodup) (h:bK kvs k=none):((putK kvs k v).map (·.1)).Nodup:=by
 rw [fM v h,List.map_append]
 exact C1 hn (EL h)
end
end L2
namespace L2
open PySem PySem.Spec PyProof.Rows
theorem a6.upd {H:Hp} {a:Addr} {o:HO} (h:H a=none):a6 H (upd H a o):=fun b u e=>by rw [ai (aj e h)]; exact e
set_option genInjectivity false in
set_option genSizeOfSpec false in
structure nq (J:It) (Ok:Hp→Prop) (xs:List V):Prop where
 go:∀ i H,Ok H→i < xs.length→J.go i H
 xr:∀ i H x H',Ok H→i < xs.length→J.xr i H x H'→H'=H∧xs[i]?=some x
 stop:∀ H,Ok H→J.stop xs.length H
theorem bO (K:PySem.W.Frag) (a:Addr) (xs:List V):nq (LW K a) (fun H=>aK K H a xs) xs:=
 ⟨fun i H q hi=>⟨xs,xs[i],q,by simp [hi]⟩,fun i H x H' q _ y=>⟨y.1,y.2 xs q⟩,fun H q=>⟨xs,q,Nat.le_refl _⟩⟩
noncomputable def Qv (n:Nat) (val:Nat→V):It:=⟨fun i _=>i < n,fun i H x H'=>H'=H∧x=val i,fun i _=>n≤i⟩
theorem Kn {n:Nat} {val:Nat→V} {xs:List V} (hn:xs.length=n) (hv:∀ i x,xs[i]?=some x→val i=x):nq (Qv n val) (fun _=>True) xs:=by
 subst hn
 refine ⟨fun i H _ hi=>hi,fun i H x H' _ hi y=>⟨y.1,?_⟩,fun H _=>Nat.le_refl _⟩
 have e:xs[i]?=some xs[i]:=by simp [hi]
 rw [e,y.2,hv i _ e]
theorem mz (lo:Int) (n:Nat):nq (J1 lo n) (fun _=>True) ((List.range n).map fun i=>V.int (lo + (i:Nat))):=by
 refine ⟨fun i H _ hi=>(show i < n by simpa using hi),fun i H x H' _ hi y=>⟨y.1,?_⟩,fun H _=>?_⟩
 ·have VE:i < n:=by simpa using hi
  rw [y.2]
  simp [VE]
 ·show n≤_
  simp
theorem oj {J:It} {Ok:Hp→Prop} {xs:List V} {g:TG} {tb:TS} {D:Ends} {σ:St} {H:Hp} (hJ:nq J Ok xs) (Pv:Nat→St→Hp→Prop) (h0:Pv 0 σ H) (hS:∀ i σ H,i≤xs.length→Pv i σ H→Ok H)
 (hs:∀ i x σ H,xs[i]?=some x→Pv i σ H→g x σ H fun σ2 H2=>tb { D with nx:=Pv (i + 1),ct:=Pv (i + 1),bk:=D.nx } σ2 H2) (hd:∀ σ H,Pv xs.length σ H→D.nx σ H) :
 ∃ W:Nat→Nat→St→Hp→Prop,(∃ m,W 0 m σ H)∧∀ i m σ H,W i m σ H →
  (J.stop i H∧D.nx σ H)∨(J.go i H∧∃ N:St→Hp→Prop,(∀ σ' H',N σ' H'→∃ m',m' < m∧W (i + 1) m' σ' H')∧∀ x H',J.xr i H x H'→g x σ H' fun σ2 H2=>tb { D with nx:=N,ct:=N,bk:=D.nx } σ2 H2):=by
 refine ⟨fun i m σ H=>m=xs.length - i∧i≤xs.length∧Pv i σ H,⟨xs.length,by simp,Nat.zero_le _,h0⟩,?_⟩
 rintro i m σ H ⟨rfl,hi,p⟩
 have q:=hS i σ H hi p
 by_cases eM:i < xs.length
 ·refine .inr ⟨hJ.go i H q eM,Pv (i + 1),fun σ' H' p'=>⟨xs.length - (i + 1),by omega,rfl,eM,p'⟩,fun x H' y=>?_⟩
  obtain ⟨e,hy⟩:=hJ.xr i H x H' q eM y
  subst e
  exact hs i x σ _ hy p
 ·have e:i=xs.length:=by omega
  subst e
  exact .inl ⟨hJ.stop H q,hd σ H p⟩
noncomputable abbrev Jb (nm:String):Prop:=["enumerate","zip","dict_itemiterator","dict_reverseitemiterator","odict_iterator","itertools.zip_longest","itertools.pairwise"].contains nm=false
theorem A6 {P:Program} {w:World} {K:PySem.W.Frag} {tg:Expr} {it:Addr} {n:Nat} {Pv:Nat→Value→Prop} {St:Nat→Heap→Prop} {val:Nat→V}
 (hW:∀ A:Around,A.handled=none→Walks P w A it [it] [it] n Pv St)
 (CV:∀ i h,St i h→∃ (o:Obj) (nm:String) (vs:Array Value),h.get? it=some o∧o.cls=.type nm∧o.data=.fields vs∧Jb nm)
 (NA:∀ i h h',St i h→(∀ o,h.get? it=some o→h'.get? it=some o)→St i h')
 (ER:∀ (A:Around) (i:Nat) (s:Shared) (Q:Value→Shared→Prop) (E:Value→Shared→Prop),St i s.heap→Q (.ref it) s→wpAny (model P w) A (pyIter (.ref it)) Q E s)
 (A7:∀ i u,Pv i u→RelV (val i) u):Turn P w K tg (Qv n val) [it] it (fun i h=>St i h∧i≤n) where
 mem:=by simp
 obj:=fun i h st b hb=>by
  have e:b=it:=by simpa using hb
  subst e
  obtain ⟨o,nm,vs,e,c,d,_⟩:=CV i h st.1
  exact ⟨o,e,fun v z=>by rw [d] at z; cases z⟩
 keep:=fun i h h' st k=>⟨NA i h h' st.1 fun o e=>k it (by simp) o e,st.2⟩
 item:=by
  intro X hP hw hK hc i pins s σ H E I hf st hg
  subst hP hw hK
  obtain ⟨f0,f1,f2,f3,f4,f5⟩:=hf it (by simp)
  refine (hW X.A (I.ok.hd hc)).item i s _ _ hg st.1 fun v h' tk hv zC kk=>?_
  have I1:Inv X pins σ H { s with heap:=h',toks:=tk }:=I.turned (fun b o hb e=>kk b o (by simpa using hb) e) f0 f1 f3 f4 f5
  obtain ⟨o,nm,vs,e,c,d,hn⟩:=CV _ _ zC
  exact ⟨_,rfl,BO (s:={ s with heap:=h',toks:=tk }) e c d hn ⟨val i,H,I1,A7 i v hv,⟨rfl,rfl⟩,⟨zC,hg⟩,fun b hb=>(hf b hb).1⟩⟩
 done:=by
   intro X hP hw hK hc i pins s σ H E I hf st hg
   subst hP hw hK
   obtain ⟨f0,f1,f2,f3,f4,f5⟩:=hf it (by simp)
   have e:i=n:=by
    have h1:=st.2
    have h2:n≤i:=hg
    omega
   subst e
   exact (hW X.A (I.ok.hd hc)).done s _ _ st.1 fun h' tk kk=>⟨rfl,I.turned (fun b o hb e=>kk b o (by simpa using hb) e) f0 f1 f3 f4 f5⟩
 self:=fun A i s Q E st h=>ER A i s Q E st.1 h
noncomputable def xV (z:Str) (i:Nat):V:=.str ⟨#[z.cps.getD i 0]⟩
noncomputable def fI (z:Str):List V:=z.cps.toList.map fun c=>V.str ⟨#[c]⟩
theorem qo (z:Str):nq (Qv z.cps.size (xV z)) (fun _=>True) (fI z):=by
 refine Kn (by simp [fI]) fun i x h=>?_
 unfold fI at h
 rw [List.getElem?_map] at h
 cases e:z.cps.toList[i]? with
 | none=>rw [e] at h; cases h
 | some c=>
   rw [e] at h
   have h':V.str ⟨#[c]⟩=x:=Option.some.inj h
   rw [← h']
   have e2:z.cps[i]?=some c:=by rw [← Array.getElem?_toList]; exact e
   unfold xV
   rw [Array.getD_eq_getD_getElem?,e2]
   rfl
noncomputable def Sq (tl:TE):TI:=fun σ H R=>tl σ H fun x H1=>∃ z,x=.str z∧R (Qv z.cps.size (xV z)) H1
section
variable {X:Cx} {tg:Expr}
theorem A8 {l:Expr} {tl:TE} (hl:PE X l tl):PI X tg l (Sq tl):=by
 intro pins s σ H R I h
 refine cg (hl pins s σ H _ I h) fun v s1 ⟨x,H1,I1,r1,q1⟩=>?_
 obtain ⟨z,e,q⟩:=q1
 subst e
 obtain ⟨t,rfl⟩:=r1
 have fin:∀ (nm:String) (o:Obj),(∀ A':Around,A'.handled=none→Walks X.prog X.w A' s1.heap.objs.size [s1.heap.objs.size] [s1.heap.objs.size] z.cps.size (SignAt z) (fun i h=>h.IsStrIter s1.heap.objs.size nm z t i)) →
  (∀ (A:Around) (i:Nat) (s:Shared) (Q:Value→Shared→Prop) (E:Value→Shared→Prop),s.heap.IsStrIter s1.heap.objs.size nm z t i→Q (.ref s1.heap.objs.size) s→wpAny (model X.prog X.w) A (pyIter (.ref s1.heap.objs.size)) Q E s) →
  Jb nm→(s1.heap.push o).IsStrIter s1.heap.objs.size nm z t 0→Qn X pins σ tg R (.ref s1.heap.objs.size) { s1 with heap:=s1.heap.push o }:=by
  intro nm o hW ER YD xG
  refine ⟨s1.heap.objs.size,[s1.heap.objs.size],_,_,H1,rfl,I1.kept (t':=s1.toks) fun b o e=>Heap.get?_push_of_some _ e,
   A6 (val:=xV z) hW (fun i h st=>?_) (fun i h h' st k=>?_) ER (fun i u hu=>?_),⟨xG,Nat.zero_le _⟩,fun b hb=>?_,q⟩
  ·obtain ⟨o,e,c,d⟩:=st
   exact ⟨o,nm,_,e,c,d,YD⟩
  ·obtain ⟨o,e,c,d⟩:=st
   exact ⟨o,k o e,c,d⟩
  ·obtain ⟨c,u',hc,e⟩:=hu
   refine ⟨u',?_⟩
   rw [e,Array.getD_eq_getD_getElem?,hc]
   rfl
  ·have e:b=s1.heap.objs.size:=by simpa using hb
   subst e
   exact I1.Ek (Nat.le_refl _) (I1.bt.fresh (Nat.le_refl _))
 cases ha:z.cps.all (· < 128)
 ·exact wpAny_pyIter_wide ha (fin "str_iterator" _ (fun A' hA=>Walks.strWide hA _ z t) (fun A i s Q E st h=>wpAny_pyIter_striter_wide st h) (by decide) ⟨_,Heap.get?_push_size _ rfl,rfl,rfl⟩)
 ·exact wpAny_pyIter_ascii ha (fin "str_ascii_iterator" _ (fun A' hA=>Walks.strAscii hA _ z t) (fun A i s Q E st h=>wpAny_pyIter_striter_ascii st h) (by decide) ⟨_,Heap.get?_push_size _ rfl,rfl,rfl⟩)
end
theorem Un.sameBut {fs ex:List Addr} {H H':Hp} {h h1 h2:Heap} {L:Addr} (u:Un fs ex H H' h h1) (hs:∀ b,b≠L→h2.get? b=h1.get? b) (hL:h.objs.size≤L):Un fs ex H H' h h2:=
 have ne:∀ {b:Addr} {o:Obj},h.get? b=some o→b≠L:=fun e=>Nat.ne_of_lt (Nat.lt_of_lt_of_le (Heap.lt_size e) hL)
 ⟨fun b o e n h1 h2=>(hs b (ne e)).trans (u.keep b o e n h1 h2),fun b o e n h1 h2=>let ⟨sl,q⟩:=u.slot b o e n h1 h2; ⟨sl,(hs b (ne e)).trans q⟩,u.free,
   fun b o e hx=>let ⟨o',q⟩:=u.there b o e hx; ⟨o',(hs b (ne e)).trans q⟩,u.mn,u.lV,u.mq⟩
noncomputable def Ko (scope:Scope) (env:Env):Prop:=∀ y∈scope.names,y.2=.free→env.kindOf y.1=some .cell∨env.kindOf y.1=some .free
theorem mB {env:Env}:∀ {names:List (Str×NameKind)} (acc:List (Str×Addr)),(∀ y∈names,y.2=.free→∃ c,env.cells.lookup y.1=some c)→(∀ y c,acc.lookup y=some c→env.cells.lookup y=some c) →
 ∃ cl:List (Str×Addr),(forIn names acc (fun (x:Str×NameKind) cs=>(match x with | (name,kind)=>if kind == .free then do let c ← cellOf env name; pure (ForInStep.yield ((name,c) :: cs)) else pure (ForInStep.yield cs):Sem (ForInStep (List (Str×Addr))))))=pure cl ∧
  (∀ y c,cl.lookup y=some c→env.cells.lookup y=some c)∧(∀ y c,acc.lookup y=some c→∃ c',cl.lookup y=some c')∧∀ y∈names,y.2=.free→∃ c,cl.lookup y.1=some c
 | [],acc,_,ha=>⟨acc,rfl,ha,fun y c e=>⟨c,e⟩,fun _ h=>nomatch h⟩
 | (n,k) :: r,acc,hf,ha=>by
   rw [List.forIn_cons]
   by_cases hk:k=.free
   ·obtain ⟨c,hc⟩:=hf (n,k) List.mem_cons_self hk
    have e1:(k == NameKind.free)=true:=by rw [hk]; rfl
    obtain ⟨cl,h1,h2,h3,h4⟩:=mB (env:=env) (names:=r) ((n,c) :: acc) (fun y hy=>hf y (List.mem_cons_of_mem _ hy)) (fun y c' e=>by
     rw [List.lookup_cons] at e
     cases q:y == n with
     | true=>
       rw [q] at e
       have:c=c':=Option.some.inj e
       subst this
       have:y=n:=eq_of_beq q
       subst this
       exact hc
     | false=>
       rw [q] at e
       exact ha y c' e)
    refine ⟨cl,?_,h2,fun y c' e=>?_,fun y hy E5=>?_⟩
    ·rw [← h1]
     simp only [e1,if_true]
     have e2:cellOf env n=pure c:=by unfold cellOf; rw [hc]
     rw [e2]
     rfl
    ·by_cases q:y=n
     ·subst q
      exact h3 y c (by simp [List.lookup_cons])
     ·refine h3 y c' ?_
      have:(y == n)=false:=beq_eq_false_iff_ne.mpr q
      rw [List.lookup_cons,this]
      exact e
    ·rcases List.mem_cons.mp hy with rfl | hy
     ·exact h3 n c (by simp [List.lookup_cons])
     ·exact h4 y hy E5
   ·have e1:(k == NameKind.free)=false:=by simpa using hk
    obtain ⟨cl,h1,h2,h3,h4⟩:=mB (env:=env) (names:=r) acc (fun y hy=>hf y (List.mem_cons_of_mem _ hy)) ha
    refine ⟨cl,?_,h2,h3,fun y hy E5=>?_⟩
    ·rw [← h1]
     simp only [e1,Bool.false_eq_true,if_false]
     rfl
    ·rcases List.mem_cons.mp hy with rfl | hy
     ·exact absurd E5 hk
     ·exact h4 y hy E5
theorem i7 {scope:Scope} {env:Env} (hf:∀ y∈scope.names,y.2=.free→∃ c,env.cells.lookup y.1=some c) :
 ∃ cl,closureFor scope env=pure cl∧(∀ y c,cl.lookup y=some c→env.cells.lookup y=some c)∧∀ y∈scope.names,y.2=.free→∃ c,cl.lookup y.1=some c:=by
 obtain ⟨cl,h1,h2,_,h4⟩:=mB (env:=env) (names:=scope.names) [] hf (fun y c e=>by simp at e)
 refine ⟨cl,?_,h2,h4⟩
 simp only [closureFor]
 first
  | (rw [h1]; rfl)
  | (have CY:=h1; simp only at CY ⊢; rw [CY]; rfl)
  | (refine Eq.trans (congrArg (fun m=>m >>= fun cs=>pure cs) ?_) ?_; exact pure cl; exact h1; rfl)
theorem nr {scope:Scope} {env:Env} (lZ:∀ y∈scope.names,y.2≠.cell) {x:Str} (h:(relabel scope env).names.lookup x=some .cell∨(relabel scope env).names.lookup x=some .free):∃ k,(x,k)∈scope.names∧k=NameKind.free:=by
 unfold relabel at h
 dsimp only at h
 have key:∀ (names:List (Str×NameKind)),(∀ y∈names,y.2≠.cell) →
  ((names.map fun (n,k)=>if (k == NameKind.free && env.scope.kind == .function && env.kindOf n == some .cell) then (n,NameKind.cell) else (n,k)).lookup x=some .cell ∨
   (names.map fun (n,k)=>if (k == NameKind.free && env.scope.kind == .function && env.kindOf n == some .cell) then (n,NameKind.cell) else (n,k)).lookup x=some .free)→∃ k,(x,k)∈names∧k=NameKind.free:=by
  intro names
  induction names with
  | nil=>intro _ h; simp at h
  | cons y r ih=>
    obtain ⟨n,k⟩:=y
    intro hc h
    have hr:=ih (fun y hy=>hc y (List.mem_cons_of_mem _ hy))
    rw [List.map_cons] at h
    dsimp only at h
    by_cases hx:x=n
    ·subst hx
     by_cases hk:k=.free
     ·exact ⟨k,List.mem_cons_self,hk⟩
     ·have e1:(k == NameKind.free)=false:=by simpa using hk
      simp only [e1,Bool.false_and,Bool.false_eq_true,if_false,List.lookup_cons,beq_self_eq_true] at h
      rcases h with h | h
      ·exact absurd (Option.some.inj h) (hc (x,k) List.mem_cons_self)
      ·exact absurd (Option.some.inj h) hk
    ·have hb:(x == n)=false:=beq_eq_false_iff_ne.mpr hx
     have h':∀ kk:NameKind,List.lookup x ((if (k == NameKind.free && env.scope.kind == .function && env.kindOf n == some .cell)=true then (n,NameKind.cell) else (n,k)) :: (r.map fun (n,k)=>if (k == NameKind.free && env.scope.kind == .function && env.kindOf n == some .cell) then (n,NameKind.cell) else (n,k)))=some kk →
      (r.map fun (n,k)=>if (k == NameKind.free && env.scope.kind == .function && env.kindOf n == some .cell) then (n,NameKind.cell) else (n,k)).lookup x=some kk:=by
      intro kk e
      split at e
      ·simpa only [List.lookup_cons,hb] using e
      ·simpa only [List.lookup_cons,hb] using e
     obtain ⟨k',h1,h2⟩:=hr (h.imp (h' _) (h' _))
     exact ⟨k',List.mem_cons_of_mem _ h1,h2⟩
 exact key scope.names lZ h
noncomputable def b7 (X:Cx) (scope:Scope) (N:List Str) (cl:List (Str×Addr)) (L:Addr) (s:Shared) (H:Hp) (ex:List Addr) (pn:List (Addr×Obj)):Cx where
 prog:=X.prog
 w:=X.w
 K:=X.K
 mg:=X.mg
 base:=X.base
 A:=X.A
 N:=N
 s₀:=s
 H₀:=H
 env:=compEnvC scope cl L X.env
 outer:=X.stack
 stack:=X.stack
 ex:=ex
 fn:=fun _=>false
 calm:=X.calm
 pn:=pn
 xe:=fun _ _=>False
noncomputable def Jc (X:Cx) (ifs:List Expr) (t:TT):Prop:=
 ∀ (pins:List (Addr×Obj)) (s:Shared) (σ:St) (H:Hp) (Q:Bool→Hp→Prop),Inv X pins σ H s→t σ H Q →
  wpAny (model X.prog X.w) X.A (forIn ifs true fun c r=>if r=true then do let ok ← isTrue c X.env (eval c X.env); pure (ForInStep.yield ok) else pure (ForInStep.yield r)) (TP X pins σ Q) X.xe s
noncomputable def A9:TT:=fun _ H Q=>Q true H
theorem du {X:Cx}:Jc X [] A9:=fun _ _ _ H _ I h=>wpAny_tests_nil ⟨H,I,h⟩
theorem jl {X:Cx} {c:Expr} {t:TT} (h:PT X c t):Jc X [c] t:=fun pins s σ H Q I hw=>wpAny_tests_one (h pins s σ H Q I hw)
section
variable {prog:Program} {w:World} {A:Around} {E:Value→Shared→Prop} {R:Result→Shared→Prop} {s:Shared}
theorem uc {elt target iter:Expr} {ifs:List Expr} {scope:Scope} {pos:Pos} {it acc:Value} {env:Env} (I:Nat→Shared→Prop)
 (turn:∀ n s,I n s→wpAny (model prog w) A (pyNext it) (fun r s₁=>match r with
   | none=>R (.ok .next) s₁
   | some v=>wpAny (model prog w) A (letOwnedTupleGo target it v) (fun _ VF=>wpAny (model prog w) A (assign target env v) (fun _ s₂=>
      wpAny (model prog w) A (forIn ifs true fun c r=>if r=true then do let ok ← isTrue c env (eval c env); pure (ForInStep.yield ok) else pure (ForInStep.yield r)) (fun ok s₃=>
       if ok=true then wpAny (model prog w) A (eval elt env) (fun x s₄=>
        wpAny (model prog w) A (call (.builtin "list.append") [acc,x]) (fun _ s₅=>∃ m,m < n∧I m s₅) (notedBy (model prog w) A env fun e s'=>R (.error e) s') s₄) (notedBy (model prog w) A env fun e s'=>R (.error e) s') s₃
       else ∃ m,m < n∧I m s₃) (notedBy (model prog w) A env fun e s'=>R (.error e) s') s₂) (notedBy (model prog w) A env fun e s'=>R (.error e) s') VF) (notedBy (model prog w) A env fun e s'=>R (.error e) s') s₁) (notedBy (model prog w) A env fun e s'=>R (.error e) s') s)
 (n:Nat) (h:I n s) :
 codeAny (model prog w) A (.compLoop (.ListComp elt [⟨target,iter,ifs,0⟩] scope pos) 0 it acc env) R s:=by
 refine codeAny_loop rfl I (fun n s hI=>?_) n h
 show wpAny _ A ((compTurn (.ListComp elt [⟨target,iter,ifs,0⟩] scope pos) 0 it acc env).onRaise (fun x=>do noteFrame x env; theTreesLotGoes x)) _ _ s
 refine wpAny_noted ?_
 rw [compTurn_list]
 refine wpAny_bind (wpAny_standAt (wpAny_bind (wpAny_mono (turn n s hI) (fun r s₁ h₁=>?_) fun _ _ h'=>h')))
 cases r with
 | none=>exact wpAny_pure h₁
 | some v=>
   refine wpAny_bind (wpAny_mono h₁ (fun _ VF YF=>?_) fun _ _ h'=>h')
   refine wpAny_bind (wpAny_mono YF (fun _ s₂ h₂=>wpAny_bind (wpAny_mono h₂ (fun ok s₃ h₃=>?_) fun _ _ h'=>h')) fun _ _ h'=>h')
   cases ok with
   | false=>exact wpAny_pure ⟨rfl,h₃⟩
   | true=>
     exact wpAny_bind (wpAny_bind (wpAny_mono h₃ (fun x s₄ h₄=>wpAny_bind (wpAny_mono h₄ (fun _ s₅ h₅=>wpAny_pure (wpAny_pure ⟨rfl,h₅⟩)) fun _ _ h'=>h')) fun _ _ h'=>h'))
end
noncomputable def oW (J:It) (l:Addr) (σf:St) (tt:TT) (te:TE) (H:Hp) (Q:Hp→Prop):Prop:=
 ∃ W:Nat→Nat→List V→Hp→Prop,(∃ m,W 0 m [] (upd H l (.lst [])))∧∀ i m ys H2,W i m ys H2→H2 l=some (.lst ys) ∧
  ((J.stop i H2∧Q H2)∨(J.go i H2∧ys.length < sizeLine∧∀ x H3,J.xr i H2 x H3→tt (some x :: σf) H3 fun b H4=>
    if b=true then te (some x :: σf) H4 fun y H5=>H5 l=some (.lst ys)∧∃ m',m' < m∧W (i + 1) m' (ys++[y]) (upd H5 l (.lst (ys++[y])))
    else ∃ m',m' < m∧W (i + 1) m' ys H4))
noncomputable def pick (σ:St) (ix:List Nat):St:=ix.map fun i=>(σ[i]?).join
noncomputable def NC (wi:TI) (ix:List Nat) (tt:TT) (te:TE):TE:=fun σ H Q=>wi σ H fun J H1=>∀ l,H1 l=none→oW J l (pick σ ix) tt te H1 (fun H2=>Q (.ref l) H2)
noncomputable def Kp (wi:TI) (ix:List Nat) (tt:TT) (te:TE) (i:Nat):TS:=fun D σ H=>wi σ H fun J H1=>∀ l,H1 l=none→oW J l (pick σ ix) tt te H1 (fun H2=>D.nx (σ.set i (some (.ref l))) H2)
set_option genInjectivity false in
set_option genSizeOfSpec false in
structure dv (X:Cx) (scope:Scope) (x:Str) (ys:List Str) (ix:List Nat):Prop where
 kind:scope.kind=.function
 uX:∀ y∈scope.names,y.2≠.cell
 names:∀ y∈scope.names,y.2=.local→scope.names.lookup y.1=some .local
 var:scope.names.lookup x=some .local
 free:Ko scope X.env
 nd:(x :: ys).Nodup
 len:ix.length=ys.length
 slots:∀ (j:Nat) (y:Str),ys[j]?=some y→∃ i:Nat,ix[j]?=some i∧X.N[i]?=some y∧(X.env.scope.names.lookup y=some .cell∨X.env.scope.names.lookup y=some .free)∧scope.names.lookup y=some .free
theorem kS {scope:Scope} {env:Env} {x:Str} (h:scope.names.lookup x=some .free):(relabel scope env).names.lookup x=some .cell∨(relabel scope env).names.lookup x=some .free:=by
 unfold relabel
 dsimp only
 have key:∀ (names:List (Str×NameKind)),names.lookup x=some .free →
  ((names.map fun (n,k)=>if (k == NameKind.free && env.scope.kind == .function && env.kindOf n == some .cell) then (n,NameKind.cell) else (n,k)).lookup x=some .cell ∨
   (names.map fun (n,k)=>if (k == NameKind.free && env.scope.kind == .function && env.kindOf n == some .cell) then (n,NameKind.cell) else (n,k)).lookup x=some .free):=by
  intro names
  induction names with
  | nil=>intro h; simp at h
  | cons y r ih=>
    obtain ⟨n,k⟩:=y
    intro h
    rw [List.map_cons]
    dsimp only
    by_cases hx:x=n
    ·subst hx
     have hk:k=.free:=by
      rw [List.lookup_cons] at h
      simp only [beq_self_eq_true] at h
      exact Option.some.inj h
     subst hk
     split
     ·left; simp [List.lookup_cons]
     ·right; simp [List.lookup_cons]
    ·have hb:(x == n)=false:=beq_eq_false_iff_ne.mpr hx
     rw [List.lookup_cons,hb] at h
     have q:=ih h
     split
     ·simpa only [List.lookup_cons,hb] using q
     ·simpa only [List.lookup_cons,hb] using q
 exact key scope.names h
section
variable {X:Cx} {pins:List (Addr×Obj)} {σ:St} {H:Hp} {s₂:Shared} {scope:Scope} {x:Str} {ys:List Str} {ix:List Nat} {cl:List (Str×Addr)} {fp:List Addr} {L:Addr}
theorem Ho (B:dv X scope x ys ix) (I:Inv X pins σ H s₂) (hf:∀ b∈fp,ng X pins H b) (xu:∀ b∈fp,b < s₂.heap.objs.size) (hL:s₂.heap.objs.size≤L)
 (ip:∀ y c,cl.lookup y=some c→X.env.cells.lookup y=some c) (sF:∀ y∈scope.names,y.2=.free→∃ c,cl.lookup y.1=some c):(b7 X scope (x :: ys) cl L s₂ H fp (X.pn++pins)).Ok where
 mod:=I.ok.mod
 kind:=B.kind
 glob:=I.ok.glob
 blt:=I.ok.blt
 above:=hL
 inj:=fun a b c h1 h2=>I.ok.inj a b c (ip a c h1) (ip b c h2)
 has:=fun a ha=>by
  obtain ⟨k,hm,hk⟩:=nr (env:=X.env) B.uX (x:=a) ha
  exact sF (a,k) hm hk
 IY:=fun _ _ h=>nomatch h
 hd:=I.ok.hd
 frames:=I.ok.frames
 JT:=.inl rfl
 MH:=fun b hb=>⟨Nat.ne_of_lt (Nat.lt_of_lt_of_le (xu b hb) hL),fun y c h=>(hf b hb).2.2.2.2.1 y c (ip y c h)⟩
 bs:=I.bs
 zL:=Nat.le_trans I.ok.zL I.sz
 uM:=fun b o e hb=>by
  rcases (hf b hb).2.2.2.1 with z | z
  ·exact I.ok.uM b o e z
  ·exact absurd (Nat.lt_of_lt_of_le (Nat.lt_of_lt_of_le (Heap.lt_size e) I.ok.zL) z) (Nat.lt_irrefl _)
 zM:=fun b hb hm=>by
  rcases List.mem_cons.mp (I.kJ b hm) with z | z
  ·exact (hf b hb).2.1 z
  ·exact (hf b hb).2.2.1 z
 lW:=I.stack
 Ee:=I.pT
theorem EV {h₁:Heap} {tk:Nat} {m₁:Str→Option Value} {l:Addr} {n₀:Nat} (B:dv X scope x ys ix) (I:Inv X pins σ H s₂) (hf:∀ b∈fp,ng X pins H b) (xu:∀ b∈fp,b < s₂.heap.objs.size) (hL:s₂.heap.objs.size≤L)
 (ip:∀ y c,cl.lookup y=some c→X.env.cells.lookup y=some c) (sF:∀ y∈scope.names,y.2=.free→∃ c,cl.lookup y.1=some c)
 (kp:∀ b o,s₂.heap.get? b=some o→h₁.get? b=some o) (BZ:h₁.Ns L m₁) (hl:l=s₂.heap.objs.size) (Sr:l≠L) (ho:h₁.get? l=some { cls:=.type "list",data:=.seq ([]:List Value).toArray n₀ }) :
 Inv (b7 X scope (x :: ys) cl L s₂ H fp (X.pn++pins)) [] (none :: pick σ ix) (upd H l (.lst [])) { s₂ with heap:=h₁,toks:=tk }:=by
 subst hl
 have fr:=I.bt.fresh (Nat.le_refl s₂.heap.objs.size)
 refine ⟨Ho B I hf xu hL ip sF,rfl,I.bare,Un.laid kp (Nat.le_refl _) fr,⟨m₁,BZ,fun i y v e1 e2 e3=>?_⟩,fun y c e=>?_,?_,fun y c e=>?_,fun p hp=>?_,I.bt.laid kp (Nat.le_refl _) ⟨Nat.zero_le _,[],n₀,.nil,ho⟩,?_⟩
 ·cases i with
  | zero=>simp at e2
  | succ j=>
    have Kq:ys[j]?=some y:=by simpa [b7] using e1
    obtain ⟨i,hi,hN,hk,eP⟩:=B.slots j y Kq
    have Hq:(σ[i]?).join=some v:=by
     have:(pick σ ix)[j]?=some (some v):=by simpa using e2
     unfold pick at this
     rw [List.getElem?_map,hi] at this
     exact Option.some.inj this
    have Kr:σ[i]?=some (some v):=by
     cases q:σ[i]? with
     | none=>rw [q] at Hq; cases Hq
     | some z=>rw [q] at Hq; rw [show z=some v from Hq]
    obtain ⟨m,hn,Hr⟩:=I.loc
    have MS:LR X.env.scope y:=.inr (hk.imp id id)
    obtain ⟨u,r,l⟩:=Hr i y v hN Kr MS
    refine ⟨u,r,.inr ⟨kS eP,?_⟩⟩
    rcases l with ⟨k,_⟩ | ⟨_,c,hc,lZ⟩
    ·have k':X.env.scope.names.lookup y=some .local:=k
     rcases hk with z | z
     ·rw [z] at k'; cases k'
     ·rw [z] at k'; cases k'
    ·obtain ⟨c',Cu⟩:=sF (y,.free) (PySem.mem_of_lookup eP) rfl
     have:=ip y c' Cu
     rw [hc] at this
     cases this
     obtain ⟨o,q,d⟩:=lZ
     exact ⟨c,Cu,o,kp c o q,d⟩
 ·obtain ⟨v,o,q,d⟩:=I.cell y c (ip y c e)
  exact ⟨v,o,kp c o q,d⟩
 ·show upd H s₂.heap.objs.size (.lst []) L=none
  rw [ai (Ne.symm Sr)]
  exact I.bt.fresh hL
 ·obtain ⟨v,o,q,d⟩:=I.cell y c (ip y c e)
  rw [ai (Nat.ne_of_lt (Heap.lt_size q))]
  exact I.jD y c (ip y c e)
 ·rw [List.append_nil] at hp
  obtain ⟨q,n,ne,nf,d⟩:=I.pin p hp
  have lt:=Heap.lt_size q
  refine ⟨kp _ _ q,by rw [ai (Nat.ne_of_lt lt)]; exact n,Nat.ne_of_lt (Nat.lt_of_lt_of_le lt hL),fun hm=>?_,d⟩
  rcases List.mem_cons.mp (I.kJ p.1 hm) with z | z
  ·exact ne z
  ·exact nf z
 ·show _=(x :: ys).length
  unfold pick
  rw [List.length_cons,List.length_map,B.len,List.length_cons]
theorem ud {px pos:Pos} {iter elt:Expr} {ifs:List Expr} {it:Addr} {tn:Nat→Heap→Prop} {J:It} {tt:TT} {te:TE} {Qd:Addr→Hp→Prop} {RR:Value→Addr→Result→Shared→Prop} {E:Value→Shared→Prop}
 (hc:X.calm=true) (B:dv X scope x ys ix) (I:Inv X pins σ H s₂) (T:Turn X.prog X.w X.K (.Name x px) J fp it tn) (Jd:tn 0 s₂.heap) (hf:∀ b∈fp,ng X pins H b)
 (ip:∀ y c,cl.lookup y=some c→X.env.cells.lookup y=some c) (sF:∀ y∈scope.names,y.2=.free→∃ c,cl.lookup y.1=some c)
 (ht:∀ L s H ex pn,Jc (b7 X scope (x :: ys) cl L s H ex pn) ifs tt) (he:∀ L s H ex pn,PE (b7 X scope (x :: ys) cl L s H ex pn) elt te)
 (hw:∀ l,H l=none→oW J l (pick σ ix) tt te H (Qd l))
 (Ss:∀ D L H' s' m,Inv X pins σ H' s'→s'.heap.Ns L m→H' L=none→L≠X.env.locals→X.s₀.heap.objs.size≤L→(∀ y c,X.env.cells.lookup y=some c→c≠L)→(∀ p∈X.pn++pins,p.1≠L)→Qd D H'→RR (.ref D) L (.ok .next) s') :
 wpAny (model X.prog X.w) X.A (newList []) (fun acc s₃=>wpAny (model X.prog X.w) X.A (newFunctionEnv scope X.env.globals cl [] X.env.qual none .none (some X.env)) (fun EW s₄=>
  codeAny (model X.prog X.w) X.A (.compStart (.ListComp elt [⟨.Name x px,iter,ifs,0⟩] scope pos) 0 (.ref it) acc { EW with scope:=relabel scope X.env }) (RR acc EW.locals) s₄) E s₃) E s₂:=by
 refine wpAny_newObj_type (wpAny_newFunctionEnv B.uX (by intro y hy; simp at hy) (fun h₁ Aa uY=>?_) B.kind)
 dsimp only at Aa uY ⊢
 generalize Ks:s₂.heap.push { cls:=.type "list",dict:=none,data:=.seq ([]:List Value).toArray }=H2 at Aa uY ⊢
 have hC:H2.objs.size=s₂.heap.objs.size + 1:=by rw [← Ks,Heap.size_push]
 have ND:s₂.heap.objs.size≠H2.objs.size:=by rw [hC]; exact Nat.ne_of_lt (Nat.lt_succ_self _)
 have mC:s₂.heap.objs.size≤H2.objs.size:=by rw [hC]; exact Nat.le_succ _
 have old:∀ b o,s₂.heap.get? b=some o→h₁.get? b=some o:=fun b o e=>uY.extBut b o (Nat.ne_of_lt (Nat.lt_of_lt_of_le (Heap.lt_size e) mC)) (Heap.get?_push_of_some _ (Ks ▸ Heap.get?_push_of_some _ e))
 have kE:h₁.get? s₂.heap.objs.size=some { cls:=.type "list",data:=.seq ([]:List Value).toArray }:=uY.extBut _ _ ND (Heap.get?_push_of_some _ (Ks ▸ Heap.get?_push_size _ rfl))
 have xu:∀ b∈fp,b < s₂.heap.objs.size:=fun b hb=>let ⟨o,e,_⟩:=T.obj 0 _ Jd b hb; Heap.lt_size e
 have Su:∀ b∈fp,∀ o,s₂.heap.get? b=some o→h₁.get? b=some o:=fun b _ o e=>old b o e
 have NF:tn 0 h₁:=T.keep 0 _ _ Jd Su
 obtain ⟨W,⟨m0,w0⟩,turn⟩:=hw s₂.heap.objs.size (I.bt.fresh (Nat.le_refl _))
 have loop:∀ s₃:Shared,s₃={ s₂ with heap:=h₁,toks:=s₂.toks + ([]:List (Str×Value)).length } →
  codeAny (model X.prog X.w) X.A (.compLoop (.ListComp elt [⟨.Name x px,iter,ifs,0⟩] scope pos) 0 (.ref it) (.ref s₂.heap.objs.size) (compEnvC scope cl H2.objs.size X.env))
   (RR (.ref s₂.heap.objs.size) H2.objs.size) s₃:=by
  rintro s₃ rfl
  have I0:=EV (tk:=s₂.toks + ([]:List (Str×Value)).length) (n₀:=0) (m₁:=_) (L:=H2.objs.size) B I hf xu mC ip sF old Aa rfl ND kE
  have hx:(relabel scope X.env).names.lookup x=some .local:=lookup_relabel_local B.var
  refine uc (env:=compEnvC scope cl H2.objs.size X.env)
   (fun n s'=>∃ i Ab v0 H',Inv (b7 X scope (x :: ys) cl H2.objs.size s₂ H fp (X.pn++pins)) [] (v0 :: pick σ ix) H' s'∧tn i s'.heap∧(∀ b∈fp,H' b=none)∧W i n Ab H') ?_ m0
   ⟨0,[],none,_,I0,NF,fun b hb=>by rw [ai (Nat.ne_of_lt (xu b hb))]; exact (hf b hb).1,w0⟩
  rintro n s3 ⟨i,Ab,v0,H3,I3,J3,J4,w3⟩
  obtain ⟨NI,alt⟩:=turn i n Ab H3 w3
  have stat:∀ {H':Hp},(∀ b∈fp,H' b=none)→∀ b∈fp,ng (b7 X scope (x :: ys) cl H2.objs.size s₂ H fp (X.pn++pins)) [] H' b:=fun hn b hb=>
   ⟨hn b hb,Nat.ne_of_lt (Nat.lt_of_lt_of_le (xu b hb) mC),fun hm=>by
     rcases List.mem_cons.mp (I.kJ b hm) with z | z
     ·exact (hf b hb).2.1 z
     ·exact (hf b hb).2.2.1 z,.inl hb,fun y c e=>(hf b hb).2.2.2.2.1 y c (ip y c e),fun p hp=>(hf b hb).2.2.2.2.2 p (by simpa [b7] using hp)⟩
  rcases alt with ⟨stop,qd⟩ | ⟨go,hsz,step⟩
  ·refine cg (T.done (b7 X scope (x :: ys) cl H2.objs.size s₂ H fp (X.pn++pins)) rfl rfl rfl hc i [] s3 _ H3 _ I3 (stat J4) J3 stop) fun r s4 ⟨hr,I4⟩=>?_
   subst hr
   obtain ⟨m,hn,_⟩:=I4.loc
   refine Ss s₂.heap.objs.size H2.objs.size H3 s4 m ?_ hn I4.free (Nat.ne_of_gt (Nat.lt_of_lt_of_le I.lt mC)) (Nat.le_trans I.sz mC) (fun y c e=>?_) (fun p hp=>?_) qd
   ·exact I.Ef I4.os I4.base I4.bt I4.bare fun b hb=>⟨(hf b hb).2.2.2.1,(hf b hb).2.1,(hf b hb).2.2.2.2.1,(hf b hb).2.2.2.2.2⟩
   ·obtain ⟨v,o,q,d⟩:=I.cell y c e
    exact Nat.ne_of_lt (Nat.lt_of_lt_of_le (Heap.lt_size q) mC)
   ·exact Nat.ne_of_lt (Nat.lt_of_lt_of_le (Heap.lt_size (I.pin p hp).1) mC)
  ·refine cg (T.item (b7 X scope (x :: ys) cl H2.objs.size s₂ H fp (X.pn++pins)) rfl rfl rfl hc i [] s3 _ H3 _ I3 (stat J4) J3 go) fun r s4 ⟨u,hr,h4⟩=>?_
   subst hr
   refine cg h4 fun _ s5 ⟨xv,H5,I5,r5,y5,El,MX⟩=>?_
   have MY:=I5.pinned (stat MX) (T.obj _ _ El)
   have hg:PG (b7 X scope (x :: ys) cl H2.objs.size s₂ H fp (X.pn++pins)) (.Name x px) (jh 0):=aG B.nd rfl (.inl hx) (.inr hx)
   refine wpAny_mono (hg _ s5 _ H5 xv u (fun σ' H'=>σ'=some xv :: pick σ ix∧H'=H5) MY r5 ⟨rfl,rfl⟩) (fun _ s6 ⟨σ6,H6,I6,e6,Sv⟩=>?_) fun _ _ z=>False.elim z
   subst e6 Sv
   refine wpAny_mono (ht _ _ _ _ _ _ s6 _ _ _ I6 (step xv _ y5)) (fun b s7 ⟨H7,I7,q7⟩=>?_) fun _ _ z=>False.elim z
   have again:∀ {σ8:St} {H8:Hp} {s8:Shared},Inv (b7 X scope (x :: ys) cl H2.objs.size s₂ H fp (X.pn++pins)) ([]++o6 fp s5.heap) σ8 H8 s8 →
    Inv (b7 X scope (x :: ys) cl H2.objs.size s₂ H fp (X.pn++pins)) [] σ8 H8 s8∧tn (i + 1) s8.heap∧∀ b∈fp,H8 b=none:=fun {σ8 H8 s8} I8=>by
    refine ⟨I8.kO,T.keep _ _ _ El fun b hb o e=>(I8.pin (b,o) (List.mem_append_right _ (List.mem_append_right _ (gU hb e)))).1,fun b hb=>?_⟩
    obtain ⟨o,e,d⟩:=T.obj _ _ El b hb
    exact (I8.pin (b,o) (List.mem_append_right _ (List.mem_append_right _ (gU hb e)))).2.1
   cases b with
   | false=>
     rw [if_neg Bool.false_ne_true] at q7 ⊢
     obtain ⟨m',hm,w7⟩:=q7
     obtain ⟨a1,a2,a3⟩:=again I7
     exact ⟨m',hm,i + 1,Ab,some xv,H7,a1,a2,a3,w7⟩
   | true=>
     rw [if_pos rfl] at q7 ⊢
     refine wpAny_mono (he _ _ _ _ _ _ s7 _ _ _ I7 q7) (fun uy s8 ⟨y,H8,I8,r8,LY,m',hm,w8⟩=>?_) fun _ _ z=>False.elim z
     refine wpAny_mono (gj (X:=b7 X scope (x :: ys) cl H2.objs.size s₂ H fp (X.pn++pins)) _ s8 _ H8 (.ref s₂.heap.objs.size) [y] (.ref s₂.heap.objs.size) [uy] (fun _ H9=>H9=upd H8 s₂.heap.objs.size (.lst (Ab++[y]))) I8 rfl (.cons r8 .nil) ⟨_,Ab,y,rfl,rfl,LY,hsz,rfl⟩)
      (fun _ s9 ⟨v9,H9,I9,_,e9⟩=>?_) fun _ _ z=>False.elim z
     subst e9
     obtain ⟨a1,a2,a3⟩:=again I9
     exact ⟨m',hm,i + 1,Ab++[y],some xv,_,a1,a2,a3,w8⟩
 exact codeAny_compStart_list (loop _ rfl) (T.self X.A 0 _ _ _ NF (loop _ rfl))
theorem eK {px pos:Pos} {iter elt:Expr} {ifs:List Expr} {wi:TI} {tt:TT} {te:TE} (hc:X.calm=true) (B:dv X scope x ys ix) (hi:PI X (.Name x px) iter wi)
 (ht:∀ cl L s H ex pn,Jc (b7 X scope (x :: ys) cl L s H ex pn) ifs tt) (he:∀ cl L s H ex pn,PE (b7 X scope (x :: ys) cl L s H ex pn) elt te)
 (hs:∀ v,foldedSetIterable iter X.env v=pure v:=by intro _; rfl):PE X (.ListComp elt [⟨.Name x px,iter,ifs,0⟩] scope pos) (NC wi ix tt te):=by
 intro pins s σ H Q I h
 obtain ⟨cl,qp,ip,sF⟩:=i7 (scope:=scope) (env:=X.env) (fun y hy E5=>I.ok.has y.1 (B.free y hy E5))
 rw [eval_ListComp]
 refine wpAny_comprehension_free (use:=none) rfl hs qp B.kind B.names (cg (hi pins s σ H _ I h) fun xv s1 h1=>cg h1 fun LV s2 h2=>?_)
 obtain ⟨it,fp,tn,J,H2,e,I2,T,GV,f2,hw⟩:=h2
 subst e
 refine ud (RR:=fun acc C=>compPost (model X.prog X.w) X.A X.xe none (EP X pins σ Q) acc C) (Qd:=fun l H'=>Q (.ref l) H') hc B I2 T GV f2 ip sF (ht cl) (he cl) hw ?_
 intro D L H' s' m I' hn eP h1 h2 h3 h4 q
 exact ⟨m,hn,fun h' zF=>⟨.ref D,H',I'.turned (it:=L) (t':=s'.toks) (fun b o hb e=>(zF.2 b hb).trans e) eP h1 (.inr h2) h3 h4,rfl,q⟩⟩
end
end L2
namespace L2
open PySem PySem.Spec PyProof.Rows
section
variable {X:Cx} {scope:Scope} {x:Str} {ys:List Str} {ix:List Nat}
theorem mD {i:Nat} {y:Str} {px py pos EX:Pos} {iter elt:Expr} {ifs:List Expr} {wi:TI} {tt:TT} {te:TE} (hc:X.calm=true) (B:dv X scope x ys ix) (hN:X.N.Nodup) (hy:X.N[i]?=some y) (zG:X.env.scope.names.lookup y=some .local) (hi:PI X (.Name x px) iter wi)
 (ht:∀ cl L s H ex pn,Jc (b7 X scope (x :: ys) cl L s H ex pn) ifs tt) (he:∀ cl L s H ex pn,PE (b7 X scope (x :: ys) cl L s H ex pn) elt te)
 (Sw:swapsWith (.ListComp elt [⟨.Name x px,iter,ifs,0⟩] scope pos) (some (.Name y py)) EX.line X.env=pure true:=by rfl)
 (hs:∀ v,foldedSetIterable iter X.env v=pure v:=by intro _; rfl):PS X (.Assign [.Name y py] (.ListComp elt [⟨.Name x px,iter,ifs,0⟩] scope pos) EX) (Kp wi ix tt te i):=by
 intro pins s σ H D I h
 obtain ⟨cl,qp,ip,sF⟩:=i7 (scope:=scope) (env:=X.env) (fun y hy E5=>I.ok.has y.1 (B.free y hy E5))
 rw [exec_Assign_Name_used _ _ _ _ Sw]
 refine wpAny_bind (wpAny_standAt (wpAny_bind ?_))
 show wpAny _ X.A (do let _ ← comprehension (.ListComp elt [⟨.Name x px,iter,ifs,0⟩] scope pos) scope X.env _ (newList []) false (eval iter X.env) (some (assign (.Name y py) X.env))) _ _ s
 refine wpAny_bind (wpAny_mono (wpAny_comprehension_free (use:=some (assign (.Name y py) X.env)) (Q:=fun _ s'=>SP X pins D .next s') rfl hs qp B.kind B.names
  (cg (hi pins s σ H _ I h) fun xv s1 h1=>cg h1 fun LV s2 h2=>?_)) (fun _ s' hq=>wpAny_pure (wpAny_pure hq)) fun _ _ e=>e)
 obtain ⟨it,fp,tn,J,H2,e,I2,T,GV,f2,hw⟩:=h2
 subst e
 refine ud (RR:=fun acc C=>compPost (model X.prog X.w) X.A X.xe (some (assign (.Name y py) X.env)) (fun _ s'=>SP X pins D .next s') acc C) (Qd:=fun l H'=>D.nx (σ.set i (some (.ref l))) H') hc B I2 T GV f2 ip sF (ht cl) (he cl) hw ?_
 intro D' L H' s' m I' hn eP h1 h2 h3 h4 q
 show wpAny _ X.A (assign (.Name y py) X.env (.ref D')) _ _ _
 refine wpAny_assign_Name (nZ I' hN hy (.inl zG) (v:=.ref D') rfl (fun CI Sy sb=>?_) (.inr zG))
 obtain ⟨a,Je,ha⟩:=sb
 have hL:L≠a:=by
  rcases ha with z | z
  ·rw [z]; exact h1
  ·exact (h3 y a z).symm
 refine ⟨m,hn.sameBut Je hL,fun h' zF=>⟨_,H',Sy.turned (it:=L) (t':=CI.toks) (fun b o hb e=>(zF.2 b hb).trans e) eP h1 (.inr h2) h3 h4,q⟩⟩
end
theorem jI {J:It} {Ok:Hp→Prop} {xs:List V} {l:Addr} {σf:St} {tt:TT} {te:TE} {H:Hp} {Q:Hp→Prop} (p:V→Bool) (g:V→V) (hJ:nq J Ok xs) (hl:H l=none) (hz:xs.length≤sizeLine) (om:∀ H',a6 H H'→Ok H')
 (ht:∀ x H3 Q',x∈xs→a6 H H3→(∀ H',a6 H3 H'→Q' (p x) H')→tt (some x :: σf) H3 Q')
 (he:∀ x H3 Q',x∈xs→p x=true→a6 H H3→(∀ H',a6 H3 H'→Q' (g x) H')→te (some x :: σf) H3 Q')
 (hd:∀ H',a6 H H'→H' l=some (.lst ((xs.filter p).map g))→Q H'):oW J l σf tt te H Q:=by
 refine ⟨fun i m ys H2=>m=xs.length - i∧i≤xs.length∧a6 H H2∧H2 l=some (.lst ys)∧ys=((xs.take i).filter p).map g,⟨xs.length,by simp,Nat.zero_le _,a6.upd hl,a9,by simp⟩,?_⟩
 rintro i m ys H2 ⟨rfl,hi,s2,h2,e2⟩
 refine ⟨h2,?_⟩
 by_cases eM:i < xs.length
 ·refine .inr ⟨hJ.go i H2 (om _ s2) eM,?_,fun x H3 y=>?_⟩
  ·rw [e2,List.length_map]
   refine Nat.lt_of_le_of_lt (List.length_filter_le _ _) ?_
   rw [List.length_take]
   omega
  ·obtain ⟨e,hx⟩:=hJ.xr i H2 x H3 (om _ s2) eM y
   subst e
   have mem:x∈xs:=List.mem_of_getElem? hx
   have tk:xs.take (i + 1)=xs.take i++[x]:=by rw [List.take_add_one,hx]; rfl
   refine ht x _ _ mem s2 fun H4 s4=>?_
   cases hp:p x with
   | false=>
     rw [if_neg Bool.false_ne_true]
     refine ⟨xs.length - (i + 1),by omega,rfl,eM,s2.trans s4,s4 _ _ h2,?_⟩
     rw [tk,List.filter_append,e2]
     simp [hp]
   | true=>
     rw [if_pos rfl]
     refine he x _ _ mem hp (s2.trans s4) fun H5 s5=>?_
     refine ⟨s5 _ _ (s4 _ _ h2),xs.length - (i + 1),by omega,rfl,eM,?_,a9,?_⟩
     ·intro b o e
      rw [ai (aj e hl)]
      exact s5 _ _ (s4 _ _ (s2 _ _ e))
     ·rw [tk,List.filter_append,e2]
      simp [hp]
 ·have e:i=xs.length:=by omega
  subst e
  refine .inl ⟨hJ.stop H2 (om _ s2),hd H2 s2 ?_⟩
  rw [h2,e2,List.take_length]
theorem oX {bs:List Bool}:∀ {us:List Value},Vals (bs.map V.bl) us→LSm.BoolsAre us bs:=by
 induction bs with
 | nil=>intro us r; rw [List.map_nil] at r; cases r; exact .nil
 | cons n ns ih=>
   intro us r
   rw [List.map_cons] at r
   cases r with
   | cons r1 r2=>
     cases r1
     exact .cons n (ih r2)
theorem Ac {ns:List Str}:∀ {us:List Value},Vals (ns.map V.str) us→StrsAre us ns:=by
 induction ns with
 | nil=>intro us r; rw [List.map_nil] at r; cases r; exact .nil
 | cons n ns ih=>
   intro us r
   rw [List.map_cons] at r
   cases r with
   | cons r1 r2=>
     obtain ⟨t,e⟩:=r1
     subst e
     exact .cons n t (ih r2)
theorem oq:∀ {vs:List Value} {ns:List Str},StrsAre vs ns→Vals (ns.map V.str) vs
 | _,_,.nil=>.nil
 | _,_,.cons n t h=>.cons ⟨t,rfl⟩ (oq h)
section
variable {X:Cx}
theorem xW (hc:X.calm=true):fK X (.builtin "any") (fun xs H Q=>∃ p bs,xs=[.ref p]∧aK X.K H p (List.map V.bl bs)∧Q (.bl (bs.any id)) H):=by
 intro pins s σ H xs us Q I r h
 obtain ⟨p,bs,rfl,hq,q⟩:=h
 obtain ⟨u,rfl,rx⟩:=vals1 r
 cases rx
 obtain ⟨its,rv,pl,hz⟩:=I.list hq
 have hb:=oX rv
 have hl:=pl.isList
 have hh:=I.ok.hd hc
 have eM:p < s.heap.objs.size:=by obtain ⟨_,e,_⟩:=hl; exact Heap.lt_size e
 refine call_any_walk (wpAny_pyIter_list hl ?_)
 refine ⟨s.heap.objs.size,[s.heap.objs.size,p],[s.heap.objs.size],its.toArray.size,_,_,fun i=>(bs[i]?).getD false,rfl,Walks.list (A:=X.A.in1) hh _ p (Nat.ne_of_lt eM) its.toArray,
  ⟨⟨_,Heap.get?_push_size _ rfl,rfl,rfl⟩,hl.push _⟩,fun i v s' Q' E' hP hQ=>?_,fun h' tk hk=>?_⟩
 ·obtain ⟨b,e,rfl⟩:=hb.get i v (by simpa using hP)
  simp only [e,Option.getD_some] at hQ
  exact wpAny_truthy_bool hQ
 ·have e:((List.range its.toArray.size).any fun i=>(bs[i]?).getD false)=bs.any id:=by
   rw [List.size_toArray,hb.length]; exact LSm.range_any bs
  rw [e]
  exact ⟨.bl _,H,I.kept (LSm.kept_iter hk),rfl,q⟩
theorem qt (hc:X.calm=true):fK X (.builtin "all") (fun xs H Q=>∃ p bs,xs=[.ref p]∧aK X.K H p (List.map V.bl bs)∧Q (.bl (bs.all id)) H):=by
 intro pins s σ H xs us Q I r h
 obtain ⟨p,bs,rfl,hq,q⟩:=h
 obtain ⟨u,rfl,rx⟩:=vals1 r
 cases rx
 obtain ⟨its,rv,pl,hz⟩:=I.list hq
 have hb:=oX rv
 have hl:=pl.isList
 have hh:=I.ok.hd hc
 have eM:p < s.heap.objs.size:=by obtain ⟨_,e,_⟩:=hl; exact Heap.lt_size e
 refine call_all_walk (wpAny_pyIter_list hl ?_)
 refine ⟨s.heap.objs.size,[s.heap.objs.size,p],[s.heap.objs.size],its.toArray.size,_,_,fun i=>(bs[i]?).getD true,rfl,Walks.list (A:=X.A.in1) hh _ p (Nat.ne_of_lt eM) its.toArray,
  ⟨⟨_,Heap.get?_push_size _ rfl,rfl,rfl⟩,hl.push _⟩,fun i v s' Q' E' hP hQ=>?_,fun h' tk hk=>?_⟩
 ·obtain ⟨b,e,rfl⟩:=hb.get i v (by simpa using hP)
  simp only [e,Option.getD_some] at hQ
  exact wpAny_truthy_bool hQ
 ·have e:((List.range its.toArray.size).all fun i=>(bs[i]?).getD true)=bs.all id:=by
   rw [List.size_toArray,hb.length]; exact LSm.range_all bs
  rw [e]
  exact ⟨.bl _,H,I.kept (LSm.kept_iter hk),rfl,q⟩
theorem xX {P:Program} {w:World} {ks:List Str} {kvs:List (Key×V)} {vs:List (Key×Value)} {us:List Value} (hk:kvs.map (·.1)=ks.map (Sum.inr:Str→Key)) (rel:KV kvs vs) (hl:us.length=vs.length)
 (hu:∀ (j:Nat) (u:Value),us[j]?=some u→∃ k x,vs[j]?=some (k,x)∧(bq P w).is k u=true):StrsAre us ks:=by
 have e:vs.map (·.1)=ks.map (Sum.inr:Str→Key):=rel.keys ▸ hk
 clear hk rel
 induction ks generalizing us vs with
 | nil=>
   have:vs=[]:=by cases vs with | nil=>rfl | cons a b=>simp at e
   subst this
   have:us=[]:=List.length_eq_zero_iff.mp hl
   subst this
   exact .nil
 | cons k ks ih=>
   cases vs with
   | nil=>simp at e
   | cons v vs=>
     cases us with
     | nil=>simp at hl
     | cons u us=>
       rw [List.map_cons,List.map_cons] at e
       injection e with e1 e2
       obtain ⟨k',x,h1,h2⟩:=hu 0 u rfl
       have CY:v=(k',x):=by simpa using h1
       subst CY
       have Kq:k'=(Sum.inr k:Key):=e1
       subst Kq
       obtain ⟨t,rfl⟩:=Value.isStrOf_shape (x:=k) (v:=u) h2
       exact .cons k t (ih (by simpa using hl) (fun j u' h=>hu (j + 1) u' (by simpa using h)) e2)
theorem uZ (hc:X.calm=true):fK X (.builtin "sorted") (fun xs H Q=>∃ d kvs ks,xs=[.ref d]∧H d=some (.dK kvs)∧kvs.map (·.1)=List.map (Sum.inr:Str→Key) ks∧ks.length < 64 ∧
 ∀ l ss,H l=none→ss.Perm ks→sortedS ss=true→Q (.ref l) (upd H l (.lst (ss.map V.str)))):=by
 intro pins s σ H xs us Q I r h
 obtain ⟨d,kvs,ks,rfl,hd,hk,Sz,q⟩:=h
 obtain ⟨u,rfl,rx⟩:=vals1 r
 cases rx
 obtain ⟨hz,lo,vs,rel,dd⟩:=u9 I.bt hd
 obtain ⟨ep,xx⟩:=dd.dictAt
 have hh:=I.ok.hd hc
 have Hr:kvs.length=ks.length:=by have:=congrArg List.length hk; simpa using this
 have hn:vs.length≤sizeLine:=by rw [← rel.length]; exact hz
 refine Calls.call_function_entry kind_sorted plain_sorted entry_sorted (args_sorted1 _) ?_
 unfold Builtin.«sorted»
 refine wpAny_bind (m:=checkCount "sorted" 1 1 _) (wpAny_pure ?_)
 refine wpAny_bind (PySem.W.kdu_collect (A:=X.A.in1) (PySem.W.kdl_dict (knd:=bq X.prog X.w) (kvs:=vs) (ep:=ep) lo) hh xx hn fun h' tk acc SA kE=>?_)
 have hl:acc.toList.length=vs.length:=by rw [Array.length_toList]; exact kE.1
 refine wpAny_bind (wpAny_newList ?_ (by rw [hl]; exact hn))
 have hS:StrsAre acc.toList ks:=xX (P:=X.prog) (w:=X.w) hk rel hl fun j u e=>kE.2 j u (by rw [← Array.getElem?_toList]; exact e)
 have GO:(h'.push (seqObj "list" acc.toList.toArray 0)).get? h'.objs.size=some (seqObj "list" acc.toList.toArray 0):=Heap.get?_push_size _ rfl
 have Kt:acc.toList.length < 64:=by rw [hl,← rel.length,Hr]; exact Sz
 refine wpAny_bind (wpAny_holding (wpAny_call_entry slot_list_sort ⟨_,GO,rfl⟩ entry_list_sort (list_sort_treeK strKind_oneLt GO hS.keysOf (fun v₁ v₂ rest e=>keyKind_strs (by rw [← e]; exact hS)) Kt fun zC a1 a2=>⟨_,rfl,?_⟩) (args_list_sort _)))
 obtain ⟨Hs,b1,b2,b3⟩:=sorted_out_str hS a1 a2
 have I1:Inv X pins σ H { s with heap:=h',toks:=tk }:=I.kept SA
 obtain ⟨e,he⟩:=sortedHeap_at (out:=(arrOf zC).map (·.2)) GO
 refine wpAny_pure ⟨_,rfl,⟨.ref h'.objs.size,upd H h'.objs.size (.lst (Hs.map V.str)),I1.laid (t':=tk) (fun b o q=>?_) (Nat.le_refl _) ⟨?_,_,e,oq b1,?_⟩,rfl,q _ Hs (I1.bt.fresh (Nat.le_refl _)) b2 b3⟩⟩
 ·have lt:b < h'.objs.size:=Heap.lt_size q
  rw [sortedHeap_old (Nat.ne_of_lt lt) (by rw [size_push']; exact Nat.lt_succ_of_lt lt)]
  exact Heap.get?_push_of_some _ q
 ·rw [List.length_map,b2.length_eq,← Hr]
  exact hz
 ·rw [Array.toArray_toList]
  exact he
theorem ue {P:Program} {w:World}:∀ {kvs:List (Key×V)} {vs:List (Key×Value)} {us:List Value},KV kvs vs→us.length=vs.length →
 (∀ (j:Nat) (u:Value),us[j]?=some u→∃ k x,vs[j]?=some (k,x)∧(bq P w).is k u=true)→Vals (kvs.map fun kv=>kV kv.1) us
 | _,_,us,.nil,hl,_=>by
   have:us=[]:=List.length_eq_zero_iff.mp hl
   subst this
   exact .nil
 | _,_,us,.cons (a:=p) (b:=q) r t,hl,hu=>by
   cases us with
   | nil=>simp at hl
   | cons u us=>
     obtain ⟨k',x,h1,h2⟩:=hu 0 u rfl
     have CY:q=(k',x):=by simpa using h1
     subst CY
     refine .cons ?_ (ue t (by simpa using hl) fun j u' h=>hu (j + 1) u' (by simpa using h))
     have e:p.1=k':=r.1
     show RelV (kV p.1) u
     rw [e]
     rcases bU h2 with ⟨i,t,rfl,rfl⟩ | ⟨y,t,rfl,rfl⟩
     ·exact ⟨t,rfl⟩
     ·exact ⟨t,rfl⟩
theorem Ad (hc:X.calm=true):fK X (.type "list") (fun xs H Q=>∃ d kvs,xs=[.ref d]∧H d=some (.dK kvs)∧∀ l,H l=none→Q (.ref l) (upd H l (.lst (kvs.map fun kv=>kV kv.1)))):=by
 intro pins s σ H xs us Q I r h
 obtain ⟨d,kvs,rfl,hd,q⟩:=h
 obtain ⟨u,rfl,rx⟩:=vals1 r
 cases rx
 obtain ⟨hz,lo,vs,rel,dd⟩:=u9 I.bt hd
 obtain ⟨ep,xx⟩:=dd.dictAt
 have hh:=I.ok.hd hc
 have hn:vs.length≤sizeLine:=by rw [← rel.length]; exact hz
 refine PySem.W.kdl_call (PySem.W.kdl_dict (knd:=bq X.prog X.w) (kvs:=vs) (ep:=ep) lo) hh xx hn fun h' tk acc c kp hD kE=>?_
 have hl:acc.toList.length=vs.length:=by rw [Array.length_toList]; exact kE.1
 refine ⟨.ref s.heap.objs.size,_,I.laid (t':=tk) kp (Nat.le_refl _) (show cf X.prog X.w _ h' _ (.lst (kvs.map fun kv=>kV kv.1)) from ⟨?_,acc.toList,c,ue (P:=X.prog) (w:=X.w) rel hl fun j u e=>kE.2 j u (by rw [← Array.getElem?_toList]; exact e),?_⟩),rfl,q _ (I.bt.fresh (Nat.le_refl _))⟩
 ·rw [List.length_map]; exact hz
 ·rw [Array.toArray_toList]; exact hD
noncomputable def xY (v d:Addr):HO:=.ext fun h=>h.IsValuesView v d
theorem CZ:K9 X "dict.values" (fun x xs H Q=>∃ d kvs,x=.ref d∧xs=[]∧H d=some (.dK kvs)∧∀ v,H v=none→Q (.ref v) (upd H v (xY v d))):=by
 intro pins s σ H x xs v us Q I rx rs h
 obtain ⟨d,kvs,rfl,rfl,hd,q⟩:=h
 cases rx
 have:=rs.zero
 subst this
 obtain ⟨hz,lo,vs,rel,dd⟩:=u9 I.bt hd
 refine call_meetsIn PySem.F.slot_dict_values dd.typeIs PySem.F.entry_dict_values (PySem.F.args_dict_values_1 _) (meets_dict_values (bq X.prog X.w) d lo) ⟨⟨vs,dd⟩,?_⟩
 refine ⟨.ref s.heap.objs.size,_,I.laid (t':=s.toks) (o:=xY s.heap.objs.size d) (fun b o e=>Heap.get?_push_of_some _ e) (Nat.le_refl _) ⟨⟨_,Heap.get?_push_size _ rfl,rfl,rfl⟩,⟨_,Heap.get?_push_size _ rfl⟩,fun h1 h2 ⟨o,e,r⟩ k=>⟨o,k o e,r⟩⟩,rfl,q _ (I.bt.fresh (Nat.le_refl _))⟩
theorem Ae (hc:X.calm=true):fK X (.type "list") (fun xs H Q=>∃ v d kvs,xs=[.ref v]∧H v=some (xY v d)∧H d=some (.dK kvs)∧∀ l,H l=none→Q (.ref l) (upd H l (.lst (kvs.map (·.2))))):=by
 intro pins s σ H xs us Q I r h
 obtain ⟨v,d,kvs,rfl,hv,hd,q⟩:=h
 obtain ⟨u,rfl,rx⟩:=vals1 r
 cases rx
 obtain ⟨hz,lo,vs,rel,dd⟩:=u9 I.bt hd
 obtain ⟨ep,xx⟩:=dd.dictAt
 obtain ⟨NK,_⟩:=(show cf X.prog X.w H s.heap v (xY v d) from I.bt v _ hv)
 have hh:=I.ok.hd hc
 have hn:vs.length≤sizeLine:=by rw [← rel.length]; exact hz
 refine PySem.W.kdl_call (PySem.W.kdl_values (knd:=bq X.prog X.w) (kvs:=vs) (ep:=ep)) hh ⟨NK,xx⟩ hn fun h' tk acc c kp hD kE=>?_
 have hl:acc.toList.length=vs.length:=by rw [Array.length_toList]; exact kE.1
 have e:acc.toList=vs.map (·.2):=PySem.W.kdl_vals_eq acc.toList hl fun j u e=>kE.2 j u (by rw [← Array.getElem?_toList]; exact e)
 have rv:∀ {kvs:List (Key×V)} {vs:List (Key×Value)},KV kvs vs→Vals (kvs.map (·.2)) (vs.map (·.2)):=fun {kvs vs} r=>by
  induction r with
  | nil=>exact .nil
  | cons r t ih=>exact .cons r.2 ih
 refine ⟨.ref s.heap.objs.size,_,I.laid (t':=tk) kp (Nat.le_refl _) (show cf X.prog X.w _ h' _ (.lst (kvs.map (·.2))) from ⟨?_,acc.toList,c,by rw [e]; exact rv rel,?_⟩),rfl,q _ (I.bt.fresh (Nat.le_refl _))⟩
 ·rw [List.length_map]; exact hz
 ·rw [Array.toArray_toList]; exact hD
noncomputable def ot:List V→List V→Bool
 | [],[]=>true
 | x :: xs,y :: ys=>qg x y && ot xs ys
 | _,_=>false
theorem xZ {xs ys:List V} (h:xs.length≠ys.length):ot xs ys=false:=by
 induction xs generalizing ys with
 | nil=>cases ys with
   | nil=>exact absurd rfl h
   | cons _ _=>rfl
 | cons x xs ih=>cases ys with
   | nil=>rfl
   | cons y ys=>
     show (qg x y && ot xs ys)=false
     rw [ih (by simpa using h),Bool.and_false]
theorem mE:∀ {xs ys:List V},xs.length=ys.length→ot xs ys=(List.range xs.length).all fun j=>qg (xs.getD j .non) (ys.getD j .non)
 | [],[],_=>rfl
 | [],_ :: _,h=>by simp at h
 | _ :: _,[],h=>by simp at h
 | x :: xs,y :: ys,h=>by
   show (qg x y && ot xs ys)=_
   rw [List.length_cons,List.range_succ_eq_map,List.all_cons,List.all_map,mE (by simpa using h)]
   rfl
noncomputable def SD (K:PySem.W.Frag):R2:=fun x y H Q=>∃ a b xs ys,x=.ref a∧y=.ref b∧aK K H a xs∧aK K H b ys∧xs.all cP=true∧ys.all cP=true∧Q (.bl (ot xs ys)) H
theorem EY (hu:X.A.units < cLine):n9 X (compareOp .Eq) (SD X.K):=by
 intro pins s σ H x y v u Q I rx ry h
 obtain ⟨a,b,xs,ys,rfl,rfl,ha,hb,fx,fy,q⟩:=h
 cases rx
 cases ry
 obtain ⟨its,r1,p1,_⟩:=I.list ha
 obtain ⟨jH,r2,p2,_⟩:=I.list hb
 have e1:=r1.length
 have e2:=r2.length
 by_cases hl:xs.length=ys.length
 ·refine SeqAt.eq_listAt (e:=fun j=>qg (xs.getD j .non) (ys.getD j .non)) p1.isList p2.isList (by simp only [List.size_toArray]; omega) hu (fun j h1 h2=>?_) ?_
  ·have CY:j < its.length:=by simpa using h1
   have LZ:j < jH.length:=by simpa using h2
   have hx:xs[j]?=some (xs.getD j .non):=by rw [List.getD_eq_getElem?_getD]; simp [show j < xs.length by omega]
   have hy:ys[j]?=some (ys.getD j .non):=by rw [List.getD_eq_getElem?_getD]; simp [show j < ys.length by omega]
   obtain ⟨u1,q1,w1⟩:=r1.get hx
   obtain ⟨u2,q2,w2⟩:=r2.get hy
   have g1:its.toArray[j]=u1:=by
    have:its[j]?=some its[j]:=by simp [CY]
    rw [this] at q1
    simpa using Option.some.inj q1
   have g2:jH.toArray[j]=u2:=by
    have:jH[j]?=some jH[j]:=by simp [LZ]
    rw [this] at q2
    simpa using Option.some.inj q2
   rw [g1,g2]
   exact qh w1 w2 (List.all_eq_true.mp fx _ (List.mem_of_getElem? hx)) (List.all_eq_true.mp fy _ (List.mem_of_getElem? hy))
  ·rw [mE hl] at q
   refine ⟨.bl _,H,I,rfl,?_⟩
   rw [List.size_toArray,← e1]
   exact q
 ·refine SeqAt.eq_list_lengthsAt p1.isList p2.isList (by simp only [List.size_toArray,bne_iff_ne]; omega) hu ⟨.bl false,H,I,rfl,?_⟩
  rw [xZ hl] at q
  exact q
theorem gk:fK X (.builtin "isinstance") (fun xs H Q=>∃ x T t b,xs=[x,.ty T]∧iT X.K H x t∧PySem.W.kitOne X.K t (.type T)=some b∧Q (.bl b) H):=by
 intro pins s σ H xs us Q I r h
 obtain ⟨x,T,t,b,rfl,ty,e,q⟩:=h
 obtain ⟨u,w',rfl,r1,r2⟩:=vals2 r
 cases r2
 exact CG I r1 ty e fun tk=>⟨.bl b,H,I.tok tk,rfl,q⟩
noncomputable def YG (z:Str) (lo hi:Option Int):Str:=Txt.slice z lo hi
theorem qu:S7 X (fun x lo hi H Q=>∃ z,x=.str z∧z.length≤sizeLine∧Q (.str (Txt.slice z lo hi)) H):=by
 intro pins s σ H x v vl vu lo hi sl Q I rx hs pl pu h
 obtain ⟨z,rfl,hz,q⟩:=h
 obtain ⟨t,rfl⟩:=rx
 refine ⟨"str",_,slot_str_getitem.lookup,typeIs_str s z t,?_⟩
 have fin:∀ t' k,EP X pins σ Q (.str (Txt.slice z lo hi) t') { s with toks:=k }:=fun t' k=>⟨.str _,H,I.tok k,⟨t',rfl⟩,q⟩
 obtain ⟨o,ho,hc,hd⟩:=hs
 cases pl with
 | none=>cases pu with
   | none=>exact wpAny_getItem_str_slice (l:=none) (u:=none) (st:=none) ⟨o,ho,hc,hd⟩ rfl (post_val_or_str ⟨Nat.le_trans (Txt.slice_le z _ _) hz,fin⟩)
   | int j uj=>exact wpAny_getItem_str_slice (l:=none) (u:=some (j,uj)) (st:=none) ⟨o,ho,hc,hd⟩ rfl (post_val_or_str ⟨Nat.le_trans (Txt.slice_le z _ _) hz,fin⟩)
 | int i ui=>cases pu with
   | none=>exact wpAny_getItem_str_slice (l:=some (i,ui)) (u:=none) (st:=none) ⟨o,ho,hc,hd⟩ rfl (post_val_or_str ⟨Nat.le_trans (Txt.slice_le z _ _) hz,fin⟩)
   | int j uj=>exact wpAny_getItem_str_slice (l:=some (i,ui)) (u:=some (j,uj)) (st:=none) ⟨o,ho,hc,hd⟩ rfl (post_val_or_str ⟨Nat.le_trans (Txt.slice_le z _ _) hz,fin⟩)
theorem C3:K9 X "str.join" (fun x xs H Q=>∃ z p ts,x=.str z∧xs=[.ref p]∧aK X.K H p (List.map V.str ts)∧(ts.map (·.length)).sum + ts.length * z.length≤16777216∧Q (.str (Txt.join z ts)) H):=by
 intro pins s σ H x xs v us Q I rx rs h
 obtain ⟨z,p,ts,rfl,rfl,hq,hz,q⟩:=h
 obtain ⟨t,rfl⟩:=rx
 obtain ⟨u,rfl,ru⟩:=rs.one
 cases ru
 obtain ⟨its,rv,pl,_⟩:=I.list hq
 exact join_list pl.isList (by simpa using Ac rv) hz fun t' k=>⟨.str _,H,I.tok k,⟨t',rfl⟩,q⟩
end
noncomputable def M0 (K:PySem.W.Frag) (a:Addr):It:=
 ⟨fun i H=>∃ xs x,aK K H a xs∧xs[i]?=some x,fun i H x H'=>∃ T xv,H T=none∧x=.ref T∧H'=upd H T (.tup [.int (i:Nat),xv])∧∀ xs,aK K H a xs→xs[i]?=some xv,fun i H=>∃ xs,aK K H a xs∧xs.length≤i⟩
theorem D0 {P:Program} {w:World} {K:PySem.W.Frag} {elts:List Expr} {k:Nat} {pos:Pos} (a e it:Addr) (VG:e≠it):Turn P w K (.Tuple elts k pos) (M0 K a) [e,it] e (fun i h=>(∃ old,IsEnum h e it (i:Nat) old)∧h.IsListIter it a i) where
 mem:=by simp
 obj:=fun i h st b hb=>by
  obtain ⟨⟨old,he⟩,o,ho,hc,hd⟩:=st
  rcases List.mem_cons.mp hb with rfl | hb
  ·exact ⟨_,he,fun v z=>by
    have z':Data.fields _=Data.cell v:=z
    cases z'⟩
  ·have e':b=it:=by simpa using hb
   subst e'
   exact ⟨o,ho,fun v z=>by rw [hd] at z; cases z⟩
 keep:=fun i h h' st k=>⟨st.1.imp fun old he=>k e (by simp) _ he,st.2.at fun o q=>k it (by simp) o q⟩
 item:=by
  intro X hP hw hK hc i pins s σ H E I hf st hg
  subst hP hw hK
  obtain ⟨xs,x,hq,hx⟩:=hg
  obtain ⟨its,rv,p,hz⟩:=I.list hq
  obtain ⟨u,hu,ru⟩:=rv.get hx
  obtain ⟨⟨old,he⟩,hit⟩:=st
  obtain ⟨f0,f1,f2,f3,f4,f5⟩:=hf e (by simp)
  obtain ⟨g0,g1,g2,g3,g4,g5⟩:=hf it (by simp)
  refine wpAny_pyNext_enum_item he hit p.isList (x:=u) (by simpa using hu) VG fun h' ho SE hT hsz hk=>?_
  refine ⟨_,rfl,wpAny_letOwnedTupleGo_enum ho fun Qw SF zF=>?_⟩
  have kp:∀ b o,b≠e→b≠it→s.heap.get? b=some o→Qw.get? b=some o:=fun b o h1 h2 q=>(zF.2 b h1).trans (hk b o h1 h2 q)
  have elt:e < s.heap.objs.size:=Heap.lt_size he
  have Ku:s.heap.objs.size≠e:=Nat.ne_of_gt elt
  have YH:Qw.get? s.heap.objs.size=some { cls:=.type "tuple",data:=.seq #[.int i s.toks,u] }:=(zF.2 _ Ku).trans hT
  have fr:=I.bt.fresh (Nat.le_refl s.heap.objs.size)
  have Qx:∀ b o,H b=some o→b≠e∧b≠it:=fun b o q=>⟨(fun z=>by rw [z,f0] at q; cases q),(fun z=>by rw [z,g0] at q; cases q)⟩
  have Km:kI X.prog X.w (upd H s.heap.objs.size (.tup [.int (i:Nat),x])) Qw:=by
   intro b o q
   by_cases hb:b=s.heap.objs.size
   ·subst hb
    rw [a9] at q
    cases q
    exact ⟨by show 2≤sizeLine; decide,[.int i s.toks,u],.cons ⟨_,rfl⟩ (.cons ru .nil),⟨_,YH,rfl,_,rfl⟩⟩
   ·rw [ai hb] at q
    refine (I.bt b o q).xC (fun c v hc r=>?_) (fun c r=>by rw [ai (aj r fr)]; exact r) fun c ys r=>by rw [ai (aj r fr)]; exact r
    rcases hc with z | z
    ·rw [z] at r ⊢
     exact kp b v (Qx b o q).1 (Qx b o q).2 r
    ·exact kp c v (Qx c _ z).1 (Qx c _ z).2 r
  have I1:Inv X pins σ (upd H s.heap.objs.size (.tup [.int (i:Nat),x])) { s with heap:=Qw,gens:=s.gens,drawn:=s.drawn,toks:=s.toks + 1 }:=by
   refine I.step (ch:=[e,it]) (fun b hb=>?_) (fun b o _ _ hc q _=>kp b o (fun z=>hc (by simp [z])) (fun z=>hc (by simp [z])) q) (fun b o _ _ hc q _=>⟨o.slots,kp b o (fun z=>hc (by simp [z])) (fun z=>hc (by simp [z])) q⟩)
    (fun b o _ q n=>by rw [ai (Nat.ne_of_lt (Heap.lt_size q))]; exact n) (fun b o hc q=>⟨o,kp b o (fun z=>hc (by simp [z])) (fun z=>hc (by simp [z])) q⟩)
    (fun b ys r=>by rw [ai (aj r fr)]; exact r) (fun b o u r=>by rw [ai (aj r fr)]; exact r) (fun b ps r=>⟨#[],by rw [ai (aj r fr),r]; simp⟩)
    (fun m ⟨o,es,ep,BL,r⟩=>⟨o,es,ep,kp _ o (Ne.symm f1) (Ne.symm g1) BL,r⟩) Km I.bare
   rcases List.mem_cons.mp hb with rfl | hb
   ·exact ⟨f3,f1,f4,f5⟩
   ·have e':b=it:=by simpa using hb
    subst e'
    exact ⟨g3,g1,g4,g5⟩
  refine ⟨.ref s.heap.objs.size,_,I1,rfl,⟨s.heap.objs.size,x,fr,rfl,rfl,fun ys hy=>by rw [I.xF hy hq]; exact hx⟩,⟨⟨u,by simpa using SF⟩,?_⟩,fun b hb=>?_⟩
  ·exact SE.at fun o q=>(zF.2 it (Ne.symm VG)).trans q
  ·have:b < s.heap.objs.size:=by
    rcases List.mem_cons.mp hb with rfl | hb
    ·exact elt
    ·have e':b=it:=by simpa using hb
     subst e'
     obtain ⟨o,q,_⟩:=hit
     exact Heap.lt_size q
   rw [ai (Nat.ne_of_lt this)]
   exact (hf b hb).1
 done:=by
   intro X hP hw hK hc i pins s σ H E I hf st hg
   subst hP hw hK
   obtain ⟨xs,hq,hx⟩:=hg
   obtain ⟨its,rv,p,hz⟩:=I.list hq
   have hl:=rv.length
   obtain ⟨⟨old,he⟩,hit⟩:=st
   obtain ⟨g0,g1,g2,g3,g4,g5⟩:=hf it (by simp)
   exact wpAny_pyNext_enum_end (I.ok.hd hc) he hit p.isList (Array.getElem?_eq_none (by simp; omega)) fun h' eb=>⟨rfl,I.turned (t':=s.toks) (fun b o hb e=>eb b o hb e) g0 g1 g3 g4 g5⟩
 self:=fun _ _ _ _ _ st h=>let ⟨⟨_,he⟩,_⟩:=st; wpAny_pyIter_enum he h
theorem pC:bootBuiltins "enumerate"=some (.type "enumerate"):=by decide +kernel
section
variable {X:Cx}
noncomputable def NM (K:PySem.W.Frag) (ta:TA):TI:=fun σ H R=>ta σ H fun vs H1=>∃ a xs,vs=[.ref a]∧aK K H1 a xs∧R (M0 K a) H1
theorem vc {elts:List Expr} {k:Nat} {K7:Pos} {l:Expr} {ta:TA} {p pos:Pos} (hg:Gl X "enumerate") (hm:X.mg "enumerate"=none) (ha:PA X [l] ta) (hs:starEach [l] X.env=[(false,eval l X.env)]:=by rfl) :
 PI X (.Tuple elts k K7) (.Call (.Name "enumerate" p) [l] [] pos) (NM X.K ta):=by
 intro pins s σ H R I h
 refine Call_ (o4 I hg hm pC (PyProof.Rows.callWith_type1 (cg (ha pos pins s σ H _ I h) fun us s1 ⟨vs,H1,I1,r1,q1⟩=>?_) hs rfl))
 obtain ⟨a,xs,e,hq,q⟩:=q1
 subst e
 obtain ⟨u,rfl,ru⟩:=vals1 r1
 cases ru
 obtain ⟨its,rv,pl,hz⟩:=I1.list hq
 refine call_enumerate_list pl.isList fun h' he hit hsz kp=>wpAny_pyIter_enum he ?_
 have I2:Inv X pins σ H1 { s1 with heap:=h' }:=I1.kept (t':=s1.toks) kp
 refine ⟨s1.heap.objs.size + 1,[s1.heap.objs.size + 1,s1.heap.objs.size],_,_,H1,rfl,I2,D0 a _ _ (Nat.ne_of_gt (Nat.lt_succ_self _)),⟨⟨_,he⟩,hit⟩,fun b hb=>?_,q⟩
 have E6:s1.heap.objs.size≤b:=by
  rcases List.mem_cons.mp hb with rfl | hb
  ·exact Nat.le_succ _
  ·have e':b=s1.heap.objs.size:=by simpa using hb
   subst e'
   exact Nat.le_refl _
 exact I1.Ek E6 (I1.bt.fresh E6)
end
theorem EZ {K:PySem.W.Frag} {a:Addr} {xs:List V} {g:TG} {tb:TS} {D:Ends} {σ:St} {H:Hp} (Pv:Nat→St→Hp→Prop) (h0:Pv 0 σ H) (hl:∀ i σ H,i≤xs.length→Pv i σ H→aK K H a xs)
 (hs:∀ i x σ H T,xs[i]?=some x→Pv i σ H→H T=none→g (.ref T) σ (upd H T (.tup [.int (i:Nat),x])) fun σ2 H2=>tb { D with nx:=Pv (i + 1),ct:=Pv (i + 1),bk:=D.nx } σ2 H2) (hd:∀ σ H,Pv xs.length σ H→D.nx σ H) :
 ∃ W:Nat→Nat→St→Hp→Prop,(∃ m,W 0 m σ H)∧∀ i m σ H,W i m σ H →
  ((M0 K a).stop i H∧D.nx σ H)∨((M0 K a).go i H∧∃ N:St→Hp→Prop,(∀ σ' H',N σ' H'→∃ m',m' < m∧W (i + 1) m' σ' H')∧∀ x H',(M0 K a).xr i H x H'→g x σ H' fun σ2 H2=>tb { D with nx:=N,ct:=N,bk:=D.nx } σ2 H2):=by
 refine ⟨fun i m σ H=>m=xs.length - i∧i≤xs.length∧Pv i σ H,⟨xs.length,by simp,Nat.zero_le _,h0⟩,?_⟩
 rintro i m σ H ⟨rfl,hi,p⟩
 have q:=hl i σ H hi p
 by_cases eM:i < xs.length
 ·refine .inr ⟨⟨xs,xs[i],q,by simp [eM]⟩,Pv (i + 1),fun σ' H' p'=>⟨xs.length - (i + 1),by omega,rfl,eM,p'⟩,fun x H' y=>?_⟩
  obtain ⟨T,xv,hT,e1,e2,y⟩:=y
  subst e1 e2
  exact hs i xv σ _ T (y xs q) p hT
 ·have e:i=xs.length:=by omega
  subst e
  exact .inl ⟨⟨xs,q,Nat.le_refl _⟩,hd σ H p⟩
end L2
namespace L2
open PySem PySem.Spec PyProof.Rows
noncomputable def oY (σ:List Str) (v:Str):List Str:=if σ.any (· == v)=true then σ else σ++[v]
noncomputable def d7 (val:Nat→Str) (i:Nat):List Str:=((List.range i).map val).foldl oY []
theorem jm (val:Nat→Str) (i:Nat):d7 val (i + 1)=oY (d7 val i) (val i):=by
 unfold d7; rw [List.range_succ,List.map_append,List.foldl_append]; rfl
theorem uf (val:Nat→Str):∀ i,(d7 val i).length≤i
 | 0=>Nat.le_refl _
 | i + 1=>by
   rw [jm]; unfold oY
   have ih:=uf val i
   split
   ·omega
   ·rw [List.length_append,List.length_singleton]; omega
theorem D1 (σ:List Str) (v k:Str):(oY σ v).any (· == k)=(σ.any (· == k) || decide (k=v)):=by
 unfold oY
 by_cases h:σ.any (· == v)=true
 ·rw [if_pos h]
  by_cases e:k=v
  ·subst e; rw [h]; simp
  ·simp [e]
 ·rw [if_neg h,List.any_append]
  by_cases e:k=v
  ·subst e; simp
  ·have hb:(v == k)=false:=by simpa [beq_iff_eq] using (fun h':v=k=>e h'.symm)
   simp [hb,e]
theorem vd (σ:List Str) (v:Str):(oY σ v).length=if σ.any (· == v) then σ.length else σ.length + 1:=by
 unfold oY; split <;> simp
theorem sub_str_set:isSubtype (.type "str") (.type "set")=pure false:=by rw [isSubtype_type]; kernel_rfl
theorem sub_str_frozenset:isSubtype (.type "str") (.type "frozenset")=pure false:=by rw [isSubtype_type]; kernel_rfl
theorem Jf (P:Program) (w:World) (x:Str) (t:Tok):(PySem.strKind P w).is x (.str x t)=true:=by simp [PySem.strKind,Value.isStrOf]
section
variable {prog:Program} {w:World} {A:Around} {R:Result→Shared→Prop} {I:Addr} {fp wr:List Addr} {G:Array GenState→Array GenState→Prop} {n:Nat} {P:Nat→Value→Prop} {St:Nat→Shared→Prop}
theorem y0 (W:WalksS prog w A.in1 I fp wr G n P St) (S:Addr) (Qy:S∉fp)
 (val:Nat→Str) (A7:∀ i v,P i v→∃ t,v=.str (val i) t) (hb:n + 1 < scanBound) :
 ∀ (k i:Nat) (s:Shared),n - i=k→i≤n→St i s →
  s.heap.SetOf (PySem.strKind prog w) S (fun k'=>(d7 val i).any (· == k')) (d7 val i).length →
  (∀ s',Moved (S :: wr) G s s'→s'.heap.SetOf (PySem.strKind prog w) S (fun k'=>(d7 val n).any (· == k')) (d7 val n).length→R (.ok (.ret .none)) s') →
  codeAny (model prog w) A (.builtin "set.update.loop" ⟨[.ref S,.ref I],[]⟩) R s:=by
 have VH:S∉wr:=fun h=>Qy (W.sub _ h)
 have jg:∀ b∈wr,b∈S :: wr:=fun b hb=>List.mem_cons_of_mem _ hb
 intro k
 induction k with
 | zero=>
   intro i s hk hi xG hS hR
   have NN:i=n:=by omega
   subst NN
   refine codeAny_builtin PyProof.Rows.F.entry_set_update_loop ?_
   rw [Around.under_plainId PyProof.Rows.F.plain_set_update_loop _]
   show wpAny _ A.in1 (pyNext (.ref I) >>= _) _ _ s
   refine wpAny_bind (W.done s _ _ xG fun s' hm=>?_)
   show wpAny _ A.in1 (ret Value.none) _ _ s'
   exact wpAny_pure (hR s' (hm.mono jg) (by
    obtain ⟨o,es,ep,t,ho,rest⟩:=hS
    exact ⟨o,es,ep,t,hm.heap S _ VH ho,rest⟩))
 | succ k ih=>
   intro i s hk hi xG hS hR
   have eM:i < n:=by omega
   refine codeAny_builtin PyProof.Rows.F.entry_set_update_loop ?_
   rw [Around.under_plainId PyProof.Rows.F.plain_set_update_loop _]
   show wpAny _ A.in1 (pyNext (.ref I) >>= _) _ _ s
   refine wpAny_bind (W.item i s _ _ eM xG fun v s' hP SG hm=>?_)
   obtain ⟨t,rfl⟩:=A7 i v hP
   have NP:s'.heap.SetOf (PySem.strKind prog w) S (fun k'=>(d7 val i).any (· == k')) (d7 val i).length:=by
    obtain ⟨o,es,ep,tb,ho,rest⟩:=hS
    exact ⟨o,es,ep,tb,hm.heap S _ VH ho,rest⟩
   show wpAny _ A.in1 (holding [Value.str (val i) t] (setAdd S (.str (val i) t)) >>= _) _ _ s'
   refine wpAny_bind (wpAny_holding ?_)
   unfold setAdd
   refine wpAny_holding ?_
   refine wpAny_bind ((PySem.strKind prog w).pyHash (k:=val i) (Jf _ _ _ _) ?_)
   have NQ:(d7 val i).length + 1 < scanBound:=by have:=uf val i; omega
   refine wpAny_setAddHashed_of (knd:=PySem.strKind prog w) (s:={ s' with toks:=s'.toks + 1 }) (Jf _ _ _ _) rfl NP NQ fun h' Je YJ=>?_
   have YK:h'.SetOf (PySem.strKind prog w) S (fun k'=>(d7 val (i + 1)).any (· == k')) (d7 val (i + 1)).length:=
    SetOf_congr YJ (fun k'=>by rw [jm,D1]) (by rw [jm,vd])
   refine wpAny_pure ⟨plainId_quiet PyProof.Rows.F.plain_set_update_loop _,ih (i + 1) _ (by omega) eM (W.frame _ s' _ _ SG (Nat.le_succ _) fun b hb o e=>?_) YK fun CI SH SJ=>?_⟩
   ·rw [Je.2 b (fun h:b=S=>Qy (by rw [← h]; exact hb))]; exact e
   ·refine hR CI (Moved.trans W.gtrans ((hm.mono jg).then_heap (Nat.le_succ _) fun b o hb e=>?_) SH) SJ
    rw [Je.2 b (fun h:b=S=>hb (by rw [h]; exact List.mem_cons_self))]; exact e
end
section
variable {prog:Program} {w:World} {A:Around} {E:Value→Shared→Prop} {s:Shared}
noncomputable def eR (x:Str) (i:Nat):Str:=⟨#[x.cps.getD i 0]⟩
set_option maxRecDepth 100000 in
set_option maxHeartbeats 3200000 in
theorem ve {x:Str} {tx:Tok} {Q:Value→Shared→Prop}
 (hh:A.handled=none) (hb:x.cps.size + 1 < scanBound)
 (h:∀ (h':Heap) (tk:Nat),h'.SetOf (PySem.strKind prog w) s.heap.objs.size (fun k'=>(d7 (eR x) x.cps.size).any (· == k')) (d7 (eR x) x.cps.size).length →
   (∀ b o,b < s.heap.objs.size→s.heap.get? b=some o→h'.get? b=some o)→Q (.ref s.heap.objs.size) { s with heap:=h',toks:=tk }) :
 wpAny (model prog w) A (call (.type "set") [.str x tx]) Q E s:=by
 obtain ⟨c,tl,YL⟩:=PySem.F.called_set.mro
 have VI:=PySem.F.called_set.made
 have jg:=PySem.F.called_set.sub
 refine wpAny_call (codeAny_of_tree ?_)
 show wpAny _ _ (callAny (.type "set") _) _ _ _
 refine wpAny_pure ⟨Code.quiet_builtin _ (by decide +kernel),codeAny_builtin PySem.F.entry_type_call ?_⟩
 rw [Around.under_plain (weight_type_call_type "set" [.str x tx] []) rfl]
 have h1:=PySem.F.called_set.notType
 have h2:=PySem.F.called_set.canCreate
 have NR:=PySem.F.typeCall_set_1 (.str x tx)
 repeat (any_goals (first | assumption | wp_step))
 refine codeAny_mono (code_set_new_1 (.str x tx) (E:=E) (Q₁:=fun obj s₁=>∃ led:Bool,obj=.ref s.heap.objs.size∧s₁={ s with heap:=s.heap.push { cls:=.type "set",dict:=none,data:=.set #[] 0 (.fresh 0 0 led) } }) fun led=>⟨led,rfl,rfl⟩) fun r s₁ hr=>?_
 cases r with
 | error e=>exact hr
 | ok fl=>
   cases fl with
   | ret obj=>
     obtain ⟨led,rfl,rfl⟩:=hr
     have hS:(s.heap.push { cls:=.type "set",dict:=none,data:=.set #[] 0 (.fresh 0 0 led) }).get? s.heap.objs.size=some { cls:=.type "set",dict:=none,data:=.set #[] 0 (.fresh 0 0 led) }:=Heap.get?_push_size _ rfl
     have hT:Shared.TypeIs { s with heap:=s.heap.push { cls:=.type "set",dict:=none,data:=.set #[] 0 (.fresh 0 0 led) } } (.ref s.heap.objs.size) "set":=⟨_,hS,rfl⟩
     have SK:=PySem.F.called_set.init.lookup
     have hbi:=PySem.F.called_set.init.bind (.ref s.heap.objs.size)
     repeat (any_goals (first | assumption | wp_step))
     refine codeAny_mono (codeAny_call_builtin (R:=wants (fun r s₂=>r=.none∧∃ h' tk,s₂={ s with heap:=h',toks:=tk } ∧
      h'.SetOf (PySem.strKind prog w) s.heap.objs.size (fun k'=>(d7 (eR x) x.cps.size).any (· == k')) (d7 (eR x) x.cps.size).length ∧
      (∀ b o,b < s.heap.objs.size→s.heap.get? b=some o→h'.get? b=some o)) E) PySem.F.called_set.init.plain PySem.F.entry_set_init (check_set_init_1 hT ?_)) fun r₂ s₂ SM=>?_
     ·have YM:=sub_str_set
      have YN:=sub_str_frozenset
      have kF:(Value.type "str" == Value.type "dict")=false:=by decide
      unfold Builtin.«set.__init__» noKeywords Builtin.Frozenset.updateFrom
      generalize YQ:pyIter=PI
      wp_walk
      subst YQ
      refine wpAny_pyIter_str fun o St hW xG=>?_
      refine wpAny_bind (wpAny_runValue ?_)
      have NS:A.in1.in1.in1.handled=none:=by simp [hh]
      have Qy:s.heap.objs.size∉[(s.heap.push { cls:=.type "set",dict:=none,data:=.set #[] 0 (.fresh 0 0 led) }).objs.size]:=by
       rw [Heap.size_push]; simp only [List.mem_cons,List.mem_singleton,List.not_mem_nil,or_false,not_or]
       exact Nat.ne_of_lt (Nat.lt_succ_self _)
      have A7:∀ (i:Nat) (v:Value),SignAt x i v→∃ t,v=.str (eR x i) t:=fun i v hv=>by
       obtain ⟨c,u,hc,e⟩:=hv
       refine ⟨u,?_⟩
       rw [e]
       unfold eR
       rw [Array.getD_eq_getD_getElem?,hc]
       rfl
      refine y0 ((hW _ NS).toS) s.heap.objs.size Qy (eR x) A7 hb (x.cps.size - 0) 0 _ (by omega) (Nat.zero_le _) xG ?YR ?hR
      case YR=>
       have Kv:((s.heap.push { cls:=.type "set",dict:=none,data:=.set #[] 0 (.fresh 0 0 led) }).push o).get? s.heap.objs.size
        =some { cls:=.type "set",dict:=none,data:=.set #[] 0 (.fresh 0 0 led) }:=Heap.get?_push_of_some _ hS
       exact SetOf_congr ((setObjOf_fresh (knd:=PySem.strKind prog w) led).setOf Kv (by unfold scanBound; omega)) (fun _=>rfl) rfl
      case hR=>
       intro s' hm NP
       obtain ⟨h',g',d',YS,S3⟩:=s'
       have eg:g'=s.gens:=hm.gens
       have ed:d'=s.drawn:=hm.drawn
       have eo:S3=s.os:=hm.os
       subst eg; subst ed; subst eo
       show wpAny _ _ _ _ _ _
       refine wpAny_pure ?_
       show wpAny _ _ (ret Value.none) _ _ _
       refine wpAny_pure ⟨rfl,h',YS,rfl,NP,fun b o' hb e=>?_⟩
       have Qz:b≠s.heap.objs.size:=Nat.ne_of_lt hb
       have SN:b≠(s.heap.push { cls:=.type "set",dict:=none,data:=.set #[] 0 (.fresh 0 0 led) }).objs.size:=by
        rw [Heap.size_push]; exact Nat.ne_of_lt (Nat.lt_succ_of_lt hb)
       exact hm.heap b o' (by simp only [List.mem_cons,List.mem_singleton,List.not_mem_nil,or_false,not_or]; exact ⟨Qz,SN⟩) (Heap.get?_push_of_some _ (Heap.get?_push_of_some _ e))
     ·cases r₂ with
      | error e=>exact SM
      | ok YT=>
        cases YT with
        | ret r=>
          obtain ⟨rfl,h',tk,rfl,NP,YV⟩:=SM
          repeat (any_goals (first | assumption | wp_step))
          exact h _ _ NP YV
        | _=>exact SM.elim
   | _=>exact hr.elim
end
section
variable {X:Cx}
noncomputable def Ht (P:Program) (w:World) (a:Addr) (n:Nat):HO:=.ext fun h=>∃ S,h.SetOf (PySem.strKind P w) a S n
theorem y1 (hc:X.calm=true):fK X (.type "set") (fun xs H Q=>∃ z,xs=[.str z]∧z.cps.size + 1 < scanBound∧∀ p,H p=none→Q (.ref p) (upd H p (Ht X.prog X.w p (d7 (eR z) z.cps.size).length))):=by
 intro pins s σ H xs us Q I r h
 obtain ⟨z,rfl,hz,q⟩:=h
 obtain ⟨u,rfl,t,rfl⟩:=vals1 r
 refine ve (I.ok.hd hc) hz fun h' tk hS kp=>?_
 have YW:∀ b o,s.heap.get? b=some o→h'.get? b=some o:=fun b o e=>kp b o (Heap.lt_size e) e
 refine ⟨.ref s.heap.objs.size,_,I.laid (t':=tk) (o:=Ht X.prog X.w s.heap.objs.size (d7 (eR z) z.cps.size).length) YW (Nat.le_refl _) ⟨⟨_,hS⟩,?_,?_⟩,rfl,q _ (I.bt.fresh (Nat.le_refl _))⟩
 ·obtain ⟨o,_,_,_,e,_⟩:=hS
  exact ⟨o,e⟩
 ·rintro h1 h2 ⟨S,o,es,ep,tb,e,rest⟩ k
  exact ⟨S,o,es,ep,tb,k o e,rest⟩
theorem y3:fK X (.builtin "len") (fun xs H Q=>∃ p n,xs=[.ref p]∧H p=some (Ht X.prog X.w p n)∧Q (.int n) H):=by
 intro pins s σ H xs us Q I r h
 obtain ⟨p,n,rfl,hp,q⟩:=h
 obtain ⟨u,rfl,rx⟩:=vals1 r
 cases rx
 obtain ⟨⟨S,o,es,ep,tb,e,hex,hd,_,_,Je,NT,hn⟩,_⟩:=(show cf X.prog X.w H s.heap p (Ht X.prog X.w p n) from I.bt p _ hp)
 refine call_len_set e hex hd NT (by unfold scanBound at Je; omega) ⟨.int n,H,I.tok _,⟨s.toks + 1,?_⟩,q⟩
 rw [hn]
end
end L2
namespace L2
open PySem PySem.Spec PyProof.Rows
section
variable {X:Cx} {pins:List (Addr×Obj)} {σ:St} {H:Hp} {s:Shared}
end
noncomputable def PS1 (X:Cx) (st:Stmt) (t:TS):Prop:=
 ∀ (pins:List (Addr×Obj)) (s:Shared) (σ:St) (H:Hp) (D:Ends),Inv X pins σ H s→1≤s.toks→t D σ H→wpAny (model X.prog X.w) X.A (exec st X.env) (SP X pins D) X.xe s
noncomputable def YX (X:Cx) (st:List Stmt) (t:TS):Prop:=
 ∀ (pins:List (Addr×Obj)) (s:Shared) (σ:St) (H:Hp) (D:Ends),Inv X pins σ H s→1≤s.toks→t D σ H→wpAny (model X.prog X.w) X.A (execs st X.env) (SP X pins D) X.xe s
section
variable {X:Cx} {st:Stmt} {rest:List Stmt} {t u:TS} {pos:Pos}
noncomputable def SQ (a b c:Nat) (z0:Str) (ti:TE):TS:=fun D σ H=>∃ jW found,σ[a]?=some (some (.str jW))∧σ[c]?=some (some (.str found))∧ti σ H fun y H1=>∃ i ch,y=.int i∧jW.length≤100∧found.length≤100∧pA jW.cps.toList i=some ch ∧
 D.nx (((σ.set b (some (.str ⟨#[ch]⟩))).set c (some (.str (found++⟨#[ch]⟩)))).set a (some (.str (Txt.replace jW ⟨#[ch]⟩ z0)))) H1
end
end L2
namespace Bs
open PySem PySem.Spec PyProof.Rows
noncomputable abbrev ch (x:Str):List Nat:=x.cps.toList
theorem aT (x:Str):(ch x).length=x.length:=by simp [ch,Str.length]
theorem eS {x y:Str} (h:ch x=ch y):x=y:=by
 obtain ⟨a⟩:=x
 obtain ⟨b⟩:=y
 have:a=b:=Array.toList_inj.mp h
 rw [this]
theorem aE (a b:Str):ch (a++b)=ch a++ch b:=by
 show (a++b).cps.toList=_
 rw [Str.cps_append,Array.toList_append]
theorem vf (c:Nat):ch ⟨#[c]⟩=[c]:=rfl
theorem jt {z:Str} (h:z.length=0):ch z=[]:=by
 have:=aT z
 rw [h] at this
 exact List.length_eq_zero_iff.mp this
theorem nv (x:Str) (l u:Option Int):Txt.slice x l u=StrLaws.sliceText x l u:=rfl
theorem qw (x:Str) (j:Nat):ch (Txt.slice x none (some (j:Int)))=(ch x).take j:=by
 by_cases h:j≤x.length
 ·rw [nv,StrLaws.sliceText_to ⟨by omega,by simp [Str.length] at h ⊢; omega⟩]
  simp
 ·have hn:Builtin.Str.strSliceIndices none (some (j:Int)) 1 x.length=Builtin.Str.strSliceIndices none (some ((x.length:Nat):Int)) 1 x.length:=by
   have e1:¬ ((j:Int) < 0):=by omega
   have e2:¬ (((x.length:Nat):Int) < 0):=by omega
   have e3:max (0:Int) (min (j:Int) (x.length:Int))=max 0 (min ((x.length:Nat):Int) (x.length:Int)):=by omega
   simp [Builtin.Str.strSliceIndices,e1,e2,e3]
  have e:Txt.slice x none (some (j:Int))=Txt.slice x none (some ((x.length:Nat):Int)):=by
   unfold Txt.slice
   rw [hn]
  rw [e,nv,StrLaws.sliceText_to ⟨by omega,by simp [Str.length]⟩]
  have e4:(ch x).length≤j:=by rw [aT]; omega
  rw [List.take_of_length_le e4]
  have e5:x.cps.toList.take x.cps.size=x.cps.toList:=List.take_of_length_le (by simp)
  simp [Str.length,e5]
theorem qx (x:Str) (i:Nat):ch (Txt.slice x (some (i:Int)) none)=(ch x).drop i:=by
 by_cases h:i≤x.length
 ·rw [nv,StrLaws.sliceText_from ⟨by omega,by simp [Str.length] at h ⊢; omega⟩]
  show ((x.cps.toList.drop (i:Int).toNat).take ((x.cps.toList.length:Int) - (i:Int)).toNat).toArray.toList=(ch x).drop i
  rw [List.toList_toArray,Int.toNat_natCast,List.take_of_length_le]
  rw [List.length_drop]
  omega
 ·have hn:Builtin.Str.strSliceIndices (some (i:Int)) none 1 x.length=Builtin.Str.strSliceIndices (some ((x.length:Nat):Int)) none 1 x.length:=by
   have e1:¬ ((i:Int) < 0):=by omega
   have e2:¬ (((x.length:Nat):Int) < 0):=by omega
   have e3:max (0:Int) (min (i:Int) (x.length:Int))=max 0 (min ((x.length:Nat):Int) (x.length:Int)):=by omega
   simp [Builtin.Str.strSliceIndices,e1,e2,e3]
  have e:Txt.slice x (some (i:Int)) none=Txt.slice x (some ((x.length:Nat):Int)) none:=by
   unfold Txt.slice
   rw [hn]
  rw [e,nv,StrLaws.sliceText_from ⟨by omega,by simp [Str.length]⟩]
  have e4:(ch x).length≤i:=by rw [aT]; omega
  rw [List.drop_of_length_le e4]
  simp [Str.length]
noncomputable def m6 (c:Nat) (l:List Nat):List Nat:=l.filter fun k=>decide (k≠c)
theorem mF (c:Nat) (l:List Nat) (h:c∉l):m6 c l=l:=by
 unfold m6
 refine List.filter_eq_self.mpr fun a ha=>decide_eq_true fun e=>h (e ▸ ha)
theorem qy (c:Nat) {z:Str} (hz:z.length=0):∀ parts:List Str,(∀ p∈parts,c∉ch p)→m6 c (ch (Str.join ⟨#[c]⟩ parts))=ch (Str.join z parts)
 | [],_=>rfl
 | [p],h=>mF c _ (h p (List.mem_singleton.mpr rfl))
 | p :: q :: r,h=>by
   have ih:=qy c hz (q :: r) fun a ha=>h a (List.mem_cons_of_mem _ ha)
   show m6 c (ch (p++⟨#[c]⟩++Str.join ⟨#[c]⟩ (q :: r)))=ch (p++z++Str.join z (q :: r))
   rw [aE,aE,aE,aE,← ih,jt hz,List.append_nil]
   unfold m6
   rw [List.filter_append,List.filter_append]
   have e1:=mF c _ (h p (List.mem_cons_self ..))
   unfold m6 at e1
   rw [e1]
   simp
theorem vg {z:Str} (hz:z.length=0) (x:Str) (c:Nat):ch (Txt.replace x ⟨#[c]⟩ z)=m6 c (ch x):=by
 rw [StrLaws.replace_one,← qy c hz _ (StrLaws.split_free x c),StrLaws.join_split]
theorem ou {z:Str} (hz:z.length=0):∀ ts:List Str,ch (Txt.join z ts)=(ts.map ch).flatten:=by
 intro ts
 unfold Txt.join Builtin.Str.glued
 have zc:z.cps=#[]:=by
  have:=jt hz
  exact Array.toList_inj.mp this
 have key:∀ (l:List Str) (acc:Array Nat),(l.foldl (fun acc p=>acc++z.cps++p.cps) acc).toList=acc.toList++(l.map ch).flatten:=by
  intro l
  induction l with
  | nil=>intro acc; simp
  | cons p l ih=>
    intro acc
    rw [List.foldl_cons,ih,zc]
    simp
 cases ts with
 | nil=>rfl
 | cons p l=>
   show ((List.drop 1 (p :: l)).foldl (fun acc q=>acc++z.cps++q.cps) p.cps).toList=_
   rw [List.drop_one,List.tail_cons,key]
   rfl
noncomputable def gm:Str:="abcdefghijklmnopqrstuvwxyz0123456789"
set_option genInjectivity false in
set_option genSizeOfSpec false in
structure jJ (x:Str):Prop where
 lo:2≤x.length
 hi:x.length≤4
 nd:(ch x).Nodup
 sub:∀ c∈ch x,c∈ch gm
set_option genInjectivity false in
set_option genSizeOfSpec false in
structure Drawn (i:Nat) (jW found:Str):Prop where
 pl:jW.length + i=36
 fl:found.length=i
 pn:(ch jW).Nodup
 fn:(ch found).Nodup
 ps:∀ c∈ch jW,c∈ch gm
 fs:∀ c∈ch found,c∈ch gm
 ap:∀ c∈ch found,c∉ch jW
theorem Af:(ch gm).Nodup:=by decide +kernel
theorem qz:gm.length=36:=by decide +kernel
theorem Drawn.zero {e:Str} (he:e.length=0):Drawn 0 gm e:=
 ⟨qz,he,Af,(by rw [jt he]; exact List.nodup_nil),(fun _ h=>h),(fun c h=>by rw [jt he] at h; exact absurd h (by simp)),(fun c h=>by rw [jt he] at h; exact absurd h (by simp))⟩
theorem ow {c:Nat}:∀ {l:List Nat},l.Nodup→c∈l→(m6 c l).length + 1=l.length:=by
 intro l
 induction l with
 | nil=>intro _ h; cases h
 | cons a r ih=>
   intro nd h
   obtain ⟨n1,n2⟩:=List.nodup_cons.mp nd
   unfold m6 at ih ⊢
   by_cases e:a=c
   ·subst e
    have:r.filter (fun k=>decide (k≠a))=r:=mF a r n1
    rw [List.filter_cons,if_neg (by simp),this]
    rfl
   ·have hc:c∈r:=(List.mem_cons.mp h).resolve_left (fun z=>e z.symm)
    rw [List.filter_cons,if_pos (by simp [e]),List.length_cons,List.length_cons,ih n2 hc]
theorem Drawn.step {i:Nat} {jW found z:Str} (d:Drawn i jW found) (hz:z.length=0) {c:Nat} (hc:c∈ch jW):Drawn (i + 1) (Txt.replace jW ⟨#[c]⟩ z) (found++⟨#[c]⟩):=by
 have e:=vg hz jW c
 have l1:=ow d.pn hc
 have l2:(Txt.replace jW ⟨#[c]⟩ z).length=(m6 c (ch jW)).length:=by rw [← aT,e]
 have l3:=aT jW
 refine ⟨by have:=d.pl; omega,?_,?_,?_,fun k hk=>?_,fun k hk=>?_,fun k hk=>?_⟩
 ·rw [← aT,aE,List.length_append,aT,d.fl]; rfl
 ·rw [e]; exact d.pn.filter _
 ·rw [aE]
  refine List.nodup_append.mpr ⟨d.fn,by simp [ch],fun a ha b hb=>?_⟩
  have:b=c:=by simpa [ch] using hb
  subst this
  rintro rfl
  exact d.ap a ha hc
 ·rw [e] at hk
  exact d.ps k (List.mem_filter.mp hk).1
 ·rw [aE] at hk
  rcases List.mem_append.mp hk with h | h
  ·exact d.fs k h
  ·have:k=c:=by simpa [ch] using h
   subst this
   exact d.ps k hc
 ·rw [e]
  intro hm
  obtain ⟨h1,h2⟩:=List.mem_filter.mp hm
  rw [aE] at hk
  rcases List.mem_append.mp hk with h | h
  ·exact d.ap k h h1
  ·have:k=c:=by simpa [ch] using h
   subst this
   simp at h2
theorem Drawn.signs {i:Nat} {jW found:Str} (d:Drawn i jW found) (h1:2≤i) (h2:i≤4):jJ found:=⟨by rw [d.fl]; exact h1,by rw [d.fl]; exact h2,d.fn,d.fs⟩
set_option genInjectivity false in
set_option genSizeOfSpec false in
structure iq (sg w:Str):Prop where
 lo:1≤w.length
 hi:w.length≤5
 sub:∀ c∈ch w,c∈ch sg
theorem D2 {sg z:Str} (hz:z.length=0) {ts:List Str} (h1:1≤ts.length) (h2:ts.length≤5) (h:∀ t∈ts,∃ c,t=⟨#[c]⟩∧c∈ch sg):iq sg (Txt.join z ts):=by
 have e:=ou hz ts
 have hl:∀ (l:List Str),(∀ t∈l,∃ c,t=⟨#[c]⟩∧c∈ch sg)→((l.map ch).flatten).length=l.length∧∀ c∈(l.map ch).flatten,c∈ch sg:=by
  intro l
  induction l with
  | nil=>intro _; exact ⟨rfl,fun c h=>by cases h⟩
  | cons t l ih=>
    intro ht
    obtain ⟨c,rfl,hc⟩:=ht t (List.mem_cons_self ..)
    obtain ⟨i1,i2⟩:=ih fun t h=>ht t (List.mem_cons_of_mem _ h)
    refine ⟨by rw [List.map_cons,List.flatten_cons,List.length_append,i1,List.length_cons]; exact Nat.add_comm 1 _,fun k hk=>?_⟩
    rw [List.map_cons,List.flatten_cons] at hk
    rcases List.mem_append.mp hk with h | h
    ·have:k=c:=by simpa [ch] using h
     subst this
     exact hc
    ·exact i2 k h
 obtain ⟨l1,l2⟩:=hl ts h
 have l3:(Txt.join z ts).length=ts.length:=by rw [← aT,e,l1]
 exact ⟨by omega,by omega,fun c hc=>l2 c (e ▸ hc)⟩
noncomputable def Kw (y x:Str):Bool:=!(Builtin.Str.occurrences x y 0 x.length 1).isEmpty
theorem Hu (x:Str) (c:Nat):Kw ⟨#[c]⟩ x=decide (c∈ch x):=StrLaws.found_one x c
noncomputable def bears (ws:List Str) (r:Str):Bool:=ws.any fun w=>Kw w r
noncomputable def gn (w:Str) (n:Nat):Str:=Txt.slice w none (some (n:Int))
theorem D3 (w:Str) (n:Nat):(gn w n).length≤w.length:=Txt.slice_le _ _ _
noncomputable def vh (ks:List Str) (b:Str):List Str:=if b∈ks then ks else ks++[b]
noncomputable def ox (ws:List Str) (ks:List Str) (b:Str):List Str:=if bears ws b=true then ks else vh ks b
theorem F0 (ws ks:List Str) (b:Str):(ox ws ks b).length≤ks.length + 1:=by
 unfold ox vh
 split
 ·omega
 ·split
  ·omega
  ·simp
noncomputable def upTo (ws:List Str) (w:Str) (ks:List Str) (n:Nat):List Str:=((List.range n).map fun i=>gn w (1 + i)).foldl (ox ws) ks
theorem gW (ws:List Str) (w:Str) (ks:List Str) (n:Nat):upTo ws w ks (n + 1)=ox ws (upTo ws w ks n) (gn w (1 + n)):=by
 unfold upTo
 rw [List.range_succ,List.map_append,List.foldl_append]
 rfl
theorem qA (ws:List Str) (w:Str) (ks:List Str):∀ n,(upTo ws w ks n).length≤ks.length + n
 | 0=>Nat.le_refl _
 | n + 1=>by
   rw [gW]
   have:=qA ws w ks n
   have:=F0 ws (upTo ws w ks n) (gn w (1 + n))
   omega
noncomputable def addW (ws:List Str) (ks:List Str) (w:Str):List Str:=upTo ws w ks (w.length - 1)
noncomputable def c4 (ws:List Str) (e:Str) (us:List Str):List Str:=us.foldl (addW ws) [e]
theorem Ag (ws:List Str) (e:Str) (us:List Str) (w:Str):c4 ws e (us++[w])=addW ws (c4 ws e us) w:=by
 unfold c4
 rw [List.foldl_append]
 rfl
theorem lI {ws:List Str} {e:Str} {us:List Str} (h:∀ w∈us,w.length≤5):(c4 ws e us).length≤1 + 4 * us.length:=by
 have key:∀ (us ks:List Str),(∀ w∈us,w.length≤5)→(us.foldl (addW ws) ks).length≤ks.length + 4 * us.length:=by
  intro us
  induction us with
  | nil=>intro ks _; exact Nat.le_refl _
  | cons w us ih=>
    intro ks h
    have h1:=ih (addW ws ks w) fun v hv=>h v (List.mem_cons_of_mem _ hv)
    have h2:=h w (List.mem_cons_self ..)
    have h3:=qA ws w ks (w.length - 1)
    rw [List.foldl_cons,List.length_cons]
    unfold addW at h1
    unfold addW
    omega
 exact key us [e] h
theorem Ah {ks:List Str} {b:Str} (h:ks.Nodup):(vh ks b).Nodup:=by
 unfold vh
 split
 ·exact h
 ·rename_i hb
  refine List.nodup_append.mpr ⟨h,by simp,fun a ha c hc=>?_⟩
  have:c=b:=by simpa using hc
  subst this
  rintro rfl
  exact hb ha
theorem Ai {ws ks:List Str} {b:Str} (h:ks.Nodup):(ox ws ks b).Nodup:=by
 unfold ox
 split
 ·exact h
 ·exact Ah h
theorem qC {ws:List Str} {w:Str} {ks:List Str} (h:ks.Nodup):∀ n,(upTo ws w ks n).Nodup
 | 0=>h
 | n + 1=>by rw [gW]; exact Ai (qC h n)
theorem oZ {ws:List Str} {e:Str} (us:List Str):(c4 ws e us).Nodup:=by
 have key:∀ (us ks:List Str),ks.Nodup→(us.foldl (addW ws) ks).Nodup:=by
  intro us
  induction us with
  | nil=>intro ks h; exact h
  | cons w us ih=>intro ks h; exact ih _ (qC h _)
 exact key us [e] (by simp)
theorem F1 {ws ks:List Str} {b k:Str} (h:k∈ks):k∈ox ws ks b:=by
 unfold ox vh
 split
 ·exact h
 ·split
  ·exact h
  ·exact List.mem_append_left _ h
theorem mem_upTo {ws:List Str} {w:Str} {ks:List Str} {k:Str} (h:k∈ks):∀ n,k∈upTo ws w ks n
 | 0=>h
 | n + 1=>by rw [gW]; exact F1 (mem_upTo h n)
theorem gp {ws:List Str} {e:Str} (us:List Str):e∈c4 ws e us:=by
 have key:∀ (us ks:List Str),e∈ks→e∈us.foldl (addW ws) ks:=by
  intro us
  induction us with
  | nil=>intro ks h; exact h
  | cons w us ih=>intro ks h; exact ih _ (mem_upTo h _)
 exact key us [e] (by simp)
noncomputable def Gw (a b:Str):Prop:=¬ (b.cps.toList < a.cps.toList)
theorem D4 {a b c:Str} (h1:Gw a b) (h2:Gw b c):Gw a c:=by
 unfold Gw at *
 rw [List.not_lt] at *
 exact List.le_trans h1 h2
theorem ko:∀ {l:List Str} {p:Str},risingS p l=true→(p :: l).Pairwise Gw
 | [],p,_=>List.pairwise_singleton _ _
 | x :: r,p,h=>by
   have h:(!ltCps x.cps.toList p.cps.toList && risingS x r)=true:=h
   rw [Bool.and_eq_true] at h
   have h1:Gw p x:=by
    have:=h.1
    rw [ltCps_eq] at this
    simpa [Gw] using this
   have ih:=ko h.2
   refine List.pairwise_cons.mpr ⟨fun a ha=>?_,ih⟩
   rcases List.mem_cons.mp ha with rfl | ha
   ·exact h1
   ·exact D4 h1 ((List.pairwise_cons.mp ih).1 a ha)
theorem kq {l:List Str} (h:sortedS l=true):l.Pairwise Gw:=by
 cases l with
 | nil=>exact .nil
 | cons x r=>exact ko h
end Bs
namespace L2
open PySem PySem.Spec PyProof.Rows
noncomputable def qD (sc scope:Scope) (N:List Str) (x:Str) (ys:List Str) (ix:List Nat):Bool:=
 (match scope.kind with | .function=>true | _=>false) &&
 (scope.names.all fun y=>!decide (y.2=.cell)) && (scope.names.all fun y=>!decide (y.2=.local) || decide (scope.names.lookup y.1=some .local)) &&
 (scope.names.all fun y=>!decide (y.2=.free) || decide (sc.names.lookup y.1=some .cell) || decide (sc.names.lookup y.1=some .free)) &&
 decide (scope.names.lookup x=some .local) && decide ((x :: ys).Nodup) && decide (ix.length=ys.length) &&
 ((List.range ys.length).all fun j=>match ys[j]?,ix[j]? with
   | some y,some i=>decide (N[i]?=some y) && (decide (sc.names.lookup y=some .cell) || decide (sc.names.lookup y=some .free)) && decide (scope.names.lookup y=some .free)
   | _,_=>false)
theorem ay {X:Cx} {sc scope:Scope} {N:List Str} {x:Str} {ys:List Str} {ix:List Nat} (QA:X.env.scope=sc) (hN:X.N=N) (h:qD sc scope N x ys ix=true):dv X scope x ys ix:=by
 unfold qD at h
 simp only [Bool.and_eq_true] at h
 obtain ⟨⟨⟨⟨⟨⟨⟨h1,h2⟩,h3⟩,h4⟩,h5⟩,h6⟩,h7⟩,h8⟩:=h
 refine ⟨?_,fun y hy=>?_,fun y hy e=>?_,of_decide_eq_true h5,fun y hy e=>?_,of_decide_eq_true h6,of_decide_eq_true h7,fun j y hj=>?_⟩
 ·cases e:scope.kind <;> rw [e] at h1 <;> first | rfl | cases h1
 ·have:=List.all_eq_true.mp h2 y hy
  simpa using this
 ·have:=List.all_eq_true.mp h3 y hy
  simpa [e] using this
 ·have:=List.all_eq_true.mp h4 y hy
  have q:sc.names.lookup y.1=some .cell∨sc.names.lookup y.1=some .free:=by simpa [e] using this
  show X.env.scope.names.lookup y.1=some .cell∨X.env.scope.names.lookup y.1=some .free
  rw [QA]
  exact q
 ·have hl:j < ys.length:=(List.getElem?_eq_some_iff.mp hj).1
  have:=List.all_eq_true.mp h8 j (List.mem_range.mpr hl)
  rw [hj] at this
  cases e:ix[j]? with
  | none=>rw [e] at this; cases this
  | some i=>
    rw [e] at this
    simp only [Bool.and_eq_true,Bool.or_eq_true,decide_eq_true_eq] at this
    exact ⟨i,rfl,by rw [hN]; exact this.1.1,by rw [QA]; exact this.1.2,this.2⟩
theorem comp_map {J:It} {Ok:Hp→Prop} {xs:List V} {l:Addr} {σf:St} {te:TE} {H:Hp} {Q:Hp→Prop} (g:V→V) (hJ:nq J Ok xs) (hl:H l=none) (hz:xs.length≤sizeLine) (om:∀ H',a6 H H'→Ok H')
 (he:∀ x H3 Q',x∈xs→a6 H H3→(∀ H',a6 H3 H'→Q' (g x) H')→te (some x :: σf) H3 Q')
 (hd:∀ H',a6 H H'→H' l=some (.lst (xs.map g))→Q H'):oW J l σf A9 te H Q:=
 jI (fun _=>true) g hJ hl hz om (fun x H3 Q' _ _ q=>q H3 (a6.refl _)) (fun x H3 Q' hx _ s q=>he x H3 Q' hx s q) (fun H' s h=>hd H' s (by rw [h,List.filter_eq_self.mpr (fun _ _=>rfl)]))
set_option genInjectivity false in
set_option genSizeOfSpec false in
structure FnAt (K:PySem.W.Frag) (mg:Str→Option Value) (nm:Str) (st:Stmt) (ps:List Str) (f:Addr) (fd:FuncData):Prop where
 F:EJ K nm nm st f fd
 b:Binds K fd ps []
 g:mg nm=some (.ref f)
theorem jX {X:Cx} {K:PySem.W.Frag} (hK:X.K=K):n9 X (compareOp .In) (Qr K false):=by
 subst hK
 exact CL
theorem sG {X:Cx} {K:PySem.W.Frag} (hK:X.K=K):n9 X (compareOp .NotIn) (Qr K true):=by
 subst hK
 exact iJ
theorem y4 {X:Cx} {K:PySem.W.Frag} (hK:X.K=K):Ni X (Ka K):=by
 subst hK
 exact b8
theorem Hv {X:Cx} {K:PySem.W.Frag} {o:Expr} {to:TE} {name:Str} {apos eN:Pos} {T id:String} {r:V→List V→Hp→VK→Prop} (hK:X.K=K) (pa:PlainAttrs T) (slot:Slot T name id) (Ke:typeOf (.builtin id)=pure (.type "method_descriptor")) (hm:K9 X id r) (ho:PE X o to)
 (qi:attributeBase o name X.env (eval o X.env)=eval o X.env:=by rfl) (hline:(apos.endLine == eN.line)=true:=by rfl):PE X (.Call (.Attribute o name apos) [] [] eN) (Nn K T r to):=by
 subst hK
 exact Kd pa slot Ke hm ho qi hline
theorem C4 {X:Cx} {K:PySem.W.Frag} {e:Expr} {f:Str} {pos:Pos} {ta:TE} (hK:X.K=K) (he:PE X e ta) (hb:attributeBase e f X.env (eval e X.env)=eval e X.env):PE X (.Attribute e f pos) (N7 K ta f):=by
 subst hK
 exact b4 he hb
theorem F2 {c A B:Prop} [Decidable c] (h:¬ c) (b:B):if c then A else B:=by
 rw [if_neg h]
 exact b
theorem SR {c A B:Prop} [Decidable c] (h:c) (a:A):if c then A else B:=by
 rw [if_pos h]
 exact a
theorem aD {n:Nat} (h:n≤1000000):n≤sizeLine:=Nat.le_trans h (by rw [sizeLine_eq]; decide)
theorem kU (y:Str) (ps:List Str):nY (.str y) (ps.map V.str)=decide (y∈ps):=by
 unfold nY
 rw [List.any_map]
 induction ps with
 | nil=>rfl
 | cons p ps ih=>
   rw [List.any_cons,ih]
   show ((p == y) || decide (y∈ps))=decide (y∈p :: ps)
   by_cases e:p=y
   ·subst e; simp
   ·have:(p == y)=false:=beq_eq_false_iff_ne.mpr e
    have e':¬ y=p:=fun z=>e z.symm
    rw [this,Bool.false_or]
    simp [e']
theorem gq (ps:List Str):(ps.map V.str).all cP=true:=by
 rw [List.all_map]
 exact List.all_eq_true.mpr fun _ _=>rfl
noncomputable def QB (r:Str):V→V:=fun v=>match v with
 | .str y=>.bl (Bs.Kw y r)
 | _=>.non
theorem F3 (r:Str) (ws:List Str):(ws.map V.str).map (QB r)=(ws.map fun w=>Bs.Kw w r).map V.bl:=by
 rw [List.map_map,List.map_map]
 rfl
theorem D5 (a b:Str):(fI a).map (QB b)=((Bs.ch a).map fun c=>decide (c∈Bs.ch b)).map V.bl:=by
 unfold fI
 rw [List.map_map,List.map_map]
 refine List.map_congr_left fun c _=>?_
 show V.bl (Bs.Kw ⟨#[c]⟩ b)=V.bl (decide (c∈Bs.ch b))
 rw [Bs.Hu]
noncomputable def kr (ks:List Str):List (Key×V):=ks.map fun k=>((Sum.inr k:Key),V.bl true)
theorem Aj (ks:List Str):(kr ks).map (·.1)=ks.map (Sum.inr:Str→Key):=by
 unfold kr
 rw [List.map_map]
 rfl
theorem D6 (ks:List Str) (b:Str):putK (kr ks) (Sum.inr b:Key) (.bl true)=kr (Bs.vh ks b):=by
 unfold putK Bs.vh
 by_cases h:b∈ks
 ·have h1:((kr ks).any fun kv=>decide (kv.1=(Sum.inr b:Key)))=true:=by
   refine List.any_eq_true.mpr ⟨(Sum.inr b,.bl true),?_,decide_eq_true rfl⟩
   exact List.mem_map.mpr ⟨b,h,rfl⟩
  rw [if_pos h1,if_pos h]
  unfold kr
  rw [List.map_map]
  refine List.map_congr_left fun k _=>?_
  show (if (Sum.inr k:Key)=Sum.inr b then ((Sum.inr k:Key),V.bl true) else ((Sum.inr k:Key),V.bl true))=_
  split <;> rfl
 ·have h1:¬ ((kr ks).any fun kv=>decide (kv.1=(Sum.inr b:Key)))=true:=by
   intro z
   obtain ⟨p,hp,e⟩:=List.any_eq_true.mp z
   obtain ⟨k,hk,rfl⟩:=List.mem_map.mp hp
   have:(Sum.inr k:Key)=Sum.inr b:=of_decide_eq_true e
   have:k=b:=Sum.inr.inj this
   subst this
   exact h hk
  rw [if_neg h1,if_neg h]
  unfold kr
  rw [List.map_append]
  rfl
theorem D7 (ks:List Str):(kr ks).length=ks.length:=by unfold kr; rw [List.length_map]
theorem nz {x:Str} (h:(Bs.ch x).Nodup):∀ i,i≤x.cps.size→d7 (eR x) i=(List.range i).map (eR x)
 | 0,_=>rfl
 | i + 1,hi=>by
   have ih:=nz h i (by omega)
   rw [jm,ih,List.range_succ,List.map_append]
   unfold oY
   rw [if_neg]
   ·rfl
   ·intro z
    obtain ⟨y,hy,e⟩:=List.any_eq_true.mp z
    obtain ⟨j,hj,rfl⟩:=List.mem_map.mp hy
    have YY:j < i:=List.mem_range.mp hj
    have e':eR x j=eR x i:=eq_of_beq e
    unfold eR at e'
    have e2:x.cps.getD j 0=x.cps.getD i 0:=by
     injection e' with e3
     have:=congrArg Array.toList e3
     simpa using this
    have g:∀ k,(hk:k < x.cps.size)→x.cps.getD k 0=(Bs.ch x)[k]'(by simpa using hk):=fun k hk=>by
     simp [Array.getD,hk]
    rw [g j (by omega),g i (by omega)] at e2
    have:=(List.getElem_inj h).mp e2
    omega
theorem y6 {x:Str} (h:(Bs.ch x).Nodup):(d7 (eR x) x.cps.size).length=x.length:=by
 rw [nz h _ (Nat.le_refl _),List.length_map,List.length_range]
 rfl
end L2
namespace L2
open PySem PySem.Spec PyProof.Rows
section
variable {X:Cx}
theorem vi (hc:X.calm=true):fK X (.type "list") (fun xs H Q=>∃ z,xs=[.str z]∧z.length≤sizeLine∧∀ l,H l=none→Q (.ref l) (upd H l (.lst (fI z)))):=by
 intro pins s σ H xs us Q I r h
 obtain ⟨z,rfl,hz,q⟩:=h
 obtain ⟨u,rfl,t,rfl⟩:=vals1 r
 refine call_list_str (I.ok.hd hc) z t (fun h' tk acc c kp hD kE=>?_) hz
 have rv:∀ (us:List Value) (cs:List Nat),us.length=cs.length→(∀ (j:Nat) (u:Value),us[j]?=some u→∃ c u',cs[j]?=some c∧u=.str ⟨#[c]⟩ u')→Vals (cs.map fun c=>V.str ⟨#[c]⟩) us:=by
  intro us
  induction us with
  | nil=>
    intro cs hl _
    have:cs=[]:=List.length_eq_zero_iff.mp hl.symm
    subst this
    exact .nil
  | cons u us ih=>
    intro cs hl h
    cases cs with
    | nil=>simp at hl
    | cons c cs=>
      obtain ⟨c',u',e1,e2⟩:=h 0 u rfl
      have Kq:c=c':=by simpa using e1
      subst Kq
      exact .cons ⟨u',e2⟩ (ih cs (by simpa using hl) fun j u h'=>h (j + 1) u (by simpa using h'))
 have hl:acc.toList.length=z.cps.toList.length:=by rw [Array.length_toList,Array.length_toList]; exact kE.1
 refine ⟨.ref s.heap.objs.size,_,I.laid (t':=tk) kp (Nat.le_refl _) (show cf X.prog X.w _ h' _ (.lst (fI z)) from ⟨?_,acc.toList,c,rv acc.toList z.cps.toList hl fun j u e=>?_,?_⟩),rfl,q _ (I.bt.fresh (Nat.le_refl _))⟩
 ·unfold fI
  rw [List.length_map,Array.length_toList]
  exact hz
 ·obtain ⟨c,u',h1,h2⟩:=kE.2 j u (by rw [← Array.getElem?_toList]; exact e)
  exact ⟨c,u',by rw [Array.getElem?_toList]; exact h1,h2⟩
 ·rw [Array.toArray_toList]
  exact hD
end
theorem y7 {κ:Type} (f:κ→V) (g:κ→Str) (hg:∀ a b,g a=g b→f a=f b):∀ {l:List κ} {c:κ},c∈l→bK (l.map fun c=>((Sum.inr (g c):Key),f c)) (Sum.inr (g c):Key)=some (f c)
 | [],_,h=>nomatch h
 | a :: l,c,h=>by
   rw [List.map_cons]
   by_cases e:g a=g c
   ·rw [cE (congrArg Sum.inr e)]
    exact congrArg some (hg a c e)
   ·rw [cF (fun z=>e (Sum.inr.inj z))]
    rcases List.mem_cons.mp h with z | z
    ·exact absurd (by rw [z]) e
    ·exact y7 f g hg z
end L2
namespace L2
open PySem
set_option genInjectivity false in
set_option genSizeOfSpec false in
structure qE (K:PySem.W.Frag) (C:Addr) (nm qual:Str) (st:Stmt) (ps:List Str) (f:Addr) (fd:FuncData):Prop where
 F:EJ K nm qual st f fd
 b:Binds K fd ps []
 m:Er K C nm f
end L2
namespace Sx
open PySem L2 Bs
theorem Kx:bootBuiltins "all"=some (.builtin "all"):=by decide +kernel
theorem NU:bootBuiltins "any"=some (.builtin "any"):=by decide +kernel
theorem C5:bootBuiltins "sorted"=some (.builtin "sorted"):=by decide +kernel
theorem D8:bootBuiltins "isinstance"=some (.builtin "isinstance"):=by decide +kernel
theorem Hy:bootBuiltins "str"=some (.type "str"):=by decide +kernel
theorem p0:bootBuiltins "list"=some (.type "list"):=by decide +kernel
theorem SU:bootBuiltins "set"=some (.type "set"):=by decide +kernel
section
variable {P:Program} {w:World} {K:PySem.W.Frag} {mg:Str→Option Value} {base:Heap} {f:Addr} {fd:FuncData}
noncomputable def Hz:Sp:=fun vs H Q _=>∃ a b:Str,vs=[.str a,.str b]∧a.length≤1000∧∀ H',a6 H H'→Q (.bl ((ch a).all fun c=>decide (c∈ch b))) H'
noncomputable def HA (K:PySem.W.Frag):Sp:=fun vs H Q _=>∃ (r:Str) (a:Addr) (ws:List Str),vs=[.str r,.ref a]∧aK K H a (ws.map V.str)∧ws.length≤1000∧∀ H',a6 H H'→Q (.bl (bears ws r)) H'
end
end Sx
namespace Sx
open PySem L2 Bs
section
variable {P:Program} {w:World} {K:PySem.W.Frag} {mg:Str→Option Value} {base:Heap} {f:Addr} {fd:FuncData}
noncomputable def NV:Sp:=fun vs H Q _=>∃ x:Str,vs=[.str x]∧jJ x∧∀ H',a6 H H'→Q (.bl true) H'
noncomputable def NW:Sp:=fun vs H Q _=>∃ t g:Str,vs=[.str t,.str g]∧iq g t∧∀ H',a6 H H'→Q (.bl true) H'
noncomputable def HB (K:PySem.W.Frag):Sp:=fun vs H Q _=>∃ (a:Addr) (g:Str) (ws:List Str),vs=[.ref a,.str g]∧aK K H a (ws.map V.str)∧ws.length≤6∧(∀ w∈ws,iq g w)∧∀ H',a6 H H'→Q .non H'
end
end Sx
namespace Bs
open PySem
noncomputable def ir (r:Str) (n:Nat):Str:=Txt.slice r (some (n:Int)) none
theorem oy (r:Str):ir r r.length="":=by
 refine eS ?_
 show ch (Txt.slice r (some (r.length:Int)) none)=[]
 rw [qx]
 exact List.drop_of_length_le (Nat.le_of_eq (aT r))
noncomputable def F4 (ps:List Str) (r:Str):Nat:=((List.range (r.length + 1)).find? fun n=>decide (ir r n∈ps)).getD 0
noncomputable def lend (ps:List Str) (r:Str):Str:=ir r (F4 ps r)
theorem y8 {ps:List Str} {r:Str} {n:Nat} (h1:ir r n∈ps) (h2:∀ m,m < n→ir r m∉ps) (h3:n≤r.length):F4 ps r=n:=by
 unfold F4
 have e:(List.range (r.length + 1)).find? (fun n=>decide (ir r n∈ps))=some n:=by
  rw [List.find?_range_eq_some]
  exact ⟨by simpa using h1,by simp; omega,fun j hj=>by simpa using h2 j hj⟩
 rw [e]
 rfl
end Bs
namespace L2
open PySem Bs
noncomputable def sH (ws ps:List Str) (p:Str) (c:Nat):V:=if bears ws (p++⟨#[c]⟩)=true then .non else .str (lend ps (p++⟨#[c]⟩))
noncomputable def rowOf (g:Str) (ws ps:List Str) (p:Str):List (Key×V):=(ch g).map fun c=>((Sum.inr (⟨#[c]⟩:Str):Key),sH ws ps p c)
theorem D9 (g:Str) (ws ps:List Str) (p:Str):(rowOf g ws ps p).length=g.length:=by unfold rowOf; rw [List.length_map,aT]
theorem Ak (g:Str) (ws ps:List Str) (p:Str):((rowOf g ws ps p).map (·.2)).all cP=true:=by
 unfold rowOf
 rw [List.map_map]
 refine List.all_eq_true.mpr fun v hv=>?_
 obtain ⟨c,_,rfl⟩:=List.mem_map.mp hv
 show cP (sH ws ps p c)=true
 unfold sH
 split <;> rfl
end L2
namespace Sx
open PySem L2 Bs
section
variable {P:Program} {w:World} {K:PySem.W.Frag} {mg:Str→Option Value} {base:Heap} {f:Addr} {fd:FuncData}
noncomputable def F5 (K:PySem.W.Frag):Sp:=fun vs H Q _=>∃ (a:Addr) (ws:List Str),vs=[.ref a]∧aK K H a (ws.map V.str)∧ws.length≤6∧(∀ w∈ws,w.length≤5) ∧
 ∀ (l:Addr) (ss:List Str) (H':Hp),a6 H H'→H l=none→H' l=some (.lst (ss.map V.str))→ss.Perm (c4 ws "" ws)→PyProof.Rows.sortedS ss=true→Q (.ref l) H'
noncomputable def Ky (K:PySem.W.Frag):Sp:=fun vs H Q _=>∃ (r:Str) (a:Addr) (ps:List Str),vs=[.str r,.ref a]∧aK K H a (ps.map V.str)∧("":Str)∈ps∧r.length≤1000∧∀ H',a6 H H'→Q (.str (lend ps r)) H'
noncomputable def HC (K:PySem.W.Frag):Sp:=fun vs H Q _=>∃ (p g:Str) (a b:Addr) (ws ps:List Str),vs=[.str p,.str g,.ref a,.ref b]∧aK K H a (ws.map V.str)∧aK K H b (ps.map V.str)∧("":Str)∈ps∧p.length≤100∧g.length≤10∧(ch g).Nodup∧ws.length≤1000 ∧
 ∀ (d:Addr) (H':Hp),a6 H H'→H d=none→H' d=some (.dK (rowOf g ws ps p))→Q (.ref d) H'
end
end Sx
namespace L2
open PySem Bs
noncomputable def kW (es:List (Key×V)) (y9:List Str):Bool:=(es.map (·.2)).any fun e=>nY e (y9.map V.str)
theorem F6 {e:V} {a b:List Str} (h:∀ k∈a,k∈b) (q:nY e (a.map V.str)=true):nY e (b.map V.str)=true:=by
 unfold nY at q ⊢
 obtain ⟨y,hy,e1⟩:=List.any_eq_true.mp q
 obtain ⟨k,hk,rfl⟩:=List.mem_map.mp hy
 exact List.any_eq_true.mpr ⟨_,List.mem_map.mpr ⟨k,h k hk,rfl⟩,e1⟩
theorem Al {es:List (Key×V)} {a b:List Str} (h:∀ k∈a,k∈b) (q:kW es a=true):kW es b=true:=by
 unfold kW at q ⊢
 obtain ⟨y,hy,e1⟩:=List.any_eq_true.mp q
 exact List.any_eq_true.mpr ⟨y,hy,F6 h e1⟩
set_option genInjectivity false in
set_option genSizeOfSpec false in
structure NX (ks:List Str) (es:Str→List (Key×V)) (ls:List Str):Prop where
 sub:ls.Sublist ks
 YZ:∀ k∈ls,kW (es k) ls=true
 most:∀ y9:List Str,(∀ k∈y9,k∈ks∧kW (es k) y9=true)→∀ k∈y9,k∈ls
theorem ug:∀ (a b:List Str),ot (a.map V.str) (b.map V.str)=decide (a=b)
 | [],[]=>rfl
 | [],_ :: _=>rfl
 | _ :: _,[]=>rfl
 | x :: xs,y :: ys=>by
   show ((x == y) && ot (xs.map V.str) (ys.map V.str))=_
   rw [ug xs ys]
   by_cases e:x=y
   ·subst e
    by_cases e2:xs=ys
    ·subst e2; simp
    ·simp [e2]
   ·have:(x == y)=false:=beq_eq_false_iff_ne.mpr e
    rw [this]
    simp [e]
noncomputable def aY (mv:List (Str×Addr)):List (Key×V):=mv.map fun m=>((Sum.inr m.1:Key),V.ref m.2)
theorem jY (mv:List (Str×Addr)):((aY mv).map fun kv=>kV kv.1)=(mv.map (·.1)).map V.str:=by
 unfold aY
 rw [List.map_map,List.map_map]
 rfl
theorem gr {mv:List (Str×Addr)} {k:Str} (h:k∈mv.map (·.1)):∃ a,(k,a)∈mv∧bK (aY mv) (Sum.inr k:Key)=some (.ref a):=by
 induction mv with
 | nil=>simp at h
 | cons m mv ih=>
   obtain ⟨j,b⟩:=m
   by_cases e:j=k
   ·subst e
    exact ⟨b,List.mem_cons_self,cE rfl⟩
   ·have h':k∈mv.map (·.1):=by
     rcases List.mem_cons.mp h with z | z
     ·exact absurd z.symm e
     ·exact z
    obtain ⟨a,ha,q⟩:=ih h'
    refine ⟨a,List.mem_cons_of_mem _ ha,?_⟩
    unfold aY
    rw [List.map_cons,cF (fun z=>e (Sum.inr.inj z))]
    exact q
theorem g6 {mv:List (Str×Addr)} {k:Str} (h:k∉mv.map (·.1)):bK (aY mv) (Sum.inr k:Key)=none:=by
 cases q:bK (aY mv) (Sum.inr k:Key) with
 | none=>rfl
 | some v=>
   have:=uW q
   unfold aY at this
   rw [List.map_map] at this
   obtain ⟨m,hm,e⟩:=List.mem_map.mp this
   have e':m.1=k:=Sum.inr.inj e
   exact absurd (List.mem_map.mpr ⟨m,hm,e'⟩) h
end L2
namespace Sx
open PySem L2 Bs
section
variable {P:Program} {w:World} {K:PySem.W.Frag} {mg:Str→Option Value} {base:Heap} {f:Addr} {fd:FuncData}
noncomputable def NY (ls:List V):V→V:=fun v=>.bl (nY v ls)
noncomputable def HD (K:PySem.W.Frag):Sp:=fun vs H Q _=>∃ (a b:Addr) (es ls:List V),vs=[.ref a,.ref b]∧aK K H a es∧aK K H b ls∧es.all cP=true∧ls.all cP=true∧es.length≤1000∧∀ H',a6 H H'→Q (.bl (es.any fun e=>nY e ls)) H'
noncomputable def Kz (K:PySem.W.Frag):Sp:=fun vs H Q _=>∃ (d:Addr) (mv:List (Str×Addr)) (es:Str→List (Key×V)),vs=[.ref d]∧H d=some (.dK (aY mv))∧mv.length≤1000∧(∀ m∈mv,H m.2=some (.dK (es m.1)))∧(∀ k,((es k).map (·.2)).all cP=true)∧(∀ k,(es k).length≤1000) ∧
 ∀ (l:Addr) (ls:List Str) (H':Hp),a6 H H'→H l=none→H' l=some (.lst (ls.map V.str))→NX (mv.map (·.1)) es ls→Q (.ref l) H'
end
end Sx
namespace Sx
open PySem L2 Bs
noncomputable def Dc (g:Str) (b d q:Addr):List (Str×V):=[("signs",.str g),("barred",.ref b),("moves",.ref d),("lasting",.ref q)]
noncomputable def QC (g:Str):List (Str×V):=[("signs",.str g)]
noncomputable def QD (g:Str) (b:Addr):List (Str×V):=[("signs",.str g),("barred",.ref b)]
noncomputable def KA (g:Str) (b d:Addr):List (Str×V):=[("signs",.str g),("barred",.ref b),("moves",.ref d)]
theorem KB (g:Str):gx "signs" (.str g) []=QC g:=rfl
theorem put2 (g:Str) (b:Addr):gx "barred" (.ref b) (QC g)=QD g b:=by
 show (if ("signs":Str)="barred" then (("signs":Str),V.ref b) :: [] else (("signs":Str),V.str g) :: gx "barred" (.ref b) [])=_
 rw [if_neg (by decide +kernel)]
 rfl
theorem put3 (g:Str) (b d:Addr):gx "moves" (.ref d) (QD g b)=KA g b d:=by
 show (if ("signs":Str)="moves" then (("signs":Str),V.ref d) :: [(("barred":Str),V.ref b)] else (("signs":Str),V.str g) :: (if ("barred":Str)="moves" then (("barred":Str),V.ref d) :: [] else (("barred":Str),V.ref b) :: gx "moves" (.ref d) []))=_
 rw [if_neg (by decide +kernel),if_neg (by decide +kernel)]
 rfl
theorem F7 (g:Str) (b d q:Addr):gx "lasting" (.ref q) (KA g b d)=Dc g b d q:=by
 show (if ("signs":Str)="lasting" then (("signs":Str),V.ref q) :: [(("barred":Str),V.ref b),(("moves":Str),V.ref d)] else (("signs":Str),V.str g) :: (if ("barred":Str)="lasting" then (("barred":Str),V.ref q) :: [(("moves":Str),V.ref d)] else (("barred":Str),V.ref b) :: (if ("moves":Str)="lasting" then (("moves":Str),V.ref q) :: [] else (("moves":Str),V.ref d) :: gx "lasting" (.ref q) [])))=_
 rw [if_neg (by decide +kernel),if_neg (by decide +kernel),if_neg (by decide +kernel)]
 rfl
theorem kX (g:Str) (b d:Addr):(KA g b d).lookup ("moves":Str)=some (.ref d):=by
 rw [← put3,aQ,if_pos rfl]
theorem qF (g:Str) (b d q:Addr):(Dc g b d q).lookup ("moves":Str)=some (.ref d):=by
 rw [← F7,aQ,if_neg (by decide +kernel)]
 exact kX g b d
set_option genInjectivity false in
set_option genSizeOfSpec false in
structure ax (C:Addr) (H:Hp) (x:Addr) (g:Str) (ws ss ls:List Str):Prop where
 ex:∃ (dx b d q:Addr) (mv:List (Str×Addr)),H x=some (.ins C dx (Dc g b d q))∧H b=some (.lst (ws.map V.str))∧H d=some (.dK (aY mv))∧mv.map (·.1)=ss∧(∀ m∈mv,H m.2=some (.dK (rowOf g ws ss m.1)))∧H q=some (.lst (ls.map V.str))
 pm:ss.Perm (c4 ws "" ws)
 so:PyProof.Rows.sortedS ss=true
 lv:NX ss (rowOf g ws ss) ls
theorem ax.same {C:Addr} {H H':Hp} {x:Addr} {g:Str} {ws ss ls:List Str} (B:ax C H x g ws ss ls) (s:a6 H H'):ax C H' x g ws ss ls:=by
 obtain ⟨⟨dx,b,d,q,mv,h1,h2,h3,h4,h5,h6⟩,p,o,l⟩:=B
 exact ⟨⟨dx,b,d,q,mv,s _ _ h1,s _ _ h2,s _ _ h3,h4,fun m hm=>s _ _ (h5 m hm),s _ _ h6⟩,p,o,l⟩
section
variable {P:Program} {w:World} {K:PySem.W.Frag} {mg:Str→Option Value} {base:Heap} {f:Addr} {fd:FuncData}
noncomputable def KC (K:PySem.W.Frag) (C:Addr):Sp:=fun vs H Q _=>∃ (x dx:Addr) (g:Str) (a:Addr) (ws:List Str),vs=[.ref x,.str g,.ref a]∧H x=some (.ins C dx [])∧aK K H a (ws.map V.str)∧jJ g∧ws.length≤6∧(∀ w∈ws,iq g w) ∧
 ∀ (ss ls:List Str) (H':Hp),ax C H' x g ws ss ls→(∀ b o,H b=some o→b≠x→H' b=some o)→Q .non H'
theorem Dd {ws:List Str} (hw:∀ w∈ws,w.length≤5):∀ k∈c4 ws "" ws,k.length≤5:=by
 have h1:∀ (w:Str),w.length≤5→∀ (n:Nat) (ks:List Str),(∀ k∈ks,k.length≤5)→∀ k∈upTo ws w ks n,k.length≤5:=by
  intro w nc n
  induction n with
  | zero=>intro ks h; exact h
  | succ n ih=>
    intro ks h k hk
    rw [gW] at hk
    unfold ox vh at hk
    split at hk
    ·exact ih ks h k hk
    ·split at hk
     ·exact ih ks h k hk
     ·rcases List.mem_append.mp hk with z | z
      ·exact ih ks h k z
      ·have:k=gn w (1 + n):=by simpa using z
       rw [this]
       exact Nat.le_trans (D3 _ _) nc
 have h2:∀ (us ks:List Str),(∀ w∈us,w.length≤5)→(∀ k∈ks,k.length≤5)→∀ k∈us.foldl (addW ws) ks,k.length≤5:=by
  intro us
  induction us with
  | nil=>intro ks _ h; exact h
  | cons w us ih=>intro ks hu h; exact ih _ (fun v hv=>hu v (List.mem_cons_of_mem _ hv)) (h1 w (hu w (List.mem_cons_self ..)) _ ks h)
 exact h2 ws [""] hw (fun k hk=>by have:k="":=by simpa using hk
                                   subst this
                                   decide +kernel)
noncomputable def NZ (C:Addr):Sp:=fun vs H Q _=>∃ (x:Addr) (g:Str) (ws ss ls:List Str),vs=[.ref x]∧ax C H x g ws ss ls∧∀ (l:Addr) (H':Hp),a6 H H'→H l=none→H' l=some (.lst (ss.map V.str))→Q (.ref l) H'
end
end Sx
namespace Sx
open PySem L2 Bs
section
variable {P:Program} {w:World} {K:PySem.W.Frag} {mg:Str→Option Value} {base:Heap} {f:Addr} {fd:FuncData}
noncomputable def O0 (ns:List Int) (p:Int):Int:=ns.getD p.toNat 0
noncomputable def SV (K:PySem.W.Frag):Sp:=fun vs H Q _=>∃ (a:Addr) (ns:List Int) (p:Int),vs=[.ref a,.int p]∧aK K H a (ns.map V.int)∧0≤p∧Q (.int (O0 ns p)) H
noncomputable def KD:Sp:=fun vs H Q _=>∃ c t m:Int,vs=[.int c,.int t,.int m]∧0≤t∧t≤100000∧0 < m∧∀ d,0≤d→d < m→Q (.int d) H
noncomputable def HE:Sp:=fun vs H Q _=>∃ c:Int,vs=[.int c]∧∀ (x:Str) (H':Hp),jJ x→a6 H H'→Q (.str x) H'
end
end Sx
namespace L2
open PySem PySem.Spec PyProof.Rows
theorem F8 {J:It} {Ok:Hp→Prop} {xs:List V} {l:Addr} {σf:St} {te:TE} {H:Hp} {Q:Hp→Prop} (R:V→Prop) (hJ:nq J Ok xs) (hl:H l=none) (hz:xs.length≤sizeLine) (om:∀ H',a6 H H'→Ok H')
 (he:∀ x H3 Q',x∈xs→a6 H H3→(∀ y H',R y→a6 H3 H'→Q' y H')→te (some x :: σf) H3 Q')
 (hd:∀ ys H',a6 H H'→ys.length=xs.length→(∀ y∈ys,R y)→H' l=some (.lst ys)→Q H'):oW J l σf A9 te H Q:=by
 refine ⟨fun i m ys H2=>m=xs.length - i∧i≤xs.length∧a6 H H2∧H2 l=some (.lst ys)∧ys.length=i∧∀ y∈ys,R y,⟨xs.length,by simp,Nat.zero_le _,a6.upd hl,a9,rfl,fun y hy=>(nomatch hy)⟩,?_⟩
 rintro i m ys H2 ⟨rfl,hi,s2,h2,e2,hR⟩
 refine ⟨h2,?_⟩
 by_cases eM:i < xs.length
 ·refine .inr ⟨hJ.go i H2 (om _ s2) eM,by omega,fun x H3 y=>?_⟩
  obtain ⟨e,hx⟩:=hJ.xr i H2 x H3 (om _ s2) eM y
  subst e
  unfold A9
  dsimp only
  rw [if_pos rfl]
  refine he x _ _ (List.mem_of_getElem? hx) s2 fun z H5 hz s5=>?_
  refine ⟨s5 _ _ h2,xs.length - (i + 1),by omega,rfl,eM,?_,a9,by simp [e2],fun y hy=>?_⟩
  ·intro b o e
   rw [ai (aj e hl)]
   exact s5 _ _ (s2 _ _ e)
  ·rcases List.mem_append.mp hy with q | q
   ·exact hR y q
   ·have:y=z:=by simpa using q
    subst this
    exact hz
 ·have e:i=xs.length:=by omega
  subst e
  exact .inl ⟨hJ.stop H2 (om _ s2),hd ys H2 s2 e2 hR h2⟩
theorem C6 {R:Str→Prop}:∀ {ys:List V},(∀ y∈ys,∃ t,y=.str t∧R t)→∃ ts:List Str,ys=ts.map V.str∧∀ t∈ts,R t
 | [],_=>⟨[],rfl,fun _ h=>nomatch h⟩
 | y :: ys,h=>by
   obtain ⟨t,rfl,ht⟩:=h y (List.mem_cons_self ..)
   obtain ⟨ts,rfl,M3⟩:=C6 (R:=R) (ys:=ys) fun y hy=>h y (List.mem_cons_of_mem _ hy)
   refine ⟨t :: ts,rfl,fun u hu=>?_⟩
   rcases List.mem_cons.mp hu with rfl | hu
   ·exact ht
   ·exact M3 u hu
end L2
namespace Sx
open PySem L2 Bs
section
variable {P:Program} {w:World} {K:PySem.W.Frag} {mg:Str→Option Value} {base:Heap} {f:Addr} {fd:FuncData}
noncomputable def SW:Sp:=fun vs H Q _=>∃ (c:Int) (g:Str),vs=[.int c,.str g]∧1≤g.length∧g.length≤10∧∀ (x:Str) (H':Hp),iq g x→a6 H H'→Q (.str x) H'
noncomputable def QE (K:PySem.W.Frag):Sp:=fun vs H Q _=>∃ (a:Addr) (ns:List Int) (p:Int) (g:Str) (m:Int),vs=[.ref a,.int p,.str g,.int m]∧aK K H a (ns.map V.int)∧0≤p∧0≤m∧m≤100∧1≤g.length∧g.length≤10 ∧
 ∀ (l:Addr) (ws:List Str) (H':Hp),a6 H H'→H l=none→H' l=some (.lst (ws.map V.str))→(ws.length:Int)≤m→(∀ w∈ws,iq g w)→Q (.ref l) H'
noncomputable def QF:Sp:=fun vs H Q _=>∃ (a b:Addr) (ss:List Str),vs=[.ref a,.ref b]∧H a=some (.lst (ss.map V.str))∧H b=some (.lst (ss.map V.str))∧ss.length≤1000∧Q (.bl true) H
end
end Sx
namespace L2
open PySem Bs
noncomputable def roundF (ss:List Str) (es:Str→List (Key×V)) (y9:List Str):List Str:=ss.filter fun p=>kW (es p) y9
noncomputable def rounds (ss:List Str) (es:Str→List (Key×V)):Nat→List Str
 | 0=>ss
 | n + 1=>roundF ss es (rounds ss es n)
theorem HF {g:Str} {ws ps:List Str} {p:Str} {c:Nat} (h:c∈ch g):bK (rowOf g ws ps p) (Sum.inr (⟨#[c]⟩:Str):Key)=some (sH ws ps p c):=
 y7 (sH ws ps p) (fun c=>(⟨#[c]⟩:Str)) (fun a b e=>by
  have:a=b:=by
   have:=congrArg ch e
   simpa [ch] using this
  rw [this]) h
end L2
namespace Sx
open PySem L2 Bs
theorem uh (g:Str) (b d q:Addr):(Dc g b d q).lookup ("lasting":Str)=some (.ref q):=by
 rw [← F7,aQ,if_pos rfl]
theorem M4 (g:Str) (b d q:Addr) {m:Str} (h1:¬ m="signs") (h2:¬ m="barred") (h3:¬ m="moves") (h4:¬ m="lasting"):(Dc g b d q).lookup m=none:=by
 rw [← F7,aQ,if_neg h4,← put3,aQ,if_neg h3,← put2,aQ,if_neg h2,← KB,aQ,if_neg h1]
 rfl
theorem ax.nd {C:Addr} {H:Hp} {x:Addr} {g:Str} {ws ss ls:List Str} (B:ax C H x g ws ss ls):ss.Nodup:=B.pm.nodup_iff.mpr (oZ ws)
section
variable {P:Program} {w:World} {K:PySem.W.Frag} {mg:Str→Option Value} {base:Heap} {f:Addr} {fd:FuncData}
noncomputable def HG (C:Addr):Sp:=fun vs H Q _=>∃ (x:Addr) (g:Str) (ws ss ls:List Str),vs=[.ref x]∧ax C H x g ws ss ls∧∀ (l:Addr) (H':Hp),a6 H H'→H l=none→H' l=some (.lst (ls.map V.str))→Q (.ref l) H'
noncomputable def SX (C:Addr):Sp:=fun vs H Q _=>∃ (x:Addr) (p:Str) (g:Str) (ws ss ls:List Str),vs=[.ref x,.str p]∧ax C H x g ws ss ls∧p∈ss∧Q .non H
noncomputable def O1 (C:Addr):Sp:=fun vs H Q _=>∃ (x:Addr) (p:Str) (c:Nat) (g:Str) (ws ss ls:List Str),vs=[.ref x,.str p,.str ⟨#[c]⟩]∧ax C H x g ws ss ls∧p∈ss∧c∈ch g∧Q (sH ws ss p c) H
noncomputable def Z0 (K:PySem.W.Frag) (C:Addr):Sp:=fun vs H Q _=>∃ (x lp:Addr) (g:Str) (ws ss ls:List Str),vs=[.ref x,.str g,.ref lp]∧ax C H x g ws ss ls∧aK K H lp (ss.map V.str)∧g.length≤10∧ss.length≤1000 ∧
 ∀ (l:Addr) (H':Hp),a6 H H'→H l=none→H' l=some (.lst (ls.map V.str))→Q (.ref l) H'
noncomputable def Z1 (ws ss:List Str) (p:Str) (y9:List Str):V→V:=fun v=>match v with
 | .str z=>.bl (nY (sH ws ss p (z.cps.getD 0 0)) (y9.map V.str))
 | _=>.non
end
end Sx
namespace Sx
open PySem L2 Bs
set_option genInjectivity false in
set_option genSizeOfSpec false in
structure Raw (K:PySem.W.Frag) (nm qual:Str) (st:Stmt) (f:Addr):Prop where
 ex:∃ (oc:Value) (od:Option Addr) (kV doc pm:Value) (an:Option Addr) (cR ct:Value) (zE:Array (Option Value)),
  K.lookup f=some ⟨oc,od,.func (PySem.W.fnOf nm qual (jk st) (i6 st) (aa st) .none kV doc pm an cR ct),zE⟩∧PySem.W.codeIn K cR qual=true
 kp:PySem.W.keepIn K (.ref f)=true
theorem aO {K:PySem.W.Frag} {nm qual:Str} {st:Stmt} {f:Addr} {oc:Value} {od an:Option Addr} {zE:Array (Option Value)} {kV doc pm cR ct:Value} (l:K.lookup f=some ⟨oc,od,.func (PySem.W.fnOf nm qual (jk st) (i6 st) (aa st) .none kV doc pm an cR ct),zE⟩)
 (c:PySem.W.codeIn K cR qual=true) (k:PySem.W.keepIn K (.ref f)=true):Raw K nm qual st f:=⟨⟨oc,od,kV,doc,pm,an,cR,ct,zE,l,c⟩,k⟩
theorem Raw.fn {K:PySem.W.Frag} {nm qual:Str} {st:Stmt} {f:Addr} {ps:List Str} (R:Raw K nm qual st f)
 (h:∀ (kV doc pm:Value) (an:Option Addr) (cR ct:Value) (us:List Value),us.length=ps.length→bindArgs (PySem.W.fnOf nm qual (jk st) (i6 st) (aa st) .none kV doc pm an cR ct) ⟨us,[]⟩=pure (ps.zip us)) :
 ∃ fd,EJ K nm qual st f fd∧Binds K fd ps []:=by
 obtain ⟨⟨oc,od,kV,doc,pm,an,cR,ct,zE,l,c⟩,k⟩:=R
 have F:=EK (st:=st) l c k
 exact ⟨_,F,F.binds h⟩
theorem Raw.at_ {K:PySem.W.Frag} {nm:Str} {st:Stmt} {f:Addr} {ps:List Str} {mg:Str→Option Value} {hp:Heap} (X:K.In hp) (G:hp.Ns mainGlobals mg) (a:PySem.W.nsIn K mainGlobals nm=some (some (.ref f))) (R:Raw K nm nm st f)
 (h:∀ (kV doc pm:Value) (an:Option Addr) (cR ct:Value) (us:List Value),us.length=ps.length→bindArgs (PySem.W.fnOf nm nm (jk st) (i6 st) (aa st) .none kV doc pm an cR ct) ⟨us,[]⟩=pure (ps.zip us)) :
 ∃ fd,FnAt K mg nm st ps f fd:=by
 obtain ⟨fd,F,b⟩:=R.fn h
 exact ⟨fd,F,b,PySem.W.mg_of X G a⟩
theorem jK {ss:List Str} {i:Nat} {y:V} (h:(ss.map V.str)[i]?=some y):∃ p,ss[i]?=some p∧y=.str p∧i < ss.length∧p∈ss∧ss.take (i + 1)=ss.take i++[p]:=by
 rw [List.getElem?_map] at h
 cases e:ss[i]? with
 | none=>rw [e] at h; cases h
 | some z=>
   rw [e] at h
   exact ⟨z,rfl,(Option.some.inj h).symm,(List.getElem?_eq_some_iff.mp e).1,List.mem_of_getElem? e,by rw [List.take_add_one,e]; rfl⟩
theorem De {g:Str} {i:Nat} {y:V} (h:(fI g)[i]?=some y):∃ c,(ch g)[i]?=some c∧y=.str ⟨#[c]⟩∧i < (ch g).length∧c∈ch g∧(ch g).take (i + 1)=(ch g).take i++[c]:=by
 unfold fI at h
 rw [List.getElem?_map] at h
 cases e:(ch g)[i]? with
 | none=>rw [show g.cps.toList[i]?=none from e] at h; cases h
 | some z=>
   rw [show g.cps.toList[i]?=some z from e] at h
   exact ⟨z,rfl,(Option.some.inj h).symm,(List.getElem?_eq_some_iff.mp e).1,List.mem_of_getElem? e,by rw [List.take_add_one,e]; rfl⟩
noncomputable def C7 (K:PySem.W.Frag):Sp:=fun vs H Q _=>∃ (a:Addr) (ns:List Int),vs=[.ref a]∧aK K H a (ns.map V.int)∧ns.length≤63∧∀ H',Q (.bl true) H'
end Sx
namespace L2
open PySem PySem.Spec PyProof.Rows
section
variable {X:Cx} {st:Stmt} {rest:List Stmt} {t u:TS}
noncomputable def SY (t u:TS):TS:=fun D σ H=>∃ Z:St→Hp→Prop,t { D with nx:=Z } σ H∧∀ σ' H',Z σ' H'→u D σ' H'
theorem vj (h1:PS X st t) (h2:xE X rest u):xE X (st :: rest) (SY t u):=by
 intro pins s σ H D I h
 obtain ⟨Z,hz,hu⟩:=h
 refine wpAny_execs_cons (cg (h1 pins s σ H { D with nx:=Z } I hz) fun f s1 q=>?_)
 cases f with
 | next=>
   obtain ⟨σ',H',I',q⟩:=q
   exact h2 pins s1 σ' H' D I' (hu σ' H' q)
 | ret v=>exact q
 | brk=>exact q
 | cont=>exact q
end
end L2
namespace Sx
open PySem L2 Bs
noncomputable def one (c:Nat):Str:=⟨#[c]⟩
theorem lJ {Hx:Hp} {x dx:Addr} {o1 o2:HO} (nx:Hx x=none) (Df:Hx dx=none):a6 Hx (upd (upd Hx dx o1) x o2):=fun b o e=>by rw [ai (aj e nx),ai (aj e Df)]; exact e
theorem ax.few {C:Addr} {H:Hp} {x:Addr} {g:Str} {ws ss ls:List Str} (B:ax C H x g ws ss ls) (hl:ws.length≤6) (hw:∀ w∈ws,iq g w):ss.length≤25:=by
 have:=lI (ws:=ws) (e:="") (us:=ws) fun w KG=>(hw w KG).hi
 rw [B.pm.length_eq]; omega
end Sx
namespace L2
open PySem PySem.Spec PyProof.Rows PySem.W
section
variable {prog:Program} {w:World} {A:Around} {R:Result→Shared→Prop} {h:Heap} {g:Array GenState} {d:Drawn} {t:Nat} {os:OsState}
variable {nm q:Str} {C N:Addr} {bs bm bmB:List Value} {hdct:Bool} {sn:List Str} {sub:List Value} {ab:Bool} {col:Option Bool} {dd:Option Addr} {k0 k1 k2 k3 k5:Option Value} {B newId SZ:String}
noncomputable abbrev ju (C t:Addr):Obj:={ cls:=.ref C,data:=.fields #[.ref t,.none,.none,.none,.bool false,.none] }
noncomputable abbrev oz (vs:List Value):Obj:={ cls:=.type "tuple",data:=.seq vs.toArray }
end
end L2
namespace L2
open PySem PySem.Spec PyProof.Rows PySem.W
open Builtin Builtin.ObjectAttr
noncomputable abbrev T1:List Value:=[.type "ValueError",.type "Exception",.type "BaseException",.type "object"]
noncomputable abbrev Am (CB:Addr):List Value:=.ref CB :: T1
section
variable {prog:Program} {w:World} {A:Around} {E:Value→Shared→Prop} {s:Shared} {K:PySem.W.Frag} {x dx C CB f:Addr} {mA:Str→Option Value} {name:Str} {v:Value} {R:Result→Shared→Prop}
end
end L2
namespace L2
open PySem PySem.Spec PyProof.Rows PySem.W
open Builtin Builtin.ObjectAttr
section
variable {prog:Program} {w:World} {A:Around} {E:Value→Shared→Prop} {s:Shared} {K:PySem.W.Frag} {x dx C CB f:Addr} {mA:Str→Option Value} {name:Str} {v:Value} {R:Result→Shared→Prop}
end
end L2
namespace L2
open PySem PySem.Spec PyProof.Rows PySem.W
open Builtin Builtin.ObjectAttr
section
variable {prog:Program} {w:World} {A:Around} {E:Value→Shared→Prop} {s:Shared} {K:PySem.W.Frag} {x dx C CB f:Addr} {mA:Str→Option Value} {name:Str} {v:Value} {R:Result→Shared→Prop} {nm q:Str} {N:Addr} {bs:List Value} {sn:List Str} {sub:List Value} {ab:Bool} {col:Option Bool} {dd:Option Addr} {k0 k1 k2 k3 k5:Option Value}
theorem An {t:Addr} {u:Value} (X:K.In s.heap) (hx:s.heap.get? x=some (ju C t)) (hk:K.lookup C=some (excClassObj nm q C N bs (Am CB) true sn sub ab col dd k0 k1 k2 k3 k5 "ValueError.__new__"))
 (h:∀ h' t',(∀ b o,b≠x→s.heap.get? b=some o→h'.get? b=some o)→h'.get? x=some (ju C t')→R (.ok (.ret .none)) { s with heap:=h' }) :
 codeAny (model prog w) A (.call (.builtin "ValueError.__init__") ⟨[.ref x,u],[]⟩) R s:=by
 have F:=PySem.F.excBase_ValueError
 have hC:=X _ _ hk
 have J:InstAt s.heap x (ju C t) C none:=⟨hx,rfl,rfl,trivial⟩
 have sub:Looks (model prog w) s.heap (isInstance (.ref x) (.type "ValueError")) true:=J.type.andThen (looks_mroIn X (by unfold mroIn clsIn; rw [hk]; rfl))
 refine codeAny_call_builtin F.init.plain F.initEntry ?_
 simp only [checkBuiltinCall,F.initKind,F.initSplit,F.initRow]
 refine wpAny_bind (sub.here ?_)
 simp only [Bool.not_true,Bool.false_eq_true,if_false]
 have T2:=F.noStar
 obtain ⟨hh,g,d,tk,os⟩:=s
 repeat (first | with_reducible refine wpAny_loadPart_at hC ?_ | wp_step)
 have hxs:x≠hh.objs.size:=Nat.ne_of_lt (Heap.lt_size hx)
 refine h _ hh.objs.size (fun b o hb e=>?_) ?_
 ·rw [Heap.get?_update_other _ _ (Ne.symm hb)]
  exact Heap.get?_push_of_some _ e
 ·exact Heap.get?_update_self _ (Heap.get?_push_of_some _ hx) rfl
end
end L2
namespace L2
open PySem PySem.Spec PyProof.Rows
set_option genInjectivity false in
set_option genSizeOfSpec false in
structure Jg (lo:Nat) (H:Hp) (h:Heap) (e C:Addr) (od:Option Addr):Prop where
 ge:lo≤e
 nt:H e=none
 ob:∃ vs sl,h.get? e=some ⟨.ref C,od,.fields vs,sl⟩∧1 < vs.size ∧
  (vs[1]?=some .none∨∃ T oT ts,vs[1]?=some (.ref T)∧lo≤T∧H T=none∧T≠e∧h.get? T=some oT∧oT.data=.fields ts∧ts[3]?=some .none)
theorem Jg.low {lo VJ:Nat} {H:Hp} {h:Heap} {e C:Addr} {od:Option Addr} (F:Jg lo H h e C od) (hl:VJ≤lo):Jg VJ H h e C od:=by
 obtain ⟨g,n,vs,sl,h1,h2,h3⟩:=F
 refine ⟨Nat.le_trans hl g,n,vs,sl,h1,h2,?_⟩
 rcases h3 with h3 | ⟨T,oT,ts,a,b,c,d⟩
 ·exact .inl h3
 ·exact .inr ⟨T,oT,ts,a,Nat.le_trans hl b,c,d⟩
section
variable {M:Model} {A:Around} {E:Value→Shared→Prop} {s:Shared} {base:Heap} {env:Env} {outer:List Env} {L e C:Addr} {od:Option Addr} {lo:Nat} {H:Hp}
set_option genInjectivity false in
set_option genSizeOfSpec false in
structure KH (lo:Nat) (H:Hp) (fs:List Addr) (h h':Heap):Prop where
 keep:∀ b o,h.get? b=some o→(b < lo∨H b≠none)→b∉fs→h'.get? b=some o
 slot:∀ b o,h.get? b=some o→b∈fs→∃ sl,h'.get? b=some { o with slots:=sl }
theorem uk {oe:Obj} {vs:Array Value} {head:Value} {HH:Bool} {Q:Unit→Shared→Prop}
 (Ao:A.frames=some (env :: outer)) (hl:s.heap.FunFrames base (env :: outer)) (hf:env.frame=some L) (EH:lo≤s.heap.objs.size) (eP:∀ b,s.heap.objs.size≤b→H b=none) (KI:lo≤e) (O2:H e=none)
 (he:s.heap.get? e=some oe) (ip:oe.cls=.ref C) (VL:oe.dict=od) (hd:oe.data=.fields vs) (hsz:1 < vs.size)
 (h:∀ h',Jg lo H h' e C od→KH lo H ((env :: outer).filterMap (·.frame)) s.heap h'→Q () { s with heap:=h' }) :
 wpAny M A (do let a ← frameOf env; let pl ← entryPlaceOf L HH; let b ← EntryCells.newEntry head a .none (rawInt L) .none pl; setField (.ref e) 1 b) (fun _ s'=>wpAny M A (setFlight (.ref e) none) Q E s') E s:=by
 have O3:e∉(env :: outer).filterMap (·.frame):=fun hm=>by
  obtain ⟨_,o,ho,HI⟩:=hl.mem hm
  rw [he] at ho; injection ho with ho; subst ho; exact HI vs hd
 refine wpAny_bind (wpAny_frameOf_fun Ao hl hf fun h₁ O4=>?_)
 refine wpAny_bind (wpAny_entryPlaceOf fun pl uO=>?_)
 unfold EntryCells.newEntry newFields
 refine wpAny_bind (wpAny_newObj_type ?_ (uO.sizeOk5 _ _ _ _ _))
 have VM:h₁.get? e=some oe:=(O4.2.1 e O3).trans he
 have VN:=Heap.get?_push_of_some (h:=h₁) { cls:=.type "traceback",dict:=none,data:=.fields ([head,.ref L,.none,rawInt L,.none]++(if pl.isEmpty then List.replicate 6 Value.none else pl)).toArray } VM
 refine wpAny_setField VN hd hsz ?_
 have Ku:h₁.objs.size≠e:=Nat.ne_of_gt (Heap.lt_size VM)
 have VO:=Obj.data_mapFields hd (·.setIfInBounds 1 (Value.ref h₁.objs.size))
 have VP:=Heap.get?_update_self (Obj.mapFields (·.setIfInBounds 1 (Value.ref h₁.objs.size))) VN (Obj.isFreed_of_fields VO)
 have VQ:=(Heap.get?_update_other (h₁.push { cls:=.type "traceback",dict:=none,data:=.fields ([head,.ref L,.none,rawInt L,.none]++(if pl.isEmpty then List.replicate 6 Value.none else pl)).toArray })
  (Obj.mapFields (·.setIfInBounds 1 (Value.ref h₁.objs.size))) (Ne.symm Ku)).trans (Heap.get?_push_size h₁ rfl)
 unfold setFlight
 refine wpAny_bind (wpAny_field VP VO (x:=.ref h₁.objs.size) (by simp [hsz]) ?_)
 rw [if_pos (show (Value.ref h₁.objs.size != Value.none)=true from by simp)]
 refine wpAny_setField VQ rfl (by simp only [List.size_toArray,List.length_append,List.length_cons,List.length_nil] <;> omega) (h _ ?_ ?_)
 ·refine ⟨KI,O2,vs.setIfInBounds 1 (.ref h₁.objs.size),oe.slots,?_,by simpa using hsz,.inr ⟨h₁.objs.size,_,_,by simp [hsz],by rw [O4.1]; exact EH,eP _ (by rw [O4.1]; exact Nat.le_refl _),Ku,
   Heap.get?_update_self _ VQ (Obj.isFreed_of_fields (Obj.data_mapFields rfl _)),Obj.data_mapFields rfl _,by first | (simp; done) | (rcases uO with rfl | ⟨_,_,_,_,_,_,_,rfl⟩ <;> simp)⟩⟩
  rw [Heap.get?_update_other _ _ Ku,VP]
  obtain ⟨c,d,dt,sl⟩:=oe
  dsimp only at ip VL hd
  subst ip VL hd
  rfl
 ·have keep:∀ b o,b≠e→h₁.get? b=some o →
   (((h₁.push { cls:=.type "traceback",dict:=none,data:=.fields ([head,.ref L,.none,rawInt L,.none]++(if pl.isEmpty then List.replicate 6 Value.none else pl)).toArray }).update e (Obj.mapFields (·.setIfInBounds 1 (Value.ref h₁.objs.size)))).update h₁.objs.size
     (Obj.mapFields (·.setIfInBounds 3 ((none:Option Addr).elim Value.none fun f=>rawInt f)))).get? b=some o:=fun b o GK hb=>by
   have Z2:h₁.objs.size≠b:=Nat.ne_of_gt (Heap.lt_size hb)
   rw [Heap.get?_update_other _ _ Z2,Heap.get?_update_other _ _ (Ne.symm GK)]
   exact Heap.get?_push_of_some _ hb
  refine ⟨fun b o hb hx HI=>keep b o ?_ ((O4.2.1 b HI).trans hb),fun b o hb hm=>?_⟩
  ·rintro rfl
   rcases hx with hx | hx
   ·exact absurd (Nat.lt_of_lt_of_le hx KI) (Nat.lt_irrefl _)
   ·exact hx O2
  ·obtain ⟨sl,hs⟩:=O4.2.2 b o hb
   exact ⟨sl,keep b _ (fun z=>O3 (z ▸ hm)) hs⟩
theorem F9 {Q:Unit→Shared→Prop} (Ao:A.frames=some (env :: outer)) (hl:s.heap.FunFrames base (env :: outer)) (hf:env.frame=some L) (EH:lo≤s.heap.objs.size) (eP:∀ b,s.heap.objs.size≤b→H b=none)
 (F:Jg lo H s.heap e C od) (h:∀ h',Jg lo H h' e C od→KH lo H ((env :: outer).filterMap (·.frame)) s.heap h'→Q () { s with heap:=h' }) :
 wpAny M A (noteFrame (.ref e) env) (fun _ s'=>wpAny M A (setFlight (.ref e) none) Q E s') E s:=by
 obtain ⟨KI,O2,vs,sl,he,hsz,h3⟩:=F
 unfold noteFrame
 simp only [hf]
 rcases h3 with h3 | ⟨T,oT,ts,h1,T3,Z3,Ku,hT,QG,h3⟩
 ·refine wpAny_bind (wpAny_field he rfl h3 ?_)
  rw [if_neg (by decide)]
  exact uk Ao hl hf EH eP KI O2 he rfl rfl rfl hsz h
 ·refine wpAny_bind (wpAny_field he rfl h1 ?_)
  rw [if_pos (show (Value.ref T != Value.none)=true from by simp)]
  refine wpAny_bind (wpAny_field hT QG h3 ?_)
  rw [if_neg (show ¬ ((Value.none == rawInt L)=true) from by simp [rawInt])]
  refine wpAny_bind (wpAny_setField hT QG (Array.getElem?_eq_some_iff.mp h3).1 ?_)
  have other:∀ b,b≠T→(s.heap.update T (Obj.mapFields (·.setIfInBounds 3 Value.none))).get? b=s.heap.get? b:=fun b hb=>Heap.get?_update_other _ _ (Ne.symm hb)
  have Fa:∀ b o,s.heap.get? b=some o→(∀ vs,o.data≠.fields vs)→b≠T:=fun b o hb HI q=>by
   rw [q,hT] at hb; injection hb with hb; subst hb; exact HI ts QG
  have Jh:(s.heap.update T (Obj.mapFields (·.setIfInBounds 3 Value.none))).objs.size=s.heap.objs.size:=Heap.size_after_update ..
  refine uk (s:={ s with heap:=s.heap.update T (Obj.mapFields (·.setIfInBounds 3 Value.none)) }) Ao (hl.of_keeps fun b o hb HI=>⟨o,(other b (Fa b o hb HI)).trans hb,rfl⟩) hf (by show lo≤_; rw [Jh]; exact EH) (fun b hb=>eP b (by rw [← Jh]; exact hb)) KI O2 ((other e (Ne.symm Ku)).trans he) rfl rfl rfl hsz fun h' F' P=>h h' F' ⟨fun b o hb hx hn=>P.keep b o ((other b ?_).trans hb) hx hn,fun b o hb hm=>P.slot b o ((other b ?_).trans hb) hm⟩
  ·rintro rfl
   rcases hx with hx | hx
   ·exact absurd (Nat.lt_of_lt_of_le hx T3) (Nat.lt_irrefl _)
   ·exact hx Z3
  ·rintro rfl
   obtain ⟨_,o',BL,HI⟩:=hl.mem hm
   rw [hT] at BL; injection BL with BL; subst BL
   exact HI ts QG
end
end L2
namespace L2
open PySem PySem.Spec PyProof.Rows
noncomputable def Gx (P:Program) (w:World):BV:=fun outer H s E ev s'=>∃ e C od H',ev=.ref e∧s'.os=s.os∧AllBare s'.gens∧Un (zK outer) [] H H' s.heap s'.heap∧kI P w H' s'.heap∧Jg s.heap.objs.size H' s'.heap e C od∧E (.ref C) od H'
noncomputable def Fb (X:Cx) (E:XK):Prop:=∀ (pins:List (Addr×Obj)) (σ:St) (H:Hp) (s:Shared) (e C:Addr) (od:Option Addr),Inv X pins σ H s→Jg X.s₀.heap.objs.size H s.heap e C od→E (.ref C) od H→X.xe (.ref e) s
theorem Ji {X:Cx} {E:XK} (hT:Fb X E):Passes (Gx X.prog X.w) X E:=fun pins σ H s ev s' I h=>by
 obtain ⟨e,C,od,H',rfl,Z4,bare,un,bt,F,hE⟩:=h
 exact hT pins σ H' s' e C od (I.Ef Z4 un bt bare fun b z=>absurd z (by simp)) (F.low I.sz) hE
section
variable {P:Program} {w:World} {K:PySem.W.Frag} {mg:Str→Option Value} {base:Heap} {N:List Str} {qual:Str} {scope:Scope} {f:Addr} {cd:Value} {A:Around} {outer:List Env} {s:Shared} {H:Hp} {E:XK}
theorem kI.past {lo:Nat} {H:Hp} {fs:List Addr} {h h':Heap} (x:kI P w H h) (p:KH lo H fs h h') (hf:∀ b∈fs,H b=none):kI P w H h':=fun a o e=>
 (x a o e).xC (fun b u hb q=>p.keep b u q (.inr (by rcases hb with rfl | hb; (· rw [e]; simp); (· rw [hb]; simp))) fun hm=>by
   have:=hf b hm
   rcases hb with rfl | hb
   ·rw [e] at this; cases this
   ·rw [hb] at this; cases this) (fun _ q=>q) fun _ _ q=>q
theorem iY:Fb (xK (Gx P w) P w K mg base N qual scope f cd A outer s H E) E:=by
 intro pins σ H1 s1 e C od I F hE
 show wpAny (model P w) _ («leaving» _ (.ref e)) (fun _ CI=>Gx P w outer H s E (.ref e) CI) (fun e' CI=>Gx P w outer H s E e' CI) s1
 unfold «leaving»
 have eP:∀ b,s1.heap.objs.size≤b→H1 b=none:=fun b hb=>I.bt.fresh hb
 refine wpAny_bind (F9 (lo:=s.heap.objs.size) (H:=H1) (base:=base) (outer:=outer) I.ok.frames I.stack rfl I.sz eP F fun h' F' p=>?_)
 have Ao:=I.pT
 have O5:∀ b o,s.heap.get? b=some o→b∉zK outer→b∉(envOfC qual scope s.heap.objs.size f cd :: outer).filterMap (·.frame):=fun b o hb hn hm=>by
  rcases List.mem_cons.mp (show b∈s.heap.objs.size :: zK outer from hm) with z | z
  ·exact absurd (Heap.lt_size hb) (by rw [z]; exact Nat.lt_irrefl _)
  ·exact hn z
 refine ⟨e,C,od,H1,rfl,I.os,I.bare,?_,I.bt.past p Ao,F',hE⟩
 have u:=I.base
 refine ⟨fun b o hb n O6 hx=>?_,fun b o hb n O6 hx=>?_,fun b o hb n hx=>u.free b o hb n hx,fun b o hb hx=>?_,u.mn,u.lV,u.mq⟩
 ·exact p.keep b o (u.keep b o hb n O6 hx) (.inl (Heap.lt_size hb)) (O5 b o hb O6)
 ·obtain ⟨sl,e1⟩:=u.slot b o hb n O6 hx
  obtain ⟨MG,e2⟩:=p.slot b _ e1 (show b∈s.heap.objs.size :: zK outer from List.mem_cons_of_mem _ O6)
  exact ⟨MG,e2⟩
 ·obtain ⟨o',e1⟩:=u.there b o hb hx
  by_cases hm:b∈(envOfC qual scope s.heap.objs.size f cd :: outer).filterMap (·.frame)
  ·obtain ⟨sl,e2⟩:=p.slot b o' e1 hm
   exact ⟨_,e2⟩
  ·exact ⟨o',p.keep b o' e1 (.inl (Heap.lt_size hb)) hm⟩
theorem EJ.VR {x qual:Str} {st:Stmt} {f:Addr} {fd:FuncData} {N ps:List Str} {k:Nat} {sp:Sp} (F:EJ K x qual st f fd) (S:az N ps (aa st)) (len:∀ vs H Q E,sp vs H Q E→vs.length=ps.length)
 (xN:∀ (cR:Value) (A:Around) (outer:List Env) (s:Shared) (H:Hp) (vs:List V) (Q:VK) (E:XK),fZ k (A.deeper (envOfC qual (aa st) s.heap.objs.size f cR))→sp vs H Q E →
   ∃ t,xE (xK (Gx P w) P w K mg base N qual (aa st) f cR A outer s H E) (i6 st) t∧t { nx:=fun _ H'=>Q .non H',rt:=Q } (start N vs) H):bD P w K mg base (Gx P w) (k + 1) f fd ps sp:=by
 obtain ⟨oc,od,kV,doc,pm,an,cR,ct,zE,rfl,lk,Cv⟩:=F.ex
 exact J8 lk Cv S len fun A outer s H vs Q E hr zZ=>xN cR A outer s H vs Q E hr zZ
end
end L2
namespace L2
open PySem PySem.Spec PyProof.Rows
open PySem.W (Looks looks_findIn looks_typeIn InitBack bind_fn findIn clsIn specialIn readsIn findCls keepIn isFn typeIn InstAt)
section
variable {prog:Program} {w:World} {A:Around} {R:Result→Shared→Prop} {h:Heap} {g:Array GenState} {d:Drawn} {t:Nat} {os:OsState}
variable {nm q:Str} {C CB N:Addr} {bs:List Value} {hdct:Bool} {sn:List Str} {sub:List Value} {ab:Bool} {col:Option Bool} {dd:Option Addr} {k0 k1 k2 k3 k5:Option Value}
theorem HJ {M:Model} {E:Value→Shared→Prop} {rest:List Value} {Q:Unit→Shared→Prop} (hC:h.get? C=some (excClassObj nm q C N bs (Am CB) hdct sn sub ab col dd k0 k1 k2 k3 k5 "ValueError.__new__"))
 (hq:Q () ⟨h,g,d,t,os⟩):wpAny M A (checkBuiltinCall "ValueError.__new__" ⟨.ref C :: rest,[]⟩) Q E ⟨h,g,d,t,os⟩:=by
 have F:=PySem.F.excBase_ValueError
 have O7:(Value.ref C :: Am CB).contains (.type "ValueError")=true:=rfl
 have VS:=F.noStar
 simp only [checkBuiltinCall,F.newKind,F.newSplit,F.newRow]
 repeat (first | refine wpAny_loadPart_at hC ?_ | (refine wpAny_isSubtype_exc hC ?_; rw [O7]) | refine wpAny_staticBase_exc hC ?_ | refine wpAny_madeBy_exc hC ?_ | simp only [bne_self_eq_false,Bool.false_eq_true,if_false] | wp_step)
 exact hq
theorem HK {rest:List Value} (hC:h.get? C=some (excClassObj nm q C N bs (Am CB) hdct sn sub ab col dd k0 k1 k2 k3 k5 "ValueError.__new__"))
 (hq:R (.ok (.ret (.ref (h.objs.size + 1)))) ⟨(h.push { cls:=.type "tuple",data:=.seq rest.toArray }).push
   { cls:=.ref C,data:=.fields #[.ref h.objs.size,.none,.none,.none,.bool false,.none] },g,d,t,os⟩) (um:rest.length≤sizeLine:=by size_fits) :
 codeAny (model prog w) A (.builtin "ValueError.__new__" ⟨.ref C :: rest,[]⟩) R ⟨h,g,d,t,os⟩:=by
 have F:=PySem.F.excBase_ValueError
 have VU:=F.ends
 have T4:(Value.ref C :: Am CB).contains (.type "ValueError")=true:=rfl
 have Z5:(Value.ref C :: Am CB).contains (.type "AttributeError")=false:=rfl
 have Z6:(Value.ref C :: Am CB).contains (.type "NameError")=false:=rfl
 refine codeAny_builtinAt F.entry ?_
 unfold Builtin.«BaseException.__new__»
 refine PySem.wpAt_bind ?_
 show PySem.wpAt _ _ _ (PySem.stack >>= _) _ _ _
 refine PySem.wpAt_bind (PySem.wpAt_stack fun p below=>PySem.wpAt_of_wpAny ?_)
 wp_walk
 refine PySem.wpAt_of_wpAny ?_
 rw [F.owner]
 repeat (first | with_reducible refine wpAny_madeHere_exc F.canon hC ?_ | with_reducible refine wpAny_loadPart_at hC ?_ | (with_reducible refine wpAny_isSubtype_exc hC ?_; first | rw [T4] | rw [Z5] | rw [Z6]) | wp_step)
 show R _ _
 rw [Heap.size_push]
 exact hq
theorem Fc {rest:List Value} {init:Value} {A':Around} (hC:h.get? C=some (excClassObj nm q C N bs (Am CB) hdct sn sub ab col dd k0 k1 k2 k3 k5 "ValueError.__new__"))
 (hi:Looks (model prog w) h (typeLookup (.ref C) "__init__") (some init)) (hb:∀ self,Looks (model prog w) h (bindSpecial init self) (init,[self])) (um:rest.length≤sizeLine)
 (hq:codeAny (model prog w) A' (.call init ⟨.ref (h.objs.size + 1) :: rest,[]⟩) (InitBack (h.objs.size + 1) R) ⟨(h.push (oz rest)).push (ju C h.objs.size),g,d,t,os⟩) :
 wpAny (model prog w) A' (Builtin.«type.__call__» ⟨.ref C :: rest,[]⟩) (fun fin s'=>match fin with | .done f=>R (.ok f) s' | .again c'=>c'.quiet=true∧codeAny (model prog w) A c' R s') (fun e s'=>R (.error e) s') ⟨h,g,d,t,os⟩:=by
 have F:=PySem.F.excBase_ValueError
 repeat (first | with_reducible refine wpAny_loadPart_at hC ?_ | with_reducible refine wpAny_madeBy_exc hC ?_ | wp_step)
 refine codeAny_call_builtin_code (Code.quiet_builtin _ F.quiet) (HJ hC ?_)
 refine HK hC ?_ um
 show wpAny _ _ _ _ _ _
 have k:∀ b o,h.get? b=some o→((h.push (oz rest)).push (ju C h.objs.size)).get? b=some o:=fun b o e=>Heap.get?_push_of_some _ (Heap.get?_push_of_some _ e)
 have Z7:=Heap.get?_push_of_some { cls:=.ref C,data:=.fields #[.ref h.objs.size,.none,.none,.none,.bool false,.none] }
  (Heap.get?_push_of_some { cls:=.type "tuple",data:=.seq rest.toArray } hC)
 have Kv:((h.push { cls:=.type "tuple",data:=.seq rest.toArray }).push { cls:=.ref C,data:=.fields #[.ref h.objs.size,.none,.none,.none,.bool false,.none] }).get? (h.objs.size + 1)=some { cls:=.ref C,data:=.fields #[.ref h.objs.size,.none,.none,.none,.bool false,.none] }:=by heap_get
 have Z8:(Value.ref C :: Am CB).contains (.ref C)=true:=by simp
 have i1:=hi.keeps k
 have b1:=(hb (.ref (h.objs.size + 1))).keeps k
 unfold isInstance
 repeat (first | with_reducible refine wpAny_loadPart_at Kv ?_ | (with_reducible refine wpAny_isSubtype_exc Z7 ?_; rw [Z8]) | wp_step)
 show wpAny _ _ (typeLookup (.ref C) _) _ _ _
 refine i1.at ?_
 refine wpAny_holding (wpAny_bind (b1.at ?_))
 refine wpAny_bind (wpAny_call (codeAny_mono hq fun r s' z=>?_))
 rcases r with e | (v | _ | _ | _) <;> first | exact z | exact z.elim | skip
 obtain ⟨rfl,z⟩:=z
 wp_walk
 exact z
theorem Fd {rest:List Value} {init:Value} (hC:h.get? C=some (excClassObj nm q C N bs (Am CB) hdct sn sub ab col dd k0 k1 k2 k3 k5 "ValueError.__new__"))
 (hi:Looks (model prog w) h (typeLookup (.ref C) "__init__") (some init)) (hb:∀ self,Looks (model prog w) h (bindSpecial init self) (init,[self])) (um:rest.length≤sizeLine)
 (hq:codeAny (model prog w) (A.under (.builtin "type.__call__" ⟨.ref C :: rest,[]⟩)) (.call init ⟨.ref (h.objs.size + 1) :: rest,[]⟩) (InitBack (h.objs.size + 1) R) ⟨(h.push (oz rest)).push (ju C h.objs.size),g,d,t,os⟩) :
 codeAny (model prog w) A (.call (.ref C) ⟨rest,[]⟩) R ⟨h,g,d,t,os⟩:=by
 have f1:=tc_lookup
 have f2:=PySem.tc_bind (.ref C)
 have hT:(⟨h,g,d,t,os⟩:Shared).TypeIs (.ref C) "type":=⟨_,hC,rfl⟩
 refine codeAny_of_tree ?_
 show wpAny _ _ (callAny (.ref C) _) _ _ _
 repeat (any_goals (first | assumption | with_reducible refine wpAny_loadPart_at hC ?_ | wp_step))
 refine ⟨rfl,?_⟩
 exact codeAny_call_builtin_at (Code.quiet_builtin _ (by decide +kernel)) entry_typeCall (wpAny_check_type_call_sub hC (Fc hC hi hb um hq))
theorem ya {M:Model} {E:Value→Shared→Prop} {s:Shared} {env:Env} {x:Expr} {pos:Pos} {Q:Flow→Shared→Prop} (hh:A.handled=none)
 (h:wpAny M A (eval x env) (fun v s₁=>∃ e od t,v=.ref e∧s₁.heap.get? C=some (excClassObj nm q C N bs (Am CB) hdct sn sub ab col dd k0 k1 k2 k3 k5 "ValueError.__new__") ∧
   s₁.heap.get? e=some { cls:=.ref C,dict:=od,data:=.fields #[.ref t,.none,.none,.none,.bool false,.none] }∧E (.ref e) s₁) E s) :
 wpAny M A (exec (.Raise (some x) none pos) env) Q E s:=by
 have key:wpAny M A (raiseStmt env (some (do let v ← eval x env; standAt pos; pure v)) none) Q E s:=by
  have T4:(Value.ref C :: Am CB).contains (.type "BaseException")=true:=rfl
  unfold raiseStmt
  refine wpAny_bind (wpAny_bind (wpAny_mono h (fun v s₁ h₁=>wpAny_bind (wpAny_standAt (wpAny_pure ?_))) fun _ _ x=>x))
  obtain ⟨e,od,t,rfl,hC,he,hE⟩:=h₁
  obtain ⟨hp,g,d,tk,os⟩:=s₁
  repeat (first | with_reducible refine wpAny_loadPart_at he ?_ | with_reducible refine wpAny_loadPart_at hC ?_ | (with_reducible refine wpAny_isSubtype_exc hC ?_; rw [T4]) | wp_step)
  exact wpAny_raiseNew_none hh hE
 rw [arm_exec_Raise]
 exact wpAny_bind (wpAny_standAt key)
end
end L2
namespace L2
open PySem PySem.Spec PyProof.Rows
open PySem.W (Looks looks_findIn looks_typeIn InitBack bind_fn findIn clsIn specialIn readsIn findCls keepIn isFn typeIn InstAt)
set_option genInjectivity false in
set_option genSizeOfSpec false in
structure gB (K:PySem.W.Frag) (C CB:Addr) (nm:Str):Prop where
 lk:∃ (q:Str) (N:Addr) (bs:List Value) (sn:List Str) (sub:List Value) (ab:Bool) (col:Option Bool) (dd:Option Addr) (k0 k1 k2 k3 k5:Option Value),
  K.lookup C=some (excClassObj nm q C N bs (Am CB) true sn sub ab col dd k0 k1 k2 k3 k5 "ValueError.__new__")
 sa:findIn K (.ref C) "__setattr__"=some (some (.builtin "object.__setattr__"))
 ga:findIn K (.ref C) "__getattribute__"=some (some (.builtin "BaseException.__getattribute__"))
 gh:findIn K (.ref C) "__getattr__"=some none
 kp:keepIn K (.ref C)=true
set_option genInjectivity false in
set_option genSizeOfSpec false in
structure O8 (K:PySem.W.Frag) (CB:Addr):Prop where
 sp:specialIn K (.ref CB) "__getattribute__"=some (some (.builtin "type.__getattribute__"))
 rd:readsIn K CB (.type "type")=true
 fc:findCls K (.ref CB) (.type "type") "__init__"=some (.val (.builtin "ValueError.__init__"))
noncomputable def XN (x C:Addr):HO:=.ext fun h=>∃ t,h.get? x=some (ju C t)
noncomputable abbrev HL (C d t:Addr):Obj:={ cls:=.ref C,dict:=some d,data:=.fields #[.ref t,.none,.none,.none,.bool false,.none] }
noncomputable def XD (x C d:Addr):HO:=.ext fun h=>∃ t,h.get? x=some (HL C d t)
section
variable {P:Program} {w:World} {H:Hp} {h:Heap} {x C d t:Addr}
theorem O9 (e:h.get? x=some (ju C t)):cf P w H h x (XN x C):=⟨⟨t,e⟩,⟨_,e⟩,fun h1 h2 ⟨t',e'⟩ k=>⟨t',k _ e'⟩⟩
end
noncomputable def del (H:Hp) (x:Addr):Hp:=fun b=>if b=x then none else H b
theorem qG {H:Hp} {x:Addr}:del H x x=none:=if_pos rfl
theorem kY {H:Hp} {x b:Addr} (h:b≠x):del H x b=H b:=if_neg h
theorem HM {H:Hp} {x:Addr} {o:HO} (h:H x=none):del (upd H x o) x=H:=by
 funext b
 by_cases e:b=x
 ·rw [e,qG,h]
 ·rw [kY e,ai e]
section
variable {X:Cx} {pins:List (Addr×Obj)} {σ:St} {H:Hp} {s:Shared} {x:Addr} {φ:Heap→Prop}
theorem Inv.del (I:Inv X pins σ H s) (hx:H x=some (.ext φ)):Inv X pins σ (L2.del H x) s:=by
 have ne:∀ {b:Addr} {o:HO},H b=some o→(∀ ψ,o≠.ext ψ)→b≠x:=fun e n z=>by rw [z,hx] at e; exact n φ (Option.some.inj e).symm
 have nn:∀ {b:Addr},H b=none→L2.del H x b=none:=fun {b} e=>by
  by_cases z:b=x
  ·rw [z]; exact qG
  ·rw [kY z]; exact e
 have u:=I.base
 refine ⟨I.ok,I.os,I.bare,⟨u.keep,u.slot,fun b o q n Z9=>nn (u.free b o q n Z9),u.there,fun b xs q=>?_,fun b o v q=>?_,fun b ps q=>?_⟩,I.loc,I.cell,nn I.free,fun y c e=>nn (I.jD y c e),fun p hp=>?_,fun a o e=>?_,I.len⟩
 ·have e:=u.mn b xs q
  rw [kY (ne e fun ψ z=>by cases z)]; exact e
 ·have e:=u.lV b o v q
  rw [kY (ne e fun ψ z=>by cases z)]; exact e
 ·obtain ⟨m,e⟩:=u.mq b ps q
  exact ⟨m,by rw [kY (ne e fun ψ z=>by cases z)]; exact e⟩
 ·obtain ⟨a1,a2,a3⟩:=I.pin p hp
  exact ⟨a1,nn a2,a3⟩
 ·have e':H a=some o:=by
   by_cases z:a=x
   ·rw [z,qG] at e; cases e
   ·rw [kY z] at e; exact e
  refine (I.bt a o e').xC (fun b u _ q=>q) (fun b q=>?_) fun b xs q=>?_
  ·rw [kY (ne q fun ψ z=>by cases z)]; exact q
  ·rw [kY (ne q fun ψ z=>by cases z)]; exact q
end
noncomputable def T5 (K:PySem.W.Frag) (CB:Addr) (t:TA):TE:=fun σ H Q=>t σ H fun vs H1=>∃ x C nm m,vs=[.ref x,m]∧H1 x=some (XN x C)∧gB K C CB nm∧Q .non H1
section
variable {X:Cx} {CB C f:Addr} {p pos apos eN:Pos} {e e2:Expr} {es:List Expr} {t:TA} {VW name:Str} {ta tv:TE} {o value:Expr} {pos':Pos}
noncomputable def VX (K:PySem.W.Frag) (CB:Addr) (ta tv:TE) (name:Str):TS:=fun D σ H=>tv σ H fun y H1=>ta σ H1 fun z H2=>∃ x C nm,z=.ref x∧H2 x=some (XN x C)∧gB K C CB nm∧findIn K (.ref C) name=some none ∧
 ∀ d,H2 d=none→D.nx σ (upd (upd H2 d (.xd [(name,y)])) x (XD x C d))
end
end L2
namespace L2
open PySem PySem.Spec PyProof.Rows
open PySem.W (Looks looks_findIn looks_typeIn InitBack bind_fn findIn clsIn specialIn readsIn findCls keepIn isFn typeIn InstAt)
noncomputable def T6 (K:PySem.W.Frag) (C:Addr) (sp:Sp) (E:XK) (t:TA):TS:=fun _ σ H=>t σ H fun vs H1=>vs.length≤sizeLine∧∀ x,H1 x=none →
 sp (.ref x :: vs) (upd H1 x (XN x C)) (fun v H2=>v=.non∧((H2 x=some (XN x C)∧E (.ref C) none (del H2 x))∨∃ d,H2 x=some (XD x C d)∧E (.ref C) (some d) (del H2 x))) E0
noncomputable def HN (C:Addr) (E:XK) (t:TA):TS:=fun _ σ H=>t σ H fun vs H1=>vs.length=1∧E (.ref C) none H1
section
variable {X:Cx} {CB C f:Addr} {fd:FuncData} {ps:List Str} {sp:Sp} {E:XK} {k:Nat} {p pos eN:Pos} {e:Expr} {es:List Expr} {t:TA} {x nm:Str}
theorem Inv.newExc {pins:List (Addr×Obj)} {σ:St} {H:Hp} {s:Shared} (I:Inv X pins σ H s) (us:List Value) (C:Addr) :
 Inv X pins σ (upd H (s.heap.objs.size + 1) (XN (s.heap.objs.size + 1) C)) { s with heap:=(s.heap.push (oz us)).push (ju C s.heap.objs.size) }:=by
 have I1:=I.kept (h':=s.heap.push (oz us)) (t':=s.toks) fun b u q=>Heap.get?_push_of_some _ q
 refine I1.laid (a:=s.heap.objs.size + 1) (t':=s.toks) (fun b u q=>Heap.get?_push_of_some _ q) (Nat.le_of_eq (Heap.size_push _ _)) (O9 (t:=s.heap.objs.size) ?_)
 have:=Heap.get?_push_size (s.heap.push (oz us)) (o:=ju C s.heap.objs.size) rfl
 rwa [Heap.size_push] at this
theorem jL (hT:Fb X E) (hc:X.calm=true) (U:gB X.K C CB nm) (hi:findIn X.K (.ref C) "__init__"=some (some (.builtin "ValueError.__init__"))) (hg:Gl X x) (hm:X.mg x=some (.ref C)) (ha:PA X (e :: es) t)
 (zD:(x == ("__debug__":Str))=false:=by decide) (he:starEach (e :: es) X.env=(false,eval e X.env) :: starEach es X.env:=by rfl) (uO:(backTo eN (starEach es X.env)).any (·.1)=false:=by rfl) :
 PS X (.Raise (some (.Call (.Name x p) (e :: es) [] eN)) none pos) (HN C E t):=by
 intro pins s σ H D I h
 obtain ⟨qn,N,bs,sn,sub,ab,col,dd,k0,k1,k2,k3,k5,lk⟩:=U.lk
 refine ya (C:=C) (CB:=CB) (nm:=nm) (q:=qn) (N:=N) (bs:=bs) (hdct:=true) (sn:=sn) (sub:=sub) (ab:=ab) (col:=col) (dd:=dd) (k0:=k0) (k1:=k1) (k2:=k2) (k3:=k3) (k5:=k5) (I.ok.hd hc) ?_
 refine wpAny_Call_Name_kw (pU I hg hm ?_ zD)
 refine PySem.W.callWith_K (h₀:=X.base) I.ok.mod.LQ U.kp (cg (ha eN pins s σ H _ I h) fun us s1 ⟨vs,H1,I1,r,hlen,q⟩=>⟨I1.n8,?_⟩) he uO
 obtain ⟨u,rfl⟩:∃ u,us=[u]:=by
  have:=r.length
  rw [hlen] at this
  exact List.length_eq_one_iff.mp this.symm
 have I2:=Inv.newExc I1 [u] C
 have HP:(upd H1 (s1.heap.objs.size + 1) (XN (s1.heap.objs.size + 1) C)) (s1.heap.objs.size + 1)=some (XN (s1.heap.objs.size + 1) C):=a9
 have HQ:=I1.bt.fresh (Nat.le_succ s1.heap.objs.size)
 obtain ⟨hh,g,dr,tk,os⟩:=s1
 refine wpAny_call (Fd (I1.n8 _ _ lk) (looks_findIn I1.n8 hi) (fun self=>Looks.of_pure (PySem.F.excBase_ValueError.init.bind self)) (by show 1≤sizeLine; decide) ?_)
 obtain ⟨⟨tt,ht⟩,_⟩:=I2.bt _ _ HP
 refine An I2.n8 ht lk fun h' t' kk ex=>⟨rfl,?_⟩
 have I3:=I2.write (x:=hh.objs.size + 1) (e:=hh.objs.size + 1) (o:=XN (hh.objs.size + 1) C) (h':=h') (t':=tk) (by rw [HP]; exact True.intro) (.inl rfl) (fun b u hb z=>kk b u hb z) ⟨_,ex⟩ (O9 ex)
 rw [BK] at I3
 have I4:=I3.del (x:=hh.objs.size + 1) a9
 rw [HM HQ] at I4
 have KI:X.s₀.heap.objs.size≤hh.objs.size + 1:=Nat.le_trans I1.sz (Nat.le_succ _)
 exact ⟨_,none,t',rfl,I4.n8 _ _ lk,ex,hT pins σ _ _ _ C none I4 ⟨KI,HQ,_,_,ex,by show 1 < 6; decide,.inl rfl⟩ q⟩
end
end L2
namespace L2
open PySem PySem.Spec PyProof.Rows
noncomputable abbrev TJ:=Str→St→Hp→(Str→Hp→Prop)→Prop
noncomputable def PJ (X:Cx) (es:List Expr) (t:TJ):Prop:=∀ (pins:List (Addr×Obj)) (s:Shared) (σ:St) (H:Hp) (acc:Str) (Q:Str→Hp→Prop),Inv X pins σ H s→t acc σ H Q →
 wpAny (model X.prog X.w) X.A (joinParts acc (evalEach es X.env)) (fun u s'=>∃ z H',Inv X pins σ H' s'∧(∃ tk,u=.str z tk)∧Q z H') X.xe s
section
variable {X:Cx} {e:Expr} {es:List Expr} {te:TE} {t:TJ} {pos:Pos}
noncomputable def Za:TJ:=fun acc _ H Q=>acc.length≤sizeLine∧Q acc H
noncomputable def Zb (z:Str) (t:TJ):TJ:=fun acc σ H Q=>(acc++z).length≤sizeLine∧t (acc++z) σ H Q
noncomputable def Zc (te:TE) (t:TJ):TJ:=fun acc σ H Q=>te σ H fun v H1=>(∃ i,v=.int i∧i.natAbs.log2 < 1920∧(acc++(toString i:String)).length≤sizeLine∧t (acc++(toString i:String)) σ H1 Q)∨(∃ z,v=.str z∧z.length≤sizeLine∧(acc++z).length≤sizeLine∧t (acc++z) σ H1 Q)
end
noncomputable abbrev KJ:=XK→TE
noncomputable abbrev Dg:=(St→XK)→TS
noncomputable def VY (X:Cx) (pins:List (Addr×Obj)) (σ:St) (E:XK) (ev:Value) (s':Shared):Prop:=∃ H0 s0,Inv X pins σ H0 s0∧Gx X.prog X.w X.stack H0 s0 E ev s'
noncomputable def VZ (X:Cx) (pins:List (Addr×Obj)) (E:St→XK) (ev:Value) (s':Shared):Prop:=∃ σ,VY X pins σ (E σ) ev s'
noncomputable def PEx (X:Cx) (e:Expr) (t:KJ):Prop:=∀ (pins:List (Addr×Obj)) (s:Shared) (σ:St) (H:Hp) (Q:VK) (E:XK),Inv X pins σ H s→t E σ H Q→wpAny (model X.prog X.w) X.A (eval e X.env) (EP X pins σ Q) (VY X pins σ E) s
noncomputable def PSx (X:Cx) (st:Stmt) (t:Dg):Prop:=∀ (pins:List (Addr×Obj)) (s:Shared) (σ:St) (H:Hp) (D:Ends) (E:St→XK),Inv X pins σ H s→t E D σ H→wpAny (model X.prog X.w) X.A (exec st X.env) (SP X pins D) (VZ X pins E) s
noncomputable def Zd (X:Cx) (st:List Stmt) (t:Dg):Prop:=∀ (pins:List (Addr×Obj)) (s:Shared) (σ:St) (H:Hp) (D:Ends) (E:St→XK),Inv X pins σ H s→t E D σ H→wpAny (model X.prog X.w) X.A (execs st X.env) (SP X pins D) (VZ X pins E) s
section
variable {X:Cx} {k:Nat} {f C:Addr} {fd:FuncData} {ps:List Str} {sp:Sp} {x m:Str} {p pos apos:Pos} {e o:Expr} {es:List Expr} {ta:TE} {t:TA} {st:Stmt} {rest:List Stmt}
theorem AP.iE {E:Value→Shared→Prop} {pins:List (Addr×Obj)} {σ:St} {Q:List V→Hp→Prop} {us:List Value} {s':Shared} (h:AP (X.o5 E) pins σ Q us s'):AP X pins σ Q us s':=by
 obtain ⟨vs,H',I,r,q⟩:=h
 exact ⟨vs,H',I.iE,r,q⟩
noncomputable def T7 (sp:Sp) (t:TA):KJ:=fun E σ H Q=>t σ H fun vs H1=>sp vs H1 Q E
noncomputable def T8 (C:Addr) (m:Str) (sp:Sp) (ta:TE) (t:TA):KJ:=fun E σ H Q=>ta σ H fun x H1=>∃ a dx fs,x=.ref a∧H1 a=some (.ins C dx fs)∧fs.lookup m=none∧t σ H1 fun vs H2=>sp (x :: vs) H2 Q E
noncomputable def T9 (C:Addr) (sp:Sp) (t:TA):KJ:=fun E σ H Q=>t σ H fun vs H1=>∀ x dx,H1 x=none→H1 dx=none→dx≠x →
 sp (.ref x :: vs) (upd (upd H1 dx (.own x)) x (.ins C dx [])) (fun v H2=>v=.non∧Q (.ref x) H2) E
variable {te:KJ} {i:Nat} {pos':Pos} {tx ty:Dg} {tc:TT} {c:Expr} {a b:List Stmt} {ts:TS}
noncomputable def Ze (te:KJ) (i:Nat):Dg:=fun E D σ H=>te (E σ) σ H fun v H1=>D.nx (σ.set i (some v)) H1
noncomputable def W2 (te:KJ):Dg:=fun E D σ H=>te (E σ) σ H fun _ H1=>D.nx σ H1
noncomputable def xIf (tc:TT) (tx ty:Dg):Dg:=fun E D σ H=>tc σ H fun b H1=>if b=true then tx E D σ H1 else ty E D σ H1
noncomputable def Zf (tx ty:Dg):Dg:=fun E D σ H=>tx E { D with nx:=ty E D } σ H
end
end L2
namespace L2
open PySem PySem.Spec PyProof.Rows
section
variable {M:Model} {A:Around} {E:Value→Shared→Prop} {s:Shared} {e C CB:Addr} {od:Option Addr} {lo:Nat} {H:Hp}
variable {nm q VW qB:Str} {N NB:Addr} {bs bsB:List Value} {hdct hdB:Bool} {sn snB:List Str} {sub subB:List Value} {ab abB:Bool} {col Zg:Option Bool} {dd ddB:Option Addr} {k0 k1 k2 k3 k5 l0 l1 l2 l3 l5:Option Value}
end
noncomputable abbrev Cx.marked (X:Cx) (e:Addr):Cx:={ X with A:=X.A.mark (some (.ref e)),calm:=false }
section
variable {X:Cx} {pins:List (Addr×Obj)} {σ:St} {H:Hp} {s:Shared} {e:Addr}
theorem Cx.Ok.marked (ok:X.Ok):(X.marked e).Ok:=
 ⟨ok.mod,ok.kind,ok.glob,ok.blt,ok.above,ok.inj,ok.has,ok.IY,fun z=>Bool.noConfusion z,ok.frames,ok.JT,ok.MH,ok.bs,ok.zL,ok.uM,ok.zM,ok.lW,ok.Ee⟩
theorem Inv.marked (I:Inv X pins σ H s):Inv (X.marked e) pins σ H s:=⟨I.ok.marked,I.os,I.bare,I.base,I.loc,I.cell,I.free,I.jD,I.pin,I.bt,I.len⟩
noncomputable def XC (x C:Addr) (od:Option Addr):HO:=.ext fun h=>∃ vs sl,h.get? x=some ⟨.ref C,od,.fields vs,sl⟩
end
end L2
namespace L2
open PySem PySem.Spec PyProof.Rows
set_option genInjectivity false in
set_option genSizeOfSpec false in
structure KL (K:PySem.W.Frag) (CB:Addr) (nm:Str):Prop where
 lk:∃ (q:Str) (N:Addr) (bs:List Value) (hd:Bool) (sn:List Str) (sub:List Value) (ab:Bool) (col:Option Bool) (dd:Option Addr) (k0 k1 k2 k3 k5:Option Value),
  K.lookup CB=some (excClassObj nm q CB N bs T1 hd sn sub ab col dd k0 k1 k2 k3 k5 "ValueError.__new__")
noncomputable def Zh (K:PySem.W.Frag) (CB:Addr) (tb:Dg) (j i:Nat):TS:=fun D σ H=>tb (fun σ' cv od H'=>∃ C nm,cv=.ref C∧gB K C CB nm∧∀ e,H' e=none→D.nx (((σ'.set j (some (.ref e))).set i (some (.ref e))).set j none) (upd H' e (XC e C od))) D σ H
section
variable {X:Cx} {CB:Addr} {VW n x W3:Str} {body:List Stmt} {tb:Dg} {i j:Nat} {p1 p2 p3 p4 Oa pos:Pos}
end
end L2
namespace L2
open PySem PySem.Spec PyProof.Rows
open PySem.W (Looks looks_findIn looks_typeIn looks_find looks_hook looks_mroIn findIn clsIn specialIn takesIn mroIn typeIn subIn InstAt KitX kitOne kitCls kia_one findObj findObj_data class_get handed_on handedOut_of)
open Builtin Builtin.ObjectAttr
theorem gB.ne {K:PySem.W.Frag} {C D CB Zi:Addr} {nm Jj:Str} (U:gB K C CB nm) (U':gB K D Zi Jj) (h:¬ nm=Jj):C≠D:=fun e=>by
 subst e
 obtain ⟨q,N,bs,sn,sub,ab,col,dd,k0,k1,k2,k3,k5,l1⟩:=U.lk
 obtain ⟨q',N',Ta,Tb,KM,Tc,KN,EE,l0,Zj,l2,l3,l5,Ob⟩:=U'.lk
 rw [l1] at Ob
 have:=congrArg (fun o=>match o with | some (⟨_,_,.cls cd,_⟩:Obj)=>cd.name | _=>nm) Ob
 exact h this
section
variable {prog:Program} {w:World} {A:Around} {E:Value→Shared→Prop} {s:Shared} {K:PySem.W.Frag} {x C CB D:Addr} {nm Jj W3:Str} {od:Option Addr}
noncomputable def ExcAt (x C:Addr) (od:Option Addr) (h:Heap):Prop:=(∃ vs sl,h.get? x=some ⟨.ref C,od,.fields vs,sl⟩)∧∀ d,od=some d→∃ o,h.get? d=some o
set_option genInjectivity false in
set_option genSizeOfSpec false in
structure KO (K:PySem.W.Frag) (C:Addr):Prop where
 ha:findIn K (.ref C) "__class__"=some (some (.builtin "object.__class__"))
 hn:specialIn K (.builtin "object.__class__") "__get__"=some (some (.builtin "getset_descriptor.__get__"))
 pW:takesIn K (.builtin "object.__class__")=some true
theorem gB.cls (V:gB K D CB Jj):(clsIn K D).isSome=true∧typeIn K (.ref D)=some (.type "type"):=by
 obtain ⟨q',N',Ta,Tb,KM,Tc,KN,EE,l0,l1,l2,l3,l5,Oc⟩:=V.lk
 refine ⟨by unfold clsIn; rw [Oc]; rfl,?_⟩
 show Option.map (fun x=>x.cls) (K.lookup D)=some (.type "type")
 rw [Oc]
 rfl
end
inductive HR (K:PySem.W.Frag) (H:Hp):V→V→Bool→Prop where
 | exc {e C CB:Addr} {od:Option Addr} {nm:Str} {D:Addr} {b:Bool} (h:H e=some (XC e C od)) (hd:∀ d,od=some d→∃ fs,H d=some (.xd fs)) (U:gB K C CB nm) (Y:KO K C) (k:kitOne K (.ref C) (.ref D)=some b):HR K H (.ref e) (.ref D) b
 | val {e C CB:Addr} {od:Option Addr} {nm:Str} {T:String} {b:Bool} (h:H e=some (XC e C od)) (hd:∀ d,od=some d→∃ fs,H d=some (.xd fs)) (U:gB K C CB nm) (Y:KO K C) (k:kitOne K (.ref C) (.type T)=some b):HR K H (.ref e) (.ty T) b
 | oth {x:V} {t:Value} {D:Addr} {b:Bool} (h:iT K H x t) (k:kitOne K t (.ref D)=some b):HR K H x (.ref D) b
 | otb {x:V} {t:Value} {T:String} {b:Bool} (h:iT K H x t) (k:kitOne K t (.type T)=some b):HR K H x (.ty T) b
section
variable {X:Cx}
noncomputable def W4 (K:PySem.W.Frag) (ta:TE) (f:Str):TE:=fun σ H Q=>ta σ H fun y H1=>∃ e C CB d nm fs v,y=.ref e∧H1 e=some (XC e C (some d))∧H1 d=some (.xd fs)∧gB K C CB nm∧findIn K (.ref C) f=some none∧fs.lookup f=some v∧Q v H1
end
end L2
namespace L2
open PySem
theorem KP {P:Program} {w:World} {X:Cx}:Passes (Gx P w) X E0:=fun _ _ _ _ _ _ _ h=>by
 obtain ⟨_,_,_,_,_,_,_,_,_,_,hE⟩:=h
 exact hE.elim
end L2
namespace Sx
open PySem L2 Bs
theorem Od:bootBuiltins "int"=some (.type "int"):=by decide +kernel
theorem Oe:bootBuiltins "bool"=some (.type "bool"):=by decide +kernel
theorem Fe:bootBuiltins "sum"=some (.builtin "sum"):=by decide +kernel
theorem Dh:bootBuiltins "min"=some (.builtin "min"):=by decide +kernel
set_option genInjectivity false in
set_option genSizeOfSpec false in
structure Di (K:PySem.W.Frag) (C CB:Addr) (nm:Str):Prop where
 lk:∃ (q:Str) (N:Addr) (bs:List Value) (sn:List Str) (sub:List Value) (ab:Bool) (col:Option Bool) (dd:Option Addr) (k0 k1 k2 k3 k5:Option Value),
  K.lookup C=some (excClassObj nm q C N bs (Am CB) true sn sub ab col dd k0 k1 k2 k3 k5 "ValueError.__new__")
theorem HS {K:PySem.W.Frag} {C CB:Addr} {nm q:Str} {N:Addr} {bs:List Value} {sn:List Str} {sub:List Value} {ab:Bool} {col:Option Bool} {dd:Option Addr} {k0 k1 k2 k3 k5:Option Value}
 (l:K.lookup C=some (excClassObj nm q C N bs (Am CB) true sn sub ab col dd k0 k1 k2 k3 k5 "ValueError.__new__")):Di K C CB nm:=⟨q,N,bs,sn,sub,ab,col,dd,k0,k1,k2,k3,k5,l⟩
theorem HU {K:PySem.W.Frag} {CB:Addr} {nm q:Str} {N:Addr} {bs:List Value} {hd:Bool} {sn:List Str} {sub:List Value} {ab:Bool} {col:Option Bool} {dd:Option Addr} {k0 k1 k2 k3 k5:Option Value}
 (l:K.lookup CB=some (excClassObj nm q CB N bs T1 hd sn sub ab col dd k0 k1 k2 k3 k5 "ValueError.__new__")):KL K CB nm:=⟨q,N,bs,hd,sn,sub,ab,col,dd,k0,k1,k2,k3,k5,l⟩
noncomputable def Zk (C:Addr) (name:Str) (ok:V→Prop):Sp:=fun vs H Q _=>∃ x v,vs=[.ref x,v]∧ok v∧H x=some (XN x C)∧∀ d,H d=none→Q .non (upd (upd H d (.xd [(name,v)])) x (XD x C d))
end Sx
namespace Sx
open PySem PySem.Spec PyProof.Rows L2
open PySem.W (clsIn mroIn typeIn subIn kitOne kitCls)
section
variable {K:PySem.W.Frag} {C CB D:Addr} {nm Jj W3:Str}
theorem Di.ne (U:gB K C CB nm) (V:Di K D CB Jj) (h:¬ nm=Jj):C≠D:=fun e=>by
 subst e
 obtain ⟨q,N,bs,sn,sub,ab,col,dd,k0,k1,k2,k3,k5,l1⟩:=U.lk
 obtain ⟨q',N',Ta,Tb,KM,Tc,KN,EE,l0,Zj,l2,l3,l5,Ob⟩:=V.lk
 rw [l1] at Ob
 have:=congrArg (fun o=>match o with | some (⟨_,_,.cls cd,_⟩:Obj)=>cd.name | _=>nm) Ob
 exact h this
theorem Di.cls (V:Di K D CB Jj):(clsIn K D).isSome=true∧typeIn K (.ref D)=some (.type "type"):=by
 obtain ⟨q',N',Ta,Tb,KM,Tc,KN,EE,l0,l1,l2,l3,l5,Oc⟩:=V.lk
 refine ⟨by unfold clsIn; rw [Oc]; rfl,?_⟩
 show Option.map (fun x=>x.cls) (K.lookup D)=some (.type "type")
 rw [Oc]
 rfl
end
end Sx
namespace AC
section
variable {W:List (List Nat)} {P:List Nat→Bool} {l m p q u:List Nat} {c:Nat}
noncomputable def Good (W:List (List Nat)) (l:List Nat):Prop:=∀ w∈W,¬ w <:+: l
noncomputable def Pl (W:List (List Nat)) (p:List Nat):Prop:=p=[]∨((∃ w∈W,p <+: w∧p.length < w.length)∧Good W p)
theorem Good.sub (h:Good W l) (hs:m <:+: l):Good W m:=fun w hw hi=>h w hw (hi.trans hs)
theorem Pl.init (h:Pl W (u++[c])):Pl W u:=by
 rcases h with h | ⟨⟨w,hw,hp,hl⟩,hg⟩
 ·simp at h
 ·by_cases e:u=[]
  ·exact .inl e
  ·refine .inr ⟨⟨w,hw,(List.prefix_append u [c]).trans hp,?_⟩,hg.sub (List.prefix_append u [c]).isInfix⟩
   rw [List.length_append] at hl
   simp at hl
   omega
noncomputable def jZ (P:List Nat→Bool):List Nat→List Nat
 | []=>[]
 | a :: l=>if P (a :: l)=true then a :: l else jZ P l
theorem jM:∀ l,jZ P l <:+ l
 | []=>List.suffix_refl _
 | a :: l=>by
   unfold jZ
   split
   ·exact List.suffix_refl _
   ·exact (jM l).trans (List.suffix_cons a l)
theorem qH (h0:P []=true):∀ l,P (jZ P l)=true
 | []=>h0
 | a :: l=>by
   unfold jZ
   split
   ·assumption
   ·exact qH h0 l
theorem jN (hP:P q=true):∀ {l},q <:+ l→q <:+ jZ P l
 | [],h=>h
 | a :: l,h=>by
   unfold jZ
   split
   ·exact h
   ·rename_i hn
    rcases List.suffix_cons_iff.mp h with e | h
    ·rw [← e] at hn; exact absurd hP hn
    ·exact jN hP h
theorem Ff (h1:p <:+ q) (h2:q <:+ p):p=q:=h1.eq_of_length (Nat.le_antisymm h1.length_le h2.length_le)
theorem yb {c:Nat}:∀ {q l:List Nat},q <:+ l++[c]→q=[]∨∃ u,q=u++[c]∧u <:+ l:=fun {q l} h=>by
 rcases List.eq_nil_or_concat q with e | ⟨u,d,e⟩
 ·exact .inl e
 ·right
  rw [List.concat_eq_append] at e
  obtain ⟨t,ht⟩:=h
  subst e
  rw [← List.append_assoc] at ht
  have h1:=List.append_inj' ht rfl
  have hd:d=c:=by simpa using h1.2
  exact ⟨u,by rw [hd],t,h1.1⟩
theorem Ap {w l:List Nat} {c:Nat} (h:w <:+: l++[c]):w <:+: l∨w <:+ l++[c]:=by
 obtain ⟨a,b,e⟩:=h
 rcases List.eq_nil_or_concat b with hb | ⟨b',d,hb⟩
 ·right
  subst hb
  exact ⟨a,by rw [← e,List.append_nil]⟩
 ·left
  rw [List.concat_eq_append] at hb
  subst hb
  rw [← List.append_assoc] at e
  exact ⟨a,b',(List.append_inj' e rfl).1⟩
theorem Dj (hP:∀ x,P x=true↔Pl W x) (hg:Good W l) (kF:∀ w∈W,w≠[]):Good W (jZ P l++[c])↔Good W (l++[c]):=by
 have hs:=jM (P:=P) l
 constructor
 ·intro h w hw hi
  rcases Ap hi with z | z
  ·exact hg w hw z
  ·rcases yb z with e | ⟨u,rfl,hu⟩
   ·exact kF w hw e
   ·have Zm:Pl W u:=by
     by_cases e:u=[]
     ·exact .inl e
     ·exact .inr ⟨⟨_,hw,List.prefix_append u [c],by simp⟩,hg.sub hu.isInfix⟩
    have:=jN ((hP u).mpr Zm) hu
    obtain ⟨t,ht⟩:=this
    exact h _ hw (show u++[c] <:+ jZ P l++[c] from ⟨t,by rw [← List.append_assoc,ht]⟩).isInfix
 ·intro h
  obtain ⟨t,ht⟩:=hs
  exact h.sub (show jZ P l++[c] <:+ l++[c] from ⟨t,by rw [← List.append_assoc,ht]⟩).isInfix
theorem Aq (hP:∀ x,P x=true↔Pl W x) (hg:Good W l):jZ P (jZ P l++[c])=jZ P (l++[c]):=by
 have hs:=jM (P:=P) l
 have h0:P []=true:=(hP []).mpr (.inl rfl)
 have QA:jZ P l++[c] <:+ l++[c]:=by
  obtain ⟨t,ht⟩:=hs
  exact ⟨t,by rw [← List.append_assoc,ht]⟩
 refine Ff (jN (qH h0 _) ((jM _).trans QA)) (jN (qH h0 _) ?_)
 rcases yb (jM (P:=P) (l++[c])) with e | ⟨u,e,hu⟩
 ·rw [e]; exact List.nil_suffix
 ·have uO:=(hP _).mp (qH h0 (l++[c]))
  rw [e] at uO ⊢
  obtain ⟨t,ht⟩:=jN ((hP u).mpr uO.init) hu
  exact ⟨t,by rw [← List.append_assoc,ht]⟩
end
end AC
namespace Bs
open PySem AC
theorem uo (x y:Str) (i:Nat):Builtin.Str.subAt x y i=true↔((ch x).drop i).take y.length=ch y:=by
 unfold Builtin.Str.subAt
 rw [beq_iff_eq]
 constructor
 ·intro h
  have:=congrArg Array.toList h
  rw [Array.toList_extract,List.extract_eq_take_drop,Nat.add_sub_cancel_left] at this
  exact this
 ·intro h
  refine Array.toList_inj.mp ?_
  rw [Array.toList_extract,List.extract_eq_take_drop,Nat.add_sub_cancel_left]
  exact h
theorem C8 (y x:Str):Kw y x=true↔ch y <:+: ch x:=by
 unfold Kw
 rw [StrLaws.found_iff]
 constructor
 ·rintro ⟨i,hi,hs⟩
  have zF:=(uo x y i).mp hs
  rw [← zF]
  exact (List.take_prefix _ _).isInfix.trans (List.drop_suffix _ _).isInfix
 ·rintro ⟨a,b,e⟩
  refine ⟨a.length,?_,(uo x y _).mpr ?_⟩
  ·rw [← aT x,← e,List.length_append,List.length_append,aT]; omega
  ·rw [← e,List.append_assoc,List.drop_left,← aT y,List.take_left]
noncomputable def wl (ws:List Str):List (List Nat):=ws.map ch
theorem eF (ws:List Str) (r:Str):bears ws r=false↔Good (wl ws) (ch r):=by
 unfold bears Good wl
 rw [List.any_eq_false]
 constructor
 ·intro h w hw hi
  obtain ⟨v,hv,rfl⟩:=List.mem_map.mp hw
  exact h v hv ((C8 v r).mpr hi)
 ·intro h v hv hi
  exact h (ch v) (List.mem_map.mpr ⟨v,hv,rfl⟩) ((C8 v r).mp hi)
theorem k4 (w:Str) (n:Nat):ch (gn w n)=(ch w).take n:=qw w n
theorem pX (w:Str) (n:Nat):ch (ir w n)=(ch w).drop n:=qx w n
theorem vk {ws ks:List Str} {b k:Str}:k∈ox ws ks b↔k∈ks∨(k=b∧bears ws b=false):=by
 unfold ox vh
 by_cases hb:bears ws b=true
 ·rw [if_pos hb]
  simp [hb]
 ·rw [if_neg hb]
  have E6:bears ws b=false:=by simpa using hb
  by_cases hm:b∈ks
  ·rw [if_pos hm]
   constructor
   ·exact .inl
   ·rintro (h | ⟨rfl,_⟩)
    ·exact h
    ·exact hm
  ·rw [if_neg hm]
   simp [E6]
theorem nA {ws:List Str} {w:Str} {ks:List Str} {k:Str}:∀ n,k∈upTo ws w ks n↔k∈ks∨∃ i,i < n∧k=gn w (1 + i)∧bears ws k=false
 | 0=>by
   show k∈ks↔_
   simp
 | n + 1=>by
   rw [gW,vk,nA n]
   constructor
   ·rintro ((h | ⟨i,hi,e,hb⟩) | ⟨e,hb⟩)
    ·exact .inl h
    ·exact .inr ⟨i,by omega,e,hb⟩
    ·exact .inr ⟨n,by omega,e,by rw [e]; exact hb⟩
   ·rintro (h | ⟨i,hi,e,hb⟩)
    ·exact .inl (.inl h)
    ·by_cases NN:i < n
     ·exact .inl (.inr ⟨i,NN,e,hb⟩)
     ·have:i=n:=by omega
      subst this
      exact .inr ⟨e,by rw [← e]; exact hb⟩
theorem sI {ws:List Str} {k e:Str} (us:List Str):k∈c4 ws e us↔k=e∨∃ w∈us,∃ i,i < w.length - 1∧k=gn w (1 + i)∧bears ws k=false:=by
 have key:∀ (us ks:List Str),k∈us.foldl (addW ws) ks↔k∈ks∨∃ w∈us,∃ i,i < w.length - 1∧k=gn w (1 + i)∧bears ws k=false:=by
  intro us
  induction us with
  | nil=>intro ks; simp
  | cons w us ih=>
    intro ks
    rw [List.foldl_cons,ih]
    unfold addW
    rw [nA]
    constructor
    ·rintro ((h | ⟨i,h⟩) | ⟨w',KG,h⟩)
     ·exact .inl h
     ·exact .inr ⟨w,List.mem_cons_self ..,i,h⟩
     ·exact .inr ⟨w',List.mem_cons_of_mem _ KG,h⟩
    ·rintro (h | ⟨w',KG,h⟩)
     ·exact .inl (.inl h)
     ·rcases List.mem_cons.mp KG with rfl | KG
      ·exact .inl (.inr h)
      ·exact .inr ⟨w',KG,h⟩
 unfold c4
 rw [key]
 simp
theorem mem_keys {ws:List Str} {k:Str}:k∈c4 ws "" ws↔Pl (wl ws) (ch k):=by
 rw [sI]
 constructor
 ·rintro (rfl | ⟨w,hw,i,hi,e,hb⟩)
  ·exact .inl rfl
  ·right
   refine ⟨⟨ch w,List.mem_map.mpr ⟨w,hw,rfl⟩,?_,?_⟩,(eF ws k).mp hb⟩
   ·rw [e,k4]; exact List.take_prefix _ _
   ·rw [e,k4,List.length_take,aT]; omega
 ·rintro (h | ⟨⟨v,hv,hp,hl⟩,hg⟩)
  ·exact .inl (eS h)
  ·by_cases h0:ch k=[]
   ·exact .inl (eS h0)
   obtain ⟨w,hw,rfl⟩:=List.mem_map.mp hv
   right
   rw [aT,aT] at hl
   have h1:k.length≠0:=fun z=>h0 (jt z)
   refine ⟨w,hw,k.length - 1,by omega,eS ?_,(eF ws k).mpr hg⟩
   rw [k4,show 1 + (k.length - 1)=k.length by omega,← aT k]
   exact (List.prefix_iff_eq_take.mp hp)
noncomputable def Of (ss:List Str) (l:List Nat):Bool:=decide (l∈ss.map ch)
theorem k6 {ss:List Str} {k:Str}:Of ss (ch k)=true↔k∈ss:=by
 unfold Of
 rw [decide_eq_true_iff]
 constructor
 ·intro h
  obtain ⟨k',h1,h2⟩:=List.mem_map.mp h
  rw [← eS h2]
  exact h1
 ·intro h
  exact List.mem_map.mpr ⟨k,h,rfl⟩
theorem Fg {ws ss:List Str} (hp:ss.Perm (c4 ws "" ws)) (l:List Nat):Of ss l=true↔Pl (wl ws) l:=by
 have e:ch ⟨l.toArray⟩=l:=rfl
 rw [← e,k6,hp.mem_iff,mem_keys]
theorem uq {P:List Nat→Bool} (h0:P []=true):∀ {l:List Nat} {n:Nat},P (l.drop n)=true→(∀ m,m < n→P (l.drop m)=false)→jZ P l=l.drop n
 | [],n,_,_=>by simp [jZ]
 | a :: l,0,h1,_=>by
   unfold jZ
   rw [List.drop_zero] at h1
   rw [if_pos h1]
   rfl
 | a :: l,n + 1,h1,h2=>by
   have:=h2 0 (by omega)
   rw [List.drop_zero] at this
   unfold jZ
   rw [this,if_neg (by simp),List.drop_succ_cons]
   exact uq h0 (by simpa using h1) fun m hm=>by simpa using h2 (m + 1) (by omega)
theorem k7 {ss:List Str} (he:("":Str)∈ss) (r:Str):ch (lend ss r)=jZ (Of ss) (ch r):=by
 have hx:∃ n,n≤r.length∧ir r n∈ss∧∀ m,m < n→ir r m∉ss:=by
  have h1:∃ n,ir r n∈ss:=⟨r.length,by rw [oy]; exact he⟩
  have key:∀ k,(∃ n,n < k∧ir r n∈ss∧∀ m,m < n→ir r m∉ss)∨∀ m,m < k→ir r m∉ss:=by
   intro k
   induction k with
   | zero=>right; intro m hm; omega
   | succ k ih=>
     rcases ih with ⟨n,hn,h⟩ | h
     ·exact .inl ⟨n,by omega,h⟩
     ·by_cases hk:ir r k∈ss
      ·exact .inl ⟨k,by omega,hk,h⟩
      ·right
       intro m hm
       by_cases e:m=k
       ·rw [e]; exact hk
       ·exact h m (by omega)
  rcases key (r.length + 1) with ⟨n,hn,h⟩ | h
  ·exact ⟨n,by omega,h⟩
  ·exact absurd (by rw [oy]; exact he) (h r.length (by omega))
 obtain ⟨n,hn,hm,hl⟩:=hx
 unfold lend
 rw [y8 hm hl hn,pX]
 refine (uq (k6 (k:="").mpr he) ?_ fun m Td=>?_).symm
 ·rw [← pX]; exact k6.mpr hm
 ·rw [← pX]
  have:=hl m Td
  rw [← k6] at this
  simpa using this
section
variable {ws ss:List Str} {r:Str} {c:Nat}
theorem Fh (he:("":Str)∈ss):lend ss ""="":=by
 refine eS ?_
 rw [k7 he]
 rfl
theorem oA (hp:ss.Perm (c4 ws "" ws)) (hg:bears ws r=false):lend ss (lend ss r++⟨#[c]⟩)=lend ss (r++⟨#[c]⟩):=by
 have he:("":Str)∈ss:=hp.mem_iff.mpr (gp ws)
 refine eS ?_
 rw [k7 he,aE,k7 he,k7 he,aE]
 exact Aq (Fg hp) ((eF ws r).mp hg)
theorem mG (hp:ss.Perm (c4 ws "" ws)) (hg:bears ws r=false) (hw:∀ w∈ws,1≤w.length):bears ws (lend ss r++⟨#[c]⟩)=bears ws (r++⟨#[c]⟩):=by
 have he:("":Str)∈ss:=hp.mem_iff.mpr (gp ws)
 have kF:∀ w∈wl ws,w≠[]:=by
  intro w hm z
  obtain ⟨v,hv,rfl⟩:=List.mem_map.mp hm
  have:=hw v hv
  rw [← aT,z] at this
  simp at this
 have:=Dj (c:=c) (Fg hp) ((eF ws r).mp hg) kF
 rw [show [c]=ch (⟨#[c]⟩:Str) from rfl,← k7 he,← aE,← aE,← eF,← eF] at this
 cases h1:bears ws (lend ss r++⟨#[c]⟩) <;> cases h2:bears ws (r++⟨#[c]⟩) <;> simp [h1,h2] at this ⊢
theorem lK {a b:Str} (h:ch a <:+: ch b) (hg:bears ws b=false):bears ws a=false:=(eF ws a).mpr (((eF ws b).mp hg).sub h)
noncomputable def Te (ws:List Str) (e:Str):Bool:=ws.any fun w=>decide (e.length < w.length) && Txt.startswith w e
end
end Bs
namespace L2
open PySem PySem.Spec PyProof.Rows
section
variable {X:Cx}
noncomputable def Tf (K:PySem.W.Frag):V→Hp→VK→Prop:=fun x H Q=>∃ a xs,x=.ref a∧aK K H a xs∧∀ p,H p=none→Q (.ref p) (upd H p (.lst xs.reverse))
noncomputable def Zn (K:PySem.W.Frag) (te:TE):TE:=fun σ H Q=>te σ H fun x H1=>Tf K x H1 Q
end
noncomputable def Tg (z:Str):It:=⟨fun i _=>i < z.cps.size,fun i H x H'=>∃ T,H T=none∧x=.ref T∧H'=upd H T (.tup [.int (i:Nat),xV z i]),fun i _=>z.cps.size≤i⟩
section
variable {X:Cx}
noncomputable def Th (ta:TA):TI:=fun σ H R=>ta σ H fun vs H1=>∃ z,vs=[.str z]∧R (Tg z) H1
end
end L2
namespace Sx
open PySem L2
theorem Jk:bootBuiltins "max"=some (.builtin "max"):=by decide +kernel
end Sx
namespace Sx
open PySem L2 Bs
inductive Thing (H:Hp):V→Prop where
 | flat {v:V} (h:cP v=true):Thing H v
 | lst {a:Addr} {xs:List V} (h:H a=some (.lst xs)) (f:xs.all cP=true):Thing H (.ref a)
 | tup {a:Addr} {xs:List V} (h:H a=some (.tup xs)) (f:xs.all cP=true):Thing H (.ref a)
 | dic {a:Addr} (h:H a=some (.dK [])):Thing H (.ref a)
theorem Thing.same {H H':Hp} {v:V} (t:Thing H v) (s:a6 H H'):Thing H' v:=by
 cases t with
 | flat h=>exact .flat h
 | lst h f=>exact .lst (s _ _ h) f
 | tup h f=>exact .tup (s _ _ h) f
 | dic h=>exact .dic (s _ _ h)
section
variable {P:Program} {w:World} {K:PySem.W.Frag} {mg:Str→Option Value} {base:Heap} {f:Addr} {fd:FuncData}
noncomputable def Fi (CN:Addr) (v:V) (H:Hp) (E:XK):Prop:=∀ (d:Addr) (H':Hp),a6 H H'→H d=none→H' d=some (.xd [("place",v)])→E (.ref CN) (some d) H'
noncomputable def W5 (C CN:Addr):Sp:=fun vs H Q E=>∃ (x:Addr) (v:V) (g:Str) (ws ss ls:List Str),vs=[.ref x,v]∧ax C H x g ws ss ls∧Thing H v∧((∃ p,v=.str p∧p∈ss∧Q .non H)∨((∀ p∈ss,v≠.str p)∧Fi CN v H E))
noncomputable def Ti (C CN:Addr):Sp:=fun vs H Q E=>∃ (x:Addr) (v:V) (c:Nat) (g:Str) (ws ss ls:List Str),vs=[.ref x,v,.str ⟨#[c]⟩]∧ax C H x g ws ss ls∧Thing H v∧c∈ch g∧((∃ p,v=.str p∧p∈ss∧Q (sH ws ss p c) H)∨((∀ p∈ss,v≠.str p)∧Fi CN v H E))
end
end Sx
namespace PySem.SeqAt
open AutoSeq1 (wpAny_loadPart')
open MeetsSeq
section
variable {A:Around} {s:Shared}
end
end PySem.SeqAt
namespace L2
open PySem PySem.Spec PyProof.Rows Sx
section
variable {X:Cx}
noncomputable def QH (K:PySem.W.Frag):R2:=fun x y H Q=>∃ p ss,y=.ref p∧aK K H p (List.map V.str ss)∧Thing H x∧(((∃ k∈ss,x=.str k)∧Q (.bl false) H)∨((∀ k∈ss,x≠.str k)∧Q (.bl true) H))
end
end L2
namespace L2
open PySem PySem.Spec PyProof.Rows
section
variable {X:Cx}
end
theorem KQ (v:V):V.bl (decide (v=v))=V.bl true:=by simp
theorem KR (v:V):V.bl (!decide (v=v))=V.bl false:=by simp
end L2
namespace Bs
open PySem AC
theorem yd {ss:List Str} (he:("":Str)∈ss) (r:Str):lend ss r∈ss:=by
 rw [← k6,k7 he]
 exact qH (k6 (k:="").mpr he) _
theorem take_zero (r:Str):gn r 0="":=eS (by rw [k4]; rfl)
theorem take_all (r:Str):gn r r.length=r:=eS (by rw [k4,← aT,List.take_length])
theorem ur {ws:List Str} (hw:∀ w∈ws,1≤w.length):bears ws ""=false:=by
 refine (eF ws "").mpr fun w hm hi=>?_
 obtain ⟨v,hv,rfl⟩:=List.mem_map.mp hm
 have h1:=hw v hv
 have h2:=hi.length_le
 rw [aT] at h2
 have:(ch ("":Str)).length=0:=rfl
 omega
end Bs
namespace L2
open PySem Bs
end L2
namespace Sx
open PySem L2 Bs
theorem qI (g:Str) (b d q:Addr):(Dc g b d q).lookup ("signs":Str)=some (.str g):=by
 rw [← F7,aQ,if_neg (by decide +kernel),← put3,aQ,if_neg (by decide +kernel),← put2,aQ,if_neg (by decide +kernel),← KB,aQ,if_pos rfl]
section
variable {P:Program} {w:World} {K:PySem.W.Frag} {mg:Str→Option Value} {base:Heap} {f:Addr} {fd:FuncData}
noncomputable def KS (C:Addr):Sp:=fun vs H Q _=>∃ (x:Addr) (r g:Str) (ws ss ls:List Str),vs=[.ref x,.str r]∧ax C H x g ws ss ls∧(∀ c∈ch r,c∈ch g)∧∀ H',a6 H H'→Q .non H'
noncomputable def M5 (C:Addr):Sp:=fun vs H Q _=>∃ (x:Addr) (r g:Str) (ws ss ls:List Str),vs=[.ref x,.str r]∧ax C H x g ws ss ls∧(∀ c∈ch r,c∈ch g)∧bears ws r=false∧(∀ w∈ws,1≤w.length)∧∀ H',a6 H H'→Q (.str (lend ss r)) H'
noncomputable def Og (K:PySem.W.Frag):Sp:=fun vs H Q _=>∃ (r:Str) (a:Addr) (ws:List Str),vs=[.str r,.ref a]∧aK K H a (ws.map V.str)∧ws.length≤1000∧∀ H',a6 H H'→Q (.bl (!(ws.any fun w=>Txt.endswith r w))) H'
noncomputable def Tj (K:PySem.W.Frag):Sp:=fun vs H Q _=>∃ (r:Str) (a:Addr) (ws ss:List Str),vs=[.str r,.ref a]∧aK K H a (ws.map V.str)∧ss.Perm (c4 ws "" ws)∧(∀ w∈ws,w.length≤5)∧bears ws r=false∧r.length≤1000∧Q (.str (lend ss r)) H
noncomputable def Tl (K:PySem.W.Frag):Sp:=fun vs H Q _=>∃ (a b:Addr) (ns:List Int) (g:Str) (ws:List Str),vs=[.ref a,.str g,.ref b]∧aK K H a (ns.map V.int)∧aK K H b (ws.map V.str)∧jJ g∧ws.length≤6∧(∀ w∈ws,iq g w) ∧
 ∀ (r:Str) (H':Hp),a6 H H'→bears ws r=false→(∀ c∈ch r,c∈ch g)→r.length≤102→Q (.str r) H'
noncomputable def W6 (r:Str):V→V:=fun v=>match v with
 | .str w=>.bl (Txt.endswith r w)
 | _=>.non
end
end Sx
namespace L2
open PySem PySem.Spec PyProof.Rows
section
variable {X:Cx}
noncomputable def Tn (K:PySem.W.Frag):R2:=fun x y H Q=>∃ a b xs ys,x=.ref a∧y=.ref b∧jF K H a xs∧jF K H b ys∧xs.length=ys.length∧xs.all cP=true∧ys.all cP=true∧Q (.bl (ot xs ys)) H
end
end L2
namespace Bs
open PySem
theorem len_app (a b:Str):(a++b).length=a.length + b.length:=by rw [← aT,aE,List.length_append,aT,aT]
set_option genInjectivity false in
set_option genSizeOfSpec false in
structure Out (g r:Str) (i:Nat):Prop where
 at_:∃ c,(ch r)[i]?=some c∧c∉ch g
 lo:∀ j c,j < i→(ch r)[j]?=some c→c∈ch g
noncomputable def E7 (g r:Str):Prop:=∀ c∈ch r,c∈ch g
set_option genInjectivity false in
set_option genSizeOfSpec false in
structure Bad (ws:List Str) (r:Str) (n:Nat):Prop where
 lt:n < r.length
 good:bears ws (gn r n)=false
 bad:bears ws (gn r (n + 1))=true
theorem Out.lt {g r:Str} {i:Nat} (o:Out g r i):i < r.length:=by
 obtain ⟨c,h,_⟩:=o.at_
 rw [← aT]
 exact (List.getElem?_eq_some_iff.mp h).1
theorem Out.one {g r:Str} {i j:Nat} (o:Out g r i) (p:Out g r j):i=j:=by
 rcases Nat.lt_trichotomy i j with h | h | h
 ·obtain ⟨c,hc,hn⟩:=o.at_
  exact absurd (p.lo i c h hc) hn
 ·exact h
 ·obtain ⟨c,hc,hn⟩:=p.at_
  exact absurd (o.lo j c h hc) hn
theorem uv {ws:List Str} {r:Str} {i j:Nat} (h:i≤j) (hg:bears ws (gn r j)=false):bears ws (gn r i)=false:=by
 refine lK ?_ hg
 rw [k4,k4]
 exact (List.take_prefix_take_left h).isInfix
theorem Bad.one {ws:List Str} {r:Str} {n m:Nat} (a:Bad ws r n) (b:Bad ws r m):n=m:=by
 rcases Nat.lt_trichotomy n m with h | h | h
 ·have:=uv (j:=m) (i:=n + 1) h b.good
  rw [a.bad] at this; cases this
 ·exact h
 ·have:=uv (j:=n) (i:=m + 1) h a.good
  rw [b.bad] at this; cases this
theorem Bad.ex {ws:List Str} {r:Str} (hw:∀ w∈ws,1≤w.length) (h:bears ws r=true):∃ n,Bad ws r n:=by
 have key:∀ m,m≤r.length→bears ws (gn r m)=true→∃ n,Bad ws r n:=by
  intro m
  induction m with
  | zero=>intro _ q; rw [take_zero,ur hw] at q; cases q
  | succ m ih=>
    intro hm q
    cases e:bears ws (gn r m) with
    | true=>exact ih (by omega) e
    | false=>exact ⟨m,by omega,e,q⟩
 exact key r.length (Nat.le_refl _) (by rw [take_all]; exact h)
inductive Ask (g:Str) (ws ss:List Str) (r:Str):Int→Int→L2.V→Prop where
 | out {i:Nat} {way:Int} (h:Out g r i):Ask g ws ss r way 1 (.int (i:Nat))
 | W7 (h:E7 g r):Ask g ws ss r 0 0 (.bl (!bears ws r))
 | W8 (h:E7 g r) (hb:bears ws r=false):Ask g ws ss r 1 0 (.str (lend ss r))
 | bad {n:Nat} (h:E7 g r) (hb:Bad ws r n):Ask g ws ss r 1 2 (.int ((n:Nat) + 1))
end Bs
namespace Sx
open PySem L2 Bs
noncomputable def HV (CN:Addr) (nm:Str) (v:V) (H:Hp) (E:XK):Prop:=∀ (d:Addr) (H':Hp),a6 H H'→H d=none→H' d=some (.xd [(nm,v)])→E (.ref CN) (some d) H'
theorem none_of {H H':Hp} {d:Addr} (s:a6 H H') (h:H' d=none):H d=none:=by
 cases q:H d with
 | none=>rfl
 | some o=>rw [s _ _ q] at h; cases h
theorem HV.same {CN:Addr} {nm:Str} {v:V} {H H':Hp} {E:XK} (n:HV CN nm v H E) (s:a6 H H'):HV CN nm v H' E:=fun d H2 s2 h1 h2=>n d H2 (s.trans s2) (none_of s h1) h2
noncomputable def W9 (v:V):Prop:=∃ i:Int,v=.int i∧i.natAbs≤1000
noncomputable def QI (K:PySem.W.Frag) (C:Addr):Sp:=fun vs H Q _=>∃ (x dx:Addr) (g:Str) (a:Addr) (ws:List Str),vs=[.ref x,.str g,.ref a]∧H x=some (.ins C dx [])∧aK K H a (ws.map V.str)∧jJ g∧ws.length≤6∧(∀ w∈ws,iq g w) ∧
 ∀ (ss ls:List Str) (H':Hp),(∀ Wa:Hp,(∀ c o,H' c=some o→(H c=none∨c=x)→Wa c=some o)→ax C Wa x g ws ss ls)→(∀ b o,H b=some o→b≠x→H' b=some o)→Q .non H'
noncomputable def Jl (C CN:Addr):Sp:=fun vs H Q E=>∃ (x:Addr) (r g:Str) (ws ss ls:List Str),vs=[.ref x,.str r]∧ax C H x g ws ss ls∧r.length≤1000∧((E7 g r∧∀ H',a6 H H'→Q .non H')∨(∃ i,Out g r i∧HV CN "number" (.int (i:Nat)) H E))
noncomputable def M6 (C CN:Addr):Sp:=fun vs H Q E=>∃ (x:Addr) (r g:Str) (ws ss ls:List Str),vs=[.ref x,.str r]∧ax C H x g ws ss ls∧r.length≤1000∧ws.length≤6∧((E7 g r∧∀ H',a6 H H'→Q (.bl (!bears ws r)) H')∨(∃ i,Out g r i∧HV CN "number" (.int (i:Nat)) H E))
noncomputable def Oh (C CN CB:Addr):Sp:=fun vs H Q E=>∃ (x:Addr) (r g:Str) (ws ss ls:List Str),vs=[.ref x,.str r]∧ax C H x g ws ss ls∧r.length≤1000∧(∀ w∈ws,1≤w.length) ∧
 ((E7 g r∧bears ws r=false∧∀ H',a6 H H'→Q (.str (lend ss r)) H')∨(∃ n,E7 g r∧Bad ws r n∧HV CB "length" (.int ((n:Nat) + 1)) H E)∨(∃ i,Out g r i∧HV CN "number" (.int (i:Nat)) H E))
noncomputable def QJ (K:PySem.W.Frag):Sp:=fun vs H Q _=>∃ (r:Str) (a:Addr) (ws:List Str),vs=[.str r,.ref a]∧aK K H a (ws.map V.str)∧ws.length≤1000∧r.length≤1000∧(∀ w∈ws,1≤w.length) ∧
 (bears ws r=false→Q .non H)∧(∀ n,Bad ws r n→Q (.int ((n:Nat) + 1)) H)
noncomputable def Wb (C:Addr):Sp:=fun vs H Q _=>∃ (x:Addr) (r g:Str) (way:Int) (ws ss ls:List Str),vs=[.ref x,.str r,.int way]∧ax C H x g ws ss ls∧r.length≤1000∧ws.length≤6∧(∀ w∈ws,1≤w.length)∧(way=0∨way=1)∧(E7 g r∨∃ i,Out g r i) ∧
 ∀ (a:Int) (b:V) (p:Addr) (H':Hp),Ask g ws ss r way a b→a6 H H'→H' p=some (.tup [.int a,b])→Q (.ref p) H'
noncomputable def QK (K:PySem.W.Frag) (C:Addr):Sp:=fun vs H Q _=>∃ (x lw:Addr) (r g:Str) (o:V) (ws ss ls:List Str),vs=[.ref x,.str r,.ref lw,o]∧ax C H x g ws ss ls∧aK K H lw (ws.map V.str)∧r.length≤1000∧ws.length≤6∧(∀ w∈ws,1≤w.length) ∧
 ((o=.non∧E7 g r)∨(∃ i:Nat,o=.int (i:Nat)∧Out g r i))∧∀ H',a6 H H'→Q (.bl true) H'
noncomputable def To (K:PySem.W.Frag):Sp:=fun vs H Q _=>∃ (a:Addr) (ns:List Int) (g:Str),vs=[.ref a,.str g]∧aK K H a (ns.map V.int)∧ns.length≤63∧jJ g∧∀ (r:Str) (H':Hp),E7 g r→r.length≤200→a6 H H'→Q (.str r) H'
end Sx
namespace Bs
open PySem
end Bs
namespace Sx
open PySem L2 Bs
end Sx
namespace L2
open PySem
end L2
namespace L2
open PySem PySem.Spec PyProof.Rows
section
variable {X:Cx}
theorem mH:∀ {ns:List Int} {its:List Value},Vals (ns.map V.int) its→∃ xs:List (Int×Tok),its=xs.map (fun p=>Value.int p.1 p.2)∧xs.map (·.1)=ns
 | [],its,r=>by cases r; exact ⟨[],rfl,rfl⟩
 | n :: ns,its,r=>by
   cases r with
   | cons h t=>
     obtain ⟨tk,rfl⟩:=h
     obtain ⟨xs,rfl,e⟩:=mH t
     exact ⟨(n,tk) :: xs,rfl,by rw [List.map_cons,e]⟩
theorem kZ (hc:X.calm=true):fK X (.builtin "sum") (fun xs H Q=>∃ p ns,xs=[.ref p]∧aK X.K H p (List.map V.int ns)∧Q (.int ns.sum) H):=by
 intro pins s σ H xs us Q I r h
 obtain ⟨p,ns,rfl,hq,q⟩:=h
 obtain ⟨u,rfl,rx⟩:=vals1 r
 cases rx
 obtain ⟨its,rv,pl,hz⟩:=I.list hq
 obtain ⟨ys,e,rfl⟩:=mH rv
 have hl:s.heap.IsList p (intItems ys.toArray):=by
  have:intItems ys.toArray=its.toArray:=by rw [e]; unfold intItems; simp
  rw [this]
  exact pl.isList
 refine sum_intListG (I.ok.hd hc) hl fun h' tk t' hk=>?_
 refine ⟨.int _,H,I.kept hk,⟨t',?_⟩,q⟩
 rw [preSum_eq,List.take_of_length_le (by simp)]
end
end L2
namespace L2
open PySem PySem.Spec PyProof.Rows
theorem Inv.freeze {X:Cx} {pins:List (Addr×Obj)} {σ:St} {H:Hp} {s:Shared} {d:Addr} {kvs:List (Key×V)} (I:Inv X pins σ H s) (e:H d=some (.dK kvs)):∃ o,s.heap.get? d=some o∧Inv X pins σ (upd H d (.frz o (.dK kvs))) s:=by
 have ok:=I.bt d _ e
 obtain ⟨z,y,vs,rel,o,es,ep,h1,h2⟩:=id ok
 refine ⟨o,h1,?_⟩
 exact I.write (x:=d) (e:=d) (h':=s.heap) (t':=s.toks) (by rw [e]; exact trivial) (.inl rfl) (fun b u _ hu=>hu) ⟨_,h1⟩ ⟨h1,ok⟩
noncomputable def HW (d:Addr) (o:Obj) (kvs:List (Key×V)):It:=⟨fun i H=>H d=some (.frz o (.dK kvs))∧i < kvs.length,fun i H x H'=>H'=H∧∃ kv,kvs[i]?=some kv∧x=kV kv.1,fun i H=>H d=some (.frz o (.dK kvs))∧kvs.length≤i⟩
theorem lM (d:Addr) (o:Obj) (kvs:List (Key×V)):nq (HW d o kvs) (fun H=>H d=some (.frz o (.dK kvs))) (kvs.map fun kv=>kV kv.1) where
 go:=fun i H ok h=>⟨ok,by rwa [List.length_map] at h⟩
 xr:=fun i H x H' ok h q=>by
  obtain ⟨rfl,kv,e,rfl⟩:=q
  refine ⟨rfl,?_⟩
  rw [List.getElem?_map,e]
  rfl
 stop:=fun H ok=>⟨ok,by rw [List.length_map]; exact Nat.le_refl _⟩
theorem Fj {κ:Type}:∀ {kvs:List (κ×V)} {vs:List (κ×Value)},KV kvs vs→∀ {i:Nat} {p:κ×V},kvs[i]?=some p→∃ q,vs[i]?=some q∧p.1=q.1∧RelV p.2 q.2
 | _,_,.nil,i,p,h=>by simp at h
 | _,_,.cons r t,i,p,h=>by
   cases i with
   | zero=>exact ⟨_,rfl,by have:=Option.some.inj h; subst this; exact r⟩
   | succ i=>exact Fj t h
theorem Ar {X:Cx} {pins:List (Addr×Obj)} {σ:St} {H:Hp} {s:Shared} {d:Addr} {o:Obj} {kvs:List (Key×V)} {es:Array DictEntry} {ep:Nat} (I:Inv X pins σ H s) (e:H d=some (.frz o (.dK kvs))) (ho:o.data=.dict es ep) :
 ∃ vs,KV kvs vs∧s.heap.DictAt (bq X.prog X.w) d vs ep:=by
 obtain ⟨h1,_⟩:=I.bt d _ e
 obtain ⟨_,_,vs,rel,o',JV,MJ,q1,q2,q3,q4⟩:=kQ I.bt (.inr ⟨o,e⟩)
 refine ⟨vs,rel,o',JV,q1,q2,?_,q4⟩
 rw [h1] at q1
 cases q1
 rw [q3] at ho
 cases ho
 exact q3
theorem Dk {P:Program} {w:World} {K:PySem.W.Frag} {tg:Expr} (d it:Addr) (o:Obj) (kvs:List (Key×V)) (es:Array DictEntry) (ep:Nat) (ho:o.data=.dict es ep):Turn P w K tg (HW d o kvs) [it] it (fun i h=>h.IsKeyIter it d i kvs.length ep) where
 mem:=by simp
 obj:=fun i h st b hb=>by
  have e:b=it:=by simpa using hb
  subst e
  obtain ⟨o,e,c,dd⟩:=st
  exact ⟨o,e,fun v z=>by rw [dd] at z; cases z⟩
 keep:=fun i h h' st k=>st.at fun o e=>k it (by simp) o e
 item:=by
  intro X hP hw hK hc i pins s σ H E I hf st hg
  subst hP hw hK
  obtain ⟨hq,hi⟩:=hg
  obtain ⟨vs,rel,xx⟩:=Ar I hq ho
  have hx:kvs[i]?=some kvs[i]:=by simp [hi]
  obtain ⟨⟨k,v⟩,hv,e1,_⟩:=Fj rel hx
  obtain ⟨f0,f1,f2,f3,f4,f5⟩:=hf it (by simp)
  rw [rel.length] at st
  refine wpAny_pyNext_dict_item st xx hv fun key h' K6 zC sb=>?_
  have I1:Inv X pins σ H { s with heap:=h' }:=I.turned (t':=s.toks) (fun b o hb e=>(sb.2 b hb).trans e) f0 f1 f3 f4 f5
  obtain ⟨oi,e,c,dd⟩:=id zC
  rw [← rel.length] at zC
  refine ⟨key,rfl,BO (s:={ s with heap:=h' }) e c dd (by decide) ⟨kV kvs[i].1,H,I1,?_,⟨rfl,_,hx,rfl⟩,zC,fun b hb=>(hf b hb).1⟩⟩
  have e':kvs[i].1=k:=e1
  rw [e']
  rcases bU K6 with ⟨i,t,rfl,rfl⟩ | ⟨y,t,rfl,rfl⟩
  ·exact ⟨t,rfl⟩
  ·exact ⟨t,rfl⟩
 done:=by
   intro X hP hw hK hc i pins s σ H E I hf st hg
   subst hP hw hK
   obtain ⟨hq,hi⟩:=hg
   obtain ⟨vs,rel,xx⟩:=Ar I hq ho
   obtain ⟨f0,f1,f2,f3,f4,f5⟩:=hf it (by simp)
   rw [rel.length] at st hi
   exact wpAny_pyNext_dict_end (I.ok.hd hc) st xx (by simp; omega) fun h' eb=>⟨rfl,I.turned (t':=s.toks) (fun b o hb e=>eb b o hb e) f0 f1 f3 f4 f5⟩
 self:=fun _ _ _ _ _ st h=>wpAny_pyIter_keyiter st h
section
variable {X:Cx} {tg:Expr}
noncomputable def Oi (tl:TE):TI:=fun σ H R=>tl σ H fun x H1=>∃ d kvs,x=.ref d∧((H1 d=some (.dK kvs)∧∀ o,R (HW d o kvs) (upd H1 d (.frz o (.dK kvs))))∨∃ o,H1 d=some (.frz o (.dK kvs))∧R (HW d o kvs) H1)
theorem k8 {l:Expr} {tl:TE} (hl:PE X l tl):PI X tg l (Oi tl):=by
 intro pins s σ H R I h
 refine cg (hl pins s σ H _ I h) fun v s1 ⟨x,H1,I1,r1,q1⟩=>?_
 obtain ⟨d,kvs,e,q⟩:=q1
 subst e
 cases r1
 have key:∀ {H2:Hp} {o:Obj},Inv X pins σ H2 s1→H2 d=some (.frz o (.dK kvs))→R (HW d o kvs) H2→wpAny (model X.prog X.w) X.A (pyIter (.ref d)) (Qn X pins σ tg R) X.xe s1:=fun {H2 o} I2 hd q2=>by
  obtain ⟨hz,lo,Yy,Zo,o',es,ep,q1,q3,q4,q5⟩:=kQ I2.bt (.inr ⟨o,hd⟩)
  obtain ⟨h1,_⟩:=I2.bt d _ hd
  rw [h1] at q1
  cases q1
  obtain ⟨vs,rel,xx⟩:=Ar I2 hd q4
  refine wpAny_pyIter_dict lo xx ?_
  refine ⟨s1.heap.objs.size,[s1.heap.objs.size],_,_,H2,rfl,I2.kept (t':=s1.toks) fun b o e=>Heap.get?_push_of_some _ e,Dk d _ o kvs es ep q4,⟨_,Heap.get?_push_size _ rfl,rfl,by rw [rel.length]; rfl⟩,fun b hb=>?_,q2⟩
  have e:b=s1.heap.objs.size:=by simpa using hb
  subst e
  exact I2.Ek (Nat.le_refl _) (I2.bt.fresh (Nat.le_refl _))
 rcases q with ⟨hd,q⟩ | ⟨o,hd,q⟩
 ·obtain ⟨o,ho,I2⟩:=I1.freeze hd
  exact key I2 a9 (q o)
 ·exact key I1 hd q
end
end L2
namespace L2
open PySem Bs
theorem fq.f {H:Hp} {a:Addr} {o:Obj} {kvs:List (Key×V)} {k:Key} (e:H a=some (.frz o (.dK kvs))):fq H a (kV k) (bK kvs k):=.inl ⟨kvs,k,.inr ⟨o,e⟩,rfl,rfl⟩
noncomputable def k9 (g:Str) (ws ss:List Str) (p:Str):List Str:=(ch g).filterMap fun c=>if bears ws (p++⟨#[c]⟩)=true then none else some (lend ss (p++⟨#[c]⟩))
noncomputable def Tp (v:V):Bool:=!decide (v=.non)
noncomputable def cO (g:Str) (ws ss:List Str):Nat→Str→Int
 | 0,_=>1
 | n + 1,p=>((k9 g ws ss p).map (cO g ws ss n)).sum
noncomputable def Tq (f:Str→V) (ks:List Str):List (Key×V):=ks.map fun p=>((Sum.inr p:Key),f p)
theorem nB {ss:List Str} (nd:ss.Nodup) {i:Nat} {p:Str} (h:ss[i]?=some p):p∉ss.take i:=by
 intro hm
 obtain ⟨j,hj,ej⟩:=List.mem_iff_getElem.mp hm
 rw [List.getElem_take] at ej
 rw [List.length_take] at hj
 have e1:=(List.getElem?_eq_some_iff.mp h).2
 have:=(List.getElem_inj nd).mp (ej.trans e1.symm)
 omega
noncomputable abbrev HX (g:Str) (ws ss:List Str) (n:Nat):List (Key×V):=Tq (fun p=>.int (cO g ws ss n p)) ss
noncomputable def gMv (ws ss:List Str) (p:Str):V→V:=fun v=>match v with
 | .str z=>sH ws ss p (z.cps.getD 0 0)
 | _=>.non
noncomputable def Fl (f:Str→Int):V→V:=fun v=>match v with
 | .str z=>.int (f z)
 | _=>.non
theorem lN (f:Str→Int) (es:List Str):(es.map V.str).map (Fl f)=(es.map f).map V.int:=by
 rw [List.map_map,List.map_map]
 rfl
end L2
namespace Sx
open PySem L2 Bs
noncomputable def KU (C:Addr):Sp:=fun vs H Q _=>∃ (x:Addr) (p g:Str) (ws ss ls:List Str),vs=[.ref x,.str p]∧ax C H x g ws ss ls∧p∈ss∧g.length≤10 ∧
 ∀ (l:Addr) (H':Hp),a6 H H'→H l=none→H' l=some (.lst ((k9 g ws ss p).map V.str))→Q (.ref l) H'
noncomputable def M7 (C:Addr):Sp:=fun vs H Q _=>∃ (x:Addr) (g:Str) (ws ss ls:List Str),vs=[.ref x]∧ax C H x g ws ss ls∧g.length≤10∧ss.length≤900 ∧
 ∀ (d:Addr) (ev:List (Str×Addr)) (H':Hp),a6 H H'→H d=none→H' d=some (.dK (aY ev))→ev.map (·.1)=ss→(∀ m∈ev,H' m.2=some (.lst ((k9 g ws ss m.1).map V.str)))→(∀ m∈ev,H m.2=none)→Q (.ref d) H'
noncomputable def QL (C:Addr):Sp:=fun vs H Q _=>∃ (x:Addr) (n:Int) (g:Str) (ws ss ls:List Str),vs=[.ref x,.int n]∧ax C H x g ws ss ls∧g.length≤10∧ss.length≤900∧0≤n∧n≤100000 ∧
 ∀ (l:Addr) (ts:List Addr) (H':Hp),a6 H H'→H l=none→H' l=some (.lst (ts.map V.ref))→ts.length=n.toNat + 1→(∀ i t,ts[i]?=some t→H' t=some (.dK (HX g ws ss i)))→Q (.ref l) H'
noncomputable def Oj (C CN:Addr):Sp:=fun vs H Q E=>∃ (x:Addr) (v:V) (n:Int) (g:Str) (ws ss ls:List Str),vs=[.ref x,v,.int n]∧ax C H x g ws ss ls∧g.length≤10∧ss.length≤900∧0≤n∧n≤100000∧Thing H v ∧
 ((∃ p,v=.str p∧p∈ss∧∀ H',a6 H H'→Q (.int (cO g ws ss n.toNat p)) H')∨((∀ p∈ss,v≠.str p)∧Fi CN v H E))
noncomputable def QM (C:Addr):Sp:=fun vs H Q _=>∃ (x:Addr) (n:Int) (g:Str) (ws ss ls:List Str),vs=[.ref x,.int n]∧ax C H x g ws ss ls∧g.length≤10∧ss.length≤900∧0≤n∧n≤100000 ∧
 ∀ H',a6 H H'→Q (.int (cO g ws ss n.toNat "")) H'
end Sx
namespace L2
open PySem PySem.Spec PyProof.Rows
section
variable {X:Cx}
noncomputable def Zq:LU:=fun x y H Q=>∃ i j,x=.int i∧y=.int j∧GX i j∧Q (.int (i * j)) H
theorem KW:RP X .Mult Zq:=by
 intro pins s σ H x y v u Q I r1 r2 h
 obtain ⟨i,j,e1,e2,hc,q⟩:=h
 subst e1; subst e2
 obtain ⟨t,rfl⟩:=r1
 obtain ⟨t',rfl⟩:=r2
 exact imul_int ⟨.int _,H,I.tok _,⟨_,rfl⟩,q⟩ hc.ok
end
end L2
namespace Sx
open PySem L2 Bs
noncomputable def Fm:Sp:=fun vs H Q _=>∃ i:Int,vs=[.int i]∧Q (.bl true) H
noncomputable def Dl (C:Addr):Sp:=fun vs H Q _=>∃ (x:Addr) (n:Int) (g:Str) (ws ss ls:List Str),vs=[.ref x,.int n]∧ax C H x g ws ss ls∧g.length≤10∧0≤n∧n≤10∧Q (.int ((g.length:Int) ^ n.toNat)) H
set_option genInjectivity false in
set_option genSizeOfSpec false in
structure gX (m:Nat) (many wide:Int):Prop where
 a:2≤many
 b:many≤8
 c:1≤wide
 d:wide≤6
 e:(m:Int) ^ wide.toNat≤64
noncomputable def ye (C:Addr):Sp:=fun vs H Q _=>∃ (x:Addr) (many wide:Int) (g:Str) (ws ss ls:List Str),vs=[.ref x,.int many,.int wide]∧ax C H x g ws ss ls∧g.length≤10∧gX g.length many wide∧Q (.bl true) H
noncomputable def Ol (C:Addr):Sp:=fun vs H Q _=>∃ (x:Addr) (many wide most:Int) (g:Str) (ws ss ls:List Str),vs=[.ref x,.int many,.int wide,.int most]∧ax C H x g ws ss ls∧g.length≤10∧ss.length≤900∧gX g.length many wide∧0≤most∧most≤100 ∧
 (∀ k:Nat,1≤k→(k:Int)≤most→cO g ws ss (k * wide.toNat) "" < many ^ k→(∀ j:Nat,1≤j→j < k→¬ cO g ws ss (j * wide.toNat) "" < many ^ j)→∀ H',a6 H H'→Q (.int (k:Nat)) H') ∧
 ((∀ j:Nat,1≤j→(j:Int)≤most→¬ cO g ws ss (j * wide.toNat) "" < many ^ j)→∀ H',a6 H H'→Q .non H')
end Sx
namespace L2
open PySem PySem.Spec PyProof.Rows
theorem Om:bootBuiltins "abs"=some (.builtin "abs"):=by decide +kernel
theorem Fn (ns:List Int) (lo hi:Option Int):∃ ms:List Int,uR (ns.map V.int) lo hi=ms.map V.int∧ms.length≤ns.length:=by
 refine ⟨_,by unfold uR; rw [← List.map_drop,← List.map_take],?_⟩
 rw [List.length_take,List.length_drop]
 omega
section
variable {X:Cx}
noncomputable def Tr (K:PySem.W.Frag):R2:=fun x y H Q=>∃ a b xs ys,x=.ref a∧y=.ref b∧aK K H a xs∧aK K H b ys∧xs.all cP=true∧ys.all cP=true∧Q (.bl (!ot xs ys)) H
theorem Fo (hu:X.A.units < cLine):n9 X (compareOp .NotEq) (Tr X.K):=by
 intro pins s σ H x y v u Q I rx ry h
 obtain ⟨a,b,xs,ys,rfl,rfl,ha,hb,fx,fy,q⟩:=h
 cases rx
 cases ry
 obtain ⟨its,r1,p1,_⟩:=I.list ha
 obtain ⟨jH,r2,p2,_⟩:=I.list hb
 have e1:=r1.length
 have e2:=r2.length
 by_cases hl:xs.length=ys.length
 ·refine SeqAt.RcNeAt.lists (e:=fun j=>qg (xs.getD j .non) (ys.getD j .non)) p1.isList p2.isList (by simp only [List.size_toArray]; omega) hu (fun j h1 h2=>?_) X.prog X.w _ _ ?_
  ·have CY:j < its.length:=by simpa using h1
   have LZ:j < jH.length:=by simpa using h2
   have hx:xs[j]?=some (xs.getD j .non):=by rw [List.getD_eq_getElem?_getD]; simp [show j < xs.length by omega]
   have hy:ys[j]?=some (ys.getD j .non):=by rw [List.getD_eq_getElem?_getD]; simp [show j < ys.length by omega]
   obtain ⟨u1,q1,w1⟩:=r1.get hx
   obtain ⟨u2,q2,w2⟩:=r2.get hy
   have g1:its.toArray[j]=u1:=by
    have:its[j]?=some its[j]:=by simp [CY]
    rw [this] at q1
    simpa using Option.some.inj q1
   have g2:jH.toArray[j]=u2:=by
    have:jH[j]?=some jH[j]:=by simp [LZ]
    rw [this] at q2
    simpa using Option.some.inj q2
   rw [g1,g2]
   exact qh w1 w2 (List.all_eq_true.mp fx _ (List.mem_of_getElem? hx)) (List.all_eq_true.mp fy _ (List.mem_of_getElem? hy))
  ·rw [mE hl] at q
   refine ⟨.bl _,H,I,rfl,?_⟩
   rw [List.size_toArray,← e1]
   exact q
 ·refine SeqAt.RcNeAt.lists_lengths p1.isList p2.isList (by simp only [List.size_toArray,bne_iff_ne]; omega) hu X.prog X.w _ _ ⟨.bl true,H,I,rfl,?_⟩
  rw [xZ hl] at q
  exact q
end
end L2
namespace Bs
open PySem L2
noncomputable def p5 (st sp n:Nat):List Nat:=(List.range n).map fun k=>(ch gm).getD ((st + k * sp) % 36) 0
theorem KY:∀ st:Fin 36,∀ sp∈[1,5,7,11,13,17],∀ n∈[2,3,4],((p5 st sp n).Nodup∧∀ c∈p5 st sp n,c∈ch gm):=by decide +kernel
theorem yf {st sp n:Nat} {x:Str} (h1:st < 36) (hs:sp∈[1,5,7,11,13,17]) (hn:n∈[2,3,4]) (hx:ch x=p5 st sp n):jJ x:=by
 obtain ⟨a,b⟩:=KY ⟨st,h1⟩ sp hs n hn
 have hl:x.length=n:=by rw [← aT,hx]; unfold p5; rw [List.length_map,List.length_range]
 have Qj:n=2∨n=3∨n=4:=by simpa using hn
 exact ⟨by omega,by omega,by rw [hx]; exact a,by rw [hx]; exact b⟩
theorem qJ {P:Nat→Prop}:∀ {ts:List Str},(∀ t∈ts,∃ c,t=⟨#[c]⟩∧P c)→(ts.map (·.length)).sum=ts.length
 | [],_=>rfl
 | t :: ts,h=>by
   obtain ⟨c,rfl,_⟩:=h t (List.mem_cons_self ..)
   rw [List.map_cons,List.sum_cons,qJ fun t h'=>h t (List.mem_cons_of_mem _ h'),List.length_cons]
   show 1 + ts.length=_
   omega
theorem Fp {P:Nat→Prop} {z:Str} (hz:z.length=0) {ts:List Str} (h:∀ t∈ts,∃ c,t=⟨#[c]⟩∧P c):(Txt.join z ts).length=ts.length:=by
 rw [← aT,ou hz,List.length_flatten,List.map_map]
 have e:=qJ h
 rw [← e]
 congr 1
theorem Fq {g a b:Str} {k:Nat} (ha:iq g a) (hb:iq g b) (hk:k≤4):iq g (Txt.slice a none (some (k:Int))++Txt.slice b none (some 1))∧(Txt.slice a none (some (k:Int))++Txt.slice b none (some 1)).length≤k + 1:=by
 have e1:ch (Txt.slice a none (some (k:Int)))=(ch a).take k:=qw a k
 have e2:ch (Txt.slice b none (some ((1:Nat):Int)))=(ch b).take 1:=qw b 1
 have e3:ch (Txt.slice a none (some (k:Int))++Txt.slice b none (some 1))=(ch a).take k++(ch b).take 1:=by rw [aE,e1]; congr 1
 have Qz:=hb.lo
 have l:(Txt.slice a none (some (k:Int))++Txt.slice b none (some 1)).length=min k a.length + min 1 b.length:=by rw [← aT,e3,List.length_append,List.length_take,List.length_take,aT,aT]
 refine ⟨⟨by omega,by omega,fun c hc=>?_⟩,by omega⟩
 rw [e3] at hc
 rcases List.mem_append.mp hc with z | z
 ·exact ha.sub c (List.mem_of_mem_take z)
 ·exact hb.sub c (List.mem_of_mem_take z)
noncomputable def HY (st sp:Nat):V→V:=fun v=>match v with
 | .int k=>.str ⟨#[(ch gm).getD ((st + k.toNat * sp) % 36) 0]⟩
 | _=>.non
end Bs
namespace Sx
open PySem L2 Bs
noncomputable def Oo (K:PySem.W.Frag):Sp:=fun vs H Q _=>∃ (a:Addr) (ns:List Int) (p:Int),vs=[.ref a,.int p]∧aK K H a (ns.map V.int)∧∀ (c:Int) (H':Hp),a6 H H'→Q (.int c) H'
noncomputable def Fs (K:PySem.W.Frag):Sp:=fun vs H Q _=>∃ (a:Addr) (ns:List Int) (p:Int) (g:Str) (m n:Int),vs=[.ref a,.int p,.str g,.int m,.int n]∧aK K H a (ns.map V.int)∧0≤m∧m≤100∧1≤n∧n≤5∧1≤g.length∧g.length≤4 ∧
 ∀ (l:Addr) (ws:List Str) (H':Hp),a6 H H'→H l=none→H' l=some (.lst (ws.map V.str))→ws.length≤4→(∀ w∈ws,iq g w∧(w.length:Int)≤n)→Q (.ref l) H'
noncomputable def KZ:Sp:=fun vs H Q _=>∃ (c:Int) (g:Str),vs=[.int c,.str g]∧2≤g.length∧g.length≤4 ∧
 ∀ (p:Addr) (many wide:Int) (H':Hp),a6 H H'→H p=none→H' p=some (.tup [.int many,.int wide])→gX g.length many wide→Q (.ref p) H'
end Sx
namespace Bs
noncomputable def yg (k:Nat) (l:List Nat):List Nat:=l.drop (l.length - k)
theorem Dm (k:Nat) (l:List Nat):yg k l <:+ l:=List.drop_suffix _ _
theorem Dn (k:Nat) (l:List Nat):(yg k l).length≤k:=by unfold yg; rw [List.length_drop]; omega
theorem jO {α:Type} [DecidableEq α]:∀ {ks l:List α},ks.Nodup→(∀ k∈ks,k∈l)→ks.length≤l.length
 | [],l,_,_=>Nat.zero_le _
 | k :: ks,l,nd,h=>by
   rw [List.nodup_cons] at nd
   have hk:=h k (List.mem_cons_self ..)
   have:=jO (l:=l.erase k) nd.2 fun j hj=>(List.mem_erase_of_ne (fun z=>nd.1 (by rw [← z]; exact hj))).mpr (h j (List.mem_cons_of_mem _ hj))
   rw [List.length_erase_of_mem hk] at this
   have:0 < l.length:=List.length_pos_of_mem hk
   rw [List.length_cons]
   omega
noncomputable def lg (cs:List Nat):Nat→List (List Nat)
 | 0=>[[]]
 | n + 1=>[] :: cs.flatMap fun c=>(lg cs n).map (c :: ·)
theorem uw (cs:List Nat):∀ (n:Nat) (l:List Nat),l.length≤n→(∀ c∈l,c∈cs)→l∈lg cs n
 | 0,l,h,_=>by
   rw [List.eq_nil_of_length_eq_zero (Nat.le_zero.mp h)]
   exact List.mem_singleton.mpr rfl
 | n + 1,[],_,_=>List.mem_cons_self ..
 | n + 1,c :: l,h,hc=>by
   refine List.mem_cons_of_mem _ (List.mem_flatMap.mpr ⟨c,hc c (List.mem_cons_self ..),List.mem_map.mpr ⟨l,?_,rfl⟩⟩)
   exact uw cs n l (by rw [List.length_cons] at h; omega) fun d hd=>hc d (List.mem_cons_of_mem _ hd)
theorem nC {α β:Type} (f:α→List β) (b:Nat):∀ (cs:List α),(∀ c∈cs,(f c).length≤b)→(cs.flatMap f).length≤cs.length * b
 | [],_=>Nat.zero_le _
 | c :: cs,h=>by
   rw [List.flatMap_cons,List.length_append,List.length_cons,Nat.succ_mul]
   have:=nC f b cs fun d hd=>h d (List.mem_cons_of_mem _ hd)
   have:=h c (List.mem_cons_self ..)
   omega
theorem lO (cs:List Nat) (h:cs.length≤4):∀ n b b',(lg cs n).length≤b→b'=1 + 4 * b→(lg cs (n + 1)).length≤b':=by
 intro n b b' hb E6
 unfold lg
 rw [List.length_cons]
 have h1:=nC (fun c=>(lg cs n).map (c :: ·)) b cs fun c _=>by rw [List.length_map]; exact hb
 have h2:cs.length * b≤4 * b:=Nat.mul_le_mul_right _ h
 omega
theorem L1 (cs:List Nat) (h:cs.length≤4):(lg cs 4).length≤341:=
 lO cs h 3 85 _ (lO cs h 2 21 _ (lO cs h 1 5 _ (lO cs h 0 1 _ (Nat.le_refl 1) rfl) rfl) rfl) rfl
section
variable {κ:Type} [DecidableEq κ]
noncomputable def bump:List (κ×Int)→κ→Int→List (κ×Int)
 | [],k,v=>[(k,v)]
 | (j,u) :: m,k,v=>if j=k then (j,u + v) :: m else (j,u) :: bump m k v
noncomputable def wsum (F:κ→Int) (m:List (κ×Int)):Int:=(m.map fun p=>p.2 * F p.1).sum
theorem fA (k:κ) (v:Int):∀ m:List (κ×Int),(bump m k v).map (·.1)=if k∈m.map (·.1) then m.map (·.1) else m.map (·.1)++[k]
 | []=>rfl
 | (j,u) :: m=>by
   unfold bump
   by_cases h:j=k
   ·rw [if_pos h,if_pos (by rw [List.map_cons,h]; exact List.mem_cons_self ..)]
    rfl
   ·rw [if_neg h,List.map_cons,fA k v m,List.map_cons]
    by_cases hk:k∈m.map (·.1)
    ·rw [if_pos hk,if_pos (List.mem_cons_of_mem _ hk)]
    ·rw [if_neg hk,if_neg]
     ·rfl
     ·intro z
      rcases List.mem_cons.mp z with z | z
      ·exact h z.symm
      ·exact hk z
end
end Bs
namespace Bs
open PySem L2 AC
variable {ws ss:List Str}
noncomputable def Dp (L:Nat) (r:Str):Str:=ir r (r.length - (L - 1))
theorem C9 (L:Nat) (r:Str):ch (Dp L r)=yg (L - 1) (ch r):=by unfold Dp yg; rw [pX,aT]
noncomputable def HZ (ws:List Str) (L:Nat) (e:Str) (v:Int) (m:List (Str×Int)) (c:Nat):List (Str×Int):=if bears ws (e++⟨#[c]⟩)=true then m else bump m (Dp L (e++⟨#[c]⟩)) v
noncomputable def Oq (g:Str) (ws:List Str) (L:Nat) (m:List (Str×Int)) (p:Str×Int):List (Str×Int):=(ch g).foldl (HZ ws L p.1 p.2) m
noncomputable def Ot (g:Str) (ws:List Str) (L:Nat) (hs:List (Str×Int)):List (Str×Int):=hs.foldl (Oq g ws L) []
noncomputable def Jm (g:Str) (ws:List Str) (L:Nat):Nat→List (Str×Int)
 | 0=>[("",1)]
 | n + 1=>Ot g ws L (Jm g ws L n)
noncomputable def Zr (ws:List Str) (L:Nat) (F:Str→Int) (e:Str) (c:Nat):Int:=if bears ws (e++⟨#[c]⟩)=true then 0 else F (Dp L (e++⟨#[c]⟩))
noncomputable def Zt (g:Str) (ws:List Str) (L:Nat):Nat→Str→Int
 | 0,_=>1
 | n + 1,e=>((ch g).map (Zr ws L (Zt g ws L n) e)).sum
theorem m7 (f:Nat→Option Str) (h:Str→Int):∀ cs:List Nat,((cs.filterMap f).map h).sum=(cs.map fun c=>(match f c with | none=>0 | some x=>h x)).sum
 | []=>rfl
 | c :: cs=>by
   rw [List.filterMap_cons,List.map_cons,List.sum_cons,← m7 f h cs]
   cases f c with
   | none=>simp
   | some x=>simp
set_option genInjectivity false in
set_option genSizeOfSpec false in
structure cj (g:Str) (L:Nat) (m:List (Str×Int)):Prop where
 nd:(m.map (·.1)).Nodup
 sh:∀ k∈m.map (·.1),(∀ c∈ch k,c∈ch g)∧k.length≤L - 1
theorem cj.nil (g:Str) (L:Nat):cj g L []:=⟨List.nodup_nil,fun k h=>nomatch h⟩
theorem cj.bump {g:Str} {L:Nat} {m:List (Str×Int)} (h:cj g L m) {k:Str} {v:Int} (hk:(∀ c∈ch k,c∈ch g)∧k.length≤L - 1):cj g L (bump m k v):=by
 by_cases hm:k∈m.map (·.1)
 ·exact ⟨by rw [fA,if_pos hm]; exact h.nd,by rw [fA,if_pos hm]; exact h.sh⟩
 ·refine ⟨?_,?_⟩
  ·rw [fA,if_neg hm]
   exact List.nodup_append.mpr ⟨h.nd,List.nodup_cons.mpr ⟨fun z=>(nomatch z),List.nodup_nil⟩,fun a ha b hb z=>hm (by rw [← List.mem_singleton.mp hb,← z]; exact ha)⟩
  ·rw [fA,if_neg hm]
   intro j hj
   rcases List.mem_append.mp hj with z | z
   ·exact h.sh j z
   ·rw [List.mem_singleton.mp z]
    exact hk
theorem Dq {g:Str} {L:Nat} {e:Str} {c:Nat} (he:∀ c∈ch e,c∈ch g) (hc:c∈ch g):(∀ d∈ch (Dp L (e++⟨#[c]⟩)),d∈ch g)∧(Dp L (e++⟨#[c]⟩)).length≤L - 1:=by
 refine ⟨fun d hd=>?_,by rw [← aT,C9]; exact Dn _ _⟩
 rw [C9] at hd
 have:=(Dm _ _).subset hd
 rw [aE] at this
 rcases List.mem_append.mp this with z | z
 ·exact he d z
 ·rw [vf] at z
  rw [List.mem_singleton.mp z]
  exact hc
theorem cj.add {g:Str} {L:Nat} {m:List (Str×Int)} (h:cj g L m) {e:Str} {v:Int} {c:Nat} (he:∀ c∈ch e,c∈ch g) (hc:c∈ch g):cj g L (HZ ws L e v m c):=by
 unfold HZ
 split
 ·exact h
 ·exact h.bump (Dq he hc)
theorem cj.fold {g:Str} {L:Nat} {e:Str} {v:Int} (he:∀ c∈ch e,c∈ch g):∀ {cs:List Nat} {m:List (Str×Int)},cj g L m→(∀ c∈cs,c∈ch g)→cj g L (cs.foldl (HZ ws L e v) m)
 | [],m,h,_=>h
 | c :: cs,m,h,hc=>cj.fold (cs:=cs) he (h.add he (hc c (List.mem_cons_self ..))) fun d hd=>hc d (List.mem_cons_of_mem _ hd)
theorem cj.steps {g:Str} {L:Nat}:∀ {hs m:List (Str×Int)},cj g L m→(∀ p∈hs,∀ c∈ch p.1,c∈ch g)→cj g L (hs.foldl (Oq g ws L) m)
 | [],m,h,_=>h
 | p :: hs,m,h,hc=>cj.steps (hs:=hs) (cj.fold (hc p (List.mem_cons_self ..)) h fun c hc=>hc) fun q hq=>hc q (List.mem_cons_of_mem _ hq)
theorem cj.here {g:Str} {L:Nat}:∀ n,cj g L (Jm g ws L n)
 | 0=>⟨List.nodup_cons.mpr ⟨fun z=>(nomatch z),List.nodup_nil⟩,fun k hk=>by
    rw [List.mem_singleton.mp hk]
    exact ⟨fun c hc=>(nomatch hc),Nat.zero_le _⟩⟩
 | n + 1=>cj.steps (cj.nil g L) fun p hp=>((cj.here n).sh p.1 (List.mem_map.mpr ⟨p,hp,rfl⟩)).1
theorem cj.len {g:Str} {L:Nat} {m:List (Str×Int)} (h:cj g L m) (hg:g.length≤4) (hL:L≤5):m.length≤341:=by
 have h1:((m.map (·.1)).map ch).Nodup:=by
  refine List.Pairwise.map _ ?_ h.nd
  intro a b Ts z
  exact Ts (eS z)
 have h2:=jO (l:=lg (ch g) 4) h1 fun k hk=>by
  obtain ⟨x,hx,rfl⟩:=List.mem_map.mp hk
  obtain ⟨a,b⟩:=h.sh x hx
  exact uw _ _ _ (by rw [aT]; omega) a
 have h3:=L1 (ch g) (by rw [aT]; exact hg)
 rw [List.length_map,List.length_map] at h2
 omega
noncomputable def bC (m:List (Str×Int)):List (Key×V):=m.map fun p=>((Sum.inr p.1:Key),V.int p.2)
theorem lP (m:List (Str×Int)):(bC m).length=m.length:=List.length_map ..
theorem As (m:List (Str×Int)):(bC m).map (fun kv=>kV kv.1)=(m.map (·.1)).map V.str:=by
 unfold bC
 rw [List.map_map,List.map_map]
 rfl
noncomputable def ku:List (Str×Int)→Str→Option Int
 | [],_=>none
 | (j,u) :: m,k=>if j=k then some u else ku m k
theorem fB (k:Str):∀ m:List (Str×Int),bK (bC m) (Sum.inr k:Key)=(ku m k).map V.int
 | []=>rfl
 | (j,u) :: m=>by
   unfold ku
   by_cases h:j=k
   ·rw [if_pos h,h]
    exact cE rfl
   ·rw [if_neg h,← fB k m]
    exact cF (fun z=>h (Sum.inr.inj z))
theorem qK {k:Str}:∀ {m:List (Str×Int)},k∉m.map (·.1)→ku m k=none
 | [],_=>rfl
 | (j,u) :: m,h=>by
   unfold ku
   rw [if_neg (fun z=>h (by rw [z]; exact List.mem_cons_self ..))]
   exact qK fun z=>h (List.mem_cons_of_mem _ z)
noncomputable def Wc (m:List (Str×Int)):V→V:=fun v=>match v with
 | .str k=>.int ((ku m k).getD 0)
 | _=>.non
end Bs
namespace L2
open PySem
theorem yh {H1:Hp} {d:Addr} {kvs:List (Key×V)} {R:It→Hp→Prop} (h:H1 d=some (.dK kvs)∨∃ o,H1 d=some (.frz o (.dK kvs)))
 (k:∀ o H',H' d=some (.frz o (.dK kvs))→(∀ c,c≠d→H' c=H1 c)→R (HW d o kvs) H') :
 (H1 d=some (.dK kvs)∧∀ o,R (HW d o kvs) (upd H1 d (.frz o (.dK kvs))))∨∃ o,H1 d=some (.frz o (.dK kvs))∧R (HW d o kvs) H1:=by
 rcases h with h | ⟨o,h⟩
 ·exact .inl ⟨h,fun o=>k o _ a9 fun c hc=>ai hc⟩
 ·exact .inr ⟨o,h,k o _ h fun c _=>rfl⟩
end L2
namespace Sx
open PySem L2 Bs
noncomputable def M8:Sp:=fun vs H Q _=>∃ (g:Str) (lw:Addr) (ws ss:List Str) (L n:Nat),vs=[.str g,.ref lw,.int (L:Int),.int (n:Int)]∧H lw=some (.lst (ws.map V.str))∧g.length≤4∧1≤L∧L≤5∧n≤1000∧ws.length≤6∧(∀ w∈ws,1≤w.length)∧(∀ w∈ws,w.length≤L)∧ss.Perm (c4 ws "" ws) ∧
 ∀ (l:Addr) (H':Hp),a6 H H'→H l=none→H' l=some (.lst ((List.range (n + 1)).map fun i=>V.int (cO g ws ss i "")))→Q (.ref l) H'
noncomputable def QN (K:PySem.W.Frag):Sp:=fun vs H Q _=>∃ (l:Addr) (f:Nat→Int) (many:Int) (w n:Nat),vs=[.ref l,.int many,.int (w:Int),.int (n:Int)]∧aK K H l ((List.range (n * w + 1)).map fun i=>V.int (f i))∧2≤many∧many≤8∧n≤100∧w≤6 ∧
 (∀ k:Nat,1≤k→k≤n→f (k * w) < many ^ k→(∀ j:Nat,1≤j→j < k→¬ f (j * w) < many ^ j)→Q (.int (k:Nat)) H) ∧
 ((∀ j:Nat,1≤j→j≤n→¬ f (j * w) < many ^ j)→Q .non H)
end Sx
namespace L2
open PySem PySem.Spec PyProof.Rows
noncomputable def mI (K:PySem.W.Frag) (J:It) (l:Addr) (σf:St) (tt:TT) (te:TE) (H:Hp) (Q:Hp→Prop):Prop:=
 ∃ W:Nat→Nat→List V→Hp→Prop,(∃ m,W 0 m [] (upd H l (.lst [])))∧∀ i m ys H2,W i m ys H2→H2 l=some (.lst ys) ∧
  ((J.stop i H2∧Q H2)∨(J.go i H2∧ys.length < sizeLine∧∀ x H3,J.xr i H2 x H3→∃ p a b,x=.ref p∧jF K H3 p [a,b]∧tt (some a :: some b :: σf) H3 fun ok H4=>
    if ok=true then te (some a :: some b :: σf) H4 fun y H5=>H5 l=some (.lst ys)∧∃ m',m' < m∧W (i + 1) m' (ys++[y]) (upd H5 l (.lst (ys++[y])))
    else ∃ m',m' < m∧W (i + 1) m' ys H4))
noncomputable def L3 (K:PySem.W.Frag) (wi:TI) (ix:List Nat) (tt:TT) (te:TE):TE:=fun σ H Q=>wi σ H fun J H1=>∀ l,H1 l=none→mI K J l (pick σ ix) tt te H1 (fun H2=>Q (.ref l) H2)
section
variable {X:Cx} {pins:List (Addr×Obj)} {σ:St} {H:Hp} {s₂:Shared} {scope:Scope} {x x2:Str} {ys:List Str} {ix:List Nat} {cl:List (Str×Addr)} {fp:List Addr} {L:Addr}
theorem Ft (B:dv X scope x ys ix) (B2:dv X scope x2 ys ix) (kF:x≠x2) (I:Inv X pins σ H s₂) (hf:∀ b∈fp,ng X pins H b) (xu:∀ b∈fp,b < s₂.heap.objs.size) (hL:s₂.heap.objs.size≤L)
 (ip:∀ y c,cl.lookup y=some c→X.env.cells.lookup y=some c) (sF:∀ y∈scope.names,y.2=.free→∃ c,cl.lookup y.1=some c):(b7 X scope (x :: x2 :: ys) cl L s₂ H fp (X.pn++pins)).Ok where
 mod:=I.ok.mod
 kind:=B.kind
 glob:=I.ok.glob
 blt:=I.ok.blt
 above:=hL
 inj:=fun a b c h1 h2=>I.ok.inj a b c (ip a c h1) (ip b c h2)
 has:=fun a ha=>by
  obtain ⟨k,hm,hk⟩:=nr (env:=X.env) B.uX (x:=a) ha
  exact sF (a,k) hm hk
 IY:=fun _ _ h=>nomatch h
 hd:=I.ok.hd
 frames:=I.ok.frames
 JT:=.inl rfl
 MH:=fun b hb=>⟨Nat.ne_of_lt (Nat.lt_of_lt_of_le (xu b hb) hL),fun y c h=>(hf b hb).2.2.2.2.1 y c (ip y c h)⟩
 bs:=I.bs
 zL:=Nat.le_trans I.ok.zL I.sz
 uM:=fun b o e hb=>by
  rcases (hf b hb).2.2.2.1 with z | z
  ·exact I.ok.uM b o e z
  ·exact absurd (Nat.lt_of_lt_of_le (Nat.lt_of_lt_of_le (Heap.lt_size e) I.ok.zL) z) (Nat.lt_irrefl _)
 zM:=fun b hb hm=>by
  rcases List.mem_cons.mp (I.kJ b hm) with z | z
  ·exact (hf b hb).2.1 z
  ·exact (hf b hb).2.2.1 z
 lW:=I.stack
 Ee:=I.pT
theorem Dr {h₁:Heap} {tk:Nat} {m₁:Str→Option Value} {l:Addr} {n₀:Nat} (B:dv X scope x ys ix) (B2:dv X scope x2 ys ix) (kF:x≠x2) (I:Inv X pins σ H s₂) (hf:∀ b∈fp,ng X pins H b) (xu:∀ b∈fp,b < s₂.heap.objs.size) (hL:s₂.heap.objs.size≤L)
 (ip:∀ y c,cl.lookup y=some c→X.env.cells.lookup y=some c) (sF:∀ y∈scope.names,y.2=.free→∃ c,cl.lookup y.1=some c)
 (kp:∀ b o,s₂.heap.get? b=some o→h₁.get? b=some o) (BZ:h₁.Ns L m₁) (hl:l=s₂.heap.objs.size) (Sr:l≠L) (ho:h₁.get? l=some { cls:=.type "list",data:=.seq ([]:List Value).toArray n₀ }) :
 Inv (b7 X scope (x :: x2 :: ys) cl L s₂ H fp (X.pn++pins)) [] (none :: none :: pick σ ix) (upd H l (.lst [])) { s₂ with heap:=h₁,toks:=tk }:=by
 subst hl
 have fr:=I.bt.fresh (Nat.le_refl s₂.heap.objs.size)
 refine ⟨Ft B B2 kF I hf xu hL ip sF,rfl,I.bare,Un.laid kp (Nat.le_refl _) fr,⟨m₁,BZ,fun i y v e1 e2 e3=>?_⟩,fun y c e=>?_,?_,fun y c e=>?_,fun p hp=>?_,I.bt.laid kp (Nat.le_refl _) ⟨Nat.zero_le _,[],n₀,.nil,ho⟩,?_⟩
 ·match i,e1,e2 with
  | 0,_,e2=>simp at e2
  | 1,_,e2=>simp at e2
  | j + 2,e1,e2=>
    have Kq:ys[j]?=some y:=by simpa [b7] using e1
    obtain ⟨i,hi,hN,hk,eP⟩:=B.slots j y Kq
    have Hq:(σ[i]?).join=some v:=by
     have:(pick σ ix)[j]?=some (some v):=by simpa using e2
     unfold pick at this
     rw [List.getElem?_map,hi] at this
     exact Option.some.inj this
    have Kr:σ[i]?=some (some v):=by
     cases q:σ[i]? with
     | none=>rw [q] at Hq; cases Hq
     | some z=>rw [q] at Hq; rw [show z=some v from Hq]
    obtain ⟨m,hn,Hr⟩:=I.loc
    have MS:LR X.env.scope y:=.inr (hk.imp id id)
    obtain ⟨u,r,l⟩:=Hr i y v hN Kr MS
    refine ⟨u,r,.inr ⟨kS eP,?_⟩⟩
    rcases l with ⟨k,_⟩ | ⟨_,c,hc,lZ⟩
    ·have k':X.env.scope.names.lookup y=some .local:=k
     rcases hk with z | z
     ·rw [z] at k'; cases k'
     ·rw [z] at k'; cases k'
    ·obtain ⟨c',Cu⟩:=sF (y,.free) (PySem.mem_of_lookup eP) rfl
     have:=ip y c' Cu
     rw [hc] at this
     cases this
     obtain ⟨o,q,d⟩:=lZ
     exact ⟨c,Cu,o,kp c o q,d⟩
 ·obtain ⟨v,o,q,d⟩:=I.cell y c (ip y c e)
  exact ⟨v,o,kp c o q,d⟩
 ·show upd H s₂.heap.objs.size (.lst []) L=none
  rw [ai (Ne.symm Sr)]
  exact I.bt.fresh hL
 ·obtain ⟨v,o,q,d⟩:=I.cell y c (ip y c e)
  rw [ai (Nat.ne_of_lt (Heap.lt_size q))]
  exact I.jD y c (ip y c e)
 ·rw [List.append_nil] at hp
  obtain ⟨q,n,ne,nf,d⟩:=I.pin p hp
  have lt:=Heap.lt_size q
  refine ⟨kp _ _ q,by rw [ai (Nat.ne_of_lt lt)]; exact n,Nat.ne_of_lt (Nat.lt_of_lt_of_le lt hL),fun hm=>?_,d⟩
  rcases List.mem_cons.mp (I.kJ p.1 hm) with z | z
  ·exact ne z
  ·exact nf z
 ·show _=(x :: x2 :: ys).length
  unfold pick
  rw [List.length_cons,List.length_cons,List.length_map,B.len,List.length_cons,List.length_cons]
theorem qL {px E8 pt pos:Pos} {kt:Nat} {iter elt:Expr} {ifs:List Expr} {it:Addr} {tn:Nat→Heap→Prop} {J:It} {tt:TT} {te:TE} {Qd:Addr→Hp→Prop} {RR:Value→Addr→Result→Shared→Prop} {E:Value→Shared→Prop}
 (hc:X.calm=true) (B:dv X scope x ys ix) (B2:dv X scope x2 ys ix) (kF:x≠x2) (I:Inv X pins σ H s₂) (T:Turn X.prog X.w X.K (.Tuple [.Name x px,.Name x2 E8] kt pt) J fp it tn) (Jd:tn 0 s₂.heap) (hf:∀ b∈fp,ng X pins H b)
 (ip:∀ y c,cl.lookup y=some c→X.env.cells.lookup y=some c) (sF:∀ y∈scope.names,y.2=.free→∃ c,cl.lookup y.1=some c)
 (ht:∀ L s H ex pn,Jc (b7 X scope (x :: x2 :: ys) cl L s H ex pn) ifs tt) (he:∀ L s H ex pn,PE (b7 X scope (x :: x2 :: ys) cl L s H ex pn) elt te)
 (hw:∀ l,H l=none→mI X.K J l (pick σ ix) tt te H (Qd l))
 (Ss:∀ D L H' s' m,Inv X pins σ H' s'→s'.heap.Ns L m→H' L=none→L≠X.env.locals→X.s₀.heap.objs.size≤L→(∀ y c,X.env.cells.lookup y=some c→c≠L)→(∀ p∈X.pn++pins,p.1≠L)→Qd D H'→RR (.ref D) L (.ok .next) s') :
 wpAny (model X.prog X.w) X.A (newList []) (fun acc s₃=>wpAny (model X.prog X.w) X.A (newFunctionEnv scope X.env.globals cl [] X.env.qual none .none (some X.env)) (fun EW s₄=>
  codeAny (model X.prog X.w) X.A (.compStart (.ListComp elt [⟨.Tuple [.Name x px,.Name x2 E8] kt pt,iter,ifs,0⟩] scope pos) 0 (.ref it) acc { EW with scope:=relabel scope X.env }) (RR acc EW.locals) s₄) E s₃) E s₂:=by
 refine wpAny_newObj_type (wpAny_newFunctionEnv B.uX (by intro y hy; simp at hy) (fun h₁ Aa uY=>?_) B.kind)
 dsimp only at Aa uY ⊢
 generalize Ks:s₂.heap.push { cls:=.type "list",dict:=none,data:=.seq ([]:List Value).toArray }=H2 at Aa uY ⊢
 have hC:H2.objs.size=s₂.heap.objs.size + 1:=by rw [← Ks,Heap.size_push]
 have ND:s₂.heap.objs.size≠H2.objs.size:=by rw [hC]; exact Nat.ne_of_lt (Nat.lt_succ_self _)
 have mC:s₂.heap.objs.size≤H2.objs.size:=by rw [hC]; exact Nat.le_succ _
 have old:∀ b o,s₂.heap.get? b=some o→h₁.get? b=some o:=fun b o e=>uY.extBut b o (Nat.ne_of_lt (Nat.lt_of_lt_of_le (Heap.lt_size e) mC)) (Heap.get?_push_of_some _ (Ks ▸ Heap.get?_push_of_some _ e))
 have kE:h₁.get? s₂.heap.objs.size=some { cls:=.type "list",data:=.seq ([]:List Value).toArray }:=uY.extBut _ _ ND (Heap.get?_push_of_some _ (Ks ▸ Heap.get?_push_size _ rfl))
 have xu:∀ b∈fp,b < s₂.heap.objs.size:=fun b hb=>let ⟨o,e,_⟩:=T.obj 0 _ Jd b hb; Heap.lt_size e
 have Su:∀ b∈fp,∀ o,s₂.heap.get? b=some o→h₁.get? b=some o:=fun b _ o e=>old b o e
 have NF:tn 0 h₁:=T.keep 0 _ _ Jd Su
 obtain ⟨W,⟨m0,w0⟩,turn⟩:=hw s₂.heap.objs.size (I.bt.fresh (Nat.le_refl _))
 have loop:∀ s₃:Shared,s₃={ s₂ with heap:=h₁,toks:=s₂.toks + ([]:List (Str×Value)).length } →
  codeAny (model X.prog X.w) X.A (.compLoop (.ListComp elt [⟨.Tuple [.Name x px,.Name x2 E8] kt pt,iter,ifs,0⟩] scope pos) 0 (.ref it) (.ref s₂.heap.objs.size) (compEnvC scope cl H2.objs.size X.env))
   (RR (.ref s₂.heap.objs.size) H2.objs.size) s₃:=by
  rintro s₃ rfl
  have I0:=Dr (tk:=s₂.toks + ([]:List (Str×Value)).length) (n₀:=0) (m₁:=_) (L:=H2.objs.size) B B2 kF I hf xu mC ip sF old Aa rfl ND kE
  have hx:(relabel scope X.env).names.lookup x=some .local:=lookup_relabel_local B.var
  have HP:(relabel scope X.env).names.lookup x2=some .local:=lookup_relabel_local B2.var
  have M9:(x :: x2 :: ys).Nodup:=List.nodup_cons.mpr ⟨fun z=>by
   rcases List.mem_cons.mp z with z | z
   ·exact kF z
   ·exact (List.nodup_cons.mp B.nd).1 z,B2.nd⟩
  refine uc (env:=compEnvC scope cl H2.objs.size X.env)
   (fun n s'=>∃ i Ab v0 v1 H',Inv (b7 X scope (x :: x2 :: ys) cl H2.objs.size s₂ H fp (X.pn++pins)) [] (v0 :: v1 :: pick σ ix) H' s'∧tn i s'.heap∧(∀ b∈fp,H' b=none)∧W i n Ab H') ?_ m0
   ⟨0,[],none,none,_,I0,NF,fun b hb=>by rw [ai (Nat.ne_of_lt (xu b hb))]; exact (hf b hb).1,w0⟩
  rintro n s3 ⟨i,Ab,v0,v1,H3,I3,J3,J4,w3⟩
  obtain ⟨NI,alt⟩:=turn i n Ab H3 w3
  have stat:∀ {H':Hp},(∀ b∈fp,H' b=none)→∀ b∈fp,ng (b7 X scope (x :: x2 :: ys) cl H2.objs.size s₂ H fp (X.pn++pins)) [] H' b:=fun hn b hb=>
   ⟨hn b hb,Nat.ne_of_lt (Nat.lt_of_lt_of_le (xu b hb) mC),fun hm=>by
     rcases List.mem_cons.mp (I.kJ b hm) with z | z
     ·exact (hf b hb).2.1 z
     ·exact (hf b hb).2.2.1 z,.inl hb,fun y c e=>(hf b hb).2.2.2.2.1 y c (ip y c e),fun p hp=>(hf b hb).2.2.2.2.2 p (by simpa [b7] using hp)⟩
  rcases alt with ⟨stop,qd⟩ | ⟨go,hsz,step⟩
  ·refine cg (T.done (b7 X scope (x :: x2 :: ys) cl H2.objs.size s₂ H fp (X.pn++pins)) rfl rfl rfl hc i [] s3 _ H3 _ I3 (stat J4) J3 stop) fun r s4 ⟨hr,I4⟩=>?_
   subst hr
   obtain ⟨m,hn,_⟩:=I4.loc
   refine Ss s₂.heap.objs.size H2.objs.size H3 s4 m ?_ hn I4.free (Nat.ne_of_gt (Nat.lt_of_lt_of_le I.lt mC)) (Nat.le_trans I.sz mC) (fun y c e=>?_) (fun p hp=>?_) qd
   ·exact I.Ef I4.os I4.base I4.bt I4.bare fun b hb=>⟨(hf b hb).2.2.2.1,(hf b hb).2.1,(hf b hb).2.2.2.2.1,(hf b hb).2.2.2.2.2⟩
   ·obtain ⟨v,o,q,d⟩:=I.cell y c e
    exact Nat.ne_of_lt (Nat.lt_of_lt_of_le (Heap.lt_size q) mC)
   ·exact Nat.ne_of_lt (Nat.lt_of_lt_of_le (Heap.lt_size (I.pin p hp).1) mC)
  ·refine cg (T.item (b7 X scope (x :: x2 :: ys) cl H2.objs.size s₂ H fp (X.pn++pins)) rfl rfl rfl hc i [] s3 _ H3 _ I3 (stat J4) J3 go) fun r s4 ⟨u,hr,h4⟩=>?_
   subst hr
   refine cg h4 fun _ s5 ⟨xv,H5,I5,r5,y5,El,MX⟩=>?_
   have MY:=I5.pinned (stat MX) (T.obj _ _ El)
   have hg:PG (b7 X scope (x :: x2 :: ys) cl H2.objs.size s₂ H fp (X.pn++pins)) (.Tuple [.Name x px,.Name x2 E8] kt pt) (MQ X.K 2 (Ei (jh 0) (Ei (jh 1) MP))):=kM hc (bW (aG M9 rfl (.inl hx) (.inr hx)) (bW (aG M9 rfl (.inl HP) (.inr HP)) ji))
   obtain ⟨pa,va,vb,ea,hT,Zu⟩:=step xv _ y5
   refine wpAny_mono (hg _ s5 _ H5 xv u (fun σ' H'=>σ'=some va :: some vb :: pick σ ix∧H'=H5) MY r5 ⟨pa,[va,vb],ea,hT,rfl,va,[vb],rfl,vb,[],rfl,rfl,rfl,rfl⟩) (fun _ s6 ⟨σ6,H6,I6,e6,Sv⟩=>?_) fun _ _ z=>False.elim z
   subst e6 Sv
   refine wpAny_mono (ht _ _ _ _ _ _ s6 _ _ _ I6 Zu) (fun b s7 ⟨H7,I7,q7⟩=>?_) fun _ _ z=>False.elim z
   have again:∀ {σ8:St} {H8:Hp} {s8:Shared},Inv (b7 X scope (x :: x2 :: ys) cl H2.objs.size s₂ H fp (X.pn++pins)) ([]++o6 fp s5.heap) σ8 H8 s8 →
    Inv (b7 X scope (x :: x2 :: ys) cl H2.objs.size s₂ H fp (X.pn++pins)) [] σ8 H8 s8∧tn (i + 1) s8.heap∧∀ b∈fp,H8 b=none:=fun {σ8 H8 s8} I8=>by
    refine ⟨I8.kO,T.keep _ _ _ El fun b hb o e=>(I8.pin (b,o) (List.mem_append_right _ (List.mem_append_right _ (gU hb e)))).1,fun b hb=>?_⟩
    obtain ⟨o,e,d⟩:=T.obj _ _ El b hb
    exact (I8.pin (b,o) (List.mem_append_right _ (List.mem_append_right _ (gU hb e)))).2.1
   cases b with
   | false=>
     rw [if_neg Bool.false_ne_true] at q7 ⊢
     obtain ⟨m',hm,w7⟩:=q7
     obtain ⟨a1,a2,a3⟩:=again I7
     exact ⟨m',hm,i + 1,Ab,some va,some vb,H7,a1,a2,a3,w7⟩
   | true=>
     rw [if_pos rfl] at q7 ⊢
     refine wpAny_mono (he _ _ _ _ _ _ s7 _ _ _ I7 q7) (fun uy s8 ⟨y,H8,I8,r8,LY,m',hm,w8⟩=>?_) fun _ _ z=>False.elim z
     refine wpAny_mono (gj (X:=b7 X scope (x :: x2 :: ys) cl H2.objs.size s₂ H fp (X.pn++pins)) _ s8 _ H8 (.ref s₂.heap.objs.size) [y] (.ref s₂.heap.objs.size) [uy] (fun _ H9=>H9=upd H8 s₂.heap.objs.size (.lst (Ab++[y]))) I8 rfl (.cons r8 .nil) ⟨_,Ab,y,rfl,rfl,LY,hsz,rfl⟩)
      (fun _ s9 ⟨v9,H9,I9,_,e9⟩=>?_) fun _ _ z=>False.elim z
     subst e9
     obtain ⟨a1,a2,a3⟩:=again I9
     exact ⟨m',hm,i + 1,Ab++[y],some va,some vb,_,a1,a2,a3,w8⟩
 exact codeAny_compStart_list (loop _ rfl) (T.self X.A 0 _ _ _ NF (loop _ rfl))
theorem lj {px E8 pt pos:Pos} {kt:Nat} {iter elt:Expr} {ifs:List Expr} {wi:TI} {tt:TT} {te:TE} (hc:X.calm=true) (B:dv X scope x ys ix) (B2:dv X scope x2 ys ix) (kF:x≠x2) (hi:PI X (.Tuple [.Name x px,.Name x2 E8] kt pt) iter wi)
 (ht:∀ cl L s H ex pn,Jc (b7 X scope (x :: x2 :: ys) cl L s H ex pn) ifs tt) (he:∀ cl L s H ex pn,PE (b7 X scope (x :: x2 :: ys) cl L s H ex pn) elt te)
 (hs:∀ v,foldedSetIterable iter X.env v=pure v:=by intro _; rfl):PE X (.ListComp elt [⟨.Tuple [.Name x px,.Name x2 E8] kt pt,iter,ifs,0⟩] scope pos) (L3 X.K wi ix tt te):=by
 intro pins s σ H Q I h
 obtain ⟨cl,qp,ip,sF⟩:=i7 (scope:=scope) (env:=X.env) (fun y hy E5=>I.ok.has y.1 (B.free y hy E5))
 rw [eval_ListComp]
 refine wpAny_comprehension_free (use:=none) rfl hs qp B.kind B.names (cg (hi pins s σ H _ I h) fun xv s1 h1=>cg h1 fun LV s2 h2=>?_)
 obtain ⟨it,fp,tn,J,H2,e,I2,T,GV,f2,hw⟩:=h2
 subst e
 refine qL (RR:=fun acc C=>compPost (model X.prog X.w) X.A X.xe none (EP X pins σ Q) acc C) (Qd:=fun l H'=>Q (.ref l) H') hc B B2 kF I2 T GV f2 ip sF (ht cl) (he cl) hw ?_
 intro D L H' s' m I' hn eP h1 h2 h3 h4 q
 exact ⟨m,hn,fun h' zF=>⟨.ref D,H',I'.turned (it:=L) (t':=s'.toks) (fun b o hb e=>(zF.2 b hb).trans e) eP h1 (.inr h2) h3 h4,rfl,q⟩⟩
end
noncomputable def cG (H:Hp) (rs:List Addr) (zH:List (List V)):Prop:=rs.length=zH.length∧∀ (i:Nat) (r:Addr) (xs:List V),rs[i]?=some r→zH[i]?=some xs→H r=some (.tup xs)
theorem cG.nil (H:Hp):cG H [] []:=⟨rfl,fun i r xs h=>by simp at h⟩
theorem cG.keep {H H':Hp} {rs:List Addr} {zH:List (List V)} (t:cG H rs zH) (k:∀ r xs,H r=some (.tup xs)→H' r=some (.tup xs)):cG H' rs zH:=⟨t.1,fun i r xs h1 h2=>k _ _ (t.2 i r xs h1 h2)⟩
theorem cG.same {H H':Hp} {rs:List Addr} {zH:List (List V)} (t:cG H rs zH) (s:a6 H H'):cG H' rs zH:=t.keep fun r xs h=>s _ _ h
theorem cG.snoc {H:Hp} {rs:List Addr} {zH:List (List V)} {r:Addr} {xs:List V} (t:cG H rs zH) (h:H r=some (.tup xs)):cG H (rs++[r]) (zH++[xs]):=by
 refine ⟨by rw [List.length_append,List.length_append,t.1]; rfl,fun i a b h1 h2=>?_⟩
 by_cases hi:i < rs.length
 ·rw [List.getElem?_append_left hi] at h1
  rw [List.getElem?_append_left (by rw [← t.1]; exact hi)] at h2
  exact t.2 i a b h1 h2
 ·have L4:i=rs.length:=by
   have:=(List.getElem?_eq_some_iff.mp h1).1
   rw [List.length_append,List.length_singleton] at this
   omega
  subst L4
  rw [List.getElem?_append_right (Nat.le_refl _),Nat.sub_self] at h1
  rw [List.getElem?_append_right (by rw [t.1]; exact Nat.le_refl _),t.1,Nat.sub_self] at h2
  cases h1
  cases h2
  exact h
theorem cG.mem {H:Hp} {rs:List Addr} {zH:List (List V)} (t:cG H rs zH) {r:Addr} (h:r∈rs):∃ xs∈zH,H r=some (.tup xs):=by
 obtain ⟨i,hi,e⟩:=List.mem_iff_getElem.mp h
 have L4:i < zH.length:=by rw [← t.1]; exact hi
 exact ⟨zH[i],List.getElem_mem L4,t.2 i r _ (by rw [List.getElem?_eq_getElem hi,e]) (List.getElem?_eq_getElem L4)⟩
noncomputable def nD (q:V×V):List V:=[q.1,q.2]
theorem qM {K:PySem.W.Frag} {J:It} {Ok:Hp→Prop} {rs:List Addr} {prs:List (V×V)} {l:Addr} {σf:St} {tt:TT} {te:TE} {H:Hp} {Q:Hp→Prop} (p:V×V→Bool) (g:V×V→V) (hJ:nq J Ok (rs.map V.ref)) (hT:cG H rs (prs.map nD)) (hl:H l=none) (hz:rs.length≤sizeLine) (om:∀ H',a6 H H'→Ok H')
 (ht:∀ q H3 Q',q∈prs→a6 H H3→(∀ H',a6 H3 H'→Q' (p q) H')→tt (some q.1 :: some q.2 :: σf) H3 Q')
 (he:∀ q H3 Q',q∈prs→p q=true→a6 H H3→(∀ H',a6 H3 H'→Q' (g q) H')→te (some q.1 :: some q.2 :: σf) H3 Q')
 (hd:∀ H',a6 H H'→H' l=some (.lst ((prs.filter p).map g))→Q H'):mI K J l σf tt te H Q:=by
 have hlen:rs.length=prs.length:=by rw [hT.1,List.length_map]
 refine ⟨fun i m ys H2=>m=rs.length - i∧i≤rs.length∧a6 H H2∧H2 l=some (.lst ys)∧ys=((prs.take i).filter p).map g,⟨rs.length,by simp,Nat.zero_le _,a6.upd hl,a9,by simp⟩,?_⟩
 rintro i m ys H2 ⟨rfl,hi,s2,h2,e2⟩
 refine ⟨h2,?_⟩
 by_cases eM:i < rs.length
 ·refine .inr ⟨hJ.go i H2 (om _ s2) (by rw [List.length_map]; exact eM),?_,fun x H3 y=>?_⟩
  ·rw [e2,List.length_map]
   refine Nat.lt_of_le_of_lt (List.length_filter_le _ _) ?_
   rw [List.length_take]
   omega
  ·obtain ⟨e,hx⟩:=hJ.xr i H2 x H3 (om _ s2) (by rw [List.length_map]; exact eM) y
   subst e
   have hq:prs[i]?=some prs[i]:=List.getElem?_eq_getElem (by omega)
   have hr:rs[i]?=some rs[i]:=List.getElem?_eq_getElem eM
   rw [List.getElem?_map,hr] at hx
   obtain rfl:V.ref rs[i]=x:=Option.some.inj hx
   have mem:prs[i]∈prs:=List.getElem_mem _
   have tk:prs.take (i + 1)=prs.take i++[prs[i]]:=by rw [List.take_add_one,hq]; rfl
   refine ⟨rs[i],prs[i].1,prs[i].2,rfl,jF.of (s2 _ _ (hT.2 i rs[i] _ hr (by rw [List.getElem?_map,hq]; rfl))),ht prs[i] _ _ mem s2 fun H4 s4=>?_⟩
   cases hp:p prs[i] with
   | false=>
     rw [if_neg Bool.false_ne_true]
     refine ⟨rs.length - (i + 1),by omega,rfl,eM,s2.trans s4,s4 _ _ h2,?_⟩
     rw [tk,List.filter_append,e2]
     simp [hp]
   | true=>
     rw [if_pos rfl]
     refine he prs[i] _ _ mem hp (s2.trans s4) fun H5 s5=>⟨s5 _ _ (s4 _ _ h2),rs.length - (i + 1),by omega,rfl,eM,fun b o e=>?_,a9,?_⟩
     ·rw [ai (aj e hl)]
      exact s5 _ _ (s4 _ _ (s2 _ _ e))
     ·rw [tk,List.filter_append,e2]
      simp [hp]
 ·have e:i=rs.length:=by omega
  subst e
  refine .inl ⟨?_,hd H2 s2 ?_⟩
  ·have:=hJ.stop H2 (om _ s2)
   rwa [List.length_map] at this
  ·rw [h2,e2,hlen,List.take_length]
theorem Ds {K:PySem.W.Frag} {J:It} {Ok:Hp→Prop} {rs:List Addr} {prs:List (V×V)} {l:Addr} {σf:St} {tt:TT} {te:TE} {H:Hp} {Q:Hp→Prop} (p:V×V→Bool) (g:V×V→List V) (hJ:nq J Ok (rs.map V.ref)) (hT:cG H rs (prs.map nD)) (hl:H l=none) (hz:rs.length≤sizeLine) (om:∀ H',a6 H H'→Ok H')
 (ht:∀ q H3 Q',q∈prs→a6 H H3→(∀ H',a6 H3 H'→Q' (p q) H')→tt (some q.1 :: some q.2 :: σf) H3 Q')
 (he:∀ q H3 Q',q∈prs→p q=true→a6 H H3→(∀ r H',a6 H3 H'→H' r=some (.tup (g q))→Q' (.ref r) H')→te (some q.1 :: some q.2 :: σf) H3 Q')
 (hd:∀ ys H',a6 H H'→H' l=some (.lst (ys.map V.ref))→cG H' ys ((prs.filter p).map g)→Q H'):mI K J l σf tt te H Q:=by
 have hlen:rs.length=prs.length:=by rw [hT.1,List.length_map]
 refine ⟨fun i m vs H2=>m=rs.length - i∧i≤rs.length∧a6 H H2∧∃ ys:List Addr,vs=ys.map V.ref∧H2 l=some (.lst (ys.map V.ref))∧cG H2 ys (((prs.take i).filter p).map g),⟨rs.length,by simp,Nat.zero_le _,a6.upd hl,[],rfl,a9,by simpa using cG.nil _⟩,?_⟩
 rintro i m vs H2 ⟨rfl,hi,s2,ys,rfl,h2,t2⟩
 refine ⟨h2,?_⟩
 by_cases eM:i < rs.length
 ·refine .inr ⟨hJ.go i H2 (om _ s2) (by rw [List.length_map]; exact eM),?_,fun x H3 y=>?_⟩
  ·rw [List.length_map,t2.1,List.length_map]
   refine Nat.lt_of_le_of_lt (List.length_filter_le _ _) ?_
   rw [List.length_take]
   omega
  ·obtain ⟨e,hx⟩:=hJ.xr i H2 x H3 (om _ s2) (by rw [List.length_map]; exact eM) y
   subst e
   have hq:prs[i]?=some prs[i]:=List.getElem?_eq_getElem (by omega)
   have hr:rs[i]?=some rs[i]:=List.getElem?_eq_getElem eM
   rw [List.getElem?_map,hr] at hx
   obtain rfl:V.ref rs[i]=x:=Option.some.inj hx
   have mem:prs[i]∈prs:=List.getElem_mem _
   have tk:prs.take (i + 1)=prs.take i++[prs[i]]:=by rw [List.take_add_one,hq]; rfl
   refine ⟨rs[i],prs[i].1,prs[i].2,rfl,jF.of (s2 _ _ (hT.2 i rs[i] _ hr (by rw [List.getElem?_map,hq]; rfl))),ht prs[i] _ _ mem s2 fun H4 s4=>?_⟩
   cases hp:p prs[i] with
   | false=>
     rw [if_neg Bool.false_ne_true]
     refine ⟨rs.length - (i + 1),by omega,rfl,eM,s2.trans s4,ys,rfl,s4 _ _ h2,?_⟩
     have e:((prs.take (i + 1)).filter p).map g=((prs.take i).filter p).map g:=by
      rw [tk,List.filter_append]
      simp [hp]
     rw [e]
     exact t2.same s4
   | true=>
     rw [if_pos rfl]
     refine he prs[i] _ _ mem hp (s2.trans s4) fun r H5 s5 Tu=>⟨s5 _ _ (s4 _ _ h2),rs.length - (i + 1),by omega,rfl,eM,fun b o e=>?_,ys++[r],by rw [List.map_append]; rfl,by rw [a9,List.map_append]; rfl,?_⟩
     ·rw [ai (aj e hl)]
      exact s5 _ _ (s4 _ _ (s2 _ _ e))
     ·have e:((prs.take (i + 1)).filter p).map g=((prs.take i).filter p).map g++[g prs[i]]:=by
       rw [tk,List.filter_append]
       simp [hp]
      rw [e]
      have Ou:=s5 _ _ (s4 _ _ h2)
      refine cG.keep ((t2.same (s4.trans s5)).snoc Tu) fun r' xs' h'=>?_
      rw [ai (fun z=>by rw [z,Ou] at h'; cases h')]
      exact h'
 ·have e:i=rs.length:=by omega
  subst e
  refine .inl ⟨?_,hd ys H2 s2 h2 ?_⟩
  ·have:=hJ.stop H2 (om _ s2)
   rwa [List.length_map] at this
  ·rw [hlen,List.take_length] at t2
   exact t2
end L2
namespace L2
open PySem PySem.Spec PyProof.Rows
theorem Rd.same {H H':Hp} {a:Addr} {u:HO} (h:Rd H a u) (s:a6 H H'):Rd H' a u:=by
 rcases h with h | ⟨o,h⟩
 ·exact .inl (s _ _ h)
 ·exact .inr ⟨o,s _ _ h⟩
theorem fq.rd {H:Hp} {a:Addr} {kvs:List (Key×V)} {k:Key} (e:Rd H a (.dK kvs)):fq H a (kV k) (bK kvs k):=.inl ⟨kvs,k,e,rfl,rfl⟩
noncomputable def Tv (te:TE):TE:=fun σ H Q=>te σ H fun x H1=>∃ d kvs,x=.ref d∧H1 d=some (.dK kvs)∧∀ o,Q x (upd H1 d (.frz o (.dK kvs)))
theorem L5 {X:Cx} {e:Expr} {te:TE} (h:PE X e te):PE X e (Tv te):=by
 intro pins s σ H Q I hw
 refine cg (h pins s σ H _ I hw) fun v s1 ⟨x,H1,I1,r1,d,kvs,e,hd,q⟩=>?_
 obtain ⟨o,ho,I2⟩:=I1.freeze hd
 exact ⟨x,_,I2,r1,q o⟩
noncomputable def L6 (tl:TE):TI:=fun σ H R=>tl σ H fun x H1=>∃ d kvs,x=.ref d∧(H1 d=some (.dK kvs)∨∃ o,H1 d=some (.frz o (.dK kvs)))∧∀ o H',H' d=some (.frz o (.dK kvs))→(∀ c,c≠d→H' c=H1 c)→R (HW d o kvs) H'
theorem Fu {X:Cx} {tg l:Expr} {tl:TE} (hl:PE X l tl) (hm:∀ {σ H} {Q Q':VK},(∀ x H1,Q x H1→Q' x H1)→tl σ H Q→tl σ H Q':=by intro _ _ _ _ h q; obtain ⟨v,e,q⟩:=q; exact ⟨v,e,h _ _ q⟩):PI X tg l (L6 tl):=by
 intro pins s σ H R I h
 refine k8 hl pins s σ H R I (hm (fun x H1 q=>?_) h)
 obtain ⟨d,kvs,e,a,b⟩:=q
 exact ⟨d,kvs,e,yh a b⟩
noncomputable def hitsD (kb ka:List (Key×V)):Bool:=ka.all fun kv=>match bK kb kv.1 with
 | some y=>qg kv.2 y
 | none=>false
noncomputable def QO (ka kb:List (Key×V)):Bool:=ka.length == kb.length && hitsD kb ka
noncomputable def nE (kvs:List (Key×V)):Bool:=kvs.all fun kv=>cP kv.2
theorem Dt {kvs:List (Key×V)} {k:Key} {v:V} (h:nE kvs=true) (e:bK kvs k=some v):cP v=true:=by
 unfold bK at e
 cases q:kvs.find? fun kv=>decide (kv.1=k) with
 | none=>rw [q] at e; cases e
 | some kv=>
   rw [q] at e
   have:=List.all_eq_true.mp h kv (List.mem_of_find?_eq_some q)
   cases e
   exact this
section
variable {X:Cx} {A:Around} {s:Shared}
theorem qN {kb:List (Key×V)} {vb:List (Key×Value)} (rb:KV kb vb) (fb:nE kb=true):∀ {ka:List (Key×V)} {va:List (Key×Value)},KV ka va→nE ka=true→PySem.W.KeqHits A s vb va (hitsD kb ka)
 | _,_,.nil,_=>.nil
 | _,_,@Paired.cons _ _ _ p q ps qs h t,fa=>by
   obtain ⟨k,v⟩:=p
   obtain ⟨k',u⟩:=q
   obtain ⟨e1,e2⟩:=h
   obtain rfl:k=k':=e1
   have f1:cP v=true:=List.all_eq_true.mp fa (k,v) (List.mem_cons_self ..)
   have f2:nE ps=true:=List.all_eq_true.mpr fun z hz=>List.all_eq_true.mp fa z (List.mem_cons_of_mem _ hz)
   have ih:=qN rb fb t f2
   have rv:=rb.val k
   unfold hitsD
   rw [List.all_cons]
   show PySem.W.KeqHits A s vb ((k,u) :: qs) ((match bK kb k with | some y=>qg v y | none=>false) && _)
   cases e:bK kb k with
   | none=>
     rw [e] at rv
     cases e':valueAt vb k with
     | none=>exact .miss e'
     | some y=>rw [e'] at rv; exact False.elim rv
   | some y=>
     rw [e] at rv
     cases e':valueAt vb k with
     | none=>rw [e'] at rv; exact False.elim rv
     | some y'=>
       rw [e'] at rv
       exact .hit e' (qh e2 rv f1 (Dt fb e)) ih
noncomputable def Tw:R2:=fun x y H Q=>∃ a b ka kb,x=.ref a∧y=.ref b∧Rd H a (.dK ka)∧Rd H b (.dK kb)∧nE ka=true∧nE kb=true∧Q (.bl (QO ka kb)) H
noncomputable def Zv:R2:=fun x y H Q=>∃ a b ka kb,x=.ref a∧y=.ref b∧Rd H a (.dK ka)∧Rd H b (.dK kb)∧nE ka=true∧nE kb=true∧Q (.bl (!QO ka kb)) H
theorem L7 (hu:X.A.units < cLine):n9 X (compareOp .Eq) Tw:=by
 intro pins s σ H x y v u Q I rx ry h
 obtain ⟨a,b,ka,kb,rfl,rfl,ha,hb,fa,fb,q⟩:=h
 cases rx
 cases ry
 obtain ⟨_,la,va,ra,da⟩:=kQ I.bt ha
 obtain ⟨_,lb,vb,rb,db⟩:=kQ I.bt hb
 refine PySem.W.keq_eq la lb da db hu (fun _=>qN rb fb ra fa) ⟨.bl _,H,I,rfl,?_⟩
 rw [← ra.length,← rb.length]
 exact q
end
end L2
namespace Bs
open PySem L2
noncomputable def iZ (g:Str) (ws ss:List Str) (q:Str×Str):List (Str×Str):=(ch g).filterMap fun c=>if bears ws (q.2++⟨#[c]⟩)=true then none else some (q.1++⟨#[c]⟩,lend ss (q.2++⟨#[c]⟩))
noncomputable def gC (g:Str) (ws ss:List Str) (qs:List (Str×Str)):List (Str×Str):=qs.flatMap (iZ g ws ss)
noncomputable def lq (g:Str) (ws ss:List Str) (p:Str):Nat→List (Str×Str)
 | 0=>[("",p)]
 | n + 1=>gC g ws ss (lq g ws ss p n)
noncomputable def aB (g:Str) (ws ss ls:List Str) (n:Nat) (p:Str):List (Str×Str):=(lq g ws ss p n).filter fun q=>decide (q.2∈ls)
theorem Au (g:Str) (ws ss:List Str) (q:Str×Str):(iZ g ws ss q).length≤g.length:=by
 unfold iZ
 have:=List.length_filterMap_le (fun c=>if bears ws (q.2++⟨#[c]⟩)=true then none else some (q.1++(⟨#[c]⟩:Str),lend ss (q.2++(⟨#[c]⟩:Str)))) (ch g)
 rw [aT] at this
 exact this
theorem p6 (g:Str) (ws ss:List Str) (qs:List (Str×Str)):(gC g ws ss qs).length≤qs.length * g.length:=nC _ _ _ fun q _=>Au g ws ss q
theorem nF (g:Str) (ws ss:List Str) (p:Str):∀ n,(lq g ws ss p n).length≤g.length ^ n
 | 0=>Nat.le_refl 1
 | n + 1=>Nat.le_trans (p6 g ws ss _) (by rw [Nat.pow_succ]; exact Nat.mul_le_mul_right _ (nF g ws ss p n))
theorem Av {g:Str} {ws ss:List Str} {q r:Str×Str} (he:("":Str)∈ss) (h:r∈iZ g ws ss q):r.2∈ss∧r.1.length=q.1.length + 1:=by
 unfold iZ at h
 obtain ⟨c,_,e⟩:=List.mem_filterMap.mp h
 split at e
 ·cases e
 ·cases e
  exact ⟨yd he _,len_app _ _⟩
theorem yi {g:Str} {ws ss:List Str} {p:Str} (he:("":Str)∈ss) (hp:p∈ss):∀ n,∀ r∈lq g ws ss p n,r.2∈ss∧r.1.length=n
 | 0,r,h=>by
   rw [List.mem_singleton.mp h]
   exact ⟨hp,rfl⟩
 | n + 1,r,h=>by
   obtain ⟨q,hq,hr⟩:=List.mem_flatMap.mp h
   have:=Av he hr
   have:=(yi he hp n q hq).2
   exact ⟨‹r.2∈ss∧_›.1,by omega⟩
theorem g7 {g:Str} {ws ss ls:List Str} {n:Nat} {p:Str} {r:Str×Str} (h:r∈aB g ws ss ls n p):r.2∈ls:=of_decide_eq_true (List.mem_filter.mp h).2
theorem gY (g:Str) (ws ss ls:List Str) (n:Nat) (p:Str):(aB g ws ss ls n p).length≤g.length ^ n:=Nat.le_trans (List.length_filter_le _ _) (nF g ws ss p n)
noncomputable def nG (q:Str×Str):List V:=[.str q.1,.str q.2]
noncomputable def nH (q:Str×Str):V×V:=(.str q.1,.str q.2)
theorem Ca (qs:List (Str×Str)):(qs.map nH).map nD=qs.map nG:=by
 rw [List.map_map]
 rfl
set_option genInjectivity false in
set_option genSizeOfSpec false in
structure bX (H:Hp) (l:Addr) (rs:List Addr) (qs:List (Str×Str)):Prop where
 l:H l=some (.lst (rs.map V.ref))
 t:cG H rs (qs.map nG)
theorem bX.same {H H':Hp} {l:Addr} {rs:List Addr} {qs:List (Str×Str)} (r:bX H l rs qs) (s:a6 H H'):bX H' l rs qs:=⟨s _ _ r.l,r.t.same s⟩
theorem bX.len {H:Hp} {l:Addr} {rs:List Addr} {qs:List (Str×Str)} (r:bX H l rs qs):rs.length=qs.length:=by rw [r.t.1,List.length_map]
theorem bX.push {H:Hp} {l:Addr} {rs:List Addr} {qs:List (Str×Str)} (R:bX H l rs qs) {r:Addr} (hr:H r=none) (q:Str×Str):bX (upd (upd H r (.tup (nG q))) l (.lst (rs.map V.ref++[.ref r]))) l (rs++[r]) (qs++[q]):=by
 have hl:(upd H r (.tup (nG q))) l=some (.lst (rs.map V.ref)):=a6.upd hr _ _ R.l
 refine ⟨by rw [a9,List.map_append]; rfl,?_⟩
 rw [List.map_append]
 refine cG.keep ((R.t.same (a6.upd hr)).snoc a9) fun r' xs h=>?_
 rw [ai (fun z=>by rw [z,hl] at h; cases h)]
 exact h
theorem bX.upd {H:Hp} {l:Addr} {rs:List Addr} {qs:List (Str×Str)} (R:bX H l rs qs) {d:Addr} {kvs:List (Key×V)} {u:HO} (h:H d=some (.dK kvs)):bX (L2.upd H d u) l rs qs:=by
 refine ⟨?_,R.t.keep fun r xs hr=>?_⟩
 ·rw [ai (fun z=>by have:=R.l; rw [z,h] at this; cases this)]
  exact R.l
 ·rw [ai (fun z=>by rw [z,h] at hr; cases hr)]
  exact hr
theorem yj (ls:List Str) (qs:List (Str×Str)):((qs.map nH).filter fun q=>nY q.2 (ls.map V.str)).map nD=(qs.filter fun q=>decide (q.2∈ls)).map nG:=by
 induction qs with
 | nil=>rfl
 | cons q qs ih=>
   have e:nY (nH q).2 (ls.map V.str)=decide (q.2∈ls):=kU q.2 ls
   rw [List.map_cons]
   by_cases h:q.2∈ls
   ·rw [List.filter_cons_of_pos (by rw [e]; exact decide_eq_true h),List.filter_cons_of_pos (by exact decide_eq_true h),List.map_cons,List.map_cons,ih]
    rfl
   ·rw [List.filter_cons_of_neg (by rw [e]; simpa using h),List.filter_cons_of_neg (by simpa using h),ih]
noncomputable def j0 (g:Str) (ws ss ls:List Str) (n:Nat) (f:Str→Int) (p:Str):Int:=((aB g ws ss ls n p).map fun q=>f q.2).sum
noncomputable def Ov (g:Str) (ws ss ls:List Str) (many:Int) (n:Nat) (f:Str→Int):Bool:=ls.all fun p=>decide (many * f p≤j0 g ws ss ls n f p)
noncomputable def Aw (m:List (Str×Int)) (ls:List Str) (f:Str→Int):Prop:=∀ p∈ls,ku m p=some (f p)
theorem qO (m:List (Str×Int)):nE (bC m)=true:=List.all_eq_true.mpr fun kv h=>by
 obtain ⟨p,_,rfl⟩:=List.mem_map.mp h
 rfl
theorem ux {m:List (Str×Int)} {k:Str} (h:k∉m.map (·.1)) (v:Int):putK (bC m) (Sum.inr k:Key) (.int v)=bC (m++[(k,v)]):=by
 rw [fM _ (by rw [fB,qK h]; rfl)]
 unfold bC
 rw [List.map_append]
 rfl
noncomputable def Tx (m:List (Str×Int)) (p:Str):Int:=(ku m p).getD 0
theorem Ax {m:List (Str×Int)} {k:Str} (h:k∈m.map (·.1)):ku m k=some (Tx m k):=by
 unfold Tx
 induction m with
 | nil=>exact nomatch h
 | cons p m ih=>
   obtain ⟨j,u⟩:=p
   unfold ku
   by_cases e:j=k
   ·rw [if_pos e]
    rfl
   ·rw [if_neg e]
    refine ih ?_
    rcases List.mem_cons.mp h with z | z
    ·exact absurd z.symm e
    ·exact z
theorem Aw.of {m:List (Str×Int)} {ls:List Str} (h:m.map (·.1)=ls):Aw m ls (Tx m):=fun p hp=>Ax (by rw [h]; exact hp)
set_option genInjectivity false in
set_option genSizeOfSpec false in
structure jv (H:Hp) (db:Addr) (o:Obj) (ev:List (Str×Addr)) (Bf:Str→List (Str×Str)) (ls:List Str):Prop where
 d:H db=some (.frz o (.dK (aY ev)))
 k:ev.map (·.1)=ls
 r:∀ q∈ev,∃ rs,bX H q.2 rs (Bf q.1)
 e:∀ p,∀ q∈Bf p,q.2∈ls
 n:∀ p,(Bf p).length≤1000
 nd:ls.Nodup
 few:ls.length≤60
theorem jv.same {H H':Hp} {db:Addr} {o:Obj} {ev:List (Str×Addr)} {Bf:Str→List (Str×Str)} {ls:List Str} (b:jv H db o ev Bf ls) (s:a6 H H'):jv H' db o ev Bf ls:=
 ⟨s _ _ b.d,b.k,fun q hq=>let ⟨rs,h⟩:=b.r q hq; ⟨rs,h.same s⟩,b.e,b.n,b.nd,b.few⟩
theorem uz {f:Str→Int} {k:Str}:∀ {os:List Str},k∈os→ku (os.map fun p=>(p,f p)) k=some (f k)
 | [],h=>nomatch h
 | j :: os,h=>by
   show (if j=k then some (f j) else ku (os.map fun p=>(p,f p)) k)=_
   by_cases e:j=k
   ·rw [if_pos e,e]
   ·rw [if_neg e]
    rcases List.mem_cons.mp h with z | z
    ·exact absurd z.symm e
    ·exact uz z
end Bs
namespace Sx
open PySem L2 Bs
noncomputable def Ma (C:Addr):Sp:=fun vs H Q _=>∃ (x:Addr) (n:Nat) (g:Str) (ws ss ls:List Str),vs=[.ref x,.int (n:Int)]∧ax C H x g ws ss ls∧g.length ^ n≤100∧n≤10∧2≤g.length∧g.length≤10∧ss.length≤900 ∧
 ∀ (d:Addr) (ev:List (Str×Addr)) (H':Hp),a6 H H'→H d=none→H' d=some (.dK (aY ev))→ev.map (·.1)=ls→(∀ m∈ev,∃ rs,bX H' m.2 rs (aB g ws ss ls n m.1))→(∀ m∈ev,H m.2=none)→Q (.ref d) H'
noncomputable def Cb:Sp:=fun vs H Q _=>∃ (db d:Addr) (p:Str) (o:Obj) (ev:List (Str×Addr)) (Bf:Str→List (Str×Str)) (ls:List Str) (m:List (Str×Int)) (f:Str→Int),vs=[.ref db,.str p,.ref d]∧jv H db o ev Bf ls∧p∈ls∧Rd H d (.dK (bC m))∧Aw m ls f∧∀ H',a6 H H'→Q (.int (((Bf p).map fun q=>f q.2).sum)) H'
noncomputable def Mb:Sp:=fun vs H Q _=>∃ (db dw:Addr) (many t:Int) (o:Obj) (ev:List (Str×Addr)) (Bf:Str→List (Str×Str)) (ls:List Str) (m:List (Str×Int)),vs=[.ref db,.int many,.ref dw,.int t]∧jv H db o ev Bf ls∧2≤many∧many≤8∧t≤100000∧0≤t∧H dw=some (.dK (bC m))∧m.map (·.1)=ls ∧
 ∀ (d':Addr) (m':List (Str×Int)) (H':Hp),a6 H H'→H' d'=some (.dK (bC m'))→m'.map (·.1)=ls→Q (.ref d') H'
noncomputable def Wd:Sp:=fun vs H Q _=>∃ (c:Int) (db:Addr) (many:Int) (o:Obj) (ev:List (Str×Addr)) (Bf:Str→List (Str×Str)) (ls:List Str),vs=[.int c,.ref db,.int many]∧jv H db o ev Bf ls∧2≤many∧many≤8 ∧
 ∀ (d':Addr) (m':List (Str×Int)) (H':Hp),a6 H H'→H' d'=some (.dK (bC m'))→m'.map (·.1)=ls→Q (.ref d') H'
noncomputable def Tz (C:Addr):Sp:=fun vs H Q _=>∃ (x:Addr) (p:Str) (g:Str) (ws ss ls:List Str),vs=[.ref x,.str p]∧ax C H x g ws ss ls∧p∈ls∧Q .non H
noncomputable def Fv (C:Addr):Sp:=fun vs H Q _=>∃ (x l:Addr) (rs:List Addr) (qs:List (Str×Str)) (g:Str) (ws ss ls:List Str),vs=[.ref x,.ref l]∧ax C H x g ws ss ls∧bX H l rs qs∧(∀ q∈qs,q.2∈ss∧q.1.length≤100)∧qs.length≤100∧g.length≤10 ∧
 ∀ (l':Addr) (qP:List Addr) (H':Hp),a6 H H'→H l'=none→bX H' l' qP (gC g ws ss qs)→Q (.ref l') H'
noncomputable def Fw (C:Addr):Sp:=fun vs H Q _=>∃ (x:Addr) (p:Str) (n:Nat) (g:Str) (ws ss ls:List Str),vs=[.ref x,.str p,.int (n:Int)]∧ax C H x g ws ss ls∧p∈ls∧g.length ^ n≤100∧n≤10∧2≤g.length∧g.length≤10 ∧
 ∀ (l':Addr) (qP:List Addr) (H':Hp),a6 H H'→H l'=none→bX H' l' qP (aB g ws ss ls n p)→Q (.ref l') H'
noncomputable def yk (C:Addr):Sp:=fun vs H Q _=>∃ (x:Addr) (n:Nat) (g:Str) (ws ss ls:List Str),vs=[.ref x,.int (n:Int)]∧ax C H x g ws ss ls∧g.length ^ n≤100∧n≤10∧2≤g.length∧g.length≤10∧ss.length≤900 ∧
 ∀ (d:Addr) (ev:List (Str×Addr)) (H':Hp),a6 H H'→H d=none→H' d=some (.dK (aY ev))→ev.map (·.1)=ls→(∀ m∈ev,H' m.2=some (.lst (((aB g ws ss ls n m.1).map (·.2)).map V.str)))→(∀ m∈ev,H m.2=none)→Q (.ref d) H'
noncomputable def Fx (K:PySem.W.Frag):Sp:=fun vs H Q _=>∃ (l d:Addr) (es:List Str) (m:List (Str×Int)) (f:Str→Int),vs=[.ref l,.ref d]∧aK K H l (es.map V.str)∧es.length≤1000∧Rd H d (.dK (bC m))∧Aw m es f∧∀ H',a6 H H'→Q (.int ((es.map f).sum)) H'
noncomputable def TB (C:Addr):Sp:=fun vs H Q _=>∃ (x d:Addr) (many:Int) (n:Nat) (m:List (Str×Int)) (f:Str→Int) (g:Str) (ws ss ls:List Str),vs=[.ref x,.int many,.int (n:Int),.ref d]∧ax C H x g ws ss ls∧2≤g.length∧g.length≤10∧ss.length≤900∧gX g.length many n∧Rd H d (.dK (bC m))∧Aw m ls f ∧
 ∀ H',a6 H H'→Q (.bl (Ov g ws ss ls many n f)) H'
end Sx
namespace Bs
open PySem L2 AC
section
variable {g:Str} {ws ss ls:List Str}
theorem qQ {α:Type} {a b:α→Int}:∀ {l:List α},(∀ x∈l,a x≤b x)→(l.map a).sum≤(l.map b).sum
 | [],_=>Int.le_refl _
 | x :: l,h=>by
   rw [List.map_cons,List.map_cons,List.sum_cons,List.sum_cons]
   exact Int.add_le_add (h x (List.mem_cons_self ..)) (qQ fun y hy=>h y (List.mem_cons_of_mem _ hy))
theorem Fy {α:Type} {a:α→Int} {l:List α} (h:∀ x∈l,0≤a x):0≤(l.map a).sum:=by
 have:=qQ (a:=fun _=>(0:Int)) (b:=a) h
 have e:∀ l:List α,(l.map fun _=>(0:Int)).sum=0:=by
  intro l
  induction l with
  | nil=>rfl
  | cons x l ih=>rw [List.map_cons,List.sum_cons,ih]; rfl
 rw [e] at this
 exact this
theorem vm {α:Type} (k:Int) (a:α→Int):∀ l:List α,(l.map fun x=>k * a x).sum=k * (l.map a).sum
 | []=>by simp
 | x :: l=>by rw [List.map_cons,List.map_cons,List.sum_cons,List.sum_cons,vm k a l,Int.mul_add]
theorem m9 {α:Type} {a:α→Int} {p:α→Bool}:∀ {l:List α},(∀ x∈l,0≤a x)→((l.filter p).map a).sum≤(l.map a).sum
 | [],_=>Int.le_refl _
 | x :: l,h=>by
   have ih:=m9 (p:=p) (l:=l) fun y hy=>h y (List.mem_cons_of_mem _ hy)
   have:=h x (List.mem_cons_self ..)
   rw [List.map_cons,List.sum_cons]
   by_cases e:p x=true
   ·rw [List.filter_cons_of_pos e,List.map_cons,List.sum_cons]
    omega
   ·rw [List.filter_cons_of_neg e]
    omega
theorem Fz (n:Nat):∀ p,0≤cO g ws ss n p:=by
 induction n with
 | zero=>intro p; show (0:Int)≤1; decide
 | succ n ih=>intro p; exact Fy fun e _=>ih e
theorem ym (n:Nat) (p:Str):cO g ws ss (n + 1) p=((ch g).map fun c=>if bears ws (p++⟨#[c]⟩)=true then 0 else cO g ws ss n (lend ss (p++⟨#[c]⟩))).sum:=by
 show ((k9 g ws ss p).map (cO g ws ss n)).sum=_
 unfold k9
 rw [m7]
 congr 1
 refine List.map_congr_left fun c _=>?_
 cases bears ws (p++⟨#[c]⟩) <;> rfl
theorem FA (hp:ss.Perm (c4 ws "" ws)) (hw:∀ w∈ws,1≤w.length) (n:Nat):∀ t t':Str,ch t' <:+ ch t→bears ws t=false→cO g ws ss n (lend ss t)≤cO g ws ss n (lend ss t'):=by
 induction n with
 | zero=>intro t t' _ _; exact Int.le_refl _
 | succ n ih=>
   intro t t' hs ht
   have We:bears ws t'=false:=lK hs.isInfix ht
   rw [ym,ym]
   refine qQ fun c _=>?_
   rw [mG hp ht hw,mG hp We hw,oA hp ht,oA hp We]
   have J2:ch (t'++⟨#[c]⟩) <:+ ch (t++⟨#[c]⟩):=by
    rw [aE,aE]
    obtain ⟨u,e⟩:=hs
    exact ⟨u,by rw [← List.append_assoc,e]⟩
   cases h:bears ws (t++⟨#[c]⟩) with
   | true=>
     rw [if_pos rfl]
     split
     ·exact Int.le_refl _
     ·exact Fz _ _
   | false=>
     rw [lK J2.isInfix h]
     exact ih _ _ J2 h
theorem qR (hp:ss.Perm (c4 ws "" ws)) (hw:∀ w∈ws,1≤w.length) {p:Str} (h:p∈ss):bears ws p=false∧lend ss p=p:=by
 have he:("":Str)∈ss:=hp.mem_iff.mpr (gp ws)
 constructor
 ·rcases mem_keys.mp (hp.mem_iff.mp h) with z | z
  ·have:p="":=eS (by rw [z]; exact (jt rfl).symm)
   rw [this]
   exact ur hw
  ·exact (eF ws p).mpr z.2
 ·refine eS ?_
  rw [k7 he]
  have hP:Of ss (ch p)=true:=k6.mpr h
  exact Ff (jM _) (jN hP (List.suffix_refl _))
theorem L8 (hp:ss.Perm (c4 ws "" ws)) (hw:∀ w∈ws,1≤w.length) {p:Str} (h:p∈ss) (n:Nat):cO g ws ss n p≤cO g ws ss n "":=by
 have he:("":Str)∈ss:=hp.mem_iff.mpr (gp ws)
 obtain ⟨h1,h2⟩:=qR hp hw h
 have:=FA (g:=g) hp hw n p "" (by rw [jt (z:="") rfl]; exact List.nil_suffix) h1
 rw [h2,Fh he] at this
 exact this
theorem FC (q:Str×Str) (h:Str→Int):((iZ g ws ss q).map fun r=>h r.2).sum=((k9 g ws ss q.2).map h).sum:=by
 unfold iZ k9
 induction ch g with
 | nil=>rfl
 | cons c cs ih=>
   rw [List.filterMap_cons,List.filterMap_cons]
   cases bears ws (q.2++⟨#[c]⟩) with
   | true=>exact ih
   | false=>
     rw [if_neg (by decide),if_neg (by decide)]
     exact congrArg (h (lend ss (q.2++⟨#[c]⟩)) + ·) ih
theorem p7 {α β:Type} (f:α→List β) (h:β→Int):∀ l:List α,((l.flatMap f).map h).sum=(l.map fun x=>((f x).map h).sum).sum
 | []=>rfl
 | x :: l=>by rw [List.flatMap_cons,List.map_append,List.sum_append,List.map_cons,List.sum_cons,p7 f h l]
theorem Cd (p:Str):∀ (n m:Nat),((lq g ws ss p n).map fun q=>cO g ws ss m q.2).sum=cO g ws ss (n + m) p
 | 0,m=>by
   rw [Nat.zero_add]
   show cO g ws ss m p + 0=_
   rw [Int.add_zero]
 | n + 1,m=>by
   show (((lq g ws ss p n).flatMap (iZ g ws ss)).map fun q=>cO g ws ss m q.2).sum=_
   rw [p7]
   have e:∀ q:Str×Str,((iZ g ws ss q).map fun q=>cO g ws ss m q.2).sum=cO g ws ss (m + 1) q.2:=fun q=>FC q (cO g ws ss m)
   have e2:((lq g ws ss p n).map fun x=>((iZ g ws ss x).map fun q=>cO g ws ss m q.2).sum)=(lq g ws ss p n).map fun q=>cO g ws ss (m + 1) q.2:=List.map_congr_left fun q _=>e q
   rw [e2,Cd p n (m + 1)]
   congr 1
   omega
noncomputable def FD (g:Str) (ws ss ls:List Str) (many:Int) (n:Nat) (f:Str→Int):Prop:=∀ p∈ls,many * f p≤j0 g ws ss ls n f p
theorem uA {many top:Int} {n:Nat} {f:Str→Int} (hm:0≤many) (h0:0≤top) (ht:∀ p∈ls,f p≤top) (hf:FD g ws ss ls many n f):∀ (k:Nat),∀ p∈ls,many ^ k * f p≤top * cO g ws ss (k * n) p
 | 0,p,hp=>by
   rw [Int.pow_zero,Int.one_mul,Nat.zero_mul]
   show _≤_ * (1:Int)
   rw [Int.mul_one]
   exact ht p hp
 | k + 1,p,hp=>by
   have ih:=uA hm h0 ht hf k
   have h1:many ^ (k + 1) * f p=many ^ k * (many * f p):=by rw [Int.pow_succ,Int.mul_assoc]
   have hk:0≤many ^ k:=Int.pow_nonneg hm
   have h2:many ^ k * (many * f p)≤many ^ k * j0 g ws ss ls n f p:=Int.mul_le_mul_of_nonneg_left (hf p hp) hk
   have h3:many ^ k * j0 g ws ss ls n f p=((aB g ws ss ls n p).map fun q=>many ^ k * f q.2).sum:=(vm _ _ _).symm
   have h4:((aB g ws ss ls n p).map fun q=>many ^ k * f q.2).sum≤((aB g ws ss ls n p).map fun q=>top * cO g ws ss (k * n) q.2).sum:=qQ fun q hq=>ih q.2 (g7 hq)
   have h5:((aB g ws ss ls n p).map fun q=>top * cO g ws ss (k * n) q.2).sum≤((lq g ws ss p n).map fun q=>top * cO g ws ss (k * n) q.2).sum:=m9 fun q _=>Int.mul_nonneg h0 (Fz _ _)
   have h6:((lq g ws ss p n).map fun q=>top * cO g ws ss (k * n) q.2).sum=top * cO g ws ss ((k + 1) * n) p:=by
    rw [vm,Cd,Nat.succ_mul,Nat.add_comm]
   rw [h1,← h6]
   exact Int.le_trans h2 (by rw [h3]; exact Int.le_trans h4 h5)
theorem FE {f:Str→Int}:∀ {l:List Str},l≠[]→∃ p∈l,∀ q∈l,f q≤f p
 | [],h=>absurd rfl h
 | x :: l,_=>by
   by_cases e:l=[]
   ·subst e
    exact ⟨x,List.mem_cons_self ..,fun q hq=>by rw [List.mem_singleton.mp hq]; exact Int.le_refl _⟩
   ·obtain ⟨p,hp,hm⟩:=FE (f:=f) e
    by_cases z:f x≤f p
    ·exact ⟨p,List.mem_cons_of_mem _ hp,fun q hq=>by
      rcases List.mem_cons.mp hq with y | y
      ·rw [y]; exact z
      ·exact hm q y⟩
    ·exact ⟨x,List.mem_cons_self ..,fun q hq=>by
      rcases List.mem_cons.mp hq with y | y
      ·rw [y]; exact Int.le_refl _
      ·have:=hm q y; omega⟩
theorem Gy {many:Int} {n k:Nat} {f:Str→Int} (hp:ss.Perm (c4 ws "" ws)) (hw:∀ w∈ws,1≤w.length) (jg:∀ p∈ls,p∈ss) (hm:0≤many) (hf:FD g ws ss ls many n f) (hs:cO g ws ss (k * n) "" < many ^ k):∀ p∈ls,f p≤0:=by
 intro p vn
 obtain ⟨q,hq,Ow⟩:=FE (f:=f) (l:=ls) (fun z=>by rw [z] at vn; exact nomatch vn)
 refine Int.le_trans (Ow p vn) ?_
 by_cases h0:f q≤0
 ·exact h0
 ·exfalso
  have h1:=uA hm (by omega:0≤f q) Ow hf k q hq
  have h2:=L8 (g:=g) hp hw (jg q hq) (k * n)
  have h3:f q * cO g ws ss (k * n) q≤f q * cO g ws ss (k * n) "":=Int.mul_le_mul_of_nonneg_left h2 (by omega)
  have h4:f q * cO g ws ss (k * n) "" < f q * many ^ k:=Int.mul_lt_mul_of_pos_left hs (by omega)
  rw [Int.mul_comm] at h1
  omega
noncomputable def dD (f:Str→Int) (ls:List Str):List (Str×Int):=ls.map fun p=>(p,f p)
theorem oB (f:Str→Int) (ls:List Str):(dD f ls).map (·.1)=ls:=by
 unfold dD
 rw [List.map_map]
 exact List.map_id _
theorem lQ (f:Str→Int) (ls:List Str):Aw (dD f ls) ls f:=fun p hp=>uz hp
theorem Jn {f h:Str→Int} {ls:List Str}:QO (bC (dD f ls)) (bC (dD h ls))=true↔∀ p∈ls,f p=h p:=by
 unfold QO
 rw [lP,lP]
 have e:(dD f ls).length=(dD h ls).length:=by unfold dD; rw [List.length_map,List.length_map]
 rw [e,beq_self_eq_true,Bool.true_and]
 unfold hitsD
 rw [List.all_eq_true]
 constructor
 ·intro q p hp
  have:=q ((Sum.inr p:Key),.int (f p)) (List.mem_map.mpr ⟨(p,f p),List.mem_map.mpr ⟨p,hp,rfl⟩,rfl⟩)
  have this:(match bK (bC (dD h ls)) (Sum.inr p:Key) with | some y=>qg (.int (f p)) y | none=>false)=true:=this
  rw [fB,lQ h ls p hp] at this
  have this:qg (.int (f p)) (.int (h p))=true:=this
  unfold qg at this
  simpa using this
 ·intro q kv Du
  obtain ⟨z,hz,rfl⟩:=List.mem_map.mp Du
  obtain ⟨p,hp,rfl⟩:=List.mem_map.mp hz
  show (match bK (bC (dD h ls)) (Sum.inr p:Key) with | some y=>qg (.int (f p)) y | none=>false)=true
  rw [fB,lQ h ls p hp]
  show qg (.int (f p)) (.int (h p))=true
  rw [q p hp]
  unfold qg
  simp
noncomputable def lx (g:Str) (ws ss ls:List Str) (many:Int) (n:Nat) (f:Str→Int) (p:Str):Int:=if j0 g ws ss ls n f p / many < f p then j0 g ws ss ls n f p / many else f p
theorem FG {n:Nat} {f:Str→Int} (h:∀ p∈ls,0≤f p) (p:Str):0≤j0 g ws ss ls n f p:=Fy fun q hq=>h _ (g7 hq)
theorem Ay {n:Nat} {f h:Str→Int} (e:∀ p∈ls,f p≤h p) (p:Str):j0 g ws ss ls n f p≤j0 g ws ss ls n h p:=qQ fun q hq=>e _ (g7 hq)
theorem FH (many:Int) (n:Nat) (f:Str→Int) (p:Str):lx g ws ss ls many n f p≤f p:=by
 unfold lx
 split <;> omega
theorem FI {many:Int} {n:Nat} {f:Str→Int} (hm:2≤many) (h:∀ p∈ls,0≤f p):∀ p∈ls,0≤lx g ws ss ls many n f p:=fun p hp=>by
 have h1:=Int.ediv_nonneg (FG (g:=g) (ws:=ws) (ss:=ss) (n:=n) h p) (show 0≤many by omega)
 have h2:=h p hp
 unfold lx
 split <;> omega
theorem Dv {many:Int} {n:Nat} {f h:Str→Int} (hm:2≤many) (hf:FD g ws ss ls many n f) (e:∀ p∈ls,f p≤h p):∀ p∈ls,f p≤lx g ws ss ls many n h p:=fun p hp=>by
 have h1:=hf p hp
 have h2:=Ay (g:=g) (ws:=ws) (ss:=ss) (n:=n) e p
 have h3:f p≤j0 g ws ss ls n h p / many:=(Int.le_ediv_iff_mul_le (by omega)).mpr (by rw [Int.mul_comm]; omega)
 have h4:=e p hp
 unfold lx
 split <;> omega
theorem Ia {many:Int} {n:Nat} {f:Str→Int} (hm:2≤many) (e:∀ p∈ls,lx g ws ss ls many n f p=f p):FD g ws ss ls many n f:=fun p hp=>by
 have h:=e p hp
 unfold lx at h
 have h3:f p≤j0 g ws ss ls n f p / many:=by
  split at h <;> omega
 have:=(Int.le_ediv_iff_mul_le (show 0 < many by omega)).mp h3
 rw [Int.mul_comm] at this
 exact this
theorem L9 {many:Int} {n:Nat} {f:Str→Int} (hm:2≤many) (h0:∀ p∈ls,0≤f p) (e:¬ ∀ p∈ls,lx g ws ss ls many n f p=f p):(ls.map fun p=>(lx g ws ss ls many n f p).toNat).sum < (ls.map fun p=>(f p).toNat).sum:=by
 have hle:∀ p∈ls,lx g ws ss ls many n f p≤f p:=fun p _=>FH many n f p
 have Wf:=FI (g:=g) (ws:=ws) (ss:=ss) (n:=n) hm h0
 generalize lx g ws ss ls many n f=h at e hle Wf
 have key:∀ l:List Str,(∀ p∈l,h p≤f p∧0≤h p)→(l.map fun p=>(h p).toNat).sum≤(l.map fun p=>(f p).toNat).sum∧((∃ p∈l,h p≠f p)→(l.map fun p=>(h p).toNat).sum < (l.map fun p=>(f p).toNat).sum):=by
  intro l
  induction l with
  | nil=>intro _; exact ⟨Nat.le_refl _,fun ⟨p,hp,_⟩=>nomatch hp⟩
  | cons x l ih=>
    intro hl
    obtain ⟨i1,i2⟩:=ih fun p hp=>hl p (List.mem_cons_of_mem _ hp)
    obtain ⟨x1,x2⟩:=hl x (List.mem_cons_self ..)
    rw [List.map_cons,List.map_cons,List.sum_cons,List.sum_cons]
    refine ⟨by omega,fun ⟨p,hp,kF⟩=>?_⟩
    rcases List.mem_cons.mp hp with z | z
    ·rw [z] at kF
     omega
    ·have:=i2 ⟨p,z,kF⟩
     omega
 refine (key ls fun p hp=>⟨hle p hp,Wf p hp⟩).2 ?_
 apply Classical.byContradiction
 intro q
 exact e fun p hp=>Classical.byContradiction fun z=>q ⟨p,hp,z⟩
end
end Bs
namespace Sx
open PySem L2 Bs
noncomputable def Ox (C:Addr):Sp:=fun vs H Q _=>∃ (x:Addr) (p:Str) (n:Int) (g:Str) (ws ss ls:List Str),vs=[.ref x,.str p,.int n]∧ax C H x g ws ss ls∧p∈ss∧g.length≤10∧ss.length≤900∧0≤n∧n≤100000∧∀ H',a6 H H'→Q (.int (cO g ws ss n.toNat p)) H'
noncomputable def Dw:Sp:=fun vs H Q _=>∃ (de dw:Addr) (many:Int) (n:Nat) (o:Obj) (ev:List (Str×Addr)) (f:Str→Int) (g:Str) (ws ss ls:List Str),vs=[.ref de,.int many,.ref dw]∧H de=some (.frz o (.dK (aY ev)))∧ev.map (·.1)=ls∧(∀ m∈ev,H m.2=some (.lst (((aB g ws ss ls n m.1).map (·.2)).map V.str)))∧g.length ^ n≤100∧ls.Nodup∧ls.length≤900∧2≤many∧many≤8∧Rd H dw (.dK (bC (dD f ls))) ∧
 ∀ (d:Addr) (H':Hp),a6 H H'→H d=none→H' d=some (.dK (bC (dD (lx g ws ss ls many n f) ls)))→Q (.ref d) H'
set_option genInjectivity false in
set_option genSizeOfSpec false in
structure qS (g:Str) (ws ss ls:List Str) (many:Int) (n:Nat) (most:Int) (f:Str→Int):Prop where
 nn:∀ p∈ls,0≤f p
 le:∀ p∈ls,f p≤most
 fit:FD g ws ss ls many n f
 top:∀ h:Str→Int,(∀ p∈ls,h p≤most)→FD g ws ss ls many n h→∀ p∈ls,h p≤f p
noncomputable def Ib (C:Addr):Sp:=fun vs H Q _=>∃ (x:Addr) (many:Int) (n:Nat) (most:Int) (g:Str) (ws ss ls:List Str),vs=[.ref x,.int many,.int (n:Int),.int most]∧ax C H x g ws ss ls∧2≤g.length∧g.length≤10∧ss.length≤900∧gX g.length many n∧0≤most ∧
 ∀ (d:Addr) (f:Str→Int) (H':Hp),a6 H H'→H d=none→H' d=some (.dK (bC (dD f ls)))→qS g ws ss ls many n most f→Q (.ref d) H'
inductive TC (g:Str) (ws ss:List Str) (many:Int) (n:Nat) (most:Int):V→Prop where
 | some (k:Nat) (a:1≤k) (b:(k:Int)≤most) (c:cO g ws ss (k * n) "" < many ^ k) (d:∀ j:Nat,1≤j→j < k→¬ cO g ws ss (j * n) "" < many ^ j):TC g ws ss many n most (.int (k:Nat))
 | none (a:∀ j:Nat,1≤j→(j:Int)≤most→¬ cO g ws ss (j * n) "" < many ^ j):TC g ws ss many n most .non
noncomputable def Md (C:Addr):Sp:=fun vs H Q _=>∃ (x:Addr) (many wide most:Int) (g:Str) (ws ss ls:List Str),vs=[.ref x,.int many,.int wide,.int most]∧ax C H x g ws ss ls∧g.length≤10∧ss.length≤900∧gX g.length many wide∧0≤most∧most≤100 ∧
 ∀ v H',a6 H H'→TC g ws ss many wide.toNat most v→Q v H'
noncomputable def QP:Sp:=fun vs H Q _=>∃ (a t:Int),vs=[.int a,.int t]∧0≤a∧a≤1000∧0≤t∧t≤100000∧Q (.int (a ^ t.toNat)) H
noncomputable def Oy (C:Addr):Sp:=fun vs H Q _=>∃ (x dw:Addr) (many:Int) (n k:Nat) (o:Obj) (f:Str→Int) (g:Str) (ws ss ls:List Str),vs=[.ref x,.int many,.int (n:Int),.ref dw,.int (k:Int)]∧ax C H x g ws ss ls∧g.length≤10∧ss.length≤900∧2≤many∧many≤8∧n≤10∧k≤100∧H dw=some (.frz o (.dK (bC (dD f ls))))∧(∀ p∈ls,0≤f p)∧(∀ p∈ls,f p≤1000)∧FD g ws ss ls many n f∧∀ H',a6 H H'→Q (.bl true) H'
noncomputable def QQ:Sp:=fun vs H Q _=>∃ (c:Int) (la:Addr) (ls:List Str),vs=[.int c,.ref la]∧H la=some (.lst (ls.map V.str))∧ls≠[]∧ls.Nodup∧ls.length≤60 ∧
 ∀ (d:Addr) (f:Str→Int) (H':Hp),a6 H H'→H d=none→H' d=some (.dK (bC (dD f ls)))→(∀ p∈ls,0≤f p)→(∀ p∈ls,f p≤1000)→(∃ p∈ls,0 < f p)→Q (.ref d) H'
noncomputable def Mf (C:Addr):Sp:=fun vs H Q _=>∃ (x:Addr) (many:Int) (n k:Nat) (g:Str) (ws ss ls:List Str),vs=[.ref x,.int many,.int (n:Int),.int (k:Int)]∧ax C H x g ws ss ls∧(∀ w∈ws,1≤w.length)∧g.length≤10∧ss.length≤900∧2≤many∧many≤8∧n≤10∧k≤100∧cO g ws ss (k * n) "" < many ^ k∧∀ H',a6 H H'→Q (.bl true) H'
noncomputable def Jo (K:PySem.W.Frag) (C:Addr):Sp:=fun vs H Q _=>∃ (x lc:Addr) (many cell:Int) (n:Nat) (cs:List Int) (g:Str) (ws ss ls:List Str),vs=[.ref x,.int many,.int (n:Int),.int cell,.ref lc]∧ax C H x g ws ss ls∧(∀ w∈ws,1≤w.length)∧2≤g.length∧g.length≤10∧ss.length≤60∧gX g.length many n∧aK K H lc (cs.map V.int)∧∀ H',a6 H H'→Q (.bl true) H'
end Sx
namespace Bs
open PySem L2
end Bs
namespace L2
open PySem PySem.Spec PyProof.Rows
section
variable {X:Cx}
theorem vo (hc:X.calm=true):fK X (.builtin "sorted") (fun xs H Q=>∃ d kvs ks,xs=[.ref d]∧Rd H d (.dK kvs)∧kvs.map (·.1)=List.map (Sum.inr:Str→Key) ks∧ks.length < 64 ∧
 ∀ l ss,H l=none→ss.Perm ks→sortedS ss=true→Q (.ref l) (upd H l (.lst (ss.map V.str)))):=by
 intro pins s σ H xs us Q I r h
 obtain ⟨d,kvs,ks,rfl,hd,hk,Sz,q⟩:=h
 obtain ⟨u,rfl,rx⟩:=vals1 r
 cases rx
 obtain ⟨hz,lo,vs,rel,dd⟩:=kQ I.bt hd
 obtain ⟨ep,xx⟩:=dd.dictAt
 have hh:=I.ok.hd hc
 have Hr:kvs.length=ks.length:=by have:=congrArg List.length hk; simpa using this
 have hn:vs.length≤sizeLine:=by rw [← rel.length]; exact hz
 refine Calls.call_function_entry kind_sorted plain_sorted entry_sorted (args_sorted1 _) ?_
 unfold Builtin.«sorted»
 refine wpAny_bind (m:=checkCount "sorted" 1 1 _) (wpAny_pure ?_)
 refine wpAny_bind (PySem.W.kdu_collect (A:=X.A.in1) (PySem.W.kdl_dict (knd:=bq X.prog X.w) (kvs:=vs) (ep:=ep) lo) hh xx hn fun h' tk acc SA kE=>?_)
 have hl:acc.toList.length=vs.length:=by rw [Array.length_toList]; exact kE.1
 refine wpAny_bind (wpAny_newList ?_ (by rw [hl]; exact hn))
 have hS:StrsAre acc.toList ks:=xX (P:=X.prog) (w:=X.w) hk rel hl fun j u e=>kE.2 j u (by rw [← Array.getElem?_toList]; exact e)
 have GO:(h'.push (seqObj "list" acc.toList.toArray 0)).get? h'.objs.size=some (seqObj "list" acc.toList.toArray 0):=Heap.get?_push_size _ rfl
 have Kt:acc.toList.length < 64:=by rw [hl,← rel.length,Hr]; exact Sz
 refine wpAny_bind (wpAny_holding (wpAny_call_entry slot_list_sort ⟨_,GO,rfl⟩ entry_list_sort (list_sort_treeK strKind_oneLt GO hS.keysOf (fun v₁ v₂ rest e=>keyKind_strs (by rw [← e]; exact hS)) Kt fun zC a1 a2=>⟨_,rfl,?_⟩) (args_list_sort _)))
 obtain ⟨Hs,b1,b2,b3⟩:=sorted_out_str hS a1 a2
 have I1:Inv X pins σ H { s with heap:=h',toks:=tk }:=I.kept SA
 obtain ⟨e,he⟩:=sortedHeap_at (out:=(arrOf zC).map (·.2)) GO
 refine wpAny_pure ⟨_,rfl,⟨.ref h'.objs.size,upd H h'.objs.size (.lst (Hs.map V.str)),I1.laid (t':=tk) (fun b o q=>?_) (Nat.le_refl _) ⟨?_,_,e,oq b1,?_⟩,rfl,q _ Hs (I1.bt.fresh (Nat.le_refl _)) b2 b3⟩⟩
 ·have lt:b < h'.objs.size:=Heap.lt_size q
  rw [sortedHeap_old (Nat.ne_of_lt lt) (by rw [size_push']; exact Nat.lt_succ_of_lt lt)]
  exact Heap.get?_push_of_some _ q
 ·rw [List.length_map,b2.length_eq,← Hr]
  exact hz
 ·rw [Array.toArray_toList]
  exact he
end
end L2
namespace Bs
open PySem L2
theorem yo (f:Str→Int) (ls:List Str):(bC (dD f ls)).map (·.1)=List.map (Sum.inr:Str→Key) ls:=by
 unfold bC dD
 rw [List.map_map,List.map_map]
 rfl
theorem Dx (ev:List (Str×Addr)):(aY ev).length=ev.length:=by unfold aY; rw [List.length_map]
end Bs
namespace Sx
open PySem L2 Bs
noncomputable def QR:Sp:=fun vs H Q _=>∃ (df db:Addr) (most:Int) (o:Obj) (ev:List (Str×Addr)) (Bf:Str→List (Str×Str)) (f:Str→Int) (ls:List Str),vs=[.ref df,.ref db,.int most]∧H df=some (.dK (bC (dD f ls)))∧jv H db o ev Bf ls∧(∀ p∈ls,0≤f p)∧(∀ p∈ls,f p≤most)∧∀ H',a6 H H'→Q (.bl true) H'
noncomputable def QS:Sp:=fun vs H Q _=>∃ (c:Int) (db:Addr) (most:Int) (o:Obj) (ev:List (Str×Addr)) (Bf:Str→List (Str×Str)) (ls:List Str),vs=[.int c,.ref db,.int most]∧jv H db o ev Bf ls∧0≤most ∧
 ∀ (d:Addr) (f:Str→Int) (H':Hp),a6 H H'→H d=none→H' d=some (.dK (bC (dD f ls)))→(∀ p∈ls,0≤f p)→(∀ p∈ls,f p≤most)→Q (.ref d) H'
noncomputable def La:Sp:=fun vs H Q _=>∃ (db dw:Addr) (many t:Int) (n:Nat) (o:Obj) (ev:List (Str×Addr)) (f0:Str→Int) (g:Str) (ws ss ls:List Str),vs=[.ref db,.int many,.ref dw,.int t]∧jv H db o ev (aB g ws ss ls n) ls∧2≤many∧many≤8∧t≤100000∧H dw=some (.dK (bC (dD f0 ls)))∧(∀ p∈ls,0≤f0 p)∧((((ls.map fun p=>(f0 p).toNat).sum:Nat)):Int) < t ∧
 ∀ (d':Addr) (f:Str→Int) (H':Hp),a6 H H'→H' d'=some (.dK (bC (dD f ls)))→(∀ p∈ls,0≤f p)→(∀ p∈ls,f p≤f0 p)→FD g ws ss ls many n f→(∀ h:Str→Int,FD g ws ss ls many n h→(∀ p∈ls,h p≤f0 p)→∀ p∈ls,h p≤f p)→Q (.ref d') H'
noncomputable def Oz (K:PySem.W.Frag) (C:Addr):Sp:=fun vs H Q _=>∃ (x db lc:Addr) (many most:Int) (n:Nat) (o:Obj) (ev:List (Str×Addr)) (cs:List Int) (g:Str) (ws ss ls:List Str),vs=[.ref x,.int many,.int (n:Int),.ref db,.int most,.ref lc]∧ax C H x g ws ss ls∧2≤g.length∧g.length≤10∧ss.length≤60∧gX g.length many n∧jv H db o ev (aB g ws ss ls n) ls∧1≤most∧most≤8∧aK K H lc (cs.map V.int)∧∀ H',a6 H H'→Q (.bl true) H'
end Sx
namespace Bs
open PySem L2
section
variable {g:Str} {ws ss ls:List Str}
theorem FJ {H H1:Hp} {d:Addr} {u:HO} (s:a6 H H1) (f:H d=none):a6 H (upd H1 d u):=fun c oc e=>by
 rw [ai (aj e f)]
 exact s _ _ e
noncomputable def onL (ls:List Str) (f:Str→Int) (e:Str):Int:=if decide (e∈ls)=true then f e else 0
end
end Bs
namespace Sx
open PySem L2 Bs
section
variable {g:Str} {ws ss ls:List Str} {many Wg most Jp:Int} {n:Nat} {f f':Str→Int}
theorem qS.Ce (G:qS g ws ss ls many n most f) (G':qS g ws ss ls many n Jp f') (h:most≤Jp):∀ p∈ls,f p≤f' p:=G'.top f (fun p hp=>Int.le_trans (G.le p hp) h) G.fit
theorem qS.one (G:qS g ws ss ls many n most f) (G':qS g ws ss ls many n most f'):∀ p∈ls,f p=f' p:=fun p hp=>Int.le_antisymm (G.Ce G' (Int.le_refl _) p hp) (G'.Ce G (Int.le_refl _) p hp)
end
noncomputable def Mg:Sp:=fun vs H Q _=>∃ (d1 d2:Addr) (o:Obj) (f h:Str→Int) (ls:List Str),vs=[.ref d1,.ref d2]∧H d1=some (.frz o (.dK (bC (dD f ls))))∧Rd H d2 (.dK (bC (dD h ls)))∧ls.length≤60∧(∀ p∈ls,f p≤h p)∧∀ H',a6 H H'→Q (.bl true) H'
noncomputable def Lb (C:Addr):Sp:=fun vs H Q _=>∃ (x y:Addr) (many most:Int) (n:Nat) (g:Str) (ws ss ls QT Hs Jq:List Str),vs=[.ref x,.ref y,.int many,.int (n:Int),.int most]∧ax C H x g ws ss ls∧ax C H y g QT Hs Jq∧2≤g.length∧g.length≤10∧ss.length≤60∧Hs.length≤60∧gX g.length many n∧0≤most∧∀ H',a6 H H'→Q (.bl true) H'
noncomputable def Mh (C:Addr):Sp:=fun vs H Q _=>∃ (x:Addr) (many most:Int) (n:Nat) (g:Str) (ws ss ls:List Str),vs=[.ref x,.int many,.int (n:Int),.int most]∧ax C H x g ws ss ls∧g.length≤10∧ss.length≤60∧gX g.length many n∧0≤most∧most≤100∧∀ H',a6 H H'→Q (.bl true) H'
noncomputable def QU (C:Addr):Sp:=fun vs H Q _=>∃ (x:Addr) (most:Int) (n:Nat) (g:Str) (ws ss ls:List Str),vs=[.ref x,.int (n:Int),.str g,.int most]∧ax C H x g ws ss ls∧2≤g.length∧g.length≤4∧ss.length≤60∧1≤n∧n≤6∧(g.length:Int) ^ n≤64∧0≤most∧∀ H',a6 H H'→Q (.bl true) H'
end Sx
namespace Bs
open PySem L2 AC
section
variable {g:Str} {ws ss:List Str}
theorem Cg (r:Str):r++("":Str)=r:=eS (by rw [aE,jt (z:="") rfl,List.append_nil])
theorem Ic (r:Str):("":Str)++r=r:=eS (by rw [aE,jt (z:="") rfl,List.nil_append])
theorem oC (a b c:Str):a++b++c=a++(b++c):=eS (by rw [aE,aE,aE,aE,List.append_assoc])
noncomputable def Jr (g:Str):Nat→List Str
 | 0=>[""]
 | n + 1=>(ch g).flatMap fun c=>(Jr g n).map fun r=>(⟨#[c]⟩:Str)++r
noncomputable def Ie (g:Str):Nat→List Str
 | 0=>[""]
 | n + 1=>(Ie g n).flatMap fun r=>(ch g).map fun c=>r++(⟨#[c]⟩:Str)
theorem pY:∀ n,Ie g n=Jr g n
 | 0=>rfl
 | 1=>by
   show ([""]:List Str).flatMap (fun r=>(ch g).map fun c=>r++(⟨#[c]⟩:Str))=(ch g).flatMap fun c=>([""]:List Str).map fun r=>(⟨#[c]⟩:Str)++r
   rw [List.flatMap_singleton]
   have:∀ cs:List Nat,(cs.map fun c=>("":Str)++(⟨#[c]⟩:Str))=cs.flatMap fun c=>([""]:List Str).map fun r=>(⟨#[c]⟩:Str)++r:=by
    intro cs
    induction cs with
    | nil=>rfl
    | cons c cs ih=>
      rw [List.map_cons,List.flatMap_cons,ih]
      show (("":Str)++(⟨#[c]⟩:Str)) :: _=[(⟨#[c]⟩:Str)++("":Str)]++_
      rw [Ic,Cg]
      rfl
   exact this _
 | n + 2=>by
   show (Ie g (n + 1)).flatMap (fun r=>(ch g).map fun c=>r++(⟨#[c]⟩:Str))=(ch g).flatMap fun c=>(Jr g (n + 1)).map fun r=>(⟨#[c]⟩:Str)++r
   rw [pY (n + 1)]
   show ((ch g).flatMap fun c=>(Jr g n).map fun r=>(⟨#[c]⟩:Str)++r).flatMap (fun r=>(ch g).map fun c=>r++(⟨#[c]⟩:Str))=_
   rw [List.flatMap_assoc]
   congr 1
   funext c
   rw [← pY (n + 1)]
   show _=((Ie g n).flatMap fun r=>(ch g).map fun c=>r++(⟨#[c]⟩:Str)).map fun r=>(⟨#[c]⟩:Str)++r
   rw [pY n,List.map_flatMap,List.flatMap_map]
   congr 1
   funext r
   rw [List.map_map]
   refine List.map_congr_left fun d _=>?_
   exact oC _ _ _
noncomputable def Js (g:Str) (ws:List Str) (t:Str) (n:Nat):List Str:=(Jr g n).filter fun r=>!bears ws (t++r)
noncomputable def gdF (g:Str) (ws:List Str) (t:Str) (n:Nat) (cs:List Nat):List Str:=cs.flatMap fun c=>(Js g ws (t++⟨#[c]⟩) n).map fun r=>(⟨#[c]⟩:Str)++r
theorem uB (nd:(ch g).Nodup):∀ n,(Jr g n).Nodup
 | 0=>List.nodup_cons.mpr ⟨fun z=>(nomatch z),List.nodup_nil⟩
 | n + 1=>by
   show ((ch g).flatMap fun c=>(Jr g n).map fun r=>(⟨#[c]⟩:Str)++r).Nodup
   have ih:=uB nd n
   have key:∀ cs:List Nat,cs.Nodup→(cs.flatMap fun c=>(Jr g n).map fun r=>(⟨#[c]⟩:Str)++r).Nodup:=by
    intro cs
    induction cs with
    | nil=>intro _; exact List.nodup_nil
    | cons c cs Zw=>
      intro hn
      rw [List.nodup_cons] at hn
      rw [List.flatMap_cons]
      refine List.nodup_append.mpr ⟨?_,Zw hn.2,fun a ha b hb z=>?_⟩
      ·refine List.Pairwise.map _ ?_ ih
       intro a b Ts z
       have:=congrArg ch z
       rw [aE,aE] at this
       exact Ts (eS (List.append_cancel_left this))
      ·obtain ⟨r,_,rfl⟩:=List.mem_map.mp ha
       obtain ⟨d,hd,E6⟩:=List.mem_flatMap.mp hb
       obtain ⟨q,_,rfl⟩:=List.mem_map.mp E6
       have:=congrArg ch z
       rw [aE,aE,vf,vf] at this
       have e:c=d:=by
        have h:=this
        rw [List.singleton_append,List.singleton_append] at h
        exact (List.cons.inj h).1
       exact hn.1 (by rw [e]; exact hd)
   exact key _ nd
theorem FK {l:List Str} (nd:l.Nodup) {i j:Nat} {r:Str} (h1:l[i]?=some r) (h2:l[j]?=some r):i=j:=by
 obtain ⟨a,e1⟩:=List.getElem?_eq_some_iff.mp h1
 obtain ⟨b,e2⟩:=List.getElem?_eq_some_iff.mp h2
 exact (List.getElem_inj nd).mp (e1.trans e2.symm)
end
end Bs
namespace L2
open PySem PySem.Spec PyProof.Rows
section
variable {X:Cx}
noncomputable def Zx (p:Addr) (a b c:Int):HO:=.ext fun h=>∃ t u v,IsRange h p a b c t u v
end
end L2
namespace Bs
open PySem L2
noncomputable def Wh (g:Str) (ws ss:List Str) (n:Nat) (p:Str) (c:Nat):Int:=if bears ws (p++⟨#[c]⟩)=true then 0 else cO g ws ss n (lend ss (p++⟨#[c]⟩))
noncomputable def Zy (g:Str) (ws ss:List Str) (n:Nat) (p:Str):V→V:=fun v=>match v with
 | .str z=>.int (Wh g ws ss n p (z.cps.getD 0 0))
 | _=>.non
end Bs
namespace Sx
open PySem L2 Bs
noncomputable def Mi (C:Addr):Sp:=fun vs H Q _=>∃ (x dc:Addr) (p:Str) (c n:Nat) (g:Str) (ws ss ls:List Str),vs=[.ref x,.str p,.str ⟨#[c]⟩,.ref dc]∧ax C H x g ws ss ls∧p∈ss∧c∈ch g∧H dc=some (.dK (HX g ws ss n))∧Q (.int (Wh g ws ss n p c)) H
noncomputable def QV (C:Addr):Sp:=fun vs H Q _=>∃ (x:Addr) (n k:Nat) (r g:Str) (ws ss ls:List Str),vs=[.ref x,.int (n:Int),.int (k:Int)]∧ax C H x g ws ss ls∧(∀ w∈ws,1≤w.length)∧g.length≤10∧ss.length≤900∧n≤1000∧(Js g ws "" n)[k]?=some r∧∀ H',a6 H H'→Q (.str r) H'
noncomputable def Lc (C:Addr):Sp:=fun vs H Q _=>∃ (x:Addr) (k:Nat) (r g:Str) (ws ss ls:List Str),vs=[.ref x,.str r]∧ax C H x g ws ss ls∧(∀ w∈ws,1≤w.length)∧(ch g).Nodup∧g.length≤10∧ss.length≤900∧r.length≤1000∧(Js g ws "" r.length)[k]?=some r∧∀ H',a6 H H'→Q (.int (k:Int)) H'
noncomputable def OA:Sp:=fun vs H Q _=>∃ (g:Str) (n:Nat),vs=[.str g,.int (n:Int)]∧g.length ^ n≤1000∧2≤g.length∧g.length≤10∧n≤10∧∀ (l:Addr) (H':Hp),a6 H H'→H l=none→H' l=some (.lst ((Ie g n).map V.str))→Q (.ref l) H'
noncomputable def OB (K:PySem.W.Frag):Sp:=fun vs H Q _=>∃ (r:Str) (a:Addr) (ws:List Str),vs=[.str r,.ref a]∧aK K H a (ws.map V.str)∧ws.length≤1000∧∀ H',a6 H H'→Q (.bl (!bears ws r)) H'
noncomputable def QW:Sp:=fun vs H Q _=>∃ i:Int,vs=[.int i,.int i]∧Q (.bl true) H
end Sx
namespace L2
open PySem PySem.Spec PyProof.Rows
section
variable {X:Cx}
noncomputable def Wi (i j:Int):Prop:=0 < j∧j.natAbs.log2 < 9000
end
end L2
namespace Sx
open PySem L2 Bs
noncomputable def OC:Sp:=fun vs H Q _=>∃ (c:Int) (m:Nat),vs=[.int c,.int (m:Int)]∧m≤1000∧∀ (l:Addr) (xs:List Int) (H':Hp),a6 H H'→H l=none→H' l=some (.lst (xs.map V.int))→xs.length=m→Q (.ref l) H'
noncomputable def QX (K:PySem.W.Frag):Sp:=fun vs H Q _=>∃ (a:Addr) (ns:List Int),vs=[.ref a]∧aK K H a (ns.map V.int)∧∀ (p lw:Addr) (g:Str) (ws:List Str) (H':Hp),a6 H H'→H p=none→H lw=none→H' p=some (.tup [.str g,.ref lw])→H' lw=some (.lst (ws.map V.str))→jJ g→ws.length≤6→(∀ w∈ws,iq g w)→Q (.ref p) H'
noncomputable def QY (K:PySem.W.Frag):Sp:=fun vs H Q _=>∃ (a:Addr) (ns:List Int) (g:Str),vs=[.ref a,.str g]∧aK K H a (ns.map V.int)∧2≤g.length∧g.length≤4∧∀ (p:Addr) (many wide:Int) (H':Hp),a6 H H'→H p=none→H' p=some (.tup [.int many,.int wide])→gX g.length many wide→Q (.ref p) H'
end Sx
namespace L2
open PySem PySem.Spec PyProof.Rows
noncomputable def TF (lo c:Int) (n:Nat):It:=⟨fun i _=>i < n,fun i H x H'=>H'=H∧x=.int (lo + (i:Nat) * c),fun i _=>n≤i⟩
section
variable {X:Cx} {tg:Expr}
noncomputable def Wj (ta:TA):TI:=fun σ H R=>ta σ H fun vs H1=>∃ i j:Int,vs=[.int i,.int j,.int (-1)]∧(0≤i∧i≤1000000∧0≤j∧j≤1000000)∧R (TF i (-1) (i - j).toNat) H1
end
end L2
namespace Bs
open PySem L2
section
variable {ws ss:List Str}
noncomputable def addQ (ws ss:List Str) (e:Str) (v:Int) (m:List (Str×Int)) (c:Nat):List (Str×Int):=if bears ws (e++⟨#[c]⟩)=true then m else bump m (lend ss (e++⟨#[c]⟩)) v
noncomputable def OD (g:Str) (ws ss:List Str) (m:List (Str×Int)) (p:Str×Int):List (Str×Int):=(ch g).foldl (addQ ws ss p.1 p.2) m
noncomputable def Jt (g:Str) (ws ss:List Str):Nat→List (Str×Int)
 | 0=>[("",1)]
 | n + 1=>(Jt g ws ss n).foldl (OD g ws ss) []
noncomputable def goP (ws ss:List Str) (F:Str→Int) (e:Str) (c:Nat):Int:=if bears ws (e++⟨#[c]⟩)=true then 0 else F (lend ss (e++⟨#[c]⟩))
set_option genInjectivity false in
set_option genSizeOfSpec false in
structure eT (ss:List Str) (m:List (Str×Int)):Prop where
 nd:(m.map (·.1)).Nodup
 sh:∀ k∈m.map (·.1),k∈ss
theorem eT.nil:eT ss []:=⟨List.nodup_nil,fun k h=>nomatch h⟩
theorem eT.bump {m:List (Str×Int)} (h:eT ss m) {k:Str} {v:Int} (hk:k∈ss):eT ss (bump m k v):=by
 by_cases hm:k∈m.map (·.1)
 ·exact ⟨by rw [fA,if_pos hm]; exact h.nd,by rw [fA,if_pos hm]; exact h.sh⟩
 ·refine ⟨?_,?_⟩
  ·rw [fA,if_neg hm]
   exact List.nodup_append.mpr ⟨h.nd,List.nodup_cons.mpr ⟨fun z=>(nomatch z),List.nodup_nil⟩,fun a ha b hb z=>hm (by rw [← List.mem_singleton.mp hb,← z]; exact ha)⟩
  ·rw [fA,if_neg hm]
   intro j hj
   rcases List.mem_append.mp hj with z | z
   ·exact h.sh j z
   ·rw [List.mem_singleton.mp z]
    exact hk
theorem eT.add (he:("":Str)∈ss) {m:List (Str×Int)} (h:eT ss m) {e:Str} {v:Int} {c:Nat}:eT ss (addQ ws ss e v m c):=by
 unfold addQ
 split
 ·exact h
 ·exact h.bump (yd he _)
theorem eT.fold (he:("":Str)∈ss) {e:Str} {v:Int}:∀ {cs:List Nat} {m:List (Str×Int)},eT ss m→eT ss (cs.foldl (addQ ws ss e v) m)
 | [],m,h=>h
 | c :: cs,m,h=>eT.fold (cs:=cs) he (h.add he)
theorem eT.steps (he:("":Str)∈ss) {g:Str}:∀ {hs m:List (Str×Int)},eT ss m→eT ss (hs.foldl (OD g ws ss) m)
 | [],m,h=>h
 | p :: hs,m,h=>eT.steps (hs:=hs) he (eT.fold he h)
theorem eT.here (he:("":Str)∈ss) {g:Str}:∀ n,eT ss (Jt g ws ss n)
 | 0=>⟨List.nodup_cons.mpr ⟨fun z=>(nomatch z),List.nodup_nil⟩,fun k hk=>by
    rw [List.mem_singleton.mp hk]
    exact he⟩
 | n + 1=>eT.steps he eT.nil
theorem eT.len {m:List (Str×Int)} (h:eT ss m):m.length≤ss.length:=by
 have:=jO h.nd h.sh
 rw [List.length_map] at this
 exact this
end
end Bs
namespace Sx
open PySem L2 Bs
noncomputable def TH (K:PySem.W.Frag):Sp:=fun vs H Q _=>∃ (r:Str) (a:Addr) (ws ss:List Str),vs=[.str r,.ref a]∧aK K H a (ws.map V.str)∧ss.Perm (c4 ws "" ws)∧(∀ w∈ws,w.length≤5)∧ws.length≤100∧bears ws r=false∧r.length≤1000∧∀ H',a6 H H'→Q (.str (lend ss r)) H'
noncomputable def OG (K:PySem.W.Frag):Sp:=fun vs H Q _=>∃ (g:Str) (lw:Addr) (ws ss:List Str) (n:Nat),vs=[.str g,.ref lw,.int (n:Int)]∧H lw=some (.lst (ws.map V.str))∧g.length≤4∧n≤1000∧ws.length≤6∧(∀ w∈ws,1≤w.length)∧(∀ w∈ws,w.length≤5)∧ss.Perm (c4 ws "" ws)∧∀ H',a6 H H'→Q (.int (cO g ws ss n "")) H'
noncomputable def TK (K:PySem.W.Frag) (C:Addr):Sp:=fun vs H Q _=>∃ (a x:Addr) (ns:List Int) (many:Int) (n:Nat) (g:Str) (ws ss ls:List Str),vs=[.ref a,.ref x,.int many,.int (n:Int)]∧aK K H a (ns.map V.int)∧ax C H x g ws ss ls∧2≤g.length∧g.length≤10∧ss.length≤60∧gX g.length many n ∧
 ∀ (d:Addr) (f:Str→Int) (H':Hp),a6 H H'→H d=none→H' d=some (.dK (bC (dD f ls)))→(∀ p∈ls,0≤f p)→(∀ p∈ls,f p≤1000)→Q (.ref d) H'
end Sx
namespace L2
open PySem PySem.Spec PyProof.Rows
section
variable {M:Model} {A:Around} {E:Value→Shared→Prop} {e C CB:Addr} {nm q:Str} {N:Addr} {bs:List Value} {hdct:Bool} {sn:List Str} {sub:List Value} {ab:Bool} {col:Option Bool} {dd:Option Addr} {k0 k1 k2 k3 k5:Option Value}
end
noncomputable def Wk (C:Addr) (b:Bool) (tb:Dg) (i:Nat):TS:=fun D σ H=>tb (fun σ' cv od H'=>cv=.ref C∧D.nx (σ'.set i (some (.bl b))) H') D σ H
section
variable {X:Cx} {CB C:Addr} {nmC x nm:Str} {b:Bool} {body:List Stmt} {tb:Dg} {i jj:Nat} {p1 p2 p3 p4 Oa pos:Pos}
theorem Ld {X:Cx} {K:PySem.W.Frag} {o e:Expr} {es:List Expr} {to:TE} {t:TA} {name:Str} {apos eN:Pos} {T id:String} {r:V→List V→Hp→VK→Prop} (hK:X.K=K) (pa:PlainAttrs T) (slot:Slot T name id) (Ke:typeOf (.builtin id)=pure (.type "method_descriptor")) (hm:K9 X id r) (ho:PE X o to) (ha:PA X (e :: es) t)
 (qi:attributeBase o name X.env (eval o X.env)=eval o X.env:=by rfl)
 (Kf:((backTo eN (starEach (e :: es) X.env)).all (fun x=>!x.1) && (backToKw eN (keywordEach [] X.env)).all (fun x=>x.1.isSome)
   && decide ((e :: es).length + ([]:List Keyword).length + (if ([]:List Keyword).isEmpty then 0 else 1) < 30))=true:=by rfl)
 (hline:(apos.endLine == eN.line)=true:=by rfl) (hs:starEach (e :: es) X.env=(false,eval e X.env) :: starEach es X.env:=by rfl) (A4:(backTo eN (starEach es X.env)).any (·.1)=false:=by rfl) :
 PE X (.Call (.Attribute o name apos) (e :: es) [] eN) (Vy K T r to t):=by
 subst hK
 exact nk pa slot Ke hm ho ha qi Kf hline hs A4
end
end L2
namespace Bs
open PySem L2
section
variable {g:Str} {ws ss:List Str}
set_option genInjectivity false in
set_option genSizeOfSpec false in
structure QZ (g r r':Str) (k c d:Nat):Prop where
 eq:∀ m,m < k→(ch r)[m]?=(ch r')[m]?
 hc:(ch r)[k]?=some c
 hd:(ch r')[k]?=some d
 lt:∃ i j:Nat,(ch g)[i]?=some c∧(ch g)[j]?=some d∧i < j
theorem QZ.cons {r r':Str} {k c d:Nat} (h:QZ g r r' k c d) (e:Nat):QZ g ((⟨#[e]⟩:Str)++r) ((⟨#[e]⟩:Str)++r') (k + 1) c d:=by
 have ec:∀ z:Str,ch ((⟨#[e]⟩:Str)++z)=e :: ch z:=fun z=>by rw [aE,vf]; rfl
 refine ⟨fun m hm=>?_,?_,?_,h.lt⟩
 ·rw [ec,ec]
  cases m with
  | zero=>rfl
  | succ m=>exact h.eq m (by omega)
 ·rw [ec]; exact h.hc
 ·rw [ec]; exact h.hd
noncomputable def Zz (g r r':Str):Prop:=∃ k c d,QZ g r r' k c d
set_option genInjectivity false in
set_option genSizeOfSpec false in
structure gZ (H:Hp) (de:Addr) (g:Str) (ws ss:List Str) (ev:List (Str×Addr)):Prop where
 at_:H de=some (.dK (aY ev))
 nd:(ev.map (·.1)).Nodup
 sh:∀ k∈ev.map (·.1),k∈ss
 row:∀ m∈ev,H m.2=some (.lst ((k9 g ws ss m.1).map V.str))
theorem gZ.ne {H:Hp} {de dm:Addr} {ev:List (Str×Addr)} {rs:List (Key×V)} (h:gZ H de g ws ss ev) (hd:H dm=some (.dK rs)):∀ m∈ev,m.2≠dm:=fun m hm z=>by
 have:=h.row m hm
 rw [z,hd] at this
 cases this
theorem gZ.len {H:Hp} {de:Addr} {ev:List (Str×Addr)} (h:gZ H de g ws ss ev):ev.length≤ss.length:=by
 have:=jO h.nd h.sh
 rw [List.length_map] at this
 exact this
theorem gZ.keep {H H':Hp} {de dm:Addr} {ev:List (Str×Addr)} {rs:List (Key×V)} (h:gZ H de g ws ss ev) (hd:H dm=some (.dK rs)) (kF:de≠dm) (k:∀ c o,H c=some o→c≠dm→H' c=some o):gZ H' de g ws ss ev:=
 ⟨k _ _ h.at_ kF,h.nd,h.sh,fun m hm=>k _ _ (h.row m hm) (h.ne hd m hm)⟩
theorem gZ.same {H H':Hp} {de:Addr} {ev:List (Str×Addr)} (h:gZ H de g ws ss ev) (s:a6 H H'):gZ H' de g ws ss ev:=⟨s _ _ h.at_,h.nd,h.sh,fun m hm=>s _ _ (h.row m hm)⟩
theorem gZ.put {H:Hp} {de a:Addr} {p:Str} {ev:List (Str×Addr)} (h:gZ H de g ws ss ev) (hp:p∈ss) (hn:p∉ev.map (·.1)) (ha:H a=some (.lst ((k9 g ws ss p).map V.str))):gZ (upd H de (.dK (putK (aY ev) (Sum.inr p:Key) (.ref a)))) de g ws ss (ev++[(p,a)]):=by
 refine ⟨?_,?_,?_,?_⟩
 ·rw [a9,fM _ (g6 hn)]
  unfold aY
  rw [List.map_append]
  rfl
 ·rw [List.map_append]
  exact List.nodup_append.mpr ⟨h.nd,List.nodup_cons.mpr ⟨fun z=>(nomatch z),List.nodup_nil⟩,fun y hy b hb z=>hn (by have e:b=p:=List.mem_singleton.mp hb; rw [← e,← z]; exact hy)⟩
 ·intro k hk
  rw [List.map_append] at hk
  rcases List.mem_append.mp hk with z | z
  ·exact h.sh k z
  ·rw [List.mem_singleton.mp z]
   exact hp
 ·intro m hm
  rcases List.mem_append.mp hm with z | z
  ·rw [ai (h.ne h.at_ m z)]
   exact h.row m z
  ·have:m=(p,a):=by simpa using z
   subst this
   have:a≠de:=fun z=>by rw [z,h.at_] at ha; cases ha
   rw [ai this]
   exact ha
end
end Bs
namespace Sx
open PySem L2 Bs
noncomputable def OH (C CN:Addr):Sp:=fun vs H Q E=>∃ (x:Addr) (n:Nat) (k:Int) (g:Str) (ws ss ls:List Str),vs=[.ref x,.int (n:Int),.int k]∧ax C H x g ws ss ls∧(∀ w∈ws,1≤w.length)∧g.length≤10∧ss.length≤900∧n≤1000 ∧
 ((∃ (q:Nat) (r:Str),k=q∧(Js g ws "" n)[q]?=some r∧∀ H',a6 H H'→Q (.str r) H')∨((k < 0∨cO g ws ss n ""≤k)∧∀ H',a6 H H'→E (.ref CN) none H'))
noncomputable def Ju (C:Addr):Sp:=fun vs H Q _=>∃ (x:Addr) (n:Nat) (k:Int) (g:Str) (ws ss ls:List Str),vs=[.ref x,.int (n:Int),.int k]∧ax C H x g ws ss ls∧(∀ w∈ws,1≤w.length)∧g.length≤10∧ss.length≤900∧n≤1000∧(k < 0∨cO g ws ss n ""≤k)∧∀ H',a6 H H'→Q (.bl true) H'
noncomputable def Mj:Sp:=fun vs H Q _=>∃ (r r' g:Str),vs=[.str r,.str r',.str g]∧Zz g r r'∧(ch g).Nodup∧r.length=r'.length∧r.length≤1000∧g.length≤10∧Q (.bl true) H
noncomputable def Ml (K:PySem.W.Frag) (C:Addr):Sp:=fun vs H Q _=>∃ (x lw:Addr) (n q:Nat) (r g:Str) (ws ss ls:List Str),vs=[.ref x,.ref lw,.int (n:Int),.int (q:Int)]∧ax C H x g ws ss ls∧aK K H lw (ws.map V.str)∧(∀ w∈ws,1≤w.length)∧(ch g).Nodup∧g.length≤10∧ss.length≤900∧n≤1000∧ws.length≤1000∧(Js g ws "" n)[q]?=some r∧∀ H',a6 H H'→Q (.str r) H'
end Sx
namespace L2
open PySem PySem.Spec PyProof.Rows
section
variable {prog:Program} {w:World} {A:Around} {R:Result→Shared→Prop} {s:Shared} {d it l t:Addr} {i:Nat} {items:Array Value}
end
section
variable {prog:Program} {w:World} {K:Type} [DecidableEq K] {knd:KeyKind prog w K} {A:Around} {E:Value→Shared→Prop} {s:Shared} {l:Addr} {o:Obj} {items:Array Value} {n:Nat}
end
section
variable {X:Cx} {A:Around} {pins:List (Addr×Obj)} {σ:St} {H:Hp} {d it l:Addr} {ts:List Addr} {ps:List (Key×V)} {R:Result→Shared→Prop}
end
end L2
namespace Bs
open PySem L2
end Bs
namespace Sx
open PySem L2 Bs
noncomputable def OI (K:PySem.W.Frag):Sp:=fun vs H Q _=>∃ (g:Str) (lw lp:Addr) (n:Nat) (ws ss:List Str),vs=[.str g,.ref lw,.ref lp,.int (n:Int)]∧H lw=some (.lst (ws.map V.str))∧H lp=some (.lst (ss.map V.str))∧("":Str)∈ss∧ss.Nodup∧(∀ p∈ss,p.length≤5)∧ss.length≤900∧g.length≤10∧ws.length≤1000∧n≤1000 ∧
 ∀ (l:Addr) (ts:List Addr) (H':Hp),a6 H H'→H l=none→H' l=some (.lst (ts.map V.ref))→ts.length=n + 1→(∀ i t,ts[i]?=some t→H' t=some (.dK (HX g ws ss i)))→Q (.ref l) H'
end Sx
namespace L2
open PySem PySem.Spec PyProof.Rows
section
variable {X:Cx}
noncomputable def TL (K:PySem.W.Frag):R2:=fun x y H Q=>∃ a b xs ys,x=.ref a∧y=.ref b∧jF K H a xs∧jF K H b ys∧xs.length=ys.length∧xs.all cP=true∧ys.all cP=true∧Q (.bl (!ot xs ys)) H
theorem Dy (hc:X.calm=true):fK X (.builtin "min") (fun xs H Q=>∃ p ns,xs=[.ref p]∧aK X.K H p (List.map V.int ns)∧ns≠[]∧∀ M,M∈ns→(∀ a∈ns,M≤a)→Q (.int M) H):=by
 intro pins s σ H xs us Q I r h
 obtain ⟨p,ns,rfl,hq,kF,q⟩:=h
 obtain ⟨u,rfl,rx⟩:=vals1 r
 cases rx
 obtain ⟨its,rv,pl,hz⟩:=I.list hq
 obtain ⟨ys,e,rfl⟩:=mH rv
 have hl:s.heap.IsList p (intItems ys.toArray):=by
  have:intItems ys.toArray=its.toArray:=by rw [e]; unfold intItems; simp
  rw [this]
  exact pl.isList
 have hsz:0 < ys.toArray.size:=by
  rw [List.size_toArray]
  exact Nat.pos_of_ne_zero fun z=>kF (by rw [List.eq_nil_of_length_eq_zero z]; rfl)
 refine min_intList (I.ok.hd hc) hl hsz fun v h' tk hv hk=>?_
 obtain ⟨t,rfl⟩:=intItems_at hv
 obtain ⟨h1,h2⟩:=argBest_lt (numAt ys.toArray) (ys.toArray.size - 1)
 refine ⟨.int _,H,I.kept hk,⟨t,rfl⟩,q _ ?_ fun a ha=>?_⟩
 ·rw [numAt_eq]
  exact getD_mem (by rw [List.length_map]; simp only [List.size_toArray] at *; omega)
 ·obtain ⟨j,hj,rfl⟩:=mem_getD ha
  rw [List.length_map] at hj
  have:=h2 j (by simp only [List.size_toArray] at *; omega)
  rw [show numAt ys.toArray j=(ys.map (·.1)).getD j 0 from numAt_eq ..] at this
  exact this
end
end L2
namespace Bs
open PySem L2
section
variable {g:Str} {ws ss Hs:List Str}
end
noncomputable def isInt:V→Bool
 | .int _=>true
 | _=>false
inductive Ig (g:Str) (ws:List Str) (r:Str):Int→L2.V→Prop where
 | out {i:Nat} (h:Out g r i):Ig g ws r 1 (.int (i:Nat))
 | good {k:Nat} (h:(Js g ws "" r.length)[k]?=some r):Ig g ws r 0 (.int (k:Nat))
 | bad {n:Nat} (h:E7 g r) (hb:Bad ws r n):Ig g ws r 2 (.int ((n:Nat) + 1))
end Bs
namespace Sx
open PySem L2 Bs
noncomputable def OJ:Sp:=fun vs H Q _=>∃ v:V,vs=[v]∧Thing H v∧Q (.bl (isInt v)) H
noncomputable def OM (C CN:Addr):Sp:=fun vs H Q E=>∃ (x:Addr) (n:Nat) (v:V) (g:Str) (ws ss ls:List Str),vs=[.ref x,.int (n:Int),v]∧ax C H x g ws ss ls∧g.length≤10∧ss.length≤900∧n≤1000∧Thing H v∧(∀ k:Int,v=.int k→k < 0∨cO g ws ss n ""≤k)∧∀ H',a6 H H'→E (.ref CN) none H'
noncomputable def Mm (C CR CB:Addr):Sp:=fun vs H Q E=>∃ (x:Addr) (r g:Str) (ws ss ls:List Str),vs=[.ref x,.str r]∧ax C H x g ws ss ls∧(∀ w∈ws,1≤w.length)∧(ch g).Nodup∧g.length≤10∧ss.length≤900∧r.length≤1000 ∧
 ((∃ k:Nat,(Js g ws "" r.length)[k]?=some r∧∀ H',a6 H H'→Q (.int (k:Int)) H')∨(∃ n,E7 g r∧Bad ws r n∧HV CB "length" (.int ((n:Nat) + 1)) H E)∨(∃ i,Out g r i∧HV CR "number" (.int (i:Nat)) H E))
noncomputable def TN (CR CB CN:Addr):Sp:=fun vs H Q _=>∃ (c f:V) (a:Int) (b:V),vs=[c,f] ∧
 ((c=.non∧a=0∧b=f)∨(∃ e dd,c=.ref e∧H e=some (XC e CR (some dd))∧H dd=some (.xd [("number",b)])∧a=1)∨(∃ e dd,c=.ref e∧H e=some (XC e CB (some dd))∧H dd=some (.xd [("length",b)])∧a=2)∨(∃ e,c=.ref e∧H e=some (XC e CN none)∧a=3∧b=.bl true)) ∧
 ∀ p H',a6 H H'→H' p=some (.tup [.int a,b])→Q (.ref p) H'
noncomputable def Wl (C:Addr):Sp:=fun vs H Q _=>∃ (x:Addr) (r g:Str) (ws ss ls:List Str) (a:Int) (b:V),vs=[.ref x,.str r]∧ax C H x g ws ss ls∧(∀ w∈ws,1≤w.length)∧(ch g).Nodup∧g.length≤10∧ss.length≤900∧r.length≤1000∧Ig g ws r a b∧∀ p H',a6 H H'→H' p=some (.tup [.int a,b])→Q (.ref p) H'
noncomputable def Wm (C:Addr):Sp:=fun vs H Q _=>∃ (x:Addr) (n:Nat) (v:V) (g:Str) (ws ss ls:List Str),vs=[.ref x,.int (n:Int),v]∧ax C H x g ws ss ls∧g.length≤10∧ss.length≤900∧n≤1000∧Thing H v∧(∀ k:Int,v=.int k→k < 0∨cO g ws ss n ""≤k)∧∀ p H',a6 H H'→H' p=some (.tup [.int 3,.bl true])→Q (.ref p) H'
noncomputable def R1 (K:PySem.W.Frag):Sp:=fun vs H Q _=>∃ (a b:Addr) (ns:List Int) (g:Str) (ws:List Str),vs=[.ref a,.str g,.ref b]∧aK K H a (ns.map V.int)∧aK K H b (ws.map V.str)∧jJ g∧ws.length≤6∧(∀ w∈ws,iq g w) ∧
 ∀ (r:Str) (H':Hp),a6 H H'→bears ws r=false→(∀ c∈ch r,c∈ch g)→r.length≤153→Q (.str r) H'
noncomputable def Le (K:PySem.W.Frag):Sp:=fun vs H Q _=>∃ (g:Str) (lw:Addr) (n:Nat) (ws:List Str),vs=[.str g,.ref lw,.int (n:Int)]∧H lw=some (.lst (ws.map V.str))∧ws.length≤6∧(∀ w∈ws,1≤w.length)∧(∀ w∈ws,w.length≤5)∧g.length≤10∧n≤1000 ∧
 ∀ (l:Addr) (ts:List Addr) (H':Hp),a6 H H'→H l=none→H' l=some (.lst (ts.map V.ref))→ts.length=n + 1→(∀ i t,ts[i]?=some t→H' t=some (.dK (HX g ws (c4 ws "" ws) i)))→Q (.ref l) H'
noncomputable def R5 (K:PySem.W.Frag):Sp:=fun vs H Q _=>∃ (r g:Str) (lw:Addr) (ws:List Str) (k:Nat),vs=[.str r,.str g,.ref lw]∧H lw=some (.lst (ws.map V.str))∧ws.length≤6∧(∀ w∈ws,1≤w.length)∧(∀ w∈ws,w.length≤5)∧(ch g).Nodup∧g.length≤10∧r.length≤1000∧(Js g ws "" r.length)[k]?=some r∧∀ H',a6 H H'→Q (.int (k:Int)) H'
end Sx
namespace L2
open PySem PySem.Spec PyProof.Rows
noncomputable def Ih:List Expr→Option (List Int)
 | []=>some []
 | .Constant (.int i) _ _ :: es=>(Ih es).map (i :: ·)
 | _ :: _=>none
noncomputable def OO:List Int→TA
 | []=>Es
 | i :: is=>xJ (tC (.int i)) (OO is)
noncomputable def Ii:List Expr→Option (List (Int×Int))
 | []=>some []
 | .Tuple [.Constant (.int i) _ _,.Constant (.int j) _ _] _ _ :: es=>(Ii es).map ((i,j) :: ·)
 | _ :: _=>none
noncomputable def OQ:List (Int×Int)→TA
 | []=>Es
 | p :: ps=>xJ (N8 (xJ (tC (.int p.1)) (xJ (tC (.int p.2)) Es))) (OQ ps)
end L2
namespace L2
open PySem PySem.Spec PyProof.Rows
inductive kH where
 | at (v:V)
 | tup (ds:List kH)
 | lst (ds:List kH)
noncomputable def FN:V→Bool
 | .non=>true
 | .bl _=>true
 | .int _=>true
 | .str _=>true
 | _=>false
mutual
noncomputable def eO (K:PySem.W.Frag) (H:Hp):kH→V→Prop
 | .at x,v=>v=x∧FN x=true
 | .tup ds,v=>∃ a xs,v=.ref a∧H a=some (.tup xs)∧bF K H ds xs
 | .lst ds,v=>∃ a xs,v=.ref a∧Rd H a (.lst xs)∧bF K H ds xs
noncomputable def bF (K:PySem.W.Frag) (H:Hp):List kH→List V→Prop
 | [],xs=>xs=[]
 | d :: ds,xs=>∃ v vs,xs=v :: vs∧eO K H d v∧bF K H ds vs
end
mutual
noncomputable def dep:kH→Nat
 | .at _=>0
 | .tup ds=>Ij ds + 1
 | .lst ds=>Ij ds + 1
noncomputable def Ij:List kH→Nat
 | []=>0
 | d :: ds=>max (dep d) (Ij ds)
end
section
variable {K:PySem.W.Frag} {H:Hp}
end
section
variable {X:Cx} {pins:List (Addr×Obj)} {σ:St} {H:Hp} {s:Shared}
noncomputable def rDp (K:PySem.W.Frag) (b:Bool):R2:=fun x y H Q=>∃ ds,Ij ds≤50∧((eO K H (.lst ds) x∧eO K H (.lst ds) y)∨(eO K H (.tup ds) x∧eO K H (.tup ds) y))∧Q (.bl b) H
end
end L2
namespace L2
open PySem PySem.Spec PyProof.Rows Sx
section
variable {X:Cx}
end
end L2
namespace Bs
open PySem L2 AC
section
variable {g:Str} {ws ss ls:List Str} {p:Str}
noncomputable def kG (ws ss:List Str) (p:Str) (r:Str):Option (Str×Str):=if bears ws (p++r)=true then none else some (r,lend ss (p++r))
theorem FO {a c:Str} (h:bears ws (p++a)=true):kG ws ss p (a++c)=none:=by
 unfold kG
 rw [if_pos]
 cases e:bears ws (p++(a++c)) with
 | true=>rfl
 | false=>
   have:=lK (a:=p++a) (b:=p++(a++c)) (by rw [← oC,aE (p++a) c]; exact ⟨[],ch c,by simp⟩) e
   rw [h] at this
   cases this
theorem ly {α β:Type} {f:α→Option β}:∀ {l:List α},(∀ a∈l,f a=none)→l.filterMap f=[]
 | [],_=>rfl
 | a :: l,h=>by rw [List.filterMap_cons,h a (List.mem_cons_self ..)]; exact ly fun b hb=>h b (List.mem_cons_of_mem _ hb)
theorem uC (hp:ss.Perm (c4 ws "" ws)) (hw:∀ w∈ws,1≤w.length) {r:Str} (h:bears ws (p++r)=false):∀ cs:List Nat,(cs.filterMap fun c=>if bears ws (lend ss (p++r)++⟨#[c]⟩)=true then none else some (r++(⟨#[c]⟩:Str),lend ss (lend ss (p++r)++(⟨#[c]⟩:Str))))=(cs.map fun c=>r++(⟨#[c]⟩:Str)).filterMap (kG ws ss p)
 | []=>rfl
 | c :: cs=>by
   rw [List.map_cons,List.filterMap_cons,List.filterMap_cons,uC hp hw h cs]
   have e:(if bears ws (lend ss (p++r)++⟨#[c]⟩)=true then none else some (r++(⟨#[c]⟩:Str),lend ss (lend ss (p++r)++(⟨#[c]⟩:Str))))=kG ws ss p (r++⟨#[c]⟩):=by
    unfold kG
    rw [mG hp h hw,oA hp h,oC]
   rw [e]
theorem yp (hp:ss.Perm (c4 ws "" ws)) (hw:∀ w∈ws,1≤w.length):∀ L:List Str,gC g ws ss (L.filterMap (kG ws ss p))=(L.flatMap fun r=>(ch g).map fun c=>r++(⟨#[c]⟩:Str)).filterMap (kG ws ss p)
 | []=>rfl
 | r :: L=>by
   rw [List.flatMap_cons,List.filterMap_append,← yp hp hw L,List.filterMap_cons]
   cases h:bears ws (p++r) with
   | true=>
     have e:kG ws ss p r=none:=by unfold kG; rw [if_pos h]
     rw [e,ly (l:=(ch g).map fun c=>r++(⟨#[c]⟩:Str)) fun a ha=>by obtain ⟨c,_,rfl⟩:=List.mem_map.mp ha; exact FO h]
     rfl
   | false=>
     have e:kG ws ss p r=some (r,lend ss (p++r)):=by unfold kG; rw [if_neg (by rw [h]; exact Bool.false_ne_true)]
     rw [e,← uC hp hw h]
     exact List.flatMap_cons ..
theorem yq (hp:ss.Perm (c4 ws "" ws)) (hw:∀ w∈ws,1≤w.length) (FP:p∈ss):∀ n,lq g ws ss p n=(Ie g n).filterMap (kG ws ss p)
 | 0=>by
   obtain ⟨h1,h2⟩:=qR hp hw FP
   show [(("":Str),p)]=[("":Str)].filterMap (kG ws ss p)
   have e:kG ws ss p ""=some (("":Str),p):=by unfold kG; rw [Cg,h2,if_neg (by rw [h1]; exact Bool.false_ne_true)]
   rw [List.filterMap_cons,e]
   rfl
 | n + 1=>by
   show gC g ws ss (lq g ws ss p n)=((Ie g n).flatMap fun r=>(ch g).map fun c=>r++(⟨#[c]⟩:Str)).filterMap (kG ws ss p)
   rw [yq hp hw FP n,yp hp hw]
noncomputable def FQ (ws ss ls:List Str) (p:Str) (r:Str):Option (Str×Str):=if bears ws (p++r)=true then none else if lend ss (p++r)∈ls then some (r,lend ss (p++r)) else none
theorem Az (hp:ss.Perm (c4 ws "" ws)) (hw:∀ w∈ws,1≤w.length) (FP:p∈ss) (n:Nat):(Ie g n).filterMap (FQ ws ss ls p)=aB g ws ss ls n p:=by
 unfold aB
 rw [yq hp hw FP]
 have:∀ L:List Str,L.filterMap (FQ ws ss ls p)=(L.filterMap (kG ws ss p)).filter fun q=>decide (q.2∈ls):=by
  intro L
  induction L with
  | nil=>rfl
  | cons r L ih=>
    rw [List.filterMap_cons,List.filterMap_cons,ih]
    unfold FQ kG
    cases h:bears ws (p++r) with
    | true=>rfl
    | false=>
      rw [if_neg Bool.false_ne_true,if_neg Bool.false_ne_true]
      by_cases hl:lend ss (p++r)∈ls
      ·rw [if_pos hl,List.filter_cons_of_pos (by exact decide_eq_true hl)]
      ·rw [if_neg hl,List.filter_cons_of_neg (by simpa using hl)]
 exact this _
end
end Bs
namespace L2
open PySem Bs
noncomputable def Wn (q:Str×Str):kH:=.tup [.at (.str q.1),.at (.str q.2)]
end L2
namespace Sx
open PySem L2 Bs
noncomputable def Wo (C CN:Addr):Sp:=fun vs H Q E=>∃ (x:Addr) (v:V) (g:Str) (ws ss ls:List Str),vs=[.ref x,v]∧ax C H x g ws ss ls∧Thing H v∧((∃ p,v=.str p∧p∈ls∧Q .non H)∨((∀ p∈ls,v≠.str p)∧Fi CN v H E))
noncomputable def Mo (C CN:Addr):Sp:=fun vs H Q E=>∃ (x:Addr) (v:V) (n:Nat) (g:Str) (ws ss ls:List Str),vs=[.ref x,v,.int (n:Int)]∧ax C H x g ws ss ls∧Thing H v∧g.length ^ n≤100∧n≤10∧2≤g.length∧g.length≤10 ∧
 ((∃ p,v=.str p∧p∈ls∧∀ (l':Addr) (qP:List Addr) (H':Hp),a6 H H'→H l'=none→bX H' l' qP (aB g ws ss ls n p)→Q (.ref l') H')∨((∀ p∈ls,v≠.str p)∧Fi CN v H E))
noncomputable def OS (K:PySem.W.Frag):Sp:=fun vs H Q _=>∃ (sa wa:Addr) (g:Str) (ws ss:List Str),vs=[.ref sa,.ref wa,.str g]∧aK K H sa (ss.map V.str)∧aK K H wa (ws.map V.str)∧("":Str)∈ss∧ss.length≤900∧ws.length≤100∧g.length≤10∧(∀ p∈ss,p.length≤100) ∧
 ∀ (l:Addr) (H':Hp),a6 H H'→H l=none→H' l=some (.lst ((rounds ss (rowOf g ws ss) ss.length).map V.str))→Q (.ref l) H'
noncomputable def R7 (K:PySem.W.Frag):Sp:=fun vs H Q _=>∃ (p:Str) (n:Nat) (g:Str) (wa la sa:Addr) (ws ls ss:List Str),vs=[.str p,.int (n:Int),.str g,.ref wa,.ref la,.ref sa]∧aK K H wa (ws.map V.str)∧aK K H la (ls.map V.str)∧aK K H sa (ss.map V.str)∧("":Str)∈ss∧ws.length≤100∧p.length≤100∧g.length ^ n≤100∧n≤10∧2≤g.length∧g.length≤10 ∧
 ∀ (l:Addr) (rs:List Addr) (H':Hp),a6 H H'→H l=none→bX H' l rs ((Ie g n).filterMap (FQ ws ss ls p))→Q (.ref l) H'
noncomputable def Mp:Sp:=fun vs H Q _=>∃ (l:Addr) (rs:List Addr) (qs:List (Str×Str)),vs=[.ref l]∧bX H l rs qs∧∀ H',a6 H H'→Q (.bl true) H'
noncomputable def R8 (C:Addr):Sp:=fun vs H Q _=>∃ (x:Addr) (v:V) (n:Nat) (g:Str) (ws ss ls:List Str),vs=[.ref x,v,.int (n:Int)]∧ax C H x g ws ss ls∧Thing H v∧(∀ a,v=.ref a→H a≠some (.dK []))∧g.length ^ n≤100∧n≤10∧2≤g.length∧g.length≤10∧(∀ p∈ls,v≠.str p)∧∀ H',a6 H H'→Q (.bl true) H'
end Sx
namespace L2
open PySem PySem.Spec PyProof.Rows Sx
section
variable {X:Cx}
end
theorem bF.qT {K:PySem.W.Frag} {H:Hp}:∀ (ds:List kH) (ys:List V),ds.length=ys.length→(∀ (i:Nat) (d:kH) (y:V),ds[i]?=some d→ys[i]?=some y→eO K H d y)→bF K H ds ys
 | [],[],_,_=>rfl
 | [],_ :: _,h,_=>by simp at h
 | _ :: _,[],h,_=>by simp at h
 | d :: ds,y :: ys,h,r=>⟨y,ys,rfl,r 0 d y rfl rfl,bF.qT ds ys (by simpa using h) fun i d' y' h1 h2=>r (i + 1) d' y' h1 h2⟩
theorem FR {J:It} {Ok:Hp→Prop} {xs:List V} {l:Addr} {σf:St} {te:TE} {H:Hp} {Q:Hp→Prop} (R:Nat→V→Hp→Prop) (hm:∀ i y H1 H2 ys,R i y H1→H1 l=some (.lst ys)→(∀ b o,H1 b=some o→b≠l→H2 b=some o)→R i y H2) (hJ:nq J Ok xs) (hl:H l=none) (hz:xs.length≤sizeLine) (om:∀ H',a6 H H'→Ok H')
 (he:∀ i x H3 ys Q',xs[i]?=some x→a6 H H3→H3 l=some (.lst ys)→(∀ y H',a6 H3 H'→R i y H'→Q' y H')→te (some x :: σf) H3 Q')
 (hd:∀ ys H',a6 H H'→H' l=some (.lst ys)→ys.length=xs.length→(∀ i y,ys[i]?=some y→R i y H')→Q H'):oW J l σf A9 te H Q:=by
 refine ⟨fun i m vs H2=>m=xs.length - i∧i≤xs.length∧a6 H H2∧H2 l=some (.lst vs)∧vs.length=i∧∀ j y,vs[j]?=some y→R j y H2,⟨xs.length,by simp,Nat.zero_le _,a6.upd hl,a9,rfl,fun j y h=>by simp at h⟩,?_⟩
 rintro i m vs H2 ⟨rfl,hi,s2,h2,TQ,hR⟩
 refine ⟨h2,?_⟩
 by_cases eM:i < xs.length
 ·refine .inr ⟨hJ.go i H2 (om _ s2) eM,by rw [TQ]; omega,fun x H3 y=>?_⟩
  obtain ⟨e,hx⟩:=hJ.xr i H2 x H3 (om _ s2) eM y
  subst e
  unfold A9
  dsimp only
  rw [if_pos rfl]
  refine he i x _ vs _ hx s2 h2 fun y H5 s5 Tu=>⟨s5 _ _ h2,xs.length - (i + 1),by omega,rfl,eM,fun b o e=>?_,a9,by rw [List.length_append,TQ]; rfl,fun j z hj=>?_⟩
  ·rw [ai (aj e hl)]
   exact s5 _ _ (s2 _ _ e)
  ·have Ou:=s5 _ _ h2
   have kp:∀ b o,H5 b=some o→b≠l→(upd H5 l (.lst (vs++[y]))) b=some o:=fun b o e hb=>by rw [ai hb]; exact e
   by_cases TR:j < vs.length
   ·rw [List.getElem?_append_left TR] at hj
    exact hm j z H5 _ _ (hm j z _ _ _ (hR j z hj) h2 fun b o e _=>s5 _ _ e) Ou kp
   ·rw [List.getElem?_append_right (by omega)] at hj
    have R9:j - vs.length=0:=by
     have:=(List.getElem?_eq_some_iff.mp hj).1
     simp at this
     omega
    rw [R9] at hj
    cases hj
    have:j=i:=by omega
    rw [this]
    exact hm i y H5 _ _ Tu Ou kp
 ·have e:i=xs.length:=by omega
  subst e
  exact .inl ⟨hJ.stop H2 (om _ s2),hd vs H2 s2 h2 TQ hR⟩
end L2
namespace L2
open PySem PySem.Spec PyProof.Rows Sx
section
variable {X:Cx}
theorem Dz {K:PySem.W.Frag} (hK:X.K=K):K9 X "list.index" (fun x xs H Q=>∃ l zs k i,x=.ref l∧xs=[.str k]∧aK K H l (List.map V.str zs)∧zs.length≤1000∧zs[i]?=some k∧(∀ j:Nat,j < i→zs[j]?≠some k)∧Q (.int (i:Nat)) H):=by
 subst hK
 intro pins s σ H x xs v us Q I rx rs h
 obtain ⟨l,zs,k,i,rfl,rfl,hq,hz1,hi,EH,q⟩:=h
 cases rx
 obtain ⟨u,rfl,t',rfl⟩:=rs.one
 obtain ⟨its,rv,pl,hz⟩:=I.list hq
 obtain ⟨⟨cls,dd,data,sl⟩,ho,hc,n,hd⟩:=pl.isList
 simp only at hc hd
 subst hc hd
 have hlen:=rv.length
 rw [List.length_map] at hlen
 have Mq:i < zs.length:=(List.getElem?_eq_some_iff.mp hi).1
 have at_:∀ m (hm:m < its.length),∃ t,its[m]=.str (zs[m]'(by omega)) t:=fun m hm=>by
  obtain ⟨w,e1,r1⟩:=rv.get (i:=m) (x:=.str (zs[m]'(by omega))) (by rw [List.getElem?_map,List.getElem?_eq_getElem (by omega)]; rfl)
  rw [List.getElem?_eq_getElem hm] at e1
  obtain ⟨t,rfl⟩:=r1
  exact ⟨t,Option.some.inj e1⟩
 refine call_meets PySem.F.slot_list_index ⟨_,ho,rfl⟩ PySem.F.entry_list_index (PySem.F.args_list_index_2 _ _)
  (PySem.SeqAt.list_indexAt l its.toArray n dd sl (.str k t') (fun w=>match w with | .str z _=>z == k | _=>false) i (by simp; omega) (by omega) ?_ ?_) ⟨ho,fun y hy=>?_,?_⟩
 ·obtain ⟨t,e⟩:=at_ i (by omega)
  have ek:zs[i]=k:=(List.getElem?_eq_some_iff.mp hi).2
  simp only [List.getElem_toArray]
  rw [e,ek]
  simp
 ·intro m hm eM
  have Td:m < its.length:=by simpa using hm
  obtain ⟨t,e⟩:=at_ m Td
  simp only [List.getElem_toArray]
  rw [e]
  have kF:=EH m eM
  rw [List.getElem?_eq_getElem (by omega)] at kF
  simp only [beq_eq_false_iff_ne,ne_eq]
  exact fun z=>kF (by rw [z])
 ·have ZA:y∈its:=by simpa using hy
  obtain ⟨m,hm,rfl⟩:=List.getElem_of_mem ZA
  obtain ⟨t,e⟩:=at_ m hm
  rw [e]
  exact PySem.SeqAt.EqAt.str_str _ _ _ _
 ·exact ⟨.int (i:Nat),H,I.tok _,⟨_,rfl⟩,q⟩
end
end L2
namespace L2
open PySem PySem.Spec PyProof.Rows Sx Bs
theorem nI {H H':Hp} {a:Addr} {o:HO} (s:a6 H H') (h:Rd H a o):Rd H' a o:=by
 rcases h with e | ⟨z,e⟩
 ·exact .inl (s _ _ e)
 ·exact .inr ⟨z,s _ _ e⟩
theorem a6.TU {K:PySem.W.Frag} {H H':Hp} {a:Addr} {xs:List V} (s:a6 H H') (h:jF K H a xs):jF K H' a xs:=by
 rcases h with e | e
 ·exact .inl (nI s e)
 ·exact .inr e
mutual
theorem eO.same {K:PySem.W.Frag} {H H':Hp} (s:a6 H H'):∀ (d:kH) (v:V),eO K H d v→eO K H' d v
 | .at _,_,h=>h
 | .tup ds,_,h=>by
   obtain ⟨a,xs,e,hs,hl⟩:=h
   exact ⟨a,xs,e,s _ _ hs,bF.same s ds xs hl⟩
 | .lst ds,_,h=>by
   obtain ⟨a,xs,e,hs,hl⟩:=h
   exact ⟨a,xs,e,nI s hs,bF.same s ds xs hl⟩
theorem bF.same {K:PySem.W.Frag} {H H':Hp} (s:a6 H H'):∀ (ds:List kH) (xs:List V),bF K H ds xs→bF K H' ds xs
 | [],_,h=>h
 | d :: ds,_,h=>by
   obtain ⟨v,vs,e,hv,hl⟩:=h
   exact ⟨v,vs,e,eO.same s d v hv,bF.same s ds vs hl⟩
end
theorem bF.len {K:PySem.W.Frag} {H:Hp}:∀ {ds:List kH} {xs:List V},bF K H ds xs→xs.length=ds.length
 | [],xs,h=>by
   have e:xs=[]:=h
   subst e
   rfl
 | d :: ds,_,h=>by
   obtain ⟨v,vs,rfl,_,hl⟩:=h
   rw [List.length_cons,List.length_cons,bF.len hl]
theorem bF.get {K:PySem.W.Frag} {H:Hp}:∀ {ds:List kH} {xs:List V},bF K H ds xs→∀ (i:Nat) (x:V),xs[i]?=some x→∃ d,ds[i]?=some d∧eO K H d x
 | [],_,h,i,x,e=>by
   rw [show _=[] from h] at e
   simp at e
 | d :: ds,_,h,i,x,e=>by
   obtain ⟨v,vs,rfl,hv,hl⟩:=h
   cases i with
   | zero=>cases e; exact ⟨d,rfl,hv⟩
   | succ i=>exact bF.get hl i x e
theorem bF.at {K:PySem.W.Frag} {H:Hp} {ds:List kH} {xs:List V} (h:bF K H ds xs) {i:Nat} {d:kH} (e:ds[i]?=some d):∃ x,xs[i]?=some x∧eO K H d x:=by
 have hi:i < ds.length:=(List.getElem?_eq_some_iff.mp e).1
 have hx:xs[i]?=some (xs[i]'(by rw [h.len]; exact hi)):=List.getElem?_eq_getElem _
 obtain ⟨d',e',r⟩:=h.get i _ hx
 rw [e] at e'
 cases e'
 exact ⟨_,hx,r⟩
noncomputable def bp (H H':Hp):Hp:=fun a=>match H a with
 | none=>H' a
 | some _=>none
theorem oE (H H':Hp):a6 (bp H H') H':=fun a o e=>by
 unfold bp at e
 cases h:H a with
 | none=>rw [h] at e; exact e
 | some z=>rw [h] at e; cases e
theorem jP {H0 H H':Hp} (s:a6 H0 H):a6 (bp H H') (bp H0 H'):=fun a o e=>by
 unfold bp at e ⊢
 cases h:H a with
 | none=>rw [h] at e; rw [none_of s h]; exact e
 | some z=>rw [h] at e; cases e
theorem j1 {H H' H2:Hp} (s:a6 H' H2):a6 (bp H H') (bp H H2):=fun a o e=>by
 unfold bp at e ⊢
 cases h:H a with
 | none=>rw [h] at e; exact s _ _ e
 | some z=>rw [h] at e; cases e
theorem eU {H H1 H2:Hp} {l:Addr} {o:HO} (hl:H l=some o) (kp:∀ b o,H1 b=some o→b≠l→H2 b=some o):a6 (bp H H1) (bp H H2):=fun a oo e=>by
 unfold bp at e ⊢
 cases h:H a with
 | none=>
   rw [h] at e
   exact kp _ _ e fun z=>by rw [z,hl] at h; cases h
 | some z=>rw [h] at e; cases e
theorem fN {H H':Hp} {a:Addr} {o:HO} (h:H a=none) (e:H' a=some o):bp H H' a=some o:=by
 unfold bp
 rw [h]
 exact e
theorem yr {K:PySem.W.Frag} {J:It} {Ok:Hp→Prop} {xs:List V} {l:Addr} {σf:St} {te:TE} {H:Hp} {Q:Hp→Prop} (ds:List kH) (hJ:nq J Ok xs) (hl:H l=none) (hz:xs.length≤sizeLine) (zI:ds.length=xs.length) (om:∀ H',a6 H H'→Ok H')
 (he:∀ (i:Nat) (x:V) (d:kH) H3 Q',xs[i]?=some x→ds[i]?=some d→a6 H H3→(∀ y H',a6 H3 H'→eO K (bp H3 H') d y→Q' y H')→te (some x :: σf) H3 Q')
 (hd:∀ H',a6 H H'→eO K (bp H H') (.lst ds) (.ref l)→Q H'):oW J l σf A9 te H Q:=by
 refine FR (fun i y H'=>∀ d,ds[i]?=some d→∃ H3 o,a6 H H3∧H3 l=some o∧eO K (bp H3 H') d y) ?_ hJ hl hz om (fun i x H3 ys Q' hx s3 h3 qq=>?_) (fun ys H' s' h' hlen hR=>?_)
 ·intro i y H1 H2 ys r Lf kp d zN
  obtain ⟨H3,o,s3,h3,r⟩:=r d zN
  exact ⟨H3,o,s3,h3,eO.same (eU h3 kp) d y r⟩
 ·have hi:i < ds.length:=by rw [zI]; exact (List.getElem?_eq_some_iff.mp hx).1
  refine he i x ds[i] H3 _ hx (List.getElem?_eq_getElem hi) s3 fun y H' s' r=>qq y H' s' fun d zN=>?_
  rw [List.getElem?_eq_getElem hi] at zN
  cases zN
  exact ⟨H3,_,s3,h3,r⟩
 ·refine hd H' s' ⟨l,ys,rfl,.inl (fN hl h'),bF.qT ds ys (by rw [zI,hlen]) fun i d y zN hy=>?_⟩
  obtain ⟨H3,o,s3,h3,r⟩:=hR i y hy d zN
  exact eO.same (jP s3) d y r
end L2
namespace L2
open PySem PySem.Spec PyProof.Rows Sx Bs
theorem uD {K:PySem.W.Frag} {J:It} {Ok:Hp→Prop} {xs:List V} {prs:List (V×V)} {l:Addr} {σf:St} {tt:TT} {te:TE} {H:Hp} {Q:Hp→Prop} (p:V×V→Bool) (D:V×V→kH) (hJ:nq J Ok xs) (hlen:xs.length=prs.length)
 (hT:∀ (i:Nat) (q:V×V),prs[i]?=some q→∃ r,xs[i]?=some (.ref r)∧jF K H r [q.1,q.2]) (hl:H l=none) (hz:xs.length≤sizeLine) (om:∀ H',a6 H H'→Ok H')
 (ht:∀ q H3 Q',q∈prs→a6 H H3→(∀ H',a6 H3 H'→Q' (p q) H')→tt (some q.1 :: some q.2 :: σf) H3 Q')
 (he:∀ q H3 Q',q∈prs→p q=true→a6 H H3→(∀ y H',a6 H3 H'→eO K (bp H3 H') (D q) y→Q' y H')→te (some q.1 :: some q.2 :: σf) H3 Q')
 (hd:∀ H',a6 H H'→eO K (bp H H') (.lst ((prs.filter p).map D)) (.ref l)→Q H'):mI K J l σf tt te H Q:=by
 refine ⟨fun i m ys H2=>m=xs.length - i∧i≤xs.length∧a6 H H2∧H2 l=some (.lst ys)∧ys.length=((prs.take i).filter p).length∧∀ (j:Nat) (d:kH) (y:V),(((prs.take i).filter p).map D)[j]?=some d→ys[j]?=some y→∃ H3 o,a6 H H3∧H3 l=some o∧eO K (bp H3 H2) d y,
  ⟨xs.length,by simp,Nat.zero_le _,a6.upd hl,a9,by simp,fun j d y h=>by simp at h⟩,?_⟩
 rintro i m ys H2 ⟨rfl,hi,s2,h2,zG,hR⟩
 refine ⟨h2,?_⟩
 by_cases eM:i < xs.length
 ·have xu:((prs.take i).filter p).length≤i:=Nat.le_trans (List.length_filter_le _ _) (by rw [List.length_take]; omega)
  refine .inr ⟨hJ.go i H2 (om _ s2) eM,by omega,fun x H3 y=>?_⟩
  obtain ⟨e,hx⟩:=hJ.xr i H2 x H3 (om _ s2) eM y
  subst e
  have hq:prs[i]?=some prs[i]:=List.getElem?_eq_getElem (by omega)
  obtain ⟨r,Wq,hr⟩:=hT i _ hq
  rw [hx] at Wq
  cases Wq
  have mem:prs[i]∈prs:=List.getElem_mem _
  have tk:prs.take (i + 1)=prs.take i++[prs[i]]:=by rw [List.take_add_one,hq]; rfl
  refine ⟨r,prs[i].1,prs[i].2,rfl,s2.TU hr,ht prs[i] _ _ mem s2 fun H4 s4=>?_⟩
  have Jv:∀ (j:Nat) (d:kH) (y:V),(((prs.take i).filter p).map D)[j]?=some d→ys[j]?=some y→∃ H3 o,a6 H H3∧H3 l=some o∧eO K (bp H3 H4) d y:=fun j d y h1 h3=>by
   obtain ⟨H5,o,s5,h5,r5⟩:=hR j d y h1 h3
   exact ⟨H5,o,s5,h5,eO.same (j1 s4) d y r5⟩
  cases hp:p prs[i] with
  | false=>
    rw [if_neg Bool.false_ne_true]
    have ef:(prs.take (i + 1)).filter p=(prs.take i).filter p:=by rw [tk,List.filter_append]; simp [hp]
    exact ⟨xs.length - (i + 1),by omega,rfl,eM,s2.trans s4,s4 _ _ h2,by rw [ef]; exact zG,by rw [ef]; exact Jv⟩
  | true=>
    rw [if_pos rfl]
    have ef:(prs.take (i + 1)).filter p=(prs.take i).filter p++[prs[i]]:=by rw [tk,List.filter_append]; simp [hp]
    have yu:=s4 _ _ h2
    refine he prs[i] _ _ mem hp (s2.trans s4) fun y H5 s5 r5=>⟨s5 _ _ yu,xs.length - (i + 1),by omega,rfl,eM,fun b o e=>?_,a9,by rw [ef,List.length_append,List.length_append,zG]; rfl,fun j d z hj zJ=>?_⟩
    ·rw [ai (aj e hl)]
     exact s5 _ _ (s4 _ _ (s2 _ _ e))
    ·have kp:∀ b o,H5 b=some o→b≠l→(upd H5 l (.lst (ys++[y]))) b=some o:=fun b o e hb=>by rw [ai hb]; exact e
     rw [ef,List.map_append] at hj
     have OT:(((prs.take i).filter p).map D).length=ys.length:=by rw [List.length_map,zG]
     by_cases TR:j < ys.length
     ·rw [List.getElem?_append_left (by omega)] at hj
      rw [List.getElem?_append_left TR] at zJ
      obtain ⟨H6,o,s6,h6,r6⟩:=Jv j d z hj zJ
      exact ⟨H6,o,s6,h6,eO.same ((j1 s5).trans (eU h6 kp)) d z r6⟩
     ·rw [List.getElem?_append_right (by omega)] at hj zJ
      have R9:j - ys.length=0:=by
       have:=(List.getElem?_eq_some_iff.mp zJ).1
       simp at this
       omega
      rw [OT,R9] at hj
      rw [R9] at zJ
      cases hj
      cases zJ
      exact ⟨H4,_,s2.trans s4,yu,eO.same (eU yu kp) _ _ r5⟩
 ·have e:i=xs.length:=by omega
  subst e
  refine .inl ⟨hJ.stop H2 (om _ s2),hd H2 s2 ⟨l,ys,rfl,.inl (fN hl h2),bF.qT _ ys ?_ fun j d y hj hy=>?_⟩⟩
  ·rw [hlen,List.take_length] at zG
   rw [List.length_map,zG]
  ·have Wr:=hR j d y
   rw [hlen,List.take_length] at Wr
   obtain ⟨H3,o,s3,h3,r3⟩:=Wr hj hy
   exact eO.same (jP s3) d y r3
noncomputable def yv (H:Hp) (x:Addr):Hp:=fun d=>if d=x then none else H d
theorem qU {H:Hp} {x d:Addr} {o:HO} (h:H d=some o) (hd:d≠x):yv H x d=some o:=by
 unfold yv
 rw [if_neg hd]
 exact h
theorem Ch {H H':Hp} {x:Addr} (kp:∀ b o,H b=some o→b≠x→H' b=some o):a6 (yv H x) H':=fun d o e=>by
 unfold yv at e
 by_cases hd:d=x
 ·rw [if_pos hd] at e; cases e
 ·rw [if_neg hd] at e; exact kp _ _ e hd
theorem Lg {H:Hp} {x C dx:Addr} {fs:List (Str×V)} (hx:H x=some (.ins C dx fs)) {d:Addr} {o:HO} (h:Rd H d o) (ho:∀ z,o≠.ins C dx z) (hf:∀ a b,HO.frz a b≠.ins C dx fs):Rd (yv H x) d o:=by
 rcases h with e | ⟨z,e⟩
 ·exact .inl (qU e fun q=>by rw [q,hx] at e; exact ho fs (Option.some.inj e).symm)
 ·exact .inr ⟨z,qU e fun q=>by rw [q,hx] at e; exact hf _ _ (Option.some.inj e).symm⟩
theorem Ik {K:PySem.W.Frag} {H:Hp} {x C dx:Addr} {fs:List (Str×V)} (hx:H x=some (.ins C dx fs)) {d:Addr} {ys:List V} (h:aK K H d ys):aK K (yv H x) d ys:=by
 rcases h with (e | ⟨o,e⟩) | e
 ·exact .inl (.inl (qU e fun z=>by rw [z,hx] at e; cases e))
 ·exact .inl (.inr ⟨o,qU e fun z=>by rw [z,hx] at e; cases e⟩)
 ·exact .inr e
mutual
theorem eO.off {K:PySem.W.Frag} {H:Hp} {x C dx:Addr} {fs:List (Str×V)} (hx:H x=some (.ins C dx fs)):∀ (d:kH) (v:V),eO K H d v→eO K (yv H x) d v
 | .at _,_,h=>h
 | .tup ds,_,h=>by
   obtain ⟨a,xs,e,hs,hl⟩:=h
   exact ⟨a,xs,e,qU hs (fun z=>by rw [z,hx] at hs; cases hs),bF.off hx ds xs hl⟩
 | .lst ds,_,h=>by
   obtain ⟨a,xs,e,hs,hl⟩:=h
   exact ⟨a,xs,e,Lg hx hs (fun _ z=>by cases z) (fun _ _ z=>by cases z),bF.off hx ds xs hl⟩
theorem bF.off {K:PySem.W.Frag} {H:Hp} {x C dx:Addr} {fs:List (Str×V)} (hx:H x=some (.ins C dx fs)):∀ (ds:List kH) (xs:List V),bF K H ds xs→bF K (yv H x) ds xs
 | [],_,h=>h
 | d :: ds,_,h=>by
   obtain ⟨v,vs,e,hv,hl⟩:=h
   exact ⟨v,vs,e,eO.off hx d v hv,bF.off hx ds vs hl⟩
end
theorem jQ {K:PySem.W.Frag} {H:Hp} {d:kH} {v:V}:∀ {ds:List kH} {xs:List V},bF K H ds xs→eO K H d v→bF K H (ds++[d]) (xs++[v])
 | [],xs,h,r=>by
   have e:xs=[]:=h
   subst e
   exact ⟨v,[],rfl,r,rfl⟩
 | d0 :: ds,_,h,r=>by
   obtain ⟨v0,vs,rfl,hv,hl⟩:=h
   exact ⟨v0,vs++[v],rfl,hv,jQ hl r⟩
end L2
namespace Bs
open PySem L2 Sx
noncomputable def ky (q:Str×Nat):kH:=.tup [.at (.str q.1),.at (.int (q.2:Int))]
noncomputable def dE (qs:List (Str×Nat)):kH:=.lst (qs.map ky)
noncomputable def AA (lns:List (List (Str×Nat))):kH:=.lst (lns.map dE)
noncomputable def uE (hs:List Str):kH:=.lst (hs.map fun h=>.at (.str h))
noncomputable def uF (ws:List Int):kH:=.lst (ws.map fun w=>.at (.int w))
theorem FT {K:PySem.W.Frag} {H:Hp} {hs:List Str} {v:V} (h:eO K H (uE hs) v):∃ a,v=.ref a∧aK K H a (hs.map V.str):=by
 obtain ⟨a,xs,rfl,hS,hl⟩:=h
 refine ⟨a,rfl,?_⟩
 have:xs=hs.map V.str:=by
  refine List.ext_getElem? fun i=>?_
  cases e:xs[i]? with
  | none=>
    have:=hl.len
    rw [List.length_map] at this
    rw [List.getElem?_eq_none (by rw [List.length_map]; have:=List.getElem?_eq_none_iff.mp e; omega)]
  | some x=>
    obtain ⟨d,hd,r⟩:=hl.get i x e
    rw [List.getElem?_map] at hd ⊢
    cases eh:hs[i]? with
    | none=>rw [eh] at hd; cases hd
    | some z=>
      rw [eh] at hd
      cases hd
      rw [r.1]
      rfl
 rw [← this]
 exact .inl hS
theorem yw {K:PySem.W.Frag} {H:Hp} {ws:List Int} {v:V} (h:eO K H (uF ws) v):∃ a,v=.ref a∧aK K H a (ws.map V.int):=by
 obtain ⟨a,xs,rfl,hS,hl⟩:=h
 refine ⟨a,rfl,?_⟩
 have:xs=ws.map V.int:=by
  refine List.ext_getElem? fun i=>?_
  cases e:xs[i]? with
  | none=>
    have:=hl.len
    rw [List.length_map] at this
    rw [List.getElem?_eq_none (by rw [List.length_map]; have:=List.getElem?_eq_none_iff.mp e; omega)]
  | some x=>
    obtain ⟨d,hd,r⟩:=hl.get i x e
    rw [List.getElem?_map] at hd ⊢
    cases eh:ws[i]? with
    | none=>rw [eh] at hd; cases hd
    | some z=>
      rw [eh] at hd
      cases hd
      rw [r.1]
      rfl
 rw [← this]
 exact .inl hS
theorem qV {K:PySem.W.Frag} {H:Hp} {hs:List Str} {a:Addr} (h:H a=some (.lst (hs.map V.str))):eO K H (uE hs) (.ref a):=
 ⟨a,_,rfl,.inl h,bF.qT _ _ (by simp) fun i d y hd hy=>by
   rw [List.getElem?_map] at hd hy
   cases e:hs[i]? with
   | none=>rw [e] at hd; cases hd
   | some z=>rw [e] at hd hy; cases hd; cases hy; exact ⟨rfl,rfl⟩⟩
theorem qW {K:PySem.W.Frag} {H:Hp} {ws:List Int} {a:Addr} (h:H a=some (.lst (ws.map V.int))):eO K H (uF ws) (.ref a):=
 ⟨a,_,rfl,.inl h,bF.qT _ _ (by simp) fun i d y hd hy=>by
   rw [List.getElem?_map] at hd hy
   cases e:ws[i]? with
   | none=>rw [e] at hd; cases hd
   | some z=>rw [e] at hd hy; cases hd; cases hy; exact ⟨rfl,rfl⟩⟩
noncomputable def lz (q:Str×Nat):V×V:=(.str q.1,.int (q.2:Int))
theorem qX {K:PySem.W.Frag} {H:Hp} {qs:List (Str×Nat)} {v:V} (h:eO K H (dE qs) v):∃ a xs,v=.ref a∧aK K H a xs∧xs.length=(qs.map lz).length∧∀ (i:Nat) (q:V×V),(qs.map lz)[i]?=some q→∃ r,xs[i]?=some (.ref r)∧H r=some (.tup [q.1,q.2]):=by
 obtain ⟨a,xs,rfl,hS,hl⟩:=h
 refine ⟨a,xs,rfl,.inl hS,by rw [hl.len,List.length_map,List.length_map],fun i q hq=>?_⟩
 rw [List.getElem?_map] at hq
 cases e:qs[i]? with
 | none=>rw [e] at hq; cases hq
 | some z=>
   rw [e] at hq
   cases hq
   obtain ⟨x,hx,r⟩:=hl.at (i:=i) (d:=ky z) (by rw [List.getElem?_map,e]; rfl)
   obtain ⟨ra,ys,rfl,hT,h2⟩:=r
   obtain ⟨v1,vs,rfl,⟨rfl,_⟩,h3⟩:=h2
   obtain ⟨v2,ZB,rfl,⟨rfl,_⟩,h4⟩:=h3
   rw [show ZB=[] from h4] at hT
   exact ⟨ra,hx,hT⟩
theorem yx {K:PySem.W.Frag} {H:Hp} {r:Addr} (hr:H r=none) (q:Str×Nat):eO K (bp H (upd H r (.tup [.str q.1,.int (q.2:Int)]))) (ky q) (.ref r):=
 ⟨r,_,rfl,fN hr a9,.str q.1,[.int (q.2:Int)],rfl,⟨rfl,rfl⟩,.int (q.2:Int),[],rfl,⟨rfl,rfl⟩,rfl⟩
noncomputable def pd (a:Addr):List (Str×V):=[("homes",.ref a)]
noncomputable def nJ (a b:Addr):List (Str×V):=[("homes",.ref a),("weights",.ref b)]
noncomputable def AB (a b c:Addr):List (Str×V):=[("homes",.ref a),("weights",.ref b),("lines",.ref c)]
theorem Jw (a:Addr):gx "homes" (.ref a) []=pd a:=rfl
theorem FU (a b:Addr):gx "weights" (.ref b) (pd a)=nJ a b:=by
 show (if ("homes":Str)="weights" then (("homes":Str),V.ref b) :: [] else (("homes":Str),V.ref a) :: gx "weights" (.ref b) [])=_
 rw [if_neg (by decide +kernel)]
 rfl
theorem Ci (a b c:Addr):gx "lines" (.ref c) (nJ a b)=AB a b c:=by
 show (if ("homes":Str)="lines" then (("homes":Str),V.ref c) :: [(("weights":Str),V.ref b)] else (("homes":Str),V.ref a) :: (if ("weights":Str)="lines" then (("weights":Str),V.ref c) :: [] else (("weights":Str),V.ref b) :: gx "lines" (.ref c) []))=_
 rw [if_neg (by decide +kernel),if_neg (by decide +kernel)]
 rfl
theorem cS (a b c:Addr):(AB a b c).lookup ("homes":Str)=some (.ref a):=by
 rw [← Ci,aQ,if_neg (by decide +kernel),← FU,aQ,if_neg (by decide +kernel),← Jw,aQ,if_pos rfl]
theorem bc (a b c:Addr):(AB a b c).lookup ("weights":Str)=some (.ref b):=by
 rw [← Ci,aQ,if_neg (by decide +kernel),← FU,aQ,if_pos rfl]
theorem bY (a b c:Addr):(AB a b c).lookup ("lines":Str)=some (.ref c):=by
 rw [← Ci,aQ,if_pos rfl]
set_option genInjectivity false in
set_option genSizeOfSpec false in
structure dJ (K:PySem.W.Frag) (C:Addr) (H:Hp) (x:Addr) (hs:List Str) (ws:List Int) (lns:List (List (Str×Nat))):Prop where
 ex:∃ dx a b c,H x=some (.ins C dx (AB a b c))∧eO K H (uE hs) (.ref a)∧eO K H (uF ws) (.ref b)∧eO K H (AA lns) (.ref c)
theorem dJ.same {K:PySem.W.Frag} {C:Addr} {H H':Hp} {x:Addr} {hs:List Str} {ws:List Int} {lns:List (List (Str×Nat))} (h:dJ K C H x hs ws lns) (s:a6 H H'):dJ K C H' x hs ws lns:=by
 obtain ⟨dx,a,b,c,h1,h2,h3,h4⟩:=h
 exact ⟨dx,a,b,c,s _ _ h1,eO.same s _ _ h2,eO.same s _ _ h3,eO.same s _ _ h4⟩
end Bs
namespace Sx
open PySem L2 Bs
noncomputable def FV (K:PySem.W.Frag):Sp:=fun vs H Q _=>∃ (v:V) (qs:List (Str×Nat)),vs=[v]∧eO K H (dE qs) v∧qs.length≤10000∧∀ y H',a6 H H'→eO K (bp H H') (dE qs) y→Q y H'
noncomputable def FW (K:PySem.W.Frag) (C:Addr):Sp:=fun vs H Q _=>∃ (x dx:Addr) (u v w:V) (hs:List Str) (ws:List Int) (lns:List (List (Str×Nat))),vs=[.ref x,u,v,w]∧H x=some (.ins C dx [])∧eO K H (uE hs) u∧eO K H (uF ws) v∧eO K H (AA lns) w∧hs.length≤10000∧ws.length≤10000∧lns.length≤10000∧(∀ l∈lns,l.length≤10000) ∧
 ∀ a b c H',H' x=some (.ins C dx (AB a b c))→eO K (bp H H') (uE hs) (.ref a)→eO K (bp H H') (uF ws) (.ref b)→eO K (bp H H') (AA lns) (.ref c)→(∀ b o,H b=some o→b≠x→H' b=some o)→Q .non H'
end Sx
namespace Bs
open PySem L2 Sx
noncomputable def aw (ls:List Str) (f:Str→Int):List Str:=ls.filter fun p=>decide (0 < f p)
noncomputable def j2 (g:Str) (ws ss ls:List Str) (n:Nat) (hs:List Str) (p:Str):List (Str×Nat):=((aB g ws ss ls n p).filter fun q=>decide (q.2∈hs)).map fun q=>(q.1,hs.idxOf q.2)
noncomputable def eB (g:Str) (ws ss ls:List Str) (n:Nat) (hs:List Str):List (List (Str×Nat)):=hs.map (j2 g ws ss ls n hs)
theorem AD (g:Str) (ws ss ls:List Str) (n:Nat) (hs:List Str) (p:Str):(j2 g ws ss ls n hs p).length≤g.length ^ n:=by
 unfold j2
 rw [List.length_map]
 exact Nat.le_trans (List.length_filter_le _ _) (gY g ws ss ls n p)
theorem pe:∀ {hs:List Str} {j:Nat} (h:j < hs.length),hs.idxOf hs[j]≤j
 | [],j,h=>absurd h (Nat.not_lt_zero _)
 | a :: hs,0,h=>by
   show (a :: hs).idxOf a≤0
   rw [List.idxOf_cons_self]
   exact Nat.le_refl 0
 | a :: hs,j + 1,h=>by
   have h':j < hs.length:=by simpa using h
   show (a :: hs).idxOf hs[j]≤j + 1
   rw [List.idxOf_cons]
   have:=pe h'
   cases (a == hs[j]) with
   | true=>exact Nat.zero_le _
   | false=>show List.idxOf hs[j] hs + 1≤j + 1; omega
theorem oF {hs:List Str} {k:Str} (h:k∈hs):hs[hs.idxOf k]?=some k∧∀ j:Nat,j < hs.idxOf k→hs[j]?≠some k:=by
 have hl:hs.idxOf k < hs.length:=List.idxOf_lt_length_iff.mpr h
 refine ⟨by rw [List.getElem?_eq_getElem hl,List.getElem_idxOf hl],fun j hj e=>?_⟩
 have DA:j < hs.length:=by omega
 rw [List.getElem?_eq_getElem DA] at e
 have e1:hs[j]=k:=Option.some.inj e
 have:hs.idxOf k≤j:=by
  rw [← e1]
  exact pe DA
 omega
end Bs
namespace Sx
open PySem L2 Bs
noncomputable def Il (K:PySem.W.Frag) (C CS:Addr):Sp:=fun vs H Q _=>∃ (x d:Addr) (many:Int) (n:Nat) (m:List (Str×Int)) (f:Str→Int) (g:Str) (ws ss ls:List Str),vs=[.ref x,.int many,.int (n:Int),.ref d]∧ax C H x g ws ss ls∧2≤g.length∧g.length≤10∧ss.length≤900∧gX g.length many n∧Rd H d (.dK (bC m))∧Aw m ls f ∧
 ∀ (y:Addr) (H':Hp),a6 H H'→dJ K CS (bp H H') y (aw ls f) ((aw ls f).map f) (eB g ws ss ls n (aw ls f))→Q (.ref y) H'
end Sx
namespace L2
open PySem PySem.Spec PyProof.Rows Sx
section
variable {X:Cx}
end
end L2
namespace L2
open PySem
theorem iT.rd {K:PySem.W.Frag} {H:Hp} {a:Addr} {xs:List V} (h:Rd H a (.lst xs)):iT K H (.ref a) (.type "list"):=by
 rcases h with e | ⟨o,e⟩
 ·exact .lst e
 ·exact .frz e
end L2
namespace PySem
section
variable {P:Program} {W0:World} {B:Around} {R:Result→Shared→Prop} {I:Addr} {fp wr:List Addr} {n:Nat} {Pr:Nat→Value→Prop} {St:Nat→Heap→Prop}
end
section
variable {P:Program} {W0:World} {B:Around} {E:Value→Shared→Prop} {z:Shared}
end
end PySem
namespace L2
open PySem PySem.Spec PyProof.Rows Sx
section
variable {X:Cx} {e e2:Expr} {te t2:TE} {p kp pos:Pos}
noncomputable def Ws (K:PySem.W.Frag) (te t2:TE):TE:=fun σ H Q=>te σ H fun x H1=>t2 σ H1 fun y H2=>∃ a ns d,x=.ref a∧y=.int d∧aK K H2 a (List.map V.int ns)∧(ns=[]→Q (.int d) H2)∧(∀ M,M∈ns→(∀ a∈ns,a≤M)→Q (.int M) H2)
end
end L2
namespace L2
open PySem PySem.Spec PyProof.Rows Sx
section
variable {X:Cx} {e e2:Expr} {t:TA} {t2:TE} {p kp pos:Pos}
noncomputable def Wt (K:PySem.W.Frag) (t:TA) (t2:TE):TE:=fun σ H Q=>t σ H fun vs H1=>t2 σ H1 fun y H2=>∃ a ns d,vs=[.ref a]∧y=.int d∧aK K H2 a (List.map V.int ns)∧(ns=[]→Q (.int d) H2)∧(∀ M,M∈ns→(∀ a∈ns,a≤M)→Q (.int M) H2)
end
end L2
namespace L2
open PySem PySem.Spec PyProof.Rows Sx Bs
noncomputable def Im (K:PySem.W.Frag) (wi:TI) (ix:List Nat) (tt:TT) (te:TE) (i:Nat):TS:=fun D σ H=>wi σ H fun J H1=>∀ l,H1 l=none→mI K J l (pick σ ix) tt te H1 (fun H2=>D.nx (σ.set i (some (.ref l))) H2)
section
variable {X:Cx} {scope:Scope} {x x2:Str} {ys:List Str} {ix:List Nat}
theorem pf {i:Nat} {y:Str} {px E8 pt py pos EX:Pos} {kt:Nat} {iter elt:Expr} {ifs:List Expr} {wi:TI} {tt:TT} {te:TE} (hc:X.calm=true) (B:dv X scope x ys ix) (hN:X.N.Nodup) (hy:X.N[i]?=some y) (zG:X.env.scope.names.lookup y=some .local) (B2:dv X scope x2 ys ix) (kF:x≠x2) (hi:PI X (.Tuple [.Name x px,.Name x2 E8] kt pt) iter wi)
 (ht:∀ cl L s H ex pn,Jc (b7 X scope (x :: x2 :: ys) cl L s H ex pn) ifs tt) (he:∀ cl L s H ex pn,PE (b7 X scope (x :: x2 :: ys) cl L s H ex pn) elt te)
 (Sw:swapsWith (.ListComp elt [⟨.Tuple [.Name x px,.Name x2 E8] kt pt,iter,ifs,0⟩] scope pos) (some (.Name y py)) EX.line X.env=pure true:=by rfl)
 (hs:∀ v,foldedSetIterable iter X.env v=pure v:=by intro _; rfl):PS X (.Assign [.Name y py] (.ListComp elt [⟨.Tuple [.Name x px,.Name x2 E8] kt pt,iter,ifs,0⟩] scope pos) EX) (Im X.K wi ix tt te i):=by
 intro pins s σ H D I h
 obtain ⟨cl,qp,ip,sF⟩:=i7 (scope:=scope) (env:=X.env) (fun y hy E5=>I.ok.has y.1 (B.free y hy E5))
 rw [exec_Assign_Name_used _ _ _ _ Sw]
 refine wpAny_bind (wpAny_standAt (wpAny_bind ?_))
 show wpAny _ X.A (do let _ ← comprehension (.ListComp elt [⟨.Tuple [.Name x px,.Name x2 E8] kt pt,iter,ifs,0⟩] scope pos) scope X.env _ (newList []) false (eval iter X.env) (some (assign (.Name y py) X.env))) _ _ s
 refine wpAny_bind (wpAny_mono (wpAny_comprehension_free (use:=some (assign (.Name y py) X.env)) (Q:=fun _ s'=>SP X pins D .next s') rfl hs qp B.kind B.names
  (cg (hi pins s σ H _ I h) fun xv s1 h1=>cg h1 fun LV s2 h2=>?_)) (fun _ s' hq=>wpAny_pure (wpAny_pure hq)) fun _ _ e=>e)
 obtain ⟨it,fp,tn,J,H2,e,I2,T,GV,f2,hw⟩:=h2
 subst e
 refine qL (RR:=fun acc C=>compPost (model X.prog X.w) X.A X.xe (some (assign (.Name y py) X.env)) (fun _ s'=>SP X pins D .next s') acc C) (Qd:=fun l H'=>D.nx (σ.set i (some (.ref l))) H') hc B B2 kF I2 T GV f2 ip sF (ht cl) (he cl) hw ?_
 intro D' L H' s' m I' hn eP h1 h2 h3 h4 q
 show wpAny _ X.A (assign (.Name y py) X.env (.ref D')) _ _ _
 refine wpAny_assign_Name (nZ I' hN hy (.inl zG) (v:=.ref D') rfl (fun CI Sy sb=>?_) (.inr zG))
 obtain ⟨a,Je,ha⟩:=sb
 have hL:L≠a:=by
  rcases ha with z | z
  ·rw [z]; exact h1
  ·exact (h3 y a z).symm
 refine ⟨m,hn.sameBut Je hL,fun h' zF=>⟨_,H',Sy.turned (it:=L) (t':=CI.toks) (fun b o hb e=>(zF.2 b hb).trans e) eP h1 (.inr h2) h3 h4,q⟩⟩
noncomputable def OU:R2:=fun x y H Q=>∃ l b xs zs,x=.ref l∧y=.ref b∧Rd H l (.lst xs)∧Rd H b (.lst zs)∧xs.length + zs.length≤sizeLine∧∀ p,H p=none→Q (.ref p) (upd H p (.lst (xs++zs)))
theorem vp:n9 X (binaryOp .Add) OU:=by
 intro pins s σ H x y v u Q I rx ry h
 obtain ⟨l,b,xs,zs,rfl,rfl,hH,hB,hz,q⟩:=h
 cases rx
 cases ry
 obtain ⟨z,its,n,r,e⟩:=hH.ok I.bt
 obtain ⟨z2,jH,n2,r2,e2⟩:=hB.ok I.bt
 have hl:=r.length
 have o9:=r2.length
 refine PySem.P.add_list e e2 ?_ (by rw [List.size_toArray,List.size_toArray]; omega)
 have ea:its.toArray++jH.toArray=(its++jH).toArray:=by simp
 rw [ea]
 exact ⟨.ref _,_,I.Nq (t':=s.toks) (r.append r2) (by rw [List.length_append]; omega),rfl,q _ I.fresh⟩
noncomputable def ZC (K:PySem.W.Frag):R2:=fun x y H Q=>∃ a b xs,x=.ref a∧y=.ref b∧aK K H a xs∧aK K H b []∧Q (.bl (!xs.isEmpty)) H
end
noncomputable def aU {α:Type} (p:Nat→Bool):Nat→List α→List α
 | _,[]=>[]
 | i,x :: xs=>if p i then x :: aU p (i + 1) xs else aU p (i + 1) xs
theorem kc {α:Type} (p:Nat→Bool) (x:α):∀ (k:Nat) (xs:List α),aU p k (xs++[x])=aU p k xs++(if p (k + xs.length) then [x] else [])
 | k,[]=>by
   show (if p k then x :: [] else [])=[]++_
   rw [List.nil_append]
   rfl
 | k,y :: xs=>by
   have e:k + (y :: xs).length=k + 1 + xs.length:=by rw [List.length_cons]; omega
   rw [e]
   show (if p k then y :: aU p (k + 1) (xs++[x]) else aU p (k + 1) (xs++[x]))=(if p k then y :: aU p (k + 1) xs else aU p (k + 1) xs)++_
   rw [kc p x (k + 1) xs]
   cases p k <;> rfl
theorem lR {α:Type} (p:Nat→Bool):∀ (k:Nat) (xs:List α),(aU p k xs).length≤xs.length
 | _,[]=>Nat.le_refl _
 | k,x :: xs=>by
   have:=lR p (k + 1) xs
   show (if p k then x :: aU p (k + 1) xs else aU p (k + 1) xs).length≤xs.length + 1
   cases p k with
   | true=>show (aU p (k + 1) xs).length + 1≤_; omega
   | false=>show (aU p (k + 1) xs).length≤_; omega
theorem uG {α β:Type} (f:α→β) (p:Nat→Bool):∀ (k:Nat) (xs:List α),aU p k (xs.map f)=(aU p k xs).map f
 | _,[]=>rfl
 | k,x :: xs=>by
   show (if p k then f x :: aU p (k + 1) (xs.map f) else aU p (k + 1) (xs.map f))=(if p k then x :: aU p (k + 1) xs else aU p (k + 1) xs).map f
   rw [uG f p (k + 1) xs]
   cases p k <;> rfl
theorem oG {α:Type} (p:Nat→Bool):∀ (k:Nat) (xs:List α),(aU p k xs).Sublist xs
 | _,[]=>List.Sublist.refl _
 | k,x :: xs=>by
   show (if p k then x :: aU p (k + 1) xs else aU p (k + 1) xs).Sublist (x :: xs)
   cases p k with
   | true=>exact (oG p (k + 1) xs).cons₂ x
   | false=>exact (oG p (k + 1) xs).cons x
theorem iO {α:Type} {p:Nat→Bool} {k:Nat} {xs:List α} {x:α} (h:x∈aU p k xs):x∈xs:=(oG p k xs).subset h
theorem bF.pick {K:PySem.W.Frag} {H:Hp} (p:Nat→Bool):∀ (k:Nat) (ds:List kH) (xs:List V),bF K H ds xs→bF K H (aU p k ds) (aU p k xs)
 | _,[],xs,h=>by
   have e:xs=[]:=h
   subst e
   rfl
 | k,d :: ds,_,h=>by
   obtain ⟨v,vs,rfl,hv,hl⟩:=h
   have ih:=bF.pick p (k + 1) ds vs hl
   show bF K H (if p k then d :: aU p (k + 1) ds else aU p (k + 1) ds) (if p k then v :: aU p (k + 1) vs else aU p (k + 1) vs)
   cases p k with
   | true=>exact ⟨v,_,rfl,hv,ih⟩
   | false=>exact ih
theorem bF.set {K:PySem.W.Frag} {H:Hp} {d:kH} {v:V}:∀ {ds:List kH} {xs:List V},bF K H ds xs→∀ i:Nat,eO K H d v→bF K H (ds.set i d) (xs.set i v)
 | [],xs,h,i,r=>by
   have e:xs=[]:=h
   subst e
   exact h
 | d0 :: ds,_,h,0,r=>by
   obtain ⟨v0,vs,rfl,hv,hl⟩:=h
   exact ⟨v,vs,rfl,r,hl⟩
 | d0 :: ds,_,h,i + 1,r=>by
   obtain ⟨v0,vs,rfl,hv,hl⟩:=h
   exact ⟨v0,vs.set i v,rfl,hv,bF.set hl i r⟩
theorem uH {K:PySem.W.Frag} {a l:Addr} {xs:List V} {σf:St} {tt:TT} {te:TE} {H:Hp} {Q:Hp→Prop} (p:Nat→Bool) (hS:aK K H a xs) (hl:H l=none) (hz:xs.length≤sizeLine)
 (ht:∀ (i:Nat) (x:V) H3 Q',xs[i]?=some x→a6 H H3→(∀ H',a6 H3 H'→Q' (p i) H')→tt (some (.int (i:Nat)) :: some x :: σf) H3 Q')
 (he:∀ (i:Nat) (x:V) H3 Q',xs[i]?=some x→a6 H H3→(∀ H',a6 H3 H'→Q' x H')→te (some (.int (i:Nat)) :: some x :: σf) H3 Q')
 (hd:∀ H',a6 H H'→H' l=some (.lst (aU p 0 xs))→Q H'):mI K (M0 K a) l σf tt te H Q:=by
 refine ⟨fun i m ys H2=>m=xs.length - i∧i≤xs.length∧a6 H H2∧H2 l=some (.lst ys)∧ys=aU p 0 (xs.take i),⟨xs.length,by simp,Nat.zero_le _,a6.upd hl,a9,rfl⟩,?_⟩
 rintro i m ys H2 ⟨rfl,hi,s2,h2,e2⟩
 refine ⟨h2,?_⟩
 by_cases eM:i < xs.length
 ·refine .inr ⟨⟨xs,xs[i],s2.seq hS,List.getElem?_eq_getElem eM⟩,?_,fun x H3 y=>?_⟩
  ·rw [e2]
   refine Nat.lt_of_le_of_lt (lR p 0 _) ?_
   rw [List.length_take]
   omega
  ·obtain ⟨T,xv,hT,e3,e4,y⟩:=y
   subst e3 e4
   have hx:xs[i]?=some xv:=y xs (s2.seq hS)
   have s3:a6 H2 (upd H2 T (.tup [.int (i:Nat),xv])):=a6.upd hT
   have tk:xs.take (i + 1)=xs.take i++[xv]:=by rw [List.take_add_one,hx]; rfl
   have Mr:(xs.take i).length=i:=by rw [List.length_take]; omega
   refine ⟨T,.int (i:Nat),xv,rfl,jF.of a9,ht i xv _ _ hx (s2.trans s3) fun H4 s4=>?_⟩
   have h4:=s4 _ _ (s3 _ _ h2)
   cases hp:p i with
   | false=>
     rw [if_neg Bool.false_ne_true]
     exact ⟨xs.length - (i + 1),by omega,rfl,eM,(s2.trans s3).trans s4,h4,by rw [tk,kc,Mr,Nat.zero_add,hp,if_neg Bool.false_ne_true,List.append_nil]; exact e2⟩
   | true=>
     rw [if_pos rfl]
     refine he i xv _ _ hx ((s2.trans s3).trans s4) fun H5 s5=>⟨s5 _ _ h4,xs.length - (i + 1),by omega,rfl,eM,fun b o e=>?_,a9,?_⟩
     ·rw [ai (aj e hl)]
      exact s5 _ _ (s4 _ _ (s3 _ _ (s2 _ _ e)))
     ·rw [tk,kc,Mr,Nat.zero_add,hp,if_pos rfl,e2]
 ·have e:i=xs.length:=by omega
  subst e
  rw [List.take_length] at e2
  exact .inl ⟨⟨xs,s2.seq hS,Nat.le_refl _⟩,hd H2 s2 (by rw [h2,e2])⟩
theorem qY (y:Int) (ns:List Int):nY (.int y) (ns.map V.int)=decide (y∈ns):=by
 unfold nY
 rw [List.any_map]
 induction ns with
 | nil=>rfl
 | cons a l ih=>
   rw [List.any_cons,ih]
   show ((a == y) || decide (y∈l))=decide (y∈a :: l)
   by_cases e:a=y
   ·subst e; simp
   ·have:(a == y)=false:=beq_eq_false_iff_ne.mpr e
    rw [this,Bool.false_or]
    simp [Ne.symm e]
theorem lS (ns:List Int):(ns.map V.int).all cP=true:=List.all_eq_true.mpr fun v hv=>by
 obtain ⟨i,_,rfl⟩:=List.mem_map.mp hv
 rfl
end L2
namespace Bs
open PySem L2 Sx
noncomputable def fO (i:Int) (n:Nat):Bool:=decide (0≤i) && decide (i < (n:Int))
noncomputable def aN (ws:List Int) (qs:List (Str×Nat)):Int:=(qs.map fun q=>ws.getD q.2 0).sum
noncomputable def fJ (ws:List Int) (many:Int) (qs:List (Str×Nat)) (w:Int):Bool:=!qs.isEmpty && (decide (1≤w) && decide (many * w≤aN ws qs))
noncomputable def b9 {α:Type} (ns:List Int) (l:List α):List α:=aU (fun i=>decide ((i:Int)∈ns)) 0 l
noncomputable def aV {α:Type} (ns:List Int) (l:List α):List α:=aU (fun i=>!decide ((i:Int)∈ns)) 0 l
noncomputable def gD (d t:Nat) (l:List (Str×Nat)):List (Str×Nat):=l.flatMap fun q=>if q.2=d then [q,(q.1,t)] else [q]
noncomputable def i9 (ws:List Int) (lns:List (List (Str×Nat))) (many kd:Int) (ns:List Int) (w:Int):Bool:=
 fO kd lns.length && (ns.all (fun i=>fO i (lns.getD kd.toNat []).length) && (fJ ws many (b9 ns (lns.getD kd.toNat [])) w && fJ ws many (aV ns (lns.getD kd.toNat [])) (ws.getD kd.toNat 0 - w)))
noncomputable def bN (hs:List Str) (d:Nat):List Str:=hs++[hs.getD d ""]
noncomputable def bE (ws:List Int) (d:Nat) (w:Int):List Int:=(ws++[ws.getD d 0 - w]).set d w
noncomputable def j3 (lns:List (List (Str×Nat))) (d:Nat) (ns:List Int):List (List (Str×Nat)):=((lns++[aV ns (lns.getD d [])]).set d (b9 ns (lns.getD d []))).map (gD d lns.length)
theorem oH (d t:Nat):∀ l:List (Str×Nat),(gD d t l).length≤2 * l.length
 | []=>Nat.le_refl _
 | q :: l=>by
   have:=oH d t l
   show ((if q.2=d then [q,(q.1,t)] else [q])++gD d t l).length≤2 * (l.length + 1)
   rw [List.length_append]
   split
   ·show 2 + _≤_; omega
   ·show 1 + _≤_; omega
theorem qZ (d t:Nat) (l:List (Str×Nat)) (q:Str×Nat):gD d t (l++[q])=gD d t l++(if q.2=d then [q,(q.1,t)] else [q]):=by
 unfold gD
 rw [List.flatMap_append]
 congr 1
 show (if q.2=d then [q,(q.1,t)] else [q])++[]=_
 rw [List.append_nil]
theorem yy {K:PySem.W.Frag} {H:Hp} (p:Nat→Bool) {qs:List (Str×Nat)} {xs:List V} (h:bF K H (qs.map ky) xs):bF K H ((aU p 0 qs).map ky) (aU p 0 xs):=by
 rw [← uG]
 exact h.pick p 0 _ _
theorem vq {α:Type} {K:PySem.W.Frag} {H:Hp} (f:α→V):∀ (zs:List α) (xs:List V),bF K H (zs.map fun z=>kH.at (f z)) xs→xs=zs.map f
 | [],xs,h=>h
 | z :: zs,_,h=>by
   obtain ⟨v,vs,rfl,⟨rfl,_⟩,hl⟩:=h
   rw [vq f zs vs hl]
   rfl
theorem nK {K:PySem.W.Frag} {H:Hp} {hs:List Str} {a:Addr} (h:eO K H (uE hs) (.ref a)):Rd H a (.lst (hs.map V.str)):=by
 obtain ⟨a',xs,e,hS,hl⟩:=h
 cases e
 rwa [vq V.str hs xs hl] at hS
theorem pZ {K:PySem.W.Frag} {H:Hp} {ws:List Int} {a:Addr} (h:eO K H (uF ws) (.ref a)):Rd H a (.lst (ws.map V.int)):=by
 obtain ⟨a',xs,e,hS,hl⟩:=h
 cases e
 rwa [vq V.int ws xs hl] at hS
theorem jR {K:PySem.W.Frag} {H:Hp} {qs:List (Str×Nat)} {v:V} (h:eO K H (dE qs) v):∃ a rs,v=.ref a∧aK K H a (rs.map V.ref)∧cG H rs ((qs.map lz).map nD):=by
 obtain ⟨a,xs,rfl,hS,hlen,hT⟩:=qX h
 have ex:xs=(xs.map fun v=>match v with | .ref r=>r | _=>0).map V.ref:=by
  rw [List.map_map]
  refine (List.map_id' xs).symm.trans (List.map_congr_left fun v hv=>?_)
  obtain ⟨i,hi,rfl⟩:=List.getElem_of_mem hv
  obtain ⟨r,hr,_⟩:=hT i _ (List.getElem?_eq_getElem (by rw [← hlen]; exact hi))
  rw [List.getElem?_eq_getElem hi] at hr
  rw [Option.some.inj hr]
  rfl
 refine ⟨a,_,rfl,by rw [← ex]; exact hS,by rw [List.length_map,List.length_map,hlen],fun i r ys h1 h2=>?_⟩
 rw [List.getElem?_map] at h1 h2
 cases e:(qs.map lz)[i]? with
 | none=>rw [e] at h2; cases h2
 | some q=>
   rw [e] at h2
   cases h2
   obtain ⟨r',DB,ht⟩:=hT i q e
   rw [DB] at h1
   cases h1
   exact ht
set_option genInjectivity false in
set_option genSizeOfSpec false in
structure Jx (hs:List Str) (ws:List Int) (lns:List (List (Str×Nat))):Prop where
 w:ws.length=hs.length
 l:lns.length=hs.length
 e:∀ l∈lns,∀ q∈l,q.2 < hs.length
 n:hs.length≤1000
 m:∀ l∈lns,l.length≤5000
end Bs
namespace Sx
open PySem L2 Bs
noncomputable def Io (K:PySem.W.Frag):Sp:=fun vs H Q _=>∃ (i:Int) (a:Addr) (xs:List V),vs=[.int i,.ref a]∧aK K H a xs∧Q (.bl (fO i xs.length)) H
noncomputable def Lh (K:PySem.W.Frag) (CS CN:Addr):Sp:=fun vs H Q E=>∃ (x:Addr) (many:Int) (v:V) (w:Int) (hs:List Str) (ws:List Int) (lns:List (List (Str×Nat))) (qs:List (Str×Nat)),vs=[.ref x,.int many,v,.int w]∧dJ K CS H x hs ws lns∧eO K H (dE qs) v∧qs.length≤10000∧(∀ q∈qs,q.2 < ws.length)∧0≤many∧many≤1000 ∧
 ((fJ ws many qs w=true∧∀ H',a6 H H'→Q .non H')∨(fJ ws many qs w=false∧∀ H',a6 H H'→E (.ref CN) none H'))
noncomputable def Ip (K:PySem.W.Frag):Sp:=fun vs H Q _=>∃ (v:V) (d t:Nat) (qs:List (Str×Nat)),vs=[v,.int (d:Int),.int (t:Int)]∧eO K H (dE qs) v∧qs.length≤5000∧∀ y H',a6 H H'→eO K (bp H H') (dE (gD d t qs)) y→Q y H'
noncomputable def Iq (K:PySem.W.Frag) (CS CN:Addr):Sp:=fun vs H Q E=>∃ (x a:Addr) (many kd w:Int) (ns:List Int) (hs:List Str) (ws:List Int) (lns:List (List (Str×Nat))),vs=[.ref x,.int many,.int kd,.ref a,.int w]∧dJ K CS H x hs ws lns∧aK K H a (ns.map V.int)∧ns.length≤10000∧Jx hs ws lns∧0≤many∧many≤1000 ∧
 ((i9 ws lns many kd ns w=true∧∀ y H',a6 H H'→dJ K CS (bp H H') y (bN hs kd.toNat) (bE ws kd.toNat w) (j3 lns kd.toNat ns)→Q (.ref y) H')∨(i9 ws lns many kd ns w=false∧∀ H',a6 H H'→E (.ref CN) none H'))
end Sx
namespace L2
open PySem PySem.Spec PyProof.Rows Sx Bs
section
variable {X:Cx}
noncomputable def Ra (K:PySem.W.Frag):R2:=fun x y H Q=>∃ a b xs,x=.ref a∧y=.ref b∧aK K H a xs∧aK K H b xs∧(∀ v∈xs,FN v=true∨∃ c,v=.ref c)∧Q (.bl false) H
end
end L2
namespace Bs
open PySem L2 Sx
noncomputable def OV (z:Str):Prop:=z.length < 2∨4 < z.length∨(∃ c∈ch z,c∉ch gm)∨∃ i j,i < j∧j < z.length∧eR z i=eR z j
noncomputable def FX (H:Hp) (v:V):Prop:=Thing H v∧∀ z,v=.str z→OV z∧z.length≤100
noncomputable def OW (g z:Str):Prop:=z.length < 1∨5 < z.length∨∃ c∈ch z,c∉ch g
noncomputable def yz (g:Str) (H:Hp) (v:V):Prop:=Thing H v∧∀ z,v=.str z→OW g z∧z.length≤100
theorem FX.same {H H':Hp} {v:V} (h:FX H v) (s:a6 H H'):FX H' v:=⟨h.1.same s,h.2⟩
theorem yz.same {g:Str} {H H':Hp} {v:V} (h:yz g H v) (s:a6 H H'):yz g H' v:=⟨h.1.same s,h.2⟩
end Bs
namespace Sx
open PySem L2 Bs
noncomputable def TV:Sp:=fun vs H Q _=>∃ v,vs=[v]∧((∃ z,v=.str z∧jJ z∧∀ H',a6 H H'→Q (.bl true) H')∨(FX H v∧∀ H',a6 H H'→Q (.bl false) H'))
noncomputable def TX:Sp:=fun vs H Q _=>∃ (v:V) (g:Str),vs=[v,.str g]∧((∃ z,v=.str z∧iq g z∧∀ H',a6 H H'→Q (.bl true) H')∨(yz g H v∧∀ H',a6 H H'→Q (.bl false) H'))
noncomputable def AF (C:Addr) (name:Str) (n:Int) (H:Hp) (E:XK):Prop:=∀ (d:Addr) (H':Hp),a6 H H'→H d=none→H' d=some (.xd [(name,.int n)])→E (.ref C) (some d) H'
noncomputable def OX (K:PySem.W.Frag) (CT CW:Addr):Sp:=fun vs H Q E=>∃ (a:Addr) (g:Str) (xs:List V),vs=[.ref a,.str g]∧aK K H a xs∧xs.length≤100∧(∀ x∈xs,(∃ z,x=.str z∧iq g z)∨yz g H x) ∧
 ((6 < xs.length∧AF CT "many" xs.length H E)∨(xs.length≤6∧(∀ x∈xs,∃ z,x=.str z∧iq g z)∧∀ H',a6 H H'→Q .non H') ∨
  (xs.length≤6∧∃ i x,xs[i]?=some x∧yz g H x∧(∀ (j:Nat) y,j < i→xs[j]?=some y→∃ z,y=.str z∧iq g z)∧AF CW "number" (i:Nat) H E))
end Sx
namespace Bs
open PySem L2 Sx
noncomputable def newX (H H':Hp) (x:Addr):Hp:=fun a=>if a=x then H' a else bp H H' a
theorem AF.same {C:Addr} {name:Str} {n:Int} {H H1:Hp} {E:XK} (h:AF C name n H E) (s:a6 H H1):AF C name n H1 E:=fun d H' s' hd e=>h d H' (s.trans s') (none_of s hd) e
end Bs
namespace Sx
open PySem L2 Bs
noncomputable def Rb (K:PySem.W.Frag) (C CS CT CW:Addr):Sp:=fun vs H Q E=>
 (∃ (x dx:Addr) (g:Str) (a:Addr) (ws:List Str),vs=[.ref x,.str g,.ref a]∧H x=some (.ins C dx [])∧aK K H a (ws.map V.str)∧jJ g∧ws.length≤6∧(∀ w∈ws,iq g w) ∧
   ∀ (ss ls:List Str) (H':Hp),ax C (newX H H' x) x g ws ss ls→(∀ b o,H b=some o→b≠x→H' b=some o)→Q .non H') ∨
 (∃ (x a:Addr) (v:V),vs=[.ref x,v,.ref a]∧FX H v∧∀ H',a6 H H'→E (.ref CS) none H') ∨
 (∃ (x a:Addr) (g:Str) (xs:List V),vs=[.ref x,.str g,.ref a]∧jJ g∧aK K H a xs∧xs.length≤100∧(∀ x∈xs,(∃ z,x=.str z∧iq g z)∨yz g H x) ∧
   ((6 < xs.length∧AF CT "many" xs.length H E)∨(xs.length≤6∧∃ i x,xs[i]?=some x∧yz g H x∧(∀ (j:Nat) y,j < i→xs[j]?=some y→∃ z,y=.str z∧iq g z)∧AF CW "number" (i:Nat) H E)))
noncomputable def OY (M:Int) (ns:List Int):Prop:=M∈(0 :: ns)∧∀ a∈(0 :: ns),a≤M
noncomputable def Ms (C:Addr):Sp:=fun vs H Q _=>∃ (x:Addr) (g:Str) (ws ss ls:List Str),vs=[.ref x]∧ax C H x g ws ss ls∧ws.length≤1000∧(∀ w∈ws,w.length≤1000)∧∀ (M:Int) (H':Hp),a6 H H'→OY M (ws.map fun w=>(w.length:Int))→Q (.int M) H'
end Sx
namespace Bs
open PySem L2 Sx
theorem nL {ws:List Int} {d i:Nat} {w:Int} (hi:i < ws.length) (kF:i≠d):(bE ws d w).getD i 0=ws.getD i 0:=by
 unfold bE
 rw [List.getD_eq_getElem?_getD,List.getElem?_set_ne (fun z=>kF z.symm),List.getElem?_append_left hi,← List.getD_eq_getElem?_getD]
theorem lA {ws:List Int} {d:Nat} {w:Int} (hd:d < ws.length):(bE ws d w).getD d 0=w:=by
 unfold bE
 rw [List.getD_eq_getElem?_getD,List.getElem?_set_self (by rw [List.length_append]; omega)]
 rfl
theorem lB {ws:List Int} {d:Nat} {w:Int} (hd:d < ws.length):(bE ws d w).getD ws.length 0=ws.getD d 0 - w:=by
 unfold bE
 rw [List.getD_eq_getElem?_getD,List.getElem?_set_ne (by omega),List.getElem?_append_right (Nat.le_refl _),Nat.sub_self]
 rfl
theorem mJ (ws:List Int) (d:Nat) (w:Int):(bE ws d w).length=ws.length + 1:=by
 unfold bE
 rw [List.length_set,List.length_append]
 rfl
theorem iK (ws:List Int) (q:Str×Nat) (qs:List (Str×Nat)):aN ws (q :: qs)=ws.getD q.2 0 + aN ws qs:=rfl
theorem lC (ws:List Int) (ps qs:List (Str×Nat)):aN ws (ps++qs)=aN ws ps + aN ws qs:=by
 unfold aN
 rw [List.map_append,List.sum_append]
theorem md {ws:List Int} {d:Nat} {w:Int} (hd:d < ws.length):∀ qs:List (Str×Nat),(∀ q∈qs,q.2 < ws.length)→aN (bE ws d w) (gD d ws.length qs)=aN ws qs
 | [],_=>rfl
 | q :: qs,h=>by
   have ih:=md (w:=w) hd qs fun q hq=>h q (List.mem_cons_of_mem _ hq)
   have hq:=h q (List.mem_cons_self ..)
   have e:gD d ws.length (q :: qs)=(if q.2=d then [q,(q.1,ws.length)] else [q])++gD d ws.length qs:=rfl
   rw [e,lC,ih,iK]
   by_cases Ir:q.2=d
   ·rw [if_pos Ir,iK,iK,Ir,lA hd]
    have e2:(bE ws d w).getD ((q.1,ws.length):Str×Nat).2 0=ws.getD d 0 - w:=lB hd
    rw [e2]
    show w + (ws.getD d 0 - w + 0) + _=_
    omega
   ·rw [if_neg Ir,iK,nL hq Ir]
    show ws.getD q.2 0 + 0 + _=_
    omega
theorem Cj:∀ (ws:List Int) (d:Nat) (w:Int),d < ws.length→(ws.set d w).sum=ws.sum - ws.getD d 0 + w
 | [],_,_,h=>absurd h (Nat.not_lt_zero _)
 | x :: ws,0,w,_=>by
   show w + ws.sum=x + ws.sum - x + w
   omega
 | x :: ws,d + 1,w,h=>by
   have ih:=Cj ws d w (by simpa using h)
   show x + (ws.set d w).sum=x + ws.sum - ws.getD d 0 + w
   rw [ih]
   omega
theorem AG {ws:List Int} {d:Nat} {w:Int} (hd:d < ws.length):(bE ws d w).sum=ws.sum:=by
 unfold bE
 rw [Cj _ _ _ (by rw [List.length_append]; omega),List.sum_append]
 have e:(ws++[ws.getD d 0 - w]).getD d 0=ws.getD d 0:=by
  rw [List.getD_eq_getElem?_getD,List.getElem?_append_left hd,← List.getD_eq_getElem?_getD]
 rw [e]
 show ws.sum + (ws.getD d 0 - w + 0) - ws.getD d 0 + w=ws.sum
 omega
set_option genInjectivity false in
set_option genSizeOfSpec false in
structure me (many:Int) (hs:List Str) (ws:List Int) (lns:List (List (Str×Nat))):Prop where
 w:ws.length=hs.length
 l:lns.length=hs.length
 p:∀ w∈ws,1≤w
 e:∀ l∈lns,∀ q∈l,q.2 < hs.length
 b:∀ (i:Nat) (l:List (Str×Nat)),lns[i]?=some l→many * ws.getD i 0≤aN ws l
theorem AH {d t:Nat} {l:List (Str×Nat)} {q:Str×Nat} (h:q∈gD d t l):q.2=t∨q∈l:=by
 unfold gD at h
 obtain ⟨z,hz,hq⟩:=List.mem_flatMap.mp h
 split at hq
 ·rcases List.mem_cons.mp hq with e | hq
  ·rw [e]; exact .inr hz
  ·rw [List.mem_singleton.mp hq]; exact .inl rfl
 ·rw [List.mem_singleton.mp hq]; exact .inr hz
theorem r9 {ws:List Int} {many w:Int} {qs:List (Str×Nat)} (h:fJ ws many qs w=true):qs≠[]∧1≤w∧many * w≤aN ws qs:=by
 unfold fJ at h
 simp only [Bool.and_eq_true] at h
 exact ⟨fun z=>by rw [z] at h; simp at h,of_decide_eq_true h.2.1,of_decide_eq_true h.2.2⟩
theorem me.split {many:Int} {hs:List Str} {ws:List Int} {lns:List (List (Str×Nat))} (S:me many hs ws lns) {d:Nat} {ns:List Int} {w:Int} (h:i9 ws lns many (d:Int) ns w=true):me many (bN hs d) (bE ws d w) (j3 lns d ns)∧d < hs.length:=by
 unfold i9 at h
 simp only [Bool.and_eq_true] at h
 obtain ⟨h1,h2,h3,h4⟩:=h
 rw [Int.toNat_natCast] at h2 h3 h4
 obtain ⟨c1,c2,c3⟩:=r9 h3
 obtain ⟨o1,o2,o3⟩:=r9 h4
 have nc:=S.w
 have vt:=S.l
 have hd:d < lns.length:=by
  unfold fO at h1
  rw [Bool.and_eq_true] at h1
  have:=of_decide_eq_true h1.2
  omega
 have uI:d < ws.length:=by omega
 have hH:(bN hs d).length=hs.length + 1:=by unfold bN; rw [List.length_append]; rfl
 have hq:lns.getD d []∈lns:=by
  rw [List.getD_eq_getElem?_getD,List.getElem?_eq_getElem hd]
  exact List.getElem_mem hd
 have Gz:=S.e _ hq
 have ends:∀ l∈(lns++[aV ns (lns.getD d [])]).set d (b9 ns (lns.getD d [])),∀ q∈l,q.2 < hs.length:=fun l hl=>by
  rcases List.mem_or_eq_of_mem_set hl with z | z
  ·rcases List.mem_append.mp z with z | z
   ·exact S.e l z
   ·rw [List.mem_singleton.mp z]; exact fun q hq=>Gz q (iO hq)
  ·rw [z]; exact fun q hq=>Gz q (iO hq)
 refine ⟨⟨by rw [hH,mJ,nc],?_,fun z hz=>?_,fun l hl q hq=>?_,fun i l hl=>?_⟩,by omega⟩
 ·unfold j3; rw [hH,List.length_map,List.length_set,List.length_append,vt]; rfl
 ·unfold bE at hz
  rcases List.mem_or_eq_of_mem_set hz with q | q
  ·rcases List.mem_append.mp q with q | q
   ·exact S.p z q
   ·rw [List.mem_singleton.mp q]; omega
  ·rw [q]; omega
 ·rw [hH]
  unfold j3 at hl
  obtain ⟨l',yA,rfl⟩:=List.mem_map.mp hl
  rcases AH hq with e | e
  ·omega
  ·have:=ends l' yA q e
   omega
 ·unfold j3 at hl
  rw [List.getElem?_map] at hl
  cases e:((lns++[aV ns (lns.getD d [])]).set d (b9 ns (lns.getD d [])))[i]? with
  | none=>rw [e] at hl; cases hl
  | some l'=>
    rw [e] at hl
    cases hl
    have he:=ends l' (List.mem_of_getElem? e)
    rw [show lns.length=ws.length by omega,md uI l' (fun q hq=>by rw [nc]; exact he q hq)]
    by_cases TY:i=d
    ·subst TY
     rw [List.getElem?_set_self (by rw [List.length_append]; omega)] at e
     cases e
     rw [lA uI]
     exact c3
    ·rw [List.getElem?_set_ne (fun z=>TY z.symm)] at e
     by_cases Mq:i < lns.length
     ·rw [List.getElem?_append_left Mq] at e
      rw [nL (by omega) TY]
      exact S.b i l' e
     ·have L4:i=lns.length:=by
       have:=(List.getElem?_eq_some_iff.mp e).1
       rw [List.length_append] at this
       simp at this
       omega
      subst L4
      rw [List.getElem?_append_right (Nat.le_refl _),Nat.sub_self] at e
      cases e
      rw [show lns.length=ws.length by omega,lB uI]
      exact o3
end Bs
namespace Bs
open PySem L2 Sx
noncomputable def pre (ls:List Int) (k:Nat):Int:=(ls.take k).sum
end Bs
namespace L2
open PySem PySem.Spec PyProof.Rows
section
variable {prog:Program} {w:World} {κ:Type} [DecidableEq κ] {knd:HeapKind prog w κ} {A:Around} {E:Value→Shared→Prop} {s:Shared}
theorem AI {nm:String} {a b:Addr} {xa xb:List (κ×Addr×Value)} {Q:Bool→Shared→Prop} (ha:(a == sysModules)=false) (hb:(b == sysModules)=false) (da:s.heap.DictOfH knd a xa) (db:s.heap.DictOfH knd b xb) (hr:knd.room A) (hl:xa.length=xb.length)
 (hits:∀ x∈xa,∃ p,atKey xb x.1=some p∧SeqAt.EqAt A s x.2.2 p.2 true) (h:Q true s):wpAny (model prog w) A (Builtin.Dict.samePairs nm a b) Q E s:=by
 obtain ⟨oa,es,ep,Rc,_,Rf,Wu,ZD,Wv⟩:=da
 obtain ⟨ob,JV,MJ,TZ,_,zD,U0,ZE,Rg⟩:=db
 have hla:=size_of_entries Wu
 have Ww:=size_of_entries U0
 have hsz:es.size=JV.size:=by omega
 unfold Builtin.Dict.samePairs Builtin.Dict.showsAll
 rw [if_neg (show ¬ (a == sysModules)=true by rw [ha]; exact Bool.false_ne_true),if_neg (show ¬ (b == sysModules)=true by rw [hb]; exact Bool.false_ne_true)]
 refine wpAny_bind (wpAny_pure (wpAny_bind (wpAny_pure ?_)))
 refine wpAny_bind (wpAny_dictEntries Rc Rf ?_)
 dsimp only
 refine wpAny_bind (wpAny_dictEntries TZ zD ?_)
 rw [if_neg (by rw [hsz]; simp)]
 refine wpAny_bind (wpAny_dictEpoch Rc Rf ?_)
 refine wpAny_bind ?_
 rw [Std.Legacy.Range.forIn_eq_forIn_range']
 simp only [Std.Legacy.Range.size,Nat.sub_zero,Nat.add_sub_cancel,Nat.div_one]
 refine wpAny_forIn_list _ (fun rest q s'=>s'=s∧q=(none,())∧∃ i,rest=List.range' i (es.size - i)∧i≤es.size) _ ?_ ?_ _ _ ⟨rfl,rfl,0,by simp,Nat.zero_le _⟩
 ·rintro x rest q s' ⟨rfl,rfl,i,DB,hi⟩
  have eM:i < es.size:=by
   rcases Nat.lt_or_ge i es.size with h | h
   ·exact h
   ·rw [Nat.sub_eq_zero_of_le h] at DB; simp at DB
  obtain ⟨rfl,um⟩:x=i∧rest=List.range' (i + 1) (es.size - (i + 1)):=by
   have e:es.size - i=(es.size - (i + 1)) + 1:=by omega
   rw [e,List.range'_succ] at DB
   injection DB with h1 h2
   exact ⟨h1,h2⟩
  obtain ⟨⟨k,c,v⟩,Du⟩:∃ y,xa[x]?=some y:=⟨xa[x]'(by omega),List.getElem?_eq_getElem _⟩
  have hm:=List.mem_of_getElem? Du
  have ZF:=ZD _ hm
  obtain ⟨p,hp,heq⟩:=hits _ hm
  refine wpAny_bind (wpAny_dictEntries Rc Rf ?_)
  rw [entry_at Wu x,Du]
  show wpAny _ _ (holding [Value.ref c,v] _ >>= _) _ _ _
  refine wpAny_bind (wpAny_holding (wpAny_bind (wpAny_dictFind_heap hr ZF TZ zD U0 ZE Rg ?_ ?_)))
  ·intro ZG
   rw [atKey_none_of_get ZG] at hp
   cases hp
  ·intro j p' hj
   have e:p'=p:=by rw [atKey_of_get Rg hj] at hp; exact Option.some.inj hp
   subst e
   refine wpAny_bind (wpAny_dictEntries TZ zD ?_)
   rw [entry_at U0 j,hj]
   refine wpAny_holding (heq prog w _ _ ?_)
   show wpAny _ _ (if (!true)=true then _ else _) _ _ _
   rw [if_neg (by decide)]
   refine wpAny_bind (wpAny_dictEpoch Rc Rf ?_)
   rw [if_neg (by simp)]
   exact wpAny_pure ⟨rfl,rfl,x + 1,um,eM⟩
 ·rintro q s' ⟨rfl,rfl,i,DB,hi⟩
  exact wpAny_pure h
theorem Iu {a b:Addr} {xa xb:List (κ×Addr×Value)} {Q:Value→Shared→Prop} (ha:(a == sysModules)=false) (hb:(b == sysModules)=false) (da:s.heap.DictOfH knd a xa) (db:s.heap.DictOfH knd b xb) (hu:A.units < cLine) (hr:knd.room A.in1) (hl:xa.length=xb.length)
 (hits:∀ x∈xa,∃ p,atKey xb x.1=some p∧SeqAt.EqAt A.in1 s x.2.2 p.2 true) (h:Q (.bool true) s):wpAny (model prog w) A (compareOp .Eq (.ref a) (.ref b)) Q E s:=by
 refine wpAny_richCompare_same_room (op:=.Eq) da.typeIs db.typeIs PySem.F.slot_dict_eq (wpAny_call_entry PySem.F.slot_dict_eq da.typeIs PySem.F.entry_dict_eq ?_ (PySem.F.args_dict_eq_2 _ _)) hu
 show wpAny _ _ (Builtin.Dict.dictSlotArgs "__eq__" ⟨[.ref a,.ref b],[]⟩ >>= _) _ _ s
 refine wpAny_bind ?_
 unfold Builtin.Dict.dictSlotArgs
 refine wpAny_bind (wpAny_notOrdered_dict da.typeIs ?_)
 show wpAny _ _ (pure (Value.ref a,Value.ref b)) _ _ s
 refine wpAny_pure ?_
 refine wpAny_bind (wpAny_isInstance (T:="dict") db.typeIs PySem.F.sub_dict_dict ?_)
 simp only [Bool.not_true,Bool.false_eq_true,if_false]
 refine wpAny_bind (wpAny_pure (wpAny_bind (wpAny_pure ?_)))
 refine wpAny_bind (AI ha hb da db hr hl hits ?_)
 refine wpAny_pure ⟨_,rfl,?_,?_⟩
 ·exact fun x=>nomatch x
 ·simpa using h
end
theorem KT.back {H:Hp}:∀ {ka:List (List Key×V)} {xa:List (List Key×Addr×Value)},KT H ka xa→∀ x∈xa,∃ kv∈ka,kv.1=x.1∧RelV kv.2 x.2.2
 | _,_,.nil,x,hx=>nomatch hx
 | _,_,@Paired.cons _ _ _ p q ps qs h t,x,hx=>by
   rcases List.mem_cons.mp hx with e | hx
   ·subst e
    exact ⟨p,List.mem_cons_self ..,h.1,h.2.2⟩
   ·obtain ⟨kv,h1,h2⟩:=KT.back t x hx
    exact ⟨kv,List.mem_cons_of_mem _ h1,h2⟩
theorem KT.len {H:Hp}:∀ {ka:List (List Key×V)} {xa:List (List Key×Addr×Value)},KT H ka xa→ka.length=xa.length
 | _,_,.nil=>rfl
 | _,_,.cons _ t=>congrArg (· + 1) (KT.len t)
section
variable {X:Cx}
noncomputable def OZ:R2:=fun x y H Q=>∃ a b ka kb,x=.ref a∧y=.ref b∧H a=some (.dT ka)∧H b=some (.dT kb)∧ka.length=kb.length∧(∀ kv∈ka,∃ i:Int,kv.2=.int i∧bK kb kv.1=some (.int i))∧Q (.bl true) H
theorem Iv (hu:X.A.units + 1 < cLine):n9 X (compareOp .Eq) OZ:=by
 intro pins s σ H x y v u Q I rx ry h
 obtain ⟨a,b,ka,kb,rfl,rfl,ha,hb,hl,hv,q⟩:=h
 cases rx
 cases ry
 obtain ⟨_,la,xa,ra,da⟩:=EC I.bt ha
 obtain ⟨_,lb,xb,rb,db⟩:=EC I.bt hb
 refine Iu la lb da db (Nat.lt_of_succ_lt hu) (tupleKind_room_in1 hu) (by rw [← ra.len,← rb.len]; exact hl) (fun x hx=>?_) ⟨.bl true,H,I,rfl,q⟩
 obtain ⟨kv,Du,e1,e2⟩:=ra.back x hx
 obtain ⟨i,e3,e4⟩:=hv kv Du
 have rv:=rb.val x.1
 rw [← e1,e4] at rv
 cases e5:atKey xb kv.1 with
 | none=>rw [e5] at rv; exact False.elim rv
 | some p=>
   rw [e5] at rv
   rw [e3] at e2
   refine ⟨p,by rw [← e1]; exact e5,?_⟩
   have:=qh (A:=X.A.in1) (s:=s) e2 (show RelV (.int i) p.2 from rv) rfl rfl
   rw [show qg (.int i) (.int i)=true from by show (i == i)=true; simp] at this
   exact this
end
end L2
namespace Bs
open PySem L2 Sx
theorem P0 {a b:Prop} [Decidable a] [Decidable b] {α:Type} {x y:α} (h:a↔b):(if a then x else y)=if b then x else y:=by
 by_cases ha:a
 ·rw [if_pos ha,if_pos (h.mp ha)]
 ·rw [if_neg ha,if_neg (fun z=>ha (h.mpr z))]
noncomputable def gE (p:Str) (z:Str×Nat):List Str→List (List (Str×Nat))→Nat
 | h :: hs,l :: lns=>(if h=p then l.count z else 0) + gE p z hs lns
 | _,_=>0
theorem oI (p:Str) (z:Str×Nat) (h:Str) (l:List (Str×Nat)):∀ (hs:List Str) (lns:List (List (Str×Nat))),hs.length=lns.length→gE p z (hs++[h]) (lns++[l])=gE p z hs lns + (if h=p then l.count z else 0)
 | [],[],_=>by
   show (if h=p then l.count z else 0) + 0=0 + _
   omega
 | [],_ :: _,e=>by cases e
 | _ :: _,[],e=>by cases e
 | x :: hs,y :: lns,e=>by
   show (if x=p then y.count z else 0) + gE p z (hs++[h]) (lns++[l])=_
   rw [oI p z h l hs lns (by simpa using e)]
   show _=(if x=p then y.count z else 0) + gE p z hs lns + _
   omega
theorem yB (p:Str) (z:Str×Nat) (l':List (Str×Nat)):∀ (hs:List Str) (lns:List (List (Str×Nat))) (d:Nat),hs.length=lns.length→d < lns.length →
 gE p z hs (lns.set d l') + (if hs.getD d ""=p then (lns.getD d []).count z else 0)=gE p z hs lns + (if hs.getD d ""=p then l'.count z else 0)
 | _,[],d,_,h=>absurd h (Nat.not_lt_zero _)
 | [],_ :: _,_,e,_=>by cases e
 | x :: hs,y :: lns,0,_,_=>by
   show (if x=p then l'.count z else 0) + gE p z hs lns + (if x=p then y.count z else 0)=(if x=p then y.count z else 0) + gE p z hs lns + (if x=p then l'.count z else 0)
   omega
 | x :: hs,y :: lns,d + 1,e,h=>by
   have ih:=yB p z l' hs lns d (by simpa using e) (by simpa using h)
   show (if x=p then y.count z else 0) + gE p z hs (lns.set d l') + (if hs.getD d ""=p then (lns.getD d []).count z else 0)=(if x=p then y.count z else 0) + gE p z hs lns + (if hs.getD d ""=p then l'.count z else 0)
   omega
theorem yC (p:Str) {z z':Str×Nat} {f:List (Str×Nat)→List (Str×Nat)}:∀ (hs:List Str) (lns:List (List (Str×Nat))),(∀ l∈lns,(f l).count z=l.count z')→gE p z hs (lns.map f)=gE p z' hs lns
 | _,[],_=>by cases ‹List Str› <;> rfl
 | [],_ :: _,_=>rfl
 | x :: hs,y :: lns,h=>by
   show (if x=p then (f y).count z else 0) + gE p z hs (lns.map f)=(if x=p then y.count z' else 0) + gE p z' hs lns
   rw [yC p hs lns fun l hl=>h l (List.mem_cons_of_mem _ hl),h y (List.mem_cons_self ..)]
theorem vv {p:Str} {z:Str×Nat}:∀ {hs:List Str} {lns:List (List (Str×Nat))} {i:Nat} {l:List (Str×Nat)},hs[i]?=some p→lns[i]?=some l→l.count z≤gE p z hs lns
 | y :: hs,x :: lns,0,l,e1,e2=>by
   cases e1
   cases e2
   show _≤(if p=p then x.count z else 0) + _
   rw [if_pos rfl]
   omega
 | h :: hs,x :: lns,i + 1,l,e1,e2=>by
   have:=vv (z:=z) (hs:=hs) (lns:=lns) (i:=i) (by simpa using e1) (by simpa using e2)
   show _≤_ + gE p z hs lns
   omega
 | [],_,_,_,e1,_=>by simp at e1
 | _ :: _,[],_,_,_,e2=>by simp at e2
theorem cnt_cons (q z:Str×Nat) (l:List (Str×Nat)):(q :: l).count z=l.count z + if q=z then 1 else 0:=by
 rw [List.count_cons]
 by_cases h:q=z
 ·rw [if_pos h,if_pos (by rw [h]; exact beq_self_eq_true z)]
 ·rw [if_neg h,if_neg (by intro e; exact h (eq_of_beq e))]
theorem rg (f:Nat→Bool) (z:Str×Nat):∀ (k:Nat) (l:List (Str×Nat)),(aU f k l).count z + (aU (fun i=>!f i) k l).count z=l.count z
 | _,[]=>rfl
 | k,q :: l=>by
   have ih:=rg f z (k + 1) l
   show (if f k then q :: aU f (k + 1) l else aU f (k + 1) l).count z + (if !f k then q :: aU (fun i=>!f i) (k + 1) l else aU (fun i=>!f i) (k + 1) l).count z=_
   rw [cnt_cons]
   cases f k with
   | true=>
     rw [if_pos (by decide),if_neg (by decide),cnt_cons]
     omega
   | false=>
     rw [if_neg (by decide),if_pos (by decide),cnt_cons]
     omega
theorem pj {d t:Nat} (hd:d < t) (w:Str) (e:Nat):∀ l:List (Str×Nat),(∀ q∈l,q.2 < t)→(gD d t l).count (w,e)=l.count (w,if e=t then d else e)
 | [],_=>rfl
 | q :: l,h=>by
   have ih:=pj hd w e l fun q hq=>h q (List.mem_cons_of_mem _ hq)
   have hq:=h q (List.mem_cons_self ..)
   have e0:gD d t (q :: l)=(if q.2=d then [q,(q.1,t)] else [q])++gD d t l:=rfl
   rw [e0,List.count_append,ih,cnt_cons]
   obtain ⟨a,b⟩:=q
   have hq:b < t:=hq
   show (if b=d then [(a,b),(a,t)] else [(a,b)]).count (w,e) + _=_
   by_cases hb:b=d
   ·subst hb
    rw [if_pos rfl,cnt_cons,cnt_cons]
    show (0 + (if (a,t)=(w,e) then 1 else 0) + if (a,b)=(w,e) then 1 else 0) + _=_
    simp only [Prod.mk.injEq]
    by_cases he:e=t
    ·subst he
     rw [if_pos rfl]
     by_cases ha:a=w
     ·rw [if_pos ⟨ha,rfl⟩,if_neg (fun z=>by omega),if_pos ⟨ha,rfl⟩]
      omega
     ·rw [if_neg (fun z=>ha z.1),if_neg (fun z=>ha z.1),if_neg (fun z=>ha z.1)]
      omega
    ·rw [if_neg he,if_neg (fun z=>he z.2.symm)]
     omega
   ·rw [if_neg hb,cnt_cons]
    show (0 + if (a,b)=(w,e) then 1 else 0) + _=_
    simp only [Prod.mk.injEq]
    by_cases he:e=t
    ·subst he
     rw [if_pos rfl,if_neg (fun z=>by omega),if_neg (fun z=>hb z.2)]
     omega
    ·rw [if_neg he]
     omega
noncomputable def FY (B:Str→List (Str×Str)) (hs:List Str) (lns:List (List (Str×Nat))):Prop:=
 ∀ (p w:Str) (e:Nat),gE p (w,e) hs lns=if e < hs.length∧p∈hs∧(w,hs.getD e "")∈B p then 1 else 0
theorem FY.split {B:Str→List (Str×Str)} {hs:List Str} {lns:List (List (Str×Nat))} (h:FY B hs lns) (hl:lns.length=hs.length) (he:∀ l∈lns,∀ q∈l,q.2 < hs.length) {d:Nat} (hd:d < hs.length) (ns:List Int):FY B (bN hs d) (j3 lns d ns):=by
 intro p w e
 have hq:lns.getD d []∈lns:=by
  rw [List.getD_eq_getElem?_getD,List.getElem?_eq_getElem (by omega)]
  exact List.getElem_mem _
 have ends:∀ l∈(lns++[aV ns (lns.getD d [])]).set d (b9 ns (lns.getD d [])),∀ q∈l,q.2 < lns.length:=fun l yA=>by
  rw [hl]
  rcases List.mem_or_eq_of_mem_set yA with z | z
  ·rcases List.mem_append.mp z with z | z
   ·exact he l z
   ·rw [List.mem_singleton.mp z]; exact fun q CH=>he _ hq q (iO CH)
  ·rw [z]; exact fun q CH=>he _ hq q (iO CH)
 have Rh:(hs++[hs.getD d ""]).getD d ""=hs.getD d "":=by
  rw [List.getD_eq_getElem?_getD,List.getElem?_append_left hd,← List.getD_eq_getElem?_getD]
 have zI:(lns++[aV ns (lns.getD d [])]).getD d []=lns.getD d []:=by
  rw [List.getD_eq_getElem?_getD,List.getElem?_append_left (by omega),← List.getD_eq_getElem?_getD]
 unfold bN j3
 rw [yC p (z':=(w,if e=lns.length then d else e)) _ _ fun l yA=>pj (by omega) w e l (ends l yA)]
 have h1:=yB p (w,if e=lns.length then d else e) (b9 ns (lns.getD d [])) (hs++[hs.getD d ""]) (lns++[aV ns (lns.getD d [])]) d (by rw [List.length_append,List.length_append]; simp [hl]) (by rw [List.length_append]; omega)
 rw [Rh,zI,oI p _ _ _ hs lns hl.symm] at h1
 have h2:=rg (fun i=>decide ((i:Int)∈ns)) (w,if e=lns.length then d else e) 0 (lns.getD d [])
 have h3:(b9 ns (lns.getD d [])).count (w,if e=lns.length then d else e) + (aV ns (lns.getD d [])).count (w,if e=lns.length then d else e)=(lns.getD d []).count (w,if e=lns.length then d else e):=h2
 have h4:=h p w (if e=lns.length then d else e)
 have h5:gE p (w,if e=lns.length then d else e) (hs++[hs.getD d ""]) ((lns++[aV ns (lns.getD d [])]).set d (b9 ns (lns.getD d [])))=gE p (w,if e=lns.length then d else e) hs lns:=by
  by_cases hp:hs.getD d ""=p
  ·rw [if_pos hp,if_pos hp,if_pos hp] at h1
   omega
  ·rw [if_neg hp,if_neg hp,if_neg hp] at h1
   omega
 rw [h5,h4]
 have hm:p∈hs++[hs.getD d ""]↔p∈hs:=by
  rw [List.mem_append,List.mem_singleton]
  refine ⟨fun z=>z.elim id fun z=>?_,.inl⟩
  rw [z,List.getD_eq_getElem?_getD,List.getElem?_eq_getElem hd]
  exact List.getElem_mem _
 have hlen:(hs++[hs.getD d ""]).length=hs.length + 1:=by rw [List.length_append]; rfl
 by_cases Mt:e=lns.length
 ·rw [if_pos Mt]
  have e1:(hs++[hs.getD d ""]).getD e ""=hs.getD d "":=by
   rw [Mt,hl,List.getD_eq_getElem?_getD,List.getElem?_append_right (Nat.le_refl _),Nat.sub_self]
   rfl
  rw [e1,hlen]
  refine P0 ⟨fun z=>⟨by omega,hm.mpr z.2.1,z.2.2⟩,fun z=>⟨hd,hm.mp z.2.1,z.2.2⟩⟩
 ·rw [if_neg Mt]
  by_cases eM:e < hs.length
  ·have e1:(hs++[hs.getD d ""]).getD e ""=hs.getD e "":=by
    rw [List.getD_eq_getElem?_getD,List.getElem?_append_left eM,← List.getD_eq_getElem?_getD]
   rw [e1,hlen]
   refine P0 ⟨fun z=>⟨by omega,hm.mpr z.2.1,z.2.2⟩,fun z=>⟨eM,hm.mp z.2.1,z.2.2⟩⟩
  ·rw [if_neg (fun z=>eM z.1),if_neg (fun z=>by have:=z.1; omega)]
theorem FY.line {B:Str→List (Str×Str)} {hs:List Str} {lns:List (List (Str×Nat))} (h:FY B hs lns) (hl:lns.length=hs.length) {b:Nat} (hb:∀ p,(B p).length≤b):∀ l∈lns,l.length≤b * hs.length:=by
 intro l hm
 obtain ⟨i,hi,e⟩:=List.getElem_of_mem hm
 have SK:lns[i]?=some l:=by rw [List.getElem?_eq_getElem hi,e]
 have U1:hs[i]?=some (hs[i]'(by omega)):=List.getElem?_eq_getElem _
 generalize hs[i]'(by omega)=p at U1
 have one:∀ z,l.count z≤1:=fun z=>by
  have h1:=vv (z:=z) U1 SK
  have h2:=h p z.1 z.2
  rw [show ((z.1,z.2):Str×Nat)=z from rfl] at h2
  rw [h2] at h1
  split at h1 <;> omega
 have nd:l.Nodup:=List.nodup_iff_count.mpr one
 have sub:∀ z∈l,z∈((B p).map (·.1)).flatMap fun w=>(List.range hs.length).map fun e=>(w,e):=fun z hz=>by
  have h1:=vv (z:=z) U1 SK
  have h2:=h p z.1 z.2
  rw [show ((z.1,z.2):Str×Nat)=z from rfl] at h2
  rw [h2] at h1
  have h3:0 < l.count z:=List.count_pos_iff.mpr hz
  by_cases hc:z.2 < hs.length∧p∈hs∧(z.1,hs.getD z.2 "")∈B p
  ·exact List.mem_flatMap.mpr ⟨z.1,List.mem_map.mpr ⟨_,hc.2.2,rfl⟩,List.mem_map.mpr ⟨z.2,List.mem_range.mpr hc.1,rfl⟩⟩
  ·rw [if_neg hc] at h1
   omega
 have h1:=jO nd sub
 have h2:(((B p).map (·.1)).flatMap fun w=>(List.range hs.length).map fun e=>(w,e)).length≤(B p).length * hs.length:=by
  have:=nC (fun w=>(List.range hs.length).map fun e=>((w,e):Str×Nat)) hs.length ((B p).map (·.1)) fun w _=>by rw [List.length_map,List.length_range]; exact Nat.le_refl _
  rwa [List.length_map] at this
 exact Nat.le_trans h1 (Nat.le_trans h2 (Nat.mul_le_mul_right _ (hb p)))
theorem rm (p:Str) (z:Str×Nat) (f:Str→List (Str×Nat)):∀ hs:List Str,hs.Nodup→gE p z hs (hs.map f)=if p∈hs then (f p).count z else 0
 | [],_=>rfl
 | h :: hs,nd=>by
   rw [List.nodup_cons] at nd
   show (if h=p then (f h).count z else 0) + gE p z hs (hs.map f)=_
   rw [rm p z f hs nd.2]
   by_cases e:h=p
   ·subst e
    rw [if_pos rfl,if_neg nd.1,if_pos (List.mem_cons_self ..)]
    omega
   ·rw [if_neg e]
    by_cases hp:p∈hs
    ·rw [if_pos hp,if_pos (List.mem_cons_of_mem _ hp)]
     omega
    ·rw [if_neg hp,if_neg (fun z=>(List.mem_cons.mp z).elim (fun q=>e q.symm) hp)]
theorem jw {f:Str→Option (Str×Str)} (hf:∀ r x,f r=some x→x.1=r):∀ L:List Str,((L.filterMap f).map (·.1)).Sublist L
 | []=>.slnil
 | r :: L=>by
   rw [List.filterMap_cons]
   cases e:f r with
   | none=>exact (jw hf L).cons _
   | some x=>
     show (x.1 :: (L.filterMap f).map (·.1)).Sublist _
     rw [hf r x e]
     exact (jw hf L).cons₂ _
theorem vx {g:Str} {ws ss ls:List Str} {p:Str} (nd:(ch g).Nodup) (hp:ss.Perm (c4 ws "" ws)) (hw:∀ w∈ws,1≤w.length) (FP:p∈ss) (n:Nat):((aB g ws ss ls n p).map (·.1)).Nodup:=by
 rw [← Az hp hw FP n]
 refine List.Nodup.sublist (jw (fun r x e=>?_) _) (by rw [pY]; exact uB nd n)
 unfold FQ at e
 split at e
 ·cases e
 ·split at e
  ·cases e; rfl
  ·cases e
theorem nM:∀ {l:List (Str×Str)},(l.map (·.1)).Nodup→l.Nodup
 | [],_=>List.nodup_nil
 | q :: l,h=>by
   rw [List.map_cons,List.nodup_cons] at h
   exact List.nodup_cons.mpr ⟨fun z=>h.1 (List.mem_map.mpr ⟨q,z,rfl⟩),nM h.2⟩
theorem AJ {Bp:List (Str×Str)} {hs:List Str} (nd:Bp.Nodup) (hn:hs.Nodup) (w:Str) (e:Nat) :
 (((Bp.filter fun q=>decide (q.2∈hs)).map fun q=>(q.1,hs.idxOf q.2)):List (Str×Nat)).count (w,e)=if e < hs.length∧(w,hs.getD e "")∈Bp then 1 else 0:=by
 have inj:∀ q∈Bp.filter (fun q=>decide (q.2∈hs)),((q.1,hs.idxOf q.2):Str×Nat)=(w,e)↔(e < hs.length∧q=(w,hs.getD e "")):=fun q hq=>by
  have U2:q.2∈hs:=of_decide_eq_true (List.mem_filter.mp hq).2
  obtain ⟨i1,i2⟩:=oF U2
  obtain ⟨a,b⟩:=q
  have i1:hs[hs.idxOf b]?=some b:=i1
  constructor
  ·intro z
   simp only [Prod.mk.injEq] at z
   obtain ⟨rfl,rfl⟩:=z
   refine ⟨(List.getElem?_eq_some_iff.mp i1).1,?_⟩
   rw [List.getD_eq_getElem?_getD,i1]
   rfl
  ·rintro ⟨he,z⟩
   simp only [Prod.mk.injEq] at z
   obtain ⟨rfl,hb⟩:=z
   have SF:hs[e]?=some b:=by rw [hb,List.getD_eq_getElem?_getD,List.getElem?_eq_getElem he]; rfl
   rw [FK hn i1 SF]
 have gen:∀ L:List (Str×Str),L.Nodup→(∀ q∈L,((q.1,hs.idxOf q.2):Str×Nat)=(w,e)↔(e < hs.length∧q=(w,hs.getD e "")))→(L.map fun q=>((q.1,hs.idxOf q.2):Str×Nat)).count (w,e)=if e < hs.length∧(w,hs.getD e "")∈L then 1 else 0:=by
  intro L
  induction L with
  | nil=>intro _ _; rw [if_neg (fun z=>nomatch z.2)]; rfl
  | cons q L ih=>
    intro nd hq
    rw [List.nodup_cons] at nd
    rw [List.map_cons,cnt_cons,ih nd.2 fun q' CH=>hq q' (List.mem_cons_of_mem _ CH)]
    have h0:=hq q (List.mem_cons_self ..)
    by_cases h1:((q.1,hs.idxOf q.2):Str×Nat)=(w,e)
    ·obtain ⟨h2,h3⟩:=h0.mp h1
     rw [if_pos h1,if_neg (fun z=>nd.1 (by rw [h3]; exact z.2)),if_pos ⟨h2,by rw [← h3]; exact List.mem_cons_self ..⟩]
    ·rw [if_neg h1]
     refine (Nat.add_zero _).trans (P0 ⟨fun z=>⟨z.1,List.mem_cons_of_mem _ z.2⟩,fun z=>⟨z.1,?_⟩⟩)
     rcases List.mem_cons.mp z.2 with y | y
     ·exact absurd (h0.mpr ⟨z.1,y.symm⟩) h1
     ·exact y
 rw [gen _ (nd.filter _) inj]
 refine P0 ⟨fun z=>⟨z.1,(List.mem_filter.mp z.2).1⟩,fun z=>⟨z.1,List.mem_filter.mpr ⟨z.2,decide_eq_true ?_⟩⟩⟩
 rw [List.getD_eq_getElem?_getD,List.getElem?_eq_getElem z.1]
 exact List.getElem_mem _
theorem FY.first {g:Str} {ws ss ls:List Str} {n:Nat} {hs:List Str} (nd:(ch g).Nodup) (hp:ss.Perm (c4 ws "" ws)) (hw:∀ w∈ws,1≤w.length) (jg:∀ p∈hs,p∈ss) (hn:hs.Nodup):FY (aB g ws ss ls n) hs (eB g ws ss ls n hs):=by
 intro p w e
 unfold eB
 rw [rm p (w,e) _ hs hn]
 by_cases h:p∈hs
 ·rw [if_pos h]
  unfold j2
  rw [AJ (nM (vx nd hp hw (jg p h) n)) hn]
  exact P0 ⟨fun z=>⟨z.1,h,z.2⟩,fun z=>⟨z.1,z.2.2⟩⟩
 ·rw [if_neg h,if_neg (fun z=>h z.2.1)]
noncomputable def gT (p w:Str) (e:Nat):List Key:=[.inr p,.inr w,.inl (e:Int)]
theorem yD {p w p' w':Str} {e e':Nat} (h:gT p w e=gT p' w' e'):p=p'∧w=w'∧e=e':=by
 unfold gT at h
 injection h with h1 h2
 injection h2 with h2 h3
 injection h3 with h3 _
 injection h1 with h1
 injection h2 with h2
 injection h3 with h3
 exact ⟨h1,h2,by omega⟩
set_option genInjectivity false in
set_option genSizeOfSpec false in
structure j4 (kvs:List (List Key×V)) (c:Str→Str→Nat→Nat):Prop where
 nd:(kvs.map (·.1)).Nodup
 v:∀ p w e,bK kvs (gT p w e)=if c p w e=0 then none else some (.int (c p w e:Int))
 k:∀ kv∈kvs,∃ p w e,kv.1=gT p w e
theorem j4.nil:j4 [] fun _ _ _=>0:=⟨List.nodup_nil,fun _ _ _=>rfl,fun _ h=>nomatch h⟩
theorem lT {κ:Type} [DecidableEq κ] {kvs:List (κ×V)} {k:κ} {v y:V} (h:bK kvs k=some y):(putK kvs k v).map (·.1)=kvs.map (·.1):=by
 unfold putK
 have e:(kvs.any fun kv=>decide (kv.1=k))=true:=by rw [gA,h]; rfl
 rw [if_pos e,List.map_map]
 refine List.map_congr_left fun kv _=>?_
 show (if kv.1=k then (kv.1,v) else kv).1=kv.1
 split <;> rfl
theorem j4.put {kvs:List (List Key×V)} {c:Str→Str→Nat→Nat} (h:j4 kvs c) (p w:Str) (e:Nat) {v:Nat} (hv:v≠0) {c':Str→Str→Nat→Nat} (hc:∀ p' w' e',c' p' w' e'=if p'=p∧w'=w∧e'=e then v else c p' w' e'):j4 (putK kvs (gT p w e) (.int (v:Int))) c':=by
 refine ⟨?_,fun p' w' e'=>?_,fun kv Du=>?_⟩
 ·cases e0:bK kvs (gT p w e) with
  | none=>exact C2 _ h.nd e0
  | some y=>rw [lT e0]; exact h.nd
 ·rw [qj,hc]
  by_cases hk:gT p' w' e'=gT p w e
  ·rw [if_pos hk,if_pos (yD hk),if_neg hv]
  ·rw [if_neg hk,if_neg (c:=p'=p∧w'=w∧e'=e) (fun z=>hk (by obtain ⟨rfl,rfl,rfl⟩:=z; rfl))]
   exact h.v p' w' e'
 ·have hm:kv.1∈(putK kvs (gT p w e) (.int (v:Int))).map (·.1):=List.mem_map.mpr ⟨kv,Du,rfl⟩
  have old:∀ {x:List Key},x∈kvs.map (·.1)→∃ p w e,x=gT p w e:=fun hx=>by
   obtain ⟨U3,h1,rfl⟩:=List.mem_map.mp hx
   exact h.k U3 h1
  cases e0:bK kvs (gT p w e) with
  | none=>
    rw [fM _ e0,List.map_append] at hm
    rcases List.mem_append.mp hm with z | z
    ·exact old z
    ·exact ⟨p,w,e,List.mem_singleton.mp z⟩
  | some y=>
    rw [lT e0] at hm
    exact old hm
theorem pk {κ:Type} [DecidableEq κ]:∀ {kvs:List (κ×V)} {kv:κ×V},(kvs.map (·.1)).Nodup→kv∈kvs→bK kvs kv.1=some kv.2
 | [],_,_,h=>nomatch h
 | x :: kvs,kv,nd,h=>by
   rw [List.map_cons,List.nodup_cons] at nd
   rcases List.mem_cons.mp h with e | h
   ·subst e; exact cE rfl
   ·rw [cF (fun e=>nd.1 (by rw [e]; exact List.mem_map.mpr ⟨kv,h,rfl⟩))]
    exact pk nd.2 h
theorem j4.hits {ka kb:List (List Key×V)} {c:Str→Str→Nat→Nat} (ha:j4 ka c) (hb:j4 kb c):∀ kv∈ka,∃ i:Int,kv.2=.int i∧bK kb kv.1=some (.int i):=fun kv Du=>by
 obtain ⟨p,w,e,ek⟩:=ha.k kv Du
 have h1:=pk ha.nd Du
 have h2:=ha.v p w e
 have h3:=hb.v p w e
 rw [← ek] at h2 h3
 rw [h1] at h2
 by_cases h0:c p w e=0
 ·rw [if_pos h0] at h2; cases h2
 ·rw [if_neg h0] at h2 h3
  exact ⟨_,Option.some.inj h2,h3⟩
theorem j4.le {ka kb:List (List Key×V)} {c:Str→Str→Nat→Nat} (ha:j4 ka c) (hb:j4 kb c):ka.length≤kb.length:=by
 have:=jO ha.nd fun k hk=>by
  obtain ⟨kv,h1,rfl⟩:=List.mem_map.mp hk
  obtain ⟨i,_,h2⟩:=ha.hits hb kv h1
  exact uW h2
 rwa [List.length_map,List.length_map] at this
theorem j4.len {ka kb:List (List Key×V)} {c:Str→Str→Nat→Nat} (ha:j4 ka c) (hb:j4 kb c):ka.length=kb.length:=Nat.le_antisymm (ha.le hb) (hb.le ha)
end Bs
namespace Bs
open PySem L2 Sx
set_option genInjectivity false in
set_option genSizeOfSpec false in
structure mK (kvs:List (List Key×V)) (S:Str→Str→Nat→Prop):Prop where
 nd:(kvs.map (·.1)).Nodup
 y:∀ p w e,S p w e→bK kvs (gT p w e)=some (.int 1)
 n:∀ p w e,¬ S p w e→bK kvs (gT p w e)=none
 k:∀ kv∈kvs,∃ p w e,kv.1=gT p w e
theorem mK.nil {S:Str→Str→Nat→Prop} (h:∀ p w e,¬ S p w e):mK [] S:=⟨List.nodup_nil,fun p w e z=>absurd z (h p w e),fun _ _ _ _=>rfl,fun _ h=>nomatch h⟩
theorem mK.put {kvs:List (List Key×V)} {S S':Str→Str→Nat→Prop} (h:mK kvs S) (p w:Str) (e:Nat) (hS:∀ p' w' e',S' p' w' e'↔S p' w' e'∨(p'=p∧w'=w∧e'=e)):mK (putK kvs (gT p w e) (.int 1)) S':=by
 refine ⟨?_,fun p' w' e' z=>?_,fun p' w' e' z=>?_,fun kv Du=>?_⟩
 ·cases e0:bK kvs (gT p w e) with
  | none=>exact C2 _ h.nd e0
  | some y=>rw [lT e0]; exact h.nd
 ·rw [qj]
  by_cases hk:gT p' w' e'=gT p w e
  ·rw [if_pos hk]
  ·rw [if_neg hk]
   refine h.y p' w' e' (((hS _ _ _).mp z).resolve_right fun q=>hk ?_)
   obtain ⟨rfl,rfl,rfl⟩:=q
   rfl
 ·rw [qj]
  by_cases hk:gT p' w' e'=gT p w e
  ·exact absurd ((hS _ _ _).mpr (.inr (yD hk))) z
  ·rw [if_neg hk]
   exact h.n p' w' e' fun q=>z ((hS _ _ _).mpr (.inl q))
 ·have hm:kv.1∈(putK kvs (gT p w e) (.int 1)).map (·.1):=List.mem_map.mpr ⟨kv,Du,rfl⟩
  have old:∀ {x:List Key},x∈kvs.map (·.1)→∃ p w e,x=gT p w e:=fun hx=>by
   obtain ⟨U3,h1,rfl⟩:=List.mem_map.mp hx
   exact h.k U3 h1
  cases e0:bK kvs (gT p w e) with
  | none=>
    rw [fM _ e0,List.map_append] at hm
    rcases List.mem_append.mp hm with z | z
    ·exact old z
    ·exact ⟨p,w,e,List.mem_singleton.mp z⟩
  | some y=>
    rw [lT e0] at hm
    exact old hm
theorem mK.cnt {kvs:List (List Key×V)} {S:Str→Str→Nat→Prop} (h:mK kvs S) {c:Str→Str→Nat→Nat} (hy:∀ p w e,S p w e→c p w e=1) (hn:∀ p w e,¬ S p w e→c p w e=0):j4 kvs c:=by
 refine ⟨h.nd,fun p w e=>?_,h.k⟩
 by_cases z:S p w e
 ·rw [h.y p w e z,hy p w e z]
  rfl
 ·rw [h.n p w e z,hn p w e z]
  rfl
theorem mK.congr {kvs:List (List Key×V)} {S S':Str→Str→Nat→Prop} (h:mK kvs S) (e:∀ p w i,S' p w i↔S p w i):mK kvs S':=
 ⟨h.nd,fun p w i z=>h.y p w i ((e p w i).mp z),fun p w i z=>h.n p w i fun q=>z ((e p w i).mpr q),h.k⟩
theorem j4.congr {kvs:List (List Key×V)} {c c':Str→Str→Nat→Nat} (h:j4 kvs c) (e:∀ p w i,c' p w i=c p w i):j4 kvs c':=
 ⟨h.nd,fun p w i=>by rw [e]; exact h.v p w i,h.k⟩
theorem FZ (c:Nat):(if c=0 then none else some (V.int (c:Int))).getD (.int 0)=.int (c:Int):=by
 by_cases h:c=0
 ·rw [if_pos h,h]; rfl
 ·rw [if_neg h]; rfl
noncomputable def c6 (hs:List Str) (j:Nat) (p:Str):List Nat:=(List.range j).filter fun i=>decide (hs.getD i ""=p)
theorem rn (hs:List Str) (j:Nat) (p:Str):c6 hs (j + 1) p=c6 hs j p++if hs.getD j ""=p then [j] else []:=by
 unfold c6
 rw [List.range_succ,List.filter_append]
 by_cases h:hs.getD j ""=p
 ·rw [if_pos h,List.filter_cons_of_pos (p:=fun i=>decide (hs.getD i ""=p)) (a:=j) (decide_eq_true h)]; rfl
 ·rw [if_neg h,List.filter_cons_of_neg (p:=fun i=>decide (hs.getD i ""=p)) (a:=j) (by rw [decide_eq_false h]; decide)]; rfl
theorem oJ {hs:List Str} {j:Nat} {p:Str} {i:Nat}:i∈c6 hs j p↔i < j∧hs.getD i ""=p:=by
 unfold c6
 rw [List.mem_filter,List.mem_range,decide_eq_true_eq]
theorem uJ (hs:List Str) (j:Nat) (p:Str):(c6 hs j p).length≤j:=by
 have:=List.length_filter_le (fun i=>decide (hs.getD i ""=p)) (List.range j)
 rwa [List.length_range] at this
noncomputable def putD (mv:List (Str×Addr)) (p:Str) (a:Addr):List (Str×Addr):=if p∈mv.map (·.1) then mv.map (fun q=>if q.1=p then (q.1,a) else q) else mv++[(p,a)]
theorem DC (mv:List (Str×Addr)) (p:Str) (a:Addr):putK (aY mv) (Sum.inr p:Key) (.ref a)=aY (putD mv p a):=by
 unfold putD
 by_cases h:p∈mv.map (·.1)
 ·obtain ⟨b,hb,e⟩:=gr h
  have ea:((aY mv).any fun kv=>decide (kv.1=(Sum.inr p:Key)))=true:=by rw [gA,e]; rfl
  unfold putK
  rw [if_pos ea,if_pos h]
  unfold aY
  rw [List.map_map,List.map_map]
  refine List.map_congr_left fun q _=>?_
  show (if (Sum.inr q.1:Key)=Sum.inr p then ((Sum.inr q.1:Key),V.ref a) else ((Sum.inr q.1:Key),V.ref q.2))=((Sum.inr (if q.1=p then (q.1,a) else q).1:Key),V.ref (if q.1=p then (q.1,a) else q).2)
  by_cases hq:q.1=p
  ·rw [if_pos hq,if_pos (by rw [hq])]
  ·rw [if_neg hq,if_neg (fun z=>hq (Sum.inr.inj z))]
 ·rw [if_neg h,fM _ (g6 h)]
  unfold aY
  rw [List.map_append]
  rfl
theorem G0 {mv:List (Str×Addr)} {p:Str} {a:Addr} {q:Str×Addr} (h:q∈putD mv p a):q=(p,a)∨(q∈mv∧q.1≠p):=by
 unfold putD at h
 split at h
 ·obtain ⟨z,hz,rfl⟩:=List.mem_map.mp h
  by_cases e:z.1=p
  ·rw [if_pos e,e]; exact .inl rfl
  ·rw [if_neg e]; exact .inr ⟨hz,e⟩
 ·rename_i hn
  rcases List.mem_append.mp h with z | z
  ·exact .inr ⟨z,fun e=>hn (by rw [← e]; exact List.mem_map.mpr ⟨q,z,rfl⟩)⟩
  ·exact .inl (List.mem_singleton.mp z)
theorem DE {mv:List (Str×Addr)} {p:Str} {a:Addr} {x:Str}:x∈(putD mv p a).map (·.1)↔x∈mv.map (·.1)∨x=p:=by
 unfold putD
 split
 ·rename_i h
  have e:(mv.map fun q=>if q.1=p then (q.1,a) else q).map (·.1)=mv.map (·.1):=by
   rw [List.map_map]
   refine List.map_congr_left fun q _=>?_
   show (if q.1=p then (q.1,a) else q).1=q.1
   split <;> rfl
  rw [e]
  exact ⟨.inl,fun z=>z.elim id fun z=>by rw [z]; exact h⟩
 ·rw [List.map_append,List.mem_append]
  exact ⟨fun z=>z.imp id fun z=>List.mem_singleton.mp z,fun z=>z.imp id fun z=>List.mem_singleton.mpr z⟩
theorem G1 (mv:List (Str×Addr)) (p:Str) (a:Addr):(putD mv p a).length≤mv.length + 1:=by
 unfold putD
 split
 ·rw [List.length_map]; omega
 ·rw [List.length_append]; exact Nat.le_refl _
theorem ke {α:Type} (f:α→Int):∀ l:List α,(∀ x∈l,0≤f x)→(l.map f).sum=((l.filter fun x=>decide (0 < f x)).map f).sum
 | [],_=>rfl
 | x :: l,h=>by
   have ih:=ke f l fun y hy=>h y (List.mem_cons_of_mem _ hy)
   have h0:=h x (List.mem_cons_self ..)
   show f x + (l.map f).sum=_
   by_cases hx:0 < f x
   ·rw [List.filter_cons_of_pos (p:=fun x=>decide (0 < f x)) (a:=x) (decide_eq_true hx),ih]
    rfl
   ·rw [List.filter_cons_of_neg (p:=fun x=>decide (0 < f x)) (a:=x) (by rw [decide_eq_false hx]; decide),ih]
    omega
theorem DF {ls:List Str} {f:Str→Int} (h:∀ p∈ls,0≤f p):((aw ls f).map f).sum=(ls.map f).sum:=(ke f ls h).symm
theorem G2 {g:Str} {ws ss ls:List Str} {n:Nat} {f:Str→Int} (hn:∀ p∈ls,0≤f p) (p:Str):aN ((aw ls f).map f) (j2 g ws ss ls n (aw ls f) p)=j0 g ws ss ls n f p:=by
 unfold j0
 rw [ke (fun q:Str×Str=>f q.2) (aB g ws ss ls n p) fun q hq=>hn _ (g7 hq)]
 unfold aN j2
 rw [List.map_map]
 have e:(aB g ws ss ls n p).filter (fun q=>decide (q.2∈aw ls f))=(aB g ws ss ls n p).filter fun q=>decide (0 < f q.2):=List.filter_congr fun q hq=>by
  unfold aw
  exact decide_eq_decide.mpr (by rw [List.mem_filter]; exact ⟨fun z=>of_decide_eq_true z.2,fun z=>⟨g7 hq,decide_eq_true z⟩⟩)
 rw [e]
 refine congrArg List.sum (List.map_congr_left fun q hq=>?_)
 have U2:q.2∈aw ls f:=by
  unfold aw
  have:=List.mem_filter.mp hq
  exact List.mem_filter.mpr ⟨g7 this.1,this.2⟩
 show ((aw ls f).map f).getD ((aw ls f).idxOf q.2) 0=f q.2
 rw [List.getD_eq_getElem?_getD,List.getElem?_map,(oF U2).1]
 rfl
theorem me.first {g:Str} {ws ss ls:List Str} {n:Nat} {many:Int} {f:Str→Int} (hn:∀ p∈ls,0≤f p) (hf:FD g ws ss ls many n f):me many (aw ls f) ((aw ls f).map f) (eB g ws ss ls n (aw ls f)):=by
 have jg:∀ p∈aw ls f,p∈ls∧0 < f p:=fun p hp=>⟨(List.mem_filter.mp hp).1,of_decide_eq_true (List.mem_filter.mp hp).2⟩
 refine ⟨List.length_map _,List.length_map _,fun w hw=>?_,fun l hl q hq=>?_,fun i l hl=>?_⟩
 ·obtain ⟨p,hp,rfl⟩:=List.mem_map.mp hw
  have:=(jg p hp).2
  omega
 ·obtain ⟨p,hp,rfl⟩:=List.mem_map.mp hl
  obtain ⟨z,hz,rfl⟩:=List.mem_map.mp hq
  exact List.idxOf_lt_length_of_mem (of_decide_eq_true (List.mem_filter.mp hz).2)
 ·unfold eB at hl
  rw [List.getElem?_map] at hl
  cases e:(aw ls f)[i]? with
  | none=>rw [e] at hl; cases hl
  | some p=>
    rw [e] at hl
    cases hl
    rw [G2 hn,List.getD_eq_getElem?_getD,List.getElem?_map,e]
    exact hf p (jg p (List.mem_of_getElem? e)).1
end Bs
namespace K33
open PySem L2 Bs Sx
noncomputable def top (i:Nat):Stmt:=PySem.Challenge.pw_bandscribe_k33_whole_splits_keep.main.body.getD i (.Pass ⟨0,0,0,0⟩)
set_option genInjectivity false in
set_option genSizeOfSpec false in
structure Txt (mg:Str→Option Value):Prop where
 «abs»:mg "abs"=none
 «all»:mg "all"=none
 «any»:mg "any"=none
 «bool»:mg "bool"=none
 «enum»:mg "enumerate"=none
 «int»:mg "int"=none
 «Mu»:mg "isinstance"=none
 «len»:mg "len"=none
 «list»:mg "list"=none
 «max»:mg "max"=none
 «min»:mg "min"=none
 «range»:mg "range"=none
 «set»:mg "set"=none
 «sorted»:mg "sorted"=none
 «str»:mg "str"=none
 «sum»:mg "sum"=none
set_option genInjectivity false in
set_option genSizeOfSpec false in
structure G3 (K:PySem.W.Frag) (C:Addr):Prop where
 cl:zT K C
 ia:gy K C "homes"
 cD:gy K C "weights"
 fW:gy K C "lines"
set_option genInjectivity false in
set_option genSizeOfSpec false in
structure Iw (K:PySem.W.Frag) (C:Addr):Prop where
 cl:zT K C
 vy:gy K C "signs"
 G4:gy K C "barred"
 nN:gy K C "moves"
 oK:gy K C "lasting"
set_option genInjectivity false in
set_option genSizeOfSpec false in
structure Lk (K:PySem.W.Frag) (mg:Str→Option Value) where
 T:Txt mg
 g8:Addr
 j5:FuncData
 c9:FnAt K mg "is_whole" (top 10) ["thing"] g8 j5
 g9:Addr
 j6:FuncData
 dM:FnAt K mg "all_rows" (top 12) ["band","wide"] g9 j6
 hG:Addr
 jS:FuncData
 fC:FnAt K mg "is_rate" (top 13) ["band","many","wide"] hG jS
 dN:Addr
 gF:FuncData
 bu:FnAt K mg "check_rate" (top 14) ["band","many","wide"] dN gF
 d8:Addr
 fP:FuncData
 bQ:FnAt K mg "longer_rows" (top 15) ["band","rows"] d8 fP
 d9:Addr
 fQ:FuncData
 aR:FnAt K mg "blocks_from" (top 16) ["band","place","wide"] d9 fQ
 cH:Addr
 eV:FuncData
 bI:FnAt K mg "copied_steps" (top 18) ["line"] cH eV
 bf:Addr
 dA:FuncData
 dh:Addr
 fR:FuncData
 bR:FnAt K mg "first_sheet" (top 20) ["band","many","wide","weights"] dh fR
 cI:Addr
 eW:FuncData
 aZ:FnAt K mg "is_number_of" (top 21) ["number","things"] cI eW
 dO:Addr
 gG:FuncData
 bx:FnAt K mg "check_part" (top 22) ["sheet","many","steps","weight"] dO gG
 dP:Addr
 gH:FuncData
 ck:FnAt K mg "with_twins" (top 23) ["line","desk","twin"] dP gH
 kf:Addr
 nO:FuncData
 iL:FnAt K mg "split" (top 24) ["sheet","many","desk","numbers","weight"] kf nO
 eX:Addr
 iu:FuncData
 bL:FnAt K mg "all_among" (top 27) ["text","signs"] eX iu
 eY:Addr
 iw:FuncData
 cT:FnAt K mg "are_signs" (top 28) ["thing"] eY iw
 hV:Addr
 jT:FuncData
 fD:FnAt K mg "is_word" (top 29) ["thing","signs"] hV jT
 cJ:Addr
 eZ:FuncData
 bJ:FnAt K mg "check_barred" (top 30) ["barred","signs"] cJ eZ
 cK:Addr
 f7:FuncData
 b0:FnAt K mg "bears_barred" (top 31) ["row","barred"] cK f7
 cb:Addr
 eC:FuncData
 bz:FnAt K mg "sorted_places" (top 32) ["barred"] cb eC
 di:Addr
 fS:FuncData
 bS:FnAt K mg "longest_end" (top 33) ["row","places"] di fS
 dQ:Addr
 gI:FuncData
 cm:FnAt K mg "moves_from" (top 34) ["place","signs","barred","places"] dQ gI
 dR:Addr
 gJ:FuncData
 cn:FnAt K mg "leads_into" (top 35) ["ends","lot"] dR gJ
 cU:Addr
 gK:FuncData
 cq:FnAt K mg "live_among" (top 36) ["moves"] cU gK
 bA:Addr
 eD:FuncData
 bb:Addr
 cM:FuncData
 bj:Addr
 cV:FuncData
 dj:Addr
 ib:FuncData
 dF:Addr
 iy:FuncData
 f9:Addr
 j7:FuncData
 dS:Addr
 gL:FuncData
 cu:FnAt K mg "block_ends" (top 39) ["band","wide"] dS gL
 fg:Addr
 iz:FuncData
 cW:FnAt K mg "weight_of" (top 40) ["places","weights"] fg iz
 hX:Addr
 jU:FuncData
 fE:FnAt K mg "lowered" (top 41) ["ends","many","weights"] hX jU
 fh:Addr
 j8:FuncData
 dU:FnAt K mg "greatest" (top 42) ["band","many","wide","most"] fh j8
 gd:Addr
 j9:FuncData
 aJ:FnAt K mg "_law_nth" (top 44) ["_law_script","_law_k"] gd j9
 dW:Addr
 gM:FuncData
 af:FnAt K mg "_law_mixed" (top 45) ["_law_cell","_law_turn","_law_many"] dW gM
 dX:Addr
 gN:FuncData
 cw:FnAt K mg "_law_signs" (top 46) ["_law_cell"] dX gN
 cX:Addr
 gO:FuncData
 cx:FnAt K mg "_law_words" (top 47) ["_law_script","_law_at","_law_signs_here","_law_most","_law_long"] cX gO
 fi:Addr
 iA:FuncData
 cY:FnAt K mg "_law_rate" (top 48) ["_law_cell","_law_signs_here"] fi iA
 dY:Addr
 gP:FuncData
 cy:FnAt K mg "_law_steps" (top 49) ["_law_sheet"] dY gP
 gf:Addr
 ja:FuncData
 dZ:FnAt K mg "_law_due" (top 50) ["_law_blocks","_law_sheet"] gf ja
 e8:Addr
 gQ:FuncData
 bB:FnAt K mg "_law_borne" (top 51) ["_law_sheet","_law_numbers","_law_desk"] e8 gQ
 dG:Addr
 iB:FuncData
 bM:FnAt K mg "_law_good" (top 52) ["_law_sheet","_law_many","_law_blocks","_law_homes","_law_total"] dG iB
 fj:Addr
 iC:FuncData
 cZ:FnAt K mg "_law_some" (top 53) ["_law_cell","_law_size"] fj iC
 cA:Addr
 fT:FuncData
 bT:FnAt K mg "_law_choice" (top 54) ["_law_cell","_law_sheet","_law_many"] cA fT
 ao:Addr
 vz:mg "Sheet"=some (.ref ao)
 ak:G3 K ao
 jb:Mk K ao bf
 aA:Addr
 G5:mg "Band"=some (.ref aA)
 aX:Iw K aA
 lU:Mk K aA bA
 fF:qE K ao "__init__" "Sheet.__init__" (inClass (top 19) 0) ["self","homes","weights","lines"] bf dA
 iF:qE K aA "__init__" "Band.__init__" (inClass (top 37) 0) ["self","signs","barred"] bA eD
 ee:qE K aA "check_place" "Band.check_place" (inClass (top 37) 2) ["self","place"] bb cM
 eL:qE K aA "check_live" "Band.check_live" (inClass (top 37) 3) ["self","place"] bj cV
 sJ:qE K aA "places" "Band.places" (inClass (top 37) 5) ["self"] dj ib
 dH:qE K aA "live" "Band.live" (inClass (top 37) 6) ["self"] dF iy
 kg:qE K aA "led" "Band.led" (inClass (top 37) 8) ["self","place","sign"] f9 j7
 bG:Addr
 yE:mg "BandError"=some (.ref bG)
 XT:KL K bG "BandError"
 XB:O8 K bG
 bg:Addr
 iP:mg "NoSplit"=some (.ref bg)
 iQ:gB K bg bG "NoSplit"
 DG:KO K bg
 dn:PySem.W.findIn K (.ref bg) "__init__"=some (some (.builtin "ValueError.__init__"))
 known:∃ t,mg "KNOWN_SIGNS"=some (.str gm t)
end K33
namespace K33
open PySem L2 Bs Sx
section
variable {P:Program} {w:World} {K:PySem.W.Frag} {mg:Str→Option Value} {base:Heap}
theorem vA:az ["text","signs"] ["text","signs"] (aa (top 27)):=⟨rfl,rfl,rfl,by decide +kernel,rfl,by decide +kernel,by decide +kernel⟩
theorem nP (L:Lk K mg):bD P w K mg base iN 1 L.eX L.iu ["text","signs"] Hz:=by
 have T:=L.T
 refine L.bL.F.ok vA (fun vs H Q E h=>?_) (fun cR A outer s H vs Q E hr h=>?_)
 ·obtain ⟨a,b,rfl,_⟩:=h
  rfl
 ·obtain ⟨a,b,rfl,hl,k⟩:=h
  refine ⟨_,(ag (aF (au (qt rfl) (by rfl) T.all Kx (a5 (eK rfl (ay (sc:=aa (top 27)) (N:=["text","signs"]) (ys:=["signs"]) (ix:=[1]) rfl rfl (by decide +kernel)) (A8 (pv 0)) (fun _ _ _ _ _ _=>du) (fun _ _ _ _ _ _=>(i3 tV (pv 0) (pv 1) rfl))) a8)))),?_⟩
  refine ⟨_,rfl,a,rfl,fun l yA=>comp_map (QB b) (qo a) yA (by unfold fI; rw [List.length_map]; exact aD (Nat.le_trans (Nat.le_of_eq (aT a)) (by omega))) (fun _ _=>trivial) (fun x H3 Q' hx _ q=>?_) (fun H' s' o9=>?_)⟩
  ·obtain ⟨c,_,rfl⟩:=List.mem_map.mp hx
   exact ⟨_,rfl,_,rfl,_,_,rfl,rfl,q H3 (a6.refl _)⟩
  ·rw [D5] at o9
   refine ⟨l,_,rfl,aK.of o9,?_⟩
   have:=k H' s'
   rw [List.all_map]
   exact this
theorem pD:az ["row","barred"] ["row","barred"] (aa (top 31)):=⟨rfl,rfl,rfl,by decide +kernel,rfl,by decide +kernel,by decide +kernel⟩
theorem kz (L:Lk K mg):bD P w K mg base iN 1 L.cK L.f7 ["row","barred"] (HA K):=by
 have T:=L.T
 refine L.b0.F.ok pD (fun vs H Q E h=>?_) (fun cR A outer s H vs Q E hr h=>?_)
 ·obtain ⟨r,a,ws,rfl,_⟩:=h
  rfl
 ·obtain ⟨r,a,ws,rfl,hS,hl,k⟩:=h
  refine ⟨_,(ag (aF (au (xW rfl) (by rfl) T.any NU (a5 (eK rfl (ay (sc:=aa (top 31)) (N:=["row","barred"]) (ys:=["row"]) (ix:=[0]) rfl rfl (by decide +kernel)) (bh (pv 1)) (fun _ _ _ _ _ _=>du) (fun _ _ _ _ _ _=>(i3 tV (pv 0) (pv 1) rfl))) a8)))),?_⟩
  refine ⟨_,rfl,a,rfl,⟨_,hS⟩,fun l yA=>comp_map (QB r) (bO K a (ws.map V.str)) yA (by rw [List.length_map]; exact aD (by omega)) (fun H' s'=>s'.seq hS) (fun x H3 Q' hx _ q=>?_) (fun H' s' o9=>?_)⟩
  ·obtain ⟨c,_,rfl⟩:=List.mem_map.mp hx
   exact ⟨_,rfl,_,rfl,_,_,rfl,rfl,q H3 (a6.refl _)⟩
  ·rw [F3] at o9
   refine ⟨l,_,rfl,aK.of o9,?_⟩
   have:=k H' s'
   rw [List.any_map]
   exact this
theorem vB:az ["thing"] ["thing"] (aa (top 28)):=⟨rfl,rfl,rfl,by decide +kernel,rfl,by decide +kernel,by decide +kernel⟩
theorem vC (L:Lk K mg):bD P w K mg base iN 2 L.eY L.iw ["thing"] NV:=by
 have T:=L.T
 refine L.cT.F.ok vB (fun vs H Q E h=>?_) (fun cR A outer s H vs Q E hr h=>?_)
 ·obtain ⟨x,rfl,_⟩:=h
  rfl
 ·obtain ⟨x,rfl,S,k⟩:=h
  have HQ:x.length≤sizeLine:=aD (by have:=S.hi; omega)
  obtain ⟨tk,ZH⟩:=L.known
  refine ⟨_,(a7 (bV (PW.pt (jE (gw (eI (au gk (by rfl) T.Mu D8 (a5 (pv 0) (a5 (lH (v:=.ty "str") (by rfl) T.str Hy rfl) a8))))) (jE (aH nh (au bP (by rfl) T.len PySem.boot_len (a5 (pv 0) a8)) ae (aS _)) (kK (aH m4 (au bP (by rfl) T.len PySem.boot_len (a5 (pv 0) a8)) ae (aS _)))))) (ag (aF iR)) aP)
   (ag (aF (zP (i3 m3 (au y3 (by rfl) T.len PySem.boot_len (a5 (eE (y1 rfl) (by rfl) T.set SU (a5 (pv 0) a8)) a8)) (au bP (by rfl) T.len PySem.boot_len (a5 (pv 0) a8)) (aS _)) (zO (aq (nP L) (hr.mono (by decide)) rfl L.bL.g L.bL.F.kp L.bL.b .nil aC (a5 (pv 0) (a5 (GQ (v:=.str gm) (by rfl) ZH ⟨tk,rfl⟩) a8)))))))),?_⟩
  refine ⟨_,rfl,_,_,_,true,rfl,iT.str x,rfl,true,rfl,?_⟩
  refine fz ?_
  refine ⟨_,rfl,x,rfl,HQ,_,_,rfl,rfl,_,rfl,?_⟩
  refine F2 (by have:=S.lo; simp; omega) ?_
  refine ⟨_,rfl,x,rfl,HQ,_,_,rfl,rfl,_,rfl,?_⟩
  refine F2 (by have:=S.hi; simp; omega) ?_
  refine ⟨_,rfl,x,rfl,?_,fun p hp=>?_⟩
  ·have:=S.hi
   show x.length + 1 < scanBound
   unfold scanBound
   omega
  refine ⟨p,_,rfl,a9,_,rfl,x,rfl,HQ,rfl,?_⟩
  refine ⟨_,rfl,?_⟩
  refine SR (by rw [y6 S.nd]; simp) ?_
  refine ⟨_,rfl,x,gm,rfl,by have:=S.hi; omega,fun H' s'=>?_⟩
  have e:((ch x).all fun c=>decide (c∈ch gm))=true:=List.all_eq_true.mpr fun c hc=>decide_eq_true (S.sub c hc)
  rw [e]
  exact k H' ((a6.upd hp).trans s')
theorem AK:az ["thing","signs"] ["thing","signs"] (aa (top 29)):=⟨rfl,rfl,rfl,by decide +kernel,rfl,by decide +kernel,by decide +kernel⟩
theorem AO (L:Lk K mg):bD P w K mg base iN 2 L.hV L.jT ["thing","signs"] NW:=by
 have T:=L.T
 refine L.fD.F.ok AK (fun vs H Q E h=>?_) (fun cR A outer s H vs Q E hr h=>?_)
 ·obtain ⟨x,g,rfl,_⟩:=h
  rfl
 ·obtain ⟨x,g,rfl,S,k⟩:=h
  have HQ:x.length≤sizeLine:=aD (by have:=S.hi; omega)
  refine ⟨_,(a7 (bV (PW.pt (jE (gw (eI (au gk (by rfl) T.Mu D8 (a5 (pv 0) (a5 (lH (v:=.ty "str") (by rfl) T.str Hy rfl) a8))))) (jE (aH nh (au bP (by rfl) T.len PySem.boot_len (a5 (pv 0) a8)) ae (aS _)) (kK (aH m4 (au bP (by rfl) T.len PySem.boot_len (a5 (pv 0) a8)) ae (aS _)))))) (ag (aF iR)) aP)
   (ag (aF (aq (nP L) (hr.mono (by decide)) rfl L.bL.g L.bL.F.kp L.bL.b .nil aC (a5 (pv 0) (a5 (pv 1) a8)))))),?_⟩
  refine ⟨_,rfl,_,_,_,true,rfl,iT.str x,rfl,true,rfl,?_⟩
  refine fz ?_
  refine ⟨_,rfl,x,rfl,HQ,_,_,rfl,rfl,_,rfl,?_⟩
  refine F2 (by have:=S.lo; simp; omega) ?_
  refine ⟨_,rfl,x,rfl,HQ,_,_,rfl,rfl,_,rfl,?_⟩
  refine F2 (by have:=S.hi; simp; omega) ?_
  refine ⟨_,rfl,_,rfl,x,g,rfl,by have:=S.hi; omega,fun H' s'=>?_⟩
  have e:((ch x).all fun c=>decide (c∈ch g))=true:=List.all_eq_true.mpr fun c hc=>decide_eq_true (S.sub c hc)
  rw [e]
  exact k H' s'
theorem iG:az ["barred","signs","number","thing"] ["barred","signs"] (aa (top 30)):=⟨rfl,rfl,rfl,by decide +kernel,rfl,by decide +kernel,by decide +kernel⟩
theorem pE (L:Lk K mg):bD P w K mg base iN 3 L.cJ L.eZ ["barred","signs"] (HB K):=by
 have T:=L.T
 refine L.bJ.F.ok iG (fun vs H Q E h=>?_) (fun cR A outer s H vs Q E hr h=>?_)
 ·obtain ⟨a,g,ws,rfl,_⟩:=h
  rfl
 ·obtain ⟨a,g,ws,rfl,hS,hl,hw,k⟩:=h
  refine ⟨_,(a7 (bV (aH m4 (au aW (by rfl) T.len PySem.boot_len (a5 (pv 0) a8)) ae (aS _)) iM aP)
   (ag (bH PassesOwn.never rfl (vc (by rfl) T.enum (a5 (pv 0) a8)) (kM rfl (bW (aG (i:=2) iG.nd rfl (Or.inl rfl)) (bW (aG (i:=3) iG.nd rfl (Or.inl rfl)) ji))) (ag (bV (gw (eI (aq (AO L) (hr.mono (by decide)) rfl L.fD.g L.fD.F.kp L.fD.b .nil aC (a5 (pv 3) (a5 (pv 1) a8))))) iM aP))))),?_⟩
  refine ⟨_,rfl,a,_,rfl,.inl hS,_,_,rfl,rfl,_,rfl,?_⟩
  refine F2 (by rw [List.length_map]; simp; omega) ?_
  refine ⟨_,rfl,a,_,rfl,hS,EZ (K:=K) (a:=a) (xs:=ws.map V.str) (fun i σ H2=>a6 H H2∧∃ v2 v3,σ=[some (.ref a),some (.str g),v2,v3]) ⟨a6.refl _,none,none,rfl⟩ (fun i σ H2 _ p=>p.1.seq hS) ?_ (fun σ H2 p=>k H2 p.1)⟩
  rintro i x σ H2 T hx ⟨s2,v2,v3,rfl⟩ hT
  obtain ⟨t,rfl,hm⟩:∃ t,x=.str t∧t∈ws:=by
   have:=List.mem_of_getElem? hx
   obtain ⟨t,hm,e⟩:=List.mem_map.mp this
   exact ⟨t,e.symm,hm⟩
  refine ⟨T,_,rfl,jF.of a9,rfl,_,_,rfl,_,_,rfl,rfl,?_⟩
  refine ⟨_,rfl,_,rfl,t,g,rfl,hw t hm,fun H' s'=>⟨true,rfl,?_⟩⟩
  refine fz ?_
  exact ⟨(s2.trans (a6.upd hT)).trans s',_,_,rfl⟩
theorem dB:az ["barred","found","word","length","beginning"] ["barred"] (aa (top 32)):=⟨rfl,rfl,rfl,by decide +kernel,rfl,by decide +kernel,by decide +kernel⟩
theorem oM (L:Lk K mg):bD P w K mg base iN 2 L.cb L.eC ["barred"] (F5 K):=by
 have T:=L.T
 refine L.bz.F.ok dB (fun vs H Q E h=>?_) (fun cR A outer s H vs Q E hr h=>?_)
 ·obtain ⟨a,ws,rfl,_⟩:=h
  rfl
 ·obtain ⟨a,ws,rfl,hS,hl,hw,k⟩:=h
  have hu:=iX hr
  refine ⟨_,(a7 (av (i:=1) dB.nd rfl (Or.inl rfl) (Hl (EG jr iR Hk) rfl rfl (by simp) (by decide)))
   (a7 (bH PassesOwn.never rfl (bh (pv 0)) (aG (i:=2) dB.nd rfl (Or.inl rfl)) (ag (bH PassesOwn.never rfl (Cz rfl T.range (a5 ae (a5 (au bP (by rfl) T.len PySem.boot_len (a5 (pv 2) a8)) a8))) (aG (i:=3) dB.nd rfl (Or.inl rfl)) (a7 (av (i:=4) dB.nd rfl (Or.inl rfl) (iV qu (pv 2) ni (iI (pv 3))))
   (ag (bV (gw (eI (aq (kz L) (hr.mono (by decide)) rfl L.b0.g L.b0.F.kp L.b0.b .nil aC (a5 (pv 4) (a5 (pv 0) a8))))) (ag (i5 hu (pv 1) (pv 4) iR rfl)) aP))))))
   (ag (aF (au (uZ rfl) (by rfl) T.sorted C5 (a5 (pv 1) a8)))))),?_⟩
  intro d hd
  refine ⟨a9,[((Sum.inr "":Key),V.bl true)],rfl,by decide,?_⟩
  have s0:a6 H (upd (upd H d (.dK [])) d (.dK (oh [] [((Sum.inr "":Key),V.bl true)]))):=by
   rw [BK]
   exact a6.upd hd
  refine ⟨_,rfl,a,rfl,⟨_,s0.seq hS⟩,eQ (K:=K) (a:=a) (xs:=ws.map V.str) (fun i σ H2=>∃ v2 v3 v4,σ=[some (.ref a),some (.ref d),v2,v3,v4]∧a6 H H2∧H2 d=some (.dK (kr (c4 ws "" (ws.take i)))))
   ⟨none,none,none,rfl,s0,a9⟩ (fun i σ H2 _ ⟨_,_,_,_,s2,_⟩=>s2.seq hS) ?_ ?_⟩
  ·rintro i x σ H2 hx ⟨v2,v3,v4,rfl,s2,h2⟩
   have hi:i < ws.length:=by have:=(List.getElem?_eq_some_iff.mp hx).1; rwa [List.length_map] at this
   obtain ⟨wd,GA,rfl⟩:∃ wd,ws[i]?=some wd∧x=.str wd:=by
    rw [List.getElem?_map] at hx
    cases e:ws[i]? with
    | none=>rw [e] at hx; cases hx
    | some z=>rw [e] at hx; exact ⟨z,rfl,(Option.some.inj hx).symm⟩
   have hm:wd∈ws:=List.mem_of_getElem? GA
   have nc:=hw wd hm
   have tk:ws.take (i + 1)=ws.take i++[wd]:=by rw [List.take_add_one,GA]; rfl
   have oN:(c4 ws "" (ws.take i)).length≤30:=by
    have:=lI (ws:=ws) (e:="") (us:=ws.take i) fun v hv=>hw v (List.mem_of_mem_take hv)
    rw [List.length_take] at this
    omega
   refine ⟨_,rfl,wd,rfl,aD (by omega),1,_,rfl,⟨by decide,by decide,by omega,by omega⟩,?_⟩
   have en:((wd.length:Int) - 1).toNat=wd.length - 1:=by omega
   refine dz (lo:=1) (n:=((wd.length:Int) - 1).toNat) (fun j σ H3=>∃ v3 v4,σ=[some (.ref a),some (.ref d),some (.str wd),v3,v4]∧a6 H H3∧H3 d=some (.dK (kr (upTo ws wd (c4 ws "" (ws.take i)) j))))
    ⟨v3,v4,rfl,s2,h2⟩ ?_ ?_
   ·rintro j σ H3 hj ⟨v3,v4,rfl,s3,h3⟩
    have ec:(1 + (j:Int))=((1 + j:Nat):Int):=by omega
    refine ⟨_,rfl,_,rfl,_,rfl,wd,rfl,aD (by omega),?_⟩
    rw [ec]
    have U4:=qA ws wd (c4 ws "" (ws.take i)) j
    refine ⟨_,rfl,_,rfl,gn wd (1 + j),a,ws,rfl,s3.seq hS,by omega,fun H4 s4=>⟨_,rfl,?_⟩⟩
    have h4:=s4 _ _ h3
    cases hb:bears ws (gn wd (1 + j)) with
    | true=>
      refine fz ?_
      refine ⟨_,_,rfl,s3.trans s4,?_⟩
      rw [h4,gW]
      unfold ox
      rw [if_pos hb]
    | false=>
      refine kD ?_
      refine ⟨_,rfl,_,rfl,d,_,rfl,kR.k (k:=Sum.inr (gn wd (1 + j))) h4 (by rw [D7]; exact fu (by omega)),?_⟩
      refine ⟨_,_,rfl,fun b o e=>?_,?_⟩
      ·rw [ai (aj e hd)]
       exact s4 _ _ (s3 _ _ e)
      ·rw [a9,D6,gW]
       unfold ox
       rw [if_neg (by rw [hb]; exact Bool.false_ne_true)]
   ·rintro σ H3 ⟨v3,v4,rfl,s3,h3⟩
    refine ⟨_,v3,v4,rfl,s3,?_⟩
    rw [h3,tk,Ag,en]
    rfl
  ·rintro σ H2 ⟨v2,v3,v4,rfl,s2,h2⟩
   rw [List.length_map,List.take_length] at h2
   have AQ:=lI (ws:=ws) (e:="") (us:=ws) hw
   refine ⟨_,rfl,d,_,_,rfl,h2,Aj _,by omega,fun l ss o9 hp hs=>?_⟩
   exact k l ss _ (s2.trans (a6.upd o9)) (s2.free o9) a9 hp hs
theorem jc:az ["row","places","cut"] ["row","places"] (aa (top 33)):=⟨rfl,rfl,rfl,by decide +kernel,rfl,by decide +kernel,by decide +kernel⟩
theorem rp (L:Lk K mg):bD P w K mg base iN 1 L.di L.fS ["row","places"] (Ky K):=by
 have T:=L.T
 refine L.bS.F.ok jc (fun vs H Q E h=>?_) (fun cR A outer s H vs Q E hr h=>?_)
 ·obtain ⟨r,a,ps,rfl,_⟩:=h
  rfl
 ·obtain ⟨r,a,ps,rfl,hS,he,hl,k⟩:=h
  refine ⟨_,(a7 (av (i:=2) jc.nd rfl (Or.inl rfl) ae)
   (a7 (qb PassesOwn.never (aH iJ (iV qu (pv 0) (iI (pv 2)) ni) (pv 1) rfl) (ag (Ej (i:=2) jc.nd rfl (Or.inl rfl) ae K2)))
   (ag (aF (iV qu (pv 0) (iI (pv 2)) ni))))),?_⟩
  refine ⟨fun m σ H2=>∃ n:Nat,n≤r.length∧m=r.length - n∧σ=[some (.str r),some (.ref a),some (.int (n:Int))]∧a6 H H2∧∀ j,j < n→ir r j∉ps,⟨r.length,0,Nat.zero_le _,rfl,rfl,a6.refl _,fun j hj=>absurd hj (Nat.not_lt_zero j)⟩,?_⟩
  rintro m σ H2 ⟨n,hn,rfl,rfl,s2,hb⟩
  refine ⟨_,rfl,_,rfl,_,rfl,r,rfl,aD (by omega),_,rfl,a,_,rfl,.inl (s2.seq hS),rfl,gq ps,_,rfl,?_⟩
  rw [if_pos rfl,kU]
  by_cases h:ir r n∈ps
  ·have e:decide (Txt.slice r (some (n:Int)) none∈ps)=true:=decide_eq_true h
   rw [e]
   refine fz ?_
   refine ⟨_,rfl,_,rfl,_,rfl,r,rfl,aD (by omega),?_⟩
   have:=k H2 s2
   unfold lend at this
   rw [y8 h hb hn] at this
   exact this
  ·have e:decide (Txt.slice r (some (n:Int)) none∈ps)=false:=decide_eq_false h
   rw [e]
   refine kD ?_
   have eM:n < r.length:=by
    rcases Nat.lt_or_eq_of_le hn with z | z
    ·exact z
    ·subst z
     rw [oy] at h
     exact absurd he h
   refine ⟨fun σ' H'=>∃ n':Nat,n'=n + 1∧σ'=[some (.str r),some (.ref a),some (.int (n':Int))]∧a6 H H',?_,?_⟩
   ·rintro σ' H' ⟨n',rfl,rfl,s'⟩
    refine ⟨r.length - (n + 1),by omega,n + 1,eM,rfl,rfl,s',fun j hj=>?_⟩
    rcases Nat.lt_or_eq_of_le (Nat.le_of_lt_succ hj) with z | z
    ·exact hb j z
    ·rw [z]; exact h
   ·exact ⟨_,rfl,_,_,rfl,rfl,n + 1,rfl,rfl,s2⟩
theorem ic:az ["place","signs","barred","places","moves","sign","row"] ["place","signs","barred","places"] (aa (top 34)):=⟨rfl,rfl,rfl,by decide +kernel,rfl,by decide +kernel,by decide +kernel⟩
theorem sL (L:Lk K mg):bD P w K mg base iN 2 L.dQ L.gI ["place","signs","barred","places"] (HC K):=by
 have T:=L.T
 refine L.cm.F.ok ic (fun vs H Q E h=>?_) (fun cR A outer s H vs Q E hr h=>?_)
 ·obtain ⟨p,g,a,b,ws,ps,rfl,_⟩:=h
  rfl
 ·obtain ⟨p,g,a,b,ws,ps,rfl,hS,hP,he,uO,yF,M9,nc,k⟩:=h
  have hu:=iX hr
  refine ⟨_,(a7 (av (i:=4) ic.nd rfl (Or.inl rfl) iW)
   (a7 (bH PassesOwn.never rfl (A8 (pv 1)) (aG (i:=5) ic.nd rfl (Or.inl rfl)) (a7 (av (i:=6) ic.nd rfl (Or.inl rfl) (aI mw (pv 0) (pv 5)))
   (ag (i5 hu (pv 4) (pv 5) (Eh (eI (aq (kz L) (hr.mono (by decide)) rfl L.b0.g L.b0.F.kp L.b0.b .nil aC (a5 (pv 6) (a5 (pv 2) a8)))) q9 (aq (rp L) (hr.mono (by decide)) rfl L.bS.g L.bS.F.kp L.bS.b .nil aC (a5 (pv 6) (a5 (pv 3) a8)))) rfl))))
   (ag (aF (pv 4))))),?_⟩
  intro d hd
  refine ⟨_,rfl,g,rfl,oj (qo g) (fun i σ H2=>∃ v5 v6,σ=[some (.str p),some (.str g),some (.ref a),some (.ref b),some (.ref d),v5,v6]∧a6 H H2∧H2 d=some (.dK (((ch g).take i).map fun c=>((Sum.inr (⟨#[c]⟩:Str):Key),sH ws ps p c))))
   ⟨none,none,rfl,a6.upd hd,a9⟩ (fun _ _ _ _ _=>trivial) ?_ ?_⟩
  ·rintro i x σ H2 hx ⟨v5,v6,rfl,s2,h2⟩
   obtain ⟨c,hc,rfl⟩:∃ c,(ch g)[i]?=some c∧x=.str ⟨#[c]⟩:=by
    unfold fI at hx
    rw [List.getElem?_map] at hx
    cases e:(ch g)[i]? with
    | none=>rw [show g.cps.toList[i]?=none from e] at hx; cases hx
    | some z=>rw [show g.cps.toList[i]?=some z from e] at hx; exact ⟨z,rfl,(Option.some.inj hx).symm⟩
   have hi:i < (ch g).length:=(List.getElem?_eq_some_iff.mp hc).1
   have ZI:=aT g
   have vD:(p++(⟨#[c]⟩:Str)).length=p.length + 1:=by rw [← aT,aE,List.length_append,aT]; rfl
   refine ⟨_,rfl,_,rfl,p,⟨#[c]⟩,rfl,rfl,aD (by show p.length + 1≤_; omega),?_⟩
   have fin:∀ H4,a6 H2 H4→Ja (GP 4) (GP 5) (fun _ H5 Q5=>Q5 (sH ws ps p c) H5) { nx:=fun σ H2=>∃ v5 v6,σ=[some (.str p),some (.str g),some (.ref a),some (.ref b),some (.ref d),v5,v6]∧a6 H H2∧H2 d=some (.dK (((ch g).take (i + 1)).map fun c=>((Sum.inr (⟨#[c]⟩:Str):Key),sH ws ps p c))),rt:=Q }
    [some (.str p),some (.str g),some (.ref a),some (.ref b),some (.ref d),some (.str ⟨#[c]⟩),some (.str (p++⟨#[c]⟩))] H4:=by
    intro H4 s4
    have h4:=s4 _ _ h2
    refine ⟨_,rfl,_,rfl,d,_,rfl,kR.k (k:=Sum.inr (⟨#[c]⟩:Str)) h4 (by rw [List.length_map,List.length_take]; exact fu (by omega)),?_⟩
    refine ⟨_,_,rfl,fun b o e=>?_,?_⟩
    ·rw [ai (aj e hd)]
     exact s4 _ _ (s2 _ _ e)
    ·rw [a9,fM]
     ·have:(ch g).take (i + 1)=(ch g).take i++[c]:=by rw [List.take_add_one,hc]; rfl
      rw [this,List.map_append]
      rfl
     ·cases q:bK (((ch g).take i).map fun c=>((Sum.inr (⟨#[c]⟩:Str):Key),sH ws ps p c)) (Sum.inr (⟨#[c]⟩:Str):Key) with
      | none=>rfl
      | some v=>
        have:=uW q
        rw [List.map_map] at this
        obtain ⟨c',Cu,e⟩:=List.mem_map.mp this
        have e':(⟨#[c']⟩:Str)=⟨#[c]⟩:=Sum.inr.inj e
        have:c'=c:=by
         have:=congrArg ch e'
         simpa [ch] using this
        subst this
        obtain ⟨j,hj,ej⟩:=List.mem_iff_getElem.mp Cu
        rw [List.getElem_take] at ej
        rw [List.length_take] at hj
        have e1:(ch g)[i]=c':=(List.getElem?_eq_some_iff.mp hc).2
        have:=(List.getElem_inj M9).mp (ej.trans e1.symm)
        omega
   refine ⟨_,rfl,_,rfl,_,a,ws,rfl,s2.seq hS,nc,fun H4 s4=>⟨_,rfl,?_⟩⟩
   cases hb:bears ws (p++⟨#[c]⟩) with
   | true=>
     refine kD ?_
     have:=fin H4 s4
     unfold sH at this
     rw [if_pos hb] at this
     unfold sH
     exact this
   | false=>
     refine fz ?_
     refine ⟨_,rfl,_,rfl,_,b,ps,rfl,(s2.trans s4).seq hP,he,by omega,fun H5 s5=>?_⟩
     have:=fin H5 (s4.trans s5)
     unfold sH at this
     rw [if_neg (by rw [hb]; exact Bool.false_ne_true)] at this
     unfold sH
     exact this
  ·rintro σ H2 ⟨v5,v6,rfl,s2,h2⟩
   have e:(fI g).length=(ch g).length:=by unfold fI; rw [List.length_map]
   rw [e,List.take_length] at h2
   exact ⟨_,rfl,k d H2 s2 hd h2⟩
theorem sM:az ["ends","lot"] ["ends","lot"] (aa (top 35)):=⟨rfl,rfl,rfl,by decide +kernel,rfl,by decide +kernel,by decide +kernel⟩
theorem sN (L:Lk K mg):bD P w K mg base iN 1 L.dR L.gJ ["ends","lot"] (HD K):=by
 have T:=L.T
 refine L.cn.F.ok sM (fun vs H Q E h=>?_) (fun cR A outer s H vs Q E hr h=>?_)
 ·obtain ⟨a,b,es,ls,rfl,_⟩:=h
  rfl
 ·obtain ⟨a,b,es,ls,rfl,hA,hB,fa,fb,hl,k⟩:=h
  refine ⟨_,(ag (aF (au (xW rfl) (by rfl) T.any NU (a5 (eK rfl (ay (sc:=aa (top 35)) (N:=["ends","lot"]) (ys:=["lot"]) (ix:=[1]) rfl rfl (by decide +kernel)) (bh (pv 0)) (fun _ _ _ _ _ _=>du) (fun _ _ _ _ _ _=>(i3 (jX (K:=K) rfl) (pv 0) (pv 1) rfl))) a8)))),?_⟩
  refine ⟨_,rfl,a,rfl,⟨_,hA⟩,fun l yA=>comp_map (NY ls) (bO K a es) yA (aD (by omega)) (fun H' s'=>s'.seq hA) (fun x H3 Q' hx s3 q=>?_) (fun H' s' o9=>?_)⟩
  ·exact ⟨_,rfl,_,rfl,b,ls,rfl,.inl (s3.seq hB),List.all_eq_true.mp fa x hx,fb,q H3 (a6.refl _)⟩
  ·have e:es.map (NY ls)=(es.map fun e=>nY e ls).map V.bl:=by rw [List.map_map]; rfl
   rw [e] at o9
   refine ⟨l,_,rfl,aK.of o9,?_⟩
   have:=k H' s'
   rw [List.any_map]
   exact this
theorem ie:az ["moves","lot","left"] ["moves"] (aa (top 36)):=⟨rfl,rfl,rfl,by decide +kernel,rfl,by decide +kernel,by decide +kernel⟩
theorem sO (L:Lk K mg):bD P w K mg base iN 2 L.cU L.gK ["moves"] (Kz K):=by
 have T:=L.T
 refine L.cq.F.ok ie (fun vs H Q E h=>?_) (fun cR A outer s H vs Q E hr h=>?_)
 ·obtain ⟨d,mv,es,rfl,_⟩:=h
  rfl
 ·obtain ⟨d,mv,es,rfl,hd,hl,hm,hf,Mt,k⟩:=h
  have hu:=iX hr
  have Iy:(A.deeper (PyProof.Rows.envOfC "live_among" (aa (top 36)) s.heap.objs.size L.cU cR)).units < cLine:=hr.qc
  refine ⟨_,(a7 (av (i:=1) ie.nd rfl (Or.inr rfl) (eE (Ad rfl) (by rfl) T.list p0 (a5 (pv 0) a8)))
   (ag (qb PassesOwn.never (eI iR) (a7 (mD (i:=2) rfl (ay (sc:=aa (top 36)) (N:=["moves","lot","left"]) (ys:=["moves","lot"]) (ix:=[0,1]) rfl rfl (by decide +kernel)) ie.nd rfl rfl (bh (pv 1)) (fun _ _ _ _ _ _=>jl (eI (aq (sN L) (hr.mono (by decide)) rfl L.cn.g L.cn.F.kp L.cn.b .nil aC (a5 (eE (Ae rfl) (by rfl) T.list p0 (a5 (Hv (K:=K) rfl PySem.F.plainAttrs_dict PySem.F.slot_dict_values PySem.F.type_dict_values CZ (ft hu (pv 1) (pv 0) (fun _ _=>rfl))) a8)) (a5 (pv 2) a8))))) (fun _ _ _ _ _ _=>(pv 0)))
   (a7 (bV (aH (EY Iy) (pv 2) (pv 1) (aS _)) (ag (aF (pv 1))) aP)
   (ag (av (i:=1) ie.nd rfl (Or.inr rfl) (pv 2)))))))),?_⟩
  refine ⟨_,rfl,d,_,rfl,hd,fun l0 AR=>?_⟩
  refine ⟨fun m σ H2=>∃ (l:Addr) (ls:List Str) (v:Option V),m=ls.length∧σ=[some (.ref d),some (.ref l),v]∧a6 H H2∧H l=none∧H2 l=some (.lst (ls.map V.str))∧ls.Sublist (mv.map (·.1)) ∧
   ∀ y9:List Str,(∀ k∈y9,k∈mv.map (·.1)∧kW (es k) y9=true)→∀ k∈y9,k∈ls,
   ⟨_,l0,mv.map (·.1),none,rfl,rfl,a6.upd AR,AR,by rw [a9,jY],List.Sublist.refl _,fun y9 h k hk=>(h k hk).1⟩,?_⟩
  rintro m σ H2 ⟨l,ls,v,rfl,rfl,s2,Mr,h2,jg,G6⟩
  refine ⟨true,rfl,kD ?_⟩
  have vt:ls.length≤1000:=by have:=jg.length_le; rw [List.length_map] at this; omega
  let p:V→Bool:=fun x=>match x with
   | .str k=>kW (es k) ls
   | _=>false
  let Jq:List Str:=ls.filter fun k=>kW (es k) ls
  have U5:(ls.map V.str).filter p=Jq.map V.str:=by
   rw [List.filter_map]
   rfl
  refine ⟨fun σ' H'=>∃ (l':Addr) (v:Option V),σ'=[some (.ref d),some (.ref l'),v]∧a6 H H'∧H l'=none∧H' l'=some (.lst (Jq.map V.str))∧Jq.length < ls.length,?_,?_⟩
  ·rintro σ' H' ⟨l',v,rfl,s',Qj,h',eM⟩
   refine ⟨Jq.length,eM,l',Jq,v,rfl,rfl,s',Qj,h',(List.filter_sublist).trans jg,fun y9 h k hk=>?_⟩
   have ZJ:=G6 y9 h k hk
   exact List.mem_filter.mpr ⟨ZJ,Al (G6 y9 h) (h k hk).2⟩
  ·refine ⟨_,rfl,l,rfl,⟨_,aK.of h2⟩,fun l2 o9=>jI p (fun x=>x) (bO K l (ls.map V.str)) o9 (by rw [List.length_map]; exact aD (by omega)) (fun H' s'=>s'.seq (aK.of h2)) (fun x H3 Q' hx s3 q=>?_) (fun x H3 Q' hx _ s3 q=>⟨_,rfl,q H3 (a6.refl _)⟩) (fun H' s' h'=>?_)⟩
   ·obtain ⟨kx,ZK,rfl⟩:=List.mem_map.mp hx
    obtain ⟨a,ha,A7⟩:=gr (jg.subset ZK)
    have Wx:a6 H H3:=s2.trans s3
    have ZL:=Wx _ _ hd
    have Ri:=Wx _ _ (hm _ ha)
    refine ⟨_,rfl,_,rfl,d,.ref a,rfl,?_,?_⟩
    ·have:=fq.k (k:=(Sum.inr kx:Key)) ZL
     rw [A7] at this
     exact this
    refine ⟨.inr (.inr (.inl ⟨rfl,.inl ⟨_,Ri⟩⟩)),a,_,rfl,rfl,Ri,fun vw Wy=>?_⟩
    refine ⟨vw,a,_,rfl,a9,by rw [ai (aj Ri Wy)]; exact Ri,fun l3 NI=>?_⟩
    have s4:a6 H3 (upd (upd H3 vw (xY vw a)) l3 (.lst ((es kx).map (·.2)))):=(a6.upd Wy).trans (a6.upd NI)
    refine ⟨_,rfl,l3,l,_,_,rfl,aK.of a9,aK.of (s4 _ _ (s3 _ _ h2)),hf kx,gq ls,by rw [List.length_map]; exact Mt kx,fun H5 s5=>⟨_,rfl,?_⟩⟩
    exact q H5 (s4.trans s5)
   ·rw [List.map_id',U5] at h'
    have LZ:=s' _ _ h2
    refine ⟨_,rfl,_,rfl,l2,l,_,_,rfl,rfl,aK.of h',aK.of LZ,gq _,gq _,_,rfl,?_⟩
    rw [ug]
    have U6:H l2=none:=s2.free o9
    by_cases e:Jq=ls
    ·rw [decide_eq_true e]
     refine kD ?_
     refine ⟨_,rfl,k l ls H' (s2.trans s') Mr LZ ⟨jg,fun kk hk=>?_,G6⟩⟩
     have:=e ▸ hk
     exact (List.mem_filter.mp this).2
    ·rw [decide_eq_false e]
     refine fz ?_
     refine ⟨_,rfl,l2,_,rfl,s2.trans s',U6,h',?_⟩
     rcases Nat.lt_or_eq_of_le (List.length_filter_le (fun k=>kW (es k) ls) ls) with z | z
     ·exact z
     ·exact absurd ((List.filter_sublist (p:=fun k=>kW (es k) ls)).eq_of_length z) e
theorem hZ:az ["self","signs","barred","places","place"] ["self","signs","barred"] (aa (inClass (top 37) 0)):=⟨rfl,rfl,rfl,by decide +kernel,rfl,by decide +kernel,by decide +kernel⟩
theorem oO (L:Lk K mg):bD P w K mg base iN 4 L.bA L.eD ["self","signs","barred"] (KC K L.aA):=by
 have T:=L.T
 refine L.iF.F.ok hZ (fun vs H Q E h=>?_) (fun cR A outer s H vs Q E hr h=>?_)
 ·obtain ⟨x,dx,g,a,ws,rfl,_⟩:=h
  rfl
 ·obtain ⟨x,dx,g,a,ws,rfl,hx,hS,sg,hl,hw,k⟩:=h
  have nc:∀ w∈ws,w.length≤5:=fun w h=>(hw w h).hi
  have hu:=iX hr
  refine ⟨_,(a7 (bV (gw (eI (aq (vC L) (hr.mono (by decide)) rfl L.cT.g L.cT.F.kp L.cT.b .nil aC (a5 (pv 1) a8)))) iM aP)
   (a7 (fo (aq (pE L) (hr.mono (by decide)) rfl L.bJ.g L.bJ.F.kp L.bJ.b .nil aC (a5 (pv 2) (a5 (pv 1) a8))))
   (a7 (my (pv 0) (pv 1) rfl)
   (a7 (my (pv 0) (eE gz (by rfl) T.list p0 (a5 (pv 2) a8)) rfl)
   (a7 (my (pv 0) iW rfl)
   (a7 (av (i:=3) hZ.nd rfl (Or.inl rfl) (aq (oM L) (hr.mono (by decide)) rfl L.bz.g L.bz.F.kp L.bz.b .nil aC (a5 (pv 2) a8)))
   (a7 (bH PassesOwn.never rfl (bh (pv 3)) (aG (i:=4) hZ.nd rfl (Or.inl rfl)) (ag (i5 hu (b4 (pv 0) rfl) (pv 4) (aq (sL L) (hr.mono (by decide)) rfl L.cm.g L.cm.F.kp L.cm.b .nil aC (a5 (pv 4) (a5 (pv 1) (a5 (pv 2) (a5 (pv 3) a8))))) rfl)))
   (ag (my (pv 0) (aq (sO L) (hr.mono (by decide)) rfl L.cq.g L.cq.F.kp L.cq.b .nil aC (a5 (b4 (pv 0) rfl) a8)) rfl))))))))),?_⟩
  refine ⟨_,rfl,g,rfl,sg,fun H1 s1=>⟨true,rfl,fz ?_⟩⟩
  refine ⟨_,rfl,_,rfl,a,g,ws,rfl,s1.seq hS,hl,hw,fun H2 s2=>?_⟩
  have E9:a6 H H2:=s1.trans s2
  have HP:=E9 _ _ hx
  refine ⟨_,rfl,_,rfl,x,L.aA,dx,_,rfl,HP,L.aX.cl,L.aX.vy,by decide,?_⟩
  rw [KB]
  have P1:∀ (o:HO) b ob,H b=some ob→b≠x→(upd H2 x o) b=some ob:=fun o b ob e hb=>by rw [ai hb]; exact E9 _ _ e
  have Li:∀ {H':Hp} (h:∀ b o,H b=some o→b≠x→H' b=some o),aK K H' a (ws.map V.str):=fun {H'} h=>by
   have Lj:∀ o,H a=some o→(∀ fs,o≠.ins L.aA dx fs)→a≠x:=fun o e ne z=>by
    subst z
    rw [hx] at e
    exact ne [] (Option.some.inj e).symm
   rcases hS with (e | ⟨o,e⟩) | e
   ·exact .inl (.inl (h _ _ e (Lj _ e (fun _ z=>by cases z))))
   ·exact .inl (.inr ⟨o,h _ _ e (Lj _ e (fun _ z=>by cases z))⟩)
   ·exact .inr e
  refine ⟨_,rfl,a,_,rfl,.inl (Li (P1 _)),fun b hb=>?_⟩
  have G7:x≠b:=aj a9 hb
  have U7:H2 b=none:=by rw [ai G7.symm] at hb; exact hb
  refine ⟨_,rfl,x,L.aA,dx,QC g,rfl,by rw [ai G7,a9],L.aX.cl,L.aX.G4,(show 1 < 1000 by decide),?_⟩
  rw [put2]
  intro d hd
  have Df:x≠d:=aj a9 hd
  have U8:b≠d:=by
   intro z; subst z
   rw [ai G7.symm,a9] at hd
   cases hd
  have Ln:H2 d=none:=by rw [ai Df.symm,ai U8.symm,ai Df.symm] at hd; exact hd
  refine ⟨_,rfl,x,L.aA,dx,QD g b,rfl,by rw [ai Df,a9],L.aX.cl,L.aX.nN,(show 2 < 1000 by decide),?_⟩
  rw [put3]
  generalize P2:upd (upd (upd (upd (upd H2 x (.ins L.aA dx (QC g))) b (.lst (ws.map V.str))) x (.ins L.aA dx (QD g b))) d (.dK [])) x (.ins L.aA dx (KA g b d))=H3
  have x3:H3 x=some (.ins L.aA dx (KA g b d)):=by rw [← P2,a9]
  have d3:H3 d=some (.dK []):=by rw [← P2,ai Df.symm,a9]
  have b3:H3 b=some (.lst (ws.map V.str)):=by rw [← P2,ai G7.symm,ai U8,ai G7.symm,a9]
  have k3:∀ c o,H c=some o→c≠x→H3 c=some o:=fun c o e hc=>by
   have e2:=E9 _ _ e
   rw [← P2,ai hc,ai (aj e2 Ln),ai hc,ai (aj e2 U7),ai hc]
   exact e2
  clear P2
  refine ⟨_,rfl,a,ws,rfl,Li k3,hl,nc,fun l ss H4 s4 Jy h4 hp ZM=>?_⟩
  have M9:ss.Nodup:=hp.nodup_iff.mpr (oZ ws)
  have Iz:ss.length≤25:=by have:=lI (ws:=ws) (e:="") (us:=ws) nc; rw [hp.length_eq]; omega
  have P4:∀ p∈ss,p.length≤5:=fun p vn=>Dd nc p (hp.mem_iff.mp vn)
  have U9:("":Str)∈ss:=hp.mem_iff.mpr (gp ws)
  have Rj:l≠d:=fun z=>by rw [z,d3] at Jy; cases Jy
  have nlx:l≠x:=fun z=>by rw [z,x3] at Jy; cases Jy
  refine ⟨_,rfl,l,rfl,⟨_,aK.of h4⟩,eQ (K:=K) (a:=l) (xs:=ss.map V.str) (fun i σ H5=>∃ v4 mv,σ=[some (.ref x),some (.str g),some (.ref a),some (.ref l),v4]∧H5 d=some (.dK (aY mv))∧mv.map (·.1)=ss.take i∧(∀ m∈mv,H5 m.2=some (.dK (rowOf g ws ss m.1)))∧(∀ m∈mv,H4 m.2=none)∧(∀ c o,H4 c=some o→c≠d→H5 c=some o))
   ⟨none,[],rfl,s4 _ _ d3,rfl,fun m hm=>(nomatch hm),fun m hm=>(nomatch hm),fun c o e _=>e⟩ (fun i σ H5 _ ⟨_,_,_,_,_,_,_,kk⟩=>aK.of (kk _ _ h4 Rj)) ?_ ?_⟩
  ·rintro i y σ H5 hy ⟨v4,mv,rfl,G8,oN,lD,Ao,kk⟩
   obtain ⟨p,Mv,rfl⟩:∃ p,ss[i]?=some p∧y=.str p:=by
    rw [List.getElem?_map] at hy
    cases e:ss[i]? with
    | none=>rw [e] at hy; cases hy
    | some z=>rw [e] at hy; exact ⟨z,rfl,(Option.some.inj hy).symm⟩
   have hi:i < ss.length:=(List.getElem?_eq_some_iff.mp Mv).1
   have vn:p∈ss:=List.mem_of_getElem? Mv
   have k5:∀ c o,H c=some o→c≠x→H5 c=some o:=fun c o e hc=>kk _ _ (s4 _ _ (k3 c o e hc)) (fun z=>by
    subst z
    have:=E9 _ _ e
    rw [Ln] at this; cases this)
   have x5:H5 x=some (.ins L.aA dx (KA g b d)):=kk _ _ (s4 _ _ x3) Df
   refine ⟨_,rfl,_,rfl,_,rfl,_,rfl,p,g,a,l,ws,ss,rfl,Li k5,aK.of (kk _ _ h4 Rj),U9,by have:=P4 p vn; omega,by have:=sg.hi; omega,sg.nd,by omega,fun e H6 s6 IA h6=>?_⟩
   have d6:=s6 _ _ G8
   have vE:p∉mv.map (·.1):=by
    rw [oN]
    intro hm
    obtain ⟨j,hj,ej⟩:=List.mem_iff_getElem.mp hm
    rw [List.getElem_take] at ej
    rw [List.length_take] at hj
    have e1:ss[i]=p:=(List.getElem?_eq_some_iff.mp Mv).2
    have:=(List.getElem_inj M9).mp (ej.trans e1.symm)
    omega
   have P5:mv.length≤25:=by have:=congrArg List.length oN; rw [List.length_map,List.length_take] at this; omega
   refine ⟨_,rfl,x,L.aA,dx,_,_,rfl,s6 _ _ x5,L.aX.cl,L.aX.nN,kX g b d,_,rfl,d,_,rfl,kR.k (k:=Sum.inr p) d6 (by unfold aY; rw [List.length_map]; exact fu (by omega)),?_⟩
   have DH:e≠d:=fun z=>by rw [z,G8] at IA; cases IA
   have e4:H4 e=none:=by
    cases q:H4 e with
    | none=>rfl
    | some o=>
      have:=kk _ _ q DH
      rw [this] at IA; cases IA
   refine ⟨_,mv++[(p,e)],rfl,?_,?_,?_,?_,?_⟩
   ·rw [a9,fM _ (g6 vE)]
    unfold aY
    rw [List.map_append]
    rfl
   ·rw [List.map_append,oN]
    have:ss.take (i + 1)=ss.take i++[p]:=by rw [List.take_add_one,Mv]; rfl
    rw [this]
    rfl
   ·intro m hm
    rcases List.mem_append.mp hm with z | z
    ·have nm:m.2≠d:=fun q=>by
      have:=lD m z
      rw [q,G8] at this
      have:=Ao m z
      rw [q] at this
      rw [s4 _ _ d3] at this
      cases this
     rw [ai nm]
     exact s6 _ _ (lD m z)
    ·have:m=(p,e):=by simpa using z
     subst this
     rw [ai DH]
     exact h6
   ·intro m hm
    rcases List.mem_append.mp hm with z | z
    ·exact Ao m z
    ·have:m=(p,e):=by simpa using z
     subst this
     exact e4
   ·intro c o hc P6
    rw [ai P6]
    exact s6 _ _ (kk c o hc P6)
  ·rintro σ H5 ⟨v4,mv,rfl,G8,oN,lD,Ao,kk⟩
   rw [List.length_map,List.take_length] at oN
   have x5:H5 x=some (.ins L.aA dx (KA g b d)):=kk _ _ (s4 _ _ x3) Df
   have P5:mv.length≤1000:=by have:=congrArg List.length oN; rw [List.length_map] at this; omega
   refine ⟨_,rfl,x,L.aA,dx,_,_,rfl,x5,L.aX.cl,L.aX.nN,kX g b d,d,mv,rowOf g ws ss,rfl,G8,P5,lD,fun kx=>Ak g ws ss kx,fun kx=>by rw [D9]; have:=sg.hi; omega,fun q ls H6 s6 hq h6 lv=>?_⟩
   refine ⟨_,rfl,x,L.aA,dx,_,rfl,s6 _ _ x5,L.aX.cl,L.aX.oK,(show 3 < 1000 by decide),?_⟩
   rw [F7]
   have ZN:q≠x:=fun z=>by rw [z,x5] at hq; cases hq
   have ZO:∀ m∈mv,m.2≠x:=fun m hm z=>by
    have:=lD m hm
    rw [z,x5] at this
    cases this
   refine k ss ls _ ⟨⟨dx,b,d,q,mv,a9,?_,?_,oN,fun m hm=>?_,?_⟩,hp,ZM,oN ▸ lv⟩ fun c o e hc=>?_
   ·rw [ai G7.symm]
    exact s6 _ _ (kk _ _ (s4 _ _ b3) U8)
   ·rw [ai Df.symm]
    exact s6 _ _ G8
   ·rw [ai (ZO m hm)]
    exact s6 _ _ (lD m hm)
   ·rw [ai ZN]
    exact h6
   ·rw [ai hc]
    exact s6 _ _ (kk _ _ (s4 _ _ (k3 c o e hc)) (fun z=>by
     subst z
     have:=E9 _ _ e
     rw [Ln] at this; cases this))
theorem G9:az ["self"] ["self"] (aa (inClass (top 37) 5)):=⟨rfl,rfl,rfl,by decide +kernel,rfl,by decide +kernel,by decide +kernel⟩
theorem vF:az ["self"] ["self"] (aa (inClass (top 37) 6)):=⟨rfl,rfl,rfl,by decide +kernel,rfl,by decide +kernel,by decide +kernel⟩
theorem kh (L:Lk K mg):bD P w K mg base iN 1 L.dF L.iy ["self"] (HG L.aA):=by
 have T:=L.T
 refine L.dH.F.ok vF (fun vs H Q E h=>?_) (fun cR A outer s H vs Q E hr h=>?_)
 ·obtain ⟨x,g,ws,ss,ls,rfl,_⟩:=h
  rfl
 ·obtain ⟨x,g,ws,ss,ls,rfl,B,k⟩:=h
  obtain ⟨⟨dx,b,d,q,mv,h1,h2,h3,h4,h5,h6⟩,_,_,_⟩:=B
  refine ⟨_,(ag (aF (eE gz (by rfl) T.list p0 (a5 (b4 (pv 0) rfl) a8)))),?_⟩
  refine ⟨_,rfl,x,L.aA,dx,_,_,rfl,h1,L.aX.cl,L.aX.oK,uh g b d q,q,_,rfl,.inl (aK.of h6),fun l hl=>?_⟩
  exact k l _ (a6.upd hl) hl a9
theorem lX:az ["self","place"] ["self","place"] (aa (inClass (top 37) 2)):=⟨rfl,rfl,rfl,by decide +kernel,rfl,by decide +kernel,by decide +kernel⟩
theorem lY (L:Lk K mg):bD P w K mg base iN 1 L.bb L.cM ["self","place"] (SX L.aA):=by
 have T:=L.T
 refine L.ee.F.ok lX (fun vs H Q E h=>?_) (fun cR A outer s H vs Q E hr h=>?_)
 ·obtain ⟨x,p,g,ws,ss,ls,rfl,_⟩:=h
  rfl
 ·obtain ⟨x,p,g,ws,ss,ls,rfl,B,hp,k⟩:=h
  obtain ⟨⟨dx,b,d,q,mv,h1,h2,h3,h4,h5,h6⟩,_,_,_⟩:=B
  obtain ⟨a,ha,hv⟩:=gr (mv:=mv) (k:=p) (by rw [h4]; exact hp)
  have hu:=iX hr
  refine ⟨_,(ag (bV (PW.pt (jE (gw (eI (au gk (by rfl) T.Mu D8 (a5 (pv 1) (a5 (lH (v:=.ty "str") (by rfl) T.str Hy rfl) a8))))) (kK (JX (CP hu (pv 1) (b4 (pv 0) rfl)))))) iM aP)),?_⟩
  refine ⟨_,rfl,_,_,_,true,rfl,iT.str p,rfl,true,rfl,fz ?_⟩
  refine ⟨_,rfl,_,rfl,x,L.aA,dx,_,_,rfl,h1,L.aX.cl,L.aX.nN,qF g b d q,d,_,rfl,fq.k (k:=(Sum.inr p:Key)) h3,_,rfl,?_⟩
  rw [hv]
  exact fz k
theorem yG:az ["self","place","sign"] ["self","place","sign"] (aa (inClass (top 37) 8)):=⟨rfl,rfl,rfl,by decide +kernel,rfl,by decide +kernel,by decide +kernel⟩
theorem yH (L:Lk K mg):bD P w K mg base iN 2 L.f9 L.j7 ["self","place","sign"] (O1 L.aA):=by
 have T:=L.T
 refine L.kg.F.ok yG (fun vs H Q E h=>?_) (fun cR A outer s H vs Q E hr h=>?_)
 ·obtain ⟨x,p,c,g,ws,ss,ls,rfl,_⟩:=h
  rfl
 ·obtain ⟨x,p,c,g,ws,ss,ls,rfl,B,hp,hc,k⟩:=h
  obtain ⟨⟨dx,b,d,q,mv,h1,h2,h3,h4,h5,h6⟩,_,_,_⟩:=id B
  obtain ⟨a,ha,hv⟩:=gr (mv:=mv) (k:=p) (by rw [h4]; exact hp)
  have hu:=iX hr
  refine ⟨_,(a7 (fo (uP (pv 0) L.aX.cl L.ee.m (lY L) (hr.mono (by decide)) L.ee.b .nil aC (a5 (pv 1) a8)))
   (ag (aF (ft hu (ft hu (b4 (pv 0) rfl) (pv 1) (fun _ _=>rfl)) (pv 2) (fun _ _=>rfl))))),?_⟩
  refine ⟨_,rfl,x,dx,_,rfl,h1,M4 _ _ _ _ (by decide +kernel) (by decide +kernel) (by decide +kernel) (by decide +kernel),_,rfl,x,p,g,ws,ss,ls,rfl,B,hp,?_⟩
  have e1:=fq.k (k:=(Sum.inr p:Key)) h3
  rw [hv] at e1
  have e2:=fq.k (k:=(Sum.inr (⟨#[c]⟩:Str):Key)) (h5 _ ha)
  rw [HF hc] at e2
  exact ⟨_,rfl,x,L.aA,dx,_,_,rfl,h1,L.aX.cl,L.aX.nN,qF g b d q,_,rfl,d,_,rfl,e1,_,rfl,a,_,rfl,e2,k⟩
theorem yI:az ["thing"] ["thing"] (aa (top 10)):=⟨rfl,rfl,rfl,by decide +kernel,rfl,by decide +kernel,by decide +kernel⟩
theorem pq (L:Lk K mg):bD P w K mg base iN 1 L.g8 L.j5 ["thing"] Fm:=by
 have T:=L.T
 refine L.c9.F.ok yI (fun vs H Q E h=>?_) (fun cR A outer s H vs Q E hr h=>?_)
 ·obtain ⟨i,rfl,_⟩:=h
  rfl
 ·obtain ⟨i,rfl,k⟩:=h
  refine ⟨_,(ag (aF (zP (au gk (by rfl) T.Mu D8 (a5 (pv 0) (a5 (lH (v:=.ty "int") (by rfl) T.int Od rfl) a8))) (zO (JZ (au gk (by rfl) T.Mu D8 (a5 (pv 0) (a5 (lH (v:=.ty "bool") (by rfl) T.bool Oe rfl) a8)))))))),?_⟩
  refine ⟨_,rfl,_,_,_,true,rfl,iT.int i,rfl,true,rfl,kD ?_⟩
  exact ⟨_,rfl,_,_,_,false,rfl,iT.int i,rfl,false,rfl,k⟩
theorem jn:az ["band","wide","rows","step"] ["band","wide"] (aa (top 12)):=⟨rfl,rfl,rfl,by decide +kernel,rfl,by decide +kernel,by decide +kernel⟩
theorem yJ (L:Lk K mg):bD P w K mg base iN 1 L.g9 L.j6 ["band","wide"] (Dl L.aA):=by
 have T:=L.T
 refine L.dM.F.ok jn (fun vs H Q E h=>?_) (fun cR A outer s H vs Q E hr h=>?_)
 ·obtain ⟨x,n,g,ws,ss,ls,rfl,_⟩:=h
  rfl
 ·obtain ⟨x,n,g,ws,ss,ls,rfl,B,yF,hn0,Ua,k⟩:=h
  refine ⟨_,(a7 (av (i:=2) jn.nd rfl (Or.inl rfl) ae)
   (a7 (bH PassesOwn.never rfl (cC rfl T.range (a5 (pv 1) a8)) (aG (i:=3) jn.nd rfl (Or.inl rfl)) (ag (Ej (i:=2) jn.nd rfl (Or.inl rfl) (au bP (by rfl) T.len PySem.boot_len (a5 (b4 (pv 0) rfl) a8)) KW)))
   (ag (aF (pv 2))))),?_⟩
  obtain ⟨⟨dx,b,d,q,mv,h1,h2,h3,h4,h5,h6⟩,_,_,_⟩:=id B
  refine ⟨_,rfl,n,rfl,by omega,by omega,dz (lo:=0) (n:=n.toNat) (fun i σ H2=>H2=H∧∃ v3,σ=[some (.ref x),some (.int n),some (.int ((g.length:Int) ^ i)),v3]) ⟨rfl,none,rfl⟩ ?_ ?_⟩
  ·rintro i σ H2 hi ⟨e2,v3,rfl⟩
   rw [e2]
   refine ⟨_,rfl,_,rfl,x,L.aA,dx,_,_,rfl,h1,L.aX.cl,L.aX.vy,qI g b d q,g,rfl,aD (by omega),_,_,rfl,rfl,.inr ⟨by omega,by omega⟩,rfl,some (.int (0 + (i:Int))),?_⟩
   rw [Int.pow_succ]
   rfl
  ·rintro σ H2 ⟨e2,v3,rfl⟩
   rw [e2]
   exact ⟨_,rfl,k⟩
theorem AU:az ["band","many","wide"] ["band","many","wide"] (aa (top 13)):=⟨rfl,rfl,rfl,by decide +kernel,rfl,by decide +kernel,by decide +kernel⟩
theorem AV (L:Lk K mg):bD P w K mg base iN 2 L.hG L.jS ["band","many","wide"] (ye L.aA):=by
 have T:=L.T
 refine L.fC.F.ok AU (fun vs H Q E h=>?_) (fun cR A outer s H vs Q E hr h=>?_)
 ·obtain ⟨x,many,wide,g,ws,ss,ls,rfl,_⟩:=h
  rfl
 ·obtain ⟨x,many,wide,g,ws,ss,ls,rfl,B,yF,DI,k⟩:=h
  refine ⟨_,(a7 (bV (PW.pt (jE (gw (eI (aq (pq L) (hr.mono (by decide)) rfl L.c9.g L.c9.F.kp L.c9.b .nil aC (a5 (pv 1) a8)))) (jE (aH nh (pv 1) ae (aS _)) (kK (aH m4 (pv 1) ae (aS _)))))) (ag (aF iR)) aP)
   (a7 (bV (PW.pt (jE (gw (eI (aq (pq L) (hr.mono (by decide)) rfl L.c9.g L.c9.F.kp L.c9.b .nil aC (a5 (pv 2) a8)))) (jE (aH nh (pv 2) ae (aS _)) (kK (aH m4 (pv 2) ae (aS _)))))) (ag (aF iR)) aP)
   (ag (aF (i3 N2 (aq (yJ L) (hr.mono (by decide)) rfl L.dM.g L.dM.F.kp L.dM.b .nil aC (a5 (pv 0) (a5 (pv 2) a8))) ae (aS _)))))),?_⟩
  obtain ⟨ha,hb,hc,hd,he⟩:=id DI
  refine ⟨_,rfl,many,rfl,true,rfl,fz ?_⟩
  refine ⟨_,rfl,_,_,rfl,rfl,false,congrArg V.bl (decide_eq_false (by omega)),fz ?_⟩
  refine ⟨_,rfl,_,_,rfl,rfl,false,congrArg V.bl (decide_eq_false (by omega)),fz ?_⟩
  refine ⟨_,rfl,wide,rfl,true,rfl,fz ?_⟩
  refine ⟨_,rfl,_,_,rfl,rfl,false,congrArg V.bl (decide_eq_false (by omega)),fz ?_⟩
  refine ⟨_,rfl,_,_,rfl,rfl,false,congrArg V.bl (decide_eq_false (by omega)),fz ?_⟩
  refine ⟨_,rfl,_,rfl,x,wide,g,ws,ss,ls,rfl,B,yF,by omega,by omega,_,_,rfl,rfl,?_⟩
  show Q (V.bl (decide ((g.length:Int) ^ wide.toNat≤64))) H
  rw [decide_eq_true he]
  exact k
theorem sP:az ["band","many","wide"] ["band","many","wide"] (aa (top 14)):=⟨rfl,rfl,rfl,by decide +kernel,rfl,by decide +kernel,by decide +kernel⟩
theorem mh (L:Lk K mg):bD P w K mg base iN 3 L.dN L.gF ["band","many","wide"] (ye L.aA):=by
 have T:=L.T
 refine L.bu.F.ok sP (fun vs H Q E h=>?_) (fun cR A outer s H vs Q E hr h=>?_)
 ·obtain ⟨x,many,wide,g,ws,ss,ls,rfl,_⟩:=h
  rfl
 ·obtain ⟨x,many,wide,g,ws,ss,ls,rfl,B,yF,DI,k⟩:=h
  refine ⟨_,(a7 (bV (gw (eI (aq (AV L) (hr.mono (by decide)) rfl L.fC.g L.fC.F.kp L.fC.b .nil aC (a5 (pv 0) (a5 (pv 1) (a5 (pv 2) a8)))))) iM aP)
   (ag (aF iR))),?_⟩
  exact ⟨_,rfl,_,rfl,_,rfl,x,many,wide,g,ws,ss,ls,rfl,B,yF,DI,true,rfl,fz k⟩
theorem mL:az ["self","place"] ["self","place"] (aa (inClass (top 37) 3)):=⟨rfl,rfl,rfl,by decide +kernel,rfl,by decide +kernel,by decide +kernel⟩
theorem mM (L:Lk K mg):bD P w K mg base iN 1 L.bj L.cV ["self","place"] (Tz L.aA):=by
 have T:=L.T
 refine L.eL.F.ok mL (fun vs H Q E h=>?_) (fun cR A outer s H vs Q E hr h=>?_)
 ·obtain ⟨x,p,g,ws,ss,ls,rfl,_⟩:=h
  rfl
 ·obtain ⟨x,p,g,ws,ss,ls,rfl,B,hp,k⟩:=h
  obtain ⟨⟨dx,b,d,q,mv,h1,h2,h3,h4,h5,h6⟩,_,_,_⟩:=B
  refine ⟨_,(ag (bV (PW.pt (jE (gw (eI (au gk (by rfl) T.Mu D8 (a5 (pv 1) (a5 (lH (v:=.ty "str") (by rfl) T.str Hy rfl) a8))))) (kK (aH iJ (pv 1) (b4 (pv 0) rfl) rfl)))) iM aP)),?_⟩
  refine ⟨_,rfl,_,_,_,true,rfl,iT.str p,rfl,true,rfl,fz ?_⟩
  refine ⟨_,rfl,_,rfl,x,L.aA,dx,_,_,rfl,h1,L.aX.cl,L.aX.oK,uh g b d q,q,_,rfl,.inl (aK.of h6),rfl,gq _,?_⟩
  have e:nY (.str p) (ls.map V.str)=true:=by rw [kU]; exact decide_eq_true hp
  refine ⟨false,?_,fz k⟩
  show V.bl (!nY (.str p) (ls.map V.str))=V.bl false
  rw [e]
  rfl
theorem dC:az ["band","rows","longer","word","place","sign","end"] ["band","rows"] (aa (top 15)):=⟨rfl,rfl,rfl,by decide +kernel,rfl,by decide +kernel,by decide +kernel⟩
theorem rq (L:Lk K mg):bD P w K mg base iN 3 L.d8 L.fP ["band","rows"] (Fv L.aA):=by
 have T:=L.T
 refine L.bQ.F.ok dC (fun vs H Q E h=>?_) (fun cR A outer s H vs Q E hr h=>?_)
 ·obtain ⟨x,l,rs,qs,g,ws,ss,ls,rfl,_⟩:=h
  rfl
 ·obtain ⟨x,l,rs,qs,g,ws,ss,ls,rfl,B,R,hq,Mw,yF,k⟩:=h
  refine ⟨_,(a7 (av (i:=2) dC.nd rfl (Or.inl rfl) (cQ a8))
   (a7 (bH PassesOwn.never rfl (bh (pv 1)) (kM rfl (bW (aG (i:=3) dC.nd rfl (Or.inl rfl)) (bW (aG (i:=4) dC.nd rfl (Or.inl rfl)) ji))) (ag (bH PassesOwn.never rfl (A8 (b4 (pv 0) rfl)) (aG (i:=5) dC.nd rfl (Or.inl rfl)) (a7 (av (i:=6) dC.nd rfl (Or.inl rfl) (uP (pv 0) L.aX.cl L.kg.m (yH L) (hr.mono (by decide)) L.kg.b .nil aC (a5 (pv 4) (a5 (pv 5) a8))))
   (ag (bV (aH BU (pv 6) q9 (aS _)) (ag (fo (nk PySem.F.plainAttrs_list PySem.F.slot_list_append PySem.F.type_list_append gj (pv 2) (a5 (iU (a5 (aI mw (pv 3) (pv 5)) (a5 (pv 6) a8))) a8)))) aP))))))
   (ag (aF (pv 2))))),?_⟩
  refine ⟨Nat.zero_le _,fun l' yA=>?_⟩
  have s0:a6 H (upd H l' (.lst [])):=a6.upd yA
  refine ⟨_,rfl,l,rfl,⟨_,aK.of (s0 _ _ R.l)⟩,eQ (K:=K) (a:=l) (xs:=rs.map V.ref) (fun i σ H2=>∃ (v3 v4 v5 v6:Option V) (qP:List Addr),σ=[some (.ref x),some (.ref l),some (.ref l'),v3,v4,v5,v6]∧a6 H H2∧bX H2 l' qP (gC g ws ss (qs.take i))) ⟨none,none,none,none,[],rfl,s0,⟨a9,cG.nil _⟩⟩ (fun i σ H2 _ ⟨_,_,_,_,_,_,s2,_⟩=>aK.of (s2 _ _ R.l)) ?_ ?_⟩
  ·rintro i y σ H2 hy ⟨v3,v4,v5,v6,qP,rfl,s2,R2⟩
   rw [List.getElem?_map] at hy
   obtain ⟨r,Wz,rfl⟩:∃ r,rs[i]?=some r∧y=.ref r:=by
    cases q:rs[i]? with
    | none=>rw [q] at hy; cases hy
    | some r=>rw [q] at hy; exact ⟨r,rfl,(Option.some.inj hy).symm⟩
   have Mq:i < qs.length:=by have:=(List.getElem?_eq_some_iff.mp Wz).1; rw [R.len] at this; exact this
   have WB:qs[i]?=some qs[i]:=List.getElem?_eq_getElem Mq
   obtain ⟨FP,nc⟩:=hq qs[i] (List.getElem_mem Mq)
   have hT:=R.t.2 i r (nG qs[i]) Wz (by rw [List.getElem?_map,WB]; rfl)
   have pW:qs.take (i + 1)=qs.take i++[qs[i]]:=by rw [List.take_add_one,WB]; rfl
   have xG:gC g ws ss (qs.take (i + 1))=gC g ws ss (qs.take i)++iZ g ws ss qs[i]:=by
    unfold gC
    rw [pW,List.flatMap_append]
    simp
   have AR:(gC g ws ss (qs.take i)).length≤1000:=by
    have h1:=p6 g ws ss (qs.take i)
    have h2:(qs.take i).length≤100:=by rw [List.length_take]; omega
    exact Nat.le_trans h1 (Nat.mul_le_mul h2 yF)
   generalize qs[i]=q at FP nc hT xG
   obtain ⟨w,p⟩:=q
   generalize gC g ws ss (qs.take i)=M at R2 xG AR
   refine ⟨r,_,rfl,jF.of (s2 _ _ hT),rfl,_,_,rfl,_,_,rfl,rfl,?_⟩
   have B2:=B.same s2
   obtain ⟨⟨dx,b,d,qq,mv,h1,h2,h3,h4,h5,h6⟩,pm,_,_⟩:=id B2
   refine ⟨_,rfl,x,L.aA,dx,_,_,rfl,h1,L.aX.cl,L.aX.vy,qI g b d qq,g,rfl,oj (qo g) (fun j σ H3=>∃ (v5 v6:Option V) (qP:List Addr),σ=[some (.ref x),some (.ref l),some (.ref l'),some (.str w),some (.str p),v5,v6]∧a6 H H3∧bX H3 l' qP (M++((ch g).take j).filterMap fun c=>if bears ws (p++⟨#[c]⟩)=true then none else some (w++⟨#[c]⟩,lend ss (p++⟨#[c]⟩)))) ⟨_,_,qP,rfl,s2,by rw [List.take_zero,List.filterMap_nil,List.append_nil]; exact R2⟩ (fun _ _ _ _ _=>trivial) ?_ ?_⟩
   ·rintro j y σ H3 hy ⟨v5,v6,qP,rfl,s3,R3⟩
    obtain ⟨c,hci,rfl,hj,ZP,NR⟩:=De hy
    have B3:=B.same s3
    obtain ⟨⟨ZQ,_,_,_,_,ZR,_⟩,_⟩:=id B3
    refine ⟨_,rfl,x,ZQ,_,rfl,ZR,M4 _ _ _ _ (by decide +kernel) (by decide +kernel) (by decide +kernel) (by decide +kernel),_,rfl,_,rfl,x,p,c,g,ws,ss,ls,rfl,B3,FP,ZP,?_⟩
    have OT:(M++((ch g).take j).filterMap fun c=>if bears ws (p++⟨#[c]⟩)=true then none else some (w++(⟨#[c]⟩:Str),lend ss (p++(⟨#[c]⟩:Str)))).length≤1010:=by
     have:=List.length_filterMap_le (fun c=>if bears ws (p++⟨#[c]⟩)=true then none else some (w++(⟨#[c]⟩:Str),lend ss (p++(⟨#[c]⟩:Str)))) ((ch g).take j)
     rw [List.length_take,aT] at this
     rw [List.length_append]
     omega
    refine ⟨_,rfl,rfl,_,rfl,?_⟩
    rw [NR,List.filterMap_append,← List.append_assoc]
    generalize (M++((ch g).take j).filterMap fun c=>if bears ws (p++⟨#[c]⟩)=true then none else some (w++(⟨#[c]⟩:Str),lend ss (p++(⟨#[c]⟩:Str))))=M2 at R3 OT
    cases hb:bears ws (p++⟨#[c]⟩) with
    | true=>
      have e:sH ws ss p c=.non:=by unfold sH; rw [hb]; rfl
      rw [e]
      refine fz ⟨_,_,qP,rfl,s3,?_⟩
      have e2:([c].filterMap fun c=>if bears ws (p++⟨#[c]⟩)=true then none else some (w++(⟨#[c]⟩:Str),lend ss (p++(⟨#[c]⟩:Str))))=[]:=by
       rw [List.filterMap_cons,hb]
       rfl
      rw [e2,List.append_nil]
      exact R3
    | false=>
      have e:sH ws ss p c=.str (lend ss (p++⟨#[c]⟩)):=by unfold sH; rw [hb]; rfl
      rw [e]
      have e2:([c].filterMap fun c=>if bears ws (p++⟨#[c]⟩)=true then none else some (w++(⟨#[c]⟩:Str),lend ss (p++(⟨#[c]⟩:Str))))=[(w++⟨#[c]⟩,lend ss (p++⟨#[c]⟩))]:=by
       rw [List.filterMap_cons,hb]
       rfl
      rw [e2]
      have vD:=R3.len
      have ZS:w.length≤100:=nc
      refine kD ⟨_,rfl,.inl ⟨rfl,_,aK.of R3.l⟩,_,rfl,_,rfl,_,_,rfl,rfl,aD (by show w.length + 1≤_; omega),_,rfl,by show 2≤sizeLine; decide,fun r' DB=>?_⟩
      refine ⟨l',_,_,rfl,rfl,a6.upd DB _ _ R3.l,by rw [List.length_map,vD]; exact Nat.lt_of_le_of_lt OT (by rw [sizeLine_eq]; decide),?_⟩
      have key:=R3.push DB (w++⟨#[c]⟩,lend ss (p++⟨#[c]⟩))
      have sk:a6 H (upd (upd H3 r' (.tup [.str (w++⟨#[c]⟩),.str (lend ss (p++⟨#[c]⟩))])) l' (.lst (qP.map V.ref++[.ref r']))):=fun a o ea=>by
       rw [ai (aj ea yA)]
       exact a6.upd DB _ _ (s3 _ _ ea)
      unfold nG at key
      generalize lend ss (p++⟨#[c]⟩)=le at key sk ⊢
      refine ⟨some (.str ⟨#[c]⟩),some (.str le),qP++[r'],?_,?_,?_⟩
      ·rfl
      ·exact sk
      ·exact key
   ·rintro σ H3 ⟨v5,v6,qP,rfl,s3,R3⟩
    refine ⟨_,_,_,_,qP,rfl,s3,?_⟩
    have:(fI g).length=(ch g).length:=by unfold fI; rw [List.length_map]
    rw [this,List.take_length] at R3
    rw [xG]
    exact R3
  ·rintro σ H2 ⟨v3,v4,v5,v6,qP,rfl,s2,R2⟩
   rw [List.length_map,R.len,List.take_length] at R2
   exact ⟨_,rfl,k l' qP H2 s2 yA R2⟩
theorem fk:az ["band","place","wide","rows","step","live"] ["band","place","wide"] (aa (top 16)):=⟨rfl,rfl,rfl,by decide +kernel,rfl,by decide +kernel,by decide +kernel⟩
theorem jd (L:Lk K mg):bD P w K mg base iN 4 L.d9 L.fQ ["band","place","wide"] (Fw L.aA):=by
 have T:=L.T
 refine L.aR.F.ok fk (fun vs H Q E h=>?_) (fun cR A outer s H vs Q E hr h=>?_)
 ·obtain ⟨x,p,n,g,ws,ss,ls,rfl,_⟩:=h
  rfl
 ·obtain ⟨x,p,n,g,ws,ss,ls,rfl,B,hp,Ga,hn,Jz,yF,k⟩:=h
  refine ⟨_,(a7 (fo (uP (pv 0) L.aX.cl L.eL.m (mM L) (hr.mono (by decide)) L.eL.b .nil aC (a5 (pv 1) a8)))
   (a7 (av (i:=3) fk.nd rfl (Or.inl rfl) (cQ (a5 (iU (a5 jr (a5 (pv 1) a8))) a8)))
   (a7 (bH PassesOwn.never rfl (cC rfl T.range (a5 (pv 2) a8)) (aG (i:=4) fk.nd rfl (Or.inl rfl)) (ag (av (i:=3) fk.nd rfl (Or.inl rfl) (aq (rq L) (hr.mono (by decide)) rfl L.bQ.g L.bQ.F.kp L.bQ.b .nil aC (a5 (pv 0) (a5 (pv 3) a8))))))
   (a7 (av (i:=5) fk.nd rfl (Or.inr rfl) (qe (pv 0) L.aX.cl L.dH.m (kh L) (hr.mono (by decide)) L.dH.b .nil aC))
   (ag (aF (lj rfl (ay (sc:=aa (top 16)) (N:=["band","place","wide","rows","step","live"]) (ys:=["live"]) (ix:=[5]) rfl rfl (by decide +kernel)) (ay (sc:=aa (top 16)) (N:=["band","place","wide","rows","step","live"]) (ys:=["live"]) (ix:=[5]) rfl rfl (by decide +kernel)) (by decide) (bh (pv 3)) (fun _ _ _ _ _ _=>jl (aH (jX (K:=K) rfl) (pv 1) (pv 2) rfl)) (fun _ _ _ _ _ _=>(iU (a5 (pv 0) (a5 (pv 1) a8))))))))))),?_⟩
  have he:("":Str)∈ss:=B.pm.mem_iff.mpr (gp ws)
  have FP:p∈ss:=B.lv.sub.subset hp
  obtain ⟨⟨dx,b,d,q,mv,h1,h2,h3,h4,h5,h6⟩,pm,_,_⟩:=id B
  refine ⟨_,rfl,x,dx,_,rfl,h1,M4 _ _ _ _ (by decide +kernel) (by decide +kernel) (by decide +kernel) (by decide +kernel),_,rfl,x,p,g,ws,ss,ls,rfl,B,hp,?_⟩
  refine ⟨_,rfl,by show 2≤sizeLine; decide,fun r0 ZT=>⟨by show 1≤sizeLine; decide,fun l0 AR=>?_⟩⟩
  have R0:bX (upd (upd H r0 (.tup [.str "",.str p])) l0 (.lst [.ref r0])) l0 [r0] (lq g ws ss p 0):=by
   refine ⟨a9,rfl,fun i r xs h1 h2=>?_⟩
   match i,h1,h2 with
   | 0,h1,h2=>
     cases h1
     cases h2
     exact a6.upd AR _ _ a9
  have s0:a6 H (upd (upd H r0 (.tup [.str "",.str p])) l0 (.lst [.ref r0])):=(a6.upd ZT).trans (a6.upd AR)
  refine ⟨_,rfl,(n:Int),rfl,by omega,by omega,?_⟩
  rw [Int.toNat_natCast]
  refine dz (lo:=0) (n:=n) (fun i σ H2=>∃ (l:Addr) (rs:List Addr) (v4:Option V),σ=[some (.ref x),some (.str p),some (.int (n:Int)),some (.ref l),v4,none]∧a6 H H2∧bX H2 l rs (lq g ws ss p i)) ⟨l0,[r0],none,rfl,s0,R0⟩ ?_ ?_
  ·rintro i σ H2 hi ⟨l,rs,v4,rfl,s2,R2⟩
   have hlen:(lq g ws ss p i).length≤100:=Nat.le_trans (nF g ws ss p i) (Nat.le_trans (Nat.pow_le_pow_right (by omega) (by omega)) Ga)
   refine ⟨_,rfl,_,rfl,x,l,rs,_,g,ws,ss,ls,rfl,B.same s2,R2,fun r hr=>?_,hlen,yF,fun l' qP H3 s3 f3 R3=>⟨l',qP,_,rfl,s2.trans s3,R3⟩⟩
   obtain ⟨a1,a2⟩:=yi he FP i r hr
   exact ⟨a1,by omega⟩
  ·rintro σ H2 ⟨l,rs,v4,rfl,s2,R2⟩
   have B2:=B.same s2
   obtain ⟨⟨ZU,_,_,_,_,HP,_⟩,_⟩:=id B2
   refine ⟨_,rfl,x,ZU,_,rfl,HP,M4 _ _ _ _ (by decide +kernel) (by decide +kernel) (by decide +kernel) (by decide +kernel),x,g,ws,ss,ls,rfl,B2,fun lv H3 s3 f3 ZV=>?_⟩
   have R3:=R2.same s3
   have hlen:(lq g ws ss p n).length≤100:=Nat.le_trans (nF g ws ss p n) Ga
   have vD:=R3.len
   refine ⟨_,rfl,l,rfl,⟨_,aK.of R3.l⟩,fun lr WC=>?_⟩
   refine Ds (prs:=(lq g ws ss p n).map nH) (fun q=>nY q.2 (ls.map V.str)) nD (bO K l (rs.map V.ref)) (by rw [Ca]; exact R3.t) WC (aD (by omega)) (fun H' s'=>aK.of (s' _ _ R3.l)) (fun qv H4 Q' hq s4 qq=>?_) (fun qv H4 Q' hq _ s4 qq=>?_) (fun ys H4 s4 ZW t4=>?_)
   ·obtain ⟨q',_,rfl⟩:=List.mem_map.mp hq
    exact ⟨_,rfl,_,rfl,lv,_,rfl,.inl (aK.of (s4 _ _ ZV)),rfl,gq _,_,rfl,qq H4 (a6.refl _)⟩
   ·exact ⟨_,rfl,_,rfl,by show 2≤sizeLine; decide,fun r' DB=>qq r' _ (a6.upd DB) a9⟩
   ·rw [yj] at t4
    exact k lr ys H4 ((s2.trans s3).trans s4) (none_of (s2.trans s3) WC) ⟨ZW,t4⟩
theorem pF:az ["line"] ["line"] (aa (top 18)):=⟨rfl,rfl,rfl,by decide +kernel,rfl,by decide +kernel,by decide +kernel⟩
theorem pG (L:Lk K mg):bD P w K mg base iN 1 L.cH L.eV ["line"] (FV K):=by
 have T:=L.T
 refine L.bI.F.ok pF (fun vs H Q E h=>?_) (fun cR A outer s H vs Q E hr h=>?_)
 ·obtain ⟨v,qs,rfl,_⟩:=h
  rfl
 ·obtain ⟨v,qs,rfl,hL,hn,k⟩:=h
  refine ⟨_,(ag (aF (lj rfl (ay (sc:=aa (top 18)) (N:=["line"]) (ys:=[]) (ix:=[]) rfl rfl (by decide +kernel)) (ay (sc:=aa (top 18)) (N:=["line"]) (ys:=[]) (ix:=[]) rfl rfl (by decide +kernel)) (by decide) (bh (pv 0)) (fun _ _ _ _ _ _=>du) (fun _ _ _ _ _ _=>(iU (a5 (pv 0) (a5 (pv 1) a8))))))),?_⟩
  obtain ⟨a,xs,rfl,hS,hlen,hT⟩:=qX hL
  have Mr:=hlen
  rw [List.length_map] at Mr
  refine ⟨_,rfl,a,rfl,⟨_,hS⟩,fun l hl=>?_⟩
  refine uD (prs:=qs.map lz) (fun _=>true) (fun q=>.tup [.at q.1,.at q.2]) (bO K a xs) hlen (fun i q hq=>let ⟨r,h1,h2⟩:=hT i q hq; ⟨r,h1,jF.of h2⟩) hl (aD (by omega)) (fun H' s'=>s'.seq hS) (fun q H3 Q' _ _ qq=>qq H3 (a6.refl _)) (fun q H3 Q' hq _ s3 qq=>?_) (fun H' s' r=>?_)
  ·obtain ⟨z,hz,rfl⟩:=List.mem_map.mp hq
   exact ⟨_,rfl,_,rfl,by show 2≤sizeLine; decide,fun r hr=>qq _ _ (a6.upd hr) (yx hr z)⟩
  ·rw [List.filter_eq_self.mpr (fun _ _=>rfl),List.map_map] at r
   exact k _ H' s' r
theorem nQ:az ["self","homes","weights","lines"] ["self","homes","weights","lines"] (aa (inClass (top 19) 0)):=⟨rfl,rfl,rfl,by decide +kernel,rfl,by decide +kernel,by decide +kernel⟩
theorem jo (L:Lk K mg):bD P w K mg base iN 2 L.bf L.dA ["self","homes","weights","lines"] (FW K L.ao):=by
 have T:=L.T
 refine L.fF.F.ok nQ (fun vs H Q E h=>?_) (fun cR A outer s H vs Q E hr h=>?_)
 ·obtain ⟨x,dx,u,v,w,hs,ws,lns,rfl,_⟩:=h
  rfl
 ·obtain ⟨x,dx,u,v,w,hs,ws,lns,rfl,hx,P7,ZX,Ub,n1,n2,n3,n4,k⟩:=h
  refine ⟨_,(a7 (my (pv 0) (eE gz (by rfl) T.list p0 (a5 (pv 1) a8)) rfl)
   (a7 (my (pv 0) (eE gz (by rfl) T.list p0 (a5 (pv 2) a8)) rfl)
   (ag (my (pv 0) (eK rfl (ay (sc:=aa (inClass (top 19) 0)) (N:=["self","homes","weights","lines"]) (ys:=[]) (ix:=[]) rfl rfl (by decide +kernel)) (bh (pv 3)) (fun _ _ _ _ _ _=>du) (fun _ _ _ _ _ _=>(aq (pG L) (hr.mono (by decide)) rfl L.bI.g L.bI.F.kp L.bI.b .nil aC (a5 (pv 0) a8)))) rfl)))),?_⟩
  obtain ⟨a,rfl,ha⟩:=FT P7
  obtain ⟨b,rfl,hb⟩:=yw ZX
  obtain ⟨c,xs,rfl,hc,ip⟩:=Ub
  have xl:xs.length=lns.length:=by rw [ip.len,List.length_map]
  have Lp:∀ {d:Addr} {ys:List V} {H':Hp},aK K H d ys→(∀ b o,H b=some o→b≠x→H' b=some o)→aK K H' d ys:=fun hS kp=>(Ch kp).seq (Ik hx hS)
  refine ⟨_,rfl,a,_,rfl,.inl ha,fun a' Uc=>?_⟩
  have Lj:x≠a':=aj hx Uc
  refine ⟨_,rfl,x,L.ao,dx,[],rfl,by rw [ai Lj]; exact hx,L.ak.cl,L.ak.ia,(show 0 < 1000 by decide),?_⟩
  rw [Jw]
  have k1:∀ d o,H d=some o→d≠x→(upd (upd H a' (.lst (hs.map V.str))) x (.ins L.ao dx (pd a'))) d=some o:=fun d o e hd=>by rw [ai hd]; exact a6.upd Uc _ _ e
  have x1:(upd (upd H a' (.lst (hs.map V.str))) x (.ins L.ao dx (pd a'))) x=some (.ins L.ao dx (pd a')):=a9
  have a1:(upd (upd H a' (.lst (hs.map V.str))) x (.ins L.ao dx (pd a'))) a'=some (.lst (hs.map V.str)):=by rw [ai Lj.symm,a9]
  generalize upd (upd H a' (.lst (hs.map V.str))) x (.ins L.ao dx (pd a'))=H1 at k1 x1 a1 ⊢
  refine ⟨_,rfl,b,_,rfl,.inl (Lp hb k1),fun b' E6=>?_⟩
  have G7:x≠b':=aj x1 E6
  have ZY:a'≠b':=aj a1 E6
  have ZZ:H b'=none:=by
   cases q:H b' with
   | none=>rfl
   | some o=>have:=k1 _ _ q G7.symm; rw [E6] at this; cases this
  refine ⟨_,rfl,x,L.ao,dx,pd a',rfl,by rw [ai G7]; exact x1,L.ak.cl,L.ak.cD,(show 1 < 1000 by decide),?_⟩
  rw [FU]
  have k2:∀ d o,H d=some o→d≠x→(upd (upd H1 b' (.lst (ws.map V.int))) x (.ins L.ao dx (nJ a' b'))) d=some o:=fun d o e hd=>by rw [ai hd]; exact a6.upd E6 _ _ (k1 _ _ e hd)
  have x2:(upd (upd H1 b' (.lst (ws.map V.int))) x (.ins L.ao dx (nJ a' b'))) x=some (.ins L.ao dx (nJ a' b')):=a9
  have a2:(upd (upd H1 b' (.lst (ws.map V.int))) x (.ins L.ao dx (nJ a' b'))) a'=some (.lst (hs.map V.str)):=by rw [ai Lj.symm,ai ZY]; exact a1
  have b2:(upd (upd H1 b' (.lst (ws.map V.int))) x (.ins L.ao dx (nJ a' b'))) b'=some (.lst (ws.map V.int)):=by rw [ai G7.symm,a9]
  generalize upd (upd H1 b' (.lst (ws.map V.int))) x (.ins L.ao dx (nJ a' b'))=H2 at k2 x2 a2 b2 ⊢
  have Ud:=bF.same (Ch k2) _ _ (bF.off hx _ _ ip)
  refine ⟨_,rfl,c,rfl,⟨_,Lp (.inl hc) k2⟩,fun c' Cu=>?_⟩
  refine yr (K:=K) (lns.map dE) (bO K c xs) Cu (aD (by omega)) (by rw [List.length_map,xl]) (fun H' s'=>s'.seq (Lp (.inl hc) k2)) (fun i y d H3 Q' hy hd s3 qq=>?_) (fun H3 s3 r3=>?_)
  ·obtain ⟨d',e',r⟩:=Ud.get i y hy
   rw [hd] at e'
   cases e'
   rw [List.getElem?_map] at hd
   cases e:lns[i]? with
   | none=>rw [e] at hd; cases hd
   | some qs=>
     rw [e] at hd
     cases hd
     exact ⟨_,rfl,y,qs,rfl,eO.same s3 _ _ r,n4 qs (List.mem_of_getElem? e),fun z H4 s4 r4=>qq z H4 s4 r4⟩
  ·have ncx:x≠c':=aj x2 Cu
   refine ⟨_,rfl,x,L.ao,dx,nJ a' b',rfl,s3 _ _ x2,L.ak.cl,L.ak.fW,(show 2 < 1000 by decide),?_⟩
   rw [Ci]
   have up:a6 (bp H H3) (bp H (upd H3 x (.ins L.ao dx (AB a' b' c')))):=eU hx fun d o e hd=>by rw [ai hd]; exact e
   have old:a6 (bp H2 H3) (bp H H3):=fun d o e=>by
    unfold bp at e ⊢
    cases q:H d with
    | none=>
      cases q2:H2 d with
      | none=>rw [q2] at e; exact e
      | some z=>rw [q2] at e; cases e
    | some z=>
      by_cases hd:d=x
      ·rw [hd,x2] at e; cases e
      ·rw [k2 _ _ q hd] at e; cases e
   refine k a' b' c' _ a9 ?_ ?_ (eO.same (old.trans up) _ _ r3) fun d o e hd=>by rw [ai hd]; exact s3 _ _ (k2 _ _ e hd)
   ·exact qV ((fN Uc (by rw [ai Lj.symm]; exact s3 _ _ a2)))
   ·exact qW ((fN ZZ (by rw [ai G7.symm]; exact s3 _ _ b2)))
theorem pH:az ["number","things"] ["number","things"] (aa (top 21)):=⟨rfl,rfl,rfl,by decide +kernel,rfl,by decide +kernel,by decide +kernel⟩
theorem kA (L:Lk K mg):bD P w K mg base iN 1 L.cI L.eW ["number","things"] (Io K):=by
 have T:=L.T
 refine L.aZ.F.ok pH (fun vs H Q E h=>?_) (fun cR A outer s H vs Q E hr h=>?_)
 ·obtain ⟨i,a,xs,rfl,_⟩:=h
  rfl
 ·obtain ⟨i,a,xs,rfl,hS,k⟩:=h
  refine ⟨_,(ag (aF (zP (i3 N3 (pv 0) ae (aS _)) (zO (i3 nh (pv 0) (au aW (by rfl) T.len PySem.boot_len (a5 (pv 1) a8)) (aS _)))))),?_⟩
  by_cases h0:0≤i
  ·have e:fO i xs.length=decide (i < (xs.length:Int)):=by unfold fO; rw [decide_eq_true h0,Bool.true_and]
   rw [e] at k
   exact ⟨_,rfl,_,_,rfl,rfl,true,congrArg V.bl (decide_eq_true h0),kD ⟨_,rfl,_,rfl,a,xs,rfl,.inl hS,_,_,rfl,rfl,k⟩⟩
  ·have e:fO i xs.length=false:=by unfold fO; rw [decide_eq_false h0,Bool.false_and]
   rw [e] at k
   exact ⟨_,rfl,_,_,rfl,rfl,false,congrArg V.bl (decide_eq_false h0),fz k⟩
theorem sQ:az ["sheet","many","steps","weight"] ["sheet","many","steps","weight"] (aa (top 22)):=⟨rfl,rfl,rfl,by decide +kernel,rfl,by decide +kernel,by decide +kernel⟩
theorem mi (L:Lk K mg):bD P w K mg base (Gx P w) 1 L.dO L.gG ["sheet","many","steps","weight"] (Lh K L.ao L.bg):=by
 have T:=L.T
 refine L.bx.F.VR sQ (fun vs H Q E h=>?_) (fun cR A outer s H vs Q E hr h=>?_)
 ·obtain ⟨x,many,v,w,hs,ws,lns,qs,rfl,_⟩:=h
  rfl
 ·obtain ⟨x,many,v,w,hs,ws,lns,qs,rfl,S,hL,Mw,Gz,m0,m1,k⟩:=h
  refine ⟨_,(a7 (bV (aH m3 (au aW (by rfl) T.len PySem.boot_len (a5 (pv 2) a8)) ae (aS _)) (ag (jL iY rfl L.iQ L.dn rfl L.iP (a5 jr a8))) aP)
   (a7 (bV (aH nh (pv 3) ae (aS _)) (ag (jL iY rfl L.iQ L.dn rfl L.iP (a5 jr a8))) aP)
   (ag (bV (aH nh (au (kZ rfl) (by rfl) T.sum Fe (a5 (lj rfl (ay (sc:=aa (top 22)) (N:=["sheet","many","steps","weight"]) (ys:=["sheet"]) (ix:=[0]) rfl rfl (by decide +kernel)) (ay (sc:=aa (top 22)) (N:=["sheet","many","steps","weight"]) (ys:=["sheet"]) (ix:=[0]) rfl rfl (by decide +kernel)) (by decide) (bh (pv 2)) (fun _ _ _ _ _ _=>du) (fun _ _ _ _ _ _=>(cz (y4 (K:=K) rfl) (C4 (K:=K) rfl (pv 2) rfl) (pv 1) (fun _ _=>rfl)))) a8)) (aI js (pv 1) (pv 3)) (aS _)) (ag (jL iY rfl L.iQ L.dn rfl L.iP (a5 jr a8))) aP)))),?_⟩
  obtain ⟨dx,ah,bw,cl,hx,rh,qf,rl⟩:=id S
  obtain ⟨bw',eb,hb⟩:=yw qf
  cases eb
  obtain ⟨a,rs,rfl,hS,hT⟩:=jR hL
  have vD:rs.length=qs.length:=by rw [hT.1,List.length_map,List.length_map]
  have no:fJ ws many qs w=false→∀ H',a6 H H'→E (.ref L.bg) none H':=fun h=>by
   rcases k with ⟨k1,_⟩ | ⟨_,k2⟩
   ·rw [h] at k1; cases k1
   ·exact k2
  by_cases q0:qs=[]
  ·subst q0
   have r0:rs=[]:=List.eq_nil_of_length_eq_zero vD
   subst r0
   exact ⟨_,rfl,a,_,rfl,.inl hS,rfl,true,KQ _,kD ⟨rfl,no rfl H (a6.refl _)⟩⟩
  have Ue:rs.length≠0:=by rw [vD]; exact fun z=>q0 (List.eq_nil_of_length_eq_zero z)
  have Ug:qs.isEmpty=false:=by cases qs with | nil=>exact absurd rfl q0 | cons _ _=>rfl
  refine ⟨_,rfl,a,_,rfl,.inl hS,rfl,false,congrArg V.bl (decide_eq_false fun z=>by have:=V.int.inj z; rw [List.length_map] at this; omega),fz ?_⟩
  by_cases w1:w < 1
  ·refine ⟨_,rfl,_,_,rfl,rfl,true,congrArg V.bl (decide_eq_true w1),kD ⟨rfl,no ?_ H (a6.refl _)⟩⟩
   unfold fJ
   rw [decide_eq_false (show ¬ 1≤w by omega),Bool.false_and,Bool.and_false]
  refine ⟨_,rfl,_,_,rfl,rfl,false,congrArg V.bl (decide_eq_false w1),fz ?_⟩
  refine ⟨_,rfl,a,rfl,⟨_,hS⟩,fun lc Ck=>?_⟩
  refine qM (prs:=qs.map lz) (fun _=>true) (fun q=>match q.2 with | .int e=>.int (ws.getD e.toNat 0) | _=>.non) (bO K a (rs.map V.ref)) hT Ck (aD (by omega)) (fun H' s'=>s'.seq hS) (fun q H7 Q' _ _ qq=>qq H7 (a6.refl _)) (fun q H7 Q' hq _ s7 qq=>?_) (fun H7 s7 h7=>?_)
  ·obtain ⟨q',CH,rfl⟩:=List.mem_map.mp hq
   have eM:=Gz q' CH
   have xx:pA (ws.map V.int) (q'.2:Int)=some (.int (ws.getD q'.2 0)):=bZ (by rw [List.getElem?_map,List.getElem?_eq_getElem eM,List.getD_eq_getElem?_getD,List.getElem?_eq_getElem eM]; rfl)
   have q2:Q' (.int (ws.getD q'.2 0)) H7:=by
    have:=qq H7 (a6.refl _)
    rwa [show (lz q').2=.int (q'.2:Int) from rfl] at this
   exact ⟨_,rfl,x,L.ao,dx,_,_,rfl,s7 _ _ hx,L.ak.cl,L.ak.cD,bc ah bw cl,_,rfl,bw,_,_,_,rfl,rfl,s7.seq hb,xx,q2⟩
  have e7:((qs.map lz).filter fun _=>true).map (fun q=>match q.2 with | .int e=>V.int (ws.getD e.toNat 0) | _=>.non)=(qs.map fun q=>ws.getD q.2 0).map V.int:=by
   rw [List.filter_eq_self.mpr (fun _ _=>rfl),List.map_map,List.map_map]
   rfl
  rw [e7] at h7
  refine ⟨lc,_,rfl,aK.of h7,_,rfl,_,rfl,_,_,rfl,rfl,.inl ⟨by omega,by omega⟩,_,_,rfl,rfl,?_⟩
  by_cases zF:aN ws qs < many * w
  ·refine ⟨true,congrArg V.bl (decide_eq_true zF),kD ⟨rfl,no ?_ H7 s7⟩⟩
   unfold fJ
   rw [decide_eq_false (show ¬ many * w≤aN ws qs by omega),Bool.and_false,Bool.and_false]
  ·refine ⟨false,congrArg V.bl (decide_eq_false zF),fz ?_⟩
   rcases k with ⟨_,k1⟩ | ⟨k2,_⟩
   ·exact k1 H7 s7
   ·unfold fJ at k2
    rw [Ug,decide_eq_true (show 1≤w by omega),decide_eq_true (show many * w≤aN ws qs by omega)] at k2
    cases k2
theorem ig:az ["line","desk","twin","steps","word","end"] ["line","desk","twin"] (aa (top 23)):=⟨rfl,rfl,rfl,by decide +kernel,rfl,by decide +kernel,by decide +kernel⟩
theorem sR (L:Lk K mg):bD P w K mg base iN 1 L.dP L.gH ["line","desk","twin"] (Ip K):=by
 have T:=L.T
 refine L.ck.F.ok ig (fun vs H Q E h=>?_) (fun cR A outer s H vs Q E hr h=>?_)
 ·obtain ⟨v,d,t,qs,rfl,_⟩:=h
  rfl
 ·obtain ⟨v,d,t,qs,rfl,hL,Mw,k⟩:=h
  refine ⟨_,(a7 (av (i:=3) ig.nd rfl (Or.inl rfl) (cQ a8))
   (a7 (bH PassesOwn.never rfl (bh (pv 0)) (kM rfl (bW (aG (i:=4) ig.nd rfl (Or.inl rfl)) (bW (aG (i:=5) ig.nd rfl (Or.inl rfl)) ji))) (a7 (fo (nk PySem.F.plainAttrs_list PySem.F.slot_list_append PySem.F.type_list_append gj (pv 3) (a5 (iU (a5 (pv 4) (a5 (pv 5) a8))) a8)))
   (ag (bV (aH m3 (pv 5) (pv 1) (aS _)) (ag (fo (nk PySem.F.plainAttrs_list PySem.F.slot_list_append PySem.F.type_list_append gj (pv 3) (a5 (iU (a5 (pv 4) (a5 (pv 2) a8))) a8)))) aP))))
   (ag (aF (pv 3))))),?_⟩
  obtain ⟨a,rs,rfl,hS,hT⟩:=jR hL
  have vD:rs.length=qs.length:=by rw [hT.1,List.length_map,List.length_map]
  refine ⟨Nat.zero_le _,fun ll vt=>?_⟩
  have sb:a6 H (upd H ll (.lst [])):=a6.upd vt
  have DJ:(upd H ll (.lst [])) ll=some (.lst []):=a9
  generalize upd H ll (.lst [])=Hb at sb DJ
  have keep:∀ {H3:Hp},(∀ c o,Hb c=some o→c≠ll→H3 c=some o)→a6 H H3:=fun kk c o e=>kk _ _ (sb _ _ e) (aj e vt)
  refine ⟨_,rfl,a,rfl,⟨_,sb.seq hS⟩,eQ (K:=K) (a:=a) (xs:=rs.map V.ref) (fun j σ H3=>∃ (v4 v5:Option V) (as:List V),σ=[some (.ref a),some (.int (d:Int)),some (.int (t:Int)),some (.ref ll),v4,v5]∧H3 ll=some (.lst as)∧(∀ c o,Hb c=some o→c≠ll→H3 c=some o)∧bF K (bp Hb H3) ((gD d t (qs.take j)).map ky) as)
   ⟨none,none,[],rfl,DJ,fun c o e _=>e,rfl⟩ (fun j σ H3 _ ⟨_,_,_,_,_,kk,_⟩=>(keep kk).seq hS) ?_ ?_⟩
  ·rintro j y σ H3 hy ⟨v4,v5,as,rfl,GB,kk,hR⟩
   have hj:j < rs.length:=by have:=(List.getElem?_eq_some_iff.mp hy).1; rwa [List.length_map] at this
   have Lq:j < qs.length:=by omega
   rw [List.getElem?_map,List.getElem?_eq_getElem hj] at hy
   cases hy
   have Lr:H rs[j]=some (.tup [.str qs[j].1,.int (qs[j].2:Int)]):=hT.2 j rs[j] (nD (lz qs[j])) (List.getElem?_eq_getElem hj) (by rw [List.getElem?_map,List.getElem?_map,List.getElem?_eq_getElem Lq]; rfl)
   have pW:qs.take (j + 1)=qs.take j++[qs[j]]:=by rw [List.take_add_one,List.getElem?_eq_getElem Lq]; rfl
   have JA:as.length≤2 * j:=by
    rw [hR.len,List.length_map]
    exact Nat.le_trans (oH d t _) (Nat.mul_le_mul_left 2 (by rw [List.length_take]; omega))
   generalize qs[j]=q at Lr pW
   refine ⟨rs[j],_,rfl,jF.of (keep kk _ _ Lr),rfl,_,_,rfl,_,_,rfl,rfl,?_⟩
   refine ⟨_,rfl,.inl ⟨rfl,_,aK.of GB⟩,_,rfl,_,rfl,by show 2≤sizeLine; decide,fun r hr=>?_⟩
   have P8:∀ n:Nat,n≤20000→n < sizeLine:=fun n hn=>Nat.lt_of_le_of_lt hn (by rw [sizeLine_eq]; decide)
   have h3r:=a6.upd (o:=.tup [.str q.1,.int (q.2:Int)]) hr _ _ GB
   refine ⟨ll,_,_,rfl,rfl,h3r,P8 _ (by omega),?_⟩
   have WD:∀ c o,(upd H3 r (.tup [.str q.1,.int (q.2:Int)])) c=some o→c≠ll→(upd (upd H3 r (.tup [.str q.1,.int (q.2:Int)])) ll (.lst (as++[.ref r]))) c=some o:=fun c o e hc=>by rw [ai hc]; exact e
   have Rk:∀ c o,Hb c=some o→c≠ll→(upd (upd H3 r (.tup [.str q.1,.int (q.2:Int)])) ll (.lst (as++[.ref r]))) c=some o:=fun c o e hc=>WD _ _ (a6.upd hr _ _ (kk c o e hc)) hc
   have r0:Hb r=none:=by
    cases z:Hb r with
    | none=>rfl
    | some o=>
      by_cases hc:r=ll
      ·rw [hc,GB] at hr; cases hr
      ·rw [kk _ _ z hc] at hr; cases hr
   have Jv:bF K (bp Hb (upd (upd H3 r (.tup [.str q.1,.int (q.2:Int)])) ll (.lst (as++[.ref r])))) ((gD d t (qs.take j)).map ky++[ky q]) (as++[.ref r]):=by
    refine jQ (bF.same ((j1 (a6.upd hr)).trans (eU DJ WD)) _ _ hR) ?_
    have Uh:r≠ll:=fun z=>by rw [z,GB] at hr; cases hr
    exact ⟨r,_,rfl,fN r0 (by rw [ai Uh,a9]),.str q.1,[.int (q.2:Int)],rfl,⟨rfl,rfl⟩,.int (q.2:Int),[],rfl,⟨rfl,rfl⟩,rfl⟩
   have yu:(upd (upd H3 r (.tup [.str q.1,.int (q.2:Int)])) ll (.lst (as++[.ref r]))) ll=some (.lst (as++[.ref r])):=a9
   generalize upd (upd H3 r (.tup [.str q.1,.int (q.2:Int)])) ll (.lst (as++[.ref r]))=H4 at Rk Jv yu
   by_cases Ir:q.2=d
   ·refine ⟨_,rfl,_,rfl,rfl,true,congrArg V.bl (decide_eq_true (by rw [Ir])),kD ?_⟩
    refine ⟨_,rfl,.inl ⟨rfl,_,aK.of yu⟩,_,rfl,_,rfl,by show 2≤sizeLine; decide,fun r2 IB=>?_⟩
    have h4r:=a6.upd (o:=.tup [.str q.1,.int (t:Int)]) IB _ _ yu
    refine ⟨ll,_,_,rfl,rfl,h4r,P8 _ (by rw [List.length_append,List.length_singleton]; omega),?_⟩
    have WG:∀ c o,(upd H4 r2 (.tup [.str q.1,.int (t:Int)])) c=some o→c≠ll→(upd (upd H4 r2 (.tup [.str q.1,.int (t:Int)])) ll (.lst (as++[.ref r]++[.ref r2]))) c=some o:=fun c o e hc=>by rw [ai hc]; exact e
    have r20:Hb r2=none:=by
     cases z:Hb r2 with
     | none=>rfl
     | some o=>
       by_cases hc:r2=ll
       ·rw [hc,yu] at IB; cases IB
       ·rw [Rk _ _ z hc] at IB; cases IB
    refine ⟨_,_,_,rfl,a9,fun c o e hc=>WG _ _ (a6.upd IB _ _ (Rk c o e hc)) hc,?_⟩
    rw [pW,qZ,if_pos Ir,List.map_append]
    have em:([q,(q.1,t)]:List (Str×Nat)).map ky=[ky q]++[ky (q.1,t)]:=rfl
    rw [em,← List.append_assoc]
    refine jQ (bF.same ((j1 (a6.upd IB)).trans (eU DJ WG)) _ _ Jv) ?_
    have Uh:r2≠ll:=fun z=>by rw [z,yu] at IB; cases IB
    exact ⟨r2,_,rfl,fN r20 (by rw [ai Uh,a9]),.str q.1,[.int (t:Int)],rfl,⟨rfl,rfl⟩,.int (t:Int),[],rfl,⟨rfl,rfl⟩,rfl⟩
   ·refine ⟨_,rfl,_,rfl,rfl,false,congrArg V.bl (decide_eq_false fun z=>Ir (by have:=V.int.inj z; omega)),fz ?_⟩
    refine ⟨_,_,_,rfl,yu,Rk,?_⟩
    rw [pW,qZ,if_neg Ir,List.map_append]
    exact Jv
  ·rintro σ H3 ⟨v4,v5,as,rfl,GB,kk,hR⟩
   rw [List.length_map,vD,List.take_length] at hR
   exact ⟨_,rfl,k _ _ (keep kk) ⟨ll,as,rfl,.inl (fN vt GB),bF.same (jP sb) _ _ hR⟩⟩
theorem iD:az ["sheet","many","desk","numbers","weight","line","chosen","others","rest","lines","weights","twin"] ["sheet","many","desk","numbers","weight"] (aa (top 24)):=⟨rfl,rfl,rfl,by decide +kernel,rfl,by decide +kernel,by decide +kernel⟩
theorem Gb (L:Lk K mg):bD P w K mg base (Gx P w) 4 L.kf L.nO ["sheet","many","desk","numbers","weight"] (Iq K L.ao L.bg):=by
 have T:=L.T
 refine L.iL.F.VR iD (fun vs H Q E h=>?_) (fun cR A outer s H vs Q E hr h=>?_)
 ·obtain ⟨x,a,many,kd,w,ns,hs,ws,lns,rfl,_⟩:=h
  rfl
 ·obtain ⟨x,a,many,kd,w,ns,hs,ws,lns,rfl,S,hA,Mx,W,m0,m1,k⟩:=h
  refine ⟨_,(a7 (bV (gw (eI (aq (kA L) (hr.mono (by decide)) rfl L.aZ.g L.aZ.F.kp L.aZ.b .nil aC (a5 (pv 2) (a5 (b4 (pv 0) rfl) a8))))) (ag (jL iY rfl L.iQ L.dn rfl L.iP (a5 jr a8))) aP)
   (a7 (av (i:=5) iD.nd rfl (Or.inr rfl) (cz b8 (b4 (pv 0) rfl) (pv 2) (fun _ _=>rfl)))
   (a7 (bV (gw (eI (au (qt rfl) (by rfl) T.all Kx (a5 (eK rfl (ay (sc:=aa (top 24)) (N:=["sheet","many","desk","numbers","weight","line","chosen","others","rest","lines","weights","twin"]) (ys:=["line"]) (ix:=[5]) rfl rfl (by decide +kernel)) (bh (pv 3)) (fun _ _ _ _ _ _=>du) (fun _ _ _ _ _ _=>(aq (kA L) (hr.mono (by decide)) rfl L.aZ.g L.aZ.F.kp L.aZ.b .nil aC (a5 (pv 0) (a5 (pv 1) a8))))) a8)))) (ag (jL iY rfl L.iQ L.dn rfl L.iP (a5 jr a8))) aP)
   (a7 (pf (i:=6) rfl (ay (sc:=aa (top 24)) (N:=["sheet","many","desk","numbers","weight","line","chosen","others","rest","lines","weights","twin"]) (ys:=["numbers"]) (ix:=[3]) rfl rfl (by decide +kernel)) iD.nd rfl rfl (ay (sc:=aa (top 24)) (N:=["sheet","many","desk","numbers","weight","line","chosen","others","rest","lines","weights","twin"]) (ys:=["numbers"]) (ix:=[3]) rfl rfl (by decide +kernel)) (by decide) (vc (by rfl) T.enum (a5 (pv 5) a8)) (fun _ _ _ _ _ _=>jl (aH (jX (K:=K) rfl) (pv 0) (pv 2) rfl)) (fun _ _ _ _ _ _=>(pv 1)))
   (a7 (pf (i:=7) rfl (ay (sc:=aa (top 24)) (N:=["sheet","many","desk","numbers","weight","line","chosen","others","rest","lines","weights","twin"]) (ys:=["numbers"]) (ix:=[3]) rfl rfl (by decide +kernel)) iD.nd rfl rfl (ay (sc:=aa (top 24)) (N:=["sheet","many","desk","numbers","weight","line","chosen","others","rest","lines","weights","twin"]) (ys:=["numbers"]) (ix:=[3]) rfl rfl (by decide +kernel)) (by decide) (vc (by rfl) T.enum (a5 (pv 5) a8)) (fun _ _ _ _ _ _=>jl (aH (sG (K:=K) rfl) (pv 0) (pv 2) rfl)) (fun _ _ _ _ _ _=>(pv 1)))
   (a7 (av (i:=8) iD.nd rfl (Or.inl rfl) (aI mr (cz b8 (b4 (pv 0) rfl) (pv 2) (fun _ _=>rfl)) (pv 4)))
   (a7 (fo (aq (mi L) (hr.mono (by decide)) rfl L.bx.g L.bx.F.kp L.bx.b .nil (Ji iY) (a5 (pv 0) (a5 (pv 1) (a5 (pv 6) (a5 (pv 4) a8))))))
   (a7 (fo (aq (mi L) (hr.mono (by decide)) rfl L.bx.g L.bx.F.kp L.bx.b .nil (Ji iY) (a5 (pv 0) (a5 (pv 1) (a5 (pv 7) (a5 (pv 8) a8))))))
   (a7 (av (i:=9) iD.nd rfl (Or.inl rfl) (aI vp (b4 (pv 0) rfl) (cQ (a5 (pv 7) a8))))
   (a7 (qa (pv 6) (zQ (pv 9) (pv 2) set_list))
   (a7 (av (i:=10) iD.nd rfl (Or.inl rfl) (aI vp (b4 (pv 0) rfl) (cQ (a5 (pv 8) a8))))
   (a7 (qa (pv 4) (zQ (pv 10) (pv 2) set_list))
   (a7 (av (i:=11) iD.nd rfl (Or.inr rfl) (au aW (by rfl) T.len PySem.boot_len (a5 (b4 (pv 0) rfl) a8)))
   (ag (aF (uQ L.jb (jo L) (hr.mono (by decide)) rfl L.vz L.fF.b .nil aC (a5 (aI vp (b4 (pv 0) rfl) (cQ (a5 (cz b8 (b4 (pv 0) rfl) (pv 2) (fun _ _=>rfl)) a8))) (a5 (pv 10) (a5 (eK rfl (ay (sc:=aa (top 24)) (N:=["sheet","many","desk","numbers","weight","line","chosen","others","rest","lines","weights","twin"]) (ys:=["desk","twin"]) (ix:=[2,11]) rfl rfl (by decide +kernel)) (bh (pv 9)) (fun _ _ _ _ _ _=>du) (fun _ _ _ _ _ _=>(aq (sR L) (hr.mono (by decide)) rfl L.ck.g L.ck.F.kp L.ck.b .nil aC (a5 (pv 0) (a5 (pv 1) (a5 (pv 2) a8)))))) a8))))))))))))))))))),?_⟩
  obtain ⟨dx,ah,bw,cl,hx,rh,qf,rl⟩:=id S
  have hh:=nK rh
  have hw:=pZ qf
  obtain ⟨Rl,xs,ec,hc,ip⟩:=id rl
  cases ec
  have xl:xs.length=lns.length:=by rw [ip.len,List.length_map]
  have hn:=W.n
  have nc:=W.w
  have vt:=W.l
  have no:i9 ws lns many kd ns w=false→∀ H',a6 H H'→E (.ref L.bg) none H':=fun h=>by
   rcases k with ⟨k1,_⟩ | ⟨_,k2⟩
   ·rw [h] at k1; cases k1
   ·exact k2
  cases h1:fO kd lns.length with
  | false=>
    refine ⟨_,rfl,_,rfl,x,L.ao,dx,_,_,rfl,hx,L.ak.cl,L.ak.fW,bY ah bw cl,kd,cl,xs,rfl,.inl hc,false,congrArg V.bl (by rw [xl]; exact h1),kD ⟨rfl,no ?_ H (a6.refl _)⟩⟩
    unfold i9
    rw [h1,Bool.false_and]
  | true=>
  obtain ⟨d,rfl,hd⟩:∃ d:Nat,kd=(d:Int)∧d < lns.length:=by
   unfold fO at h1
   rw [Bool.and_eq_true] at h1
   have a1:=of_decide_eq_true h1.1
   have a2:=of_decide_eq_true h1.2
   exact ⟨kd.toNat,by omega,by omega⟩
  refine ⟨_,rfl,_,rfl,x,L.ao,dx,_,_,rfl,hx,L.ak.cl,L.ak.fW,bY ah bw cl,_,cl,xs,rfl,.inl hc,true,congrArg V.bl (by rw [xl]; exact h1),fz ?_⟩
  rw [Int.toNat_natCast] at k
  have hdx:d < xs.length:=by omega
  have JB:xs[d]?=some xs[d]:=List.getElem?_eq_getElem hdx
  obtain ⟨dd,WH,rd⟩:=ip.get d _ JB
  have WK:lns[d]?=some lns[d]:=List.getElem?_eq_getElem hd
  rw [List.getElem?_map,WK] at WH
  cases WH
  have IC:lns.getD d []=lns[d]:=by rw [List.getD_eq_getElem?_getD,WK]; rfl
  have Cm:lns[d]∈lns:=List.getElem_mem hd
  have Ui:=W.m _ Cm
  have Gz:=W.e _ Cm
  have WL:i9 ws lns many (d:Int) ns w=(ns.all (fun i=>fO i lns[d].length) && (fJ ws many (b9 ns lns[d]) w && fJ ws many (aV ns lns[d]) (ws.getD d 0 - w))):=by
   unfold i9
   rw [h1,Bool.true_and,Int.toNat_natCast,IC]
  unfold j3 at k
  rw [IC] at k
  rw [WL] at k no
  refine ⟨_,rfl,x,L.ao,dx,_,_,rfl,hx,L.ak.cl,L.ak.fW,bY ah bw cl,_,rfl,cl,xs,_,xs[d],rfl,rfl,.inl hc,bZ JB,?_⟩
  obtain ⟨al,ys,el,JA,zG⟩:=rd
  rw [el]
  have yl:ys.length=lns[d].length:=by rw [zG.len,List.length_map]
  generalize lns[d]=qs at WL Cm Ui Gz zG yl k no
  refine ⟨_,rfl,a,rfl,⟨_,hA⟩,fun l1 Lf=>?_⟩
  refine comp_map (fun v=>match v with | .int i=>V.bl (fO i ys.length) | _=>.non) (bO K a (ns.map V.int)) Lf (by rw [List.length_map]; exact aD (by omega)) (fun H' s'=>s'.seq hA) (fun z H2 Q' hz s2 qq=>?_) (fun H2 s2 h2=>?_)
  ·obtain ⟨i,_,rfl⟩:=List.mem_map.mp hz
   exact ⟨_,rfl,_,rfl,i,al,ys,rfl,s2.seq (.inl JA),qq H2 (a6.refl _)⟩
  have e2:(ns.map V.int).map (fun v=>match v with | .int i=>V.bl (fO i ys.length) | _=>.non)=(ns.map fun i=>fO i qs.length).map V.bl:=by
   rw [List.map_map,List.map_map,yl]
   rfl
  rw [e2] at h2
  have P9:((ns.map fun i=>fO i qs.length).all id)=ns.all (fun i=>fO i qs.length):=by
   rw [List.all_map]
   rfl
  cases h3:ns.all (fun i=>fO i qs.length) with
  | false=>
    refine ⟨l1,_,rfl,aK.of h2,false,congrArg V.bl (P9.trans h3),kD ⟨rfl,no ?_ H2 s2⟩⟩
    rw [h3,Bool.false_and]
  | true=>
  refine ⟨l1,_,rfl,aK.of h2,true,congrArg V.bl (P9.trans h3),fz ?_⟩
  rw [h3,Bool.true_and] at k no
  refine ⟨_,rfl,al,ys,rfl,s2.seq (.inl JA),fun lc Ck=>?_⟩
  refine uH (fun i=>nY (.int (i:Nat)) (ns.map V.int)) (s2.seq (.inl JA)) Ck (aD (by omega)) (fun i y H3 Q' _ s3 qq=>?_) (fun i y H3 Q' _ s3 qq=>⟨_,rfl,qq H3 (a6.refl _)⟩) (fun H3 s3 WM=>?_)
  ·exact ⟨_,rfl,_,rfl,a,_,rfl,.inl ((s2.trans s3).seq hA),rfl,lS ns,_,rfl,qq H3 (a6.refl _)⟩
  have ein:(fun i:Nat=>nY (.int (i:Nat)) (ns.map V.int))=fun i:Nat=>decide ((i:Int)∈ns):=funext fun i=>qY _ ns
  rw [ein] at WM
  have IE:=s2.trans s3
  refine ⟨_,rfl,al,ys,rfl,IE.seq (.inl JA),fun lo EH=>?_⟩
  refine uH (fun i=>!nY (.int (i:Nat)) (ns.map V.int)) (IE.seq (.inl JA)) EH (aD (by omega)) (fun i y H4 Q' _ s4 qq=>?_) (fun i y H4 Q' _ s4 qq=>⟨_,rfl,qq H4 (a6.refl _)⟩) (fun H4 s4 WN=>?_)
  ·exact ⟨_,rfl,_,rfl,a,_,rfl,.inl ((IE.trans s4).seq hA),rfl,lS ns,_,rfl,qq H4 (a6.refl _)⟩
  have Uj:(fun i:Nat=>!nY (.int (i:Nat)) (ns.map V.int))=fun i:Nat=>!decide ((i:Int)∈ns):=funext fun i=>congrArg (!·) (qY _ ns)
  rw [Uj] at WN
  have sS:=IE.trans s4
  have h4c:=s4 _ _ WM
  have rC:eO K H4 (dE (b9 ns qs)) (.ref lc):=⟨lc,_,rfl,.inl h4c,yy _ (bF.same sS _ _ zG)⟩
  have rO:eO K H4 (dE (aV ns qs)) (.ref lo):=⟨lo,_,rfl,.inl WN,yy _ (bF.same sS _ _ zG)⟩
  have cl5:(b9 ns qs).length≤5000:=Nat.le_trans (lR _ _ _) Ui
  have ol5:(aV ns qs).length≤5000:=Nat.le_trans (lR _ _ _) Ui
  have ce:∀ q∈b9 ns qs,q.2 < ws.length:=fun q hq=>by rw [nc]; exact Gz q (iO hq)
  have oe:∀ q∈aV ns qs,q.2 < ws.length:=fun q hq=>by rw [nc]; exact Gz q (iO hq)
  have uI:d < ws.length:=by omega
  have DK:pA (ws.map V.int) (d:Int)=some (.int (ws.getD d 0)):=bZ (by rw [List.getElem?_map,List.getElem?_eq_getElem uI,List.getD_eq_getElem?_getD,List.getElem?_eq_getElem uI]; rfl)
  refine ⟨_,rfl,x,L.ao,dx,_,_,rfl,sS _ _ hx,L.ak.cl,L.ak.cD,bc ah bw cl,_,rfl,bw,_,_,_,rfl,rfl,sS.seq (.inl hw),DK,_,rfl,_,_,rfl,rfl,?_⟩
  show jh 8 (V.int (ws.getD d 0 - w)) _ _ _
  have S4:=S.same sS
  refine ⟨_,rfl,_,rfl,_,rfl,_,rfl,x,many,.ref lc,w,hs,ws,lns,b9 ns qs,rfl,S4,rC,by omega,ce,m0,m1,?_⟩
  cases h5:fJ ws many (b9 ns qs) w with
  | false=>exact .inr ⟨rfl,fun H5 s5=>no (by rw [h5,Bool.false_and]) H5 (sS.trans s5)⟩
  | true=>
  refine .inl ⟨rfl,fun H5 s5=>?_⟩
  rw [h5,Bool.true_and] at k no
  refine ⟨_,rfl,_,rfl,_,rfl,_,rfl,x,many,.ref lo,ws.getD d 0 - w,hs,ws,lns,aV ns qs,rfl,S4.same s5,eO.same s5 _ _ rO,by omega,oe,m0,m1,?_⟩
  cases h6:fJ ws many (aV ns qs) (ws.getD d 0 - w) with
  | false=>exact .inr ⟨rfl,fun H6 s6=>no h6 H6 ((sS.trans s5).trans s6)⟩
  | true=>
  refine .inl ⟨rfl,fun H6 s6=>?_⟩
  obtain ⟨_,kk⟩:True∧_:=⟨trivial,k⟩
  rcases kk with ⟨_,k⟩ | ⟨k1,_⟩
  rotate_left
  ·rw [h6] at k1; cases k1
  have Uk:=s5.trans s6
  have GC:=sS.trans Uk
  have rC6:=eO.same Uk _ _ rC
  have rO6:=eO.same Uk _ _ rO
  have big:∀ n:Nat,n≤20000→n≤sizeLine:=fun n hn=>Nat.le_trans hn (by rw [sizeLine_eq]; decide)
  refine ⟨_,rfl,x,L.ao,dx,_,_,rfl,GC _ _ hx,L.ak.cl,L.ak.fW,bY ah bw cl,_,rfl,by show 1≤sizeLine; decide,fun l7 WO=>?_⟩
  refine ⟨cl,l7,xs,[.ref lo],rfl,rfl,nI (GC.trans (a6.upd WO)) hc,.inl a9,big _ (by show xs.length + 1≤_; omega),fun ll vG=>?_⟩
  have WQ:a6 H6 (upd H6 l7 (.lst [V.ref lo])):=a6.upd WO
  generalize upd H6 l7 (.lst [V.ref lo])=Pa at WQ vG
  have s6b:a6 Pa (upd Pa ll (.lst (xs++[V.ref lo]))):=a6.upd vG
  have hix:CK (xs++[V.ref lo]).length (d:Int)=some d:=by
   have hlen:(xs++[V.ref lo]).length=xs.length + 1:=by rw [List.length_append]; rfl
   unfold CK
   rw [hlen,if_pos (by omega),if_pos (by omega),Int.toNat_natCast]
  refine ⟨_,rfl,_,rfl,_,rfl,ll,_,_,d,rfl,rfl,a9,hix,?_⟩
  have LY:(upd (upd Pa ll (.lst (xs++[V.ref lo]))) ll (.lst ((xs++[V.ref lo]).set d (V.ref lc)))) ll=some (.lst ((xs++[V.ref lo]).set d (V.ref lc))):=a9
  have Rm:a6 H6 (upd (upd Pa ll (.lst (xs++[V.ref lo]))) ll (.lst ((xs++[V.ref lo]).set d (V.ref lc)))):=fun c o e=>by
   have e':=WQ _ _ e
   rw [ai (aj e' vG),ai (aj e' vG)]
   exact e'
  generalize upd (upd Pa ll (.lst (xs++[V.ref lo]))) ll (.lst ((xs++[V.ref lo]).set d (V.ref lc)))=H8 at LY Rm
  have My:=GC.trans Rm
  have rL8:bF K H8 (((lns++[aV ns qs]).set d (b9 ns qs)).map dE) ((xs++[V.ref lo]).set d (V.ref lc)):=by
   have r1:bF K H8 (lns.map dE++[dE (aV ns qs)]) (xs++[V.ref lo]):=jQ (bF.same My _ _ ip) (eO.same Rm _ _ rO6)
   have e:((lns++[aV ns qs]).set d (b9 ns qs)).map dE=(lns.map dE++[dE (aV ns qs)]).set d (dE (b9 ns qs)):=by
    rw [List.map_set,List.map_append]
    rfl
   rw [e]
   exact r1.set d (eO.same Rm _ _ rC6)
  refine ⟨_,rfl,x,L.ao,dx,_,_,rfl,My _ _ hx,L.ak.cl,L.ak.cD,bc ah bw cl,_,rfl,by show 1≤sizeLine; decide,fun l9 WR=>?_⟩
  refine ⟨bw,l9,_,[.int (ws.getD d 0 - w)],rfl,rfl,nI (My.trans (a6.upd WR)) hw,.inl a9,big _ (by rw [List.length_map]; show ws.length + 1≤_; omega),fun lw Pb=>?_⟩
  have WT:a6 H8 (upd H8 l9 (.lst [.int (ws.getD d 0 - w)])):=a6.upd WR
  generalize upd H8 l9 (.lst [.int (ws.getD d 0 - w)])=Ul at WT Pb
  have Gd:ws.map V.int++[V.int (ws.getD d 0 - w)]=(ws++[ws.getD d 0 - w]).map V.int:=by rw [List.map_append]; rfl
  rw [Gd]
  have Um:CK ((ws++[ws.getD d 0 - w]).map V.int).length (d:Int)=some d:=by
   have hlen:((ws++[ws.getD d 0 - w]).map V.int).length=ws.length + 1:=by rw [List.length_map,List.length_append]; rfl
   unfold CK
   rw [hlen,if_pos (by omega),if_pos (by omega),Int.toNat_natCast]
  refine ⟨_,rfl,_,rfl,_,rfl,lw,_,_,d,rfl,rfl,a9,Um,?_⟩
  have Uo:((ws++[ws.getD d 0 - w]).map V.int).set d (.int w)=(bE ws d w).map V.int:=by
   unfold bE
   rw [List.map_set]
  rw [Uo]
  have WU:(upd (upd Ul lw (.lst ((ws++[ws.getD d 0 - w]).map V.int))) lw (.lst ((bE ws d w).map V.int))) lw=some (.lst ((bE ws d w).map V.int)):=a9
  have GD:a6 H8 (upd (upd Ul lw (.lst ((ws++[ws.getD d 0 - w]).map V.int))) lw (.lst ((bE ws d w).map V.int))):=fun c o e=>by
   have e':=WT _ _ e
   rw [ai (aj e' Pb),ai (aj e' Pb)]
   exact e'
  generalize upd (upd Ul lw (.lst ((ws++[ws.getD d 0 - w]).map V.int))) lw (.lst ((bE ws d w).map V.int))=H9 at WU GD
  have IG:=My.trans GD
  refine ⟨_,rfl,x,L.ao,dx,_,_,rfl,IG _ _ hx,L.ak.cl,L.ak.fW,bY ah bw cl,cl,xs,rfl,.inl (IG.seq (.inl hc)),?_⟩
  rw [xl]
  have Rh:d < hs.length:=by omega
  have yK:pA (hs.map V.str) (d:Int)=some (.str (hs.getD d "")):=bZ (by rw [List.getElem?_map,List.getElem?_eq_getElem Rh,List.getD_eq_getElem?_getD,List.getElem?_eq_getElem Rh]; rfl)
  refine ⟨_,rfl,x,L.ao,dx,_,_,rfl,IG _ _ hx,L.ak.cl,L.ak.ia,cS ah bw cl,_,rfl,x,L.ao,dx,_,_,rfl,IG _ _ hx,L.ak.cl,L.ak.ia,cS ah bw cl,_,rfl,ah,_,_,_,rfl,rfl,IG.seq (.inl hh),yK,by show 1≤sizeLine; decide,fun l10 Pg=>?_⟩
  refine ⟨ah,l10,_,[.str (hs.getD d "")],rfl,rfl,nI (IG.trans (a6.upd Pg)) hh,.inl a9,big _ (by rw [List.length_map]; show hs.length + 1≤_; omega),fun lh IH=>?_⟩
  have WV:a6 H9 (upd H9 l10 (.lst [.str (hs.getD d "")])):=a6.upd Pg
  generalize upd H9 l10 (.lst [.str (hs.getD d "")])=WW at WV IH
  have Ph:hs.map V.str++[V.str (hs.getD d "")]=(bN hs d).map V.str:=by unfold bN; rw [List.map_append]; rfl
  rw [Ph]
  have Rn:=WV.trans (a6.upd (o:=.lst ((bN hs d).map V.str)) IH)
  have Pj:(upd WW lh (.lst ((bN hs d).map V.str))) lh=some (.lst ((bN hs d).map V.str)):=a9
  generalize upd WW lh (.lst ((bN hs d).map V.str))=H10 at Rn Pj
  have JC:=GD.trans Rn
  have JD:=JC _ _ LY
  have Up:=bF.same JC _ _ rL8
  have zl:((xs++[V.ref lo]).set d (V.ref lc)).length=lns.length + 1:=by rw [List.length_set,List.length_append,xl]; rfl
  refine ⟨_,rfl,_,rfl,ll,rfl,⟨_,aK.of JD⟩,fun lt eM=>?_⟩
  have Pk:∀ l∈(lns++[aV ns qs]).set d (b9 ns qs),l.length≤5000:=fun l hl=>by
   rcases List.mem_or_eq_of_mem_set hl with z | z
   ·rcases List.mem_append.mp z with z | z
    ·exact W.m l z
    ·rw [List.mem_singleton.mp z]; exact ol5
   ·rw [z]; exact cl5
  refine yr (K:=K) ((((lns++[aV ns qs]).set d (b9 ns qs)).map (gD d lns.length)).map dE) (bO K ll ((xs++[V.ref lo]).set d (V.ref lc))) eM (big _ (by rw [zl]; omega)) (by rw [List.length_map,List.length_map,List.length_set,List.length_append,zl]; rfl) (fun H' s'=>aK.of (s' _ _ JD)) (fun i y dt Ls Q' hy zN GF qq=>?_) (fun Ls GF r11=>?_)
  ·obtain ⟨d',e',r⟩:=Up.get i y hy
   rw [List.getElem?_map] at e' zN
   rw [List.getElem?_map] at zN
   cases e:((lns++[aV ns qs]).set d (b9 ns qs))[i]? with
   | none=>rw [e] at e'; cases e'
   | some l=>
     rw [e] at e' zN
     cases e'
     cases zN
     exact ⟨_,rfl,_,rfl,_,rfl,y,d,lns.length,l,rfl,eO.same GF _ _ r,Pk l (List.mem_of_getElem? e),fun z GH Mz r12=>qq z GH Mz r12⟩
  intro y dy ny Uq ney
  have sm:a6 Ls (upd (upd Ls dy (.own y)) y (.ins L.ao dy [])):=lJ ny Uq
  have Ge:=IG.trans Rn
  refine ⟨y,dy,.ref lh,.ref lw,.ref lt,bN hs d,bE ws d w,((lns++[aV ns qs]).set d (b9 ns qs)).map (gD d lns.length),rfl,a9,qV (sm _ _ (GF _ _ Pj)),qW (sm _ _ (GF _ _ (Rn _ _ WU))),eO.same ((oE _ _).trans sm) _ _ r11,?_,?_,?_,?_,fun a' b' c' GH Ur q1 q2 q3 Us=>⟨rfl,?_⟩⟩
  ·unfold bN; rw [List.length_append]; show hs.length + 1≤_; omega
  ·unfold bE; rw [List.length_set,List.length_append]; show ws.length + 1≤_; omega
  ·rw [List.length_map,List.length_set,List.length_append]; show lns.length + 1≤_; omega
  ·intro l hl
   obtain ⟨l',yA,rfl⟩:=List.mem_map.mp hl
   have:=oH d lns.length l'
   have:=Pk l' yA
   omega
  ·have Mz:a6 Ls GH:=fun c o e=>Us _ _ (sm _ _ e) (aj e ny)
   refine k y GH (Ge.trans (GF.trans Mz)) ?_
   have Ut:H y=none:=none_of (Ge.trans GF) ny
   have nw:=fun (dd:kH) (v:V) (r:eO K (bp _ GH) dd v)=>eO.same (jP ((Ge.trans GF).trans sm)) dd v r
   exact ⟨dy,a',b',c',fN Ut Ur,nw _ _ q1,nw _ _ q2,nw _ _ q3⟩
theorem fm:az ["band","many","wide","weights","homes","lines","place","blocks"] ["band","many","wide","weights"] (aa (top 20)):=⟨rfl,rfl,rfl,by decide +kernel,rfl,by decide +kernel,by decide +kernel⟩
theorem rA (L:Lk K mg):bD P w K mg base iN 5 L.dh L.fR ["band","many","wide","weights"] (Il K L.aA L.ao):=by
 have T:=L.T
 refine L.bR.F.ok fm (fun vs H Q E h=>?_) (fun cR A outer s H vs Q E hr h=>?_)
 ·obtain ⟨x,d,many,n,m,f,g,ws,ss,ls,rfl,_⟩:=h
  rfl
 ·obtain ⟨x,d,many,n,m,f,g,ws,ss,ls,rfl,B,Jz,yF,Iz,DI,hd,hw,k⟩:=h
  have hu:=iX hr
  refine ⟨_,(a7 (fo (aq (mh L) (hr.mono (by decide)) rfl L.bu.g L.bu.F.kp L.bu.b .nil aC (a5 (pv 0) (a5 (pv 1) (a5 (pv 2) a8)))))
   (a7 (av (i:=4) fm.nd rfl (Or.inr rfl) (eK rfl (ay (sc:=aa (top 20)) (N:=["band","many","wide","weights","homes","lines","place","blocks"]) (ys:=["weights"]) (ix:=[3]) rfl rfl (by decide +kernel)) (bh (qe (pv 0) L.aX.cl L.dH.m (kh L) (hr.mono (by decide)) L.dH.b .nil aC)) (fun _ _ _ _ _ _=>jl (aH m4 (ft hu (pv 1) (pv 0) (fun _ _=>rfl)) ae (aS _))) (fun _ _ _ _ _ _=>(pv 0))))
   (a7 (av (i:=5) fm.nd rfl (Or.inl rfl) (cQ a8))
   (a7 (bH PassesOwn.never rfl (bh (pv 4)) (aG (i:=6) fm.nd rfl (Or.inl rfl)) (a7 (av (i:=7) fm.nd rfl (Or.inl rfl) (aq (jd L) (hr.mono (by decide)) rfl L.aR.g L.aR.F.kp L.aR.b .nil aC (a5 (pv 0) (a5 (pv 6) (a5 (pv 2) a8)))))
   (ag (fo (nk PySem.F.plainAttrs_list PySem.F.slot_list_append PySem.F.type_list_append gj (pv 5) (a5 (lj rfl (ay (sc:=aa (top 20)) (N:=["band","many","wide","weights","homes","lines","place","blocks"]) (ys:=["homes"]) (ix:=[4]) rfl rfl (by decide +kernel)) (ay (sc:=aa (top 20)) (N:=["band","many","wide","weights","homes","lines","place","blocks"]) (ys:=["homes"]) (ix:=[4]) rfl rfl (by decide +kernel)) (by decide) (bh (pv 7)) (fun _ _ _ _ _ _=>jl (aH (jX (K:=K) rfl) (pv 1) (pv 2) rfl)) (fun _ _ _ _ _ _=>(iU (a5 (pv 0) (a5 (Ld (K:=K) rfl PySem.F.plainAttrs_list PySem.F.slot_list_index PySem.F.type_list_index (Dz (K:=K) rfl) (pv 2) (a5 (pv 1) a8)) a8))))) a8))))))
   (ag (aF (uQ L.jb (jo L) (hr.mono (by decide)) rfl L.vz L.fF.b .nil aC (a5 (pv 4) (a5 (eK rfl (ay (sc:=aa (top 20)) (N:=["band","many","wide","weights","homes","lines","place","blocks"]) (ys:=["weights"]) (ix:=[3]) rfl rfl (by decide +kernel)) (bh (pv 4)) (fun _ _ _ _ _ _=>du) (fun _ _ _ _ _ _=>(ft hu (pv 1) (pv 0) (fun _ _=>rfl)))) (a5 (pv 5) a8)))))))))),?_⟩
  obtain ⟨ra,rb,rc,rd,re⟩:=id DI
  have Ga:g.length ^ n≤64:=by
   rw [Int.toNat_natCast] at re
   have:((g.length ^ n:Nat):Int)≤64:=by rw [Int.natCast_pow]; exact re
   omega
  have vt:ls.length≤900:=Nat.le_trans B.lv.sub.length_le Iz
  refine ⟨_,rfl,_,rfl,_,rfl,x,many,n,g,ws,ss,ls,rfl,B,yF,DI,?_⟩
  obtain ⟨⟨dx,b,d0,q,mv,h1,h2,h3,h4,h5,h6⟩,pm,_,_⟩:=id B
  refine ⟨_,rfl,x,dx,_,rfl,h1,M4 _ _ _ _ (by decide +kernel) (by decide +kernel) (by decide +kernel) (by decide +kernel),x,g,ws,ss,ls,rfl,B,fun lv H1 s1 f1 hv=>?_⟩
  refine ⟨lv,rfl,⟨_,aK.of hv⟩,fun lh IH=>?_⟩
  refine jI (fun v=>match v with | .str p=>decide (0 < f p) | _=>false) (fun v=>v) (bO K lv (ls.map V.str)) IH (by rw [List.length_map]; exact aD (by omega)) (fun H' s'=>aK.of (s' _ _ hv)) (fun z H2 Q' hz s2 qq=>?_) (fun z H2 Q' hz _ s2 qq=>⟨_,rfl,qq H2 (a6.refl _)⟩) (fun H2 s2 hh=>?_)
  ·obtain ⟨p,hp,rfl⟩:=List.mem_map.mp hz
   have g3:=fq.rd (k:=(Sum.inr p:Key)) (hd.same (s1.trans s2))
   rw [fB,hw p hp] at g3
   have q2:Q' (decide (0 < f p)) H2:=qq H2 (a6.refl _)
   exact ⟨_,rfl,_,rfl,d,_,rfl,g3,_,_,rfl,rfl,_,rfl,q2⟩
  have Uu:((ls.map V.str).filter (fun v=>match v with | .str p=>decide (0 < f p) | _=>false)).map (fun v=>v)=(aw ls f).map V.str:=by
   rw [List.map_id',List.filter_map]
   rfl
  rw [Uu] at hh
  have WX:(aw ls f).length≤900:=Nat.le_trans (List.length_filter_le _ _) vt
  have jg:∀ p∈aw ls f,p∈ls:=fun p hp=>(List.mem_filter.mp hp).1
  have E9:=s1.trans s2
  refine ⟨Nat.zero_le _,fun ll vG=>?_⟩
  have sb:a6 H2 (upd H2 ll (.lst [])):=a6.upd vG
  have DJ:(upd H2 ll (.lst [])) ll=some (.lst []):=a9
  generalize upd H2 ll (.lst [])=Hb at sb DJ
  have nhl:lh≠ll:=aj hh vG
  refine ⟨_,rfl,lh,rfl,⟨_,aK.of (sb _ _ hh)⟩,eQ (K:=K) (a:=lh) (xs:=(aw ls f).map V.str) (fun j σ H3=>∃ (v6 v7:Option V) (as:List V),σ=[some (.ref x),some (.int many),some (.int (n:Int)),some (.ref d),some (.ref lh),some (.ref ll),v6,v7]∧H3 ll=some (.lst as)∧(∀ c o,Hb c=some o→c≠ll→H3 c=some o)∧bF K (bp Hb H3) (((aw ls f).take j).map fun p=>dE (j2 g ws ss ls n (aw ls f) p)) as)
   ⟨none,none,[],rfl,DJ,fun c o e _=>e,rfl⟩ (fun j σ H3 _ ⟨_,_,_,_,_,kk,_⟩=>aK.of (kk _ _ (sb _ _ hh) nhl)) ?_ ?_⟩
  ·rintro j y σ H3 hy ⟨v6,v7,as,rfl,GB,kk,hR⟩
   obtain ⟨p,Lv,rfl,hj,vn,pW⟩:=jK hy
   have II:a6 H2 H3:=fun c o e=>kk _ _ (sb _ _ e) (aj e vG)
   have B3:=B.same (E9.trans II)
   refine ⟨_,rfl,_,rfl,_,rfl,x,p,n,g,ws,ss,ls,rfl,B3,jg p vn,by omega,by omega,Jz,yF,fun lb rb H4 s4 f4 R4=>?_⟩
   have yu:=s4 _ _ GB
   have WY:=gY g ws ss ls n p
   have JA:as.length=j:=by
    rw [hR.len,List.length_map,List.length_take]
    omega
   refine ⟨_,rfl,.inl ⟨rfl,_,aK.of yu⟩,_,rfl,lb,rfl,⟨_,aK.of R4.l⟩,fun lc Ck=>?_⟩
   have Lw:H4 lh=some (.lst ((aw ls f).map V.str)):=s4 _ _ (II _ _ hh)
   refine uD (prs:=(aB g ws ss ls n p).map nH) (fun q=>nY q.2 ((aw ls f).map V.str)) (fun q=>.tup [.at q.1,.at (.int (match q.2 with | .str e=>((aw ls f).idxOf e:Nat) | _=>0))]) (bO K lb (rb.map V.ref)) (by rw [List.length_map,List.length_map,R4.len]) (fun i q hq=>?_) Ck (by rw [List.length_map,R4.len]; exact aD (by omega)) (fun H' s'=>aK.of (s' _ _ R4.l)) (fun q H5 Q' hq s5 qq=>?_) (fun q H5 Q' hq hp5 s5 qq=>?_) (fun H5 s5 r5=>?_)
   ·have hi:i < rb.length:=by have:=(List.getElem?_eq_some_iff.mp hq).1; rw [List.length_map,← R4.len] at this; exact this
    rw [List.getElem?_map] at hq
    cases e:(aB g ws ss ls n p)[i]? with
    | none=>rw [e] at hq; cases hq
    | some z=>
      rw [e] at hq
      cases hq
      refine ⟨rb[i],by rw [List.getElem?_map,List.getElem?_eq_getElem hi]; rfl,jF.of (R4.t.2 i rb[i] (nG z) (List.getElem?_eq_getElem hi) (by rw [List.getElem?_map,e]; rfl))⟩
   ·obtain ⟨z,hz,rfl⟩:=List.mem_map.mp hq
    exact ⟨_,rfl,_,rfl,lh,_,rfl,.inl (aK.of (s5 _ _ Lw)),rfl,gq _,_,rfl,qq H5 (a6.refl _)⟩
   ·obtain ⟨z,hz,rfl⟩:=List.mem_map.mp hq
    have hm:z.2∈aw ls f:=by
     have:nY (.str z.2) ((aw ls f).map V.str)=true:=hp5
     rw [kU] at this
     exact of_decide_eq_true this
    obtain ⟨i1,i2⟩:=oF hm
    refine ⟨_,rfl,_,rfl,.inl ⟨rfl,_,aK.of (s5 _ _ Lw)⟩,_,rfl,lh,aw ls f,z.2,(aw ls f).idxOf z.2,rfl,rfl,aK.of (s5 _ _ Lw),by omega,i1,i2,by show 2≤sizeLine; decide,fun r hr=>?_⟩
    exact qq _ _ (a6.upd hr) (yx hr (z.1,(aw ls f).idxOf z.2))
   have el:((((aB g ws ss ls n p).map nH).filter fun q=>nY q.2 ((aw ls f).map V.str)).map fun q=>kH.tup [.at q.1,.at (.int (match q.2 with | .str e=>((aw ls f).idxOf e:Nat) | _=>0))])=(j2 g ws ss ls n (aw ls f) p).map ky:=by
    unfold j2
    rw [List.filter_map,List.map_map,List.map_map]
    have ep:((fun q:V×V=>nY q.2 ((aw ls f).map V.str)) ∘ nH)=fun q:Str×Str=>decide (q.2∈aw ls f):=by
     funext q
     exact kU q.2 _
    rw [ep]
    rfl
   rw [el] at r5
   refine ⟨ll,_,_,rfl,rfl,s5 _ _ yu,by rw [JA]; exact Nat.lt_of_le_of_lt (show j≤900 by omega) (by rw [sizeLine_eq]; decide),?_⟩
   have WZ:=s4.trans s5
   have Ou:=s5 _ _ yu
   have kp:∀ c o,H5 c=some o→c≠ll→(upd H5 ll (.lst (as++[.ref lc]))) c=some o:=fun c o e hc=>by rw [ai hc]; exact e
   refine ⟨_,_,as++[.ref lc],rfl,a9,fun c o e hc=>kp _ _ (WZ _ _ (kk c o e hc)) hc,?_⟩
   rw [pW,List.map_append]
   refine jQ (bF.same ((j1 WZ).trans (eU DJ kp)) _ _ hR) ?_
   have old:a6 (bp H4 H5) (bp Hb H5):=fun c o e=>by
    unfold bp at e ⊢
    cases q:Hb c with
    | none=>
      cases q2:H4 c with
      | none=>rw [q2] at e; exact e
      | some z=>rw [q2] at e; cases e
    | some z=>
      by_cases hc:c=ll
      ·rw [hc,yu] at e; cases e
      ·rw [s4 _ _ (kk _ _ q hc)] at e; cases e
   exact eO.same (old.trans (eU DJ kp)) _ _ r5
  ·rintro σ H3 ⟨v6,v7,as,rfl,GB,kk,hR⟩
   rw [List.length_map,List.take_length] at hR
   have II:a6 H2 H3:=fun c o e=>kk _ _ (sb _ _ e) (aj e vG)
   have IE:=E9.trans II
   have NS:=II _ _ hh
   refine ⟨_,rfl,_,rfl,lh,rfl,⟨_,aK.of NS⟩,fun lw Pb=>?_⟩
   refine comp_map (Fl f) (bO K lh ((aw ls f).map V.str)) Pb (by rw [List.length_map]; exact aD (by omega)) (fun H' s'=>aK.of (s' _ _ NS)) (fun z H4 Q' hz s4 qq=>?_) (fun H4 s4 X0=>?_)
   ·obtain ⟨p,hp,rfl⟩:=List.mem_map.mp hz
    have g3:=fq.rd (k:=(Sum.inr p:Key)) (hd.same (IE.trans s4))
    rw [fB,hw p (jg p hp)] at g3
    exact ⟨_,rfl,_,rfl,d,_,rfl,g3,qq H4 (a6.refl _)⟩
   rw [lN] at X0
   have yu:=s4 _ _ GB
   have h4h:=s4 _ _ NS
   refine ⟨_,rfl,fun y dy ny Uq ney=>?_⟩
   have sm:a6 H4 (upd (upd H4 dy (.own y)) y (.ins L.ao dy [])):=lJ ny Uq
   refine ⟨y,dy,.ref lh,.ref lw,.ref ll,aw ls f,(aw ls f).map f,eB g ws ss ls n (aw ls f),rfl,a9,qV (sm _ _ h4h),qW (sm _ _ X0),?_,by omega,by rw [List.length_map]; omega,by unfold eB; rw [List.length_map]; omega,?_,fun a' b' c' H5 hy5 r1 r2 r3 kp5=>⟨rfl,?_⟩⟩
   ·have Jv:bF K H4 ((aw ls f).map fun p=>dE (j2 g ws ss ls n (aw ls f) p)) as:=bF.same ((oE _ _).trans s4) _ _ hR
    refine ⟨ll,as,rfl,.inl (sm _ _ yu),?_⟩
    have e:(eB g ws ss ls n (aw ls f)).map dE=(aw ls f).map fun p=>dE (j2 g ws ss ls n (aw ls f) p):=by
     unfold eB
     rw [List.map_map]
     rfl
    rw [e]
    exact bF.same sm _ _ Jv
   ·intro l hl
    obtain ⟨p,_,rfl⟩:=List.mem_map.mp hl
    have:=AD g ws ss ls n (aw ls f) p
    omega
   ·have s5:a6 H4 H5:=fun c o e=>kp5 _ _ (sm _ _ e) (aj e ny)
    refine k y H5 (IE.trans (s4.trans s5)) ?_
    have Ut:H y=none:=none_of (IE.trans s4) ny
    have nw:=fun (d:kH) (v:V) (r:eO K (bp _ H5) d v)=>eO.same (jP ((IE.trans s4).trans sm)) d v r
    exact ⟨dy,a',b',c',fN Ut hy5,nw _ _ r1,nw _ _ r2,nw _ _ r3⟩
theorem jx:az ["band","wide","ends","place"] ["band","wide"] (aa (top 39)):=⟨rfl,rfl,rfl,by decide +kernel,rfl,by decide +kernel,by decide +kernel⟩
theorem sT (L:Lk K mg):bD P w K mg base iN 5 L.dS L.gL ["band","wide"] (yk L.aA):=by
 have T:=L.T
 refine L.cu.F.ok jx (fun vs H Q E h=>?_) (fun cR A outer s H vs Q E hr h=>?_)
 ·obtain ⟨x,n,g,ws,ss,ls,rfl,_⟩:=h
  rfl
 ·obtain ⟨x,n,g,ws,ss,ls,rfl,B,Ga,hn,Jz,yF,Iz,k⟩:=h
  have hu:=iX hr
  refine ⟨_,(a7 (av (i:=2) jx.nd rfl (Or.inl rfl) iW)
   (a7 (bH PassesOwn.never rfl (bh (qe (pv 0) L.aX.cl L.dH.m (kh L) (hr.mono (by decide)) L.dH.b .nil aC)) (aG (i:=3) jx.nd rfl (Or.inl rfl)) (ag (i5 hu (pv 2) (pv 3) (lj rfl (ay (sc:=aa (top 39)) (N:=["band","wide","ends","place"]) (ys:=[]) (ix:=[]) rfl rfl (by decide +kernel)) (ay (sc:=aa (top 39)) (N:=["band","wide","ends","place"]) (ys:=[]) (ix:=[]) rfl rfl (by decide +kernel)) (by decide) (bh (aq (jd L) (hr.mono (by decide)) rfl L.aR.g L.aR.F.kp L.aR.b .nil aC (a5 (pv 0) (a5 (pv 3) (a5 (pv 1) a8))))) (fun _ _ _ _ _ _=>du) (fun _ _ _ _ _ _=>(pv 1))) rfl)))
   (ag (aF (pv 2))))),?_⟩
  refine fun de Ea=>?_
  have s0:a6 H (upd H de (.dK [])):=a6.upd Ea
  have B0:=B.same s0
  obtain ⟨⟨dx,b,d,q,mv,h1,h2,h3,h4,h5,h6⟩,pm,_,_⟩:=id B0
  refine ⟨_,rfl,x,dx,_,rfl,h1,M4 _ _ _ _ (by decide +kernel) (by decide +kernel) (by decide +kernel) (by decide +kernel),x,g,ws,ss,ls,rfl,B0,fun lp H1 s1 f1 Uv=>?_⟩
  have Rj:lp≠de:=fun z=>by rw [z,a9] at f1; cases f1
  have nd:ls.Nodup:=B.nd.sublist B.lv.sub
  have vt:ls.length≤900:=Nat.le_trans B.lv.sub.length_le Iz
  refine ⟨lp,rfl,⟨_,aK.of Uv⟩,eQ (K:=K) (a:=lp) (xs:=ls.map V.str) (fun i σ H2=>∃ v3 ev,σ=[some (.ref x),some (.int (n:Int)),some (.ref de),v3]∧H2 de=some (.dK (aY ev))∧ev.map (·.1)=ls.take i∧(∀ m∈ev,H2 m.2=some (.lst (((aB g ws ss ls n m.1).map (·.2)).map V.str)))∧(∀ m∈ev,H1 m.2=none)∧(∀ c o,H1 c=some o→c≠de→H2 c=some o))
   ⟨none,[],rfl,s1 _ _ a9,rfl,fun m hm=>(nomatch hm),fun m hm=>(nomatch hm),fun c o e _=>e⟩ (fun i σ H2 _ ⟨_,_,_,_,_,_,_,kk⟩=>aK.of (kk _ _ Uv Rj)) ?_ ?_⟩
  ·rintro i y σ H5 hy ⟨v3,ev,rfl,G8,oN,lD,Ao,kk⟩
   obtain ⟨p,Mv,rfl,hi,vn,pW⟩:=jK hy
   have sH5:a6 H H5:=fun c o e=>kk _ _ (s1 _ _ (s0 _ _ e)) (aj e Ea)
   refine ⟨_,rfl,_,rfl,_,rfl,x,p,n,g,ws,ss,ls,rfl,B.same sH5,vn,Ga,hn,Jz,yF,fun lb rs H6 s6 f6 R6=>?_⟩
   have WY:=gY g ws ss ls n p
   have vD:=R6.len
   refine ⟨lb,rfl,⟨_,aK.of R6.l⟩,fun e he=>?_⟩
   refine qM (prs:=(aB g ws ss ls n p).map nH) (fun _=>true) (fun q=>q.2) (bO K lb (rs.map V.ref)) (by rw [Ca]; exact R6.t) he (aD (by omega)) (fun H' s'=>aK.of (s' _ _ R6.l)) (fun q H7 Q' _ _ qq=>qq H7 (a6.refl _)) (fun q H7 Q' _ _ _ qq=>⟨_,rfl,qq H7 (a6.refl _)⟩) (fun H7 s7 h7=>?_)
   have e7:(((aB g ws ss ls n p).map nH).filter fun _=>true).map (fun q=>q.2)=((aB g ws ss ls n p).map (·.2)).map V.str:=by
    rw [List.filter_eq_self.mpr (fun _ _=>rfl),List.map_map,List.map_map]
    rfl
   rw [e7] at h7
   have IJ:=s6.trans s7
   have d6:=IJ _ _ G8
   have IA:H5 e=none:=none_of s6 he
   have vE:p∉ev.map (·.1):=by rw [oN]; exact nB nd Mv
   have Uw:ev.length≤900:=by have:=congrArg List.length oN; rw [List.length_map,List.length_take] at this; omega
   refine ⟨_,rfl,_,rfl,de,_,rfl,kR.k (k:=Sum.inr p) d6 (by unfold aY; rw [List.length_map]; exact fu (by omega)),?_⟩
   have DH:e≠de:=fun z=>by rw [z,G8] at IA; cases IA
   have e1:H1 e=none:=by
    cases q:H1 e with
    | none=>rfl
    | some o=>
      have:=kk _ _ q DH
      rw [this] at IA; cases IA
   refine ⟨_,ev++[(p,e)],rfl,?_,?_,?_,?_,?_⟩
   ·rw [a9,fM _ (g6 vE)]
    unfold aY
    rw [List.map_append]
    rfl
   ·rw [List.map_append,oN,pW]
    rfl
   ·intro m hm
    rcases List.mem_append.mp hm with z | z
    ·have nm:m.2≠de:=fun q=>by
      have:=Ao m z
      rw [q,s1 _ _ a9] at this
      cases this
     rw [ai nm]
     exact IJ _ _ (lD m z)
    ·have:m=(p,e):=by simpa using z
     subst this
     rw [ai DH]
     exact h7
   ·intro m hm
    rcases List.mem_append.mp hm with z | z
    ·exact Ao m z
    ·have:m=(p,e):=by simpa using z
     subst this
     exact e1
   ·intro c o hc P6
    rw [ai P6]
    exact IJ _ _ (kk c o hc P6)
  ·rintro σ H5 ⟨v3,ev,rfl,G8,oN,lD,Ao,kk⟩
   rw [List.length_map,List.take_length] at oN
   exact ⟨_,rfl,k de ev H5 (fun c o e=>kk _ _ (s1 _ _ (s0 _ _ e)) (aj e Ea)) Ea G8 oN lD fun m hm=>none_of s0 (none_of s1 (Ao m hm))⟩
theorem vH:az ["places","weights"] ["places","weights"] (aa (top 40)):=⟨rfl,rfl,rfl,by decide +kernel,rfl,by decide +kernel,by decide +kernel⟩
theorem vI (L:Lk K mg):bD P w K mg base iN 1 L.fg L.iz ["places","weights"] (Fx K):=by
 have T:=L.T
 refine L.cW.F.ok vH (fun vs H Q E h=>?_) (fun cR A outer s H vs Q E hr h=>?_)
 ·obtain ⟨l,d,es,m,f,rfl,_⟩:=h
  rfl
 ·obtain ⟨l,d,es,m,f,rfl,hS,Mt,hd,hw,k⟩:=h
  have hu:=iX hr
  refine ⟨_,(ag (aF (au (kZ rfl) (by rfl) T.sum Fe (a5 (eK rfl (ay (sc:=aa (top 40)) (N:=["places","weights"]) (ys:=["weights"]) (ix:=[1]) rfl rfl (by decide +kernel)) (bh (pv 0)) (fun _ _ _ _ _ _=>du) (fun _ _ _ _ _ _=>(ft hu (pv 1) (pv 0) (fun _ _=>rfl)))) a8)))),?_⟩
  refine ⟨_,rfl,l,rfl,⟨_,hS⟩,fun lc Ck=>?_⟩
  refine comp_map (Fl f) (bO K l (es.map V.str)) Ck (by rw [List.length_map]; exact aD (by omega)) (fun H' s'=>s'.seq hS) (fun z H3 Q' hz s3 qq=>?_) (fun H3 s3 h3=>?_)
  ·obtain ⟨e,he,rfl⟩:=List.mem_map.mp hz
   have g3:=fq.rd (k:=(Sum.inr e:Key)) (hd.same s3)
   rw [fB,hw e he] at g3
   exact ⟨_,rfl,_,rfl,d,_,rfl,g3,qq H3 (a6.refl _)⟩
  ·rw [lN] at h3
   exact ⟨lc,_,rfl,aK.of h3,k H3 s3⟩
theorem mN:az ["ends","many","weights","lower","place"] ["ends","many","weights"] (aa (top 41)):=⟨rfl,rfl,rfl,by decide +kernel,rfl,by decide +kernel,by decide +kernel⟩
theorem AW (L:Lk K mg):bD P w K mg base iN 2 L.hX L.jU ["ends","many","weights"] Dw:=by
 have T:=L.T
 refine L.fE.F.ok mN (fun vs H Q E h=>?_) (fun cR A outer s H vs Q E hr h=>?_)
 ·obtain ⟨de,dw,many,n,o,ev,f,g,ws,ss,ls,rfl,_⟩:=h
  rfl
 ·obtain ⟨de,dw,many,n,o,ev,f,g,ws,ss,ls,rfl,Ea,ek,er,Ga,nd,vt,X1,hm8,uI,k⟩:=h
  have hu:=iX hr
  refine ⟨_,(a7 (av (i:=3) mN.nd rfl (Or.inl rfl) iW)
   (a7 (bH PassesOwn.never rfl (k8 (pv 0)) (aG (i:=4) mN.nd rfl (Or.inl rfl)) (ag (i5 hu (pv 3) (pv 4) (au (jG rfl) (by rfl) T.min Dh (a5 (ft hu (pv 2) (pv 4) (fun _ _=>rfl)) (a5 (aI fV (aq (vI L) (hr.mono (by decide)) rfl L.cW.g L.cW.F.kp L.cW.b .nil aC (a5 (ft hu (pv 0) (pv 4) (fun _ _=>rfl)) (a5 (pv 2) a8))) (pv 1)) a8))) rfl)))
   (ag (aF (pv 3))))),?_⟩
  refine fun dl zI=>?_
  have s0:a6 H (upd H dl (.dK [])):=a6.upd zI
  have J:=lM de o (aY ev)
  rw [jY,ek] at J
  refine ⟨_,rfl,de,_,rfl,.inr ⟨o,s0 _ _ Ea,?_⟩⟩
  refine oj J (fun j σ H3=>∃ (v4:Option V),σ=[some (.ref de),some (.int many),some (.ref dw),some (.ref dl),v4]∧H3 dl=some (.dK (bC (dD (lx g ws ss ls many n f) (ls.take j))))∧a6 H H3) ⟨none,rfl,a9,s0⟩ (fun j σ H3 _ ⟨_,_,_,s3⟩=>s3 _ _ Ea) ?_ ?_
  ·rintro j y σ H3 hy ⟨v4,rfl,h3,s3⟩
   obtain ⟨p,Lv,rfl,hj,vn,pW⟩:=jK hy
   have Pm:=uI.same s3
   have g3:=fq.rd (k:=(Sum.inr p:Key)) Pm
   rw [fB,lQ f ls p vn] at g3
   obtain ⟨a,ha,hv⟩:=gr (mv:=ev) (k:=p) (by rw [ek]; exact vn)
   have e1:=fq.f (k:=(Sum.inr p:Key)) (s3 _ _ Ea)
   rw [hv] at e1
   have hra:=s3 _ _ (er _ ha)
   have WY:=gY g ws ss ls n p
   refine ⟨_,rfl,_,rfl,dw,_,rfl,g3,_,rfl,_,rfl,de,_,rfl,e1,_,rfl,a,dw,(aB g ws ss ls n p).map (·.2),_,f,rfl,aK.of hra,by rw [List.length_map]; omega,Pm,fun e he=>?_,fun H4 s4=>?_⟩
   ·obtain ⟨q,hq,rfl⟩:=List.mem_map.mp he
    exact lQ f ls _ (g7 hq)
   have eb:(((aB g ws ss ls n p).map (·.2)).map f).sum=j0 g ws ss ls n f p:=by unfold j0; rw [List.map_map]; rfl
   refine ⟨_,rfl,_,_,rfl,rfl,⟨by omega,by omega⟩,_,_,rfl,?_⟩
   have h4:=s4 _ _ h3
   have vE:p∉(dD (lx g ws ss ls many n f) (ls.take j)).map (·.1):=by rw [oB]; exact nB nd Lv
   refine ⟨_,rfl,_,rfl,dl,_,rfl,kR.k (k:=Sum.inr p) h4 (by rw [lP]; unfold dD; rw [List.length_map,List.length_take]; exact fu (by omega)),?_⟩
   refine ⟨_,rfl,?_,fun c oc e=>?_⟩
   ·rw [a9,ux vE,eb,pW]
    unfold dD
    rw [List.map_append]
    rfl
   ·rw [ai (aj e zI)]
    exact s4 _ _ (s3 _ _ e)
  ·rintro σ H3 ⟨v4,rfl,h3,s3⟩
   rw [List.length_map,List.take_length] at h3
   exact ⟨_,rfl,k dl H3 s3 zI h3⟩
theorem gu:az ["band","many","wide","most","ends","weights","place","lower"] ["band","many","wide","most"] (aa (top 42)):=⟨rfl,rfl,rfl,by decide +kernel,rfl,by decide +kernel,by decide +kernel⟩
theorem yL (L:Lk K mg):bD P w K mg base iN 6 L.fh L.j8 ["band","many","wide","most"] (Ib L.aA):=by
 have T:=L.T
 refine L.dU.F.ok gu (fun vs H Q E h=>?_) (fun cR A outer s H vs Q E hr h=>?_)
 ·obtain ⟨x,many,n,most,g,ws,ss,ls,rfl,_⟩:=h
  rfl
 ·obtain ⟨x,many,n,most,g,ws,ss,ls,rfl,B,Jz,yF,Iz,DI,Pn,k⟩:=h
  have hu:=iX hr
  have Iy:(A.deeper (PyProof.Rows.envOfC "greatest" (aa (top 42)) s.heap.objs.size L.fh cR)).units < cLine:=hr.qc
  refine ⟨_,(a7 (fo (aq (mh L) (hr.mono (by decide)) rfl L.bu.g L.bu.F.kp L.bu.b .nil aC (a5 (pv 0) (a5 (pv 1) (a5 (pv 2) a8)))))
   (a7 (av (i:=4) gu.nd rfl (Or.inl rfl) (aq (sT L) (hr.mono (by decide)) rfl L.cu.g L.cu.F.kp L.cu.b .nil aC (a5 (pv 0) (a5 (pv 2) a8))))
   (a7 (av (i:=5) gu.nd rfl (Or.inl rfl) iW)
   (a7 (bH PassesOwn.never rfl (Fu (pv 4)) (aG (i:=6) gu.nd rfl (Or.inl rfl)) (ag (i5 hu (pv 5) (pv 6) (pv 3) rfl)))
   (ag (qb PassesOwn.never (eI iR) (a7 (av (i:=7) gu.nd rfl (Or.inl rfl) (aq (AW L) (hr.mono (by decide)) rfl L.fE.g L.fE.F.kp L.fE.b .nil aC (a5 (pv 4) (a5 (pv 1) (a5 (pv 5) a8)))))
   (a7 (bV (aH (L7 Iy) (pv 7) (pv 5) (aS _)) (ag (aF (pv 5))) aP)
   (ag (av (i:=5) gu.nd rfl (Or.inl rfl) (pv 7))))))))))),?_⟩
  obtain ⟨ra,rb,rc,rd,re⟩:=id DI
  have Ga:g.length ^ n≤64:=by
   rw [Int.toNat_natCast] at re
   have:((g.length ^ n:Nat):Int)≤64:=by rw [Int.natCast_pow]; exact re
   omega
  have nd:ls.Nodup:=B.nd.sublist B.lv.sub
  have vt:ls.length≤900:=Nat.le_trans B.lv.sub.length_le Iz
  refine ⟨_,rfl,_,rfl,_,rfl,x,many,n,g,ws,ss,ls,rfl,B,yF,DI,?_⟩
  refine ⟨_,rfl,_,rfl,x,n,g,ws,ss,ls,rfl,B,by omega,by omega,Jz,yF,Iz,fun de ev H1 s1 fde h1 ek er ef=>?_⟩
  have hed:∀ q∈ev,q.2≠de:=fun q hq z=>by have:=er q hq; rw [z,h1] at this; cases this
  refine fun dw uI=>?_
  have DH:de≠dw:=aj h1 uI
  have CY:(upd H1 dw (.dK [])) de=some (.dK (aY ev)):=a6.upd uI _ _ h1
  refine ⟨_,rfl,de,_,rfl,.inl CY,fun o H2 h2 Ro=>?_⟩
  have Ux:H2 dw=some (.dK []):=by rw [Ro dw (Ne.symm DH),a9]
  have s2:a6 H H2:=fun c oc e=>by
   rw [Ro c (aj e fde)]
   exact a6.upd uI _ _ (s1 _ _ e)
  have Uy:∀ m∈ev,H2 m.2=some (.lst (((aB g ws ss ls n m.1).map (·.2)).map V.str)):=fun m hm=>by
   rw [Ro _ (hed m hm)]
   exact a6.upd uI _ _ (er m hm)
  have Rp:H dw=none:=none_of s1 uI
  have J:=lM de o (aY ev)
  rw [jY,ek] at J
  refine oj J (fun j σ H3=>∃ (v6:Option V),σ=[some (.ref x),some (.int many),some (.int (n:Int)),some (.int most),some (.ref de),some (.ref dw),v6,none]∧H3 dw=some (.dK (bC (dD (fun _=>most) (ls.take j))))∧∀ c oc,H2 c=some oc→c≠dw→H3 c=some oc) ⟨none,rfl,Ux,fun c oc e _=>e⟩ (fun j σ H3 _ ⟨_,_,_,kk⟩=>kk _ _ h2 DH) ?_ ?_
  ·rintro j y σ H3 hy ⟨v6,rfl,h3,kk⟩
   obtain ⟨p,Lv,rfl,hj,vn,pW⟩:=jK hy
   have vE:p∉(dD (fun _=>most) (ls.take j)).map (·.1):=by rw [oB]; exact nB nd Lv
   refine ⟨_,rfl,_,rfl,_,rfl,dw,_,rfl,kR.k (k:=Sum.inr p) h3 (by rw [lP]; unfold dD; rw [List.length_map,List.length_take]; exact fu (by omega)),?_⟩
   refine ⟨_,rfl,?_,fun c oc e hc=>by rw [ai hc]; exact kk c oc e hc⟩
   rw [a9,ux vE,pW]
   unfold dD
   rw [List.map_append]
   rfl
  rintro σ H3 ⟨v6,rfl,h3,kk⟩
  rw [List.length_map,List.take_length] at h3
  have h3e:=kk _ _ h2 DH
  have s3:a6 H H3:=fun c oc e=>kk _ _ (s2 _ _ e) (aj e Rp)
  have lD:∀ m∈ev,m.2≠dw:=fun m hm z=>by have:=Uy m hm; rw [z,Ux] at this; cases this
  have er3:∀ m∈ev,H3 m.2=some (.lst (((aB g ws ss ls n m.1).map (·.2)).map V.str)):=fun m hm=>kk _ _ (Uy m hm) (lD m hm)
  clear kk h2 Ux Uy er h1 Ro CY J uI
  refine ⟨fun q σ H4=>∃ (dw:Addr) (f:Str→Int) (v6 v7:Option V),q=(ls.map fun p=>(f p).toNat).sum∧σ=[some (.ref x),some (.int many),some (.int (n:Int)),some (.int most),some (.ref de),some (.ref dw),v6,v7]∧a6 H3 H4∧H dw=none∧H4 dw=some (.dK (bC (dD f ls)))∧(∀ p∈ls,0≤f p)∧(∀ p∈ls,f p≤most)∧(∀ h:Str→Int,(∀ p∈ls,h p≤most)→FD g ws ss ls many n h→∀ p∈ls,h p≤f p),
   ⟨_,dw,fun _=>most,v6,none,rfl,rfl,a6.refl _,Rp,h3,fun _ _=>Pn,fun _ _=>Int.le_refl _,fun h hh _ p hp=>hh p hp⟩,?_⟩
  rintro q σ H4 ⟨dw,f,v6,v7,rfl,rfl,s4,Rp,h4,JE,X2,X3⟩
  refine ⟨true,rfl,kD ?_⟩
  refine ⟨fun σ' H'=>∃ (dl:Addr) (v6 v7:Option V),σ'=[some (.ref x),some (.int many),some (.int (n:Int)),some (.int most),some (.ref de),some (.ref dl),v6,v7]∧a6 H3 H'∧H dl=none∧H' dl=some (.dK (bC (dD (lx g ws ss ls many n f) ls)))∧¬ ∀ p∈ls,lx g ws ss ls many n f p=f p,?_,?_⟩
  ·rintro σ' H' ⟨dl,v6,v7,rfl,s',Uz,h',kF⟩
   exact ⟨_,L9 ra JE kF,dl,_,_,_,rfl,rfl,s',Uz,h',FI ra JE,fun p hp=>Int.le_trans (FH many n f p) (X2 p hp),fun h hh Pp=>Dv ra Pp (X3 h hh Pp)⟩
  ·refine ⟨_,rfl,_,rfl,_,rfl,de,dw,many,n,o,ev,f,g,ws,ss,ls,rfl,s4 _ _ h3e,ek,fun m hm=>s4 _ _ (er3 m hm),by omega,nd,vt,ra,rb,.inl h4,fun dl H5 s5 Uz h5=>?_⟩
   have X4:=s5 _ _ h4
   refine ⟨_,rfl,_,rfl,dl,dw,_,_,rfl,rfl,.inl h5,.inl X4,qO _,qO _,_,rfl,?_⟩
   refine uV (fun he=>?_) (fun he=>?_)
   ·have e:=Jn.mp he
    exact ⟨_,rfl,k dw f H5 ((s3.trans s4).trans s5) Rp X4 ⟨JE,X2,Ia ra e,X3⟩⟩
   ·exact ⟨_,rfl,dl,_,_,rfl,s4.trans s5,none_of s3 (none_of s4 Uz),h5,fun e=>he (Jn.mpr e)⟩
theorem Pq:∀ d:Int,0≤d→d < 4→∃ n:Nat,pA ([.int 2,.int 3,.int 2,.int 4]:List V) d=some (.int (n:Int))∧n∈[2,3,4]:=by
 intro d h0 h1
 have:d=0∨d=1∨d=2∨d=3:=by omega
 rcases this with rfl | rfl | rfl | rfl
 ·exact ⟨2,rfl,by decide⟩
 ·exact ⟨3,rfl,by decide⟩
 ·exact ⟨2,rfl,by decide⟩
 ·exact ⟨4,rfl,by decide⟩
theorem Pt:∀ d:Int,0≤d→d < 6→∃ n:Nat,pA ([.int 1,.int 5,.int 7,.int 11,.int 13,.int 17]:List V) d=some (.int (n:Int))∧n∈[1,5,7,11,13,17]:=by
 intro d h0 h1
 have:d=0∨d=1∨d=2∨d=3∨d=4∨d=5:=by omega
 rcases this with rfl | rfl | rfl | rfl | rfl | rfl
 ·exact ⟨1,rfl,by decide⟩
 ·exact ⟨5,rfl,by decide⟩
 ·exact ⟨7,rfl,by decide⟩
 ·exact ⟨11,rfl,by decide⟩
 ·exact ⟨13,rfl,by decide⟩
 ·exact ⟨17,rfl,by decide⟩
theorem pw:az ["_law_script","_law_k","_law_cell"] ["_law_script","_law_k"] (aa (top 44)):=⟨rfl,rfl,rfl,by decide +kernel,rfl,by decide +kernel,by decide +kernel⟩
theorem gv (L:Lk K mg):bD P w K mg base iN 1 L.gd L.j9 ["_law_script","_law_k"] (Oo K):=by
 have T:=L.T
 refine L.aJ.F.ok pw (fun vs H Q E h=>?_) (fun cR A outer s H vs Q E hr h=>?_)
 ·obtain ⟨a,ns,p,rfl,_⟩:=h
  rfl
 ·obtain ⟨a,ns,p,rfl,hS,k⟩:=h
  refine ⟨_,(a7 (bH PassesOwn.never rfl (bh (iV BX (pv 0) (iI (pv 1)) (iI (aI eJ (pv 1) ae)))) (aG (i:=2) pw.nd rfl (Or.inl rfl)) (ag (aF (pv 2))))
   (ag (aF ae))),?_⟩
  refine ⟨_,rfl,_,rfl,_,rfl,_,rfl,_,_,rfl,rfl,_,rfl,a,_,rfl,hS,fun l hl=>?_⟩
  obtain ⟨ms,em,_⟩:=Fn ns (some p) (some (p + 1))
  rw [em]
  have s1:a6 H (upd H l (.lst (ms.map V.int))):=a6.upd hl
  refine ⟨l,rfl,⟨_,aK.of a9⟩,eQ (K:=K) (a:=l) (xs:=ms.map V.int) (fun i σ H2=>H2=upd H l (.lst (ms.map V.int))∧∃ v2,σ=[some (.ref a),some (.int p),v2]) ⟨rfl,none,rfl⟩ (fun i σ H2 _ q=>by rw [q.1]; exact aK.of a9) ?_ ?_⟩
  ·rintro i y σ H2 hy ⟨rfl,v2,rfl⟩
   obtain ⟨c,_,rfl⟩:=List.mem_map.mp (List.mem_of_getElem? hy)
   exact ⟨_,rfl,k c _ s1⟩
  ·rintro σ H2 ⟨rfl,v2,rfl⟩
   exact k 0 _ s1
theorem cB:az ["_law_cell","_law_turn","_law_many","_law_digits","_law_step","_law_low","_law_high","_law_number"] ["_law_cell","_law_turn","_law_many"] (aa (top 45)):=⟨rfl,rfl,rfl,by decide +kernel,rfl,by decide +kernel,by decide +kernel⟩
theorem aM (L:Lk K mg):bD P w K mg base iN 1 L.dW L.gM ["_law_cell","_law_turn","_law_many"] KD:=by
 have T:=L.T
 refine L.af.F.ok cB (fun vs H Q E h=>?_) (fun cR A outer s H vs Q E hr h=>?_)
 ·obtain ⟨c,t,m,rfl,_⟩:=h
  rfl
 ·obtain ⟨c,t,m,rfl,ht0,ht1,hm,k⟩:=h
  refine ⟨_,(a7 (bV (aH m3 (aI iS (pv 0) ae) ae (aS _)) (a7 (av (i:=3) cB.nd rfl (Or.inl rfl) (aI fV (au xI (by rfl) T.abs Om (a5 (pv 0) a8)) ae))
   (a7 (bH PassesOwn.never rfl (cC rfl T.range (a5 (pv 1) a8)) (aG (i:=4) cB.nd rfl (Or.inl rfl)) (ag (av (i:=3) cB.nd rfl (Or.inl rfl) (aI fV (pv 3) ae))))
   (ag (aF (aI iS (aI iS (pv 3) ae) (pv 2)))))) aP)
   (a7 (av (i:=5) cB.nd rfl (Or.inl rfl) (aI iS (pv 0) ae))
   (a7 (av (i:=6) cB.nd rfl (Or.inl rfl) (aI iS (aI fV (pv 0) ae) ae))
   (a7 (av (i:=7) cB.nd rfl (Or.inl rfl) (aI eJ (aI js (pv 5) (aI eJ ae (aI js (pv 1) ae))) (aI js (pv 6) (aI eJ (pv 1) ae))))
   (a7 (av (i:=7) cB.nd rfl (Or.inl rfl) (aI iS (aI eJ (aI eJ (pv 7) (aI js (aI js (pv 1) (pv 1)) ae)) ae) ae))
   (ag (aF (aI iS (aI iS (aI js (pv 7) (pv 7)) ae) (pv 2))))))))),?_⟩
  refine ⟨_,rfl,_,_,rfl,rfl,(by show (0:Int) < 2; decide),rfl,_,rfl,?_⟩
  refine uV (fun _=>?_) (fun _=>?_)
  ·refine ⟨_,rfl,c,rfl,_,_,rfl,rfl,⟨by decide,by decide⟩,?_⟩
   refine ⟨_,rfl,_,rfl,by omega,by omega,dz (lo:=0) (n:=t.toNat) (fun i σ H2=>H2=H∧∃ dg v4,σ=[some (.int c),some (.int t),some (.int m),some (.int dg),v4,none,none,none]) ⟨rfl,_,none,rfl⟩ ?_ ?_⟩
   ·rintro i σ H2 hi ⟨rfl,dg,v4,rfl⟩
    exact ⟨_,rfl,_,_,rfl,rfl,⟨by decide,by decide⟩,rfl,_,_,rfl⟩
   ·rintro σ H2 ⟨rfl,dg,v4,rfl⟩
    exact ⟨_,rfl,_,_,rfl,rfl,(by show (0:Int) < 1000003; decide),_,rfl,_,_,rfl,rfl,hm,k _ (Int.emod_nonneg _ (by omega)) (Int.emod_lt_of_pos _ hm)⟩
  ·refine ⟨_,rfl,_,_,rfl,rfl,(by show (0:Int) < 998244353; decide),?_⟩
   have l0:=Int.emod_nonneg c (show (998244353:Int)≠0 by decide)
   have l1:=Int.emod_lt_of_pos c (show (0:Int) < 998244353 by decide)
   generalize c % 998244353=lw at l0 l1 ⊢
   refine ⟨_,rfl,_,_,rfl,rfl,⟨by decide,by decide⟩,_,_,rfl,rfl,(by show (0:Int) < 1000000007; decide),?_⟩
   have g0:=Int.emod_nonneg (c / 998244353) (show (1000000007:Int)≠0 by decide)
   have g1:=Int.emod_lt_of_pos (c / 998244353) (show (0:Int) < 1000000007 by decide)
   generalize c / 998244353 % 1000000007=hg at g0 g1 ⊢
   refine ⟨_,rfl,_,rfl,_,_,rfl,rfl,.inr ⟨by decide,by decide⟩,_,_,rfl,rfl,_,_,rfl,rfl,.inl ⟨by omega,by omega⟩,_,rfl,_,rfl,_,_,rfl,rfl,_,_,rfl,rfl,.inl ⟨by omega,by omega⟩,_,_,rfl,rfl,?_⟩
   generalize lw * (4099 + t * 30) + hg * (t + 2)=nn
   refine ⟨_,rfl,_,rfl,_,rfl,_,_,rfl,rfl,.inl ⟨by omega,by omega⟩,_,_,rfl,rfl,.inr ⟨by decide,by decide⟩,_,_,rfl,rfl,_,_,rfl,rfl,_,_,rfl,rfl,(by show (0:Int) < 1000000007; decide),?_⟩
   have n0:=Int.emod_nonneg (nn + t * t * 104729 + 31) (show (1000000007:Int)≠0 by decide)
   have n1:=Int.emod_lt_of_pos (nn + t * t * 104729 + 31) (show (0:Int) < 1000000007 by decide)
   generalize (nn + t * t * 104729 + 31) % 1000000007=mm at n0 n1 ⊢
   exact ⟨_,rfl,_,rfl,_,_,rfl,rfl,.inl ⟨by omega,by omega⟩,_,_,rfl,rfl,(by show (0:Int) < 1000000007; decide),_,rfl,_,_,rfl,rfl,hm,k _ (Int.emod_nonneg _ (by omega)) (Int.emod_lt_of_pos _ hm)⟩
theorem fU:az ["_law_cell","_law_letters","_law_many","_law_start","_law_step"] ["_law_cell"] (aa (top 46)):=⟨rfl,rfl,rfl,by decide +kernel,rfl,by decide +kernel,by decide +kernel⟩
theorem sU (L:Lk K mg):bD P w K mg base iN 2 L.dX L.gN ["_law_cell"] HE:=by
 have T:=L.T
 refine L.cw.F.ok fU (fun vs H Q E h=>?_) (fun cR A outer s H vs Q E hr h=>?_)
 ·obtain ⟨c,rfl,_⟩:=h
  rfl
 ·obtain ⟨c,rfl,k⟩:=h
  refine ⟨_,(a7 (av (i:=1) fU.nd rfl (Or.inr rfl) jr)
   (a7 (av (i:=2) fU.nd rfl (Or.inl rfl) (cz b8 (cQ (a5 ae (a5 ae (a5 ae (a5 ae a8))))) (aq (aM L) (hr.mono (by decide)) rfl L.af.g L.af.F.kp L.af.b .nil aC (a5 (pv 0) (a5 ae (a5 ae a8)))) (fun _ _=>rfl)))
   (a7 (av (i:=3) fU.nd rfl (Or.inr rfl) (aq (aM L) (hr.mono (by decide)) rfl L.af.g L.af.F.kp L.af.b .nil aC (a5 (pv 0) (a5 ae (a5 ae a8)))))
   (a7 (av (i:=4) fU.nd rfl (Or.inr rfl) (cz b8 (cQ (a5 ae (a5 ae (a5 ae (a5 ae (a5 ae (a5 ae a8))))))) (aq (aM L) (hr.mono (by decide)) rfl L.af.g L.af.F.kp L.af.b .nil aC (a5 (pv 0) (a5 ae (a5 ae a8)))) (fun _ _=>rfl)))
   (ag (aF (nk PySem.F.plainAttrs_str PySem.F.slot_str_join PySem.F.type_str_join C3 jr (a5 (eK rfl (ay (sc:=aa (top 46)) (N:=["_law_cell","_law_letters","_law_many","_law_start","_law_step"]) (ys:=["_law_letters","_law_start","_law_step"]) (ix:=[1,3,4]) rfl rfl (by decide +kernel)) (cC rfl T.range (a5 (pv 2) a8)) (fun _ _ _ _ _ _=>du) (fun _ _ _ _ _ _=>(cz Ew (pv 1) (aI iS (aI eJ (pv 2) (aI js (pv 0) (pv 3))) ae) (fun _ _=>rfl)))) a8)))))))),?_⟩
  refine ⟨by decide,fun p hp=>?_⟩
  refine ⟨_,rfl,c,1,4,rfl,by decide,by decide,by decide,fun d h0 h1=>?_⟩
  obtain ⟨n,hn,n1⟩:=Pq d h0 h1
  refine ⟨p,_,d,_,rfl,rfl,aK.of a9,hn,?_⟩
  refine ⟨_,rfl,c,2,36,rfl,by decide,by decide,by decide,fun Jd q0 q1=>?_⟩
  obtain ⟨st,rfl⟩:∃ st:Nat,Jd=(st:Int):=⟨Jd.toNat,by omega⟩
  have xG:st < 36:=by omega
  refine ⟨by decide,fun p2 Qs=>?_⟩
  refine ⟨_,rfl,c,3,6,rfl,by decide,by decide,by decide,fun d2 h2 h3=>?_⟩
  obtain ⟨sp,zZ,X5⟩:=Pt d2 h2 h3
  refine ⟨p2,_,d2,_,rfl,rfl,aK.of a9,zZ,?_⟩
  have X6:sp≤17:=by
   simp only [List.mem_cons,List.not_mem_nil,or_false] at X5
   omega
  have hn4:n≤4:=by
   simp only [List.mem_cons,List.not_mem_nil,or_false] at n1
   omega
  refine ⟨rfl,_,rfl,(n:Int),rfl,by omega,by omega,fun l hl=>?_⟩
  rw [Int.toNat_natCast]
  refine comp_map (HY st sp) (mz 0 n) hl (by rw [List.length_map,List.length_range]; exact aD (by omega)) (fun _ _=>trivial) (fun x H3 Q' hx s3 q=>?_) (fun H' s' o9=>?_)
  ·obtain ⟨i,hi,rfl⟩:=List.mem_map.mp hx
   have VE:i < n:=List.mem_range.mp hi
   have hd:(st + i * sp) % 36 < (ch gm).length:=by rw [aT,qz]; exact Nat.mod_lt _ (by decide)
   have e1:(ch gm)[(st + i * sp) % 36]?=some ((ch gm).getD ((st + i * sp) % 36) 0):=by rw [List.getD_eq_getElem?_getD,List.getElem?_eq_getElem hd]; rfl
   have e2:=bZ e1
   have e3:(((st + i * sp) % 36:Nat):Int)=((st:Int) + (0 + (i:Int)) * (sp:Int)) % 36:=by rw [Int.zero_add]; rfl
   rw [e3] at e2
   have e4:HY st sp (.int (0 + (i:Int)))=.str ⟨#[(ch gm).getD ((st + i * sp) % 36) 0]⟩:=by
    rw [Int.zero_add]
    rfl
   have q':=q H3 (a6.refl _)
   rw [e4] at q'
   exact ⟨_,rfl,_,rfl,_,rfl,_,rfl,_,_,rfl,rfl,.inl ⟨by omega,by omega⟩,_,_,rfl,rfl,_,_,rfl,rfl,(by show (0:Int) < 36; decide),gm,_,_,rfl,rfl,aD (by rw [qz]; decide),e2,q'⟩
  ·have ets:((List.range n).map fun (i:Nat)=>V.int (0 + (i:Int))).map (HY st sp)=((p5 st sp n).map fun c=>(⟨#[c]⟩:Str)).map V.str:=by
    unfold p5
    rw [List.map_map,List.map_map,List.map_map]
    refine List.map_congr_left fun i _=>?_
    show HY st sp (.int (0 + (i:Int)))=_
    rw [Int.zero_add]
    rfl
   have hlen:(p5 st sp n).length=n:=by unfold p5; rw [List.length_map,List.length_range]
   rw [ets] at o9
   refine ⟨_,l,_,rfl,rfl,aK.of o9,?_,?_⟩
   ·have IK:∀ cs:List Nat,((cs.map fun c=>(⟨#[c]⟩:Str)).map (·.length)).sum=cs.length:=by
     intro cs
     induction cs with
     | nil=>rfl
     | cons c cs ih=>rw [List.map_cons,List.map_cons,List.sum_cons,ih,List.length_cons]; show 1 + cs.length=_; omega
    rw [IK,List.length_map,hlen]
    show n + n * 0≤16777216
    omega
   ·have xu:∀ cs:List Nat,((cs.map fun c=>(⟨#[c]⟩:Str)).map ch).flatten=cs:=by
     intro cs
     induction cs with
     | nil=>rfl
     | cons c cs ih=>rw [List.map_cons,List.map_cons,List.flatten_cons,ih]; rfl
    refine k _ H' (yf xG X5 n1 ?_) (((a6.upd hp).trans (a6.upd Qs)).trans s')
    rw [ou (by decide +kernel),xu]
theorem Pu:∀ d:Int,0≤d→d < 8→∃ n:Int,pA ([.int 1,.int 2,.int 1,.int 3,.int 0,.int 2,.int 4,.int 3]:List V) d=some (.int n)∧0≤n∧n≤4:=by
 intro d h0 h1
 have:d=0∨d=1∨d=2∨d=3∨d=4∨d=5∨d=6∨d=7:=by omega
 rcases this with rfl | rfl | rfl | rfl | rfl | rfl | rfl | rfl <;> exact ⟨_,rfl,by decide,by decide⟩
theorem Pw:∀ d:Int,0≤d→d < 8→∃ n:Int,pA ([.int 3,.int 2,.int 4,.int 3,.int 2,.int 5,.int 3,.int 1]:List V) d=some (.int n)∧1≤n∧n≤5:=by
 intro d h0 h1
 have:d=0∨d=1∨d=2∨d=3∨d=4∨d=5∨d=6∨d=7:=by omega
 rcases this with rfl | rfl | rfl | rfl | rfl | rfl | rfl | rfl <;> exact ⟨_,rfl,by decide,by decide⟩
theorem dq:az ["_law_script","_law_at","_law_signs_here","_law_most","_law_long","_law_words_here","_law_k","_law_cell","_law_size","_law_word"] ["_law_script","_law_at","_law_signs_here","_law_most","_law_long"] (aa (top 47)):=⟨rfl,rfl,rfl,by decide +kernel,rfl,by decide +kernel,by decide +kernel⟩
theorem sV (L:Lk K mg):bD P w K mg base iN 2 L.cX L.gO ["_law_script","_law_at","_law_signs_here","_law_most","_law_long"] (Fs K):=by
 have T:=L.T
 refine L.cx.F.ok dq (fun vs H Q E h=>?_) (fun cR A outer s H vs Q E hr h=>?_)
 ·obtain ⟨a,ns,p,g,m,n,rfl,_⟩:=h
  rfl
 ·obtain ⟨a,ns,p,g,m,n,rfl,hS,Pn,hm1,Ua,hn5,hg1,UA,k⟩:=h
  have Iy:(A.deeper (PyProof.Rows.envOfC "_law_words" (aa (top 47)) s.heap.objs.size L.cX cR)).units < cLine:=hr.qc
  refine ⟨_,(a7 (bV (aH m3 (aq (aM L) (hr.mono (by decide)) rfl L.af.g L.af.F.kp L.af.b .nil aC (a5 (aq (gv L) (hr.mono (by decide)) rfl L.aJ.g L.aJ.F.kp L.aJ.b .nil aC (a5 (pv 0) (a5 (pv 1) a8))) (a5 ae (a5 ae a8)))) ae (aS _)) (ag (aF (eE (vi rfl) (by rfl) T.list p0 (a5 (pv 2) a8)))) aP)
   (a7 (av (i:=5) dq.nd rfl (Or.inl rfl) (cQ a8))
   (a7 (bH PassesOwn.never rfl (cC rfl T.range (a5 (au (jG rfl) (by rfl) T.min Dh (a5 (pv 3) (a5 (cz b8 (cQ (a5 ae (a5 ae (a5 ae (a5 ae (a5 ae (a5 ae (a5 ae (a5 ae a8))))))))) (aq (aM L) (hr.mono (by decide)) rfl L.af.g L.af.F.kp L.af.b .nil aC (a5 (aq (gv L) (hr.mono (by decide)) rfl L.aJ.g L.aJ.F.kp L.aJ.b .nil aC (a5 (pv 0) (a5 (pv 1) a8))) (a5 ae (a5 ae a8)))) (fun _ _=>rfl)) a8))) a8)) (aG (i:=6) dq.nd rfl (Or.inl rfl)) (a7 (av (i:=7) dq.nd rfl (Or.inr rfl) (aq (gv L) (hr.mono (by decide)) rfl L.aJ.g L.aJ.F.kp L.aJ.b .nil aC (a5 (pv 0) (a5 (aI eJ (pv 1) (pv 6)) a8))))
   (a7 (av (i:=8) dq.nd rfl (Or.inl rfl) (au (jG rfl) (by rfl) T.min Dh (a5 (pv 4) (a5 (cz b8 (cQ (a5 ae (a5 ae (a5 ae (a5 ae (a5 ae (a5 ae (a5 ae (a5 ae a8))))))))) (aq (aM L) (hr.mono (by decide)) rfl L.af.g L.af.F.kp L.af.b .nil aC (a5 (pv 7) (a5 ae (a5 ae a8)))) (fun _ _=>rfl)) a8))))
   (a7 (av (i:=9) dq.nd rfl (Or.inl rfl) (nk PySem.F.plainAttrs_str PySem.F.slot_str_join PySem.F.type_str_join C3 jr (a5 (eK rfl (ay (sc:=aa (top 47)) (N:=["_law_script","_law_at","_law_signs_here","_law_most","_law_long","_law_words_here","_law_k","_law_cell","_law_size","_law_word"]) (ys:=["_law_signs_here","_law_cell"]) (ix:=[2,7]) rfl rfl (by decide +kernel)) (cC rfl T.range (a5 (pv 8) a8)) (fun _ _ _ _ _ _=>du) (fun _ _ _ _ _ _=>(cz Ew (pv 1) (aq (aM L) (hr.mono (by decide)) rfl L.af.g L.af.F.kp L.af.b .nil aC (a5 (pv 2) (a5 (aI eJ ae (pv 0)) (a5 (au bP (by rfl) T.len PySem.boot_len (a5 (pv 1) a8)) a8)))) (fun _ _=>rfl)))) a8)))
   (vj (bV (PW.pt (JY (aH (Fo Iy) (pv 5) (cQ a8) (aS _)) (GR (aH m3 (aq (aM L) (hr.mono (by decide)) rfl L.af.g L.af.F.kp L.af.b .nil aC (a5 (pv 7) (a5 ae (a5 ae a8)))) ae (aS _))))) (ag (av (i:=9) dq.nd rfl (Or.inl rfl) (aI mw (iV qu (cz b8 (pv 5) (MZ K5 ae) (fun _ _=>rfl)) ni (iI (aI mr (pv 8) ae))) (iV qu (pv 9) ni (iI ae))))) aP)
   (ag (fo (nk PySem.F.plainAttrs_list PySem.F.slot_list_append PySem.F.type_list_append gj (pv 5) (a5 (pv 9) a8)))))))))
   (ag (aF (pv 5)))))),?_⟩
  refine ⟨_,rfl,_,rfl,a,ns,p,rfl,hS,fun c1 H1 s1=>?_⟩
  refine ⟨c1,13,16,rfl,by decide,by decide,by decide,fun d1 _ _=>?_⟩
  refine ⟨rfl,_,rfl,uV (fun _=>?_) (fun _=>?_)⟩
  ·refine ⟨_,rfl,g,rfl,aD (by omega),fun l hl=>?_⟩
   refine k l ((ch g).map fun c=>(⟨#[c]⟩:Str)) _ (s1.trans (a6.upd hl)) (none_of s1 hl) ?_ ?_ ?_
   ·rw [a9,List.map_map]
    rfl
   ·rw [List.length_map,aT]
    exact UA
   ·intro w hw
    obtain ⟨c,hc,rfl⟩:=List.mem_map.mp hw
    refine ⟨⟨Nat.le_refl 1,by show 1≤5; decide,fun d hd=>?_⟩,Ua⟩
    rw [List.mem_singleton.mp hd]
    exact hc
  refine ⟨Nat.zero_le _,fun l hl=>?_⟩
  have fl:H l=none:=none_of s1 hl
  refine ⟨_,rfl,by decide,fun p8 X7=>?_⟩
  have s8:=(s1.trans (a6.upd (o:=.lst []) hl)).trans (a6.upd (o:=.lst [.int 1,.int 2,.int 1,.int 3,.int 0,.int 2,.int 4,.int 3]) X7)
  refine ⟨_,rfl,_,rfl,a,ns,p,rfl,s8.seq hS,fun c2 H2 s2=>?_⟩
  refine ⟨c2,4,8,rfl,by decide,by decide,by decide,fun d2 h0 h1=>?_⟩
  obtain ⟨na,Wv,a0,a4⟩:=Pu d2 h0 h1
  refine ⟨p8,_,d2,_,rfl,rfl,aK.of (s2 _ _ a9),Wv,m,na,rfl,?_⟩
  obtain ⟨mm,emm,mm0,mm4⟩:∃ mm:Int,(if na < m then na else m)=mm∧0≤mm∧mm≤4:=by
   by_cases z:na < m
   ·exact ⟨na,if_pos z,a0,a4⟩
   ·exact ⟨m,if_neg z,Pn,by omega⟩
  rw [emm]
  have h2l:H2 l=some (.lst []):=s2 _ _ (a6.upd X7 _ _ a9)
  have E9:=s8.trans s2
  refine ⟨mm,rfl,by omega,by omega,dz (lo:=0) (n:=mm.toNat) (fun i σ H3=>∃ (ws:List Str) (v6 v7 v8 v9:Option V),σ=[some (.ref a),some (.int p),some (.str g),some (.int m),some (.int n),some (.ref l),v6,v7,v8,v9]∧a6 H H3∧H3 l=some (.lst (ws.map V.str))∧ws.length=i∧∀ w∈ws,iq g w∧(w.length:Int)≤n)
   ⟨[],none,none,none,none,rfl,E9,h2l,rfl,(fun w h=>nomatch h)⟩ ?_ ?_⟩
  ·rintro i σ H3 hi ⟨ws,v6,v7,v8,v9,rfl,s3,h3,nc,Rq⟩
   refine ⟨_,rfl,_,rfl,_,rfl,_,_,rfl,rfl,a,ns,_,rfl,s3.seq hS,fun cc H4 s4=>?_⟩
   have h4:=s4 _ _ h3
   refine ⟨_,rfl,by decide,fun p9 UB=>?_⟩
   refine ⟨_,rfl,cc,5,8,rfl,by decide,by decide,by decide,fun d3 h0 h1=>?_⟩
   obtain ⟨nb,Rg,b1,b5⟩:=Pw d3 h0 h1
   refine ⟨p9,_,d3,_,rfl,rfl,aK.of a9,Rg,n,nb,rfl,?_⟩
   obtain ⟨sz,esz,sz1,sz5,szn⟩:∃ sz:Int,(if nb < n then nb else n)=sz∧1≤sz∧sz≤5∧sz≤n:=by
    by_cases z:nb < n
    ·exact ⟨nb,if_pos z,b1,b5,by omega⟩
    ·exact ⟨n,if_neg z,Ua,hn5,by omega⟩
   rw [esz]
   have X8:=a6.upd (o:=.lst [.int 3,.int 2,.int 4,.int 3,.int 2,.int 5,.int 3,.int 1]) UB _ _ h4
   have X9:=(s3.trans s4).trans (a6.upd (o:=.lst [.int 3,.int 2,.int 4,.int 3,.int 2,.int 5,.int 3,.int 1]) UB)
   refine ⟨rfl,_,rfl,sz,rfl,by omega,by omega,fun lc Ck=>?_⟩
   refine F8 (fun y=>∃ t,y=.str t∧∃ cc,t=⟨#[cc]⟩∧cc∈ch g) (mz 0 sz.toNat) Ck (by rw [List.length_map,List.length_range]; exact aD (by omega)) (fun _ _=>trivial) (fun x H5 Q' hx s5 q=>?_) (fun ys H5 s5 hlen hR h5=>?_)
   ·obtain ⟨j,hj,rfl⟩:=List.mem_map.mp hx
    have YY:j < sz.toNat:=List.mem_range.mp hj
    refine ⟨_,rfl,_,rfl,_,rfl,_,_,rfl,rfl,_,rfl,g,rfl,aD (by omega),cc,6 + (0 + (j:Int)),g.length,rfl,by omega,by omega,by omega,fun dd h0 h1=>?_⟩
    have hd:dd.toNat < (ch g).length:=by rw [aT]; omega
    have e1:(ch g)[dd.toNat]?=some (ch g)[dd.toNat]:=by simp [hd]
    have e2:=bZ e1
    rw [show ((dd.toNat:Nat):Int)=dd by omega] at e2
    exact ⟨g,dd,_,rfl,rfl,aD (by omega),e2,q _ H5 ⟨_,rfl,_,rfl,List.getElem_mem hd⟩ (a6.refl _)⟩
   obtain ⟨ts,rfl,M3⟩:=C6 hR
   rw [List.length_map,List.length_map,List.length_range] at hlen
   have IK:=qJ M3
   have DA:=Fp (z:="") (by decide +kernel) M3
   refine ⟨_,lc,ts,rfl,rfl,aK.of h5,?_,?_⟩
   ·rw [IK]
    show ts.length + ts.length * 0≤16777216
    omega
   have GA:iq g (Txt.join "" ts):=D2 (by decide +kernel) (by omega) (by omega) M3
   have UC:(Txt.join "" ts).length=sz.toNat:=by rw [DA,hlen]
   generalize Txt.join "" ts=wd at GA UC
   clear IK DA M3 hlen hR
   have h6:=s5 _ _ X8
   have s6:=X9.trans s5
   clear Ck h5 X8 X9 UB h4
   refine ⟨fun σ H7=>∃ wd,σ=[some (.ref a),some (.int p),some (.str g),some (.int m),some (.int n),some (.ref l),some (.int (0 + (i:Int))),some (.int cc),some (.int sz),some (.str wd)]∧a6 H5 H7∧iq g wd∧(wd.length:Int)≤n,?_,?_⟩
   ·refine ⟨_,rfl,Nat.zero_le _,fun le hle=>⟨l,le,_,_,rfl,rfl,aK.of (a6.upd hle _ _ h6),aK.of a9,gq _,rfl,_,rfl,?_⟩⟩
    refine uV (fun kF=>?_) (fun _=>fz ⟨wd,rfl,a6.upd hle,GA,by omega⟩)
    refine ⟨_,rfl,cc,12,4,rfl,by decide,by decide,by decide,fun d4 _ _=>⟨rfl,_,rfl,uV (fun _=>?_) (fun _=>⟨wd,rfl,a6.upd hle,GA,by omega⟩)⟩⟩
    obtain ⟨QT,wl,zZ⟩:∃ QT wl,ws=QT++[wl]:=by
     refine ⟨ws.dropLast,ws.getLast (by intro z; rw [z] at kF; exact absurd kF (by decide)),(List.dropLast_concat_getLast _).symm⟩
    have Px:=(Rq wl (by rw [zZ]; exact List.mem_append_right _ (List.mem_singleton.mpr rfl))).1
    have e2:pA (ws.map V.str) (-1)=some (.str wl):=by rw [zZ,List.map_append]; exact Eu _ _
    have Lf:=Txt.slice_le wl none (some (sz - 1))
    have o9:=Txt.slice_le wd none (some 1)
    have hw5:=Px.hi
    have hd5:=GA.hi
    refine ⟨_,rfl,_,rfl,l,_,_,_,rfl,rfl,aK.of (a6.upd hle _ _ h6),e2,_,rfl,_,_,rfl,rfl,_,rfl,wl,rfl,aD (by omega),_,rfl,_,rfl,wd,rfl,aD (by omega),_,_,rfl,rfl,aD (by omega),?_⟩
    have Lx:=Fq (k:=(sz - 1).toNat) Px GA (by omega)
    rw [show (((sz - 1).toNat:Nat):Int)=sz - 1 by omega] at Lx
    exact ⟨_,rfl,a6.upd hle,Lx.1,by have:=Lx.2; omega⟩
   ·rintro σ H7 ⟨wd,rfl,s7,GA,UC⟩
    have h7:=s7 _ _ h6
    refine ⟨_,rfl,.inl ⟨rfl,_,aK.of h7⟩,_,rfl,l,_,_,rfl,rfl,h7,by rw [List.length_map]; exact fu (by omega),?_⟩
    refine ⟨ws++[wd],_,_,_,_,rfl,fun b o e=>?_,?_,by simp [nc],fun w hw=>?_⟩
    ·rw [ai (aj e fl)]
     exact (s6.trans s7) _ _ e
    ·rw [a9,List.map_append]
     rfl
    ·rcases List.mem_append.mp hw with z | z
     ·exact Rq w z
     ·have:w=wd:=by simpa using z
      subst this
      exact ⟨GA,UC⟩
  ·rintro σ H3 ⟨ws,v6,v7,v8,v9,rfl,s3,h3,nc,Rq⟩
   exact ⟨_,rfl,k l ws H3 s3 fl h3 (by omega) Rq⟩
theorem Py {n:Nat} (h0:2≤n) (h1:n≤4):∃ b:Int,pA ([.int 6,.int 3,.int 3]:List V) ((n:Int) - 2)=some (.int b)∧1≤b∧b≤6∧∀ w:Nat,1≤w→(w:Int)≤b→(n:Int) ^ w≤64:=by
 have:n=2∨n=3∨n=4:=by omega
 rcases this with rfl | rfl | rfl
 ·refine ⟨6,rfl,by decide,by decide,fun w _ hw=>?_⟩
  have:w=1∨w=2∨w=3∨w=4∨w=5∨w=6:=by omega
  rcases this with rfl | rfl | rfl | rfl | rfl | rfl <;> decide
 ·refine ⟨3,rfl,by decide,by decide,fun w _ hw=>?_⟩
  have:w=1∨w=2∨w=3:=by omega
  rcases this with rfl | rfl | rfl <;> decide
 ·refine ⟨3,rfl,by decide,by decide,fun w _ hw=>?_⟩
  have:w=1∨w=2∨w=3:=by omega
  rcases this with rfl | rfl | rfl <;> decide
theorem et:az ["_law_cell","_law_signs_here","_law_wide","_law_rows","_law_step","_law_many"] ["_law_cell","_law_signs_here"] (aa (top 48)):=⟨rfl,rfl,rfl,by decide +kernel,rfl,by decide +kernel,by decide +kernel⟩
theorem vJ (L:Lk K mg):bD P w K mg base iN 2 L.fi L.iA ["_law_cell","_law_signs_here"] KZ:=by
 have T:=L.T
 refine L.cY.F.ok et (fun vs H Q E h=>?_) (fun cR A outer s H vs Q E hr h=>?_)
 ·obtain ⟨c,g,rfl,_⟩:=h
  rfl
 ·obtain ⟨c,g,rfl,Jz,UA,k⟩:=h
  refine ⟨_,(a7 (av (i:=2) et.nd rfl (Or.inl rfl) (aI eJ ae (aq (aM L) (hr.mono (by decide)) rfl L.af.g L.af.F.kp L.af.b .nil aC (a5 (pv 0) (a5 ae (a5 (cz b8 (cQ (a5 ae (a5 ae (a5 ae a8)))) (aI mr (au bP (by rfl) T.len PySem.boot_len (a5 (pv 1) a8)) ae) (fun _ _=>rfl)) a8))))))
   (a7 (av (i:=3) et.nd rfl (Or.inl rfl) ae)
   (a7 (bH PassesOwn.never rfl (cC rfl T.range (a5 (pv 2) a8)) (aG (i:=4) et.nd rfl (Or.inl rfl)) (ag (av (i:=3) et.nd rfl (Or.inl rfl) (aI js (pv 3) (au bP (by rfl) T.len PySem.boot_len (a5 (pv 1) a8))))))
   (a7 (av (i:=5) et.nd rfl (Or.inl rfl) (aI eJ ae (aq (aM L) (hr.mono (by decide)) rfl L.af.g L.af.F.kp L.af.b .nil aC (a5 (pv 0) (a5 ae (a5 ae a8))))))
   (vj (bV (aH m4 (aq (aM L) (hr.mono (by decide)) rfl L.af.g L.af.F.kp L.af.b .nil aC (a5 (pv 0) (a5 ae (a5 ae a8)))) ae (aS _)) (ag (av (i:=5) et.nd rfl (Or.inl rfl) (aI eJ ae (aq (aM L) (hr.mono (by decide)) rfl L.af.g L.af.F.kp L.af.b .nil aC (a5 (pv 0) (a5 ae (a5 (au (tW rfl) (by rfl) T.max Jk (a5 ae (a5 (au (jG rfl) (by rfl) T.min Dh (a5 ae (a5 (aI mr (aI fV (pv 3) ae) ae) a8))) a8))) a8))))))) aP)
   (ag (aF (iU (a5 (pv 5) (a5 (pv 2) a8)))))))))),?_⟩
  obtain ⟨b,hb,b1,b6,Ga⟩:=Py Jz UA
  refine ⟨_,rfl,by decide,fun p hp=>?_⟩
  refine ⟨_,rfl,g,rfl,aD (by omega),_,_,rfl,rfl,p,_,_,_,rfl,rfl,aK.of a9,hb,?_⟩
  refine ⟨c,14,b,rfl,by decide,by decide,by omega,fun d h0 h1=>⟨_,_,rfl,rfl,?_⟩⟩
  obtain ⟨wd,ewd,Ub,MA⟩:∃ w:Int,1 + d=w∧1≤w∧w≤b:=⟨1 + d,rfl,by omega,by omega⟩
  show jh 2 (V.int (1 + d)) _ _ _
  rw [ewd]
  have sp:=a6.upd (o:=.lst [.int 6,.int 3,.int 3]) hp
  have hR:=Ga wd.toNat (by omega) (by omega)
  refine ⟨_,rfl,wd,rfl,by omega,by omega,dz (lo:=0) (n:=wd.toNat) (fun i σ H2=>a6 H H2∧∃ r v4,σ=[some (.int c),some (.str g),some (.int wd),some (.int r),v4,none]) ⟨sp,1,none,rfl⟩ ?_ ?_⟩
  ·rintro i σ H2 hi ⟨s2,r,v4,rfl⟩
   exact ⟨_,rfl,_,rfl,g,rfl,aD (by omega),_,_,rfl,rfl,.inr ⟨by omega,by omega⟩,s2,_,_,rfl⟩
  rintro σ H2 ⟨s2,r,v4,rfl⟩
  refine ⟨_,rfl,c,15,7,rfl,by decide,by decide,by decide,fun d2 g0 g1=>⟨_,_,rfl,rfl,?_⟩⟩
  refine ⟨fun σ H3=>a6 H H3∧∃ r v4 m,σ=[some (.int c),some (.str g),some (.int wd),some (.int r),v4,some (.int m)]∧2≤m∧m≤8,?_,?_⟩
  ·refine ⟨_,rfl,c,16,3,rfl,by decide,by decide,by decide,fun d3 _ _=>⟨_,_,rfl,rfl,_,rfl,?_⟩⟩
   refine uV (fun _=>?_) (fun _=>⟨s2,r,v4,2 + d2,rfl,by omega,by omega⟩)
   refine ⟨_,rfl,_,rfl,_,_,rfl,rfl,⟨by decide,by decide⟩,_,_,rfl,rfl,_,_,rfl,_,_,rfl,?_⟩
   obtain ⟨z,ez,z1,z7⟩:∃ z:Int,(if (if r / 2 - 1 < 7 then r / 2 - 1 else 7) > 1 then (if r / 2 - 1 < 7 then r / 2 - 1 else 7) else 1)=z∧1≤z∧z≤7:=by
    generalize r / 2 - 1=y
    by_cases q:y < 7
    ·rw [if_pos q]
     by_cases q2:y > 1
     ·exact ⟨y,if_pos q2,by omega,by omega⟩
     ·exact ⟨1,if_neg q2,by omega,by omega⟩
    ·rw [if_neg q]
     exact ⟨7,rfl,by decide,by decide⟩
   rw [ez]
   exact ⟨c,17,z,rfl,by decide,by decide,by omega,fun d4 e0 e1=>⟨_,_,rfl,rfl,s2,r,v4,2 + d4,rfl,by omega,by omega⟩⟩
  ·rintro σ H3 ⟨s3,r,v4,m,rfl,m2,m8⟩
   refine ⟨_,rfl,_,rfl,by show 2≤sizeLine; decide,fun q hq=>?_⟩
   exact k q m wd _ (s3.trans (a6.upd hq)) (none_of s3 hq) a9 ⟨m2,m8,Ub,by omega,hR⟩
noncomputable def IL (K:PySem.W.Frag) (C:Addr):Sp:=fun vs H Q _=>∃ (x:Addr) (hs:List Str) (ws:List Int) (lns:List (List (Str×Nat))),vs=[.ref x]∧dJ K C H x hs ws lns∧lns.length=hs.length∧hs.length≤100∧(∀ l∈lns,l.length≤5000) ∧
 ∀ (d:Addr) (kvs:List (List Key×V)) (H':Hp),a6 H H'→H' d=some (.dT kvs)→j4 kvs (fun p w e=>gE p (w,e) hs lns)→Q (.ref d) H'
theorem Gf (l:List (Str×Nat)) {i:Nat} {q:Str×Nat} (h:l[i]?=some q) (z:Str×Nat):(l.take (i + 1)).count z=(l.take i).count z + if q=z then 1 else 0:=by
 rw [List.take_add_one,h,List.count_append]
 show _ + [q].count z=_
 rw [cnt_cons]
 show _ + (0 + _)=_
 omega
theorem DL {hs:List Str} {lns:List (List (Str×Nat))} {j:Nat} {h:Str} {l:List (Str×Nat)} (e1:hs[j]?=some h) (e2:lns[j]?=some l) (p:Str) (z:Str×Nat):gE p z (hs.take (j + 1)) (lns.take (j + 1))=gE p z (hs.take j) (lns.take j) + if h=p then l.count z else 0:=by
 have h1:=(List.getElem?_eq_some_iff.mp e1).1
 have h2:=(List.getElem?_eq_some_iff.mp e2).1
 rw [List.take_add_one,List.take_add_one,e1,e2]
 exact oI p z h l _ _ (by rw [List.length_take,List.length_take]; omega)
theorem eG:az ["_law_sheet","_law_found","_law_desk","_law_word","_law_end","_law_key"] ["_law_sheet"] (aa (top 49)):=⟨rfl,rfl,rfl,by decide +kernel,rfl,by decide +kernel,by decide +kernel⟩
theorem sW (L:Lk K mg):bD P w K mg base iN 1 L.dY L.gP ["_law_sheet"] (IL K L.ao):=by
 have T:=L.T
 refine L.cy.F.ok eG (fun vs H Q E h=>?_) (fun cR A outer s H vs Q E hr h=>?_)
 ·obtain ⟨x,hs,ws,lns,rfl,_⟩:=h
  rfl
 ·obtain ⟨x,hs,ws,lns,rfl,S,hl,hn,hm,k⟩:=h
  have hu:=iX hr
  refine ⟨_,(a7 (av (i:=1) eG.nd rfl (Or.inl rfl) xT)
   (a7 (bH PassesOwn.never rfl (cC rfl T.range (a5 (au aW (by rfl) T.len PySem.boot_len (a5 (b4 (pv 0) rfl) a8)) a8)) (aG (i:=2) eG.nd rfl (Or.inl rfl)) (ag (bH PassesOwn.never rfl (bh (cz b8 (b4 (pv 0) rfl) (pv 2) (fun _ _=>rfl))) (kM rfl (bW (aG (i:=3) eG.nd rfl (Or.inl rfl)) (bW (aG (i:=4) eG.nd rfl (Or.inl rfl)) ji))) (a7 (av (i:=5) eG.nd rfl (Or.inl rfl) (iU (a5 (cz b8 (b4 (pv 0) rfl) (pv 2) (fun _ _=>rfl)) (a5 (pv 3) (a5 (pv 4) a8)))))
   (ag (i5 hu (pv 1) (pv 5) (aI eJ (qm hu (pv 1) (pv 5) ae ⟨rfl,rfl,rfl,rfl⟩) ae) rfl))))))
   (ag (aF (pv 1))))),?_⟩
  obtain ⟨dx,ah,bw,cl,hx,rh,qf,rl⟩:=id S
  have hh:=nK rh
  obtain ⟨Rl,xs,ec,hc,ip⟩:=id rl
  cases ec
  have xl:xs.length=lns.length:=by rw [ip.len,List.length_map]
  refine fun dt Xa=>?_
  have s0:a6 H (upd H dt (.dT [])):=a6.upd Xa
  have h0:(upd H dt (.dT [])) dt=some (.dT []):=a9
  generalize upd H dt (.dT [])=Hb at s0 h0
  refine ⟨_,rfl,x,L.ao,dx,_,_,rfl,s0 _ _ hx,L.ak.cl,L.ak.ia,cS ah bw cl,ah,_,rfl,.inl (s0.seq (.inl hh)),_,rfl,by omega,by rw [List.length_map]; omega,dz (lo:=0) (n:=(hs.map V.str).length) (fun j σ H3=>∃ (v2 v3 v4 v5:Option V) (kvs:List (List Key×V)),σ=[some (.ref x),some (.ref dt),v2,v3,v4,v5]∧H3 dt=some (.dT kvs)∧j4 kvs (fun p w e=>gE p (w,e) (hs.take j) (lns.take j))∧kvs.length≤5000 * j∧a6 H H3) ⟨none,none,none,none,[],rfl,h0,j4.nil.congr fun _ _ _=>rfl,Nat.zero_le _,s0⟩ ?_ ?_⟩
  ·rintro j σ H3 hj ⟨v2,v3,v4,v5,kvs,rfl,h3,hC,AQ,s3⟩
   rw [List.length_map] at hj
   rw [Int.zero_add]
   have JF:hs[j]?=some hs[j]:=List.getElem?_eq_getElem hj
   have DA:lns[j]?=some (lns[j]'(by omega)):=List.getElem?_eq_getElem _
   have Cm:lns[j]'(by omega)∈lns:=List.getElem_mem _
   generalize lns[j]'(by omega)=qs at DA Cm
   obtain ⟨v,hxj,rd⟩:=ip.at (i:=j) (d:=dE qs) (by rw [List.getElem?_map,DA]; rfl)
   obtain ⟨a,rs,rfl,hS,hT⟩:=jR rd
   have vD:rs.length=qs.length:=by rw [hT.1,List.length_map,List.length_map]
   have Mw:=hm qs Cm
   have yK:pA (hs.map V.str) (j:Int)=some (.str hs[j]):=bZ (by rw [List.getElem?_map,JF]; rfl)
   have Xb:=DL JF DA
   generalize hs[j]=ph at JF yK Xb
   refine ⟨_,rfl,x,L.ao,dx,_,_,rfl,s3 _ _ hx,L.ak.cl,L.ak.fW,bY ah bw cl,_,rfl,cl,xs,_,_,rfl,rfl,s3.seq (.inl hc),bZ hxj,a,rfl,⟨_,s3.seq hS⟩,eQ (K:=K) (a:=a) (xs:=rs.map V.ref) (fun i σ H4=>∃ (v3 v4 v5:Option V) (kvs:List (List Key×V)),σ=[some (.ref x),some (.ref dt),some (.int (j:Int)),v3,v4,v5]∧H4 dt=some (.dT kvs)∧j4 kvs (fun p w e=>gE p (w,e) (hs.take j) (lns.take j) + if ph=p then (qs.take i).count (w,e) else 0)∧kvs.length≤5000 * j + i∧a6 H H4) ⟨_,_,_,kvs,rfl,h3,hC.congr fun p w e=>by split <;> rfl,AQ,s3⟩ (fun i σ H4 _ ⟨_,_,_,_,_,_,_,_,s4⟩=>s4.seq hS) ?_ ?_⟩
   ·rintro i y σ H4 hy ⟨v3,v4,v5,kvs,rfl,h4,hC,AQ,s4⟩
    have hi:i < rs.length:=by have:=(List.getElem?_eq_some_iff.mp hy).1; rwa [List.length_map] at this
    have Pz:i < qs.length:=by omega
    rw [List.getElem?_map,List.getElem?_eq_getElem hi] at hy
    cases hy
    have PB:H rs[i]=some (.tup [.str qs[i].1,.int (qs[i].2:Int)]):=hT.2 i rs[i] (nD (lz qs[i])) (List.getElem?_eq_getElem hi) (by rw [List.getElem?_map,List.getElem?_map,List.getElem?_eq_getElem Pz]; rfl)
    have NR:=Gf qs (List.getElem?_eq_getElem Pz)
    generalize qs[i]=q at PB NR
    refine ⟨rs[i],_,rfl,jF.of (s4 _ _ PB),rfl,_,_,rfl,_,_,rfl,rfl,?_⟩
    refine ⟨_,rfl,x,L.ao,dx,_,_,rfl,s4 _ _ hx,L.ak.cl,L.ak.ia,cS ah bw cl,_,rfl,ah,_,_,_,rfl,rfl,s4.seq (.inl hh),yK,_,rfl,_,rfl,by show 3≤sizeLine; decide,fun r hr=>?_⟩
    have h5:(upd H4 r (.tup [.str ph,.str q.1,.int (q.2:Int)])) dt=some (.dT kvs):=a6.upd hr _ _ h4
    have UD:(upd H4 r (.tup [.str ph,.str q.1,.int (q.2:Int)])) r=some (.tup ((gT ph q.1 q.2).map kV)):=a9
    have s5:a6 H (upd H4 r (.tup [.str ph,.str q.1,.int (q.2:Int)])):=s4.trans (a6.upd hr)
    show jh 5 (V.ref r) _ _ _
    generalize upd H4 r (.tup [.str ph,.str q.1,.int (q.2:Int)])=H5 at h5 UD s5
    have g:=fq.t h5 UD
    rw [hC.v] at g
    have hsz:kvs.length < sizeLine:=Nat.lt_of_le_of_lt (show kvs.length≤600000 by omega) (by rw [sizeLine_eq]; decide)
    refine ⟨_,rfl,dt,rfl,.inr ⟨_,.inl h5⟩,_,rfl,_,g,_,_,FZ _,rfl,_,rfl,_,rfl,dt,_,rfl,kR.t h5 UD hsz,?_⟩
    refine ⟨_,_,_,putK kvs (gT ph q.1 q.2) (.int ((gE ph (q.1,q.2) (hs.take j) (lns.take j) + (if ph=ph then (qs.take i).count (q.1,q.2) else 0) + 1:Nat):Int)),rfl,a9,hC.put ph q.1 q.2 (Nat.succ_ne_zero _) fun p' w' e'=>?_,Nat.le_trans (il ..) (by omega),fun b o e=>by rw [ai (aj e Xa)]; exact s5 _ _ e⟩
    rw [NR]
    by_cases hz:p'=ph∧w'=q.1∧e'=q.2
    ·obtain ⟨rfl,rfl,rfl⟩:=hz
     rw [if_pos (c:=p'=p'∧q.1=q.1∧q.2=q.2) ⟨rfl,rfl,rfl⟩,if_pos (c:=p'=p') rfl,if_pos (c:=q=(q.1,q.2)) rfl,if_pos (c:=p'=p') rfl]
     omega
    ·rw [if_neg hz]
     by_cases hp:ph=p'
     ·rw [if_pos hp,if_pos hp,if_neg (fun z=>hz ⟨hp.symm,by rw [z],by rw [z]⟩)]
      omega
     ·rw [if_neg hp,if_neg hp]
   ·rintro σ H4 ⟨v3,v4,v5,kvs,rfl,h4,hC,AQ,s4⟩
    rw [List.length_map,vD,List.take_length] at hC
    rw [List.length_map,vD] at AQ
    exact ⟨_,_,_,_,kvs,rfl,h4,hC.congr fun p w e=>Xb p (w,e),by omega,s4⟩
  ·rintro σ H3 ⟨v2,v3,v4,v5,kvs,rfl,h3,hC,AQ,s3⟩
   rw [List.length_map,List.take_length] at hC
   refine ⟨_,rfl,k dt kvs H3 s3 h3 ?_⟩
   rw [← hl,List.take_length] at hC
   exact hC
set_option genInjectivity false in
set_option genSizeOfSpec false in
structure DM (K:PySem.W.Frag) (H:Hp) (db:Addr) (ev:List (Str×Addr)) (B:Str→List (Str×Str)):Prop where
 d:H db=some (.dK (aY ev))∨∃ o,H db=some (.frz o (.dK (aY ev)))
 r:∀ q∈ev,∃ rs,bX H q.2 rs (B q.1)
 n:∀ p,(B p).length≤100
theorem DM.same {K:PySem.W.Frag} {H H':Hp} {db:Addr} {ev:List (Str×Addr)} {B:Str→List (Str×Str)} (h:DM K H db ev B) (s:a6 H H'):DM K H' db ev B:=
 ⟨h.d.imp (fun e=>s _ _ e) (fun ⟨o,e⟩=>⟨o,s _ _ e⟩),fun q hq=>let ⟨rs,r⟩:=h.r q hq; ⟨rs,r.same s⟩,h.n⟩
noncomputable def PD (K:PySem.W.Frag) (C:Addr):Sp:=fun vs H Q _=>∃ (db x:Addr) (ev:List (Str×Addr)) (B:Str→List (Str×Str)) (hs:List Str) (ws:List Int) (lns:List (List (Str×Nat))),vs=[.ref db,.ref x]∧DM K H db ev B∧(∀ p∈hs,p∈ev.map (·.1))∧dJ K C H x hs ws lns∧hs.length≤100 ∧
 ∀ (d:Addr) (kvs:List (List Key×V)) (H':Hp),a6 H H'→H' d=some (.dT kvs)→mK kvs (fun p w e=>e < hs.length∧p∈hs∧(w,hs.getD e "")∈B p)→Q (.ref d) H'
set_option genInjectivity false in
set_option genSizeOfSpec false in
structure PF (H:Hp) (de:Addr) (hs:List Str) (j:Nat) (mv:List (Str×Addr)):Prop where
 k:∀ p,p∈mv.map (·.1)↔p∈hs.take j
 r:∀ q∈mv,H q.2=some (.lst ((c6 hs j q.1).map fun i:Nat=>V.int (i:Int)))∧q.2≠de
 n:mv.length≤j
theorem dI:az ["_law_blocks","_law_sheet","_law_ends","_law_desk","_law_found","_law_place","_law_word","_law_end"] ["_law_blocks","_law_sheet"] (aa (top 50)):=⟨rfl,rfl,rfl,by decide +kernel,rfl,by decide +kernel,by decide +kernel⟩
theorem yM (L:Lk K mg):bD P w K mg base iN 1 L.gf L.ja ["_law_blocks","_law_sheet"] (PD K L.ao):=by
 have T:=L.T
 refine L.dZ.F.ok dI (fun vs H Q E h=>?_) (fun cR A outer s H vs Q E hr h=>?_)
 ·obtain ⟨db,x,ev,B,hs,ws,lns,rfl,_⟩:=h
  rfl
 ·obtain ⟨db,x,ev,B,hs,ws,lns,rfl,BD,Ly,S,hn,k⟩:=h
  have hu:=iX hr
  refine ⟨_,(a7 (av (i:=2) dI.nd rfl (Or.inl rfl) iW)
   (a7 (bH PassesOwn.never rfl (cC rfl T.range (a5 (au aW (by rfl) T.len PySem.boot_len (a5 (b4 (pv 1) rfl) a8)) a8)) (aG (i:=3) dI.nd rfl (Or.inl rfl)) (ag (i5 hu (pv 2) (cz b8 (b4 (pv 1) rfl) (pv 3) (fun _ _=>rfl)) (aI EB (qm hu (pv 2) (cz b8 (b4 (pv 1) rfl) (pv 3) (fun _ _=>rfl)) (cQ a8) ⟨rfl,rfl,rfl,rfl⟩) (cQ (a5 (pv 3) a8))) rfl)))
   (a7 (av (i:=4) dI.nd rfl (Or.inl rfl) xT)
   (a7 (bH PassesOwn.never rfl (k8 (pv 2)) (aG (i:=5) dI.nd rfl (Or.inl rfl)) (ag (bH PassesOwn.never rfl (bh (ft hu (pv 0) (pv 5) (fun _ _=>rfl))) (kM rfl (bW (aG (i:=6) dI.nd rfl (Or.inl rfl)) (bW (aG (i:=7) dI.nd rfl (Or.inl rfl)) ji))) (ag (bH PassesOwn.never rfl (bh (qm hu (pv 2) (pv 7) (cQ a8) ⟨rfl,rfl,rfl,rfl⟩)) (aG (i:=3) dI.nd rfl (Or.inl rfl)) (ag (i5 hu (pv 4) (iU (a5 (pv 5) (a5 (pv 6) (a5 (pv 3) a8)))) ae rfl)))))))
   (ag (aF (pv 4))))))),?_⟩
  obtain ⟨dx,ah,bw,cl,hx,rh,qf,rl⟩:=id S
  have hh:=nK rh
  refine fun de Ea=>?_
  have s0:a6 H (upd H de (.dK [])):=a6.upd Ea
  have h0:(upd H de (.dK [])) de=some (.dK (aY [])):=a9
  generalize upd H de (.dK [])=Hb at s0 h0
  refine ⟨_,rfl,x,L.ao,dx,_,_,rfl,s0 _ _ hx,L.ak.cl,L.ak.ia,cS ah bw cl,ah,_,rfl,.inl (s0.seq (.inl hh)),_,rfl,by omega,by rw [List.length_map]; omega,dz (lo:=0) (n:=(hs.map V.str).length) (fun j σ H3=>∃ (v3:Option V) (mv:List (Str×Addr)),σ=[some (.ref db),some (.ref x),some (.ref de),v3,none,none,none,none]∧H3 de=some (.dK (aY mv))∧PF H3 de hs j mv∧a6 H H3) ⟨none,[],rfl,h0,⟨fun p=>by simp,fun q hq=>(nomatch hq),Nat.zero_le _⟩,s0⟩ ?_ ?_⟩
  ·rintro j σ H3 hj ⟨v3,mv,rfl,h3,E3,s3⟩
   rw [List.length_map] at hj
   rw [Int.zero_add]
   have JF:hs[j]?=some hs[j]:=List.getElem?_eq_getElem hj
   have yK:pA (hs.map V.str) (j:Int)=some (.str hs[j]):=bZ (by rw [List.getElem?_map,JF]; rfl)
   have IC:hs.getD j ""=hs[j]:=by rw [List.getD_eq_getElem?_getD,JF]; rfl
   have pW:hs.take (j + 1)=hs.take j++[hs[j]]:=by rw [List.take_add_one,JF]; rfl
   generalize hs[j]=ph at JF yK IC pW
   have hmn:=E3.n
   refine ⟨_,rfl,de,rfl,.inl ⟨_,.inl h3⟩,_,rfl,x,L.ao,dx,_,_,rfl,s3 _ _ hx,L.ak.cl,L.ak.ia,cS ah bw cl,_,rfl,ah,_,_,_,rfl,rfl,s3.seq (.inl hh),yK,Nat.zero_le _,fun l0 AR=>?_⟩
   have Rr:a6 H3 (upd H3 l0 (.lst [])):=a6.upd AR
   have h4:=Rr _ _ h3
   have PH:(upd H3 l0 (.lst [])) l0=some (.lst []):=a9
   generalize upd H3 l0 (.lst [])=H4 at Rr h4 PH
   have key:∃ (u:Addr) (o:Option V),bK (aY mv) (Sum.inr ph:Key)=o∧o.getD (.ref l0)=.ref u∧H4 u=some (.lst ((c6 hs j ph).map fun i:Nat=>V.int (i:Int))):=by
    by_cases hp:ph∈mv.map (·.1)
    ·obtain ⟨u,P7,UE⟩:=gr hp
     exact ⟨u,_,UE,rfl,Rr _ _ (E3.r _ P7).1⟩
    ·refine ⟨l0,_,g6 hp,rfl,?_⟩
     have e:c6 hs j ph=[]:=List.eq_nil_iff_forall_not_mem.mpr fun i hi=>by
      obtain ⟨i1,i2⟩:=oJ.mp hi
      refine hp ((E3.k ph).mpr ?_)
      rw [← i2,List.getD_eq_getElem?_getD,List.getElem?_eq_getElem (by omega)]
      refine List.mem_of_getElem? (i:=i) ?_
      rw [List.getElem?_take_of_lt i1,List.getElem?_eq_getElem (by omega)]
      rfl
     rw [e]
     exact PH
   obtain ⟨u,o,e1,e2,h4u⟩:=key
   have g:=fq.k (k:=(Sum.inr ph:Key)) h4
   rw [e1] at g
   refine ⟨_,g,_,rfl,by show 1≤sizeLine; decide,fun l1 Lf=>?_⟩
   have UG:a6 H4 (upd H4 l1 (.lst [.int (j:Int)])):=a6.upd Lf
   have Xc:(upd H4 l1 (.lst [.int (j:Int)])) l1=some (.lst [.int (j:Int)]):=a9
   generalize upd H4 l1 (.lst [.int (j:Int)])=H5 at UG Xc
   have zI:=uJ hs j ph
   refine ⟨u,l1,_,_,e2,rfl,UG _ _ h4u,Xc,aD (by rw [List.length_map]; show _ + 1≤_; omega),fun l2 o9=>?_⟩
   have Gd:((c6 hs j ph).map fun i:Nat=>V.int (i:Int))++[V.int (j:Int)]=(c6 hs (j + 1) ph).map fun i:Nat=>V.int (i:Int):=by
    rw [rn,if_pos IC,List.map_append]
    rfl
   rw [Gd]
   have Xd:a6 H5 (upd H5 l2 (.lst ((c6 hs (j + 1) ph).map fun i:Nat=>V.int (i:Int)))):=a6.upd o9
   have Rt:(upd H5 l2 (.lst ((c6 hs (j + 1) ph).map fun i:Nat=>V.int (i:Int)))) l2=some (.lst ((c6 hs (j + 1) ph).map fun i:Nat=>V.int (i:Int))):=a9
   generalize upd H5 l2 (.lst ((c6 hs (j + 1) ph).map fun i:Nat=>V.int (i:Int)))=H6 at Xd Rt
   have UH:=(Rr.trans UG).trans Xd
   have GC:=s3.trans UH
   have h6:=UH _ _ h3
   refine ⟨_,rfl,_,rfl,x,L.ao,dx,_,_,rfl,GC _ _ hx,L.ak.cl,L.ak.ia,cS ah bw cl,_,rfl,ah,_,_,_,rfl,rfl,GC.seq (.inl hh),yK,de,_,rfl,kR.k (k:=(Sum.inr ph:Key)) h6 (by rw [Dx]; exact fu (by omega)),?_⟩
   rw [DC]
   have n2:l2≠de:=fun z=>by rw [z,h6] at Rt; cases Rt
   refine ⟨_,putD mv ph l2,rfl,a9,⟨fun p=>?_,fun q hq=>?_,Nat.le_trans (G1 ..) (by omega)⟩,fun b oo e=>by rw [ai (aj e Ea)]; exact GC _ _ e⟩
   ·rw [DE,E3.k,pW,List.mem_append,List.mem_singleton]
   ·rcases G0 hq with rfl | ⟨hq,kF⟩
    ·exact ⟨by rw [ai n2]; exact Rt,n2⟩
    ·obtain ⟨q1,q2⟩:=E3.r q hq
     refine ⟨?_,q2⟩
     rw [ai q2,rn,if_neg (fun z=>kF (z.symm.trans IC)),List.append_nil]
     exact UH _ _ q1
  ·rintro σ H3 ⟨v3,mv,rfl,h3,E3,s3⟩
   rw [List.length_map] at E3
   have hmn:=E3.n
   have oN:∀ p,p∈mv.map (·.1)↔p∈hs:=fun p=>by rw [E3.k,List.take_length]
   have hmr:=fun q hq=>(E3.r q hq).1
   have hmd:=fun q hq=>(E3.r q hq).2
   clear E3
   refine fun df Gv=>?_
   have sf:a6 H3 (upd H3 df (.dT [])):=a6.upd Gv
   have JE:(upd H3 df (.dT [])) df=some (.dT []):=a9
   generalize upd H3 df (.dT [])=Hf at sf JE
   have DH:df≠de:=fun z=>by rw [z,h3] at Gv; cases Gv
   refine ⟨_,rfl,de,_,rfl,.inl ⟨sf _ _ h3,fun o=>?_⟩⟩
   have nf:(upd Hf de (.frz o (.dK (aY mv)))) df=some (.dT []):=by rw [ai DH]; exact JE
   have UI:(upd Hf de (.frz o (.dK (aY mv)))) de=some (.frz o (.dK (aY mv))):=a9
   have sS:a6 H (upd Hf de (.frz o (.dK (aY mv)))):=fun b oo e=>by rw [ai (aj e Ea)]; exact sf _ _ (s3 _ _ e)
   have Xe:∀ q∈mv,(upd Hf de (.frz o (.dK (aY mv)))) q.2=some (.lst ((c6 hs hs.length q.1).map fun i:Nat=>V.int (i:Int))):=fun q hq=>by rw [ai (hmd q hq)]; exact sf _ _ (hmr q hq)
   generalize upd Hf de (.frz o (.dK (aY mv)))=H4 at nf UI sS Xe
   have UJ:H df=none:=none_of s3 Gv
   have J:=lM de o (aY mv)
   rw [jY] at J
   have keep:∀ {H5:Hp},(∀ c oc,H4 c=some oc→c≠df→H5 c=some oc)→a6 H H5:=fun kk b oo e=>kk _ _ (sS _ _ e) (aj e UJ)
   refine oj J (fun j σ H5=>∃ (v3 v5 v6 v7:Option V) (kvs:List (List Key×V)),σ=[some (.ref db),some (.ref x),some (.ref de),v3,some (.ref df),v5,v6,v7]∧H5 df=some (.dT kvs)∧mK kvs (fun p w e=>e < hs.length∧p∈(mv.map (·.1)).take j∧(w,hs.getD e "")∈B p)∧kvs.length≤j * 10000∧∀ c oc,H4 c=some oc→c≠df→H5 c=some oc) ⟨_,_,_,_,[],rfl,nf,mK.nil fun p w e z=>by simp at z,Nat.zero_le _,fun c oc e _=>e⟩ (fun j σ H5 _ ⟨_,_,_,_,_,_,_,_,_,kk⟩=>kk _ _ UI (Ne.symm DH)) ?_ ?_
   ·rintro j y σ H5 hy ⟨v3,v5,v6,v7,kvs,rfl,h5,hS,AQ,kk⟩
    obtain ⟨ph,Lv,rfl,hj,vn,pW⟩:=jK hy
    have hjm:j < 100:=by rw [List.length_map] at hj; omega
    obtain ⟨lb,Qz,SN⟩:=gr (Ly ph ((oN ph).mp vn))
    obtain ⟨rs,R⟩:=BD.r _ Qz
    have R:bX H lb rs (B ph):=R
    have hBn:=BD.n ph
    have s5:=keep kk
    have gb:fq H5 db (.str ph) (some (.ref lb)):=by
     have:=fq.rd (k:=(Sum.inr ph:Key)) (show Rd H5 db (.dK (aY ev)) from (BD.same s5).d)
     rwa [SN] at this
    have vD:=R.len
    refine ⟨_,rfl,_,rfl,db,_,rfl,gb,lb,rfl,⟨_,aK.of (s5 _ _ R.l)⟩,eQ (K:=K) (a:=lb) (xs:=rs.map V.ref) (fun i σ H6=>∃ (v3 v6 v7:Option V) (kvs:List (List Key×V)),σ=[some (.ref db),some (.ref x),some (.ref de),v3,some (.ref df),some (.str ph),v6,v7]∧H6 df=some (.dT kvs)∧mK kvs (fun p w e=>e < hs.length∧((p∈(mv.map (·.1)).take j∧(w,hs.getD e "")∈B p)∨(p=ph∧(w,hs.getD e "")∈(B ph).take i)))∧kvs.length≤j * 10000 + i * 100∧∀ c oc,H4 c=some oc→c≠df→H6 c=some oc) ⟨_,_,_,kvs,rfl,h5,hS.congr fun p w e=>by simp,by omega,kk⟩ (fun i σ H6 _ ⟨_,_,_,_,_,_,_,_,kk⟩=>aK.of (keep kk _ _ R.l)) ?_ ?_⟩
    ·rintro i y σ H6 hy ⟨v3,v6,v7,kvs,rfl,h6,hS,AQ,kk⟩
     have hi:i < rs.length:=by have:=(List.getElem?_eq_some_iff.mp hy).1; rwa [List.length_map] at this
     have Pz:i < (B ph).length:=by omega
     rw [List.getElem?_map,List.getElem?_eq_getElem hi] at hy
     cases hy
     have PB:H rs[i]=some (.tup [.str (B ph)[i].1,.str (B ph)[i].2]):=R.t.2 i rs[i] (nG (B ph)[i]) (List.getElem?_eq_getElem hi) (by rw [List.getElem?_map,List.getElem?_eq_getElem Pz]; rfl)
     have Xf:(B ph).take (i + 1)=(B ph).take i++[(B ph)[i]]:=by rw [List.take_add_one,List.getElem?_eq_getElem Pz]; rfl
     generalize (B ph)[i]=q at PB Xf
     have s6:=keep kk
     have Xg:H6 de=some (.frz o (.dK (aY mv))):=kk _ _ UI (Ne.symm DH)
     refine ⟨rs[i],_,rfl,jF.of (s6 _ _ PB),rfl,_,_,rfl,_,_,rfl,rfl,?_⟩
     refine ⟨_,rfl,de,rfl,.inl ⟨_,.inr ⟨o,Xg⟩⟩,_,rfl,Nat.zero_le _,fun l0 AR=>?_⟩
     have IJ:a6 H6 (upd H6 l0 (.lst [])):=a6.upd AR
     have Xh:(upd H6 l0 (.lst [])) l0=some (.lst []):=a9
     generalize upd H6 l0 (.lst [])=H7 at IJ Xh
     have key:∃ (u:Addr) (oo:Option V),bK (aY mv) (Sum.inr q.2:Key)=oo∧oo.getD (.ref l0)=.ref u∧H7 u=some (.lst ((c6 hs hs.length q.2).map fun i:Nat=>V.int (i:Int)))∧u≠df:=by
      by_cases hp:q.2∈mv.map (·.1)
      ·obtain ⟨u,P7,UE⟩:=gr hp
       have PL:=Xe _ P7
       have nu:u≠df:=fun z=>by
        have PL:H4 u=_:=PL
        rw [z,nf] at PL; cases PL
       exact ⟨u,_,UE,rfl,IJ _ _ (kk _ _ PL nu),nu⟩
      ·refine ⟨l0,_,g6 hp,rfl,?_,fun z=>by rw [z,h6] at AR; cases AR⟩
       have e:c6 hs hs.length q.2=[]:=List.eq_nil_iff_forall_not_mem.mpr fun i hi=>by
        obtain ⟨i1,i2⟩:=oJ.mp hi
        refine hp ((oN _).mpr ?_)
        rw [← i2,List.getD_eq_getElem?_getD,List.getElem?_eq_getElem i1]
        exact List.getElem_mem _
       rw [e]
       exact Xh
     obtain ⟨u,oo,e1,e2,UK,nu⟩:=key
     have g:=fq.f (k:=(Sum.inr q.2:Key)) (IJ _ _ Xg)
     rw [e1] at g
     have h7:=IJ _ _ h6
     have s47:∀ c oc,H4 c=some oc→c≠df→H7 c=some oc:=fun c oc e hc=>IJ _ _ (kk c oc e hc)
     have zI:=uJ hs hs.length q.2
     have Xi:∀ m:Nat,m∈c6 hs hs.length q.2↔m < hs.length∧hs.getD m ""=q.2:=fun m=>oJ
     generalize c6 hs hs.length q.2=ds at UK zI Xi
     refine ⟨_,g,u,e2,⟨_,aK.of UK⟩,eQ (K:=K) (a:=u) (xs:=ds.map fun i:Nat=>V.int (i:Int)) (fun m σ H8=>∃ (v3:Option V) (kvs:List (List Key×V)),σ=[some (.ref db),some (.ref x),some (.ref de),v3,some (.ref df),some (.str ph),some (.str q.1),some (.str q.2)]∧H8 df=some (.dT kvs)∧mK kvs (fun p w e=>(e < hs.length∧((p∈(mv.map (·.1)).take j∧(w,hs.getD e "")∈B p)∨(p=ph∧(w,hs.getD e "")∈(B ph).take i)))∨(p=ph∧w=q.1∧e∈ds.take m))∧kvs.length≤j * 10000 + i * 100 + m∧∀ c oc,H7 c=some oc→c≠df→H8 c=some oc) ⟨_,kvs,rfl,h7,hS.congr fun p w e=>by simp,AQ,fun c oc e _=>e⟩ (fun m σ H8 _ ⟨_,_,_,_,_,_,PN⟩=>aK.of (PN _ _ UK nu)) ?_ ?_⟩
     ·rintro m y σ H8 hy ⟨v3,kvs,rfl,h8,hS,AQ,PN⟩
      have hm:m < ds.length:=by have:=(List.getElem?_eq_some_iff.mp hy).1; rwa [List.length_map] at this
      rw [List.getElem?_map,List.getElem?_eq_getElem hm] at hy
      cases hy
      have Xj:ds.take (m + 1)=ds.take m++[ds[m]]:=by rw [List.take_add_one,List.getElem?_eq_getElem hm]; rfl
      generalize ds[m]=dk at Xj
      refine ⟨_,rfl,_,rfl,_,rfl,_,rfl,by show 3≤sizeLine; decide,fun r hr=>?_⟩
      have h9:(upd H8 r (.tup [.str ph,.str q.1,.int (dk:Int)])) df=some (.dT kvs):=a6.upd hr _ _ h8
      have Xk:(upd H8 r (.tup [.str ph,.str q.1,.int (dk:Int)])) r=some (.tup ((gT ph q.1 dk).map kV)):=a9
      have GD:a6 H8 (upd H8 r (.tup [.str ph,.str q.1,.int (dk:Int)])):=a6.upd hr
      generalize upd H8 r (.tup [.str ph,.str q.1,.int (dk:Int)])=H9 at h9 Xk GD
      have hsz:kvs.length < sizeLine:=Nat.lt_of_le_of_lt (show kvs.length≤1100000 by omega) (by rw [sizeLine_eq]; decide)
      refine ⟨df,_,rfl,kR.t h9 Xk hsz,?_⟩
      refine ⟨_,putK kvs (gT ph q.1 dk) (.int 1),rfl,a9,hS.put ph q.1 dk fun p' w' e'=>?_,Nat.le_trans (il ..) (by omega),fun c oc e hc=>by rw [ai hc]; exact GD _ _ (PN c oc e hc)⟩
      rw [Xj,List.mem_append,List.mem_singleton]
      exact ⟨fun z=>z.elim (fun z=>.inl (.inl z)) fun z=>z.2.2.elim (fun y=>.inl (.inr ⟨z.1,z.2.1,y⟩)) fun y=>.inr ⟨z.1,z.2.1,y⟩,fun z=>z.elim (fun z=>z.elim .inl fun z=>.inr ⟨z.1,z.2.1,.inl z.2.2⟩) fun z=>.inr ⟨z.1,z.2.1,.inr z.2.2⟩⟩
     ·rintro σ H8 ⟨v3,kvs,rfl,h8,hS,AQ,PN⟩
      rw [List.length_map,List.take_length] at hS
      rw [List.length_map] at AQ
      refine ⟨_,_,_,kvs,rfl,h8,hS.congr fun p w e=>?_,by omega,fun c oc e hc=>PN _ _ (s47 c oc e hc) hc⟩
      rw [Xf,List.mem_append,List.mem_singleton,Xi]
      constructor
      ·rintro ⟨z1,z2 | ⟨z2,z3 | z3⟩⟩
       ·exact .inl ⟨z1,.inl z2⟩
       ·exact .inl ⟨z1,.inr ⟨z2,z3⟩⟩
       ·rw [← z3]
        exact .inr ⟨z2,rfl,z1,rfl⟩
      ·rintro (⟨z1,z2 | z2⟩ | ⟨z1,z2,z3,z4⟩)
       ·exact ⟨z1,.inl z2⟩
       ·exact ⟨z1,.inr ⟨z2.1,.inl z2.2⟩⟩
       ·exact ⟨z3,.inr ⟨z1,.inr (by rw [z2,z4])⟩⟩
    ·rintro σ H6 ⟨v3,v6,v7,kvs,rfl,h6,hS,AQ,kk⟩
     rw [List.length_map,vD,List.take_length] at hS
     rw [List.length_map,vD] at AQ
     refine ⟨_,_,_,_,kvs,rfl,h6,hS.congr fun p w e=>?_,by omega,kk⟩
     rw [pW,List.mem_append,List.mem_singleton]
     constructor
     ·rintro ⟨z1,z2 | z2,z3⟩
      ·exact ⟨z1,.inl ⟨z2,z3⟩⟩
      ·exact ⟨z1,.inr ⟨z2,by rw [← z2]; exact z3⟩⟩
     ·rintro ⟨z1,z2 | z2⟩
      ·exact ⟨z1,.inl z2.1,z2.2⟩
      ·exact ⟨z1,.inr z2.1,by rw [z2.1]; exact z2.2⟩
   ·rintro σ H5 ⟨v3,v5,v6,v7,kvs,rfl,h5,hS,AQ,kk⟩
    rw [List.length_map,List.take_length] at hS
    exact ⟨_,rfl,k df kvs H5 (keep kk) h5 (hS.congr fun p w e=>by rw [oN])⟩
noncomputable def Cb (K:PySem.W.Frag) (C:Addr):Sp:=fun vs H Q _=>∃ (x a:Addr) (d:Nat) (ns:List Int) (hs:List Str) (ws:List Int) (lns:List (List (Str×Nat))) (qs:List (Str×Nat)),vs=[.ref x,.ref a,.int (d:Int)]∧dJ K C H x hs ws lns∧aK K H a (ns.map V.int)∧lns[d]?=some qs∧(∀ q∈qs,q.2 < ws.length)∧qs.length≤5000 ∧
 ∀ (l:Addr) (H':Hp),a6 H H'→H' l=some (.lst [.int (aN ws (b9 ns qs)),.int (aN ws (aV ns qs))])→Q (.ref l) H'
theorem yN (f:Nat→Bool) (ws:List Int) (qs:List (Str×Nat)) {i:Nat} {q:Str×Nat} (h:qs[i]?=some q):aN ws (aU f 0 (qs.take (i + 1)))=aN ws (aU f 0 (qs.take i)) + if f i=true then ws.getD q.2 0 else 0:=by
 have hi:=(List.getElem?_eq_some_iff.mp h).1
 rw [List.take_add_one,h]
 show aN ws (aU f 0 (qs.take i++[q]))=_
 rw [kc,lC,List.length_take,Nat.zero_add,Nat.min_eq_left (by omega)]
 cases f i with
 | true=>
   show _ + (ws.getD q.2 0 + 0)=_ + ws.getD q.2 0
   omega
 | false=>rfl
theorem ik:az ["_law_sheet","_law_numbers","_law_desk","_law_sums","_law_k","_law_side"] ["_law_sheet","_law_numbers","_law_desk"] (aa (top 51)):=⟨rfl,rfl,rfl,by decide +kernel,rfl,by decide +kernel,by decide +kernel⟩
theorem mj (L:Lk K mg):bD P w K mg base iN 1 L.e8 L.gQ ["_law_sheet","_law_numbers","_law_desk"] (Cb K L.ao):=by
 have T:=L.T
 refine L.bB.F.ok ik (fun vs H Q E h=>?_) (fun cR A outer s H vs Q E hr h=>?_)
 ·obtain ⟨x,a,d,ns,hs,ws,lns,qs,rfl,_⟩:=h
  rfl
 ·obtain ⟨x,a,d,ns,hs,ws,lns,qs,rfl,S,hA,hd,Gz,Mw,k⟩:=h
  refine ⟨_,(a7 (av (i:=3) ik.nd rfl (Or.inl rfl) (cQ (a5 ae (a5 ae a8))))
   (a7 (bH PassesOwn.never rfl (cC rfl T.range (a5 (au aW (by rfl) T.len PySem.boot_len (a5 (cz b8 (b4 (pv 0) rfl) (pv 2) (fun _ _=>rfl)) a8)) a8)) (aG (i:=4) ik.nd rfl (Or.inl rfl)) (a7 (av (i:=5) ik.nd rfl (Or.inl rfl) (eE CC (by rfl) T.int Od (a5 (i3 iJ (pv 4) (pv 1) rfl) a8)))
   (ag (qa (aI eJ (cz b8 (pv 3) (pv 5) (fun _ _=>rfl)) (cz b8 (b4 (pv 0) rfl) (cz Kb (cz b8 (cz b8 (b4 (pv 0) rfl) (pv 2) (fun _ _=>rfl)) (pv 4) (fun _ _=>rfl)) ae (fun _ _=>rfl)) (fun _ _=>rfl))) (zQ (pv 3) (pv 5) set_list)))))
   (ag (aF (pv 3))))),?_⟩
  obtain ⟨dx,ah,bw,cl,hx,rh,qf,rl⟩:=id S
  have hw:=pZ qf
  obtain ⟨Rl,xs,ec,hc,ip⟩:=id rl
  cases ec
  obtain ⟨v,JB,rd⟩:=ip.at (i:=d) (d:=dE qs) (by rw [List.getElem?_map,hd]; rfl)
  obtain ⟨al,rs,rfl,hS,hT⟩:=jR rd
  have vD:rs.length=qs.length:=by rw [hT.1,List.length_map,List.length_map]
  refine ⟨by show 2≤sizeLine; decide,fun l hl=>?_⟩
  have s0:a6 H (upd H l (.lst [.int 0,.int 0])):=a6.upd hl
  have h0:(upd H l (.lst [.int 0,.int 0])) l=some (.lst [.int 0,.int 0]):=a9
  generalize upd H l (.lst [.int 0,.int 0])=Hb at s0 h0
  refine ⟨_,rfl,x,L.ao,dx,_,_,rfl,s0 _ _ hx,L.ak.cl,L.ak.fW,bY ah bw cl,_,rfl,cl,xs,_,_,rfl,rfl,s0.seq (.inl hc),bZ JB,al,_,rfl,.inl (s0.seq hS),_,rfl,by omega,by rw [List.length_map]; omega,dz (lo:=0) (n:=(rs.map V.ref).length) (fun j σ H3=>∃ (v4 v5:Option V),σ=[some (.ref x),some (.ref a),some (.int (d:Int)),some (.ref l),v4,v5]∧H3 l=some (.lst [.int (aN ws (aU (fun i=>decide ((i:Int)∈ns)) 0 (qs.take j))),.int (aN ws (aU (fun i=>!decide ((i:Int)∈ns)) 0 (qs.take j)))])∧a6 H H3) ⟨none,none,rfl,h0,s0⟩ ?_ ?_⟩
  ·rintro j σ H3 hj ⟨v4,v5,rfl,h3,s3⟩
   rw [List.length_map] at hj
   rw [Int.zero_add]
   have Lq:j < qs.length:=by omega
   have UL:(rs.map V.ref)[j]?=some (.ref rs[j]):=by rw [List.getElem?_map,List.getElem?_eq_getElem hj]; rfl
   have Lr:H rs[j]=some (.tup [.str qs[j].1,.int (qs[j].2:Int)]):=hT.2 j rs[j] (nD (lz qs[j])) (List.getElem?_eq_getElem hj) (by rw [List.getElem?_map,List.getElem?_map,List.getElem?_eq_getElem Lq]; rfl)
   have UM:=Gz qs[j] (List.getElem_mem Lq)
   have ec:=yN (fun i=>decide ((i:Int)∈ns)) ws qs (List.getElem?_eq_getElem Lq)
   have eo:=yN (fun i=>!decide ((i:Int)∈ns)) ws qs (List.getElem?_eq_getElem Lq)
   generalize qs[j]=q at Lr UM ec eo
   generalize rs[j]=rj at UL Lr
   have DK:pA (ws.map V.int) (q.2:Int)=some (.int (ws.getD q.2 0)):=bZ (by rw [List.getElem?_map,List.getElem?_eq_getElem UM,List.getD_eq_getElem?_getD,List.getElem?_eq_getElem UM]; rfl)
   have NN:nY (.int (j:Int)) (ns.map V.int)=decide ((j:Int)∈ns):=qY _ ns
   generalize aN ws (aU (fun i=>decide ((i:Int)∈ns)) 0 (qs.take j))=A0 at h3 ec
   generalize aN ws (aU (fun i=>!decide ((i:Int)∈ns)) 0 (qs.take j))=A1 at h3 eo
   refine ⟨_,rfl,_,rfl,a,_,rfl,.inl (s3.seq hA),rfl,lS ns,.inr ⟨_,rfl,?_⟩⟩
   rw [NN]
   have fin:∀ (v:Int) (u:List V),u=[.int (aN ws (aU (fun i=>decide ((i:Int)∈ns)) 0 (qs.take (j + 1)))),.int (aN ws (aU (fun i=>!decide ((i:Int)∈ns)) 0 (qs.take (j + 1))))]→∃ (v4 v5:Option V),[some (.ref x),some (.ref a),some (.int (d:Int)),some (.ref l),some (.int (j:Int)),some (V.int v)]=[some (.ref x),some (.ref a),some (.int (d:Int)),some (.ref l),v4,v5]∧(upd H3 l (.lst u)) l=some (.lst [.int (aN ws (aU (fun i=>decide ((i:Int)∈ns)) 0 (qs.take (j + 1)))),.int (aN ws (aU (fun i=>!decide ((i:Int)∈ns)) 0 (qs.take (j + 1))))])∧a6 H (upd H3 l (.lst u)):=fun v u e=>⟨_,_,rfl,by rw [a9,e],fun b o eb=>by rw [ai (aj eb hl)]; exact s3 _ _ eb⟩
   by_cases hm:(j:Int)∈ns
   ·rw [decide_eq_true hm]
    show jh 5 (V.int 0) _ _ _
    refine ⟨_,rfl,_,rfl,l,_,_,_,rfl,rfl,aK.of h3,rfl,_,rfl,x,L.ao,dx,_,_,rfl,s3 _ _ hx,L.ak.cl,L.ak.cD,bc ah bw cl,_,rfl,x,L.ao,dx,_,_,rfl,s3 _ _ hx,L.ak.cl,L.ak.fW,bY ah bw cl,_,rfl,cl,xs,_,_,rfl,rfl,s3.seq (.inl hc),bZ JB,_,rfl,al,_,_,_,rfl,rfl,s3.seq hS,bZ UL,rj,_,_,_,rfl,rfl,jF.of (s3 _ _ Lr),rfl,bw,_,_,_,rfl,rfl,s3.seq (.inl hw),DK,_,_,rfl,rfl,_,rfl,_,rfl,l,_,_,0,rfl,rfl,h3,rfl,?_⟩
    refine fin 0 _ ?_
    rw [ec,eo,decide_eq_true hm]
    show [V.int (A0 + ws.getD q.2 0),V.int A1]=[V.int (A0 + ws.getD q.2 0),V.int (A1 + 0)]
    rw [Int.add_zero]
   ·rw [decide_eq_false hm]
    show jh 5 (V.int 1) _ _ _
    refine ⟨_,rfl,_,rfl,l,_,_,_,rfl,rfl,aK.of h3,rfl,_,rfl,x,L.ao,dx,_,_,rfl,s3 _ _ hx,L.ak.cl,L.ak.cD,bc ah bw cl,_,rfl,x,L.ao,dx,_,_,rfl,s3 _ _ hx,L.ak.cl,L.ak.fW,bY ah bw cl,_,rfl,cl,xs,_,_,rfl,rfl,s3.seq (.inl hc),bZ JB,_,rfl,al,_,_,_,rfl,rfl,s3.seq hS,bZ UL,rj,_,_,_,rfl,rfl,jF.of (s3 _ _ Lr),rfl,bw,_,_,_,rfl,rfl,s3.seq (.inl hw),DK,_,_,rfl,rfl,_,rfl,_,rfl,l,_,_,1,rfl,rfl,h3,rfl,?_⟩
    refine fin 1 _ ?_
    rw [ec,eo,decide_eq_false hm]
    show [V.int A0,V.int (A1 + ws.getD q.2 0)]=[V.int (A0 + 0),V.int (A1 + ws.getD q.2 0)]
    rw [Int.add_zero]
  ·rintro σ H3 ⟨v4,v5,rfl,h3,s3⟩
   rw [List.length_map,vD,List.take_length] at h3
   exact ⟨_,rfl,k l H3 s3 h3⟩
theorem rB {α:Type}:∀ (i:Nat) (l:List α),aU (fun i=>!decide ((i:Int)∈([]:List Int))) i l=l
 | _,[]=>rfl
 | i,x :: l=>by
   show (if (!decide ((i:Int)∈([]:List Int)))=true then x :: aU _ (i + 1) l else _)=x :: l
   rw [if_pos (by simp),rB (i + 1) l]
noncomputable def Lz (K:PySem.W.Frag) (C:Addr):Sp:=fun vs H Q _=>∃ (x db lh:Addr) (many:Int) (ev:List (Str×Addr)) (B:Str→List (Str×Str)) (hs:List Str) (ws:List Int) (lns:List (List (Str×Nat))),vs=[.ref x,.int many,.ref db,.ref lh,.int ws.sum]∧dJ K C H x hs ws lns∧DM K H db ev B∧(∀ p∈hs,p∈ev.map (·.1))∧aK K H lh (hs.map V.str)∧me many hs ws lns∧FY B hs lns∧hs≠[]∧hs.length≤100∧(∀ l∈lns,l.length≤5000)∧0≤many∧many≤1000 ∧
 ∀ H',a6 H H'→Q (.bl true) H'
theorem Xl:∀ ws:List Str,ot (ws.map V.str) (ws.map V.str)=true
 | []=>rfl
 | w :: ws=>by
   show ((w == w) && ot (ws.map V.str) (ws.map V.str))=true
   rw [Xl ws]
   simp
theorem JG (ws:List Str):(ws.map V.str).all cP=true:=List.all_eq_true.mpr fun v hv=>by
 obtain ⟨i,_,rfl⟩:=List.mem_map.mp hv
 rfl
theorem nR:az ["_law_sheet","_law_many","_law_blocks","_law_homes","_law_total","_law_desk"] ["_law_sheet","_law_many","_law_blocks","_law_homes","_law_total"] (aa (top 52)):=⟨rfl,rfl,rfl,by decide +kernel,rfl,by decide +kernel,by decide +kernel⟩
theorem nS (L:Lk K mg):bD P w K mg base iN 2 L.dG L.iB ["_law_sheet","_law_many","_law_blocks","_law_homes","_law_total"] (Lz K L.ao):=by
 have T:=L.T
 refine L.bM.F.ok nR (fun vs H Q E h=>?_) (fun cR A outer s H vs Q E hr h=>?_)
 ·obtain ⟨x,db,lh,many,ev,B,hs,ws,lns,rfl,_⟩:=h
  rfl
 ·obtain ⟨x,db,lh,many,ev,B,hs,ws,lns,rfl,S,BD,Ly,IH,Be,PQ,kF,hn,hm,m0,m1,k⟩:=h
  have hu:=iX hr
  have Iy:(A.deeper (PyProof.Rows.envOfC "_law_good" (aa (top 52)) s.heap.objs.size L.dG cR)).units < cLine:=hr.qc
  refine ⟨_,(a7 (bV (PW.pt (jE (aH (Fo Iy) (b4 (pv 0) rfl) (pv 3) (aS _)) (jE (aH En (au aW (by rfl) T.len PySem.boot_len (a5 (b4 (pv 0) rfl) a8)) (au aW (by rfl) T.len PySem.boot_len (a5 (pv 3) a8)) (aS _)) (kK (aH En (au aW (by rfl) T.len PySem.boot_len (a5 (b4 (pv 0) rfl) a8)) (au aW (by rfl) T.len PySem.boot_len (a5 (pv 3) a8)) (aS _)))))) (ag (aF iR)) aP)
   (a7 (bV (PW.pt (jE (aH nh (au (Dy rfl) (by rfl) T.min Dh (a5 (b4 (pv 0) rfl) a8)) ae (aS _)) (kK (aH En (au (kZ rfl) (by rfl) T.sum Fe (a5 (b4 (pv 0) rfl) a8)) (pv 4) (aS _))))) (ag (aF iR)) aP)
   (a7 (bH PassesOwn.never rfl (cC rfl T.range (a5 (au aW (by rfl) T.len PySem.boot_len (a5 (pv 3) a8)) a8)) (aG (i:=5) nR.nd rfl (Or.inl rfl)) (ag (bV (aH nh (cz b8 (aq (mj L) (hr.mono (by decide)) rfl L.bB.g L.bB.F.kp L.bB.b .nil aC (a5 (pv 0) (a5 (cQ a8) (a5 (pv 5) a8)))) ae (fun _ _=>rfl)) (aI js (pv 1) (cz b8 (b4 (pv 0) rfl) (pv 5) (fun _ _=>rfl))) (aS _)) (ag (aF iR)) aP)))
   (ag (aF (i3 (Iv hu) (aq (sW L) (hr.mono (by decide)) rfl L.cy.g L.cy.F.kp L.cy.b .nil aC (a5 (pv 0) a8)) (aq (yM L) (hr.mono (by decide)) rfl L.dZ.g L.dZ.F.kp L.dZ.b .nil aC (a5 (pv 2) (a5 (pv 0) a8))) (aS _))))))),?_⟩
  obtain ⟨dx,ah,bw,cl,hx,rh,qf,rl⟩:=id S
  have hh:=nK rh
  have hw:=pZ qf
  obtain ⟨Rl,xs,ec,hc,ip⟩:=id rl
  cases ec
  have xl:xs.length=lns.length:=by rw [ip.len,List.length_map]
  have nc:=Be.w
  have vt:=Be.l
  have hsn:hs.length≠0:=fun z=>kF (List.eq_nil_of_length_eq_zero z)
  refine ⟨_,rfl,x,L.ao,dx,_,_,rfl,hx,L.ak.cl,L.ak.ia,cS ah bw cl,_,rfl,ah,lh,_,_,rfl,rfl,.inl hh,IH,JG hs,JG hs,false,congrArg V.bl (by rw [Xl]; rfl),?_⟩
  refine ⟨_,rfl,x,L.ao,dx,_,_,rfl,hx,L.ak.cl,L.ak.cD,bc ah bw cl,bw,_,rfl,.inl (.inl hw),_,rfl,lh,_,rfl,.inl IH,rfl,false,congrArg V.bl (by rw [List.length_map,List.length_map,nc]; simp),?_⟩
  refine ⟨_,rfl,x,L.ao,dx,_,_,rfl,hx,L.ak.cl,L.ak.fW,bY ah bw cl,cl,_,rfl,.inl (.inl hc),_,rfl,lh,_,rfl,.inl IH,rfl,false,congrArg V.bl (by rw [List.length_map,xl,vt]; simp),?_⟩
  refine ⟨_,rfl,x,L.ao,dx,_,_,rfl,hx,L.ak.cl,L.ak.cD,bc ah bw cl,bw,ws,rfl,.inl hw,fun z=>hsn (by rw [← nc,z]; rfl),fun M hM hMl=>?_⟩
  have hM1:=Be.p M hM
  refine ⟨_,_,rfl,rfl,false,congrArg V.bl (decide_eq_false (by omega)),?_⟩
  refine ⟨_,rfl,x,L.ao,dx,_,_,rfl,hx,L.ak.cl,L.ak.cD,bc ah bw cl,bw,ws,rfl,.inl hw,_,rfl,rfl,false,KR _,?_⟩
  refine ⟨_,rfl,lh,_,rfl,.inl IH,_,rfl,by omega,by rw [List.length_map]; omega,dz (lo:=0) (n:=(hs.map V.str).length) (fun j σ H3=>a6 H H3∧∃ (v5:Option V),σ=[some (.ref x),some (.int many),some (.ref db),some (.ref lh),some (.int ws.sum),v5]) ⟨a6.refl _,none,rfl⟩ ?_ ?_⟩
  ·rintro j σ H3 hj ⟨s3,v5,rfl⟩
   rw [List.length_map] at hj
   rw [Int.zero_add]
   have DA:lns[j]?=some (lns[j]'(by omega)):=List.getElem?_eq_getElem _
   have Cm:lns[j]'(by omega)∈lns:=List.getElem_mem _
   generalize lns[j]'(by omega)=qs at DA Cm
   have Xm:j < ws.length:=by omega
   have DK:pA (ws.map V.int) (j:Int)=some (.int (ws.getD j 0)):=bZ (by rw [List.getElem?_map,List.getElem?_eq_getElem Xm,List.getD_eq_getElem?_getD,List.getElem?_eq_getElem Xm]; rfl)
   refine ⟨_,rfl,Nat.zero_le _,fun l0 AR=>?_⟩
   have Xn:a6 H3 (upd H3 l0 (.lst [])):=a6.upd AR
   have PH:(upd H3 l0 (.lst [])) l0=some (.lst (([]:List Int).map V.int)):=a9
   generalize upd H3 l0 (.lst [])=H4 at Xn PH
   have s4:=s3.trans Xn
   refine ⟨_,rfl,x,l0,j,[],hs,ws,lns,qs,rfl,S.same s4,aK.of PH,DA,fun q hq=>by rw [nc]; exact Be.e qs Cm q hq,hm qs Cm,fun l5 H5 s5 h5=>?_⟩
   have eo:aN ws (aV [] qs)=aN ws qs:=congrArg (aN ws) (rB 0 qs)
   rw [eo] at h5
   have hb:=Be.b j qs DA
   have GI:=s4.trans s5
   refine ⟨l5,_,_,_,rfl,rfl,aK.of h5,rfl,_,rfl,_,rfl,x,L.ao,dx,_,_,rfl,GI _ _ hx,L.ak.cl,L.ak.cD,bc ah bw cl,_,rfl,bw,_,_,_,rfl,rfl,GI.seq (.inl hw),DK,_,_,rfl,rfl,.inl ⟨by omega,by omega⟩,_,_,rfl,rfl,false,congrArg V.bl (decide_eq_false (by omega)),fz ⟨GI,_,rfl⟩⟩
  ·rintro σ H3 ⟨s3,v5,rfl⟩
   refine ⟨_,rfl,x,hs,ws,lns,rfl,S.same s3,vt,hn,hm,fun d4 ka H4 s4 h4 hC=>?_⟩
   have sS:=s3.trans s4
   refine ⟨_,rfl,_,rfl,db,x,ev,B,hs,ws,lns,rfl,BD.same sS,Ly,S.same sS,hn,fun d5 kb H5 s5 h5 hD=>?_⟩
   have hE:j4 kb (fun p w e=>gE p (w,e) hs lns):=hD.cnt (fun p w e z=>by rw [PQ p w e,if_pos z]) fun p w e z=>by rw [PQ p w e,if_neg z]
   exact ⟨d4,d5,ka,kb,rfl,rfl,s5 _ _ h4,h5,hC.len hE,hC.hits hE,k H5 (sS.trans s5)⟩
noncomputable def LA:Sp:=fun vs H Q _=>∃ (c:Int) (n:Nat),vs=[.int c,.int (n:Int)]∧n≤10000∧∀ (l:Addr) (ns:List Int) (H':Hp),a6 H H'→H' l=some (.lst (ns.map V.int))→(∀ i∈ns,0≤i∧i < (n:Int))→ns.length≤n→Q (.ref l) H'
theorem eu:az ["_law_cell","_law_size","_law_bits","_law_found","_law_k","_law_bit"] ["_law_cell","_law_size"] (aa (top 53)):=⟨rfl,rfl,rfl,by decide +kernel,rfl,by decide +kernel,by decide +kernel⟩
theorem vK (L:Lk K mg):bD P w K mg base iN 2 L.fj L.iC ["_law_cell","_law_size"] LA:=by
 have T:=L.T
 refine L.cZ.F.ok eu (fun vs H Q E h=>?_) (fun cR A outer s H vs Q E hr h=>?_)
 ·obtain ⟨c,n,rfl,_⟩:=h
  rfl
 ·obtain ⟨c,n,rfl,hn,k⟩:=h
  refine ⟨_,(a7 (av (i:=2) eu.nd rfl (Or.inl rfl) (aI fV (aI fV (aI fV (aI fV (au xI (by rfl) T.abs Om (a5 (pv 0) a8)) ae) ae) ae) ae))
   (a7 (av (i:=3) eu.nd rfl (Or.inl rfl) (cQ a8))
   (a7 (bH PassesOwn.never rfl (cC rfl T.range (a5 (pv 1) a8)) (aG (i:=4) eu.nd rfl (Or.inl rfl)) (a7 (av (i:=5) eu.nd rfl (Or.inl rfl) (aI iS (pv 2) ae))
   (a7 (av (i:=2) eu.nd rfl (Or.inl rfl) (aI fV (pv 2) ae))
   (vj (bV (aH m3 (aI iS (pv 0) ae) ae (aS _)) (ag (av (i:=5) eu.nd rfl (Or.inl rfl) (aq (aM L) (hr.mono (by decide)) rfl L.af.g L.af.F.kp L.af.b .nil aC (a5 (pv 0) (a5 (aI eJ ae (pv 4)) (a5 ae a8)))))) aP)
   (ag (bV (aH m3 (pv 5) ae (aS _)) (ag (fo (nk PySem.F.plainAttrs_list PySem.F.slot_list_append PySem.F.type_list_append gj (pv 3) (a5 (pv 4) a8)))) aP))))))
   (ag (aF (pv 3)))))),?_⟩
  refine ⟨_,rfl,c,rfl,_,_,rfl,rfl,⟨by decide,by decide⟩,_,_,rfl,rfl,⟨by decide,by decide⟩,_,_,rfl,rfl,⟨by decide,by decide⟩,_,_,rfl,rfl,⟨by decide,by decide⟩,?_⟩
  refine ⟨Nat.zero_le _,fun l hl=>?_⟩
  have s0:a6 H (upd H l (.lst [])):=a6.upd hl
  have h0:(upd H l (.lst [])) l=some (.lst (([]:List Int).map V.int)):=a9
  generalize upd H l (.lst [])=Hb at s0 h0
  refine ⟨_,rfl,_,rfl,by omega,by omega,dz (lo:=0) (n:=n) (fun j σ H3=>∃ (b:Int) (v4 v5:Option V) (ns:List Int),σ=[some (.int c),some (.int (n:Int)),some (.int b),some (.ref l),v4,v5]∧H3 l=some (.lst (ns.map V.int))∧(∀ i∈ns,0≤i∧i < (j:Int))∧ns.length≤j∧a6 H H3) ⟨_,none,none,[],rfl,h0,fun i hi=>(nomatch hi),Nat.zero_le _,s0⟩ ?_ ?_⟩
  ·rintro j σ H3 hj ⟨b,v4,v5,ns,rfl,h3,BZ,Mx,s3⟩
   rw [Int.zero_add]
   refine ⟨_,rfl,_,_,rfl,rfl,(by show (0:Int) < 2; decide),?_⟩
   refine ⟨_,rfl,_,_,rfl,rfl,⟨by decide,by decide⟩,?_⟩
   refine ⟨fun σ H4=>H3=H4∧∃ bit:Int,σ=[some (.int c),some (.int (n:Int)),some (.int (b / 2)),some (.ref l),some (.int (j:Int)),some (.int bit)],?_,?_⟩
   ·refine ⟨_,rfl,_,_,rfl,rfl,(by show (0:Int) < 2; decide),rfl,_,rfl,uV (fun _=>?_) (fun _=>⟨rfl,_,rfl⟩)⟩
    exact ⟨_,rfl,_,rfl,_,_,rfl,rfl,c,20 + j,2,rfl,by omega,by omega,by decide,fun d _ _=>⟨rfl,_,rfl⟩⟩
   ·rintro σ H4 ⟨rfl,bit,rfl⟩
    refine ⟨_,rfl,rfl,_,rfl,uV (fun _=>?_) (fun _=>⟨_,_,_,ns,rfl,h3,fun i hi=>?_,by omega,s3⟩)⟩
    ·refine ⟨_,rfl,.inl ⟨rfl,_,aK.of h3⟩,_,rfl,l,_,_,rfl,rfl,h3,Nat.lt_of_le_of_lt (show (ns.map V.int).length≤10000 by rw [List.length_map]; omega) (by rw [sizeLine_eq]; decide),?_⟩
     refine ⟨_,_,_,ns++[(j:Int)],rfl,?_,fun i hi=>?_,by rw [List.length_append]; show ns.length + 1≤_; omega,fun q o e=>by rw [ai (aj e hl)]; exact s3 _ _ e⟩
     ·rw [a9,List.map_append]
      rfl
     ·rcases List.mem_append.mp hi with z | z
      ·have:=BZ i z
       omega
      ·rw [List.mem_singleton.mp z]
       omega
    ·have:=BZ i hi
     omega
  ·rintro σ H3 ⟨b,v4,v5,ns,rfl,h3,BZ,Mx,s3⟩
   exact ⟨_,rfl,k l ns H3 s3 h3 BZ Mx⟩
noncomputable def Gg (K:PySem.W.Frag) (C:Addr):Sp:=fun vs H Q _=>∃ (c:Int) (x:Addr) (many:Int) (hs:List Str) (ws:List Int) (lns:List (List (Str×Nat))),vs=[.int c,.ref x,.int many]∧dJ K C H x hs ws lns∧me many hs ws lns∧hs.length≤100∧(∀ l∈lns,l.length≤5000)∧1≤many∧many≤1000∧(∀ w∈ws,w≤1000000)∧(∀ H',a6 H H'→Q .non H') ∧
 ∀ (t l:Addr) (d:Nat) (ns:List Int) (w:Int) (H':Hp),a6 H H'→H' t=some (.tup [.int (d:Int),.ref l,.int w])→H' l=some (.lst (ns.map V.int))→d < hs.length→ns.length≤5000→i9 ws lns many (d:Int) ns w=true→Q (.ref t) H'
theorem ofInts:∀ {zs:List V},(∀ z∈zs,∃ i:Int,z=.int i)→∃ is:List Int,zs=is.map V.int
 | [],_=>⟨[],rfl⟩
 | z :: zs,h=>by
   obtain ⟨i,rfl⟩:=h z (List.mem_cons_self ..)
   obtain ⟨is,rfl⟩:=ofInts fun y hy=>h y (List.mem_cons_of_mem _ hy)
   exact ⟨i :: is,rfl⟩
theorem Cp {ws:List Int} {many w:Int} {qs:List (Str×Nat)} (hm:1≤many) (h1:1≤w) (h2:w≤aN ws qs / many):fJ ws many qs w=true:=by
 have h3:many * w≤aN ws qs:=by
  have:=Int.mul_le_of_le_ediv (show 0 < many by omega) h2
  rwa [Int.mul_comm] at this
 have h4:qs≠[]:=fun z=>by
  rw [z] at h3
  have h5:many * w≤0:=h3
  have:=Int.mul_pos (show 0 < many by omega) (show 0 < w by omega)
  omega
 unfold fJ
 rw [decide_eq_true h1,decide_eq_true h3]
 cases qs with
 | nil=>exact absurd rfl h4
 | cons _ _=>rfl
theorem cN:az ["_law_cell","_law_sheet","_law_many","_law_heavy","_law_desk","_law_numbers","_law_sums","_law_low","_law_high"] ["_law_cell","_law_sheet","_law_many"] (aa (top 54)):=⟨rfl,rfl,rfl,by decide +kernel,rfl,by decide +kernel,by decide +kernel⟩
theorem rD (L:Lk K mg):bD P w K mg base iN 3 L.cA L.fT ["_law_cell","_law_sheet","_law_many"] (Gg K L.ao):=by
 have T:=L.T
 refine L.bT.F.ok cN (fun vs H Q E h=>?_) (fun cR A outer s H vs Q E hr h=>?_)
 ·obtain ⟨c,x,many,hs,ws,lns,rfl,_⟩:=h
  rfl
 ·obtain ⟨c,x,many,hs,ws,lns,rfl,S,Be,hn,hm,m0,m1,MA,kN,kT⟩:=h
  have Iy:(A.deeper (PyProof.Rows.envOfC "_law_choice" (aa (top 54)) s.heap.objs.size L.cA cR)).units < cLine:=hr.qc
  refine ⟨_,(a7 (mD (i:=3) rfl (ay (sc:=aa (top 54)) (N:=["_law_cell","_law_sheet","_law_many","_law_heavy","_law_desk","_law_numbers","_law_sums","_law_low","_law_high"]) (ys:=["_law_sheet"]) (ix:=[1]) rfl rfl (by decide +kernel)) cN.nd rfl rfl (cC rfl T.range (a5 (au aW (by rfl) T.len PySem.boot_len (a5 (b4 (pv 1) rfl) a8)) a8)) (fun _ _ _ _ _ _=>jl (aH m4 (cz (y4 (K:=K) rfl) (C4 (K:=K) rfl (pv 1) rfl) (pv 0) (fun _ _=>rfl)) ae (aS _))) (fun _ _ _ _ _ _=>(pv 0)))
   (a7 (bV (aH (EY Iy) (pv 3) (cQ a8) (aS _)) (ag (aF q9)) aP)
   (a7 (av (i:=4) cN.nd rfl (Or.inl rfl) (cz b8 (pv 3) (aq (aM L) (hr.mono (by decide)) rfl L.af.g L.af.F.kp L.af.b .nil aC (a5 (pv 0) (a5 ae (a5 (au aW (by rfl) T.len PySem.boot_len (a5 (pv 3) a8)) a8)))) (fun _ _=>rfl)))
   (a7 (av (i:=5) cN.nd rfl (Or.inl rfl) (aq (vK L) (hr.mono (by decide)) rfl L.cZ.g L.cZ.F.kp L.cZ.b .nil aC (a5 (pv 0) (a5 (au aW (by rfl) T.len PySem.boot_len (a5 (cz b8 (b4 (pv 1) rfl) (pv 4) (fun _ _=>rfl)) a8)) a8))))
   (a7 (av (i:=6) cN.nd rfl (Or.inl rfl) (aq (mj L) (hr.mono (by decide)) rfl L.bB.g L.bB.F.kp L.bB.b .nil aC (a5 (pv 1) (a5 (pv 5) (a5 (pv 4) a8)))))
   (a7 (av (i:=7) cN.nd rfl (Or.inl rfl) (au (tW rfl) (by rfl) T.max Jk (a5 ae (a5 (aI mr (cz b8 (b4 (pv 1) rfl) (pv 4) (fun _ _=>rfl)) (aI fV (cz b8 (pv 6) ae (fun _ _=>rfl)) (pv 2))) a8))))
   (a7 (av (i:=8) cN.nd rfl (Or.inl rfl) (au (jG rfl) (by rfl) T.min Dh (a5 (aI mr (cz b8 (b4 (pv 1) rfl) (pv 4) (fun _ _=>rfl)) ae) (a5 (aI fV (cz b8 (pv 6) ae (fun _ _=>rfl)) (pv 2)) a8))))
   (a7 (bV (aH m4 (pv 7) (pv 8) (aS _)) (ag (aF q9)) aP)
   (ag (aF (iU (a5 (pv 4) (a5 (pv 5) (a5 (aI eJ (pv 7) (aq (aM L) (hr.mono (by decide)) rfl L.af.g L.af.F.kp L.af.b .nil aC (a5 (pv 0) (a5 ae (a5 (aI eJ (aI mr (pv 8) (pv 7)) ae) a8))))) a8)))))))))))))),?_⟩
  obtain ⟨dx,ah,bw,cl,hx,rh,qf,rl⟩:=id S
  have hh:=nK rh
  have hw:=pZ qf
  obtain ⟨Rl,xs,ec,hc,ip⟩:=id rl
  cases ec
  have xl:xs.length=lns.length:=by rw [ip.len,List.length_map]
  have nc:=Be.w
  have vt:=Be.l
  refine ⟨_,rfl,x,L.ao,dx,_,_,rfl,hx,L.ak.cl,L.ak.ia,cS ah bw cl,ah,_,rfl,.inl (.inl hh),_,rfl,by omega,by rw [List.length_map]; omega,fun lc Ck=>?_⟩
  have Xo:∀ d:Nat,d < hs.length→pA (ws.map V.int) (d:Int)=some (.int (ws.getD d 0)):=fun d hd=>bZ (by rw [List.getElem?_map,List.getElem?_eq_getElem (by omega),List.getD_eq_getElem?_getD,List.getElem?_eq_getElem (by omega)]; rfl)
  refine jI (fun v=>match v with | .int i=>decide (1 < ws.getD i.toNat 0) | _=>false) (fun v=>v) (mz 0 (hs.map V.str).length) Ck (by rw [List.length_map,List.length_range,List.length_map]; exact aD (by omega)) (fun _ _=>trivial) (fun z H2 Q' hz s2 qq=>?_) (fun z H2 Q' hz _ s2 qq=>⟨_,rfl,qq H2 (a6.refl _)⟩) (fun H2 s2 h2=>?_)
  ·obtain ⟨d,hd,rfl⟩:=List.mem_map.mp hz
   rw [List.mem_range,List.length_map] at hd
   have q2:=qq H2 (a6.refl _)
   rw [Int.zero_add] at q2 ⊢
   exact ⟨_,rfl,x,L.ao,dx,_,_,rfl,s2 _ _ hx,L.ak.cl,L.ak.cD,bc ah bw cl,_,rfl,bw,_,_,_,rfl,rfl,s2.seq (.inl hw),Xo d hd,_,_,rfl,rfl,_,rfl,q2⟩
  rw [List.map_id'] at h2
  obtain ⟨iv,ei⟩:∃ is:List Int,(((List.range (hs.map V.str).length).map fun i=>V.int (0 + (i:Nat))).filter fun v=>match v with | .int i=>decide (1 < ws.getD i.toNat 0) | _=>false)=is.map V.int:=ofInts fun z hz=>by
   obtain ⟨d,_,rfl⟩:=List.mem_map.mp (List.mem_filter.mp hz).1
   exact ⟨_,rfl⟩
  have hiv:∀ i∈iv,∃ d:Nat,i=(d:Int)∧d < hs.length∧1 < ws.getD d 0:=fun i hi=>by
   have hz:V.int i∈((List.range (hs.map V.str).length).map fun i=>V.int (0 + (i:Nat))).filter fun v=>match v with | .int i=>decide (1 < ws.getD i.toNat 0) | _=>false:=by rw [ei]; exact List.mem_map.mpr ⟨i,hi,rfl⟩
   obtain ⟨z1,z2⟩:=List.mem_filter.mp hz
   obtain ⟨d,hd,e⟩:=List.mem_map.mp z1
   rw [List.mem_range,List.length_map] at hd
   rw [Int.zero_add] at e
   cases e
   exact ⟨d,rfl,hd,of_decide_eq_true z2⟩
  rw [ei] at h2
  have Mq:iv.length≤100:=by
   have:=congrArg List.length ei
   simp only [List.length_map] at this
   have h3:=List.length_filter_le (fun v=>match v with | .int i=>decide (1 < ws.getD i.toNat 0) | _=>false) ((List.range (hs.map V.str).length).map fun i=>V.int (0 + (i:Nat)))
   simp only [List.length_map,List.length_range] at h3
   omega
  clear ei
  refine ⟨_,rfl,Nat.zero_le _,fun le hle=>⟨lc,le,_,_,rfl,rfl,aK.of (a6.upd hle _ _ h2),aK.of a9,lS iv,rfl,?_⟩⟩
  have II:a6 H2 (upd H2 le (.lst [])):=a6.upd hle
  generalize upd H2 le (.lst [])=H3 at II
  have h3:=II _ _ h2
  have s3:=s2.trans II
  by_cases LC:iv=[]
  ·subst LC
   exact ⟨true,rfl,kD (kN H3 s3)⟩
  have Oa:0 < iv.length:=by cases iv with | nil=>exact absurd rfl LC | cons _ _=>exact Nat.succ_pos _
  refine ⟨false,congrArg V.bl (by cases iv with | nil=>exact absurd rfl LC | cons _ _=>rfl),fz ?_⟩
  refine ⟨_,rfl,_,rfl,_,rfl,lc,_,rfl,.inl (aK.of h3),c,1,_,rfl,by decide,by decide,by rw [List.length_map]; omega,fun dd hd0 hd1=>?_⟩
  rw [List.length_map] at hd1
  obtain ⟨j,rfl⟩:∃ j:Nat,dd=(j:Int):=⟨dd.toNat,by omega⟩
  have hj:j < iv.length:=by omega
  obtain ⟨d,ed,hd,hd2⟩:=hiv iv[j] (List.getElem_mem hj)
  have hjv:(iv.map V.int)[j]?=some (.int (d:Int)):=by rw [List.getElem?_map,List.getElem?_eq_getElem hj,ed]; rfl
  refine ⟨lc,_,_,_,rfl,rfl,aK.of h3,bZ hjv,?_⟩
  have zI:lns[d]?=some (lns[d]'(by omega)):=List.getElem?_eq_getElem _
  have Cm:lns[d]'(by omega)∈lns:=List.getElem_mem _
  have IC:lns.getD d []=lns[d]'(by omega):=by rw [List.getD_eq_getElem?_getD,zI]; rfl
  generalize lns[d]'(by omega)=qs at zI Cm IC
  obtain ⟨v,JB,rd⟩:=ip.at (i:=d) (d:=dE qs) (by rw [List.getElem?_map,zI]; rfl)
  obtain ⟨al,rs,rfl,hS,hT⟩:=jR rd
  have vD:rs.length=qs.length:=by rw [hT.1,List.length_map,List.length_map]
  have Mw:=hm qs Cm
  refine ⟨_,rfl,_,rfl,x,L.ao,dx,_,_,rfl,s3 _ _ hx,L.ak.cl,L.ak.fW,bY ah bw cl,_,rfl,cl,xs,_,_,rfl,rfl,s3.seq (.inl hc),bZ JB,al,_,rfl,.inl (s3.seq hS),c,_,rfl,by rw [List.length_map]; omega,fun ln ns H4 s4 h4 BZ Mx=>?_⟩
  rw [List.length_map,vD] at BZ Mx
  have sS:=s3.trans s4
  refine ⟨_,rfl,_,rfl,_,rfl,x,ln,d,ns,hs,ws,lns,qs,rfl,S.same sS,aK.of h4,zI,fun q hq=>by rw [nc]; exact Be.e qs Cm q hq,Mw,fun l5 H5 s5 h5=>?_⟩
  have GI:=sS.trans s5
  have xx:=Xo d hd
  generalize hA:aN ws (b9 ns qs)=A0 at h5
  generalize hB:aN ws (aV ns qs)=A1 at h5
  refine ⟨_,rfl,x,L.ao,dx,_,_,rfl,GI _ _ hx,L.ak.cl,L.ak.cD,bc ah bw cl,_,rfl,bw,_,_,_,rfl,rfl,GI.seq (.inl hw),xx,_,rfl,l5,_,_,_,rfl,rfl,aK.of h5,rfl,_,rfl,_,_,rfl,rfl,⟨by omega,by omega⟩,_,_,rfl,rfl,_,_,rfl,?_⟩
  have UN:∀ L0:Int,L0=(if ws.getD d 0 - A1 / many > 1 then ws.getD d 0 - A1 / many else 1)→1≤L0∧ws.getD d 0 - A1 / many≤L0:=fun L0 e=>by rw [e]; split <;> omega
  show jh 7 (V.int (if ws.getD d 0 - A1 / many > 1 then ws.getD d 0 - A1 / many else 1)) _ _ _
  generalize hL0:(if ws.getD d 0 - A1 / many > 1 then ws.getD d 0 - A1 / many else 1)=L0
  obtain ⟨lo1,lo2⟩:=UN L0 hL0.symm
  refine ⟨_,rfl,x,L.ao,dx,_,_,rfl,GI _ _ hx,L.ak.cl,L.ak.cD,bc ah bw cl,_,rfl,bw,_,_,_,rfl,rfl,GI.seq (.inl hw),xx,_,_,rfl,rfl,_,rfl,l5,_,_,_,rfl,rfl,aK.of h5,rfl,_,rfl,_,_,rfl,rfl,⟨by omega,by omega⟩,_,_,rfl,?_⟩
  have PR:∀ H0:Int,H0=(if A0 / many < ws.getD d 0 - 1 then A0 / many else ws.getD d 0 - 1)→H0≤ws.getD d 0 - 1∧H0≤A0 / many:=fun H0 e=>by rw [e]; split <;> omega
  show jh 8 (V.int (if A0 / many < ws.getD d 0 - 1 then A0 / many else ws.getD d 0 - 1)) _ _ _
  generalize hH0:(if A0 / many < ws.getD d 0 - 1 then A0 / many else ws.getD d 0 - 1)=H0
  obtain ⟨hi1,L4⟩:=PR H0 hH0.symm
  refine ⟨_,rfl,_,rfl,_,_,rfl,rfl,_,rfl,uV (fun _=>kN H5 GI) (fun hle=>?_)⟩
  have hle:¬ H0 < L0:=fun z=>hle (decide_eq_true z)
  refine ⟨_,rfl,_,rfl,_,rfl,_,rfl,_,rfl,_,rfl,_,_,rfl,rfl,_,_,rfl,rfl,c,2,H0 - L0 + 1,rfl,by decide,by decide,by omega,fun dw w0 w1=>?_⟩
  refine ⟨_,_,rfl,rfl,by show 3≤sizeLine; decide,fun t ht=>?_⟩
  refine kT t ln d ns (L0 + dw) _ (GI.trans (a6.upd ht)) a9 (a6.upd ht _ _ (s5 _ _ h4)) hd (by omega) ?_
  unfold i9
  rw [Int.toNat_natCast,IC]
  have e1:fO (d:Int) lns.length=true:=by unfold fO; rw [decide_eq_true (by omega),decide_eq_true (by omega)]; rfl
  have e2:ns.all (fun i=>fO i qs.length)=true:=List.all_eq_true.mpr fun i hi=>by
   obtain ⟨i1,i2⟩:=BZ i hi
   unfold fO
   rw [decide_eq_true i1,decide_eq_true i2]
   rfl
  rw [e1,e2,Cp m0 (by omega) (by rw [hA]; omega),Cp m0 (by omega) (by rw [hB]; omega)]
  rfl
theorem AX {a b ss:List Str} (ha:PyProof.Rows.sortedS a=true) (hs:PyProof.Rows.sortedS ss=true) (sub:b.Sublist ss) (p:a.Perm b):a=b:=by
 refine p.eq_of_pairwise (le:=Gw) (fun x y _ _ h1 h2=>?_) (kq ha) ((kq hs).sublist sub)
 unfold Gw at h1 h2
 rw [List.not_lt] at h1 h2
 exact eS (List.le_antisymm h1 h2)
theorem yO {α:Type} {f:α→Int}:∀ {l:List α},(∀ x∈l,0≤f x)→(l.map f).sum=0→∀ x∈l,f x=0
 | [],_,_,x,hx=>nomatch hx
 | y :: l,h,e,x,hx=>by
   have h0:=h y (List.mem_cons_self ..)
   have hs:∀ l:List α,(∀ x∈l,0≤f x)→0≤(l.map f).sum:=fun l=>by
    induction l with
    | nil=>intro _; exact Int.le_refl _
    | cons z l ih=>
      intro hh
      have h1:=hh z (List.mem_cons_self ..)
      have h2:=ih fun q hq=>hh q (List.mem_cons_of_mem _ hq)
      show 0≤f z + (l.map f).sum
      omega
   have h1:=hs l fun q hq=>h q (List.mem_cons_of_mem _ hq)
   have e:f y + (l.map f).sum=0:=e
   rcases List.mem_cons.mp hx with z | z
   ·rw [z]; omega
   ·exact yO (fun q hq=>h q (List.mem_cons_of_mem _ hq)) (by omega) x z
theorem uK {C:Addr} {H H':Hp} {x:Addr} {hs:List Str} {ws:List Int} {lns:List (List (Str×Nat))} (h:dJ K C (bp H H') x hs ws lns):dJ K C H' x hs ws lns:=h.same (oE _ _)
theorem PU (ns:List Int):∃ ms:List Int,uR (ns.map V.int) (some 6) (some 18)=ms.map V.int∧ms.length≤12:=by
 refine ⟨_,by unfold uR; rw [← List.map_drop,← List.map_take],?_⟩
 rw [List.length_take,List.length_drop,List.length_map]
 have e1:HT.sD ns.length 0 (some 6)=min 6 ns.length:=by unfold HT.sD; simp
 have e2:HT.sD ns.length ns.length (some 18)=min 18 ns.length:=by unfold HT.sD; simp
 rw [e1,e2]
 omega
theorem eA:az ["_law_script","_law_signs_here","_law_words_here","_law_band","_law_many","_law_wide","_law_weights","_law_blocks","_law_place","_law_sheet","_law_total","_law_homes","_law_cell","_law_choice_here","_law_desk","_law_numbers","_law_weight"] ["_law_script"] (aa (top 55)):=⟨rfl,rfl,rfl,by decide +kernel,rfl,by decide +kernel,by decide +kernel⟩
theorem LD {f:Addr} {fd:FuncData} (L:Lk K mg) (F:EJ K "law" "law" (top 55) f fd):bD P w K mg base iN 7 f fd ["_law_script"] (C7 K):=by
 have T:=L.T
 refine F.ok eA (fun vs H Q E h=>?_) (fun cR A outer s H vs Q E hr h=>?_)
 ·obtain ⟨a,ns,rfl,_⟩:=h
  rfl
 ·obtain ⟨a,ns,rfl,hS,hlen,k⟩:=h
  have hu:=iX hr
  refine ⟨_,(a7 (av (i:=1) eA.nd rfl (Or.inl rfl) (aq (sU L) (hr.mono (by decide)) rfl L.cw.g L.cw.F.kp L.cw.b .nil aC (a5 (aq (gv L) (hr.mono (by decide)) rfl L.aJ.g L.aJ.F.kp L.aJ.b .nil aC (a5 (pv 0) (a5 ae a8))) a8)))
   (a7 (av (i:=2) eA.nd rfl (Or.inl rfl) (aq (sV L) (hr.mono (by decide)) rfl L.cx.g L.cx.F.kp L.cx.b .nil aC (a5 (pv 0) (a5 ae (a5 (pv 1) (a5 ae (a5 ae a8)))))))
   (a7 (av (i:=3) eA.nd rfl (Or.inl rfl) (uQ L.lU (oO L) (hr.mono (by decide)) rfl L.G5 L.iF.b .nil aC (a5 (pv 1) (a5 (eE gz (by rfl) T.list p0 (a5 (pv 2) a8)) a8))))
   (a7 (qa (aq (vJ L) (hr.mono (by decide)) rfl L.cY.g L.cY.F.kp L.cY.b .nil aC (a5 (aq (gv L) (hr.mono (by decide)) rfl L.aJ.g L.aJ.F.kp L.aJ.b .nil aC (a5 (pv 0) (a5 ae a8))) (a5 (pv 1) a8))) (kM rfl (bW (aG (i:=4) eA.nd rfl (Or.inl rfl)) (bW (aG (i:=5) eA.nd rfl (Or.inl rfl)) ji))))
   (a7 (av (i:=6) eA.nd rfl (Or.inr rfl) (L5 (aq (yL L) (hr.mono (by decide)) rfl L.dU.g L.dU.F.kp L.dU.b .nil aC (a5 (pv 3) (a5 (pv 4) (a5 (pv 5) (a5 (aI eJ ae (aq (aM L) (hr.mono (by decide)) rfl L.af.g L.af.F.kp L.af.b .nil aC (a5 (aq (gv L) (hr.mono (by decide)) rfl L.aJ.g L.aJ.F.kp L.aJ.b .nil aC (a5 (pv 0) (a5 ae a8))) (a5 ae (a5 ae a8))))) a8)))))))
   (a7 (av (i:=7) eA.nd rfl (Or.inl rfl) iW)
   (a7 (bH PassesOwn.never rfl (k8 (pv 6)) (aG (i:=8) eA.nd rfl (Or.inl rfl)) (ag (i5 hu (pv 7) (pv 8) (aq (jd L) (hr.mono (by decide)) rfl L.aR.g L.aR.F.kp L.aR.b .nil aC (a5 (pv 3) (a5 (pv 8) (a5 (pv 5) a8)))) rfl)))
   (a7 (bV (aH m3 (au (kZ rfl) (by rfl) T.sum Fe (a5 (eK rfl (ay (sc:=aa (top 55)) (N:=["_law_script","_law_signs_here","_law_words_here","_law_band","_law_many","_law_wide","_law_weights","_law_blocks","_law_place","_law_sheet","_law_total","_law_homes","_law_cell","_law_choice_here","_law_desk","_law_numbers","_law_weight"]) (ys:=["_law_weights"]) (ix:=[6]) rfl rfl (by decide +kernel)) (k8 (pv 6)) (fun _ _ _ _ _ _=>du) (fun _ _ _ _ _ _=>(ft hu (pv 1) (pv 0) (fun _ _=>rfl)))) a8)) ae (aS _)) (ag (aF (au (qt rfl) (by rfl) T.all Kx (a5 (eK rfl (ay (sc:=aa (top 55)) (N:=["_law_script","_law_signs_here","_law_words_here","_law_band","_law_many","_law_wide","_law_weights","_law_blocks","_law_place","_law_sheet","_law_total","_law_homes","_law_cell","_law_choice_here","_law_desk","_law_numbers","_law_weight"]) (ys:=["_law_weights"]) (ix:=[6]) rfl rfl (by decide +kernel)) (k8 (pv 6)) (fun _ _ _ _ _ _=>du) (fun _ _ _ _ _ _=>(i3 m3 (ft hu (pv 1) (pv 0) (fun _ _=>rfl)) ae (aS _)))) a8)))) aP)
   (a7 (av (i:=9) eA.nd rfl (Or.inl rfl) (aq (rA L) (hr.mono (by decide)) rfl L.bR.g L.bR.F.kp L.bR.b .nil aC (a5 (pv 3) (a5 (pv 4) (a5 (pv 5) (a5 (pv 6) a8))))))
   (a7 (av (i:=10) eA.nd rfl (Or.inl rfl) (au (kZ rfl) (by rfl) T.sum Fe (a5 (eK rfl (ay (sc:=aa (top 55)) (N:=["_law_script","_law_signs_here","_law_words_here","_law_band","_law_many","_law_wide","_law_weights","_law_blocks","_law_place","_law_sheet","_law_total","_law_homes","_law_cell","_law_choice_here","_law_desk","_law_numbers","_law_weight"]) (ys:=["_law_weights"]) (ix:=[6]) rfl rfl (by decide +kernel)) (k8 (pv 6)) (fun _ _ _ _ _ _=>du) (fun _ _ _ _ _ _=>(ft hu (pv 1) (pv 0) (fun _ _=>rfl)))) a8)))
   (a7 (mD (i:=11) rfl (ay (sc:=aa (top 55)) (N:=["_law_script","_law_signs_here","_law_words_here","_law_band","_law_many","_law_wide","_law_weights","_law_blocks","_law_place","_law_sheet","_law_total","_law_homes","_law_cell","_law_choice_here","_law_desk","_law_numbers","_law_weight"]) (ys:=["_law_weights"]) (ix:=[6]) rfl rfl (by decide +kernel)) eA.nd rfl rfl (bh (au (vo rfl) (by rfl) T.sorted C5 (a5 (pv 6) a8))) (fun _ _ _ _ _ _=>jl (aH m4 (ft hu (pv 1) (pv 0) (fun _ _=>rfl)) ae (aS _))) (fun _ _ _ _ _ _=>(pv 0)))
   (a7 (bV (gw (eI (aq (nS L) (hr.mono (by decide)) rfl L.bM.g L.bM.F.kp L.bM.b .nil aC (a5 (pv 9) (a5 (pv 4) (a5 (pv 7) (a5 (pv 11) (a5 (pv 10) a8)))))))) (ag (aF iR)) aP)
   (a7 (bH PassesOwn.never rfl (bh (iV BX (pv 0) (iI ae) (iI ae))) (aG (i:=12) eA.nd rfl (Or.inl rfl)) (a7 (av (i:=13) eA.nd rfl (Or.inl rfl) (aq (rD L) (hr.mono (by decide)) rfl L.bT.g L.bT.F.kp L.bT.b .nil aC (a5 (pv 12) (a5 (pv 9) (a5 (pv 4) a8)))))
   (ag (bV (aH BU (pv 13) q9 (aS _)) (a7 (qa (pv 13) (kM rfl (bW (aG (i:=14) eA.nd rfl (Or.inl rfl)) (bW (aG (i:=15) eA.nd rfl (Or.inl rfl)) (bW (aG (i:=16) eA.nd rfl (Or.inl rfl)) ji)))))
   (a7 (av (i:=11) eA.nd rfl (Or.inl rfl) (aI EB (pv 11) (cQ (a5 (cz b8 (pv 11) (pv 14) (fun _ _=>rfl)) a8))))
   (a7 (av (i:=9) eA.nd rfl (Or.inl rfl) (aq (Gb L) (hr.mono (by decide)) rfl L.iL.g L.iL.F.kp L.iL.b .nil KP (a5 (pv 9) (a5 (pv 4) (a5 (pv 14) (a5 (pv 15) (a5 (pv 16) a8)))))))
   (ag (bV (gw (eI (aq (nS L) (hr.mono (by decide)) rfl L.bM.g L.bM.F.kp L.bM.b .nil aC (a5 (pv 9) (a5 (pv 4) (a5 (pv 7) (a5 (pv 11) (a5 (pv 10) a8)))))))) (ag (aF iR)) aP))))) aP))))
   (ag (aF iR))))))))))))))),?_⟩
  refine ⟨_,rfl,a,ns,0,rfl,hS,fun c0 H0 s0=>⟨c0,rfl,fun g H1 sg s1=>?_⟩⟩
  have g2:=sg.lo
  have g4:=sg.hi
  have Xp:=s0.trans s1
  refine ⟨_,rfl,_,rfl,a,ns,1,g,3,4,rfl,Xp.seq hS,by decide,by decide,by decide,by decide,by omega,g4,fun l2 ws H2 s2 f2 h2 o9 hw2=>?_⟩
  have E9:=Xp.trans s2
  have U4:ws.length≤6:=by omega
  have UO:∀ w∈ws,iq g w:=fun w h=>(hw2 w h).1
  refine ⟨_,rfl,_,rfl,l2,_,rfl,.inl (aK.of h2),fun l4 Jy x dx nx Df nex=>?_⟩
  refine ⟨x,dx,g,l4,ws,rfl,a9,aK.of (lJ nx Df _ _ a9),sg,U4,UO,fun ss ls H4 B4 Xq=>⟨rfl,?_⟩⟩
  have s4:a6 H2 H4:=fun b o e=>Xq b o (lJ nx Df _ _ (a6.upd Jy _ _ e)) (aj (a6.upd (o:=.lst (ws.map V.str)) Jy _ _ e) nx)
  have Iz:ss.length≤25:=B4.few U4 UO
  have vt:ls.length≤25:=Nat.le_trans B4.lv.sub.length_le Iz
  have sS:=E9.trans s4
  clear Xq nx Df nex Jy
  refine ⟨_,rfl,a,ns,4,rfl,sS.seq hS,fun c5 H5 s5=>⟨_,rfl,c5,g,rfl,g2,g4,fun pt many wide H6 s6 fp hp DI=>?_⟩⟩
  refine ⟨pt,_,rfl,jF.of hp,rfl,_,_,rfl,_,_,rfl,rfl,?_⟩
  obtain ⟨ra,rb,rc,rd,re⟩:=id DI
  obtain ⟨wd,rfl⟩:∃ w:Nat,wide=(w:Int):=⟨wide.toNat,by omega⟩
  have Ga:g.length ^ wd≤64:=by
   rw [Int.toNat_natCast] at re
   have:((g.length ^ wd:Nat):Int)≤64:=by rw [Int.natCast_pow]; exact re
   omega
  have GC:=sS.trans (s5.trans s6)
  have B6:=B4.same (s5.trans s6)
  refine ⟨_,rfl,_,rfl,_,rfl,_,rfl,a,ns,5,rfl,GC.seq hS,fun c7 H7 s7=>⟨c7,1,7,rfl,by decide,by decide,by decide,fun dd d0 d1=>⟨_,_,rfl,rfl,?_⟩⟩⟩
  have B7:=B6.same s7
  refine ⟨x,many,wd,_,g,ws,ss,ls,rfl,B7,g2,by omega,by omega,DI,by omega,fun dw f Hw sw fw hw G=>⟨dw,_,rfl,hw,fun o=>?_⟩⟩
  have UP:=FJ (u:=.frz o (.dK (bC (dD f ls)))) sw fw
  have hW:(upd Hw dw (.frz o (.dK (bC (dD f ls))))) dw=some (.frz o (.dK (bC (dD f ls)))):=a9
  show jh 6 (V.ref dw) _ _ _
  generalize upd Hw dw (.frz o (.dK (bC (dD f ls))))=H8 at UP hW
  clear hw sw fw
  have B8:=B7.same UP
  have My:=GC.trans (s7.trans UP)
  have pm:=B4.pm
  have nd:ls.Nodup:=B4.nd.sublist B4.lv.sub
  have w1:∀ w∈ws,1≤w.length:=fun w h=>(UO w h).lo
  have J:=lM dw o (bC (dD f ls))
  rw [As,oB] at J
  refine fun db zD=>?_
  have Ru:a6 H8 (upd H8 db (.dK [])):=a6.upd zD
  have DJ:(upd H8 db (.dK [])) db=some (.dK (aY [])):=a9
  generalize upd H8 db (.dK [])=Hb at Ru DJ
  refine ⟨_,rfl,dw,_,rfl,.inr ⟨o,Ru _ _ hW,?_⟩⟩
  refine oj J (fun j σ H3=>∃ (v8:Option V) (ev:List (Str×Addr)),σ=[some (.ref a),some (.str g),some (.ref l2),some (.ref x),some (.int many),some (.int (wd:Int)),some (.ref dw),some (.ref db),v8,none,none,none,none,none,none,none,none]∧H3 db=some (.dK (aY ev))∧ev.map (·.1)=ls.take j∧(∀ q∈ev,∃ rs,bX H3 q.2 rs (aB g ws ss ls wd q.1))∧a6 H8 H3) ⟨none,[],rfl,DJ,rfl,fun q hq=>(nomatch hq),Ru⟩ (fun j σ H3 _ ⟨_,_,_,_,_,_,s3⟩=>s3 _ _ hW) ?_ ?_
  ·rintro j y σ H3 hy ⟨v8,ev,rfl,h3,oN,lD,s3⟩
   obtain ⟨p,Lv,rfl,hj,vn,pW⟩:=jK hy
   refine ⟨_,rfl,_,rfl,_,rfl,x,p,wd,g,ws,ss,ls,rfl,B8.same s3,vn,by omega,by omega,g2,by omega,fun lb rs H4' UQ f4 R=>?_⟩
   have h4:=UQ _ _ h3
   have vE:p∉ev.map (·.1):=by rw [oN]; exact nB nd Lv
   have Uw:ev.length≤900:=by have:=congrArg List.length oN; rw [List.length_map,List.length_take] at this; omega
   refine ⟨_,rfl,_,rfl,db,_,rfl,kR.k (k:=Sum.inr p) h4 (by unfold aY; rw [List.length_map]; exact fu (by omega)),?_⟩
   refine ⟨_,ev++[(p,lb)],rfl,?_,?_,fun m hm=>?_,fun b oo e=>by rw [ai (aj e zD)]; exact UQ _ _ (s3 _ _ e)⟩
   ·rw [a9,fM _ (g6 vE)]
    unfold aY
    rw [List.map_append]
    rfl
   ·rw [List.map_append,oN,pW]
    rfl
   ·rcases List.mem_append.mp hm with z | z
    ·obtain ⟨qP,R'⟩:=lD m z
     exact ⟨qP,(R'.same UQ).upd h4⟩
    ·rw [List.mem_singleton.mp z]
     exact ⟨rs,R.upd h4⟩
  rintro σ H9 ⟨v8,ev,rfl,h9,oN,lD,GD⟩
  rw [List.length_map,List.take_length] at oN
  have BD9:DM K H9 db ev (aB g ws ss ls wd):=⟨.inl h9,lD,fun p=>by have:=gY g ws ss ls wd p; omega⟩
  have IM:=GD _ _ hW
  have IG:=My.trans GD
  have B9:=B8.same GD
  clear lD h9 DJ Ru
  have Rv:∀ {H':Hp},a6 H9 H'→∀ p∈ls,fq H' dw (.str p) (some (.int (f p))):=fun {H'} s' p hp=>by
   have g3:=fq.f (k:=(Sum.inr p:Key)) (s' _ _ IM)
   rwa [fB,lQ f ls p hp] at g3
  refine ⟨_,rfl,dw,_,rfl,.inr ⟨o,IM,fun lc Ck=>?_⟩⟩
  refine comp_map (Fl f) J Ck (by rw [List.length_map]; exact aD (by omega)) (fun H' s'=>s' _ _ IM) (fun z H' Q' hz s' qq=>?_) (fun H10 MB Xr=>?_)
  ·obtain ⟨p,hp,rfl⟩:=List.mem_map.mp hz
   exact ⟨_,rfl,_,rfl,dw,_,rfl,Rv s' p hp,qq H' (a6.refl _)⟩
  rw [lN] at Xr
  refine ⟨lc,_,rfl,aK.of Xr,rfl,?_⟩
  by_cases hz:(ls.map f).sum=0
  ·have JE:=yO G.nn hz
   refine ⟨true,congrArg V.bl (decide_eq_true (by rw [hz])),kD ?_⟩
   refine ⟨_,rfl,dw,_,rfl,.inr ⟨o,MB _ _ IM,fun lb Ww=>?_⟩⟩
   refine comp_map (fun _=>V.bl true) J Ww (by rw [List.length_map]; exact aD (by omega)) (fun H' s'=>s' _ _ (MB _ _ IM)) (fun z H' Q' zJ s' qq=>?_) (fun Ls GF Xs=>?_)
   ·obtain ⟨p,hp,rfl⟩:=List.mem_map.mp zJ
    refine ⟨_,rfl,_,rfl,dw,_,rfl,Rv (MB.trans s') p hp,rfl,?_⟩
    have e0:decide ((V.int (f p))=V.int 0)=true:=decide_eq_true (by rw [JE p hp])
    show Q' (.bl (decide ((V.int (f p))=V.int 0))) H'
    rw [e0]
    exact qq H' (a6.refl _)
   ·have e3:(ls.map V.str).map (fun _=>V.bl true)=(ls.map fun _=>true).map V.bl:=by
     rw [List.map_map,List.map_map]
     rfl
    rw [e3] at Xs
    refine ⟨lb,_,rfl,aK.of Xs,?_⟩
    have:((ls.map fun _=>true).all id)=true:=by
     rw [List.all_map]
     exact List.all_eq_true.mpr fun _ _=>rfl
    rw [this]
    exact k Ls
  refine ⟨false,congrArg V.bl (decide_eq_false fun z=>hz (V.int.inj z)),fz ?_⟩
  have B10:=B9.same MB
  have UR:=MB _ _ IM
  refine ⟨_,rfl,_,rfl,_,rfl,_,rfl,x,dw,many,wd,dD f ls,f,g,ws,ss,ls,rfl,B10,g2,by omega,by omega,DI,.inr ⟨o,UR⟩,lQ f ls,fun y Ls GF UT=>?_⟩
  have UT:=uK UT
  have IP:=MB.trans GF
  refine ⟨_,rfl,dw,_,rfl,.inr ⟨o,IP _ _ IM,fun lt eM=>?_⟩⟩
  refine comp_map (Fl f) J eM (by rw [List.length_map]; exact aD (by omega)) (fun H' s'=>s' _ _ (IP _ _ IM)) (fun z H' Q' zJ s' qq=>?_) (fun GH Mz Xu=>?_)
  ·obtain ⟨p,hp,rfl⟩:=List.mem_map.mp zJ
   exact ⟨_,rfl,_,rfl,dw,_,rfl,Rv (IP.trans s') p hp,qq H' (a6.refl _)⟩
  rw [lN] at Xu
  refine ⟨lt,_,rfl,aK.of Xu,?_⟩
  show jh 10 (V.int (ls.map f).sum) _ _ _
  have PV:=IP.trans Mz
  refine ⟨_,rfl,dw,_,ls,rfl,.inr ⟨o,PV _ _ IM⟩,yo f ls,by omega,fun lo os EH hpo soo=>?_⟩
  obtain rfl:os=ls:=AX soo B4.so B4.lv.sub hpo
  refine ⟨lo,rfl,⟨_,aK.of a9⟩,fun lm Xv=>?_⟩
  have LI:a6 GH (upd GH lo (.lst (os.map V.str))):=a6.upd EH
  have PX:(upd GH lo (.lst (os.map V.str))) lo=some (.lst (os.map V.str)):=a9
  generalize upd GH lo (.lst (os.map V.str))=H13 at LI PX Xv
  have PY:=PV.trans LI
  refine jI (fun v=>match v with | .str p=>decide (0 < f p) | _=>false) (fun v=>v) (bO K lo (os.map V.str)) Xv (by rw [List.length_map]; exact aD (by omega)) (fun H' s'=>aK.of (s' _ _ PX)) (fun z PZ Q' zJ Q0 qq=>?_) (fun z PZ Q' zJ _ Q0 qq=>⟨_,rfl,qq PZ (a6.refl _)⟩) (fun PZ Q0 hh=>?_)
  ·obtain ⟨p,hp,rfl⟩:=List.mem_map.mp zJ
   have q2:Q' (decide (0 < f p)) PZ:=qq PZ (a6.refl _)
   exact ⟨_,rfl,_,rfl,dw,_,rfl,Rv (PY.trans Q0) p hp,_,_,rfl,rfl,_,rfl,q2⟩
  have Uu:((os.map V.str).filter (fun v=>match v with | .str p=>decide (0 < f p) | _=>false)).map (fun v=>v)=(aw os f).map V.str:=by
   rw [List.map_id',List.filter_map]
   rfl
  rw [Uu] at hh
  have Q1:=PY.trans Q0
  have UU:=IG.trans Q1
  have Xw:=UT.same ((Mz.trans LI).trans Q0)
  have Q2:=BD9.same Q1
  have jg:∀ p∈aw os f,p∈os:=fun p hp=>(List.mem_filter.mp hp).1
  have WX:(aw os f).length≤25:=Nat.le_trans (List.length_filter_le _ _) vt
  have UW:me many (aw os f) ((aw os f).map f) (eB g ws ss os wd (aw os f)):=me.first G.nn G.fit
  have UX:FY (aB g ws ss os wd) (aw os f) (eB g ws ss os wd (aw os f)):=FY.first sg.nd pm w1 (fun p hp=>B4.lv.sub.subset (jg p hp)) (nd.filter _)
  have Q3:∀ p∈aw os f,p∈ev.map (·.1):=fun p hp=>by rw [oN]; exact jg p hp
  have UY:((aw os f).map f).sum=(os.map f).sum:=DF G.nn
  have Q4:aw os f≠[]:=fun z=>hz (by rw [← UY,z]; rfl)
  have UZ:∀ w∈(aw os f).map f,w≤1000:=fun w hw=>by
   obtain ⟨p,hp,rfl⟩:=List.mem_map.mp hw
   have:=G.le p (jg p hp)
   omega
  generalize aw os f=Q6 at *
  generalize Q6.map f=Xx at *
  generalize eB g ws ss os wd Q6=V0 at *
  have V1:∀ p,(aB g ws ss os wd p).length≤64:=fun p=>Nat.le_trans (gY g ws ss os wd p) Ga
  have Pn:∀ l∈V0,l.length≤5000:=fun l hl=>by
   have h1:=UX.line UW.l V1 l hl
   have h2:64 * Q6.length≤64 * 25:=Nat.mul_le_mul_left _ WX
   omega
  generalize hTT:(os.map f).sum=TT at *
  refine ⟨_,rfl,_,rfl,_,rfl,_,rfl,_,rfl,y,db,lm,many,ev,_,Q6,Xx,V0,by rw [UY]; rfl,Xw,Q2,Q3,aK.of hh,UW,UX,Q4,by omega,Pn,by omega,by omega,fun Rw Xy=>⟨true,rfl,fz ?_⟩⟩
  have V2:=UU.trans Xy
  refine ⟨_,rfl,_,rfl,_,rfl,a,_,rfl,V2.seq hS,fun lu hlu=>?_⟩
  obtain ⟨ms,em,OT⟩:=PU ns
  rw [em]
  have Q7:a6 Rw (upd Rw lu (.lst (ms.map V.int))):=a6.upd hlu
  have hU:(upd Rw lu (.lst (ms.map V.int))) lu=some (.lst (ms.map V.int)):=a9
  generalize upd Rw lu (.lst (ms.map V.int))=H16 at Q7 hU
  have Gh:=Xy.trans Q7
  refine ⟨lu,rfl,⟨_,aK.of hU⟩,eQ (K:=K) (a:=lu) (xs:=ms.map V.int) (fun i σ LJ=>a6 H16 LJ∧∃ (V3 V4 V5 V6 V7:Option V) (y lm:Addr) (hs:List Str) (wc:List Int) (lns:List (List (Str×Nat))),σ=[some (.ref a),some (.str g),some (.ref l2),some (.ref x),some (.int many),some (.int (wd:Int)),some (.ref dw),some (.ref db),v8,some (.ref y),some (.int TT),some (.ref lm),V3,V4,V5,V6,V7]∧dJ K L.ao LJ y hs wc lns∧LJ lm=some (.lst (hs.map V.str))∧me many hs wc lns∧FY (aB g ws ss os wd) hs lns∧(∀ p∈hs,p∈ev.map (·.1))∧wc.sum=TT∧hs≠[]∧hs.length≤25 + i∧∀ w∈wc,w≤1000)
   ⟨a6.refl _,none,none,none,none,none,y,lm,Q6,Xx,V0,rfl,Xw.same Gh,Gh _ _ hh,UW,UX,Q3,UY,Q4,by omega,UZ⟩ (fun i σ LJ _ q=>aK.of (q.1 _ _ hU)) ?_ ?_⟩
  ·rintro i z σ LJ zJ ⟨Rx,V3,V4,V5,V6,V7,yc,Ry,hs,wc,lns,rfl,Sc,LK,Be,Co,Ly,hT,kF,hhc,MA⟩
   have hi:i < ms.length:=by have:=(List.getElem?_eq_some_iff.mp zJ).1; rwa [List.length_map] at this
   obtain ⟨cc,_,rfl⟩:=List.mem_map.mp (List.mem_of_getElem? zJ)
   have Pk:∀ l∈lns,l.length≤5000:=fun l hl=>by
    have h1:=Co.line Be.l V1 l hl
    have h2:64 * hs.length≤64 * 37:=Nat.mul_le_mul_left _ (by omega)
    omega
   refine ⟨_,rfl,_,rfl,_,rfl,cc,yc,many,hs,wc,lns,rfl,Sc,Be,by omega,Pk,by omega,by omega,fun w hw=>by have:=MA w hw; omega,fun Q8 LL=>?_,fun t ln d nn wt Q8 LL V8 V9 hd Mx bt=>?_⟩
   ·exact ⟨_,rfl,rfl,false,rfl,fz ⟨Rx.trans LL,_,_,_,_,_,yc,Ry,hs,wc,lns,rfl,Sc.same LL,LL _ _ LK,Be,Co,Ly,hT,kF,by omega,MA⟩⟩
   refine ⟨_,rfl,rfl,true,rfl,kD ?_⟩
   refine ⟨_,rfl,t,_,rfl,jF.of V8,rfl,_,_,rfl,_,_,rfl,_,_,rfl,rfl,?_⟩
   have Q9:pA (hs.map V.str) (d:Int)=some (.str (hs.getD d "")):=bZ (by rw [List.getElem?_map,List.getElem?_eq_getElem hd,List.getD_eq_getElem?_getD,List.getElem?_eq_getElem hd]; rfl)
   refine ⟨_,rfl,_,rfl,_,rfl,Ry,_,_,_,rfl,rfl,aK.of (LL _ _ LK),Q9,by show 1≤sizeLine; decide,fun l1 Lf=>?_⟩
   have LN:a6 Q8 (upd Q8 l1 (.lst [.str (hs.getD d "")])):=a6.upd Lf
   have Xz:(upd Q8 l1 (.lst [.str (hs.getD d "")])) l1=some (.lst [.str (hs.getD d "")]):=a9
   generalize upd Q8 l1 (.lst [.str (hs.getD d "")])=Rz at LN Xz
   refine ⟨Ry,l1,_,_,rfl,rfl,LN _ _ (LL _ _ LK),Xz,aD (by rw [List.length_map]; show _ + 1≤_; omega),fun l3 NI=>?_⟩
   have Gd:hs.map V.str++[V.str (hs.getD d "")]=(bN hs d).map V.str:=by unfold bN; rw [List.map_append]; rfl
   rw [Gd]
   have XA:a6 Rz (upd Rz l3 (.lst ((bN hs d).map V.str))):=a6.upd NI
   have Va:(upd Rz l3 (.lst ((bN hs d).map V.str))) l3=some (.lst ((bN hs d).map V.str)):=a9
   generalize upd Rz l3 (.lst ((bN hs d).map V.str))=H20 at XA Va
   have JH:=LN.trans XA
   have JI:=LL.trans JH
   have W:Jx hs wc lns:=⟨Be.w,Be.l,Be.e,by omega,Pk⟩
   refine ⟨_,rfl,_,rfl,_,rfl,_,rfl,_,rfl,yc,ln,many,(d:Int),wt,nn,hs,wc,lns,rfl,Sc.same JI,aK.of (JH _ _ V9),by omega,W,by omega,by omega,.inl ⟨bt,fun y2 H21 Vb Qa=>?_⟩⟩
   rw [Int.toNat_natCast] at Qa
   have Qa:=uK Qa
   obtain ⟨Qb,zaR⟩:=Be.split bt
   have JK:(bN hs d).length=hs.length + 1:=by unfold bN; rw [List.length_append]; rfl
   have Vc:=Co.split Be.l Be.e hd nn
   have Qc:∀ p∈bN hs d,p∈ev.map (·.1):=fun p hp=>by
    unfold bN at hp
    rcases List.mem_append.mp hp with z | z
    ·exact Ly p z
    ·rw [List.mem_singleton.mp z,List.getD_eq_getElem?_getD,List.getElem?_eq_getElem hd]
     exact Ly _ (List.getElem_mem hd)
   have XE:(bE wc d wt).sum=TT:=by rw [AG (by rw [Be.w]; exact hd),hT]
   have Qe:bN hs d≠[]:=fun z=>by rw [z] at JK; cases JK
   have X1:∀ l∈j3 lns d nn,l.length≤5000:=fun l hl=>by
    have h1:=Vc.line Qb.l V1 l hl
    have h2:64 * (bN hs d).length≤64 * 38:=Nat.mul_le_mul_left _ (by omega)
    omega
   have Vd:∀ w∈bE wc d wt,w≤1000:=fun w hw=>by
    unfold bE at hw
    have uI:d < wc.length:=by rw [Be.w]; exact hd
    have hg:wc.getD d 0≤1000:=by
     rw [List.getD_eq_getElem?_getD,List.getElem?_eq_getElem uI]
     exact MA _ (List.getElem_mem uI)
    have Ue:(bE wc d wt).getD d 0∈bE wc d wt:=by
     rw [List.getD_eq_getElem?_getD,List.getElem?_eq_getElem (by rw [mJ]; omega)]
     exact List.getElem_mem _
    rw [lA uI] at Ue
    have Uv:=Qb.p wt Ue
    have Qs:=Qb.p (wc.getD d 0 - wt) (by
     have e:=lB (w:=wt) uI
     have o9:wc.length < (bE wc d wt).length:=by rw [mJ]; omega
     rw [← e,List.getD_eq_getElem?_getD,List.getElem?_eq_getElem o9]
     exact List.getElem_mem o9)
    rcases List.mem_or_eq_of_mem_set hw with z | z
    ·rcases List.mem_append.mp z with z | z
     ·exact MA w z
     ·rw [List.mem_singleton.mp z]; omega
    ·rw [z]; omega
   have JL:=JI.trans Vb
   have Qf:=Gh.trans (Rx.trans JL)
   refine ⟨_,rfl,_,rfl,_,rfl,_,rfl,_,rfl,y2,db,l3,many,ev,_,bN hs d,bE wc d wt,j3 lns d nn,by rw [XE]; rfl,Qa,Q2.same Qf,Qc,aK.of (Vb _ _ Va),Qb,Vc,Qe,by omega,X1,by omega,by omega,fun H22 Ve=>⟨true,rfl,fz ?_⟩⟩
   exact ⟨(Rx.trans JL).trans Ve,_,_,_,_,_,y2,l3,bN hs d,bE wc d wt,j3 lns d nn,rfl,Qa.same Ve,Ve _ _ (Vb _ _ Va),Qb,Vc,Qc,XE,Qe,by omega,Vd⟩
  ·rintro σ LJ ⟨Rx,V3,V4,V5,V6,V7,yc,Ry,hs,wc,lns,rfl,_⟩
   exact k LJ
end
end K33
namespace K33
open PySem L2 Bs Sx
theorem all_mk {l:PySem.W.OpenLaw} {w:World} {K:PySem.W.Frag} {h:Heap} {mg:Str→Option Value} {fa:Addr} {x:Str} {t:Tok} (X:K.In h) (G:h.Ns mainGlobals mg) (hfa:mg "law"=some (.ref fa))
 {g8 g9 hG dN d8 d9 cH dh cI dO dP kf eX eY hV cJ cK cb di dQ dR cU dS fg hX fh gd dW dX cX fi dY gf e8 dG fj cA bf bA bb bj dj dF f9 ao aA fL bG bg:Addr}
 (c9:PySem.W.nsIn K mainGlobals "is_whole"=some (some (.ref g8))) (AY:Raw K "is_whole" "is_whole" (top 10) g8)
 (dM:PySem.W.nsIn K mainGlobals "all_rows"=some (some (.ref g9))) (AZ:Raw K "all_rows" "all_rows" (top 12) g9)
 (fC:PySem.W.nsIn K mainGlobals "is_rate"=some (some (.ref hG))) (DN:Raw K "is_rate" "is_rate" (top 13) hG)
 (bu:PySem.W.nsIn K mainGlobals "check_rate"=some (some (.ref dN))) (vL:Raw K "check_rate" "check_rate" (top 14) dN)
 (bQ:PySem.W.nsIn K mainGlobals "longer_rows"=some (some (.ref d8))) (sX:Raw K "longer_rows" "longer_rows" (top 15) d8)
 (aR:PySem.W.nsIn K mainGlobals "blocks_from"=some (some (.ref d9))) (sY:Raw K "blocks_from" "blocks_from" (top 16) d9)
 (bI:PySem.W.nsIn K mainGlobals "copied_steps"=some (some (.ref cH))) (rE:Raw K "copied_steps" "copied_steps" (top 18) cH)
 (bR:PySem.W.nsIn K mainGlobals "first_sheet"=some (some (.ref dh))) (sZ:Raw K "first_sheet" "first_sheet" (top 20) dh)
 (aZ:PySem.W.nsIn K mainGlobals "is_number_of"=some (some (.ref cI))) (rF:Raw K "is_number_of" "is_number_of" (top 21) cI)
 (bx:PySem.W.nsIn K mainGlobals "check_part"=some (some (.ref dO))) (vM:Raw K "check_part" "check_part" (top 22) dO)
 (ck:PySem.W.nsIn K mainGlobals "with_twins"=some (some (.ref dP))) (vN:Raw K "with_twins" "with_twins" (top 23) dP)
 (iL:PySem.W.nsIn K mainGlobals "split"=some (some (.ref kf))) (IQ:Raw K "split" "split" (top 24) kf)
 (bL:PySem.W.nsIn K mainGlobals "all_among"=some (some (.ref eX))) (yP:Raw K "all_among" "all_among" (top 27) eX)
 (cT:PySem.W.nsIn K mainGlobals "are_signs"=some (some (.ref eY))) (yQ:Raw K "are_signs" "are_signs" (top 28) eY)
 (fD:PySem.W.nsIn K mainGlobals "is_word"=some (some (.ref hV))) (DP:Raw K "is_word" "is_word" (top 29) hV)
 (bJ:PySem.W.nsIn K mainGlobals "check_barred"=some (some (.ref cJ))) (rG:Raw K "check_barred" "check_barred" (top 30) cJ)
 (b0:PySem.W.nsIn K mainGlobals "bears_barred"=some (some (.ref cK))) (rH:Raw K "bears_barred" "bears_barred" (top 31) cK)
 (bz:PySem.W.nsIn K mainGlobals "sorted_places"=some (some (.ref cb))) (pI:Raw K "sorted_places" "sorted_places" (top 32) cb)
 (bS:PySem.W.nsIn K mainGlobals "longest_end"=some (some (.ref di))) (t5:Raw K "longest_end" "longest_end" (top 33) di)
 (cm:PySem.W.nsIn K mainGlobals "moves_from"=some (some (.ref dQ))) (vO:Raw K "moves_from" "moves_from" (top 34) dQ)
 (cn:PySem.W.nsIn K mainGlobals "leads_into"=some (some (.ref dR))) (vP:Raw K "leads_into" "leads_into" (top 35) dR)
 (cq:PySem.W.nsIn K mainGlobals "live_among"=some (some (.ref cU))) (vQ:Raw K "live_among" "live_among" (top 36) cU)
 (cu:PySem.W.nsIn K mainGlobals "block_ends"=some (some (.ref dS))) (vR:Raw K "block_ends" "block_ends" (top 39) dS)
 (cW:PySem.W.nsIn K mainGlobals "weight_of"=some (some (.ref fg))) (yR:Raw K "weight_of" "weight_of" (top 40) fg)
 (fE:PySem.W.nsIn K mainGlobals "lowered"=some (some (.ref hX))) (DQ:Raw K "lowered" "lowered" (top 41) hX)
 (dU:PySem.W.nsIn K mainGlobals "greatest"=some (some (.ref fh))) (B1:Raw K "greatest" "greatest" (top 42) fh)
 (aJ:PySem.W.nsIn K mainGlobals "_law_nth"=some (some (.ref gd))) (B5:Raw K "_law_nth" "_law_nth" (top 44) gd)
 (af:PySem.W.nsIn K mainGlobals "_law_mixed"=some (some (.ref dW))) (vS:Raw K "_law_mixed" "_law_mixed" (top 45) dW)
 (cw:PySem.W.nsIn K mainGlobals "_law_signs"=some (some (.ref dX))) (vT:Raw K "_law_signs" "_law_signs" (top 46) dX)
 (cx:PySem.W.nsIn K mainGlobals "_law_words"=some (some (.ref cX))) (vU:Raw K "_law_words" "_law_words" (top 47) cX)
 (cY:PySem.W.nsIn K mainGlobals "_law_rate"=some (some (.ref fi))) (yS:Raw K "_law_rate" "_law_rate" (top 48) fi)
 (cy:PySem.W.nsIn K mainGlobals "_law_steps"=some (some (.ref dY))) (vV:Raw K "_law_steps" "_law_steps" (top 49) dY)
 (dZ:PySem.W.nsIn K mainGlobals "_law_due"=some (some (.ref gf))) (Ba:Raw K "_law_due" "_law_due" (top 50) gf)
 (bB:PySem.W.nsIn K mainGlobals "_law_borne"=some (some (.ref e8))) (vW:Raw K "_law_borne" "_law_borne" (top 51) e8)
 (bM:PySem.W.nsIn K mainGlobals "_law_good"=some (some (.ref dG))) (yT:Raw K "_law_good" "_law_good" (top 52) dG)
 (cZ:PySem.W.nsIn K mainGlobals "_law_some"=some (some (.ref fj))) (yU:Raw K "_law_some" "_law_some" (top 53) fj)
 (bT:PySem.W.nsIn K mainGlobals "_law_choice"=some (some (.ref cA))) (t6:Raw K "_law_choice" "_law_choice" (top 54) cA)
 (rJ:PySem.W.nsIn K mainGlobals "Sheet"=some (some (.ref ao)))
 (vX:PySem.W.nsIn K mainGlobals "Band"=some (some (.ref aA)))
 (fG:PySem.W.findIn K (.ref ao) "__init__"=some (some (.ref bf))) (fH:PySem.W.isFn K (.ref bf)=true) (jV:Raw K "__init__" "Sheet.__init__" (inClass (top 19) 0) bf)
 (fX:PySem.W.findIn K (.ref aA) "__init__"=some (some (.ref bA))) (fY:PySem.W.isFn K (.ref bA)=true) (kB:Raw K "__init__" "Band.__init__" (inClass (top 37) 0) bA)
 (gg:PySem.W.findIn K (.ref aA) "check_place"=some (some (.ref bb))) (gi:PySem.W.isFn K (.ref bb)=true) (je:Raw K "check_place" "Band.check_place" (inClass (top 37) 2) bb)
 (gR:PySem.W.findIn K (.ref aA) "check_live"=some (some (.ref bj))) (gS:PySem.W.isFn K (.ref bj)=true) (jq:Raw K "check_live" "Band.check_live" (inClass (top 37) 3) bj)
 (jy:PySem.W.findIn K (.ref aA) "places"=some (some (.ref dj))) (jz:PySem.W.isFn K (.ref dj)=true) (ml:Raw K "places" "Band.places" (inClass (top 37) 5) dj)
 (lE:PySem.W.findIn K (.ref aA) "live"=some (some (.ref dF))) (lF:PySem.W.isFn K (.ref dF)=true) (pz:Raw K "live" "Band.live" (inClass (top 37) 6) dF)
 (mO:PySem.W.findIn K (.ref aA) "led"=some (some (.ref f9))) (mP:PySem.W.isFn K (.ref f9)=true) (rK:Raw K "led" "Band.led" (inClass (top 37) 8) f9)
 (aL:PySem.W.nsIn K mainGlobals "law"=some (some (.ref fL))) (rL:Raw K "law" "law" (top 55) fL)
 (rM:PySem.W.plainGet K ao Str.empty=true)
 (rN:PySem.W.hasDictIn K ao=true)
 (rP:PySem.W.plainOver K ao=true)
 (rQ:PySem.W.findIn K (.ref ao) "__setattr__"=some (some (.builtin "object.__setattr__")))
 (jb:PySem.W.makesIn K ao=true)
 (rR:PySem.W.keepIn K (.ref ao)=true)
 (jA:PySem.W.findIn K (.ref ao) "homes"=some none)
 (iH:PySem.W.findIn K (.ref ao) "weights"=some none)
 (jB:PySem.W.findIn K (.ref ao) "lines"=some none)
 (vY:PySem.W.plainGet K aA Str.empty=true)
 (vZ:PySem.W.hasDictIn K aA=true)
 (w4:PySem.W.plainOver K aA=true)
 (w5:PySem.W.findIn K (.ref aA) "__setattr__"=some (some (.builtin "object.__setattr__")))
 (lU:PySem.W.makesIn K aA=true)
 (w6:PySem.W.keepIn K (.ref aA)=true)
 (ki:PySem.W.findIn K (.ref aA) "signs"=some none)
 (jC:PySem.W.findIn K (.ref aA) "barred"=some none)
 (kj:PySem.W.findIn K (.ref aA) "moves"=some none)
 (jf:PySem.W.findIn K (.ref aA) "lasting"=some none)
 (kn:PySem.W.nsIn K mainGlobals "KNOWN_SIGNS"=some (some (.str x t))) (hx:x=gm)
 (kl:PySem.W.nsIn K mainGlobals "BandError"=some (some (.ref bG)))
 (xt:KL K bG "BandError") (Vf:PySem.W.specialIn K (.ref bG) "__getattribute__"=some (some (.builtin "type.__getattribute__"))) (Vg:PySem.W.readsIn K bG (.type "type")=true) (Vh:PySem.W.findCls K (.ref bG) (.type "type") "__init__"=some (.val (.builtin "ValueError.__init__")))
 (mQ:PySem.W.nsIn K mainGlobals "NoSplit"=some (some (.ref bg)))
 (Bb:Di K bg bG "NoSplit") (mR:PySem.W.findIn K (.ref bg) "__setattr__"=some (some (.builtin "object.__setattr__"))) (mS:PySem.W.findIn K (.ref bg) "__getattribute__"=some (some (.builtin "BaseException.__getattribute__"))) (mU:PySem.W.findIn K (.ref bg) "__getattr__"=some none) (mV:PySem.W.keepIn K (.ref bg)=true) (mW:PySem.W.findIn K (.ref bg) "__class__"=some (some (.builtin "object.__class__")))
 (dn:PySem.W.findIn K (.ref bg) "__init__"=some (some (.builtin "ValueError.__init__")))
 (yn:PySem.W.specialIn K (.builtin "object.__class__") "__get__"=some (some (.builtin "getset_descriptor.__get__"))) (yt:PySem.W.takesIn K (.builtin "object.__class__")=some true)
 (Gi:PySem.W.nsIn K mainGlobals "abs"=some none)
 (Gj:PySem.W.nsIn K mainGlobals "all"=some none)
 (Gk:PySem.W.nsIn K mainGlobals "any"=some none)
 (Bc:PySem.W.nsIn K mainGlobals "bool"=some none)
 (lG:PySem.W.nsIn K mainGlobals "enumerate"=some none)
 (Gm:PySem.W.nsIn K mainGlobals "int"=some none)
 (km:PySem.W.nsIn K mainGlobals "isinstance"=some none)
 (Gn:PySem.W.nsIn K mainGlobals "len"=some none)
 (Bd:PySem.W.nsIn K mainGlobals "list"=some none)
 (Go:PySem.W.nsIn K mainGlobals "max"=some none)
 (Gp:PySem.W.nsIn K mainGlobals "min"=some none)
 (w9:PySem.W.nsIn K mainGlobals "range"=some none)
 (Gq:PySem.W.nsIn K mainGlobals "set"=some none)
 (rS:PySem.W.nsIn K mainGlobals "sorted"=some none)
 (Gr:PySem.W.nsIn K mainGlobals "str"=some none)
 (Gs:PySem.W.nsIn K mainGlobals "sum"=some none)
 :∃ fd:FuncData,(∀ (s:Shared) (v:Value),BindsTo s fd ⟨[v],[]⟩ [("_law_script",v)])∧∀ base:Heap,K.In base→base.Ns mainGlobals mg→bD l.prog w K mg base iN 7 fa fd ["_law_script"] (C7 K):=by
 have e:=hfa.symm.trans (PySem.W.mg_of X G aL)
 cases e
 subst hx
 have T:Txt mg:=⟨PySem.W.mg_none_of X G Gi,PySem.W.mg_none_of X G Gj,PySem.W.mg_none_of X G Gk,PySem.W.mg_none_of X G Bc,PySem.W.mg_none_of X G lG,PySem.W.mg_none_of X G Gm,PySem.W.mg_none_of X G km,PySem.W.mg_none_of X G Gn,PySem.W.mg_none_of X G Bd,PySem.W.mg_none_of X G Go,PySem.W.mg_none_of X G Gp,PySem.W.mg_none_of X G w9,PySem.W.mg_none_of X G Gq,PySem.W.mg_none_of X G rS,PySem.W.mg_none_of X G Gr,PySem.W.mg_none_of X G Gs⟩
 obtain ⟨j5,Bg⟩:=Raw.at_ (ps:=["thing"]) X G c9 AY fun _ _ _ _ _ _ us hl=>match us,hl with | [_],_=>rfl
 obtain ⟨j6,Bh⟩:=Raw.at_ (ps:=["band","wide"]) X G dM AZ fun _ _ _ _ _ _ us hl=>match us,hl with | [_,_],_=>rfl
 obtain ⟨jS,DR⟩:=Raw.at_ (ps:=["band","many","wide"]) X G fC DN fun _ _ _ _ _ _ us hl=>match us,hl with | [_,_,_],_=>rfl
 obtain ⟨gF,we⟩:=Raw.at_ (ps:=["band","many","wide"]) X G bu vL fun _ _ _ _ _ _ us hl=>match us,hl with | [_,_,_],_=>rfl
 obtain ⟨fP,t7⟩:=Raw.at_ (ps:=["band","rows"]) X G bQ sX fun _ _ _ _ _ _ us hl=>match us,hl with | [_,_],_=>rfl
 obtain ⟨fQ,t8⟩:=Raw.at_ (ps:=["band","place","wide"]) X G aR sY fun _ _ _ _ _ _ us hl=>match us,hl with | [_,_,_],_=>rfl
 obtain ⟨eV,rT⟩:=Raw.at_ (ps:=["line"]) X G bI rE fun _ _ _ _ _ _ us hl=>match us,hl with | [_],_=>rfl
 obtain ⟨fR,t9⟩:=Raw.at_ (ps:=["band","many","wide","weights"]) X G bR sZ fun _ _ _ _ _ _ us hl=>match us,hl with | [_,_,_,_],_=>rfl
 obtain ⟨eW,rV⟩:=Raw.at_ (ps:=["number","things"]) X G aZ rF fun _ _ _ _ _ _ us hl=>match us,hl with | [_,_],_=>rfl
 obtain ⟨gG,wg⟩:=Raw.at_ (ps:=["sheet","many","steps","weight"]) X G bx vM fun _ _ _ _ _ _ us hl=>match us,hl with | [_,_,_,_],_=>rfl
 obtain ⟨gH,wj⟩:=Raw.at_ (ps:=["line","desk","twin"]) X G ck vN fun _ _ _ _ _ _ us hl=>match us,hl with | [_,_,_],_=>rfl
 obtain ⟨nO,IU⟩:=Raw.at_ (ps:=["sheet","many","desk","numbers","weight"]) X G iL IQ fun _ _ _ _ _ _ us hl=>match us,hl with | [_,_,_,_,_],_=>rfl
 obtain ⟨iu,yV⟩:=Raw.at_ (ps:=["text","signs"]) X G bL yP fun _ _ _ _ _ _ us hl=>match us,hl with | [_,_],_=>rfl
 obtain ⟨iw,yW⟩:=Raw.at_ (ps:=["thing"]) X G cT yQ fun _ _ _ _ _ _ us hl=>match us,hl with | [_],_=>rfl
 obtain ⟨jT,DS⟩:=Raw.at_ (ps:=["thing","signs"]) X G fD DP fun _ _ _ _ _ _ us hl=>match us,hl with | [_,_],_=>rfl
 obtain ⟨eZ,rW⟩:=Raw.at_ (ps:=["barred","signs"]) X G bJ rG fun _ _ _ _ _ _ us hl=>match us,hl with | [_,_],_=>rfl
 obtain ⟨f7,rX⟩:=Raw.at_ (ps:=["row","barred"]) X G b0 rH fun _ _ _ _ _ _ us hl=>match us,hl with | [_,_],_=>rfl
 obtain ⟨eC,pJ⟩:=Raw.at_ (ps:=["barred"]) X G bz pI fun _ _ _ _ _ _ us hl=>match us,hl with | [_],_=>rfl
 obtain ⟨fS,tf⟩:=Raw.at_ (ps:=["row","places"]) X G bS t5 fun _ _ _ _ _ _ us hl=>match us,hl with | [_,_],_=>rfl
 obtain ⟨gI,wk⟩:=Raw.at_ (ps:=["place","signs","barred","places"]) X G cm vO fun _ _ _ _ _ _ us hl=>match us,hl with | [_,_,_,_],_=>rfl
 obtain ⟨gJ,wm⟩:=Raw.at_ (ps:=["ends","lot"]) X G cn vP fun _ _ _ _ _ _ us hl=>match us,hl with | [_,_],_=>rfl
 obtain ⟨gK,wo⟩:=Raw.at_ (ps:=["moves"]) X G cq vQ fun _ _ _ _ _ _ us hl=>match us,hl with | [_],_=>rfl
 obtain ⟨gL,wq⟩:=Raw.at_ (ps:=["band","wide"]) X G cu vR fun _ _ _ _ _ _ us hl=>match us,hl with | [_,_],_=>rfl
 obtain ⟨iz,yX⟩:=Raw.at_ (ps:=["places","weights"]) X G cW yR fun _ _ _ _ _ _ us hl=>match us,hl with | [_,_],_=>rfl
 obtain ⟨jU,DT⟩:=Raw.at_ (ps:=["ends","many","weights"]) X G fE DQ fun _ _ _ _ _ _ us hl=>match us,hl with | [_,_,_],_=>rfl
 obtain ⟨j8,Bi⟩:=Raw.at_ (ps:=["band","many","wide","most"]) X G dU B1 fun _ _ _ _ _ _ us hl=>match us,hl with | [_,_,_,_],_=>rfl
 obtain ⟨j9,Bj⟩:=Raw.at_ (ps:=["_law_script","_law_k"]) X G aJ B5 fun _ _ _ _ _ _ us hl=>match us,hl with | [_,_],_=>rfl
 obtain ⟨gM,wu⟩:=Raw.at_ (ps:=["_law_cell","_law_turn","_law_many"]) X G af vS fun _ _ _ _ _ _ us hl=>match us,hl with | [_,_,_],_=>rfl
 obtain ⟨gN,wx⟩:=Raw.at_ (ps:=["_law_cell"]) X G cw vT fun _ _ _ _ _ _ us hl=>match us,hl with | [_],_=>rfl
 obtain ⟨gO,wy⟩:=Raw.at_ (ps:=["_law_script","_law_at","_law_signs_here","_law_most","_law_long"]) X G cx vU fun _ _ _ _ _ _ us hl=>match us,hl with | [_,_,_,_,_],_=>rfl
 obtain ⟨iA,yY⟩:=Raw.at_ (ps:=["_law_cell","_law_signs_here"]) X G cY yS fun _ _ _ _ _ _ us hl=>match us,hl with | [_,_],_=>rfl
 obtain ⟨gP,wz⟩:=Raw.at_ (ps:=["_law_sheet"]) X G cy vV fun _ _ _ _ _ _ us hl=>match us,hl with | [_],_=>rfl
 obtain ⟨ja,Bk⟩:=Raw.at_ (ps:=["_law_blocks","_law_sheet"]) X G dZ Ba fun _ _ _ _ _ _ us hl=>match us,hl with | [_,_],_=>rfl
 obtain ⟨gQ,wA⟩:=Raw.at_ (ps:=["_law_sheet","_law_numbers","_law_desk"]) X G bB vW fun _ _ _ _ _ _ us hl=>match us,hl with | [_,_,_],_=>rfl
 obtain ⟨iB,yZ⟩:=Raw.at_ (ps:=["_law_sheet","_law_many","_law_blocks","_law_homes","_law_total"]) X G bM yT fun _ _ _ _ _ _ us hl=>match us,hl with | [_,_,_,_,_],_=>rfl
 obtain ⟨iC,z5⟩:=Raw.at_ (ps:=["_law_cell","_law_size"]) X G cZ yU fun _ _ _ _ _ _ us hl=>match us,hl with | [_,_],_=>rfl
 obtain ⟨fT,tj⟩:=Raw.at_ (ps:=["_law_cell","_law_sheet","_law_many"]) X G bT t6 fun _ _ _ _ _ _ us hl=>match us,hl with | [_,_,_],_=>rfl
 obtain ⟨dA,oP,oQ⟩:=jV.fn (ps:=["self","homes","weights","lines"]) fun _ _ _ _ _ _ us hl=>match us,hl with | [_,_,_,_],_=>rfl
 obtain ⟨eD,pK,pL⟩:=kB.fn (ps:=["self","signs","barred"]) fun _ _ _ _ _ _ us hl=>match us,hl with | [_,_,_],_=>rfl
 obtain ⟨cM,mX,mY⟩:=je.fn (ps:=["self","place"]) fun _ _ _ _ _ _ us hl=>match us,hl with | [_,_],_=>rfl
 obtain ⟨cV,nT,nU⟩:=jq.fn (ps:=["self","place"]) fun _ _ _ _ _ _ us hl=>match us,hl with | [_,_],_=>rfl
 obtain ⟨ib,tm,tq⟩:=ml.fn (ps:=["self"]) fun _ _ _ _ _ _ us hl=>match us,hl with | [_],_=>rfl
 obtain ⟨iy,z6,z8⟩:=pz.fn (ps:=["self"]) fun _ _ _ _ _ _ us hl=>match us,hl with | [_],_=>rfl
 obtain ⟨j7,Bl,Bm⟩:=rK.fn (ps:=["self","place","sign"]) fun _ _ _ _ _ _ us hl=>match us,hl with | [_,_,_],_=>rfl
 obtain ⟨⟨oc,od,kV,doc,pm,an,cR,ct,zE,lk,hc⟩,hk⟩:=rL
 have FL:=EK (st:=top 55) lk hc hk
 let L:Lk K mg:={ T:=T,g8:=g8,j5:=j5,c9:=Bg,g9:=g9,j6:=j6,dM:=Bh,hG:=hG,jS:=jS,fC:=DR,dN:=dN,gF:=gF,bu:=we,d8:=d8,fP:=fP,bQ:=t7,d9:=d9,fQ:=fQ,aR:=t8,cH:=cH,eV:=eV,bI:=rT,dh:=dh,fR:=fR,bR:=t9,cI:=cI,eW:=eW,aZ:=rV,dO:=dO,gG:=gG,bx:=wg,dP:=dP,gH:=gH,ck:=wj,kf:=kf,nO:=nO,iL:=IU,eX:=eX,iu:=iu,bL:=yV,eY:=eY,iw:=iw,cT:=yW,hV:=hV,jT:=jT,fD:=DS,cJ:=cJ,eZ:=eZ,bJ:=rW,cK:=cK,f7:=f7,b0:=rX,cb:=cb,eC:=eC,bz:=pJ,di:=di,fS:=fS,bS:=tf,dQ:=dQ,gI:=gI,cm:=wk,dR:=dR,gJ:=gJ,cn:=wm,cU:=cU,gK:=gK,cq:=wo,dS:=dS,gL:=gL,cu:=wq,fg:=fg,iz:=iz,cW:=yX,hX:=hX,jU:=jU,fE:=DT,fh:=fh,j8:=j8,dU:=Bi,gd:=gd,j9:=j9,aJ:=Bj,dW:=dW,gM:=gM,af:=wu,dX:=dX,gN:=gN,cw:=wx,cX:=cX,gO:=gO,cx:=wy,fi:=fi,iA:=iA,cY:=yY,dY:=dY,gP:=gP,cy:=wz,gf:=gf,ja:=ja,dZ:=Bk,e8:=e8,gQ:=gQ,bB:=wA,dG:=dG,iB:=iB,bM:=yZ,fj:=fj,iC:=iC,cZ:=z5,cA:=cA,fT:=fT,bT:=tj,bf:=bf,dA:=dA,fF:=⟨oP,oQ,⟨fG,fH,jV.kp⟩⟩,bA:=bA,eD:=eD,iF:=⟨pK,pL,⟨fX,fY,kB.kp⟩⟩,bb:=bb,cM:=cM,ee:=⟨mX,mY,⟨gg,gi,je.kp⟩⟩,bj:=bj,cV:=cV,eL:=⟨nT,nU,⟨gR,gS,jq.kp⟩⟩,dj:=dj,ib:=ib,sJ:=⟨tm,tq,⟨jy,jz,ml.kp⟩⟩,dF:=dF,iy:=iy,dH:=⟨z6,z8,⟨lE,lF,pz.kp⟩⟩,f9:=f9,j7:=j7,kg:=⟨Bl,Bm,⟨mO,mP,rK.kp⟩⟩,ao:=ao,vz:=PySem.W.mg_of X G rJ,ak:=⟨⟨rM,rN,rP,rQ⟩,jA,iH,jB⟩,jb:=⟨jb,fG,fH,rR⟩,aA:=aA,G5:=PySem.W.mg_of X G vX,aX:=⟨⟨vY,vZ,w4,w5⟩,ki,jC,kj,jf⟩,lU:=⟨lU,fX,fY,w6⟩,bG:=bG,yE:=PySem.W.mg_of X G kl,XT:=xt,XB:=⟨Vf,Vg,Vh⟩,bg:=bg,iP:=PySem.W.mg_of X G mQ,iQ:=⟨Bb.lk,mR,mS,mU,mV⟩,DG:=⟨mW,yn,yt⟩,dn:=dn,known:=⟨t,PySem.W.mg_of X G kn⟩ }
 exact ⟨_,fun s v=>.of_eq rfl,fun base _ _=>LD L FL⟩
theorem walk {l:PySem.W.OpenLaw} {q:Program} {loose:List Str} {XP:(Str→Option Value)→Heap→Prop} {YP:World→Heap→Prop} {d:DefRec} {K:Params→PySem.W.Frag} (hn:l.most=some 63) (Gv:d.params.defaults=[])
 (hY:∀ (w:World) (h:Heap),YP w h→(K w.params).In h)
 (F:∀ (w:World) (mg:Str→Option Value) (fa:Addr) (h:Heap),(K w.params).In h→h.Ns mainGlobals mg→mg d.name=some (.ref fa) →
   ∃ fd:FuncData,(∀ (s:Shared) (u:Value),BindsTo s fd ⟨[u],[]⟩ [("_law_script",u)])∧∀ base:Heap,(K w.params).In base→base.Ns mainGlobals mg→bD l.prog w (K w.params) mg base iN 7 fa fd ["_law_script"] (C7 (K w.params))) :
 PySem.W.WalkO q loose XP YP l.row.toRowW d [] (fun f vs=>PySem.call f vs):=
 L2.Hn (n:=63) (k:=7) (x:="_law_script") (CX:=fun _=>iN) (sp:=fun w=>C7 (K w.params)) hn (by decide) Gv ⟨rfl,by decide,by decide⟩ hY F (fun _ _ a ns hl _ hS=>⟨a,ns,rfl,hS,hl,fun _=>rfl⟩) fun _ _ _ _ _ z=>z
end K33
open PySem PySem.W PyProof.Rows
local macro_rules | `(tactic| o_head $H)=>`(tactic| (refine PySem.W.holds_open (q:=K33.view) (loose:=[]) (Xt:=fun s=>PySem.W.xlAt K33.view [] s && PySem.W.recOk (PySem.W.RowW.records (PySem.W.OpenRow.toRowW (PySem.W.OpenLaw.row PySem.Challenge.rw_bandscribe_k33_whole_splits_keep))) s) (XP:=PySem.W.XL K33.view []) (Yf:=PySem.W.Hook.obs $H) (Ya:=PySem.W.Hook.val $H) (YP:=PySem.W.Hook.says $H) (N:=8100) ?hl (PySem.W.Hook.of $H) (PySem.W.Hook.keeps $H) (fun s e=>PySem.W.xl_of s (Bool.and_eq_true_iff.mp e).1) PySem.W.XL.keeps (by rfl) (by rfl) (by rfl) (fun s e=>PySem.W.recFacts_of (Bool.and_eq_true_iff.mp e).2) (by rfl) (by first | assumption | decide +kernel) (by decide +kernel) ⟨rfl,rfl,rfl,rfl,rfl,by decide +kernel⟩ ?hw ?hc; (case hl=>(intro w; exact K33.whole w))))
set_option maxRecDepth 100000 in
set_option maxHeartbeats 0 in
theorem PySem.Challenge.cw_bandscribe_k33_whole_splits_keep_holds : PySem.Challenge.rw_bandscribe_k33_whole_splits_keep.Holds := by
 w_on; o_law; o_head (PySem.W.kHook K33.pre.heap_39 K33.addrs (fun _=>by kernel_rfl)); (case hw=>w_witness2)
 k_fill
 refine K33.walk (l:=PySem.Challenge.rw_bandscribe_k33_whole_splits_keep) rfl rfl (fun w h Y=>PySem.W.kIn_of Y) ?F
 case F=>
  intro w mg fa h KX G Ny
  refine' K33.all_mk KX G Ny ?c9 (Sx.aO ?Bn ?Bo ?Bq) ?dM (Sx.aO ?Br ?Bt ?Bu) ?fC (Sx.aO ?DU ?DV ?DW) ?bu (Sx.aO ?wB ?wC ?wD) ?bQ (Sx.aO ?tu ?tD ?tE) ?aR (Sx.aO ?tF ?tG ?tH) ?bI (Sx.aO ?rY ?rZ ?sd) ?bR (Sx.aO ?tI ?tJ ?tK) ?aZ (Sx.aO ?se ?si ?sj) ?bx (Sx.aO ?wF ?wG ?wH) ?ck (Sx.aO ?wI ?wJ ?wK) ?iL (Sx.aO ?IV ?IW ?IX) ?bL (Sx.aO ?z9 ?za ?zb) ?cT (Sx.aO ?zf ?zg ?zh) ?fD (Sx.aO ?DX ?DY ?DZ) ?bJ (Sx.aO ?sq ?sr ?su) ?b0 (Sx.aO ?sv ?sx ?sy) ?bz (Sx.aO ?pM ?pN ?pO) ?bS (Sx.aO ?tL ?tM ?tN) ?cm (Sx.aO ?wL ?wM ?wN) ?cn (Sx.aO ?wO ?wQ ?wR) ?cq (Sx.aO ?wU ?wV ?wW) ?cu (Sx.aO ?wX ?wY ?wZ) ?cW (Sx.aO ?zi ?zj ?zk) ?fE (Sx.aO ?E1 ?E2 ?E4) ?dU (Sx.aO ?Bv ?Bw ?Bx) ?aJ (Sx.aO ?By ?Bz ?BA) ?af (Sx.aO ?x4 ?x6 ?x8) ?cw (Sx.aO ?x9 ?xc ?xf) ?cx (Sx.aO ?xg ?xh ?xi) ?cY (Sx.aO ?zm ?zo ?zp) ?cy (Sx.aO ?xj ?xk ?xm) ?dZ (Sx.aO ?BC ?BE ?BF) ?bB (Sx.aO ?xn ?xo ?xq) ?bM (Sx.aO ?zq ?zr ?zt) ?cZ (Sx.aO ?zu ?zx ?zy) ?bT (Sx.aO ?tO ?tP ?tQ) ?rJ ?vX ?fG ?fH (Sx.aO ?oR ?oS ?oU) ?fX ?fY (Sx.aO ?pP ?pQ ?pR) ?gg ?gi (Sx.aO ?mZ ?n5 ?n6) ?gR ?gS (Sx.aO ?nV ?nW ?nX) ?jy ?jz (Sx.aO ?tR ?tS ?tT) ?lE ?lF (Sx.aO ?zz ?zA ?zB) ?mO ?mP (Sx.aO ?BG ?BH ?BI) ?aL (Sx.aO ?lL ?cL ?kL) ?rM ?rN ?rP ?rQ ?jb ?rR ?jA ?iH ?jB ?vY ?vZ ?w4 ?w5 ?lU ?w6 ?ki ?jC ?kj ?jf ?kn ?hx ?kl (Sx.HU ?xtl) ?Vf ?Vg ?Vh ?mQ (Sx.HS ?BJ) ?mR ?mS ?mU ?mV ?mW ?dn ?yn ?yt ?Gi ?Gj ?Gk ?Bc ?lG ?Gm ?km ?Gn ?Bd ?Go ?Gp ?w9 ?Gq ?rS ?Gr ?Gs
  (case c9=>k_is); (case Bn=>k_is); (case Bo=>k_is); (case Bq=>k_is); (case dM=>k_is)
  (case Br=>k_is); (case Bt=>k_is); (case Bu=>k_is); (case fC=>k_is); (case DU=>k_is)
  (case DV=>k_is); (case DW=>k_is); (case bu=>k_is); (case wB=>k_is); (case wC=>k_is)
  (case wD=>k_is); (case bQ=>k_is); (case tu=>k_is); (case tD=>k_is); (case tE=>k_is)
  (case aR=>k_is); (case tF=>k_is); (case tG=>k_is); (case tH=>k_is); (case bI=>k_is)
  (case rY=>k_is); (case rZ=>k_is); (case sd=>k_is); (case bR=>k_is); (case tI=>k_is)
  (case tJ=>k_is); (case tK=>k_is); (case aZ=>k_is); (case se=>k_is); (case si=>k_is)
  (case sj=>k_is); (case bx=>k_is); (case wF=>k_is); (case wG=>k_is); (case wH=>k_is)
  (case ck=>k_is); (case wI=>k_is); (case wJ=>k_is); (case wK=>k_is); (case iL=>k_is)
  (case IV=>k_is); (case IW=>k_is); (case IX=>k_is); (case bL=>k_is); (case z9=>k_is)
  (case za=>k_is); (case zb=>k_is); (case cT=>k_is); (case zf=>k_is); (case zg=>k_is)
  (case zh=>k_is); (case fD=>k_is); (case DX=>k_is); (case DY=>k_is); (case DZ=>k_is)
  (case bJ=>k_is); (case sq=>k_is); (case sr=>k_is); (case su=>k_is); (case b0=>k_is)
  (case sv=>k_is); (case sx=>k_is); (case sy=>k_is); (case bz=>k_is); (case pM=>k_is)
  (case pN=>k_is); (case pO=>k_is); (case bS=>k_is); (case tL=>k_is); (case tM=>k_is)
  (case tN=>k_is); (case cm=>k_is); (case wL=>k_is); (case wM=>k_is); (case wN=>k_is)
  (case cn=>k_is); (case wO=>k_is); (case wQ=>k_is); (case wR=>k_is); (case cq=>k_is)
  (case wU=>k_is); (case wV=>k_is); (case wW=>k_is); (case cu=>k_is); (case wX=>k_is)
  (case wY=>k_is); (case wZ=>k_is); (case cW=>k_is); (case zi=>k_is); (case zj=>k_is)
  (case zk=>k_is); (case fE=>k_is); (case E1=>k_is); (case E2=>k_is); (case E4=>k_is)
  (case dU=>k_is); (case Bv=>k_is); (case Bw=>k_is); (case Bx=>k_is); (case aJ=>k_is)
  (case By=>k_is); (case Bz=>k_is); (case BA=>k_is); (case af=>k_is); (case x4=>k_is)
  (case x6=>k_is); (case x8=>k_is); (case cw=>k_is); (case x9=>k_is); (case xc=>k_is)
  (case xf=>k_is); (case cx=>k_is); (case xg=>k_is); (case xh=>k_is); (case xi=>k_is)
  (case cY=>k_is); (case zm=>k_is); (case zo=>k_is); (case zp=>k_is); (case cy=>k_is)
  (case xj=>k_is); (case xk=>k_is); (case xm=>k_is); (case dZ=>k_is); (case BC=>k_is)
  (case BE=>k_is); (case BF=>k_is); (case bB=>k_is); (case xn=>k_is); (case xo=>k_is)
  (case xq=>k_is); (case bM=>k_is); (case zq=>k_is); (case zr=>k_is); (case zt=>k_is)
  (case cZ=>k_is); (case zu=>k_is); (case zx=>k_is); (case zy=>k_is); (case bT=>k_is)
  (case tO=>k_is); (case tP=>k_is); (case tQ=>k_is); (case rJ=>k_is); (case vX=>k_is)
  (case fG=>k_is); (case fH=>k_is); (case oR=>k_is); (case oS=>k_is); (case oU=>k_is)
  (case fX=>k_is); (case fY=>k_is); (case pP=>k_is); (case pQ=>k_is); (case pR=>k_is)
  (case gg=>k_is); (case gi=>k_is); (case mZ=>k_is); (case n5=>k_is); (case n6=>k_is)
  (case gR=>k_is); (case gS=>k_is); (case nV=>k_is); (case nW=>k_is); (case nX=>k_is)
  (case jy=>k_is); (case jz=>k_is); (case tR=>k_is); (case tS=>k_is); (case tT=>k_is)
  (case lE=>k_is); (case lF=>k_is); (case zz=>k_is); (case zA=>k_is); (case zB=>k_is)
  (case mO=>k_is); (case mP=>k_is); (case BG=>k_is); (case BH=>k_is); (case BI=>k_is)
  (case aL=>k_is); (case lL=>k_is); (case cL=>k_is); (case kL=>k_is); (case rM=>k_is)
  (case rN=>k_is); (case rP=>k_is); (case rQ=>k_is); (case jb=>k_is); (case rR=>k_is)
  (case jA=>k_is); (case iH=>k_is); (case jB=>k_is); (case vY=>k_is); (case vZ=>k_is)
  (case w4=>k_is); (case w5=>k_is); (case lU=>k_is); (case w6=>k_is); (case ki=>k_is)
  (case jC=>k_is); (case kj=>k_is); (case jf=>k_is); (case kn=>k_is); (case kl=>k_is)
  (case xtl=>k_is); (case Vf=>k_is); (case Vg=>k_is); (case Vh=>k_is); (case mQ=>k_is)
  (case BJ=>k_is); (case mR=>k_is); (case mS=>k_is); (case mU=>k_is); (case mV=>k_is)
  (case mW=>k_is); (case dn=>k_is); (case yn=>k_is); (case yt=>k_is); (case Gi=>k_is)
  (case Gj=>k_is); (case Gk=>k_is); (case Bc=>k_is); (case lG=>k_is); (case Gm=>k_is)
  (case km=>k_is); (case Gn=>k_is); (case Bd=>k_is); (case Go=>k_is); (case Gp=>k_is)
  (case w9=>k_is); (case Gq=>k_is); (case rS=>k_is); (case Gr=>k_is); (case Gs=>k_is)
  (case hx=>first | rfl | decide +kernel)
#print axioms PySem.Challenge.cw_bandscribe_k33_whole_splits_keep_holds
