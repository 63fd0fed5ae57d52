import PyProof.Rows.All
import Wide.All
import OpenK.AllK
import Wide.FinOn
import Lean
import PyProof.EqAt
import PyProof.EqKinds
import PyProof.TupleCall
import PyProof.NeKinds
import PyProof.StationsW
import PyProof.RulesAs
import PyProof.ExcArgsOwn
import PyProof.CompFree
import PyProof.ExcInit
import PyProof.ConsumeWalk
import PyProof.Rows.SeqGen
import PyProof.StrWalks
import PyProof.SliceStr2
import PyProof.MeetsStr
import KE.KIntText
import PyProof.Rows.FStr
import PyProof.StrCalls6
import PyProof.StrBlockL
import PyProof.ToksMono
import PyProof.WalkInts
import PyProof.Rows.MinMaxN
import PyProof.StrLawsReplace
import PyProof.StrLawsTight
import PyProof.Rows.StrLawsPart
import PyProof.DictWalks
import KE.KEqDict
import KE.KDictLaws
import KE.KRevIter
import PyProof.ListCopy
import PyProof.CollectIter
import PyProof.Rows.SetFrom
import PyProof.Rows.SortShellK
import PyProof.Rows.SortStr
import PyProof.Rows.SortWalk
import KE.KDictSum
import KE.KSortTup
import PyProof.TupleOfSeq
import PyProof.Rows.SortRuns
import PyProof.FactsAll.tuple_2
import PyProof.WalksEnum
import PyProof.EnumMake
import PyProof.EnumFor
import PyProof.ZipIter
import KE.KDictOf
import PyProof.DictItems
import PyProof.FactsAll.dict_itemiterator_1
import PyProof.Rows.StrMul
import KE.KDictList
import PyProof.Rows.SumAny
import KE.KIsAll
import PyProof.StrLaws
import PyProof.FactsAll.list_3
import KE.KUnpack
import PyProof.Rows.CallKwBuiltin
import PySem.Challenge.RW_stovework_k41_tasks
set_option maxHeartbeats 4000000
noncomputable section
abbrev K9:=PySem.Value->PySem.Shared->Prop
abbrev La:=PySem.Str->Option PySem.Value
abbrev Lb:=List (PySem.Addr×PySem.Obj)
abbrev Lc:=Array (Option PySem.Value)
abbrev Ld:=List PySem.Str
abbrev Le:=List PySem.Addr
abbrev Lf:=List PySem.Value
abbrev Lg:=Option PySem.Addr
abbrev Lh:=Option PySem.Value
open Array renaming getElem?_toList → HA, length_toList → HV, getElem?_eq_some_iff → Hj
open Bool renaming false_ne_true → GE, not_true → HS, false_or → Hf
open Int renaming fmod_nonneg_of_pos → FM, fmod_lt_of_pos → FT, mul_pos → Gr, zero_add → Gs, toNat_of_nonneg → Gz, natCast_mul → HF, fmod_eq_emod_of_nonneg → HI, le_of_lt → HQ, toNat_natCast → Hi, mul_one → Hl, mul_comm → Hr
open List renaming getElem?_eq_getElem → F0, length_map → F6, mem_cons → F8, mem_of_getElem? → F9, getElem?_append_right → FN, getElem?_map → FP, length_append → FQ, getElem?_eq_some_iff → FR, mem_cons_of_mem → FS, mem_append_right → FU, getElem?_append_left → FV, mem_singleton → G3, mem_iff_getElem? → G4, length_cons → G6, mem_append → GD, not_mem_nil → GF, length_take → GG, mem_map → GI, mem_cons_self → GM, size_toArray → GN, map_append → GO, take_append_drop → GQ, nodup_cons → GR, append_assoc → GT, getElem_mem → GU, getD_eq_getElem?_getD → GX, replicate → Gb, length_drop → Gd, nodup_append → Gf, getElem_map → Gm, all_eq_true → Gn, take_of_length_le → Gp, take_add_one → Gq, mem_append_left → Gu, map_cons → Gw, range → Gx, map_map → Gy, length_range → HD, ext_getElem? → HE, cons_append → HH, pairwise_iff_getElem → HK, drop_eq_getElem_cons → HL, pairwise_map → HN, pairwise_append → HP, getElem?_take_of_lt → HU, map_congr_left → HW, length_reverse → HX, eq_nil_of_length_eq_zero → Ha, getElem?_drop → Hd, getElem?_set_ne → Hk, ext_getElem → Hn, replicate_succ → Hu, filterMap_cons → Hv, sum_cons → Hw
open Nat renaming le_refl → FO, ne_of_lt → GJ, lt_of_lt_of_le → GL, le_trans → GP, lt_trans → GW, lt_of_le_of_lt → Ge, zero_le → Gi, gcd → HC, ne_of_gt → HG, lt_succ_of_lt → HR, le_of_lt → He, mul_comm → Ho, gcd_comm → Hq, lt_irrefl → Hx
open Option renaming map_eq_some_iff → GS, isSome_iff_exists → GV, bind_eq_some_iff → GY, toList_some → HB, map_some → Hc
open Option.some renaming inj → GK
open PyProof renaming noPylong_small → FX
open PyProof.Rows renaming callWith_type1 → HZ
open PySem renaming mem_of_lookup → Gc
open PySem.F renaming type_list_append → FY, slot_list_append → FZ, plainAttrs_list → G0, plainAttrs_str → Gk
open PySem.W renaming Frag → F5, nsIn → FW, mg_of → G5, kitOne → G7, mg_none_of → GZ, findIn → Ga, kia_one → Gg, keepIn → Gh, fnOf → Gj, emptyDict → Gv, instObj → HJ, callWith_K → HY, subIn → Hb, codeIn → Hg, byRow2 → Hh, excIn → Hs
open PySem.W.Fast renaming te14364793385576792824 → G8, te14289696077712309145 → G9, te11892475500146522536 → GA, te10274390034422433532 → GB, te10156331382660048174 → GC, te6613529449190102663 → GH
namespace Ht
open PySem PySem.W PyProof.Rows
noncomputable def pQ (ok:Thread->Bool) (st:SharedT->Thread->Option (SharedT×Thread)) (n:Nat):SharedT->Thread->Option SharedT:=
 Nat.rec (motive:=fun _=>SharedT->Thread->Option SharedT) (fun _ _=>none) (fun _ ih s t=>
  Bool.rec (motive:=fun _=>Option SharedT)
   (Bool.rec (motive:=fun _=>Option SharedT) none (Option.rec (motive:=fun _=>Option SharedT) none (fun r=>Prod.rec (motive:=fun _=>Option SharedT) (fun s' t'=>ih s' t') r) (st s t)) (ok t))
   (some s) (through t)) n
theorem qV {tb:String->Option Builtin} {p:Program} {w:World} {m:Nat} {ann:Lh}:∀{n:Nat} {s s':SharedT} {t:Thread},pQ (stepOk m ann) (stepT (denote tb) p w) n s t=some s'->topRun tb p w m ann n s.abs t=some s'.abs
 |0,_,_,_,h=>by cases h
 |n+1,s,s',t,h=>by
  unfold topRun;have h':Bool.rec (motive:=fun _=>Option SharedT)
   (Bool.rec (motive:=fun _=>Option SharedT) none (Option.rec (motive:=fun _=>Option SharedT) none (fun r=>Prod.rec (motive:=fun _=>Option SharedT) (fun s' t'=>pQ (stepOk m ann) (stepT (denote tb) p w) n s' t') r) (stepT (denote tb) p w s t)) (stepOk m ann t))
   (some s) (through t)=some s':=h
  cases ht:through t with
  |true=>rw[ht] at h';cases h';rfl
  |false=>
   rw[ht] at h';cases hk:stepOk m ann t with
   |false=>rw[hk] at h';cases h'
   |true=>
    rw[hk] at h';cases hs:stepT (denote tb) p w s t with
    |none=>rw[hs] at h';cases h'
    |some r=>
     obtain ⟨s₂,t₂⟩:=r;rw[hs] at h';dsimp only;rw[stepT_spec hs];exact qV h'
noncomputable def grow (l:List Obj):Nat->BT->Option BT:=
 List.rec (motive:=fun _=>Nat->BT->Option BT) (fun _ t=>some t) (fun o _ ih n t=>
  Bool.rec (motive:=fun _=>Option BT) none (ih (n+1) (t.ins n o)) ((t.ins n o).get n).isSome) l
theorem qW {life:Life}:∀{l:List Obj} {n:Nat} {t t':BT},grow l n t=some t'->absHeap t' (n+l.length) life=⟨(absHeap t n life).objs++l.toArray,life⟩
 | [],n,t,t',h=>by
  cases h;simp[absHeap]
 |o::l,n,t,t',h=>by
  have h':Bool.rec (motive:=fun _=>Option BT) none (grow l (n+1) (t.ins n o)) ((t.ins n o).get n).isSome=some t':=h
  cases e:((t.ins n o).get n).isSome with
  |false=>rw[e] at h';cases h'
  |true=>
   rw[e] at h';have z:=qW (life:=life) h';rw[absHeap_ins e] at z;rw[show n+(o::l).length=n+1+l.length by rw[G6];lia,z]
   simp[Heap.push]
noncomputable def treeOf (s:Shared):Option SharedT:=
 Option.rec (motive:=fun _=>Option SharedT) none (fun t=>some ⟨t,s.heap.objs.size,s.heap.life,s.gens,s.drawn,s.toks,s.os⟩) (grow s.heap.objs.toList 0 .nil)
theorem pR {s:Shared} {s':SharedT} (h:treeOf s=some s'):s'.abs=s:=by
 have h':Option.rec (motive:=fun _=>Option SharedT) none (fun t=>some ⟨t,s.heap.objs.size,s.heap.life,s.gens,s.drawn,s.toks,s.os⟩) (grow s.heap.objs.toList 0 .nil)=some s':=h
 cases e:grow s.heap.objs.toList 0 .nil with
 |none=>rw[e] at h';cases h'
 |some t=>
  rw[e] at h';cases h';have z:=qW (life:=s.heap.life) e;obtain ⟨⟨objs,life⟩,gens,drawn,toks,os⟩:=s;simp only[SharedT.abs];have z':absHeap t objs.size life=⟨objs,life⟩:=by
   simpa [absHeap,BT.list] using z
  rw[z']
noncomputable def uC (ok:Nat->Lh->Thread->Bool) (st:SharedT->Thread->Option (SharedT×Thread)) (p:Program) (N:Nat) (s₀:Shared):Option Shared:=
 Bool.rec (motive:=fun _=>Option Shared) none
  ((treeOf s₀).bind fun t₀=>(pQ (ok s₀.heap.objs.size (s₀.heap.nsMap mainGlobals "__annotations__")) st N t₀ (topStub p)).bind fun t₁=>
   (fun s₁=>Bool.rec (motive:=fun _=>Option Shared) none (some s₁) (staticsOk (importedModules p.main.body) s₀.heap s₁.heap&&namesBound p s₁.heap&&gensDone s₁&&laidKept s₀.heap s₁.heap)) t₁.abs)
  (s₀.heap.isNs mainGlobals&&s₀.gens.size==0)
theorem uD {tb:String->Option Builtin} {p:Program} {w:World} {N:Nat} {s₀ s:Shared} (h:uC stepOk (stepT (denote tb) p w) p N s₀=some s):topFrom tb p w N s₀=some s:=by
 unfold uC at h;unfold topFrom;cases e:s₀.heap.isNs mainGlobals&&s₀.gens.size==0 with
 |false=>rw[e] at h;cases h
 |true=>
  rw[e] at h;obtain ⟨t₀,e0,h⟩:=GY.mp h;obtain ⟨t₁,e1,h⟩:=GY.mp h;have r:=qV e1;rw[pR e0] at r;dsimp only;rw[r];dsimp only at h;show (match staticsOk (importedModules p.main.body) s₀.heap t₁.abs.heap&&namesBound p t₁.abs.heap&&gensDone t₁.abs&&laidKept s₀.heap t₁.abs.heap with|true=>some t₁.abs|false=>none)=some s
  cases q:staticsOk (importedModules p.main.body) s₀.heap t₁.abs.heap&&namesBound p t₁.abs.heap&&gensDone t₁.abs&&laidKept s₀.heap t₁.abs.heap with
  |false=>rw[q] at h;cases h
  |true=>rw[q] at h;exact h
noncomputable def kg (ok:Nat->Lh->Thread->Bool) (st:SharedT->Thread->Option (SharedT×Thread)) (p:Program) (N:Nat) (s₀:Shared):Option Shared:=
 (treeOf s₀).bind fun t₀=>(pQ (ok s₀.heap.objs.size (s₀.heap.nsMap mainGlobals "__annotations__")) st N t₀ (topStub p)).map fun t₁=>t₁.abs
noncomputable def sT (p:Program) (s₀ s₁:Shared):Bool:=(s₀.heap.isNs mainGlobals&&s₀.gens.size==0)&&(staticsOk (importedModules p.main.body) s₀.heap s₁.heap&&namesBound p s₁.heap&&gensDone s₁&&laidKept s₀.heap s₁.heap)
theorem uE {tb:String->Option Builtin} {p:Program} {w:World} {N:Nat} {s₀ s:Shared} (h:kg stepOk (stepT (denote tb) p w) p N s₀=some s) (c:sT p s₀ s=true):topFrom tb p w N s₀=some s:=by
 apply uD;unfold kg at h;obtain ⟨t₀,e0,h⟩:=GY.mp h;obtain ⟨t₁,e1,rfl⟩:=GS.mp h;unfold sT at c;rw[Bool.and_eq_true] at c;unfold uC;rw[c.1];show ((treeOf s₀).bind fun t₀=>_)=_
 rw[e0];show ((pQ _ _ N t₀ (topStub p)).bind fun t₁=>_)=_
 rw[e1];show (Bool.rec (motive:=fun _=>Option Shared) none (some t₁.abs) (staticsOk (importedModules p.main.body) s₀.heap t₁.abs.heap&&namesBound p t₁.abs.heap&&gensDone t₁.abs&&laidKept s₀.heap t₁.abs.heap):Option Shared)=_
 rw[c.2]
abbrev Look (p:Program) (N:Nat) {α:Type} (f:Shared->Shared->α) (v:World->α):Prop:=∀w:World,((importEnds treeTable (opening p) w N (start (opening p)).1 (start (opening p)).2).bind fun s=>(fenceModules? p s).bind fun s₀=>(kg stepOk (stepT (denote treeTable) p w) p N s₀).map fun s₁=>f s₀ s₁)=some (v w)
theorem Look.at_ {p:Program} {N:Nat} {α:Type} {f:Shared->Shared->α} {v:World->α} (h:Look p N f v) (w:World) {s s₀ s₁:Shared} (a:importEnds treeTable (opening p) w N (start (opening p)).1 (start (opening p)).2=some s) (b:fenceModules? p s=some s₀) (c:kg stepOk (stepT (denote treeTable) p w) p N s₀=some s₁):f s₀ s₁=v w:=by
 have:=h w;rw[a] at this;replace this:((fenceModules? p s).bind fun s₀=>(kg stepOk (stepT (denote treeTable) p w) p N s₀).map fun s₁=>f s₀ s₁)=some (v w):=this
 rw[b] at this;replace this:((kg stepOk (stepT (denote treeTable) p w) p N s₀).map fun s₁=>f s₀ s₁)=some (v w):=this
 rw[c] at this;injection this
theorem uF {p q:Program} {loose:Ld} {Xt:Shared->Bool} {α:Type} {Yf:Shared->α} {Ya:World->α} {N:Nat} {g0:Bool} (hc:Look p N (fun s₀ s₁=>sT p s₀ s₁) fun _=>true)
  (h1:Look p N (fun _ s=>openSeen q loose (importedModules p.main.body) Xt g0 s) fun _=>openGood q loose) (h2:Look p N (fun _ s=>Yf s) Ya):LeftO p q loose Xt Yf Ya N g0:=fun w=>by
 obtain ⟨s,a,e⟩:=GY.mp (hc w);obtain ⟨s₀,b,e⟩:=GY.mp e;obtain ⟨s₁,c,e⟩:=GS.mp e;have z:openEnds treeTable p w N=some s₁:=by
  unfold openEnds fencedOpening;rw[a];show (fenceModules? p s).bind _=_;rw[b];exact uE c e
 rw[z];show some (_,_)=some (_,_);rw[h1.at_ w a b c,h2.at_ w a b c]
def bW (p:Program) (N:Nat) {α:Type} (f:Shared->Shared->α) (v:World->α) (w:World):Prop:=((importEnds treeTable (opening p) w N (start (opening p)).1 (start (opening p)).2).bind fun s=>(fenceModules? p s).bind fun s₀=>(kg stepOk (stepT (denote treeTable) p w) p N s₀).map fun s₁=>f s₀ s₁)=some (v w)
noncomputable def qX (t:SharedT) (a:Addr):Option Obj:=Bool.rec (motive:=fun _=>Option Obj) none ((fun o=>Bool.rec (motive:=fun _=>Option Obj) (some o) none (Obj.isFreed o)) ((t.tree.get a).getD default)) (Nat.blt a t.n)
theorem sU (t:SharedT) (a:Addr):qX t a=t.abs.heap.get? a:=by
 unfold qX SharedT.abs Heap.get?;dsimp only;rw[absHeap_at];cases h:Nat.blt a t.n with
 |false=>
  rw[if_neg fun z=>by rw[Nat.blt_eq.mpr z] at h;cases h]
 |true=>
  rw[if_pos (Nat.blt_eq.mp h)];obtain ⟨cls,dict,data,slots⟩:=(t.tree.get a).getD default;cases data<;>rfl
theorem sV {p:Program} {N:Nat} {as:Le} {v:World->List (Option Obj)}
  (h:∀w:World,((importEnds treeTable (opening p) w N (start (opening p)).1 (start (opening p)).2).bind fun s=>(fenceModules? p s).bind fun s₀=>(treeOf s₀).bind fun t₀=>(pQ (stepOk s₀.heap.objs.size (s₀.heap.nsMap mainGlobals "__annotations__")) (stepT (denote treeTable) p w) N t₀ (topStub p)).map fun t₁=>as.map (qX t₁))=some (v w)):
  Look p N (fun _ s=>as.map s.heap.get?) v:=fun w=>by
 obtain ⟨s,a,e⟩:=GY.mp (h w);obtain ⟨s₀,b,e⟩:=GY.mp e;obtain ⟨t₀,c,e⟩:=GY.mp e;obtain ⟨t₁,d,e⟩:=GS.mp e;rw[a];show (fenceModules? p s).bind _=_;rw[b];show (kg stepOk (stepT (denote treeTable) p w) p N s₀).map _=_;unfold kg;rw[c];show ((pQ _ _ N t₀ (topStub p)).map fun t₁=>t₁.abs).map _=_
 rw[d];show some (as.map t₁.abs.heap.get?)=_;rw[<-e,show (as.map (qX t₁))=as.map t₁.abs.heap.get? from HW fun a _=>sU t₁ a]
theorem zi {p:Program} {N:Nat} {α β γ δ ε ζ η:Type} {f:Shared->Shared->α×β×γ×δ×ε×ζ×η} {v:World->α×β×γ×δ×ε×ζ×η} (h1:Look p N (fun a b=>(f a b).1) fun w=>(v w).1) (h2:Look p N (fun a b=>(f a b).2.2.1) fun w=>(v w).2.2.1)
  (h3:Look p N (fun a b=>(f a b).2.2.2.1) fun w=>(v w).2.2.2.1) (h4:Look p N (fun a b=>(f a b).2.2.2.2.2.1) fun w=>(v w).2.2.2.2.2.1) (h5:Look p N (fun a b=>((f a b).2.1,(f a b).2.2.2.2.1,(f a b).2.2.2.2.2.2)) fun w=>((v w).2.1,(v w).2.2.2.2.1,(v w).2.2.2.2.2.2)):Look p N f v:=fun w=>by
 obtain ⟨s,a,e⟩:=GY.mp (h1 w);obtain ⟨s₀,b,e⟩:=GY.mp e;obtain ⟨s₁,c,e⟩:=GS.mp e;have e1:=h1.at_ w a b c;have e2:=h2.at_ w a b c;have e3:=h3.at_ w a b c;have e4:=h4.at_ w a b c;have e5:=h5.at_ w a b c;rw[a];show (fenceModules? p s).bind _=_;rw[b];show (kg stepOk (stepT (denote treeTable) p w) p N s₀).map _=_;rw[c];obtain ⟨f1,f2⟩:=Prod.mk.inj e5;obtain ⟨f2,f3⟩:=Prod.mk.inj f2;have f4:f s₀ s₁=v w:=Prod.ext e1 (Prod.ext f1 (Prod.ext e2 (Prod.ext e3 (Prod.ext f2 (Prod.ext e4 f3)))));exact congrArg some f4
end Ht
set_option Elab.async false
set_option linter.all false
set_option maxRecDepth 100000
namespace Lk41
open PySem PySem.W PyProof.Rows
noncomputable def qv:Program:={PySem.Challenge.pw_stovework_k41_tasks with main:={PySem.Challenge.pw_stovework_k41_tasks.main with body:=([1,2,3,4,5,6,7,8,9,10,11,12,13,14,15,16,17,19,20,23,24,25,26,27,29,30,33,34,35,37,38,39,40,42,43,44,46,47,49,50,51,52,54,55,56,57,58,60,62,63,64,65,66,67,68,69,70,71,72,73,74,75,76,77,78,79,80,81,82,83,85,86,87,88,89,90,91,92,93,94,95,96,97,98,99,100,101,102,103,104,105]:List Nat).filterMap fun i=>PySem.Challenge.pw_stovework_k41_tasks.main.body[i]?}}
noncomputable def lo:Ld:= ["fraction","tasks_of","BOUNDS","Warm","FORMS"]
theorem head {α:Type} {Yf:Shared->α} {Ya:World->α} {YP:World->Heap->Prop} {d:DefRec} {kwd:List (Str×Expr)} (left:LeftO PySem.Challenge.pw_stovework_k41_tasks qv lo (fun s=>xlAt qv [] s&&recOk [] s) Yf Ya 15502)
  (hY:∀w s,Yf s=Ya w->YP w s.heap) (hYk:∀w h h',YP w h->(∀b o,h.get? b=some o->h'.get? b=some o)->YP w h') (hd:defOf qv PySem.Challenge.rw_stovework_k41_tasks.row.name=some (d,kwd))
  (hp:PySem.Challenge.rw_stovework_k41_tasks.row.prog.theDef PySem.Challenge.rw_stovework_k41_tasks.row.name=some (d.params,d.body,d.scope)) (hk:kwWritten? d.params.kwonlyargs d.params.kw_defaults=some kwd)
  (said:PySem.Challenge.rw_stovework_k41_tasks.row.wellSaid=true) (hw:PySem.Challenge.rw_stovework_k41_tasks.row.toRowW.promised) (call:WalkO qv lo (XL qv []) YP PySem.Challenge.rw_stovework_k41_tasks.row.toRowW d kwd fun f vs=>PySem.call f vs):PySem.Challenge.rw_stovework_k41_tasks.row.Holds:=
 holds_open left hY hYk (fun s e=>xl_of s (Bool.and_eq_true_iff.mp e).1) XL.keeps hd hp hk (fun s e=>recFacts_of (Bool.and_eq_true_iff.mp e).2) rfl said (by decide+kernel) ⟨rfl,rfl,rfl,rfl,rfl,by decide+kernel⟩ hw call
set_option maxHeartbeats 0 in
theorem Fm:∀w:World,Ht.bW PySem.Challenge.pw_stovework_k41_tasks 15502 (fun s₀ s₁=>Ht.sT PySem.Challenge.pw_stovework_k41_tasks s₀ s₁) (fun _=>true) (w.withFollow "special-get-raises" false):=by
 intro w;unfold Ht.bW;rw[GB,G9,GH,GC,GA,G8]
 kernel_rfl
set_option maxHeartbeats 0 in
theorem Fn:∀w:World,Ht.bW PySem.Challenge.pw_stovework_k41_tasks 15502 (fun s₀ s₁=>Ht.sT PySem.Challenge.pw_stovework_k41_tasks s₀ s₁) (fun _=>true) (w.withFollow "special-get-raises" true):=by
 intro w;unfold Ht.bW;rw[GB,G9,GH,GC,GA,G8]
 kernel_rfl
theorem la:Ht.Look PySem.Challenge.pw_stovework_k41_tasks 15502 (fun s₀ s₁=>Ht.sT PySem.Challenge.pw_stovework_k41_tasks s₀ s₁) (fun _=>true):=Hh "special-get-raises" Fm Fn
set_option maxHeartbeats 0 in
theorem DW:∀w:World,Ht.bW PySem.Challenge.pw_stovework_k41_tasks 15502 (fun _ s=>(openSeen qv lo (importedModules PySem.Challenge.pw_stovework_k41_tasks.main.body) (fun s=>xlAt qv [] s&&recOk [] s) true s).1) (fun _=>(openGood qv lo).1) (w.withFollow "special-get-raises" false):=by
 intro w;unfold Ht.bW;dsimp only[openSeen,openGood];rw[GB,G9,GH,GC,GA,G8]
 kernel_rfl
set_option maxHeartbeats 0 in
theorem DX:∀w:World,Ht.bW PySem.Challenge.pw_stovework_k41_tasks 15502 (fun _ s=>(openSeen qv lo (importedModules PySem.Challenge.pw_stovework_k41_tasks.main.body) (fun s=>xlAt qv [] s&&recOk [] s) true s).1) (fun _=>(openGood qv lo).1) (w.withFollow "special-get-raises" true):=by
 intro w;unfold Ht.bW;dsimp only[openSeen,openGood];rw[GB,G9,GH,GC,GA,G8]
 kernel_rfl
theorem Fo:Ht.Look PySem.Challenge.pw_stovework_k41_tasks 15502 (fun _ s=>(openSeen qv lo (importedModules PySem.Challenge.pw_stovework_k41_tasks.main.body) (fun s=>xlAt qv [] s&&recOk [] s) true s).1) (fun _=>(openGood qv lo).1):=Hh "special-get-raises" DW DX
set_option maxHeartbeats 0 in
theorem DY:∀w:World,Ht.bW PySem.Challenge.pw_stovework_k41_tasks 15502 (fun _ s=>(openSeen qv lo (importedModules PySem.Challenge.pw_stovework_k41_tasks.main.body) (fun s=>xlAt qv [] s&&recOk [] s) true s).2.2.1) (fun _=>(openGood qv lo).2.2.1) (w.withFollow "special-get-raises" false):=by
 intro w;unfold Ht.bW;dsimp only[openSeen,openGood];rw[GB,G9,GH,GC,GA,G8]
 kernel_rfl
set_option maxHeartbeats 0 in
theorem DZ:∀w:World,Ht.bW PySem.Challenge.pw_stovework_k41_tasks 15502 (fun _ s=>(openSeen qv lo (importedModules PySem.Challenge.pw_stovework_k41_tasks.main.body) (fun s=>xlAt qv [] s&&recOk [] s) true s).2.2.1) (fun _=>(openGood qv lo).2.2.1) (w.withFollow "special-get-raises" true):=by
 intro w;unfold Ht.bW;dsimp only[openSeen,openGood];rw[GB,G9,GH,GC,GA,G8]
 kernel_rfl
theorem sW:Ht.Look PySem.Challenge.pw_stovework_k41_tasks 15502 (fun _ s=>(openSeen qv lo (importedModules PySem.Challenge.pw_stovework_k41_tasks.main.body) (fun s=>xlAt qv [] s&&recOk [] s) true s).2.2.1) (fun _=>(openGood qv lo).2.2.1):=Hh "special-get-raises" DY DZ
set_option maxHeartbeats 0 in
theorem D3:∀w:World,Ht.bW PySem.Challenge.pw_stovework_k41_tasks 15502 (fun _ s=>(openSeen qv lo (importedModules PySem.Challenge.pw_stovework_k41_tasks.main.body) (fun s=>xlAt qv [] s&&recOk [] s) true s).2.2.2.1) (fun _=>(openGood qv lo).2.2.2.1) (w.withFollow "special-get-raises" false):=by
 intro w;unfold Ht.bW;dsimp only[openSeen,openGood];rw[GB,G9,GH,GC,GA,G8]
 kernel_rfl
set_option maxHeartbeats 0 in
theorem D4:∀w:World,Ht.bW PySem.Challenge.pw_stovework_k41_tasks 15502 (fun _ s=>(openSeen qv lo (importedModules PySem.Challenge.pw_stovework_k41_tasks.main.body) (fun s=>xlAt qv [] s&&recOk [] s) true s).2.2.2.1) (fun _=>(openGood qv lo).2.2.2.1) (w.withFollow "special-get-raises" true):=by
 intro w;unfold Ht.bW;dsimp only[openSeen,openGood];rw[GB,G9,GH,GC,GA,G8]
 kernel_rfl
theorem Fp:Ht.Look PySem.Challenge.pw_stovework_k41_tasks 15502 (fun _ s=>(openSeen qv lo (importedModules PySem.Challenge.pw_stovework_k41_tasks.main.body) (fun s=>xlAt qv [] s&&recOk [] s) true s).2.2.2.1) (fun _=>(openGood qv lo).2.2.2.1):=Hh "special-get-raises" D3 D4
set_option maxHeartbeats 0 in
theorem D5:∀w:World,Ht.bW PySem.Challenge.pw_stovework_k41_tasks 15502 (fun _ s=>(openSeen qv lo (importedModules PySem.Challenge.pw_stovework_k41_tasks.main.body) (fun s=>xlAt qv [] s&&recOk [] s) true s).2.2.2.2.2.1) (fun _=>(openGood qv lo).2.2.2.2.2.1) (w.withFollow "special-get-raises" false):=by
 intro w;unfold Ht.bW;dsimp only[openSeen,openGood];rw[GB,G9,GH,GC,GA,G8]
 kernel_rfl
set_option maxHeartbeats 0 in
theorem D6:∀w:World,Ht.bW PySem.Challenge.pw_stovework_k41_tasks 15502 (fun _ s=>(openSeen qv lo (importedModules PySem.Challenge.pw_stovework_k41_tasks.main.body) (fun s=>xlAt qv [] s&&recOk [] s) true s).2.2.2.2.2.1) (fun _=>(openGood qv lo).2.2.2.2.2.1) (w.withFollow "special-get-raises" true):=by
 intro w;unfold Ht.bW;dsimp only[openSeen,openGood];rw[GB,G9,GH,GC,GA,G8]
 kernel_rfl
theorem Fq:Ht.Look PySem.Challenge.pw_stovework_k41_tasks 15502 (fun _ s=>(openSeen qv lo (importedModules PySem.Challenge.pw_stovework_k41_tasks.main.body) (fun s=>xlAt qv [] s&&recOk [] s) true s).2.2.2.2.2.1) (fun _=>(openGood qv lo).2.2.2.2.2.1):=Hh "special-get-raises" D5 D6
set_option maxHeartbeats 0 in
theorem D7:∀w:World,Ht.bW PySem.Challenge.pw_stovework_k41_tasks 15502 (fun _ s=>((openSeen qv lo (importedModules PySem.Challenge.pw_stovework_k41_tasks.main.body) (fun s=>xlAt qv [] s&&recOk [] s) true s).2.1,(openSeen qv lo (importedModules PySem.Challenge.pw_stovework_k41_tasks.main.body) (fun s=>xlAt qv [] s&&recOk [] s) true s).2.2.2.2.1,(openSeen qv lo (importedModules PySem.Challenge.pw_stovework_k41_tasks.main.body) (fun s=>xlAt qv [] s&&recOk [] s) true s).2.2.2.2.2.2)) (fun _=>((openGood qv lo).2.1,(openGood qv lo).2.2.2.2.1,(openGood qv lo).2.2.2.2.2.2)) (w.withFollow "special-get-raises" false):=by
 intro w;unfold Ht.bW;dsimp only[openSeen,openGood];rw[GB,G9,GH,GC,GA,G8]
 kernel_rfl
set_option maxHeartbeats 0 in
theorem D8:∀w:World,Ht.bW PySem.Challenge.pw_stovework_k41_tasks 15502 (fun _ s=>((openSeen qv lo (importedModules PySem.Challenge.pw_stovework_k41_tasks.main.body) (fun s=>xlAt qv [] s&&recOk [] s) true s).2.1,(openSeen qv lo (importedModules PySem.Challenge.pw_stovework_k41_tasks.main.body) (fun s=>xlAt qv [] s&&recOk [] s) true s).2.2.2.2.1,(openSeen qv lo (importedModules PySem.Challenge.pw_stovework_k41_tasks.main.body) (fun s=>xlAt qv [] s&&recOk [] s) true s).2.2.2.2.2.2)) (fun _=>((openGood qv lo).2.1,(openGood qv lo).2.2.2.2.1,(openGood qv lo).2.2.2.2.2.2)) (w.withFollow "special-get-raises" true):=by
 intro w;unfold Ht.bW;dsimp only[openSeen,openGood];rw[GB,G9,GH,GC,GA,G8]
 kernel_rfl
theorem Fs:Ht.Look PySem.Challenge.pw_stovework_k41_tasks 15502 (fun _ s=>((openSeen qv lo (importedModules PySem.Challenge.pw_stovework_k41_tasks.main.body) (fun s=>xlAt qv [] s&&recOk [] s) true s).2.1,(openSeen qv lo (importedModules PySem.Challenge.pw_stovework_k41_tasks.main.body) (fun s=>xlAt qv [] s&&recOk [] s) true s).2.2.2.2.1,(openSeen qv lo (importedModules PySem.Challenge.pw_stovework_k41_tasks.main.body) (fun s=>xlAt qv [] s&&recOk [] s) true s).2.2.2.2.2.2)) (fun _=>((openGood qv lo).2.1,(openGood qv lo).2.2.2.2.1,(openGood qv lo).2.2.2.2.2.2)):=Hh "special-get-raises" D7 D8
theorem lb:Ht.Look PySem.Challenge.pw_stovework_k41_tasks 15502 (fun _ s=>(openSeen qv lo (importedModules PySem.Challenge.pw_stovework_k41_tasks.main.body) (fun s=>xlAt qv [] s&&recOk [] s) true s)) (fun _=>(openGood qv lo)):=Ht.zi Fo sW Fp Fq Fs
end Lk41
local macro_rules| `(tactic|o_head $H)=> `(tactic|(refine Lk41.head (Yf:=PySem.W.Hook.obs $H) (Ya:=PySem.W.Hook.val $H) (YP:=PySem.W.Hook.says $H) ?hl (PySem.W.Hook.of $H) (PySem.W.Hook.keeps $H) (by rfl) (by rfl) (by rfl) (by assumption) ?hw ?hc;(case hl=>(refine Ht.uF Lk41.la Lk41.lb ?c;(case c=>(refine Ht.sV ?c2;(case c2=>(refine Hh "special-get-raises" (fun w=>?_) (fun w=>?_)<;>(rw[GB,G9,GH,GC,GA,G8];kernel_rfl)))))))))
namespace PySem.W.Fast
noncomputable def tw18207283388430573612:PySem.Program:=PySem.Challenge.pw_stovework_k41_tasks
theorem te18207283388430573612:PySem.Challenge.pw_stovework_k41_tasks=tw18207283388430573612:=rfl
end PySem.W.Fast
set_option maxHeartbeats 0 in
open_top Lk41.hd for PySem.Challenge.rw_stovework_k41_tasks
namespace L2
open PySem PySem.Spec PyProof.Rows
abbrev Key:=Sum Int Str
noncomputable def kB:Key->Value->Bool
 | .inl k,v=>Value.isInt k v
 | .inr x,v=>Value.isStrOf x v
noncomputable def D9 (w:World):Key->Int
 | .inl k=>hashInt k
 | .inr x=>hashStr w x
theorem b7:∀{k:Key} {v:Value},kB k v=true->(∃i t,k=Sum.inl i/\v=Value.int i t)∨(∃x t,k=Sum.inr x/\v=Value.str x t)
 | .inl i,v,h=>by
  obtain ⟨t,e⟩:=Value.isInt_shape (k:=i) (v:=v) h;exact .inl ⟨i,t,rfl,e⟩
 | .inr x,v,h=>by
  obtain ⟨t,e⟩:=Value.isStrOf_shape (x:=x) (v:=v) h;exact .inr ⟨x,t,rfl,e⟩
theorem sY (i:Int) (t:Tok):kB (.inl i) (.int i t)=true:=by simp[kB,Value.isInt]
theorem sZ (x:Str) (t:Tok):kB (.inr x) (.str x t)=true:=by simp[kB,Value.isStrOf]
theorem zj (a b:Int):decide ((Sum.inl a:Key)=Sum.inl b)=(a==b):=by
 by_cases e:a=b
 ·subst e;simp
 ·have h:¬(Sum.inl a:Key)=Sum.inl b:=fun q=>e (Sum.inl.inj q)
  rw[decide_eq_false h];exact (beq_eq_false_iff_ne.mpr e).symm
theorem zk (a b:Str):decide ((Sum.inr a:Key)=Sum.inr b)=decide (a=b):=by
 by_cases e:a=b
 ·subst e;simp
 ·have h:¬(Sum.inr a:Key)=Sum.inr b:=fun q=>e (Sum.inr.inj q)
  rw[decide_eq_false h,decide_eq_false e]
theorem zo (a:Int) (b:Str):decide ((Sum.inl a:Key)=Sum.inr b)=false:=decide_eq_false (fun q=>nomatch q)
theorem zp (a:Str) (b:Int):decide ((Sum.inr a:Key)=Sum.inl b)=false:=decide_eq_false (fun q=>nomatch q)
noncomputable def dQ (prog:Program) (w:World):PySem.KeyKind prog w Key where
 is:=kB
 hash:=D9 w
 inj:=fun v a b ha hb=>by
  rcases b7 ha with ⟨i,t,rfl,rfl⟩|⟨x,t,rfl,rfl⟩
  ·rcases b7 hb with ⟨j,u,rfl,e⟩|⟨y,u,rfl,e⟩
   ·injection e with e1 _;rw[e1]
   ·exact nomatch e
  ·rcases b7 hb with ⟨j,u,rfl,e⟩|⟨y,u,rfl,e⟩
   ·exact nomatch e
   ·injection e with e1 _;rw[e1]
 byValue:=fun k v h=>by
  rcases b7 h with ⟨i,t,rfl,rfl⟩|⟨x,t,rfl,rfl⟩<;>rfl
 pyHash:=fun hv h=>by
  rcases b7 hv with ⟨i,t,rfl,rfl⟩|⟨x,t,rfl,rfl⟩
  ·exact wpAny_pyHash_int h
  ·exact wpAny_pyHash_str h
 eqBool:=fun hu hv h=>by
  rcases b7 hu with ⟨i,t,rfl,rfl⟩|⟨x,t,rfl,rfl⟩
  ·rcases b7 hv with ⟨j,u,rfl,rfl⟩|⟨y,u,rfl,rfl⟩
   ·rw[zj] at h;exact wpAny_eqBool_int h
   ·rw[zo] at h;exact SeqAt.EqAt.int_str i t y u _ _ _ _ h
  ·rcases b7 hv with ⟨j,u,rfl,rfl⟩|⟨y,u,rfl,rfl⟩
   ·rw[zp] at h;exact SeqAt.EqAt.str_int x t j u _ _ _ _ h
   ·rw[zk] at h;exact wpAny_eqBool_str h
 «strs» :=fun k x t v h=>by
  rcases b7 h with ⟨i,u,rfl,e⟩|⟨y,u,rfl,e⟩
  ·exact nomatch e
  ·injection e with e1 _
   subst e1;cases v<;>rfl
theorem nB (prog:Program) (w:World) (i:Int) (t:Tok):(dQ prog w).is (.inl i) (.int i t)=true:=sY i t
theorem nC (prog:Program) (w:World) (x:Str) (t:Tok):(dQ prog w).is (.inr x) (.str x t)=true:=sZ x t
inductive V where
 |non|bl (b:Bool)|int (i:Int)|str (x:Str)|byt (b:Array UInt8)|flt (b:UInt64)|ref (a:Addr)|ty (n:String)
 deriving DecidableEq
def RelV:V->Value->Prop
 | .non,u=>u=Value.none
 | .bl b,u=>u=Value.bool b
 | .int i,u=>∃t,u=Value.int i t
 | .str x,u=>∃t,u=Value.str x t
 | .byt b,u=>∃t,u=Value.bytes b t
 | .flt b,u=>∃t,u=Value.float b t
 | .ref a,u=>u=Value.ref a
 | .ty n,u=>u=Value.type n
abbrev aX:List V->Lf->Prop:=Paired RelV
theorem aX.length {xs:List V} {us:Lf} (r:aX xs us):xs.length=us.length:=Paired.length r
theorem aX.get:∀{xs:List V} {us:Lf} {i:Nat} {x:V},aX xs us->xs[i]?=some x->∃u,us[i]?=some u/\RelV x u
 |_,_,_,_,.nil,e=>by simp at e
 |_,_,0,_,.cons r _,e=>by simp at e;subst e;exact ⟨_,rfl,r⟩
 |_,_,i+1,x,.cons _ t,e=>by
  obtain ⟨u,h1,h2⟩:=aX.get (i:=i) (x:=x) t (by simpa using e)
  exact ⟨u,by simpa using h1,h2⟩
theorem aX.set {x:V} {u:Value} (r:RelV x u):∀{xs:List V} {us:Lf} (i:Nat),aX xs us->aX (xs.set i x) (us.set i u)
 |_,_,_,.nil=> .nil
 |_,_,0,.cons _ t=> .cons r t
 |_,_,i+1,.cons q t=> .cons q (aX.set r i t)
theorem aX.append:∀{xs ys:List V} {us ws:Lf},aX xs us->aX ys ws->aX (xs++ys) (us++ws)
 |_,_,_,_,.nil,s=>s
 |_,_,_,_,.cons r t,s=> .cons r (aX.append t s)
theorem aX.take:∀{xs:List V} {us:Lf} (n:Nat),aX xs us->aX (xs.take n) (us.take n)
 |_,_,0,_=> .nil
 |_,_,_+1,.nil=> .nil
 |_,_,n+1,.cons r t=> .cons r (aX.take n t)
theorem aX.drop:∀{xs:List V} {us:Lf} (n:Nat),aX xs us->aX (xs.drop n) (us.drop n)
 |_,_,0,r=>r
 |_,_,_+1,.nil=> .nil
 |_,_,n+1,.cons _ t=>aX.drop n t
def kh:Option V->Lh->Prop
 |some v,some u=>RelV v u
 |none,none=>True
 |_,_=>False
def KV {κ:Type}:List (κ×V)->List (κ×Value)->Prop:=Paired fun (p:κ×V) (q:κ×Value)=>p.1=q.1/\RelV p.2 q.2
noncomputable def kV:Key->V
 | .inl i=> .int i
 | .inr x=> .str x
inductive HO where
  |lst (xs:List V)
  |tup (xs:List V)
  |dK (kvs:List (Key×V))|dT (kvs:List (List Key×V))
  |set (S:Int->Bool) (n:Nat)
  |ins (C dx:Addr) (fs:List (Str×V))
  |own (x:Addr)
  |xd (fs:List (Str×V))
  |met (f x:Addr)
  |rng (lo hi:Int)
  |frz (o:Obj) (u:HO)
  |tbl (ps:Array Value)
  |ext (φ:Heap->Prop)
abbrev Hp:=Addr->Option HO
noncomputable def aL (H:Hp) (a:Addr) (o:HO):Hp:=fun b=>if b=a then some o else H b
theorem ah {H:Hp} {a:Addr} {o:HO}:aL H a o a=some o:=by unfold aL;rw[if_pos rfl]
theorem av {H:Hp} {a b:Addr} {o:HO} (h:b≠a):aL H a o b=H b:=by unfold aL;rw[if_neg h]
theorem aP {H:Hp} {a b:Addr} {o:HO} (h:H a=some o) (h':H b=none):a≠b:=by
 intro e;subst e;rw[h] at h';cases h'
section
variable (P:Program) (w:World)
def cq (H:Hp) (h:Heap) (a:Addr):HO->Prop
 | .lst xs=>xs.length<=sizeLine/\∃(its:Lf) (n:Nat),aX xs its/\h.get? a=some {cls:= .type "list",data:= .seq its.toArray n}
 | .tup xs=>xs.length<=sizeLine/\∃its:Lf,aX xs its/\IsTup h a its.toArray
 | .dK kvs=>kvs.length<=sizeLine/\(a==sysModules)=false/\∃vs,KV kvs vs/\h.DictOf (dQ P w) a vs
 | .dT kvs=>kvs.length<=sizeLine/\(a==sysModules)=false/\∃xs:List (List Key×Addr×Value),
   Paired (fun (p:List Key×V) (q:List Key×Addr×Value)=>p.1=q.1/\H q.2.1=some (.tup (p.1.map kV))/\RelV p.2 q.2.2) kvs xs/\
   ∃o es ep,h.get? a=some o/\o.ExactDict/\o.data= .dict es ep/\es.toList=xs.map (entryOfKey (tupleKind (dQ P w)))/\(xs.map (·.1)).Nodup
 | .set S n=>h.SetOf (intKind P w) a S n
 | .ins C dx fs=>H dx=some (.own a)/\fs.length<=1000/\dx≠a/\h.get? a=some (HJ C dx)/\
   ∃mA,h.Ns1 dx mA/\(∀f,kh (fs.lookup f) (mA f))/\PySem.Within mA (fs.map (·.1))
 | .own _=>∃o,h.get? a=some o
 | .xd fs=>∃mA,h.Ns1 a mA/\∀f,kh (fs.lookup f) (mA f)
 | .rng lo hi=>∃t u v,h.get? a=some {cls:= .type "range",data:= .fields #[.int lo t,.int hi u,.int 1 v]}
 | .frz o u=>h.get? a=some o/\cq H h a u
 | .tbl ps=>h.get? a=some {cls:= .none,data:= .fields ps}
 | .met f x=>h.get? a=some (PySem.W.methodObj (.ref f) (.ref x))
 | .ext φ=>φ h/\(∃o,h.get? a=some o)/\∀h1 h2:Heap,φ h1->(∀o,h1.get? a=some o->h2.get? a=some o)->φ h2
def gb (H:Hp) (h:Heap):Prop:=∀a o,H a=some o->cq P w H h a o
end
section
variable {P:Program} {w:World} {H H':Hp} {h h':Heap} {a:Addr} {o:HO}
theorem cq.lt (x:cq P w H h a o):a<h.objs.size:=by
 cases o with
 |lst xs=>obtain ⟨_,_,_,_,e⟩:=x;exact Heap.lt_size e
 |tup xs=>obtain ⟨_,_,_,p⟩:=x;exact p.lt
 |dK kvs=>obtain ⟨_,_,_,_,o,_,_,e,_⟩:=x;exact Heap.lt_size e
 |dT kvs=>obtain ⟨_,_,_,_,o,_,_,e,_⟩:=x;exact Heap.lt_size e
 |set S n=>obtain ⟨o,_,_,_,e,_⟩:=x;exact Heap.lt_size e
 |ins C dx fs=>obtain ⟨_,_,_,e,_⟩:=x;exact Heap.lt_size e
 |own y=>obtain ⟨_,e⟩:=x;exact Heap.lt_size e
 |xd fs=>obtain ⟨_,⟨_,_,_,e,_⟩,_⟩:=x;exact Heap.lt_size e
 |rng lo hi=>obtain ⟨_,_,_,e⟩:=x;exact Heap.lt_size e
 |frz ob u=>obtain ⟨e,_⟩:=x;exact Heap.lt_size e
 |tbl ps=>exact Heap.lt_size (show h.get? a=some _ from x)
 |met f y=>exact Heap.lt_size (show h.get? a=some _ from x)
 |ext φ=>obtain ⟨_,⟨_,e⟩,_⟩:=x;exact Heap.lt_size e
theorem Paired.mapP {α β:Type} {F G:α->β->Prop}:∀{l₁:List α} {l₂:List β},Paired F l₁ l₂->(∀a b,F a b->G a b)->Paired G l₁ l₂
 |_,_,.nil,_=> .nil
 |_,_,.cons r t,f=> .cons (f _ _ r) (Paired.mapP t f)
theorem cq.stay (x:cq P w H h a o) (k:∀b u,(b=a∨H b=some (.own a))->h.get? b=some u->h'.get? b=some u)
  (ho:∀b,H b=some (.own a)->H' b=some (.own a)) (ht:∀b xs,H b=some (.tup xs)->H' b=some (.tup xs)):cq P w H' h' a o:=by
 induction o with
 |lst xs=>obtain ⟨z,its,n,r,e⟩:=x;exact ⟨z,its,n,r,k _ _ (.inl rfl) e⟩
 |tup xs=>obtain ⟨z,its,r,ob,e,c⟩:=x;exact ⟨z,its,r,ob,k _ _ (.inl rfl) e,c⟩
 |dK kvs=>obtain ⟨z,y,vs,r,ob,es,ep,e,c⟩:=x;exact ⟨z,y,vs,r,ob,es,ep,k _ _ (.inl rfl) e,c⟩
 |dT kvs=>
  obtain ⟨z,y,xs,r,ob,es,ep,e,c⟩:=x;exact ⟨z,y,xs,Paired.mapP r fun p q z=>⟨z.1,ht _ _ z.2.1,z.2.2⟩,ob,es,ep,k _ _ (.inl rfl) e,c⟩
 |set S n=>obtain ⟨ob,es,ep,t,e,c⟩:=x;exact ⟨ob,es,ep,t,k _ _ (.inl rfl) e,c⟩
 |ins C dx fs=>
  obtain ⟨d,z,ne,e,mA,⟨od,es,ep,e2,c⟩,r⟩:=x;exact ⟨ho _ d,z,ne,k _ _ (.inl rfl) e,mA,⟨od,es,ep,k _ _ (.inr d) e2,c⟩,r⟩
 |own y=>obtain ⟨ob,e⟩:=x;exact ⟨ob,k _ _ (.inl rfl) e⟩
 |xd fs=>obtain ⟨mA,⟨od,es,ep,e,c⟩,r⟩:=x;exact ⟨mA,⟨od,es,ep,k _ _ (.inl rfl) e,c⟩,r⟩
 |rng lo hi=>obtain ⟨t,u,v,e⟩:=x;exact ⟨t,u,v,k _ _ (.inl rfl) e⟩
 |frz ob u ih=>obtain ⟨e,q⟩:=x;exact ⟨k _ _ (.inl rfl) e,ih q⟩
 |tbl ps=>
  have e:h.get? a=some {cls:= .none,data:= .fields ps}:=x;show h'.get? a=some {cls:= .none,data:= .fields ps};exact k a _ (.inl rfl) e
 |met f y=>
  have e:h.get? a=some (PySem.W.methodObj (.ref f) (.ref y)):=x;show h'.get? a=some (PySem.W.methodObj (.ref f) (.ref y));exact k a _ (.inl rfl) e
 |ext φ=>obtain ⟨p,⟨o,e⟩,st⟩:=x;exact ⟨st _ _ p fun o q=>k _ _ (.inl rfl) q,⟨o,k _ _ (.inl rfl) e⟩,st⟩
theorem gb.lt (x:gb P w H h) (e:H a=some o):a<h.objs.size:=(x a o e).lt
theorem gb.fresh (x:gb P w H h) (e:h.objs.size<=a):H a=none:=by
 cases q:H a with
 |none=>rfl
 |some u=>exact absurd (GL (x.lt q) e) (Hx _)
theorem gb.kept (x:gb P w H h) (k:∀b u,h.get? b=some u->h'.get? b=some u):gb P w H h':=fun a o e=>
 (x a o e).stay (fun b u _ q=>k b u q) (fun _ q=>q) fun _ _ q=>q
theorem gb.laid (x:gb P w H h) (k:∀b u,h.get? b=some u->h'.get? b=some u) (hp:h.objs.size<=a) (new:cq P w (aL H a o) h' a o):gb P w (aL H a o) h':=fun b u e=>by
 have hn:=x.fresh hp
 by_cases hb:b=a
 ·subst hb;rw[ah] at e;cases e;exact new
 ·rw[av hb] at e;exact (x b u e).stay (fun c v _ q=>k c v q) (fun c q=>by rw[av (aP q hn)];exact q) fun c xs q=>by rw[av (aP q hn)];exact q
end
def Rd (H:Hp) (a:Addr) (u:HO):Prop:=H a=some u∨∃o,H a=some (.frz o u)
theorem Rd.ok {P:Program} {w:World} {H:Hp} {h:Heap} {a:Addr} {u:HO} (r:Rd H a u) (x:gb P w H h):cq P w H h a u:=by
 rcases r with r|⟨o,r⟩
 ·exact x a u r
 ·obtain ⟨_,q⟩:=x a _ r;exact q
def DI:Option HO->Prop
 |some (.lst _)=>True
 |some (.dK _)=>True
 |some (.dT _)=>True
 |some (.set _ _)=>True
 |some (.ins _ _ _)=>True
 |some (.ext _)=>True
 |_=>False
section
variable {P:Program} {w:World} {H:Hp} {h h':Heap} {x e:Addr} {o':HO}
theorem gb.write (ok:gb P w H h) (mu:DI (H x)) (he:e=x∨H e=some (.own x)) (k:∀b u,b≠e->h.get? b=some u->h'.get? b=some u) (heo:∃u,h'.get? e=some u)
  (new:cq P w (aL H x o') h' x o'):gb P w (aL H x o') h':=fun b u q=>by
 have nown:∀c y,H c=some (.own y)->c≠x:=fun c y r z=>by subst z;rw[r] at mu;exact mu
 have ntup:∀c xs,H c=some (.tup xs)->c≠x:=fun c xs r z=>by subst z;rw[r] at mu;exact mu
 by_cases hb:b=x
 ·subst hb;rw[ah] at q;cases q;exact new
 ·rw[av hb] at q
  by_cases hbe:b=e
  ·have q':H b=some (.own x):=by
    rcases he with z|z
    ·exact absurd (hbe.trans z) hb
    ·rw[hbe];exact z
   rw[q] at q';cases q';obtain ⟨v,hv⟩:=heo;exact ⟨v,by rw[hbe];exact hv⟩
  ·refine (ok b u q).stay (fun c v hc r=>k c v ?_ r) (fun c r=>by rw[av (nown c b r)];exact r) fun c xs r=>by rw[av (ntup c xs r)];exact r
   rcases hc with rfl|hc
   ·exact hbe
   ·rintro rfl;rcases he with z|z
    ·exact nown c b hc z
    ·rw[hc] at z;cases z;exact hb rfl
end
structure Un (fs ex:Le) (H H':Hp) (h h':Heap):Prop where
 keep:∀b o,h.get? b=some o->H b=none->b∉fs->b∉ex->h'.get? b=some o
 slot:∀b o,h.get? b=some o->H b=none->b∈fs->b∉ex->∃sl,h'.get? b=some {o with slots:=sl}
 free:∀b o,h.get? b=some o->H b=none->b∉ex->H' b=none
 there:∀b o,h.get? b=some o->b∉ex->∃o',h'.get? b=some o'
 tups:∀b xs,H b=some (.tup xs)->H' b=some (.tup xs)
 frzs:∀b o u,H b=some (.frz o u)->H' b=some (.frz o u)
 tbls:∀b ps,H b=some (.tbl ps)->∃more,H' b=some (.tbl (ps++more))
section
variable {fs fs' ex ex':Le} {H H1 H2:Hp} {h h1 h2 h':Heap} {a x e:Addr} {o:HO}
theorem Un.any (u:Un fs ex H H1 h h1) {b:Addr} {ob:Obj} (q:h.get? b=some ob) (n:H b=none) (hx:b∉ex):∃sl,h1.get? b=some {ob with slots:=sl}:=by
 by_cases hb:b∈fs
 ·exact u.slot b ob q n hb hx
 ·exact ⟨ob.slots,u.keep b ob q n hb hx⟩
theorem Un.kept (k:∀b u,h.get? b=some u->h'.get? b=some u):Un fs ex H H h h':=
 ⟨fun b ob q _ _ _=>k b ob q,fun b ob q _ _ _=>⟨ob.slots,k b ob q⟩,fun _ _ _ n _=>n,fun b ob q _=>⟨ob,k b ob q⟩,fun _ _ q=>q,fun _ _ _ q=>q,fun _ ps q=>⟨#[],by rw[q];simp⟩⟩
theorem Un.refl:Un fs ex H H h h:=Un.kept fun _ _ q=>q
theorem Un.laid (k:∀b u,h.get? b=some u->h'.get? b=some u) (hp:h.objs.size<=a) (hn:H a=none):Un fs ex H (aL H a o) h h' where
 keep:=fun b u q _ _ _=>k b u q
 slot:=fun b u q _ _ _=>⟨u.slots,k b u q⟩
 free:=fun b u q n _=>by rw[av (GJ (GL (Heap.lt_size q) hp))];exact n
 there:=fun b u q _=>⟨u,k b u q⟩
 tups:=fun b xs q=>by rw[av (aP q hn)];exact q
 frzs:=fun b u xs q=>by rw[av (aP q hn)];exact q
 tbls:=fun b ps q=>⟨#[],by rw[av (aP q hn),q];simp⟩
theorem Un.write (mu:DI (H x)) (he:e=x∨H e=some (.own x)) (k:∀b u,b≠e->h.get? b=some u->h'.get? b=some u) (heo:∃u,h'.get? e=some u):Un fs ex H (aL H x o) h h':=by
 have hx:∀b,H b=none->b≠x:=fun b n z=>by subst z;rw[n] at mu;exact mu
 have hb:∀b,H b=none->b≠e:=fun b n z=>by
  subst z;rcases he with r|r
  ·exact hx b n r
  ·rw[n] at r;cases r
 have hm:∀b u,H b=some u->¬DI (some u)->b≠x:=fun b u q nm z=>by subst z;rw[q] at mu;exact nm mu
 refine ⟨fun b u q n _ _=>k b u (hb b n) q,fun b u q n _ _=>⟨u.slots,k b u (hb b n) q⟩,fun b u q n _=>by rw[av (hx b n)];exact n,fun b u q _=>?_,
  fun b xs q=>by rw[av (hm b _ q fun z=>z)];exact q,fun b u xs q=>by rw[av (hm b _ q fun z=>z)];exact q,fun b ps q=>⟨#[],by rw[av (hm b _ q fun z=>z),q];simp⟩⟩
 by_cases hbe:b=e
 ·subst hbe;exact heo
 ·exact ⟨u,k b u hbe q⟩
end
noncomputable def DJ (h:Heap) (H:Hp):Le:=(Gx h.objs.size).filter fun a=>(H a).isSome
noncomputable def lU (h:Heap) (H:Hp):Heap:=PySem.W.hideAll h (DJ h H)
theorem tj (h:Heap) (H:Hp):(lU h H).objs.size=h.objs.size:=PySem.W.hideAll_size _ _
theorem uG {h:Heap} {H:Hp} {b:Addr} {o:Obj} (e:h.get? b=some o) (n:H b=none):(lU h H).get? b=some o:=
 PySem.W.hideAll_get _ e fun hm=>by
  have q:(H b).isSome=true:=(List.mem_filter.mp hm).2;rw[n] at q;simp at q
theorem wS {h:Heap} {H:Hp} {b:Addr} {o:Obj} (e:(lU h H).get? b=some o):h.get? b=some o/\H b=none:=by
 have e':h.get? b=some o:=PySem.W.of_hideAll (DJ h H) e;refine ⟨e',?_⟩;cases q:H b with
 |none=>rfl
 |some x=>
  have hm:b∈DJ h H:=List.mem_filter.mpr ⟨List.mem_range.mpr (Heap.lt_size e'),by simp[q]⟩
  have z:(lU h H).get? b=none:=PySem.W.hideAll_none (DJ h H) hm;rw[z] at e;cases e
structure Mod (K:F5) (mg:La) (base:Heap):Prop where
 kin:K.In base
 glob:base.Ns mainGlobals mg
 blt:∃mb,base.Ns builtinsNs mb/\∀x:Str,x≠ "__name__" ->mb x=bootBuiltins x
 nolimit:base.NoLimit
structure Cx where
 prog:Program
 w:World
 K:F5
 mg:Str->Lh
 base:Heap
 A:Around
 N:Ld
 s₀:Shared
 H₀:Hp
 env:Env
 outer:List Env
 stack:List Env
 ex:Le
 fn:Str->Bool
 calm:Bool
 pn:Lb
 xe:Value->Shared->Prop
noncomputable def iT (l:List Env):Le:=l.filterMap (·.frame)
abbrev Cx.fs (X:Cx):Le:=iT X.outer
def DK (sc:Scope) (x:Str):Prop:=sc.names.lookup x=some .local∨sc.names.lookup x=some .cell∨sc.names.lookup x=some .free
def Loc (sc:Scope) (x:Str):Prop:=sc.names.lookup x=some .local∨sc.names.lookup x=some .cell
def Look (env:Env) (h:Heap) (m:La) (x:Str) (u:Value):Prop:=
 (env.kindOf x=some .local/\m x=some u)∨((env.kindOf x=some .cell∨env.kindOf x=some .free)/\∃c,env.cells.lookup x=some c/\h.IsCell c (some u))
structure Cx.Ok (X:Cx):Prop where
 mod:Mod X.K X.mg X.base
 kind:X.env.scope.kind= .function
 glob:X.env.globals=mainGlobals
 blt:X.env.builtins=builtinsNs
 above:X.s₀.heap.objs.size<=X.env.locals
 inj:∀x y c,X.env.cells.lookup x=some c->X.env.cells.lookup y=some c->x=y
 has:∀x,(X.env.kindOf x=some .cell∨X.env.kindOf x=some .free)->∃c,X.env.cells.lookup x=some c
 cab:∀x c,X.fn x=true->X.env.cells.lookup x=some c->X.s₀.heap.objs.size<=c
 hd:X.calm=true->X.A.handled=none
 frames:X.A.frames=some X.stack
 stk:X.stack=X.outer∨(X.stack=X.env::X.outer/\X.env.frame=some X.env.locals)
 exf:∀b∈X.ex,b≠X.env.locals/\∀x c,X.env.cells.lookup x=some c->c≠b
 bs:∀b o,X.base.get? b=some o->X.s₀.heap.get? b=some o/\X.H₀ b=none
 bsz:X.base.objs.size<=X.s₀.heap.objs.size
 noex:∀b o,X.base.get? b=some o->b∉X.ex
 exfs:∀b∈X.ex,b∉X.fs
 funs:X.s₀.heap.FunFrames X.base X.outer
 frf:∀b∈X.fs,X.H₀ b=none
structure aM (X:Cx) (pins:Lb) (σ:List (Option V)) (H:Hp) (s:Shared):Prop where
 ok:X.Ok
 os:s.os=X.s₀.os
 bare:AllBare s.gens
 base:Un X.fs X.ex X.H₀ H X.s₀.heap s.heap
 loc:∃m,s.heap.Ns X.env.locals m/\∀(i:Nat) (x:Str) (v:V),X.N[i]?=some x->σ[i]?=some (some v)->DK X.env.scope x->∃u,RelV v u/\Look X.env s.heap m x u
 cell:∀x c,X.env.cells.lookup x=some c->∃v,s.heap.IsCell c v
 free:H X.env.locals=none
 freeC:∀x c,X.env.cells.lookup x=some c->H c=none
 pin:∀p∈X.pn++pins,s.heap.get? p.1=some p.2/\H p.1=none/\p.1≠X.env.locals/\p.1∉X.fs/\∀v,p.2.data≠ .cell v
 hok:gb X.prog X.w H s.heap
 len:σ.length=X.N.length
section
variable {X:Cx} {pins:Lb} {σ:List (Option V)} {H H':Hp} {s:Shared} {h':Heap}
theorem Cx.Ok.nofr (ok:X.Ok) {b:Addr} {o:Obj} (e:X.base.get? b=some o):b∉X.fs:=fun hb=>by
 have:=(ok.funs.mem hb).1;rw[e] at this;cases this
theorem aM.bs (I:aM X pins σ H s):∀b o,X.base.get? b=some o->s.heap.get? b=some o/\H b=none:=fun b o e=>
 ⟨I.base.keep b o (I.ok.bs b o e).1 (I.ok.bs b o e).2 (I.ok.nofr e) (I.ok.noex b o e),I.base.free b o (I.ok.bs b o e).1 (I.ok.bs b o e).2 (I.ok.noex b o e)⟩
theorem aM.bk (I:aM X pins σ H s):∀b o,X.base.get? b=some o->s.heap.get? b=some o:=fun b o e=>(I.bs b o e).1
theorem aM.mod (I:aM X pins σ H s):Mod X.K X.mg X.base:=I.ok.mod
theorem aM.kIn (I:aM X pins σ H s):X.K.In s.heap:=I.ok.mod.kin.keeps I.bk
theorem aM.lt (I:aM X pins σ H s):X.env.locals<s.heap.objs.size:=let ⟨_,hn,_⟩:=I.loc;hn.lt
theorem aM.sz (I:aM X pins σ H s):X.s₀.heap.objs.size<=s.heap.objs.size:=GP I.ok.above (He I.lt)
theorem aM.nofs (I:aM X pins σ H s) {a:Addr} (h:s.heap.objs.size<=a):a∉X.fs:=fun hb=>by
 obtain ⟨_,o,ho,_⟩:=I.ok.funs.mem hb;exact absurd (GL (Heap.lt_size ho) (GP I.sz h)) (Hx _)
theorem aM.cne (I:aM X pins σ H s):∀x c,X.env.cells.lookup x=some c->c≠X.env.locals:=fun x c e z=>by
 obtain ⟨v,o,ho,hd⟩:=I.cell x c e;obtain ⟨m,⟨o',es,ep,ho',hd',_⟩,_⟩:=I.loc;rw[z,ho'] at ho;cases ho;rw[hd'] at hd;cases hd
theorem aM.funs (I:aM X pins σ H s):s.heap.FunFrames X.base X.outer:=by
 have all:∀(l:List Env),(∀b∈iT l,b∈X.fs)->X.s₀.heap.FunFrames X.base l->s.heap.FunFrames X.base l:=by
  intro l
  induction l with
  |nil=>intro _ _;trivial
  |cons env r ih=>
   intro hs hl;obtain ⟨hk,⟨L,o,hf,hn,ho,hd⟩,hr⟩:=hl;have hL:L∈X.fs:=hs L (by unfold iT;rw[Hv,hf];exact GM)
   obtain ⟨sl,e⟩:=I.base.slot L o ho (I.ok.frf L hL) hL fun z=>I.ok.exfs L z hL
   exact ⟨hk,⟨L,_,hf,hn,e,hd⟩,ih (fun b hb=>hs b (by unfold iT;rw[Hv,hf];exact FS _ hb)) hr⟩
 exact all X.outer (fun _ hb=>hb) I.ok.funs
theorem aM.stack (I:aM X pins σ H s):s.heap.FunFrames X.base X.stack:=by
 rcases I.ok.stk with e|⟨e,hf⟩
 ·rw[e];exact I.funs
 ·rw[e];obtain ⟨m,hn,_⟩:=I.loc;refine .cons (by rw[I.ok.kind];decide) hf hn ?_ I.funs
  exact Heap.get?_none_of_le (GP I.ok.bsz I.ok.above)
theorem aM.stkSub (I:aM X pins σ H s):∀b∈iT X.stack,b∈X.env.locals::X.fs:=fun b hb=>by
 rcases I.ok.stk with e|⟨e,hf⟩
 ·rw[e] at hb;exact FS _ hb
 ·rw[e] at hb;unfold iT at hb;rw[Hv,hf] at hb;exact hb
theorem aM.stkFree (I:aM X pins σ H s):∀b∈iT X.stack,H b=none:=fun b hb=>by
 rcases F8.mp (I.stkSub b hb) with e|hb
 ·rw[e];exact I.free
 ·obtain ⟨_,o,ho,_⟩:=I.ok.funs.mem hb;exact I.base.free b o ho (I.ok.frf b hb) fun z=>I.ok.exfs b z hb
theorem aM.step {g':Array GenState} {t':Nat} {d':Drawn} {ch:Le} (I:aM X pins σ H s)
  (hch:∀b∈ch,(b∈X.ex∨X.s₀.heap.objs.size<=b)/\b≠X.env.locals/\(∀x c,X.env.cells.lookup x=some c->c≠b)/\∀p∈X.pn++pins,p.1≠b)
  (keep:∀b o,b≠X.env.locals->b∉X.fs->b∉ch->s.heap.get? b=some o->H b=none->h'.get? b=some o)
  (slot:∀b o,b≠X.env.locals->b∈X.fs->b∉ch->s.heap.get? b=some o->H b=none->∃sl,h'.get? b=some {o with slots:=sl}) (free:∀b o,b∉ch->s.heap.get? b=some o->H b=none->H' b=none)
  (there:∀b o,b∉ch->s.heap.get? b=some o->∃o',h'.get? b=some o')
  (tups:∀b xs,H b=some (.tup xs)->H' b=some (.tup xs)) (frzs:∀b o u,H b=some (.frz o u)->H' b=some (.frz o u)) (tbls:∀b ps,H b=some (.tbl ps)->∃more,H' b=some (.tbl (ps++more)))
  (ns:∀m,s.heap.Ns X.env.locals m->h'.Ns X.env.locals m) (hok:gb X.prog X.w H' h') (hg:AllBare g'):
  aM X pins σ H' {s with heap:=h',gens:=g',drawn:=d',toks:=t'}:=by
 have neL:∀b o,X.s₀.heap.get? b=some o->b≠X.env.locals:=fun b o e=>GJ (GL (Heap.lt_size e) I.ok.above)
 have neC:∀b o,X.s₀.heap.get? b=some o->b∉X.ex->b∉ch:=fun b o e hx hb=>by
  rcases (hch b hb).1 with z|z
  ·exact hx z
  ·exact absurd (GL (Heap.lt_size e) z) (Hx _)
 have cellK:∀x c,X.env.cells.lookup x=some c->∀v,s.heap.IsCell c v->h'.IsCell c v:=fun x c e v ⟨o,ho,hd⟩=>by
  have nch:c∉ch:=fun z=>(hch c z).2.2.1 x c e rfl
  by_cases hc:c∈X.fs
  ·obtain ⟨sl,q⟩:=slot c o (I.cne x c e) hc nch ho (I.freeC x c e);exact ⟨_,q,hd⟩
  ·exact ⟨o,keep c o (I.cne x c e) hc nch ho (I.freeC x c e),hd⟩
 refine ⟨I.ok,I.os,hg,⟨fun b o e n hb hx=>?_,fun b o e n hb hx=>?_,fun b o e n hx=>?_,fun b o e hx=>?_,fun b xs e=>tups b xs (I.base.tups b xs e),fun b o xs e=>frzs b o xs (I.base.frzs b o xs e),fun b ps e=>?_⟩,?_,fun x c e=>?_,?_,fun x c e=>?_,fun p hp=>?_,hok,I.len⟩
 ·exact keep b o (neL b o e) hb (neC b o e hx) (I.base.keep b o e n hb hx) (I.base.free b o e n hx)
 ·obtain ⟨sl,e1⟩:=I.base.slot b o e n hb hx;obtain ⟨sl',e2⟩:=slot b _ (neL b o e) hb (neC b o e hx) e1 (I.base.free b o e n hx);exact ⟨sl',e2⟩
 ·obtain ⟨o',e1⟩:=I.base.there b o e hx;exact free b o' (neC b o e hx) e1 (I.base.free b o e n hx)
 ·obtain ⟨o',e1⟩:=I.base.there b o e hx;exact there b o' (neC b o e hx) e1
 ·obtain ⟨m1,e1⟩:=I.base.tbls b ps e;obtain ⟨m2,e2⟩:=tbls b _ e1;exact ⟨m1++m2,by rw[e2,Array.append_assoc]⟩
 ·obtain ⟨m,hn,hl⟩:=I.loc;refine ⟨m,ns m hn,fun i x v e1 e2 e3=>?_⟩
  obtain ⟨u,r,l⟩:=hl i x v e1 e2 e3;refine ⟨u,r,?_⟩;rcases l with l|⟨k,c,e,z⟩
  ·exact .inl l
  ·exact .inr ⟨k,c,e,cellK x c e _ z⟩
 ·obtain ⟨v,z⟩:=I.cell x c e;exact ⟨v,cellK x c e v z⟩
 ·obtain ⟨m,⟨o,_,_,ho,_⟩,_⟩:=I.loc;exact free _ o (fun z=>(hch _ z).2.1 rfl) ho I.free
 ·obtain ⟨v,o,ho,hd⟩:=I.cell x c e;exact free c o (fun z=>(hch c z).2.2.1 x c e rfl) ho (I.freeC x c e)
 ·obtain ⟨e,n,ne,nf,d⟩:=I.pin p hp;have nch:p.1∉ch:=fun z=>(hch p.1 z).2.2.2 p hp rfl
  exact ⟨keep p.1 p.2 ne nf nch e n,free p.1 p.2 nch e n,ne,nf,d⟩
theorem aM.un {t':Nat} (I:aM X pins σ H s) (u:Un X.fs [] H H' s.heap h') (hok:gb X.prog X.w H' h'):aM X pins σ H' {s with heap:=h',toks:=t'}:=by
 obtain ⟨m,⟨o,es,ep,ho,r⟩,_⟩:=id I.loc;obtain ⟨sl,hL⟩:=u.any ho I.free (by simp)
 exact I.step (g':=s.gens) (d':=s.drawn) (ch:= []) (fun _ z=>nomatch z) (fun b o _ hb _ e n=>u.keep b o e n hb (by simp)) (fun b o _ hb _ e n=>u.slot b o e n hb (by simp)) (fun b o _ e n=>u.free b o e n (by simp)) (fun b o _ e=>u.there b o e (by simp)) u.tups u.frzs u.tbls (fun m' hm=>by
  obtain ⟨o',es',ep',ho',r'⟩:=hm;rw[ho] at ho';cases ho';exact ⟨_,es',ep',hL,r'⟩) hok I.bare
theorem aM.call {g':Array GenState} {t':Nat} {d':Drawn} {ch:Le} (I:aM X pins σ H s) (u:Un (iT X.stack) ch H H' s.heap h') (hok:gb X.prog X.w H' h') (hg:AllBare g')
  (hch:∀b∈ch,(b∈X.ex∨X.s₀.heap.objs.size<=b)/\b≠X.env.locals/\(∀x c,X.env.cells.lookup x=some c->c≠b)/\∀p∈X.pn++pins,p.1≠b):
  aM X pins σ H' {s with heap:=h',gens:=g',drawn:=d',toks:=t'}:=by
 obtain ⟨m,⟨o,es,ep,ho,r⟩,_⟩:=id I.loc;obtain ⟨sl,hL⟩:=u.any ho I.free fun z=>(hch _ z).2.1 rfl
 exact I.step (ch:=ch) hch (fun b o hL hb hc e n=>u.keep b o e n (fun z=>(F8.mp (I.stkSub b z)).elim hL hb) hc) (fun b o _ _ hc e n=>u.any e n hc) (fun b o hc e n=>u.free b o e n hc) (fun b o hc e=>u.there b o e hc) u.tups u.frzs u.tbls (fun m' hm=>by
  obtain ⟨o',es',ep',ho',r'⟩:=hm;rw[ho] at ho';cases ho';exact ⟨_,es',ep',hL,r'⟩) hok hg
theorem aM.turned {t':Nat} {it:Addr} (I:aM X pins σ H s) (k:∀b o,b≠it->s.heap.get? b=some o->h'.get? b=some o) (hn:H it=none) (hL:it≠X.env.locals)
  (h1:it∈X.ex∨X.s₀.heap.objs.size<=it) (h2:∀x c,X.env.cells.lookup x=some c->c≠it) (h3:∀p∈X.pn++pins,p.1≠it):aM X pins σ H {s with heap:=h',toks:=t'}:=by
 have nit:∀b u,H b=some u->b≠it:=fun b u e z=>by rw[z,hn] at e;cases e
 refine I.step (g':=s.gens) (d':=s.drawn) (ch:= [it]) (fun b hb=>?_) (fun b o _ _ hc e _=>k b o (fun z=>hc (by simp[z])) e) (fun b o _ _ hc e _=>⟨o.slots,k b o (fun z=>hc (by simp[z])) e⟩) (fun _ _ _ _ n=>n)
  (fun b o hc e=>⟨o,k b o (fun z=>hc (by simp[z])) e⟩) (fun _ _ e=>e) (fun _ _ _ e=>e) (fun b ps e=>⟨#[],by rw[e];simp⟩) (fun m hm=>?_) (fun b u e=>?_) I.bare
 ·have e:b=it:=by simpa using hb
  subst e;exact ⟨h1,hL,h2,h3⟩
 ·obtain ⟨o,es,ep,ho,r⟩:=hm;exact ⟨o,es,ep,k _ o (Ne.symm hL) ho,r⟩
 ·refine (I.hok b u e).stay (fun c v hc q=>k c v ?_ q) (fun _ q=>q) fun _ _ q=>q
  rcases hc with z|z
  ·rw[z];exact nit b u e
  ·exact nit c _ z
theorem aM.tok (I:aM X pins σ H s) (t:Nat):aM X pins σ H {s with toks:=t}:=I.un (h':=s.heap) (t':=t) Un.refl I.hok
theorem aM.kept {t':Nat} (I:aM X pins σ H s) (k:∀b u,s.heap.get? b=some u->h'.get? b=some u):aM X pins σ H {s with heap:=h',toks:=t'}:=I.un (Un.kept k) (I.hok.kept k)
theorem aM.laid {a:Addr} {o:HO} {t':Nat} (I:aM X pins σ H s) (k:∀b u,s.heap.get? b=some u->h'.get? b=some u) (hp:s.heap.objs.size<=a) (new:cq X.prog X.w (aL H a o) h' a o):
  aM X pins σ (aL H a o) {s with heap:=h',toks:=t'}:=I.un (Un.laid k hp (I.hok.fresh hp)) (I.hok.laid k hp new)
theorem aM.write {x e:Addr} {o:HO} {t':Nat} (I:aM X pins σ H s) (mu:DI (H x)) (he:e=x∨H e=some (.own x)) (k:∀b u,b≠e->s.heap.get? b=some u->h'.get? b=some u) (heo:∃u,h'.get? e=some u)
  (new:cq X.prog X.w (aL H x o) h' x o):aM X pins σ (aL H x o) {s with heap:=h',toks:=t'}:=I.un (Un.write mu he k heo) (I.hok.write mu he k heo new)
theorem aM.pins_of {pins':Lb} (I:aM X pins σ H s) (h:∀p∈pins',s.heap.get? p.1=some p.2/\H p.1=none/\p.1≠X.env.locals/\p.1∉X.fs/\∀v,p.2.data≠ .cell v):aM X pins' σ H s:=
 ⟨I.ok,I.os,I.bare,I.base,I.loc,I.cell,I.free,I.freeC,fun p hp=>(GD.mp hp).elim (fun z=>I.pin p (Gu _ z)) (h p),I.hok,I.len⟩
theorem jd {N:Ld} (hN:N.Nodup) {i j:Nat} {x:Str} (a:N[i]?=some x) (b:N[j]?=some x):i=j:=by
 obtain ⟨h1,e1⟩:=FR.mp a;obtain ⟨h2,e2⟩:=FR.mp b;exact (List.getElem_inj hN).mp (e1.trans e2.symm)
theorem io {M:Model} {A:Around} {E:K9} {i:Nat} {x:Str} {v:V} {u:Value} {Q:Unit->Shared->Prop} (I:aM X pins σ H s) (hN:X.N.Nodup) (hi:X.N[i]?=some x) (hx:Loc X.env.scope x) (r:RelV v u)
  (h:∀s',aM X pins (σ.set i (some v)) H s'->(∃a,Heap.SameBut a s.heap s'.heap/\(a=X.env.locals∨X.env.cells.lookup x=some a))->Q () s') (hf:X.fn x=true∨X.env.scope.names.lookup x=some .local:=by first|exact .inl rfl|exact .inr rfl|assumption):wpAny M A (storeName X.env x u) Q E s:=by
 obtain ⟨m,hn,hl⟩:=id I.loc;have hcls:(X.env.scope.kind== .class||(X.env.scope.kind== .module&&X.env.locals !=X.env.globals))=false:=by rw[I.ok.kind];rfl
 have hiσ:i<σ.length:=by rw[I.len];exact (FR.mp hi).1
 have cne:=I.cne;have tracked:∀{a:Addr} {h':Heap},(∃o,s.heap.get? a=some o/\H a=none)->Heap.SameBut a s.heap h'->gb X.prog X.w H h':=fun {a h'} ha hs b ob e=>by
  obtain ⟨_,_,hfree⟩:=ha;refine (I.hok b ob e).stay (fun c w' hc q=>(hs.2 c ?_).trans q) (fun _ q=>q) fun _ _ q=>q
  rintro rfl;rcases hc with rfl|hc
  ·rw[hfree] at e;cases e
  ·rw[hfree] at hc;cases hc
 rcases hx with hk|hk
 ·refine wpAny_storeName_local hk hn (fun h' hn' hs=>?_) hcls
  obtain ⟨oL,_,_,hoL,_⟩:=id hn;refine h _ ⟨I.ok,I.os,I.bare,⟨fun b o e n hb hx=>?_,fun b o e n hb hx=>?_,I.base.free,fun b o e hx=>?_,I.base.tups,I.base.frzs,I.base.tbls⟩,⟨_,hn',fun j y v' e1 e2 e3=>?_⟩,fun y c e=>?_,I.free,I.freeC,fun p hp=>?_,tracked ⟨oL,hoL,I.free⟩ hs,by simpa using I.len⟩ ⟨_,hs,.inl rfl⟩
  ·exact (hs.2 b (GJ (GL (Heap.lt_size e) I.ok.above))).trans (I.base.keep b o e n hb hx)
  ·obtain ⟨sl,e1⟩:=I.base.slot b o e n hb hx;exact ⟨sl,(hs.2 b (GJ (GL (Heap.lt_size e) I.ok.above))).trans e1⟩
  ·obtain ⟨o',e1⟩:=I.base.there b o e hx;exact ⟨o',(hs.2 b (GJ (GL (Heap.lt_size e) I.ok.above))).trans e1⟩
  ·by_cases hj:j=i
   ·subst hj;rw[hi] at e1;cases e1;rw[List.getElem?_set_self hiσ] at e2;cases e2;exact ⟨u,r,.inl ⟨hk,by simp⟩⟩
   ·rw[Hk (Ne.symm hj)] at e2;obtain ⟨u',r',q⟩:=hl j y v' e1 e2 e3;refine ⟨u',r',?_⟩;rcases q with ⟨k,e⟩|⟨k,c,e,z⟩
    ·refine .inl ⟨k,?_⟩;have:y≠x:=fun e=>hj (jd hN e1 (e▸hi))
     simp[this,e]
    ·exact .inr ⟨k,c,e,z.sameBut hs (cne y c e)⟩
  ·obtain ⟨w',z⟩:=I.cell y c e;exact ⟨w',z.sameBut hs (cne y c e)⟩
  ·obtain ⟨e,n,ne,nf,d⟩:=I.pin p hp;exact ⟨(hs.2 p.1 ne).trans e,n,ne,nf,d⟩
 ·have hfn:X.fn x=true:=by
   rcases hf with z|z
   ·exact z
   ·rw[z] at hk;cases hk
  obtain ⟨c,hc⟩:=I.ok.has x (.inl hk);obtain ⟨w',z⟩:=I.cell x c hc;refine wpAny_storeName_cell I.ok.kind hk hc z (fun h' hc' hs=>?_)
  obtain ⟨oc,hoc,hocd⟩:=id z;refine h {s with heap:=h'} ⟨I.ok,I.os,I.bare,⟨fun b o e n hb hx=>?_,fun b o e n hb hx=>?_,I.base.free,fun b o e hx=>?_,I.base.tups,I.base.frzs,I.base.tbls⟩,⟨m,hn.sameBut hs (Ne.symm (cne x c hc)),fun j y v' e1 e2 e3=>?_⟩,fun y c' e=>?_,I.free,I.freeC,fun p hp=>?_,tracked ⟨oc,hoc,I.freeC x c hc⟩ hs,by simpa using I.len⟩ ⟨c,hs,.inr hc⟩
  ·exact (hs.2 b (GJ (GL (Heap.lt_size e) (I.ok.cab x c hfn hc)))).trans (I.base.keep b o e n hb hx)
  ·obtain ⟨sl,e1⟩:=I.base.slot b o e n hb hx;exact ⟨sl,(hs.2 b (GJ (GL (Heap.lt_size e) (I.ok.cab x c hfn hc)))).trans e1⟩
  ·obtain ⟨o',e1⟩:=I.base.there b o e hx;exact ⟨o',(hs.2 b (GJ (GL (Heap.lt_size e) (I.ok.cab x c hfn hc)))).trans e1⟩
  ·by_cases hj:j=i
   ·subst hj;rw[hi] at e1;cases e1;rw[List.getElem?_set_self hiσ] at e2;cases e2;exact ⟨u,r,.inr ⟨.inl hk,c,hc,hc'⟩⟩
   ·rw[Hk (Ne.symm hj)] at e2;obtain ⟨u',r',q⟩:=hl j y v' e1 e2 e3;refine ⟨u',r',?_⟩;rcases q with q|⟨k,c',e,z'⟩
    ·exact .inl q
    ·refine .inr ⟨k,c',e,z'.sameBut hs ?_⟩;rintro rfl;exact hj (jd hN e1 (I.ok.inj _ _ _ e hc▸hi))
  ·by_cases hcc:c'=c
   ·subst hcc;exact ⟨_,hc'⟩
   ·obtain ⟨w2,z2⟩:=I.cell y c' e;exact ⟨w2,z2.sameBut hs hcc⟩
  ·obtain ⟨e,n,ne,nf,d⟩:=I.pin p hp;refine ⟨(hs.2 p.1 ?_).trans e,n,ne,nf,d⟩;intro q;rw[q,hoc] at e;have q':oc=p.2:=GK e;exact d w' (by rw[<-q'];exact hocd)
theorem fF {M:Model} {A:Around} {E:K9} {i:Nat} {x:Str} {v:V} {u:Value} {Q:Unit->Shared->Prop} (I:aM X pins σ H s) (hN:X.N.Nodup) (hi:X.N[i]?=some x) (hx:Loc X.env.scope x) (r:RelV v u)
  (h:∀s',aM X pins (σ.set i (some v)) H s'->Q () s') (hf:X.fn x=true∨X.env.scope.names.lookup x=some .local:=by first|exact .inl rfl|exact .inr rfl|assumption):wpAny M A (storeName X.env x u) Q E s:=
 io I hN hi hx r (fun s' I' _=>h s' I') hf
theorem aM.call' {s':Shared} {ch:Le} (I:aM X pins σ H s) (ho:s'.os=s.os) (u:Un (iT X.stack) ch H H' s.heap s'.heap) (hok:gb X.prog X.w H' s'.heap) (hg:AllBare s'.gens)
  (hch:∀b∈ch,(b∈X.ex∨X.s₀.heap.objs.size<=b)/\b≠X.env.locals/\(∀x c,X.env.cells.lookup x=some c->c≠b)/\∀p∈X.pn++pins,p.1≠b):aM X pins σ H' s':=by
 obtain ⟨h',g',d',t',o'⟩:=s';have e:o'=s.os:=ho;subst e;exact I.call (g':=g') (t':=t') (d':=d') u hok hg hch
end
abbrev XK:=Value->Lg->Hp->Prop
abbrev St:=List (Option V)
abbrev VK:=V->Hp->Prop
abbrev TE:=St->Hp->VK->Prop
abbrev TT:=St->Hp->(Bool->Hp->Prop)->Prop
abbrev TA:=St->Hp->(List V->Hp->Prop)->Prop
structure Ends where
 nx:St->Hp->Prop
 rt:VK
 bk:St->Hp->Prop:=fun _ _=>False
 ct:St->Hp->Prop:=fun _ _=>False
abbrev TS:=Ends->St->Hp->Prop
def EP (X:Cx) (pins:Lb) (σ:St) (Q:VK) (u:Value) (s':Shared):Prop:=∃v H',aM X pins σ H' s'/\RelV v u/\Q v H'
def TP (X:Cx) (pins:Lb) (σ:St) (Q:Bool->Hp->Prop) (b:Bool) (s':Shared):Prop:=∃H',aM X pins σ H' s'/\Q b H'
def AP (X:Cx) (pins:Lb) (σ:St) (Q:List V->Hp->Prop) (us:Lf) (s':Shared):Prop:=∃vs H',aM X pins σ H' s'/\aX vs us/\Q vs H'
def SP (X:Cx) (pins:Lb) (D:Ends) (f:Flow) (s':Shared):Prop:=
 match f with
 | .next=>∃σ' H',aM X pins σ' H' s'/\D.nx σ' H'
 | .brk=>∃σ' H',aM X pins σ' H' s'/\D.bk σ' H'
 | .cont=>∃σ' H',aM X pins σ' H' s'/\D.ct σ' H'
 | .ret u=>∃v σ' H',aM X pins σ' H' s'/\RelV v u/\D.rt v H'
def PE (X:Cx) (e:Expr) (t:TE):Prop:=
 ∀(pins:Lb) (s:Shared) (σ:St) (H:Hp) (Q:VK),aM X pins σ H s->t σ H Q->wpAny (model X.prog X.w) X.A (eval e X.env) (EP X pins σ Q) X.xe s
def PT (X:Cx) (e:Expr) (t:TT):Prop:=
 ∀(pins:Lb) (s:Shared) (σ:St) (H:Hp) (Q:Bool->Hp->Prop),aM X pins σ H s->t σ H Q->wpAny (model X.prog X.w) X.A (isTrue e X.env (eval e X.env)) (TP X pins σ Q) X.xe s
def PW (X:Cx) (e:Expr) (t:TT):Prop:=
 ∀(whole:Sem Value) (pins:Lb) (s:Shared) (σ:St) (H:Hp) (Q:Bool->Hp->Prop),aM X pins σ H s->t σ H Q->wpAny (model X.prog X.w) X.A (isTrue e X.env whole) (TP X pins σ Q) X.xe s
theorem PW.pt {X:Cx} {e:Expr} {t:TT} (h:PW X e t):PT X e t:=h _
def PA (X:Cx) (es:List Expr) (t:TA):Prop:=
 ∀(pos:Pos) (pins:Lb) (s:Shared) (σ:St) (H:Hp) (Q:List V->Hp->Prop),aM X pins σ H s->t σ H Q->wpAny (model X.prog X.w) X.A (spliced (backTo pos (starEach es X.env))) (AP X pins σ Q) X.xe s
def PS (X:Cx) (st:Stmt) (t:TS):Prop:=
 ∀(pins:Lb) (s:Shared) (σ:St) (H:Hp) (D:Ends),aM X pins σ H s->t D σ H->wpAny (model X.prog X.w) X.A (exec st X.env) (SP X pins D) X.xe s
def je (X:Cx) (st:List Stmt) (t:TS):Prop:=
 ∀(pins:Lb) (s:Shared) (σ:St) (H:Hp) (D:Ends),aM X pins σ H s->t D σ H->wpAny (model X.prog X.w) X.A (execs st X.env) (SP X pins D) X.xe s
theorem bV {α:Type} {t:Sem α} {Q Q':α->Shared->Prop} {M:Model} {A:Around} {E:K9} {s:Shared} (h:wpAny M A t Q E s) (hQ:∀a s,Q a s->Q' a s):wpAny M A t Q' E s:=wpAny_mono h hQ fun _ _ x=>x
section
variable {X:Cx}
def wT (i:Nat):TE:=fun σ H Q=>∃v,σ[i]?=some (some v)/\Q v H
def tC (v:V):TE:=fun _ H Q=>Q v H
theorem zq {i:Nat} {x:Str} {pos:Pos} (hN:X.N[i]?=some x) (hv:DK X.env.scope x) (hd:(x==("__debug__" :Str))=false:=by decide) (hcd:(x==("__classdict__" :Str))=false:=by decide):PE X (.Name x pos) (wT i):=by
 intro pins s σ H Q I h;obtain ⟨v,e,h⟩:=h;obtain ⟨m,hn,hl⟩:=I.loc;obtain ⟨u,r,l⟩:=hl i x v hN e hv;have fin:EP X pins σ Q u s:=⟨v,H,I,r,h⟩;rcases l with ⟨hk,hm⟩|⟨hk,c,hc,hcell⟩
 ·exact wpAny_Name (wpAny_loadName_local I.ok.kind hk hn hm fin) hd
 ·rcases hk with hk|hk
  ·exact wpAny_Name (wpAny_loadName_cell I.ok.kind hk hc hcell fin) hd
  ·exact wpAny_Name (wpAny_loadName_free I.ok.kind hk hc hcell fin hcd) hd
theorem ac {i j pos}:PE X (.Constant (.int i) j pos) (tC (.int i)):=fun _ _ _ H _ I h=>wpAny_Constant_int ⟨.int i,H,I.tok _,⟨_,rfl⟩,h⟩
theorem cJ {b j pos}:PE X (.Constant (.bool b) j pos) (tC (.bl b)):=fun _ _ _ H _ I h=>Constant_bool ⟨.bl b,H,I,rfl,h⟩
theorem aR {j pos}:PE X (.Constant .none j pos) (tC .non):=fun _ _ _ H _ I h=>Constant_none ⟨.non,H,I,rfl,h⟩
theorem aN {x j pos}:PE X (.Constant (.str x) j pos) (tC (.str x)):=fun _ _ _ H _ I h=>Calls.Constant_str ⟨.str x,H,I.tok _,⟨_,rfl⟩,h⟩
def Gl (X:Cx) (x:Str):Prop:=X.env.kindOf x=some .globalImplicit
theorem dR {E:K9} {pins:Lb} {s:Shared} {σ:St} {H:Hp} {x:Str} {u:Value} {pos:Pos} {Q:K9} (I:aM X pins σ H s) (hg:Gl X x) (hm:X.mg x=some u) (h:Q u s)
  (hd:(x==("__debug__" :Str))=false:=by decide):wpAny (model X.prog X.w) X.A (eval (.Name x pos) X.env) Q E s:=
 Calls.Name_function_global I.ok.kind hg (Calls.loadGlobal_global (by rw[I.ok.glob];exact I.mod.glob.keeps I.bk) hm h) hd
theorem gh {E:K9} {pins:Lb} {s:Shared} {σ:St} {H:Hp} {x:Str} {u:Value} {pos:Pos} {Q:K9} (I:aM X pins σ H s) (hg:Gl X x) (hm:X.mg x=none) (hv:bootBuiltins x=some u) (h:Q u s)
  (hn:x≠ "__name__" :=by decide) (hd:(x==("__debug__" :Str))=false:=by decide):wpAny (model X.prog X.w) X.A (eval (.Name x pos) X.env) Q E s:=by
 obtain ⟨mb,h1,h2⟩:=I.mod.blt;exact Calls.Name_function_global I.ok.kind hg (Calls.loadGlobal_builtin (by rw[I.ok.glob];exact I.mod.glob.keeps I.bk) hm (by rw[I.ok.blt];exact h1.keeps I.bk) ((h2 x hn).trans hv) h) hd
theorem bG {x:Str} {v:V} {u:Value} {pos:Pos} (hg:Gl X x) (hm:X.mg x=some u) (r:RelV v u) (hd:(x==("__debug__" :Str))=false:=by decide):PE X (.Name x pos) (tC v):=
 fun _ _ _ H _ I h=>dR I hg hm ⟨v,H,I,r,h⟩ hd
theorem bQ {x:Str} {v:V} {u:Value} {pos:Pos} (hg:Gl X x) (hm:X.mg x=none) (hv:bootBuiltins x=some u) (r:RelV v u) (hn:x≠ "__name__" :=by decide) (hd:(x==("__debug__" :Str))=false:=by decide):PE X (.Name x pos) (tC v):=
 fun _ _ _ H _ I h=>gh I hg hm hv ⟨v,H,I,r,h⟩ hn hd
variable {a b:Expr} {ta tb:TE} {pos:Pos}
def tB (t:TE):TT:=fun σ H Q=>t σ H fun x H1=>∃c,x= .bl c/\Q c H1
theorem bE {e:Expr} {t:TE} (h:PE X e t) (he:∀whole,isTrue e X.env whole=(do let v<-whole;standAt e.pos;holding [v] (truthy v)):=by intro _;rfl):PT X e (tB t):=by
 intro pins s σ H Q I hw;refine isTrue_plain (bV (h pins s σ H _ I hw) fun v s1 ⟨x,H1,I1,r1,q1⟩=>?_) (he _)
 obtain ⟨d,rfl,q⟩:=q1;cases r1;exact wpAny_truthy_bool ⟨H1,I1,q⟩
variable {tA tB':TT} {rest:List Expr}
def Ea (t u:TT):TT:=fun σ H Q=>t σ H fun c H1=>if c=true then u σ H1 Q else Q false H1
def Ft (t u:TT):TT:=fun σ H Q=>t σ H fun c H1=>if c=true then Q true H1 else u σ H1 Q
def Eb (t:TT):TT:=fun σ H Q=>t σ H fun c H1=>Q (!c) H1
theorem fU (ha:PT X a tA):PW X (.BoolOp .And [a] pos) tA:=by
 intro wh pins s σ H Q I h;refine isTrue_and (bV (ha pins s σ H Q I h) fun c s1 e=>?_)
 cases c with
 |true=>exact isTrue_and_nil e
 |false=>exact e
theorem dA (ha:PT X a tA):PW X (.BoolOp .Or [a] pos) tA:=by
 intro wh pins s σ H Q I h;refine isTrue_or (bV (ha pins s σ H Q I h) fun c s1 e=>?_)
 cases c with
 |false=>exact isTrue_or_nil e
 |true=>exact e
theorem ip (ha:PT X a tA) (hb:PW X (.BoolOp .And (b::rest) pos) tB'):PW X (.BoolOp .And (a::b::rest) pos) (Ea tA tB'):=by
 intro wh pins s σ H Q I h;refine isTrue_and (bV (ha pins s σ H _ I h) fun c s1 ⟨H1,I1,q1⟩=>?_)
 cases c with
 |true=>exact hb wh pins s1 σ H1 Q I1 q1
 |false=>exact ⟨H1,I1,q1⟩
theorem dN (ha:PT X a tA) (hb:PW X (.BoolOp .Or (b::rest) pos) tB'):PW X (.BoolOp .Or (a::b::rest) pos) (Ft tA tB'):=by
 intro wh pins s σ H Q I h;refine isTrue_or (bV (ha pins s σ H _ I h) fun c s1 ⟨H1,I1,q1⟩=>?_)
 cases c with
 |true=>exact ⟨H1,I1,q1⟩
 |false=>exact hb wh pins s1 σ H1 Q I1 q1
theorem cr (ha:PT X a tA):PT X (.UnaryOp .Not a pos) (Eb tA):=by
 intro pins s σ H Q I h;exact isTrue_not (ha pins s σ H (fun c H1=>Q (!c) H1) I h)
def BN (ta tb:TE):TE:=fun σ H Q=>ta σ H fun x H1=>∃c,x= .bl c/\if c=true then tb σ H1 Q else Q (.bl false) H1
def BO (ta:TE):TE:=fun σ H Q=>ta σ H fun x H1=>∃c,x= .bl c/\Q (.bl (!c)) H1
theorem gl {op} {t:TE} (h:PE X a t):PE X (.BoolOp op [a] pos) t:=fun pins s σ H Q I hw=>BoolOp_one (h pins s σ H Q I hw)
theorem fh (ha:PE X a ta) (hb:PE X (.BoolOp .And (b::rest) pos) tb):PE X (.BoolOp .And (a::b::rest) pos) (BN ta tb):=by
 intro pins s σ H Q I h;refine BoolOp_and (bV (ha pins s σ H _ I h) fun v s1 ⟨x,H1,I1,r1,q1⟩=>?_)
 obtain ⟨c,rfl,q1⟩:=q1;cases r1;refine wpAny_truthy_bool ?_;cases c with
 |true=>exact hb pins s1 σ H1 Q I1 q1
 |false=>exact ⟨.bl false,H1,I1,rfl,q1⟩
theorem lV (ha:PE X a ta):PE X (.UnaryOp .Not a pos) (BO ta):=by
 intro pins s σ H Q I h;refine UnaryOp_ (bV (ha pins s σ H _ I h) fun v s1 ⟨x,H1,I1,r1,q1⟩=>?_)
 obtain ⟨c,rfl,q1⟩:=q1;cases r1;exact not_of (wpAny_truthy_bool ⟨.bl (!c),H1,I1,rfl,q1⟩)
def Fu (t:TT) (ta tb:TE):TE:=fun σ H Q=>t σ H fun c H1=>if c=true then ta σ H1 Q else tb σ H1 Q
theorem eD {c:Expr} (hc:PT X c tA) (ha:PE X a ta) (hb:PE X b tb):PE X (.IfExp c a b pos) (Fu tA ta tb):=by
 intro pins s σ H Q I h;refine wpAny_IfExp (bV (hc pins s σ H _ I h) fun d s1 ⟨H1,I1,q1⟩=>?_)
 cases d with
 |true=>exact ha pins s1 σ H1 Q I1 q1
 |false=>exact hb pins s1 σ H1 Q I1 q1
end
def aO (K:F5) (H:Hp) (a:Addr) (xs:List V):Prop:=
 Rd H a (.lst xs)∨
  ∃(o:Obj) (its:Array Value) (n:Nat),K.lookup a=some o/\o.cls= .type "list" /\o.dict=none/\o.data= .seq its n/\its.size<=sizeLine/\aX xs its.toList
def bi (K:F5) (H:Hp) (a:Addr) (xs:List V):Prop:=
 Rd H a (.tup xs)∨
  ∃(o:Obj) (its:Array Value) (n:Nat),K.lookup a=some o/\o.cls= .type "tuple" /\o.data= .seq its n/\its.size<=sizeLine/\aX xs its.toList
noncomputable def Ec:Value->Option V
 | .none=>some .non
 | .bool b=>some (.bl b)
 | .int i _=>some (.int i)
 | .str x _=>some (.str x)
 | .bytes b _=>some (.byt b)
 | .float b _=>some (.flt b)
 | .ref a=>some (.ref a)
 | .type n=>some (.ty n)
 |_=>none
theorem RelV.abs {x:V} {u:Value} (r:RelV x u):Ec u=some x:=by
 cases x with
 |non=>cases r;rfl
 |bl _=>cases r;rfl
 |int _=>obtain ⟨t,rfl⟩:=r;rfl
 |str _=>obtain ⟨t,rfl⟩:=r;rfl
 |byt _=>obtain ⟨t,rfl⟩:=r;rfl
 |flt _=>obtain ⟨t,rfl⟩:=r;rfl
 |ref _=>cases r;rfl
 |ty _=>cases r;rfl
theorem RelV.inj {x y:V} {u:Value} (r:RelV x u) (q:RelV y u):x=y:=GK (r.abs.symm.trans q.abs)
theorem aX.inj:∀{xs ys:List V} {us:Lf},aX xs us->aX ys us->xs=ys
 |_,_,_,.nil,.nil=>rfl
 |_,_,_,.cons r t,.cons r' t'=>by rw[r.inj r',aX.inj t t']
section
variable {X:Cx} {pins:Lb} {σ:St} {H:Hp} {s:Shared} {a:Addr} {xs ys:List V}
theorem aO.of {K:F5} (h:H a=some (.lst xs)):aO K H a xs:= .inl (.inl h)
theorem bi.of {K:F5} (h:H a=some (.tup xs)):bi K H a xs:= .inl (.inl h)
theorem aM.list (I:aM X pins σ H s) (h:aO X.K H a xs):∃its:Lf,aX xs its/\PlainL s.heap a its.toArray/\xs.length<=sizeLine:=by
 rcases h with h|⟨o,its,n,hk,hc,hd,hs,hz,r⟩
 ·obtain ⟨z,its,n,r,e⟩:=h.ok I.hok;exact ⟨its,r,⟨_,n,e,rfl,rfl,rfl⟩,z⟩
 ·refine ⟨its.toList,r,⟨o,n,I.kIn a o hk,hc,hd,by simpa using hs⟩,?_⟩
  have e:=r.length;simp only[HV] at e
  lia
theorem aM.tuple (I:aM X pins σ H s) (h:bi X.K H a xs):∃its:Lf,aX xs its/\IsTup s.heap a its.toArray/\xs.length<=sizeLine:=by
 rcases h with h|⟨o,its,n,hk,hc,hs,hz,r⟩
 ·obtain ⟨z,its,r,p⟩:=h.ok I.hok;exact ⟨its,r,p,z⟩
 ·refine ⟨its.toList,r,⟨o,I.kIn a o hk,hc,n,by simpa using hs⟩,?_⟩
  have e:=r.length;simp only[HV] at e
  lia
theorem aM.list_inj (I:aM X pins σ H s) (h:aO X.K H a xs) (h':aO X.K H a ys):xs=ys:=by
 obtain ⟨its,r,⟨o,n,e,_,_,d⟩,_⟩:=I.list h;obtain ⟨its',r',⟨o',n',e',_,_,d'⟩,_⟩:=I.list h';rw[e] at e';cases e';rw[d] at d';injection d' with d1 _
 have:its=its':=by simpa using congrArg Array.toList d1
 subst this;exact r.inj r'
theorem aM.tuple_inj (I:aM X pins σ H s) (h:bi X.K H a xs) (h':bi X.K H a ys):xs=ys:=by
 obtain ⟨its,r,⟨o,e,_,n,d⟩,_⟩:=I.tuple h;obtain ⟨its',r',⟨o',e',_,n',d'⟩,_⟩:=I.tuple h';rw[e] at e';cases e';rw[d] at d';injection d' with d1 _
 have:its=its':=by simpa using congrArg Array.toList d1
 subst this;exact r.inj r'
end
abbrev Cx.wish (X:Cx) (E:K9):Cx:={X with xe:=E}
abbrev Cx.nox (X:Cx):Cx:=X.wish fun _ _=>False
theorem Cx.Ok.wish {X:Cx} (ok:X.Ok) (E:K9):(X.wish E).Ok:=
 ⟨ok.mod,ok.kind,ok.glob,ok.blt,ok.above,ok.inj,ok.has,ok.cab,ok.hd,ok.frames,ok.stk,ok.exf,ok.bs,ok.bsz,ok.noex,ok.exfs,ok.funs,ok.frf⟩
theorem Cx.Ok.unwish {X:Cx} {E:K9} (ok:(X.wish E).Ok):X.Ok:=
 ⟨ok.mod,ok.kind,ok.glob,ok.blt,ok.above,ok.inj,ok.has,ok.cab,ok.hd,ok.frames,ok.stk,ok.exf,ok.bs,ok.bsz,ok.noex,ok.exfs,ok.funs,ok.frf⟩
section
variable {X:Cx} {pins:Lb} {σ:St} {H:Hp} {s:Shared} {E:K9}
theorem aM.wish (I:aM X pins σ H s) (E:K9):aM (X.wish E) pins σ H s:=⟨I.ok.wish E,I.os,I.bare,I.base,I.loc,I.cell,I.free,I.freeC,I.pin,I.hok,I.len⟩
theorem aM.unwish (I:aM (X.wish E) pins σ H s):aM X pins σ H s:=⟨I.ok.unwish,I.os,I.bare,I.base,I.loc,I.cell,I.free,I.freeC,I.pin,I.hok,I.len⟩
theorem SP.unwish {D:Ends} {f:Flow} {s':Shared} (h:SP (X.wish E) pins D f s'):SP X pins D f s':=by
 cases f with
 |next=>obtain ⟨σ',H',I,q⟩:=h;exact ⟨σ',H',I.unwish,q⟩
 |brk=>obtain ⟨σ',H',I,q⟩:=h;exact ⟨σ',H',I.unwish,q⟩
 |cont=>obtain ⟨σ',H',I,q⟩:=h;exact ⟨σ',H',I.unwish,q⟩
 |ret u=>obtain ⟨v,σ',H',I,r,q⟩:=h;exact ⟨v,σ',H',I.unwish,r,q⟩
theorem je.nox {st:List Stmt} {t:TS} (h:je X.nox st t):je X st t:=fun pins s σ H D I hw=>
 wpAny_mono (h pins s σ H D (I.wish _) hw) (fun _ _ q=>q.unwish) fun _ _ z=>False.elim z
end
section
variable {X:Cx} {st:Stmt} {rest:List Stmt} {t u:TS} {e:Expr} {te:TE} {pos:Pos}
def bY:TS:=fun D σ H=>D.nx σ H
def lW (t u:TS):TS:=fun D σ H=>t {D with nx:=u D} σ H
theorem az:je X [] bY:=fun _ _ σ H _ I h=>wpAny_execs_nil ⟨σ,H,I,h⟩
theorem ae (h1:PS X st t) (h2:je X rest u):je X (st::rest) (lW t u):=by
 intro pins s σ H D I h;refine wpAny_execs_cons (bV (h1 pins s σ H {D with nx:=u D} I h) fun f s1 q=>?_)
 cases f with
 |next=>
  obtain ⟨σ',H',I',q⟩:=q;exact h2 pins s1 σ' H' D I' q
 |ret v=>exact q
 |brk=>exact q
 |cont=>exact q
theorem af (h1:PS X st t):je X [st] t:=by
 intro pins s σ H D I h;refine wpAny_execs_cons (bV (h1 pins s σ H D I h) fun f s1 q=>?_)
 cases f with
 |next=>exact wpAny_execs_nil q
 |ret v=>exact q
 |brk=>exact q
 |cont=>exact q
theorem aM.quiet {pins:Lb} {σ:St} {H:Hp} {s:Shared} (I:aM X pins σ H s):interactive X.env=false:=by simp[interactive,I.ok.kind]
def BP (te:TE):TS:=fun D σ H=>te σ H fun _ H1=>D.nx σ H1
theorem aT (he:PE X e te) (hs:swapsWith e none pos.line X.env=pure false:=by rfl):PS X (.Expr e pos) (BP te):=by
 intro pins s σ H D I h;exact wpAny_Expr_any (bV (he pins s σ H _ I h) fun v s1 ⟨x,H1,I1,r1,q1⟩=>⟨σ,H1,I1,q1⟩) I.quiet hs
def BQ (te:TE):TS:=fun D σ H=>te σ H D.rt
theorem au (he:PE X e te):PS X (.Return (some e) pos) (BQ te):=by
 intro pins s σ H D I h;exact wpAny_Return_some (bV (he pins s σ H _ I h) fun v s1 ⟨x,H1,I1,r1,q1⟩=>⟨x,σ,H1,I1,r1,q1⟩)
def Ed (c:TT) (t u:TS):TS:=fun D σ H=>c σ H fun b H1=>if b=true then t D σ H1 else u D σ H1
theorem aI {c:Expr} {a b:List Stmt} {tc:TT} (hc:PT X c tc) (ha:je X a t) (hb:je X b u):PS X (.If c a b pos) (Ed tc t u):=by
 intro pins s σ H D I h;refine wpAny_If (bV (hc pins s σ H _ I h) fun d s1 ⟨H1,I1,q1⟩=>?_)
 cases d with
 |true=>exact ha pins s1 σ H1 D I1 q1
 |false=>exact hb pins s1 σ H1 D I1 q1
def zr:TS:=fun _ _ _=>False
theorem cT:PS X st zr:=fun _ _ _ _ _ _ h=>h.elim
end
abbrev TG:=V->St->Hp->(St->Hp->Prop)->Prop
abbrev yF:=List V->St->Hp->(St->Hp->Prop)->Prop
def PG (X:Cx) (target:Expr) (t:TG):Prop:=
 ∀(pins:Lb) (s:Shared) (σ:St) (H:Hp) (v:V) (u:Value) (Q:St->Hp->Prop),aM X pins σ H s->RelV v u->t v σ H Q->
  wpAny (model X.prog X.w) X.A (assign target X.env u) (fun _ s'=>∃σ' H',aM X pins σ' H' s'/\Q σ' H') X.xe s
def BR (X:Cx) (ts:List Expr) (t:yF):Prop:=
 ∀(pins:Lb) (s:Shared) (σ:St) (H:Hp) (vs:List V) (us:Lf) (Q:St->Hp->Prop),aM X pins σ H s->aX vs us->t vs σ H Q->
  wpAny (model X.prog X.w) X.A (assignInOrder ((assignEach ts X.env).map (·.2)) us) (fun _ s'=>∃σ' H',aM X pins σ' H' s'/\Q σ' H') X.xe s
abbrev zt:=V->V->V->Hp->(Hp->Prop)->Prop
def BS (X:Cx) (t:zt):Prop:=
 ∀(pins:Lb) (s:Shared) (σ:St) (H:Hp) (o i v:V) (ov iv u:Value) (Q:Hp->Prop),aM X pins σ H s->RelV o ov->RelV i iv->RelV v u->t o i v H Q->
  wpAny (model X.prog X.w) X.A (setItem ov iv u) (fun _ s'=>∃H',aM X pins σ H' s'/\Q H') X.xe s
section
variable {X:Cx} {pos:Pos}
def bM (i:Nat):TG:=fun v σ H Q=>Q (σ.set i (some v)) H
theorem iX {i:Nat} {x:Str} (hN:X.N.Nodup) (hi:X.N[i]?=some x) (hx:Loc X.env.scope x) (hf:X.fn x=true∨X.env.scope.names.lookup x=some .local:=by first|exact .inl rfl|exact .inr rfl|assumption):PG X (.Name x pos) (bM i):=by
 intro pins s σ H v u Q I r h;exact wpAny_assign_Name (fF I hN hi hx r (fun s' I'=>⟨_,H,I',h⟩) hf)
def Ee:yF:=fun vs σ H Q=>vs= []/\Q σ H
def BU (t:TG) (u:yF):yF:=fun vs σ H Q=>∃v r,vs=v::r/\t v σ H fun σ' H'=>u r σ' H' Q
theorem eM:BR X [] Ee:=by
 intro pins s σ H vs us Q I r h;obtain ⟨e,h⟩:=h;subst e;cases r;exact assignInOrder_nil ⟨σ,H,I,h⟩
theorem bL {e:Expr} {es:List Expr} {t:TG} {u:yF} (h1:PG X e t) (h2:BR X es u)
  (hs:(assignEach (e::es) X.env).map (·.2)=assign e X.env::(assignEach es X.env).map (·.2):=by rfl):BR X (e::es) (BU t u):=by
 intro pins s σ H vs us Q I r h;obtain ⟨v,vr,e1,h⟩:=h;subst e1;cases r with
 |cons r rr=>
  rw[hs];refine assignInOrder_cons (bV (h1 pins s σ H _ _ _ I r h) fun _ s1 ⟨σ1,H1,I1,q1⟩=>?_)
  exact h2 pins s1 σ1 H1 _ _ Q I1 rr q1
def BV (K:F5) (n:Nat) (t:yF):TG:=fun v σ H Q=>∃a xs,v= .ref a/\bi K H a xs/\xs.length=n/\t xs σ H Q
theorem iq {es:List Expr} {k:Nat} {t:yF} {n:Nat} (hc:X.calm=true) (h:BR X es t)
  (hn:(assignEach es X.env).length=n:=by rfl) (hst:(assignEach es X.env).findIdx? (·.1)=none:=by rfl):PG X (.Tuple es k pos) (BV X.K n t):=by
 intro pins s σ H v u Q I r hw;obtain ⟨a,xs,e1,hq,hl,hw⟩:=hw;subst e1;cases r;obtain ⟨its,rv,ht,hz⟩:=I.tuple hq;refine assign_Tuple_tuple (I.ok.hd hc) ht (by simp[hn,<-hl,rv.length]) hst fun h' hx=>?_
 have I1:aM X pins σ H {s with heap:=h'}:=I.kept (t':=s.toks) fun b o e=>hx b o (GJ (Heap.lt_size e)) e
 exact h pins _ σ H xs _ Q I1 (by simpa using rv) hw
def Ef (to ti:TE) (t:zt):TG:=fun v σ H Q=>to σ H fun o H1=>ti σ H1 fun i H2=>t o i v H2 fun H3=>Q σ H3
theorem zu {o i:Expr} {to ti:TE} {t:zt} (ho:PE X o to) (hi:PE X i ti) (hs:BS X t)
  (ha:∀v,assign (.Subscript o i pos) X.env v=(do
   let ov<-holding [v] (eval o X.env)
   let iv<-holding [v,ov] (eval i X.env)
   standAt pos
   holding [v,ov,iv] (setItem ov iv v)
   release [v,ov,iv] []):=by intro _;rfl):PG X (.Subscript o i pos) (Ef to ti t):=by
 intro pins s σ H v u Q I r h;rw[ha];refine wpAny_bind (wpAny_holding (bV (ho pins s σ H _ I h) fun ov s1 ⟨x,H1,I1,r1,q1⟩=>?_))
 refine wpAny_bind (wpAny_holding (bV (hi pins s1 σ H1 _ I1 q1) fun iv s2 ⟨y,H2,I2,r2,q2⟩=>?_))
 refine wpAny_bind (wpAny_standAt (wpAny_bind (wpAny_holding (bV (hs pins s2 σ H2 x y v ov iv u _ I2 r1 r2 r q2) fun _ s3 ⟨H3,I3,q3⟩=>?_))))
 exact wpAny_release ⟨σ,H3,I3,q3⟩
def tm (te:TE) (g:TG):TS:=fun D σ H=>te σ H fun x H1=>g x σ H1 D.nx
theorem uH {tg e:Expr} {te:TE} {g:TG} (he:PE X e te) (hg:PG X tg g) (hs:swapsWithSole [tg] e pos.line X.env=pure false:=by rfl) (hw:swappedStores [tg] e X.env=pure none:=by rfl)
  (h1:(assignEach [tg] X.env).map (·.2)= [assign tg X.env]:=by rfl):PS X (.Assign [tg] e pos) (tm te g):=by
 intro pins s σ H D I h;refine wpAny_Assign_stores (bV (he pins s σ H _ I h) fun v s1 ⟨x,H1,I1,r1,q1⟩=>?_) hs hw
 rw[h1];exact bV (hg pins s1 σ H1 x v _ I1 r1 q1) fun _ s2 q=>q
theorem jf {i:Nat} {x:Str} {e:Expr} {te:TE} {pos':Pos} (hN:X.N.Nodup) (hi:X.N[i]?=some x) (hx:Loc X.env.scope x) (he:PE X e te) (hs:swapsWith e (some (.Name x pos')) pos.line X.env=pure false:=by rfl) (hf:X.fn x=true∨X.env.scope.names.lookup x=some .local:=by first|exact .inl rfl|exact .inr rfl|assumption):
  PS X (.Assign [.Name x pos'] e pos) (tm te (bM i)):=by
 intro pins s σ H D I h;refine wpAny_Assign_Name (bV (he pins s σ H _ I h) fun v s1 ⟨y,H1,I1,r1,q1⟩=>?_) hs
 exact fF I1 hN hi hx r1 (fun s2 I2=>⟨_,H1,I2,q1⟩) hf
def Eg (i j:Nat) (ta:TA):TS:=fun D σ H=>ta σ H fun vs H1=>∃v w,vs= [v,w]/\D.nx ((σ.set i (some v)).set j (some w)) H1
theorem zv {i j:Nat} {x y:Str} {a b:Expr} {ta:TA} {px py pt:Pos} {kt k2 pt2} (hc:X.calm=true) (hN:X.N.Nodup) (hi:X.N[i]?=some x) (hj:X.N[j]?=some y) (hij:i≠j)
  (hx:X.env.scope.names.lookup x=some .local) (hy:X.env.scope.names.lookup y=some .local) (ha:PA X [a,b] ta)
  (hw:swappedStores [.Tuple [.Name x px,.Name y py] kt pt] (.Tuple [a,b] k2 pt2) X.env=pure (some [x,y]))
  (hs:swapsWithSole [.Tuple [.Name x px,.Name y py] kt pt] (.Tuple [a,b] k2 pt2) pos.line X.env=pure false:=by rfl):
  PS X (.Assign [.Tuple [.Name x px,.Name y py] kt pt] (.Tuple [a,b] k2 pt2) pos) (Eg i j ta):=by
 intro pins s σ H D I h;rw[exec_Assign_arm];refine wpAny_bind (wpAny_standAt ?_);rw[hs];refine wpAny_bind (wpAny_pure ?_);rw[if_neg (by decide)]
 refine wpAny_bind (Tuple_ (bV (ha _ pins s σ H _ I h) fun us s1 ⟨vs,H1,I1,r1,q1⟩=>?_))
 obtain ⟨v,w,e1,q1⟩:=q1;subst e1;obtain ⟨u1,u2,rfl,rv,rw'⟩:∃u1 u2,us= [u1,u2]/\RelV v u1/\RelV w u2:=by
  cases r1 with
  |cons p q=>
   cases q with
   |cons p' q'=>
    cases q';exact ⟨_,_,rfl,p,p'⟩
 refine wpAny_newObj_type ?_ (by show 2<=sizeLine;decide)
 have I2:aM X pins σ H1 {s1 with heap:=s1.heap.push {cls:= .type "tuple",data:= .seq [u1,u2].toArray}}:=I1.kept (t':=s1.toks) fun b o e=>Heap.get?_push_of_some _ e
 rw[hw];refine wpAny_bind (wpAny_pure ?_);show wpAny (model X.prog X.w) X.A (do rule "assign.swapped-stores";let items<-unpackItems (.ref s1.heap.objs.size) 2 none;assignInOrder [fun v=>bindName X.env y v,fun v=>bindName X.env x v] items.reverse;pure Flow.next) _ _ _
 refine wpAny_bind (wpAny_rule (wpAny_bind (unpackItems_tuple (items:= #[u1,u2]) (I.ok.hd hc) (IsTup.new s1.heap _) fun h' hx'=>?_)))
 have I3:=I2.kept (h':=h') (t':=s1.toks) fun b o e=>hx' b o (GJ (Heap.lt_size e)) e
 show wpAny _ _ (assignInOrder [fun v=>bindName X.env y v,fun v=>bindName X.env x v] [u2,u1]>>=fun _=>pure Flow.next) _ _ _
 refine wpAny_bind (assignInOrder_cons (wpAny_bindName (fF I3 hN hj (.inl hy) rw' (fun s2 I4=>?_) (.inr hy))))
 refine assignInOrder_cons (wpAny_bindName (fF I4 hN hi (.inl hx) rv (fun s3 I5=>assignInOrder_nil (wpAny_pure ?_)) (.inr hx)))
 rw[List.set_comm _ _ (Ne.symm hij)] at I5;exact ⟨_,H1,I5,q1⟩
end
section
variable {X:Cx} {pos:Pos}
def uI (c:TT) (tb:TS):TS:=fun D σ H=>∃W:Nat->St->Hp->Prop,(∃m,W m σ H)/\∀m σ H,W m σ H->
 c σ H fun b H1=>if b=true then ∃N:St->Hp->Prop,(∀σ' H',N σ' H'->∃m',m'<m/\W m' σ' H')/\tb {D with nx:=N,ct:=N,bk:=D.nx} σ H1 else D.nx σ H1
theorem nD {c:Expr} {body:List Stmt} {tc:TT} {tb:TS} (hp:PassesOwn (model X.prog X.w) X.A X.env X.xe) (hc:PT X c tc) (hb:je X body tb):PS X (.While c body [] pos) (uI tc tb):=by
 intro pins s σ H D I h;obtain ⟨W,⟨m0,w0⟩,turn⟩:=h;refine wpAny_While (codeAny_whileLoop (fun n s'=>∃σ' H',aM X pins σ' H' s'/\W n σ' H') ?_ m0 ⟨σ,H,I,w0⟩)
 rintro n s1 ⟨σ1,H1,I1,w1⟩;refine wpAny_passesOwn hp (bV (hc pins s1 σ1 H1 _ I1 (turn n σ1 H1 w1)) fun b s2 ⟨H2,I2,q2⟩=>?_)
 cases b with
 |true=>
  obtain ⟨N,hN,q2⟩:=q2;rw[if_pos rfl];refine wpAny_passesOwn hp (bV (hb pins s2 σ1 H2 _ I2 q2) fun f s3 q3=>?_)
  cases f with
  |next=>
   obtain ⟨σ3,H3,I3,n3⟩:=q3;obtain ⟨m',hm,w3⟩:=hN σ3 H3 n3;exact ⟨m',hm,σ3,H3,I3,w3⟩
  |cont=>
   obtain ⟨σ3,H3,I3,n3⟩:=q3;obtain ⟨m',hm,w3⟩:=hN σ3 H3 n3;exact ⟨m',hm,σ3,H3,I3,w3⟩
  |brk=>exact q3
  |ret v=>exact q3
 |false=>
  rw[if_neg GE];exact wpAny_execs_nil ⟨σ1,H2,I2,q2⟩
end
structure It where
 go:Nat->Hp->Prop
 yld:Nat->Hp->V->Hp->Prop
 stop:Nat->Hp->Prop
def eR (X:Cx) (pins:Lb) (H:Hp) (b:Addr):Prop:=
 H b=none/\b≠X.env.locals/\b∉X.fs/\(b∈X.ex∨X.s₀.heap.objs.size<=b)/\(∀x c,X.env.cells.lookup x=some c->c≠b)/\∀p∈X.pn++pins,p.1≠b
theorem aM.fpOk {X:Cx} {pins:Lb} {σ:St} {H H':Hp} {s:Shared} {b:Addr} (I:aM X pins σ H s) (hb:s.heap.objs.size<=b) (hn:H' b=none):eR X pins H' b:=by
 refine ⟨hn,HG (GL I.lt hb),I.nofs hb,.inr (GP I.sz hb),fun x c e z=>?_,fun p hp z=>?_⟩
 ·obtain ⟨v,q⟩:=I.cell x c e;exact absurd (GL q.lt (by rw[z];exact hb)) (Hx _)
 ·exact absurd (GL (Heap.lt_size (I.pin p hp).1) (by rw[z];exact hb)) (Hx _)
structure Turn (P:Program) (w:World) (K:F5) (tg:Expr) (J:It) (fp:Le) (it:Addr) (tn:Nat->Heap->Prop):Prop where
 mem:it∈fp
 obj:∀i h,tn i h->∀b∈fp,∃o,h.get? b=some o/\∀v,o.data≠ .cell v
 keep:∀i h h',tn i h->(∀b∈fp,∀o,h.get? b=some o->h'.get? b=some o)->tn i h'
 item:∀(X:Cx),X.prog=P->X.w=w->X.K=K->X.calm=true->∀(i:Nat) (pins:Lb) (s:Shared) (σ:St) (H:Hp) (E:K9),aM X pins σ H s->(∀b∈fp,eR X pins H b)->tn i s.heap->J.go i H->
  wpAny (model P w) X.A (pyNext (.ref it)) (fun r s1=>∃u,r=some u/\
   wpAny (model P w) X.A (letOwnedTupleGo tg (.ref it) u) (fun _ s2=>∃x H',aM X pins σ H' s2/\RelV x u/\J.yld i H x H'/\tn (i+1) s2.heap/\∀b∈fp,H' b=none) E s1) E s
 done:∀(X:Cx),X.prog=P->X.w=w->X.K=K->X.calm=true->∀(i:Nat) (pins:Lb) (s:Shared) (σ:St) (H:Hp) (E:K9),aM X pins σ H s->(∀b∈fp,eR X pins H b)->tn i s.heap->J.stop i H->
  wpAny (model P w) X.A (pyNext (.ref it)) (fun r s1=>r=none/\aM X pins σ H s1) E s
 self:∀(A:Around) (i:Nat) (s:Shared) (Q:K9) (E:K9),tn i s.heap->Q (.ref it) s->wpAny (model P w) A (pyIter (.ref it)) Q E s
abbrev TI:=St->Hp->(It->Hp->Prop)->Prop
def Eh (X:Cx) (pins:Lb) (σ:St) (tg:Expr) (R:It->Hp->Prop) (itv:Value) (s2:Shared):Prop:=
 ∃(it:Addr) (fp:Le) (tn:Nat->Heap->Prop) (J:It) (H':Hp),itv= .ref it/\aM X pins σ H' s2/\Turn X.prog X.w X.K tg J fp it tn/\tn 0 s2.heap/\(∀b∈fp,eR X pins H' b)/\R J H'
def PI (X:Cx) (tg iter:Expr) (wi:TI):Prop:=
 ∀(pins:Lb) (s:Shared) (σ:St) (H:Hp) (R:It->Hp->Prop),aM X pins σ H s->wi σ H R->
  wpAny (model X.prog X.w) X.A (eval iter X.env) (fun v s1=>wpAny (model X.prog X.w) X.A (pyIter v) (Eh X pins σ tg R) X.xe s1) X.xe s
theorem uJ {M:Model} {A:Around} {E:K9} {s:Shared} {tg:Expr} {it:Addr} {u:Value} {o:Obj} {n:String} {vs:Array Value} {Q:Unit->Shared->Prop} (ho:s.heap.get? it=some o) (hc:o.cls= .type n) (hd:o.data= .fields vs)
    (hn: ["enumerate","zip","dict_itemiterator","dict_reverseitemiterator","odict_iterator","itertools.zip_longest","itertools.pairwise"].contains n=false) (hQ:Q () s):wpAny M A (letOwnedTupleGo tg (.ref it) u) Q E s:=by
  unfold letOwnedTupleGo;cases tg<;>first
    |exact wpAny_pure hQ
    | (cases u<;>first
        |exact wpAny_pure hQ
        | (refine wpAny_bind (wpAny_load ho ?_)
           rw[hc,hd];show wpAny M A (if (["enumerate","zip","dict_itemiterator","dict_reverseitemiterator","odict_iterator","itertools.zip_longest","itertools.pairwise"].contains n&&vs[0]?==some (rawInt _))=true then _ else _) Q E s
           rw[if_neg (by intro h;rw[hn,Bool.false_and] at h;cases h)]
           exact wpAny_pure hQ))
noncomputable def wU (K:F5) (a:Addr):It:=
 ⟨fun i H=>∃xs x,aO K H a xs/\xs[i]?=some x,fun i H x H'=>H'=H/\∀xs,aO K H a xs->xs[i]?=some x,fun i H=>∃xs,aO K H a xs/\xs.length<=i⟩
noncomputable def BA (lo:Int) (n:Nat):It:=⟨fun i _=>i<n,fun i H x H'=>H'=H/\x= .int (lo+i),fun i _=>n<=i⟩
theorem tq {P:Program} {w:World} {K:F5} {tg:Expr} (a it:Addr):Turn P w K tg (wU K a) [it] it (fun i h=>h.IsListIter it a i) where
 mem:=by simp
 obj:=fun i h st b hb=>by
  have e:b=it:=by simpa using hb
  subst e;obtain ⟨o,e,c,d⟩:=st;exact ⟨o,e,fun v z=>by rw[d] at z;cases z⟩
 keep:=fun i h h' st k=>st.at fun o e=>k it (by simp) o e
 item:=by
  intro X hP hw hK hc i pins s σ H E I hf st hg;subst hP hw hK;obtain ⟨xs,x,hq,hx⟩:=hg;obtain ⟨its,rv,p,hz⟩:=I.list hq;obtain ⟨u,hu,ru⟩:=rv.get hx;obtain ⟨f0,f1,f2,f3,f4,f5⟩:=hf it (by simp)
  refine wpAny_pyNext_list_item st p.isList (x:=u) (by simpa using hu) fun h' st' sb=>?_
  have I1:aM X pins σ H {s with heap:=h'}:=I.turned (t':=s.toks) (fun b o hb e=>(sb.2 b hb).trans e) f0 f1 f3 f4 f5
  obtain ⟨o,e,c,d⟩:=id st';exact ⟨u,rfl,uJ (s:={s with heap:=h'}) e c d (by decide) ⟨x,H,I1,ru,⟨rfl,fun ys hy=>by rw[I.list_inj hy hq];exact hx⟩,st',fun b hb=>(hf b hb).1⟩⟩
 done:=by
  intro X hP hw hK hc i pins s σ H E I hf st hg;subst hP hw hK;obtain ⟨xs,hq,hx⟩:=hg;obtain ⟨its,rv,p,hz⟩:=I.list hq;obtain ⟨f0,f1,f2,f3,f4,f5⟩:=hf it (by simp)
  have hl:=rv.length;exact wpAny_pyNext_list_end (I.ok.hd hc) st p.isList (by simp;lia) fun h' eb=>⟨rfl,I.turned (t':=s.toks) (fun b o hb e=>eb b o hb e) f0 f1 f3 f4 f5⟩
 self:=fun _ _ _ _ _ st h=>wpAny_pyIter_listiter st h
theorem pS {P:Program} {w:World} {K:F5} {tg:Expr} (it:Addr) (lo:Int) (n:Nat):Turn P w K tg (BA lo n) [it] it (fun i h=>IsRangeIter h it (lo+(i:Nat)*1) ((n:Int)-(i:Nat)) 1) where
 mem:=by simp
 obj:=fun i h st b hb=>by
  have e:b=it:=by simpa using hb
  subst e;exact ⟨_,st,fun v z=>by
   have z':Data.fields _=Data.cell v:=z;cases z'⟩
 keep:=fun i h h' st k=>k it (by simp) _ st
 item:=by
  intro X hP hw hK hc i pins s σ H E I hf st hg;subst hP hw hK;obtain ⟨f0,f1,f2,f3,f4,f5⟩:=hf it (by simp)
  have W:=Walks.range (prog:=X.prog) (w:=X.w) (I.ok.hd hc) it lo 1 n;refine W.item i s _ _ hg st fun v h' tk hv st' kk=>?_
  obtain ⟨t,rfl⟩:=hv;have I1:aM X pins σ H {s with heap:=h',toks:=tk}:=I.turned (fun b o hb e=>kk b o (by simpa using hb) e) f0 f1 f3 f4 f5
  refine ⟨_,rfl,uJ (s:={s with heap:=h',toks:=tk}) (n:= "range_iterator") st' rfl rfl (by decide) ⟨.int (lo+i),H,I1,⟨t,?_⟩,⟨rfl,rfl⟩,st',fun b hb=>(hf b hb).1⟩⟩
  rw[Hl]
 done:=by
  intro X hP hw hK hc i pins s σ H E I hf st hg;subst hP hw hK;obtain ⟨f0,f1,f2,f3,f4,f5⟩:=hf it (by simp)
  exact wpAny_pyNext_range_end (I.ok.hd hc) st (by have:n<=i:=hg;lia) fun h' eb=>⟨rfl,I.turned (t':=s.toks) (fun b o hb e=>eb b o hb e) f0 f1 f3 f4 f5⟩
 self:=fun _ _ _ _ _ st h=>wpAny_pyIter_rangeiter st h
variable {X:Cx} {tg:Expr}
def BW (K:F5) (tl:TE):TI:=fun σ H R=>tl σ H fun x H1=>∃a,x= .ref a/\(∃xs,aO K H1 a xs)/\R (wU K a) H1
theorem cX {l:Expr} {tl:TE} (hl:PE X l tl):PI X tg l (BW X.K tl):=by
 intro pins s σ H R I h;refine bV (hl pins s σ H _ I h) fun v s1 ⟨x,H1,I1,r1,q1⟩=>?_
 obtain ⟨a,e,⟨xs,hq⟩,q⟩:=q1;subst e;cases r1;obtain ⟨its,rv,p,hz⟩:=I1.list hq;refine wpAny_pyIter_list p.isList ?_;refine ⟨s1.heap.objs.size,[s1.heap.objs.size],_,_,H1,rfl,I1.kept (t':=s1.toks) fun b o e=>Heap.get?_push_of_some _ e,tq a _,⟨_,Heap.get?_push_size _ rfl,rfl,rfl⟩,fun b hb=>?_,q⟩
 have e:b=s1.heap.objs.size:=by simpa using hb
 subst e;exact I1.fpOk (FO _) (I1.hok.fresh (FO _))
theorem uK {pins:Lb} {σ:St} {H:Hp} {s:Shared} {R:It->Hp->Prop} {E:K9} {lo hi:Int} {t u v:Tok} {tk:Nat} (I:aM X pins σ H s) (h1: -(2^62)<=lo) (h2:lo<2^62) (h3: -(2^62)<=hi) (h4:hi<2^62)
  (q:R (BA lo (hi-lo).toNat) H):wpAny (model X.prog X.w) X.A (pyIter (.ref s.heap.objs.size)) (Eh X pins σ tg R) E {s with heap:=s.heap.push {cls:= .type "range",data:= .fields #[.int lo t,.int hi u,.int 1 v]},toks:=tk}:=by
 refine wpAny_pyIter_range (IsRange.new ..) (small_one h1 h2 h3 h4) ?_;have I1:aM X pins σ H {s with heap:=s.heap.push {cls:= .type "range",data:= .fields #[.int lo t,.int hi u,.int 1 v]},toks:=tk}:=I.kept fun b o e=>Heap.get?_push_of_some _ e
 refine ⟨(s.heap.push {cls:= .type "range",data:= .fields #[.int lo t,.int hi u,.int 1 v]}).objs.size,[(s.heap.push {cls:= .type "range",data:= .fields #[.int lo t,.int hi u,.int 1 v]}).objs.size],_,_,H,rfl,
  I1.kept (t':=tk) fun b o e=>Heap.get?_push_of_some _ e,pS _ lo (hi-lo).toNat,?_,fun b hb=>?_,q⟩
 ·have e1:lo+((0:Nat):Int)*1=lo:=by simp
  have e2:(((hi-lo).toNat:Nat):Int)-((0:Nat):Int)=Builtin.Range.rangeSize lo hi 1:=by rw[rangeSize_one];split<;>lia
  show IsRangeIter _ _ (lo+((0:Nat):Int)*1) ((((hi-lo).toNat:Nat):Int)-((0:Nat):Int)) 1;rw[e1,e2];exact Heap.get?_push_size _ rfl
 ·have e:b=(s.heap.push {cls:= .type "range",data:= .fields #[.int lo t,.int hi u,.int 1 v]}).objs.size:=by simpa using hb
  subst e;exact I1.fpOk (FO _) (I1.hok.fresh (FO _))
def BX (ta:TA):TI:=fun σ H R=>ta σ H fun vs H1=>∃j:Int,vs= [.int j]/\ -(2^62)<=j/\j<2^62/\R (BA 0 j.toNat) H1
theorem cu {a:Expr} {ta:TA} {p pos:Pos} (hg:Gl X "range") (hm:X.mg "range" =none) (ha:PA X [a] ta) (hs:starEach [a] X.env= [(false,eval a X.env)]:=by rfl):PI X tg (.Call (.Name "range" p) [a] [] pos) (BX ta):=by
 intro pins s σ H R I h;refine Call_ (gh I hg hm boot_range (HZ (bV (ha pos pins s σ H _ I h) fun us s1 ⟨vs,H1,I1,r1,q1⟩=>?_) hs rfl))
 obtain ⟨j,e,q1,q2,q⟩:=q1;subst e;cases r1 with
 |cons r rr=>
  cases rr;obtain ⟨t,rfl⟩:=r;exact call_range_1 (uK I1 (by lia) (by lia) q1 q2 (by simpa using q))
def BY (wi:TI) (g:TG) (tb:TS):TS:=fun D σ H=>wi σ H fun J H1=>∃W:Nat->Nat->St->Hp->Prop,(∃m,W 0 m σ H1)/\∀i m σ H,W i m σ H->
 (J.stop i H/\D.nx σ H)∨(J.go i H/\∃N:St->Hp->Prop,(∀σ' H',N σ' H'->∃m',m'<m/\W (i+1) m' σ' H')/\∀x H',J.yld i H x H'->g x σ H' fun σ2 H2=>tb {D with nx:=N,ct:=N,bk:=D.nx} σ2 H2)
noncomputable def lX (fp:Le) (h:Heap):Lb:=fp.filterMap fun b=>(h.get? b).map fun o=>(b,o)
theorem cf {fp:Le} {h:Heap} {b:Addr} {o:Obj} (hb:b∈fp) (e:h.get? b=some o):(b,o)∈lX fp h:=List.mem_filterMap.mpr ⟨b,hb,by rw[e];rfl⟩
theorem tu {fp:Le} {h:Heap} {p:Addr×Obj} (hp:p∈lX fp h):p.1∈fp/\h.get? p.1=some p.2:=by
 obtain ⟨b,hb,e⟩:=List.mem_filterMap.mp hp;cases q:h.get? b with
 |none=>rw[q] at e;cases e
 |some o=>
  rw[q] at e;have e':(b,o)=p:=GK e;subst e';exact ⟨hb,q⟩
theorem aM.pinned {pins:Lb} {σ:St} {H:Hp} {s:Shared} {fp:Le} (I:aM X pins σ H s) (hf:∀b∈fp,eR X pins H b) (ho:∀b∈fp,∃o,s.heap.get? b=some o/\∀v,o.data≠ .cell v):aM X (pins++lX fp s.heap) σ H s:=
 I.pins_of fun p hp=>(GD.mp hp).elim (fun z=>I.pin p (FU _ z)) fun z=>by
  obtain ⟨hb,e⟩:=tu z;obtain ⟨f0,f1,f2,_⟩:=hf p.1 hb;obtain ⟨o,e',d⟩:=ho p.1 hb;rw[e] at e';cases e';exact ⟨e,f0,f1,f2,d⟩
theorem aM.unpinned {pins pl:Lb} {σ:St} {H:Hp} {s:Shared} (I:aM X (pins++pl) σ H s):aM X pins σ H s:=I.pins_of fun p hp=>I.pin p (FU _ (Gu _ hp))
theorem cv {iter:Expr} {body:List Stmt} {wi:TI} {g:TG} {tb:TS} {pos:Pos} (hp:PassesOwn (model X.prog X.w) X.A X.env X.xe) (hc:X.calm=true) (hi:PI X tg iter wi) (hg:PG X tg g) (hb:je X body tb)
  (hs:∀x,foldedSetIterable iter X.env x=pure x:=by intro _;rfl):PS X (.For tg iter body [] pos) (BY wi g tb):=by
 intro pins s σ H D I h;refine wpAny_For (bV (hi pins s σ H _ I h) fun v s1 h1=>bV h1 fun itv s2 h2=>?_) hs
 obtain ⟨it,fp,tn,J,H2,e,I2,T,st2,f2,W,⟨m0,w0⟩,turn⟩:=h2;subst e;have stat:∀{H':Hp},(∀b∈fp,H' b=none)->∀b∈fp,eR X pins H' b:=fun hn b hb=>⟨hn b hb,(f2 b hb).2⟩
 refine codeAny_forLoop_any (fun n s'=>∃i σ' H',aM X pins σ' H' s'/\tn i s'.heap/\(∀b∈fp,H' b=none)/\W i n σ' H') ?_ m0 ⟨0,σ,H2,I2,st2,fun b hb=>(f2 b hb).1,w0⟩
 rintro n s3 ⟨i,σ3,H3,I3,st3,fr3,w3⟩;rcases turn i n σ3 H3 w3 with ⟨stop,qn⟩|⟨go,N,hN,step⟩
 ·refine wpAny_passesOwn hp (bV (T.done X rfl rfl rfl hc i pins s3 σ3 H3 X.xe I3 (stat fr3) st3 stop) fun r s4 ⟨hr,I4⟩=>?_)
  subst hr;exact wpAny_execs_nil ⟨σ3,H3,I4,qn⟩
 ·refine wpAny_passesOwn hp (bV (T.item X rfl rfl rfl hc i pins s3 σ3 H3 X.xe I3 (stat fr3) st3 go) fun r s4 ⟨u,hr,h4⟩=>?_)
  subst hr;refine wpAny_passesOwn hp (bV h4 fun _ s5 ⟨x,H5,I5,r5,y5,st5,fr5⟩=>?_)
  have I5':=I5.pinned (stat fr5) (T.obj _ _ st5);refine wpAny_passesOwn hp (bV (hg _ s5 σ3 H5 x u _ I5' r5 (step x H5 y5)) fun _ s6 ⟨σ6,H6,I6,q6⟩=>?_)
  refine wpAny_passesOwn hp (bV (hb _ s6 σ6 H6 _ I6 q6) fun f s7 q7=>?_)
  have again:∀{σ7:St} {H7:Hp},aM X (pins++lX fp s5.heap) σ7 H7 s7->N σ7 H7->∃m,m<n/\∃i σ' H',aM X pins σ' H' s7/\tn i s7.heap/\(∀b∈fp,H' b=none)/\W i m σ' H':=fun {σ7 H7} I7 n7=>by
   obtain ⟨m',hm,w7⟩:=hN σ7 H7 n7;refine ⟨m',hm,i+1,σ7,H7,I7.unpinned,T.keep _ _ _ st5 fun b hb o e=>(I7.pin (b,o) (FU _ (FU _ (cf hb e)))).1,fun b hb=>?_,w7⟩
   obtain ⟨o,e,d⟩:=T.obj _ _ st5 b hb;exact (I7.pin (b,o) (FU _ (FU _ (cf hb e)))).2.1
  cases f with
  |next=>obtain ⟨σ7,H7,I7,n7⟩:=q7;exact again I7 n7
  |cont=>obtain ⟨σ7,H7,I7,n7⟩:=q7;exact again I7 n7
  |brk=>obtain ⟨σ7,H7,I7,q7⟩:=q7;exact ⟨σ7,H7,I7.unpinned,q7⟩
  |ret v=>obtain ⟨x7,σ7,H7,I7,r7,q7⟩:=q7;exact ⟨x7,σ7,H7,I7.unpinned,r7,q7⟩
theorem jg {K:F5} {a:Addr} {xs:List V} {g:TG} {tb:TS} {D:Ends} {σ:St} {H:Hp} (Pv:Nat->St->Hp->Prop) (h0:Pv 0 σ H) (hl:∀i σ H,i<=xs.length->Pv i σ H->aO K H a xs)
  (hs:∀i x σ H,xs[i]?=some x->Pv i σ H->g x σ H fun σ2 H2=>tb {D with nx:=Pv (i+1),ct:=Pv (i+1),bk:=D.nx} σ2 H2) (hd:∀σ H,Pv xs.length σ H->D.nx σ H):
  ∃W:Nat->Nat->St->Hp->Prop,(∃m,W 0 m σ H)/\∀i m σ H,W i m σ H->
   ((wU K a).stop i H/\D.nx σ H)∨((wU K a).go i H/\∃N:St->Hp->Prop,(∀σ' H',N σ' H'->∃m',m'<m/\W (i+1) m' σ' H')/\∀x H',(wU K a).yld i H x H'->g x σ H' fun σ2 H2=>tb {D with nx:=N,ct:=N,bk:=D.nx} σ2 H2):=by
 refine ⟨fun i m σ H=>m=xs.length-i/\i<=xs.length/\Pv i σ H,⟨xs.length,by simp,Gi _,h0⟩,?_⟩
 rintro i m σ H ⟨rfl,hi,p⟩;have q:=hl i σ H hi p
 by_cases hlt:i<xs.length
 ·refine .inr ⟨⟨xs,xs[i],q,by simp[hlt]⟩,Pv (i+1),fun σ' H' p'=>⟨xs.length-(i+1),by lia,rfl,hlt,p'⟩,fun x H' y=>?_⟩
  obtain ⟨e,y⟩:=y;subst e;exact hs i x σ _ (y xs q) p
 ·have e:i=xs.length:=by lia
  subst e;exact .inl ⟨⟨xs,q,FO _⟩,hd σ H p⟩
theorem cw {lo:Int} {n:Nat} {g:TG} {tb:TS} {D:Ends} {σ:St} {H:Hp} (Pv:Nat->St->Hp->Prop) (h0:Pv 0 σ H)
  (hs:∀i σ H,i<n->Pv i σ H->g (.int (lo+i)) σ H fun σ2 H2=>tb {D with nx:=Pv (i+1),ct:=Pv (i+1),bk:=D.nx} σ2 H2) (hd:∀σ H,Pv n σ H->D.nx σ H):
  ∃W:Nat->Nat->St->Hp->Prop,(∃m,W 0 m σ H)/\∀i m σ H,W i m σ H->
   ((BA lo n).stop i H/\D.nx σ H)∨((BA lo n).go i H/\∃N:St->Hp->Prop,(∀σ' H',N σ' H'->∃m',m'<m/\W (i+1) m' σ' H')/\∀x H',(BA lo n).yld i H x H'->g x σ H' fun σ2 H2=>tb {D with nx:=N,ct:=N,bk:=D.nx} σ2 H2):=by
 refine ⟨fun i m σ H=>m=n-i/\i<=n/\Pv i σ H,⟨n,by simp,Gi _,h0⟩,?_⟩
 rintro i m σ H ⟨rfl,hi,p⟩
 by_cases hlt:i<n
 ·refine .inr ⟨hlt,Pv (i+1),fun σ' H' p'=>⟨n-(i+1),by lia,rfl,hlt,p'⟩,fun x H' y=>?_⟩
  obtain ⟨e,y⟩:=y;subst e y;exact hs i σ _ hlt p
 ·have e:i=n:=by lia
  subst e;exact .inl ⟨FO _,hd σ H p⟩
theorem nE {c:TT} {tb:TS} {D:Ends} {σ:St} {H:Hp} (Pv:St->Hp->Prop) (μ:St->Hp->Nat) (h0:Pv σ H)
  (hs:∀σ H,Pv σ H->c σ H fun b H1=>if b=true then tb {D with nx:=fun σ' H'=>Pv σ' H'/\μ σ' H'<μ σ H,ct:=fun σ' H'=>Pv σ' H'/\μ σ' H'<μ σ H,bk:=D.nx} σ H1 else D.nx σ H1)
  (mono:∀σ H Q Q',(∀b H1,Q b H1->Q' b H1)->c σ H Q->c σ H Q'):uI c tb D σ H:=by
 refine ⟨fun m σ H=>m=μ σ H/\Pv σ H,⟨_,rfl,h0⟩,?_⟩
 rintro m σ H ⟨rfl,p⟩;refine mono σ H _ _ (fun b H1 q=>?_) (hs σ H p)
 cases b with
 |true=>exact ⟨_,fun σ' H' ⟨p',l⟩=>⟨_,l,rfl,p'⟩,q⟩
 |false=>exact q
abbrev R2:=V->V->Hp->VK->Prop
def ik (X:Cx) (f:Value->Value->Sem Value) (r:R2):Prop:=
 ∀(pins:Lb) (s:Shared) (σ:St) (H:Hp) (x y:V) (v u:Value) (Q:VK),aM X pins σ H s->RelV x v->RelV y u->r x y H Q->
  wpAny (model X.prog X.w) X.A (f v u) (EP X pins σ Q) X.xe s
def Ei (X:Cx) (f:Value->Sem Value) (r:V->Hp->VK->Prop):Prop:=
 ∀(pins:Lb) (s:Shared) (σ:St) (H:Hp) (x:V) (v:Value) (Q:VK),aM X pins σ H s->RelV x v->r x H Q->
  wpAny (model X.prog X.w) X.A (f v) (EP X pins σ Q) X.xe s
def c7 (X:Cx) (f:Value) (r:List V->Hp->VK->Prop):Prop:=
 ∀(pins:Lb) (s:Shared) (σ:St) (H:Hp) (xs:List V) (us:Lf) (Q:VK),aM X pins σ H s->aX xs us->r xs H Q->
  wpAny (model X.prog X.w) X.A (call f us) (EP X pins σ Q) X.xe s
def zw (r:R2) (ta tb:TE):TE:=fun σ H Q=>ta σ H fun x H1=>tb σ H1 fun y H2=>r x y H2 Q
def Fw (r:V->Hp->VK->Prop) (ta:TE):TE:=fun σ H Q=>ta σ H fun x H1=>r x H1 Q
def rI (C:Int->Int->Prop) (g:Int->Int->V):R2:=fun x y H Q=>∃i j,x= .int i/\y= .int j/\C i j/\Q (g i j) H
def wV (g:Int->Int->V):R2:=fun x y H Q=>∃i j,x= .int i/\y= .int j/\Q (g i j) H
def rU (g:Int->V):V->Hp->VK->Prop:=fun x H Q=>∃i,x= .int i/\Q (g i) H
section
variable {a b c:Expr} {ta tb tc:TE} {pos:Pos}
theorem zx (ha:PE X a ta) (hb:PE X b tb) {pins:Lb} {s:Shared} {σ:St} {H:Hp} {R:V->V->Hp->Prop} (I:aM X pins σ H s)
  (h:ta σ H fun x H1=>tb σ H1 fun y H2=>R x y H2) {Q:K9} {f:Value->Value->Sem Value}
  (hf:∀v u s2 x y H2,aM X pins σ H2 s2->RelV x v->RelV y u->R x y H2->wpAny (model X.prog X.w) X.A (f v u) Q X.xe s2):
  wpAny (model X.prog X.w) X.A (eval a X.env) (fun v s₁=>wpAny (model X.prog X.w) X.A (eval b X.env) (fun u s₂=>wpAny (model X.prog X.w) X.A (f v u) Q X.xe s₂) X.xe s₁) X.xe s:=by
 refine bV (ha pins s σ H _ I h) fun v s1 ⟨x,H1,I1,r1,q1⟩=>?_
 refine bV (hb pins s1 σ H1 _ I1 q1) fun u s2 ⟨y,H2,I2,r2,q2⟩=>?_
 exact hf v u s2 x y H2 I2 r1 r2 q2
theorem ak {op:Operator} {r:R2} (ho:ik X (binaryOp op) r) (ha:PE X a ta) (hb:PE X b tb):PE X (.BinOp a op b pos) (zw r ta tb):=by
 intro pins s σ H Q I h;exact wpAny_BinOp (zx ha hb I h fun v u s2 x y H2 I2 rx ry q=>ho pins s2 σ H2 x y v u Q I2 rx ry q)
theorem kC {op:UnaryOp} {r:V->Hp->VK->Prop} (ho:Ei X (unaryOp op) r) (ha:PE X a ta):PE X (.UnaryOp op a pos) (Fw r ta):=by
 intro pins s σ H Q I h;exact UnaryOp_ (bV (ha pins s σ H _ I h) fun v s1 ⟨x,H1,I1,r1,q1⟩=>ho pins s1 σ H1 x v Q I1 r1 q1)
theorem DL {f:Value->Value->Sem Value} {C:Int->Int->Prop} {g:Int->Int->Int}
  (rule:∀(i j:Int) (t u:Tok) (s:Shared) (Q:K9) (E:K9),C i j->Q (.int (g i j) s.toks) {s with toks:=s.toks+1}->wpAny (model X.prog X.w) X.A (f (.int i t) (.int j u)) Q E s):
  ik X f (rI C fun i j=> .int (g i j)):=by
 intro pins s σ H x y v u Q I rx ry h;obtain ⟨i,j,rfl,rfl,hc,q⟩:=h;obtain ⟨t,rfl⟩:=rx;obtain ⟨t',rfl⟩:=ry;exact rule i j t t' s _ _ hc ⟨.int (g i j),H,I.tok _,⟨_,rfl⟩,q⟩
theorem BZ {f:Value->Value->Sem Value} {g:Int->Int->Int}
  (rule:∀(i j:Int) (t u:Tok) (s:Shared) (Q:K9) (E:K9),Q (.int (g i j) s.toks) {s with toks:=s.toks+1}->wpAny (model X.prog X.w) X.A (f (.int i t) (.int j u)) Q E s):
  ik X f (wV fun i j=> .int (g i j)):=by
 intro pins s σ H x y v u Q I rx ry h;obtain ⟨i,j,rfl,rfl,q⟩:=h;obtain ⟨t,rfl⟩:=rx;obtain ⟨t',rfl⟩:=ry;exact rule i j t t' s _ _ ⟨.int (g i j),H,I.tok _,⟨_,rfl⟩,q⟩
theorem wW {f:Value->Value->Sem Value} {g:Int->Int->Bool}
  (rule:∀(i j:Int) (t u:Tok) (s:Shared) (Q:K9) (E:K9),Q (.bool (g i j)) s->wpAny (model X.prog X.w) X.A (f (.int i t) (.int j u)) Q E s):
  ik X f (wV fun i j=> .bl (g i j)):=by
 intro pins s σ H x y v u Q I rx ry h;obtain ⟨i,j,rfl,rfl,q⟩:=h;obtain ⟨t,rfl⟩:=rx;obtain ⟨t',rfl⟩:=ry;exact rule i j t t' s _ _ ⟨.bl (g i j),H,I,rfl,q⟩
theorem bH:ik X (binaryOp .Add) (wV fun i j=> .int (i+j)):=BZ fun _ _ _ _ _ _ _ q=>add_int q
theorem pT:ik X (binaryOp .Sub) (wV fun i j=> .int (i-j)):=BZ fun _ _ _ _ _ _ _ q=>sub_int q
theorem aJ:ik X (binaryOp .Mod) (rI (fun _ j=>j≠0) fun i j=> .int (i.fmod j)):=DL fun _ _ _ _ _ _ _ hc q=>mod_int' hc q
theorem Fx {f:Value->Sem Value} {g:Int->Int}
  (rule:∀(i:Int) (t:Tok) (s:Shared) (Q:K9) (E:K9),Q (.int (g i) s.toks) {s with toks:=s.toks+1}->wpAny (model X.prog X.w) X.A (f (.int i t)) Q E s):
  Ei X f (rU fun i=> .int (g i)):=by
 intro pins s σ H x v Q I rx h;obtain ⟨i,rfl,q⟩:=h;obtain ⟨t,rfl⟩:=rx;exact rule i t s _ _ ⟨.int (g i),H,I.tok _,⟨_,rfl⟩,q⟩
theorem ir:Ei X (unaryOp .USub) (rU fun i=> .int (-i)):=Fx fun _ _ _ _ _ q=>neg_int q
end
noncomputable def B0:V->V->Bool
 | .non,.non=>true| .non,.int _=>true| .int _,.non=>true| .non,.bl _=>true| .bl _,.non=>true| .non,.str _=>true| .str _,.non=>true
 | .int _,.int _=>true| .bl _,.bl _=>true| .str _,.str _=>true| .byt _,.byt _=>true
 | .int _,.str _=>true| .str _,.int _=>true| .bl _,.str _=>true| .str _,.bl _=>true
 |_,_=>false
def Fy:R2:=fun x y H Q=>B0 x y=true/\Q (.bl (decide (x=y))) H
def FA:R2:=fun x y H Q=>B0 x y=true/\Q (.bl (!decide (x=y))) H
theorem qY {i j:Int}:decide (V.int i=V.int j)=(i==j):=by
 rw[Bool.eq_iff_iff];simp
theorem uL {i j:Bool}:decide (V.bl i=V.bl j)=(i==j):=by
 rw[Bool.eq_iff_iff];simp
theorem qZ {i j:Str}:decide (V.str i=V.str j)=(i==j):=by
 rw[Bool.eq_iff_iff];simp
theorem q8 {i j:Array UInt8}:decide (V.byt i=V.byt j)=(i.toList==j.toList):=by
 rw[Bool.eq_iff_iff];cases i;cases j;simp
section
variable {a b c:Expr} {ta tb tc:TE} {pos:Pos}
theorem bF {pins:Lb} {σ:St} {H:Hp} {s:Shared} {Q:VK} {k k':Bool} (I:aM X pins σ H s) (q:Q (.bl k) H) (e:k=k'):EP X pins σ Q (.bool k') s:=by
 subst e;exact ⟨.bl k,H,I,rfl,q⟩
theorem bO:ik X (compareOp .Eq) Fy:=by
 intro pins s σ H x y v u Q I rx ry h;obtain ⟨hs,q⟩:=h;cases x with
 |non=>
  cases rx;cases y with
  |non=>cases ry;exact PySem.EqNone.eq_none_none (bF I q (by simp))
  |bl j=>cases ry;exact PySem.EqNone.eq_none_bool (bF I q (by simp))
  |int j=>obtain ⟨t',rfl⟩:=ry;exact PySem.EqNone.eq_none_int (bF I q (by simp))
  |str j=>obtain ⟨t',rfl⟩:=ry;exact PySem.EqNone.eq_none_str (bF I q (by simp))
  |_=>exact absurd (show false=true from hs) GE
 |bl i=>
  cases rx;cases y with
  |non=>cases ry;exact PySem.EqNone.eq_bool_none (bF I q (by simp))
  |bl j=>cases ry;exact eq_bool (bF I q uL)
  |str j=>obtain ⟨t',rfl⟩:=ry;exact PySem.EqMixed.eq_bool_str (bF I q (by simp))
  |_=>exact absurd (show false=true from hs) GE
 |int i=>
  obtain ⟨t,rfl⟩:=rx;cases y with
  |non=>cases ry;exact PySem.EqNone.eq_int_none (bF I q (by simp))
  |int j=>obtain ⟨t',rfl⟩:=ry;exact eq_int (bF I q qY)
  |str j=>obtain ⟨t',rfl⟩:=ry;exact PySem.EqMixed.eq_int_str (bF I q (by simp))
  |_=>exact absurd (show false=true from hs) GE
 |str i=>
  obtain ⟨t,rfl⟩:=rx;cases y with
  |non=>cases ry;exact PySem.EqNone.eq_str_none (bF I q (by simp))
  |bl j=>cases ry;exact PySem.EqMixed.eq_str_bool (bF I q (by simp))
  |int j=>obtain ⟨t',rfl⟩:=ry;exact PySem.EqMixed.eq_str_int (bF I q (by simp))
  |str j=>obtain ⟨t',rfl⟩:=ry;exact eq_str (bF I q qZ)
  |_=>exact absurd (show false=true from hs) GE
 |byt i=>
  obtain ⟨t,rfl⟩:=rx;cases y with
  |byt j=>obtain ⟨t',rfl⟩:=ry;exact PySem.W.eq_bytes (bF I q q8)
  |_=>exact absurd (show false=true from hs) GE
 |_=>cases y<;>exact absurd (show false=true from hs) GE
theorem gG:ik X (compareOp .NotEq) FA:=by
 intro pins s σ H x y v u Q I rx ry h;obtain ⟨hs,q⟩:=h;cases x with
 |non=>
  cases rx;cases y with
  |non=>cases ry;exact PySem.EqNone.ne_none_none (bF I q (by simp))
  |bl j=>cases ry;exact PySem.EqNone.ne_none_bool (bF I q (by simp))
  |int j=>obtain ⟨t',rfl⟩:=ry;exact PySem.EqNone.ne_none_int (bF I q (by simp))
  |str j=>obtain ⟨t',rfl⟩:=ry;exact PySem.EqNone.ne_none_str (bF I q (by simp))
  |_=>exact absurd (show false=true from hs) GE
 |bl i=>
  cases rx;cases y with
  |non=>cases ry;exact PySem.EqNone.ne_bool_none (bF I q (by simp))
  |bl j=>cases ry;exact ne_bool (bF I q (congrArg not uL))
  |str j=>obtain ⟨t',rfl⟩:=ry;exact PySem.EqMixed.ne_bool_str (bF I q (by simp))
  |_=>exact absurd (show false=true from hs) GE
 |int i=>
  obtain ⟨t,rfl⟩:=rx;cases y with
  |non=>cases ry;exact PySem.EqNone.ne_int_none (bF I q (by simp))
  |int j=>obtain ⟨t',rfl⟩:=ry;exact ne_int (bF I q (congrArg not qY))
  |str j=>obtain ⟨t',rfl⟩:=ry;exact PySem.EqMixed.ne_int_str (bF I q (by simp))
  |_=>exact absurd (show false=true from hs) GE
 |str i=>
  obtain ⟨t,rfl⟩:=rx;cases y with
  |non=>cases ry;exact PySem.EqNone.ne_str_none (bF I q (by simp))
  |bl j=>cases ry;exact PySem.EqMixed.ne_str_bool (bF I q (by simp))
  |int j=>obtain ⟨t',rfl⟩:=ry;exact PySem.EqMixed.ne_str_int (bF I q (by simp))
  |str j=>obtain ⟨t',rfl⟩:=ry;exact ne_str (bF I q (congrArg not qZ))
  |_=>exact absurd (show false=true from hs) GE
 |byt i=>
  obtain ⟨t,rfl⟩:=rx;cases y with
  |byt j=>obtain ⟨t',rfl⟩:=ry;exact PySem.W.ne_bytes (bF I q (congrArg not q8))
  |_=>exact absurd (show false=true from hs) GE
 |_=>cases y<;>exact absurd (show false=true from hs) GE
theorem kD:ik X (compareOp .Lt) (wV fun i j=> .bl (decide (i<j))):=wW fun _ _ _ _ _ _ _ q=>lt_int q
theorem yG:ik X (compareOp .LtE) (wV fun i j=> .bl (decide (i<=j))):=wW fun _ _ _ _ _ _ _ q=>le_int q
theorem kE:ik X (compareOp .Gt) (wV fun i j=> .bl (decide (j<i))):=wW fun _ _ _ _ _ _ _ q=>gt_int q
theorem B1:ik X (compareOp .GtE) (wV fun i j=> .bl (decide (j<=i))):=wW fun _ _ _ _ _ _ _ q=>ge_int q
theorem cP:ik X (compareOp .Is) (fun x y H Q=>y= .non/\Q (.bl (decide (x= .non))) H):=by
 intro pins s σ H x y v u Q I rx ry h;obtain ⟨rfl,q⟩:=h;cases ry;refine is_none_gen (bF I q ?_);cases x<;>first
  |(cases rx;rfl)
  |(obtain ⟨t,rfl⟩:=rx;rfl)
theorem eN:ik X (compareOp .IsNot) (fun x y H Q=>y= .non/\Q (.bl (!decide (x= .non))) H):=by
 intro pins s σ H x y v u Q I rx ry h;obtain ⟨rfl,q⟩:=h;cases ry;refine isnot_none_gen (bF I q ?_);cases x<;>first
  |(cases rx;rfl)
  |(obtain ⟨t,rfl⟩:=rx;rfl)
theorem aD (b:Expr) {op:CmpOp} (h:op≠ .In:=by decide) (h2:op≠ .NotIn:=by decide):behindInMarks op b=false:=by
 have e1:(op==CmpOp.In)=false:=by cases op<;>first|rfl|exact absurd rfl h
 have e2:(op==CmpOp.NotIn)=false:=by cases op<;>first|rfl|exact absurd rfl h2
 cases b<;>simp[behindInMarks,e1,e2]
theorem dS {op:CmpOp} {r:R2} (ho:ik X (compareOp op) r) (ha:PE X a ta) (hb:PE X b tb) (hm:behindInMarks op b=false):PE X (.Compare a [op] [b] pos) (zw r ta tb):=by
 intro pins s σ H Q I h;exact wpAny_Compare1 (zx ha hb I h fun v u s2 x y H2 I2 rx ry q=>ho pins s2 σ H2 x y v u Q I2 rx ry q) hm
def B2 (t:TE):TT:=fun σ H Q=>t σ H fun x H'=>∃k,x= .bl k/\Q k H'
theorem ar {op:CmpOp} {r:R2} (ho:ik X (compareOp op) r) (ha:PE X a ta) (hb:PE X b tb) (hm:behindInMarks op b=false):PT X (.Compare a [op] [b] pos) (B2 (zw r ta tb)):=by
 intro pins s σ H Q I h;refine wpAny_isTrue_Compare1 (bV (ha pins s σ H _ I h) fun v s1 ⟨x,H1,I1,r1,q1⟩=>bV (hb pins s1 σ H1 _ I1 q1) fun u s2 ⟨y,H2,I2,r2,q2⟩=>
  bV (ho pins s2 σ H2 x y v u _ I2 r1 r2 q2) fun c s3 ⟨z,H3,I3,r3,k,e,q3⟩=>?_) hm
 subst e;cases r3;exact wpAny_truthy_bool ⟨H3,I3,q3⟩
theorem iu:(sizeLine:Nat)<2^63:=by rw[sizeLine_eq];decide
theorem bC:ik X (binaryOp .Add) (fun x y H Q=>∃i j,x= .str i/\y= .str j/\i.length+j.length<=sizeLine/\Q (.str (i++j)) H):=by
 intro pins s σ H x y v u Q I rx ry h;obtain ⟨i,j,rfl,rfl,hz,q⟩:=h;obtain ⟨t,rfl⟩:=rx;obtain ⟨t',rfl⟩:=ry;exact add_str (fun t' tk=>⟨.str (i++j),H,I.tok _,⟨_,rfl⟩,q⟩) hz
theorem vals1 {x:V} {us:Lf} (r:aX [x] us):∃u,us= [u]/\RelV x u:=by
 cases r with
 |cons r1 r2=>cases r2;exact ⟨_,rfl,r1⟩
theorem vals2 {x y:V} {us:Lf} (r:aX [x,y] us):∃u w',us= [u,w']/\RelV x u/\RelV y w':=by
 cases r with
 |cons r1 r2=>
  cases r2 with
  |cons r3 r4=>cases r4;exact ⟨_,_,rfl,r1,r3⟩
theorem jh:c7 X (.builtin "abs") (fun xs H Q=>∃i,xs= [.int i]/\Q (.int (if i<0 then-i else i)) H):=by
 intro pins s σ H xs us Q I r h;obtain ⟨i,rfl,q⟩:=h;obtain ⟨u,rfl,t,rfl⟩:=vals1 r;exact call_abs_int fun u tk=>⟨.int (if i<0 then-i else i),H,I.tok _,⟨_,rfl⟩,q⟩
theorem tD (hc:X.calm=true):c7 X (.builtin "min") (fun xs H Q=>∃i j,xs= [.int i,.int j]/\Q (.int (if j<i then j else i)) H):=by
 intro pins s σ H xs us Q I r h;obtain ⟨i,j,rfl,q⟩:=h;obtain ⟨u,w',rfl,⟨t,rfl⟩,⟨t',rfl⟩⟩:=vals2 r;refine min_two_ints (I.ok.hd hc) fun h' tk k=>⟨_,H,I.kept k,?_,q⟩
 by_cases hj:j<i
 ·rw[if_pos hj,if_pos hj];exact ⟨_,rfl⟩
 ·rw[if_neg hj,if_neg hj];exact ⟨_,rfl⟩
theorem br:c7 X (.type "str") (fun xs H Q=>∃i,xs= [.int i]/\i.natAbs.log2<1920/\Q (.str (toString i)) H):=by
 intro pins s σ H xs us Q I r h;obtain ⟨i,rfl,hz,q⟩:=h;obtain ⟨u,rfl,t,rfl⟩:=vals1 r;exact PySem.P.str_of_int hz ⟨.str _,H,I.tok _,⟨_,rfl⟩,q⟩
end
structure pU (h:Heap) (x dx C:Addr) (mA:La):Prop where
 obj:h.get? x=some (HJ C dx)
 ns:h.Ns1 dx mA
 ne:dx≠x
theorem tE {h:Heap} {dx:Addr} {mA:La} (n:h.Ns1 dx mA):∃od,h.get? dx=some od/\∀name,PySem.W.lookIn name od=some (mA name):=by
 obtain ⟨o,es,ep,ho,hd,hk,_,hm⟩:=n;refine ⟨o,ho,fun name=>?_⟩
 have e:=hm name;unfold nsFind findBy at e;rw[<-Array.find?_toList] at e;unfold PySem.W.lookIn;rw[hd];dsimp only
 split
 ·rename_i y q;rw[q] at e;exact congrArg some e
 ·rename_i q;rw[q] at e;have a:es.toList.any (·.refKey)=false:=by
   rw[List.any_eq_false];intro y hy;obtain ⟨z,t,hkey⟩:=hk y (Array.mem_toList_iff.mp hy);simp[DictEntry.refKey,hkey]
  have a':¬es.toList.any (·.refKey)=true:=by rw[a];exact GE
  rw[if_neg a'];exact congrArg some e
theorem pU.look {h:Heap} {x dx C:Addr} {mA:La} (I:pU h x dx C mA):∃od,PySem.W.InstAt h x (HJ C dx) C (some od)/\∀name,PySem.W.lookIn name od=some (mA name):=
 let ⟨od,ho,hl⟩:=tE I.ns
 ⟨od,⟨I.obj,rfl,rfl,ho⟩,hl⟩
section
variable {prog:Program} {w:World} {A:Around} {E:K9} {s:Shared} {K:F5} {x dx C f:Addr} {mA:La} {name:Str} {v:Value}
theorem wX {expr:Bool} {Q:K9} (X:K.In s.heap) (I:pU s.heap x dx C mA) (hg:PySem.W.plainGet K C name=true) (hh:PySem.W.hasDictIn K C=true)
  (ha:Ga K (.ref C) name=some none) (hv:mA name=some v) (hv':PySem.W.handedIn v=true) (h:Q v {s with toks:=s.toks+1}):
  wpAny (model prog w) A (getAttr (.ref x) name expr) Q E s:=by
 obtain ⟨od,J,hl⟩:=I.look;exact PySem.W.get_value X J (PySem.W.plainGet_of hg).1 (PySem.W.findObj_own hh ha rfl (by rw[hl,hv])) hv' h
theorem uM {pl:Sem Bool} {Q:Value×Lf->Shared->Prop} (X:K.In s.heap) (I:pU s.heap x dx C mA) (hg:PySem.W.plainGet K C name=true)
  (hf:Ga K (.ref C) name=some (some (.ref f))) (ht:PySem.W.isFn K (.ref f)=true) (hv:mA name=none) (h:Q (.ref f,[.ref x]) s):
  wpAny (model prog w) A (getMethod (.ref x) name pl) Q E s:=by
 obtain ⟨od,J,hl⟩:=I.look;exact PySem.W.method_fn X J (PySem.W.plainGet_of hg).1 (PySem.W.plainGet_of hg).2 hf (beq_iff_eq.mp ht) (by show (PySem.W.lookIn name od).map (·.isSome)=some false;rw[hl,hv];rfl) h
theorem wY {ns:Ld} {Q:Unit->Shared->Prop} (X:K.In s.heap) (I:pU s.heap x dx C mA)
  (hs:Ga K (.ref C) "__setattr__" =some (some (.builtin "object.__setattr__"))) (hp:PySem.W.plainOver K C=true) (ht:PySem.W.takerIn K C name=some none) (hh:PySem.W.hasDictIn K C=true)
  (hw:PySem.Within mA ns) (hsz:ns.length<=sizeLine)
  (h:∀h',pU h' x dx C (fun y=>if y=name then some v else mA y)->Heap.SameBut dx s.heap h'->Q () {s with heap:=h',toks:=s.toks+2}):
  wpAny (model prog w) A (setAttr (.ref x) name v) Q E s:=by
 obtain ⟨od,J,hl⟩:=I.look;refine PySem.W.set_plain X J hs (PySem.W.osa_open (s:={s with toks:=s.toks+1}) (r:=none) X J hp ht fun b=>?_)
 obtain ⟨cd,hc,hd'⟩:=PySem.W.any_some hh;have hx:s.heap.get? x=some ⟨.ref C,some dx,.plain,#[]⟩:=I.obj;refine wpAny_bind (wpAny_pure (wpAny_bind (wpAny_bind (wpAny_loadPart hx (wpAny_bind (PySem.W.Looks.here (s:={s with toks:=s.toks+1}) (PySem.W.looks_clsIn X hc) ?_))))))
 rw[hd'];refine wpAny_pure (a:=some dx) (wpAny_bind (wpAny_pure (wpAny_bind ?_)));refine wpAny_nsSet1 (s:={s with toks:=s.toks+1}) I.ns fun h' hn2 hs2=>?_
 obtain ⟨oD,esD,epD,hoD,hdD,hcD⟩:=hn2.count (PySem.Within.cons name v hw);refine wpAny_bind (wpAny_lookBehind hoD (by rw[hdD];exact pastItsLine_dict (GP hcD (by rw[G6];lia))) ?_)
 exact wpAny_pure (h _ ⟨(hs2.2 _ (Ne.symm I.ne)).trans I.obj,hn2,I.ne⟩ hs2)
theorem uN {R:Result->Shared->Prop} {vs:Lf} {kw:List (Str×Value)} (X:K.In s.heap) (hm:PySem.W.makesIn K C=true)
  (hi:Ga K (.ref C) "__init__" =some (some (.ref f))) (hf:PySem.W.typeIn K (.ref f)=some (.type "function"))
  (h:codeAny (model prog w) (A.under (.builtin "type.__call__" ⟨.ref C::vs,kw⟩)) (.call (.ref f) ⟨.ref (s.heap.objs.size+1)::vs,kw⟩) (PySem.W.InitBack (s.heap.objs.size+1) R)
   {s with heap:=(s.heap.push Gv).push (HJ C s.heap.objs.size)}):
  codeAny (model prog w) A (.call (.ref C) ⟨vs,kw⟩) R s:=by
 obtain ⟨hh,g,d,t,os⟩:=s;exact PySem.W.make_core (PySem.W.makes_of X hm) (PySem.W.looks_findIn X hi) (fun self=>PySem.W.bind_fn X self hf) (.inl rfl) h
end
noncomputable def aK (f:Str) (v:V):List (Str×V)->List (Str×V)
 | []=> [(f,v)]
 |(g,x)::r=>if g=f then (g,v)::r else (g,x)::aK f v r
theorem bD (f g:Str) (v:V):∀fs:List (Str×V),(aK f v fs).lookup g=if g=f then some v else fs.lookup g
 | []=>by
  show List.lookup g [(f,v)]=_
  by_cases h:g=f
  ·have hb:(g==f)=true:=beq_iff_eq.mpr h;simp only[List.lookup,hb,if_pos h]
  ·have hb:(g==f)=false:=beq_eq_false_iff_ne.mpr h;simp only[List.lookup,hb,if_neg h]
 |(k,x)::r=>by
  have ih:=bD f g v r;rw[show aK f v ((k,x)::r)=(if k=f then (k,v)::r else (k,x)::aK f v r) from rfl]
  by_cases hk:k=f
  ·rw[if_pos hk]
   by_cases h:g=k
   ·have hb:(g==k)=true:=beq_iff_eq.mpr h;simp only[List.lookup,hb,if_pos (h.trans hk)]
   ·have hb:(g==k)=false:=beq_eq_false_iff_ne.mpr h;simp only[List.lookup,hb,if_neg (fun e:g=f=>h (e.trans hk.symm))]
  ·rw[if_neg hk]
   by_cases h:g=k
   ·have hb:(g==k)=true:=beq_iff_eq.mpr h;simp only[List.lookup,hb,if_neg (fun e:g=f=>hk (h.symm.trans e))]
   ·have hb:(g==k)=false:=beq_eq_false_iff_ne.mpr h;simp only[List.lookup,hb];exact ih
theorem iw (f:Str) (v:V):∀fs:List (Str×V),f∈(aK f v fs).map (·.1)/\∀g,g∈fs.map (·.1)->g∈(aK f v fs).map (·.1)
 | []=>⟨by simp[aK],fun g h=>by simp at h⟩
 |(k,x)::r=>by
  obtain ⟨i1,i2⟩:=iw f v r;rw[show aK f v ((k,x)::r)=(if k=f then (k,v)::r else (k,x)::aK f v r) from rfl]
  by_cases hk:k=f
  ·rw[if_pos hk];subst hk;exact ⟨by simp,fun g h=>by simpa using h⟩
  ·rw[if_neg hk];refine ⟨?_,fun g h=>?_⟩
   ·rw[Gw];exact FS _ i1
   ·rw[Gw] at h⊢;rcases F8.mp h with e|e
    ·exact F8.mpr (.inl e)
    ·exact FS _ (i2 g e)
theorem aU (f:Str) (v:V):∀fs:List (Str×V),(aK f v fs).length<=fs.length+1
 | []=>by simp[aK]
 |(k,x)::r=>by
  have ih:=aU f v r;rw[show aK f v ((k,x)::r)=(if k=f then (k,v)::r else (k,x)::aK f v r) from rfl]
  by_cases hk:k=f
  ·rw[if_pos hk,G6,G6];lia
  ·rw[if_neg hk,G6,G6];lia
theorem kh.some_of {v:V} {o:Lh} (r:kh (some v) o):∃u,o=some u/\RelV v u:=by
 cases o with
 |none=>exact (show False from r).elim
 |some u=>exact ⟨u,rfl,r⟩
theorem kh.none_of {o:Lh} (r:kh none o):o=none:=by
 cases o with
 |none=>rfl
 |some u=>exact (show False from r).elim
theorem tF {v:V} {u:Value} (r:RelV v u):PySem.W.handedIn u=true:=by
 cases v with
 |non=>cases (show u=Value.none from r);rfl
 |bl b=>cases (show u=Value.bool b from r);rfl
 |int i=>obtain ⟨t,e⟩:=(show ∃t,u=Value.int i t from r);cases e;rfl
 |str x=>obtain ⟨t,e⟩:=(show ∃t,u=Value.str x t from r);cases e;rfl
 |byt b=>obtain ⟨t,e⟩:=(show ∃t,u=Value.bytes b t from r);cases e;rfl
 |flt b=>obtain ⟨t,e⟩:=(show ∃t,u=Value.float b t from r);cases e;rfl
 |ref a=>cases (show u=Value.ref a from r);rfl
 |ty n=>cases (show u=Value.type n from r);rfl
section
variable {P:Program} {w:World} {H H':Hp} {h h':Heap} {a C dx:Addr} {fs fs':List (Str×V)}
theorem iY (hok:gb P w H h) (e:H a=some (.ins C dx fs)):∃mA,pU h a dx C mA/\(∀f,kh (fs.lookup f) (mA f))/\PySem.Within mA (fs.map (·.1))/\fs.length<=1000/\H dx=some (.own a):=by
 obtain ⟨d,z,ne,ob,mA,n,r,q⟩:=(show cq P w H h a (.ins C dx fs) from hok a _ e)
 exact ⟨mA,⟨ob,n,ne⟩,r,q,z,d⟩
end
structure iI (K:F5) (C:Addr):Prop where
 pg:PySem.W.plainGet K C Str.empty=true
 hd:PySem.W.hasDictIn K C=true
 po:PySem.W.plainOver K C=true
 sa:Ga K (.ref C) "__setattr__" =some (some (.builtin "object.__setattr__"))
theorem iI.get {K:F5} {C:Addr} (c:iI K C) (f:Str):PySem.W.plainGet K C f=true:=c.pg
def aE (K:F5) (C:Addr) (f:Str):Prop:=Ga K (.ref C) f=some none
theorem aE.taker {K:F5} {C:Addr} {f:Str} (n:aE K C f):PySem.W.takerIn K C f=some none:=by
 unfold PySem.W.takerIn;rw[show Ga K (.ref C) f=some none from n]
 rfl
structure cA (K:F5) (C:Addr) (m:Str) (f:Addr):Prop where
 at_:Ga K (.ref C) m=some (some (.ref f))
 fn:PySem.W.isFn K (.ref f)=true
 kp:Gh K (.ref f)=true
section
variable {pins:Lb} {σ:St} {H:Hp} {s:Shared} {a C dx:Addr} {fs:List (Str×V)} {f:Str} {v:V} {A:Around} {E:K9}
theorem pV {b:Bool} {Q:K9} (I:aM X pins σ H s) (e:H a=some (.ins C dx fs)) (c:iI X.K C) (n:aE X.K C f) (l:fs.lookup f=some v)
  (h:∀u s',aM X pins σ H s'->RelV v u->Q u s'):wpAny (model X.prog X.w) A (getAttr (.ref a) f b) Q E s:=by
 obtain ⟨mA,O,r,_,_,_⟩:=iY I.hok e;obtain ⟨u,hu,ru⟩:=kh.some_of (v:=v) (o:=mA f) (by rw[<-l];exact r f)
 exact wX I.kIn O (c.get f) c.hd n hu (tF ru) (h u _ (I.tok _) ru)
theorem pW {m:Str} {g:Addr} {pl:Sem Bool} {Q:Value×Lf->Shared->Prop} (I:aM X pins σ H s) (e:H a=some (.ins C dx fs)) (c:iI X.K C) (k:cA X.K C m g) (l:fs.lookup m=none)
  (h:Q (.ref g,[.ref a]) s):wpAny (model X.prog X.w) A (getMethod (.ref a) m pl) Q E s:=by
 obtain ⟨mA,O,r,_,_,_⟩:=iY I.hok e;have hn:mA m=none:=kh.none_of (by rw[<-l];exact r m)
 exact uM I.kIn O (c.get m) k.at_ k.fn hn h
theorem pY {y:V} {u:Value} {Q:Unit->Shared->Prop} (I:aM X pins σ H s) (e:H a=some (.ins C dx fs)) (c:iI X.K C) (n:aE X.K C f) (hl:fs.length<1000) (ry:RelV y u)
  (h:∀s',aM X pins σ (aL H a (.ins C dx (aK f y fs))) s'->Q () s'):wpAny (model X.prog X.w) A (setAttr (.ref a) f u) Q E s:=by
 obtain ⟨mA,O,r,wi,_,ho⟩:=iY I.hok e;have hz:(fs.map (·.1)).length<=sizeLine:=by rw[F6,sizeLine_eq];lia
 refine wY I.kIn O c.sa c.po n.taker c.hd wi hz fun h' O' sb=>h _ ?_
 have hd:∃o,h'.get? dx=some o:=let ⟨o,_,_,e',_⟩:=O'.ns;⟨o,e'⟩;refine I.write (x:=a) (e:=dx) (by rw[e];exact True.intro) (.inr ho) (fun b q hb z=>(sb.2 b hb).trans z) hd ?_
 refine ⟨by rw[av O.ne];exact ho,?_,O.ne,O'.obj,_,O'.ns,fun g=>?_,fun g hg=>?_⟩
 ·have:=aU f y fs;lia
 ·show kh ((aK f y fs).lookup g) (if g=f then some u else mA g)
  rw[bD]
  by_cases q:g=f
  ·rw[if_pos q,if_pos q];exact ry
  ·rw[if_neg q,if_neg q];exact r g
 ·by_cases q:g=f
  ·rw[q];exact (iw f y fs).1
  ·refine (iw f y fs).2 g (wi g fun z=>hg ?_)
   show (if g=f then some u else mA g)=none
   rw[if_neg q];exact z
theorem aM.made (I:aM X pins σ H s):aM X pins σ (aL (aL H s.heap.objs.size (.own (s.heap.objs.size+1))) (s.heap.objs.size+1) (.ins C s.heap.objs.size []))
  {s with heap:=(s.heap.push Gv).push (HJ C s.heap.objs.size)}:=by
 have e1:(s.heap.push Gv).get? s.heap.objs.size=some Gv:=Heap.get?_push_size s.heap rfl;have e2:((s.heap.push Gv).push (HJ C s.heap.objs.size)).get? (s.heap.objs.size+1)=some (HJ C s.heap.objs.size):=by
  have:=Heap.get?_push_size (s.heap.push Gv) (o:=HJ C s.heap.objs.size) rfl
  rwa [Heap.size_push] at this
 have e3:(s.heap.push Gv).Ns s.heap.objs.size (fun _=>none):=⟨Gv,#[],_,e1,rfl,(fun e he=>absurd he (by simp)),fun _=>rfl⟩
 have I1:=I.laid (a:=s.heap.objs.size) (o:= .own (s.heap.objs.size+1)) (h':=s.heap.push Gv) (t':=s.toks) (fun b u q=>Heap.get?_push_of_some _ q) (FO _) ⟨_,e1⟩
 refine I1.laid (a:=s.heap.objs.size+1) (o:= .ins C s.heap.objs.size []) (t':=s.toks) (fun b u q=>Heap.get?_push_of_some _ q) (Nat.le_of_eq (Heap.size_push _ _)) ?_
 have ne:s.heap.objs.size≠s.heap.objs.size+1:=GJ (Nat.lt_succ_self _);refine ⟨by rw[av ne,ah],Gi _,ne,e2,fun _=>none,(Heap.Ns1.of_empty e3).at fun o q=>Heap.get?_push_of_some _ q,fun _=>True.intro,fun y hy=>absurd rfl hy⟩
theorem wZ {prog:Program} {w:World} {env:Env} {e:Expr} {f:Str} {pos:Pos} {s:Shared} {Q:K9} (hb:attributeBase e f env (eval e env)=eval e env)
  (h:wpAny (model prog w) A (eval e env) (fun o s₁=>wpAny (model prog w) A (getAttr o f true) Q E s₁) E s):wpAny (model prog w) A (eval (.Attribute e f pos) env) Q E s:=
 Attribute_any_ h (by rw[arm_eval_Attribute,hb])
end
def B3 (K:F5) (ta:TE) (f:Str):TE:=fun σ H Q=>ta σ H fun x H1=>∃a C dx fs v,x= .ref a/\H1 a=some (.ins C dx fs)/\iI K C/\aE K C f/\fs.lookup f=some v/\Q v H1
def Ej (K:F5) (ta tv:TE) (f:Str):TS:=fun D σ H=>tv σ H fun y H1=>ta σ H1 fun x H2=>∃a C dx fs,x= .ref a/\H2 a=some (.ins C dx fs)/\iI K C/\aE K C f/\fs.length<1000/\
 D.nx σ (aL H2 a (.ins C dx (aK f y fs)))
section
variable {o e value:Expr} {f:Str} {pos pos' tpos:Pos} {ta tv:TE}
theorem bI (he:PE X e ta) (hb:attributeBase e f X.env (eval e X.env)=eval e X.env):PE X (.Attribute e f pos) (B3 X.K ta f):=by
 intro pins s σ H Q I h;refine wZ hb (bV (he pins s σ H _ I h) fun u s1 ⟨x,H1,I1,rx,a,C,dx,fs,v,ex,ea,c,n,l,q⟩=>?_)
 subst ex;obtain rfl:u=Value.ref a:=rx;exact pV I1 ea c n l fun u' s2 I2 ru=>⟨v,H1,I2,ru,q⟩
theorem dL (ha:PE X o ta) (hv:PE X value tv) (hs:swapsWith value (some (.Attribute o f pos')) pos.line X.env=pure false):PS X (.Assign [.Attribute o f pos'] value pos) (Ej X.K ta tv f):=by
 intro pins s σ H D I h;refine plainObj_wpAny_Assign_Attribute (bV (hv pins s σ H _ I h) fun u s1 ⟨y,H1,I1,ry,q⟩=>bV (ha pins s1 σ H1 _ I1 q) fun ov s2 ⟨x,H2,I2,rx,a,C,dx,fs,ex,ea,c,n,l,q2⟩=>?_) hs
 subst ex;obtain rfl:ov=Value.ref a:=rx;exact pY I2 ea c n l ry fun s3 I3=>⟨σ,_,I3,q2⟩
end
section
variable {pins:Lb} {σ:St} {H:Hp} {s:Shared} {A:Around} {E:K9} {Q:K9} {c:Value} {b:Bool}
inductive gH (K:F5) (H:Hp):V->Value->Prop where
 |non:gH K H .non (.type "NoneType")
 |bl (x:Bool):gH K H (.bl x) (.type "bool")
 |int (i:Int):gH K H (.int i) (.type "int")
 |str (x:Str):gH K H (.str x) (.type "str")
 |flt (x:UInt64):gH K H (.flt x) (.type "float")
 |lst {a:Addr} {xs:List V} (e:H a=some (.lst xs)):gH K H (.ref a) (.type "list")
 |frz {a:Addr} {o:Obj} {xs:List V} (e:H a=some (.frz o (.lst xs))):gH K H (.ref a) (.type "list")
 |tup {a:Addr} {xs:List V} (e:H a=some (.tup xs)):gH K H (.ref a) (.type "tuple")
 |dK {a:Addr} {kvs:List (Key×V)} (e:H a=some (.dK kvs)):gH K H (.ref a) (.type "dict")
 |dT {a:Addr} {kvs:List (List Key×V)} (e:H a=some (.dT kvs)):gH K H (.ref a) (.type "dict")
 |ins {a C dx:Addr} {fs:List (Str×V)} (e:H a=some (.ins C dx fs)) (cl:iI K C) (ha:Ga K (.ref C) "__class__" =some (some (.builtin "object.__class__")))
   (hn:PySem.W.specialIn K (.builtin "object.__class__") "__get__" =some (some (.builtin "getset_descriptor.__get__"))) (htk:PySem.W.takesIn K (.builtin "object.__class__")=some true)
   (hm:PySem.W.mroIn K C (.type "object")=some true):gH K H (.ref a) (.ref C)
theorem tG {x:V} {u t:Value} (I:aM X pins σ H s) (rx:RelV x u) (ty:gH X.K H x t) (e:G7 X.K t c=some b) (h:∀tk,Q (.bool b) {s with toks:=tk}):
  wpAny (model X.prog X.w) A (call (.builtin "isinstance") [u,c]) Q E s:=by
 cases ty with
 |non=>cases (show u=Value.none from rx);exact Gg PySem.W.kitx_none I.kIn True.intro e (fun z=>nomatch z) h
 |bl y=>cases (show u=Value.bool y from rx);exact Gg PySem.W.kitx_bool I.kIn True.intro e (fun z=>nomatch z) h
 |int i=>obtain ⟨t,q⟩:=(show ∃t,u=Value.int i t from rx);cases q;exact Gg PySem.W.kitx_int I.kIn True.intro e (fun z=>nomatch z) h
 |str y=>obtain ⟨t,q⟩:=(show ∃t,u=Value.str y t from rx);cases q;exact Gg PySem.W.kitx_str I.kIn True.intro e (fun z=>nomatch z) h
 |flt y=>obtain ⟨t,q⟩:=(show ∃t,u=Value.float y t from rx);cases q;exact Gg PySem.W.kitx_float I.kIn True.intro e (fun z=>nomatch z) h
 | @lst a xs ea=>
  cases (show u=Value.ref a from rx)
  obtain ⟨_,_,n,_,h1⟩:=(show cq X.prog X.w H s.heap a (.lst xs) from I.hok a _ ea)
  exact Gg PySem.W.kitx_list I.kIn ⟨_,h1,rfl⟩ e (fun z=>nomatch z) h
 | @frz a ob xs ea=>
  cases (show u=Value.ref a from rx)
  obtain ⟨_,_,_,n,_,h1⟩:=(show cq X.prog X.w H s.heap a (.frz ob (.lst xs)) from I.hok a _ ea)
  exact Gg PySem.W.kitx_list I.kIn ⟨_,h1,rfl⟩ e (fun z=>nomatch z) h
 | @tup a xs ea=>
  cases (show u=Value.ref a from rx)
  obtain ⟨_,_,_,p⟩:=(show cq X.prog X.w H s.heap a (.tup xs) from I.hok a _ ea)
  obtain ⟨o,h1,h2,_⟩:=p;exact Gg PySem.W.kitx_tuple I.kIn ⟨o,h1,h2⟩ e (fun z=>nomatch z) h
 | @dK a kvs ea=>
  cases (show u=Value.ref a from rx)
  obtain ⟨_,_,vs,_,p⟩:=(show cq X.prog X.w H s.heap a (.dK kvs) from I.hok a _ ea)
  obtain ⟨o,es,ep,h1,h2,_⟩:=p;exact Gg PySem.W.kitx_dict I.kIn ⟨o,h1,h2.1⟩ e (fun z=>nomatch z) h
 | @dT a kvs ea=>
  cases (show u=Value.ref a from rx)
  obtain ⟨_,_,xs,_,o,es,ep,h1,h2,_⟩:=(show cq X.prog X.w H s.heap a (.dT kvs) from I.hok a _ ea)
  exact Gg PySem.W.kitx_dict I.kIn ⟨o,h1,h2.1⟩ e (fun z=>nomatch z) h
 | @ins a C dx fs ea cl ha hn htk hm=>
  cases (show u=Value.ref a from rx)
  obtain ⟨mA,O,_⟩:=iY I.hok ea;obtain ⟨od,J,_⟩:=O.look;exact Gg (PySem.W.kitx_own (cl.get _) cl.hd ha hn htk hm) I.kIn J e (fun z=>nomatch z) h
end
structure b8 (k:Nat) (A:Around):Prop where
 hd:A.handled=none
 dp:A.depth+3*k+5<recursionLimit
 un:A.units+16*k+200<cLine
theorem b8.mono {j k:Nat} {A:Around} (r:b8 k A) (h:j<=k):b8 j A:=⟨r.hd,by have:=r.dp;lia,by have:=r.un;lia⟩
theorem b8.deeper {k:Nat} {A:Around} (r:b8 (k+1) A) (env:Env):b8 k (A.deeper env):=
 ⟨r.hd,by have:=r.dp;show A.depth+1+3*k+5<_;lia,by have:=r.un;show A.units+3+16*k+200<_;lia⟩
theorem pZ {A:Around} {C:Addr} {us:Lf} {kw:List (Str×Value)}:(A.under (.builtin "type.__call__" ⟨.ref C::us,kw⟩)).depth=A.depth+1:=by
 first|rfl|simp[Around.under,Code.weight,Code.isCreation,Code.isGuard,Code.isCaller,Code.frames,Code.isFrame,guardIds]
theorem qa {A:Around} {C:Addr} {us:Lf} {kw:List (Str×Value)}:(A.under (.builtin "type.__call__" ⟨.ref C::us,kw⟩)).units=A.units+1:=by
 first|rfl|simp[Around.under,Code.cUnits,Code.frames,Code.isFrame]
theorem b8.make {k:Nat} {A:Around} (r:b8 (k+1) A) (C:Addr) (us:Lf) (kw:List (Str×Value)):b8 k (A.under (.builtin "type.__call__" ⟨.ref C::us,kw⟩)):=
 ⟨r.hd,by have:=r.dp;rw[pZ];lia,by have:=r.un;rw[qa];lia⟩
theorem b8.depth {k:Nat} {A:Around} (r:b8 k A):A.depth<recursionLimit:=by have:=r.dp;lia
theorem b8.units {k:Nat} {A:Around} (r:b8 k A):A.units+64<cLine:=by have:=r.un;lia
theorem b8.units0 {k:Nat} {A:Around} (r:b8 k A):A.units<cLine:=by have:=r.un;lia
def Ek:TA:=fun _ H Q=>Q [] H
def B4 (ta:TE) (tr:TA):TA:=fun σ H Q=>ta σ H fun x H1=>tr σ H1 fun xs H2=>Q (x::xs) H2
section
variable {e:Expr} {es:List Expr} {te:TE} {t:TA} {pos:Pos}
theorem ad:PA X [] Ek:=fun _ _ _ _ H Q I h=>Calls.spliced_nil ⟨[],H,I,.nil,h⟩
theorem aa (ha:PE X e te) (hr:PA X es t) (hs:starEach (e::es) X.env=(false,eval e X.env)::starEach es X.env:=by rfl):PA X (e::es) (B4 te t):=by
 intro pos pins s σ H Q I h;rw[hs];show wpAny _ _ (spliced ((false,eval e X.env)::backTo pos (starEach es X.env))) _ _ s;refine Calls.spliced_cons (bV (ha pins s σ H _ I h) fun u s1 ⟨x,H1,I1,r1,q1⟩=>?_)
 exact bV (hr pos pins s1 σ H1 _ I1 q1) fun us s2 ⟨xs,H2,I2,r2,q2⟩=>⟨x::xs,H2,I2,.cons r1 r2,q2⟩
def El (t:TA):TE:=fun σ H Q=>t σ H fun xs H1=>xs.length<=sizeLine/\∀p,H1 p=none->Q (.ref p) (aL H1 p (.tup xs))
def Em (t:TA):TE:=fun σ H Q=>t σ H fun xs H1=>xs.length<=sizeLine/\∀p,H1 p=none->Q (.ref p) (aL H1 p (.lst xs))
theorem bN {x1} (h:PA X es t):PE X (.Tuple es x1 pos) (El t):=by
 intro pins s σ H Q I hq;refine wpAny_Tuple_spliced (bV (h pos pins s σ H _ I hq) fun us s1 ⟨xs,H1,I1,r,z,q⟩=>⟨by rw[<-r.length];exact z,?_⟩)
 have hf:H1 s1.heap.objs.size=none:=I1.hok.fresh (FO _);refine ⟨.ref s1.heap.objs.size,aL H1 s1.heap.objs.size (.tup xs),I1.laid (t':=s1.toks) (fun b u e=>Heap.get?_push_of_some _ e) (FO _) ?_,rfl,q _ hf⟩
 exact ⟨z,us,r,⟨_,Heap.get?_push_size _ rfl,rfl,_,rfl⟩⟩
theorem bK (h:PA X es t):PE X (.List es pos) (Em t):=by
 intro pins s σ H Q I hq;refine wpAny_List_spliced (bV (h pos pins s σ H _ I hq) fun us s1 ⟨xs,H1,I1,r,z,q⟩=>⟨by rw[<-r.length];exact z,?_⟩)
 have hf:H1 s1.heap.objs.size=none:=I1.hok.fresh (FO _);refine ⟨.ref s1.heap.objs.size,aL H1 s1.heap.objs.size (.lst xs),I1.laid (t':=s1.toks) (fun b u e=>Heap.get?_push_of_some _ e) (FO _) ?_,rfl,q _ hf⟩
 exact ⟨z,us,0,r,Heap.get?_push_size _ rfl⟩
end
abbrev Sp:=List V->Hp->VK->XK->Prop
abbrev qb:=List Env->Hp->Shared->XK->Value->Shared->Prop
structure ko (P:Program) (w:World) (K:F5) (mg:La) (base:Heap) (A:Around) (outer:List Env) (s:Shared) (H:Hp):Prop where
 frames:A.frames=some outer
 mod:Mod K mg base
 bs:∀b o,base.get? b=some o->s.heap.get? b=some o/\H b=none
 bsz:base.objs.size<=s.heap.objs.size
 funs:s.heap.FunFrames base outer
 frf:∀b∈iT outer,H b=none
 hok:gb P w H s.heap
 bare:AllBare s.gens
def CE (outer:List Env) (P:Program) (w:World) (H:Hp) (s:Shared) (Q:VK) (u:Value) (s':Shared):Prop:=
 ∃v H',s'.os=s.os/\AllBare s'.gens/\Un (iT outer) [] H H' s.heap s'.heap/\gb P w H' s'.heap/\RelV v u/\Q v H'
def CR (CX:qb) (outer:List Env) (P:Program) (w:World) (H:Hp) (s:Shared) (Q:VK) (E:XK) (r:Result) (s':Shared):Prop:=
 match r with
 | .ok (.ret u)=>CE outer P w H s Q u s'
 | .ok _=>False
 | .error e=>CX outer H s E e s'
structure aW (P:Program) (w:World) (K:F5) (mg:La) (base:Heap) (CX:qb) (k:Nat) (f:Addr) (fd:FuncData) (ps:Ld) (sp:Sp):Prop where
 len:∀vs H Q E,sp vs H Q E->vs.length=ps.length
 run:∀(A:Around) (outer:List Env) (s:Shared) (H:Hp) (args:Args) (us:Lf) (vs:List V) (Q:VK) (E:XK),b8 k A->ko P w K mg base A outer s H->BindsTo s fd args (ps.zip us)->aX vs us->sp vs H Q E->
  codeAny (model P w) A (.call (.ref f) args) (CR CX outer P w H s Q E) s
theorem ko.make {P:Program} {w:World} {K:F5} {mg:La} {base:Heap} {A:Around} {outer:List Env} {s:Shared} {H:Hp} (e:ko P w K mg base A outer s H) (C:Addr) (us:Lf) (kw:List (Str×Value)):
  ko P w K mg base (A.under (.builtin "type.__call__" ⟨.ref C::us,kw⟩)) outer s H:=⟨by first|exact e.frames|(simpa [Around.under,Code.envs,Code.isFrame,pushEnvs] using e.frames),e.mod,e.bs,e.bsz,e.funs,e.frf,e.hok,e.bare⟩
section
variable {pins:Lb} {σ:St} {H:Hp} {s s':Shared}
theorem aM.env0 (I:aM X pins σ H s):ko X.prog X.w X.K X.mg X.base X.A X.stack s H:=
 ⟨I.ok.frames,I.ok.mod,I.bs,GP I.ok.bsz I.sz,I.stack,I.stkFree,I.hok,I.bare⟩
theorem aM.after {Q:VK} {u:Value} (I:aM X pins σ H s) (h:CE X.stack X.prog X.w H s Q u s'):EP X pins σ Q u s':=by
 obtain ⟨v,H',os,bare,un,hok,r,q⟩:=h;obtain ⟨hh,g,d,t,os'⟩:=s';obtain rfl:os'=s.os:=os;exact ⟨v,H',I.call (h':=hh) (g':=g) (d':=d) (t':=t) (ch:= []) un hok bare (fun b z=>absurd z (by simp)),r,q⟩
end
def jj (sp:Sp) (dvs:List V) (E:XK) (t:TA):TE:=fun σ H Q=>t σ H fun vs H1=>sp (vs++dvs) H1 Q E
def uO (C:Addr) (sp:Sp) (dvs:List V) (E:XK) (t:TA):TE:=fun σ H Q=>t σ H fun vs H1=>∀x dx,H1 x=none->H1 dx=none->dx≠x->
 sp (.ref x::(vs++dvs)) (aL (aL H1 dx (.own x)) x (.ins C dx [])) (fun v H2=>v= .non/\Q (.ref x) H2) E
def Binds (K:F5) (fd:FuncData) (ps:Ld) (ds:Lf):Prop:=
 ∀(s:Shared) (us:Lf),K.In s.heap->(us++ds).length=ps.length->BindsTo s fd ⟨us,[]⟩ (ps.zip (us++ds))
theorem Binds.all {K:F5} {fd:FuncData} {ps:Ld} (h:∀us:Lf,us.length=ps.length->bindArgs fd ⟨us,[]⟩=pure (ps.zip us)):Binds K fd ps []:=fun s us _ hl=>by
 rw[List.append_nil] at hl⊢;exact .of_eq (h us hl)
def jk (CX:qb) (X:Cx) (E:XK):Prop:=∀(pins:Lb) (σ:St) (H:Hp) (s:Shared) (e:Value) (s':Shared),aM X pins σ H s->CX X.stack H s E e s'->X.xe e s'
section
variable {CX:qb} {k:Nat} {f C:Addr} {fd:FuncData} {ps:Ld} {sp:Sp} {dvs:List V} {ds:Lf} {E:XK} {x m:Str} {p pos apos:Pos} {e o:Expr} {es:List Expr} {ta:TE} {t:TA}
theorem qc {pins:Lb} {σ:St} {H:Hp} {s:Shared} {Q:VK} {us:Lf} {vs:List V} (F:aW X.prog X.w X.K X.mg X.base CX k f fd ps sp) (hr:b8 k X.A) (hb:Binds X.K fd ps ds) (hd:aX dvs ds) (hx:jk CX X E)
  (I:aM X pins σ H s) (r:aX vs us) (h:sp (vs++dvs) H Q E):wpAny (model X.prog X.w) X.A (call (.ref f) us) (EP X pins σ Q) X.xe s:=by
 have r2:aX (vs++dvs) (us++ds):=r.append hd;have hl:(us++ds).length=ps.length:=by rw[<-r2.length];exact F.len _ _ _ _ h
 refine wpAny_call (codeAny_mono (F.run X.A X.stack s H ⟨us,[]⟩ (us++ds) (vs++dvs) Q E hr I.env0 (hb s us I.kIn hl) r2 h) fun r s' hq=>?_)
 cases r with
 |error e=>exact hx pins σ H s e s' I hq
 |ok fl=>
  cases fl with
  |ret u=>exact I.after hq
  |next=>exact False.elim hq
  |brk=>exact False.elim hq
  |cont=>exact False.elim hq
theorem q9 (F:aW X.prog X.w X.K X.mg X.base CX k f fd ps sp) (hr:b8 k X.A) (hg:Gl X x) (hm:X.mg x=some (.ref f)) (hk:Gh X.K (.ref f)=true) (hb:Binds X.K fd ps ds) (hd:aX dvs ds) (hx:jk CX X E)
  (ha:PA X (e::es) t) (hdb:(x==("__debug__" :Str))=false:=by decide) (he:starEach (e::es) X.env=(false,eval e X.env)::starEach es X.env:=by rfl) (hpl:(backTo pos (starEach es X.env)).any (·.1)=false:=by rfl):
  PE X (.Call (.Name x p) (e::es) [] pos) (jj sp dvs E t):=by
 intro pins s σ H Q I h;refine wpAny_Call_Name_kw (dR I hg hm ?_ hdb);refine HY (h₀:=X.base) I.ok.mod.kin hk (bV (ha pos pins s σ H _ I h) fun us s1 ⟨vs,H1,I1,r,q⟩=>⟨I1.kIn,?_⟩) he hpl
 exact qc F hr hb hd hx I1 r q
structure Mk (K:F5) (C f:Addr):Prop where
 makes:PySem.W.makesIn K C=true
 init:Ga K (.ref C) "__init__" =some (some (.ref f))
 fn:PySem.W.isFn K (.ref f)=true
 kp:Gh K (.ref C)=true
theorem uP {pins:Lb} {σ:St} {H:Hp} {s:Shared} {Q:VK} {us:Lf} {vs:List V} (M:Mk X.K C f) (F:aW X.prog X.w X.K X.mg X.base CX k f fd ps sp) (hr:b8 (k+1) X.A) (hb:Binds X.K fd ps ds) (hd:aX dvs ds)
  (hx:jk CX X E) (I:aM X pins σ H s) (r:aX vs us)
  (h:∀x dx,H x=none->H dx=none->dx≠x->sp (.ref x::(vs++dvs)) (aL (aL H dx (.own x)) x (.ins C dx [])) (fun v H2=>v= .non/\Q (.ref x) H2) E):
  wpAny (model X.prog X.w) X.A (call (.ref C) us) (EP X pins σ Q) X.xe s:=by
 have hq:=h (s.heap.objs.size+1) s.heap.objs.size (I.hok.fresh (Nat.le_succ _)) (I.hok.fresh (FO _)) (GJ (Nat.lt_succ_self _));have I2:=aM.made (C:=C) I;have r2:aX (V.ref (s.heap.objs.size+1)::(vs++dvs)) (Value.ref (s.heap.objs.size+1)::(us++ds)):= .cons rfl (r.append hd);have hl:(Value.ref (s.heap.objs.size+1)::us++ds).length=ps.length:=by
  have e:=r2.length;rw[F.len _ _ _ _ hq] at e;exact e.symm
 refine wpAny_call (uN (f:=f) I.kIn M.makes M.init (beq_iff_eq.mp M.fn) (codeAny_mono (F.run _ X.stack _ _ ⟨Value.ref (s.heap.objs.size+1)::us,[]⟩ (Value.ref (s.heap.objs.size+1)::(us++ds)) _ _ E (hr.make C us [])
  (I2.env0.make C us []) (hb _ (Value.ref (s.heap.objs.size+1)::us) I2.kIn hl) r2 hq) fun r s' hq'=>?_))
 cases r with
 |error e=>exact hx pins σ _ _ e s' I2 hq'
 |ok fl=>
  cases fl with
  |ret u=>
   obtain ⟨v,H',I3,rv,ev,q3⟩:=I2.after hq';subst ev;exact ⟨rv,⟨V.ref (s.heap.objs.size+1),H',I3,rfl,q3⟩⟩
  |next=>exact False.elim hq'
  |brk=>exact False.elim hq'
  |cont=>exact False.elim hq'
theorem rc (M:Mk X.K C f) (F:aW X.prog X.w X.K X.mg X.base CX k f fd ps sp) (hr:b8 (k+1) X.A) (hg:Gl X x) (hm:X.mg x=some (.ref C)) (hb:Binds X.K fd ps ds) (hd:aX dvs ds) (hx:jk CX X E)
  (ha:PA X (e::es) t) (hdb:(x==("__debug__" :Str))=false:=by decide) (he:starEach (e::es) X.env=(false,eval e X.env)::starEach es X.env:=by rfl) (hpl:(backTo pos (starEach es X.env)).any (·.1)=false:=by rfl):
  PE X (.Call (.Name x p) (e::es) [] pos) (uO C sp dvs E t):=by
 intro pins s σ H Q I h;refine wpAny_Call_Name_kw (dR I hg hm ?_ hdb);refine HY (h₀:=X.base) I.ok.mod.kin M.kp (bV (ha pos pins s σ H _ I h) fun us s1 ⟨vs,H1,I1,r,q⟩=>⟨I1.kIn,?_⟩) he hpl
 exact uP M F hr hb hd hx I1 r q
end
structure aw (N P:Ld) (sc:Scope):Prop where
 kind:sc.kind= .function
 co:sc.isCoroutine=false
 gen:sc.isGenerator=false
 nd:N.Nodup
 pre:N.take P.length=P
 par:∀x∈P,sc.names.lookup x=some .local∨sc.names.lookup x=some .cell
 nofree:∀y∈sc.names,y.2≠ .free
theorem kF {kindOf:Str->Option NameKind} {x:Str}:∀{binds:List (Str×Value)} {m:La},(∀v,(x,v)∉binds)->bindL kindOf binds m x=m x
 | [],_,_=>rfl
 |(n,v)::r,m,h=>by
  unfold bindL;rw[kF fun w hw=>h w (FS _ hw)]
  split
  ·have:x≠n:=by rintro rfl;exact h v GM
   simp[this]
  ·rfl
theorem kG {kindOf:Str->Option NameKind} {x:Str}:∀{binds:List (Str×Value)} {m:La},(∀v,(x,v)∉binds)->bindC kindOf binds m x=m x
 | [],_,_=>rfl
 |(n,v)::r,m,h=>by
  unfold bindC;rw[kG fun w hw=>h w (FS _ hw)]
  split
  ·rfl
  ·have:x≠n:=by rintro rfl;exact h v GM
   simp[this]
theorem kH {kindOf:Str->Option NameKind} {x:Str} {v:Value}:∀{P:Ld} {vs:Lf} {i:Nat} {m:La},P.Nodup->P[i]?=some x->vs[i]?=some v->kindOf x=some .local->
  bindL kindOf (P.zip vs) m x=some v
 | [],_,_,_,_,h,_,_=>by simp at h
 |_::_,[],_,_,_,_,h,_=>by simp at h
 |p::P,w::vs,0,m,nd,h1,h2,hk=>by
  simp at h1 h2;subst h1;subst h2;show bindL kindOf ((p,w)::P.zip vs) m p=_;unfold bindL;rw[kF fun v hv=>(GR.mp nd).1 (List.of_mem_zip hv).1,if_pos hk]
  simp
 |p::P,w::vs,i+1,m,nd,h1,h2,hk=>by
  show bindL kindOf ((p,w)::P.zip vs) m x=_;unfold bindL;exact kH (i:=i) (GR.mp nd).2 (by simpa using h1) (by simpa using h2) hk
theorem kI {kindOf:Str->Option NameKind} {x:Str} {v:Value}:∀{P:Ld} {vs:Lf} {i:Nat} {m:La},P.Nodup->P[i]?=some x->vs[i]?=some v->kindOf x≠some .local->
  bindC kindOf (P.zip vs) m x=some v
 | [],_,_,_,_,h,_,_=>by simp at h
 |_::_,[],_,_,_,_,h,_=>by simp at h
 |p::P,w::vs,0,m,nd,h1,h2,hk=>by
  simp at h1 h2;subst h1;subst h2;show bindC kindOf ((p,w)::P.zip vs) m p=_;unfold bindC;rw[kG fun v hv=>(GR.mp nd).1 (List.of_mem_zip hv).1,if_neg hk]
  simp
 |p::P,w::vs,i+1,m,nd,h1,h2,hk=>by
  show bindC kindOf ((p,w)::P.zip vs) m x=_;unfold bindC;exact kI (i:=i) (GR.mp nd).2 (by simpa using h1) (by simpa using h2) hk
noncomputable def start (N:Ld) (vs:List V):St:=vs.map some++Gb (N.length-vs.length) none
noncomputable def ix (CX:qb) (P:Program) (w:World) (K:F5) (mg:La) (base:Heap) (N:Ld) (qual:Str) (scope:Scope) (f:Addr) (cd:Value) (A:Around) (outer:List Env) (s:Shared) (H:Hp) (E:XK):Cx where
 prog:=P
 w:=w
 K:=K
 mg:=mg
 base:=base
 A:=A.deeper (envOfC qual scope s.heap.objs.size f cd)
 N:=N
 s₀:=s
 H₀:=H
 env:=envOfC qual scope s.heap.objs.size f cd
 outer:=outer
 stack:=envOfC qual scope s.heap.objs.size f cd::outer
 ex:= []
 calm:=true
 fn:=fun _=>true
 pn:= []
 xe:=fun e s'=>wpAny (model P w) (A.deeper (envOfC qual scope s.heap.objs.size f cd)) (leaving (envOfC qual scope s.heap.objs.size f cd) e) (fun _ s''=>CX outer H s E e s'') (fun e' s''=>CX outer H s E e' s'') s'
theorem nG {sc:Scope} {n:Nat} {x:Str} (h:sc.names.lookup x=some .cell):∃c,(cellsFrom n sc.names []).lookup x=some c:=by
 have q:=PySem.W.cellsFrom_some sc.names n [] (.inl h);exact GV.mp q
theorem kJ {CX:qb} {P:Program} {w:World} {K:F5} {mg:La} {base:Heap} {N ps:Ld} {qual:Str} {scope:Scope} {f:Addr} {cd:Value} {A:Around} {outer:List Env} {s s1:Shared} {H:Hp} {E:XK} {us:Lf} {vs:List V}
  (S:aw N ps scope) (hd:A.handled=none) (e0:ko P w K mg base A outer s H) (hl:vs.length=ps.length) (r:aX vs us)
  (x:InCallC s s.heap.objs.size (bindL (envOfC qual scope s.heap.objs.size f cd).kindOf (ps.zip us) fun _=>none) (cellsFrom (s.heap.objs.size+1) scope.names []) (bindC (envOfC qual scope s.heap.objs.size f cd).kindOf (ps.zip us) fun _=>none) s1):
  aM (ix CX P w K mg base N qual scope f cd A outer s H E) [] (start N vs) H s1:=by
 have hpl:ps.length<=N.length:=by have:=congrArg List.length S.pre;rw[GG] at this;lia
 obtain ⟨h1,tk,rfl,hk⟩:=x.done;have noA:∀b:Addr,b∉(ix CX P w K mg base N qual scope f cd A outer s H E).ex:=fun b z=>absurd (show b∈([]:Le) from z) (by simp)
 refine ⟨⟨e0.mod,S.kind,rfl,rfl,FO _,fun y z c h1 h2=>?_,fun y hy=>?_,fun y c _ h=>?_,fun _=>hd,Around.frames_deeper e0.frames,.inr ⟨rfl,rfl⟩,fun b z=>absurd z (noA b),e0.bs,e0.bsz,fun b _ _=>noA b,fun b z=>absurd z (noA b),e0.funs,e0.frf⟩,
  rfl,e0.bare,Un.kept hk,⟨_,x.toInCall.ns,fun i y v h1 h2 h3=>?_⟩,fun y c h=>⟨_,x.cell y c h⟩,e0.hok.fresh (FO _),fun y c h=>?_,fun p hp=>absurd (show p∈([]:Lb) from hp) (by simp),e0.hok.kept hk,?_⟩
 ·exact name_of_addr x.apart (Gc h1) (Gc h2)
 ·have hy:scope.names.lookup y=some .cell∨scope.names.lookup y=some .free:=hy;rcases hy with hy|hy
  ·exact nG hy
  ·exact absurd rfl (S.nofree _ (Gc hy))
 ·exact He (x.above y c (Gc h))
 ·have hi:i<vs.length:=by
   unfold start at h2
   by_cases hi:i<vs.length
   ·exact hi
   ·rw[FN (by simpa using hi)] at h2
    rw[List.getElem?_replicate] at h2
    split at h2<;>cases h2
  have ha:vs[i]?=some v:=by
   unfold start at h2;rw[FV (by simpa using hi),FP] at h2
   cases e:vs[i]? with
   |none=>rw[e] at h2;cases h2
   |some a=>rw[e] at h2;cases h2;rfl
  obtain ⟨u,hu,rv⟩:=r.get ha;have hp:ps[i]?=some y:=by
   rw[<-S.pre,HU (by lia)];exact h1
  have ndP:ps.Nodup:=by rw[<-S.pre];exact S.nd.sublist (List.take_sublist _ _)
  refine ⟨u,rv,?_⟩;rcases S.par y (F9 hp) with k|k
  ·exact .inl ⟨k,kH ndP hp hu k⟩
  ·obtain ⟨c,e⟩:=nG (n:=s.heap.objs.size+1) k;refine .inr ⟨.inl k,c,e,?_⟩;have q:=x.cell y c e;rw[kI ndP hp hu (by show scope.names.lookup y≠_;rw[k];decide)] at q
   exact q
 ·exact e0.hok.fresh (He (x.above y c (Gc h)))
 ·unfold start;show _=N.length;rw[FQ,F6,List.length_replicate]
  lia
theorem yH {CX:qb} {P:Program} {w:World} {K:F5} {mg:La} {base:Heap} {k:Nat} {f:Addr} {name qual:Str} {params:Arguments} {body:List Stmt} {scope:Scope} {dV kV doc pm cdv ct oc:Value} {an od:Lg}
  {osl:Lc} {N ps:Ld} {sp:Sp} (lk:K.lookup f=some ⟨oc,od,.func (Gj name qual params body scope dV kV doc pm an cdv ct),osl⟩) (hcd:Hg K cdv qual=true) (S:aw N ps scope)
  (len:∀vs H Q E,sp vs H Q E->vs.length=ps.length)
  (hbody:∀(A:Around) (outer:List Env) (s:Shared) (H:Hp) (vs:List V) (Q:VK) (E:XK),b8 k (A.deeper (envOfC qual scope s.heap.objs.size f cdv))->sp vs H Q E->
   ∃t,je (ix CX P w K mg base N qual scope f cdv A outer s H E) body t/\t {nx:=fun _ H'=>Q .non H',rt:=Q} (start N vs) H):
  aW P w K mg base CX (k+1) f (Gj name qual params body scope dV kV doc pm an cdv ct) ps sp:=by
 refine ⟨len,fun A outer s H args us vs Q E hr e0 hb r hsp=>?_⟩
 have hl:=len _ _ _ _ hsp;have KX:K.In s.heap:=e0.mod.kin.keeps fun b o e=>(e0.bs b o e).1
 have lim:s.heap.NoLimit:=e0.mod.nolimit.keeps fun b o e=>(e0.bs b o e).1
 have hkind:∀y∈ps.zip us,scope.names.lookup y.1=some .local∨(scope.names.lookup y.1=some .cell/\((cellsFrom (s.heap.objs.size+1) scope.names []).lookup y.1).isSome=true):=fun ⟨n,v⟩ hy=>by
  rcases S.par n (List.of_mem_zip hy).1 with q|q
  ·exact .inl q
  ·exact .inr ⟨q,PySem.W.cellsFrom_some _ _ _ (.inl q)⟩
 refine codeAny_call_function hr.depth (KX _ _ lk) rfl S.co S.gen rfl (PySem.W.codeRec_of KX hcd) (hb _ _ _ _ ?_);refine wpAny_newFunctionEnv_cells S.kind hkind fun env he s1 x=>?_
 subst he;refine ⟨lim.keeps x.toInCall.keep,codeAny_func ?_⟩;obtain ⟨t,ht,hq⟩:=hbody A outer s H vs Q E (hr.deeper _) hsp;have I:aM (ix CX P w K mg base N qual scope f cdv A outer s H E) [] (start N vs) H s1:=kJ S hr.hd e0 hl r x;refine wpAny_mono (ht [] s1 (start N vs) H _ I hq) (fun fl s' hs=>?_) fun e s' hs=>hs
 have fin:∀{σ':St} {H':Hp} {v:V} {u:Value},aM (ix CX P w K mg base N qual scope f cdv A outer s H E) [] σ' H' s'->RelV v u->Q v H'->CE outer P w H s Q u s':=
  fun {σ' H' v u} J rv q=>⟨v,H',J.os,J.bare,J.base,J.hok,rv,q⟩
 cases fl with
 |ret u=>
  obtain ⟨v,σ',H',J,rv,q⟩:=hs;exact fin J rv q
 |next=>
  obtain ⟨σ',H',J,q⟩:=hs;exact fin (v:=V.non) (u:=Value.none) J rfl q
 |brk=>
  obtain ⟨_,_,_,q⟩:=hs;exact False.elim q
 |cont=>
  obtain ⟨_,_,_,q⟩:=hs;exact False.elim q
section
variable {x:Str} {p pos:Pos} {e:Expr} {es:List Expr} {t:TA} {id T:String} {r:List V->Hp->VK->Prop}
def Fc (r:List V->Hp->VK->Prop) (t:TA):TE:=fun σ H Q=>t σ H fun vs H1=>r vs H1 Q
theorem aG (hc:c7 X (.builtin id) r) (hg:Gl X x) (hm:X.mg x=none) (hv:bootBuiltins x=some (.builtin id)) (ha:PA X (e::es) t) (hn:x≠ "__name__" :=by decide) (hdb:(x==("__debug__" :Str))=false:=by decide)
  (he:starEach (e::es) X.env=(false,eval e X.env)::starEach es X.env:=by rfl) (hpl:(backTo pos (starEach es X.env)).any (·.1)=false:=by rfl):PE X (.Call (.Name x p) (e::es) [] pos) (Fc r t):=by
 intro pins s σ H Q I h;refine wpAny_Call_Name_kw (gh I hg hm hv ?_ hn hdb);exact PyProof.Rows.callWith_builtin1 (bV (ha pos pins s σ H _ I h) fun us s1 ⟨vs,H1,I1,r1,q1⟩=>hc pins s1 σ H1 vs us Q I1 r1 q1) he hpl
theorem a7 (hc:c7 X (.type T) r) (hg:Gl X x) (hm:X.mg x=none) (hv:bootBuiltins x=some (.type T)) (ha:PA X (e::es) t) (hn:x≠ "__name__" :=by decide) (hdb:(x==("__debug__" :Str))=false:=by decide)
  (he:starEach (e::es) X.env=(false,eval e X.env)::starEach es X.env:=by rfl) (hpl:(backTo pos (starEach es X.env)).any (·.1)=false:=by rfl):PE X (.Call (.Name x p) (e::es) [] pos) (Fc r t):=by
 intro pins s σ H Q I h;refine wpAny_Call_Name_kw (gh I hg hm hv ?_ hn hdb);exact HZ (bV (ha pos pins s σ H _ I h) fun us s1 ⟨vs,H1,I1,r1,q1⟩=>hc pins s1 σ H1 vs us Q I1 r1 q1) he hpl
end
end L2
open Lean in
local macro_rules|`(⟨$xs,*⟩)=>do
 let mut y:Array (TSyntax `term):=#[]
 let mut c:=false
 for x in xs.getElems do
  if x.raw.getId== `ν then
   c:=true
   y:=(y.push (←`(_))).push (←`(rfl))
  else if x.raw.getId== `ω then
   c:=true
   y:=(((y.push (←`(_))).push (←`(_))).push (←`(rfl))).push (←`(rfl))
  else y:=y.push x
 if c then `(⟨$y,*⟩) else Macro.throwUnsupported
local macro_rules|`($a<*>$b)=>`(@L2.aa _ _ _ _ _ $a $b rfl)
set_option hygiene false in
local macro_rules|`(tactic|and_intros)=>`(tactic|refine F.ok sc (fun vs H Q E h=>?_) (fun cdv A outer s H vs Q E hr h=>?_))
namespace HT
open PySem PyProof.Rows
section
variable {prog:Program} {w:World} {A:Around} {E:K9} {s:Shared}
noncomputable def eJ (n d:Nat):Option Int->Nat
 |none=>d
 |some v=>if v<0 then (v+(n:Int)).toNat else min v.toNat n
theorem nH (n d:Nat):eJ n d none=d:=rfl
theorem w8 (n d k:Nat):eJ n d (some (k:Int))=min k n:=by
 show (if (k:Int)<0 then ((k:Int)+(n:Int)).toNat else min (k:Int).toNat n)=min k n
 rw[if_neg (by lia),Hi]
end
end HT
namespace L2
open PySem PySem.Spec PyProof.Rows
abbrev TO:=St->Hp->(Option Int->Hp->Prop)->Prop
def PO (X:Cx) (e:Option Expr) (t:TO):Prop:=
 ∀(pins:Lb) (s:Shared) (σ:St) (H:Hp) (Q:Option Int->Hp->Prop),aM X pins σ H s->t σ H Q->
  wpAny (model X.prog X.w) X.A (evalPart e X.env) (fun u s'=>∃o H',aM X pins σ H' s'/\IsPart u o/\Q o H') X.xe s
def xc:TO:=fun _ H Q=>Q none H
def B5 (t:TE):TO:=fun σ H Q=>t σ H fun x H1=>∃i,x= .int i/\Q (some i) H1
section
variable {X:Cx} {e:Expr} {te:TE} {lo hi:Option Expr} {tl th:TO} {pos p2:Pos}
theorem cY:PO X none xc:=by
 intro pins s σ H Q I h;rw[evalPart_none];exact wpAny_pure ⟨none,H,I,.none,h⟩
theorem cZ (h:PE X e te):PO X (some e) (B5 te):=by
 intro pins s σ H Q I hw;rw[evalPart_some];refine bV (h pins s σ H _ I hw) fun u s1 ⟨x,H1,I1,r1,q1⟩=>?_
 obtain ⟨i,rfl,q⟩:=q1;obtain ⟨t,rfl⟩:=r1;exact ⟨some i,H1,I1,.int i t,q⟩
def En (X:Cx) (r:V->Option Int->Option Int->Hp->VK->Prop):Prop:=
 ∀(pins:Lb) (s:Shared) (σ:St) (H:Hp) (x:V) (v vl vu:Value) (lo hi:Option Int) (sl:Addr) (Q:VK),aM X pins σ H s->RelV x v->s.heap.IsSliceOf sl vl vu .none->IsPart vl lo->IsPart vu hi->r x lo hi H Q->
  ∃T id,typeLookup (.type T) "__getitem__" =pure (some (.builtin id))/\s.TypeIs v T/\wpAny (model X.prog X.w) X.A (getItem v (.ref sl)) (EP X pins σ Q) X.xe s
def FB (r:V->Option Int->Option Int->Hp->VK->Prop) (te:TE) (tl th:TO):TE:=fun σ H Q=>te σ H fun x H1=>tl σ H1 fun l H2=>th σ H2 fun u H3=>r x l u H3 Q
theorem cG {r:V->Option Int->Option Int->Hp->VK->Prop} (hr:En X r) (he:PE X e te) (hl:PO X lo tl) (hu:PO X hi th):PE X (.Subscript e (.Slice lo hi none p2) pos) (FB r te tl th):=by
 intro pins s σ H Q I h;refine Subscript_ (bV (he pins s σ H _ I h) fun v s1 ⟨x,H1,I1,r1,q1⟩=>?_)
 refine wpAny_Slice (bV (hl pins s1 σ H1 _ I1 q1) fun vl s2 ⟨l,H2,I2,pl,q2⟩=>bV (hu pins s2 σ H2 _ I2 q2) fun vu s3 ⟨u,H3,I3,pu,q3⟩=>?_)
 rw[evalPart_none];refine wpAny_pure ?_;have I4:aM X pins σ H3 {s3 with heap:=s3.heap.push {cls:= .type "slice",data:= .fields #[vl,vu,.none]}}:=I3.kept (t':=s3.toks) fun b ob q=>Heap.get?_push_of_some _ q
 obtain ⟨T,id,hT,ht,hg⟩:=hr pins {s3 with heap:=s3.heap.push {cls:= .type "slice",data:= .fields #[vl,vu,.none]}} σ H3 x v vl vu l u s3.heap.objs.size Q I4 r1 (Heap.IsSliceOf.new ..) pl pu q3
 show wpAny (model X.prog X.w) X.A (subscriptTail e (.Slice lo hi none p2) v (.ref s3.heap.objs.size)) (EP X pins σ Q) X.xe {s3 with heap:=s3.heap.push {cls:= .type "slice",data:= .fields #[vl,vu,.none]}}
 exact tail_any (ops:= [.ref s3.heap.objs.size,v]) ht hT hg (by with_unfolding_all rfl)
noncomputable def fG (xs:List V) (lo hi:Option Int):List V:=(xs.drop (HT.eJ xs.length 0 lo)).take (HT.eJ xs.length xs.length hi-HT.eJ xs.length 0 lo)
theorem nI (xs:List V) (lo hi:Option Int):(fG xs lo hi).length<=xs.length:=by
 unfold fG;rw[GG,Gd]
 lia
end
noncomputable def uQ (n:Nat) (i:Int):Option Nat:=if 0<=i then (if i<n then some i.toNat else none) else if-(n:Int)<=i then some (i+n).toNat else none
noncomputable def fe {α:Type} (xs:List α) (i:Int):Option α:=(uQ xs.length i).bind fun j=>xs[j]?
theorem re {n:Nat} {i:Int} {j:Nat} (h:uQ n i=some j):seqIndex? i n=some j/\j<n/\ -(n:Int)<=i/\i<n:=by
 unfold uQ at h
 by_cases h0:0<=i
 ·rw[if_pos h0] at h
  by_cases h1:i<n
  ·rw[if_pos h1] at h;have e:i.toNat=j:=GK h;exact ⟨by rw[seqIndex_of h0 h1,e],by lia,by lia,h1⟩
  ·rw[if_neg h1] at h;cases h
 ·rw[if_neg h0] at h
  by_cases h1: -(n:Int)<=i
  ·rw[if_pos h1] at h;have e:(i+n).toNat=j:=GK h;exact ⟨by rw[seqIndex_neg (by lia) h1,e],by lia,h1,by lia⟩
  ·rw[if_neg h1] at h;cases h
theorem lY {α:Type} {xs:List α} {i:Int} {v:α} (h:fe xs i=some v):∃j,seqIndex? i xs.length=some j/\xs[j]?=some v/\j<xs.length/\ -(xs.length:Int)<=i/\i<xs.length:=by
 unfold fe at h;cases e:uQ xs.length i with
 |none=>rw[e] at h;cases h
 |some j=>
  rw[e] at h;obtain ⟨h1,h2,h3,h4⟩:=re e;exact ⟨j,h1,h,h2,h3,h4⟩
theorem aC {α:Type} {xs:List α} {j:Nat} {v:α} (h:xs[j]?=some v):fe xs (j:Int)=some v:=by
 have hj:j<xs.length:=(FR.mp h).1;have e:uQ xs.length (j:Int)=some j:=by
  unfold uQ;rw[if_pos (by lia),if_pos (by lia)];simp
 unfold fe;rw[e];exact h
def xf (b:Expr):Prop:=∀o i,subscripted b false o i=operate [o,i] (getItem o i)
def uR (X:Cx) (r:R2):Prop:=
 ∀(value slice:Expr) (pins:Lb) (s:Shared) (σ:St) (H:Hp) (x y:V) (v u:Value) (Q:VK),aM X pins σ H s->RelV x v->RelV y u->r x y H Q->
  subscripted slice false v u=operate [v,u] (getItem v u)->wpAny (model X.prog X.w) X.A (subscriptTail value slice v u) (EP X pins σ Q) X.xe s
def BB (X:Cx) (id:String) (r:V->List V->Hp->VK->Prop):Prop:=
 ∀(pins:Lb) (s:Shared) (σ:St) (H:Hp) (x:V) (xs:List V) (v:Value) (us:Lf) (Q:VK),aM X pins σ H s->RelV x v->aX xs us->r x xs H Q->
  wpAny (model X.prog X.w) X.A (call (.builtin id) (v::us)) (EP X pins σ Q) X.xe s
section
variable {X:Cx} {a b:Expr} {ta tb:TE} {pos:Pos}
theorem uR.or {r r':R2} (h:uR X r) (h':uR X r'):uR X (fun x y H Q=>r x y H Q∨r' x y H Q):=by
 intro value slice pins s σ H x y v u Q I rx ry q hs;rcases q with q|q
 ·exact h value slice pins s σ H x y v u Q I rx ry q hs
 ·exact h' value slice pins s σ H x y v u Q I rx ry q hs
theorem ai {r:R2} (hr:uR X r) (ha:PE X a ta) (hb:PE X b tb) (hs:xf b):PE X (.Subscript a b pos) (zw r ta tb):=by
 intro pins s σ H Q I h;exact Subscript_ (zx ha hb I h fun v u s2 x y H2 I2 rx ry q=>hr a b pins s2 σ H2 x y v u Q I2 rx ry q (hs _ _))
def xg (K:F5):R2:=fun x y H Q=>∃p xs i v,x= .ref p/\y= .int i/\aO K H p xs/\fe xs i=some v/\Q v H
def xh (K:F5):R2:=fun x y H Q=>∃p xs i v,x= .ref p/\y= .int i/\bi K H p xs/\fe xs i=some v/\Q v H
def B6:R2:=fun x y H Q=>∃z i c,x= .str z/\y= .int i/\z.length<=sizeLine/\fe z.cps.toList i=some c/\Q (.str ⟨#[c]⟩) H
theorem aB:uR X (xg X.K):=by
 intro value slice pins s σ H x y v u Q I rx ry h hs;obtain ⟨p,xs,i,z,rfl,rfl,hq,he,q⟩:=h;cases rx;obtain ⟨t,rfl⟩:=ry;obtain ⟨its,r,pl,hz⟩:=I.list hq;obtain ⟨j,h1,h2,h3,h4,h5⟩:=lY he;obtain ⟨w,ew,rw'⟩:=r.get h2;have hl:=r.length;have hn:=iu;have fin:EP X pins σ Q w s:=⟨z,H,I,rw',q⟩
 by_cases h0:0<=i
 ·have hj:i.toNat=j:=by
   rw[seqIndex_of h0 h5] at h1;exact GK h1
  exact item_listR pl.isList h0 (by lia) (by rw[hj];simpa using ew) fin hs
 ·have hj:(i+(its.toArray.size:Int)).toNat=j:=by
   rw[seqIndex_neg (by lia) h4] at h1
   rw[GN,<-hl];exact GK h1
  exact subscriptTail_builtinR (x:=w) pl.isList.typeIs slot_list_getitem.lookup
   (wpAny_getItem_list_neg (Q:=fun r s'=>r=w/\EP X pins σ Q r s') pl.isList (by lia) (by rw[GN]<;>lia) (by lia) (by rw[hj];simpa using ew) ⟨rfl,fin⟩) hs
theorem bj:uR X (xh X.K):=by
 intro value slice pins s σ H x y v u Q I rx ry h hs;obtain ⟨p,xs,i,z,rfl,rfl,hq,he,q⟩:=h;cases rx;obtain ⟨t,rfl⟩:=ry;obtain ⟨its,r,pl,hz⟩:=I.tuple hq;obtain ⟨j,h1,h2,h3,h4,h5⟩:=lY he;obtain ⟨w,ew,rw'⟩:=r.get h2;have hl:=r.length;have hn:=iu;have fin:EP X pins σ Q w s:=⟨z,H,I,rw',q⟩;exact subscriptTail_builtinR (x:=w) pl.typeIs slot_tuple_getitem.lookup
  (getItem_tuple (j:=j) (Q:=fun r s'=>r=w/\EP X pins σ Q r s') pl (by lia) (by lia) (by rw[GN,<-hl];exact h1) (by simpa using ew) ⟨rfl,fin⟩) hs
theorem jm:uR X B6:=by
 intro value slice pins s σ H x y v u Q I rx ry h hs;obtain ⟨z,i,c,rfl,rfl,hz,he,q⟩:=h;obtain ⟨t,rfl⟩:=rx;obtain ⟨t',rfl⟩:=ry;obtain ⟨j,h1,h2,h3,h4,h5⟩:=lY he;have hl:z.cps.toList.length=z.length:=by simp[Str.length]
 rw[hl] at h1 h4 h5;have hn:=iu;exact tail_any (typeIs_str s z t) slot_str_getitem.lookup (getItem_str (c:=c) (by
  have e1:decide (i< -(2^63:Int))=false:=decide_eq_false (by lia)
  have e2:decide (i≥2^63)=false:=decide_eq_false (by lia)
  rw[e1,e2,Bool.or_false]) (by rw[h1];simpa using h2) ⟨.str ⟨#[c]⟩,H,I.tok _,⟨_,rfl⟩,q⟩) hs
def FC (K:F5):R2:=fun x y H Q=>xg K x y H Q∨xh K x y H Q∨B6 x y H Q
theorem lZ:uR X (FC X.K):=aB.or (bj.or jm)
theorem qd (its:Lf) (n j:Nat) (u:Value):Obj.mapSeq (·.setIfInBounds j u) {cls:= .type "list",data:= .seq its.toArray n}={cls:= .type "list",data:= .seq (its.set j u).toArray n}:=by
 simp[Obj.mapSeq]
theorem aM.lst {pins:Lb} {σ:St} {H:Hp} {s:Shared} {p:Addr} {xs:List V} (I:aM X pins σ H s) (h:H p=some (.lst xs)):
  ∃(its:Lf) (n:Nat),aX xs its/\s.heap.get? p=some {cls:= .type "list",data:= .seq its.toArray n}/\xs.length<=sizeLine:=by
 obtain ⟨z,its,n,r,e⟩:=I.hok p _ h;exact ⟨its,n,r,e,z⟩
theorem aM.lstUpd {pins:Lb} {σ:St} {H:Hp} {s:Shared} {p:Addr} {xs ys:List V} {its its':Lf} {n n':Nat} {f:Obj->Obj} (I:aM X pins σ H s) (h:H p=some (.lst xs))
  (ho:s.heap.get? p=some {cls:= .type "list",data:= .seq its.toArray n}) (hf:f {cls:= .type "list",data:= .seq its.toArray n}={cls:= .type "list",data:= .seq its'.toArray n'}) (r:aX ys its') (hz:ys.length<=sizeLine) (t:Nat):
  aM X pins σ (aL H p (.lst ys)) {s with heap:=s.heap.update p f,toks:=t}:=by
 have e:(s.heap.update p f).get? p=some {cls:= .type "list",data:= .seq its'.toArray n'}:=by
  rw[Heap.get?_update_self f ho (by rw[hf]<;>rfl),hf]
 refine I.write (x:=p) (e:=p) (by rw[h];trivial) (.inl rfl) (fun b u hb q=>(Heap.get?_update_other _ _ (Ne.symm hb)).trans q) ⟨_,e⟩ ?_
 exact ⟨hz,its',n',r,e⟩
def B8:V->V->V->Hp->(Hp->Prop)->Prop:=fun o i v H Q=>∃p xs k j,o= .ref p/\i= .int k/\H p=some (.lst xs)/\uQ xs.length k=some j/\Q (aL H p (.lst (xs.set j v)))
theorem set_list:BS X B8:=by
 intro pins s σ H o i v ov iv u Q I ro ri rv h;obtain ⟨p,xs,k,j,rfl,rfl,hp,hj,q⟩:=h;cases ro;obtain ⟨t,rfl⟩:=ri;obtain ⟨its,n,r,ho,hz⟩:=I.lst hp;obtain ⟨h1,h2,h3,h4⟩:=re hj;have hl:=r.length;have hn:=iu;have I':aM X pins σ (aL H p (.lst (xs.set j v))) {s with heap:=s.heap.update p (Obj.mapSeq (·.setIfInBounds j u))}:=
  I.lstUpd hp ho (qd its n j u) (r.set rv j) (by rw[List.length_set];exact hz) s.toks
 by_cases h0:0<=k
 ·have hk:k.toNat=j:=by
   rw[seqIndex_of h0 h4] at h1;exact GK h1
  exact PySem.W.ki_setAt ho h0 (by lia) (by rw[GN,<-hl];exact h4) (by rw[hk];exact ⟨_,I',q⟩)
 ·have hk:(k+(its.toArray.size:Int)).toNat=j:=by
   rw[seqIndex_neg (by lia) h3] at h1
   rw[GN,<-hl];exact GK h1
  exact PySem.W.ki_setBack ho (by lia) (by rw[GN,<-hl];exact h3) (by lia) (by rw[hk];exact ⟨_,I',q⟩)
theorem l7 (lo hi:Option Int) (n:Nat):(sliceBounds lo hi none n).1=((HT.eJ n 0 lo:Nat):Int)/\(sliceBounds lo hi none n).2.1=((HT.eJ n n hi:Nat):Int)/\(sliceBounds lo hi none n).2.2=1:=by
 refine ⟨?_,?_,rfl⟩
 ·cases lo with
  |none=>simp[sliceBounds,HT.eJ]
  |some i=>
   simp only[sliceBounds,HT.eJ,Option.getD_none,show (1:Int)>0 by decide,if_true]
   by_cases h:i<0
   ·simp only[h,if_true]<;>lia
   ·simp only[h,if_false]<;>lia
 ·cases hi with
  |none=>simp[sliceBounds,HT.eJ]
  |some i=>
   simp only[sliceBounds,HT.eJ,Option.getD_none,show (1:Int)>0 by decide,if_true]
   by_cases h:i<0
   ·simp only[h,if_true]<;>lia
   ·simp only[h,if_false]<;>lia
theorem kq (its:Lf) (lo hi:Option Int):slicePick its.toArray lo hi none=((its.drop (HT.eJ its.length 0 lo)).take (HT.eJ its.length its.length hi-HT.eJ its.length 0 lo)).toArray:=by
 obtain ⟨h1,h2,h3⟩:=l7 lo hi its.toArray.size;unfold slicePick;rw[h1,h2,h3];simp only[sliceRange_one,pick_run,GN]<;>rfl
def Eo (K:F5):V->Option Int->Option Int->Hp->VK->Prop:=fun x lo hi H Q=>∃a xs,x= .ref a/\aO K H a xs/\∀p,H p=none->Q (.ref p) (aL H p (.lst (fG xs lo hi)))
theorem gI:En X (Eo X.K):=by
 intro pins s σ H x v vl vu lo hi sl Q I rx hs pl pu h;obtain ⟨a,xs,rfl,hx,q⟩:=h;cases rx;obtain ⟨its,r,ht,hz⟩:=I.list hx;have hlen:=r.length;refine ⟨"list",_,slot_list_getitem.lookup,ht.isList.typeIs,?_⟩;refine wpAny_getItem_list_slice ht.isList hs pl pu .none (by simp) ?_ (by rw[GN]<;>lia)
 rw[kq,<-hlen];refine ⟨.ref s.heap.objs.size,_,I.laid (t':=s.toks) (o:= .lst (fG xs lo hi)) (fun b ob q=>Heap.get?_push_of_some _ q) (FO _) ?_,rfl,q _ (I.hok.fresh (FO _))⟩
 exact ⟨GP (nI xs lo hi) hz,_,0,(r.drop (HT.eJ xs.length 0 lo)).take (HT.eJ xs.length xs.length hi-HT.eJ xs.length 0 lo),Heap.get?_push_size _ rfl⟩
noncomputable def gJ:V->Bool
 | .non=>true
 | .bl _=>true
 | .int _=>true
 | .str _=>true
 |_=>false
noncomputable def xj:V->V->Bool
 | .non,.non=>true
 | .bl a,.bl b=>a==b
 | .bl a,.int b=>(if a then 1 else 0)==b
 | .int a,.bl b=>a==(if b then 1 else 0)
 | .int a,.int b=>a==b
 | .str a,.str b=>a==b
 |_,_=>false
theorem zy {A:Around} {s:Shared} {y x:V} {u v:Value} (ry:RelV y u) (rx:RelV x v) (fy:gJ y=true) (fx:gJ x=true):SeqAt.EqAt A s u v (xj y x):=by
 cases y with
 |non=>
  cases ry;cases x with
  |non=>cases rx;exact SeqAt.EqAt.same _
  |bl b=>cases rx;exact SeqAt.EqAt.none_bool b
  |int b=>obtain ⟨t,rfl⟩:=rx;exact SeqAt.EqAt.none_int b t
  |str b=>obtain ⟨t,rfl⟩:=rx;exact SeqAt.EqAt.none_str b t
  |_=>exact absurd (show false=true from fx) GE
 |bl a=>
  cases ry;cases x with
  |non=>cases rx;exact SeqAt.EqAt.bool_none a
  |bl b=>cases rx;exact SeqAt.EqAt.bool_bool a b
  |int b=>obtain ⟨t,rfl⟩:=rx;exact SeqAt.EqAt.bool_int a b t
  |str b=>obtain ⟨t,rfl⟩:=rx;exact SeqAt.EqAt.bool_str a b t
  |_=>exact absurd (show false=true from fx) GE
 |int a=>
  obtain ⟨t',rfl⟩:=ry;cases x with
  |non=>cases rx;exact SeqAt.EqAt.int_none a t'
  |bl b=>cases rx;exact SeqAt.EqAt.int_bool a t' b
  |int b=>obtain ⟨t,rfl⟩:=rx;exact SeqAt.EqAt.int_int a t' b t
  |str b=>obtain ⟨t,rfl⟩:=rx;exact SeqAt.EqAt.int_str a t' b t
  |_=>exact absurd (show false=true from fx) GE
 |str a=>
  obtain ⟨t',rfl⟩:=ry;cases x with
  |non=>cases rx;exact SeqAt.EqAt.str_none a t'
  |bl b=>cases rx;exact SeqAt.EqAt.str_bool a t' b
  |int b=>obtain ⟨t,rfl⟩:=rx;exact SeqAt.EqAt.str_int a t' b t
  |str b=>obtain ⟨t,rfl⟩:=rx;exact SeqAt.EqAt.str_str a t' b t
  |_=>exact absurd (show false=true from fx) GE
 |_=>exact absurd (show false=true from fy) GE
noncomputable def xm (x:V) (u:Value):Bool:=match u with
 | .none=>xj .non x
 | .bool b=>xj (.bl b) x
 | .int i _=>xj (.int i) x
 | .str z _=>xj (.str z) x
 |_=>false
theorem uS {x y:V} {u:Value} (r:RelV y u) (f:gJ y=true):xm x u=xj y x:=by
 cases y with
 |non=>cases r;rfl
 |bl b=>cases r;rfl
 |int i=>obtain ⟨t,rfl⟩:=r;rfl
 |str z=>obtain ⟨t,rfl⟩:=r;rfl
 |_=>exact absurd (show false=true from f) GE
theorem me {x:V}:∀{xs:List V} {us:Lf},aX xs us->xs.all gJ=true->us.any (xm x)=xs.any fun y=>xj y x
 |_,_,.nil,_=>rfl
 |y::xs,u::us,.cons r t,f=>by
  rw[List.all_cons,Bool.and_eq_true] at f;rw[List.any_cons,List.any_cons,uS r f.1,me t f.2]
theorem jo {A:Around} {s:Shared} {x:V} {v:Value} (rx:RelV x v) (fx:gJ x=true):∀{xs:List V} {us:Lf},aX xs us->xs.all gJ=true->∀u∈us,SeqAt.EqAt A s u v (xm x u)
 |_,_,.nil,_=>fun u hu=>by cases hu
 |y::xs,u::us,.cons r t,f=>fun u' hu=>by
  rw[List.all_cons,Bool.and_eq_true] at f;rcases F8.mp hu with rfl|hu
  ·rw[uS r f.1];exact zy r rx f.1 fx
  ·exact jo rx fx t f.2 u' hu
noncomputable def BC (x:V) (xs:List V):Bool:=xs.any fun y=>xj y x
def FD (K:F5) (neg:Bool):R2:=fun x y H Q=>∃p xs,y= .ref p/\(aO K H p xs∨bi K H p xs)/\gJ x=true/\xs.all gJ=true/\Q (.bl (if neg then !BC x xs else BC x xs)) H
theorem eC:ik X (compareOp .In) (FD X.K false):=by
 intro pins s σ H x y v u Q I rx ry h;obtain ⟨p,xs,rfl,hq,fx,fs,q⟩:=h;cases ry;rcases hq with hq|hq
 ·obtain ⟨its,r,pl,hz⟩:=I.list hq;refine SeqAt.in_listAt (xm x) pl.isList (fun w hw=>jo rx fx r fs w (by simpa using hw)) ⟨.bl _,H,I,rfl,?_⟩
  rw[show its.toArray.any (xm x)=its.any (xm x) by simp,me r fs]
  exact q
 ·obtain ⟨its,r,pl,hz⟩:=I.tuple hq;refine SeqAt.in_tupleAt (xm x) pl (fun w hw=>jo rx fx r fs w (by simpa using hw)) ⟨.bl _,H,I,rfl,?_⟩
  rw[show its.toArray.any (xm x)=its.any (xm x) by simp,me r fs]
  exact q
theorem dU:ik X (compareOp .NotIn) (fun x y H Q=>∃i j,x= .str i/\y= .str j/\Q (.bl (!(!(Builtin.Str.occurrences j i 0 j.length 1).isEmpty))) H):=by
 intro pins s σ H x y v u Q I rx ry h;obtain ⟨i,j,rfl,rfl,q⟩:=h;obtain ⟨t,rfl⟩:=rx;obtain ⟨t',rfl⟩:=ry;exact notIn_str ⟨.bl _,H,I,rfl,q⟩
theorem aZ:c7 X (.builtin "len") (fun xs H Q=>∃p ys,xs= [.ref p]/\(aO X.K H p ys∨bi X.K H p ys)/\Q (.int ys.length) H):=by
 intro pins s σ H xs us Q I r h;obtain ⟨p,ys,rfl,hq,q⟩:=h;obtain ⟨u,rfl,rx⟩:=vals1 r;cases rx;have hn:=iu;rcases hq with hq|hq
 ·obtain ⟨its,r',pl,hz⟩:=I.list hq;have hlen:=r'.length;exact Calls.call_len_list pl.isList (by simp only[GN]<;>lia) ⟨.int ys.length,H,I.tok _,⟨s.toks+1,by rw[GN,hlen]⟩,q⟩
 ·obtain ⟨its,r',pl,hz⟩:=I.tuple hq;have hlen:=r'.length;exact len_tuple pl (by simp only[GN]<;>lia) ⟨.int ys.length,H,I.tok _,⟨s.toks+1,by rw[GN,hlen]⟩,q⟩
theorem dW:c7 X (.builtin "len") (fun xs H Q=>∃z,xs= [.str z]/\z.length<=sizeLine/\Q (.int z.length) H):=by
 intro pins s σ H xs us Q I r h;obtain ⟨z,rfl,hz,q⟩:=h;obtain ⟨u,rfl,t,rfl⟩:=vals1 r;have hn:=iu;exact len_str (by lia) ⟨.int z.length,H,I.tok _,⟨ν⟩,q⟩
theorem cB:c7 X (.type "list") (fun xs H Q=>∃p ys,xs= [.ref p]/\(aO X.K H p ys∨bi X.K H p ys)/\∀l,H l=none->Q (.ref l) (aL H l (.lst ys))):=by
 intro pins s σ H xs us Q I r h;obtain ⟨p,ys,rfl,hq,q⟩:=h;obtain ⟨u,rfl,rx⟩:=vals1 r;cases rx;have fin:∀(its:Lf),aX ys its->ys.length<=sizeLine->∀(h':Heap) (c':Nat),(∀b o',s.heap.get? b=some o'->h'.get? b=some o')->
   h'.get? s.heap.objs.size=some {cls:= .type "list",dict:=none,data:= .seq its.toArray c',slots:= #[]}->EP X pins σ Q (.ref s.heap.objs.size) {s with heap:=h'}:=fun its r' hz h' c' kp e=>
  ⟨.ref s.heap.objs.size,_,I.laid (t':=s.toks) kp (FO _) (show cq X.prog X.w _ h' _ (.lst ys) from ⟨hz,its,c',r',e⟩),rfl,q _ (I.hok.fresh (FO _))⟩
 rcases hq with hq|hq
 ·obtain ⟨its,r',pl,hz⟩:=I.list hq;have hlen:=r'.length;obtain ⟨o,ho,hc,n,hd⟩:=pl.isList;exact call_list_seq p (.inl rfl) ho hc hd (fun h' c' kp e=>fin its r' hz h' c' kp e) (by simp only[GN]<;>lia)
 ·obtain ⟨its,r',pl,hz⟩:=I.tuple hq;have hlen:=r'.length;obtain ⟨o,ho,hc,n,hd⟩:=pl;exact call_list_seq p (.inr rfl) ho hc hd (fun h' c' kp e=>fin its r' hz h' c' kp e) (by simp only[GN]<;>lia)
def Fd (K:F5) (T:String) (x:V) (H:Hp):Prop:=match x with
 | .str _=>T= "str"
 | .int _=>T= "int"
 | .ref p=>(T= "list" /\∃xs,aO K H p xs)∨(T= "tuple" /\∃o,K.lookup p=some o/\o.cls= .type "tuple" /\o.dict=none)∨
   (T= "dict" /\((∃kvs,H p=some (.dK kvs))∨∃kvs,H p=some (.dT kvs)))∨(T= "set" /\∃S n,H p=some (.set S n))
 |_=>False
theorem zz {pins:Lb} {σ:St} {H:Hp} {s:Shared} {T:String} {x:V} {v:Value} (I:aM X pins σ H s) (r:RelV x v) (ty:Fd X.K T x H):
  s.TypeIs v T/\∀a,v= .ref a->∃ob,s.heap.get? a=some ob/\ob.dict=none:=by
 cases x with
 |str z=>
  obtain ⟨t,rfl⟩:=r;cases (show T= "str" from ty)
  exact ⟨typeIs_str s z t,fun _ e=>nomatch e⟩
 |int i=>
  obtain ⟨t,rfl⟩:=r;cases (show T= "int" from ty)
  exact ⟨typeIs_int s i t,fun _ e=>nomatch e⟩
 |ref p=>
  cases r;rcases ty with ⟨rfl,xs,hq⟩|⟨rfl,o,hk,hc,hd⟩|⟨rfl,hk⟩|⟨rfl,S,n,hk⟩
  ·obtain ⟨its,_,pl,_⟩:=I.list hq;refine ⟨pl.isList.typeIs,fun a e=>?_⟩
   cases e;obtain ⟨o,n,e,c,hd,_⟩:=pl;exact ⟨o,e,hd⟩
  ·refine ⟨⟨o,I.kIn p o hk,hc⟩,fun a e=>?_⟩
   cases e;exact ⟨o,I.kIn _ o hk,hd⟩
  ·have z:∃o,s.heap.get? p=some o/\o.ExactDict:=by
    rcases hk with ⟨kvs,hk⟩|⟨kvs,hk⟩
    ·obtain ⟨_,_,_,_,o,_,_,e,ex,_⟩:=I.hok p _ hk;exact ⟨o,e,ex⟩
    ·obtain ⟨_,_,_,_,o,_,_,e,ex,_⟩:=I.hok p _ hk;exact ⟨o,e,ex⟩
   obtain ⟨o,e,ex⟩:=z;refine ⟨⟨o,e,ex.1⟩,fun a e2=>?_⟩
   cases e2;exact ⟨o,e,ex.2.1⟩
  ·obtain ⟨o,_,_,_,e,ex,_⟩:=I.hok p _ hk;refine ⟨⟨o,e,ex.1⟩,fun a e2=>?_⟩
   cases e2;exact ⟨o,e,ex.2.1⟩
 |_=>exact False.elim ty
def Fe (K:F5) (T:String) (r:V->List V->Hp->VK->Prop) (to:TE) (t:TA):TE:=fun σ H Q=>to σ H fun x H1=>Fd K T x H1/\t σ H1 fun xs H2=>r x xs H2 Q
variable {o e:Expr} {es:List Expr} {to:TE} {t:TA} {name:Str} {apos cpos:Pos} {T id:String} {r:V->List V->Hp->VK->Prop}
theorem bZ (pa:PlainAttrs T) (slot:Slot T name id) (hty:typeOf (.builtin id)=pure (.type "method_descriptor")) (hm:BB X id r) (ho:PE X o to) (ha:PA X (e::es) t)
  (hbase:attributeBase o name X.env (eval o X.env)=eval o X.env:=by rfl)
  (hfew:((backTo cpos (starEach (e::es) X.env)).all (fun x=> !x.1)&&(backToKw cpos (keywordEach [] X.env)).all (fun x=>x.1.isSome)
   &&decide ((e::es).length+([]:List Keyword).length+(if ([]:List Keyword).isEmpty then 0 else 1)<30))=true:=by rfl)
  (hline:(apos.endLine==cpos.line)=true:=by rfl) (hs:starEach (e::es) X.env=(false,eval e X.env)::starEach es X.env:=by rfl) (hplain:(backTo cpos (starEach es X.env)).any (·.1)=false:=by rfl):
  PE X (.Call (.Attribute o name apos) (e::es) [] cpos) (Fe X.K T r to t):=by
 intro pins s σ H Q I h;refine wpAny_Call_method_late hbase hfew hline rfl (bV (ho pins s σ H _ I h) fun v s1 ⟨x,H1,I1,r1,ty,q1⟩=>?_)
 obtain ⟨h1,h2⟩:=zz I1 r1 ty;refine ⟨T,id,pa,slot,hty,h1,h2,?_⟩;have hA:=ha cpos pins s1 σ H1 _ I1 q1;rw[hs] at hA⊢;refine Calls.callWith_builtin (by show (false||(backTo cpos (starEach es X.env)).any (·.1))=false;rw[hplain]<;>rfl) (Calls.evalArgs_plain ?_)
 exact bV hA fun us s2 ⟨vs,H2,I2,r2,q2⟩=>hm pins s2 σ H2 x vs v us Q I2 r1 r2 q2
end
def FE (X:Cx) (id:String) (r:V->List V->Hp->VK->Prop):Prop:=
 ∀(pins:Lb) (s:Shared) (σ:St) (H:Hp) (x:V) (xs:List V) (v:Value) (us:Lf) (Q:VK),aM X pins σ H s->RelV x v->aX xs us->r x xs H Q->
  wpAny (model X.prog X.w) X.A (call (.builtin id) (v::us)) (EP X pins σ Q) X.xe s
theorem aX.one:∀{x:V} {us:Lf},aX [x] us->∃u,us= [u]/\RelV x u
 |_,_,.cons r .nil=>⟨_,rfl,r⟩
theorem aX.rep {xs:List V} {us:Lf} (h:aX xs us):∀k:Nat,aX (Gb k xs).flatten (Gb k us).flatten
 |0=> .nil
 |k+1=>by
  rw[Hu,Hu,List.flatten_cons,List.flatten_cons];exact aX.append h (aX.rep h k)
theorem foldl_rep (its:Lf):∀(k:Nat) (acc:Lf),
  List.foldl (fun x1 x2=>x1++x2) acc.toArray (Gb k its.toArray)=(acc++(Gb k its).flatten).toArray
 |0,acc=>by simp
 |k+1,acc=>by
  have e:acc.toArray++its.toArray=(acc++its).toArray:=by simp
  have e2:(acc++its)++(Gb k its).flatten=acc++(Gb (k+1) its).flatten:=by
   rw[Hu,List.flatten_cons,GT]
  rw[<-e2,<-foldl_rep its k (acc++its),<-e,Hu,List.foldl_cons]
section
variable {X:Cx} {pins:Lb} {σ:St} {H:Hp} {s:Shared} {l b:Addr} {xs ys zs:List V}
theorem aM.lset {its its':Lf} {n:Nat} {f:Array Value->Array Value} {t':Nat} (I:aM X pins σ H s) (hH:H l=some (.lst xs))
  (e:s.heap.get? l=some {cls:= .type "list",data:= .seq its.toArray n}) (hf:f its.toArray=its'.toArray) (hv:aX ys its') (hz:ys.length<=sizeLine):
  aM X pins σ (aL H l (.lst ys)) {s with heap:=s.heap.update l (Obj.mapSeq f),toks:=t'}:=by
 have q:=PySem.IsL.update e f;rw[hf] at q;refine I.write (x:=l) (e:=l) (by rw[hH];exact trivial) (.inl rfl) (fun b' u hb hu=>(Heap.get?_update_other s.heap (Obj.mapSeq f) (Ne.symm hb)).trans hu) ⟨_,q⟩ ?_
 exact ⟨hz,its',_,hv,q⟩
theorem aM.lnew {its:Lf} {t':Nat} (I:aM X pins σ H s) (hv:aX ys its) (hz:ys.length<=sizeLine):
  aM X pins σ (aL H s.heap.objs.size (.lst ys)) {s with heap:=s.heap.push {cls:= .type "list",data:= .seq its.toArray},toks:=t'}:=
 I.laid (fun _ _ q=>Heap.get?_push_of_some _ q) (FO _) ⟨hz,its,0,hv,Heap.get?_push_size _ rfl⟩
theorem aM.fresh (I:aM X pins σ H s):H s.heap.objs.size=none:=I.hok.fresh (FO _)
theorem aM.lstM (I:aM X pins σ H s) (hH:H l=some (.lst xs)):xs.length<=sizeLine/\∃(its:Lf) (n:Nat),aX xs its/\xs.length=its.length/\s.heap.get? l=some {cls:= .type "list",data:= .seq its.toArray n}:=by
 obtain ⟨z,its,n,r,e⟩:=I.hok l _ hH;exact ⟨z,its,n,r,r.length,e⟩
theorem uT {n:Nat} (h:n<=sizeLine):Builtin.List.listTooLong n=false:=by
 unfold Builtin.List.listTooLong;exact decide_eq_false (by lia)
end
variable {X:Cx}
def xn:V->List V->Hp->VK->Prop:=fun x vs H Q=>∃l xs y,x= .ref l/\vs= [y]/\H l=some (.lst xs)/\xs.length<sizeLine/\Q .non (aL H l (.lst (xs++ [y])))
theorem aS:FE X "list.append" xn:=by
 intro pins s σ H x vs v us Q I rx rv h;obtain ⟨l,xs,y,rfl,rfl,hH,hz,q⟩:=h;cases rx;obtain ⟨u,rfl,ru⟩:=rv.one;obtain ⟨z,its,n,r,hl,e⟩:=I.lstM hH;refine call_meets F.slot_list_append ⟨_,e,rfl⟩ F.entry_list_append (F.args_list_append_2 _ _) (PySem.list_append l its.toArray n u (by rw[GN];lia)) ⟨e,?_⟩
 refine ⟨.non,_,I.lset (its':=its++ [u]) hH e (by simp) (r.append (.cons ru .nil)) ?_,rfl,q⟩
 rw[FQ,List.length_singleton]
 lia
def Ep:R2:=fun x y H Q=>∃l b xs zs,x= .ref l/\y= .ref b/\H l=some (.lst xs)/\H b=some (.lst zs)/\xs.length+zs.length<=sizeLine/\∀p,H p=none->Q (.ref p) (aL H p (.lst (xs++zs)))
theorem mf:ik X (binaryOp .Add) Ep:=by
 intro pins s σ H x y v u Q I rx ry h;obtain ⟨l,b,xs,zs,rfl,rfl,hH,hB,hz,q⟩:=h;cases rx;cases ry;obtain ⟨z,its,n,r,hl,e⟩:=I.lstM hH;obtain ⟨z2,its2,n2,r2,hl2,e2⟩:=I.lstM hB;refine PySem.P.add_list e e2 ?_ (by rw[GN,GN];lia)
 have ea:its.toArray++its2.toArray=(its++its2).toArray:=by simp
 rw[ea];exact ⟨.ref _,_,I.lnew (t':=s.toks) (r.append r2) (by rw[FQ];lia),rfl,q _ I.fresh⟩
def Er:R2:=fun x y H Q=>∃l k xs,x= .ref l/\y= .int k/\H l=some (.lst xs)/\ -(2^63)<=k/\k<2^63/\xs.length*k.toNat<=sizeLine/\
 ∀p,H p=none->Q (.ref p) (aL H p (.lst (Gb k.toNat xs).flatten))
theorem len_rep {α:Type} (xs:List α) (k:Nat):(Gb k xs).flatten.length=k*xs.length:=by
 induction k with
 |zero=>simp
 |succ k ih=>rw[Hu,List.flatten_cons,FQ,ih,Nat.succ_mul,Nat.add_comm]
theorem zA:ik X (binaryOp .Mult) Er:=by
 intro pins s σ H x y v u Q I rx ry h;obtain ⟨l,k,xs,rfl,rfl,hH,h1,h2,hz,q⟩:=h;cases rx;obtain ⟨t,rfl⟩:=ry;obtain ⟨z,its,n,r,hl,e⟩:=I.lstM hH;have hlen:its.toArray.size*k.toNat<=sizeLine:=by rw[GN,<-hl];exact hz
 have hcap:¬its.toArray.size*k.toNat>(2^63-1)/8:=by
  have:(sizeLine:Nat)<=(2^63-1)/8:=by decide
  lia
 have hfit:¬(!Builtin.List.listFitsIndex k)=true:=by
  rw[fitsIndex_both h1 h2];exact GE
 have hlong:¬Builtin.List.listTooLong (its.toArray.size*k.toNat)=true:=by
  rw[uT hlen];exact GE
 have hnew:List.foldl (fun x1 x2=>x1++x2) #[] (Gb (if its.toArray.isEmpty=true then 0 else k.toNat) its.toArray)=(Gb k.toNat its).flatten.toArray:=by
  have f0:∀m:Nat,List.foldl (fun x1 x2=>x1++x2) #[] (Gb m its.toArray)=(Gb m its).flatten.toArray:=fun m=>by
   have:=foldl_rep its m [];rw[List.nil_append] at this;exact this
  rw[f0];cases its with
  |nil=>simp
  |cons a r'=>rw[if_neg (by simp)]
 refine wpAny_binaryOp_repeat_ref (T:= "list") (U:= "int") (by decide) ⟨_,e,rfl⟩ (fun s'=>typeIs_int s' k t) noFill_list_mul F.fills_int_mul F.slot_int_rmul repeat_list F.slot_int_index.lookup
  (call_meets F.slot_int_rmul (typeIs_int s k t) F.entry_int_rmul (F.args_int_rmul_2 _ _) (int___rmul___int_list k t l its.toArray n)
   ⟨e,rfl,⟨_,e,rfl⟩,call_meets F.slot_list_mul ⟨_,e,rfl⟩ F.entry_list_mul (F.args_list_mul_2 _ _) (AutoListH.list___mul___list_int_3 l its.toArray n k t hfit hcap hlong) ⟨e,?_⟩⟩)
 rw[hnew];exact ⟨.ref _,_,I.lnew (t':=s.toks) (r.rep k.toNat) (by rw[len_rep,Ho];exact hz),rfl,q _ I.fresh⟩
theorem rf {P:Program} {w:World} {k:Key} {u:Value} (r:RelV (kV k) u):(dQ P w).is k u=true:=by
 cases k with
 |inl i=>obtain ⟨t,e⟩:=(show ∃t,u=Value.int i t from r);subst e;exact nB P w i t
 |inr x=>obtain ⟨t,e⟩:=(show ∃t,u=Value.str x t from r);subst e;exact nC P w x t
def B9 (i:Expr):Prop:=∀ov iv,subscripted i false ov iv=operate [ov,iv] (getItem ov iv)
theorem xp {prog:Program} {w:World} {A:Around} {E:K9} {s:Shared} {env:Env} {value slice:Expr} {pos:Pos} {T id:String} {Q:K9}
  (hl:typeLookup (.type T) "__getitem__" =pure (some (.builtin id))) (hs:B9 slice)
  (h:wpAny (model prog w) A (eval value env) (fun o s₁=>wpAny (model prog w) A (eval slice env) (fun i s₂=>s₂.TypeIs o T/\wpAny (model prog w) A (getItem o i) Q E s₂) E s₁) E s):
  wpAny (model prog w) A (eval (.Subscript value slice pos) env) Q E s:=by
 refine Subscript_ (wpAny_mono h (fun o s₁ h₁=>wpAny_mono h₁ (fun i s₂ h₂=>?_) fun _ _ x=>x) fun _ _ x=>x)
 obtain ⟨hT,h₂⟩:=h₂;unfold subscriptTail;refine wpAny_bind ?_;rw[getitemInPython_of_ne hT.not_modules];refine wpAny_bind (wpAny_specialOf hT hl ?_);have fin:wpAny (model prog w) A (subscripted slice false o i) (fun r s₃=>wpAny (model prog w) A (letTemporaryGo value o r>>=fun _=>pure r) Q E s₃) E s₂:=by
  rw[hs o i];exact wpAny_operating (wpAny_mono h₂ (fun r s₃ h₃=>wpAny_bind (wpAny_letTemporaryGo (wpAny_pure h₃))) fun _ _ x=>x)
 first
  |exact wpAny_pure (wpAny_bind fin)
  |exact wpAny_bind (wpAny_pure (wpAny_bind fin))
  |exact wpAny_bind fin
end L2
namespace Att
open PySem PySem.W PySem.Calls PyProof.Rows
theorem iU {P:Params} {h:Heap}:∀(ns:List Int) (vs:Lf),WellAll P h vs (ns.map WData.int)->IntsAre vs ns:=by
 intro ns
 induction ns with
 |nil=>
  intro vs w;rw[List.map_nil] at w;cases w;exact .nil
 |cons n ns ih=>
  intro vs w;rw[Gw] at w;cases w with
  |cons a b=>
   cases a;exact .cons _ _ (ih _ b)
theorem tH {l:OpenLaw} {n:Nat} (hn:l.most=some n) {P:Params} {h:Heap} {args:List WData} {vals:Lf}
  (hpre:l.row.toRowW.claim.pre args=true) (hwl:WellAll P h vals args):
  ∃a vs ns,vals= [Value.ref a]/\args= [WData.list (ns.map WData.int)]/\h.get? a=some {cls:= .type "list",data:= .seq vs.toArray}/\IntsAre vs ns/\ns.length<=n:=by
 have hsh:WShape.hasAll [] args [.list .int]=true:=(pre_splitW hpre).1;have hc:l.pre.holds [] {args:=args}=true:=(pre_splitW hpre).2;obtain ⟨d,r,rfl,h1,h2⟩:=hasAllW_cons hsh;obtain rfl:=hasAllW_nil h2;obtain ⟨xs,rfl,h3⟩:=hasW_list h1;obtain ⟨ns,rfl⟩:=items_int h3;have hlen:ns.length<=n:=by
  unfold OpenLaw.pre at hc;have h4:(WTm.not (.lt (.lit (.int (n:Int))) (.len (.arg 0)))).holds [] {args:= [.list (ns.map .int)]}=true:=by
   have h4:=(holds_andW hc).1;rw[hn] at h4;exact h4
  have h5:=condW_of h4 (w_not (w_lt w_lit (w_len_list (w_arg rfl))));rw[F6] at h5;refine Nat.le_of_not_lt fun q=>?_
  have q':(n:Int)<((ns.length:Nat):Int):=by lia
  first
   |(rw[decide_eq_true q'] at h5;exact absurd h5 (by decide))
   |(simp at h5;lia)
 cases hwl with
 |cons w1 w2=>
  cases w2;cases w1 with
  |list ho hall=>exact ⟨_,_,ns,rfl,rfl,ho,iU ns _ hall,hlen⟩
theorem tI (l:OpenLaw) (args:List WData):l.row.toRowW.claim.post args (.bool true) args=true:=
 postW_of (r:=l.row.toRowW) (X:=(true==true))
  (show WShape.has [] (.bool true) .bool=true by first|rfl|decide|simp[WShape.has,WShape.arms,WShape.armsAll])
  (show (WTm.eq .res (.lit (.bool true))).value [] {args:=args,res:=some (.bool true),after:=args}=some (.bool (true==true)) from w_eq_bool (w_res rfl) w_lit) rfl
theorem nJ {l:OpenLaw} {n:Nat} {q:Program} {loose:Ld} {XP:La->Heap->Prop} {YP:World->Heap->Prop} {d:DefRec}
  (hn:l.most=some n) (hdf:d.params.defaults= [])
  (call:∀(w:World) (s₀ s₁:Shared) (mg mb:La) (fa:Addr) (o:Obj) (pm cd doc:Value) (a:Addr) (vs:Lf) (ns:List Int),
   Ground q loose [] XP w s₀ mg mb s₁.heap->YP w s₁.heap->
   s₁.heap.get? fa=some o->o.data= .func (docDef d.name d.params d.body d.scope pm cd doc)->s₁.heap.CodeRec cd d.name->mg d.name=some (.ref fa)->
   s₁.heap.get? a=some {cls:= .type "list",data:= .seq vs.toArray}->IntsAre vs ns->ns.length<=n->s₁.gens= #[]->
   codeAny (model l.prog w) callerA (.call (.ref fa) ⟨[.ref a],[]⟩) (fun r s'=>r= .ok (.ret (.bool true))/\OldK s₁.heap s'.heap/\s'.os=s₁.os/\AllBare s'.gens) s₁):
  WalkO q loose XP YP l.row.toRowW d [] (fun f vs=>PySem.call f vs):=by
 intro w s₀ s₁ mg mb G Y fa o pm cd doc dV kV ho hd hcd hD hmg hg args vals as hpre hlay hrd hwl hlo;obtain rfl:dV= .none:=Dflts.none hD hdf;obtain rfl:kV= .none:=Dflts.noKw hD;obtain ⟨a,vs,ns,rfl,rfl,hobj,hints,hlen⟩:=tH hn hpre hwl;refine enter_call (codeAny_mono (call w s₀ s₁ mg mb fa o pm cd doc a vs ns G Y ho (fd_plain hd) hcd hmg hobj hints hlen hg) fun r s' hq=>?_)
 obtain ⟨rfl,h2,h3,h4⟩:=hq;exact ⟨.inl ⟨.bool true,.bool true,[],rfl,fun _=>rfl,.bool true,tI l _,fun _=>⟨List.Pairwise.nil,fun _ hm=>(nomatch hm)⟩⟩,h2,h3,h4⟩
end Att
namespace L2
open PySem PySem.Spec PyProof.Rows
theorem kK:∀{vs:Lf} {ns:List Int},IntsAre vs ns->aX (ns.map V.int) vs
 |_,_,.nil=> .nil
 |_,_,.cons n t h=> .cons ⟨t,rfl⟩ (kK h)
def zB (H:Hp):Prop:=∀b,H b=none∨∃o xs,H b=some (.frz o (.lst xs))
theorem uU {P:Program} {w:World} {K:F5} {mg mb:La} {CX:qb} {k:Nat} {fa a:Addr} {fd:FuncData} {x:Str} {sp:Sp} {s₁:Shared} {vs:Lf} {ns:List Int}
  (KX:K.In s₁.heap) (hns:s₁.heap.Ns mainGlobals mg) (hb:s₁.heap.Ns builtinsNs mb) (hbb:∀x:Str,x≠ "__name__" ->mb x=bootBuiltins x) (hlim:s₁.heap.NoLimit) (hg:s₁.gens= #[])
  (ha:s₁.heap.get? a=some {cls:= .type "list",data:= .seq vs.toArray}) (hi:IntsAre vs ns) (hl:ns.length<=sizeLine) (hr:b8 k callerA)
  (F:∀base:Heap,K.In base->base.Ns mainGlobals mg->aW P w K mg base CX k fa fd [x] sp) (hbind:∀(s:Shared) (u:Value),BindsTo s fd ⟨[u],[]⟩ [(x,u)])
  (hsp:∀H:Hp,zB H->aO K H a (ns.map V.int)->sp [.ref a] H (fun v _=>v= .bl true) fun _ _ _=>False)
  (hCX:∀H e s',CX [] H s₁ (fun _ _ _=>False) e s'->False):
  codeAny (model P w) callerA (.call (.ref fa) ⟨[.ref a],[]⟩) (fun r s'=>r= .ok (.ret (.bool true))/\OldK s₁.heap s'.heap/\s'.os=s₁.os/\AllBare s'.gens) s₁:=by
 have rv:=kK hi;have lenV:=hi.length;have core:∀H:Hp,zB H->aO K H a (ns.map V.int)->gb P w H s₁.heap->(∀b,H b≠none->b=a)->(H a≠none->K.lookup a=none)->
   codeAny (model P w) callerA (.call (.ref fa) ⟨[.ref a],[]⟩) (fun r s'=>r= .ok (.ret (.bool true))/\OldK s₁.heap s'.heap/\s'.os=s₁.os/\AllBare s'.gens) s₁:=by
  intro H hO hS hok hA hK;have base_of:∀{b:Addr} {o:Obj},s₁.heap.get? b=some o->H b=none->(lU s₁.heap H).get? b=some o:=fun e n=>uG e n
  have noA:∀{b:Addr} {o:Obj} {es:Array DictEntry} {ep:Nat},s₁.heap.get? b=some o->o.data= .dict es ep->H b=none:=fun {b o es ep} e d=>by
   cases q:H b with
   |none=>rfl
   |some u=>
    have e':b=a:=hA b (by rw[q];simp)
    subst e';rw[ha] at e;cases e;have d':Data.seq vs.toArray _=Data.dict es ep:=d;cases d'
  have nsK:∀{b:Addr} {m:La},s₁.heap.Ns b m->(lU s₁.heap H).Ns b m:=fun {b m} ⟨o,es,ep,e,d,r⟩=>⟨o,es,ep,base_of e (noA e d),d,r⟩
  have hKb:K.In (lU s₁.heap H):=fun b o e=>base_of (KX b o e) (by
   cases q:H b with
   |none=>rfl
   |some u=>
    have e':b=a:=hA b (by rw[q];simp)
    subst e';rw[hK (by rw[q];simp)] at e;cases e)
  have hM:Mod K mg (lU s₁.heap H):=⟨hKb,nsK hns,⟨mb,nsK hb,hbb⟩,let ⟨mc,h1,h2⟩:=hlim;⟨mc,nsK h1,h2⟩⟩;have e0:ko P w K mg (lU s₁.heap H) callerA [] s₁ H:=⟨rfl,hM,fun b o e=>wS e,Nat.le_of_eq (tj _ _),trivial,fun b hb=>absurd (show b∈([]:Le) from hb) (by simp),hok,.of_eq hg⟩
  refine codeAny_mono ((F _ hKb (nsK hns)).run callerA [] s₁ H ⟨[.ref a],[]⟩ [.ref a] [.ref a] _ _ hr e0 (hbind s₁ (.ref a)) (.cons rfl .nil) (hsp H hO hS)) fun r s' h=>?_
  cases r with
  |error e=>exact (hCX H e s' h).elim
  |ok fl=>
   cases fl with
   |next=>exact False.elim h
   |brk=>exact False.elim h
   |cont=>exact False.elim h
   |ret u=>
    obtain ⟨v,H',os,bare,un,hok',r',q⟩:=h;have q':v= .bl true:=q;subst q';obtain rfl:u=Value.bool true:=r';refine ⟨rfl,OldK.of_keep fun b o e=>?_,os,bare⟩
    cases q:H b with
    |none=>exact un.keep b o e q (by intro z;exact absurd (show b∈([]:Le) from z) (by simp)) (by simp)
    |some u=>
     rcases hO b with z|⟨ob,xs,z⟩
     ·rw[q] at z;cases z
     ·have z2:=un.frzs b ob _ z;obtain ⟨e1,_⟩:=hok b _ z;obtain ⟨e2,_⟩:=hok' b _ z2;rw[e] at e1;cases e1;exact e2
 cases hk:K.lookup a with
 |some o=>
  have e:=KX a o hk;rw[ha] at e;cases e;refine core (fun _=>none) (fun _=> .inl rfl) (.inr ⟨_,vs.toArray,_,hk,rfl,rfl,rfl,by rw[GN,lenV];exact hl,by simpa using rv⟩) (fun b u z=>by have z':(none:Option HO)=some u:=z;cases z') (fun b z=>absurd rfl z) fun z=>absurd rfl z
 |none=>
  refine core (fun b=>if b=a then some (.frz {cls:= .type "list",data:= .seq vs.toArray} (.lst (ns.map V.int))) else none) (fun b=>?_) (.inl (.inr ⟨{cls:= .type "list",data:= .seq vs.toArray},if_pos rfl⟩)) (fun b u z=>?_) (fun b z=>?_) fun _=>hk
  ·by_cases hb:b=a
   ·exact .inr ⟨_,_,if_pos hb⟩
   ·exact .inl (if_neg hb)
  ·by_cases hb:b=a
   ·have z':=(if_pos hb).symm.trans z;cases z';subst hb;exact ⟨ha,by rw[F6];exact hl,vs,_,rv,ha⟩
   ·have z':=(if_neg hb).symm.trans z;cases z'
  ·by_cases hb:b=a
   ·exact hb
   ·exact absurd (if_neg hb) z
theorem xq {l:PySem.W.OpenLaw} {n k:Nat} {q:Program} {loose:Ld} {XP:La->Heap->Prop} {YP:World->Heap->Prop} {d:DefRec} {K:Params->F5} {CX:World->qb} {sp:World->Sp} {x:Str}
  (hn:l.most=some n) (hn2:n<=sizeLine) (hdf:d.params.defaults= []) (hr:b8 k callerA)
  (hY:∀(w:World) (h:Heap),YP w h->(K w.params).In h)
  (F:∀(w:World) (mg:La) (fa:Addr) (h:Heap),(K w.params).In h->h.Ns mainGlobals mg->mg d.name=some (.ref fa)->
   ∃fd:FuncData,(∀(s:Shared) (u:Value),BindsTo s fd ⟨[u],[]⟩ [(x,u)])/\
    ∀base:Heap,(K w.params).In base->base.Ns mainGlobals mg->aW l.prog w (K w.params) mg base (CX w) k fa fd [x] (sp w))
  (hsp:∀(w:World) (H:Hp) (a:Addr) (ns:List Int),ns.length<=n->zB H->aO (K w.params) H a (ns.map V.int)->sp w [.ref a] H (fun v _=>v= .bl true) fun _ _ _=>False)
  (hCX:∀(w:World) (H:Hp) (s:Shared) (e:Value) (s':Shared),CX w [] H s (fun _ _ _=>False) e s'->False):
  PySem.W.WalkO q loose XP YP l.row.toRowW d [] (fun f vs=>PySem.call f vs):=by
 refine Att.nJ hn hdf fun w s₀ s₁ mg mb fa o pm cd doc a vs ns G Y ho hd hcd hmg hobj hints hlen hg=>?_
 have KX:=hY w _ Y;obtain ⟨fd,hb,hF⟩:=F w mg fa _ KX G.T.g hmg;exact uU KX G.T.g G.T.b G.T.builtins G.T.nolimit hg hobj hints (GP hlen hn2) hr hF hb (fun H hO hS=>hsp w H a ns hlen hO hS) fun H e s'=>hCX w H s₁ e s'
noncomputable def dX (s:Stmt):Arguments:=match s with
 | .FunctionDef _ a _ _ _ _ _ _ _ _=>a
 |_=>{posonlyargs:= [],args:= [],vararg:=none,kwonlyargs:= [],kw_defaults:= [],kwarg:=none,defaults:= []}
noncomputable def c5 (s:Stmt):List Stmt:=match s with
 | .FunctionDef _ _ b _ _ _ _ _ _ _=>b
 |_=> []
noncomputable def ao (s:Stmt):Scope:=match s with
 | .FunctionDef _ _ _ _ _ _ sc _ _ _=>sc
 |_=>{kind:= .function,names:= [],isGenerator:=false,isCoroutine:=false}
abbrev aV:qb:=fun _ _ _ _ _ _=>False
abbrev E0:XK:=fun _ _ _=>False
theorem kO {X:Cx}:jk aV X E0:=fun _ _ _ _ _ _ _ h=>h.elim
theorem Ca {A:Around} {k:Nat} (hr:b8 k A):A.units+1<cLine:=Ge (Nat.add_le_add_left (by decide:1<=64) _) hr.units
variable {X:Cx}
theorem pv (i:Nat) {x:Str} {pos:Pos} (hN:X.N[i]?=some x:=by rfl) (hv:DK X.env.scope x:=by first|exact Or.inl rfl|exact Or.inr (Or.inl rfl)|exact Or.inr (Or.inr rfl)) (hd:(x==("__debug__" :Str))=false:=by decide)
  (hcd:(x==("__classdict__" :Str))=false:=by decide):PE X (.Name x pos) (wT i):=zq hN hv hd hcd
theorem cU {A B:Prop} (h:B):if false=true then A else B:=by
 rw[if_neg GE];exact h
theorem dh {A B:Prop} (h:A):if true=true then A else B:=by
 rw[if_pos rfl];exact h
def aA (H H':Hp):Prop:=∀b o,H b=some o->H' b=some o
theorem aA.refl (H:Hp):aA H H:=fun _ _ h=>h
theorem aA.trans {H H1 H2:Hp} (a:aA H H1) (b:aA H1 H2):aA H H2:=fun c o h=>b c o (a c o h)
theorem aA.free {H H':Hp} (e:aA H H') {l:Addr} (h:H' l=Option.none):H l=Option.none:=by
 cases q:H l with
 |none=>rfl
 |some o=>
  rw[e l o q] at h;cases h
theorem aA.seq {K:F5} {H H':Hp} {a:Addr} {xs:List V} (e:aA H H') (h:aO K H a xs):aO K H' a xs:=by
 rcases h with (h|⟨o,h⟩)|h
 ·exact .inl (.inl (e _ _ h))
 ·exact .inl (.inr ⟨o,e _ _ h⟩)
 ·exact .inr h
theorem bo:ik X (binaryOp .Mult) (rI (fun i j=>IntMulOk i j) fun i j=> .int (i*j)):=DL fun _ _ _ _ _ _ _ hc q=>mul_int q hc
theorem aQ:ik X (binaryOp .FloorDiv) (rI (fun i j=>j≠0/\Builtin.divisionGoesByPylong i j=false) fun i j=> .int (i.fdiv j)):=DL fun _ _ _ _ _ _ _ hc q=>floordiv_int hc.1 q (.inl hc.2)
theorem fV:ik X (binaryOp .Pow) (rI (fun i j=>0<=j/\(Builtin.Int.intBits i:Int)*j<=2^27) fun i j=> .int (i^j.toNat)):=DL fun _ _ _ _ _ _ _ hc q=>pow_int hc.1 hc.2 q
theorem nK:c7 X (.builtin "isinstance") (fun xs H Q=>∃i,xs= [.int i,.ty "int"]/\Q (.bl true) H):=by
 intro pins s σ H xs us Q I r h;obtain ⟨i,rfl,q⟩:=h;obtain ⟨u,w',rfl,⟨t,rfl⟩,e2⟩:=vals2 r;cases e2;exact PySem.call_isinstance (PySem.isinstance_true (Tx:= "int") PySem.F.isi_meta_int PySem.F.isi_self_int) ⟨rfl,⟨.bl true,H,I,rfl,q⟩⟩
theorem mh:c7 X (.builtin "isinstance") (fun xs H Q=>∃i,xs= [.int i,.ty "bool"]/\Q (.bl false) H):=by
 intro pins s σ H xs us Q I r h;obtain ⟨i,rfl,q⟩:=h;obtain ⟨u,w',rfl,⟨t,rfl⟩,e2⟩:=vals2 r;cases e2;exact PySem.call_isinstance (PySem.isinstance_false_int (T:= "bool") (by decide) PySem.F.isi_meta_bool PySem.F.sub_int_bool) ⟨.bl false,H,I.tok _,rfl,q⟩
theorem nL:c7 X (.builtin "isinstance") (fun xs H Q=>∃i,xs= [.bl i,.ty "bool"]/\Q (.bl true) H):=by
 intro pins s σ H xs us Q I r h;obtain ⟨i,rfl,q⟩:=h;obtain ⟨u,w',rfl,e1,e2⟩:=vals2 r;cases e1;cases e2;exact PySem.call_isinstance (PySem.isinstance_true (Tx:= "bool") PySem.F.isi_meta_bool PySem.F.isi_self_bool) ⟨rfl,⟨.bl true,H,I,rfl,q⟩⟩
theorem nM:c7 X (.builtin "isinstance") (fun xs H Q=>∃a ys,xs= [.ref a,.ty "tuple"]/\bi X.K H a ys/\Q (.bl true) H):=by
 intro pins s σ H xs us Q I r h;obtain ⟨a,ys,rfl,hs,q⟩:=h;obtain ⟨u,w',rfl,e1,e2⟩:=vals2 r;cases e1;cases e2;obtain ⟨its,_,p1,_⟩:=I.tuple hs;exact PySem.call_isinstance (PySem.isinstance_true (Tx:= "tuple") PySem.F.isi_meta_tuple PySem.F.isi_self_tuple) ⟨p1.typeIs,⟨.bl true,H,I,rfl,q⟩⟩
end L2
namespace Sw
open PySem
def Bd (n:Nat) (x:Int):Prop:=x.natAbs<2^n
theorem Bd.mono {m n:Nat} {x:Int} (h:Bd m x) (e:m<=n):Bd n x:=GL h (Nat.pow_le_pow_right (by decide) e)
theorem Bd.of_le {n:Nat} {x y:Int} (h:Bd n y) (e:x.natAbs<=y.natAbs):Bd n x:=Ge e h
theorem Bd.neg {n:Nat} {x:Int} (h:Bd n x):Bd n (-x):=h.of_le (by lia)
theorem Bd.mul {m n:Nat} {x y:Int} (h:Bd m x) (g:Bd n y):Bd (m+n) (x*y):=by
 unfold Bd at*;rw[Int.natAbs_mul,Nat.pow_add];exact Nat.mul_lt_mul_of_lt_of_le h (He g) (Ge (Gi _) g)
theorem Bd.add {k:Nat} {x y:Int} (h:Bd k x) (g:Bd k y):Bd (k+1) (x+y):=by
 unfold Bd at*;rw[Nat.pow_succ];generalize 2^k=p at h g⊢
 lia
theorem Bd.ok {m n:Nat} {x y:Int} (h:Bd m x) (g:Bd n y) (e:m+n<=134217728:=by decide):IntMulOk x y:=
 IntMulOk.of_le (intBits_le_iff.mpr h) (intBits_le_iff.mpr g) e
theorem Bd.div {n:Nat} {x y:Int} (h:Bd n y) (y0:y≠0) (e:n<=9000:=by decide):Builtin.divisionGoesByPylong x y=false:=by
 refine PyProof.noPylong_of_log2 ((Nat.log2_lt (by lia)).mpr ?_)
 exact GL h (Nat.pow_le_pow_right (by decide) e)
theorem Bd.one:Bd 1 1:=by unfold Bd;decide
noncomputable def cg (a b:Int):Int:=((Int.gcd a b:Nat):Int)
theorem xr (a b:Int):0<=cg a b:=Int.natCast_nonneg _
theorem qe (a b:Int):cg (-a) b=cg a b:=by unfold cg;rw[Int.neg_gcd]
theorem qf (a b:Int):cg a (-b)=cg a b:=by unfold cg;rw[Int.gcd_neg]
theorem kP {g l:Int} (hl:0<l):cg l (g.fmod l)=cg g l:=by
 unfold cg;have e:g.fmod l=g-(g.fdiv l)*l:=by rw[Int.fmod_def,Hr]
 rw[e,Int.gcd_comm l,Int.gcd_sub_mul_right_left]
noncomputable def uV (i:Int):Int:=if i<0 then-i else i
theorem rg (i:Int):0<=uV i:=by unfold uV;split<;>lia
theorem uW (a b:Int):cg (uV a) (uV b)=cg a b:=by
 unfold uV
 split<;>split<;>simp only[qe,qf]
theorem kQ {g:Int} (h:0<=g):cg g 0=g:=by
 unfold cg;rw[Int.gcd_zero_right];lia
theorem gK {a b:Int} (h:cg a b=0):a=0/\b=0:=by
 unfold cg at h;exact Int.gcd_eq_zero_iff.mp (by lia)
theorem jp (a b:Int):cg a b∣a:=Int.gcd_dvd_left ..
theorem gr (a b:Int):cg a b∣b:=Int.gcd_dvd_right ..
structure Fr (p q a b:Int):Prop where
 pos:0<q
 low:cg p q=1
 same:p*b=a*q
 bt:p.natAbs<=a.natAbs
 bb:q.natAbs<=b.natAbs
structure DM (p q:Int):Prop where
 pos:0<q
 low:cg p q=1
theorem Fr.to {p q a b:Int} (h:Fr p q a b):DM p q:=⟨h.pos,h.low⟩
theorem iJ {p q k:Int} (h:cg p q=1) (d:q∣p*k):q∣k:=by
 have c:Int.gcd q p=1:=by unfold cg at h;rw[Int.gcd_comm];lia
 have d':q.natAbs∣p.natAbs*k.natAbs:=by rw[<-Int.natAbs_mul];exact Int.natAbs_dvd_natAbs.mpr d
 exact Int.natAbs_dvd_natAbs.mp (Nat.Coprime.dvd_of_dvd_mul_left (show Nat.Coprime q.natAbs p.natAbs from c) d')
theorem jq {p q p' q':Int} (h:DM p q) (h':DM p' q') (e:p*q'=p'*q):p=p'/\q=q':=by
 have d1:q∣q':=iJ h.low (by rw[e];exact Int.dvd_mul_left ..)
 have d2:q'∣q:=iJ h'.low (by rw[<-e];exact Int.dvd_mul_left ..)
 have eq:q=q':=by
  have n1:=Int.le_of_dvd h'.pos d1;have n2:=Int.le_of_dvd h.pos d2
  lia
 subst eq;exact ⟨Int.eq_of_mul_eq_mul_right (by have:=h.pos;lia) e,rfl⟩
noncomputable def ke (a b:Int):Int:=if b<0 then-cg a b else cg a b
theorem qg {a b:Int} (h:b≠0):ke a b≠0:=by
 have g:cg a b≠0:=fun z=>h (gK z).2
 unfold ke;split<;>lia
theorem yI {a b:Int} (h:b≠0):Fr (a.fdiv (ke a b)) (b.fdiv (ke a b)) a b:=by
 have g:cg a b≠0:=fun z=>h (gK z).2
 have p:0<cg a b:=by have:=xr a b;lia
 have c0:=qg (a:=a) h;have da:ke a b∣a:=by
  unfold ke;split
  ·exact Int.neg_dvd.mpr (jp a b)
  ·exact jp a b
 have db:ke a b∣b:=by
  unfold ke;split
  ·exact Int.neg_dvd.mpr (gr a b)
  ·exact gr a b
 obtain ⟨x,hx⟩:=da;obtain ⟨y,hy⟩:=db;have ex:a.fdiv (ke a b)=x:=by
  conv=>lhs;arg 1;rw[hx]
  exact Int.mul_fdiv_cancel_left x c0
 have ey:b.fdiv (ke a b)=y:=by
  conv=>lhs;arg 1;rw[hy]
  exact Int.mul_fdiv_cancel_left y c0
 rw[ex,ey];have yp:0<y:=by
  have e:=hy;unfold ke at e;rcases (by lia:y<0∨y=0∨0<y) with q|q|q
  ·exfalso
   split at e
   ·rename_i hb;have:=Int.mul_neg_of_pos_of_neg p q;rw[Int.neg_mul] at e
    lia
   ·have:=Int.mul_neg_of_pos_of_neg p q
    lia
  ·rw[q] at hy;lia
  ·exact q
 have lowx:cg x y=1:=by
  have m:cg (ke a b*x) (ke a b*y)=cg a b*cg x y:=by
   show ((Int.gcd _ _:Nat):Int)=_*((Int.gcd x y:Nat):Int);rw[Int.gcd_mul_left,HF]
   congr 1
   unfold ke;split<;>lia
  rw[<-hx,<-hy] at m;exact Int.eq_one_of_mul_eq_self_right g m.symm
 refine ⟨yp,lowx,?_,?_,?_⟩
 ·conv=>lhs;rw[hy]
  conv=>rhs;rw[hx]
  rw[<-Int.mul_assoc,Hr x]
 ·have:a.natAbs=(ke a b).natAbs*x.natAbs:=by conv=>lhs;rw[hx];rw[Int.natAbs_mul]
  rw[this];exact Nat.le_mul_of_pos_left _ (by lia)
 ·have:b.natAbs=(ke a b).natAbs*y.natAbs:=by conv=>lhs;rw[hy];rw[Int.natAbs_mul]
  rw[this];exact Nat.le_mul_of_pos_left _ (by lia)
end Sw
namespace L2
open PySem
inductive Cb (K:F5) (H:Hp):V->String->Bool->Prop where
 |ii (i:Int):Cb K H (.int i) "int" true
 |ib (i:Int):Cb K H (.int i) "bool" false
 |bb (b:Bool):Cb K H (.bl b) "bool" true
 |tt (a:Addr) (ys:List V) (h:bi K H a ys):Cb K H (.ref a) "tuple" true
theorem nO {X:Cx}:c7 X (.builtin "isinstance") (fun xs H Q=>∃x T b,xs= [x,.ty T]/\Cb X.K H x T b/\Q (.bl b) H):=by
 intro pins s σ H xs us Q I r h;obtain ⟨x,T,b,rfl,i,q⟩:=h;cases i with
 |ii i=>exact nK pins s σ H _ us Q I r ⟨i,rfl,q⟩
 |ib i=>exact mh pins s σ H _ us Q I r ⟨i,rfl,q⟩
 |bb i=>exact nL pins s σ H _ us Q I r ⟨i,rfl,q⟩
 |tt a ys h=>exact nM pins s σ H _ us Q I r ⟨a,ys,rfl,h,q⟩
end L2
namespace Sw
open PySem L2
theorem dT {p A B:Prop} [Decidable p] (h:p) (a:A):if decide p=true then A else B:=by rw[if_pos (decide_eq_true h)];exact a
theorem dF {p A B:Prop} [Decidable p] (h:¬p) (b:B):if decide p=true then A else B:=by rw[if_neg (by simp[h])];exact b
theorem d2 {p A B:Prop} [Decidable p] (h1:p->A) (h2:¬p->B):if decide p=true then A else B:=by
 by_cases h:p
 ·exact dT h (h1 h)
 ·exact dF h (h2 h)
theorem nT {p A B:Prop} [Decidable p] (h:¬p) (a:A):if (!decide p)=true then A else B:=by rw[if_pos (by simp[h])];exact a
theorem nF {p A B:Prop} [Decidable p] (h:p) (b:B):if (!decide p)=true then A else B:=by rw[if_neg (by simp[h])];exact b
theorem vi {a b:Int} (h:a=b):V.int a=V.int b:=by rw[h]
theorem vj {a b:Int} (h:V.int a=V.int b):a=b:=by cases h;rfl
theorem uB {a b:Int} {A B:Prop} (h1:a=b->A) (h2:a≠b->B):if decide (V.int a=V.int b)=true then A else B:=d2 (fun h=>h1 (vj h)) fun h=>h2 fun e=>h (vi e)
theorem Ff {a b:Int} {A B:Prop} (h1:a≠b->A) (h2:a=b->B):if (!decide (V.int a=V.int b))=true then A else B:=by
 by_cases h:a=b
 ·exact nF (vi h) (h2 h)
 ·exact nT (fun e=>h (vj e)) (h1 h)
theorem FF {a b:Int} {A B:Prop} (h:a≠b) (x:B):if decide (V.int a=V.int b)=true then A else B:=dF (fun e=>h (vj e)) x
def yJ:Sp:=fun vs H Q _=>∃a b:Int,vs= [.int a,.int b]/\Q (.int (cg a b)) H
def uX (K:F5):Sp:=fun vs H Q _=>∃(a:Addr) (ns:List Int) (k:Int),vs= [.ref a,.int k]/\aO K H a (ns.map V.int)/\0<=k/\∀v:Int,Q (.int v) H
def rh:Sp:=fun vs H Q _=>∃v:Int,vs= [.int v]/\Q (.bl true) H
def rj (K:F5):Sp:=fun vs H Q _=>∃(a:Addr) (ns:List Int),vs= [.ref a]/\aO K H a (ns.map V.int)/\ns.length<=63/\∀H',Q (.bl true) H'
theorem xu {ns:List Int} {k:Int} (h0:0<=k) (h:k<(((ns.map V.int).length:Nat):Int)):∃v:Int,fe (ns.map V.int) k=some (.int v):=by
 rw[F6] at h;have hk:k.toNat<ns.length:=by lia
 have ek:k=((k.toNat:Nat):Int):=by lia
 have q:fe (ns.map V.int) ((k.toNat:Nat):Int)=some (.int ns[k.toNat]):=aC (by rw[FP,F0 hk]<;>rfl)
 rw[<-ek] at q;exact ⟨_,q⟩
theorem cut {t u:TS} {D:Ends} {σ:L2.St} {H:Hp} (I:L2.St->Hp->Prop) (h1:∀N:L2.St->Hp->Prop,(∀σ H,I σ H->N σ H)->t {D with nx:=N} σ H) (h2:∀σ H,I σ H->u D σ H):lW t u D σ H:=h1 _ h2
theorem Cc {K:F5} {H H':Hp} {a:Addr} {xs:List V} (e:aA H H') (h:bi K H a xs):bi K H' a xs:=by
 rcases h with (h|⟨o,h⟩)|h
 ·exact .inl (.inl (e _ _ h))
 ·exact .inl (.inr ⟨o,e _ _ h⟩)
 ·exact .inr h
theorem aj {H:Hp} {p:Addr} (h:H p=none) (o:HO):aA H (aL H p o):=fun b u q=>by rw[av (aP q h)];exact q
theorem xv {a b:Int} (h:0<b):ke a b=cg a b:=by unfold ke;rw[if_neg (by lia)]
theorem uY {n:Nat} {a b:Int} (b0:b≠0) (h:Bd n b):Bd n (ke a b):=by
 have d:cg a b∣b:=gr a b;have k:=Nat.le_of_dvd (by lia) (Int.natAbs_dvd_natAbs.mpr d)
 refine h.of_le ?_;unfold ke
 split<;>lia
def Pair (H:Hp) (Q:VK) (p q:Int):Prop:=∀(t:Addr) (H':Hp),aA H H'->H' t=some (.tup [.int p,.int q])->Q (.ref t) H'
def nP:Sp:=fun vs H Q _=>∃a b:Int,vs= [.int a,.int b]/\0<b/\Bd 8500 b/\∀p q:Int,Fr p q a b->Pair H Q p q
def mn:Sp:=fun vs H Q _=>∃a b:Int,vs= [.int a,.int b]/\b≠0/\Bd 8500 b/\∀p q:Int,Fr p q a b->Pair H Q p q
structure cL (K:F5) (n:Nat) (H:Hp) (t:Addr) (p q:Int):Prop where
 at_:bi K H t [.int p,.int q]
 pos:0<q
 bp:Bd n p
 bq:Bd n q
theorem cL.same {K:F5} {n:Nat} {H H':Hp} {t:Addr} {p q:Int} (h:cL K n H t p q) (e:aA H H'):cL K n H' t p q:=⟨Cc e h.at_,h.pos,h.bp,h.bq⟩
theorem cL.mono {K:F5} {m n:Nat} {H:Hp} {t:Addr} {p q:Int} (h:cL K m H t p q) (e:m<=n):cL K n H t p q:=⟨h.at_,h.pos,h.bp.mono e,h.bq.mono e⟩
theorem cL.of {K:F5} {n:Nat} {H:Hp} {t:Addr} {p q a b:Int} (f:Fr p q a b) (ha:Bd n a) (hb:Bd n b) (e:H t=some (.tup [.int p,.int q])):cL K n H t p q:=⟨bi.of e,f.pos,ha.of_le f.bt,hb.of_le f.bb⟩
def zC (K:F5):Sp:=fun vs H Q _=>∃(t:Addr) (p q:Int),vs= [.ref t]/\cL K 8000 H t p q/\Q (.int (-((-p).fdiv q))) H
def uZ (K:F5):Sp:=fun vs H Q _=>∃(t:Addr) (p q:Int),vs= [.ref t]/\cL K 8000 H t p q/\Q (.int (p.fdiv q)) H
theorem nQ {p q:Int} (h:0<q):p.fdiv q*q<=p/\p<(p.fdiv q+1)*q:=by
 have e:=Int.fmod_def p q;have h1:=FM p h;have h2:=FT p h;have e2:p.fdiv q*q=q*p.fdiv q:=Hr ..;have e3:(p.fdiv q+1)*q=q*p.fdiv q+q:=by rw[Int.add_mul,e2,Int.one_mul]
 lia
theorem kR {p q:Int} (h:0<q):p<= -((-p).fdiv q)*q/\(-((-p).fdiv q)-1)*q<p:=by
 have b:=nQ (p:= -p) h;have e1: -((-p).fdiv q)*q= -((-p).fdiv q*q):=Int.neg_mul ..;have e2:(-((-p).fdiv q)-1)*q= -(((-p).fdiv q+1)*q):=by rw[<-Int.neg_mul];congr 1;lia
 lia
theorem rq {n:Nat} {p q:Int} (h:Bd n p):Bd n (p.fdiv q):=h.of_le (natAbs_fdiv_le p q)
structure bh (K:F5) (x qual:Str) (st:Stmt) (dV:Value) (f:Addr) (fd:FuncData):Prop where
 ex:∃(oc:Value) (od:Lg) (kV doc pm:Value) (an:Lg) (cdv ct:Value) (osl:Lc),
  fd=Gj x qual (dX st) (c5 st) (ao st) dV kV doc pm an cdv ct/\K.lookup f=some ⟨oc,od,.func fd,osl⟩/\Hg K cdv qual=true
 kp:Gh K (.ref f)=true
section
variable {P:Program} {w:World} {K:F5} {mg:La} {base:Heap}
theorem bh.ok {x qual:Str} {st:Stmt} {dV:Value} {f:Addr} {fd:FuncData} {N ps:Ld} {k:Nat} {sp:Sp} (F:bh K x qual st dV f fd) (S:aw N ps (ao st)) (len:∀vs H Q E,sp vs H Q E->vs.length=ps.length)
  (hbody:∀(cdv:Value) (A:Around) (outer:List Env) (s:Shared) (H:Hp) (vs:List V) (Q:VK) (E:XK),b8 k (A.deeper (PyProof.Rows.envOfC qual (ao st) s.heap.objs.size f cdv))->sp vs H Q E->
   ∃t,je (ix aV P w K mg base N qual (ao st) f cdv A outer s H E).nox (c5 st) t/\t {nx:=fun _ H'=>Q .non H',rt:=Q} (start N vs) H):aW P w K mg base aV (k+1) f fd ps sp:=by
 obtain ⟨oc,od,kV,doc,pm,an,cdv,ct,osl,rfl,lk,hcd⟩:=F.ex;refine yH lk hcd S len fun A outer s H vs Q E hr hsp=>?_
 obtain ⟨t,h,q⟩:=hbody cdv A outer s H vs Q E hr hsp;exact ⟨t,h.nox,q⟩
theorem bh.binds {x qual:Str} {st:Stmt} {T:Addr} {f:Addr} {fd:FuncData} {ps:Ld} {o:Obj} {items:Array Value} {n:Nat} {ds:Lf} (F:bh K x qual st (.ref T) f fd) (ho:K.lookup T=some o) (hs:o.data= .seq items n)
  (h:∀(kV doc pm:Value) (an:Lg) (cdv ct:Value) (us:Lf),(us++ds).length=ps.length->∃k:Option (Array Value)->Sem (List (Str×Value)),bindArgs (Gj x qual (dX st) (c5 st) (ao st) (.ref T) kV doc pm an cdv ct) ⟨us,[]⟩=seqItems? (.ref T)>>=k/\k (some items)=pure (ps.zip (us++ds))):Binds K fd ps ds:=by
 obtain ⟨oc,od,kV,doc,pm,an,cdv,ct,osl,rfl,lk,hcd⟩:=F.ex;intro s us KX hl;obtain ⟨k,h1,h2⟩:=h kV doc pm an cdv ct us hl;exact PySem.W.binds_K KX rfl ho hs h1 h2
theorem bh.binds0 {x qual:Str} {st:Stmt} {dV:Value} {f:Addr} {fd:FuncData} {ps:Ld} (F:bh K x qual st dV f fd)
  (h:∀(kV doc pm:Value) (an:Lg) (cdv ct:Value) (us:Lf),us.length=ps.length->bindArgs (Gj x qual (dX st) (c5 st) (ao st) dV kV doc pm an cdv ct) ⟨us,[]⟩=pure (ps.zip us)):Binds K fd ps []:=by
 obtain ⟨oc,od,kV,doc,pm,an,cdv,ct,osl,rfl,lk,hcd⟩:=F.ex;exact .all (h kV doc pm an cdv ct)
theorem fj {x qual:Str} {st:Stmt} {f:Addr} {oc dV:Value} {od an:Lg} {osl:Lc} {kV doc pm cdv ct:Value} (l:K.lookup f=some ⟨oc,od,.func (Gj x qual (dX st) (c5 st) (ao st) dV kV doc pm an cdv ct),osl⟩)
  (c:Hg K cdv qual=true) (k:Gh K (.ref f)=true):bh K x qual st dV f (Gj x qual (dX st) (c5 st) (ao st) dV kV doc pm an cdv ct):=⟨⟨oc,od,kV,doc,pm,an,cdv,ct,osl,rfl,l,c⟩,k⟩
end
def u9 (K:F5):Sp:=fun vs H Q _=>∃(t t':Addr) (p q p' q':Int),vs= [.ref t,.ref t']/\cL K 4000 H t p q/\cL K 4000 H t' p' q'/\∀r s:Int,Fr r s (p*q'+p'*q) (q*q')->Pair H Q r s
def qh (K:F5):Sp:=fun vs H Q _=>∃(t t':Addr) (p q p' q':Int),vs= [.ref t,.ref t']/\cL K 4000 H t p q/\cL K 4000 H t' p' q'/\∀r s:Int,Fr r s (p*p') (q*q')->Pair H Q r s
def va (K:F5):Sp:=fun vs H Q _=>∃(t t':Addr) (p q p' q':Int),vs= [.ref t,.ref t']/\cL K 4000 H t p q/\cL K 4000 H t' p' q'/\p'≠0/\∀r s:Int,Fr r s (p*q') (q*p')->Pair H Q r s
theorem qi {x y k:Int} (h:x*k=y*k) (k0:k≠0):x=y:=Int.eq_of_mul_eq_mul_right k0 h
theorem qk {x y:Int} (h:0<x) (g:0<y):x*y≠0:=by have:=Gr h g;lia
theorem vb {p q p' q' a b c d r s:Int} (h1:p*b=a*q) (h2:p'*d=c*q') (q0:0<q) (q1:0<q') (h:r*(q*q')=(p*q'+p'*q)*s):r*(b*d)=(a*d+c*b)*s:=by
 refine qi (k:=q*q') ?_ (qk q0 q1)
 grind
end Sw
namespace XH
open PySem
structure Mv (fs ch:Le) (h h':Heap):Prop where
 keep:∀b o,b∉fs->b∉ch->h.get? b=some o->h'.get? b=some o
 slot:∀b o,b∈fs->b∉ch->h.get? b=some o->∃sl,h'.get? b=some {o with slots:=sl}
 there:∀b o,h.get? b=some o->∃o',h'.get? b=some o'
theorem Mv.refl (fs ch:Le) (h:Heap):Mv fs ch h h:=⟨fun _ _ _ _ q=>q,fun _ o _ _ q=>⟨o.slots,q⟩,fun _ o q=>⟨o,q⟩⟩
theorem Mv.trans {fs c1 c2 ch:Le} {h h1 h2:Heap} (x:Mv fs c1 h h1) (y:Mv fs c2 h1 h2) (k1:∀b,b∈c1->b∈ch) (k2:∀b,b∈c2->b∈ch):Mv fs ch h h2 where
 keep:=fun b o hf hc q=>y.keep b o hf (fun z=>hc (k2 b z)) (x.keep b o hf (fun z=>hc (k1 b z)) q)
 slot:=fun b o hf hc q=>by
  obtain ⟨sl,q1⟩:=x.slot b o hf (fun z=>hc (k1 b z)) q
  obtain ⟨sl2,q2⟩:=y.slot b _ hf (fun z=>hc (k2 b z)) q1
  exact ⟨sl2,q2⟩
 there:=fun b o q=>by
  obtain ⟨o1,q1⟩:=x.there b o q;exact y.there b o1 q1
inductive yK where
 |new
 |fl (v:Value)
def yK.Is (F:Addr->Prop) (h:Heap) (e:Addr) (vs:Array Value):yK->Prop
 | .new=>vs[1]?=some .none
 | .fl v=>∃T oT ts,vs[1]?=some (.ref T)/\F T/\T≠e/\h.get? T=some oT/\oT.data= .fields ts/\ts[3]?=some v
def Fz (vs:Array Value):Prop:=1<vs.size/\vs[2]?=some .none
theorem Fz.set {vs:Array Value} (h:Fz vs) (v:Value):Fz (vs.setIfInBounds 1 v):=⟨by simpa using h.1,by rw[Array.getElem?_setIfInBounds];simp[h.2]⟩
structure XO (F:Addr->Prop) (h:Heap) (e:Addr) (cls:Value) (dx:Lg) (st:yK):Prop where
 ex:∃oe vs,h.get? e=some oe/\oe.cls=cls/\oe.dict=dx/\oe.data= .fields vs/\Fz vs/\st.Is F h e vs
 fr:F e
theorem XO.mono {F G:Addr->Prop} {h:Heap} {e:Addr} {cls:Value} {dx:Lg} {st:yK} (x:XO F h e cls dx st) (k:∀b,F b->G b):XO G h e cls dx st:=by
 obtain ⟨⟨oe,vs,a,b,c,d,f,g⟩,fr⟩:=x;refine ⟨⟨oe,vs,a,b,c,d,f,?_⟩,k _ fr⟩;cases st with
 |new=>exact g
 |fl v=>
  obtain ⟨T,oT,ts,g1,g2,g3⟩:=g;exact ⟨T,oT,ts,g1,k _ g2,g3⟩
theorem kS (o:Obj) (f:Array Value->Array Value):(o.mapFields f).dict=o.dict:=by
 obtain ⟨c,d,dt,sl⟩:=o;cases dt<;>rfl
section
variable {M:Model} {A:Around} {E:K9} {s:Shared}
theorem nR {base:Heap} {env:Env} {outer:List Env} {L e:Addr} {oe:Obj} {vs:Array Value} {head:Value} {had:Bool} {Q:Unit->Shared->Prop}
  (hfr:A.frames=some (env::outer)) (hl:s.heap.FunFrames base (env::outer)) (hf:env.frame=some L) (he:s.heap.get? e=some oe) (hd:oe.data= .fields vs) (hsz:1<vs.size)
  (h:∀h' T,Mv ((env::outer).filterMap (·.frame)) [e] s.heap h'->s.heap.get? T=none->T≠e->h'.get? e=some (oe.mapFields (·.setIfInBounds 1 (.ref T)))->
   (∃oT ts,h'.get? T=some oT/\oT.data= .fields ts/\ts[3]?=some (rawInt L))->Q () {s with heap:=h'}):
  wpAny M A (do let a<-frameOf env;let pl<-entryPlaceOf L had;let b<-EntryCells.newEntry head a .none (rawInt L) .none pl;setField (.ref e) 1 b) Q E s:=by
 have hne:e∉(env::outer).filterMap (·.frame):=by
  intro hm;obtain ⟨_,o,ho,hnf⟩:=hl.mem hm;rw[he] at ho;cases ho;exact hnf vs hd
 apply wpAny_bind;apply wpAny_frameOf_fun hfr hl hf;intro h1 hs;apply wpAny_bind;apply wpAny_entryPlaceOf;intro pl hpl;unfold EntryCells.newEntry newFields;apply wpAny_bind;refine wpAny_newObj_type ?_ (hpl.sizeOk5 ..);have e1:h1.get? e=some oe:=(hs.2.1 e hne).trans he;generalize hob:({cls:= .type "traceback",dict:=none,data:= .fields ([head,.ref L,.none,rawInt L,.none]++(if pl.isEmpty then Gb 6 Value.none else pl)).toArray}:Obj)=ob
 have e2:=Heap.get?_push_of_some (h:=h1) ob e1;refine wpAny_setField e2 hd hsz ?_;have hTe:h1.objs.size≠e:=HG (Heap.lt_size e1);have d3:=Obj.data_mapFields hd (·.setIfInBounds 1 (Value.ref h1.objs.size));have e3:=Heap.get?_update_self (Obj.mapFields (·.setIfInBounds 1 (Value.ref h1.objs.size))) e2 (Obj.isFreed_of_fields d3);have kp:∀b o,b≠e->h1.get? b=some o->((h1.push ob).update e (Obj.mapFields (·.setIfInBounds 1 (Value.ref h1.objs.size)))).get? b=some o:=by
  intro b o hb q;rw[Heap.get?_update_other _ _ (Ne.symm hb)];exact Heap.get?_push_of_some _ q
 have t3:((h1.push ob).update e (Obj.mapFields (·.setIfInBounds 1 (Value.ref h1.objs.size)))).get? h1.objs.size=some ob:=by
  rw[Heap.get?_update_other _ _ (Ne.symm hTe)];exact Heap.get?_push_size h1 (by rw[<-hob];rfl)
 refine h _ h1.objs.size ⟨?_,?_,?_⟩ ?_ hTe e3 ?_
 ·intro b o hb hc q;exact kp b o (fun z=>hc (by rw[z];exact G3.mpr rfl)) ((hs.2.1 b hb).trans q)
 ·intro b o hb hc q;obtain ⟨sl,q1⟩:=hs.2.2 b o q;exact ⟨sl,kp b _ (fun z=>hc (by rw[z];exact G3.mpr rfl)) q1⟩
 ·intro b o q
  by_cases hb:b=e
  ·subst hb;exact ⟨_,e3⟩
  ·obtain ⟨sl,q1⟩:=hs.2.2 b o q;exact ⟨_,kp b _ hb q1⟩
 ·exact Heap.get?_none_of_le (by rw[hs.1];exact FO _)
 ·subst hob;refine ⟨_,_,t3,rfl,?_⟩;rcases hpl with rfl|⟨_,_,_,_,_,_,_,rfl⟩<;>simp
theorem tJ {F:Addr->Prop} {e:Addr} {cls v:Value} {dx fl:Lg} {Q:Unit->Shared->Prop} (x:XO F s.heap e cls dx (.fl v))
  (h:∀h' T,F T->Mv [] [T] s.heap h'->XO F h' e cls dx (.fl (fl.elim .none fun f=>rawInt f))->Q () {s with heap:=h'}):wpAny M A (setFlight (.ref e) fl) Q E s:=by
 obtain ⟨⟨oe,vs,he,hc,hdx,hd,hsz,T,oT,ts,h1,hF,hTe,hT,hdT,h3⟩,fr⟩:=x;have z3:3<ts.size:=(Hj.mp h3).1;have oth:∀b,b≠T->(s.heap.update T (Obj.mapFields (·.setIfInBounds 3 (fl.elim Value.none fun f=>rawInt f)))).get? b=s.heap.get? b:=fun b hb=>Heap.get?_update_other _ _ (Ne.symm hb)
 have t4:=Heap.get?_update_self (Obj.mapFields (·.setIfInBounds 3 (fl.elim Value.none fun f=>rawInt f))) hT (Obj.isFreed_of_fields (Obj.data_mapFields hdT _))
 unfold setFlight;apply wpAny_bind;apply wpAny_field he hd h1;rw[if_pos (by simp)]
 apply wpAny_setField hT hdT z3;refine h _ T hF ⟨?_,fun b o hb=>absurd hb (by simp),?_⟩ ⟨⟨oe,vs,(oth e (Ne.symm hTe)).trans he,hc,hdx,hd,hsz,T,_,_,h1,hF,hTe,t4,Obj.data_mapFields hdT _,by simp[z3]⟩,fr⟩
 ·intro b o _ hb q;exact (oth b (fun z=>hb (by rw[z];exact G3.mpr rfl))).trans q
 ·intro b o q
  by_cases hb:b=T
  ·subst hb;exact ⟨_,t4⟩
  ·exact ⟨o,(oth b hb).trans q⟩
theorem xw {F:Addr->Prop} {base:Heap} {env:Env} {outer:List Env} {L e:Addr} {cls:Value} {dx:Lg} {st:yK} {Q:Unit->Shared->Prop}
  (hfr:A.frames=some (env::outer)) (hl:s.heap.FunFrames base (env::outer)) (hf:env.frame=some L) (x:XO F s.heap e cls dx st)
  (h:∀h' ch,(∀b∈ch,F b)->Mv ((env::outer).filterMap (·.frame)) ch s.heap h'->XO (fun b=>F b∨s.heap.get? b=none) h' e cls dx (.fl (rawInt L))->Q () {s with heap:=h'}):wpAny M A (noteFrame (.ref e) env) Q E s:=by
 obtain ⟨⟨oe,vs,he,hc,hdx,hd,hsz,hst⟩,fr⟩:=x;unfold noteFrame;simp only[hf];cases st with
 |new=>
  apply wpAny_bind;apply wpAny_field he hd hst;rw[if_neg (by decide)]
  refine nR hfr hl hf he hd hsz.1 fun h' T mv tn tne he' ⟨oT,ts,hT,hdT,h3⟩=>?_
  refine h h' [e] (fun b hb=>by rw[G3.mp hb];exact fr) mv ⟨⟨_,_,he',?_,?_,Obj.data_mapFields hd _,hsz.set _,T,oT,ts,by simp[hsz.1],.inr tn,tne,hT,hdT,h3⟩,.inl fr⟩
  ·rw[Obj.cls_mapFields];exact hc
  ·rw[kS];exact hdx
 |fl v=>
  obtain ⟨T,oT,ts,h1,hF,hTe,hT,hdT,h3⟩:=hst;have z3:3<ts.size:=(Hj.mp h3).1;apply wpAny_bind;apply wpAny_field he hd h1;rw[if_pos (by simp)]
  apply wpAny_bind;apply wpAny_field hT hdT h3
  by_cases hv:(v==rawInt L)=true
  ·rw[if_pos hv];have ev:v=rawInt L:=beq_iff_eq.mp hv;subst ev;refine wpAny_pure (h s.heap [] (fun b hb=>absurd hb (by simp)) (.refl ..) ⟨⟨oe,vs,he,hc,hdx,hd,hsz,T,oT,ts,h1,.inl hF,hTe,hT,hdT,h3⟩,.inl fr⟩)
  ·rw[if_neg hv];apply wpAny_bind;apply wpAny_setField hT hdT z3;have oth:∀b,b≠T->(s.heap.update T (Obj.mapFields (·.setIfInBounds 3 Value.none))).get? b=s.heap.get? b:=fun b hb=>Heap.get?_update_other _ _ (Ne.symm hb)
   have t4:=Heap.get?_update_self (Obj.mapFields (·.setIfInBounds 3 Value.none)) hT (Obj.isFreed_of_fields (Obj.data_mapFields hdT _));have nrec:∀b o,s.heap.get? b=some o->(∀vs,o.data≠ .fields vs)->b≠T:=by
    intro b o hb hn z;rw[z,hT] at hb;cases hb;exact hn ts hdT
   have mv1:Mv ((env::outer).filterMap (·.frame)) [T] s.heap (s.heap.update T (Obj.mapFields (·.setIfInBounds 3 Value.none))):=by
    refine ⟨fun b o _ hb q=>(oth b (fun z=>hb (by rw[z];exact G3.mpr rfl))).trans q,fun b o _ hb q=>⟨o.slots,(oth b (fun z=>hb (by rw[z];exact G3.mpr rfl))).trans q⟩,fun b o q=>?_⟩
    by_cases hb:b=T
    ·subst hb;exact ⟨_,t4⟩
    ·exact ⟨o,(oth b hb).trans q⟩
   refine nR (s:={s with heap:=s.heap.update T (Obj.mapFields (·.setIfInBounds 3 Value.none))}) hfr (hl.of_keeps fun b o hb hn=>⟨o,(oth b (nrec b o hb hn)).trans hb,rfl⟩) hf ((oth e (Ne.symm hTe)).trans he) hd hsz.1 fun h' T2 mv tn tne he' ⟨oT2,ts2,hT2,hdT2,h32⟩=>?_
   refine h h' [T,e] ?_ (mv1.trans mv (fun b hb=>by simp at hb;simp[hb]) (fun b hb=>by simp at hb;simp[hb])) ⟨⟨_,_,he',?_,?_,Obj.data_mapFields hd _,hsz.set _,T2,oT2,ts2,by simp[hsz.1],.inr ?_,tne,hT2,hdT2,h32⟩,.inl fr⟩
   ·intro b hb;simp at hb;rcases hb with rfl|rfl
    ·exact hF
    ·exact fr
   ·rw[Obj.cls_mapFields];exact hc
   ·rw[kS];exact hdx
   ·cases q:s.heap.get? T2 with
    |none=>rfl
    |some o=>
     obtain ⟨o',q'⟩:=mv1.there T2 o q;rw[q'] at tn;cases tn
end
end XH
namespace L2
open PySem PySem.Spec PyProof.Rows XH
structure gu (P:Program) (w:World) (outer:List Env) (H:Hp) (s:Shared) (a:Addr) (H':Hp) (cls:Value) (dx:Lg) (st:yK) (s':Shared):Prop where
 os:s'.os=s.os
 bare:AllBare s'.gens
 un:Un (iT outer) [] H H' s.heap s'.heap
 hok:gb P w H' s'.heap
 xo:XO (fun b=>s.heap.get? b=none/\H' b=none) s'.heap a cls dx st
def jr (P:Program) (w:World):qb:=fun outer H s E e s'=>∃a H' cls dx st,e= .ref a/\gu P w outer H s a H' cls dx st s'/\E cls dx H'
section
variable {P:Program} {w:World} {H H':Hp} {h h' h0:Heap} {fs ch:Le} {a:Addr} {o:HO}
theorem cq.there (x:cq P w H h a o):∃u,h.get? a=some u:=by
 cases o with
 |lst xs=>obtain ⟨_,_,_,_,e⟩:=x;exact ⟨_,e⟩
 |tup xs=>obtain ⟨_,_,_,_,e,_⟩:=x;exact ⟨_,e⟩
 |dK kvs=>obtain ⟨_,_,_,_,_,_,_,e,_⟩:=x;exact ⟨_,e⟩
 |dT kvs=>obtain ⟨_,_,_,_,_,_,_,e,_⟩:=x;exact ⟨_,e⟩
 |set S n=>obtain ⟨_,_,_,_,e,_⟩:=x;exact ⟨_,e⟩
 |ins C dx fs=>obtain ⟨_,_,_,e,_⟩:=x;exact ⟨_,e⟩
 |own y=>exact x
 |xd fs=>obtain ⟨_,⟨_,_,_,e,_⟩,_⟩:=x;exact ⟨_,e⟩
 |rng lo hi=>obtain ⟨_,_,_,e⟩:=x;exact ⟨_,e⟩
 |frz ob u=>obtain ⟨e,_⟩:=x;exact ⟨_,e⟩
 |tbl ps=>exact ⟨_,show h.get? a=some _ from x⟩
 |met f y=>exact ⟨_,show h.get? a=some _ from x⟩
 |ext φ=>obtain ⟨_,⟨_,e⟩,_⟩:=x;exact ⟨_,e⟩
theorem gb.none_of (k:gb P w H h) (q:h.get? a=none):H a=none:=by
 cases r:H a with
 |none=>rfl
 |some o=>
  obtain ⟨u,e⟩:=(k a o r).there;rw[q] at e;cases e
theorem yL (u:Un fs [] H H' h0 h) (m:Mv fs ch h h') (hc:∀b∈ch,h0.get? b=none):Un fs [] H H' h0 h' where
 keep:=fun b o q n hb hx=>m.keep b o hb (fun z=>by rw[hc b z] at q;cases q) (u.keep b o q n hb hx)
 slot:=fun b o q n hb hx=>by
  obtain ⟨sl,q1⟩:=u.slot b o q n hb hx;obtain ⟨sl2,q2⟩:=m.slot b _ hb (fun z=>by rw[hc b z] at q;cases q) q1
  exact ⟨sl2,q2⟩
 free:=u.free
 there:=fun b o q hx=>by
  obtain ⟨o1,q1⟩:=u.there b o q hx;exact m.there b o1 q1
 tups:=u.tups
 frzs:=u.frzs
 tbls:=u.tbls
theorem vc (k:gb P w H h) (m:Mv fs ch h h') (hc:∀b∈ch,H b=none) (hf:∀b∈fs,H b=none):gb P w H h':=fun a o e=>
 (k a o e).stay (fun b u hb q=>by
  have t:H b≠none:=by
   rcases hb with z|z
   ·rw[z,e];exact fun y=>nomatch y
   ·rw[z];exact fun y=>nomatch y
  exact m.keep b u (fun z=>t (hf b z)) (fun z=>t (hc b z)) q) (fun _ q=>q) fun _ _ q=>q
theorem _root_.XH.Mv.wider (m:Mv [] ch h h'):Mv fs ch h h':=⟨fun b o _ hc q=>m.keep b o (by simp) hc q,fun b o _ hc q=>⟨o.slots,m.keep b o (by simp) hc q⟩,m.there⟩
theorem rz {base:Heap} (u:Un fs [] H H' h h'):∀{l:List Env},h.FunFrames base l->(∀b∈iT l,b∈fs/\H b=none)->h'.FunFrames base l
 | [],_,_=>trivial
 |env::r,⟨hk,⟨L,o,hf,hn,ho,hd⟩,hr⟩,hs=>by
  have hL:L∈iT (env::r):=by unfold iT;rw[Hv,hf];exact GM
  obtain ⟨sl,e⟩:=u.slot L o ho (hs L hL).2 (hs L hL).1 (by simp)
  exact ⟨hk,⟨L,_,hf,hn,e,hd⟩,rz u hr fun b hb=>hs b (by unfold iT;rw[Hv,hf];exact FS _ hb)⟩
end
section
variable {P:Program} {w:World} {H H':Hp} {s s':Shared} {a L:Addr} {cls v:Value} {dx:Lg} {st:yK} {env:Env} {outer:List Env} {base:Heap} {M:Model} {A:Around} {Z:K9} {Q:Unit->Shared->Prop}
theorem gu.frees (c:gu P w outer H s a H' cls dx st s') (hl:s.heap.FunFrames base outer) (hH:∀b∈iT outer,H b=none):∀b∈iT outer,H' b=none:=fun b hb=>by
 obtain ⟨_,o,ho,_⟩:=hl.mem hb;exact c.un.free b o ho (hH b hb) (by simp)
theorem gu.note (c:gu P w (env::outer) H s a H' cls dx st s') (hfr:A.frames=some (env::outer)) (hf:env.frame=some L) (hl:s.heap.FunFrames base (env::outer)) (hH:∀b∈iT (env::outer),H b=none)
  (h:∀s'',gu P w (env::outer) H s a H' cls dx (.fl (rawInt L)) s''->Q () s''):wpAny M A (noteFrame (.ref a) env) Q Z s':=by
 refine xw hfr (rz c.un hl fun b hb=>⟨hb,hH b hb⟩) hf c.xo fun h' ch hch mv x=>h _ ?_
 refine ⟨c.os,c.bare,yL c.un mv fun b hb=>(hch b hb).1,vc c.hok mv (fun b hb=>(hch b hb).2) (c.frees hl hH),x.mono ?_⟩
 rintro b (q|q)
 ·exact q
 ·refine ⟨?_,c.hok.none_of q⟩;cases r:s.heap.get? b with
  |none=>rfl
  |some o=>
   obtain ⟨o',r'⟩:=c.un.there b o r (by simp)
   rw[r'] at q;cases q
theorem gu.flight {fl:Lg} (c:gu P w outer H s a H' cls dx (.fl v) s') (hl:s.heap.FunFrames base outer) (hH:∀b∈iT outer,H b=none)
  (h:∀s'',gu P w outer H s a H' cls dx (.fl (fl.elim .none fun f=>rawInt f)) s''->Q () s''):wpAny M A (setFlight (.ref a) fl) Q Z s':=by
 refine tJ c.xo fun h' T hT mv x=>h _ ⟨c.os,c.bare,yL c.un mv.wider fun b hb=>?_,vc c.hok (mv.wider (fs:=iT outer)) (fun b hb=>?_) (c.frees hl hH),x⟩
 ·rw[G3.mp hb];exact hT.1
 ·rw[G3.mp hb];exact hT.2
end
def XS (X:Cx) (E:St->XK):Value->Shared->Prop:=fun e s'=>∃σ H0 s0,aM X [] σ H0 s0/\jr X.prog X.w X.stack H0 s0 (E σ) e s'
def kU (X:Cx) (E:St->XK):Prop:=∀(pins:Lb) (σ:St) (H:Hp) (s:Shared) (e:Value) (s':Shared),aM X pins σ H s->jr X.prog X.w X.stack H s (E σ) e s'->X.xe e s'
theorem jt {X:Cx} {E:St->XK}:kU (X.wish (XS X E)) E:=fun pins σ H s e s' I c=>⟨σ,H,s,I.unwish.pins_of (fun p hp=>absurd hp (by simp)),c⟩
def ql (sp:Sp) (dvs:List V) (E:St->XK) (t:TA):TE:=fun σ H Q=>t σ H fun vs H1=>sp (vs++dvs) H1 Q (E σ)
section
variable {X:Cx} {k:Nat} {f C:Addr} {fd:FuncData} {ps:Ld} {sp:Sp} {dvs:List V} {ds:Lf} {E:St->XK} {x m:Str} {p pos apos:Pos} {e o:Expr} {es:List Expr} {ta:TE} {t:TA}
theorem xx {pins:Lb} {σ:St} {H:Hp} {s:Shared} {Q:VK} {us:Lf} {vs:List V} (F:aW X.prog X.w X.K X.mg X.base (jr X.prog X.w) k f fd ps sp) (hr:b8 k X.A) (hb:Binds X.K fd ps ds) (hd:aX dvs ds) (hx:kU X E)
  (I:aM X pins σ H s) (r:aX vs us) (h:sp (vs++dvs) H Q (E σ)):wpAny (model X.prog X.w) X.A (call (.ref f) us) (EP X pins σ Q) X.xe s:=by
 have r2:aX (vs++dvs) (us++ds):=r.append hd;have hl:(us++ds).length=ps.length:=by rw[<-r2.length];exact F.len _ _ _ _ h
 refine wpAny_call (codeAny_mono (F.run X.A X.stack s H ⟨us,[]⟩ (us++ds) (vs++dvs) Q (E σ) hr I.env0 (hb s us I.kIn hl) r2 h) fun r s' hq=>?_)
 cases r with
 |error e=>exact hx pins σ H s e s' I hq
 |ok fl=>
  cases fl with
  |ret u=>exact I.after hq
  |next=>exact False.elim hq
  |brk=>exact False.elim hq
  |cont=>exact False.elim hq
theorem nS (F:aW X.prog X.w X.K X.mg X.base (jr X.prog X.w) k f fd ps sp) (hr:b8 k X.A) (hg:Gl X x) (hm:X.mg x=some (.ref f)) (hk:Gh X.K (.ref f)=true) (hb:Binds X.K fd ps ds) (hd:aX dvs ds) (hx:kU X E)
  (ha:PA X (e::es) t) (hdb:(x==("__debug__" :Str))=false:=by decide) (he:starEach (e::es) X.env=(false,eval e X.env)::starEach es X.env:=by rfl) (hpl:(backTo pos (starEach es X.env)).any (·.1)=false:=by rfl):
  PE X (.Call (.Name x p) (e::es) [] pos) (ql sp dvs E t):=by
 intro pins s σ H Q I h;refine wpAny_Call_Name_kw (dR I hg hm ?_ hdb);refine HY (h₀:=X.base) I.ok.mod.kin hk (bV (ha pos pins s σ H _ I h) fun us s1 ⟨vs,H1,I1,r,q⟩=>⟨I1.kIn,?_⟩) he hpl
 exact xx F hr hb hd hx I1 r q
end
theorem je.toX {X:Cx} {E':K9} {st:List Stmt} {t:TS} (h:je (X.wish E') st t) (k:∀e s,E' e s->X.xe e s):je X st t:=fun pins s σ H D I hw=>
 wpAny_mono (h pins s σ H D (I.wish _) hw) (fun _ _ q=>q.unwish) fun e s z=>k e s z
section
variable {P:Program} {w:World} {K:F5} {mg:La} {base:Heap}
theorem vd {N:Ld} {qual:Str} {scope:Scope} {f:Addr} {cd:Value} {A:Around} {outer:List Env} {s:Shared} {H:Hp} {E:XK} {e:Value} {s':Shared}
  (h:XS (ix (jr P w) P w K mg base N qual scope f cd A outer s H E) (fun _=>E) e s'):(ix (jr P w) P w K mg base N qual scope f cd A outer s H E).xe e s':=by
 obtain ⟨σ,H0,s0,I,a,H',cls,dx,st,rfl,c,hE⟩:=h;show wpAny (model P w) (A.deeper (envOfC qual scope s.heap.objs.size f cd)) (leaving (envOfC qual scope s.heap.objs.size f cd) (.ref a)) (fun _ s''=>jr P w outer H s E (.ref a) s'') (fun e' s''=>jr P w outer H s E e' s'') s'
 unfold leaving;apply wpAny_bind;refine c.note (L:=s.heap.objs.size) I.ok.frames rfl I.stack I.stkFree fun s1 c1=>?_
 refine c1.flight I.stack I.stkFree fun s2 c2=>?_
 have J:=I.call' c2.os c2.un c2.hok c2.bare (fun b z=>absurd z (by simp))
 refine ⟨a,H',cls,dx,ν,⟨J.os,c2.bare,J.base,c2.hok,c2.xo.mono fun b q=>⟨?_,q.2⟩⟩,hE⟩
 cases r:s.heap.get? b with
 |none=>rfl
 |some o=>
  obtain ⟨o',r'⟩:=I.base.there b o r (fun z=>absurd (show b∈([]:Le) from z) (by simp))
  rw[q.1] at r';cases r'
theorem zD {k:Nat} {f:Addr} {name qual:Str} {params:Arguments} {body:List Stmt} {scope:Scope} {dV kV doc pm cdv ct oc:Value} {an od:Lg}
  {osl:Lc} {N ps:Ld} {sp:Sp} (lk:K.lookup f=some ⟨oc,od,.func (Gj name qual params body scope dV kV doc pm an cdv ct),osl⟩) (hcd:Hg K cdv qual=true) (S:aw N ps scope)
  (len:∀vs H Q E,sp vs H Q E->vs.length=ps.length)
  (hbody:∀(A:Around) (outer:List Env) (s:Shared) (H:Hp) (vs:List V) (Q:VK) (E:XK),b8 k (A.deeper (envOfC qual scope s.heap.objs.size f cdv))->sp vs H Q E->
   ∃t,je ((ix (jr P w) P w K mg base N qual scope f cdv A outer s H E).wish (XS (ix (jr P w) P w K mg base N qual scope f cdv A outer s H E) fun _=>E)) body t/\t {nx:=fun _ H'=>Q .non H',rt:=Q} (start N vs) H):
  aW P w K mg base (jr P w) (k+1) f (Gj name qual params body scope dV kV doc pm an cdv ct) ps sp:=by
 refine yH lk hcd S len fun A outer s H vs Q E hr hsp=>?_
 obtain ⟨t,h,q⟩:=hbody A outer s H vs Q E hr hsp;exact ⟨t,h.toX fun e s' z=>vd z,q⟩
theorem aW.noraise {k:Nat} {f:Addr} {fd:FuncData} {ps:Ld} {sp sp0:Sp} (F:aW P w K mg base (jr P w) k f fd ps sp) (h:∀vs H Q E,sp0 vs H Q E->sp vs H Q E0):aW P w K mg base aV k f fd ps sp0:=
 ⟨fun vs H Q E q=>F.len vs H Q E0 (h _ _ _ _ q),fun A outer s H args us vs Q E hr he hb hv hs=>codeAny_mono (F.run A outer s H args us vs Q E0 hr he hb hv (h _ _ _ _ hs)) fun r s' hq=>by
  cases r with
  |error e=>obtain ⟨_,_,_,_,_,_,_,z⟩:=hq;exact z.elim
  |ok fl=>cases fl<;>exact hq⟩
end
abbrev Cx.tried (X:Cx) (pins:Lb):Cx:={X with pn:=X.pn++pins}
abbrev Cx.suite (X:Cx) (pins:Lb) (a:Addr):Cx:={X with A:=X.A.mark (some (.ref a)),calm:=false,pn:=X.pn++pins,xe:=fun _ _=>False}
noncomputable def qm (n:Bool) (a:Addr) (cls:Value) (dx:Lg):HO:= .ext fun h=>∃ox vs,h.get? a=some ox/\ox.cls=cls/\ox.dict=dx/\ox.data= .fields vs/\vs[2]?=some .none/\(n=true->1<vs.size/\vs[1]?=some .none)
abbrev qo:=qm false
theorem xz {P:Program} {w:World} {H:Hp} {h:Heap} {n:Bool} {a:Addr} {cls:Value} {dx:Lg} {ox:Obj} {vs:Array Value} (h1:h.get? a=some ox) (h2:ox.cls=cls) (h3:ox.dict=dx) (h4:ox.data= .fields vs) (h6:vs[2]?=some .none) (h5:n=true->1<vs.size/\vs[1]?=some .none):cq P w H h a (qm n a cls dx):=
 ⟨⟨ox,vs,h1,h2,h3,h4,h6,h5⟩,⟨ox,h1⟩,fun _ _ ⟨oy,ws,q,r⟩ kp=>⟨oy,ws,kp _ q,r⟩⟩
abbrev TH:=Ends->St->Value->Lg->Hp->Addr->Prop
def PH (X:Cx) (hs:List ExceptHandler) (th:TH):Prop:=
 ∀(pins:Lb) (σ:St) (H0:Hp) (s0:Shared) (D:Ends) (a:Addr) (H':Hp) (cls v:Value) (dx:Lg) (s':Shared),aM X pins σ H0 s0->gu X.prog X.w X.stack H0 s0 a H' cls dx (.fl v) s'->th D σ cls dx H' a->
  wpAny (model X.prog X.w) X.A (handleBy (.ref a) X.env hs) (SP X pins D) X.xe s'
section
variable {X:Cx} {pins:Lb} {σ:St} {H H':Hp} {s s':Shared}
theorem aM.tried (I:aM X pins σ H s):aM (X.tried pins) [] σ H s:=
 ⟨⟨I.ok.mod,I.ok.kind,I.ok.glob,I.ok.blt,I.ok.above,I.ok.inj,I.ok.has,I.ok.cab,I.ok.hd,I.ok.frames,I.ok.stk,I.ok.exf,I.ok.bs,I.ok.bsz,I.ok.noex,I.ok.exfs,I.ok.funs,I.ok.frf⟩,
  I.os,I.bare,I.base,I.loc,I.cell,I.free,I.freeC,fun p hp=>I.pin p (by simpa using hp),I.hok,I.len⟩
theorem aM.untried (I:aM (X.tried pins) [] σ H s):aM X pins σ H s:=
 ⟨⟨I.ok.mod,I.ok.kind,I.ok.glob,I.ok.blt,I.ok.above,I.ok.inj,I.ok.has,I.ok.cab,I.ok.hd,I.ok.frames,I.ok.stk,I.ok.exf,I.ok.bs,I.ok.bsz,I.ok.noex,I.ok.exfs,I.ok.funs,I.ok.frf⟩,
  I.os,I.bare,I.base,I.loc,I.cell,I.free,I.freeC,fun p hp=>I.pin p (by simpa using hp),I.hok,I.len⟩
theorem aM.insuite (I:aM X pins σ H s) (a:Addr):aM (X.suite pins a) [] σ H s:=
 ⟨⟨I.ok.mod,I.ok.kind,I.ok.glob,I.ok.blt,I.ok.above,I.ok.inj,I.ok.has,I.ok.cab,fun z=>(Bool.noConfusion z),I.ok.frames,I.ok.stk,I.ok.exf,I.ok.bs,I.ok.bsz,I.ok.noex,I.ok.exfs,I.ok.funs,I.ok.frf⟩,
  I.os,I.bare,I.base,I.loc,I.cell,I.free,I.freeC,fun p hp=>I.pin p (by simpa using hp),I.hok,I.len⟩
theorem aM.outsuite {a:Addr} (ok:X.Ok) (I:aM (X.suite pins a) [] σ H s):aM X pins σ H s:=
 ⟨ok,I.os,I.bare,I.base,I.loc,I.cell,I.free,I.freeC,fun p hp=>I.pin p (by simpa using hp),I.hok,I.len⟩
theorem aM.unbound {n:Str} {i:Nat} {h':Heap} {m:La} {v:Lh} {t':Nat} (I:aM X pins σ H s) (hi:X.N[i]?=some n) (hN:X.N.Nodup)
  (hm:∀(j:Nat) (x:Str) (v:V),X.N[j]?=some x->σ[j]?=some (some v)->DK X.env.scope x->∃u,RelV v u/\Look X.env s.heap m x u)
  (hn:h'.Ns X.env.locals (fun x=>if x=n then v else m x)) (hs:Heap.SameBut X.env.locals s.heap h'):aM X pins (σ.set i none) H {s with heap:=h',toks:=t'}:=by
 obtain ⟨m0,hn0,_⟩:=id I.loc;obtain ⟨oL,_,_,hoL,_⟩:=id hn0;have cne:=I.cne;have low:∀b o,X.s₀.heap.get? b=some o->b≠X.env.locals:=fun b o e=>GJ (GL (Heap.lt_size e) I.ok.above)
 refine ⟨I.ok,I.os,I.bare,⟨fun b o e n hb hx=>?_,fun b o e n hb hx=>?_,I.base.free,fun b o e hx=>?_,I.base.tups,I.base.frzs,I.base.tbls⟩,⟨_,hn,fun j y v' e1 e2 e3=>?_⟩,fun y c e=>?_,I.free,I.freeC,fun p hp=>?_,fun b ob e=>?_,by simpa using I.len⟩
 ·exact (hs.2 b (low b o e)).trans (I.base.keep b o e n hb hx)
 ·obtain ⟨sl,e1⟩:=I.base.slot b o e n hb hx;exact ⟨sl,(hs.2 b (low b o e)).trans e1⟩
 ·obtain ⟨o',e1⟩:=I.base.there b o e hx;exact ⟨o',(hs.2 b (low b o e)).trans e1⟩
 ·by_cases hj:j=i
  ·subst hj;rw[List.getElem?_set] at e2;simp at e2
  ·rw[Hk (Ne.symm hj)] at e2;obtain ⟨u',r',q⟩:=hm j y v' e1 e2 e3;refine ⟨u',r',?_⟩;rcases q with ⟨k,e⟩|⟨k,c,e,z⟩
   ·refine .inl ⟨k,?_⟩;have:y≠n:=fun e=>hj (jd hN e1 (e▸hi))
    simp[this,e]
   ·exact .inr ⟨k,c,e,z.sameBut hs (cne y c e)⟩
 ·obtain ⟨w',z⟩:=I.cell y c e;exact ⟨w',z.sameBut hs (cne y c e)⟩
 ·obtain ⟨e,n,ne,nf,d⟩:=I.pin p hp;exact ⟨(hs.2 p.1 ne).trans e,n,ne,nf,d⟩
 ·refine (I.hok b ob e).stay (fun c w' hc q=>(hs.2 c ?_).trans q) (fun _ q=>q) fun _ _ q=>q
  rintro rfl;rcases hc with rfl|hc
  ·rw[I.free] at e;cases e
  ·rw[I.free] at hc;cases hc
theorem ve {fs:Le} {h0 h:Heap} {a:Addr} {o:HO} (u:Un fs [] H H' h0 h) (n0:h0.get? a=none) (na:H' a=none):Un fs [] H (aL H' a o) h0 h where
 keep:=u.keep
 slot:=u.slot
 free:=fun b ob q n hx=>by
  have:b≠a:=fun z=>by rw[z,n0] at q;cases q
  rw[av this];exact u.free b ob q n hx
 there:=u.there
 tups:=fun b xs e=>by
  have q:=u.tups b xs e;rw[av (aP q na)];exact q
 frzs:=fun b o' w' e=>by
  have q:=u.frzs b o' w' e;rw[av (aP q na)];exact q
 tbls:=fun b ps e=>by
  obtain ⟨mo,q⟩:=u.tbls b ps e;exact ⟨mo,by rw[av (aP q na)];exact q⟩
theorem tK {P:Program} {w:World} {h:Heap} {a:Addr} {o:HO} (k:gb P w H h) (na:H a=none) (new:cq P w (aL H a o) h a o):gb P w (aL H a o) h:=fun b u e=>by
 by_cases hb:b=a
 ·subst hb;rw[ah] at e;cases e;exact new
 ·rw[av hb] at e;exact (k b u e).stay (fun c v _ q=>q) (fun c q=>by rw[av (aP q na)];exact q) fun c xs q=>by rw[av (aP q na)];exact q
theorem gu.caught {a:Addr} {cls:Value} {dx:Lg} {st:yK} (I:aM X pins σ H s) (c:gu X.prog X.w X.stack H s a H' cls dx st s'):aM X pins σ (aL H' a (qo a cls dx)) s':=by
 obtain ⟨⟨oe,vs,he,hc,hd,hda,hz,_⟩,n0,na⟩:=c.xo;refine I.call' c.os (ve c.un n0 na) (tK c.hok na (xz he hc hd hda hz.2 fun z=>nomatch z)) c.bare fun b z=>absurd z (by simp)
end
section
variable {X:Cx} {body:List Stmt} {h₀:ExceptHandler} {hs:List ExceptHandler} {pos:Pos} {th:TH}
def Es (tb:(St->XK)->TS) (th:TH):TS:=fun D σ H=>tb (fun σ' cls dx H'=>∀a,H' a=none->th D σ' cls dx H' a) D σ H
theorem SP.untried {pins:Lb} {E:K9} {D:Ends} {f:Flow} {s':Shared} (h:SP ((X.tried pins).wish E) [] D f s'):SP X pins D f s':=by
 cases f with
 |next=>obtain ⟨σ',H',I,q⟩:=h;exact ⟨σ',H',I.unwish.untried,q⟩
 |brk=>obtain ⟨σ',H',I,q⟩:=h;exact ⟨σ',H',I.unwish.untried,q⟩
 |cont=>obtain ⟨σ',H',I,q⟩:=h;exact ⟨σ',H',I.unwish.untried,q⟩
 |ret u=>obtain ⟨v,σ',H',I,r,q⟩:=h;exact ⟨v,σ',H',I.unwish.untried,r,q⟩
theorem vf {tb:(St->XK)->TS} (hstk:X.stack=X.env::X.outer) (hfm:X.env.frame=some X.env.locals)
  (hb:∀(pins:Lb) (E:St->XK),je ((X.tried pins).wish (XS (X.tried pins) E)) body (tb E)) (hh:PH X (h₀::hs) th):PS X (.Try body (h₀::hs) [] [] pos) (Es tb th):=by
 intro pins s σ H D I h;refine wpAny_Try_except ?_;refine wpAny_mono (hb pins _ [] s σ H D (I.tried.wish _) h) (fun f s1 q=>?_) fun e s1 hx=>?_
 ·have q:=q.untried;cases f with
  |next=>exact wpAny_execs_nil q
  |brk=>exact q
  |cont=>exact q
  |ret u=>exact q
 ·obtain ⟨σ',H0,s0,I0,a,H',cls,dx,st,rfl,c,hE⟩:=hx;have c':gu X.prog X.w (X.env::X.outer) H0 s0 a H' cls dx st s1:=hstk▸c;have J:=I0.untried;have fr:X.A.frames=some (X.env::X.outer):=by rw[<-hstk];exact J.ok.frames
  have st1:s0.heap.FunFrames X.base (X.env::X.outer):=by rw[<-hstk];exact J.stack
  have sf:∀b∈iT (X.env::X.outer),H0 b=none:=by rw[<-hstk];exact J.stkFree
  refine c'.note fr hfm st1 sf fun s2 c2=>?_
  refine c2.flight st1 sf fun s3 c3=>?_
  exact hh pins σ' H0 s0 D a H' cls _ dx s3 J (hstk▸c3) (hE a c3.xo.fr.2)
theorem vg:PH X [] (fun _ _ _ _ _ _=>False):=fun _ _ _ _ _ _ _ _ _ _ _ _ _ h=>h.elim
end
structure XT (K:F5) (C:Addr):Prop where
 ty:PySem.W.typeIn K (.ref C)=some (.type "type")
 cl:(PySem.W.clsIn K C).isSome=true
 ex:Hb K (.ref C) (.type "BaseException")=some true
theorem gL {K:F5} {M:Model} {h:Heap} {C:Addr} (X:K.In h) (e:(PySem.W.clsIn K C).isSome=true):PySem.W.Looks M h (isType (.ref C)) true:=by
 unfold PySem.W.clsIn at e
 split at e
 ·rename_i ho;intro A' Q' E' s' k q;unfold isType loadHead;exact wpAny_bind (wpAny_loadPart (k _ _ (X _ _ ho)) (wpAny_pure q))
 ·cases e
structure XG (K:F5) (C:Addr):Prop where
 ga:Ga K (.ref C) "__getattribute__" =some (some (.builtin "BaseException.__getattribute__"))
 gt:Ga K (.ref C) "__getattr__" =some none
 be:PySem.W.mroIn K C (.type "BaseException")=some true
section
variable {prog:Program} {w:World} {A:Around} {E:K9} {K:F5} {h:Heap} {g:Array GenState} {d:Drawn} {t:Nat} {os:OsState} {x C:Addr} {ox:Obj} {od:Option Obj} {name:Str}
open PySem.W in
theorem tL {nameV:Value} {Q:Unit->Shared->Prop} (X:K.In h) (I:InstAt h x ox C od) (G:XG K C) (hq:Q () ⟨h,g,d,t,os⟩):
  wpAny (model prog w) A (checkBuiltinCall "BaseException.__getattribute__" ⟨[.ref x,nameV],[]⟩) Q E ⟨h,g,d,t,os⟩:=by
 have hk:builtinKind "BaseException.__getattribute__" =some .slot:=by decide+kernel
 have hs:splitId "BaseException.__getattribute__" =some ("BaseException","__getattribute__"):=by decide+kernel
 have l0:=I.type (M:=model prog w);have l1:=looks_mroIn (M:=model prog w) X G.be;have ha:=F.args_bexc_ga (.ref x) nameV;have l2:Looks (model prog w) h (isInstance (.ref x) (.type "BaseException")) true:=l0.andThen l1;simp only[checkBuiltinCall,hk,hs];refine wpAny_bind ?_;unfold isInstance;have hx:=I.at_;have hc:=I.cls
 repeat (first|(with_reducible refine wpAny_loadPart_at hx ?_;rw[hc])|with_reducible refine l1.at ?_|wp_step)
 exact hq
open PySem.W in
theorem ju {tk:Tok} {gv a:Value} {Q:Fin->Shared->Prop} (X:K.In h) (I:InstAt h x ox C od) (hf:findObj K C od name=some (.bind gv a))
  (hq:wpAny (model prog w) A (call gv [a,.ref x,.ref C]) (fun v s'=>Q (.done (.ret v)) s') E ⟨h,g,d,t,os⟩):
  wpAny (model prog w) A (Builtin.«object.__getattribute__» ⟨[.ref x,.str name tk],[]⟩) Q E ⟨h,g,d,t,os⟩:=by
 have l0:=I.type (M:=model prog w);have l1:=looks_find (M:=model prog w) X I hf;unfold Builtin.«object.__getattribute__»;refine wpAny_bind (wpAny_pure (wpAny_bind (wpAny_pure (wpAny_bind (l0.at (wpAny_bind (l1.at ?_)))))));show wpAny _ _ (holding [a] (call gv [a,.ref x,.ref C])>>=ret) _ _ _;exact wpAny_bind (wpAny_holding (wpAny_mono hq (fun v s' z=>wpAny_pure z) fun _ _ z=>z))
open PySem.W in
theorem zE {tk:Tok} {fill expr:Bool} {Q:K9} (X:K.In h) (I:InstAt h x ox C od) (G:XG K C)
  (hq:∀A':Around,wpAny (model prog w) A' (Builtin.«object.__getattribute__» ⟨[.ref x,.str name tk],[]⟩) (fun fin s'=>match fin with| .done (.ret v)=>wpAny (model prog w) A (handedOut v) Q E s'|_=>False) (fun _ _=>False) ⟨h,g,d,t,os⟩):
  wpAny (model prog w) A (getAttrBy (.ref x) (.str name tk) fill expr) Q E ⟨h,g,d,t,os⟩:=by
 have l0:=I.type (M:=model prog w);have l1:=looks_findIn (M:=model prog w) X G.ga;have l2:=looks_findIn (M:=model prog w) X G.gt;have fb:=F.attrBase_ValueError;have f3:=fb.ga.bind (.ref x);unfold getAttrBy;refine wpAny_holding (wpAny_bind (l0.at (wpAny_bind (l1.at ?_))));have hx2:(Value.builtin "BaseException.__getattribute__" ==Value.builtin "object.__getattribute__")=false:=by decide+kernel
 simp only[hx2,Bool.and_false,Bool.false_eq_true,if_false];unfold getAttrByItsOwn hookBefore;refine wpAny_bind ?_;rw[if_pos (show onTheHeap (.ref C)=true from rfl)]
 refine l2.at ?_;refine wpAny_bind (wpAny_attempt (wpAny_holding ?_));unfold callGetattribute;rw[if_neg (by cases expr<;>exact GE)]
 unfold boundAndCalled;refine wpAny_bind (wpAny_of_eq f3 ?_);refine wpAny_call (codeAny_call_builtin fb.ga.plain F.entry_bexc_ga (tL X I G (wpAny_mono (hq _) (fun fin s' z=>?_) fun _ _ z=>z.elim)))
 rcases fin with (_|_|_|_)|_<;>first|exact z.elim|exact z
end
section
variable {prog:Program} {w:World} {A:Around} {E:K9} {K:F5}
theorem jv {h:Heap} {g:Array GenState} {d:Drawn} {t:Nat} {os:OsState} {e C C':Addr} {oe:Obj} {b:Bool} {Q:Bool->Shared->Prop} (KX:K.In h) (he:h.get? e=some oe) (hc:oe.cls= .ref C) (T:XT K C')
  (hsub:Hb K (.ref C) (.ref C')=some b) (hq:Q b ⟨h,g,d,t,os⟩):wpAny (model prog w) A (excMatches (.ref e) (.ref C')) Q E ⟨h,g,d,t,os⟩:=by
 have l1:=PySem.W.looks_typeIn (M:=model prog w) KX T.ty;have l2:=PySem.W.looks_subIn (M:=model prog w) KX T.ex;have l3:=PySem.W.looks_subIn (M:=model prog w) KX hsub;have l4:=gL (M:=model prog w) KX T.cl;have l5:PySem.W.Looks (model prog w) h (isInstance (.ref C') (.type "tuple")) false:=l1.andThen (PySem.W.Looks.of_pure tc_notTuple);have l6:PySem.W.Looks (model prog w) h (isExcClass (.ref C')) true:=by
  unfold isExcClass;refine l4.andThen ?_;exact l2
 unfold excMatches
 repeat (first|with_reducible refine wpAny_bind (l5.at ?_)|with_reducible refine wpAny_bind (l6.at ?_)|with_reducible refine wpAny_bind (l3.at ?_)|(with_reducible refine wpAny_loadPart_at he ?_;rw[hc])|wp_step)
 cases b<;>(wp_walk;exact hq)
end
noncomputable def Cd (i:Nat) (D:Ends):Ends:={nx:=fun σ H=>D.nx (σ.set i none) H,rt:=D.rt,bk:=fun σ H=>D.bk (σ.set i none) H,ct:=fun σ H=>D.ct (σ.set i none) H}
def Et (K:F5) (C':Addr) (t:TS) (r:TH):TH:=fun D σ cls dx H a=>∃C b,cls= .ref C/\Hb K (.ref C) (.ref C')=some b/\
 if b=true then t D σ (aL H a (qo a cls dx)) else r D σ cls dx H a
section
variable {X:Cx} {x n:Str} {np pos:Pos} {b0:Stmt} {suite:List Stmt} {rest:List ExceptHandler} {i:Nat} {C':Addr} {t:TS} {th:TH}
theorem xA {pins:Lb} {a:Addr} {D:Ends} {f:Flow} {s:Shared} {M:Model} {A:Around} {E:K9} (ok:X.Ok) (hN:X.N.Nodup) (hi:X.N[i]?=some n) (hloc:X.env.scope.names.lookup n=some .local)
  (q:SP (X.suite pins a) [] (Cd i D) f s):wpAny M A (do bindName X.env n .none;unbindBehindTheSuite X.env n pos) (fun _ s'=>SP X pins D f s') E s:=by
 have hcls:(X.env.scope.kind== .class||(X.env.scope.kind== .module&&X.env.locals !=X.env.globals))=false:=by rw[ok.kind];rfl
 cases f with
 |next=>
  obtain ⟨σ,H,I,q⟩:=q;have J:=I.outsuite ok;obtain ⟨m,hn,hl⟩:=id J.loc;exact wpAny_nameGoes_keeps hloc hn hcls fun h' v hn' hs=>⟨_,H,J.unbound hi hN hl hn' hs,q⟩
 |brk=>
  obtain ⟨σ,H,I,q⟩:=q;have J:=I.outsuite ok;obtain ⟨m,hn,hl⟩:=id J.loc;exact wpAny_nameGoes_keeps hloc hn hcls fun h' v hn' hs=>⟨_,H,J.unbound hi hN hl hn' hs,q⟩
 |cont=>
  obtain ⟨σ,H,I,q⟩:=q;have J:=I.outsuite ok;obtain ⟨m,hn,hl⟩:=id J.loc;exact wpAny_nameGoes_keeps hloc hn hcls fun h' v hn' hs=>⟨_,H,J.unbound hi hN hl hn' hs,q⟩
 |ret u=>
  obtain ⟨v,σ,H,I,r,q⟩:=q;have J:=I.outsuite ok;obtain ⟨m,hn,hl⟩:=id J.loc;exact wpAny_nameGoes_keeps hloc hn hcls fun h' v' hn' hs=>⟨v,_,H,J.unbound hi hN hl hn' hs,r,q⟩
theorem SP.outsuite {pins:Lb} {a:Addr} {D:Ends} {f:Flow} {s:Shared} (ok:X.Ok) (h:SP (X.suite pins a) [] D f s):SP X pins D f s:=by
 cases f with
 |next=>obtain ⟨σ',H',I,q⟩:=h;exact ⟨σ',H',I.outsuite ok,q⟩
 |brk=>obtain ⟨σ',H',I,q⟩:=h;exact ⟨σ',H',I.outsuite ok,q⟩
 |cont=>obtain ⟨σ',H',I,q⟩:=h;exact ⟨σ',H',I.outsuite ok,q⟩
 |ret u=>obtain ⟨v,σ',H',I,r,q⟩:=h;exact ⟨v,σ',H',I.outsuite ok,r,q⟩
theorem Ce (T:XT X.K C') (hg:Gl X x) (hm:X.mg x=some (.ref C'))
  (hs:∀(pins:Lb) (a:Addr),je (X.suite pins a) (b0::suite) t) (hrest:PH X rest th) (hd:(x==("__debug__" :Str))=false:=by decide):
  PH X (.ExceptHandler (some (.Name x np)) none (b0::suite) pos::rest) (Et X.K C' t th):=by
 intro pins σ H0 s0 D a H' cls v dx s' I c h;obtain ⟨C,b,rfl,hsub,h⟩:=h;have J:aM X pins σ H' s':=I.call' c.os c.un c.hok c.bare (fun b z=>absurd z (by simp))
 obtain ⟨oe,vs,he,hc,_,_,_⟩:=c.xo.ex;refine wpAny_handleBy_cons (codeAny_handlers_test (dR (X:=X.suite pins a) (J.insuite a) hg hm ?_ hd)) (by intro q;cases q)
 have KX:=J.kIn;obtain ⟨hh,g,d,tk,os⟩:=s';refine jv KX he hc T hsub ?_;cases b with
 |false=>exact hrest pins σ H0 s0 D a H' _ v dx _ I c h
 |true=>
  refine codeAny_handlers_suite ?_;refine c.flight I.stack I.stkFree fun s2 c2=>?_
  have J2:=(c2.caught I).insuite a;refine wpAny_mono (hs pins a [] s2 _ _ _ J2 h) (fun f s4 q=>?_) fun _ _ z=>z.elim
  exact q.outsuite I.ok
theorem vh {E:St->XK} (hstk:X.stack=X.env::X.outer) (hfm:X.env.frame=some X.env.locals):PassesOwn (model X.prog X.w) X.A X.env (XS X E):=by
 intro e s1 hx;obtain ⟨σ',H0,s0,J,a,H',cls,dx,st,rfl,c,hE⟩:=hx;have c':gu X.prog X.w (X.env::X.outer) H0 s0 a H' cls dx st s1:=hstk▸c;have fr:X.A.frames=some (X.env::X.outer):=by rw[<-hstk];exact J.ok.frames
 have st1:s0.heap.FunFrames X.base (X.env::X.outer):=by rw[<-hstk];exact J.stack
 have sf:∀b∈iT (X.env::X.outer),H0 b=none:=by rw[<-hstk];exact J.stkFree
 unfold notedBy;refine c'.note fr hfm st1 sf fun s2 c2=>?_
 unfold cameBackBy;obtain ⟨oe,vs,he,_,_,hd,_,T,_,_,h1,_⟩:=c2.xo.ex;apply wpAny_bind;apply wpAny_field he hd h1;rw[if_neg (by simp)]
 refine c2.flight st1 sf fun s3 c3=>?_
 exact ⟨σ',H0,s0,J,a,H',cls,dx,ν,hstk▸c3,hE⟩
end
noncomputable def Cf:Lf:= [.type "ValueError",.type "Exception",.type "BaseException",.type "object"]
theorem zF {K:F5} {h:Heap} {C:Addr} {bmB:Lf} {nw:String} (X:K.In h) (q:Hs K C bmB nw=true):
  ∃bm N nm qn bs hdct sn sub ab col dd k0 k1 k2 k3 k5 mN,h.get? C=some (excClassObj nm qn C N bs bm hdct sn sub ab col dd k0 k1 k2 k3 k5 nw)/\h.Ns N mN/\mN "__init__" =none/\OwnTail h bmB bm:=by
 unfold Hs at q
 split at q
 ·rename_i dd cd sl ho
  split at q
  ·rename_i C' bm k0 k1 k2 k3 n k5 hm hs;simp only[Bool.and_eq_true,beq_iff_eq,Bool.not_eq_true'] at q;obtain ⟨⟨⟨⟨⟨e1,e2⟩,hdel⟩,ht⟩,hok⟩,hni⟩:=q;subst e1 e2;obtain ⟨nm,bs,mro,ns,qn,hd,sn,sub,ab,col,del⟩:=cd;dsimp only at hm hdel hok hni;subst hm hdel;obtain ⟨l⟩:=sl;have hl:l= [k0,k1,k2,k3,some (.builtin n),k5]:=hs;subst hl;exact ⟨bm,ns,nm,qn,bs,hd,sn,sub,ab,col,dd,k0,k1,k2,k3,k5,_,X _ _ ho,.of_isNs (PySem.W.isNs_of_in X hok),PySem.W.nsMap_none_of_in X hok hni,PySem.W.tail_of_in X ht⟩
  ·cases q
 ·cases q
def zG (C:Addr) (E:St->XK) (t:TA):TS:=fun _ σ H=>t σ H fun vs H1=>vs.length<=sizeLine/\E σ (.ref C) none H1
section
variable {X:Cx} {x:Str} {np cpos pos:Pos} {e₀:Expr} {rest:List Expr} {C:Addr} {t:TA} {E:St->XK}
theorem xB {pins:Lb} {σ:St} {H:Hp} {s:Shared} {h':Heap} {e:Addr} {us:Lf} (I:aM X pins σ H s) (mk:Heap.MadeExcOf s.heap h' e (.ref C) us):gu X.prog X.w X.stack H s e H (.ref C) none .new {s with heap:=h'}:=by
 obtain ⟨t,ht,_,_⟩:=mk.there;exact ⟨rfl,I.bare,Un.kept mk.keeps,I.hok.kept mk.keeps,⟨⟨_,_,ht,rfl,rfl,rfl,⟨by show 1<6;decide,rfl⟩,rfl⟩,mk.new,I.hok.none_of mk.new⟩⟩
theorem jw (q:Hs X.K C Cf "ValueError.__new__" =true) (hg:Gl X x) (hm:X.mg x=some (.ref C)) (hc:X.calm=true) (hp:kU X E) (ha:PA X (e₀::rest) t) (hd:(x==("__debug__" :Str))=false:=by decide)
  (he:starEach (e₀::rest) X.env=(false,eval e₀ X.env)::starEach rest X.env:=by rfl) (hpl:(backTo cpos (starEach rest X.env)).any (·.1)=false:=by rfl):
  PS X (.Raise (some (.Call (.Name x np) (e₀::rest) [] cpos)) none pos) (zG C E t):=by
 intro pins s σ H D I h;obtain ⟨bm,N,nm,qn,bs,hdct,sn,sub,ab,col,dd,k0,k1,k2,k3,k5,mN,hC,hN,hni,TL⟩:=zF I.ok.mod.kin q;have F:=PySem.F.excBase_ValueError;have W:=ha cpos pins s σ H _ I h;refine wpAny_Raise_call_subT (C:=C) (nm:=nm) (q:=qn) (N:=N) (bs:=bs) (bm:=bm) (hdct:=hdct) (sn:=sn) (sub:=sub) (ab:=ab) (col:=col) (dd:=dd) (k0:=k0) (k1:=k1) (k2:=k2) (k3:=k3) (k5:=k5) (mN:=mN)
  F (TL.hasType F.hasBase) (I.ok.hd hc) (by rw[he];exact hpl) hni (dR I hg hm ⟨rfl,?_⟩ hd)
 rw[he] at W⊢;refine Calls.evalArgs_plain (bV W fun us s2 ⟨vs,H1,I1,r,hl,z⟩=>⟨rfl,by rw[<-r.length];exact hl,I1.bk _ _ hC,hN.keeps I1.bk,TL.keeps I1.bk,fun h' e mk=>?_⟩)
 exact hp pins σ H1 s2 _ _ I1 ⟨e,H1,.ref C,none,.new,rfl,xB I1 mk,z⟩
end
structure XI (K:F5) (C:Addr):Prop where
 gg:XG K C
 cl:(PySem.W.clsIn K C).isSome=true
 at_:Ga K (.ref C) "__class__" =some (some (.builtin "object.__class__"))
 gt:PySem.W.specialIn K (.builtin "object.__class__") "__get__" =some (some (.builtin "getset_descriptor.__get__"))
 tk:PySem.W.takesIn K (.builtin "object.__class__")=some true
 ob:PySem.W.mroIn K C (.type "object")=some true
theorem findObj_cls {K:F5} {C:Addr} {od:Option Obj} (x:XI K C):PySem.W.findObj K C od "__class__" =some (.bind (.builtin "getset_descriptor.__get__") (.builtin "object.__class__")):=by
 obtain ⟨cd,hc⟩:=GV.mp x.cl;unfold PySem.W.findObj;rw[hc,Option.bind_some,x.at_,Option.bind_some];simp[x.gt,x.tk]
theorem jx {K:F5} {a C:Addr} (x:XI K C):PySem.W.KitX K (.ref a) (.ref C) (fun h=>∃ox od,PySem.W.InstAt h a ox C od) where
 ty:=fun _ _ _ ⟨_,_,I⟩=>I.type
 it:=fun _ _ X _=>gL X x.cl
 ne:=fun h tp dd its n sl X htp=>by
  refine Bool.eq_false_iff.mpr fun q=>?_
  have e:C=tp:=Value.ref.inj (beq_iff_eq.mp q);subst e;have c:=x.cl;unfold PySem.W.clsIn at c
  split at c
  ·rename_i ho;have z:=(X _ _ ho).symm.trans htp;cases z
  ·cases c
 ca:=fun {_ _ _ _ _ s} X I k=>by
  obtain ⟨ox,od,I⟩:=I;obtain ⟨hh,g,d,t,os⟩:=s;unfold getAttr? getAttrBy?;refine wpAny_bind (wpAny_mkText (wpAny_bind (wpAny_attempt (zE (h:=hh) X I x.gg fun A'=>ju X I (findObj_cls x) ?_))))
  exact wpAny_call (PySem.W.class_get (s:=⟨hh,g,d,t+1,os⟩) (ox:=ox) (od:=od) X I x.ob (PySem.W.handed_on rfl (wpAny_pure k)))
def rA (H:Hp) (dx:Lg):Prop:=match dx with
 |none=>True
 |some d=>∃fs,H d=some (.xd fs)
theorem mq {X:Cx} {pins:Lb} {σ:St} {H:Hp} {s:Shared} {a C:Addr} {n:Bool} {dx:Lg} (I:aM X pins σ H s) (e:H a=some (qm n a (.ref C) dx)) (d:rA H dx):∃ox od,PySem.W.InstAt s.heap a ox C od:=by
 obtain ⟨⟨ox,vs,h1,h2,h3,h4,_⟩,_⟩:=(show cq X.prog X.w H s.heap a (qm n a (.ref C) dx) from I.hok a _ e)
 have nc:PySem.W.notCls ox=true:=by unfold PySem.W.notCls;rw[h4]
 cases dx with
 |none=>exact ⟨ox,none,h1,h2,nc,by rw[h3];trivial⟩
 |some d'=>
  obtain ⟨fs,hd⟩:=d;obtain ⟨mA,⟨o,es,ep,e',_⟩,_⟩:=(show cq X.prog X.w H s.heap d' (.xd fs) from I.hok d' _ hd)
  exact ⟨ox,some o,h1,h2,nc,by rw[h3];exact e'⟩
inductive Eu (K:F5) (C:Addr):V->Bool->Prop where
 |own {D:Addr} {b:Bool} (h:G7 K (.ref C) (.ref D)=some b):Eu K C (.ref D) b
 |ty {T:String} {b:Bool} (h:G7 K (.ref C) (.type T)=some b):Eu K C (.ty T) b
theorem tM {X:Cx} {K:F5} (hK:X.K=K):c7 X (.builtin "isinstance") (fun xs H Q=>∃a C dx c b,xs= [.ref a,c]/\(∃n,H a=some (qm n a (.ref C) dx))/\rA H dx/\XI K C/\Eu K C c b/\Q (.bl b) H):=by
 subst hK;intro pins s σ H xs us Q I r h;obtain ⟨a,C,dx,c,b,rfl,⟨n,e⟩,d,xi,xs,q⟩:=h;obtain ⟨u,w',rfl,e1,e2⟩:=vals2 r;cases e1;cases xs with
 |own h=>
  cases e2;exact Gg (jx xi) I.kIn (mq I e d) h (fun z=>nomatch z) fun tk=>⟨.bl b,H,I.tok tk,rfl,q⟩
 |ty h=>
  cases e2;exact Gg (jx xi) I.kIn (mq I e d) h (fun z=>nomatch z) fun tk=>⟨.bl b,H,I.tok tk,rfl,q⟩
abbrev Cx.block (X:Cx) (scope:Scope) (cl:List (Str×Addr)) (C:Addr) (N:Ld) (own:Str) (fp:Le) (s:Shared) (H:Hp):Cx:=
 {X with env:=compEnvC scope cl C X.env,N:=N,s₀:=s,H₀:=H,outer:=X.stack,stack:=X.stack,ex:=fp,fn:=fun y=>y==own,pn:= [],xe:=fun _ _=>False}
structure ms (X:Cx) (scope:Scope) (cl:List (Str×Addr)) (own:Str) (ys:Ld) (js:List Nat):Prop where
 clos:closureFor scope X.env=pure cl
 nocell:(scope.names.all fun p=> !(p.2== .cell))=true
 kind:scope.kind= .function
 loc:(scope.names.all fun p=> !(p.2== .local)||scope.names.lookup p.1==some .local)=true
 ownL:scope.names.lookup own=some .local
 sub:∀p∈cl,X.env.cells.lookup p.1=some p.2
 has:((relabel scope X.env).names.all fun p=> !(p.2== .cell||p.2== .free)||(cl.lookup p.1).isSome)=true
 noown:cl.lookup own=none
 nd:(own::ys).Nodup
 at_:∀(i:Nat) (y:Str),ys[i]?=some y->∃j:Nat,js[i]?=some j/\X.N[j]?=some y/\(X.env.scope.names.lookup y=some .cell∨X.env.scope.names.lookup y=some .free)/\((relabel scope X.env).names.lookup y=some .cell∨(relabel scope X.env).names.lookup y=some .free)
 len:js.length=ys.length
noncomputable def bw (js:List Nat) (σ:St):St:=js.map fun j=>(σ[j]?).getD none
def nU (js:List Nat) (te:TE) (σ:St) (Q:VK):It->Hp->Prop:=fun J H1=>∀p,H1 p=none->∃W:Nat->Nat->List V->Hp->Prop,(∃m,W 0 m [] (aL H1 p (.lst [])))/\
 ∀i m ys H2,W i m ys H2->H2 p=some (.lst ys)/\((J.stop i H2/\Q (.ref p) H2)∨(J.go i H2/\ys.length<sizeLine/\∀x H3,J.yld i H2 x H3->te (some x::bw js σ) H3 fun y H4=>H4 p=some (.lst ys)/\∃m',m'<m/\W (i+1) m' (ys++ [y]) (aL H4 p (.lst (ys++ [y])))))
def yM (wi:TI) (js:List Nat) (te:TE):TE:=fun σ H Q=>wi σ H (nU js te σ Q)
theorem lookup_all {α:Type} {f:Str×α->Bool} {x:Str} {a:α}:∀{l:List (Str×α)},l.all f=true->l.lookup x=some a->f (x,a)=true:=by
 intro l h e;exact Gn.mp h _ (Gc e)
section
variable {prog:Program} {w:World} {A:Around} {R:Result->Shared->Prop} {s:Shared}
theorem dY {elt target iter:Expr} {scope:Scope} {pos:Pos} {it acc:Value} {env:Env} (I:Nat->Shared->Prop)
  (turn:∀n s,I n s->wpAny (model prog w) A (pyNext it) (fun r s1=>match r with
   |none=>R (.ok .next) s1
   |some v=>wpAny (model prog w) A (letOwnedTupleGo target it v) (fun _ s2=>wpAny (model prog w) A (assign target env v) (fun _ s3=>wpAny (model prog w) A (eval elt env) (fun x s4=>
     wpAny (model prog w) A (call (.builtin "list.append") [acc,x]) (fun _ s5=>∃m,m<n/\I m s5) (fun _ _=>False) s4) (fun _ _=>False) s3) (fun _ _=>False) s2) (fun _ _=>False) s1) (fun _ _=>False) s)
  (n:Nat) (h:I n s):codeAny (model prog w) A (.compLoop (.ListComp elt [⟨target,iter,[],0⟩] scope pos) 0 it acc env) R s:=by
 apply codeAny_loop rfl I ?_ n h;intro n s hI;show wpAny _ _ ((compTurn (.ListComp elt [⟨target,iter,[],0⟩] scope pos) 0 it acc env).onRaise _) _ _ s;apply wpAny_noted;rw[compTurn_list1];apply wpAny_bind;apply wpAny_standAt;apply wpAny_bind;refine wpAny_mono (turn n s hI) (fun r s1 h1=>?_) fun _ _ z=>z.elim
 cases r with
 |none=>exact wpAny_pure h1
 |some v=>
  apply wpAny_bind;refine wpAny_mono h1 (fun _ s2 h2=>?_) fun _ _ z=>z.elim
  apply wpAny_bind;refine wpAny_mono h2 (fun _ s3 h3=>?_) fun _ _ z=>z.elim
  apply wpAny_bind;apply wpAny_bind;refine wpAny_mono h3 (fun x s4 h4=>?_) fun _ _ z=>z.elim
  apply wpAny_bind;refine wpAny_mono h4 (fun _ s5 h5=>?_) fun _ _ z=>z.elim
  exact wpAny_pure (wpAny_pure ⟨rfl,h5⟩)
end
section
variable {X:Cx} {scope:Scope} {cl:List (Str×Addr)} {own:Str} {ys:Ld} {js:List Nat} {fp:Le} {pins:Lb} {σ:St} {H:Hp} {s s4:Shared}
theorem iK {h1:Heap} (ok:ms X scope cl own ys js) (I:aM X pins σ H s) (hf:∀b∈fp,eR X pins H b) (hlt:∀b∈fp,b<s.heap.objs.size) (hns:h1.Ns s.heap.objs.size (fun _=>none))
  (hk:∀b o,s.heap.get? b=some o->h1.get? b=some o) (tk:Nat):
  aM (X.block scope cl s.heap.objs.size (own::ys) own fp s H) [] (none::bw js σ) H {s with heap:=h1,toks:=tk}:=by
 have sub:∀y c,cl.lookup y=some c->X.env.cells.lookup y=some c:=fun y c e=>ok.sub (y,c) (Gc e)
 refine ⟨⟨I.ok.mod,ok.kind,I.ok.glob,I.ok.blt,FO _,fun x y c e1 e2=>I.ok.inj x y c (sub x c e1) (sub y c e2),fun x hx=>?_,fun x c e1 e2=>?_,I.ok.hd,I.ok.frames,.inl rfl,fun b hb=>⟨GJ (hlt b hb),fun x c e=>(hf b hb).2.2.2.2.1 x c (sub x c e)⟩,
  I.bs,GP I.ok.bsz I.sz,fun b o e hb=>?_,fun b hb z=>?_,I.stack,I.stkFree⟩,rfl,I.bare,Un.kept hk,⟨_,hns,fun i y v e1 e2 e3=>?_⟩,fun y c e=>?_,I.hok.fresh (FO _),fun y c e=>I.freeC y c (sub y c e),fun p hp=>absurd (show p∈([]:Lb) from hp) (by simp),I.hok.kept hk,?_⟩
 ·have hx':(relabel scope X.env).names.lookup x=some .cell∨(relabel scope X.env).names.lookup x=some .free:=hx;rcases hx' with z|z
  ·have q:=lookup_all ok.has z;simp only[beq_self_eq_true,Bool.true_or,HS,Hf] at q;exact GV.mp q
  ·have q:=lookup_all ok.has z;simp only[beq_self_eq_true,Bool.or_true,HS,Hf] at q;exact GV.mp q
 ·have e1':(x==own)=true:=e1;have e:x=own:=beq_iff_eq.mp e1';have e2':cl.lookup x=some c:=e2;rw[e,ok.noown] at e2';cases e2'
 ·rcases (hf b hb).2.2.2.1 with z|z
  ·exact I.ok.noex b o e z
  ·exact absurd (GL (Heap.lt_size (I.ok.bs b o e).1) z) (Hx _)
 ·rcases F8.mp (I.stkSub b z) with q|q
  ·exact (hf b hb).2.1 q
  ·exact (hf b hb).2.2.1 q
 ·cases i with
  |zero=>cases e2
  |succ i=>
   have e1':ys[i]?=some y:=e1;obtain ⟨j,hj,hN,hX,hc⟩:=ok.at_ i y e1';have e2':(bw js σ)[i]?=some (some v):=e2;unfold bw at e2';rw[FP,hj] at e2';have hs:σ[j]?=some (some v):=by
    cases q:σ[j]? with
    |none=>rw[Hc,q] at e2';cases e2'
    |some o=>rw[Hc,q] at e2';exact e2'
   obtain ⟨m,hn,hl⟩:=I.loc;obtain ⟨u,r,l⟩:=hl j y v hN hs (hX.elim (fun z=> .inr (.inl z)) fun z=> .inr (.inr z))
   refine ⟨u,r,.inr ⟨hc,?_⟩⟩;rcases l with ⟨k,_⟩|⟨k,c,hcl,hcell⟩
   ·have k':X.env.scope.names.lookup y=some .local:=k;rcases hX with z|z<;>(rw[z] at k';cases k')
   ·have ex:∃c',cl.lookup y=some c':=by
     rcases hc with z|z
     ·have q:=lookup_all ok.has z;simp only[beq_self_eq_true,Bool.true_or,HS,Hf] at q;exact GV.mp q
     ·have q:=lookup_all ok.has z;simp only[beq_self_eq_true,Bool.or_true,HS,Hf] at q;exact GV.mp q
    obtain ⟨c',hc'⟩:=ex;have e:=sub y c' hc';rw[hcl] at e;cases e;obtain ⟨oc,hoc,hd⟩:=hcell;exact ⟨c,hc',oc,hk _ _ hoc,hd⟩
 ·obtain ⟨v,oc,hoc,hd⟩:=I.cell y c (sub y c e);exact ⟨v,oc,hk _ _ hoc,hd⟩
 ·show (none::bw js σ).length=(own::ys).length;simp[bw,ok.len]
theorem kW {H':Hp} {h':Heap} {σ':St} (I:aM X pins σ H s) (hf:∀b∈fp,eR X pins H b) (J:aM (X.block scope cl s.heap.objs.size (own::ys) own fp s H) [] σ' H' s4) (hs:Heap.SameBut s.heap.objs.size s4.heap h'):
  aM X pins σ H' {s4 with heap:=h'}:=by
 have low:∀b o,s.heap.get? b=some o->b≠s.heap.objs.size:=fun b o e=>GJ (Heap.lt_size e)
 have B:=J.base;have u:Un (iT X.stack) fp H H' s.heap h':={
  keep:=fun b o q n hb hx=>(hs.2 b (low b o q)).trans (B.keep b o q n hb hx)
  slot:=fun b o q n hb hx=>by
   obtain ⟨sl,e⟩:=B.slot b o q n hb hx;exact ⟨sl,(hs.2 b (low b o q)).trans e⟩
  free:=B.free
  there:=fun b o q hx=>by
   obtain ⟨o',e⟩:=B.there b o q hx;exact ⟨o',(hs.2 b (low b o q)).trans e⟩
  tups:=B.tups
  frzs:=B.frzs
  tbls:=B.tbls}
 have hn:H' s.heap.objs.size=none:=J.free;have hk:gb X.prog X.w H' h':=fun a o e=>(J.hok a o e).stay (fun b v hb q=>(hs.2 b (by
  intro z;rcases hb with z'|z'
  ·rw[<-z',z,hn] at e;cases e
  ·rw[z,hn] at z';cases z')).trans q) (fun _ q=>q) fun _ _ q=>q
 exact I.call' (s':={s4 with heap:=h'}) (ch:=fp) J.os u hk J.bare fun b hb=>⟨(hf b hb).2.2.2.1,(hf b hb).2.1,(hf b hb).2.2.2.2.1,(hf b hb).2.2.2.2.2⟩
end
section
variable {X:Cx} {scope:Scope} {cl:List (Str×Addr)} {own:Str} {ys:Ld} {js:List Nat} {elt iter:Expr} {px pos:Pos} {wi:TI} {te:TE}
theorem mw (hc:X.calm=true) (ok:ms X scope cl own ys js) (hi:PI X (.Name own px) iter wi)
  (he:∀(C:Addr) (fp:Le) (s:Shared) (H:Hp),PE (X.block scope cl C (own::ys) own fp s H) elt te)
  (hs:∀x,foldedSetIterable iter X.env x=pure x:=by intro _;rfl):PE X (.ListComp elt [⟨.Name own px,iter,[],0⟩] scope pos) (yM wi js te):=by
 intro pins s σ H Q I h;rw[eval_ListComp];have ncell:∀y∈scope.names,y.2≠ .cell:=fun y hy z=>by
  have q:=Gn.mp ok.nocell y hy;rw[z] at q;simp at q
 have nloc:∀y∈scope.names,y.2= .local->scope.names.lookup y.1=some .local:=fun y hy z=>by
  have q:=Gn.mp ok.loc y hy;rw[z] at q
  simpa using q
 refine wpAny_comprehension_free (use:=none) rfl hs ok.clos ok.kind nloc (bV (hi pins s σ H _ I h) fun v s1 h1=>bV h1 fun itv s2 h2=>?_)
 obtain ⟨it,fp,tn,J,H2,rfl,I2,T,st2,f2,q2⟩:=h2;obtain ⟨W,⟨m0,w0⟩,turn⟩:=q2 s2.heap.objs.size (I2.hok.fresh (FO _));refine wpAny_newObj_type (wpAny_newFunctionEnv ncell (by intro y hy;simp at hy) (fun h1 hns hsb=>?_) ok.kind)
 have I3:=I2.laid (a:=s2.heap.objs.size) (o:= .lst []) (h':=s2.heap.push {cls:= .type "list",dict:=none,data:= .seq ([]:Lf).toArray}) (t':=s2.toks) (fun b u q=>Heap.get?_push_of_some _ q) (FO _)
  ⟨Gi _,[],0,.nil,Heap.get?_push_size _ rfl⟩
 have fpo:∀b∈fp,b<s2.heap.objs.size:=fun b hb=>by
  obtain ⟨o,e,_⟩:=T.obj 0 _ st2 b hb;exact Heap.lt_size e
 have f3:∀b∈fp,eR X pins (aL H2 s2.heap.objs.size (.lst [])) b:=fun b hb=>⟨by rw[av (GJ (fpo b hb))];exact (f2 b hb).1,(f2 b hb).2⟩
 generalize hs3:({s2 with heap:=s2.heap.push {cls:= .type "list",dict:=none,data:= .seq ([]:Lf).toArray},toks:=s2.toks}:Shared)=s3 at I3
 have e3:s3.heap=s2.heap.push {cls:= .type "list",dict:=none,data:= .seq ([]:Lf).toArray}:=by rw[<-hs3]
 have lt3:∀b∈fp,b<s3.heap.objs.size:=fun b hb=>by rw[e3,Heap.size_push];exact HR (fpo b hb)
 dsimp only at hns hsb⊢;rw[<-e3] at hns hsb;have hk:∀b o,s3.heap.get? b=some o->h1.get? b=some o:=fun b o e=>hsb.extBut b o (GJ (Heap.lt_size e)) (Heap.get?_push_of_some _ e)
 have J0:=iK (h1:=h1) ok I3 f3 lt3 hns hk (s2.toks+0);have t0:tn 0 h1:=T.keep 0 _ _ st2 fun b hb o e=>hk b o (by rw[e3];exact Heap.get?_push_of_some _ e)
 have fpB:∀{H':Hp},(∀b∈fp,H' b=none)->∀b∈fp,eR (X.block scope cl s3.heap.objs.size (own::ys) own fp s3 (aL H2 s2.heap.objs.size (.lst []))) [] H' b:=fun {H'} hn b hb=>
  ⟨hn b hb,GJ (lt3 b hb),fun z=>(F8.mp (I3.stkSub b z)).elim (f3 b hb).2.1 (f3 b hb).2.2.1,.inl hb,fun x c e=>(f3 b hb).2.2.2.2.1 x c (ok.sub (x,c) (Gc e)),fun p hp=>absurd (show p∈([]:Lb) from hp) (by simp)⟩
 have loop:codeAny (model X.prog X.w) X.A (.compLoop (.ListComp elt [⟨.Name own px,iter,[],0⟩] scope pos) 0 (.ref it) (.ref s2.heap.objs.size) (compEnvC scope cl s3.heap.objs.size X.env))
   (compPost (model X.prog X.w) X.A X.xe none (EP X pins σ Q) (.ref s2.heap.objs.size) s3.heap.objs.size) {s3 with heap:=h1,toks:=s2.toks+0}:=by
  refine dY (fun n s'=>∃i zs o0 H',aM (X.block scope cl s3.heap.objs.size (own::ys) own fp s3 (aL H2 s2.heap.objs.size (.lst []))) [] (o0::bw js σ) H' s'/\tn i s'.heap/\(∀b∈fp,H' b=none)/\W i n zs H') ?_ m0
   ⟨0,[],none,_,J0,t0,fun b hb=>(f3 b hb).1,w0⟩
  rintro n s5 ⟨i,zs,o0,H5,I5,t5,n5,w5⟩;obtain ⟨hD,hw⟩:=turn i n zs H5 w5;rcases hw with ⟨stop,qn⟩|⟨go,hz,step⟩
  ·refine bV (T.done (X.block scope cl s3.heap.objs.size (own::ys) own fp s3 (aL H2 s2.heap.objs.size (.lst []))) rfl rfl rfl hc i [] s5 _ H5 (fun _ _=>False) I5 (fpB n5) t5 stop) fun r s6 ⟨hr,I6⟩=>?_
   subst hr;obtain ⟨m,hn,_⟩:=id I6.loc;exact ⟨m,hn,fun h' hs'=>⟨V.ref s2.heap.objs.size,H5,kW I3 f3 I6 hs',rfl,qn⟩⟩
  ·refine bV (T.item (X.block scope cl s3.heap.objs.size (own::ys) own fp s3 (aL H2 s2.heap.objs.size (.lst []))) rfl rfl rfl hc i [] s5 _ H5 (fun _ _=>False) I5 (fpB n5) t5 go) fun r s6 ⟨u,hr,h6⟩=>?_
   subst hr;refine bV h6 fun _ s7 ⟨x,H7,I7,r7,y7,t7,n7⟩=>?_
   have I7':=I7.pinned (fpB n7) (T.obj _ _ t7);have hst:=step x H7 y7;have own':(relabel scope X.env).names.lookup own=some .local:=lookup_relabel_local ok.ownL;refine bV (iX (X:=X.block scope cl s3.heap.objs.size (own::ys) own fp s3 (aL H2 s2.heap.objs.size (.lst []))) (i:=0) (x:=own) (pos:=px) ok.nd rfl (.inl own') (.inr own') _ s7 _ H7 x u (fun σ' H'=>σ'=some x::bw js σ/\H'=H7) I7' r7 ⟨rfl,rfl⟩) fun _ s8 ⟨σ8,H8,I8,e8,eH8⟩=>?_
   subst e8 eH8;refine bV (he _ _ _ _ _ s8 _ H8 _ I8 hst) fun yv s9 ⟨y,H9,I9,r9,hD9,m',hm,w9⟩=>?_
   refine bV (aS _ s9 _ H9 (.ref s2.heap.objs.size) [y] (.ref s2.heap.objs.size) [yv] (fun _ H'=>H'=aL H9 s2.heap.objs.size (.lst (zs++ [y]))) I9 rfl (.cons r9 .nil) ⟨_,zs,y,rfl,rfl,hD9,hz,rfl⟩) fun _ s10 ⟨_,H10,I10,_,e10⟩=>?_
   subst e10;refine ⟨m',hm,i+1,zs++ [y],some x,_,I10.unpinned,T.keep _ _ _ t7 fun b hb o e=>(I10.pin (b,o) (FU _ (FU _ (cf hb e)))).1,fun b hb=>?_,w9⟩
   obtain ⟨o,e,d⟩:=T.obj _ _ t7 b hb;exact (I10.pin (b,o) (FU _ (FU _ (cf hb e)))).2.1
 subst hs3;exact codeAny_compStart_list loop (T.self _ 0 _ _ _ t0 loop)
end
open PySem.Builtin PySem.Builtin.ObjectAttr
def Cg (K:F5) (C':Addr) (i:Nat) (t:Addr->TS) (r:TH):TH:=fun D σ cls dx H a=>∃C b,cls= .ref C/\Hb K (.ref C) (.ref C')=some b/\
 if b=true then t a (Cd i D) (σ.set i (some (.ref a))) (aL H a (qo a cls dx)) else r D σ cls dx H a
section
variable {X:Cx} {x n:Str} {np pos:Pos} {b0:Stmt} {suite:List Stmt} {rest:List ExceptHandler} {i:Nat} {C':Addr} {tA:Addr->TS} {th:TH}
theorem zH (T:XT X.K C') (hg:Gl X x) (hm:X.mg x=some (.ref C')) (hN:X.N.Nodup) (hi:X.N[i]?=some n) (hloc:X.env.scope.names.lookup n=some .local)
  (hs:∀(pins:Lb) (a:Addr),je (X.suite pins a) (b0::suite) (tA a)) (hrest:PH X rest th) (hd:(x==("__debug__" :Str))=false:=by decide):
  PH X (.ExceptHandler (some (.Name x np)) (some n) (b0::suite) pos::rest) (Cg X.K C' i tA th):=by
 intro pins σ H0 s0 D a H' cls v dx s' I c h;obtain ⟨C,b,rfl,hsub,h⟩:=h;have J:aM X pins σ H' s':=I.call' c.os c.un c.hok c.bare (fun b z=>absurd z (by simp))
 obtain ⟨oe,vs,he,hc,_,_,_⟩:=c.xo.ex;refine wpAny_handleBy_cons (codeAny_handlers_test (dR (X:=X.suite pins a) (J.insuite a) hg hm ?_ hd)) (by intro q;cases q)
 have KX:=J.kIn;obtain ⟨hh,g,d,tk,os⟩:=s';refine jv KX he hc T hsub ?_;cases b with
 |false=>exact hrest pins σ H0 s0 D a H' _ v dx _ I c h
 |true=>
  refine codeAny_handlers_suite_as ?_;refine c.flight I.stack I.stkFree fun s2 c2=>?_
  have J2:=(c2.caught I).insuite a;refine fF (X:=X.suite pins a) (v:=V.ref a) J2 hN hi (.inl hloc) (show RelV (V.ref a) (Value.ref a) from rfl) (fun s3 I3=>?_) (.inr hloc)
  refine wpAny_mono (hs pins a [] s3 _ _ _ I3 h) (fun f s4 q=>?_) fun _ _ z=>z.elim
  exact xA I.ok hN hi hloc q
end
structure dO (hd:Lh) (k:Nat) (A:Around):Prop where
 hd:A.handled=hd
 dp:A.depth+3*k+5<recursionLimit
 un:A.units+16*k+200<cLine
theorem dO.mono {hd:Lh} {j k:Nat} {A:Around} (r:dO hd k A) (h:j<=k):dO hd j A:=⟨r.hd,by have:=r.dp;lia,by have:=r.un;lia⟩
theorem dO.deeper {hd:Lh} {k:Nat} {A:Around} (r:dO hd (k+1) A) (env:Env):dO hd k (A.deeper env):=
 ⟨r.hd,by have:=r.dp;show A.depth+1+3*k+5<_;lia,by have:=r.un;show A.units+3+16*k+200<_;lia⟩
theorem dO.depth {hd:Lh} {k:Nat} {A:Around} (r:dO hd k A):A.depth<recursionLimit:=by have:=r.dp;lia
theorem b8.h {k:Nat} {A:Around} (r:b8 k A):dO none k A:=⟨r.hd,r.dp,r.un⟩
theorem b8.suite {k:Nat} {A:Around} (r:b8 k A) (v:Value):dO (some v) k (A.mark (some v)):=⟨rfl,r.dp,r.un⟩
structure yN (hd:Lh) (P:Program) (w:World) (K:F5) (mg:La) (base:Heap) (k:Nat) (f:Addr) (fd:FuncData) (ps:Ld) (sp:Sp):Prop where
 len:∀vs H Q E,sp vs H Q E->vs.length=ps.length
 run:∀(A:Around) (outer:List Env) (s:Shared) (H:Hp) (args:Args) (us:Lf) (vs:List V) (Q:VK) (E:XK),dO hd k A->ko P w K mg base A outer s H->BindsTo s fd args (ps.zip us)->aX vs us->sp vs H Q E->
  codeAny (model P w) A (.call (.ref f) args) (CR aV outer P w H s Q E) s
section
variable {P:Program} {w:World} {K:F5} {mg:La} {base:Heap} {hd:Lh}
theorem yN.calm {k:Nat} {f:Addr} {fd:FuncData} {ps:Ld} {sp:Sp} (F:yN none P w K mg base k f fd ps sp):aW P w K mg base aV k f fd ps sp:=
 ⟨F.len,fun A outer s H args us vs Q E hr=>F.run A outer s H args us vs Q E hr.h⟩
noncomputable def zI (hd:Lh) (P:Program) (w:World) (K:F5) (mg:La) (base:Heap) (N:Ld) (qual:Str) (scope:Scope) (f:Addr) (cd:Value) (A:Around) (outer:List Env) (s:Shared) (H:Hp) (E:XK):Cx:=
 {ix aV P w K mg base N qual scope f cd A outer s H E with calm:=hd.isNone}
theorem qp {N ps:Ld} {qual:Str} {scope:Scope} {f:Addr} {cd:Value} {A:Around} {outer:List Env} {s s1:Shared} {H:Hp} {E:XK} {us:Lf} {vs:List V}
  (S:aw N ps scope) (hA:A.handled=hd) (e0:ko P w K mg base A outer s H) (hl:vs.length=ps.length) (r:aX vs us)
  (x:InCallC s s.heap.objs.size (bindL (envOfC qual scope s.heap.objs.size f cd).kindOf (ps.zip us) fun _=>none) (cellsFrom (s.heap.objs.size+1) scope.names []) (bindC (envOfC qual scope s.heap.objs.size f cd).kindOf (ps.zip us) fun _=>none) s1):
  aM (zI hd P w K mg base N qual scope f cd A outer s H E) [] (start N vs) H s1:=by
 have e0':ko P w K mg base {A with handled:=none} outer s H:=⟨e0.frames,e0.mod,e0.bs,e0.bsz,e0.funs,e0.frf,e0.hok,e0.bare⟩
 have I:=kJ (CX:=aV) (E:=E) S (A:={A with handled:=none}) rfl e0' hl r x
 have hh:(zI hd P w K mg base N qual scope f cd A outer s H E).calm=true->(zI hd P w K mg base N qual scope f cd A outer s H E).A.handled=none:=fun z=>by
  cases hd with
  |none=>exact hA
  |some v=>cases (show false=true from z)
 exact ⟨⟨I.ok.mod,I.ok.kind,I.ok.glob,I.ok.blt,I.ok.above,I.ok.inj,I.ok.has,I.ok.cab,hh,I.ok.frames,I.ok.stk,I.ok.exf,I.ok.bs,I.ok.bsz,I.ok.noex,I.ok.exfs,I.ok.funs,I.ok.frf⟩,
  I.os,I.bare,I.base,I.loc,I.cell,I.free,I.freeC,I.pin,I.hok,I.len⟩
theorem zJ {k:Nat} {f:Addr} {name qual:Str} {params:Arguments} {body:List Stmt} {scope:Scope} {dV kV doc pm cdv ct oc:Value} {an od:Lg}
  {osl:Lc} {N ps:Ld} {sp:Sp} (lk:K.lookup f=some ⟨oc,od,.func (Gj name qual params body scope dV kV doc pm an cdv ct),osl⟩) (hcd:Hg K cdv qual=true) (S:aw N ps scope)
  (len:∀vs H Q E,sp vs H Q E->vs.length=ps.length)
  (hbody:∀(A:Around) (outer:List Env) (s:Shared) (H:Hp) (vs:List V) (Q:VK) (E:XK),dO hd k (A.deeper (envOfC qual scope s.heap.objs.size f cdv))->sp vs H Q E->
   ∃t,je (zI hd P w K mg base N qual scope f cdv A outer s H E) body t/\t {nx:=fun _ H'=>Q .non H',rt:=Q} (start N vs) H):
  yN hd P w K mg base (k+1) f (Gj name qual params body scope dV kV doc pm an cdv ct) ps sp:=by
 refine ⟨len,fun A outer s H args us vs Q E hr e0 hb r hsp=>?_⟩
 have hl:=len _ _ _ _ hsp;have KX:K.In s.heap:=e0.mod.kin.keeps fun b o e=>(e0.bs b o e).1
 have lim:s.heap.NoLimit:=e0.mod.nolimit.keeps fun b o e=>(e0.bs b o e).1
 have hkind:∀y∈ps.zip us,scope.names.lookup y.1=some .local∨(scope.names.lookup y.1=some .cell/\((cellsFrom (s.heap.objs.size+1) scope.names []).lookup y.1).isSome=true):=fun ⟨n,v⟩ hy=>by
  rcases S.par n (List.of_mem_zip hy).1 with q|q
  ·exact .inl q
  ·exact .inr ⟨q,PySem.W.cellsFrom_some _ _ _ (.inl q)⟩
 refine codeAny_call_function hr.depth (KX _ _ lk) rfl S.co S.gen rfl (PySem.W.codeRec_of KX hcd) (hb _ _ _ _ ?_);refine wpAny_newFunctionEnv_cells S.kind hkind fun env he s1 x=>?_
 subst he;refine ⟨lim.keeps x.toInCall.keep,codeAny_func ?_⟩;obtain ⟨t,ht,hq⟩:=hbody A outer s H vs Q E (hr.deeper _) hsp;have I:aM (zI hd P w K mg base N qual scope f cdv A outer s H E) [] (start N vs) H s1:=qp S hr.hd e0 hl r x;refine wpAny_mono (ht [] s1 (start N vs) H _ I hq) (fun fl s' hs=>?_) fun e s' hs=>hs
 have fin:∀{σ':St} {H':Hp} {v:V} {u:Value},aM (zI hd P w K mg base N qual scope f cdv A outer s H E) [] σ' H' s'->RelV v u->Q v H'->CE outer P w H s Q u s':=
  fun {σ' H' v u} J rv q=>⟨v,H',J.os,J.bare,J.base,J.hok,rv,q⟩
 cases fl with
 |ret u=>
  obtain ⟨v,σ',H',J,rv,q⟩:=hs;exact fin J rv q
 |next=>
  obtain ⟨σ',H',J,q⟩:=hs;exact fin (v:=V.non) (u:=Value.none) J rfl q
 |brk=>
  obtain ⟨_,_,_,q⟩:=hs;exact False.elim q
 |cont=>
  obtain ⟨_,_,_,q⟩:=hs;exact False.elim q
end
section
variable {X:Cx} {k:Nat} {f:Addr} {fd:FuncData} {ps:Ld} {sp:Sp} {dvs:List V} {ds:Lf} {x:Str} {p pos:Pos} {e:Expr} {es:List Expr} {t:TA} {hd:Lh}
theorem xC {pins:Lb} {σ:St} {H:Hp} {s:Shared} {Q:VK} {us:Lf} {vs:List V} (F:yN hd X.prog X.w X.K X.mg X.base k f fd ps sp) (hr:dO hd k X.A) (hb:Binds X.K fd ps ds) (hv:aX dvs ds)
  (I:aM X pins σ H s) (r:aX vs us) (h:sp (vs++dvs) H Q E0):wpAny (model X.prog X.w) X.A (call (.ref f) us) (EP X pins σ Q) X.xe s:=by
 have r2:aX (vs++dvs) (us++ds):=r.append hv;have hl:(us++ds).length=ps.length:=by rw[<-r2.length];exact F.len _ _ _ _ h
 refine wpAny_call (codeAny_mono (F.run X.A X.stack s H ⟨us,[]⟩ (us++ds) (vs++dvs) Q E0 hr I.env0 (hb s us I.kIn hl) r2 h) fun r s' hq=>?_)
 cases r with
 |error e=>exact False.elim hq
 |ok fl=>
  cases fl with
  |ret u=>exact I.after hq
  |next=>exact False.elim hq
  |brk=>exact False.elim hq
  |cont=>exact False.elim hq
theorem vm (F:yN hd X.prog X.w X.K X.mg X.base k f fd ps sp) (hr:dO hd k X.A) (hg:Gl X x) (hm:X.mg x=some (.ref f)) (hk:Gh X.K (.ref f)=true) (hb:Binds X.K fd ps ds) (hv:aX dvs ds)
  (ha:PA X (e::es) t) (hdb:(x==("__debug__" :Str))=false:=by decide) (he:starEach (e::es) X.env=(false,eval e X.env)::starEach es X.env:=by rfl) (hpl:(backTo pos (starEach es X.env)).any (·.1)=false:=by rfl):
  PE X (.Call (.Name x p) (e::es) [] pos) (jj sp dvs E0 t):=by
 intro pins s σ H Q I h;refine wpAny_Call_Name_kw (dR I hg hm ?_ hdb);refine HY (h₀:=X.base) I.ok.mod.kin hk (bV (ha pos pins s σ H _ I h) fun us s1 ⟨vs,H1,I1,r,q⟩=>⟨I1.kIn,?_⟩) he hpl
 exact xC F hr hb hv I1 r q
end
end L2
namespace Sw
open PySem L2 XH
structure Dx (P:Program) (w:World) (K:F5) (mg:La) (base:Heap) (CX:qb) (k:Nat) (x:Str) (ps:Ld) (dvs:List V) (sp:Sp) where
 f:Addr
 fd:FuncData
 ok:aW P w K mg base CX k f fd ps sp
 m:mg x=some (.ref f)
 q:Gh K (.ref f)=true
 b:Binds K fd ps []
 bd:∃ds,Binds K fd ps ds/\aX dvs ds
noncomputable def Dx.calm {P:Program} {w:World} {K:F5} {mg:La} {base:Heap} {k:Nat} {x:Str} {ps:Ld} {dvs:List V} {sp sp0:Sp} (D:Dx P w K mg base (jr P w) k x ps dvs sp) (h:∀vs H Q E,sp0 vs H Q E->sp vs H Q E0):Dx P w K mg base aV k x ps dvs sp0:=
 ⟨D.f,D.fd,D.ok.noraise h,D.m,D.q,D.b,D.bd⟩
section
variable {X:Cx} {k j:Nat} {x:Str} {ps:Ld} {sp:Sp} {p pos:Pos} {e:Expr} {es:List Expr} {t:TA} {dvs:List V} {E:St->XK}
theorem vn (D:Dx X.prog X.w X.K X.mg X.base aV k x ps dvs sp) (hr:b8 j X.A) (hk:k<=j) (hg:Gl X x) (ha:PA X (e::es) t) (hdb:(x==("__debug__" :Str))=false:=by decide)
  (he:starEach (e::es) X.env=(false,eval e X.env)::starEach es X.env:=by rfl) (hpl:(backTo pos (starEach es X.env)).any (·.1)=false:=by rfl):
  PE X (.Call (.Name x p) (e::es) [] pos) (jj sp [] E0 t):=
 q9 D.ok (hr.mono hk) hg D.m D.q D.b .nil kO ha hdb he hpl
theorem rC (D:Dx X.prog X.w X.K X.mg X.base aV k x ps dvs sp) (hr:b8 j X.A) (hk:k<=j) (hg:Gl X x) (ha:PA X (e::es) t) (hdb:(x==("__debug__" :Str))=false:=by decide)
  (he:starEach (e::es) X.env=(false,eval e X.env)::starEach es X.env:=by rfl) (hpl:(backTo pos (starEach es X.env)).any (·.1)=false:=by rfl):
  PE X (.Call (.Name x p) (e::es) [] pos) (jj sp dvs E0 t):=by
 obtain ⟨ds,hb,hv⟩:=D.bd;exact q9 D.ok (hr.mono hk) hg D.m D.q hb hv kO ha hdb he hpl
theorem qr (D:Dx X.prog X.w X.K X.mg X.base (jr X.prog X.w) k x ps dvs sp) (hr:b8 j X.A) (hk:k<=j) (hg:Gl X x) (hx:kU X E) (ha:PA X (e::es) t) (hdb:(x==("__debug__" :Str))=false:=by decide)
  (he:starEach (e::es) X.env=(false,eval e X.env)::starEach es X.env:=by rfl) (hpl:(backTo pos (starEach es X.env)).any (·.1)=false:=by rfl):
  PE X (.Call (.Name x p) (e::es) [] pos) (ql sp [] E t):=
 nS D.ok (hr.mono hk) hg D.m D.q D.b .nil hx ha hdb he hpl
theorem xD (D:Dx X.prog X.w X.K X.mg X.base (jr X.prog X.w) k x ps dvs sp) (hr:b8 j X.A) (hk:k<=j) (hg:Gl X x) (hx:kU X E) (ha:PA X (e::es) t) (hdb:(x==("__debug__" :Str))=false:=by decide)
  (he:starEach (e::es) X.env=(false,eval e X.env)::starEach es X.env:=by rfl) (hpl:(backTo pos (starEach es X.env)).any (·.1)=false:=by rfl):
  PE X (.Call (.Name x p) (e::es) [] pos) (ql sp dvs E t):=by
 obtain ⟨ds,hb,hv⟩:=D.bd;exact nS D.ok (hr.mono hk) hg D.m D.q hb hv hx ha hdb he hpl
end
theorem bh.okX {P:Program} {w:World} {K:F5} {mg:La} {base:Heap} {x qual:Str} {st:Stmt} {dV:Value} {f:Addr} {fd:FuncData} {N ps:Ld} {k:Nat} {sp:Sp} (F:bh K x qual st dV f fd) (S:aw N ps (ao st)) (len:∀vs H Q E,sp vs H Q E->vs.length=ps.length)
  (hbody:∀(cdv:Value) (A:Around) (outer:List Env) (s:Shared) (H:Hp) (vs:List V) (Q:VK) (E:XK),b8 k (A.deeper (PyProof.Rows.envOfC qual (ao st) s.heap.objs.size f cdv))->sp vs H Q E->
   ∃t,je ((ix (jr P w) P w K mg base N qual (ao st) f cdv A outer s H E).wish (XS (ix (jr P w) P w K mg base N qual (ao st) f cdv A outer s H E) fun _=>E)) (c5 st) t/\t {nx:=fun _ H'=>Q .non H',rt:=Q} (start N vs) H):aW P w K mg base (jr P w) (k+1) f fd ps sp:=by
 obtain ⟨oc,od,kV,doc,pm,an,cdv,ct,osl,rfl,lk,hcd⟩:=F.ex;exact zD lk hcd S len fun A outer s H vs Q E hr hsp=>hbody cdv A outer s H vs Q E hr hsp
end Sw
namespace L2
open PySem PySem.Spec PyProof.Rows XH
theorem bz {X:Cx} {K:F5} (hK:X.K=K):c7 X (.builtin "isinstance") (fun xs H Q=>∃x t T b,xs= [x,.ty T]/\gH K H x t/\G7 K t (.type T)=some b/\Q (.bl b) H):=by
 subst hK;intro pins s σ H xs us Q I r h;obtain ⟨x,t,T,b,rfl,ty,e,q⟩:=h;obtain ⟨u,w',rfl,e1,e2⟩:=vals2 r;cases e2;exact tG I e1 ty e fun tk=>⟨.bl b,H,I.tok tk,rfl,q⟩
end L2
namespace Sw
open PySem L2 XH
end Sw
namespace L2
open PySem PySem.Spec PyProof.Rows XH
end L2
namespace Sw
open PySem L2 XH PyProof.Rows
structure Ch (hd:Lh) (P:Program) (w:World) (K:F5) (mg:La) (base:Heap) (k:Nat) (x:Str) (ps:Ld) (sp:Sp) where
 f:Addr
 fd:FuncData
 ok:yN hd P w K mg base k f fd ps sp
 m:mg x=some (.ref f)
 q:Gh K (.ref f)=true
 b:Binds K fd ps []
noncomputable def Ch.calm {P:Program} {w:World} {K:F5} {mg:La} {base:Heap} {k:Nat} {x:Str} {ps:Ld} {sp:Sp} (D:Ch none P w K mg base k x ps sp):Dx P w K mg base aV k x ps [] sp:=
 ⟨D.f,D.fd,D.ok.calm,D.m,D.q,D.b,⟨[],D.b,.nil⟩⟩
section
variable {X:Cx} {k j:Nat} {x:Str} {ps:Ld} {sp:Sp} {p np pos cpos:Pos} {e:Expr} {es:List Expr} {t:TA} {hd:Lh} {C:Addr} {E:L2.St->XK}
theorem zK (D:Ch hd X.prog X.w X.K X.mg X.base k x ps sp) (hr:dO hd j X.A) (hk:k<=j) (hg:Gl X x) (ha:PA X (e::es) t) (hdb:(x==("__debug__" :Str))=false:=by decide)
  (he:starEach (e::es) X.env=(false,eval e X.env)::starEach es X.env:=by rfl) (hpl:(backTo pos (starEach es X.env)).any (·.1)=false:=by rfl):
  PE X (.Call (.Name x p) (e::es) [] pos) (jj sp [] E0 t):=
 vm D.ok (hr.mono hk) hg D.m D.q D.b .nil ha hdb he hpl
end
theorem bh.okH {hd:Lh} {P:Program} {w:World} {K:F5} {mg:La} {base:Heap} {x qual:Str} {st:Stmt} {dV:Value} {f:Addr} {fd:FuncData} {N ps:Ld} {k:Nat} {sp:Sp} (F:bh K x qual st dV f fd) (S:aw N ps (ao st)) (len:∀vs H Q E,sp vs H Q E->vs.length=ps.length)
  (hbody:∀(cdv:Value) (A:Around) (outer:List Env) (s:Shared) (H:Hp) (vs:List V) (Q:VK) (E:XK),dO hd k (A.deeper (envOfC qual (ao st) s.heap.objs.size f cdv))->sp vs H Q E->
   ∃t,je (zI hd P w K mg base N qual (ao st) f cdv A outer s H E) (c5 st) t/\t {nx:=fun _ H'=>Q .non H',rt:=Q} (start N vs) H):yN hd P w K mg base (k+1) f fd ps sp:=by
 obtain ⟨oc,od,kV,doc,pm,an,cdv,ct,osl,rfl,lk,hcd⟩:=F.ex;exact zJ lk hcd S len fun A outer s H vs Q E hr hsp=>hbody cdv A outer s H vs Q E hr hsp
theorem fH {H H':Hp} {p:Addr} (g:aA H H') (h:H p=none) (o:HO):aA H (aL H' p o):=fun b u q=>by
 rw[av (aP q h)];exact g b u q
def iy (X:Cx) (scope:Scope) (ys:Ld) (js:List Nat):Prop:=∀(i:Nat) (y:Str),ys[i]?=some y->∃j:Nat,js[i]?=some j/\X.N[j]?=some y/\(X.env.scope.names.lookup y=some .cell∨X.env.scope.names.lookup y=some .free)/\((relabel scope X.env).names.lookup y=some .cell∨(relabel scope X.env).names.lookup y=some .free)
theorem vo {X:Cx} {scope:Scope}:iy X scope [] []:=fun i y h=>by simp at h
theorem DN {X:Cx} {scope:Scope} {ys:Ld} {js:List Nat} {y:Str} {j:Nat} (t:iy X scope ys js) (h1:X.N[j]?=some y:=by rfl) (h2:X.env.scope.names.lookup y=some .cell∨X.env.scope.names.lookup y=some .free:=by first|exact Or.inl rfl|exact Or.inr rfl)
  (h3:(relabel scope X.env).names.lookup y=some .cell∨(relabel scope X.env).names.lookup y=some .free:=by first|exact Or.inl rfl|exact Or.inr rfl):iy X scope (y::ys) (j::js):=fun i z h=>by
 cases i with
 |zero=>
  cases h;exact ⟨j,rfl,h1,h2,h3⟩
 |succ i=>exact t i z h
inductive qt (X:Cx):List (Str×Addr)->Prop where
 |nil:qt X []
 |cons {y:Str} {c:Addr} {cl:List (Str×Addr)} (h:X.env.cells.lookup y=some c) (t:qt X cl):qt X ((y,c)::cl)
theorem qt.all {X:Cx} {cl:List (Str×Addr)} (h:qt X cl):∀p∈cl,X.env.cells.lookup p.1=some p.2:=by
 induction h with
 |nil=>intro p hp;simp at hp
 |cons h _ ih=>
  intro p hp;rcases F8.mp hp with e|e
  ·rw[e];exact h
  ·exact ih p e
theorem BD {X:Cx} {scope:Scope} {cl:List (Str×Addr)} {own:Str} {ys:Ld} {js:List Nat} (a:iy X scope ys js) (s:qt X cl) (nd:(own::ys).Nodup) (len:js.length=ys.length) (clos:closureFor scope X.env=pure cl) (nocell:(scope.names.all fun p=> !(p.2== .cell))=true) (kind:scope.kind= .function)
  (loc:(scope.names.all fun p=> !(p.2== .local)||scope.names.lookup p.1==some .local)=true) (ownL:scope.names.lookup own=some .local) (has:((relabel scope X.env).names.all fun p=> !(p.2== .cell||p.2== .free)||(cl.lookup p.1).isSome)=true) (noown:cl.lookup own=none):ms X scope cl own ys js:=
 ⟨clos,nocell,kind,loc,ownL,s.all,has,noown,nd,a,len⟩
def FG (H:Hp) (a C:Addr) (dx:Lg):Prop:=(∃n,H a=some (qm n a (.ref C) dx))/\rA H dx
structure kr (P:Program) (w:World) (K:F5) (mg:La) (base:Heap) (CX:qb) (k:Nat) (f:Addr) (ps:Ld) (dvs:List V) (sp:Sp) where
 fd:FuncData
 ok:aW P w K mg base CX k f fd ps sp
 b:Binds K fd ps []
 bd:∃ds,Binds K fd ps ds/\aX dvs ds
def vq (K:F5) (m:Str) (f:Addr) (sp:Sp) (dvs:List V) (ta:TE) (t:TA):TE:=fun σ H Q=>ta σ H fun x H1=>∃a C dx fs,x= .ref a/\H1 a=some (.ins C dx fs)/\iI K C/\cA K C m f/\fs.lookup m=none/\
 t σ H1 fun vs H2=>sp (x::(vs++dvs)) H2 Q E0
structure zL (K:F5) (C:Addr) (m:Str) (f:Addr):Prop where
 sp:PySem.W.specialIn K (.ref C) "__getattribute__" =some (some (.builtin "type.__getattribute__"))
 rd:PySem.W.readsIn K C (.type "type")=true
 fc:PySem.W.findCls K (.ref C) (.type "type") m=some (.val (.ref f))
 kp:Gh K (.ref f)=true
section
variable {X:Cx} {k j:Nat} {f C:Addr} {ps:Ld} {sp:Sp} {dvs:List V} {x m:Str} {p pos apos:Pos} {e o:Expr} {es:List Expr} {ta tb:TE} {t:TA}
theorem jy (M:Mk X.K C f) (D:kr X.prog X.w X.K X.mg X.base aV k f ps dvs sp) (hr:b8 j X.A) (hk:k+1<=j) (hg:Gl X x) (hm:X.mg x=some (.ref C)) (ha:PA X (e::es) t) (hdb:(x==("__debug__" :Str))=false:=by decide)
  (he:starEach (e::es) X.env=(false,eval e X.env)::starEach es X.env:=by rfl) (hpl:(backTo pos (starEach es X.env)).any (·.1)=false:=by rfl):PE X (.Call (.Name x p) (e::es) [] pos) (uO C sp [] E0 t):=
 rc M D.ok (hr.mono hk) hg hm D.b .nil kO ha hdb he hpl
theorem mz (M:Mk X.K C f) (D:kr X.prog X.w X.K X.mg X.base aV k f ps dvs sp) (hr:b8 j X.A) (hk:k+1<=j) (hg:Gl X x) (hm:X.mg x=some (.ref C)) (ha:PA X (e::es) t) (hdb:(x==("__debug__" :Str))=false:=by decide)
  (he:starEach (e::es) X.env=(false,eval e X.env)::starEach es X.env:=by rfl) (hpl:(backTo pos (starEach es X.env)).any (·.1)=false:=by rfl):PE X (.Call (.Name x p) (e::es) [] pos) (uO C sp dvs E0 t):=by
 obtain ⟨ds,hb,hv⟩:=D.bd;exact rc M D.ok (hr.mono hk) hg hm hb hv kO ha hdb he hpl
theorem vv {pins:Lb} {σ:L2.St} {H1:Hp} {s1:Shared} {Q:VK} {a dx:Addr} {fs:List (Str×V)} {pl:Sem Bool} {ds:Lf} (F:aW X.prog X.w X.K X.mg X.base aV k f fd ps sp) (hr:b8 k X.A) (hb:Binds X.K fd ps ds) (hd:aX dvs ds) (ha:PA X (e::es) t)
  (hst:starEach (e::es) X.env=(false,eval e X.env)::starEach es X.env) (hpl:(backTo pos (starEach es X.env)).any (·.1)=false)
  (I1:aM X pins σ H1 s1) (ea:H1 a=some (.ins C dx fs)) (c:iI X.K C) (hm:cA X.K C m f) (l:fs.lookup m=none) (q:t σ H1 fun vs H2=>sp (.ref a::(vs++dvs)) H2 Q E0):
  wpAny (model X.prog X.w) X.A (getMethod (.ref a) m pl) (fun fx s2=>wpAny (model X.prog X.w) X.A (callWith pos fx.1 fx.2 (backTo pos (starEach (e::es) X.env)) (backToKw pos (keywordEach [] X.env))) (EP X pins σ Q) X.xe s2) X.xe s1:=by
 refine pW I1 ea c hm l ?_;refine HY (first:= [.ref a]) (h₀:=X.base) I1.ok.mod.kin hm.kp (bV (ha pos pins s1 σ H1 _ I1 q) fun us s2 ⟨vs,H2,I2,r,q2⟩=>⟨I2.kIn,?_⟩) hst hpl
 exact qc (us:= .ref a::us) (vs:= .ref a::vs) F hr hb hd kO I2 (.cons rfl r) q2
theorem iz {pl:Sem Bool} (he:PE X o ta) (D:kr X.prog X.w X.K X.mg X.base aV k f ps dvs sp) (hr:b8 j X.A) (hk:k<=j) (ha:PA X (e::es) t)
  (hst:starEach (e::es) X.env=(false,eval e X.env)::starEach es X.env:=by rfl) (hpl:(backTo pos (starEach es X.env)).any (·.1)=false:=by rfl)
  (ht:eval (.Call (.Attribute o m apos) (e::es) [] pos) X.env=(do
   let ov<-eval o X.env
   standAt apos.atName
   let (f,first)<-holding [ov] (getMethod ov m pl)
   callWith pos f first (backTo pos (starEach (e::es) X.env)) (backToKw pos (keywordEach [] X.env))):=by rfl):
  PE X (.Call (.Attribute o m apos) (e::es) [] pos) (vq X.K m f sp [] ta t):=by
 intro pins s σ H Q I h;refine PySem.W.methodCall_KW (pl:=pl) (bV (he pins s σ H _ I h) fun u s1 ⟨x,H1,I1,rx,a,C,dx,fs,ex,ea,c,hm,l,q⟩=>?_) ht
 subst ex;obtain rfl:u=Value.ref a:=rx;exact vv D.ok (hr.mono hk) D.b .nil ha hst hpl I1 ea c hm l q
theorem Ci {pl:Sem Bool} (M:zL X.K C m f) (D:kr X.prog X.w X.K X.mg X.base aV k f ps dvs sp) (hr:b8 j X.A) (hk:k<=j) (hg:Gl X x) (hm:X.mg x=some (.ref C)) (ha:PA X (e::es) t) (hdb:(x==("__debug__" :Str))=false:=by decide)
  (hst:starEach (e::es) X.env=(false,eval e X.env)::starEach es X.env:=by rfl) (hpl:(backTo pos (starEach es X.env)).any (·.1)=false:=by rfl)
  (ht:eval (.Call (.Attribute (.Name x p) m apos) (e::es) [] pos) X.env=(do
   let ov<-eval (.Name x p) X.env
   standAt apos.atName
   let (f,first)<-holding [ov] (getMethod ov m pl)
   callWith pos f first (backTo pos (starEach (e::es) X.env)) (backToKw pos (keywordEach [] X.env))):=by rfl):
  PE X (.Call (.Attribute (.Name x p) m apos) (e::es) [] pos) (jj sp [] E0 t):=by
 intro pins s σ H Q I h;refine PySem.W.methodCall_KW (pl:=pl) (dR I hg hm ?_ hdb) ht;refine PySem.W.method_cls I.kIn M.sp (PySem.W.cls_value I.kIn M.rd M.fc rfl ?_);have I1:=I.tok (s.toks+1);refine HY (first:= []) (h₀:=X.base) I.ok.mod.kin M.kp (bV (ha pos pins _ σ H _ I1 h) fun us s2 ⟨vs,H2,I2,r,q2⟩=>⟨I2.kIn,?_⟩) hst hpl
 exact qc D.ok (hr.mono hk) D.b .nil kO I2 r q2
theorem kX {e:Expr} (h1:PE X e ta) (h2:PE X e tb):PE X e (fun σ H Q=>ta σ H Q∨tb σ H Q):=fun pins s σ H Q I h=>h.elim (h1 pins s σ H Q I) (h2 pins s σ H Q I)
end
end Sw
namespace L2
open PySem PySem.Spec PyProof.Rows
section
variable {X:Cx} {pins:Lb} {σ:St} {H:Hp} {s:Shared} {h':Heap}
theorem aM.turnedNew {ch:Le} {T:Addr} {o:HO} {t':Nat} (I:aM X pins σ H s) (hf:∀b∈ch,eR X pins H b) (k:∀b u,b∉ch->s.heap.get? b=some u->h'.get? b=some u) (hp:s.heap.objs.size<=T) (new:cq X.prog X.w (aL H T o) h' T o):
  aM X pins σ (aL H T o) {s with heap:=h',toks:=t'}:=by
 have nT:H T=none:=I.hok.fresh hp;have ne:∀b u,H b=some u->b≠T:=fun b u e z=>by rw[z,nT] at e;cases e
 have nch:∀b u,H b=some u->b∉ch:=fun b u e z=>by rw[(hf b z).1] at e;cases e
 have up:∀b u,H b=some u->aL H T o b=some u:=fun b u e=>by rw[av (ne b u e)];exact e
 refine I.step (g':=s.gens) (d':=s.drawn) (ch:=ch) (fun b hb=>?_) (fun b u _ _ hc e _=>k b u hc e) (fun b u _ _ hc e _=>⟨u.slots,k b u hc e⟩) (fun b u _ e n=>?_)
  (fun b u hc e=>⟨u,k b u hc e⟩) (fun b xs e=>up b _ e) (fun b u v e=>up b _ e) (fun b ps e=>⟨#[],by rw[up b _ e];simp⟩) (fun m hm=>?_) (fun b u e=>?_) I.bare
 ·obtain ⟨f0,f1,f2,f3,f4,f5⟩:=hf b hb;exact ⟨f3,f1,f4,f5⟩
 ·have:b≠T:=GJ (GL (Heap.lt_size e) hp);rw[av this];exact n
 ·obtain ⟨u,es,ep,ho,r⟩:=hm;exact ⟨u,es,ep,k _ u (fun z=>(hf _ z).2.1 rfl) ho,r⟩
 ·by_cases c:b=T
  ·subst c;rw[ah] at e;cases e;exact new
  ·rw[av c] at e;refine (I.hok b u e).stay (fun c' v hc q=>k c' v ?_ q) (fun _ q=>up _ _ q) fun _ _ q=>up _ _ q
   rcases hc with z|z
   ·rw[z];exact nch b u e
   ·exact nch c' _ z
theorem aM.turnedAll {ch:Le} {t':Nat} (I:aM X pins σ H s) (hf:∀b∈ch,eR X pins H b) (k:∀b u,b∉ch->s.heap.get? b=some u->h'.get? b=some u):aM X pins σ H {s with heap:=h',toks:=t'}:=by
 have nch:∀b u,H b=some u->b∉ch:=fun b u e z=>by rw[(hf b z).1] at e;cases e
 refine I.step (g':=s.gens) (d':=s.drawn) (ch:=ch) (fun b hb=>?_) (fun b u _ _ hc e _=>k b u hc e) (fun b u _ _ hc e _=>⟨u.slots,k b u hc e⟩) (fun b u _ e n=>n)
  (fun b u hc e=>⟨u,k b u hc e⟩) (fun b xs e=>e) (fun b u v e=>e) (fun b ps e=>⟨#[],by rw[e];simp⟩) (fun m hm=>?_) (fun b u e=>?_) I.bare
 ·obtain ⟨f0,f1,f2,f3,f4,f5⟩:=hf b hb;exact ⟨f3,f1,f4,f5⟩
 ·obtain ⟨u,es,ep,ho,r⟩:=hm;exact ⟨u,es,ep,k _ u (fun z=>(hf _ z).2.1 rfl) ho,r⟩
 ·refine (I.hok b u e).stay (fun c' v hc q=>k c' v ?_ q) (fun _ q=>q) fun _ _ q=>q
  rcases hc with z|z
  ·rw[z];exact nch b u e
  ·exact nch c' _ z
end
noncomputable def Cj (K:F5) (l:Addr):It:=
 ⟨fun i H=>∃xs x,aO K H l xs/\xs[i]?=some x,fun i H v H'=>∃(T:Addr) (x:V),v= .ref T/\H T=none/\(∀xs,aO K H l xs->xs[i]?=some x)/\H'=aL H T (.tup [.int i,x]),fun i H=>∃xs,aO K H l xs/\xs.length<=i⟩
theorem tN {P:Program} {w:World} {K:F5} {elts:List Expr} {k:Nat} {pos:Pos} (l e it:Addr) (ne:e≠it):Turn P w K (.Tuple elts k pos) (Cj K l) [e,it] e (fun i h=>(∃old,IsEnum h e it i old)/\h.IsListIter it l i) where
 mem:=by simp
 obj:=fun i h st b hb=>by
  obtain ⟨⟨old,he⟩,o,e1,c,d⟩:=st;rcases F8.mp hb with z|z
  ·subst z;exact ⟨_,he,fun v z=>by cases z⟩
  ·rw[G3.mp z];exact ⟨o,e1,fun v z=>by rw[d] at z;cases z⟩
 keep:=fun i h h' st k=>⟨let ⟨old,he⟩:=st.1;⟨old,k e (by simp) _ he⟩,st.2.at fun o q=>k it (by simp) o q⟩
 item:=by
  intro X hP hw hK hc i pins s σ H E I hf st hg;subst hP hw hK;obtain ⟨xs,x,hq,hx⟩:=hg;obtain ⟨its,rv,p,hz⟩:=I.list hq;obtain ⟨u,hu,ru⟩:=rv.get hx;obtain ⟨⟨old,he⟩,hit⟩:=st;refine wpAny_pyNext_enum_item he hit p.isList (x:=u) (by simpa using hu) ne fun h1 ho hit' hT hsz hk=>?_
  refine ⟨_,rfl,wpAny_letOwnedTupleGo_enum (s:={s with heap:=h1,toks:=s.toks+1}) ho fun h2 he2 hs2=>?_⟩
  have nT:H s.heap.objs.size=none:=I.hok.fresh (FO _);have el:e<s.heap.objs.size:=Heap.lt_size he;have il:it<s.heap.objs.size:=by obtain ⟨_,q,_⟩:=hit;exact Heap.lt_size q
  have hT2:h2.get? s.heap.objs.size=some {cls:= .type "tuple",data:= .seq #[.int i s.toks,u]}:=(hs2.2 _ (HG el)).trans hT;have kp:∀b o,b∉ [e,it]->s.heap.get? b=some o->h2.get? b=some o:=fun b o hb q=>by
   simp at hb;exact (hs2.2 b hb.1).trans (hk b o hb.1 hb.2 q)
  refine ⟨.ref s.heap.objs.size,aL H s.heap.objs.size (.tup [.int i,x]),I.turnedNew (t':=s.toks+1) (ch:= [e,it]) hf kp (FO _) ⟨by show 2<=sizeLine;decide,[.int i s.toks,u],.cons ⟨ν⟩ (.cons ru .nil),⟨_,hT2,rfl,0,rfl⟩⟩,rfl,
   ⟨_,x,rfl,nT,fun ys hy=>by rw[I.list_inj hy hq];exact hx,rfl⟩,⟨⟨u,?_⟩,?_⟩,fun b hb=>?_⟩
  ·simpa using he2
  ·exact hit'.at fun o q=>(hs2.2 it (Ne.symm ne)).trans q
  ·have bl:b≠s.heap.objs.size:=by
    rcases F8.mp hb with z|z
    ·rw[z];exact GJ el
    ·rw[G3.mp z];exact GJ il
   rw[av bl];exact (hf b hb).1
 done:=by
  intro X hP hw hK hc i pins s σ H E I hf st hg;subst hP hw hK;obtain ⟨xs,hq,hx⟩:=hg;obtain ⟨its,rv,p,hz⟩:=I.list hq;obtain ⟨⟨old,he⟩,hit⟩:=st;have hl:=rv.length;exact wpAny_pyNext_enum_end (I.ok.hd hc) he hit p.isList (by simp;lia) fun h' eb=>⟨rfl,I.turnedAll (t':=s.toks) (ch:= [e,it]) hf fun b o hb q=>eb b o (fun z=>hb (by simp[z])) q⟩
 self:=fun _ _ _ _ _ st h=>let ⟨_,he⟩:=st.1;wpAny_pyIter_enum he h
def Ck (K:F5) (ta:TA):TI:=fun σ H R=>ta σ H fun vs H1=>∃l:Addr,vs= [.ref l]/\(∃xs,aO K H1 l xs)/\R (Cj K l) H1
theorem boot_enumerate:bootBuiltins "enumerate" =some (.type "enumerate"):=by kernel_rfl
theorem rD {X:Cx} {a:Expr} {ta:TA} {elts:List Expr} {k:Nat} {tp p pos:Pos} (hg:Gl X "enumerate") (hm:X.mg "enumerate" =none) (ha:PA X [a] ta) (hs:starEach [a] X.env= [(false,eval a X.env)]:=by rfl):PI X (.Tuple elts k tp) (.Call (.Name "enumerate" p) [a] [] pos) (Ck X.K ta):=by
 intro pins s σ H R I h;refine Call_ (gh I hg hm boot_enumerate (HZ (bV (ha pos pins s σ H _ I h) fun us s1 ⟨vs,H1,I1,r1,q1⟩=>?_) hs rfl))
 obtain ⟨l,e,⟨xs,hq⟩,q⟩:=q1;subst e;cases r1 with
 |cons r rr=>
  cases rr;cases r;obtain ⟨its,rv,p1,hz⟩:=I1.list hq;refine call_enumerate_list p1.isList fun h' he hit hsz hk=>?_
  refine wpAny_pyIter_enum (s:={s1 with heap:=h'}) he ?_
  have I2:aM X pins σ H1 {s1 with heap:=h'}:=I1.kept (t':=s1.toks) hk
  refine ⟨s1.heap.objs.size+1,[s1.heap.objs.size+1,s1.heap.objs.size],_,_,H1,rfl,I2,tN l _ _ (Nat.succ_ne_self _),⟨⟨_,by simpa using he⟩,hit⟩,fun b hb=>?_,q⟩
  have bl:s1.heap.objs.size<=b:=by
   rcases F8.mp hb with z|z
   ·rw[z];exact Nat.le_succ _
   ·rw[G3.mp z];exact FO _
  exact I1.fpOk bl (I1.hok.fresh bl)
theorem nV {K:F5} {a:Addr} {xs:List V} {g:TG} {tb:TS} {D:Ends} {σ:St} {H:Hp} (Pv:Nat->St->Hp->Prop) (h0:Pv 0 σ H) (hl:∀i σ H,i<=xs.length->Pv i σ H->aO K H a xs)
  (hs:∀i x σ H (T:Addr),xs[i]?=some x->Pv i σ H->H T=none->g (.ref T) σ (aL H T (.tup [.int i,x])) fun σ2 H2=>tb {D with nx:=Pv (i+1),ct:=Pv (i+1),bk:=D.nx} σ2 H2) (hd:∀σ H,Pv xs.length σ H->D.nx σ H):
  ∃W:Nat->Nat->St->Hp->Prop,(∃m,W 0 m σ H)/\∀i m σ H,W i m σ H->
   ((Cj K a).stop i H/\D.nx σ H)∨((Cj K a).go i H/\∃N:St->Hp->Prop,(∀σ' H',N σ' H'->∃m',m'<m/\W (i+1) m' σ' H')/\∀x H',(Cj K a).yld i H x H'->g x σ H' fun σ2 H2=>tb {D with nx:=N,ct:=N,bk:=D.nx} σ2 H2):=by
 refine ⟨fun i m σ H=>m=xs.length-i/\i<=xs.length/\Pv i σ H,⟨xs.length,by simp,Gi _,h0⟩,?_⟩
 rintro i m σ H ⟨rfl,hi,p⟩;have q:=hl i σ H hi p
 by_cases hlt:i<xs.length
 ·refine .inr ⟨⟨xs,xs[i],q,by simp[hlt]⟩,Pv (i+1),fun σ' H' p'=>⟨xs.length-(i+1),by lia,rfl,hlt,p'⟩,fun x H' y=>?_⟩
  obtain ⟨T,z,rfl,nT,hz,rfl⟩:=y;exact hs i z σ H T (hz xs q) p nT
 ·have e:i=xs.length:=by lia
  subst e;exact .inl ⟨⟨xs,q,FO _⟩,hd σ H p⟩
theorem gM {h:Heap} {l b:Addr} {its:Array Value} {o:Obj} {n:String} (hl:h.IsList l its) (e:h.get? b=some o) (c:o.cls= .type n) (ne:n≠ "list"):l≠b:=fun z=>by
 obtain ⟨o',e',c',_⟩:=hl;rw[z,e] at e';cases e';rw[c] at c';injection c' with c'
 exact ne c'
theorem zM (n:Nat): [n+4,n+2,n+3,n,n+1].Nodup:=by
 simp
theorem boot_zip:bootBuiltins "zip" =some (.type "zip"):=by kernel_rfl
open XH
noncomputable def Cl (x:Str):It:=⟨fun i _=>i<x.cps.size,fun i H v H'=>H'=H/\∃c,x.cps[i]?=some c/\v= .str ⟨#[c]⟩,fun i _=>i=x.cps.size⟩
theorem vw {P:Program} {w:World} {K:F5} {tg:Expr} {ty:String} (hty:ty= "str_ascii_iterator" ∨ty= "str_iterator") (it:Addr) (x:Str) (t:Tok):Turn P w K tg (Cl x) [it] it (fun i h=>h.IsStrIter it ty x t i) where
 mem:=by simp
 obj:=fun i h st b hb=>by
  have e:b=it:=by simpa using hb
  subst e;obtain ⟨o,e,c,d⟩:=st;exact ⟨o,e,fun v z=>by rw[d] at z;cases z⟩
 keep:=fun i h h' st k=>by
  obtain ⟨o,e,c,d⟩:=st;exact ⟨o,k it (by simp) o e,c,d⟩
 item:=by
  intro X hP hw hK hc i pins s σ H E I hf st hg;subst hP hw hK;obtain ⟨f0,f1,f2,f3,f4,f5⟩:=hf it (by simp)
  have W:Walks X.prog X.w X.A it [it] [it] x.cps.size (SignAt x) (fun i h=>h.IsStrIter it ty x t i):=by
   rcases hty with rfl|rfl
   ·exact Walks.strAscii (I.ok.hd hc) it x t
   ·exact Walks.strWide (I.ok.hd hc) it x t
  refine W.item i s _ _ hg st fun v h' tk hv st' kk=>?_
  obtain ⟨c,u,hc',rfl⟩:=hv;have I1:aM X pins σ H {s with heap:=h',toks:=tk}:=I.turned (fun b o hb e=>kk b o (by simpa using hb) e) f0 f1 f3 f4 f5
  obtain ⟨o,e,c1,d1⟩:=id st';refine ⟨_,rfl,uJ (s:={s with heap:=h',toks:=tk}) (n:=ty) e c1 d1 (by rcases hty with rfl|rfl<;>decide) ⟨.str ⟨#[c]⟩,H,I1,⟨u,rfl⟩,⟨rfl,c,hc',rfl⟩,st',fun b hb=>(hf b hb).1⟩⟩
 done:=by
  intro X hP hw hK hc i pins s σ H E I hf st hg;subst hP hw hK;obtain ⟨f0,f1,f2,f3,f4,f5⟩:=hf it (by simp)
  have W:Walks X.prog X.w X.A it [it] [it] x.cps.size (SignAt x) (fun i h=>h.IsStrIter it ty x t i):=by
   rcases hty with rfl|rfl
   ·exact Walks.strAscii (I.ok.hd hc) it x t
   ·exact Walks.strWide (I.ok.hd hc) it x t
  have hg':i=x.cps.size:=hg;subst hg';exact W.done s _ _ st fun h' tk kk=>⟨rfl,I.turned (fun b o hb e=>kk b o (by simpa using hb) e) f0 f1 f3 f4 f5⟩
 self:=fun _ _ _ _ _ st h=>by
  rcases hty with rfl|rfl
  ·exact wpAny_pyIter_striter_ascii st h
  ·exact wpAny_pyIter_striter_wide st h
def Ev (tl:TE):TI:=fun σ H R=>tl σ H fun x H1=>∃z,x= .str z/\R (Cl z) H1
variable {X:Cx} {tg:Expr}
theorem vx {l:Expr} {tl:TE} (hl:PE X l tl):PI X tg l (Ev tl):=by
 intro pins s σ H R I h;refine bV (hl pins s σ H _ I h) fun v s1 ⟨x,H1,I1,r1,q1⟩=>?_
 obtain ⟨z,rfl,q⟩:=q1;obtain ⟨t,rfl⟩:=r1;have fin:∀{ty:String} {o:Obj},(ty= "str_ascii_iterator" ∨ty= "str_iterator")->(s1.heap.push o).IsStrIter s1.heap.objs.size ty z t 0->Eh X pins σ tg R (.ref s1.heap.objs.size) {s1 with heap:=s1.heap.push o}:=fun {ty o} hty st=>by
  refine ⟨s1.heap.objs.size,[s1.heap.objs.size],_,_,H1,rfl,I1.kept (t':=s1.toks) fun b o e=>Heap.get?_push_of_some _ e,vw hty _ z t,st,fun b hb=>?_,q⟩
  have e:b=s1.heap.objs.size:=by simpa using hb
  subst e;exact I1.fpOk (FO _) (I1.hok.fresh (FO _))
 cases ha:z.cps.all (· <128)
 ·exact wpAny_pyIter_wide ha (fin (.inr rfl) ⟨_,Heap.get?_push_size _ rfl,rfl,rfl⟩)
 ·exact wpAny_pyIter_ascii ha (fin (.inl rfl) ⟨_,Heap.get?_push_size _ rfl,rfl,rfl⟩)
theorem rE {z:Str} {g:TG} {tb:TS} {D:Ends} {σ:St} {H:Hp} (Pv:Nat->St->Hp->Prop) (h0:Pv 0 σ H)
  (hs:∀i c σ H,z.cps[i]?=some c->Pv i σ H->g (.str ⟨#[c]⟩) σ H fun σ2 H2=>tb {D with nx:=Pv (i+1),ct:=Pv (i+1),bk:=D.nx} σ2 H2) (hd:∀σ H,Pv z.cps.size σ H->D.nx σ H):
  ∃W:Nat->Nat->St->Hp->Prop,(∃m,W 0 m σ H)/\∀i m σ H,W i m σ H->
   ((Cl z).stop i H/\D.nx σ H)∨((Cl z).go i H/\∃N:St->Hp->Prop,(∀σ' H',N σ' H'->∃m',m'<m/\W (i+1) m' σ' H')/\∀x H',(Cl z).yld i H x H'->g x σ H' fun σ2 H2=>tb {D with nx:=N,ct:=N,bk:=D.nx} σ2 H2):=by
 refine ⟨fun i m σ H=>m=z.cps.size-i/\i<=z.cps.size/\Pv i σ H,⟨z.cps.size,by simp,Gi _,h0⟩,?_⟩
 rintro i m σ H ⟨rfl,hi,p⟩
 by_cases hlt:i<z.cps.size
 ·refine .inr ⟨hlt,Pv (i+1),fun σ' H' p'=>⟨z.cps.size-(i+1),by lia,rfl,hlt,p'⟩,fun x H' y=>?_⟩
  obtain ⟨e,c,hc,rfl⟩:=y;subst e;exact hs i c σ _ hc p
 ·have e:i=z.cps.size:=by lia
  subst e;exact .inl ⟨rfl,hd σ H p⟩
noncomputable def dZ (x:Str) (lo hi:Option Int):Str:=⟨((x.cps.toList.drop (HT.eJ x.length 0 lo)).take (HT.eJ x.length x.length hi-HT.eJ x.length 0 lo)).toArray⟩
theorem Cm (lo hi:Option Int) (n:Nat):Builtin.Str.strSliceIndices lo hi 1 n=(Gx (HT.eJ n n hi-HT.eJ n 0 lo)).map (HT.eJ n 0 lo+ ·):=by
 have h1:(match lo with|none=>(0:Int)|some i=>max 0 (min (if i<0 then i+(n:Int) else i) n))=((HT.eJ n 0 lo:Nat):Int):=by
  cases lo with
  |none=>simp[HT.eJ]
  |some i=>
   simp only[HT.eJ]
   by_cases h:i<0
   ·simp only[h,if_true]<;>lia
   ·simp only[h,if_false]<;>lia
 have h2:(match hi with|none=>(n:Int)|some i=>max 0 (min (if i<0 then i+(n:Int) else i) n))=((HT.eJ n n hi:Nat):Int):=by
  cases hi with
  |none=>simp[HT.eJ]
  |some i=>
   simp only[HT.eJ]
   by_cases h:i<0
   ·simp only[h,if_true]<;>lia
   ·simp only[h,if_false]<;>lia
 rw[<-sliceRange_one,<-h1,<-h2];cases lo<;>cases hi<;>rfl
theorem nW (x:Str) (l u:Option (Int×Tok)):(⟨((slicePicked x l u none).filterMap (x.cps[·]?)).toArray⟩:Str)=dZ x (l.map (·.1)) (u.map (·.1)):=by
 show (⟨((Builtin.Str.strSliceIndices (l.map (·.1)) (u.map (·.1)) 1 x.length).filterMap (x.cps[·]?)).toArray⟩:Str)=_;rw[Cm,pick_run]
 rfl
theorem eO (x:Str) (lo hi:Option Int):(dZ x lo hi).length<=x.length:=by
 show ((x.cps.toList.drop _).take _).toArray.size<=x.cps.size;rw[GN,GG,Gd];simp only[HV]
 lia
theorem qu (x:Str) (l u:Option (Int×Tok)) (h:(slicePicked x l u none).length=x.length):dZ x (l.map (·.1)) (u.map (·.1))=x:=by
 have h':(Builtin.Str.strSliceIndices (l.map (·.1)) (u.map (·.1)) 1 x.length).length=x.length:=h;rw[Cm,F6,HD] at h';have hs:HT.eJ x.length x.length (u.map (·.1))<=x.length∨x.length<HT.eJ x.length x.length (u.map (·.1)):=by lia
 have hu:HT.eJ x.length x.length (u.map (·.1))<=x.length:=by
  cases u with
  |none=>exact FO _
  |some p=>
   show (if p.1<0 then (p.1+(x.length:Int)).toNat else min p.1.toNat x.length)<=x.length
   by_cases hp:p.1<0
   ·rw[if_pos hp];lia
   ·rw[if_neg hp];lia
 unfold dZ
 by_cases hx:x.length=0
 ·have e:x.cps.toList= []:=by
   have:x.cps.toList.length=0:=by rw[HV];exact hx
   exact Ha this
  rw[e,List.drop_nil,List.take_nil];obtain ⟨c⟩:=x;have e':c= #[]:=Array.toList_inj.mp (by simpa using e)
  rw[e']
 ·have h0:HT.eJ x.length 0 (l.map (·.1))=0:=by lia
  rw[h0,List.drop_zero,Gp (by rw[HV];show x.length<=_;lia)]
theorem part_of {v:Value} {o:Option Int} (p:IsPart v o):∃l:Option (Int×Tok),partValue l=v/\l.map (·.1)=o:=by
 cases p with
 |none=>exact ⟨none,rfl,rfl⟩
 |int i t=>exact ⟨some (i,t),rfl,rfl⟩
theorem gw {X:Cx}:En X (fun x lo hi H Q=>∃z,x= .str z/\z.length<=sizeLine/\Q (.str (dZ z lo hi)) H):=by
 intro pins s σ H x v vl vu lo hi sl Q I rx hs pl pu h;obtain ⟨z,rfl,hz,q⟩:=h;obtain ⟨t,rfl⟩:=rx;obtain ⟨l,rfl,rfl⟩:=part_of pl;obtain ⟨u,rfl,rfl⟩:=part_of pu;refine ⟨"str",_,slot_str_getitem.lookup,typeIs_str s z t,?_⟩;refine wpAny_getItem_str_slice (l:=l) (u:=u) (st:=none) hs rfl ?_;unfold sliceMade
 by_cases hw:(slicePicked z l u none).length=z.length
 ·rw[if_pos (by simp[hw])]
  refine ⟨.str (dZ z (l.map (·.1)) (u.map (·.1))),H,I,⟨t,by rw[qu z l u hw]⟩,q⟩
 ·rw[if_neg (by simp[hw])]
  rw[nW];exact ⟨GP (eO _ _ _) hz,.str (dZ z (l.map (·.1)) (u.map (·.1))),H,I.tok _,⟨ν⟩,q⟩
open Builtin.Str in
noncomputable def rF (z y:Str):List V:=match occurrences z y 0 z.length 1 with
 |i::_=> [.str (strSub z 0 i),.str y,.str (strSub z (i+y.length) z.length)]
 | []=> [.str z,.str Str.empty,.str Str.empty]
theorem gN {X:Cx}:BB X "str.partition" (fun x vs H Q=>∃z y,x= .str z/\vs= [.str y]/\y.length≠0/\z.length<=sizeLine/\∀p,H p=none->Q (.ref p) (aL H p (.tup (rF z y)))):=by
 intro pins s σ H x vs v us Q I rx rv h;obtain ⟨z,y,rfl,rfl,hy,hz,q⟩:=h;obtain ⟨t,rfl⟩:=rx;cases rv with
 |cons r rr=>
  cases rr;obtain ⟨u,rfl⟩:=r;refine call_meets F.slot_str_partition (typeIs_str s z t) F.entry_str_partition (F.args_str_partition_2 _ _) (meets_str_partition z y t u (by simpa using hy) hz) ?_
  have q':=q s.heap.objs.size (I.hok.fresh (FO _));unfold rF at q';cases ho:Builtin.Str.occurrences z y 0 z.length 1 with
  |nil=>
   rw[ho] at q';refine ⟨.ref s.heap.objs.size,_,I.laid (t':=s.toks+1) (fun b ob e=>Heap.get?_push_of_some _ e) (FO _) ?_,rfl,q'⟩
   exact ⟨by show 3<=sizeLine;decide,_,.cons ⟨ν⟩ (.cons ⟨ν⟩ (.cons ⟨ν⟩ .nil)),_,Heap.get?_push_size _ rfl,rfl,0,rfl⟩
  |cons i r=>
   rw[ho] at q';refine ⟨.ref s.heap.objs.size,_,I.laid (t':=s.toks+1+1) (fun b ob e=>Heap.get?_push_of_some _ e) (FO _) ?_,rfl,q'⟩
   exact ⟨by show 3<=sizeLine;decide,_,.cons ⟨ν⟩ (.cons ⟨ν⟩ (.cons ⟨ν⟩ .nil)),_,Heap.get?_push_size _ rfl,rfl,0,rfl⟩
end L2
namespace Sw
open PySem PySem.NumText
noncomputable def dg (n:Nat):List Nat:=(Nat.toDigits 10 n).map Char.toNat
theorem qw (n:Nat):digitsVal (dg n)=n:=PySem.W.KIN.val_back n
theorem eE {n:Nat} (h:n<10):dg n= [48+n]:=by
 unfold dg;rw[Nat.toDigits_of_lt_base h]
 revert h
 revert n
 decide
theorem mB {n:Nat} (h:10<=n):dg n=dg (n/10)++ [48+n % 10]:=by
 have hm:n % 10<10:=Nat.mod_lt _ (by decide)
 rw[<-eE hm];unfold dg;rw[<-GO,Nat.toDigits_append_toDigits (by decide) (by lia) hm,Nat.div_add_mod]
theorem eF (n:Nat):AllDigits (dg n):=by
 induction n using Nat.strongRecOn with
 |_ n ih=>
  by_cases h:n<10
  ·rw[eE h];intro c hc;simp at hc
   lia
  ·rw[mB (by lia)]
   intro c hc;rcases GD.mp hc with z|z
   ·exact ih (n/10) (by lia) c z
   ·simp at z
    lia
theorem rG (n:Nat):dg n≠ []:=by
 by_cases h:n<10
 ·rw[eE h];simp
 ·rw[mB (by lia)];simp
theorem rH (n:Nat):(dg n).head?=some 48->n=0:=by
 induction n using Nat.strongRecOn with
 |_ n ih=>
  intro e
  by_cases h:n<10
  ·rw[eE h] at e;simp at e;exact e
  ·rw[mB (by lia),List.head?_append] at e
   cases q:(dg (n/10)).head? with
   |none=>exact absurd (List.head?_eq_none_iff.mp q) (rG _)
   |some c=>
    rw[q] at e;simp at e;subst e;have:=ih (n/10) (by lia) q
    lia
theorem mC:dg 0= [48]:=eE (by decide)
theorem vy:dg 1= [49]:=eE (by decide)
theorem dM {n:Nat}:∀{k:Nat},n<10^(k+1)->(dg n).length<=k+1:=by
 induction n using Nat.strongRecOn with
 |_ n ih=>
  intro k hk
  by_cases h:n<10
  ·rw[eE h];simp
  ·rw[mB (by lia),FQ]
   cases k with
   |zero=>lia
   |succ k=>
    have h1:n/10<10^(k+1):=by
     rw[Nat.pow_succ 10 (k+1)] at hk;generalize 10^(k+1)=m at*
     lia
    have:=ih (n/10) (by lia) h1
    simp;omega
theorem Cn {l:List Nat} (h:AllDigits l) (ne:l≠ []) (hd:l.head?≠some 48∨l= [48]):dg (digitsVal l)=l:=by
 rcases hd with hd|hd
 ·cases l with
  |nil=>exact absurd rfl ne
  |cons c r=>
   have hc:=h.head;have c9:49<=c:=by
    simp at hd
    lia
   unfold dg;rw[toDigits_digitsVal r.length (c::r) rfl h (.inr ⟨c,r,rfl,c9⟩),Gy];refine (HW fun x hx=>?_).trans (List.map_id _)
   have hx':=h x hx;have:∀y,y<58->(Char.ofNat y).toNat=y:=by decide
   exact this x (by lia)
 ·subst hd;exact mC
theorem fJ {n c:Nat} (h:c<48):c∉dg n:=fun z=>by have:=(eF n c z).1;lia
def xE (l:List Nat):Prop:=1<=l.length/\l.length<=30/\(l.head?≠some 48∨l= [48])/\AllDigits l
open Classical in
noncomputable def di (l:List Nat):Option Nat:=if xE l then some (digitsVal l) else none
theorem jz {l:List Nat} {n:Nat} (h:di l=some n):l=dg n/\(dg n).length<=30:=by
 unfold di at h
 split at h
 ·rename_i f;obtain ⟨h1,h2,h3,h4⟩:=f;have e:dg (digitsVal l)=l:=Cn h4 (fun z=>by rw[z] at h1;simp at h1) h3
  cases h;rw[e];exact ⟨rfl,h2⟩
 ·cases h
theorem eG {n:Nat} (h:(dg n).length<=30):di (dg n)=some n:=by
 unfold di;rw[if_pos,qw];refine ⟨?_,h,?_,eF n⟩
 ·have:=rG n;cases q:dg n with
  |nil=>exact absurd q this
  |cons=>simp
 ·by_cases z:(dg n).head?=some 48
  ·exact .inr (by rw[rH n z];exact mC)
  ·exact .inl z
theorem eS {n:Nat} (h:30<(dg n).length):di (dg n)=none:=by
 unfold di;rw[if_neg];rintro ⟨_,h2,_⟩
 lia
theorem qx {l:List Nat} (h:xE l):di l=some (digitsVal l):=if_pos h
theorem fW {l:List Nat} (h:¬xE l):di l=none:=if_neg h
theorem iA {l:List Nat} {n:Nat} (h:di l=some n):n<10^30:=by
 obtain ⟨e,hl⟩:=jz h;rw[<-qw n];have gen:∀(l:List Nat) (a:Nat),AllDigits l->l.foldl (fun acc c=>acc*10+(c-48)) a<(a+1)*10^l.length:=by
  intro l
  induction l with
  |nil=>intro a _;simp
  |cons c l ih=>
   intro a h;have h1:=ih (a*10+(c-48)) h.tail;have h2:=h.head;rw[List.foldl_cons,G6,Nat.pow_succ];refine GL h1 ?_;rw[Ho (10^l.length) 10,<-Nat.mul_assoc];exact Nat.mul_le_mul_right _ (by lia)
 have g:=gen _ 0 (eF n);rw[Nat.zero_add,Nat.one_mul] at g;exact GL g (Nat.pow_le_pow_right (by decide) hl)
noncomputable def cH (c:Nat) (l:List Nat):List Nat×List Nat:=(l.takeWhile (· !=c),(l.dropWhile (· !=c)).tail)
theorem eA {c:Nat} {a b:List Nat} (h:c∉a):cH c (a++c::b)=(a,b):=by
 unfold cH;have p:∀x∈a,(x !=c)=true:=fun x hx=>by
  rw[bne_iff_ne];exact fun z=>h (z▸hx)
 rw[List.takeWhile_append_of_pos p,List.dropWhile_append_of_pos p];simp
theorem rJ {c:Nat}:∀{l:List Nat},c∈l->l=(cH c l).1++c::(cH c l).2/\c∉(cH c l).1:=by
 intro l h;obtain ⟨a,b,e⟩:=List.append_of_mem h
 induction l generalizing a b with
 |nil=>simp at h
 |cons x l ih=>
  by_cases z:x=c
  ·subst z;have:=eA (c:=x) (a:= []) (b:=l) (by simp)
   simp only[List.nil_append] at this;rw[this];simp
  ·have hl:c∈l:=by
    rcases F8.mp h with q|q
    ·exact absurd q.symm z
    ·exact q
   obtain ⟨a',b',e'⟩:=List.append_of_mem hl;obtain ⟨i1,i2⟩:=ih hl a' b' e';have ex:cH c (x::l)=(x::(cH c l).1,(cH c l).2):=by
    unfold cH;rw[List.takeWhile_cons_of_pos (by simpa using z),List.dropWhile_cons_of_pos (by simpa using z)]
   rw[ex];refine ⟨?_,?_⟩
   ·show x::l=x::((cH c l).1++c::(cH c l).2);rw[<-i1]
   ·show c∉x::(cH c l).1;intro q;rcases F8.mp q with q|q
    ·exact z q.symm
    ·exact i2 q
noncomputable def cM (a b:List Nat):Option (Nat×Nat):=match di a,di b with
 |some n,some m=>if m=0 then none else some (n,m)
 |_,_=>none
noncomputable def c8 (l:List Nat):Option (Nat×Nat):=if 47∈l then cM (cH 47 l).1 (cH 47 l).2 else cM l [49]
noncomputable def mD (x y:Option (Nat×Nat)):Option (Nat×Nat):=match x,y with
 |some (n,m),some (n',m')=>some (n*m'+n'*m,m*m')
 |_,_=>none
noncomputable def dB (l:List Nat):Option (Nat×Nat):=if 43∈l then mD (c8 (cH 43 l).1) (c8 (cH 43 l).2) else c8 l
noncomputable def c6 (p q:Nat):List Nat:=if p % q=0 then dg (p/q) else if p/q=0 then dg (p % q)++47::dg q else dg (p/q)++43::(dg (p % q)++47::dg q)
structure Reads (l:List Nat) (p q:Nat):Prop where
 pos:0<q
 low:HC p q=1
 ex:∃n m,dB l=some (n,m)/\p*m=n*q
 wr:c6 p q=l
noncomputable def DO (a:Nat) (r:List Nat):Option (Nat×Nat):=match di (cH 47 r).1,di (cH 47 r).2 with
 |some t,some b=>if t=0∨b<=t∨HC b t≠1 then none else some (a*b+t,b)
 |_,_=>none
noncomputable def xF (l:List Nat):Option (Nat×Nat):=if 43∈l then
    (match di (cH 43 l).1 with
     |some a=>if a=0 then none else if 47∈(cH 43 l).2 then DO a (cH 43 l).2 else none
     |none=>none)
  else if 47∈l then DO 0 l else (di l).map fun n=>(n,1)
theorem vA (n:Nat):c8 (dg n)=(di (dg n)).map fun n=>(n,1):=by
 unfold c8;rw[if_neg (fJ (by decide))]
 unfold cM;have e:di [49]=some 1:=by rw[<-vy];exact eG (by rw[vy];decide)
 rw[e];cases di (dg n)<;>simp
theorem rK (t b:Nat):c8 (dg t++47::dg b)=cM (dg t) (dg b):=by
 unfold c8;rw[if_pos (by simp),eA (fJ (by decide))]
theorem mE (n:Nat):dB (dg n)=(di (dg n)).map fun n=>(n,1):=by
 unfold dB;rw[if_neg (fJ (by decide)),vA]
theorem fX (t b:Nat):43∉dg t++47::dg b:=by
 intro z;rcases GD.mp z with q|q
 ·exact fJ (by decide) q
 ·rcases F8.mp q with q|q
  ·cases q
  ·exact fJ (by decide) q
theorem jA (t b:Nat):dB (dg t++47::dg b)=cM (dg t) (dg b):=by
 unfold dB;rw[if_neg (fX t b),rK]
theorem iB (w t b:Nat):dB (dg w++43::(dg t++47::dg b))=mD ((di (dg w)).map fun n=>(n,1)) (cM (dg t) (dg b)):=by
 unfold dB;rw[if_pos (by simp),eA (fJ (by decide)),vA,rK]
theorem rL {t b:Nat} (ht:(dg t).length<=30) (hb:(dg b).length<=30) (b0:b≠0):cM (dg t) (dg b)=some (t,b):=by
 unfold cM;rw[eG ht,eG hb];simp[b0]
theorem eT {t b:Nat} (h:30<(dg t).length∨30<(dg b).length):cM (dg t) (dg b)=none:=by
 unfold cM;rcases h with h|h
 ·rw[eS h]
 ·rw[eS h];cases di (dg t)<;>rfl
theorem kY {t b n m:Nat} (h:cM (dg t) (dg b)=some (n,m)):(dg t).length<=30/\(dg b).length<=30:=by
 by_cases h1:30<(dg t).length
 ·rw[eT (.inl h1)] at h;cases h
 ·by_cases h2:30<(dg b).length
  ·rw[eT (.inr h2)] at h;cases h
  ·lia
theorem yO {a t b:Nat} (ht:(dg t).length<=30) (hb:(dg b).length<=30) (t0:t≠0) (hlt:t<b) (g:HC b t=1):DO a (dg t++47::dg b)=some (a*b+t,b):=by
 unfold DO;rw[eA (fJ (by decide)),eG ht,eG hb]
 simp only;rw[if_neg];rintro (z|z|z)
 ·exact t0 z
 ·lia
 ·exact z g
theorem kZ {l:List Nat} {p q:Nat} (h:Reads l p q):xF l=some (p,q):=by
 obtain ⟨q0,g,⟨n,m,hl,hv⟩,w⟩:=h;unfold c6 at w
 split at w
 ·rename_i z;have q1:q=1:=by
   have d:q∣p:=Nat.dvd_of_mod_eq_zero z;have:HC p q=q:=Nat.gcd_eq_right d
   lia
  subst q1;rw[Nat.div_one] at w;subst w;rw[mE] at hl;have hp:(dg p).length<=30:=by
   apply Nat.le_of_not_lt;intro y;rw[eS y] at hl;cases hl
  unfold xF;rw[if_neg (fJ (by decide)),if_neg (fJ (by decide)),eG hp]
  rfl
 ·rename_i z
  split at w
  ·rename_i z2;have hlt:p<q:=(Nat.div_eq_zero_iff_lt q0).mp z2;rw[Nat.mod_eq_of_lt hlt] at w z;subst w;rw[jA] at hl;obtain ⟨h1,h2⟩:=kY hl;unfold xF;rw[if_neg (fX p q),if_pos (by simp),yO h1 h2 z hlt (by rw[Hq];exact g)]
   simp
  ·rename_i z2;subst w;rw[iB] at hl;have hw:(dg (p/q)).length<=30:=by
    apply Nat.le_of_not_lt;intro y;rw[eS y] at hl;cases hl
   have hp:∃a b,cM (dg (p % q)) (dg q)=some (a,b):=by
    cases y:cM (dg (p % q)) (dg q) with
    |none=>rw[y] at hl;rw[eG hw] at hl;cases hl
    |some ab=>exact ⟨ab.1,ab.2,rfl⟩
   obtain ⟨a,b,hp⟩:=hp;obtain ⟨h1,h2⟩:=kY hp;have hlt:p % q<q:=Nat.mod_lt _ q0;unfold xF;rw[if_pos (by simp),eA (fJ (by decide)),eG hw]
   simp only;rw[if_neg z2,if_pos (by simp),yO h1 h2 z hlt (by rw[Hq,<-Nat.gcd_rec,Hq]<;>exact g),Ho,Nat.div_add_mod]
end Sw
namespace L2
open PySem PySem.Spec PyProof.Rows XH
section
variable {X:Cx} {a b e o:Expr} {es:List Expr} {t te to:TE} {ta:TA} {pos apos cpos:Pos} {x y:Str}
def Ew (t:TE):TE:=fun σ H Q=>t σ H fun x H1=>(∃i,x= .int i/\i.natAbs.log2<1920/\Q (.str (toString i)) H1)∨∃z,x= .str z/\z.length<=sizeLine/\Q (.str z) H1
theorem iC (h:PE X e t):PE X (.FormattedValue e (-1) none pos) (Ew t):=by
 intro pins s σ H Q I q;refine FormattedValue_plain (bV (h pins s σ H _ I q) fun v s1 ⟨x,H1,I1,r1,q1⟩=>?_)
 rcases q1 with ⟨i,rfl,hi,q⟩|⟨z,rfl,hz,q⟩
 ·obtain ⟨t,rfl⟩:=r1;exact formatField_int_small hi ⟨.str _,H1,I1.tok _,⟨ν⟩,q⟩
 ·obtain ⟨t,rfl⟩:=r1;exact formatField_str (fun t' tk=>⟨.str z,H1,I1.tok _,⟨ν⟩,q⟩) hz
def PJ (X:Cx) (es:List Expr) (t:Str->TE):Prop:=∀(out:Str) (pins:Lb) (s:Shared) (σ:St) (H:Hp) (Q:VK),aM X pins σ H s->t out σ H Q->
 wpAny (model X.prog X.w) X.A (joinParts out (evalEach es X.env)) (EP X pins σ Q) X.xe s
def Ex:Str->TE:=fun out σ H Q=>out.length<=sizeLine/\Q (.str out) H
theorem qy:PJ X [] Ex:=fun out pins s σ H Q I h=>joinParts_nil ⟨.str out,H,I.tok _,⟨_,rfl⟩,h.2⟩ h.1
def Co (te:TE) (tr:Str->TE):Str->TE:=fun out σ H Q=>te σ H fun x H1=>∃y,x= .str y/\(out++y).length<=sizeLine/\tr (out++y) σ H1 Q
theorem dD {tr:Str->TE} (he:PE X e te) (hr:PJ X es tr):PJ X (e::es) (Co te tr):=by
 intro out pins s σ H Q I h;refine joinParts_cons (bV (he pins s σ H _ I h) fun v s1 ⟨x,H1,I1,r1,y,e,hz,q⟩=>?_)
 subst e;obtain ⟨t,rfl⟩:=r1;exact ⟨hz,hr _ pins s1 σ H1 Q I1 q⟩
def Cp (t:Str->TE):TE:=t Str.empty
theorem mF {t:Str->TE} (h:PJ X (a::b::es) t):PE X (.JoinedStr (a::b::es) pos) (Cp t):=fun pins s σ H Q I q=>JoinedStr_many (h Str.empty pins s σ H Q I q)
theorem mG:c7 X (.type "int") (fun xs H Q=>∃z n,xs= [.str z]/\intText? z=some n/\z.length<=640/\Q (.int n) H):=by
 intro pins s σ H xs us Q I r h;obtain ⟨z,n,rfl,hn,hl,q⟩:=h;obtain ⟨u,rfl,t,rfl⟩:=vals1 r;exact PySem.W.KIN.call_text hn hl ⟨.int n,H,I.tok _,⟨ν⟩,q⟩
theorem rM:∀{ns:List Int} {us:Lf},aX (ns.map V.int) us->IntsAre us ns
 | [],_,h=>by cases h;exact .nil
 |n::ns,_,h=>by
  cases h with
  |cons r rr=>
   obtain ⟨t,rfl⟩:=r;exact .cons _ _ (rM rr)
theorem nX {z:Str} {p:Pos} (hg:Gl X x) (h:∃t,X.mg x=some (.str z t)) (hd:(x==("__debug__" :Str))=false:=by decide):PE X (.Name x p) (tC (.str z)):=by
 obtain ⟨t,h⟩:=h;exact bG hg h ⟨t,rfl⟩ hd
theorem eH {i:Int} {p:Pos} (hg:Gl X x) (h:∃t,X.mg x=some (.int i t)) (hd:(x==("__debug__" :Str))=false:=by decide):PE X (.Name x p) (tC (.int i)):=by
 obtain ⟨t,h⟩:=h;exact bG hg h ⟨t,rfl⟩ hd
theorem k7:∀(l:Ld) (n:Nat),aX (l.map V.str) (strsFrom n l)
 | [],_=> .nil
 |x::l,n=> .cons ⟨_,rfl⟩ (k7 l (n+1))
theorem nY:BB X "str.split" (fun x vs H Q=>∃z c,x= .str z/\vs= [.str ⟨#[c]⟩]/\z.length+2<=sizeLine/\∀p,H p=none->Q (.ref p) (aL H p (.lst ((Txt.split z ⟨#[c]⟩).map V.str)))):=by
 intro pins s σ H x vs v us Q I rx rv h;obtain ⟨z,c,rfl,rfl,hz,q⟩:=h;obtain ⟨t,rfl⟩:=rx;obtain ⟨u,rfl,t',rfl⟩:=vals1 rv;have q':=q s.heap.objs.size (I.hok.fresh (FO _));have hn:(Builtin.Str.occurrences z ⟨#[c]⟩ 0 z.length (z.length+1)).length<=z.length+1:=StrLaws.occ_length_le _ _ _ _ _;unfold Txt.split at q';cases h1:(decide (z.length<(⟨#[c]⟩:Str).length)||decide (Builtin.Str.strKind z<Builtin.Str.strKind ⟨#[c]⟩)) with
 |true=>
  rw[h1] at q';refine call_meets F.slot_str_split (typeIs_str s z t) F.entry_str_split (F.args_str_split_2 _ _) (meets_str_split_cannot_occur z ⟨#[c]⟩ t t' h1) ?_;exact ⟨.ref s.heap.objs.size,_,I.laid (o:= .lst [.str z]) (t':=s.toks) (fun b ob e=>Heap.get?_push_of_some _ e) (FO _) ⟨by show 1<=sizeLine;decide,[.str z t],0,.cons ⟨ν⟩ .nil,Heap.get?_push_size _ rfl⟩,rfl,q'⟩
 |false=>
  rw[h1] at q';cases hf:(Builtin.Str.occurrences z ⟨#[c]⟩ 0 z.length (z.length+1)).isEmpty with
  |true=>
   rw[hf] at q';refine call_meets F.slot_str_split (typeIs_str s z t) F.entry_str_split (F.args_str_split_2 _ _) (meets_str_split_not_found z ⟨#[c]⟩ t t' h1 rfl hf) ?_;exact ⟨.ref s.heap.objs.size,_,I.laid (o:= .lst [.str z]) (t':=s.toks) (fun b ob e=>Heap.get?_push_of_some _ e) (FO _) ⟨by show 1<=sizeLine;decide,[.str z t],0,.cons ⟨ν⟩ .nil,Heap.get?_push_size _ rfl⟩,rfl,q'⟩
  |false=>
   rw[hf] at q';have hp:(Builtin.Str.partsBetween z (Builtin.Str.occurrences z ⟨#[c]⟩ 0 z.length (z.length+1)) (⟨#[c]⟩:Str).length).length<=sizeLine:=by
    unfold Builtin.Str.partsBetween;simp only[F6,List.length_zip,G6,FQ,List.length_nil]
    lia
   refine call_meets F.slot_str_split (typeIs_str s z t) F.entry_str_split (F.args_str_split_2 _ _) (meets_str_split_sep z ⟨#[c]⟩ t t' h1 rfl hf (by lia) hp) ?_
   exact ⟨.ref s.heap.objs.size,_,I.laid (o:= .lst ((Builtin.Str.partsBetween z (Builtin.Str.occurrences z ⟨#[c]⟩ 0 z.length (z.length+1)) (⟨#[c]⟩:Str).length).map V.str)) (fun b ob e=>Heap.get?_push_of_some _ e) (FO _) ⟨by rw[F6];exact hp,_,0,k7 _ _,Heap.get?_push_size _ rfl⟩,rfl,q'⟩
end
end L2
namespace So
open PySem PyProof.Rows
noncomputable def kk (κ:KeyKind) (p:Keyed):κ.α:=(κ.keyOf p.1).getD κ.dflt
def Kd (κ:KeyKind) (p:Keyed):Prop:=∃a,κ.keyOf p.1=some a
def BE (prog:Program) (w:World) (A:Around) (E:K9) (s:Shared) (κ:KeyKind) (kd:SortKind):Prop:=∀(st:SortSt) (x y:Keyed) (Q:Option Bool->SortSt->Prop),kindOf st=kd->Kd κ x->Kd κ y->Q (some (κ.blt (kk κ x) (kk κ y))) st->wpS (model prog w) A E s (lt' x y) Q st
section
variable {prog:Program} {w:World} {A:Around} {E:K9} {s:Shared} {κ:KeyKind} {kd:SortKind}
theorem jC {α β:Type} {st:SortSt} {x:StateT SortSt Sem α} {f:α->StateT SortSt Sem β} {Q:β->SortSt->Prop} (h:wpS (model prog w) A E s (x>>=f) Q st):wpS (model prog w) A E s (x>>=f) Q st:=h
theorem vB (hO:BE prog w A E s κ kd) {st:SortSt} {x y:Keyed} {Q:Option Bool->SortSt->Prop} (hk:kindOf st=kd) (hx:Kd κ x) (hy:Kd κ y) (h:Q (some (κ.blt (kk κ x) (kk κ y))) st):wpS (model prog w) A E s (lt' x y) Q st:=hO st x y Q hk hx hy h
theorem gO {st:SortSt} {arr:Array Keyed} {i:Nat} {p:Keyed} {Q:Keyed->SortSt->Prop} (e:arr[i]?=some p) (h:Q p st):wpS (model prog w) A E s (elem' arr i) Q st:=by
 rw[elem'_eq,e];exact wpS_pure h
end
def Lq (κ:KeyKind) (p q:Keyed):Prop:=κ.kle (kk κ p) (kk κ q)
section
variable {prog:Program} {w:World} {A:Around} {E:K9} {s:Shared} {κ:KeyKind} {kd:SortKind}
theorem nZ {st:SortSt} {r:String} {Q:Unit->SortSt->Prop} (h:Q () st):wpS (model prog w) A E s (liftM (rule r):StateT SortSt Sem Unit) Q st:=wpS_lift (wpAny_rule ⟨rfl,h⟩)
end
section
variable {prog:Program} {w:World} {A:Around} {E:K9} {s:Shared} {κ:KeyKind} {kd:SortKind}
theorem xG {arr:Array Keyed} {P R:List Keyed} (e:arr.toList=P++R) {i:Nat} {x:Keyed} (h:R[i]?=some x):arr[P.length+i]?=some x:=by
 have:arr.toList[P.length+i]?=some x:=by rw[e,FN (by lia),Nat.add_sub_cancel_left];exact h
 simpa using this
theorem gP (hO:BE prog w A E s κ kd) {st:SortSt} {P R:List Keyed} {i j i' j':Nat} {x y:Keyed} {Q:Option Bool->SortSt->Prop} (hk:kindOf st=kd) (ka:∀x∈R,Kd κ x) (e:(arrOf st).toList=P++R)
  (hi:R[i]?=some x) (hj:R[j]?=some y) (ei:i'=P.length+i) (ej:j'=P.length+j) (h:Q (some (κ.blt (kk κ x) (kk κ y))) st):wpS (model prog w) A E s (ltAt' i' j') Q st:=by
 subst ei ej;rw[ltAt'_eq];refine wpS_bind (wpS_get ?_);exact wpS_bind (gO (xG e hi) (wpS_bind (gO (xG e hj) (vB hO hk (ka x (F9 hi)) (ka y (F9 hj)) h))))
theorem take_snoc {R:List Keyed} {n:Nat} {x:Keyed} (h:R[n]?=some x):R.take (n+1)=R.take n++ [x]:=by
 rw[List.take_succ,h]
 rfl
theorem Ey {R:List Keyed} {n:Nat} {x y:Keyed} (h1:1<=n) (hs:(R.take n).Pairwise (Lq κ)) (hy:R[n-1]?=some y) (hx:R[n]?=some x) (l:Lq κ y x):(R.take (n+1)).Pairwise (Lq κ):=by
 have e1:R.take n=R.take (n-1)++ [y]:=by
  have:=take_snoc hy
  rwa [show n-1+1=n by lia] at this
 rw[take_snoc hx,HP];refine ⟨hs,by simp,fun u hu v hv=>?_⟩
 simp at hv;rw[hv];rw[e1] at hu hs;rcases GD.mp hu with k|k
 ·exact KeyOrd.kle_trans ((HP.mp hs).2.2 u k y (by simp)) l
 ·simp at k;rw[k];exact l
theorem rN {st:SortSt} {R:List Keyed} {n0 N:Nat} (hN:N=R.length) {body:Nat->Option (Option Nat)×Nat->StateT SortSt Sem (ForInStep (Option (Option Nat)×Nat))} {Q:Option (Option Nat)×Nat->SortSt->Prop} (h1:1<=n0) (hn:n0<=R.length) (hs:(R.take n0).Pairwise (Lq κ))
  (hb:∀n x y (i:Nat) (Q':ForInStep (Option (Option Nat)×Nat)->SortSt->Prop),1<=n->R[n]?=some x->R[n-1]?=some y->(κ.blt (kk κ x) (kk κ y)=true->Q' (.done (none,n)) st)->(κ.blt (kk κ x) (kk κ y)=false->Q' (.yield (none,n+1)) st)->wpS (model prog w) A E s (body i (none,n)) Q' st)
  (h:∀n,n0<=n->n<=R.length->(R.take n).Pairwise (Lq κ)->(n=R.length∨∃x y,R[n]?=some x/\R[n-1]?=some y/\κ.blt (kk κ x) (kk κ y)=true)->Q (none,n) st):wpS (model prog w) A E s (forIn [n0:N] (none,n0) body) Q st:=by
 subst hN;refine wpS_forRange (I:=fun i c st'=>st'=st/\c=(none,i)/\n0<=i/\(R.take i).Pairwise (Lq κ)) ?_ ?_ ⟨rfl,rfl,FO _,hs⟩
 ·rintro i c st' hi1 hi2 ⟨rfl,rfl,h3,h4⟩;have ex:=F0 hi2;have ey:=F0 (show i-1<R.length by lia)
  refine hb i _ _ i _ (by lia) ex ey (fun c=>h i h3 (by lia) h4 (.inr ⟨_,_,ex,ey,c⟩)) (fun c=>⟨rfl,rfl,by lia,Ey (by lia) h4 ey ex c⟩)
 ·rintro c st' ⟨rfl,rfl,h3,h4⟩;rw[Nat.max_eq_right hn] at h3 h4⊢;exact h _ h3 (FO _) h4 (.inl rfl)
theorem iL {arr:Array Keyed} {P D S:List Keyed} (e:arr.toList=P++(D++S)):(mirror arr P.length (P.length+D.length) ((P.length+D.length-P.length)/2)).toList=P++(D.reverse++S):=by
 have sz:arr.size=P.length+(D.length+S.length):=by
  have:=congrArg List.length e
  simpa using this
 apply HE;intro k;have q:=getElem?_mirror_all (xs:=arr) (i:=P.length) (j:=P.length+D.length) (by lia) k
 have q':(mirror arr P.length (P.length+D.length) ((P.length+D.length-P.length)/2)).toList[k]?=(mirror arr P.length (P.length+D.length) ((P.length+D.length-P.length)/2))[k]?:=by simp
 have ga:∀i,arr[i]?=(P++(D++S))[i]?:=fun i=>by rw[<-e,HA]
 rw[q',q,ga,ga]
 by_cases c:P.length<=k/\k<P.length+D.length
 ·rw[if_pos c,FN (by lia),FV (by lia),FN (by lia),FV (by rw[HX];lia),List.getElem?_reverse (by lia)]
  congr 1
  lia
 ·rw[if_neg c]
  by_cases c2:k<P.length
  ·rw[FV c2,FV c2]
  ·rw[FN (by lia),FN (by lia),FN (by lia),FN (by rw[HX];lia),HX]
structure Kp (st st':SortSt):Prop where
 kind:kindOf st'=kindOf st
 failed:failedOf st'=failedOf st
 pend:pendingOf st'=pendingOf st
def NI (κ:KeyKind) (L:List Keyed) (n:Nat):Prop:=((L.map (kk κ)).take n).Pairwise fun a b=>κ.blt a b=false
theorem NI.snoc {L:List Keyed} {n:Nat} {x y:Keyed} (h1:1<=n) (h:NI κ L n) (hy:L[n-1]?=some y) (hx:L[n]?=some x) (l:κ.blt (kk κ y) (kk κ x)=false):NI κ L (n+1):=by
 have ey:(L.map (kk κ))[n-1]?=some (kk κ y):=by rw[FP,hy];rfl
 have ex:(L.map (kk κ))[n]?=some (kk κ x):=by rw[FP,hx];rfl
 unfold NI at h⊢;have e1:(L.map (kk κ)).take n=(L.map (kk κ)).take (n-1)++ [kk κ y]:=by
  have:=List.take_succ (l:=L.map (kk κ)) (i:=n-1);rw[show n-1+1=n by lia,ey] at this
  exact this
 have e2:(L.map (kk κ)).take (n+1)=(L.map (kk κ)).take n++ [kk κ x]:=by
  rw[List.take_succ,ex]
  rfl
 rw[e2,HP];refine ⟨h,by simp,fun u hu v hv=>?_⟩
 simp at hv;rw[hv];rw[e1] at hu h;rcases GD.mp hu with k|k
 ·have q:=(HP.mp h).2.2 u k (kk κ y) (by simp)
  exact KeyOrd.kle_trans (O:=κ.toKeyOrd) l q
 ·simp at k;rw[k];exact l
theorem NI.falls {L:List Keyed} {n:Nat} (h:NI κ L n):(L.take n).Pairwise (fun p q=>Lq κ q p):=by
 unfold NI at h;rw[<-List.map_take,HN] at h;exact h
def yP (κ:KeyKind) (L:List Keyed) (n m:Nat):Prop:=∃(D1 D2 S:List Keyed) (a:κ.α),L=D1++(D2++S)/\D1.length+D2.length=n/\D2.length=m+1/\∀x∈D2,kk κ x=a
theorem tO {D:List Keyed} {a:κ.α} (h:∀x∈D,kk κ x=a):D.reverse.map (kk κ)=D.map (kk κ):=by
 have e1:D.map (kk κ)=Gb D.length a:=List.eq_replicate_iff.mpr ⟨by simp,fun b hb=>by
  obtain ⟨x,hx,rfl⟩:=GI.mp hb;exact h x hx⟩
 have e2:D.reverse.map (kk κ)=Gb D.length a:=List.eq_replicate_iff.mpr ⟨by simp,fun b hb=>by
  obtain ⟨x,hx,rfl⟩:=GI.mp hb;exact h x (List.mem_reverse.mp hx)⟩
 rw[e1,e2]
theorem jD {st:SortSt} {P L:List Keyed} {n m i j:Nat} {Q:Unit->SortSt->Prop} (e:(arrOf st).toList=P++L) (q:yP κ L n m) (ei:i=P.length+n-(m+1)) (ej:j=P.length+n)
  (h:∀st' L',Kp st st'->(arrOf st').toList=P++L'->L'.Perm L->L'.map (kk κ)=L.map (kk κ)->(∀k,n<=k->L'[k]?=L[k]?)->Q () st'):wpS (model prog w) A E s (reverseSlice' i j) Q st:=by
 obtain ⟨D1,D2,S,a,rfl,l1,l2,al⟩:=q;refine wpS_reverse ?_;have er:(arrOf st).toList=(P++D1)++(D2++S):=by rw[e];simp
 have em:=iL er;have i1:i=(P++D1).length:=by rw[FQ];lia
 have j1:j=(P++D1).length+D2.length:=by rw[FQ];lia
 rw[i1,j1];refine h (setArr st (mirror (arrOf st) (P++D1).length ((P++D1).length+D2.length) (((P++D1).length+D2.length-(P++D1).length)/2))) (D1++(D2.reverse++S)) ⟨rfl,rfl,rfl⟩ ?_ ?_ ?_ fun k hk=>?_
 ·rw[<-GT];exact em
 ·exact List.Perm.append_left _ (List.Perm.append_right _ (List.reverse_perm _))
 ·simp only[GO];rw[tO al]
 ·rw[FN (by lia),FN (by rw[HX];lia),FN (by lia),FN (by lia),HX]
theorem Kp.trans {a b c:SortSt} (h1:Kp a b) (h2:Kp b c):Kp a c:=⟨h2.kind.trans h1.kind,h2.failed.trans h1.failed,h2.pend.trans h1.pend⟩
theorem mH {L:List Keyed} {n:Nat} (h:n<L.length):yP κ L (n+1) 0:=by
 refine ⟨L.take n,[L[n]],L.drop (n+1),kk κ L[n],?_,by rw[GG];simp;lia,rfl,fun x hx=>by simp at hx;rw[hx]⟩
 have:=HL h;rw[List.singleton_append,<-this,GQ]
theorem yP.more {L:List Keyed} {n m:Nat} {x y:Keyed} (h:yP κ L n m) (hy:L[n-1]?=some y) (hx:L[n]?=some x) (e:kk κ x=kk κ y):yP κ L (n+1) (m+1):=by
 obtain ⟨D1,D2,S,a,rfl,l1,l2,al⟩:=h;have my:y∈D2:=by
  rw[FN (by lia),FV (by lia)] at hy
  exact F9 hy
 rw[FN (by lia),FN (by lia)] at hx
 have z:n-D1.length-D2.length=0:=by lia
 rw[z] at hx;cases S with
 |nil=>simp at hx
 |cons s S=>
  simp at hx;subst hx;refine ⟨D1,D2++ [s],S,a,by simp,by simp;lia,by simp;lia,fun u hu=>?_⟩
  rcases GD.mp hu with k|k
  ·exact al u k
  ·simp at k;rw[k,e];exact al y my
theorem vC {st st6:SortSt} {P L R:List Keyed} {n:Nat} {f:Unit->StateT SortSt Sem (Option Nat)} {Q:Option Nat->SortSt->Prop} (kp:Kp st st6) (e:(arrOf st6).toList=P++L) (pr:L.Perm R) (hn:n<=R.length) (ni:NI κ L n)
  (h:∀st7 M,Kp st st7->(arrOf st7).toList=P++M->M.Perm R->(M.take n).Pairwise (Lq κ)->wpS (model prog w) A E s (f ()) Q st7):wpS (model prog w) A E s (reverseSlice' P.length (P.length+n)>>=f) Q st6:=by
 have tl:(L.take n).length=n:=by rw[GG,pr.length_eq];lia
 have er:(arrOf st6).toList=P++(L.take n++L.drop n):=by rw[GQ];exact e
 have em:=iL er;rw[tl] at em;refine wpS_bind (wpS_reverse (h _ ((L.take n).reverse++L.drop n) ⟨kp.kind,kp.failed,kp.pend⟩ em ?_ ?_))
 ·refine List.Perm.trans (List.Perm.append_right _ (List.reverse_perm _)) ?_;rw[GQ];exact pr
 ·rw[List.take_left' (by rw[HX,tl]),List.pairwise_reverse]
  exact ni.falls
theorem n8 (hO:BE prog w A E s κ kd) {st:SortSt} {P R:List Keyed} {Q:Option Nat->SortSt->Prop} (hk:kindOf st=kd) (ka:∀x∈R,Kd κ x) (e:(arrOf st).toList=P++R) (hR:1<=R.length)
  (h:∀st' X S,Kp st st'->(arrOf st').toList=P++(X++S)->X.Pairwise (Lq κ)->(X++S).Perm R->1<=X.length->Q (some X.length) st'):wpS (model prog w) A E s (countRun' P.length R.length) Q st:=by
 have got:∀n,1<=n->n<=R.length->(R.take n).Pairwise (Lq κ)->Q (some n) st:=fun n h1 h2 h3=>by
  have q:=h st (R.take n) (R.drop n) ⟨rfl,rfl,rfl⟩ (by rw[GQ];exact e) h3 (by rw[GQ]) (by rw[GG];lia)
  rwa [GG,Nat.min_eq_left h2] at q
 unfold countRun';refine jC ?_;try dsimp only
 refine wpS_bind (rN (κ:=κ) (R:=R) rfl (FO 1) hR ?_ (fun n x y i Q' h1 hx hy ht hf=>?_) fun n h1 h2 h3 h4=>?_)
 ·cases R with
  |nil=>simp
  |cons=>simp
 ·refine wpS_bind (gP hO hk ka e hx hy rfl (by lia) ?_)
  cases c:κ.blt (kk κ x) (kk κ y) with
  |true=>exact wpS_pure (ht c)
  |false=>exact wpS_pure (hf c)
 try dsimp only
 by_cases c1:n=R.length
 ·rw[if_pos (beq_iff_eq.mpr c1)];exact wpS_pure (got n h1 h2 h3)
 rw[if_neg (fun z=>c1 (beq_iff_eq.mp z))]
 rcases h4 with h4|⟨x,y,hx,hy,lt⟩
 ·exact absurd h4 c1
 have nl:n<R.length:=by lia
 have all:∀(i j:Nat) (u v:Keyed),i<=j->j<n->R[i]?=some u->R[j]?=some v->Lq κ u v:=fun i j u v hij hj hu hv=>by
  rcases Nat.lt_or_ge i j with c|c
  ·obtain ⟨l1,g1⟩:=FR.mp hu;obtain ⟨l2,g2⟩:=FR.mp hv;have q:=HK.mp h3 i j (by rw[GG];lia) (by rw[GG];lia) c
   rw[List.getElem_take,List.getElem_take,g1,g2] at q;exact q
  ·have:i=j:=by lia
   subst this;rw[hu] at hv;cases hv;exact KeyOrd.kle_refl _
 by_cases c2:n>1
 case' pos=>
  rw[if_pos c2];obtain ⟨x0,hx0⟩:∃x,R[0]?=some x:=⟨_,F0 (by lia)⟩
  refine wpS_bind (gP hO hk ka e hx0 hy rfl (by lia) ?_)
  try dsimp only
  cases rose:κ.blt (kk κ x0) (kk κ y) with
  |true=>exact wpS_pure (got n h1 h2 h3)
  |false=>?_
  try dsimp only
  rw[if_neg (by decide)]
  have al:∀z∈R.take n,kk κ z=kk κ x0:=fun z hz=>by
   obtain ⟨k,hk'⟩:=G4.mp hz;have kn:k<n:=by
    have:=(FR.mp hk').1;rw[GG] at this
    lia
   rw[HU kn] at hk';have a1:=all 0 k x0 z (by lia) kn hx0 hk'
   have a2:=all k (n-1) z y (by lia) (by lia) hk' hy
   exact KeyOrd.kle_antisymm (O:=κ.toKeyOrd) (KeyOrd.kle_trans (O:=κ.toKeyOrd) a2 rose) a1
  have eq0:yP κ R n (n-1):=⟨[],R.take n,R.drop n,kk κ x0,by simp,by rw[GG];simp;lia,by rw[GG];lia,al⟩
  have ni0:NI κ R n:=by
   unfold NI;rw[<-List.map_take];refine HN.mpr (List.Pairwise.imp_of_mem (R:=fun _ _=>True) (fun {u v} hu hv _=>?_) (List.pairwise_of_forall fun _ _=>trivial))
   rw[al u hu,al v hv];exact κ.irrefl _
  have ni1:NI κ R (n+1):=ni0.snoc h1 hy hx (KeyOrd.kle_of_klt lt);refine wpS_bind (jD (κ:=κ) e eq0 (by lia) rfl fun st1 L0 kp1 e1 p1 m1 _=>?_)
  have niL:NI κ L0 (n+1):=by
   unfold NI at ni1⊢;rw[m1];exact ni1
 case' neg=>
  rw[if_neg c2];have n1:n=1:=by lia
  have ni1:NI κ R (n+1):=by
   refine NI.snoc h1 ?_ hy hx (KeyOrd.kle_of_klt lt);rw[n1];unfold NI;cases R with
   |nil=>simp
   |cons=>simp
  have kp1:Kp st st:=⟨rfl,rfl,rfl⟩;have e1:=e;have p1:=List.Perm.refl R;have niL:=ni1
 all_goals
  refine wpS_bind (nZ ?_);have n2:2<=n+1:=by lia
  refine wpS_bind (wpS_mono (wpS_forRange (I:=fun i c st'=>∃L m,c=(none,i,m)/\Kp st st'/\(arrOf st').toList=P++L/\L.Perm R/\NI κ L i/\yP κ L i m/\2<=i)
   (Q:=fun c st'=>∃n' L m,c=(none,n',m)/\Kp st st'/\(arrOf st').toList=P++L/\L.Perm R/\NI κ L n'/\yP κ L n' m/\2<=n'/\n'<=R.length) ?ds ?de ⟨_,0,rfl,kp1,e1,p1,niL,?i0,n2⟩) ?dp)
  case i0=>
   exact mH (by rw[p1.length_eq];lia)
  case de=>
   rintro c st' ⟨L,m,rfl,kp,eL,pL,ni,eq,g1⟩;have:max (n+1) R.length=R.length:=by lia
   rw[this] at ni eq g1⊢;exact ⟨_,L,m,rfl,kp,eL,pL,ni,eq,g1,FO _⟩
  case ds=>
   rintro i c st' hi1 hi2 ⟨L,m,rfl,kp,eL,pL,ni,eq,g1⟩;have hi3:i<L.length:=by rw[pL.length_eq];exact hi2
   have ex:=F0 hi3;have ey:=F0 (show i-1<L.length by lia)
   have kL:∀x∈L,Kd κ x:=fun x hx=>ka x (pL.mem_iff.mp hx)
   have hk':=kp.kind.trans hk;try dsimp only
   refine wpS_bind (gP hO hk' kL eL ex ey rfl (by lia) ?_)
   try dsimp only
   cases c:κ.blt (kk κ L[i]) (kk κ L[i-1]) with
   |true=>
    rw[if_pos rfl]
    by_cases hm:m>0
    ·rw[if_pos hm];refine wpS_bind (jD (κ:=κ) eL eq rfl rfl fun st6 L6 kp6 e6 p6 m6 g6=>wpS_pure ⟨L6,0,rfl,kp.trans kp6,e6,p6.trans pL,?_,mH (by rw[p6.length_eq];lia),by lia⟩)
     have:=ni.snoc (by lia) ey ex (KeyOrd.kle_of_klt c)
     unfold NI at this⊢;rw[m6];exact this
    ·rw[if_neg hm];exact wpS_pure ⟨L,0,rfl,kp,eL,pL,ni.snoc (by lia) ey ex (KeyOrd.kle_of_klt c),mH (by lia),by lia⟩
   |false=>
    rw[if_neg (by decide)]
    refine wpS_bind (gP hO hk' kL eL ey ex (by lia) rfl ?_)
    try dsimp only
    cases c':κ.blt (kk κ L[i-1]) (kk κ L[i]) with
    |true=>exact wpS_pure ⟨i,L,m,rfl,kp,eL,pL,ni,eq,g1,by lia⟩
    |false=>exact wpS_pure ⟨L,m+1,rfl,kp,eL,pL,ni.snoc (by lia) ey ex c',eq.more ey ex (κ.total _ _ c c'),by lia⟩
  case dp=>
   rintro c st' ⟨n',L,m,rfl,kp,eL,pL,ni,eq,g1,g2⟩;try dsimp only
   by_cases hm:m>0
   case' pos=>
    rw[if_pos hm];refine wpS_bind (jD (κ:=κ) eL eq rfl rfl fun st6 L6 kp6' e6 p6' m6 g6=>?_)
    have kp6:=kp.trans kp6';have p6:=p6'.trans pL;have ni6:NI κ L6 n':=by
     unfold NI at ni⊢;rw[m6];exact ni
   case' neg=>
    rw[if_neg hm];have kp6:=kp;have e6:=eL;have p6:=pL;have ni6:=ni
   all_goals
    refine vC (κ:=κ) kp6 e6 p6 g2 ni6 fun st7 M kp7 e7 p7 s7=>?_
    have rl:=p7.length_eq;have kM:∀x∈M,Kd κ x:=fun x hx=>ka x (p7.mem_iff.mp hx)
    refine wpS_bind (rN (κ:=κ) (R:=M) rl.symm (by lia) (by lia) s7 (fun m x y i Q' h1 hx hy ht hf=>?_) fun m h1 h2 h3 _=>?_)
    ·try dsimp only
     refine wpS_bind (gP hO (kp7.kind.trans hk) kM e7 hx hy rfl (by lia) ?_)
     cases c:κ.blt (kk κ x) (kk κ y) with
     |true=>exact wpS_pure (ht c)
     |false=>exact wpS_pure (hf c)
    ·have q:=h st7 (M.take m) (M.drop m) kp7 (by rw[GQ];exact e7) h3 (by rw[GQ];exact p7) (by rw[GG];lia)
     rw[GG,Nat.min_eq_left h2] at q;exact wpS_pure q
end
theorem n9 {arr:Array Keyed} {B V W:List Keyed} {x:Keyed} (e:arr.toList=B++(V++x::W)):(bubble arr (B.length+V.length) V.length).toList=B++(x::(V++W)):=by
 have sz:arr.size=B.length+(V.length+(W.length+1)):=by
  have:=congrArg List.length e
  simpa using this
 apply HE;intro k;have q:=getElem?_bubble (xs:=arr) (src:=B.length+V.length) (by lia) V.length (by lia) k
 rw[Nat.add_sub_cancel] at q;have ga:∀i,arr[i]?=(B++(V++x::W))[i]?:=fun i=>by rw[<-e,HA]
 rw[HA,q,ga,ga,ga]
 by_cases c1:k=B.length
 ·rw[if_pos c1];subst c1;simp
 rw[if_neg c1]
 by_cases c2:B.length<k/\k<=B.length+V.length
 ·rw[if_pos c2,FN (by lia),FV (by lia),FN (by lia)]
  have:k-B.length=(k-1-B.length)+1:=by lia
  rw[this,List.getElem?_cons_succ,FV (by lia)]
 rw[if_neg c2]
 by_cases c3:k<B.length
 ·rw[FV c3,FV c3]
 ·rw[FN (by lia),FN (by lia),FN (by lia)]
  have e1:k-B.length-V.length=(k-B.length-V.length-1)+1:=by lia
  have e2:k-B.length=(k-B.length-1)+1:=by lia
  rw[e1,List.getElem?_cons_succ,e2,List.getElem?_cons_succ,FN (by lia)]
  congr 1
  lia
section
variable {prog:Program} {w:World} {A:Around} {E:K9} {s:Shared} {κ:KeyKind} {kd:SortKind}
theorem tP (hO:BE prog w A E s κ kd) {st:SortSt} {P D S:List Keyed} {ok n:Nat} {Q:Bool->SortSt->Prop} (hn:n=D.length) (hk:kindOf st=kd) (ka:∀x∈D,Kd κ x) (e:(arrOf st).toList=P++(D++S)) (h1:1<=ok) (h2:ok<=D.length) (hs:(D.take ok).Pairwise (Lq κ))
  (h:∀st' X,Kp st st'->(arrOf st').toList=P++(X++S)->X.Pairwise (Lq κ)->X.Perm D->Q true st'):wpS (model prog w) A E s (binarySort' P.length n ok) Q st:=by
 subst hn;unfold binarySort';refine jC ?_;try dsimp only
 have mx:max ok 1=ok:=by lia
 rw[mx];refine wpS_bind (wpS_mono (wpS_forRange (I:=fun k c st'=>c=(none,())/\Kp st st'/\∃X,(arrOf st').toList=P++(X++S)/\X.Perm D/\(X.take k).Pairwise (Lq κ))
  (Q:=fun c st'=>c=(none,())/\Kp st st'/\∃X,(arrOf st').toList=P++(X++S)/\X.Perm D/\X.Pairwise (Lq κ)) ?s1 ?e1 ⟨rfl,⟨rfl,rfl,rfl⟩,D,e,List.Perm.refl _,hs⟩) ?p1)
 case e1=>
  rintro c st' ⟨rfl,kp,X,eX,pX,sX⟩;rw[Nat.max_eq_right h2,Gp (by rw[pX.length_eq];exact FO _)] at sX
  exact ⟨rfl,kp,X,eX,pX,sX⟩
 case p1=>
  rintro c st' ⟨rfl,kp,X,eX,pX,sX⟩;exact wpS_pure (h st' X kp eX sX pX)
 case s1=>
  rintro k c st' hk1 hk2 ⟨rfl,kp,X,eX,pX,sX⟩;have xl:=pX.length_eq;have kaX:∀x∈X++S,x∈X->Kd κ x:=fun x _ hx=>ka x (pX.mem_iff.mp hx)
  have hkx:k<X.length:=by lia
  have ex:=F0 hkx;generalize X[k]=x at ex;have eX':(arrOf st').toList=P++X++S:=by rw[eX,GT]
  have lt:∀{i:Nat} {y:Keyed} {Q':Option Bool->SortSt->Prop},X[i]?=some y->Q' (some (κ.blt (kk κ x) (kk κ y))) st'->wpS (model prog w) A E s (ltAt' (P.length+k) (P.length+i)) Q' st':=fun {i y Q'} hy hq=>by
   have il:=(FR.mp hy).1;rw[ltAt'_eq];refine wpS_bind (wpS_get ?_);exact wpS_bind (gO (xG eX (by rw[FV hkx];exact ex)) (wpS_bind (gO (xG eX (by rw[FV il];exact hy)) (vB hO (kp.kind.trans hk) (ka x (pX.mem_iff.mp (F9 ex))) (ka y (pX.mem_iff.mp (F9 hy))) hq))))
  have mono:∀{i j:Nat} {u v:Keyed},i<=j->j<k->X[i]?=some u->X[j]?=some v->Lq κ u v:=fun {i j u v} hij hj hu hv=>by
   rcases Nat.lt_or_ge i j with c|c
   ·obtain ⟨l1,g1⟩:=FR.mp hu;obtain ⟨l2,g2⟩:=FR.mp hv;have q:=HK.mp sX i j (by rw[GG];lia) (by rw[GG];lia) c
    rw[List.getElem_take,List.getElem_take,g1,g2] at q;exact q
   ·have:i=j:=by lia
    subst this;rw[hu] at hv;cases hv;exact KeyOrd.kle_refl _
  try dsimp only
  refine wpS_bind (wpS_mono (wpS_forRange (I:=fun i c st''=>st''=st'/\∃l r,c=(none,l,r)/\l<=r/\r<=k/\(∀j u,j<l->X[j]?=some u->Lq κ u x)/\(∀j u,r<=j->j<k->X[j]?=some u->Lq κ x u)/\r-l+i<=k)
   (Q:=fun c st''=>st''=st'/\∃l,c=(none,l,l)/\l<=k/\(∀j u,j<l->X[j]?=some u->Lq κ u x)/\(∀j u,l<=j->j<k->X[j]?=some u->Lq κ x u)) ?s2 ?e2 ⟨rfl,0,k,rfl,by lia,by lia,fun j u z=>absurd z (by lia),fun j u z z'=>absurd z' (by lia),by lia⟩) ?p2)
  case e2=>
   rintro c st'' ⟨rfl,l,r,rfl,a1,a2,a3,a4,a5⟩;have:l=r:=by lia
   subst this;exact ⟨rfl,l,rfl,a2,a3,a4⟩
  case s2=>
   rintro i c st'' _ hi ⟨rfl,l,r,rfl,a1,a2,a3,a4,a5⟩;try dsimp only
   by_cases c:l≥r
   ·rw[if_pos c];have:l=r:=by lia
    subst this;exact wpS_pure ⟨rfl,l,rfl,a2,a3,a4⟩
   ·rw[if_neg c];have ml:(l+r)/2<X.length:=by lia
    have em:=F0 ml;refine wpS_bind (lt em ?_);try dsimp only
    cases cc:κ.blt (kk κ x) (kk κ X[(l+r)/2]) with
    |true=>exact wpS_pure ⟨rfl,_,_,rfl,by lia,by lia,a3,fun j u hj hj2 hu=>KeyOrd.kle_trans (KeyOrd.kle_of_klt cc) (mono hj hj2 em hu),by lia⟩
    |false=>exact wpS_pure ⟨rfl,_,_,rfl,by lia,by lia,fun j u hj hu=>KeyOrd.kle_trans (mono (show j<=(l+r)/2 by lia) (by lia) hu em) cc,a4,by lia⟩
  case p2=>
   rintro c st'' ⟨rfl,l,rfl,a2,a3,a4⟩;try dsimp only
   have eX2:X=X.take l++((X.take k).drop l++x::X.drop (k+1)):=by
    obtain ⟨l1,g1⟩:=FR.mp ex;have d1:X.drop k=x::X.drop (k+1):=by rw[HL l1,g1]
    have t1:X.take k=X.take l++(X.take k).drop l:=by
     have q:=(GQ l (X.take k)).symm;rw[List.take_take,Nat.min_eq_left a2] at q;exact q
    rw[<-d1,<-GT,<-t1,GQ]
   have lv:((X.take k).drop l).length=k-l:=by rw[Gd,GG];lia
   have lu:(X.take l).length=l:=by rw[GG];lia
   have mU:∀u∈X.take l,Lq κ u x:=fun u hu=>by
    obtain ⟨j,hj⟩:=G4.mp hu;have jl:=(FR.mp hj).1;rw[lu] at jl;rw[HU jl] at hj;exact a3 j u jl hj
   have mV:∀u∈(X.take k).drop l,Lq κ x u:=fun u hu=>by
    obtain ⟨j,hj⟩:=G4.mp hu;have jl:=(FR.mp hj).1;rw[lv] at jl;rw[Hd,HU (by lia)] at hj
    exact a4 (l+j) u (by lia) (by lia) hj
   have sUV:(X.take l++(X.take k).drop l).Pairwise (Lq κ):=by
    have q:=(GQ l (X.take k)).symm;rw[List.take_take,Nat.min_eq_left a2] at q;rw[<-q];exact sX
   generalize X.take l=U at*;generalize (X.take k).drop l=V at*;generalize X.drop (k+1)=W at*;subst eX2;have eb:(arrOf st'').toList=(P++U)++(V++x::(W++S)):=by rw[eX];simp
   have bl:=n9 eb;have l1:(P++U).length+V.length=P.length+k:=by rw[FQ];lia
   rw[l1] at bl;have l2:P.length+k-(P.length+l)=V.length:=by lia
   have sp:=HP.mp sUV;refine wpS_bind ?_;show wpS _ _ _ _ (moveDown' (P.length+k) (P.length+l)) _ _;rw[moveDown'_eq];refine wpS_modify (wpS_pure ⟨rfl,⟨kp.kind,kp.failed,kp.pend⟩,U++(x::(V++W)),?_,?_,?_⟩)
   ·show (bubble (arrOf st'') (P.length+k) (P.length+k-(P.length+l))).toList=_;rw[l2,bl];simp
   ·refine List.Perm.trans (List.Perm.append_left _ ?_) pX;exact (List.perm_middle).symm
   ·have t:U++(x::(V++W))=(U++x::V)++W:=by simp
    rw[t,List.take_left' (by simp;lia),HP,List.pairwise_cons]
    refine ⟨sp.1,⟨mV,sp.2.1⟩,fun u hu v hv=>?_⟩
    rcases F8.mp hv with c|c
    ·rw[c];exact mU u hu
    ·exact sp.2.2 u hu v c
end
end So
namespace Sw
open PySem L2 XH PySem.NumText
noncomputable def sL (z:Str):List Nat:=z.cps.toList
noncomputable def bJ (l:List Nat):Str:=⟨l.toArray⟩
theorem bB (l:List Nat):sL (bJ l)=l:=by simp[sL,bJ]
theorem vD (z:Str):bJ (sL z)=z:=by simp[sL,bJ]
theorem fK {x y:Str} (h:sL x=sL y):x=y:=by rw[<-vD x,<-vD y,h]
theorem dm (z:Str):(sL z).length=z.length:=by simp[sL,Str.length]
theorem cD (l:List Nat):(bJ l).length=l.length:=by rw[<-dm,bB]
theorem ci (x y:Str):sL (x++y)=sL x++sL y:=by
 show (x.cps++y.cps).toList=_;rw[Array.toList_append]
 rfl
theorem b4 (a b:List Nat):bJ a++bJ b=bJ (a++b):=fK (by rw[ci,bB,bB,bB])
theorem iZ (n:Nat):Str.ofString (toString ((n:Nat):Int))=bJ (dg n):=fK (by rw[bB];exact PySem.W.KIN.signs_num n)
theorem oa:Str.empty=bJ []:=rfl
theorem zN (c:Nat):(⟨#[c]⟩:Str)=bJ [c]:=rfl
theorem cV:(Str.ofString "/")=bJ [47]:=by decide
theorem fk:(Str.ofString "+")=bJ [43]:=by decide
theorem og (z:Str) (c:Nat):rF z (bJ [c])=if c∈sL z then [.str (bJ (cH c (sL z)).1),.str (bJ [c]),.str (bJ (cH c (sL z)).2)] else [.str z,.str Str.empty,.str Str.empty]:=by
 unfold rF;rcases StrLaws.occ_head z (bJ [c]) 1 (FO _) with ⟨h0,hn⟩|⟨i,r,h0,ha,hn⟩
 ·rw[h0,if_neg];intro hc;obtain ⟨i,hi⟩:=G4.mp hc;exact hn i ((StrLaws.subAt_one z c i).mpr hi)
 ·have hi:(sL z)[i]?=some c:=(StrLaws.subAt_one z c i).mp ha;have hlt:i<(sL z).length:=(FR.mp hi).1;have hc:c∈sL z:=F9 hi;have hno:c∉(sL z).take i:=by
   intro q;obtain ⟨k,hk⟩:=G4.mp q;have kl:k<i:=by
    have:=(FR.mp hk).1;rw[GG] at this
    lia
   rw[HU kl] at hk;exact hn k kl ((StrLaws.subAt_one z c k).mpr hk)
  have e:sL z=(sL z).take i++c::(sL z).drop (i+1):=by
   have:=(FR.mp hi).2;rw[<-this,List.getElem_cons_drop hlt,GQ]
  have ec:cH c (sL z)=((sL z).take i,(sL z).drop (i+1)):=by
   conv=>lhs;rw[e]
   exact eA hno
  rw[h0,if_pos hc,ec];have e1:Builtin.Str.strSub z 0 i=bJ ((sL z).take i):=fK (by
   rw[bB];show (Builtin.Str.strSub z 0 i).cps.toList=_;rw[StrLaws.strSub_toList,List.drop_zero,Nat.sub_zero]
   rfl)
  have e2:Builtin.Str.strSub z (i+(bJ [c]).length) z.length=bJ ((sL z).drop (i+1)):=fK (by
   rw[bB];show (Builtin.Str.strSub z (i+1) z.length).cps.toList=_;rw[StrLaws.strSub_toList,Gp]
   ·rfl
   ·rw[Gd];exact FO _)
  show [V.str (Builtin.Str.strSub z 0 i),V.str (bJ [c]),V.str (Builtin.Str.strSub z (i+(bJ [c]).length) z.length)]=_;rw[e1,e2]
theorem iD (z:Str) (c:Nat):(!(Builtin.Str.occurrences z (bJ [c]) 0 z.length 1).isEmpty)=decide (c∈sL z):=StrLaws.found_one z c
theorem jE (s x y:Str) (r:Ld):Str.join s (x::y::r)=x++s++Str.join s (y::r):=rfl
theorem oh (c:Nat):∀(xs ys:Ld),xs≠ []->ys≠ []->(∀x∈xs,c∉sL x)->(∀y∈ys,c∉sL y)->Str.join (bJ [c]) xs=Str.join (bJ [c]) ys->xs=ys
 | [],_,h,_,_,_,_=>absurd rfl h
 |_,[],_,h,_,_,_=>absurd rfl h
 | [x],[y],_,_,_,_,e=>by
  have e':x=y:=e;rw[e']
 | [x],y::z::r,_,_,hx,_,e=>by
  exfalso;have e':x=y++bJ [c]++Str.join (bJ [c]) (z::r):=e;refine hx x (by simp) ?_
  rw[e',ci,ci,bB];simp
 |x::z::r,[y],_,_,_,hy,e=>by
  exfalso;have e':x++bJ [c]++Str.join (bJ [c]) (z::r)=y:=e;refine hy y (by simp) ?_
  rw[<-e',ci,ci,bB];simp
 |x::x'::r,y::y'::r',_,_,hx,hy,e=>by
  rw[jE,jE] at e;have e1:=congrArg sL e;rw[ci,ci,ci,ci,bB,GT,GT] at e1;have e2:=congrArg (cH c) e1;simp only[HH,List.nil_append] at e2;rw[eA (hx x (by simp)),eA (hy y (by simp))] at e2
  injection e2 with e3 e4
  have ih:=oh c (x'::r) (y'::r') (by simp) (by simp) (fun z hz=>hx z (by simp at hz⊢;exact .inr hz)) (fun z hz=>hy z (by simp at hz⊢;exact .inr hz)) (fK e4)
  rw[fK e3,ih]
theorem om (x:Str) (c:Nat):Txt.split x (bJ [c])≠ []:=by
 unfold Txt.split
 split
 ·simp
 ·split
  ·simp
  ·rw[StrLaws.partsBetween_eq];obtain ⟨p,r,e⟩:=StrLaws.partsFrom_ne x (bJ [c]).length 0 (Builtin.Str.occurrences x (bJ [c]) 0 x.length (x.length+1));rw[e];simp
theorem eU {c:Nat} {ws:Ld} (ne:ws≠ []) (free:∀w∈ws,c∉sL w):Txt.split (Str.join (bJ [c]) ws) (bJ [c])=ws:=
 oh c _ _ (om _ c) ne (StrLaws.split_free _ c) free (StrLaws.join_split _ _)
theorem qz {c:Nat} {w:Str} (h:c∉sL w):Txt.split w (bJ [c])= [w]:=eU (ws:= [w]) (by simp) (by simpa using h)
theorem mI {c:Nat} {ws:Ld} (z:Str) (ne:ws≠ []) (free:∀w∈ws,c∉sL w):Txt.replace (Str.join (bJ [c]) ws) (bJ [c]) z=Str.join z ws:=by
 show Txt.replace (Str.join (bJ [c]) ws) ⟨#[c]⟩ z=_;rw[StrLaws.replace_one];show Str.join z (Txt.split _ (bJ [c]))=_;rw[eU ne free]
theorem fY {c:Nat} {w:Str} (z:Str) (h:c∉sL w):Txt.replace w (bJ [c]) z=w:=mI (ws:= [w]) z (by simp) (by simpa using h)
noncomputable def zO:Str:= "0123456789"
theorem rO (c:Nat):(!(Builtin.Str.occurrences zO (bJ [c]) 0 zO.length 1).isEmpty)=decide (48<=c/\c<=57):=by
 rw[iD];have e:sL zO= [48,49,50,51,52,53,54,55,56,57]:=by decide
 rw[e,decide_eq_decide];simp;omega
def qA:Sp:=fun vs H Q _=>∃z:Str,vs= [.str z]/\z.length<=1000000/\(di (sL z)=none->Q .non H)/\∀n:Nat,di (sL z)=some n->Q (.int n) H
def vE:Sp:=fun vs H Q _=>∃z:Str,vs= [.str z]/\z.length<=900000/\(c8 (sL z)=none->∀H',aA H H'->Q .non H')/\∀(n m:Nat) (p q:Int),c8 (sL z)=some (n,m)->m≠0->n<10^30->m<10^30->Fr p q n m->Pair H Q p q
def rP:Sp:=fun vs H Q _=>∃z:Str,vs= [.str z]/\z.length<=800000/\(dB (sL z)=none->∀H',aA H H'->Q .non H')/\
 ∀(n m:Nat) (p q:Int),dB (sL z)=some (n,m)->DM p q->p*m=n*q->m≠0->Bd 400 p->Bd 400 q->Pair H Q p q
def yQ (K:F5):Sp:=fun vs H Q _=>∃(t:Addr) (p q:Nat),vs= [.ref t]/\cL K 1900 H t p q/\Q (.str (bJ (c6 p q))) H
def qB (c:Addr):Sp:=fun vs H Q E=>∃z:Str,vs= [.str z]/\z.length<=800000/\(∀p q:Nat,Reads (sL z) p q->Pair H Q p q)/\((∀p q,¬Reads (sL z) p q)->∀H',aA H H'->E (.ref c) none H')
def rR:Sp:=fun vs H Q _=>∃z:Str,vs= [.str z]/\z.length<=800000/\∃p q:Nat,Reads (sL z) p q/\Pair H Q p q
theorem iE {l:List Nat} {p q p' q':Nat} (h:Reads l p q) (h':Reads l p' q'):p=p'/\q=q':=by
 have e:=(kZ h).symm.trans (kZ h');cases e;exact ⟨rfl,rfl⟩
theorem vF {c:Addr}:∀vs H Q E,rR vs H Q E->qB c vs H Q E0:=by
 rintro vs H Q E ⟨z,e,hz,p,q,r,k⟩;refine ⟨z,e,hz,fun p' q' r'=>?_,fun n=>absurd r (n p q)⟩
 obtain ⟨rfl,rfl⟩:=iE r r';exact k
theorem int_text {z:Str} (h:xE (sL z)):intText? z=some ((digitsVal (sL z):Nat):Int):=by
 refine intText_digits h.2.2.2 (fun e=>?_) ?_
 ·have:=h.1;rw[show sL z= [] from e] at this
  simp at this
 ·have:=h.2.1;rw[dm] at this
  lia
theorem vG {a b:Str} {A B:Prop} (h1:a≠b->A) (h2:a=b->B):if (!decide (V.str a=V.str b))=true then A else B:=by
 by_cases e:a=b
 ·exact nF (by rw[e]) (h2 e)
 ·exact nT (fun z=>by cases z;exact e rfl) (h1 e)
theorem zP {a b:Str} {A B:Prop} (h1:a=b->A) (h2:a≠b->B):if decide (V.str a=V.str b)=true then A else B:=by
 by_cases e:a=b
 ·exact dT (by rw[e]) (h1 e)
 ·exact dF (fun z=>by cases z;exact e rfl) (h2 e)
theorem DP {b:Bool} {A B:Prop} (h1:b=false->A) (h2:b=true->B):if (!b)=true then A else B:=by
 cases b with
 |false=>exact dh (h1 rfl)
 |true=>exact cU (h2 rfl)
theorem i3:(Str.ofString "0")=bJ [48]:=by decide
theorem lg {n:Nat} (h:n<2^1900):(n:Int).natAbs.log2<1920:=by
 rw[Int.natAbs_natCast]
 by_cases z:n=0
 ·subst z;decide
 ·exact GW ((Nat.log2_lt z).mpr h) (by decide)
theorem cE {n:Nat} (h:n<2^1900):(dg n).length<=600:=dM (k:=599) (GL h (by decide))
theorem ot (p q:Nat):(p:Int).fdiv q=((p/q:Nat):Int):=by
 rw[Int.fdiv_eq_ediv_of_nonneg _ (Int.natCast_nonneg q)]
 rfl
theorem xH (p q:Nat):(p:Int)-((p/q:Nat):Int)*(q:Int)=((p % q:Nat):Int):=by
 have h:=Nat.div_add_mod p q;have e:(((p/q:Nat):Int)*(q:Int))=((q*(p/q):Nat):Int):=by rw[Ho,HF]
 rw[e]
 lia
theorem Fg {n:Nat} {k:Nat} (h:n<2^k):Bd k (n:Int):=by
 show (n:Int).natAbs<2^k;rw[Int.natAbs_natCast];exact h
theorem Cq {n k:Nat} (h:Bd k (n:Int)):n<2^k:=by
 have h:(n:Int).natAbs<2^k:=h;rw[Int.natAbs_natCast] at h;exact h
theorem fZ {n:Nat} (h:n<10^30):Bd 100 (n:Int):=Fg (GW h (by decide))
structure Am (p q:Nat) (ns:List Nat):Prop where
 pos:0<q
 low:HC p q=1
 bp:p<2^1900
 bq:q<2^1900
 ne:ns≠ []
 spl:Txt.split (Txt.replace (bJ (c6 p q)) (bJ [43]) (bJ [47])) (bJ [47])=ns.map fun n=>bJ (dg n)
 len:(c6 p q).length<=2000
 rl:(Txt.replace (bJ (c6 p q)) (bJ [43]) (bJ [47])).length<=2000
 few:ns.length<=3
 bd:∀n∈ns,n<2^1900
 ok:(∀n∈ns,(dg n).length<=30)->Reads (c6 p q) p q
 no:∀n∈ns,30<(dg n).length->∀p' q',¬Reads (c6 p q) p' q'
theorem fL {c n:Nat} (h:c<48):c∉sL (bJ (dg n)):=by rw[bB];exact fJ h
theorem jF (w:Nat):c6 w 1=dg w:=by
 unfold c6;rw[Nat.mod_one,if_pos rfl,Nat.div_one]
theorem gx {t b:Nat} (t0:t≠0) (lt:t<b):c6 t b=dg t++47::dg b:=by
 unfold c6;rw[Nat.mod_eq_of_lt lt,if_neg t0,Nat.div_eq_of_lt lt,if_pos rfl]
theorem fm {w t b:Nat} (w0:w≠0) (t0:t≠0) (lt:t<b):c6 (w*b+t) b=dg w++43::(dg t++47::dg b):=by
 have hd:(w*b+t)/b=w:=by
  rw[Ho,Nat.mul_add_div (by lia),Nat.div_eq_of_lt lt]
  rfl
 have hm:(w*b+t) % b=t:=by rw[Ho,Nat.mul_add_mod,Nat.mod_eq_of_lt lt]
 unfold c6;rw[hm,hd,if_neg t0,if_neg w0]
theorem rS (w:Nat) {t b:Nat} (g:HC b t=1):HC (w*b+t) b=1:=by
 rw[Hq,Nat.gcd_rec];have hm:(w*b+t) % b=t % b:=by rw[Ho,Nat.mul_add_mod]
 rw[hm,<-Nat.gcd_rec];exact g
theorem Ez {w:Nat} (h:w<2^1900):Am w 1 [w] where
 pos:=by decide
 low:=Nat.gcd_one_right _
 bp:=h
 bq:=by decide
 ne:=by simp
 spl:=by rw[jF,fY _ (fL (by decide)),qz (fL (by decide))];rfl
 len:=by rw[jF];have:=cE h;lia
 rl:=by rw[jF,fY _ (fL (by decide)),cD];have:=cE h;lia
 few:=by simp
 bd:=by intro n hn;simp at hn;rw[hn];exact h
 ok:=fun k=>⟨by decide,Nat.gcd_one_right _,⟨w,1,by rw[jF,mE,eG (k w (by simp))];rfl,rfl⟩,rfl⟩
 no:=fun n hn l p' q' r=>by
  have e:n=w:=by simpa using hn
  subst e;obtain ⟨a,b,e,_⟩:=r.ex;rw[jF,mE,eS l] at e;cases e
theorem Cr {t b:Nat} (t0:t≠0) (lt:t<b) (g:HC b t=1) (h:b<2^1900):Am t b [t,b] where
 pos:=by lia
 low:=by rw[Hq];exact g
 bp:=GW lt h
 bq:=h
 ne:=by simp
 spl:=by
  rw[gx t0 lt,fY _ (by rw[bB];exact fX t b)]
  have e:bJ (dg t++47::dg b)=Str.join (bJ [47]) [bJ (dg t),bJ (dg b)]:=by
   show _=bJ (dg t)++bJ [47]++bJ (dg b);rw[b4,b4,GT]
   rfl
  rw[e,eU (by simp)]
  ·rfl
  ·intro w hw;simp at hw;rcases hw with rfl|rfl
   ·exact fL (by decide)
   ·exact fL (by decide)
 len:=by
  rw[gx t0 lt,FQ,G6];have:=cE h;have:=cE (GW lt h)
  lia
 rl:=by
  rw[gx t0 lt,fY _ (by rw[bB];exact fX t b),cD,FQ,G6]
  have:=cE h;have:=cE (GW lt h)
  lia
 few:=by simp
 bd:=by
  intro n hn;simp at hn;rcases hn with rfl|rfl
  ·exact GW lt h
  ·exact h
 ok:=fun k=>⟨by lia,by rw[Hq];exact g,⟨t,b,by rw[gx t0 lt,jA,rL (k t (by simp)) (k b (by simp)) (by lia)],rfl⟩,rfl⟩
 no:=fun n hn l p' q' r=>by
  obtain ⟨a,c,e,_⟩:=r.ex;rw[gx t0 lt,jA,eT (by
   simp at hn;rcases hn with rfl|rfl
   ·exact .inl l
   ·exact .inr l)] at e
  cases e
theorem zQ {w t b:Nat} (w0:w≠0) (t0:t≠0) (lt:t<b) (g:HC b t=1) (h:b<2^1900) (hp:w*b+t<2^1900):Am (w*b+t) b [w,t,b] where
 pos:=by lia
 low:=rS w g
 bp:=hp
 bq:=h
 ne:=by simp
 spl:=by
  have e:bJ (dg w++43::(dg t++47::dg b))=Str.join (bJ [43]) [bJ (dg w),bJ (dg t++47::dg b)]:=by
   show _=bJ (dg w)++bJ [43]++bJ (dg t++47::dg b);rw[b4,b4,GT]
   rfl
  rw[fm w0 t0 lt,e,mI _ (by simp)]
  ·have e2:Str.join (bJ [47]) [bJ (dg w),bJ (dg t++47::dg b)]=Str.join (bJ [47]) [bJ (dg w),bJ (dg t),bJ (dg b)]:=by
    show bJ (dg w)++bJ [47]++bJ (dg t++47::dg b)=bJ (dg w)++bJ [47]++(bJ (dg t)++bJ [47]++bJ (dg b));simp only[b4];simp
   rw[e2,eU (by simp)]
   ·rfl
   ·intro x hx;simp at hx;rcases hx with rfl|rfl|rfl
    ·exact fL (by decide)
    ·exact fL (by decide)
    ·exact fL (by decide)
  ·intro x hx;simp at hx;rcases hx with rfl|rfl
   ·exact fL (by decide)
   ·rw[bB];exact fX t b
 len:=by
  rw[fm w0 t0 lt,FQ,G6,FQ,G6];have:=cE h;have:=cE (GW lt h);have hw:w<2^1900:=Ge (GP (Nat.le_mul_of_pos_right w (by lia)) (Nat.le_add_right _ t)) hp
  have:=cE hw
  lia
 rl:=by
  have e:bJ (dg w++43::(dg t++47::dg b))=Str.join (bJ [43]) [bJ (dg w),bJ (dg t++47::dg b)]:=by
   show _=bJ (dg w)++bJ [43]++bJ (dg t++47::dg b);rw[b4,b4,GT]
   rfl
  have hw:w<2^1900:=Ge (GP (Nat.le_mul_of_pos_right w (by lia)) (Nat.le_add_right _ t)) hp
  have:=cE h;have:=cE (GW lt h);have:=cE hw;rw[fm w0 t0 lt,e,mI _ (by simp)]
  ·show (bJ (dg w)++bJ [47]++bJ (dg t++47::dg b)).length<=2000;rw[b4,b4,cD];simp;omega
  ·intro x hx;simp at hx;rcases hx with rfl|rfl
   ·exact fL (by decide)
   ·rw[bB];exact fX t b
 few:=by simp
 bd:=by
  intro n hn;simp at hn;have hw:w<2^1900:=Ge (GP (Nat.le_mul_of_pos_right w (by lia)) (Nat.le_add_right _ t)) hp
  rcases hn with rfl|rfl|rfl
  ·exact hw
  ·exact GW lt h
  ·exact h
 ok:=fun k=>⟨by lia,rS w g,⟨w*b+t*1,1*b,by rw[fm w0 t0 lt,iB,eG (k w (by simp)),rL (k t (by simp)) (k b (by simp)) (by lia)];rfl,by rw[Nat.one_mul,Nat.mul_one]⟩,rfl⟩
 no:=fun n hn l p' q' r=>by
  obtain ⟨a,c,e,_⟩:=r.ex;rw[fm w0 t0 lt,iB] at e;simp at hn;rcases hn with rfl|rfl|rfl
  ·rw[eS l] at e;cases e
  ·rw[eT (.inl l)] at e;cases z:di (dg w) with
   |none=>rw[z] at e;cases e
   |some=>rw[z] at e;cases e
  ·rw[eT (.inr l)] at e;cases z:di (dg w) with
   |none=>rw[z] at e;cases e
   |some=>rw[z] at e;cases e
theorem zR {xs:List V} {i:Int} (h0:0<=i) (h:i<(xs.length:Int)):∃v∈xs,fe xs i=some v:=by
 have hk:i.toNat<xs.length:=by lia
 have ek:i=((i.toNat:Nat):Int):=by lia
 refine ⟨xs[i.toNat],GU hk,?_⟩;have q:fe xs ((i.toNat:Nat):Int)=some xs[i.toNat]:=aC (F0 hk);rw[<-ek] at q;exact q
theorem xI {xs:List Nat} {i:Int} (h0:0<=i) (h:i<(xs.length:Int)):∃v,fe xs i=some v:=by
 have hk:i.toNat<xs.length:=by lia
 have ek:i=((i.toNat:Nat):Int):=by lia
 refine ⟨xs[i.toNat],?_⟩;have q:fe xs ((i.toNat:Nat):Int)=some xs[i.toNat]:=aC (F0 hk);rw[<-ek] at q;exact q
end Sw
namespace L2
open PySem PySem.Spec PyProof.Rows XH
end L2
namespace Sw
open PySem L2
noncomputable def eI:Str:= "abcdefghijklmnopqrstuvwxyz"
theorem rT {i:Int} (h0:0<=i) (h:i<26):∃c,fe eI.cps.toList i=some c:=by
 refine xI h0 ?_;have e:eI.cps.toList.length=26:=by decide
 rw[e];exact h
end Sw
namespace L2
open PySem PySem.Spec PyProof.Rows XH
end L2
namespace Sw
open PySem L2 PyProof.Rows
end Sw
namespace L2
open PySem PySem.Spec PyProof.Rows XH Sw So
end L2
namespace So
open PySem PySem.Spec PyProof.Rows
def xJ (x y:Str):Prop:=¬(y.cps.toList<x.cps.toList)
theorem tQ {x y z:Str} (h1:xJ x y) (h2:xJ y z):xJ x z:=fun h=>by
 unfold xJ at h1 h2;exact h1 (List.lt_of_le_of_lt (List.not_lt.mp h2) h)
theorem vH {x y:Str} (h1:xJ x y) (h2:xJ y x):x=y:=by
 have e:=List.le_antisymm (List.not_lt.mp h1) (List.not_lt.mp h2);cases x;cases y
 congr 1
 exact Array.toList_inj.mp e
theorem k9:∀(r:Ld) (x:Str),risingS x r=true->(x::r).Pairwise xJ
 | [],x,_=>by simp
 |y::r,x,h=>by
  unfold risingS at h;have h':ltCps y.cps.toList x.cps.toList=false/\risingS y r=true:=by
   simpa [Bool.and_eq_true] using h
  have ih:=k9 r y h'.2;have xy:xJ x y:=by
   have:=h'.1;rw[ltCps_eq] at this;exact of_decide_eq_false this
  refine List.pairwise_cons.mpr ⟨fun z hz=>?_,ih⟩
  rcases F8.mp hz with e|e
  ·rw[e];exact xy
  ·exact tQ xy ((List.pairwise_cons.mp ih).1 z e)
theorem lh {l:Ld} (h:sortedS l=true):l.Pairwise xJ:=by
 cases l with
 |nil=>simp
 |cons x r=>exact k9 r x h
theorem ou {l m:Ld} (h1:sortedS l=true) (h2:sortedS m=true) (p:l.Perm m):l=m:=
 List.Perm.eq_of_pairwise (fun a b _ _ ha hb=>vH ha hb) (lh h1) (lh h2) p
section
variable {prog:Program} {w:World} {A:Around} {E:K9} {s:Shared} {κ:KeyKind} {kd:SortKind}
theorem tR (hO:BE prog w A E s κ kd) {a0:List Keyed} {st:SortSt} {Q:Unit->SortSt->Prop} (hk:kindOf st=kd) (hf:failedOf st=none) (hp:pendingOf st= #[]) (ha:(arrOf st).toList=a0) (k0:∀x∈a0,Kd κ x) (h64:a0.length<64)
  (h:∀st',(arrOf st').toList.Perm a0->failedOf st'=none->(arrOf st').toList.Pairwise (Lq κ)->Q () st'):wpS (model prog w) A E s sortRuns' Q st:=by
 have sz:(arrOf st).size=a0.length:=by rw[<-ha];simp
 have mr:minRun' a0.length a0.length 0=a0.length:=by
  cases n:a0.length with
  |zero=>rfl
  |succ m=>
   rw[n] at h64;rw[minRun'_succ,if_pos h64,Nat.add_zero]
 unfold sortRuns';refine jC ?_;refine wpS_bind (wpS_get ?_);dsimp only;rw[sz];change wpS _ _ _ _ (_>>=_) _ _;have mr':(sortPriv% PySem.Builtin.minRun) a0.length a0.length 0=a0.length:=mr;rw[mr'];refine wpS_bind (wpS_mono (wpS_forRange (I:=fun x c st'=>(x=0/\c=(none,0)/\st'=st)∨(c=(none,a0.length)/\(arrOf st').toList.Perm a0/\failedOf st'=none/\(arrOf st').toList.Pairwise (Lq κ)/\(pendingOf st').size<=1))
  (Q:=fun c st'=>∃lo,c=(none,lo)/\(arrOf st').toList.Perm a0/\failedOf st'=none/\(arrOf st').toList.Pairwise (Lq κ)/\(pendingOf st').size<=1) ?s1 ?e1 (.inl ⟨rfl,rfl,rfl⟩)) ?p1)
 case e1=>
  rintro c st' (⟨h0,rfl,rfl⟩|⟨rfl,z⟩)
  ·have z0:a0= []:=Ha (by lia)
   refine ⟨ν,by rw[ha],hf,by rw[ha,z0];exact List.Pairwise.nil,by rw[hp];decide⟩
  ·exact ⟨ν,z⟩
 case p1=>
  rintro c st' ⟨lo,rfl,p1,p2,p3,p4⟩;try dsimp only
  refine wpS_bind (wpS_mono (wpS_forRange (I:=fun x c st''=>c=(none,())/\st''=st') (Q:=fun c st''=>c=(none,())/\st''=st') ?s4 (fun _ _ z=>z) ⟨rfl,rfl⟩) ?p4)
  case s4=>
   rintro x c st'' _ hx ⟨rfl,rfl⟩;refine wpS_bind (wpS_get ?_);rw[if_pos p4];exact wpS_pure ⟨rfl,rfl⟩
  case p4=>
   rintro c st'' ⟨rfl,rfl⟩;exact wpS_pure (h _ p1 p2 p3)
 case s1=>
  rintro x c st1 _ hx (⟨h0,rfl,rfl⟩|⟨rfl,z⟩)
  ·try dsimp only
   rw[if_neg (by lia)]
   have e0:(arrOf st1).toList= []++a0:=by simpa using ha
   refine wpS_bind (n8 hO (P:= []) (R:=a0) hk k0 e0 (by lia) fun st3 X3 S3 kp3 e3 s3 p3 l3=>?_)
   try dsimp only
   have n3:X3.length+S3.length=a0.length:=by rw[<-FQ];exact p3.length_eq
   have pe3:pendingOf st3= #[]:=kp3.pend.trans hp
   by_cases cm:X3.length<a0.length
   ·rw[if_pos cm];refine wpS_bind (nZ (wpS_bind (tP hO (P:= []) (D:=X3++S3) (S:= []) (by rw[FQ,n3];lia) (kp3.kind.trans hk) (fun x hx=>k0 x (p3.mem_iff.mp hx)) (by rw[List.append_nil];exact e3) l3 (by rw[FQ];lia) (by rw[List.take_left];exact s3) fun st4 X4 kp4 e4 s4 p4=>?_)))
    simp only[HS,Bool.false_eq_true,if_false];refine wpS_bind (wpS_get ?_);have pe4:pendingOf st4= #[]:=kp4.pend.trans pe3;have e4':(arrOf st4).toList=X4:=by simpa using e4
    split
    ·rename_i q;have q':(pendingOf st4).back?=some _:=q;rw[pe4] at q';cases q'
    ·refine wpS_bind (wpS_modify (wpS_pure (.inr ⟨?_,?_,?_,?_,?_⟩)))
     ·rw[Nat.zero_add,Nat.sub_zero,Nat.min_self]
     ·show (arrOf st4).toList.Perm a0;rw[e4'];exact p4.trans p3
     ·exact kp4.failed.trans (kp3.failed.trans hf)
     ·show (arrOf st4).toList.Pairwise (Lq κ);rw[e4'];exact s4
     ·show ((pendingOf st4).push _).size<=1;rw[pe4];exact FO 1
   ·rw[if_neg cm];refine wpS_bind (wpS_get ?_);have S0:S3= []:=Ha (by lia)
    subst S0;have e3':(arrOf st3).toList=X3:=by simpa using e3
    split
    ·rename_i q;have q':(pendingOf st3).back?=some _:=q;rw[pe3] at q';cases q'
    ·refine wpS_bind (wpS_modify (wpS_pure (.inr ⟨?_,?_,?_,?_,?_⟩)))
     ·have:X3.length=a0.length:=by simpa using n3
      rw[Nat.zero_add,this]
     ·show (arrOf st3).toList.Perm a0;rw[e3']
      simpa using p3
     ·exact kp3.failed.trans hf
     ·show (arrOf st3).toList.Pairwise (Lq κ);rw[e3'];exact s3
     ·show ((pendingOf st3).push _).size<=1;rw[pe3];exact FO 1
  ·try dsimp only
   rw[if_pos (FO _)];exact wpS_pure ⟨ν,z⟩
end
end So
namespace L2
open PySem PySem.Spec PyProof.Rows XH Sw So
noncomputable def cF (nm:Addr->Option Str):PyProof.Rows.KeyKind:={PyProof.Rows.strKind with keyOf:=fun v=>match v with| .ref a=>(nm a).map fun y=>y.cps.toList|_=>none}
theorem rV {nm:Addr->Option Str} {v:Value} {k:List Nat} (h:(cF nm).keyOf v=some k):∃a y,v= .ref a/\nm a=some y/\k=y.cps.toList:=by
 cases v with
 |ref a=>
  cases e:nm a with
  |none=>
   have h':((nm a).map fun y=>y.cps.toList)=some k:=h
   rw[e] at h';cases h'
  |some y=>
   have h':((nm a).map fun y=>y.cps.toList)=some k:=h
   rw[e] at h';cases h';exact ⟨a,y,rfl,e,rfl⟩
 |_=>cases h
structure T3 (h:Heap) (a:Addr) (y:Str) (m k:Int):Prop where
 ex:∃(o:Obj) (n:Nat) (t t1 t2:Tok),h.get? a=some o/\o.cls= .type "tuple" /\o.data= .seq #[.str y t,.int m t1,.int k t2] n
section
variable {prog:Program} {w:World} {A:Around} {E:K9} {s:Shared}
theorem xK {nm:Addr->Option Str} (inj:∀a b y,nm a=some y->nm b=some y->a=b) (tup:∀a y,nm a=some y->∃m k,T3 s.heap a y m k):BE prog w A E s (cF nm) (tuples' true):=by
 intro st x y Q hk hx hy h;obtain ⟨ka,ha⟩:=hx;obtain ⟨kb,hb⟩:=hy;have e1:kk (cF nm) x=ka:=by unfold kk;rw[ha];rfl
 have e2:kk (cF nm) y=kb:=by unfold kk;rw[hb];rfl
 rw[e1,e2] at h;obtain ⟨a,na,xa,ea,rfl⟩:=rV ha;obtain ⟨b,nb,xb,eb,rfl⟩:=rV hb;obtain ⟨m1,k1,o1,n1,t1,t2,t3,g1,c1,d1⟩:=tup a na ea;obtain ⟨m2,k2,o2,n2,u1,u2,u3,g2,c2,d2⟩:=tup b nb eb;rw[lt'_eq];refine wpS_bind (wpS_get ?_);rw[hk,xa,xb];refine wpS_bind (wpS_lift (wpAny_attempt (PySem.W.kat_lt (b:=true) g1 d1 g2 d2 ?_)))
 by_cases hab:a=b
 ·subst hab;rw[g1] at g2;cases g2;rw[d1] at d2;cases d2;refine PySem.W.kat_cons (SeqAt.EqAt.same _ _ _ _ _ (PySem.W.kat_yes ?_));refine PySem.W.kat_cons (SeqAt.EqAt.same _ _ _ _ _ (PySem.W.kat_yes ?_));refine PySem.W.kat_cons (SeqAt.EqAt.same _ _ _ _ _ (PySem.W.kat_yes ?_));refine PySem.W.kat_nil ⟨rfl,?_⟩;rw[ea] at eb;cases eb;have z:(cF nm).blt na.cps.toList na.cps.toList=false:=(cF nm).irrefl _;rw[z] at h;exact wpS_pure h
 ·have ne:na≠nb:=fun z=>hab (inj a b na ea (z▸eb))
  refine PySem.W.kat_cons ?_;have q:=SeqAt.EqAt.str_str (A:=A) (s:=s) na t1 nb u1;rw[show (na==nb)=false from beq_eq_false_iff_ne.mpr ne] at q
  refine q _ _ _ _ (PySem.W.kat_no ?_);refine strKind_oneLt prog w A _ s (.str na t1) (.str nb u1) na.cps.toList nb.cps.toList rfl rfl ⟨rfl,?_⟩;exact wpS_pure h
theorem oz {h:Heap}:∀{vs:Lf},(∀v∈vs,∃x y m k,v= .ref x/\T3 h x y m k)->∃fs:Lf,PySem.W.KatTups h vs fs/\fs.length=vs.length/\∀f∈fs,∃y t,f= .str y t
 | [],_=>⟨[],trivial,rfl,by simp⟩
 |v::vs,hv=>by
  obtain ⟨fs,k1,k2,k3⟩:=oz (vs:=vs) fun u hu=>hv u (FS _ hu)
  obtain ⟨x,y,m,k,rfl,o,n,t,t1,t2,g,c,d⟩:=hv v (by simp)
  refine ⟨.str y t::fs,⟨⟨x,o,_,n,rfl,g,c,d,rfl⟩,k1⟩,by simp[k2],fun f hf=>?_⟩
  rcases F8.mp hf with e|e
  ·exact ⟨y,t,e⟩
  ·exact k3 f e
theorem tS (M:Model) (h:Heap) (y:Str) (t:Tok):PySem.W.Looks M h (typeOf (.str y t)) (.type "str"):=PySem.W.Looks.of_pure rfl
theorem vI {a:Addr} {vs:Lf} {n:Nat} {P:Fin->Shared->Prop} {nm:Addr->Option Str} (ho:s.heap.get? a=some (seqObj "list" vs.toArray n)) (inj:∀a b y,nm a=some y->nm b=some y->a=b)
  (keys:∀v∈vs,∃x y,v= .ref x/\nm x=some y) (tup:∀x y,nm x=some y->∃m k,T3 s.heap x y m k) (nd:vs.Nodup) (hz:vs.length<=sizeLine) (h64:vs.length<64)
  (h:∀st':SortSt,(arrOf st').toList.Perm (pairsOf vs).toList->(arrOf st').toList.Pairwise (Lq (cF nm))->P (.done (.ret .none)) {s with heap:=sortedHeap s.heap a vs ((arrOf st').map (·.2))}):
  wpAny (model prog w) A (Builtin.«list.sort» ⟨[.ref a],[]⟩) P E s:=by
 rw[list_sort_plain];have ha:a<s.heap.objs.size:=Heap.lt_size ho;refine wpAny_bind (listItems_at ho rfl ?_);refine wpAny_bind (listUpdate_at ho rfl ?_);obtain ⟨e1,ho1⟩:∃e1,(s.heap.update a (Obj.mapSeq fun _=> #[])).get? a=some (seqObj "list" #[] e1):=⟨_,get?_update_seq ho (fun _=> #[])⟩
 refine wpAny_bind (seqEpoch_at ho1 rfl (wpAny_bind (wpAny_newTuple (wpAny_bind (wpAny_newList (wpAny_holding ?_))))));have ho6:(((s.heap.update a (Obj.mapSeq fun _=> #[])).push (seqObj "tuple" vs.toArray 0)).push (seqObj "list" #[] 0)).get? a=some (seqObj "list" #[] e1):=by
  rw[Heap.get?_push_ne _ _ _ (by rw[size_push',Heap.size_update];exact GJ (HR ha)),Heap.get?_push_ne _ _ _ (by rw[Heap.size_update];exact GJ ha)]
  exact ho1
 have old:∀{b:Addr} {o:Obj},b≠a->s.heap.get? b=some o->(((s.heap.update a (Obj.mapSeq fun _=> #[])).push (seqObj "tuple" vs.toArray 0)).push (seqObj "list" #[] 0)).get? b=some o:=fun {b o} hb e=>by
  have bl:=Heap.lt_size e;rw[Heap.get?_push_ne _ _ _ (by rw[size_push',Heap.size_update];exact GJ (HR bl)),Heap.get?_push_ne _ _ _ (by rw[Heap.size_update];exact GJ bl),Heap.get?_update_other _ _ (Ne.symm hb)]
  exact e
 show wpAny (model prog w) A _ P E {s with heap:=((s.heap.update a (Obj.mapSeq fun _=> #[])).push (seqObj "tuple" vs.toArray 0)).push (seqObj "list" #[] 0)}
 dsimp only;have tna:∀{x:Addr} {y:Str} {m k:Int},T3 s.heap x y m k->x≠a:=fun {x y m k} t z=>by
  obtain ⟨o,n',t1,t2,t3,g,c,d⟩:=t.ex;rw[z,ho] at g;cases g;have c':("list" :String)= "tuple" :=by injection c
  exact absurd c' (by decide)
 have fin:∀st':SortSt,(arrOf st').toList.Perm (pairsOf vs).toList->failedOf st'=none->(arrOf st').toList.Pairwise (Lq (cF nm))->P (.done (.ret .none)) {s with heap:=sortedHeap s.heap a vs ((arrOf st').map (·.2))}/\((arrOf st').map (·.2)).size<=sizeLine+1:=fun st' hp hf hs=>by
  refine ⟨h st' hp hs,?_⟩;have:=hp.length_eq;rw[Array.size_map];have e:(pairsOf vs).toList.length=vs.length:=by rw[pairsOf_toList];simp
  rw[e,HV] at this
  lia
 by_cases h2:vs.toArray.size<2
 ·rw[if_pos h2,if_pos h2];refine wpAny_bind (wpAny_pure ?_);have st0:=fin (SortSt.mk' general' (vs.toArray.zip vs.toArray) #[] 7 none) (List.Perm.refl _) rfl (by
   have:(pairsOf vs).toList.length<2:=by rw[pairsOf_toList];simp at h2⊢;exact h2
   match e:(pairsOf vs).toList,this with
   | [],_=>exact List.Pairwise.nil
   | [x],_=>exact List.pairwise_singleton _ _
   |_::_::_,l=>simp at l;lia)
  refine wpAny_bind (wpAny_pure ?_);dsimp only;refine wpAny_bind (seqEpoch_at ho6 rfl ?_);refine wpAny_bind (listUpdate_at ho6 rfl ?_ (hsz2:=st0.2));simp only[bne_self_eq_false,Bool.false_eq_true,if_false];exact wpAny_pure st0.1
 ·rw[if_neg h2,if_neg h2];have tup6:∀x y,nm x=some y->∃m k,T3 (((s.heap.update a (Obj.mapSeq fun _=> #[])).push (seqObj "tuple" vs.toArray 0)).push (seqObj "list" #[] 0)) x y m k:=fun x y hx=>by
   obtain ⟨m,k,t⟩:=tup x y hx;have na:=tna t;obtain ⟨o,n',t1,t2,t3,g,c,d⟩:=t.ex;exact ⟨m,k,o,n',t1,t2,t3,old na g,c,d⟩
  obtain ⟨fs,kt,kl,kf⟩:=oz (h:=((s.heap.update a (Obj.mapSeq fun _=> #[])).push (seqObj "tuple" vs.toArray 0)).push (seqObj "list" #[] 0)) (vs:=vs) fun v hv=>by
   obtain ⟨x,y,rfl,hx⟩:=keys v hv;obtain ⟨m,k,t⟩:=tup6 x y hx;exact ⟨x,y,m,k,rfl,t⟩
  have l2:2<=vs.length:=by simpa using h2
  refine wpAny_bind (PySem.W.kat_kind (T:= .type "str") kt (by lia) (fun v hv=>by obtain ⟨y,t,rfl⟩:=kf v hv;exact tS _ _ _ _) rfl ?_)
  refine wpAny_bind (wpAny_mono (tR (κ:=cF nm) (kd:=tuples' true) (xK inj tup6) (a0:=(pairsOf vs).toList) (st:=SortSt.mk' (tuples' true) (vs.toArray.zip vs.toArray) #[] 7 none)
   (Q:=fun _ st'=>(arrOf st').toList.Perm (pairsOf vs).toList/\failedOf st'=none/\(arrOf st').toList.Pairwise (Lq (cF nm)))
   rfl rfl rfl rfl (fun x hx=>?_) (by rw[pairsOf_toList];simpa using h64) fun st' pr fl sr=>⟨pr,fl,sr⟩) ?_ fun _ _ e=>e)
  ·rw[pairsOf_toList] at hx;have hm:x.1∈vs:=(List.of_mem_zip hx).1;obtain ⟨z,y,e,hy⟩:=keys _ hm;refine ⟨y.cps.toList,?_⟩;rw[e];show ((nm z).map fun y=>y.cps.toList)=_
   rw[hy]
   rfl
  rintro ⟨⟨⟩,st'⟩ s' ⟨rfl,hp,hf,hs⟩;have f:=fin st' hp hf hs;dsimp only;refine wpAny_bind (seqEpoch_at ho6 rfl ?_);refine wpAny_bind (listUpdate_at ho6 rfl ?_ (hsz2:=f.2));rw[hf];simp only[bne_self_eq_false,Bool.false_eq_true,if_false];exact wpAny_pure f.1
end
theorem rW:∀{as:Le} {us:Lf},aX (as.map V.ref) us->us=as.map Value.ref
 | [],_,h=>by cases h;rfl
 |a::as,_,h=>by
  cases h with
  |cons r rr=>
   have e:=rW rr;subst e;cases r
   rfl
theorem lj:∀(as:Le),aX (as.map V.ref) (as.map Value.ref)
 | []=> .nil
 |_::as=> .cons rfl (lj as)
theorem vals3 {x y z:V} {us:Lf} (h:aX [x,y,z] us):∃a b c,us= [a,b,c]/\RelV x a/\RelV y b/\RelV z c:=by
 cases h with
 |cons r1 h=>
  cases h with
  |cons r2 h=>
   cases h with
   |cons r3 h=>
    cases h;exact ⟨_,_,ν,r1,r2,r3⟩
theorem tT {α β:Type} {g:α->β} {k:β->α} (hk:∀a,k (g a)=a) {l:List β} {as:List α} (h:l.Perm (as.map g)):∃bs:List α,bs.Perm as/\l=bs.map g:=by
 refine ⟨l.map k,?_,?_⟩
 ·have:=h.map k;rw[Gy] at this;have e:as.map (k ∘ g)=as:=by
   conv=>rhs;rw[<-List.map_id as]
   exact HW fun a _=>hk a
  rw[e] at this;exact this
 ·rw[Gy]
  conv=>lhs;rw[<-List.map_id l]
  refine HW fun x hx=>?_
  obtain ⟨a,_,rfl⟩:=GI.mp (h.mem_iff.mp hx);show g a=g (k (g a));rw[hk]
theorem oA {α β:Type} (g:α->β):∀as:List α,(as.map g).zip (as.map g)=as.map fun a=>(g a,g a)
 | []=>rfl
 |a::as=>by
  have:=oA g as;simp[this]
theorem oB {prog:Program} {w:World} {A:Around} {E:K9} {s:Shared} {r:Addr} {its:Lf} {n:Nat} {R:Lf->Shared->Prop} (hr:s.heap.get? r=some (seqObj "list" its.toArray n)) (hn:its.length<=sizeLine)
  (h:∀h':Heap,s.heap.objs.size<h'.objs.size->(∀b o,s.heap.get? b=some o->h'.get? b=some o)->R its {s with heap:=h'}):wpAny (model prog w) A (collect (.ref r)) R E s:=by
 unfold collect;refine wpAny_bind (wpAny_runValue (codeAny_builtin entry_proto_collect' ?_));rw[Around.under_plainId PySem.F.plain_proto_collect _];show wpAny _ A.in1 (newList []>>=fun l=>again (.builtin "list.__iadd__" ⟨[l,.ref r],[]⟩)) _ _ s
 refine wpAny_bind (wpAny_newObj_type (wpAny_pure ⟨plainId_quiet PySem.F.plain_list_iadd _,codeAny_builtin entry_list_iadd' ?_⟩));rw[Around.under_plainId PySem.F.plain_list_iadd _];have fresh:(s.heap.push {cls:= .type "list",data:= .seq ([]:Lf).toArray}).get? s.heap.objs.size=some {cls:= .type "list",data:= .seq #[]}:=Heap.get?_push_size _ rfl;show wpAny _ A.in1 (Builtin.List.listExtendWith (.ref s.heap.objs.size) (.ref r) (.ref s.heap.objs.size)) _ _ _;have key:=wpAny_extend_seq (A:=A) (s:={s with heap:=s.heap.push {cls:= .type "list",data:= .seq ([]:Lf).toArray}}) (prog:=prog) (w:=w)
  (R:=fun (q:Result) (s':Shared)=>q= .ok (.ret (.ref s.heap.objs.size))/\s'={s with heap:=(s.heap.push {cls:= .type "list",data:= .seq ([]:Lf).toArray}).update s.heap.objs.size (Obj.mapSeq (· ++its.toArray))})
  s.heap.objs.size r (.ref s.heap.objs.size) 0 (.inl rfl) fresh (Heap.get?_push_of_some _ hr) rfl rfl ⟨rfl,rfl⟩ (by simpa using hn)
 have at_:=Heap.get?_update_self (Obj.mapSeq (· ++its.toArray)) fresh rfl;have fin:R its {s with heap:=(s.heap.push {cls:= .type "list",data:= .seq ([]:Lf).toArray}).update s.heap.objs.size (Obj.mapSeq (· ++its.toArray))}:=by
  refine h _ (by rw[Heap.size_update,Heap.size_push];exact Nat.lt_succ_self _) fun b o e=>?_
  exact (Heap.get?_update_other _ _ (HG (Heap.lt_size e))).trans (Heap.get?_push_of_some _ e)
 have ei:((#[]:Array Value)++its.toArray).toList=its:=by simp
 have fin':R ((#[]:Array Value)++its.toArray).toList {s with heap:=(s.heap.push {cls:= .type "list",data:= .seq ([]:Lf).toArray}).update s.heap.objs.size (Obj.mapSeq (· ++its.toArray))}:=by rw[ei];exact fin
 refine wpAny_mono key (fun f s' x=>?_) fun e s' x=>?_
 ·cases f with
  |done f=>
   obtain ⟨e,rfl⟩:=x;cases e;show wpAny _ A (load s.heap.objs.size>>=_) _ _ _;exact wpAny_bind (wpAny_load at_ (wpAny_pure fin'))
  |again c₁=>
   refine ⟨x.1,codeAny_mono x.2 fun q s₂ y=>?_⟩
   obtain ⟨rfl,rfl⟩:=y;show wpAny _ A (load s.heap.objs.size>>=_) _ _ _;exact wpAny_bind (wpAny_load at_ (wpAny_pure fin'))
 ·exact absurd x.1 (by simp)
theorem jG {X:Cx}:c7 X (.builtin "sorted") (fun xs H Q=>∃(l:Addr) (as:Le) (f:Addr->Str),xs= [.ref l]/\H l=some (.lst (as.map V.ref))/\(∀a∈as,∃m k:Int,H a=some (.tup [.str (f a),.int m,.int k]))/\(as.map f).Nodup/\as.length<64/\
  ∀(p:Addr) (bs:Le),H p=none->bs.Perm as->sortedS (bs.map f)=true->Q (.ref p) (aL H p (.lst (bs.map V.ref)))):=by
 intro pins s σ H xs us Q I r h;obtain ⟨l,as,f,rfl,hl,ht,nd,h64,q⟩:=h;obtain ⟨u,rfl,ru⟩:=vals1 r;cases ru;obtain ⟨z,its,n,rv,hlen,hg⟩:=I.lstM hl;have ei:=rW rv;subst ei;have z':as.length<=sizeLine:=by simpa using z
 refine Calls.call_function_entry kind_sorted plain_sorted entry_sorted (args_sorted1 _) ?_;unfold Builtin.«sorted»;refine wpAny_bind (m:=checkCount "sorted" 1 1 _) (wpAny_pure ?_);refine wpAny_bind (oB hg (by simpa using z') fun h' hlt hk=>?_)
 refine wpAny_bind (wpAny_newList ?_ (by simpa using z'))
 have hoL:(h'.push (seqObj "list" (as.map Value.ref).toArray 0)).get? h'.objs.size=some (seqObj "list" (as.map Value.ref).toArray 0):=Heap.get?_push_size _ rfl;have injf:∀a∈as,∀b∈as,f a=f b->a=b:=fun a ha b hb e=>by
  obtain ⟨i,hi⟩:=G4.mp ha;obtain ⟨j,hj⟩:=G4.mp hb;have il:=(FR.mp hi).1;have jl:=(FR.mp hj).1;have e1:(as.map f)[i]?=some (f a):=by rw[FP,hi];rfl
  have e2:(as.map f)[j]?=some (f a):=by rw[FP,hj,e];rfl
  have ij:=(List.getElem?_inj (by rw[F6];exact il) nd).mp (e1.trans e2.symm)
  rw[ij,hj] at hi;exact (GK hi).symm
 have nda:as.Nodup:=(HN.mp nd).imp fun h e=>h (by rw[e])
 have ndv:(as.map Value.ref).Nodup:=HN.mpr (nda.imp fun h e=>h (by injection e))
 let nm:Addr->Option Str:=fun a=>if a∈as then some (f a) else none
 have nm_of:∀{a:Addr} {y:Str},nm a=some y->a∈as/\f a=y:=fun {a y} e=>by
  by_cases m:a∈as
  ·have e':(if a∈as then some (f a) else none)=some y:=e
   rw[if_pos m] at e';exact ⟨m,GK e'⟩
  ·have e':(if a∈as then some (f a) else none)=some y:=e
   rw[if_neg m] at e';cases e'
 have nm_in:∀{a:Addr},a∈as->nm a=some (f a):=fun {a} m=>by
  show (if a∈as then some (f a) else none)=_
  rw[if_pos m]
 have inj:∀a b y,nm a=some y->nm b=some y->a=b:=fun a b y h1 h2=>injf a (nm_of h1).1 b (nm_of h2).1 ((nm_of h1).2.trans (nm_of h2).2.symm)
 have tup:∀x y,nm x=some y->∃m k,T3 (h'.push (seqObj "list" (as.map Value.ref).toArray 0)) x y m k:=fun x y hx=>by
  obtain ⟨m,k,e⟩:=ht x (nm_of hx).1;rw[(nm_of hx).2] at e;obtain ⟨its,rv,⟨o,e1,c1,n1,d1⟩,_⟩:=I.tuple (bi.of e);obtain ⟨a1,a2,a3,rfl,⟨t1,rfl⟩,⟨t2,rfl⟩,⟨t3,rfl⟩⟩:=vals3 rv;exact ⟨m,k,o,n1,t1,t2,t3,Heap.get?_push_of_some _ (hk _ _ e1),c1,d1⟩
 refine wpAny_bind (wpAny_holding (wpAny_call_entry slot_list_sort ⟨_,hoL,rfl⟩ entry_list_sort (vI (nm:=nm) hoL inj (fun v hv=>?_) tup ndv (by simpa using z') (by simpa using h64) fun st' hp hs=>⟨ν,?_⟩) (args_list_sort _)))
 ·obtain ⟨a,ha,rfl⟩:=GI.mp hv;exact ⟨a,f a,rfl,nm_in ha⟩
 have ez:(pairsOf (as.map Value.ref)).toList=as.map (fun a=>((.ref a:Value),(.ref a:Value))):=by
  rw[pairsOf_toList];exact oA Value.ref as
 rw[ez] at hp;obtain ⟨bs,hb,eb⟩:=tT (k:=fun p:Keyed=>match p.1 with| .ref a=>a|_=>0) (fun a=>rfl) hp
 have so:sortedS (bs.map f)=true:=by
  refine sortedS_of_pairwise _ (HN.mpr ?_);rw[eb,HN] at hs;refine List.Pairwise.imp_of_mem (fun {a b} ha hb' hab=>?_) hs
  have ma:=hb.mem_iff.mp ha;have mb:=hb.mem_iff.mp hb';have k1:kk (cF nm) ((.ref a:Value),(.ref a:Value))=(f a).cps.toList:=by
   show (((nm a).map fun y=>y.cps.toList).getD _)=_
   rw[nm_in ma]
   rfl
  have k2:kk (cF nm) ((.ref b:Value),(.ref b:Value))=(f b).cps.toList:=by
   show (((nm b).map fun y=>y.cps.toList).getD _)=_
   rw[nm_in mb]
   rfl
  have hab':(cF nm).blt (kk (cF nm) ((.ref b:Value),(.ref b:Value))) (kk (cF nm) ((.ref a:Value),(.ref a:Value)))=false:=hab;rw[k1,k2] at hab';rw[ltCps_eq];exact hab'
 have eo:((arrOf st').map (·.2))=(bs.map Value.ref).toArray:=by
  apply Array.toList_inj.mp;rw[Array.toList_map,eb,Gy];simp
 have sl:s.heap.objs.size<=h'.objs.size:=He hlt;refine wpAny_pure ⟨ν,.ref h'.objs.size,_,I.laid (a:=h'.objs.size) (o:= .lst (bs.map V.ref)) (h':=sortedHeap (h'.push (seqObj "list" (as.map Value.ref).toArray 0)) h'.objs.size (as.map Value.ref) ((arrOf st').map (·.2))) (t':=s.toks) (fun b o eo=>?_) sl ?_,rfl,q _ bs (I.hok.fresh sl) hb so⟩
 ·have eo':=hk b o eo;have bl:=Heap.lt_size eo';rw[sortedHeap_old (GJ bl) (by rw[size_push'];exact HR bl)]
  exact Heap.get?_push_of_some _ eo'
 ·obtain ⟨e,he⟩:=sortedHeap_at (out:=(arrOf st').map (·.2)) hoL;refine ⟨by rw[F6,hb.length_eq];exact z',bs.map Value.ref,e,lj bs,?_⟩
  rw[<-eo];exact he
end L2
namespace Hm
open PySem PySem.SeqAt PySem.MeetsSeq
end Hm
namespace L2
open PySem PySem.Spec PyProof.Rows XH Sw So Hm
section
variable {X:Cx} {scope:Scope} {cl:List (Str×Addr)} {own:Str} {ys:Ld} {js:List Nat} {elt iter:Expr} {px pos:Pos} {wi:TI} {te:TE}
theorem jH {i:Nat} {y:Str} {py spos:Pos} (hN:X.N.Nodup) (hi':X.N[i]?=some y) (hy:X.env.scope.names.lookup y=some .local) (hc:X.calm=true) (ok:ms X scope cl own ys js) (hi:PI X (.Name own px) iter wi)
  (he:∀(C:Addr) (fp:Le) (s:Shared) (H:Hp),PE (X.block scope cl C (own::ys) own fp s H) elt te)
  (hsw:swapsWith (.ListComp elt [⟨.Name own px,iter,[],0⟩] scope pos) (some (.Name y py)) spos.line X.env=pure true:=by rfl) (hs:∀x,foldedSetIterable iter X.env x=pure x:=by intro _;rfl):
  PS X (.Assign [.Name y py] (.ListComp elt [⟨.Name own px,iter,[],0⟩] scope pos) spos) (tm (yM wi js te) (bM i)):=by
 intro pins s σ H D I h;have ncell:∀y∈scope.names,y.2≠ .cell:=fun y hy z=>by
  have q:=Gn.mp ok.nocell y hy;rw[z] at q;simp at q
 have nloc:∀y∈scope.names,y.2= .local->scope.names.lookup y.1=some .local:=fun y hy z=>by
  have q:=Gn.mp ok.loc y hy;rw[z] at q
  simpa using q
 show wpAny _ _ (exec _ X.env) _ _ _;rw[exec_Assign_Name_used _ _ _ _ hsw];refine wpAny_bind (wpAny_standAt (wpAny_bind ?_));show wpAny _ X.A (do let _<-comprehension (.ListComp elt [⟨.Name own px,iter,[],0⟩] scope pos) scope X.env _ (newList []) false (eval iter X.env) (some (assign (.Name y py) X.env))) _ _ s
 refine wpAny_bind (wpAny_mono (wpAny_comprehension_free (use:=some (assign (.Name y py) X.env)) (Q:=fun _ s'=>SP X pins D .next s') rfl hs ok.clos ok.kind nloc (bV (hi pins s σ H _ I h) fun v s1 h1=>bV h1 fun itv s2 h2=>?_)) (fun _ s' hq=>wpAny_pure (wpAny_pure hq)) fun _ _ e=>e)
 obtain ⟨it,fp,tn,J,H2,rfl,I2,T,st2,f2,q2⟩:=h2;obtain ⟨W,⟨m0,w0⟩,turn⟩:=q2 s2.heap.objs.size (I2.hok.fresh (FO _));refine wpAny_newObj_type (wpAny_newFunctionEnv ncell (by intro y hy;simp at hy) (fun h1 hns hsb=>?_) ok.kind)
 have I3:=I2.laid (a:=s2.heap.objs.size) (o:= .lst []) (h':=s2.heap.push {cls:= .type "list",dict:=none,data:= .seq ([]:Lf).toArray}) (t':=s2.toks) (fun b u q=>Heap.get?_push_of_some _ q) (FO _)
  ⟨Gi _,[],0,.nil,Heap.get?_push_size _ rfl⟩
 have fpo:∀b∈fp,b<s2.heap.objs.size:=fun b hb=>by
  obtain ⟨o,e,_⟩:=T.obj 0 _ st2 b hb;exact Heap.lt_size e
 have f3:∀b∈fp,eR X pins (aL H2 s2.heap.objs.size (.lst [])) b:=fun b hb=>⟨by rw[av (GJ (fpo b hb))];exact (f2 b hb).1,(f2 b hb).2⟩
 generalize hs3:({s2 with heap:=s2.heap.push {cls:= .type "list",dict:=none,data:= .seq ([]:Lf).toArray},toks:=s2.toks}:Shared)=s3 at I3
 have e3:s3.heap=s2.heap.push {cls:= .type "list",dict:=none,data:= .seq ([]:Lf).toArray}:=by rw[<-hs3]
 have lt3:∀b∈fp,b<s3.heap.objs.size:=fun b hb=>by rw[e3,Heap.size_push];exact HR (fpo b hb)
 dsimp only at hns hsb⊢;rw[<-e3] at hns hsb;have hk:∀b o,s3.heap.get? b=some o->h1.get? b=some o:=fun b o e=>hsb.extBut b o (GJ (Heap.lt_size e)) (Heap.get?_push_of_some _ e)
 have J0:=iK (h1:=h1) ok I3 f3 lt3 hns hk (s2.toks+0);have t0:tn 0 h1:=T.keep 0 _ _ st2 fun b hb o e=>hk b o (by rw[e3];exact Heap.get?_push_of_some _ e)
 have fpB:∀{H':Hp},(∀b∈fp,H' b=none)->∀b∈fp,eR (X.block scope cl s3.heap.objs.size (own::ys) own fp s3 (aL H2 s2.heap.objs.size (.lst []))) [] H' b:=fun {H'} hn b hb=>
  ⟨hn b hb,GJ (lt3 b hb),fun z=>(F8.mp (I3.stkSub b z)).elim (f3 b hb).2.1 (f3 b hb).2.2.1,.inl hb,fun x c e=>(f3 b hb).2.2.2.2.1 x c (ok.sub (x,c) (Gc e)),fun p hp=>absurd (show p∈([]:Lb) from hp) (by simp)⟩
 have loop:codeAny (model X.prog X.w) X.A (.compLoop (.ListComp elt [⟨.Name own px,iter,[],0⟩] scope pos) 0 (.ref it) (.ref s2.heap.objs.size) (compEnvC scope cl s3.heap.objs.size X.env))
   (compPost (model X.prog X.w) X.A X.xe (some (assign (.Name y py) X.env)) (fun _ s'=>SP X pins D .next s') (.ref s2.heap.objs.size) s3.heap.objs.size) {s3 with heap:=h1,toks:=s2.toks+0}:=by
  refine dY (fun n s'=>∃i zs o0 H',aM (X.block scope cl s3.heap.objs.size (own::ys) own fp s3 (aL H2 s2.heap.objs.size (.lst []))) [] (o0::bw js σ) H' s'/\tn i s'.heap/\(∀b∈fp,H' b=none)/\W i n zs H') ?_ m0
   ⟨0,[],none,_,J0,t0,fun b hb=>(f3 b hb).1,w0⟩
  rintro n s5 ⟨i,zs,o0,H5,I5,t5,n5,w5⟩;obtain ⟨hD,hw⟩:=turn i n zs H5 w5;rcases hw with ⟨stop,qn⟩|⟨go,hz,step⟩
  ·refine bV (T.done (X.block scope cl s3.heap.objs.size (own::ys) own fp s3 (aL H2 s2.heap.objs.size (.lst []))) rfl rfl rfl hc i [] s5 _ H5 (fun _ _=>False) I5 (fpB n5) t5 stop) fun r s6 ⟨hr,I6⟩=>?_
   subst hr;obtain ⟨m,hn,_⟩:=id I6.loc;have J:aM X pins σ H5 s6:=kW (h':=s6.heap) I3 f3 I6 (Heap.SameBut.refl _ _);have fC:=I3.fpOk (FO _) (show H5 s3.heap.objs.size=none from I6.free)
   obtain ⟨k0,k1,k2,k3,k4,k5⟩:=fC;show wpAny _ X.A (assign (.Name y py) X.env (.ref s2.heap.objs.size)) _ _ _;refine wpAny_assign_Name (io (v:= .ref s2.heap.objs.size) J hN hi' (.inl hy) rfl (fun s7 I7 hsb=>?_) (.inr hy))
   obtain ⟨a',sb,ha⟩:=hsb;have ne:s3.heap.objs.size≠a':=by
    rcases ha with z|z
    ·rw[z];exact k1
    ·exact fun w=>k4 _ _ z w.symm
   exact ⟨m,hn.sameBut sb ne,fun h' hs'=>⟨_,H5,I7.turned (t':=s7.toks) (fun b o hb e=>(hs'.2 b hb).trans e) k0 k1 k3 k4 k5,qn⟩⟩
  ·refine bV (T.item (X.block scope cl s3.heap.objs.size (own::ys) own fp s3 (aL H2 s2.heap.objs.size (.lst []))) rfl rfl rfl hc i [] s5 _ H5 (fun _ _=>False) I5 (fpB n5) t5 go) fun r s6 ⟨u,hr,h6⟩=>?_
   subst hr;refine bV h6 fun _ s7 ⟨x,H7,I7,r7,y7,t7,n7⟩=>?_
   have I7':=I7.pinned (fpB n7) (T.obj _ _ t7);have hst:=step x H7 y7;have own':(relabel scope X.env).names.lookup own=some .local:=lookup_relabel_local ok.ownL;refine bV (iX (X:=X.block scope cl s3.heap.objs.size (own::ys) own fp s3 (aL H2 s2.heap.objs.size (.lst []))) (i:=0) (x:=own) (pos:=px) ok.nd rfl (.inl own') (.inr own') _ s7 _ H7 x u (fun σ' H'=>σ'=some x::bw js σ/\H'=H7) I7' r7 ⟨rfl,rfl⟩) fun _ s8 ⟨σ8,H8,I8,e8,eH8⟩=>?_
   subst e8 eH8;refine bV (he _ _ _ _ _ s8 _ H8 _ I8 hst) fun yv s9 ⟨y,H9,I9,r9,hD9,m',hm,w9⟩=>?_
   refine bV (aS _ s9 _ H9 (.ref s2.heap.objs.size) [y] (.ref s2.heap.objs.size) [yv] (fun _ H'=>H'=aL H9 s2.heap.objs.size (.lst (zs++ [y]))) I9 rfl (.cons r9 .nil) ⟨_,zs,y,rfl,rfl,hD9,hz,rfl⟩) fun _ s10 ⟨_,H10,I10,_,e10⟩=>?_
   subst e10;refine ⟨m',hm,i+1,zs++ [y],some x,_,I10.unpinned,T.keep _ _ _ t7 fun b hb o e=>(I10.pin (b,o) (FU _ (FU _ (cf hb e)))).1,fun b hb=>?_,w9⟩
   obtain ⟨o,e,d⟩:=T.obj _ _ t7 b hb;exact (I10.pin (b,o) (FU _ (FU _ (cf hb e)))).2.1
 subst hs3;exact codeAny_compStart_list loop (T.self _ 0 _ _ _ t0 loop)
end
variable {X:Cx}
theorem oC:∀{ws:Ld} {us:Lf},aX (ws.map V.str) us->StrsAre us ws
 | [],_,h=>by cases h;exact .nil
 |w::ws,_,h=>by
  cases h with
  |cons r rr=>
   obtain ⟨t,rfl⟩:=r;exact .cons _ _ (oC rr)
theorem i4:BB X "str.join" (fun x vs H Q=>∃z a ws,x= .str z/\vs= [.ref a]/\aO X.K H a (ws.map V.str)/\z.length<=16/\(ws.map (fun x=>x.length)).sum+ws.length<=1048576/\Q (.str (Txt.join z ws)) H):=by
 intro pins s σ H x vs v us Q I rx rv h;obtain ⟨z,a,ws,rfl,rfl,hS,hz,hl,q⟩:=h;obtain ⟨t,rfl⟩:=rx;obtain ⟨u,rfl,ru⟩:=vals1 rv;cases ru;obtain ⟨its,r,p,_⟩:=I.list hS;exact join_listW p.isList (by simpa using oC r) hz hl fun t' k=>⟨.str _,H,I.tok _,⟨ν⟩,q⟩
theorem vJ {K:F5} {a:Addr} {xs:List V} {js:List Nat} {te:TE} {σ:L2.St} {H1:Hp} {Q:VK} (P:V->V->Prop) (hS:aO K H1 a xs) (hz:xs.length<=sizeLine)
  (step:∀x∈xs,∀H3,aA H1 H3->∀Q':VK,(∀y H4,P x y->aA H3 H4->Q' y H4)->te (some x::bw js σ) H3 Q')
  (fin:∀(p:Addr) (ys:List V) (H':Hp),H1 p=none->ys.length=xs.length->(∀(i:Nat) (x y:V),xs[i]?=some x->ys[i]?=some y->P x y)->aA H1 H'->H' p=some (.lst ys)->Q (.ref p) H'):nU js te σ Q (wU K a) H1:=by
 intro p hp;refine ⟨fun i m ys H2=>i<=xs.length/\m=xs.length-i/\ys.length=i/\(∀(i:Nat) (x y:V),xs[i]?=some x->ys[i]?=some y->P x y)/\aA H1 H2/\H2 p=some (.lst ys),⟨xs.length,Gi _,rfl,rfl,fun j x y _ e=>by simp at e,Sw.aj hp _,ah⟩,?_⟩
 rintro i m ys H2 ⟨hi,rfl,hl,hP,g,e⟩;refine ⟨e,?_⟩;have S2:=g.seq hS
 by_cases hin:i<xs.length
 ·refine .inr ⟨⟨xs,xs[i],S2,F0 hin⟩,by lia,fun x H3 hy=>?_⟩
  obtain ⟨rfl,hx⟩:=hy;have ex:=hx xs S2;refine step x (F9 ex) H3 g _ fun y H4 py g4=>⟨g4 _ _ e,xs.length-(i+1),by lia,hin,rfl,by simp[hl],fun j x' y' e1 e2=>?_,Sw.fH (g.trans g4) hp _,ah⟩
  by_cases hj:j<ys.length
  ·rw[FV hj] at e2;exact hP j x' y' e1 e2
  ·have ej:j=i:=by
    have:=(FR.mp e2).1;simp at this
    lia
   subst ej;rw[FN (by lia),hl] at e2
   simp at e2;subst e2;rw[ex] at e1;cases e1;exact py
 ·have e2:i=xs.length:=by lia
  subst e2;exact .inl ⟨⟨xs,S2,FO _⟩,fin p ys H2 hp hl hP g e⟩
end L2
namespace Sw
open PySem L2 XH PySem.NumText
theorem oE (sep:Str) (ws:Ld):(Txt.join sep ws).length=(ws.map (fun x=>x.length)).sum+(ws.length-1)*sep.length:=PySem.size_glued sep ws
def rX:Sp:=fun vs H Q _=>∃z:Str,vs= [.str z]/\z.length<=1000/\(Str.empty∈Txt.split z (bJ [32])->∀H',aA H H'->Q .non H')/\(Str.empty∉Txt.split z (bJ [32])->∀(l:Addr) (H':Hp),aA H H'->H' l=some (.lst ((Txt.split z (bJ [32])).map V.str))->Q (.ref l) H')
def rY:Sp:=fun vs H Q _=>∃(z:Str) (lo hi:Int),vs= [.str z,.int lo,.int hi]/\z.length<=1000000/\(di (sL z)=none->Q .non H)/\∀n:Nat,di (sL z)=some n->Q (if (n:Int)<lo∨hi<(n:Int) then .non else .int n) H
theorem xL (x:Str) (gs:Ld):BC (.str x) (gs.map V.str)=decide (x∈gs):=by
 unfold BC;rw[Bool.eq_iff_iff];simp[xj]
theorem ll (gs:Ld):(gs.map V.str).all gJ=true:=by
 rw[Gn];intro x hx;obtain ⟨g,_,rfl⟩:=GI.mp hx
 rfl
theorem BF {x:Str} {gs:Ld} {A B:Prop} (h1:x∈gs->A) (h2:x∉gs->B):if (if false=true then !BC (.str x) (gs.map V.str) else BC (.str x) (gs.map V.str))=true then A else B:=by
 rw[if_neg (by decide:¬false=true),xL]
 exact d2 h1 h2
theorem DQ {v:V} {Q:V->Prop} (q:Q (.bl true)):Q (.bl (decide (v=v))):=by rw[decide_eq_true rfl];exact q
end Sw
namespace L2
open PySem PySem.Spec PyProof.Rows XH Sw So Hm
theorem vK {X:Cx} (hu:X.A.units<cLine):ik X (compareOp .NotEq) (fun x y H Q=>∃a b zs,x= .ref a/\y= .ref b/\aO X.K H a zs/\aO X.K H b []/\Q (.bl (!zs.isEmpty)) H):=by
 intro pins s σ H x y v u Q I rx ry h;obtain ⟨a,b,zs,rfl,rfl,h1,h2,hq⟩:=h;cases rx;cases ry;obtain ⟨i1,r1,p1,_⟩:=I.list h1;obtain ⟨i2,r2,p2,_⟩:=I.list h2;cases r2;cases zs with
 |nil=>
  cases r1;refine SeqAt.RcNeAt.lists (e:=fun _=>true) p1.isList p2.isList rfl hu (fun j g1 g2=>absurd g1 (by simp)) _ _ _ _ ?_
  exact ⟨.bl false,H,I,by show Value.bool _=Value.bool _;simp,hq⟩
 |cons z zs=>
  cases r1 with
  |cons r rr=>
   refine SeqAt.RcNeAt.lists_lengths p1.isList p2.isList (by simp) hu _ _ _ _ ?_
   exact ⟨.bl true,H,I,rfl,hq⟩
theorem vL {xs:List V} {c:Nat} (h:c<=xs.length):fG xs (some (c:Int)) none=xs.drop c:=by
 have e1:HT.eJ xs.length 0 (some (c:Int))=c:=by
  show (if (c:Int)<0 then ((c:Int)+(xs.length:Int)).toNat else min (c:Int).toNat xs.length)=c
  rw[if_neg (by lia)]
  lia
 have e2:HT.eJ xs.length xs.length none=xs.length:=rfl;unfold fG;rw[e1,e2,Gp (by rw[Gd];lia)]
end L2
namespace Sw
open PySem L2 XH Hm
end Sw
namespace L2
open PySem PySem.Spec PyProof.Rows XH Sw Hm
end L2
namespace Sw
open PySem L2 XH Hm
end Sw
namespace L2
open PySem PySem.Spec PyProof.Rows XH
theorem rZ {X:Cx} {K:F5} (h:X.K=K):uR X (xh K):=by
 subst h;exact bj
end L2
namespace Sw
open PySem L2 XH Hm
end Sw
namespace L2
open PySem PySem.Spec PyProof.Rows XH
abbrev Cx.blockT (X:Cx) (scope:Scope) (cl:List (Str×Addr)) (C:Addr) (N:Ld) (os:Ld) (fp:Le) (s:Shared) (H:Hp):Cx:=
 {X with env:=compEnvC scope cl C X.env,N:=N,s₀:=s,H₀:=H,outer:=X.stack,stack:=X.stack,ex:=fp,fn:=fun y=>os.contains y,pn:= [],xe:=fun _ _=>False}
structure i7 (X:Cx) (scope:Scope) (cl:List (Str×Addr)) (os:Ld) (ys:Ld) (js:List Nat):Prop where
 clos:closureFor scope X.env=pure cl
 nocell:(scope.names.all fun p=> !(p.2== .cell))=true
 kind:scope.kind= .function
 loc:(scope.names.all fun p=> !(p.2== .local)||scope.names.lookup p.1==some .local)=true
 sub:∀p∈cl,X.env.cells.lookup p.1=some p.2
 has:((relabel scope X.env).names.all fun p=> !(p.2== .cell||p.2== .free)||(cl.lookup p.1).isSome)=true
 noown:∀x∈os,cl.lookup x=none
 at_:Sw.iy X scope ys js
 len:js.length=ys.length
def vM (n:Nat) (g:TG) (js:List Nat) (te:TE) (σ:St) (Q:VK):It->Hp->Prop:=fun J H1=>∀p,H1 p=none->∃W:Nat->Nat->List V->Hp->Prop,(∃m,W 0 m [] (aL H1 p (.lst [])))/\
 ∀i m ys H2,W i m ys H2->H2 p=some (.lst ys)/\((J.stop i H2/\Q (.ref p) H2)∨(J.go i H2/\ys.length<sizeLine/\∀x H3,J.yld i H2 x H3->∀o:St,o.length=n->g x (o++bw js σ) H3 fun σ4 H4=>(∃o':St,o'.length=n/\σ4=o'++bw js σ)/\
  te σ4 H4 fun y H5=>H5 p=some (.lst ys)/\∃m',m'<m/\W (i+1) m' (ys++ [y]) (aL H5 p (.lst (ys++ [y])))))
def vO (wi:TI) (n:Nat) (g:TG) (js:List Nat) (te:TE):TE:=fun σ H Q=>wi σ H (vM n g js te σ Q)
section
variable {X:Cx} {scope:Scope} {cl:List (Str×Addr)} {os:Ld} {ys:Ld} {js:List Nat} {fp:Le} {pins:Lb} {σ:St} {H:Hp} {s s4:Shared}
theorem gQ {h1:Heap} (ok:i7 X scope cl os ys js) (I:aM X pins σ H s) (hf:∀b∈fp,eR X pins H b) (hlt:∀b∈fp,b<s.heap.objs.size) (hns:h1.Ns s.heap.objs.size (fun _=>none))
  (hk:∀b o,s.heap.get? b=some o->h1.get? b=some o) (tk:Nat):
  aM (X.blockT scope cl s.heap.objs.size (os++ys) os fp s H) [] (os.map (fun _=>none)++bw js σ) H {s with heap:=h1,toks:=tk}:=by
 have sub:∀y c,cl.lookup y=some c->X.env.cells.lookup y=some c:=fun y c e=>ok.sub (y,c) (Gc e)
 refine ⟨⟨I.ok.mod,ok.kind,I.ok.glob,I.ok.blt,FO _,fun x y c e1 e2=>I.ok.inj x y c (sub x c e1) (sub y c e2),fun x hx=>?_,fun x c e1 e2=>?_,I.ok.hd,I.ok.frames,.inl rfl,fun b hb=>⟨GJ (hlt b hb),fun x c e=>(hf b hb).2.2.2.2.1 x c (sub x c e)⟩,
  I.bs,GP I.ok.bsz I.sz,fun b o e hb=>?_,fun b hb z=>?_,I.stack,I.stkFree⟩,rfl,I.bare,Un.kept hk,⟨_,hns,fun i y v e1 e2 e3=>?_⟩,fun y c e=>?_,I.hok.fresh (FO _),fun y c e=>I.freeC y c (sub y c e),fun p hp=>absurd (show p∈([]:Lb) from hp) (by simp),I.hok.kept hk,?_⟩
 ·have hx':(relabel scope X.env).names.lookup x=some .cell∨(relabel scope X.env).names.lookup x=some .free:=hx;rcases hx' with z|z
  ·have q:=lookup_all ok.has z;simp only[beq_self_eq_true,Bool.true_or,HS,Hf] at q;exact GV.mp q
  ·have q:=lookup_all ok.has z;simp only[beq_self_eq_true,Bool.or_true,HS,Hf] at q;exact GV.mp q
 ·have e1':os.contains x=true:=e1;have e2':cl.lookup x=some c:=e2;rw[ok.noown x (List.contains_iff_mem.mp e1')] at e2';cases e2'
 ·rcases (hf b hb).2.2.2.1 with z|z
  ·exact I.ok.noex b o e z
  ·exact absurd (GL (Heap.lt_size (I.ok.bs b o e).1) z) (Hx _)
 ·rcases F8.mp (I.stkSub b z) with q|q
  ·exact (hf b hb).2.1 q
  ·exact (hf b hb).2.2.1 q
 ·by_cases hi:i<os.length
  ·have e2':(os.map (fun _=>(none:Option V))++bw js σ)[i]?=some (some v):=e2
   rw[FV (by rw[F6];exact hi),FP,F0 hi] at e2'
   cases e2'
  ·have e1'':(os++ys)[i]?=some y:=e1;have e2'':(os.map (fun _=>(none:Option V))++bw js σ)[i]?=some (some v):=e2
   rw[FN (by lia)] at e1''
   rw[FN (by rw[F6];lia),F6] at e2''
   have e1':=e1'';have e2:=e2'';clear e1 e1'' e2'';generalize i-os.length=i at e1' e2;obtain ⟨j,hj,hN,hX,hc⟩:=ok.at_ i y e1';have e2':(bw js σ)[i]?=some (some v):=e2;unfold bw at e2';rw[FP,hj] at e2';have hs:σ[j]?=some (some v):=by
    cases q:σ[j]? with
    |none=>rw[Hc,q] at e2';cases e2'
    |some o=>rw[Hc,q] at e2';exact e2'
   obtain ⟨m,hn,hl⟩:=I.loc;obtain ⟨u,r,l⟩:=hl j y v hN hs (hX.elim (fun z=> .inr (.inl z)) fun z=> .inr (.inr z))
   refine ⟨u,r,.inr ⟨hc,?_⟩⟩;rcases l with ⟨k,_⟩|⟨k,c,hcl,hcell⟩
   ·have k':X.env.scope.names.lookup y=some .local:=k;rcases hX with z|z<;>(rw[z] at k';cases k')
   ·have ex:∃c',cl.lookup y=some c':=by
     rcases hc with z|z
     ·have q:=lookup_all ok.has z;simp only[beq_self_eq_true,Bool.true_or,HS,Hf] at q;exact GV.mp q
     ·have q:=lookup_all ok.has z;simp only[beq_self_eq_true,Bool.or_true,HS,Hf] at q;exact GV.mp q
    obtain ⟨c',hc'⟩:=ex;have e:=sub y c' hc';rw[hcl] at e;cases e;obtain ⟨oc,hoc,hd⟩:=hcell;exact ⟨c,hc',oc,hk _ _ hoc,hd⟩
 ·obtain ⟨v,oc,hoc,hd⟩:=I.cell y c (sub y c e);exact ⟨v,oc,hk _ _ hoc,hd⟩
 ·show (os.map (fun _=>(none:Option V))++bw js σ).length=(os++ys).length
  simp[bw,ok.len]
theorem jI {H':Hp} {h':Heap} {σ':St} (I:aM X pins σ H s) (hf:∀b∈fp,eR X pins H b) (J:aM (X.blockT scope cl s.heap.objs.size (os++ys) os fp s H) [] σ' H' s4) (hs:Heap.SameBut s.heap.objs.size s4.heap h'):
  aM X pins σ H' {s4 with heap:=h'}:=by
 have low:∀b o,s.heap.get? b=some o->b≠s.heap.objs.size:=fun b o e=>GJ (Heap.lt_size e)
 have B:=J.base;have u:Un (iT X.stack) fp H H' s.heap h':={
  keep:=fun b o q n hb hx=>(hs.2 b (low b o q)).trans (B.keep b o q n hb hx)
  slot:=fun b o q n hb hx=>by
   obtain ⟨sl,e⟩:=B.slot b o q n hb hx;exact ⟨sl,(hs.2 b (low b o q)).trans e⟩
  free:=B.free
  there:=fun b o q hx=>by
   obtain ⟨o',e⟩:=B.there b o q hx;exact ⟨o',(hs.2 b (low b o q)).trans e⟩
  tups:=B.tups
  frzs:=B.frzs
  tbls:=B.tbls}
 have hn:H' s.heap.objs.size=none:=J.free;have hk:gb X.prog X.w H' h':=fun a o e=>(J.hok a o e).stay (fun b v hb q=>(hs.2 b (by
  intro z;rcases hb with z'|z'
  ·rw[<-z',z,hn] at e;cases e
  ·rw[z,hn] at z';cases z')).trans q) (fun _ q=>q) fun _ _ q=>q
 exact I.call' (s':={s4 with heap:=h'}) (ch:=fp) J.os u hk J.bare fun b hb=>⟨(hf b hb).2.2.2.1,(hf b hb).2.1,(hf b hb).2.2.2.2.1,(hf b hb).2.2.2.2.2⟩
end
section
variable {X:Cx} {scope:Scope} {cl:List (Str×Addr)} {os:Ld} {ys:Ld} {js:List Nat} {elt iter tg:Expr} {px pos:Pos} {wi:TI} {te:TE} {g:TG}
theorem vP (hc:X.calm=true) (ok:i7 X scope cl os ys js) (hi:PI X tg iter wi)
  (hg:∀(C:Addr) (fp:Le) (s:Shared) (H:Hp),PG (X.blockT scope cl C (os++ys) os fp s H) tg g)
  (he:∀(C:Addr) (fp:Le) (s:Shared) (H:Hp),PE (X.blockT scope cl C (os++ys) os fp s H) elt te)
  (hs:∀x,foldedSetIterable iter X.env x=pure x:=by intro _;rfl):PE X (.ListComp elt [⟨tg,iter,[],0⟩] scope pos) (vO wi os.length g js te):=by
 intro pins s σ H Q I h;rw[eval_ListComp];have ncell:∀y∈scope.names,y.2≠ .cell:=fun y hy z=>by
  have q:=Gn.mp ok.nocell y hy;rw[z] at q;simp at q
 have nloc:∀y∈scope.names,y.2= .local->scope.names.lookup y.1=some .local:=fun y hy z=>by
  have q:=Gn.mp ok.loc y hy;rw[z] at q
  simpa using q
 refine wpAny_comprehension_free (use:=none) rfl hs ok.clos ok.kind nloc (bV (hi pins s σ H _ I h) fun v s1 h1=>bV h1 fun itv s2 h2=>?_)
 obtain ⟨it,fp,tn,J,H2,rfl,I2,T,st2,f2,q2⟩:=h2;obtain ⟨W,⟨m0,w0⟩,turn⟩:=q2 s2.heap.objs.size (I2.hok.fresh (FO _));refine wpAny_newObj_type (wpAny_newFunctionEnv ncell (by intro y hy;simp at hy) (fun h1 hns hsb=>?_) ok.kind)
 have I3:=I2.laid (a:=s2.heap.objs.size) (o:= .lst []) (h':=s2.heap.push {cls:= .type "list",dict:=none,data:= .seq ([]:Lf).toArray}) (t':=s2.toks) (fun b u q=>Heap.get?_push_of_some _ q) (FO _)
  ⟨Gi _,[],0,.nil,Heap.get?_push_size _ rfl⟩
 have fpo:∀b∈fp,b<s2.heap.objs.size:=fun b hb=>by
  obtain ⟨o,e,_⟩:=T.obj 0 _ st2 b hb;exact Heap.lt_size e
 have f3:∀b∈fp,eR X pins (aL H2 s2.heap.objs.size (.lst [])) b:=fun b hb=>⟨by rw[av (GJ (fpo b hb))];exact (f2 b hb).1,(f2 b hb).2⟩
 generalize hs3:({s2 with heap:=s2.heap.push {cls:= .type "list",dict:=none,data:= .seq ([]:Lf).toArray},toks:=s2.toks}:Shared)=s3 at I3
 have e3:s3.heap=s2.heap.push {cls:= .type "list",dict:=none,data:= .seq ([]:Lf).toArray}:=by rw[<-hs3]
 have lt3:∀b∈fp,b<s3.heap.objs.size:=fun b hb=>by rw[e3,Heap.size_push];exact HR (fpo b hb)
 dsimp only at hns hsb⊢;rw[<-e3] at hns hsb;have hk:∀b o,s3.heap.get? b=some o->h1.get? b=some o:=fun b o e=>hsb.extBut b o (GJ (Heap.lt_size e)) (Heap.get?_push_of_some _ e)
 have J0:=gQ (h1:=h1) ok I3 f3 lt3 hns hk (s2.toks+0);have t0:tn 0 h1:=T.keep 0 _ _ st2 fun b hb o e=>hk b o (by rw[e3];exact Heap.get?_push_of_some _ e)
 have fpB:∀{H':Hp},(∀b∈fp,H' b=none)->∀b∈fp,eR (X.blockT scope cl s3.heap.objs.size (os++ys) os fp s3 (aL H2 s2.heap.objs.size (.lst []))) [] H' b:=fun {H'} hn b hb=>
  ⟨hn b hb,GJ (lt3 b hb),fun z=>(F8.mp (I3.stkSub b z)).elim (f3 b hb).2.1 (f3 b hb).2.2.1,.inl hb,fun x c e=>(f3 b hb).2.2.2.2.1 x c (ok.sub (x,c) (Gc e)),fun p hp=>absurd (show p∈([]:Lb) from hp) (by simp)⟩
 have loop:codeAny (model X.prog X.w) X.A (.compLoop (.ListComp elt [⟨tg,iter,[],0⟩] scope pos) 0 (.ref it) (.ref s2.heap.objs.size) (compEnvC scope cl s3.heap.objs.size X.env))
   (compPost (model X.prog X.w) X.A X.xe none (EP X pins σ Q) (.ref s2.heap.objs.size) s3.heap.objs.size) {s3 with heap:=h1,toks:=s2.toks+0}:=by
  refine dY (fun n s'=>∃i zs o0 H',aM (X.blockT scope cl s3.heap.objs.size (os++ys) os fp s3 (aL H2 s2.heap.objs.size (.lst []))) [] (o0++bw js σ) H' s'/\o0.length=os.length/\tn i s'.heap/\(∀b∈fp,H' b=none)/\W i n zs H') ?_ m0
   ⟨0,[],os.map (fun _=>none),_,J0,F6 _,t0,fun b hb=>(f3 b hb).1,w0⟩
  rintro n s5 ⟨i,zs,o0,H5,I5,l5,t5,n5,w5⟩;obtain ⟨hD,hw⟩:=turn i n zs H5 w5;rcases hw with ⟨stop,qn⟩|⟨go,hz,step⟩
  ·refine bV (T.done (X.blockT scope cl s3.heap.objs.size (os++ys) os fp s3 (aL H2 s2.heap.objs.size (.lst []))) rfl rfl rfl hc i [] s5 _ H5 (fun _ _=>False) I5 (fpB n5) t5 stop) fun r s6 ⟨hr,I6⟩=>?_
   subst hr;obtain ⟨m,hn,_⟩:=id I6.loc;exact ⟨m,hn,fun h' hs'=>⟨V.ref s2.heap.objs.size,H5,jI I3 f3 I6 hs',rfl,qn⟩⟩
  ·refine bV (T.item (X.blockT scope cl s3.heap.objs.size (os++ys) os fp s3 (aL H2 s2.heap.objs.size (.lst []))) rfl rfl rfl hc i [] s5 _ H5 (fun _ _=>False) I5 (fpB n5) t5 go) fun r s6 ⟨u,hr,h6⟩=>?_
   subst hr;refine bV h6 fun _ s7 ⟨x,H7,I7,r7,y7,t7,n7⟩=>?_
   have I7':=I7.pinned (fpB n7) (T.obj _ _ t7);have hst:=step x H7 y7;refine bV (hg _ _ _ _ _ s7 _ H7 x u _ I7' r7 (hst o0 l5)) fun _ s8 ⟨σ8,H8,I8,⟨o8,l8,e8⟩,hst⟩=>?_
   subst e8;refine bV (he _ _ _ _ _ s8 _ H8 _ I8 hst) fun yv s9 ⟨y,H9,I9,r9,hD9,m',hm,w9⟩=>?_
   refine bV (aS _ s9 _ H9 (.ref s2.heap.objs.size) [y] (.ref s2.heap.objs.size) [yv] (fun _ H'=>H'=aL H9 s2.heap.objs.size (.lst (zs++ [y]))) I9 rfl (.cons r9 .nil) ⟨_,zs,y,rfl,rfl,hD9,hz,rfl⟩) fun _ s10 ⟨_,H10,I10,_,e10⟩=>?_
   subst e10;refine ⟨m',hm,i+1,zs++ [y],o8,_,I10.unpinned,l8,T.keep _ _ _ t7 fun b hb o e=>(I10.pin (b,o) (FU _ (FU _ (cf hb e)))).1,fun b hb=>?_,w9⟩
   obtain ⟨o,e,d⟩:=T.obj _ _ t7 b hb;exact (I10.pin (b,o) (FU _ (FU _ (cf hb e)))).2.1
 subst hs3;exact codeAny_compStart_list loop (T.self _ 0 _ _ _ t0 loop)
end
end L2
namespace Sw
open PySem L2 XH
theorem zS {X:Cx} {scope:Scope} {cl:List (Str×Addr)} {os ys:Ld} {js:List Nat} (a:iy X scope ys js) (s:qt X cl) (len:js.length=ys.length) (clos:closureFor scope X.env=pure cl) (nocell:(scope.names.all fun p=> !(p.2== .cell))=true) (kind:scope.kind= .function)
  (loc:(scope.names.all fun p=> !(p.2== .local)||scope.names.lookup p.1==some .local)=true) (has:((relabel scope X.env).names.all fun p=> !(p.2== .cell||p.2== .free)||(cl.lookup p.1).isSome)=true) (noown:(os.all fun x=>(cl.lookup x).isNone)=true):i7 X scope cl os ys js:=
 ⟨clos,nocell,kind,loc,s.all,has,fun x hx=>by have:=Gn.mp noown x hx;simpa using this,a,len⟩
theorem mJ {X:Cx} {K:F5} {es:List Expr} {k:Nat} {t:yF} {n:Nat} {pos:Pos} (hK:X.K=K) (hc:X.calm=true) (h:BR X es t) (hn:(assignEach es X.env).length=n:=by rfl) (hst:(assignEach es X.env).findIdx? (·.1)=none:=by rfl):PG X (.Tuple es k pos) (BV K n t):=by
 subst hK;exact iq hc h hn hst
theorem dn {X:Cx} {scope:Scope} {cl:List (Str×Addr)} {C:Addr} {fp:Le} {s:Shared} {H:Hp} {os ys:Ld} {i:Nat} {x:Str} {pos:Pos} (nd:(os++ys).Nodup) (hi:(os++ys)[i]?=some x) (hl:(relabel scope X.env).names.lookup x=some .local):PG (X.blockT scope cl C (os++ys) os fp s H) (.Name x pos) (bM i):=
 iX (X:=X.blockT scope cl C (os++ys) os fp s H) nd hi (.inl hl) (.inr hl)
end Sw
namespace L2
open PySem PySem.Spec PyProof.Rows XH
section
variable {X:Cx} {scope:Scope} {cl:List (Str×Addr)} {os:Ld} {ys:Ld} {js:List Nat} {elt iter tg:Expr} {px pos:Pos} {wi:TI} {te:TE} {g:TG}
theorem oF {i:Nat} {y:Str} {py spos:Pos} (hN:X.N.Nodup) (hi':X.N[i]?=some y) (hy:X.env.scope.names.lookup y=some .local) (hc:X.calm=true) (ok:i7 X scope cl os ys js) (hi:PI X tg iter wi)
  (hg:∀(C:Addr) (fp:Le) (s:Shared) (H:Hp),PG (X.blockT scope cl C (os++ys) os fp s H) tg g)
  (he:∀(C:Addr) (fp:Le) (s:Shared) (H:Hp),PE (X.blockT scope cl C (os++ys) os fp s H) elt te)
  (hsw:swapsWith (.ListComp elt [⟨tg,iter,[],0⟩] scope pos) (some (.Name y py)) spos.line X.env=pure true:=by rfl) (hs:∀x,foldedSetIterable iter X.env x=pure x:=by intro _;rfl):
  PS X (.Assign [.Name y py] (.ListComp elt [⟨tg,iter,[],0⟩] scope pos) spos) (tm (vO wi os.length g js te) (bM i)):=by
 intro pins s σ H D I h;have ncell:∀y∈scope.names,y.2≠ .cell:=fun y hy z=>by
  have q:=Gn.mp ok.nocell y hy;rw[z] at q;simp at q
 have nloc:∀y∈scope.names,y.2= .local->scope.names.lookup y.1=some .local:=fun y hy z=>by
  have q:=Gn.mp ok.loc y hy;rw[z] at q
  simpa using q
 show wpAny _ _ (exec _ X.env) _ _ _;rw[exec_Assign_Name_used _ _ _ _ hsw];refine wpAny_bind (wpAny_standAt (wpAny_bind ?_));show wpAny _ X.A (do let _<-comprehension (.ListComp elt [⟨tg,iter,[],0⟩] scope pos) scope X.env _ (newList []) false (eval iter X.env) (some (assign (.Name y py) X.env))) _ _ s
 refine wpAny_bind (wpAny_mono (wpAny_comprehension_free (use:=some (assign (.Name y py) X.env)) (Q:=fun _ s'=>SP X pins D .next s') rfl hs ok.clos ok.kind nloc (bV (hi pins s σ H _ I h) fun v s1 h1=>bV h1 fun itv s2 h2=>?_)) (fun _ s' hq=>wpAny_pure (wpAny_pure hq)) fun _ _ e=>e)
 obtain ⟨it,fp,tn,J,H2,rfl,I2,T,st2,f2,q2⟩:=h2;obtain ⟨W,⟨m0,w0⟩,turn⟩:=q2 s2.heap.objs.size (I2.hok.fresh (FO _));refine wpAny_newObj_type (wpAny_newFunctionEnv ncell (by intro y hy;simp at hy) (fun h1 hns hsb=>?_) ok.kind)
 have I3:=I2.laid (a:=s2.heap.objs.size) (o:= .lst []) (h':=s2.heap.push {cls:= .type "list",dict:=none,data:= .seq ([]:Lf).toArray}) (t':=s2.toks) (fun b u q=>Heap.get?_push_of_some _ q) (FO _)
  ⟨Gi _,[],0,.nil,Heap.get?_push_size _ rfl⟩
 have fpo:∀b∈fp,b<s2.heap.objs.size:=fun b hb=>by
  obtain ⟨o,e,_⟩:=T.obj 0 _ st2 b hb;exact Heap.lt_size e
 have f3:∀b∈fp,eR X pins (aL H2 s2.heap.objs.size (.lst [])) b:=fun b hb=>⟨by rw[av (GJ (fpo b hb))];exact (f2 b hb).1,(f2 b hb).2⟩
 generalize hs3:({s2 with heap:=s2.heap.push {cls:= .type "list",dict:=none,data:= .seq ([]:Lf).toArray},toks:=s2.toks}:Shared)=s3 at I3
 have e3:s3.heap=s2.heap.push {cls:= .type "list",dict:=none,data:= .seq ([]:Lf).toArray}:=by rw[<-hs3]
 have lt3:∀b∈fp,b<s3.heap.objs.size:=fun b hb=>by rw[e3,Heap.size_push];exact HR (fpo b hb)
 dsimp only at hns hsb⊢;rw[<-e3] at hns hsb;have hk:∀b o,s3.heap.get? b=some o->h1.get? b=some o:=fun b o e=>hsb.extBut b o (GJ (Heap.lt_size e)) (Heap.get?_push_of_some _ e)
 have J0:=gQ (h1:=h1) ok I3 f3 lt3 hns hk (s2.toks+0);have t0:tn 0 h1:=T.keep 0 _ _ st2 fun b hb o e=>hk b o (by rw[e3];exact Heap.get?_push_of_some _ e)
 have fpB:∀{H':Hp},(∀b∈fp,H' b=none)->∀b∈fp,eR (X.blockT scope cl s3.heap.objs.size (os++ys) os fp s3 (aL H2 s2.heap.objs.size (.lst []))) [] H' b:=fun {H'} hn b hb=>
  ⟨hn b hb,GJ (lt3 b hb),fun z=>(F8.mp (I3.stkSub b z)).elim (f3 b hb).2.1 (f3 b hb).2.2.1,.inl hb,fun x c e=>(f3 b hb).2.2.2.2.1 x c (ok.sub (x,c) (Gc e)),fun p hp=>absurd (show p∈([]:Lb) from hp) (by simp)⟩
 have loop:codeAny (model X.prog X.w) X.A (.compLoop (.ListComp elt [⟨tg,iter,[],0⟩] scope pos) 0 (.ref it) (.ref s2.heap.objs.size) (compEnvC scope cl s3.heap.objs.size X.env))
   (compPost (model X.prog X.w) X.A X.xe (some (assign (.Name y py) X.env)) (fun _ s'=>SP X pins D .next s') (.ref s2.heap.objs.size) s3.heap.objs.size) {s3 with heap:=h1,toks:=s2.toks+0}:=by
  refine dY (fun n s'=>∃i zs o0 H',aM (X.blockT scope cl s3.heap.objs.size (os++ys) os fp s3 (aL H2 s2.heap.objs.size (.lst []))) [] (o0++bw js σ) H' s'/\o0.length=os.length/\tn i s'.heap/\(∀b∈fp,H' b=none)/\W i n zs H') ?_ m0
   ⟨0,[],os.map (fun _=>none),_,J0,F6 _,t0,fun b hb=>(f3 b hb).1,w0⟩
  rintro n s5 ⟨i,zs,o0,H5,I5,l5,t5,n5,w5⟩;obtain ⟨hD,hw⟩:=turn i n zs H5 w5;rcases hw with ⟨stop,qn⟩|⟨go,hz,step⟩
  ·refine bV (T.done (X.blockT scope cl s3.heap.objs.size (os++ys) os fp s3 (aL H2 s2.heap.objs.size (.lst []))) rfl rfl rfl hc i [] s5 _ H5 (fun _ _=>False) I5 (fpB n5) t5 stop) fun r s6 ⟨hr,I6⟩=>?_
   subst hr;obtain ⟨m,hn,_⟩:=id I6.loc;have J:aM X pins σ H5 s6:=jI (h':=s6.heap) I3 f3 I6 (Heap.SameBut.refl _ _);have fC:=I3.fpOk (FO _) (show H5 s3.heap.objs.size=none from I6.free)
   obtain ⟨k0,k1,k2,k3,k4,k5⟩:=fC;show wpAny _ X.A (assign (.Name y py) X.env (.ref s2.heap.objs.size)) _ _ _;refine wpAny_assign_Name (io (v:= .ref s2.heap.objs.size) J hN hi' (.inl hy) rfl (fun s7 I7 hsb=>?_) (.inr hy))
   obtain ⟨a',sb,ha⟩:=hsb;have ne:s3.heap.objs.size≠a':=by
    rcases ha with z|z
    ·rw[z];exact k1
    ·exact fun w=>k4 _ _ z w.symm
   exact ⟨m,hn.sameBut sb ne,fun h' hs'=>⟨_,H5,I7.turned (t':=s7.toks) (fun b o hb e=>(hs'.2 b hb).trans e) k0 k1 k3 k4 k5,qn⟩⟩
  ·refine bV (T.item (X.blockT scope cl s3.heap.objs.size (os++ys) os fp s3 (aL H2 s2.heap.objs.size (.lst []))) rfl rfl rfl hc i [] s5 _ H5 (fun _ _=>False) I5 (fpB n5) t5 go) fun r s6 ⟨u,hr,h6⟩=>?_
   subst hr;refine bV h6 fun _ s7 ⟨x,H7,I7,r7,y7,t7,n7⟩=>?_
   have I7':=I7.pinned (fpB n7) (T.obj _ _ t7);have hst:=step x H7 y7;refine bV (hg _ _ _ _ _ s7 _ H7 x u _ I7' r7 (hst o0 l5)) fun _ s8 ⟨σ8,H8,I8,⟨o8,l8,e8⟩,hst⟩=>?_
   subst e8;refine bV (he _ _ _ _ _ s8 _ H8 _ I8 hst) fun yv s9 ⟨y,H9,I9,r9,hD9,m',hm,w9⟩=>?_
   refine bV (aS _ s9 _ H9 (.ref s2.heap.objs.size) [y] (.ref s2.heap.objs.size) [yv] (fun _ H'=>H'=aL H9 s2.heap.objs.size (.lst (zs++ [y]))) I9 rfl (.cons r9 .nil) ⟨_,zs,y,rfl,rfl,hD9,hz,rfl⟩) fun _ s10 ⟨_,H10,I10,_,e10⟩=>?_
   subst e10;refine ⟨m',hm,i+1,zs++ [y],o8,_,I10.unpinned,l8,T.keep _ _ _ t7 fun b hb o e=>(I10.pin (b,o) (FU _ (FU _ (cf hb e)))).1,fun b hb=>?_,w9⟩
   obtain ⟨o,e,d⟩:=T.obj _ _ t7 b hb;exact (I10.pin (b,o) (FU _ (FU _ (cf hb e)))).2.1
 subst hs3;exact codeAny_compStart_list loop (T.self _ 0 _ _ _ t0 loop)
end
end L2
namespace Sw
open PySem L2 XH
end Sw
namespace L2
open PySem PySem.Spec PyProof.Rows
end L2
namespace Sw
open PySem L2 XH
theorem oG {p q n:Int} (f:Fr p q n 1):p=n/\q=1:=by
 have h2:=f.bb;have h3:=f.pos;have h4:=f.same;simp only[Int.natAbs_one] at h2;have e:q=1:=by lia
 subst e;rw[Hl,Hl] at h4;exact ⟨h4,rfl⟩
end Sw
namespace L2
open PySem PySem.Spec PyProof.Rows
end L2
namespace Sw
open PySem L2 XH
noncomputable def gf (nm l m u s:V):List (Str×V):=aK "second" s (aK "uses" u (aK "most" m (aK "least" l (aK "name" nm []))))
noncomputable def warmF (nm l m u s f:V):List (Str×V):=aK "fill" f (gf nm l m u s)
theorem vQ {nm l m u s:V} {g:Str} (h:g≠ "second" /\g≠ "uses" /\g≠ "most" /\g≠ "least" /\g≠ "name"):(gf nm l m u s).lookup g=none:=by
 unfold gf;rw[bD,if_neg h.1,bD,if_neg h.2.1,bD,if_neg h.2.2.1,bD,if_neg h.2.2.2.1,bD,if_neg h.2.2.2.2]
 rfl
theorem jJ {nm l m u s f:V}:(warmF nm l m u s f).lookup ("fill" :Str)=some f:=by
 unfold warmF;rw[bD,if_pos rfl]
theorem f6 {nm l m u s:V}:(gf nm l m u s).length<=5:=by
 unfold gf;have h1:=aU "name" nm [];have h2:=aU "least" l (aK "name" nm []);have h3:=aU "most" m (aK "least" l (aK "name" nm []));have h4:=aU "uses" u (aK "most" m (aK "least" l (aK "name" nm [])));have h5:=aU "second" s (aK "uses" u (aK "most" m (aK "least" l (aK "name" nm []))));simp at h1
 lia
def Kept (H H':Hp) (a:Addr):Prop:=∀b o,H b=some o->b≠a->H' b=some o
theorem Kept.refl (H:Hp) (a:Addr):Kept H H a:=fun _ _ h _=>h
theorem Kept.put {H H':Hp} {a:Addr} (k:Kept H H' a) (o:HO):Kept H (aL H' a o) a:=fun b u h n=>by rw[av n];exact k b u h n
theorem Kept.new {H H':Hp} {a p:Addr} (k:Kept H H' a) (hp:H' p=none) (o:HO):Kept H (aL H' p o) a:=fun b u h n=>by
 have e:=k b u h n;rw[av (aP e hp)];exact e
theorem df {H H':Hp} {x dx C:Addr} (nx:H x=none) (nd:H dx=none) (k:Kept (aL (aL H dx (.own x)) x (.ins C dx [])) H' x):aA H H':=fun b o h=>by
 have n1:=aP h nx;exact k b o (by rw[av n1,av (aP h nd)];exact h) n1
structure jK (K:F5) (C:Addr):Prop where
 cl:iI K C
 name:aE K C "name"
 least:aE K C "least"
 most:aE K C "most"
 uses:aE K C "uses"
 second:aE K C "second"
structure EA (n p q fp fq sp sq:Int):Prop where
 lo:p*fp*sq<=n*(sp*q*fq)
 hi:(n-1)*(sp*q*fq)<p*fp*sq
 bd:Bd 2000 n
theorem zT {p q fp fq sp sq r s u v:Int} (hq:0<q) (hfq:0<fq) (hsp:0<sp) (f1:Fr r s (p*fp) (q*fq)) (f2:Fr u v (r*sq) (s*sp)) (b:Bd 2000 u):EA (-((-u).fdiv v)) p q fp fq sp sq:=by
 have c1:=f1.same;have c2:=f2.same;have key:u*(sp*q*fq)=p*fp*sq*v:=by
  refine qi (k:=s) ?_ (by have:=f1.pos;lia)
  calc u*(sp*q*fq)*s=(u*(s*sp))*(q*fq):=by ac_rfl
   _=(r*sq*v)*(q*fq):=by rw[c2]
   _=(r*(q*fq))*(sq*v):=by ac_rfl
   _=(p*fp*s)*(sq*v):=by rw[c1]
   _=p*fp*sq*v*s:=by ac_rfl
 have ub:=kR (p:=u) f2.pos;have hpos:0<sp*q*fq:=Gr (Gr hsp hq) hfq;have bn:Bd 2000 (-((-u).fdiv v)):=(rq b.neg).neg;generalize-((-u).fdiv v)=n at ub bn⊢;have vp:=f2.pos;refine ⟨Int.le_of_mul_le_mul_right (a:=v) ?_ vp,Int.lt_of_mul_lt_mul_right (a:=v) ?_ (HQ vp),bn⟩
 ·rw[<-key];have:=Int.mul_le_mul_of_nonneg_right ub.1 (HQ hpos);rw[show n*(sp*q*fq)*v=n*v*(sp*q*fq) by ac_rfl]
  exact this
 ·rw[<-key];have:=Int.mul_lt_mul_of_pos_right ub.2 hpos;rw[show (n-1)*(sp*q*fq)*v=(n-1)*v*(sp*q*fq) by ac_rfl]
  exact this
def oH (K:F5):Sp:=fun vs H Q _=>∃(a C dx t tf ts:Addr) (fs:List (Str×V)) (p q fp fq sp sq:Int),vs= [.ref a,.ref tf,.ref ts]/\H a=some (.ins C dx fs)/\iI K C/\aE K C "fill" /\fs.lookup ("fill" :Str)=some (.ref t)/\
 cL K 201 H t p q/\cL K 201 H tf fp fq/\cL K 201 H ts sp sq/\0<sp/\∀(n:Int) (H':Hp),aA H H'->EA n p q fp fq sp sq->Q (.int n) H'
def jL:Sp:=fun vs H Q _=>∃a b c:V,vs= [a,b,c]/\Q (.int 1) H
end Sw
namespace L2
open PySem PySem.Spec PyProof.Rows XH
variable {X:Cx}
theorem oI:c7 X (.type "int") (fun xs H Q=>∃b,xs= [.bl b]/\Q (.int (if b=true then 1 else 0)) H):=by
 intro pins s σ H xs us Q I r h;obtain ⟨b,rfl,q⟩:=h;obtain ⟨u,rfl,hu⟩:=vals1 r;obtain rfl:u=Value.bool b:=hu;exact call_int_bool ⟨.int _,H,I.tok _,⟨ν⟩,q⟩
theorem aq {K:F5} (h:X.K=K):uR X (xh K):=by
 subst h;exact bj
end L2
namespace Sw
open PySem L2 XH
def r6:Sp:=fun _ _ _ _=>False
noncomputable def mK (nm p t s l:V):List (Str×V):=aK "links" l (aK "steps" s (aK "takes" t (aK "plates" p (aK "name" nm []))))
structure EB (K:F5) (C:Addr):Prop where
 cl:iI K C
 name:aE K C "name"
 plates:aE K C "plates"
 takes:aE K C "takes"
 steps:aE K C "steps"
 links:aE K C "links"
theorem qC {as:Le} {i:Nat} {x:V} (h:(as.map V.ref)[i]?=some x):∃a,as[i]?=some a/\x= .ref a:=by
 rw[FP] at h;cases e:as[i]? with
 |none=>rw[e] at h;cases h
 |some a=>rw[e] at h;cases h;exact ⟨a,rfl,rfl⟩
end Sw
namespace L2
open PySem PySem.Spec PyProof.Rows XH Sw So
end L2
namespace Sw
open PySem L2 XH Hm
end Sw
namespace L2
open PySem PySem.Spec PyProof.Rows XH Sw Hm
end L2
namespace Sw
open PySem L2 XH Hm
theorem Cs {α:Type} {xs:List α} {i:Nat} {v d:α} (h:xs[i]?=some v):xs.getD i d=v:=by rw[GX,h];rfl
end Sw
namespace L2
open PySem PySem.Spec PyProof.Rows XH Sw Hm
end L2
namespace Sw
open PySem L2 XH Hm
end Sw
namespace L2
open PySem PySem.Spec PyProof.Rows XH Sw Hm
theorem lq {xs:List V} {c:Nat}:fG xs (some (c:Int)) none=xs.drop c:=by
 by_cases h:c<=xs.length
 ·exact vL h
 ·rw[List.drop_eq_nil_of_le (by lia)]
  apply Ha;unfold fG;rw[GG,Gd];have:HT.eJ xs.length 0 (some (c:Int))=xs.length:=by
   show (if (c:Int)<0 then ((c:Int)+(xs.length:Int)).toNat else min (c:Int).toNat xs.length)=xs.length
   rw[if_neg (by lia)]
   lia
  rw[this]
  lia
end L2
namespace Sw
open PySem L2 XH Hm
end Sw
namespace L2
open PySem PySem.Spec PyProof.Rows XH Sw Hm
end L2
namespace Sw
open PySem L2 XH Hm
theorem cx {α:Type} {P:List α->Prop} (h:∀a,P [a]):∀us:List α,us.length=1->P us
 | [a],_=>h a
theorem bS {α:Type} {P:List α->Prop} (h:∀a b,P [a,b]):∀us:List α,us.length=2->P us
 | [a,b],_=>h a b
theorem dr {α:Type} {P:List α->Prop} (h:∀a b c,P [a,b,c]):∀us:List α,us.length=3->P us
 | [a,b,c],_=>h a b c
theorem jM {α:Type} {P:List α->Prop} (h:∀a b c d,P [a,b,c,d]):∀us:List α,us.length=4->P us
 | [a,b,c,d],_=>h a b c d
theorem vR {α:Type} {P:List α->Prop} (h:∀a b c d e,P [a,b,c,d,e]):∀us:List α,us.length=5->P us
 | [a,b,c,d,e],_=>h a b c d e
theorem zU {α:Type} {P:List α->Prop} (h:∀a b c d e f,P [a,b,c,d,e,f]):∀us:List α,us.length=6->P us
 | [a,b,c,d,e,f],_=>h a b c d e f
abbrev FnAt (K:F5) (f:Addr) (n q:Str) (st:Stmt) (dV:Value):Prop:=∃(oc:Value) (od:Lg) (kV dc pm:Value) (an:Lg) (cd ct:Value) (sl:Lc),K.lookup f=some ⟨oc,od,.func (Gj n q (dX st) (c5 st) (ao st) dV kV dc pm an cd ct),sl⟩/\Hg K cd q=true/\Gh K (.ref f)=true
abbrev bR (K:F5) (f:Addr) (x:Str) (st:Stmt) (dV:Value):Prop:=FW K mainGlobals x=some (some (.ref f))/\FnAt K f x x st dV
abbrev oJ (K:F5) (c f:Addr) (m q:Str) (st:Stmt) (dV:Value):Prop:=Ga K (.ref c) m=some (some (.ref f))/\FnAt K f m q st dV
abbrev Ct (n q:Str) (st:Stmt) (dV:Value) (ps:Ld):Prop:=∀(kV doc pm:Value) (an:Lg) (cdv ct:Value) (us:Lf),us.length=ps.length->bindArgs (Gj n q (dX st) (c5 st) (ao st) dV kV doc pm an cdv ct) ⟨us,[]⟩=pure (ps.zip us)
theorem cN {N P:Ld} {sc:Scope} (h:N.Nodup/\(∀x∈P,sc.names.lookup x=some .local∨sc.names.lookup x=some .cell)/\∀y∈sc.names,y.2≠ .free) (h1:sc.kind= .function:=by rfl) (h2:sc.isCoroutine=false:=by rfl) (h3:sc.isGenerator=false:=by rfl) (h4:N.take P.length=P:=by rfl):aw N P sc:=⟨h1,h2,h3,h.1,h4,h.2.1,h.2.2⟩
section
variable {P:Program} {w:World} {K:F5} {mg:La} {base h:Heap} {CX:qb} {k:Nat} {f c:Addr} {x m q:Str} {st:Stmt} {ps:Ld} {sp:Sp}
theorem FnAt.ex {n q:Str} {dV:Value} (a:FnAt K f n q st dV):∃fd,bh K n q st dV f fd/\Gh K (.ref f)=true:=by
 obtain ⟨_,_,_,_,_,_,_,_,_,l,c,k⟩:=a;exact ⟨_,fj (st:=st) l c k,k⟩
structure Bx (P:Program) (w:World) (base:Heap):Prop
noncomputable def dk (_:Bx P w base) (X:K.In h) (G:h.Ns mainGlobals mg) (a:bR K f x st .none) (b:Ct x x st .none ps) (ok:∀{fd:FuncData},bh K x x st .none f fd->aW P w K mg base CX k f fd ps sp):Dx P w K mg base CX k x ps [] sp:=
 have e:=a.2.ex
 ⟨f,e.choose,ok e.choose_spec.1,G5 X G a.1,e.choose_spec.2,e.choose_spec.1.binds0 b,[],e.choose_spec.1.binds0 b,.nil⟩
noncomputable def zV (_:Bx P w base) (a:oJ K c f m q st .none) (b:Ct m q st .none ps) (ok:∀{fd:FuncData},bh K m q st .none f fd->aW P w K mg base CX k f fd ps sp):kr P w K mg base CX k f ps [] sp:=
 have e:=a.2.ex
 ⟨e.choose,ok e.choose_spec.1,e.choose_spec.1.binds0 b,[],e.choose_spec.1.binds0 b,.nil⟩
end
end Sw
namespace L2
open PySem PySem.Spec PyProof.Rows XH
open Sw So
end L2
namespace Sw
open PySem L2 XH Hm
noncomputable def EC:HO->Bool
 | .lst _=>true
 | .tup _=>true
 |_=>false
abbrev RA (α:Type):=(Addr->Prop)->Hp->V->α->Prop
def An:Addr->Prop:=fun _=>True
class Mv {α:Type} (R:RA α):Prop where
 mv:∀{P P':Addr->Prop} {H H':Hp} {v:V} {x:α},(∀a o,P a->EC o=true->H a=some o->P' a/\H' a=some o)->R P H v x->R P' H' v x
theorem zW {α:Type} {R:RA α} [Mv R] {P:Addr->Prop} {H H':Hp} {v:V} {x:α} (h:R P H v x) (g:aA H H'):R P H' v x:=Mv.mv (fun a o p _ e=>⟨p,g a o e⟩) h
theorem ED {α:Type} {R:RA α} [Mv R] {P P':Addr->Prop} {H:Hp} {v:V} {x:α} (h:R P H v x) (g:∀a,P a->P' a):R P' H v x:=Mv.mv (fun a o p _ e=>⟨g a p,e⟩) h
theorem Fh {α:Type} {R:RA α} [Mv R] {P:Addr->Prop} {H:Hp} {v:V} {x:α} (h:R P H v x):R An H v x:=ED h fun _ _=>trivial
theorem Fi {α:Type} {R:RA α} [Mv R] {P:Addr->Prop} {H:Hp} {v:V} {x:α} {l:Addr} (h:R P H v x) (n:¬P l) (o:HO):R P (aL H l o) v x:=Mv.mv (fun a u p _ e=>⟨p,by
  have:a≠l:=fun z=>n (by rw[<-z];exact p)
  rw[av this];exact e⟩) h
def A2 {α:Type} (R:V->α->Prop) (vs:List V) (xs:List α):Prop:=vs.length=xs.length/\∀(i:Nat) (v:V) (x:α),vs[i]?=some v->xs[i]?=some x->R v x
theorem A2.imp {α:Type} {R S:V->α->Prop} {vs:List V} {xs:List α} (h:A2 R vs xs) (f:∀v x,R v x->S v x):A2 S vs xs:=⟨h.1,fun i v x e1 e2=>f v x (h.2 i v x e1 e2)⟩
theorem A2.get {α:Type} {R:V->α->Prop} {vs:List V} {xs:List α} (h:A2 R vs xs) {i:Nat} {x:α} (e:xs[i]?=some x):∃v,vs[i]?=some v/\R v x:=by
 have il:i<vs.length:=by rw[h.1];exact (FR.mp e).1
 exact ⟨_,F0 il,h.2 i _ x (F0 il) e⟩
theorem A2.at_ {α:Type} {R:V->α->Prop} {vs:List V} {xs:List α} (h:A2 R vs xs) {i:Nat} {v:V} (e:vs[i]?=some v):∃x,xs[i]?=some x/\R v x:=by
 have il:i<xs.length:=by rw[<-h.1];exact (FR.mp e).1
 exact ⟨_,F0 il,h.2 i v _ e (F0 il)⟩
theorem A2.nil {α:Type} {R:V->α->Prop}:A2 R [] ([]:List α):=⟨rfl,fun i a x e=>by simp at e⟩
theorem A2.append {α:Type} {R:V->α->Prop} {as bs:List V} {xs ys:List α} (h:A2 R as xs) (k:A2 R bs ys):A2 R (as++bs) (xs++ys):=by
 refine ⟨by simp[h.1,k.1],fun i a x e1 e2=>?_⟩
 by_cases c:i<as.length
 ·rw[FV c] at e1;rw[FV (by rw[<-h.1];exact c)] at e2
  exact h.2 i a x e1 e2
 ·rw[FN (by lia)] at e1
  rw[FN (by rw[<-h.1];lia),<-h.1] at e2
  exact k.2 _ a x e1 e2
theorem A2.one {α:Type} {R:V->α->Prop} {v:V} {x:α} (h:R v x):A2 R [v] [x]:=⟨rfl,fun i a y e1 e2=>by
 cases i with
 |zero=>simp at e1 e2;subst e1 e2;exact h
 |succ n=>simp at e1⟩
theorem A2.snoc {α:Type} {R:V->α->Prop} {vs:List V} {xs:List α} (h:A2 R vs xs) {v:V} {x:α} (r:R v x):A2 R (vs++ [v]) (xs++ [x]):=h.append (.one r)
def oK {α:Type} (R:RA α) (P:Addr->Prop) (H:Hp) (l:Addr) (xs:List α):Prop:=∃vs,H l=some (.lst vs)/\A2 (R P H) vs xs
def dC {α:Type} (f:α->List V):RA α:=fun P H v x=>∃t,v= .ref t/\P t/\H t=some (.tup (f x))
instance {α:Type} {f:α->List V}:Mv (dC f) where
 mv:=fun {P P' H H' v x} g h=>by
  obtain ⟨t,rfl,p,e⟩:=h;obtain ⟨p',e'⟩:=g t _ p rfl e;exact ⟨t,rfl,p',e'⟩
def vS {α:Type} (f:α->V):RA α:=fun _ _ v x=>v=f x
instance {α:Type} {f:α->V}:Mv (vS f) where
 mv:=fun _ h=>h
theorem A2.val {α:Type} {f:α->V} {P:Addr->Prop} {H:Hp} {vs:List V} {xs:List α} (h:A2 (vS f P H) vs xs):vs=xs.map f:=by
 apply Hn (by rw[F6];exact h.1)
 intro i h1 h2;rw[Gm];exact h.2 i _ _ (F0 h1) (F0 (by rw[F6] at h2;exact h2))
theorem oK.same {α:Type} {R:RA α} [Mv R] {P:Addr->Prop} {H H':Hp} {l:Addr} {xs:List α} (h:oK R P H l xs) (g:aA H H'):oK R P H' l xs:=let ⟨vs,e,r⟩:=h;⟨vs,g _ _ e,r.imp fun _ _ q=>zW q g⟩
end Sw
namespace L2
open PySem PySem.Spec PyProof.Rows XH Sw Hm
theorem zX {J:It} {β:Type} {n:Nat} {js:List Nat} {te:TE} {σ:L2.St} {H1:Hp} {Q:VK} (R:RA β) [Mv R] (Z:Addr->Prop) (f:Nat->β) (hz:n<=sizeLine) (hZ:∀a,Z a->H1 a≠none)
  (hgo:∀i H2,aA H1 H2->i<n->J.go i H2) (hst:∀H2,aA H1 H2->J.stop n H2)
  (step:∀i,i<n->∀H2 x H3,aA H1 H2->J.yld i H2 x H3->H3=H2/\∀Q':VK,(∀y H5,aA H2 H5->R (fun a=>H2 a=none∨Z a) H5 y (f i)->Q' y H5)->te (some x::bw js σ) H2 Q')
  (fin:∀p H',H1 p=none->aA H1 H'->oK R (fun a=>a≠p/\(H1 a=none∨Z a)) H' p ((Gx n).map f)->Q (.ref p) H'):nU js te σ Q J H1:=by
 intro p hp;refine ⟨fun i m ys H2=>i<=n/\m=n-i/\aA H1 H2/\H2 p=some (.lst ys)/\A2 (R (fun a=>a≠p/\(H1 a=none∨Z a)) H2) ys ((Gx i).map f),⟨n,Gi _,rfl,Sw.aj hp _,ah,A2.nil⟩,?_⟩
 rintro i m ys H2 ⟨hi,rfl,g,e,r⟩;refine ⟨e,?_⟩
 by_cases hin:i<n
 ·refine .inr ⟨hgo i H2 g hin,?_,fun x H3 hy=>?_⟩
  ·have:=r.1;rw[F6,HD] at this
   lia
  obtain ⟨rfl,h2⟩:=step i hin H2 x H3 g hy;refine h2 _ fun y H5 g5 ry=>⟨g5 _ _ e,n-(i+1),by lia,hin,rfl,Sw.fH (g.trans g5) hp _,ah,?_⟩
  rw[List.range_succ,GO];have np:¬(p≠p/\(H1 p=none∨Z p)):=fun z=>z.1 rfl
  refine ((r.imp fun v b q=>zW q g5).snoc (ED ry fun a ha=>?_)).imp fun v b q=>Fi q np _
  rcases ha with h|h
  ·exact ⟨(fun z=>by rw[z,e] at h;cases h),.inl (g.free h)⟩
  ·exact ⟨fun z=>hZ a h (z▸hp),.inr h⟩
 ·have e2:i=n:=by lia
  subst e2;exact .inl ⟨hst H2 g,fin p H2 hp g ⟨ys,e,r⟩⟩
section
variable {K:F5} {β:Type} {a:Addr} {xs:List V} {n:Nat} {js:List Nat} {tc:TT} {te:TE} {σ:L2.St} {H1:Hp} {Q:VK}
theorem mL (R:RA β) [Mv R] (Z:Addr->Prop) (f:Nat->β) (hS:aO K H1 a xs) (hz:xs.length<=sizeLine) (hZ:∀a,Z a->H1 a≠none)
  (s2:∀i x,xs[i]?=some x->∀H2,aA H1 H2->∀Q':VK,(∀y H5,aA H2 H5->R (fun a=>H2 a=none∨Z a) H5 y (f i)->Q' y H5)->te (some x::bw js σ) H2 Q')
  (fin:∀p H',H1 p=none->aA H1 H'->oK R (fun a=>a≠p/\(H1 a=none∨Z a)) H' p ((Gx xs.length).map f)->Q (.ref p) H'):nU js te σ Q (wU K a) H1:=by
 refine zX R Z f hz hZ (fun i H2 g hi=>⟨xs,xs[i],g.seq hS,F0 hi⟩) (fun H2 g=>⟨xs,g.seq hS,FO _⟩) (fun i hi H2 x H3 g hy=>?_) fin
 obtain ⟨rfl,hx⟩:=hy;exact ⟨rfl,s2 i x (hx xs (g.seq hS)) _ g⟩
end
end L2
namespace Sw
open PySem L2 XH Hm
open PySem.NumText
noncomputable def zY:Str:= "abcdefghijklmnopqrstuvwxyz"
def Nm (z:Str):Prop:=1<=(sL z).length/\(sL z).length<=12/\∀c∈sL z,97<=c/\c<=122
theorem r8 (c:Nat):(!(Builtin.Str.occurrences zY (bJ [c]) 0 zY.length 1).isEmpty)=decide (97<=c/\c<=122):=by
 rw[iD];have e:sL zY=(Gx 26).map (97+ ·):=by decide
 rw[e];apply decide_eq_decide.mpr;constructor
 ·intro h;obtain ⟨i,hi,rfl⟩:=GI.mp h;have:=List.mem_range.mp hi
  lia
 ·intro h;exact GI.mpr ⟨c-97,List.mem_range.mpr (by lia),by lia⟩
def oM (K:F5):Sp:=fun vs H Q _=>∃x:V,vs= [x]/\((∃z:Str,x= .str z/\z.length<=1000000/\(Nm z->Q (.bl true) H)/\(¬Nm z->Q (.bl false) H))∨∃ty,gH K H x ty/\G7 K ty (.type "str")=some false/\Q (.bl false) H)
end Sw
namespace L2
open PySem PySem.Spec PyProof.Rows XH Sw
end L2
namespace Sw
open PySem L2 XH Hm
theorem vT {α:Type} (xs:List α) (d:α):(Gx xs.length).map (fun i=>xs.getD i d)=xs:=by
 apply Hn
 ·rw[F6,HD]
 ·intro i h1 h2;rw[Gm,List.getElem_range,Cs (F0 h2)]
open PyProof.Rows So
structure xM (fs:List (Str×V)) (nm l m u s:V):Prop where
 name:fs.lookup ("name" :Str)=some nm
 least:fs.lookup ("least" :Str)=some l
 most:fs.lookup ("most" :Str)=some m
 uses:fs.lookup ("uses" :Str)=some u
 second:fs.lookup ("second" :Str)=some s
 word:fs.lookup ("word" :Str)=none
 span:fs.lookup ("span" :Str)=none
 grown:fs.lookup ("grown" :Str)=none
 way:fs.lookup ("grown_way" :Str)=none
 rounds:fs.lookup ("rounds" :Str)=none
theorem fM {nm l m u s:V}:xM (gf nm l m u s) nm l m u s:=by
 constructor
 all_goals
  first
   |exact vQ (by decide+kernel)
   |(unfold gf;simp only[bD];(repeat rw[if_neg (by decide+kernel)]);simp)
theorem oN {nm l m u s f:V}:xM (warmF nm l m u s f) nm l m u s:=by
 have h:=fM (nm:=nm) (l:=l) (m:=m) (u:=u) (s:=s);have k:∀{g:Str},g≠ "fill" ->(warmF nm l m u s f).lookup g=(gf nm l m u s).lookup g:=fun {g} hg=>by
  unfold warmF;rw[bD,if_neg hg]
 exact ⟨(k (by decide+kernel)).trans h.name,(k (by decide+kernel)).trans h.least,(k (by decide+kernel)).trans h.most,(k (by decide+kernel)).trans h.uses,(k (by decide+kernel)).trans h.second,(k (by decide+kernel)).trans h.word,(k (by decide+kernel)).trans h.span,(k (by decide+kernel)).trans h.grown,(k (by decide+kernel)).trans h.way,(k (by decide+kernel)).trans h.rounds⟩
abbrev qD:=Option (Int×Int×Le)
def jN (H:Hp) (s:V):qD->Prop
 |none=>s= .non
 |some (x,y,vs)=>∃t l2,s= .ref t/\H t=some (.tup [.int x,.int y,.ref l2])/\H l2=some (.lst (vs.map V.ref))
def vU (H0 H:Hp) (s:V):qD->Prop
 |none=>s= .non
 |some (x,y,vs)=>∃t l2,s= .ref t/\H t=some (.tup [.int x,.int y,.ref l2])/\H l2=some (.lst (vs.map V.ref))/\H0 t=none/\H0 l2=none
theorem jN.same {H H':Hp} (g:aA H H') {s:V}:∀{c:qD},jN H s c->jN H' s c
 |none,h=>h
 |some (_,_,_),⟨t,l2,h1,h2,h3⟩=>⟨t,l2,h1,g _ _ h2,g _ _ h3⟩
def yR (H:Hp) (u:V) (us:Le):Prop:=(u= .non/\us= [])∨∃l,u= .ref l/\H l=some (.lst (us.map V.ref))
def gR (K:F5):Sp:=fun vs H Q _=>∃(a C dx:Addr) (nm:Str) (l m:Int) (uv sv:V) (us:Le) (c:qD),vs= [.ref a,.str nm,.int l,.int m,uv,sv]/\H a=some (.ins C dx [])/\jK K C/\yR H uv us/\jN H sv c/\
 ∀(u:Addr) (s:V) (H':Hp),Kept H H' a->u≠a->H u=none->H' u=some (.lst (us.map V.ref))->vU H H' s c->H' a=some (.ins C dx (gf (.str nm) (.int l) (.int m) (.ref u) s))->Q .non H'
def i8 (K:F5):Sp:=fun vs H Q _=>∃(a C dx:Addr) (nm:Str) (l m:Int) (fl uv sv:V) (us:Le) (c:qD),vs= [.ref a,.str nm,.int l,.int m,fl,uv,sv]/\H a=some (.ins C dx [])/\jK K C/\aE K C "fill" /\yR H uv us/\jN H sv c/\
 ∀(u:Addr) (s:V) (H':Hp),Kept H H' a->u≠a->H u=none->H' u=some (.lst (us.map V.ref))->vU H H' s c->H' a=some (.ins C dx (warmF (.str nm) (.int l) (.int m) (.ref u) s fl))->Q .non H'
structure Up (n l p q:Int):Prop where
 lo:l*p<=n*q
 hi:(n-1)*q<l*p
def xN (cut:Bool) (l p q n:Int):Prop:=if cut=true then Up n l p q/\Bd 2000 n else n=l
def mM (K:F5) (cut:Bool):Sp:=fun vs H Q _=>∃(x:V) (l m p q:Int) (tf:Addr),vs= [x,.int l,.int m,.ref tf]/\cL K 210 H tf p q/\Bd 210 l/\Bd 210 m/\
 ∀(t:Addr) (H':Hp) (n k:Int),aA H H'->H' t=some (.tup [.int n,.int k])->xN cut l p q n->xN cut m p q k->Q (.ref t) H'
def jO (K:F5):Sp:=fun vs H Q _=>∃(l p q:Int) (tf:Addr),vs= [.int l,.ref tf]/\cL K 210 H tf p q/\Bd 210 l/\∀(n:Int) (H':Hp),aA H H'->xN true l p q n->Q (.int n) H'
structure EE (K:F5) (C fg fw fs ft:Addr) (cut:Bool):Prop where
 c:jK K C
 grown:cA K C "grown" fg
 way:cA K C "grown_way" fw
 span:cA K C "span" (if cut=true then ft else fs)
structure UL (H:Hp) (us:Le) (f:Addr->Str):Prop where
 tup:∀a∈us,∃m k:Int,H a=some (.tup [.str (f a),.int m,.int k])
 nd:(us.map f).Nodup
 sm:us.length<64
theorem UL.same {H H':Hp} {us:Le} {f:Addr->Str} (h:UL H us f) (g:aA H H'):UL H' us f:=⟨fun a ha=>let ⟨m,k,e⟩:=h.tup a ha;⟨m,k,g _ _ e⟩,h.nd,h.sm⟩
structure vV (us bs:Le) (f:Addr->Str):Prop where
 perm:bs.Perm us
 srt:sortedS (bs.map f)=true
structure fN (H0 H:Hp) (t:Addr) (cut:Bool) (l m p q:Int) (us:Le) (f:Addr->Str):Prop where
 ex:∃(n k:Int) (ls:Addr) (bs:Le),H t=some (.tup [.int n,.int k,.ref ls])/\H ls=some (.lst (bs.map V.ref))/\xN cut l p q n/\xN cut m p q k/\vV us bs f/\H0 ls=none
theorem fN.same {H0 H H':Hp} {t:Addr} {cut:Bool} {l m p q:Int} {us:Le} {f:Addr->Str} (h:fN H0 H t cut l m p q us f) (g:aA H H'):fN H0 H' t cut l m p q us f:=by
 obtain ⟨n,k,ls,bs,e1,e2,r⟩:=h.ex;exact ⟨n,k,ls,bs,g _ _ e1,g _ _ e2,r⟩
def vW (K:F5) (fg fw fs ft:Addr):Sp:=fun vs H Q _=>∃(x C dx lu tf:Addr) (l m p q:Int) (us:Le) (f:Addr->Str) (ff:List (Str×V)) (cut:Bool),vs= [.ref x,.int l,.int m,.ref lu,.ref tf]/\H x=some (.ins C dx ff)/\ff.lookup ("span" :Str)=none/\EE K C fg fw fs ft cut/\
 cL K 210 H tf p q/\Bd 210 l/\Bd 210 m/\H lu=some (.lst (us.map V.ref))/\UL H us f/\∀(t:Addr) (H':Hp),aA H H'->fN H H' t cut l m p q us f->Q (.ref t) H'
theorem Cu {l p q r s:Int} (F:Fr r s (l*p) (1*q)) (hq:0<q):Up (-((-r).fdiv s)) l p q:=by
 have c:=F.same;rw[Int.one_mul] at c;have ub:=kR (p:=r) F.pos;have sp:=F.pos;generalize-((-r).fdiv s)=n at ub⊢;refine ⟨Int.le_of_mul_le_mul_right (a:=s) ?_ sp,Int.lt_of_mul_lt_mul_right (a:=s) ?_ (HQ sp)⟩
 ·rw[<-c];have:=Int.mul_le_mul_of_nonneg_right ub.1 (HQ hq);rw[show n*q*s=n*s*q by ac_rfl]
  exact this
 ·rw[<-c];have:=Int.mul_lt_mul_of_pos_right ub.2 hq;rw[show (n-1)*q*s=(n-1)*s*q by ac_rfl]
  exact this
theorem vU.self {H0 H:Hp} {a C dx:Addr} {fs:List (Str×V)} {o:HO} {s:V} (ea:H a=some (.ins C dx fs)):∀{c:qD},vU H0 H s c->vU H0 (aL H a o) s c
 |none,h=>h
 |some (_,_,_),⟨t,l2,h1,h2,h3,h4,h5⟩=>⟨t,l2,h1,by rw[av (fun z=>by rw[z,ea] at h2;cases h2)];exact h2,by rw[av (fun z=>by rw[z,ea] at h3;cases h3)];exact h3,h4,h5⟩
end Sw
namespace L2
open PySem PySem.Spec PyProof.Rows XH Sw
end L2
namespace Sw
open PySem L2 XH PyProof.Rows
structure wM (K:F5) (C:Addr):Prop where
 ha:Ga K (.ref C) "__class__" =some (some (.builtin "object.__class__"))
 hn:PySem.W.specialIn K (.builtin "object.__class__") "__get__" =some (some (.builtin "getset_descriptor.__get__"))
 htk:PySem.W.takesIn K (.builtin "object.__class__")=some true
 hm:PySem.W.mroIn K C (.type "object")=some true
structure Fj (H:Hp) (x C:Addr) (nm:Str) (l m:Int) (us:Le) (c:qD):Prop where
 ex:∃(dx u:Addr) (s:V) (ff:List (Str×V)),H x=some (.ins C dx ff)/\xM ff (.str nm) (.int l) (.int m) (.ref u) s/\H u=some (.lst (us.map V.ref))/\jN H s c
abbrev Due:=Int×Int×Le
noncomputable def fv (l m:Int) (us:Le):qD->List Due
 |none=> [(l,m,us)]
 |some d=> [(l,m,us),d]
structure vX (H0 H:Hp) (lw:Addr) (cut:Bool) (p q:Int) (ds:List Due) (f:Addr->Str):Prop where
 ex:∃ts:Le,H lw=some (.lst (ts.map V.ref))/\ts.length=ds.length/\H0 lw=none/\(∀(i:Nat) (t:Addr) (d:Due),ts[i]?=some t->ds[i]?=some d->fN H0 H t cut d.1 d.2.1 p q d.2.2 f)/\
  ∀(i j:Nat) (t t':Addr) (n k n' k':Int) (ls ls':Addr),ts[i]?=some t->ts[j]?=some t'->H t=some (.tup [.int n,.int k,.ref ls])->H t'=some (.tup [.int n',.int k',.ref ls'])->ls≠lw/\(i≠j->ls≠ls')
def oO (K:F5) (fg fw fs ft:Addr):Sp:=fun vs H Q _=>∃(x C tf:Addr) (nm:Str) (l m p q:Int) (us:Le) (c:qD) (f:Addr->Str) (cut:Bool),vs= [.ref x,.ref tf]/\Fj H x C nm l m us c/\EE K C fg fw fs ft cut/\cL K 210 H tf p q/\
 (∀d∈fv l m us c,Bd 210 d.1/\Bd 210 d.2.1/\UL H d.2.2 f)/\∀(lw:Addr) (H':Hp),aA H H'->vX H H' lw cut p q (fv l m us c) f->Q (.ref lw) H'
theorem fN.putA {H0 H1 H3:Hp} {t b:Addr} {cut:Bool} {l m p q:Int} {us:Le} {f:Addr->Str} {o:HO} (h:fN H0 H1 t cut l m p q us f) (nb:H1 b=none) (g:aA H1 H3):fN H0 (aL H3 b o) t cut l m p q us f:=by
 obtain ⟨n,k,ls,bs,e1,e2,r⟩:=h.ex;exact ⟨n,k,ls,bs,by rw[av (aP e1 nb)];exact g _ _ e1,by rw[av (aP e2 nb)];exact g _ _ e2,r⟩
theorem fN.putB {H0 H2 H3:Hp} {t b:Addr} {cut:Bool} {l m p q:Int} {us:Le} {f:Addr->Str} {o w:HO} {zs:List V} (h:fN H2 H3 t cut l m p q us f) (eb:H2 b=some w) (eb3:H3 b=some (.lst zs)) (g:aA H0 H2):fN H0 (aL H3 b o) t cut l m p q us f:=by
 obtain ⟨n,k,ls,bs,e1,e2,r1,r2,r3,r4⟩:=h.ex;exact ⟨n,k,ls,bs,by rw[av (fun z=>by rw[z,eb3] at e1;cases e1)];exact e1,by rw[av (fun z=>by rw[z,eb] at r4;cases r4)];exact e2,r1,r2,r3,g.free r4⟩
theorem dH {H:Hp} {x dx C:Addr} (nx:H x=none) (nd:H dx=none):aA H (aL (aL H dx (.own x)) x (.ins C dx [])):=fun b o h=>by
 rw[av (aP h nx),av (aP h nd)];exact h
noncomputable def wN (H:Hp) (a:Addr):Str:=match H a with|some (.tup (.str y::_))=>y|_=>Str.empty
end Sw
namespace L2
open PySem PySem.Spec PyProof.Rows XH Sw
theorem qE {cs:Le} {its:Lf} (h:aX (cs.map V.ref) its):its=cs.map Value.ref:=by
 induction cs generalizing its with
 |nil=>cases h;rfl
 |cons c cs ih=>
  cases h with
  |cons r rr=>cases r;rw[ih rr];rfl
theorem jP {X:Cx} {K:F5} (hK:X.K=K):c7 X (.builtin "isinstance") (fun xs H Q=>∃(a C:Addr) (dx:Lg) (t:Addr) (cs:Le) (b:Bool),xs= [.ref a,.ref t]/\(∃n,H a=some (qm n a (.ref C) dx))/\rA H dx/\XI K C/\H t=some (.tup (cs.map V.ref))/\PySem.W.kitAny K (.ref C) (cs.map Value.ref)=some b/\Q (.bl b) H):=by
 subst hK;intro pins s σ H xs us Q I r h;obtain ⟨a,C,dx,t,cs,b,rfl,⟨n,e⟩,d,xi,et,ka,q⟩:=h;obtain ⟨u,w',rfl,e1,e2⟩:=vals2 r;cases e1;cases e2;obtain ⟨_,its,hv,ht⟩:=(show cq X.prog X.w H s.heap t (.tup (cs.map V.ref)) from I.hok t _ et)
 rw[qE hv] at ht;obtain ⟨⟨oc,od,odt,osl⟩,hg,h1,m,h2⟩:=ht;cases h1;cases h2;exact PySem.W.kia_tup (jx xi) I.kIn (mq I e d) hg ka (fun z=>nomatch z) fun tk=>⟨.bl b,H,I.tok tk,rfl,q⟩
theorem xO {X:Cx} {e:Expr} {ta:TE} {f:Str} {pos:Pos} {K:F5} (hK:X.K=K) (he:PE X e ta) (hb:attributeBase e f X.env (eval e X.env)=eval e X.env):PE X (.Attribute e f pos) (B3 K ta f):=by
 subst hK;exact bI he hb
end L2
namespace Sw
open PySem L2 XH PyProof.Rows
def Lt (z:Str):Prop:=∀c∈sL z,97<=c/\c<=122
theorem Lt.app {x y:Str} (h:Lt x) (k:Lt y):Lt (x++y):=fun c hc=>by
 rw[ci] at hc;rcases GD.mp hc with q|q
 ·exact h c q
 ·exact k c q
theorem Lt.cut {x:Str} (h:Lt x) (lo hi:Option Int):Lt (dZ x lo hi):=fun c hc=>by
 have hc':c∈((sL x).drop (HT.eJ x.length 0 lo)).take (HT.eJ x.length x.length hi-HT.eJ x.length 0 lo):=by simpa [sL,dZ] using hc
 exact h c (List.mem_of_mem_drop (List.mem_of_mem_take hc'))
theorem Lt.nil:Lt "" :=fun c hc=>by
 have:c∈([]:List Nat):=hc;simp at this
theorem vY {i:Int} (h0:0<=i) (h:i<26):∃c,fe eI.cps.toList i=some c/\97<=c/\c<=122:=by
 obtain ⟨c,hc⟩:=rT h0 h;refine ⟨c,hc,?_⟩;have hm:c∈eI.cps.toList:=by
  unfold fe at hc;obtain ⟨j,_,hj⟩:=GY.mp hc;exact F9 hj
 have e:eI.cps.toList=(Gx 26).map (97+ ·):=by decide
 rw[e] at hm;obtain ⟨k,hk,rfl⟩:=GI.mp hm;have:=List.mem_range.mp hk
 lia
theorem Lt.one {c:Nat} (h:97<=c/\c<=122):Lt ⟨#[c]⟩:=fun d hd=>by
 have:d∈ [c]:=hd;rw[G3.mp this];exact h
theorem gS {x:Str} {i:Int} (h:0<=i):(dZ x none (some i)).length=min i.toNat x.length:=by
 have e1:HT.eJ x.length 0 none=0:=rfl;have e2:HT.eJ x.length x.length (some i)=min i.toNat x.length:=by
  unfold HT.eJ;simp;omega
 show ((x.cps.toList.drop _).take _).toArray.size=_;rw[e1,e2,GN,GG,Gd];have:x.cps.toList.length=x.length:=by simp[Str.length]
 lia
theorem xP {x:Str} {i:Int} (h:0<=i):(dZ x (some i) none).length=x.length-i.toNat:=by
 have e1:HT.eJ x.length 0 (some i)=min i.toNat x.length:=by
  unfold HT.eJ;simp;omega
 have e2:HT.eJ x.length x.length none=x.length:=rfl;show ((x.cps.toList.drop _).take _).toArray.size=_;rw[e1,e2,GN,GG,Gd];have:x.cps.toList.length=x.length:=by simp[Str.length]
 lia
theorem Lt.nm {z:Str} (h:Lt z) (h1:1<=z.length) (h2:z.length<=12):Nm z:=⟨by rw[dm];exact h1,by rw[dm];exact h2,h⟩
end Sw
namespace L2
open PySem PySem.Spec PyProof.Rows XH Sw
end L2
namespace Sw
open PySem L2 XH Hm PySem.NumText
end Sw
namespace L2
open PySem PySem.Spec PyProof.Rows XH Sw
end L2
namespace Sw
open PySem L2 XH Hm
end Sw
namespace L2
open PySem PySem.Spec PyProof.Rows XH Sw Hm
variable {X:Cx}
theorem lx (hc:X.calm=true):c7 X (.builtin "sum") (fun xs H Q=>∃(a:Addr) (ns:List Int),xs= [.ref a]/\aO X.K H a (ns.map V.int)/\Q (.int ns.sum) H):=by
 intro pins s σ H xs us Q I r h;obtain ⟨a,ns,rfl,h1,q⟩:=h;obtain ⟨u,rfl,r1⟩:=vals1 r;cases r1;obtain ⟨its,rv,p,hz⟩:=I.list h1;have hi:=rM rv;obtain ⟨xs,e⟩:=hi.allInts.items;have lst:xs.toList.map (·.1)=ns:=by
  rw[<-hi.numsOf,<-nums_intItems xs,<-e]
 refine sum_intListG (I.ok.hd hc) (xs:=xs) (by have z:=p.isList;rw[e] at z;exact z) fun h' tk t hk=>?_
 refine ⟨.int ns.sum,H,I.kept (h':=h') (t':=tk) hk,⟨t,?_⟩,q⟩;rw[preSum_eq,Gp (by simp),lst]
end L2
namespace Sw
open PySem L2 XH Hm
end Sw
theorem aF {A B:Type} {p:A->B->Prop} (a:A) (b:B) (h:p a b):∃a b,p a b:=⟨a,b,h⟩
theorem b5 {A B C:Type} {p:A->B->C->Prop} (a:A) (b:B) (c:C) (h:p a b c):∃a b c,p a b c:=⟨a,b,c,h⟩
theorem aH {A B C D:Type} {p:A->B->C->D->Prop} (a:A) (b:B) (c:C) (d:D) (h:p a b c d):∃a b c d,p a b c d:=⟨a,b,c,d,h⟩
theorem iM {A B C D E F:Type} {p:A->B->C->D->E->F->Prop} (a:A) (b:B) (c:C) (d:D) (e:E) (f:F) (h:p a b c d e f):∃a b c d e f,p a b c d e f:=⟨a,b,c,d,e,f,h⟩
theorem i9 {A B C D E F H I J:Type} {p:A->B->C->D->E->F->H->I->J->Prop} (a:A) (b:B) (c:C) (d:D) (e:E) (f:F) (g:H) (i:I) (j:J) (h:p a b c d e f g i j):∃a b c d e f g i j,p a b c d e f g i j:=⟨a,b,c,d,e,f,g,i,j,h⟩
theorem jQ {A:Type} {p:A->Prop} {G:Prop}:(∃a,p a)->(∀a,p a->G)->G
 |⟨a,h⟩,k=>k a h
theorem zZ {A B:Type} {p:A->B->Prop} {G:Prop}:(∃a b,p a b)->(∀a b,p a b->G)->G
 |⟨a,b,h⟩,k=>k a b h
theorem FH {A B C:Type} {p:A->B->C->Prop} {G:Prop}:(∃a b c,p a b c)->(∀a b c,p a b c->G)->G
 |⟨a,b,c,h⟩,k=>k a b c h
theorem ku {A B C D:Type} {p:A->B->C->D->Prop} {G:Prop}:(∃a b c d,p a b c d)->(∀a b c d,p a b c d->G)->G
 |⟨a,b,c,d,h⟩,k=>k a b c d h
theorem tU {A B C D E F:Type} {p:A->B->C->D->E->F->Prop} {G:Prop}:(∃a b c d e f,p a b c d e f)->(∀a b c d e f,p a b c d e f->G)->G
 |⟨a,b,c,d,e,f,h⟩,k=>k a b c d e f h
theorem mO {A B C D E F H I J:Type} {p:A->B->C->D->E->F->H->I->J->Prop} {G:Prop}:(∃a b c d e f g i j,p a b c d e f g i j)->(∀a b c d e f g i j,p a b c d e f g i j->G)->G
 |⟨a,b,c,d,e,f,g,i,j,h⟩,k=>k a b c d e f g i j h
theorem iV {A B G:Prop} (h:A/\B) (k:A->B->G):G:=k h.1 h.2
theorem sd {A B C G:Prop} (h:A/\B/\C) (k:A->B->C->G):G:=k h.1 h.2.1 h.2.2
theorem BG {A B C D G:Prop} (h:A/\B/\C/\D) (k:A->B->C->D->G):G:=k h.1 h.2.1 h.2.2.1 h.2.2.2
theorem im {A B C D E F G:Prop} (h:A/\B/\C/\D/\E/\F) (k:A->B->C->D->E->F->G):G:=k h.1 h.2.1 h.2.2.1 h.2.2.2.1 h.2.2.2.2.1 h.2.2.2.2.2
theorem BH {A B C D E F H I J G:Prop} (h:A/\B/\C/\D/\E/\F/\H/\I/\J) (k:A->B->C->D->E->F->H->I->J->G):G:=k h.1 h.2.1 h.2.2.1 h.2.2.2.1 h.2.2.2.2.1 h.2.2.2.2.2.1 h.2.2.2.2.2.2.1 h.2.2.2.2.2.2.2.1 h.2.2.2.2.2.2.2.2
namespace Su
open PySem L2
open PySem.Spec PyProof.Rows XH
open Sw So
open Hm
end Su
namespace L2
open PySem PySem.Spec PyProof.Rows XH Sw Hm
end L2
namespace Sw
open PySem L2 XH Hm
end Sw
namespace L2
open PySem PySem.Spec PyProof.Rows XH Sw
section
variable {X:Cx} {k j:Nat} {f:Addr} {ps:Ld} {sp:Sp} {dvs:List V} {m:Str} {pos apos:Pos} {e o:Expr} {es:List Expr} {ta:TE} {t:TA}
theorem se {pl:Sem Bool} {K:F5} (hK:X.K=K) (he:PE X o ta) (D:kr X.prog X.w X.K X.mg X.base aV k f ps dvs sp) (hr:b8 j X.A) (hk:k<=j) (ha:PA X (e::es) t)
  (hst:starEach (e::es) X.env=(false,eval e X.env)::starEach es X.env:=by rfl) (hpl:(backTo pos (starEach es X.env)).any (·.1)=false:=by rfl)
  (ht:eval (.Call (.Attribute o m apos) (e::es) [] pos) X.env=(do
   let ov<-eval o X.env
   standAt apos.atName
   let (f,first)<-holding [ov] (getMethod ov m pl)
   callWith pos f first (backTo pos (starEach (e::es) X.env)) (backToKw pos (keywordEach [] X.env))):=by rfl):
  PE X (.Call (.Attribute o m apos) (e::es) [] pos) (vq K m f sp [] ta t):=by
 subst hK;exact iz he D hr hk ha hst hpl ht
end
end L2
namespace Sw
open PySem L2 XH Hm
def EF (c:Addr) (G:Hp) (E:XK):Prop:=∀H',aA G H'->E (.ref c) none H'
def rQ (pr:Nat->Int->Prop):RA Nat:=fun _ _ v i=>∃n:Int,v= .int n/\pr i n
instance {pr:Nat->Int->Prop}:Mv (rQ pr):=⟨fun _ h=>h⟩
theorem xQ {pr:Nat->Int->Prop} {P:Addr->Prop} {H:Hp} {vs:List V} {n:Nat} (h:A2 (rQ pr P H) vs ((Gx n).map fun i=>i)):∃ns:List Int,vs=ns.map V.int/\ns.length=n/\∀(i:Nat) (k:Int),ns[i]?=some k->pr i k:=by
 obtain ⟨h1,h2⟩:=h;rw[F6,HD] at h1;have at_:∀(i:Nat) (v:V),vs[i]?=some v->∃k:Int,v= .int k/\pr i k:=fun i v hv=>h2 i v i hv (by
  have:=(FR.mp hv).1;rw[FP,List.getElem?_range (by lia)]
  rfl)
 refine ⟨vs.map fun v=>match v with| .int k=>k|_=>0,?_,by rw[F6];exact h1,fun i k hk=>?_⟩
 ·apply HE;intro i;rw[FP,FP];cases e:vs[i]? with
  |none=>rfl
  |some v=>
   obtain ⟨k,rfl,_⟩:=at_ i v e
   rfl
 ·rw[FP] at hk;obtain ⟨v,hv,rfl⟩:=GS.mp hk;obtain ⟨k,rfl,p⟩:=at_ i v hv;exact p
theorem jR {p q a b:Int} (F:Fr p q a b) (ha:0<a) (hb:0<b):0<p:=by
 have h:=F.same;have k:=Gr ha F.pos;rcases Int.lt_or_le 0 p with c|c
 ·exact c
 ·exfalso;have:p*b<=0:=Int.mul_nonpos_of_nonpos_of_nonneg c (HQ hb)
  lia
theorem jS:∀{ns:List Int},(∀n∈ns,1<=n)->(ns.length:Int)<=ns.sum
 | [],_=>by simp
 |n::ns,h=>by
  have h1:=jS (ns:=ns) fun k hk=>h k (FS _ hk)
  have h2:=h n GM;rw[Hw,G6]
  lia
theorem qF:∀{ns:List Int},(∀n∈ns,1<=n)->∀{i:Nat} {n:Int},ns[i]?=some n->n<=ns.sum
 | [],_,i,n,h=>by simp at h
 |m::ns,hp,i,n,h=>by
  rw[Hw];have h1:=jS (ns:=ns) fun k hk=>hp k (FS _ hk)
  have h2:=hp m GM;cases i with
  |zero=>simp at h;lia
  |succ i=>
   have:=qF (ns:=ns) (fun k hk=>hp k (FS _ hk)) (i:=i) (n:=n) (by simpa using h)
   lia
def iF (K:F5):Sp:=fun vs H Q _=>∃(r C dx:Addr) (fl:List (Str×V)) (n p0:Int),vs= [.ref r,.int n]/\H r=some (.ins C dx fl)/\iI K C/\aE K C "plates" /\fl.lookup ("plates" :Str)=some (.int p0)/\1<=p0/\p0<=1000/\∀p q:Int,Fr p q n p0->Pair H Q p q
theorem vZ {xs:List V} {n:Nat} {v:V} (h:xs.length=n+1) (e:xs[n]?=some v):fe xs (-1)=some v:=by
 have k:fe xs (-1)=xs[n]?:=by
  have q:uQ (n+1) (-1)=some n:=by
   unfold uQ;rw[if_neg (by lia),if_pos (by lia)]
   congr 1
   lia
  unfold fe;rw[h,q]
  rfl
 rw[k];exact e
end Sw
namespace L2
open PySem PySem.Spec PyProof.Rows XH Sw
end L2
namespace Sw
open PySem L2 XH Hm
open PySem.NumText
end Sw
namespace L2
open PySem
end L2
namespace Sw
open PySem L2 XH Hm PySem.NumText
end Sw
namespace L2
open PySem
end L2
namespace Sw
open PySem L2 XH Hm PySem.NumText
end Sw
namespace L2
open PySem
end L2
namespace Sw
open PySem L2 XH Hm PySem.NumText
end Sw
namespace L2
open PySem PySem.Spec PyProof.Rows XH
end L2
namespace Sw
open PySem L2 XH Hm PySem.NumText
end Sw
namespace L2
open PySem PySem.Spec PyProof.Rows XH Sw Hm
end L2
namespace Sw
open PySem L2 XH Hm PySem.NumText
end Sw
namespace L2
open PySem PySem.Spec PyProof.Rows XH Sw Hm
end L2
namespace Sw
open PySem L2 XH Hm PySem.NumText
end Sw
namespace L2
open PySem PySem.Spec PyProof.Rows XH Sw Hm
end L2
namespace Sw
open PySem L2 XH Hm PySem.NumText
end Sw
namespace L2
open PySem PySem.Spec PyProof.Rows XH Sw
noncomputable def mP:Value->Bool
 | .none=>true
 |_=>false
theorem oP {a b:Str} {p q:Prop} (h1:a=b->p) (h2:a≠b->q):if decide (V.str a=V.str b)=true then p else q:=by
 by_cases e:a=b
 ·subst e;rw[if_pos (by simp)];exact h1 rfl
 ·rw[if_neg (by simp[e])];exact h2 e
end L2
namespace Sw
open PySem L2 XH Hm PySem.NumText
noncomputable def bT (n:Nat):Str:=bJ (dg n)
noncomputable def vN (n:Nat):V:= .int (n:Int)
noncomputable def nA:Str:=bJ [32]
noncomputable def sg:Str:=bJ [10]
noncomputable def Aa (l:List Nat):Bool:=decide (1<=l.length)&&decide (l.length<=30)&&(decide (l.head?≠some 48)||decide (l= [48]))&&l.all fun c=>decide (48<=c/\c<=57)
noncomputable def BI (z:Str):Bool:=decide (1<=(sL z).length)&&decide ((sL z).length<=12)&&(sL z).all fun c=>decide (97<=c/\c<=122)
theorem gU (z:Str):BI z=true↔Nm z:=by
 unfold BI Nm;simp[and_assoc]
def oQ (K:F5) (a:Addr) (xs:Ld):Prop:=∃(o:Obj) (its:Array Value) (n:Nat),K.lookup a=some o/\o.cls= .type "tuple" /\o.data= .seq its n/\its.size<=sizeLine/\aX (xs.map V.str) its.toList
theorem oQ.sq {K:F5} {a:Addr} {xs:Ld} (h:oQ K a xs) (H:Hp):bi K H a (xs.map V.str):= .inr h
theorem du {n:Nat} (h:n<=999999999):(bT n).length<=9:=by
 have:=dM (n:=n) (k:=8) (by lia)
 rw[<-dm,bT,bB];exact this
theorem gy {n:Nat} (h:n<=999999999):(n:Int).natAbs.log2<1920:=lg (Ge h (by decide))
theorem gW {m:Nat}:∀{ws:Ld},(∀w∈ws,w.length<=m)->(ws.map fun x=>x.length).sum<=m*ws.length
 | [],_=>FO _
 |w::ws,h=>by
  have h1:=h w GM;have h2:=gW (ws:=ws) fun x hx=>h x (FS _ hx)
  rw[Gw,Hw,G6,Nat.mul_add]
  lia
theorem map_getD {α β:Type} (f:α->β) (xs:List α) (d:α):(Gx xs.length).map (fun i=>f (xs.getD i d))=xs.map f:=by
 conv=>rhs;rw[<-vT xs d,Gy]
 rfl
def EG (ws:Ld):Prop:=ws.length<=100000/\∀w∈ws,w.length<=10000
theorem jT (l:List Nat):Aa l=true↔xE l:=by
 unfold Aa xE AllDigits;simp[and_assoc]
theorem xR {z:Str} {c:Nat} (h:z.length<=10000):EG (Txt.split z (bJ [c])):=by
 have j:=congrArg Str.length (StrLaws.join_split z (bJ [c]));rw[<-StrLaws.glued_eq_join,PySem.size_glued,cD] at j;have one:∀{ws:Ld} {w:Str},w∈ws->w.length<=(ws.map fun x=>x.length).sum:=fun {ws w} hw=>by
  induction ws with
  |nil=>cases hw
  |cons x ws ih=>
   rw[Gw,Hw];rcases F8.mp hw with rfl|hw
   ·lia
   ·have:=ih hw;lia
 refine ⟨?_,fun w hw=>?_⟩
 ·simp at j
  lia
 ·have:=one hw
  lia
abbrev bu:=Str×Nat×Nat
abbrev dE:=Nat×Nat
structure SV where
 w:Str
 n:Str
 lo:Nat
 hi:Nat
 fill:Option dE
 uses:List bu
 sec:Option (Nat×Nat×List bu)
abbrev Ab:=Str×Nat×Nat×Nat
structure Md where
 takes:List (Str×dE)
 steps:List SV
 links:List Ab
noncomputable def oR (a:dE):Str:=bJ (c6 a.1 a.2)
noncomputable def oS:Option dE->Ld
 |none=> []
 |some a=> [oR a]
noncomputable def dP (w n:Str) (u:bu):Ld:= [w,n,u.1,bT u.2.1,bT u.2.2]
noncomputable def gz (s:SV):Ld:= [s.w,s.n,bT s.lo,bT s.hi]++oS s.fill
noncomputable def gX (n:Str) (lo hi:Nat):Ld:= ["or",n,bT lo,bT hi]
noncomputable def mQ (w a b:Str) (t:Nat):Ld:= [w,a,b]++if w= "within" then [bT t] else []
noncomputable def jB (ws:Ld):Str:=Txt.join nA ws
noncomputable def Ac (ss:List SV) (i:Nat):Str:=(ss.map fun s=>s.n).getD i ""
noncomputable def cn (n:Str) (p:Nat):Str:=jB ["dish",n,bT p]
structure v4 (a:dE):Prop where
 pos:0<a.1
 rd:Reads (c6 a.1 a.2) a.1 a.2
 bp:a.1<10^40
 bq:a.2<10000
 len:(c6 a.1 a.2).length<=40
def xS (lo hi:Nat):Prop:=1<=lo/\lo<=hi/\hi<=100000
def v5 (w:Str):Prop:=w= "cut" ∨w= "rest" ∨w= "warm"
def Fk (w:Str):Prop:=w= "after" ∨w= "within" ∨w= "apart"
def v6 (w:Str):Option dE->Prop
 |none=>w≠ "warm"
 |some a=>w= "warm" /\v4 a
inductive wO where
 |twice
 |nostep
 |full
inductive Rr where
 |take (g:Str) (a:dE)
 |step (w n:Str) (lo hi:Nat) (f:Option dE)
 |sec (n:Str) (lo hi:Nat)
 |use (o:Bool) (n:Str) (u:bu)
 |link (w a b:Str) (t:Nat)
noncomputable def iW:Rr->Ld
 | .take g a=> ["take",g,oR a]
 | .step w n lo hi f=> [w,n,bT lo,bT hi]++oS f
 | .sec n lo hi=>gX n lo hi
 | .use o n u=>dP (if o=true then "orwith" else "with") n u
 | .link w a b t=>mQ w a b t
noncomputable def fA (r:Rr):Str:=jB (iW r)
def gB:Rr->Prop
 | .take g a=>Nm g/\v4 a
 | .step w n lo hi f=>v5 w/\Nm n/\xS lo hi/\v6 w f
 | .sec n lo hi=>Nm n/\xS lo hi
 | .use _ n u=>Nm n/\Nm u.1/\1<=u.2.1/\u.2.1<=8/\u.2.2<=1000
 | .link w a b t=>Fk w/\Nm a/\Nm b/\a≠b/\t<=100000/\(w≠ "within" ->t=0)
noncomputable def place (M:Md) (n:Str):Option Nat:=M.steps.findIdx? fun s=>decide (s.n=n)
noncomputable def gC (M:Md) (n:Str) (f:SV->Except wO SV):Except wO Md:=match place M n with
 |none=> .error .nostep
 |some i=>match M.steps[i]? with
  |none=> .error .nostep
  |some s=>match f s with
   | .error e=> .error e
   | .ok s'=> .ok {M with steps:=M.steps.set i s'}
noncomputable def tV (us:List bu) (u:bu):Except wO (List bu):=if u.1∈us.map (fun x=>x.1) then .error .twice else if us.length=12 then .error .full else .ok (us++ [u])
noncomputable def fO (M:Md):Rr->Except wO Md
 | .take g a=>if g∈M.takes.map (fun x=>x.1) then .error .twice else if M.takes.length=12 then .error .full else .ok {M with takes:=M.takes++ [(g,a)]}
 | .step w n lo hi f=>if n∈M.steps.map (fun s=>s.n) then .error .twice else if M.steps.length=12 then .error .full else .ok {M with steps:=M.steps++ [⟨w,n,lo,hi,f,[],none⟩]}
 | .sec n lo hi=>gC M n fun s=>match s.sec with
  |some _=> .error .twice
  |none=> .ok {s with sec:=some (lo,hi,[])}
 | .use false n u=>gC M n fun s=>match tV s.uses u with
  | .error e=> .error e
  | .ok us=> .ok {s with uses:=us}
 | .use true n u=>gC M n fun s=>match s.sec with
  |none=> .error .nostep
  |some (lo,hi,us)=>match tV us u with
   | .error e=> .error e
   | .ok us=> .ok {s with sec:=some (lo,hi,us)}
 | .link w a b t=>match place M a with
  |none=> .error .nostep
  |some i=>match place M b with
   |none=> .error .nostep
   |some j=>if M.links.length=24 then .error .full else .ok {M with links:=M.links++ [(w,i,j,t)]}
theorem bv {α:Type} {xs:List α} {i:Nat} {x:α} (h:xs[i]?=some x):i<xs.length:=(FR.mp h).1
variable {zs:Ld} {room:Nat} {M:Md}
theorem sh {α:Type} {xs:List α} {y x:α} {i:Nat} (h:(xs++ [y])[i]?=some x):xs[i]?=some x∨(i=xs.length/\x=y):=by
 by_cases c:i<xs.length
 ·rw[FV c] at h;exact .inl h
 ·have:=bv h;simp at this;have e:i=xs.length:=by lia
  subst e;simp at h;exact .inr ⟨rfl,h.symm⟩
theorem mR (a b:Str) (r:Ld):jB (a::b::r)=a++nA++jB (b::r):=by
 show Builtin.Str.glued nA (a::b::r)=a++nA++Builtin.Str.glued nA (b::r);rw[StrLaws.glued_eq_join,StrLaws.glued_eq_join]
 rfl
theorem tW (a b c:Str):a++b++c=a++(b++c):=fK (by rw[ci,ci,ci,ci,GT])
theorem FI (a:Str):jB [a]=a:=rfl
theorem v7 (ws:Ld) {m:Nat} (h:∀w∈ws,w.length<=m):(jB ws).length<=(m+1)*ws.length:=by
 have:=gW h;unfold jB;rw[oE,show nA.length=1 from rfl,Nat.add_mul]
 lia
theorem xT {a:dE} (h:v4 a):(oR a).length<=40:=by unfold oR;rw[cD];exact h.len
theorem Nm.len {z:Str} (h:Nm z):z.length<=12:=by have:=h.2.1;rwa [dm] at this
noncomputable def ja (u:bu):List V:= [.str u.1,vN u.2.1,vN u.2.2]
noncomputable def wP (a:dE):List V:= [vN a.1,vN a.2]
noncomputable def EH (k:Ab):List V:= [.str k.1,vN k.2.1,vN k.2.2.1,vN k.2.2.2]
def ly:RA (Str×dE):=fun P H v x=>∃t b,v= .ref t/\P t/\P b/\H t=some (.tup [.str x.1,.ref b])/\H b=some (.tup (wP x.2))
instance:Mv ly where
 mv:=fun {P P' H H' v x} g h=>by
  obtain ⟨t,b,rfl,pt,pb,e1,e2⟩:=h;exact ⟨t,b,rfl,(g t _ pt rfl e1).1,(g b _ pb rfl e2).1,(g t _ pt rfl e1).2,(g b _ pb rfl e2).2⟩
abbrev Uz (H:Hp) (u:Addr) (us:List bu):Prop:=oK (dC ja) An H u us
def Kp (F:Le) (H H':Hp):Prop:=∀b o,H b=some o->b∉F->H' b=some o
theorem Kp.put {F:Le} {H H1:Hp} {x:Addr} (h:Kp F H H1) (hx:x∈F) (o:HO):Kp F H (aL H1 x o):=fun b u e n=>by
 have nb:b≠x:=fun z=>n (by rw[z];exact hx)
 rw[av nb];exact h b u e n
theorem Kp.refl (F:Le) (H:Hp):Kp F H H:=fun _ _ e _=>e
theorem Ad {H H':Hp} (g:aA H H'):Kp [] H H':=fun b o e _=>g _ _ e
section
variable {G H H':Hp} {m lt ls lk:Addr} {ks:List Sk}
noncomputable def less (H:Hp) (F:Le):Hp:=fun a=>by classical exact if a∈F then none else H a
theorem tX (H:Hp) (F:Le):aA (less H F) H:=fun b o e=>by
 unfold less at e
 split at e
 ·cases e
 ·exact e
theorem sk {H:Hp} {F:Le} {a:Addr} (n:a∉F):less H F a=H a:=if_neg n
theorem jU {x:Addr} (g:aA G H) (nx:G x=none) (o:HO):aA G (aL H x o):=fun b u e=>by rw[av (aP e nx)];exact g _ _ e
end
end Sw
namespace L2
open PySem PySem.Spec PyProof.Rows XH Sw
end L2
namespace Sw
open PySem L2 XH Hm PySem.NumText
def oU (H:Hp) (v:V):Option (Nat×Nat×List bu)->Prop
 |none=>v= .non
 |some (lo,hi,us)=>∃t l,v= .ref t/\H t=some (.tup [vN lo,vN hi,.ref l])/\Uz H l us
def gY (H:Hp) (ff:List (Str×V)):Option dE->Prop
 |none=>True
 |some a=>∃t,ff.lookup ("fill" :Str)=some (.ref t)/\H t=some (.tup (wP a))
def jV (cC cR cW:Addr) (w:Str) (C:Addr):Prop:=(w= "cut" /\C=cC)∨(w= "rest" /\C=cR)∨(w= "warm" /\C=cW)
def xU (cC cR cW:Addr) (H:Hp) (x:Addr) (s:SV):Prop:=∃(C dx u:Addr) (sv:V) (ff:List (Str×V)),H x=some (.ins C dx ff)/\jV cC cR cW s.w C/\xM ff (.str s.n) (vN s.lo) (vN s.hi) (.ref u) sv/\gY H ff s.fill/\Uz H u s.uses/\oU H sv s.sec
theorem oU.same {H H':Hp} (g:aA H H') {v:V}:∀{o:Option (Nat×Nat×List bu)},oU H v o->oU H' v o
 |none,h=>h
 |some (_,_,_),⟨t,l,e1,e2,e3⟩=>⟨t,l,e1,g _ _ e2,e3.same g⟩
theorem gY.same {H H':Hp} (g:aA H H') {ff:List (Str×V)}:∀{o:Option dE},gY H ff o->gY H' ff o
 |none,h=>h
 |some _,⟨t,e1,e2⟩=>⟨t,e1,g _ _ e2⟩
theorem xU.same {cC cR cW:Addr} {H H':Hp} {x:Addr} {s:SV} (h:xU cC cR cW H x s) (g:aA H H'):xU cC cR cW H' x s:=by
 obtain ⟨C,dx,u,sv,ff,e1,e2,e3,e4,e5,e6⟩:=h;exact ⟨C,dx,u,sv,ff,g _ _ e1,e2,e3,e4.same g,e5.same g,e6.same g⟩
abbrev Cv (cC cR cW:Addr) (H:Hp) (v:V) (s:SV):Prop:=∃x,v= .ref x/\xU cC cR cW H x s
def Cw (cC cR cW:Addr) (H:Hp) (l:Addr) (ss:List SV):Prop:=∃vs,H l=some (.lst vs)/\A2 (Cv cC cR cW H) vs ss
theorem A2.steps {cC cR cW:Addr} {H H':Hp} (g:aA H H') {vs:List V} {ss:List SV} (r:A2 (Cv cC cR cW H) vs ss):A2 (Cv cC cR cW H') vs ss:=r.imp fun v s ⟨x,e,k⟩=>⟨x,e,k.same g⟩
theorem Cw.same {cC cR cW:Addr} {H H':Hp} {l:Addr} {ss:List SV} (h:Cw cC cR cW H l ss) (g:aA H H'):Cw cC cR cW H' l ss:=by
 obtain ⟨vs,e,r⟩:=h;exact ⟨vs,g _ _ e,r.steps g⟩
structure yS (cRec:Addr) (H:Hp) (r:Addr) (n:Str) (p:Nat) (lt ls lk:Addr):Prop where
 ex:∃dx,H r=some (.ins cRec dx (mK (.str n) (vN p) (.ref lt) (.ref ls) (.ref lk)))
theorem yS.same {cRec:Addr} {H H':Hp} {r:Addr} {n:Str} {p:Nat} {lt ls lk:Addr} (h:yS cRec H r n p lt ls lk) (g:aA H H'):yS cRec H' r n p lt ls lk:=by
 obtain ⟨dx,e⟩:=h.ex;exact ⟨dx,g _ _ e⟩
theorem cQ {nm p t s l:V}:(mK nm p t s l).lookup ("name" :Str)=some nm/\(mK nm p t s l).lookup ("plates" :Str)=some p/\(mK nm p t s l).lookup ("takes" :Str)=some t/\(mK nm p t s l).lookup ("steps" :Str)=some s/\(mK nm p t s l).lookup ("links" :Str)=some l:=by
 unfold mK;refine ⟨?_,?_,?_,?_,?_⟩
 all_goals
  simp only[bD]
  (repeat rw[if_neg (by decide+kernel)])
  simp
structure yT (cC cR cW cRec:Addr) (H:Hp) (r:Addr) (n:Str) (p:Nat) (M:Md):Prop where
 ex:∃lt ls lk,yS cRec H r n p lt ls lk/\oK ly An H lt M.takes/\Cw cC cR cW H ls M.steps/\oK (dC EH) An H lk M.links
theorem yT.same {cC cR cW cRec:Addr} {H H':Hp} {r:Addr} {n:Str} {p:Nat} {M:Md} (h:yT cC cR cW cRec H r n p M) (g:aA H H'):yT cC cR cW cRec H' r n p M:=by
 obtain ⟨lt,ls,lk,e1,e2,e3,e4⟩:=h.ex;exact ⟨lt,ls,lk,e1.same g,e2.same g,e3.same g,e4.same g⟩
def DR (us:List bu):Prop:=us.length<=12/\∀u∈us,Nm u.1/\1<=u.2.1/\u.2.1<=8/\u.2.2<=1000
structure yU (s:SV):Prop where
 nm:Nm s.n
 wd:v5 s.w
 le:xS s.lo s.hi
 fl:v6 s.w s.fill
 us:DR s.uses
 sec:∀x,s.sec=some x->xS x.1 x.2.1/\DR x.2.2
def qG (K:F5):Sp:=fun vs H Q _=>∃(a C dx lt ls lk:Addr) (nm p:V) (xt xs xk:List V),vs= [.ref a,nm,p,.ref lt,.ref ls,.ref lk]/\H a=some (.ins C dx [])/\EB K C/\H lt=some (.lst xt)/\H ls=some (.lst xs)/\H lk=some (.lst xk)/\
 ∀(t s u:Addr) (H':Hp),t≠a->s≠a->u≠a->H t=none->H s=none->H u=none-> [t,s,u].Nodup->Kept H H' a->H' t=some (.lst xt)->H' s=some (.lst xs)->H' u=some (.lst xk)->H' a=some (.ins C dx (mK nm p (.ref t) (.ref s) (.ref u)))->Q .non H'
def v8:Sp:=fun vs H Q _=>∃(t:Addr) (a:dE),vs= [.ref t]/\H t=some (.tup (wP a))/\v4 a/\Q (.str (oR a)) H
theorem xV {ws:Ld} (h:∀w∈ws,w.length<=60) (k:ws.length<=6):(jB ws).length<=400:=by
 have:=v7 ws h;have:(60+1)*ws.length<=61*6:=Nat.mul_le_mul_left 61 k
 lia
theorem v5.len {w:Str} (h:v5 w):w.length<=12:=by rcases h with rfl|rfl|rfl<;>decide
theorem tY {n:Str} {p:Nat} (h:Nm n) (hp:p<=1000):(cn n p).length<=400:=by
 have h1:=h.len;have h2:=du (n:=p) (by lia)
 have h4:(Str.ofString "dish").length=4:=by decide
 refine xV (fun z hz=>?_) (by show 3<=6;decide)
 simp only[F8,GF,or_false] at hz;rcases hz with rfl|rfl|rfl<;>lia
theorem tZ {ss:List SV} {i:Nat} {s:SV} (h:ss[i]?=some s):Ac ss i=s.n:=by
 unfold Ac;rw[GX,FP,h]
 rfl
theorem A2.ref {α:Type} {f:α->List V} {P:Addr->Prop} {H:Hp} {vs:List V} {xs:List α} (r:A2 (dC f P H) vs xs):∃as:Le,vs=as.map V.ref:=by
 refine ⟨vs.map fun v=>match v with| .ref a=>a|_=>0,?_⟩
 apply Hn (by simp)
 intro i h1 h2;simp only[Gm];obtain ⟨x,_,t,e,_⟩:=r.at_ (F0 h1);rw[e]
theorem eV (n:Nat):Str.ofString (toString ((n:Nat):Int))=bT n:=iZ n
theorem Cy {w:Nat} (h:0<w) (l:w<10^30):v4 (w,1)/\oR (w,1)=bT w:=by
 have dl:=dM (n:=w) (k:=29) l;refine ⟨⟨h,(Ez (GW l (by decide+kernel))).ok fun n hn=>?_,GW l (by decide+kernel),(by show 1<10000;decide),?_⟩,?_⟩
 ·rw[G3.mp hn];exact dl
 ·show (c6 w 1).length<=40;rw[jF];lia
 ·show bJ (c6 w 1)=_;rw[jF];rfl
theorem Ae {t b:Nat} (t0:t≠0) (lt:t<b) (g:HC b t=1) (hb:b<10000):v4 (t,b)/\oR (t,b)=bT t++ "/" ++bT b:=by
 have d1:=dM (n:=t) (k:=3) (by lia)
 have d2:=dM (n:=b) (k:=3) (by lia)
 refine ⟨⟨by show 0<t;lia,(Cr t0 lt g (GW hb (by decide+kernel))).ok fun n hn=>?_,GW (GW lt hb) (by decide+kernel),hb,?_⟩,?_⟩
 ·simp only[F8,GF,or_false] at hn;rcases hn with rfl|rfl<;>lia
 ·show (c6 t b).length<=40;rw[gx t0 lt,FQ,G6];lia
 ·show bJ (c6 t b)=_;rw[gx t0 lt];show _=bJ (dg t)++Str.ofString "/" ++bJ (dg b);rw[cV,b4,b4,GT]
  rfl
theorem xW {w t b:Nat} (w0:w≠0) (lw:w<10^30) (t0:t≠0) (lt:t<b) (g:HC b t=1) (hb:b<10000):v4 (w*b+t,b)/\oR (w*b+t,b)=bT w++ "+" ++bT t++ "/" ++bT b:=by
 have dw:=dM (n:=w) (k:=29) lw;have d1:=dM (n:=t) (k:=3) (by lia)
 have d2:=dM (n:=b) (k:=3) (by lia)
 have hp:w*b+t<10^40:=by
  have:w*b<=10^30*10000:=Nat.mul_le_mul (He lw) (He hb);have e:10^30*10000+10000<10^40:=by decide+kernel
  lia
 refine ⟨⟨by show 0<w*b+t;lia,(zQ w0 t0 lt g (GW hb (by decide+kernel)) (GW hp (by decide+kernel))).ok fun n hn=>?_,hp,hb,?_⟩,?_⟩
 ·simp only[F8,GF,or_false] at hn;rcases hn with rfl|rfl|rfl<;>lia
 ·show (c6 (w*b+t) b).length<=40;rw[fm w0 t0 lt,FQ,G6,FQ,G6];lia
 ·show bJ (c6 (w*b+t) b)=_;rw[fm w0 t0 lt];show _=bJ (dg w)++Str.ofString "+" ++bJ (dg t)++Str.ofString "/" ++bJ (dg b);rw[cV,fk,b4,b4,b4,b4]
  congr 1
  simp
end Sw
namespace L2
open PySem PySem.Spec PyProof.Rows XH
theorem su {K:F5} {a:Addr} {xs:List V} {js:List Nat} {te:TE} {σ:L2.St} {H1:Hp} {Q:VK} (R:Nat->Hp->V->Prop) (hS:aO K H1 a xs) (hz:xs.length<=sizeLine)
  (step:∀i x,xs[i]?=some x->∀H3,aA H1 H3->∀(p:Addr) (ws:List V),H3 p=some (.lst ws)->∀Q':VK,(∀y H4,aA H3 H4->(∀H5:Hp,(∀b o,b≠p->H4 b=some o->H5 b=some o)->R i H5 y)->Q' y H4)->te (some x::bw js σ) H3 Q')
  (fin:∀(p:Addr) (ys:List V) (H':Hp),H1 p=none->ys.length=xs.length->(∀(i:Nat) (y:V),ys[i]?=some y->R i H' y)->aA H1 H'->H' p=some (.lst ys)->Q (.ref p) H'):nU js te σ Q (wU K a) H1:=by
 intro p hp;refine ⟨fun i m ys H2=>i<=xs.length/\m=xs.length-i/\ys.length=i/\(∀(i:Nat) (y:V),ys[i]?=some y->∀H5:Hp,(∀b o,b≠p->H2 b=some o->H5 b=some o)->R i H5 y)/\aA H1 H2/\H2 p=some (.lst ys),⟨xs.length,Gi _,rfl,rfl,fun i y e=>by simp at e,Sw.aj hp _,ah⟩,?_⟩
 rintro i m ys H2 ⟨hi,rfl,hl,hP,g,e⟩;refine ⟨e,?_⟩;have S2:=g.seq hS
 by_cases hin:i<xs.length
 ·refine .inr ⟨⟨xs,xs[i],S2,F0 hin⟩,by lia,fun x H3 hy=>?_⟩
  obtain ⟨rfl,hx⟩:=hy;have ex:=hx xs S2;refine step i x ex _ g p ys e _ fun y H4 g4 r=>⟨g4 _ _ e,xs.length-(i+1),by lia,hin,rfl,by simp[hl],fun j z hz' H5 kp=>?_,Sw.fH (g.trans g4) hp _,ah⟩
  have kp4:∀b o,b≠p->H4 b=some o->H5 b=some o:=fun b o n h=>kp b o n (by rw[av n];exact h)
  rcases Sw.sh hz' with h|⟨h,rfl⟩
  ·exact hP j z h H5 fun b o n h=>kp4 b o n (g4 _ _ h)
  ·rw[h,hl];exact r H5 kp4
 ·have e2:i=xs.length:=by lia
  subst e2;exact .inl ⟨⟨xs,S2,FO _⟩,fin p ys H2 hp hl (fun i y h=>hP i y h H2 fun _ _ _ h=>h) g e⟩
end L2
namespace Sw
open PySem L2 XH Hm PySem.NumText
theorem EI:Str.ofString " " =nA:=by decide
theorem v9 (n x:Str):Str.ofString "dish " ++n++Str.ofString " " ++x=jB ["dish",n,x]:=by
 rw[EI,show Str.ofString "dish " =Str.ofString "dish" ++nA from by decide,mR,mR,FI]
 simp only[tW]
def wc (H:Hp):qD->Option (Nat×Nat×List bu)->Prop
 |none,none=>True
 |some (x,y,bs),some (lo,hi,us)=>x=(lo:Int)/\y=(hi:Int)/\A2 (dC ja An H) (bs.map V.ref) us
 |_,_=>False
theorem Af (a n:Nat):((a:Nat):Int).fmod (n:Int)=((a % n:Nat):Int):=(Int.ofNat_fmod a n).symm
end Sw
namespace L2
open PySem PySem.Spec PyProof.Rows XH Sw
def mS (K:F5) (a:Addr) (xs:List V):Prop:=∃(o:Obj) (its:Array Value) (n:Nat),K.lookup a=some o/\o.cls= .type "tuple" /\o.data= .seq its n/\its.size<=sizeLine/\aX xs its.toList
theorem mS.sq {K:F5} {a:Addr} {xs:List V} (h:mS K a xs) (H:Hp):bi K H a xs:= .inr h
inductive t6 (w:World) (K:F5):List DictEntry->List (Str×List V)->Prop where
 |nil:t6 w K [] []
 |cons {k:Str} {tk:Tok} {t:Addr} {xs:List V} {es:List DictEntry} {fs:List (Str×List V)}:mS K t xs->t6 w K es fs->t6 w K (⟨hashStr w k,.str k tk,.ref t⟩::es) ((k,xs)::fs)
def oV (w:World) (K:F5) (a:Addr) (fs:List (Str×List V)):Prop:=(a==sysModules)=false/\∃(o:Obj) (es:Array DictEntry) (ep:Nat),K.lookup a=some o/\o.ExactDict/\o.data= .dict es ep/\t6 w K es.toList fs
section
variable {X:Cx} {pins:Lb} {σ:St} {H:Hp} {s:Shared} {a:Addr}
theorem t6.pairs {P:Program} {w:World} {K:F5} {es:List DictEntry} {fs:List (Str×List V)} (h:t6 w K es fs):∃vs:List (Key×Value),Pairs (dQ P w) es vs/\vs.map (·.1)=fs.map (fun p=>Sum.inr p.1)/\(∀e∈es,∃k,(dQ P w).is k e.key=true/\e.hash=(dQ P w).hash k)/\
  ∀(k:Str) (xs:List V),fs.lookup k=some xs->∃t,valueAt vs (Sum.inr k)=some (.ref t)/\mS K t xs:=by
 induction h with
 |nil=>exact ⟨[],.nil,rfl,(fun e he=>nomatch he),fun k xs h=>by cases h⟩
 | @cons k tk t xs es fs tv h ih=>
  obtain ⟨vs,p,e1,e2,e3⟩:=ih;refine ⟨(.inr k,.ref t)::vs,.cons (rf (k:= .inr k) ⟨ν⟩) rfl p,by simp[e1],fun e he=>?_,fun j ys hj=>?_⟩
  ·rcases F8.mp he with rfl|he
   ·exact ⟨.inr k,rf (k:= .inr k) ⟨ν⟩,rfl⟩
   ·exact e2 e he
  ·rw[List.lookup_cons] at hj
   by_cases c:j=k
   ·subst c;simp at hj;subst hj;exact ⟨t,by simp[valueAt],tv⟩
   ·rw[show (j==k)=false by simpa using c] at hj
    obtain ⟨t',h1,h2⟩:=e3 j ys hj;refine ⟨t',?_,h2⟩;unfold valueAt at h1⊢;rw[List.find?_cons_of_neg (by simp;exact fun z=>c z.symm)]
    exact h1
theorem oV.of {fs:List (Str×List V)} (I:aM X pins σ H s) (h:oV X.w X.K a fs) (nd:(fs.map fun p=>p.1).Nodup):(a==sysModules)=false/\∃vs:List (Key×Value),s.heap.DictOf (dQ X.prog X.w) a vs/\(∀(k:Str) (xs:List V),fs.lookup k=some xs->∃t,valueAt vs (Sum.inr k)=some (.ref t)/\mS X.K t xs)/\∀k:Str,(valueAt vs (Sum.inr k)).isSome=(fs.lookup k).isSome:=by
 obtain ⟨h0,o,es,ep,hk,hx,hd,he⟩:=h;obtain ⟨vs,p,e1,e2,e3⟩:=he.pairs (P:=X.prog);refine ⟨h0,vs,⟨o,es,ep,I.kIn a o hk,hx,hd,fun e he=>e2 e (by simpa using he),p,?_⟩,e3,fun k=>?_⟩
 ·rw[e1,show (fs.map fun p=>(Sum.inr p.1:Key))=(fs.map fun p=>p.1).map Sum.inr by rw[Gy];rfl]
  exact HN.mpr (nd.imp fun h z=>h (Sum.inr.inj z))
 ·cases h:fs.lookup k with
  |some xs=>
   obtain ⟨t,h1,_⟩:=e3 k xs h;rw[h1]
   rfl
  |none=>
   have nf:∀q∈vs,q.1≠Sum.inr k:=fun q hq z=>by
    have m:(Sum.inr k:Key)∈vs.map (·.1):=GI.mpr ⟨q,hq,z⟩;rw[e1] at m;obtain ⟨p,hp,e⟩:=GI.mp m;have e:=Sum.inr.inj e;have hn:=List.lookup_eq_none_iff.mp h p hp;rw[e] at hn;simp at hn
   unfold valueAt;rw[List.find?_eq_none.mpr fun q hq=>by simpa using nf q hq]
   rfl
def Ag (w:World) (K:F5) (td ty:TE):TE:=fun σ H Q=>td σ H fun x H1=>ty σ H1 fun y H2=>∃(a:Addr) (fs:List (Str×List V)) (k:Str) (xs:List V),x= .ref a/\y= .str k/\oV w K a fs/\(fs.map fun p=>p.1).Nodup/\fs.lookup k=some xs/\∀t,mS K t xs->Q (.ref t) H2
theorem oW {K:F5} {w:World} {o i:Expr} {pos:Pos} {td ty:TE} (hK:X.K=K) (hw:X.w=w) (ho:PE X o td) (hi:PE X i ty) (hs:B9 i):PE X (.Subscript o i pos) (Ag w K td ty):=by
 subst hK hw;intro pins s σ H Q I h;refine xp PySem.F.slot_dict_getitem.lookup hs (bV (ho pins s σ H _ I h) fun u s1 ⟨x,H1,I1,rx,q1⟩=>bV (hi pins s1 σ H1 _ I1 q1) fun iv s2 ⟨y,H2,I2,ry,a,fs,k,xs,ex,ey,hd,nd,hl,q2⟩=>?_)
 subst ex ey;obtain rfl:u=Value.ref a:=rx;obtain ⟨h0,vs,dd,e3,e4⟩:=hd.of I2 nd;obtain ⟨t,h1,h2⟩:=e3 k xs hl;exact ⟨dd.typeIs,wpAny_getItem_of (rf (k:= .inr k) ry) dd.mapOf h1 ⟨.ref t,H2,I2.tok _,rfl,q2 t h2⟩⟩
theorem oX {K:F5} {w:World} (hK:X.K=K) (hw:X.w=w):ik X (compareOp .NotIn) (fun x y H Q=>∃(a:Addr) (fs:List (Str×List V)) (k:Str),x= .str k/\y= .ref a/\oV w K a fs/\(fs.map fun p=>p.1).Nodup/\Q (.bl (!(fs.lookup k).isSome)) H):=by
 subst hK hw;intro pins s σ H x y v u Q I rx ry h;obtain ⟨a,fs,k,rfl,rfl,hd,nd,q⟩:=h;cases ry;obtain ⟨h0,vs,dd,e3,e4⟩:=hd.of I nd;refine wpAny_notIn_of (rf (k:= .inr k) rx) h0 dd.mapOf ?_;refine ⟨.bl _,H,I.tok _,rfl,?_⟩;rw[<-e4] at q;exact q
end
end L2
namespace Sw
open PySem L2 XH Hm PySem.NumText
structure So where
 x:Addr
 u:Addr
 sec:Lg
noncomputable def So.own (k:So):Le:=k.x::k.u::k.sec.toList
def Ah (H:Hp) (v:V):Lg->Option (Nat×Nat×List bu)->Prop
 |none,none=>v= .non
 |some l,some (lo,hi,us)=>∃t,v= .ref t/\H t=some (.tup [vN lo,vN hi,.ref l])/\Uz H l us
 |_,_=>False
section
variable (cC cR cW:Addr)
def SM (H:Hp) (k:So) (s:SV):Prop:=∃(C dx:Addr) (sv:V) (ff:List (Str×V)),H k.x=some (.ins C dx ff)/\jV cC cR cW s.w C/\xM ff (.str s.n) (vN s.lo) (vN s.hi) (.ref k.u) sv/\ff.length<=10/\gY H ff s.fill/\Uz H k.u s.uses/\Ah H sv k.sec s.sec
noncomputable def cy (r lt ls lk:Addr) (ks:List So):Le:=r::lt::ls::lk::(ks.map So.own).flatten
structure RM (cRec:Addr) (G H:Hp) (r:Addr) (n:Str) (p:Nat) (lt ls lk:Addr) (ks:List So) (M:Md):Prop where
 fr:aA G H
 nw:∀a∈cy r lt ls lk ks,G a=none
 nd:(cy r lt ls lk ks).Nodup
 er:yS cRec H r n p lt ls lk
 et:oK ly An H lt M.takes
 es:H ls=some (.lst (ks.map fun k=> .ref k.x))
 len:ks.length=M.steps.length
 ss:∀(i:Nat) (k:So) (s:SV),ks[i]?=some k->M.steps[i]?=some s->SM cC cR cW H k s
 ek:oK (dC EH) An H lk M.links
end
def sw (F:Le) (H:Hp):Prop:=∀b∈F,∀xs,H b≠some (.tup xs)
variable {F:Le} {H H':Hp} {cC cR cW:Addr}
theorem Kp.tupM (h:Kp F H H') (q:sw F H) {t:Addr} {xs:List V} (e:H t=some (.tup xs)):H' t=some (.tup xs):=h _ _ e fun m=>q t m xs e
theorem Kp.rtupM {α:Type} {f:α->List V} (h:Kp F H H') (q:sw F H) {l:Addr} {xs:List α} (e:oK (dC f) An H l xs) (n:l∉F):oK (dC f) An H' l xs:=by
 obtain ⟨vs,e,r⟩:=e;exact ⟨vs,h _ _ e n,r.imp fun v x ⟨t,e1,e2,e3⟩=>⟨t,e1,e2,h.tupM q e3⟩⟩
theorem Kp.rtakeM (h:Kp F H H') (q:sw F H) {l:Addr} {xs:List (Str×dE)} (e:oK ly An H l xs) (n:l∉F):oK ly An H' l xs:=by
 obtain ⟨vs,e,r⟩:=e;exact ⟨vs,h _ _ e n,r.imp fun v x ⟨t,b,e1,e2,e3,e4,e5⟩=>⟨t,b,e1,e2,e3,h.tupM q e4,h.tupM q e5⟩⟩
theorem Kp.fillM (h:Kp F H H') (q:sw F H) {ff:List (Str×V)} {o:Option dE} (e:gY H ff o):gY H' ff o:=by
 cases o with
 |none=>exact e
 |some a=>obtain ⟨t,e1,e2⟩:=e;exact ⟨t,e1,h.tupM q e2⟩
theorem Kp.secM (h:Kp F H H') (q:sw F H) {v:V} {o:Lg} {x:Option (Nat×Nat×List bu)} (e:Ah H v o x) (n:∀b∈o.toList,b∉F):Ah H' v o x:=by
 match o,x,e with
 |none,none,e=>exact e
 |some l,some (lo,hi,us),⟨t,e1,e2,e3⟩=>exact ⟨t,e1,h.tupM q e2,h.rtupM q e3 (n l (by simp))⟩
theorem Kp.sm (h:Kp F H H') (q:sw F H) {k:So} {s:SV} (e:SM cC cR cW H k s) (n:∀b∈k.own,b∉F):SM cC cR cW H' k s:=by
 obtain ⟨C,dx,sv,ff,e1,e2,e3,e4,e5,e6,e7⟩:=e;exact ⟨C,dx,sv,ff,h _ _ e1 (n k.x (by simp[So.own])),e2,e3,e4,h.fillM q e5,h.rtupM q e6 (n k.u (by simp[So.own])),h.secM q e7 fun b hb=>n b (by simp only[So.own,F8];exact .inr (.inr hb))⟩
theorem f7 {x:Addr} {o:HO} (e:H x=some o) (n:∀xs,o≠ .tup xs):sw [x] H:=fun b hb xs z=>by
 rw[G3.mp hb,e] at z;cases z;exact n xs rfl
theorem SM.fq {k:So} {s:SV} (h:SM cC cR cW H k s):sw k.own H:=fun b hb xs z=>by
 obtain ⟨C,dx,sv,ff,e1,e2,e3,e4,e5,⟨vs,e6,_⟩,e7⟩:=h;unfold So.own at hb;rcases F8.mp hb with rfl|hb
 ·rw[e1] at z;cases z
 rcases F8.mp hb with rfl|hb
 ·rw[e6] at z;cases z
 generalize k.sec=o1,s.sec=o2 at hb e7
 match o1,o2,e7 with
 |none,none,e=>simp at hb
 |some l,some (lo,hi,us),⟨t,f1,f2,⟨_,f3,_⟩⟩=>
  have hb:b=l:=by simpa using hb
  rw[hb,f3] at z;cases z
theorem SM.all {k:So} {s:SV} (h:SM cC cR cW H k s):∀b∈k.own,H b≠none:=fun b hb z=>by
 obtain ⟨C,dx,sv,ff,e1,e2,e3,e4,e5,⟨vs,e6,_⟩,e7⟩:=h;unfold So.own at hb;rcases F8.mp hb with rfl|hb
 ·rw[e1] at z;cases z
 rcases F8.mp hb with rfl|hb
 ·rw[e6] at z;cases z
 generalize k.sec=o1,s.sec=o2 at hb e7
 match o1,o2,e7 with
 |none,none,e=>simp at hb
 |some l,some (lo,hi,us),⟨t,f1,f2,⟨_,f3,_⟩⟩=>
  have hb:b=l:=by simpa using hb
  rw[hb,f3] at z;cases z
theorem SM.same {k:So} {s:SV} (h:SM cC cR cW H k s) (g:aA H H'):SM cC cR cW H' k s:=(Ad g).sm (fun b hb=>nomatch hb) h fun b _ z=>nomatch z
theorem SM.o {k:So} {s:SV} (h:SM cC cR cW H k s):xU cC cR cW H k.x s:=by
 obtain ⟨C,dx,sv,ff,e1,e2,e3,e4,e5,e6,e7⟩:=h;refine ⟨C,dx,k.u,sv,ff,e1,e2,e3,e5,e6,?_⟩;generalize k.sec=o1,s.sec=o2 at e7
 match o1,o2,e7 with
 |none,none,e=>exact e
 |some l,some (lo,hi,us),⟨t,f1,f2,f3⟩=>exact ⟨t,l,f1,f2,f3⟩
section
variable {cRec:Addr} {G:Hp} {r:Addr} {n:Str} {p:Nat} {lt ls lk:Addr} {ks:List So} {M:Md}
theorem RM.same (h:RM cC cR cW cRec G H r n p lt ls lk ks M) (g:aA H H'):RM cC cR cW cRec G H' r n p lt ls lk ks M:=
 {h with fr:=h.fr.trans g,er:=h.er.same g,et:=h.et.same g,es:=g _ _ h.es,ss:=fun i k s e1 e2=>(h.ss i k s e1 e2).same g,ek:=h.ek.same g}
theorem RM.a (h:RM cC cR cW cRec G H r n p lt ls lk ks M):yT cC cR cW cRec H r n p M:=by
 refine ⟨lt,ls,lk,h.er,h.et,⟨_,h.es,by rw[F6];exact h.len,fun i v s e1 e2=>?_⟩,h.ek⟩
 rw[FP] at e1;obtain ⟨k,hk,rfl⟩:=GS.mp e1;exact ⟨k.x,rfl,(h.ss i k s hk e2).o⟩
theorem oY {k:So} {b:Addr} (hk:k∈ks) (hb:b∈k.own):b∈cy r lt ls lk ks:=by
 unfold cy;refine FS _ (FS _ (FS _ (FS _ ?_)));exact List.mem_flatten.mpr ⟨_,GI.mpr ⟨k,hk,rfl⟩,hb⟩
theorem RM.all (h:RM cC cR cW cRec G H r n p lt ls lk ks M):∀b∈cy r lt ls lk ks,H b≠none:=fun b hb z=>by
 unfold cy at hb;rcases F8.mp hb with rfl|hb
 ·obtain ⟨dx,e⟩:=h.er.ex;rw[e] at z;cases z
 rcases F8.mp hb with rfl|hb
 ·obtain ⟨vs,e,_⟩:=h.et;rw[e] at z;cases z
 rcases F8.mp hb with rfl|hb
 ·rw[h.es] at z;cases z
 rcases F8.mp hb with rfl|hb
 ·obtain ⟨vs,e,_⟩:=h.ek;rw[e] at z;cases z
 obtain ⟨o,ho,hb⟩:=List.mem_flatten.mp hb;obtain ⟨k,hk,rfl⟩:=GI.mp ho;obtain ⟨i,hi⟩:=G4.mp hk;have il:i<M.steps.length:=by rw[<-h.len];exact bv hi
 exact (h.ss i k _ hi (F0 il)).all b hb z
theorem RM.step_ne (h:RM cC cR cW cRec G H r n p lt ls lk ks M) {k:So} {b x:Addr} (hk:k∈ks) (hb:b∈k.own) (hx:x=r∨x=lt∨x=ls∨x=lk):b≠x:=fun e=>by
 subst e;have nd:=h.nd;unfold cy at nd;have mem:b∈(ks.map So.own).flatten:=List.mem_flatten.mpr ⟨_,GI.mpr ⟨k,hk,rfl⟩,hb⟩;simp only[GR,F8,not_or] at nd;rcases hx with rfl|rfl|rfl|rfl
 ·exact nd.1.2.2.2 mem
 ·exact nd.2.1.2.2 mem
 ·exact nd.2.2.1.2 mem
 ·exact nd.2.2.2.1 mem
theorem RM.ne (h:RM cC cR cW cRec G H r n p lt ls lk ks M):r≠lt/\r≠ls/\r≠lk/\lt≠ls/\lt≠lk/\ls≠lk:=by
 have nd:=h.nd;unfold cy at nd;simp only[GR,F8,not_or] at nd;exact ⟨nd.1.1,nd.1.2.1,nd.1.2.2.1,nd.2.1.1,nd.2.1.2.1,nd.2.2.1.1⟩
theorem yS.kp {F:Le} (h:yS cRec H r n p lt ls lk) (kp:Kp F H H') (nr:r∉F):yS cRec H' r n p lt ls lk:=by
 obtain ⟨dx,e⟩:=h.ex;exact ⟨dx,kp _ _ e nr⟩
theorem RM.take (h:RM cC cR cW cRec G H r n p lt ls lk ks M) {vs:List V} {v:V} {x:Str×dE} (e:H lt=some (.lst vs)) (hv:ly An H v x):RM cC cR cW cRec G (aL H lt (.lst (vs++ [v]))) r n p lt ls lk ks {M with takes:=M.takes++ [x]}:=by
 obtain ⟨n1,n2,n3,n4,n5,n6⟩:=h.ne;have q:sw [lt] H:=f7 e nofun;have kp:=(Kp.refl [lt] H).put (x:=lt) (by simp) (.lst (vs++ [v]))
 refine {h with fr:=jU h.fr (h.nw lt (by simp[cy])) _,er:=h.er.kp kp (by simpa using n1),et:=?_,es:=kp _ _ h.es (by simpa using n4.symm),ss:=fun i k s e1 e2=>kp.sm q (h.ss i k s e1 e2) fun b hb=>by simpa using h.step_ne (F9 e1) hb (.inr (.inl rfl)),ek:=kp.rtupM q h.ek (by simpa using n5.symm)}
 obtain ⟨us,e',rr⟩:=h.et;rw[e] at e';cases e';exact ⟨_,ah,(rr.snoc hv).imp fun v x ⟨t,b,e1,e2,e3,e4,e5⟩=>⟨t,b,e1,e2,e3,kp.tupM q e4,kp.tupM q e5⟩⟩
theorem RM.link (h:RM cC cR cW cRec G H r n p lt ls lk ks M) {vs:List V} {v:V} {x:Ab} (e:H lk=some (.lst vs)) (hv:dC EH An H v x):RM cC cR cW cRec G (aL H lk (.lst (vs++ [v]))) r n p lt ls lk ks {M with links:=M.links++ [x]}:=by
 obtain ⟨n1,n2,n3,n4,n5,n6⟩:=h.ne;have q:sw [lk] H:=f7 e nofun;have kp:=(Kp.refl [lk] H).put (x:=lk) (by simp) (.lst (vs++ [v]))
 refine {h with fr:=jU h.fr (h.nw lk (by simp[cy])) _,er:=h.er.kp kp (by simpa using n3),et:=kp.rtakeM q h.et (by simpa using n5),es:=kp _ _ h.es (by simpa using n6),ss:=fun i k s e1 e2=>kp.sm q (h.ss i k s e1 e2) fun b hb=>by simpa using h.step_ne (F9 e1) hb (.inr (.inr (.inr rfl))),ek:=?_}
 obtain ⟨us,e',rr⟩:=h.ek;rw[e] at e';cases e';exact ⟨_,ah,(rr.snoc hv).imp fun v x ⟨t,e1,e2,e3⟩=>⟨t,e1,e2,kp.tupM q e3⟩⟩
theorem RM.step {H0:Hp} (h:RM cC cR cW cRec G H0 r n p lt ls lk ks M) (g:aA H0 H) {k:So} {s:SV} (hs:SM cC cR cW H k s) (nk:∀a∈k.own,H0 a=none) (nd:k.own.Nodup):RM cC cR cW cRec G (aL H ls (.lst ((ks.map fun k=>V.ref k.x)++ [.ref k.x]))) r n p lt ls lk (ks++ [k]) {M with steps:=M.steps++ [s]}:=by
 have all:=h.all;have h1:=h.same g;obtain ⟨n1,n2,n3,n4,n5,n6⟩:=h.ne;have q:sw [ls] H:=f7 h1.es nofun;have kp:=(Kp.refl [ls] H).put (x:=ls) (by simp) (.lst ((ks.map fun k=>V.ref k.x)++ [.ref k.x]))
 have eo:cy r lt ls lk (ks++ [k])=cy r lt ls lk ks++k.own:=by simp[cy]
 have dj:∀a∈k.own,a∉cy r lt ls lk ks:=fun a ha hm=>all a hm (nk a ha)
 refine {fr:=jU h1.fr (h.nw ls (by simp[cy])) _,nw:=?_,nd:=?_,er:=h1.er.kp kp (by simpa using n2),et:=kp.rtakeM q h1.et (by simpa using n4),es:=by rw[ah,GO];rfl,len:=by simp[h.len],ss:=?_,ek:=kp.rtupM q h1.ek (by simpa using n6.symm)}
 ·rw[eo];intro a ha;rcases GD.mp ha with ha|ha
  ·exact h.nw a ha
  ·exact h.fr.free (nk a ha)
 ·rw[eo,Gf];exact ⟨h.nd,nd,fun a ha b hb e=>dj b hb (e▸ha)⟩
 ·intro i k' s' e1 e2;rcases sh e1 with e1|⟨ei,rfl⟩
  ·have il:i<M.steps.length:=by rw[<-h.len];exact bv e1
   have e2':M.steps[i]?=some s':=by
    rw[<-e2];exact (FV il).symm
   exact kp.sm q (h1.ss i k' s' e1 e2') fun b hb=>by simpa using h.step_ne (F9 e1) hb (.inr (.inr (.inl rfl)))
  ·have e2':s=s':=by
    rw[ei,h.len] at e2;simp at e2;exact e2
   subst e2';exact kp.sm q hs fun b hb z=>dj b hb (by rw[G3.mp z];simp[cy])
theorem RM.set (h:RM cC cR cW cRec G H r n p lt ls lk ks M) {i:Nat} {k k':So} {s s':SV} (e1:ks[i]?=some k) (e2:M.steps[i]?=some s) (kp:Kp k.own H H') (hs:SM cC cR cW H' k' s') (ea:k'.x=k.x) (nk:∀a∈k'.own,a∈k.own∨H a=none) (nd:k'.own.Nodup):RM cC cR cW cRec G H' r n p lt ls lk (ks.set i k') {M with steps:=M.steps.set i s'}:=by
 have all:=h.all;have q:=(h.ss i k s e1 e2).fq;have mk:=F9 e1;have il:=bv e1;have n4:∀x,(x=r∨x=lt∨x=ls∨x=lk)->x∉k.own:=fun x hx z=>h.step_ne mk z hx rfl
 have ndf:=h.nd;have spl:ks=ks.take i++k::ks.drop (i+1):=by
  rw[F0 il] at e1;rw[<-GK e1,<-HL il,GQ]
 have spl':ks.set i k'=ks.take i++k'::ks.drop (i+1):=by rw[List.set_eq_take_append_cons_drop,if_pos il]
 have own1:cy r lt ls lk ks=(r::lt::ls::lk::((ks.take i).map So.own).flatten)++(k.own++((ks.drop (i+1)).map So.own).flatten):=by
  unfold cy
  conv=>lhs;rw[spl]
  simp
 have own2:cy r lt ls lk (ks.set i k')=(r::lt::ls::lk::((ks.take i).map So.own).flatten)++(k'.own++((ks.drop (i+1)).map So.own).flatten):=by
  unfold cy;rw[spl'];simp
 rw[own1,Gf,Gf] at ndf;obtain ⟨d1,⟨d2,d3,d4⟩,d5⟩:=ndf;have inO:∀a,a∈(r::lt::ls::lk::((ks.take i).map So.own).flatten)∨a∈((ks.drop (i+1)).map So.own).flatten->H a≠none/\a∉k.own:=fun a ha=>by
  refine ⟨all a (by rw[own1];rcases ha with ha|ha;exact Gu _ ha;exact FU _ (FU _ ha)),fun z=>?_⟩
  rcases ha with ha|ha
  ·exact d5 a ha a (Gu _ z) rfl
  ·exact d4 a z a ha rfl
 refine {fr:=?_,nw:=?_,nd:=?_,er:=h.er.kp kp (n4 _ (.inl rfl)),et:=kp.rtakeM q h.et (n4 _ (.inr (.inl rfl))),es:=?_,len:=by simp[h.len],ss:=?_,ek:=kp.rtupM q h.ek (n4 _ (.inr (.inr (.inr rfl))))}
 ·exact fun b o e=>kp _ _ (h.fr _ _ e) fun z=>by
   have:=h.nw b (oY mk z);rw[this] at e;cases e
 ·rw[own2];intro a ha;rcases GD.mp ha with ha|ha
  ·exact h.nw a (by rw[own1];exact Gu _ ha)
  rcases GD.mp ha with ha|ha
  ·rcases nk a ha with hk|hn
   ·exact h.nw a (oY mk hk)
   ·exact h.fr.free hn
  ·exact h.nw a (by rw[own1];exact FU _ (FU _ ha))
 ·rw[own2,Gf,Gf];refine ⟨d1,⟨nd,d3,fun a ha b hb e=>?_⟩,fun a ha b hb e=>?_⟩
  ·have:=inO b (.inr hb);rcases nk a ha with hk|hn
   ·exact this.2 (e▸hk)
   ·exact this.1 (e▸hn)
  ·have:=inO a (.inl ha);rcases GD.mp hb with hb|hb
   ·rcases nk b hb with hk|hn
    ·exact this.2 (e▸hk)
    ·exact this.1 (e▸hn)
   ·exact d5 a ha b (FU _ hb) e
 ·rw[kp _ _ h.es (n4 _ (.inr (.inr (.inl rfl))))]
  congr 2
  apply HE;intro j;rw[FP,FP,List.getElem?_set]
  by_cases c:i=j
  ·subst c;rw[if_pos rfl,if_pos il,e1];simp[ea]
  ·rw[if_neg c]
 ·intro j kj sj f1 f2;have f2':(M.steps.set i s')[j]?=some sj:=f2;rw[List.getElem?_set] at f1 f2'
  by_cases c:i=j
  ·subst c;rw[if_pos rfl] at f1 f2';rw[if_pos il] at f1;rw[if_pos (by rw[<-h.len];exact il)] at f2'
   cases f1;cases f2';exact hs
  ·rw[if_neg c] at f1 f2';refine kp.sm q (h.ss j kj sj f1 f2') fun b hb z=>?_
   have mj:kj∈ks.take i∨kj∈ks.drop (i+1):=by
    by_cases lt:j<i
    ·exact .inl (F9 (i:=j) (by rw[List.getElem?_take,if_pos lt];exact f1))
    ·exact .inr (F9 (i:=j-(i+1)) (by rw[Hd,show i+1+(j-(i+1))=j by lia];exact f1))
   rcases mj with mj|mj
   ·exact (inO b (.inl (by
     refine FS _ (FS _ (FS _ (FS _ ?_)));exact List.mem_flatten.mpr ⟨_,GI.mpr ⟨kj,mj,rfl⟩,hb⟩))).2 z
   ·exact (inO b (.inr (List.mem_flatten.mpr ⟨_,GI.mpr ⟨kj,mj,rfl⟩,hb⟩))).2 z
end
end Sw
namespace L2
open PySem PySem.Spec PyProof.Rows
def Ai (h:Heap) (j q:Addr) (k:Nat) (xs:Array Value):Prop:=IsTupIter h j q k/\IsTup h q xs
theorem Ai.but {h h':Heap} {j q b:Addr} {k:Nat} {xs:Array Value} (x:Ai h j q k xs) (e:Heap.SameBut b h h') (n1:j≠b) (n2:q≠b):Ai h' j q k xs:=⟨x.1.extBut e.extBut n1,x.2.extBut e.extBut n2⟩
section
variable {prog:Program} {w:World} {A:Around} {E:K9} {s:Shared}
theorem sx {j q:Addr} {k:Nat} {xs:Array Value} {x:Value} {Q:K9} (t:Ai s.heap j q k xs) (qj:q≠j) (hx:xs[k]?=some x) (go:∀h',Ai h' j q (k+1) xs->Heap.SameBut j s.heap h'->Q x {s with heap:=h'}):wpAny (model prog w) A (Builtin.SmallTypes.nextOf (.ref j)) Q E s:=by
 obtain ⟨oj,gj,cj,dj⟩:=id t.1;obtain ⟨oq,gq,_,nq,dq⟩:=id t.2;unfold Builtin.SmallTypes.nextOf;refine wpAny_bind (wpAny_callSpecial?_slot (name:=Str.ofString "__next__") t.1.typeIs slot_tupleiter_next (wpAny_call_entry slot_tupleiter_next t.1.typeIs entry_tupleiter_next ?_ (args_tupleiter_next _)));refine wpAny_bind (m:=field (.ref j) 0) (wpAny_field gj dj (x:= .ref q) rfl ?_);show wpAny _ _ (if (Value.ref q==Value.none)=true then _ else _) _ _ s
 rw[if_neg (show ¬(Value.ref q==Value.none)=true from GE)]
 refine wpAny_bind (m:=field (.ref j) 1) (wpAny_field gj dj (x:= .int k 0) rfl (wpAny_bind (m:=seqItems? (.ref q)) (wpAny_seqItems gq dq ?_)));simp only[Hi,hx];refine wpAny_bind (wpAny_setField gj dj (by simp) (wpAny_pure ⟨x,rfl,wpAny_pure (go _ ⟨?_,t.2.extBut (Heap.SameBut.update ..).extBut qj⟩ (Heap.SameBut.update ..))⟩))
 refine ⟨_,Heap.get?_update_self _ gj (Obj.isFreed_of_fields (Obj.data_mapFields dj _)),(Obj.cls_mapFields ..).trans cj,?_⟩;rw[Obj.data_mapFields dj];simp[rawInt]
theorem xX {j q:Addr} {k:Nat} {xs:Array Value} {Q:K9} (calm:A.handled=none) (t:Ai s.heap j q k xs) (hx:xs[k]?=none) (go:∀h' e,Heap.ExtBut j s.heap h'->(∃o,h'.get? e=some o/\o.cls= .type "StopIteration")->E (.ref e) {s with heap:=h'}):wpAny (model prog w) A (Builtin.SmallTypes.nextOf (.ref j)) Q E s:=by
 obtain ⟨oj,gj,cj,dj⟩:=id t.1;obtain ⟨oq,gq,_,nq,dq⟩:=id t.2;unfold Builtin.SmallTypes.nextOf;refine wpAny_bind (wpAny_callSpecial?_slot (name:=Str.ofString "__next__") t.1.typeIs slot_tupleiter_next (wpAny_call_entry slot_tupleiter_next t.1.typeIs entry_tupleiter_next ?_ (args_tupleiter_next _)));refine wpAny_bind (m:=field (.ref j) 0) (wpAny_field gj dj (x:= .ref q) rfl ?_);show wpAny _ _ (if (Value.ref q==Value.none)=true then _ else _) _ _ s
 rw[if_neg (show ¬(Value.ref q==Value.none)=true from GE)]
 refine wpAny_bind (m:=field (.ref j) 1) (wpAny_field gj dj (x:= .int k 0) rfl (wpAny_bind (m:=seqItems? (.ref q)) (wpAny_seqItems gq dq ?_)));simp only[Hi,hx];refine wpAny_bind (wpAny_rule (wpAny_bind (wpAny_setField gj dj (by simp) (wpAny_bind (m:=newExc (.type "StopIteration") []) ?_))))
 simp only[newExc,newTuple];refine wpAny_bind (wpAny_newObj_type (wpAny_bind (m:=firstArgMember _ _) (wpAny_of_eq (a:=Value.none) (by first|rfl|(simp only[firstArgMember];rfl)) (wpAny_newObj_type ?_ (by size_fits)))) (by size_fits))
 simp only[raiseNew];refine wpAny_bind (wpAny_handled ?_)
 first|rw[show A.in1.handled=none from calm]|rw[calm]
 exact wpAny_bind (wpAny_pure (wpAny_throw (go _ _ (((Heap.SameBut.update ..).extBut.push _).push _) ⟨_,Heap.get?_push_size _ rfl,rfl⟩)))
variable {y ti to j1 j2 q l:Addr} {k:Nat} {xs ys:Array Value} {a b:Value}
structure EJ (h:Heap) (y ti to j1 j2 q l:Addr) (k:Nat) (xs ys:Array Value) (a b:Value):Prop where
 z:IsZip h y ti to .none
 i:IsPair h ti (.ref j1) (.ref j2)
 o:IsPair h to a b
 t:Ai h j1 q k xs
 n:h.IsListIter j2 l k
 li:h.IsList l ys
theorem xY {x v:Value} {Q:Lh->Shared->Prop} (D:ZipApart y ti to j1 j2 q l) (S:EJ s.heap y ti to j1 j2 q l k xs ys a b) (hx:xs[k]?=some x) (hv:ys[k]?=some v)
  (fin:∀h',IsZip h' y ti to (rawInt s.heap.objs.size)->IsPair h' to x v->IsTupIter h' j1 q (k+1)->h'.IsListIter j2 l (k+1)->IsPair h' s.heap.objs.size x v->h'.objs.size=s.heap.objs.size+1->
   (∀c o,c≠y->c≠to->c≠j1->c≠j2->s.heap.get? c=some o->h'.get? c=some o)->Q (some (.ref s.heap.objs.size)) {s with heap:=h'}):wpAny (model prog w) A (pyNext (.ref y)) Q E s:=by
 obtain ⟨sz,si,so,st,sn,sl⟩:=S;have ty:s.TypeIs (.ref y) "zip" :=⟨_,sz,rfl⟩;unfold pyNext;refine wpAny_bind (wpAny_attempt (wpAny_callSpecial?_slot (name:=Str.ofString "__next__") ty F.slot_zip_next (wpAny_call_entry F.slot_zip_next ty F.entry_zip_next ?_ (F.args_zip_next_1 _))));refine wpAny_bind (m:=field (.ref y) 2) (wpAny_field sz rfl (x:= .bool false) rfl (wpAny_bind (m:=field (.ref y) 3) (wpAny_field sz rfl (x:= .ref ti) rfl (wpAny_bind (wpAny_seqItems si rfl (wpAny_bind (m:=Builtin.SmallTypes.ownedTupleIsFree (.ref y)) ?_))))));unfold Builtin.SmallTypes.ownedTupleIsFree;refine wpAny_bind (wpAny_field sz rfl (x:= .none) rfl (wpAny_pure ?_));simp only[if_true];refine wpAny_bind (wpAny_rule (wpAny_bind (wpAny_field sz rfl (x:= .ref to) rfl (wpAny_bind (wpAny_setField_rec sz (by simp) fun e1 (z1:IsZip e1 y ti to .ellipsis) u1=>wpAny_bind ?_)))))
 simp only[List.zipIdx_cons,List.zipIdx_nil,List.forIn_cons,List.forIn_nil];refine wpAny_bind (wpAny_bind (wpAny_onRaise (wpAny_bind (m:=Builtin.SmallTypes.nextOf (.ref j1)) (sx (st.but u1 D.i1z D.l1z) D.l1i1 hx fun e2 t2 u2=>wpAny_pure ?_))))
 have o2:IsPair e2 to a b:=u2.extBut _ _ D.TOi1 (u1.extBut _ _ D.TOz so);refine wpAny_bind (wpAny_seqItems o2 rfl (wpAny_bind (wpAny_updateSeq_pair o2 fun e3 (o3:IsPair e3 to x b) u3=>wpAny_bind (wpAny_letGo (wpAny_pure ?_)))))
 have n3:=((sn.extBut u1.extBut D.i2z).extBut u2.extBut D.i12.symm).extBut u3.extBut D.TOi2.symm;have l3:=((sl.extBut u1.extBut D.l2z).extBut u2.extBut D.l2i1).extBut u3.extBut D.l2TO;refine wpAny_bind (wpAny_bind (wpAny_onRaise (wpAny_bind (m:=Builtin.SmallTypes.nextOf (.ref j2)) (wpAny_nextOf_list_item n3 l3 hv fun e4 n4 u4=>wpAny_pure ?_))))
 have o4:IsPair e4 to x b:=u4.extBut _ _ D.TOi2 o3;refine wpAny_bind (wpAny_seqItems o4 rfl (wpAny_bind (wpAny_updateSeq_pair o4 fun e5 (o5:IsPair e5 to x v) u5=>wpAny_bind (wpAny_letGo (wpAny_pure (wpAny_pure ?_))))))
 refine wpAny_bind (wpAny_seqItems o5 rfl (wpAny_bind (wpAny_newTuple (wpAny_bind (m:=Builtin.SmallTypes.ownedTupleHandOut (.ref y) (.ref e5.objs.size)) ?_))));have sz5:e5.objs.size=s.heap.objs.size:=by rw[u5.1,u4.1,u3.1,u2.1,u1.1]
 have all5:∀c o,c≠y->c≠to->c≠j1->c≠j2->s.heap.get? c=some o->e5.get? c=some o:=fun c o c1 c2 c3 c4 e=>u5.extBut _ _ c2 (u4.extBut _ _ c4 (u3.extBut _ _ c2 (u2.extBut _ _ c3 (u1.extBut _ _ c1 e))))
 have z5:IsZip e5 y ti to .ellipsis:=u5.extBut _ _ D.TOz.symm (u4.extBut _ _ D.i2z.symm (u3.extBut _ _ D.TOz.symm (u2.extBut _ _ D.i1z.symm z1)));have i5:IsTupIter e5 j1 q (k+1):=((t2.1.extBut u3.extBut D.TOi1.symm).extBut u4.extBut D.i12).extBut u5.extBut D.TOi1.symm;have n5:e5.IsListIter j2 l (k+1):=n4.extBut u5.extBut D.TOi2.symm;have yl:y<e5.objs.size:=Heap.lt_size z5;unfold Builtin.SmallTypes.ownedTupleHandOut;have z6:IsZip (e5.push {cls:= .type "tuple",data:= .seq #[x,v]}) y ti to .ellipsis:=Heap.get?_push_of_some _ z5;refine wpAny_bind (wpAny_setField_rec z6 (by simp) fun e7 (z7:IsZip e7 y ti to (rawInt e5.objs.size)) u7=>wpAny_setField_rec z7 (by simp) fun e8 (z8:IsZip e8 y ti to (rawInt e5.objs.size)) u8=>?_)
 have up:∀c o,c≠y->e5.get? c=some o->e8.get? c=some o:=fun c o c1 e=>u8.extBut _ _ c1 (u7.extBut _ _ c1 (Heap.get?_push_of_some _ e))
 have p8:IsPair e8 e5.objs.size x v:=u8.extBut _ _ (HG yl) (u7.extBut _ _ (HG yl) (Heap.get?_push_size _ rfl));have sz8:e8.objs.size=e5.objs.size+1:=by rw[u8.1,u7.1,Heap.size_push]
 rw[sz5] at z8 p8 sz8;refine wpAny_pure ⟨ν,wpAny_pure ?_⟩;show Q (some (.ref e5.objs.size)) _;rw[sz5];obtain ⟨oi,gi,ri⟩:=i5;exact fin e8 z8 (up _ _ D.TOz o5) ⟨oi,up _ _ D.i1z gi,ri⟩ (n5.at fun o e=>up _ o D.i2z e) p8 sz8 fun c o c1 c2 c3 c4 e=>up c o c1 (all5 c o c1 c2 c3 c4 e)
theorem Aj {Q:Lh->Shared->Prop} (calm:A.handled=none) (D:ZipApart y ti to j1 j2 q l) (S:EJ s.heap y ti to j1 j2 q l k xs ys a b) (hend:xs[k]?=none∨ys[k]?=none)
  (fin:∀h',(∀c o,c≠y->c≠to->c≠j1->c≠j2->s.heap.get? c=some o->h'.get? c=some o)->Q none {s with heap:=h'}):wpAny (model prog w) A (pyNext (.ref y)) Q E s:=by
 obtain ⟨sz,si,so,st,sn,sl⟩:=S;have ty:s.TypeIs (.ref y) "zip" :=⟨_,sz,rfl⟩;unfold pyNext;have out:∀h' e,(∀c o,c≠y->c≠to->c≠j1->c≠j2->s.heap.get? c=some o->h'.get? c=some o)->(∃o,h'.get? e=some o/\o.cls= .type "StopIteration")->wpAny (model prog w) A (do if<-isInstance (.ref e) (.type "StopIteration") then pure none else throw (.ref e)) Q E {s with heap:=h'}:=fun h' e hk he=>by
  obtain ⟨oe,ge,ce⟩:=he;exact wpAny_bind (wpAny_isInstance (T:= "StopIteration") (b:=true) ⟨oe,ge,ce⟩ isSubtype_stop (wpAny_pure (fin _ hk)))
 refine wpAny_bind (wpAny_attempt (wpAny_callSpecial?_slot (name:=Str.ofString "__next__") ty F.slot_zip_next (wpAny_call_entry F.slot_zip_next ty F.entry_zip_next ?_ (F.args_zip_next_1 _))));refine wpAny_bind (m:=field (.ref y) 2) (wpAny_field sz rfl (x:= .bool false) rfl (wpAny_bind (m:=field (.ref y) 3) (wpAny_field sz rfl (x:= .ref ti) rfl (wpAny_bind (wpAny_seqItems si rfl (wpAny_bind (m:=Builtin.SmallTypes.ownedTupleIsFree (.ref y)) ?_))))));unfold Builtin.SmallTypes.ownedTupleIsFree;refine wpAny_bind (wpAny_field sz rfl (x:= .none) rfl (wpAny_pure ?_));simp only[if_true];refine wpAny_bind (wpAny_rule (wpAny_bind (wpAny_field sz rfl (x:= .ref to) rfl (wpAny_bind (wpAny_setField_rec sz (by simp) fun e1 (z1:IsZip e1 y ti to .ellipsis) u1=>wpAny_bind ?_)))))
 simp only[List.zipIdx_cons,List.zipIdx_nil,List.forIn_cons,List.forIn_nil];cases hx:xs[k]? with
 |none=>
  refine wpAny_bind (wpAny_bind (wpAny_onRaise (wpAny_bind (m:=Builtin.SmallTypes.nextOf (.ref j1)) (xX calm (st.but u1 D.i1z D.l1z) hx fun e2 e u2 he=>?_))))
  obtain ⟨oe,ge,ce⟩:=he;have z2:IsZip e2 y ti to .ellipsis:=u2 _ _ D.i1z.symm z1;have ey:e≠y:=fun c=>by subst c;rw[z2] at ge;cases ge;simp at ce
  exact wpAny_setField_rec z2 (by simp) fun e3 _ u3=>out e3 e (fun c o c1 _ c3 _ g=>u3.extBut _ _ c1 (u2 _ _ c3 (u1.extBut _ _ c1 g))) ⟨oe,u3.extBut _ _ ey ge,ce⟩
 |some x=>
  have hy:ys[k]?=none:=by rcases hend with h|h;rw[hx] at h;cases h;exact h
  refine wpAny_bind (wpAny_bind (wpAny_onRaise (wpAny_bind (m:=Builtin.SmallTypes.nextOf (.ref j1)) (sx (st.but u1 D.i1z D.l1z) D.l1i1 hx fun e2 t2 u2=>wpAny_pure ?_))))
  have o2:IsPair e2 to a b:=u2.extBut _ _ D.TOi1 (u1.extBut _ _ D.TOz so);refine wpAny_bind (wpAny_seqItems o2 rfl (wpAny_bind (wpAny_updateSeq_pair o2 fun e3 o3 u3=>wpAny_bind (wpAny_letGo (wpAny_pure ?_)))))
  have n3:=((sn.extBut u1.extBut D.i2z).extBut u2.extBut D.i12.symm).extBut u3.extBut D.TOi2.symm;have l3:=((sl.extBut u1.extBut D.l2z).extBut u2.extBut D.l2i1).extBut u3.extBut D.l2TO;refine wpAny_bind (wpAny_bind (wpAny_onRaise (wpAny_bind (m:=Builtin.SmallTypes.nextOf (.ref j2)) (wpAny_nextOf_list_end calm n3 l3 hy fun e4 e u4 he=>?_))))
  obtain ⟨oe,ge,ce⟩:=he;have z4:IsZip e4 y ti to .ellipsis:=u4 _ _ D.i2z.symm (u3.extBut _ _ D.TOz.symm (u2.extBut _ _ D.i1z.symm z1));have ey:e≠y:=fun c=>by subst c;rw[z4] at ge;cases ge;simp at ce
  exact wpAny_setField_rec z4 (by simp) fun e5 _ u5=>out e5 e (fun c o c1 c2 c3 c4 g=>u5.extBut _ _ c1 (u4 _ _ c4 (u3.extBut _ _ c2 (u2.extBut _ _ c3 (u1.extBut _ _ c1 g))))) ⟨oe,u5.extBut _ _ ey ge,ce⟩
end
noncomputable def Fl (n:Nat) (q l:Addr):List Obj:= [{cls:= .type "tuple_iterator",data:= .fields #[.ref q,.int 0 0]},{cls:= .type "list_iterator",data:= .fields #[.ref l,.int 0 0]},{cls:= .type "tuple",data:= .seq #[.ref n,.ref (n+1)]},{cls:= .type "tuple",data:= .seq #[.none,.none]},{cls:= .type "zip",data:= .fields #[.none,.bool false,.bool false,.ref (n+2),.ref (n+3)]}]
noncomputable def EK (h:Heap) (q l:Addr):Heap:=(Fl h.objs.size q l).foldl Heap.push h
theorem we (q l:Addr) (xs ys:Array Value):Meets (Builtin.«zip.__new__» ⟨[.type "zip",.ref q,.ref l],[]⟩) (fun _ R s=>IsTup s.heap q xs/\s.heap.IsList l ys/\R (.ok (.ret (.ref (s.heap.objs.size+4)))) {s with heap:=EK s.heap q l}):=
 .of_wp fun prog w A R s k=>by
  obtain ⟨hp,g,d,tk,os⟩:=s;obtain ⟨k1,k2,k3⟩:=k;have sub:=sub_zip;have c1:IsTup (Shared.heap ⟨hp,g,d,tk,os⟩) q xs:=k1;have c2:Heap.IsList (Shared.heap ⟨hp.push {cls:= .type "tuple_iterator",data:= .fields #[.ref q,.int 0 0]},g,d,tk,os⟩) l ys:=Heap.IsList.push k2 _
  wp_walk using iter_tuple c1,wpAny_pyIter_list c2
  refine ⟨ν,?_⟩;simp only[Heap.size_push];exact k3
section
variable {prog:Program} {w:World} {A:Around} {E:K9} {s:Shared}
theorem xZ {q l:Addr} {xs ys:Array Value} {Q:K9} (h1:IsTup s.heap q xs) (h2:s.heap.IsList l ys)
  (fin:∀h',EJ h' (s.heap.objs.size+4) (s.heap.objs.size+2) (s.heap.objs.size+3) s.heap.objs.size (s.heap.objs.size+1) q l 0 xs ys .none .none->(∀c o,s.heap.get? c=some o->h'.get? c=some o)->Q (.ref (s.heap.objs.size+4)) {s with heap:=h'}):
  wpAny (model prog w) A (call (.type "zip") [.ref q,.ref l]) Q E s:=by
 have kp:∀c o,s.heap.get? c=some o->(EK s.heap q l).get? c=some o:=fun c o e=>by
  unfold EK Fl;simp only[List.foldl_cons,List.foldl_nil];exact Heap.get?_push_of_some _ (Heap.get?_push_of_some _ (Heap.get?_push_of_some _ (Heap.get?_push_of_some _ (Heap.get?_push_of_some _ e))))
 have at_:∀(h:Heap) (o1 o2 o3 o4 o5:Obj),o1.isFreed=false->o2.isFreed=false->o3.isFreed=false->o4.isFreed=false->o5.isFreed=false->(((((h.push o1).push o2).push o3).push o4).push o5).get? h.objs.size=some o1/\(((((h.push o1).push o2).push o3).push o4).push o5).get? (h.objs.size+1)=some o2/\(((((h.push o1).push o2).push o3).push o4).push o5).get? (h.objs.size+2)=some o3/\(((((h.push o1).push o2).push o3).push o4).push o5).get? (h.objs.size+3)=some o4/\(((((h.push o1).push o2).push o3).push o4).push o5).get? (h.objs.size+4)=some o5:=fun h o1 o2 o3 o4 o5 f1 f2 f3 f4 f5=>by
  have a1:=Heap.get?_push_size h f1;have a2:=Heap.get?_push_size (h.push o1) f2;have a3:=Heap.get?_push_size ((h.push o1).push o2) f3;have a4:=Heap.get?_push_size (((h.push o1).push o2).push o3) f4;have a5:=Heap.get?_push_size ((((h.push o1).push o2).push o3).push o4) f5;simp only[Heap.size_push] at a2 a3 a4 a5;exact ⟨Heap.get?_push_of_some _ (Heap.get?_push_of_some _ (Heap.get?_push_of_some _ (Heap.get?_push_of_some _ a1))),Heap.get?_push_of_some _ (Heap.get?_push_of_some _ (Heap.get?_push_of_some _ a2)),Heap.get?_push_of_some _ (Heap.get?_push_of_some _ a3),Heap.get?_push_of_some _ a4,a5⟩
 obtain ⟨a1,a2,a3,a4,a5⟩:=at_ s.heap {cls:= .type "tuple_iterator",data:= .fields #[.ref q,.int 0 0]} {cls:= .type "list_iterator",data:= .fields #[.ref l,.int 0 0]} {cls:= .type "tuple",data:= .seq #[.ref s.heap.objs.size,.ref (s.heap.objs.size+1)]} {cls:= .type "tuple",data:= .seq #[.none,.none]} {cls:= .type "zip",data:= .fields #[.none,.bool false,.bool false,.ref (s.heap.objs.size+2),.ref (s.heap.objs.size+3)]} rfl rfl rfl rfl rfl;refine callType_new F.called_zip (by decide) (F.typeCall_zip_2 _ _) (F.newCall_zip_2 _ _) (fun obj=>F.args_object_init_3 obj _ _) F.entry_zip_new (we q l xs ys) ⟨h1,h2,⟨_,a5,rfl⟩,fin _ ⟨a5,a3,a4,⟨⟨_,a1,rfl,rfl⟩,h1.keeps kp⟩,⟨_,a2,rfl,rfl⟩,?_⟩ kp⟩
 exact h2.at fun o e=>kp _ o e
end
noncomputable def Cz (K:F5) (l1 l2:Addr):It:=
  ⟨fun i H=>∃xs ys x y,bi K H l1 xs/\aO K H l2 ys/\xs[i]?=some x/\ys[i]?=some y,
   fun i H v H'=>∃(T:Addr) (x y:V),v= .ref T/\H T=none/\(∀xs,bi K H l1 xs->xs[i]?=some x)/\(∀ys,aO K H l2 ys->ys[i]?=some y)/\H'=aL H T (.tup [x,y]),
   fun i H=>∃xs ys,bi K H l1 xs/\aO K H l2 ys/\(xs.length<=i∨ys.length<=i)⟩
structure EL (h:Heap) (z ti to i1 i2 l1 l2:Addr) (i:Nat):Prop where
 zip:IsZip h z ti to .none
 ti:IsPair h ti (.ref i1) (.ref i2)
 to:∃a b,IsPair h to a b
 it1:IsTupIter h i1 l1 i
 it2:h.IsListIter i2 l2 i
theorem IsTupIter.at' {h h':Heap} {a t:Addr} {i:Nat} (x:IsTupIter h a t i) (k:∀o,h.get? a=some o->h'.get? a=some o):IsTupIter h' a t i:=let ⟨o,e,r⟩:=x;⟨o,k o e,r⟩
theorem EL.apart {h:Heap} {z TI TO i1 i2 l1 l2:Addr} {i:Nat} {ys:Array Value} (st:EL h z TI TO i1 i2 l1 l2 i) (d: [z,TI,TO,i1,i2].Nodup) (dl:l1∉ [z,TI,TO,i1,i2]) (h2:h.IsList l2 ys):ZipApart z TI TO i1 i2 l1 l2:=by
 obtain ⟨a,b,eto⟩:=st.to;obtain ⟨o1,e1,c1,_⟩:=st.it1;obtain ⟨o2,e2,c2,_⟩:=st.it2;simp only[GR,F8,GF,or_false,not_or,List.nodup_nil,and_true] at d dl;obtain ⟨⟨d1,d2,d3,d4⟩,⟨d5,d6,d7⟩,⟨d8,d9⟩,d10,_⟩:=d;obtain ⟨p1,p2,p3,p4,p5⟩:=dl;obtain ⟨q1,q2,q3,q4,q5⟩:l2≠z/\l2≠TI/\l2≠TO/\l2≠i1/\l2≠i2:=⟨gM h2 st.zip rfl (by decide),gM h2 st.ti rfl (by decide),gM h2 eto rfl (by decide),gM h2 e1 c1 (by decide),gM h2 e2 c2 (by decide)⟩
 constructor<;>first|assumption|exact Ne.symm (by assumption)
theorem x5 {P:Program} {w:World} {K:F5} {elts:List Expr} {k:Nat} {pos:Pos} (l1 l2 z TI TO i1 i2:Addr) (d: [z,TI,TO,i1,i2].Nodup) (dl:l1∉ [z,TI,TO,i1,i2]):Turn P w K (.Tuple elts k pos) (Cz K l1 l2) [z,TI,TO,i1,i2] z (fun i h=>EL h z TI TO i1 i2 l1 l2 i) where
 mem:=by simp
 obj:=fun i h st b hb=>by
  obtain ⟨a,b',eto⟩:=st.to;obtain ⟨o1,e1,c1,d1⟩:=st.it1;obtain ⟨o2,e2,c2,d2⟩:=st.it2;simp only[F8,GF,or_false] at hb;rcases hb with q|q|q|q|q<;>subst q
  ·exact ⟨_,st.zip,fun v z=>by cases z⟩
  ·exact ⟨_,st.ti,fun v z=>by cases z⟩
  ·exact ⟨_,eto,fun v z=>by cases z⟩
  ·exact ⟨o1,e1,fun v z=>by rw[d1] at z;cases z⟩
  ·exact ⟨o2,e2,fun v z=>by rw[d2] at z;cases z⟩
 keep:=fun i h h' st k=>⟨k _ (by simp) _ st.zip,k _ (by simp) _ st.ti,let ⟨a,b,e⟩:=st.to;⟨a,b,k _ (by simp) _ e⟩,IsTupIter.at' st.it1 fun o q=>k _ (by simp) o q,st.it2.at fun o q=>k _ (by simp) o q⟩
 item:=by
  intro X hP hw hK hc i pins s σ H E I hf st hg;subst hP hw hK;obtain ⟨xs,ys,x,y,hq1,hq2,hx,hy⟩:=hg;obtain ⟨is1,rv1,p1,hz1⟩:=I.tuple hq1;obtain ⟨is2,rv2,p2,hz2⟩:=I.list hq2;obtain ⟨u,hu,ru⟩:=rv1.get hx;obtain ⟨v,hv,rv⟩:=rv2.get hy;have ap:=st.apart d dl p2.isList;obtain ⟨a,b,eto⟩:=st.to;refine xY (xs:=is1.toArray) (ys:=is2.toArray) (x:=u) (v:=v) ap ⟨st.zip,st.ti,eto,⟨st.it1,p1⟩,st.it2,p2.isList⟩ (by simpa using hu) (by simpa using hv) fun h1 ho hto hi1 hi2 hT hsz hk=>?_
  refine ⟨_,rfl,wpAny_letOwnedTupleGo_zip (s:={s with heap:=h1}) ho fun h2 hz2' hs2=>?_⟩
  have nT:H s.heap.objs.size=none:=I.hok.fresh (FO _);have lt:∀b∈ [z,TI,TO,i1,i2],b<s.heap.objs.size:=fun b hb=>by
   obtain ⟨o1,e1,_⟩:=st.it1;obtain ⟨o2,e2,_⟩:=st.it2;simp only[F8,GF,or_false] at hb;rcases hb with q|q|q|q|q<;>subst q
   ·exact Heap.lt_size st.zip
   ·exact Heap.lt_size st.ti
   ·exact Heap.lt_size eto
   ·exact Heap.lt_size e1
   ·exact Heap.lt_size e2
  have zl:=lt z (by simp)
  have hT2:IsPair h2 s.heap.objs.size u v:=(hs2.2 _ (HG zl)).trans hT;have kp:∀b o,b∉ [z,TI,TO,i1,i2]->s.heap.get? b=some o->h2.get? b=some o:=fun b o hb q=>by
   simp only[F8,GF,or_false,not_or] at hb;exact (hs2.2 b hb.1).trans (hk b o hb.1 hb.2.2.1 hb.2.2.2.1 hb.2.2.2.2 q)
  have eti:h1.get? TI=some {cls:= .type "tuple",data:= .seq #[.ref i1,.ref i2]}:=hk TI _ ap.TIz ap.TITO ap.TIi1 ap.TIi2 st.ti;refine ⟨.ref s.heap.objs.size,aL H s.heap.objs.size (.tup [x,y]),I.turnedNew (t':=s.toks) (ch:= [z,TI,TO,i1,i2]) hf kp (FO _) ⟨by show 2<=sizeLine;decide,[u,v],.cons ru (.cons rv .nil),⟨_,hT2,rfl,0,rfl⟩⟩,rfl,
   ⟨_,x,y,rfl,nT,fun ys hy'=>by rw[I.tuple_inj hy' hq1];exact hx,fun ys hy'=>by rw[I.list_inj hy' hq2];exact hy,rfl⟩,⟨hz2',(hs2.2 _ ap.TIz).trans eti,⟨u,v,(hs2.2 _ ap.TOz).trans hto⟩,IsTupIter.at' hi1 fun o q=>(hs2.2 _ ap.i1z).trans q,hi2.at fun o q=>(hs2.2 _ ap.i2z).trans q⟩,fun b hb=>?_⟩
  rw[av (GJ (lt b hb))];exact (hf b hb).1
 done:=by
  intro X hP hw hK hc i pins s σ H E I hf st hg;subst hP hw hK;obtain ⟨xs,ys,hq1,hq2,hx⟩:=hg;obtain ⟨is1,rv1,p1,hz1⟩:=I.tuple hq1;obtain ⟨is2,rv2,p2,hz2⟩:=I.list hq2;have ap:=st.apart d dl p2.isList;obtain ⟨a,b,eto⟩:=st.to;have e1:=rv1.length;have e2:=rv2.length;refine Aj (xs:=is1.toArray) (ys:=is2.toArray) (I.ok.hd hc) ap ⟨st.zip,st.ti,eto,⟨st.it1,p1⟩,st.it2,p2.isList⟩ (by rcases hx with q|q;exact .inl (by simp;lia);exact .inr (by simp;lia)) fun h' hk=>⟨rfl,I.turnedAll (t':=s.toks) (ch:= [z,TI,TO,i1,i2]) hf fun b o hb q=>?_⟩
  simp only[F8,GF,or_false,not_or] at hb;exact hk b o hb.1 hb.2.2.1 hb.2.2.2.1 hb.2.2.2.2 q
 self:=fun _ _ _ _ _ st h=>wpAny_pyIter_zip st.zip h
theorem EM {l n:Nat} (h:l<n):l∉ [n+4,n+2,n+3,n,n+1]:=by
 simp only[F8,GF,or_false,not_or]
 lia
def FJ (K:F5) (ta:TA):TI:=fun σ H R=>ta σ H fun vs H1=>∃l1 l2:Addr,vs= [.ref l1,.ref l2]/\(∃xs,bi K H1 l1 xs)/\(∃ys,aO K H1 l2 ys)/\R (Cz K l1 l2) H1
theorem CA {X:Cx} {a b:Expr} {ta:TA} {elts:List Expr} {k:Nat} {tp p pos:Pos} (hg:Gl X "zip") (hm:X.mg "zip" =none) (ha:PA X [a,b] ta) (hs:starEach [a,b] X.env= [(false,eval a X.env),(false,eval b X.env)]:=by rfl) (hs2:starEach [b] X.env= [(false,eval b X.env)]:=by rfl):
  PI X (.Tuple elts k tp) (.Call (.Name "zip" p) [a,b] [] pos) (FJ X.K ta):=by
 intro pins s σ H R I h;refine Call_ (gh I hg hm boot_zip (HZ (bV (ha pos pins s σ H _ I h) fun us s1 ⟨vs,H1,I1,r1,q1⟩=>?_) (by rw[hs,hs2]) (by rw[hs2];rfl)))
 obtain ⟨l1,l2,e,⟨xs,hq1⟩,⟨ys,hq2⟩,q⟩:=q1;subst e;cases r1 with
 |cons r rr=>
  cases rr with
  |cons r' rr=>
   cases rr;cases r;cases r';obtain ⟨is1,rv1,p1,hz1⟩:=I1.tuple hq1;obtain ⟨is2,rv2,p2,hz2⟩:=I1.list hq2;refine xZ p1 p2.isList fun h' S hk=>?_
   obtain ⟨hz,hti,hto,⟨hi1,_⟩,hi2,_⟩:=S;refine wpAny_pyIter_zip (s:={s1 with heap:=h'}) hz ?_
   have I2:aM X pins σ H1 {s1 with heap:=h'}:=I1.kept (t':=s1.toks) hk
   have l1s:l1<s1.heap.objs.size:=p1.lt;refine ⟨s1.heap.objs.size+4,[s1.heap.objs.size+4,s1.heap.objs.size+2,s1.heap.objs.size+3,s1.heap.objs.size,s1.heap.objs.size+1],_,_,H1,rfl,I2,x5 l1 l2 _ _ _ _ _ (zM _) (EM l1s),⟨hz,hti,⟨_,_,hto⟩,hi1,hi2⟩,fun b hb=>?_,q⟩
   have bl:s1.heap.objs.size<=b:=by
    simp only[F8,GF,or_false] at hb;rcases hb with q|q|q|q|q<;>rw[q]<;>first|exact FO _|exact Nat.le_add_right _ _
   exact I1.fpOk bl (I1.hok.fresh bl)
theorem Ak {K:F5} {l1 l2:Addr} {xs ys:List V} {g:TG} {tb:TS} {D:Ends} {σ:St} {H:Hp} (Pv:Nat->St->Hp->Prop) (h0:Pv 0 σ H) (hl:∀i σ H,i<=min xs.length ys.length->Pv i σ H->bi K H l1 xs/\aO K H l2 ys)
  (hs:∀i x y σ H (T:Addr),xs[i]?=some x->ys[i]?=some y->Pv i σ H->H T=none->g (.ref T) σ (aL H T (.tup [x,y])) fun σ2 H2=>tb {D with nx:=Pv (i+1),ct:=Pv (i+1),bk:=D.nx} σ2 H2) (hd:∀σ H,Pv (min xs.length ys.length) σ H->D.nx σ H):
  ∃W:Nat->Nat->St->Hp->Prop,(∃m,W 0 m σ H)/\∀i m σ H,W i m σ H->
   ((Cz K l1 l2).stop i H/\D.nx σ H)∨((Cz K l1 l2).go i H/\∃N:St->Hp->Prop,(∀σ' H',N σ' H'->∃m',m'<m/\W (i+1) m' σ' H')/\∀x H',(Cz K l1 l2).yld i H x H'->g x σ H' fun σ2 H2=>tb {D with nx:=N,ct:=N,bk:=D.nx} σ2 H2):=by
 refine ⟨fun i m σ H=>m=min xs.length ys.length-i/\i<=min xs.length ys.length/\Pv i σ H,⟨min xs.length ys.length,by simp,Gi _,h0⟩,?_⟩
 rintro i m σ H ⟨rfl,hi,p⟩;obtain ⟨q1,q2⟩:=hl i σ H hi p
 by_cases hlt:i<min xs.length ys.length
 ·refine .inr ⟨⟨xs,ys,xs[i]'(by lia),ys[i]'(by lia),q1,q2,F0 _,F0 _⟩,Pv (i+1),fun σ' H' p'=>⟨min xs.length ys.length-(i+1),by lia,rfl,by lia,p'⟩,fun x H' y=>?_⟩
  obtain ⟨T,a,b,rfl,nT,ha,hb,rfl⟩:=y;exact hs i a b σ H T (ha xs q1) (hb ys q2) p nT
 ·have e:i=min xs.length ys.length:=by lia
  subst e;exact .inl ⟨⟨xs,ys,q1,q2,by lia⟩,hd σ H p⟩
end L2
namespace Sw
open PySem L2 XH Hm PySem.NumText
theorem sy (s:Str) (ws:Ld):Txt.join s ws=Str.join s ws:=StrLaws.glued_eq_join s ws
end Sw
namespace L2
open PySem
end L2
namespace Sw
open PySem L2 XH Hm PySem.NumText
end Sw
namespace L2
open PySem PySem.Spec PyProof.Rows XH Sw
end L2
namespace Sw
open PySem L2 XH Hm PySem.NumText
theorem oZ {ws:Ld} (ne:ws≠ []) (h:∀w∈ws,10∉sL w):Txt.split (Txt.join sg ws) sg=ws:=by
 unfold sg;rw[sy];exact eU ne h
inductive Fv where
 |nm (z:Str)
 |num (n:Nat)
 |am (a:dE)
def yV:RA Fv:=fun P H v x=>match x with
 | .nm z=>v= .str z
 | .num n=>v=vN n
 | .am a=>∃t,v= .ref t/\P t/\H t=some (.tup (wP a))
instance:Mv yV where
 mv:=fun {P P' H H' v x} g h=>by
  cases x with
  |nm z=>exact h
  |num n=>exact h
  |am a=>
   obtain ⟨t,e1,p,e2⟩:=h;exact ⟨t,e1,(g t _ p rfl e2).1,(g t _ p rfl e2).2⟩
noncomputable def qH:List (Str×(Nat×Nat)):= [("plates",(1,1000)),("length",(1,100000)),("many",(1,8)),("heat",(0,1000)),("turns",(0,100000)),("course",(1,8)),("parts",(0,400)),("low",(0,1000000000000000))]
noncomputable def x6:List (Str×List V):=qH.map fun p=>(p.1,[vN p.2.1,vN p.2.2])
noncomputable def cI:List (Str×Ld):= [("dish",["name","plates"]),("take",["name","amount"]),("cut",["name","length","length"]),("rest",["name","length","length"]),("warm",["name","length","length","amount"]),("or",["name","length","length"]),("with",["name","name","many","heat"]),("orwith",["name","name","many","heat"]),("after",["name","name"]),("within",["name","name","turns"]),("apart",["name","name"])]
noncomputable def fP:List (Str×List V):=cI.map fun p=>(p.1,p.2.map V.str)
open Classical in
noncomputable def ph (w:Str):Option dE:=if h:∃a:dE,Reads (sL w) a.1 a.2/\1<=a.1 then some h.choose else none
theorem lA {w:Str} {a:dE} (h:Reads (sL w) a.1 a.2) (p:1<=a.1):ph w=some a:=by
 have ex:∃a:dE,Reads (sL w) a.1 a.2/\1<=a.1:=⟨a,h,p⟩;unfold ph;rw[dif_pos ex];have:=iE ex.choose_spec.1 h;exact congrArg some (Prod.ext this.1 this.2)
theorem lC {w:Str} (h:∀a:dE,Reads (sL w) a.1 a.2->¬1<=a.1):ph w=none:=by
 unfold ph;rw[dif_neg];rintro ⟨a,h1,h2⟩;exact h a h1 h2
noncomputable def pi (w:Str) (lo hi:Nat):Option Nat:=if Aa (sL w)=true/\lo<=digitsVal (sL w)/\digitsVal (sL w)<=hi then some (digitsVal (sL w)) else none
noncomputable def bA (f w:Str):Option Fv:=if f= "name" then (if BI w=true then some (.nm w) else none) else if f= "amount" then (ph w).map .am else match qH.lookup f with
 |some b=>(pi w b.1 b.2).map .num
 |none=>none
noncomputable def cO:Ld->Ld->Option (List Fv)
 | [],[]=>some []
 |f::fs,w::ws=>match bA f w,cO fs ws with
  |some v,some vs=>some (v::vs)
  |_,_=>none
 |_,_=>none
noncomputable def cS (w:Str) (vs:List Fv):Bool:=match vs with
 | .nm _:: .num lo:: .num hi::_=> !(decide (w= "or" ∨w= "cut" ∨w= "rest" ∨w= "warm"))||decide (lo<=hi)
 | .nm a:: .nm b::_=> !(decide (w= "after" ∨w= "within" ∨w= "apart"))||decide (a≠b)
 |_=>true
noncomputable def mT (z:Str):Option (Str×List Fv):=if Str.empty∈Txt.split z nA then none else match Txt.split z nA with
 | []=>none
 |w::rest=>match cI.lookup w with
  |none=>none
  |some fs=>match cO fs rest with
   |none=>none
   |some vs=>if cS w vs=true then some (w,vs) else none
noncomputable def qI:Option dE->List Fv
 |none=> []
 |some a=> [.am a]
noncomputable def qJ:Rr->Str×List Fv
 | .take g a=>("take",[.nm g,.am a])
 | .step w n lo hi f=>(w,[.nm n,.num lo,.num hi]++qI f)
 | .sec n lo hi=>("or",[.nm n,.num lo,.num hi])
 | .use o n u=>(if o=true then "orwith" else "with",[.nm n,.nm u.1,.num u.2.1,.num u.2.2])
 | .link w a b t=>(w,[.nm a,.nm b]++if w= "within" then [.num t] else [])
theorem cK {z:Str} (h:Nm z):bA "name" z=some (.nm z):=by
 unfold bA;rw[if_pos rfl,if_pos ((gU z).mpr h)]
theorem pj {a:dE} (h:v4 a):bA "amount" (oR a)=some (.am a):=by
 unfold bA;rw[if_neg (by decide),if_pos rfl,lA (a:=a) (by unfold oR;rw[bB];exact h.rd) h.pos]
 rfl
theorem Al {n lo hi:Nat} (h1:lo<=n) (h2:n<=hi) (h3:n<=999999999):pi (bT n) lo hi=some n:=by
 unfold pi bT;rw[bB,qw];have dl:=dM (n:=n) (k:=8) (by lia)
 rw[if_pos];refine ⟨(jT _).mpr ?_,h1,h2⟩;have:=jz (eG (n:=n) (by lia))
 unfold xE;refine ⟨?_,by lia,?_,eF n⟩
 ·have:=rG n;have:=List.length_pos_iff.mpr this
  lia
 ·by_cases c:(dg n).head?=some 48
  ·have:=rH n c;subst this;exact .inr mC
  ·exact .inl c
theorem eW {f:Str} {n lo hi:Nat} (hf:qH.lookup f=some (lo,hi)) (n1:f≠ "name") (n2:f≠ "amount") (h1:lo<=n) (h2:n<=hi) (h3:n<=999999999):bA f (bT n)=some (.num n):=by
 unfold bA;rw[if_neg n1,if_neg n2,hf];show (pi (bT n) lo hi).map Fv.num=_;rw[Al h1 h2 h3]
 rfl
theorem a9 {f w:Str} {fs ws:Ld} {v:Fv} {vs:List Fv} (h:bA f w=some v) (k:cO fs ws=some vs):cO (f::fs) (w::ws)=some (v::vs):=by
 show (match bA f w,cO fs ws with|some v,some vs=>some (v::vs)|_,_=>none)=_
 rw[h,k]
def Wb (w:Str):Prop:=32∉sL w/\w≠ ""
theorem fE {z:Str} (h:Nm z):Wb z:=⟨fun m=>by have:=h.2.2 32 m;lia,fun e=>by rw[e] at h;exact absurd h.1 (by decide)⟩
theorem eQ (n:Nat):Wb (bT n):=⟨fL (by decide),fun e=>by
 have:=congrArg sL e;unfold bT at this;rw[bB] at this;exact rG n this⟩
theorem yW {a:dE} (h:v4 a):Wb (oR a):=by
 have no:∀c∈c6 a.1 a.2,43<=c:=fun c hc=>by
  unfold c6 at hc;have dd:∀n c,c∈dg n->43<=c:=fun n c h=>by have:=(eF n c h).1;lia
  split at hc
  ·exact dd _ c hc
  ·split at hc
   ·rcases GD.mp hc with h|h
    ·exact dd _ c h
    ·rcases F8.mp h with rfl|h
     ·decide
     ·exact dd _ c h
   ·rcases GD.mp hc with h|h
    ·exact dd _ c h
    ·rcases F8.mp h with rfl|h
     ·decide
     ·rcases GD.mp h with h|h
      ·exact dd _ c h
      ·rcases F8.mp h with rfl|h
       ·decide
       ·exact dd _ c h
 refine ⟨fun m=>?_,fun e=>?_⟩
 ·unfold oR at m;rw[bB] at m;have:=no 32 m
  lia
 ·have e1:=congrArg sL e;unfold oR at e1;rw[bB] at e1;have e0:c6 a.1 a.2= []:=e1;obtain ⟨n,m,hl,_⟩:=h.rd.ex;rw[e0] at hl;have:dB []=none:=by
   unfold dB c8 cM;rw[if_neg (by simp),if_neg (by simp),fW (fun f=>absurd f.1 (by decide))]
  rw[this] at hl;cases hl
theorem wf {ws:Ld} (ne:ws≠ []) (h:∀w∈ws,Wb w):Txt.split (jB ws) nA=ws/\Str.empty∉ws:=by
 refine ⟨?_,fun m=>(h _ m).2 rfl⟩
 unfold jB nA;rw[sy];exact eU ne fun w hw=>(h w hw).1
theorem eP {w:Str} {rest fs:Ld} {vs:List Fv} (h:∀x∈w::rest,Wb x) (hf:cI.lookup w=some fs) (hv:cO fs rest=some vs) (ha:cS w vs=true):mT (jB (w::rest))=some (w,vs):=by
 obtain ⟨e,n⟩:=wf (ws:=w::rest) (by simp) h
 unfold mT;rw[e,if_neg n];simp only[hf,hv,ha,if_true]
theorem t8 {w:Str} (h:BI w=true):Wb w:=fE ((gU w).mp h)
theorem lD {n:Str} {p:Nat} (h:Nm n) (p1:1<=p) (p2:p<=1000):mT (cn n p)=some (Str.ofString "dish",[Fv.nm n,Fv.num p]):=by
 refine eP (fs:= ["name","plates"]) (fun x hx=>?_) (by decide) (a9 (cK h) (a9 (eW (lo:=1) (hi:=1000) (by decide) (by decide) (by decide) p1 p2 (by lia)) rfl)) rfl
 simp only[F8,GF,or_false] at hx;rcases hx with rfl|rfl|rfl
 ·exact t8 (by decide+kernel)
 ·exact fE h
 ·exact eQ p
theorem sA {r:Rr} (h:gB r):mT (fA r)=some (qJ r):=by
 have LN:∀{n:Nat},1<=n->n<=100000->bA "length" (bT n)=some (.num n):=fun h1 h2=>eW (lo:=1) (hi:=100000) (by decide) (by decide) (by decide) h1 h2 (by lia)
 cases r with
 |take g a=>
  obtain ⟨h1,h2⟩:=h;refine eP (fs:= ["name","amount"]) (fun x hx=>?_) (by decide) (a9 (cK h1) (a9 (pj h2) rfl)) rfl
  simp only[F8,GF,or_false] at hx;rcases hx with rfl|rfl|rfl
  ·exact t8 (by decide+kernel)
  ·exact fE h1
  ·exact yW h2
 |step w n lo hi f=>
  obtain ⟨h1,h2,⟨l1,l2,l3⟩,h4⟩:=h;have lo1:=LN (n:=lo) l1 (by lia)
  have hi1:=LN (n:=hi) (by lia) l3
  have wb:Wb w:=by rcases h1 with rfl|rfl|rfl<;>exact t8 (by decide+kernel)
  cases f with
  |none=>
   have h4:w≠ "warm" :=h4;have hw:w= "cut" ∨w= "rest" :=by
    rcases h1 with e|e|e
    ·exact .inl e
    ·exact .inr e
    ·exact absurd e h4
   refine eP (fs:= ["name","length","length"]) (rest:= [n,bT lo,bT hi]) (fun x hx=>?_) (by rcases hw with rfl|rfl<;>decide) (a9 (cK h2) (a9 lo1 (a9 hi1 rfl))) (by simp[cS,l2])
   simp only[F8,GF,or_false] at hx;rcases hx with rfl|rfl|rfl|rfl
   ·exact wb
   ·exact fE h2
   ·exact eQ lo
   ·exact eQ hi
  |some a=>
   obtain ⟨rfl,h5⟩:=h4;refine eP (fs:= ["name","length","length","amount"]) (rest:= [n,bT lo,bT hi,oR a]) (fun x hx=>?_) (by decide) (a9 (cK h2) (a9 lo1 (a9 hi1 (a9 (pj h5) rfl)))) (by simp[cS,l2])
   simp only[F8,GF,or_false] at hx;rcases hx with rfl|rfl|rfl|rfl|rfl
   ·exact wb
   ·exact fE h2
   ·exact eQ lo
   ·exact eQ hi
   ·exact yW h5
 |sec n lo hi=>
  obtain ⟨h2,⟨l1,l2,l3⟩⟩:=h;refine eP (fs:= ["name","length","length"]) (fun x hx=>?_) (by decide) (a9 (cK h2) (a9 (LN l1 (by lia)) (a9 (LN (by lia) l3) rfl))) (by simp[cS,l2])
  simp only[F8,GF,or_false] at hx;rcases hx with rfl|rfl|rfl|rfl
  ·exact t8 (by decide+kernel)
  ·exact fE h2
  ·exact eQ lo
  ·exact eQ hi
 |use o n u=>
  obtain ⟨h1,h2,h3,h4,h5⟩:=h;have hw:(if o=true then Str.ofString "orwith" else Str.ofString "with")= "orwith" ∨(if o=true then Str.ofString "orwith" else Str.ofString "with")= "with" :=by cases o<;>simp
  show mT (jB [if o=true then Str.ofString "orwith" else Str.ofString "with",n,u.1,bT u.2.1,bT u.2.2])=some (if o=true then Str.ofString "orwith" else Str.ofString "with",_)
  generalize (if o=true then Str.ofString "orwith" else Str.ofString "with")=w at hw
  refine eP (fs:= ["name","name","many","heat"]) (fun x hx=>?_) (by rcases hw with rfl|rfl<;>decide) (a9 (cK h1) (a9 (cK h2) (a9 (eW (lo:=1) (hi:=8) (by decide) (by decide) (by decide) h3 h4 (by lia)) (a9 (eW (lo:=0) (hi:=1000) (by decide) (by decide) (by decide) (by lia) h5 (by lia)) rfl)))) (by rcases hw with rfl|rfl<;>(unfold cS;simp;exact .inl (by decide)))
  simp only[F8,GF,or_false] at hx;rcases hx with rfl|rfl|rfl|rfl|rfl
  ·rcases hw with rfl|rfl<;>exact t8 (by decide+kernel)
  ·exact fE h1
  ·exact fE h2
  ·exact eQ _
  ·exact eQ _
 |link w a b t=>
  obtain ⟨h1,h2,h3,h4,h5,h6⟩:=h;have wb:Wb w:=by rcases h1 with rfl|rfl|rfl<;>exact t8 (by decide+kernel)
  show mT (jB (mQ w a b t))=some (w,[.nm a,.nm b]++if w= "within" then [.num t] else [])
  unfold mQ
  by_cases c:w= "within"
  ·subst c;rw[if_pos rfl,if_pos rfl];refine eP (fs:= ["name","name","turns"]) (rest:= [a,b,bT t]) (fun x hx=>?_) (by decide) (a9 (cK h2) (a9 (cK h3) (a9 (eW (lo:=0) (hi:=100000) (by decide) (by decide) (by decide) (by lia) h5 (by lia)) rfl))) (by simp[cS,h4])
   simp only[F8,GF,or_false] at hx;rcases hx with rfl|rfl|rfl|rfl
   ·exact wb
   ·exact fE h2
   ·exact fE h3
   ·exact eQ t
  ·rw[if_neg c,if_neg c];have hw:w= "after" ∨w= "apart" :=by
    rcases h1 with e|e|e
    ·exact .inl e
    ·exact absurd e c
    ·exact .inr e
   refine eP (fs:= ["name","name"]) (rest:= [a,b]) (fun x hx=>?_) (by rcases hw with rfl|rfl<;>decide) (a9 (cK h2) (a9 (cK h3) rfl)) (by simp[cS,h4])
   simp only[F8,GF,or_false] at hx;rcases hx with rfl|rfl|rfl
   ·exact wb
   ·exact fE h2
   ·exact fE h3
end Sw
namespace L2
open PySem PySem.Spec PyProof.Rows XH Sw
def Mx (K:F5) (H:Hp) (v:V):Prop:=v= .non∨(∃z,v= .str z)∨(∃i,v= .int i)∨∃a ys,v= .ref a/\bi K H a ys
theorem wg {K:F5} {H:Hp}:∀{xs:List V} {us:Lf},aX xs us->(∀v∈xs,Mx K H v)->us.any mP=decide (V.non∈xs)
 | [],[],.nil,_=>rfl
 |x::xs,u::us,.cons r t,h=>by
  rw[List.any_cons,wg t fun v hv=>h v (FS _ hv)]
  rcases h x GM with rfl|⟨z,rfl⟩|⟨i,rfl⟩|⟨a,_,rfl,_⟩
  ·cases r;simp[mP]
  ·obtain ⟨_,rfl⟩:=r;simp[mP]
  ·obtain ⟨_,rfl⟩:=r;simp[mP]
  ·cases r;simp[mP]
theorem yX {X:Cx} {pins:Lb} {σ:St} {H:Hp} {s:Shared} (I:aM X pins σ H s) {A:Around} (hu:A.units<cLine):∀{xs:List V} {us:Lf},aX xs us->(∀v∈xs,Mx X.K H v)->∀u∈us,SeqAt.EqAt A s u .none (mP u)
 | [],[],.nil,_=>fun u hu=>by cases hu
 |x::xs,u::us,.cons r t,h=>fun u' hu'=>by
  rcases F8.mp hu' with rfl|hu'
  ·rcases h x GM with rfl|⟨z,rfl⟩|⟨i,rfl⟩|⟨a,ys,rfl,k⟩
   ·cases r;exact SeqAt.EqAt.same _
   ·obtain ⟨_,rfl⟩:=r;exact SeqAt.EqAt.str_none _ _
   ·obtain ⟨_,rfl⟩:=r;exact SeqAt.EqAt.int_none _ _
   ·cases r;obtain ⟨its,_,pl,_⟩:=I.tuple k;exact SeqAt.EqAt.tuple_none pl hu
  ·exact yX I hu t (fun v hv=>h v (FS _ hv)) u' hu'
theorem x8 {X:Cx} (hu:X.A.units+1<cLine):ik X (compareOp .In) (fun x y H Q=>∃(p:Addr) (xs:List V),x= .non/\y= .ref p/\aO X.K H p xs/\(∀v∈xs,Mx X.K H v)/\Q (.bl (decide (V.non∈xs))) H):=by
 intro pins s σ H x y v u Q I rx ry h;obtain ⟨p,xs,rfl,rfl,hS,hx,q⟩:=h;cases rx;cases ry;obtain ⟨its,r,pl,hz⟩:=I.list hS;refine SeqAt.in_listAt mP pl.isList (fun w hw=>yX I (by first|lia|(show X.A.units+1<cLine;lia)) r hx w (by simpa using hw)) ⟨.bl _,H,I,rfl,?_⟩
 rw[show its.toArray.any mP=its.any mP by simp,wg r hx]
 exact q
end L2
namespace Sw
open PySem L2 XH Hm PySem.NumText
def lE:Sp:=fun vs H Q _=>∃w:Str,vs= [.str w,.int 1]/\w.length<=10000/\(ph w=none->∀H',aA H H'->Q .non H')/\∀a:dE,ph w=some a->∀(t:Addr) (H':Hp),aA H H'->H' t=some (.tup (wP a))->Q (.ref t) H'
def wj (f:Str):Prop:=f= "name" ∨f= "amount" ∨(f≠ "name" /\f≠ "amount" /\f≠ "stock" /\∃b,qH.lookup f=some b)
def lF:Sp:=fun vs H Q _=>∃f w:Str,vs= [.str f,.str w]/\w.length<=10000/\wj f/\(bA f w=none->∀H',aA H H'->Q .non H')/\∀v:Fv,bA f w=some v->∀(x:V) (H':Hp),aA H H'->yV An H' x v->Q x H'
def LV (H:Hp) (l:Addr) (w:Str) (vs:List Fv):Prop:=∃us,H l=some (.lst (.str w::us))/\A2 (yV An H) us vs
theorem LV.same {H H':Hp} {l:Addr} {w:Str} {vs:List Fv} (h:LV H l w vs) (g:aA H H'):LV H' l w vs:=by
 obtain ⟨us,e,r⟩:=h;exact ⟨us,g _ _ e,r.imp fun _ _ q=>zW q g⟩
def jW (K:F5):Sp:=fun vs H Q _=>∃(t l:Addr) (fs:Ld) (w:Str) (rest:Ld),vs= [.ref t,.ref l]/\mS K t (fs.map V.str)/\H l=some (.lst ((w::rest).map V.str))/\EG (w::rest)/\(∀f∈fs,wj f)/\fs.length<=10/\(cO fs rest=none->∀H',aA H H'->Q .non H')/\∀us,cO fs rest=some us->∀(p:Addr) (H':Hp),aA H H'->H p=none->LV H' p w us->Q (.ref p) H'
theorem Ao:(x6.map fun p=>p.1).Nodup:=by decide+kernel
theorem pk:(fP.map fun p=>p.1).Nodup:=by decide+kernel
theorem fB {α β:Type} (g:α->β):∀(l:List (Str×α)) (k:Str),(l.map fun p=>(p.1,g p.2)).lookup k=(l.lookup k).map g
 | [],_=>rfl
 |(a,b)::l,k=>by
  rw[Gw,List.lookup_cons,List.lookup_cons];cases k==a with
  |true=>rfl
  |false=>exact fB g l k
theorem x9 {f:Str} {b:Nat×Nat} (h:qH.lookup f=some b):x6.lookup f=some [vN b.1,vN b.2]:=by
 unfold x6;rw[fB (fun b:Nat×Nat=> [vN b.1,vN b.2]),h]
 rfl
theorem t9 {w:Str} {fs:Ld} (h:cI.lookup w=some fs):fP.lookup w=some (fs.map V.str):=by
 unfold fP;rw[fB (fun b:Ld=>b.map V.str),h]
 rfl
theorem pp (w:Str):(fP.lookup w).isSome=(cI.lookup w).isSome:=by
 unfold fP;rw[fB (fun b:Ld=>b.map V.str),Option.isSome_map]
theorem wk {w:Str} {fs:Ld} (h:cI.lookup w=some fs):(∀f∈fs,wj f)/\fs.length<=10:=by
 have all:∀p∈cI,(∀f∈p.2,f= "name" ∨f= "amount" ∨f= "plates" ∨f= "length" ∨f= "many" ∨f= "heat" ∨f= "turns")/\p.2.length<=10:=by decide+kernel
 have m:∀(l:List (Str×Ld)),l.lookup w=some fs->(w,fs)∈l:=by
  intro l
  induction l with
  |nil=>intro h;cases h
  |cons p l ih=>
   intro h;rw[List.lookup_cons] at h;cases c:(w==p.1) with
   |true=>
    rw[c] at h;have e:w=p.1:=by simpa using c
    cases h;rw[e];exact GM
   |false=>
    rw[c] at h;exact FS _ (ih h)
 obtain ⟨h1,h2⟩:=all _ (m _ h);refine ⟨fun f hf=>?_,h2⟩
 rcases h1 f hf with e|e|e|e|e|e|e
 ·exact .inl e
 ·exact .inr (.inl e)
 all_goals
  subst e;exact .inr (.inr ⟨by decide,by decide,by decide,GV.mp (by decide+kernel)⟩)
noncomputable def fQ (fs ws:Ld):List (Option Fv):=(fs.zip ws).map fun p=>bA p.1 p.2
theorem lG:∀{fs ws:Ld},fs.length≠ws.length->cO fs ws=none
 | [],[],h=>absurd rfl h
 | [],_::_,_=>rfl
 |_::_,[],_=>rfl
 |f::fs,w::ws,h=>by
  have z:=lG (fs:=fs) (ws:=ws) fun e=>h (by simp[e])
  show (match bA f w,cO fs ws with|some v,some vs=>some (v::vs)|_,_=>none)=none
  rw[z];cases bA f w<;>rfl
theorem gD:∀{fs ws:Ld},fs.length=ws.length->(none∈fQ fs ws/\cO fs ws=none)∨∃us,cO fs ws=some us/\fQ fs ws=us.map some
 | [],[],_=> .inr ⟨[],rfl,rfl⟩
 |f::fs,w::ws,h=>by
  have e:cO (f::fs) (w::ws)=(match bA f w,cO fs ws with|some v,some vs=>some (v::vs)|_,_=>none):=rfl
  have eo:fQ (f::fs) (w::ws)=bA f w::fQ fs ws:=rfl;rw[e,eo];rcases gD (fs:=fs) (ws:=ws) (by simpa using h) with ⟨m,z⟩|⟨us,z,o⟩
  ·rw[z];exact .inl ⟨FS _ m,by cases bA f w<;>rfl⟩
  ·rw[z,o];cases bA f w with
   |none=>exact .inl ⟨GM,rfl⟩
   |some v=>exact .inr ⟨v::us,rfl,rfl⟩
def sB (H:Hp) (x:V) (v:Option Fv):Prop:=match v with|none=>x= .non|some v=>yV An H x v
theorem sB.same {H H':Hp} {x:V} {v:Option Fv} (h:sB H x v) (g:aA H H'):sB H' x v:=by
 cases v with
 |none=>exact h
 |some v=>exact zW (R:=yV) h g
theorem sB.upd {H:Hp} {x:V} {v:Option Fv} {l:Addr} {xs:List V} {o:HO} (h:sB H x v) (e:H l=some (.lst xs)):sB (aL H l o) x v:=by
 cases v with
 |none=>exact h
 |some v=>cases v with
  |am a=>
   obtain ⟨t,rfl,q,k⟩:=h;refine ⟨t,rfl,q,?_⟩;rw[av fun z=>by rw[z,e] at k;cases k]
   exact k
  |_=>exact h
theorem sB.mx {K:F5} {H:Hp} {x:V} {v:Option Fv} (h:sB H x v):Mx K H x/\(x= .non↔v=none):=by
 cases v with
 |none=>exact ⟨.inl h,iff_of_true h rfl⟩
 |some v=>cases v with
  |am a=>
   obtain ⟨t,rfl,q,k⟩:=h;exact ⟨.inr (.inr (.inr ⟨t,ν,.of k⟩)),iff_of_false (fun z=>by cases z) (fun z=>by cases z)⟩
  |nm z=>
   cases h;exact ⟨.inr (.inl ⟨ν⟩),iff_of_false (fun z=>by cases z) (fun z=>by cases z)⟩
  |num n=>
   cases h;exact ⟨.inr (.inr (.inl ⟨ν⟩)),iff_of_false (fun z=>by cases z) (fun z=>by cases z)⟩
theorem CB {H:Hp} {xs:List V} {us:List Fv} (h:A2 (sB H) xs (us.map some)):A2 (yV An H) xs us:=⟨by rw[h.1,F6],fun i v x e1 e2=>h.2 i v (some x) e1 (by rw[FP,e2];rfl)⟩
theorem wm {H:Hp} {xs:List V} {os:List (Option Fv)} (h:A2 (sB H) xs os):V.non∈xs↔none∈os:=by
 constructor
 ·intro m;obtain ⟨i,e⟩:=G4.mp m;obtain ⟨o,eo,r⟩:=h.at_ e;exact F9 ((r.mx (K:=default)).2.mp rfl▸eo)
 ·intro m;obtain ⟨i,e⟩:=G4.mp m;obtain ⟨v,ev,r⟩:=h.get e;cases r;exact F9 ev
def yY (w:Str) (vs:List Fv):Prop:=((w= "or" ∨w= "cut" ∨w= "rest" ∨w= "warm")->∃n lo hi r,vs= .nm n:: .num lo:: .num hi::r)/\((w= "after" ∨w= "within" ∨w= "apart")->∃a b r,vs= .nm a:: .nm b::r)
theorem dI {f:Str} {fs ws:Ld} {vs:List Fv} (h:cO (f::fs) ws=some vs):∃w ws' v vs',ws=w::ws'/\bA f w=some v/\cO fs ws'=some vs'/\vs=v::vs':=by
 cases ws with
 |nil=>cases h
 |cons w ws=>
  have h':(match bA f w,cO fs ws with|some v,some vs=>some (v::vs)|_,_=>none)=some vs:=h
  cases e:bA f w with
  |none=>rw[e] at h';cases h'
  |some v=>
   cases e':cO fs ws with
   |none=>rw[e,e'] at h';cases h'
   |some us=>
    rw[e,e'] at h';cases h';exact ⟨w,ws,v,us,rfl,e,e',rfl⟩
theorem gE {w:Str} {v:Fv} (h:bA "name" w=some v):v= .nm w:=by
 unfold bA at h;rw[if_pos rfl] at h
 split at h<;>cases h
 rfl
theorem lH {w:Str} {v:Fv} (h:bA "length" w=some v):∃n,v= .num n:=by
 unfold bA at h;rw[if_neg (by decide),if_neg (by decide),show qH.lookup (Str.ofString "length")=some (1,100000) by decide+kernel] at h
 obtain ⟨n,_,rfl⟩:=GS.mp h;exact ⟨n,rfl⟩
theorem wp {fs ws:Ld} {vs:List Fv} (h:cO ("name" :: "length" :: "length" ::fs) ws=some vs):∃n lo hi r,vs= .nm n:: .num lo:: .num hi::r:=by
 obtain ⟨w1,ws,v1,vs,rfl,h1,k1,rfl⟩:=dI h;obtain ⟨w2,ws,v2,vs,rfl,h2,k2,rfl⟩:=dI k1;obtain ⟨w3,ws,v3,vs,rfl,h3,k3,rfl⟩:=dI k2;obtain ⟨lo,rfl⟩:=lH h2;obtain ⟨hi,rfl⟩:=lH h3;cases gE h1;exact ⟨_,lo,hi,vs,rfl⟩
theorem ya {fs ws:Ld} {vs:List Fv} (h:cO ("name" :: "name" ::fs) ws=some vs):∃a b r,vs= .nm a:: .nm b::r:=by
 obtain ⟨w1,ws,v1,vs,rfl,h1,k1,rfl⟩:=dI h;obtain ⟨w2,ws,v2,vs,rfl,h2,k2,rfl⟩:=dI k1;cases gE h1;cases gE h2;exact ⟨_,_,vs,rfl⟩
theorem uc {w:Str} {fs ws:Ld} {vs:List Fv} (h:cI.lookup w=some fs) (v:cO fs ws=some vs):yY w vs:=by
 refine ⟨fun c=>?_,fun c=>?_⟩
 ·have:∃r:Ld,fs=("name" :Str)::("length" :Str)::("length" :Str)::r:=by
   rcases c with rfl|rfl|rfl|rfl
   ·exact ⟨_,GK (h.symm.trans (by decide+kernel:cI.lookup (Str.ofString "or")=some (("name" :Str):: "length" :: "length" :: [])))⟩
   ·exact ⟨_,GK (h.symm.trans (by decide+kernel:cI.lookup (Str.ofString "cut")=some (("name" :Str):: "length" :: "length" :: [])))⟩
   ·exact ⟨_,GK (h.symm.trans (by decide+kernel:cI.lookup (Str.ofString "rest")=some (("name" :Str):: "length" :: "length" :: [])))⟩
   ·exact ⟨_,GK (h.symm.trans (by decide+kernel:cI.lookup (Str.ofString "warm")=some (("name" :Str):: "length" :: "length" :: ["amount"])))⟩
  obtain ⟨r,rfl⟩:=this;exact wp v
 ·have:∃r:Ld,fs=("name" :Str)::("name" :Str)::r:=by
   rcases c with rfl|rfl|rfl
   ·exact ⟨_,GK (h.symm.trans (by decide+kernel:cI.lookup (Str.ofString "after")=some (("name" :Str):: "name" :: [])))⟩
   ·exact ⟨_,GK (h.symm.trans (by decide+kernel:cI.lookup (Str.ofString "within")=some (("name" :Str):: "name" :: ["turns"])))⟩
   ·exact ⟨_,GK (h.symm.trans (by decide+kernel:cI.lookup (Str.ofString "apart")=some (("name" :Str):: "name" :: [])))⟩
  obtain ⟨r,rfl⟩:=this;exact ya v
def sC:Sp:=fun vs H Q _=>∃(l:Addr) (w:Str) (us:List Fv),vs= [.ref l]/\LV H l w us/\yY w us/\Q (.bl (cS w us)) H
theorem aY {α:Type} {R:V->α->Prop} {xs:List V} {y:α} {ys:List α} (h:A2 R xs (y::ys)):∃x xs',xs=x::xs'/\R x y/\A2 R xs' ys:=by
 cases xs with
 |nil=>exact absurd h.1 (by simp)
 |cons x xs=>exact ⟨x,xs,rfl,h.2 0 x y rfl rfl,by simpa using h.1,fun i v z e1 e2=>h.2 (i+1) v z (by simpa using e1) (by simpa using e2)⟩
theorem Ap {H:Hp} {xs:List V} {n:Str} {lo hi:Nat} {r:List Fv} (h:A2 (yV An H) xs (.nm n:: .num lo:: .num hi::r)):∃ys,xs= .str n::vN lo::vN hi::ys:=by
 obtain ⟨_,_,rfl,e1,h1⟩:=aY h;obtain ⟨_,_,rfl,e2,h2⟩:=aY h1;obtain ⟨_,ys,rfl,e3,h3⟩:=aY h2;cases e1;cases e2;cases e3;exact ⟨ys,rfl⟩
theorem CC {H:Hp} {xs:List V} {a b:Str} {r:List Fv} (h:A2 (yV An H) xs (.nm a:: .nm b::r)):∃ys,xs= .str a:: .str b::ys:=by
 obtain ⟨_,_,rfl,e1,h1⟩:=aY h;obtain ⟨_,ys,rfl,e2,h2⟩:=aY h1;cases e1;cases e2;exact ⟨ys,rfl⟩
def jX:Sp:=fun vs H Q _=>∃z:Str,vs= [.str z]/\z.length<=1000/\(mT z=none->∀H',aA H H'->Q .non H')/\∀w us,mT z=some (w,us)->∀(p:Addr) (H':Hp),aA H H'->H p=none->LV H' p w us->Q (.ref p) H'
def fD:Sp:=fun vs H Q _=>∃(z:Str) (l:Addr) (ts:Ld) (a:V),vs= [.str z,.ref l,a]/\H l=some (.lst (ts.map V.str))/\z∉ts/\Q .non H
def eY:Sp:=fun vs H Q _=>∃(l:Addr) (xs:List V) (m:Nat),vs= [.ref l,.int m]/\H l=some (.lst xs)/\xs.length<m/\Q .non H
def f8 (cC cR cW cRec:Addr):Sp:=fun vs H Q _=>∃(r:Addr) (z:Str) (a:V) (n:Str) (p:Nat) (M:Md) (i:Nat) (s:SV),vs= [.ref r,.str z,a]/\yT cC cR cW cRec H r n p M/\M.steps.length<=1000/\M.steps[i]?=some s/\s.n=z/\(∀(j:Nat) (s:SV),j<i->M.steps[j]?=some s->s.n≠z)/\∀H',aA H H'->Q (.int i) H'
def lI (cC cR cW cRec:Addr):Sp:=fun vs H Q _=>∃(r l:Addr) (a:V) (G:Hp) (n:Str) (p:Nat) (lt ls lk:Addr) (ks:List So) (M:Md) (g:Str) (am:dE),vs= [.ref r,a,.ref l]/\RM cC cR cW cRec G H r n p lt ls lk ks M/\LV H l "take" [.nm g,.am am]/\(∀x∈M.takes,x.1≠g)/\M.takes.length<12/\∀H',RM cC cR cW cRec G H' r n p lt ls lk ks {M with takes:=M.takes++ [(g,am)]}->Q .non H'
def dz (M:Md) (z:Str) (i:Nat):Prop:=(∃s,M.steps[i]?=some s/\s.n=z)/\∀(j:Nat) (s:SV),j<i->M.steps[j]?=some s->s.n≠z
def lJ (cC cR cW cRec:Addr):Sp:=fun vs H Q _=>∃(r l:Addr) (a:V) (G:Hp) (n:Str) (p:Nat) (lt ls lk:Addr) (ks:List So) (M:Md) (w x y:Str) (t i j:Nat),vs= [.ref r,a,.ref l]/\RM cC cR cW cRec G H r n p lt ls lk ks M/\LV H l w ([.nm x,.nm y]++if w= "within" then [.num t] else [])/\(w≠ "within" ->t=0)/\M.steps.length<=1000/\dz M x i/\dz M y j/\M.links.length<24/\∀H',RM cC cR cW cRec G H' r n p lt ls lk ks {M with links:=M.links++ [(w,i,j,t)]}->Q .non H'
end Sw
namespace L2
open PySem PySem.Spec PyProof.Rows
abbrev yZ (v:Value):List (Str×Value):= [(Str.ofString "start",v)]
theorem Aq (a v:Value):checkTypeCall "enumerate" ⟨[a],yZ v⟩=pure ():=by kernel_rfl
theorem Ar (a v:Value):checkBuiltinCall "enumerate.__new__" ⟨[.type "enumerate",a],yZ v⟩=pure ():=by kernel_rfl
set_option maxHeartbeats 2000000 in
theorem ue (l:Addr) (xs:Array Value) (n:Nat) (dc:Lg) (sl:Lc) (t:Tok):Meets (Builtin.«enumerate.__new__» ⟨[.type "enumerate",.ref l],yZ (.int 1 t)⟩) (fun _ R s=>s.heap.get? l=some {cls:= .type "list",dict:=dc,data:= .seq xs n,slots:=sl}/\R (.ok (.ret (.ref (s.heap.push {cls:= .type "list_iterator",data:= .fields #[.ref l,.int 0 0]}).objs.size))) {s with heap:=(s.heap.push {cls:= .type "list_iterator",data:= .fields #[.ref l,.int 0 0]}).push {cls:= .type "enumerate",data:= .fields #[.none,.bool false,.ref s.heap.objs.size,rawInt 1,.none,.none]}}):=
 .of_wp fun pr wo A R s h=>by
  obtain ⟨hp,g,d,tk,os⟩:=s;obtain ⟨hl,h⟩:=h;have hsub:=sub_enumerate;have hL:Heap.IsList (Shared.heap ⟨hp,g,d,tk,os⟩) l xs:=⟨_,hl,rfl,n,rfl⟩
  wp_walk using AutoSeq1.wpAny_loadPart' hl
  refine wpAny_stack_any fun st=>wpAny_pure ?_
  split
  ·rename_i c _ _ _ _ _;cases (c==Value.type "enumerate")
   all_goals
    wp_walk using AutoSeq1.wpAny_loadPart' hl,wpAny_pyIter_list hL
    exact ⟨ν,h⟩
  ·wp_walk using AutoSeq1.wpAny_loadPart' hl,wpAny_pyIter_list hL
   exact ⟨ν,h⟩
section
variable {pr:Program} {wo:World} {A:Around} {E:K9} {s:Shared}
theorem As (a b v:Value):argsOk "object.__init__" ⟨[a,b],yZ v⟩:=by
 kernel_rfl
theorem yb {self a v:Value}:Meets (Builtin.«object.__init__» ⟨[self,a],yZ v⟩) (fun _ R s=>s.TypeIs self "enumerate" /\R (.ok (.ret .none)) s):=by
 refine Meets.of_wp fun pr wo A R s ⟨hT,hq⟩=>?_
 have hl:=F.called_enumerate.init.lookup;have hm:=F.called_enumerate.made
 repeat (any_goals (first|assumption|wp_step))
 exact ⟨ν,hq⟩
theorem qK {l:Addr} {xs:Array Value} {t:Tok} {Q:K9} (hL:s.heap.IsList l xs)
  (h:∀h',IsEnum h' (s.heap.objs.size+1) s.heap.objs.size 1 .none->h'.IsListIter s.heap.objs.size l 0->h'.objs.size=s.heap.objs.size+2->(∀b o,s.heap.get? b=some o->h'.get? b=some o)->Q (.ref (s.heap.objs.size+1)) {s with heap:=h'}):
  wpAny (model pr wo) A (call (.type "enumerate") [.ref l] (yZ (.int 1 t))) Q E s:=by
 obtain ⟨⟨c,dc,dt,sl⟩,hl,hc,n,hd⟩:=hL;change c= .type "list" at hc;change dt= .seq xs n at hd;subst hc hd;have ft:=F.called_enumerate;obtain ⟨c,tl,hmro⟩:=ft.mro;have hmade:=ft.made;have hsub:=ft.sub;have h1:=ft.notType;have h2:=ft.canCreate;have hct:=Aq (.ref l) (.int 1 t);refine wpAny_call (codeAny_of_tree ?_);show wpAny _ _ (callAny (.type "enumerate") _) _ _ _;refine wpAny_pure ⟨Code.quiet_builtin _ (by decide+kernel),codeAny_builtin F.entry_type_call ?_⟩
 rw[Around.under_plain (weight_type_call_type _ _ _) (units_type_call_type _ _ _)]
 repeat (any_goals (first|assumption|wp_step))
 generalize eh:(s.heap.push {cls:= .type "list_iterator",data:= .fields #[.ref l,.int 0 0]}).push {cls:= .type "enumerate",data:= .fields #[.none,.bool false,.ref s.heap.objs.size,rawInt 1,.none,.none]}=h9;have hz:(s.heap.push {cls:= .type "list_iterator",data:= .fields #[.ref l,.int 0 0]}).objs.size=s.heap.objs.size+1:=Heap.size_push ..;have kn:codeAny (model pr wo) A.in1 (Code.call (.builtin "enumerate.__new__") ⟨[.type "enumerate",.ref l],yZ (.int 1 t)⟩) (fun r s1=>r= .ok (.ret (.ref (s.heap.objs.size+1)))/\s1={s with heap:=h9}) s:=
  codeAny_call_builtin ft.plain F.entry_enumerate_new (wpAny_of_eq (Ar (.ref l) (.int 1 t)) (ue l xs n dc sl t pr wo A.in1 (fun r s1=>r= .ok (.ret (.ref (s.heap.objs.size+1)))/\s1={s with heap:=h9}) s ⟨hl,by rw[hz],by rw[eh]⟩))
 refine codeAny_mono kn fun r s1 hr=>?_
 obtain ⟨rfl,rfl⟩:=hr;have he:IsEnum h9 (s.heap.objs.size+1) s.heap.objs.size 1 .none:=by
  have k:=Heap.get?_push_size (s.heap.push {cls:= .type "list_iterator",data:= .fields #[.ref l,.int 0 0]}) (o:={cls:= .type "enumerate",data:= .fields #[.none,.bool false,.ref s.heap.objs.size,rawInt 1,.none,.none]}) rfl;rw[hz,eh] at k;exact k
 have hT:Shared.TypeIs {s with heap:=h9} (.ref (s.heap.objs.size+1)) "enumerate" :=⟨_,he,rfl⟩
 have hli:=ft.init.lookup;have hbi:=ft.init.bind (.ref (s.heap.objs.size+1))
 repeat (any_goals (first|assumption|wp_step))
 have ki:codeAny (model pr wo) A.in1 (Code.call (.builtin "object.__init__") ⟨[.ref (s.heap.objs.size+1),.ref l],yZ (.int 1 t)⟩) (fun r s1=>r= .ok (.ret .none)/\s1={s with heap:=h9}) {s with heap:=h9}:=
  codeAny_call_builtin ft.init.plain F.entry_object_init (ft.init.check _ _ _ _ _ _ _ _ hT (As _ _ _) (yb (a:= .ref l) (v:= .int 1 t) pr wo A.in1 (fun r s1=>r= .ok (.ret .none)/\s1={s with heap:=h9}) {s with heap:=h9} ⟨hT,rfl,rfl⟩))
 refine codeAny_mono ki fun r s1 hr=>?_
 obtain ⟨rfl,rfl⟩:=hr
 repeat (any_goals (first|assumption|wp_step))
 refine h h9 he ?_ ?_ fun b o x=>?_
 ·rw[<-eh];exact ⟨_,Heap.get?_push_of_some _ (Heap.get?_push_size _ rfl),rfl,rfl⟩
 ·rw[<-eh,Heap.size_push,hz]
 ·rw[<-eh];exact Heap.get?_push_of_some _ (Heap.get?_push_of_some _ x)
theorem qL {e it l:Addr} {i:Nat} {j:Int} {xs:Array Value} {x o0:Value} {Q:Lh->Shared->Prop} (he:IsEnum s.heap e it j o0) (hi:s.heap.IsListIter it l i) (hl:s.heap.IsList l xs) (hx:xs[i]?=some x) (ne:e≠it)
  (q:∀h',IsEnumOut h' e it (j+1) x s.heap.objs.size->h'.IsListIter it l (i+1)->h'.get? s.heap.objs.size=some {cls:= .type "tuple",data:= .seq #[.int j s.toks,x]}->h'.objs.size=s.heap.objs.size+1->(∀b o,b≠e->b≠it->s.heap.get? b=some o->h'.get? b=some o)->Q (some (.ref s.heap.objs.size)) {s with heap:=h',toks:=s.toks+1}):
  wpAny (model pr wo) A (pyNext (.ref e)) Q E s:=by
 have ty:s.TypeIs (.ref e) "enumerate" :=⟨_,he,rfl⟩;unfold pyNext;refine wpAny_bind (wpAny_attempt (wpAny_callSpecial?_slot (name:=Str.ofString "__next__") ty F.slot_enumerate_next (wpAny_call_entry F.slot_enumerate_next ty F.entry_enumerate_next ?_ (F.args_enumerate_next_1 _))));obtain ⟨p0,g,d,tk,os⟩:=s;show wpAny _ _ (field (.ref e) 2>>=fun _=>_) _ _ _
 refine wpAny_bind (wpAny_field he rfl (x:= .ref it) rfl (wpAny_bind (wpAny_nextOf_list_item hi hl hx fun pa ia (ba:Heap.SameBut it p0 pa)=>?_)))
 have ea:IsEnum pa e it j o0:=(ba.2 e ne).trans he;show wpAny _ _ (field (.ref e) 3>>=fun _=>_) _ _ ⟨pa,g,d,tk,os⟩
 refine wpAny_bind (wpAny_field ea rfl (x:=rawInt j) rfl ?_);show wpAny _ _ (field (.ref e) 4>>=fun _=>_) _ _ ⟨pa,g,d,tk,os⟩
 refine wpAny_bind (wpAny_field ea rfl (x:= .none) rfl ?_);show wpAny _ _ (mkInt j>>=fun _=>_) _ _ ⟨pa,g,d,tk,os⟩
 refine wpAny_bind (wpAny_mkInt ?_);show wpAny _ _ (setField (.ref e) 3 (rawInt (j+1))>>=fun _=>_) _ _ ⟨pa,g,d,tk+1,os⟩
 refine wpAny_bind (wpAny_setField_rec ea (by simp) fun pb (eb:IsEnum pb e it (j+1) o0) (bb:Heap.SameBut e pa pb)=>?_)
 show wpAny _ _ (setField (.ref e) 4 .none>>=fun _=>_) _ _ ⟨pb,g,d,tk+1,os⟩
 refine wpAny_bind (wpAny_setField_rec eb (by simp) fun pc (ec:IsEnum pc e it (j+1) o0) (bc:Heap.SameBut e pb pc)=>?_)
 show wpAny _ _ (newTuple [.int j tk,x]>>=fun _=>_) _ _ ⟨pc,g,d,tk+1,os⟩
 refine wpAny_bind (wpAny_newTuple ?_);have ed:IsEnum (pc.push {cls:= .type "tuple",data:= .seq #[.int j tk,x]}) e it (j+1) o0:=Heap.get?_push_of_some _ ec;have sz:pc.objs.size=p0.objs.size:=by rw[bc.1,bb.1,ba.1]
 have td:(pc.push {cls:= .type "tuple",data:= .seq #[.int j tk,x]}).get? p0.objs.size=some {cls:= .type "tuple",data:= .seq #[.int j tk,x]}:=by rw[<-sz];exact Heap.get?_push_size _ rfl
 have zd:(pc.push {cls:= .type "tuple",data:= .seq #[.int j tk,x]}).objs.size=p0.objs.size+1:=by rw[Heap.size_push,sz]
 have kd:∀b o,b≠e->b≠it->p0.get? b=some o->(pc.push {cls:= .type "tuple",data:= .seq #[.int j tk,x]}).get? b=some o:=fun b o n1 n2 z=>Heap.get?_push_of_some _ (bc.extBut b o n1 (bb.extBut b o n1 (ba.extBut b o n2 z)))
 have id':(pc.push {cls:= .type "tuple",data:= .seq #[.int j tk,x]}).IsListIter it l (i+1):=by
  obtain ⟨o,z,r⟩:=(ia.extBut bb.extBut ne.symm).extBut bc.extBut ne.symm;exact ⟨o,Heap.get?_push_of_some _ z,r⟩
 have el:e<p0.objs.size:=Heap.lt_size he;generalize pc.push {cls:= .type "tuple",data:= .seq #[.int j tk,x]}=pd at ed td zd kd id'⊢;show wpAny _ _ (Builtin.SmallTypes.ownedTupleIsFree (.ref e)>>=fun _=>_) _ _ ⟨pd,g,d,tk+1,os⟩
 rw[sz];clear ec bc eb bb ea ba ia sz pc pb pa;refine wpAny_bind ?_;unfold Builtin.SmallTypes.ownedTupleIsFree;refine wpAny_bind (wpAny_field ed rfl (x:= .none) rfl (wpAny_pure ?_));simp only[if_true];refine wpAny_bind (wpAny_rule (wpAny_bind (wpAny_field ed rfl (x:=o0) rfl (wpAny_bind (wpAny_setField_rec ed (by simp) fun pe (ee:IsEnum pe e it (j+1) x) (be:Heap.SameBut e pd pe)=>?_)))))
 show wpAny _ _ (Builtin.SmallTypes.ownedTupleHandOut (.ref e) (.ref p0.objs.size)>>=fun _=>_) _ _ ⟨pe,g,d,tk+1,os⟩
 refine wpAny_bind ?_;unfold Builtin.SmallTypes.ownedTupleHandOut;refine wpAny_bind (wpAny_setField_rec ee (by simp) fun pf (ef:IsEnumOut pf e it (j+1) x p0.objs.size) (bf:Heap.SameBut e pe pf)=>?_)
 refine wpAny_setField_rec ef (by simp) fun pg (eg:IsEnumOut pg e it (j+1) x p0.objs.size) (bg:Heap.SameBut e pf pg)=>?_
 refine wpAny_bind (wpAny_letGo (wpAny_pure ⟨ν,wpAny_pure (q pg eg ?_ ?_ ?_ ?_)⟩))
 ·exact ((id'.extBut be.extBut ne.symm).extBut bf.extBut ne.symm).extBut bg.extBut ne.symm
 ·exact bg.extBut _ _ (HG el) (bf.extBut _ _ (HG el) (be.extBut _ _ (HG el) td))
 ·rw[bg.1,bf.1,be.1,zd]
 ·exact fun b o n1 n2 z=>bg.extBut b o n1 (bf.extBut b o n1 (be.extBut b o n1 (kd b o n1 n2 z)))
theorem uf {e it l:Addr} {i:Nat} {j:Int} {xs:Array Value} {o0:Value} {Q:Lh->Shared->Prop} (hh:A.handled=none) (he:IsEnum s.heap e it j o0) (hi:s.heap.IsListIter it l i) (hl:s.heap.IsList l xs) (hx:xs[i]?=none) (q:∀h',Heap.ExtBut it s.heap h'->Q none {s with heap:=h'}):wpAny (model pr wo) A (pyNext (.ref e)) Q E s:=by
 have ty:s.TypeIs (.ref e) "enumerate" :=⟨_,he,rfl⟩;unfold pyNext;refine wpAny_bind (wpAny_attempt (wpAny_callSpecial?_slot (name:=Str.ofString "__next__") ty F.slot_enumerate_next (wpAny_call_entry F.slot_enumerate_next ty F.entry_enumerate_next ?_ (F.args_enumerate_next_1 _))));show wpAny _ _ (field (.ref e) 2>>=fun _=>_) _ _ _
 refine wpAny_bind (wpAny_field he rfl (x:= .ref it) rfl (wpAny_bind (wpAny_nextOf_list_end hh hi hl hx fun h' x k ⟨o,ho,hc⟩=>?_)))
 exact wpAny_bind (wpAny_isInstance (T:= "StopIteration") (b:=true) ⟨o,ho,hc⟩ isSubtype_stop (wpAny_pure (q _ k)))
end
noncomputable def wq (K:F5) (l:Addr):It:=
 ⟨fun i H=>∃xs x,aO K H l xs/\xs[i]?=some x,fun i H v H'=>∃(T:Addr) (x:V),v= .ref T/\H T=none/\(∀xs,aO K H l xs->xs[i]?=some x)/\H'=aL H T (.tup [.int ((i:Int)+1),x]),fun i H=>∃xs,aO K H l xs/\xs.length<=i⟩
theorem qM {P:Program} {w:World} {K:F5} {elts:List Expr} {k:Nat} {pos:Pos} (l e it:Addr) (ne:e≠it):Turn P w K (.Tuple elts k pos) (wq K l) [e,it] e (fun i h=>(∃old,IsEnum h e it ((i:Int)+1) old)/\h.IsListIter it l i) where
 mem:=by simp
 obj:=fun i h st b hb=>by
  obtain ⟨⟨old,he⟩,o,e1,c,d⟩:=st;rcases F8.mp hb with z|z
  ·subst z;exact ⟨_,he,fun v z=>by cases z⟩
  ·rw[G3.mp z];exact ⟨o,e1,fun v z=>by rw[d] at z;cases z⟩
 keep:=fun i h h' st k=>⟨let ⟨old,he⟩:=st.1;⟨old,k e (by simp) _ he⟩,st.2.at fun o q=>k it (by simp) o q⟩
 item:=by
  intro X hP hw hK hc i pins s σ H E I hf st hg;subst hP hw hK;obtain ⟨xs,x,hq,hx⟩:=hg;obtain ⟨its,rv,p,hz⟩:=I.list hq;obtain ⟨u,hu,ru⟩:=rv.get hx;obtain ⟨⟨old,he⟩,hit⟩:=st;refine qL he hit p.isList (x:=u) (by simpa using hu) ne fun h1 ho hit' hT hsz hk=>?_
  refine ⟨_,rfl,wpAny_letOwnedTupleGo_enum (s:={s with heap:=h1,toks:=s.toks+1}) ho fun h2 he2 hs2=>?_⟩
  have nT:H s.heap.objs.size=none:=I.hok.fresh (FO _);have el:e<s.heap.objs.size:=Heap.lt_size he;have il:it<s.heap.objs.size:=by obtain ⟨_,q,_⟩:=hit;exact Heap.lt_size q
  have hT2:h2.get? s.heap.objs.size=some {cls:= .type "tuple",data:= .seq #[.int ((i:Int)+1) s.toks,u]}:=(hs2.2 _ (HG el)).trans hT;have kp:∀b o,b∉ [e,it]->s.heap.get? b=some o->h2.get? b=some o:=fun b o hb q=>by
   simp at hb;exact (hs2.2 b hb.1).trans (hk b o hb.1 hb.2 q)
  refine ⟨.ref s.heap.objs.size,aL H s.heap.objs.size (.tup [.int ((i:Int)+1),x]),I.turnedNew (t':=s.toks+1) (ch:= [e,it]) hf kp (FO _) ⟨by show 2<=sizeLine;decide,[.int ((i:Int)+1) s.toks,u],.cons ⟨ν⟩ (.cons ru .nil),⟨_,hT2,rfl,0,rfl⟩⟩,rfl,
   ⟨_,x,rfl,nT,fun ys hy=>by rw[I.list_inj hy hq];exact hx,rfl⟩,⟨⟨u,?_⟩,?_⟩,fun b hb=>?_⟩
  ·simpa using he2
  ·exact hit'.at fun o q=>(hs2.2 it (Ne.symm ne)).trans q
  ·have bl:b≠s.heap.objs.size:=by
    rcases F8.mp hb with z|z
    ·rw[z];exact GJ el
    ·rw[G3.mp z];exact GJ il
   rw[av bl];exact (hf b hb).1
 done:=by
  intro X hP hw hK hc i pins s σ H E I hf st hg;subst hP hw hK;obtain ⟨xs,hq,hx⟩:=hg;obtain ⟨its,rv,p,hz⟩:=I.list hq;obtain ⟨⟨old,he⟩,hit⟩:=st;have hl:=rv.length;exact uf (I.ok.hd hc) he hit p.isList (by simp;lia) fun h' eb=>⟨rfl,I.turnedAll (t':=s.toks) (ch:= [e,it]) hf fun b o hb q=>eb b o (fun z=>hb (by simp[z])) q⟩
 self:=fun _ _ _ _ _ st h=>let ⟨_,he⟩:=st.1;wpAny_pyIter_enum he h
def At (K:F5) (te:TE):TI:=fun σ H R=>te σ H fun v H1=>∃l:Addr,v= .ref l/\(∃xs,aO K H1 l xs)/\R (wq K l) H1
theorem jY {M:Model} {A:Around} {E:K9} {s:Shared} {pos:Pos} {T:String} {args:List (Bool×Sem Value)} {kws:List (Option Str×Sem Value)} {Q:K9} (n1:args.any (fun x=>x.1)=false) (n2:kws.any (fun x=>x.1.isNone)=false)
  (h:wpAny M A (evalArgs (.type T) true args kws) (fun a s1=>wpAny M A (call (.type T) ([]++a.pos) a.kw) Q E s1) E s):wpAny M A (callWith pos (.type T) [] args kws) Q E s:=by
 unfold callWith;refine wpAny_bind (wpAny_holding (wpAny_mono h (fun a s1 k=>wpAny_bind (wpAny_standAt ?_)) fun _ _ x=>x))
 simp only[n1,n2,Bool.or_false];refine wpAny_bind (wpAny_pure (wpAny_bind (wpAny_mono k (fun r s2 z=>wpAny_bind (wpAny_holding (wpAny_point (wpAny_pure z)))) fun _ _ x=>x)))
theorem wt {X:Cx} {a:Expr} {te:TE} {elts:List Expr} {k cj:Nat} {tp p pos kp cp:Pos} (hg:Gl X "enumerate") (hm:X.mg "enumerate" =none) (ha:PE X a te) (hs:starEach [a] X.env= [(false,eval a X.env)]:=by rfl):PI X (.Tuple elts k tp) (.Call (.Name "enumerate" p) [a] [⟨some "start",.Constant (.int 1) cj cp,kp⟩] pos) (At X.K te):=by
 intro pins s σ H R I h;apply wpAny_Call_Name_kw;refine gh I hg hm boot_enumerate ?_ (by decide) (by decide)
 have hb:backTo pos (starEach [a] X.env)= [(false,eval a X.env)]:=by rw[hs];rfl
 rw[hb];refine jY rfl rfl (evalArgs_kwB rfl ?_);refine Calls.spliced_cons (x:=eval a X.env) (rest:= []) (bV (ha pins s σ H _ I h) fun v s1 ⟨x,H1,I1,r1,l,ex,⟨xs,hq⟩,q⟩=>?_)
 subst ex;cases r1;refine Calls.spliced_nil ?_;refine kws_cons (wpAny_Constant_int (kws_nil ?_));have I2:aM X pins σ H1 {s1 with toks:=s1.toks+1}:=I1.tok _
 obtain ⟨its,rv,p1,hz⟩:=I2.list hq;refine qK (s:={s1 with toks:=s1.toks+1}) p1.isList fun h' he hit hsz hk=>?_
 refine wpAny_pyIter_enum (s:={s1 with heap:=h',toks:=s1.toks+1}) he ?_
 have I3:aM X pins σ H1 {s1 with heap:=h',toks:=s1.toks+1}:=I2.kept (t':=s1.toks+1) hk
 refine ⟨s1.heap.objs.size+1,[s1.heap.objs.size+1,s1.heap.objs.size],_,_,H1,rfl,I3,qM l _ _ (Nat.succ_ne_self _),⟨⟨_,by simpa using he⟩,hit⟩,fun b hb=>?_,q⟩
 have bl:s1.heap.objs.size<=b:=by
  rcases F8.mp hb with z|z
  ·rw[z];exact Nat.le_succ _
  ·rw[G3.mp z];exact FO _
 exact I2.fpOk bl (I1.hok.fresh bl)
theorem ug {K:F5} {a:Addr} {xs:List V} {g:TG} {tb:TS} {D:Ends} {σ:St} {H:Hp} (Pv:Nat->St->Hp->Prop) (h0:Pv 0 σ H) (hl:∀i σ H,i<=xs.length->Pv i σ H->aO K H a xs)
  (hs:∀i x σ H (T:Addr),xs[i]?=some x->Pv i σ H->H T=none->g (.ref T) σ (aL H T (.tup [.int ((i:Int)+1),x])) fun σ2 H2=>tb {D with nx:=Pv (i+1),ct:=Pv (i+1),bk:=D.nx} σ2 H2) (hd:∀σ H,Pv xs.length σ H->D.nx σ H):
  ∃W:Nat->Nat->St->Hp->Prop,(∃m,W 0 m σ H)/\∀i m σ H,W i m σ H->
   ((wq K a).stop i H/\D.nx σ H)∨((wq K a).go i H/\∃N:St->Hp->Prop,(∀σ' H',N σ' H'->∃m',m'<m/\W (i+1) m' σ' H')/\∀x H',(wq K a).yld i H x H'->g x σ H' fun σ2 H2=>tb {D with nx:=N,ct:=N,bk:=D.nx} σ2 H2):=by
 refine ⟨fun i m σ H=>m=xs.length-i/\i<=xs.length/\Pv i σ H,⟨xs.length,by simp,Gi _,h0⟩,?_⟩
 rintro i m σ H ⟨rfl,hi,p⟩;have q:=hl i σ H hi p
 by_cases hlt:i<xs.length
 ·refine .inr ⟨⟨xs,xs[i],q,by simp[hlt]⟩,Pv (i+1),fun σ' H' p'=>⟨xs.length-(i+1),by lia,rfl,hlt,p'⟩,fun x H' y=>?_⟩
  obtain ⟨T,z,rfl,nT,hz,rfl⟩:=y;exact hs i z σ H T (hz xs q) p nT
 ·have e:i=xs.length:=by lia
  subst e;exact .inl ⟨⟨xs,q,FO _⟩,hd σ H p⟩
end L2
namespace Sw
open PySem L2 XH Hm PySem.NumText
section
variable {cC cR cW cRec:Addr} {G H H':Hp} {r:Addr} {n:Str} {p:Nat} {lt ls lk:Addr} {ks:List So} {M:Md}
theorem Au {dx:Addr} (g:aA H H') (nr:H r=none) (nt:H lt=none) (ns:H ls=none) (nk:H lk=none) (d1:lt≠r) (d2:ls≠r) (d3:lk≠r) (nd: [lt,ls,lk].Nodup) (er:H' r=some (.ins cRec dx (mK (.str n) (vN p) (.ref lt) (.ref ls) (.ref lk)))) (et:H' lt=some (.lst [])) (es:H' ls=some (.lst [])) (ek:H' lk=some (.lst [])):RM cC cR cW cRec H H' r n p lt ls lk [] ⟨[],[],[]⟩ where
 fr:=g
 nw:=fun a ha=>by
  simp only[cy,List.map_nil,List.flatten_nil,F8,GF,or_false] at ha;rcases ha with rfl|rfl|rfl|rfl
  ·exact nr
  ·exact nt
  ·exact ns
  ·exact nk
 nd:=by
  simp only[cy,List.map_nil,List.flatten_nil];rw[GR];refine ⟨fun m=>?_,nd⟩
  simp only[F8,GF,or_false] at m;rcases m with e|e|e
  ·exact d1 e.symm
  ·exact d2 e.symm
  ·exact d3 e.symm
 er:=⟨dx,er⟩
 et:=⟨[],et,A2.nil⟩
 es:=es
 len:=rfl
 ss:=fun i k s h=>by simp at h
 ek:=⟨[],ek,A2.nil⟩
end
def jZ (cC cR cW cRec:Addr):Sp:=fun vs H Q _=>∃(l:Addr) (n:Str) (p:Nat),vs= [.ref l]/\LV H l "dish" [.nm n,.num p]/\∀(r lt ls lk:Addr) (H':Hp),RM cC cR cW cRec H H' r n p lt ls lk [] ⟨[],[],[]⟩->Q (.ref r) H'
def pq (cC cR cW:Addr):Sp:=fun vs H Q _=>∃(l:Addr) (w n:Str) (lo hi:Nat) (f:Option dE),vs= [.ref l]/\LV H l w ([.nm n,.num lo,.num hi]++qI f)/\v5 w/\v6 w f/\∀(k:So) (H':Hp),aA H H'->SM cC cR cW H' k ⟨w,n,lo,hi,f,[],none⟩->(∀a∈k.own,H a=none)->k.own.Nodup->Q (.ref k.x) H'
def lK (cC cR cW cRec:Addr):Sp:=fun vs H Q _=>∃(r l:Addr) (a:V) (G:Hp) (n:Str) (p:Nat) (lt ls lk:Addr) (ks:List So) (M:Md) (w z:Str) (lo hi:Nat) (f:Option dE),vs= [.ref r,a,.ref l]/\RM cC cR cW cRec G H r n p lt ls lk ks M/\LV H l w ([.nm z,.num lo,.num hi]++qI f)/\v5 w/\v6 w f/\(∀s∈M.steps,s.n≠z)/\M.steps.length<12/\∀(k:So) (H':Hp),RM cC cR cW cRec G H' r n p lt ls lk (ks++ [k]) {M with steps:=M.steps++ [⟨w,z,lo,hi,f,[],none⟩]}->Q .non H'
def iN (cC cR cW cRec:Addr):Sp:=fun vs H Q _=>∃(r l:Addr) (a:V) (G:Hp) (n:Str) (p:Nat) (lt ls lk:Addr) (ks:List So) (M:Md) (z:Str) (lo hi i:Nat) (s:SV),vs= [.ref r,a,.ref l]/\RM cC cR cW cRec G H r n p lt ls lk ks M/\LV H l "or" [.nm z,.num lo,.num hi]/\M.steps.length<=1000/\dz M z i/\M.steps[i]?=some s/\s.sec=none/\∀(ks':List So) (H':Hp),RM cC cR cW cRec G H' r n p lt ls lk ks' {M with steps:=M.steps.set i {s with sec:=some (lo,hi,[])}}->Q .non H'
def pw (cC cR cW cRec:Addr):Sp:=fun vs H Q _=>∃(r l:Addr) (a:V) (G:Hp) (n:Str) (p:Nat) (lt ls lk:Addr) (ks:List So) (M:Md) (o:Bool) (z:Str) (u:bu) (i:Nat) (s:SV) (us:List bu),vs= [.ref r,a,.ref l]/\RM cC cR cW cRec G H r n p lt ls lk ks M/\LV H l (if o=true then "orwith" else "with") [.nm z,.nm u.1,.num u.2.1,.num u.2.2]/\M.steps.length<=1000/\dz M z i/\M.steps[i]?=some s/\(if o=true then ∃lo hi,s.sec=some (lo,hi,us) else s.uses=us)/\(∀x∈us,x.1≠u.1)/\us.length<12/\∀(ks':List So) (s':SV) (H':Hp),(if o=true then ∃lo hi,s.sec=some (lo,hi,us)/\s'={s with sec:=some (lo,hi,us++ [u])} else s'={s with uses:=us++ [u]})->RM cC cR cW cRec G H' r n p lt ls lk ks' {M with steps:=M.steps.set i s'}->Q .non H'
noncomputable def bP (M:Md):List Rr->Except wO Md
 | []=> .ok M
 |r::rs=>match fO M r with
  | .error e=> .error e
  | .ok M'=>bP M' rs
def lL (cC cR cW cRec:Addr):Sp:=fun vs H Q _=>∃(n:Str) (p:Nat) (rs:List Rr) (M:Md),vs= [.str (Txt.join sg (cn n p::rs.map fA))]/\Nm n/\1<=p/\p<=1000/\(∀r∈rs,gB r)/\rs.length<=1000/\bP ⟨[],[],[]⟩ rs= .ok M/\∀(r lt ls lk:Addr) (ks:List So) (H':Hp),RM cC cR cW cRec H H' r n p lt ls lk ks M->Q (.ref r) H'
theorem iG {M:Md} {z:Str} {i:Nat} (h:place M z=some i):dz M z i/\i<M.steps.length:=by
 unfold place at h;rw[List.findIdx?_eq_some_iff_getElem] at h;obtain ⟨il,h1,h2⟩:=h;refine ⟨⟨⟨_,F0 il,by simpa using h1⟩,fun j s jl hs e=>?_⟩,il⟩
 have:=h2 j jl;rw[F0 (by lia)] at hs
 cases hs;simp at this;exact this e
theorem fR {M M':Md} {n:Str} {f:SV->Except wO SV} (h:gC M n f= .ok M'):∃i s s',dz M n i/\M.steps[i]?=some s/\f s= .ok s'/\M'={M with steps:=M.steps.set i s'}:=by
 unfold gC at h
 split at h
 ·cases h
 next i e=>
 split at h
 ·cases h
 next s es=>
 split at h
 ·cases h
 next s' e'=>
 cases h;exact ⟨i,s,s',(iG e).1,es,e',rfl⟩
theorem pz {us us':List bu} {u:bu} (h:tV us u= .ok us'):(∀x∈us,x.1≠u.1)/\us.length≠12/\us'=us++ [u]:=by
 unfold tV at h
 split at h
 ·cases h
 next n1=>
 split at h
 ·cases h
 next n2=>
 cases h;exact ⟨fun x hx e=>n1 (GI.mpr ⟨x,hx,e⟩),n2,rfl⟩
theorem hG {M M':Md} {g:Str} {a:dE} (e:fO M (.take g a)= .ok M'):(∀x∈M.takes,x.1≠g)/\M.takes.length≠12/\M'={M with takes:=M.takes++ [(g,a)]}:=by
 change (if g∈M.takes.map (fun x=>x.1) then Except.error wO.twice else if M.takes.length=12 then .error .full else .ok _)=_ at e
 split at e
 ·cases e
 next n1=>
 split at e
 ·cases e
 next n2=>
 cases e;exact ⟨fun x hx e=>n1 (GI.mpr ⟨x,hx,e⟩),n2,rfl⟩
theorem hJ {M M':Md} {w n:Str} {lo hi:Nat} {f:Option dE} (e:fO M (.step w n lo hi f)= .ok M'):(∀s∈M.steps,s.n≠n)/\M.steps.length≠12/\M'={M with steps:=M.steps++ [⟨w,n,lo,hi,f,[],none⟩]}:=by
 change (if n∈M.steps.map (fun s=>s.n) then Except.error wO.twice else if M.steps.length=12 then .error .full else .ok _)=_ at e
 split at e
 ·cases e
 next n1=>
 split at e
 ·cases e
 next n2=>
 cases e;exact ⟨fun x hx e=>n1 (GI.mpr ⟨x,hx,e⟩),n2,rfl⟩
theorem hU {M M':Md} {w a b:Str} {t:Nat} (e:fO M (.link w a b t)= .ok M'):∃i j,dz M a i/\dz M b j/\M.links.length≠24/\M'={M with links:=M.links++ [(w,i,j,t)]}:=by
 simp only[fO] at e
 split at e
 ·cases e
 next i e1=>
 split at e
 ·cases e
 next j e2=>
 split at e
 ·cases e
 next n2=>
 cases e;exact ⟨i,j,(iG e1).1,(iG e2).1,n2,rfl⟩
theorem iO {M M':Md} {n:Str} {lo hi:Nat} (e:fO M (.sec n lo hi)= .ok M'):∃i s,dz M n i/\M.steps[i]?=some s/\s.sec=none/\M'={M with steps:=M.steps.set i {s with sec:=some (lo,hi,[])}}:=by
 obtain ⟨i,s,s',hp,hs,hf,rfl⟩:=fR e
 split at hf
 ·cases hf
 next es=>
 cases hf;exact ⟨i,s,hp,hs,es,rfl⟩
theorem iP {M M':Md} {n:Str} {u:bu} (e:fO M (.use false n u)= .ok M'):∃i s,dz M n i/\M.steps[i]?=some s/\(∀x∈s.uses,x.1≠u.1)/\s.uses.length≠12/\M'={M with steps:=M.steps.set i {s with uses:=s.uses++ [u]}}:=by
 obtain ⟨i,s,s',hp,hs,hf,rfl⟩:=fR e
 split at hf
 ·cases hf
 next us eu=>
 cases hf;obtain ⟨n1,n2,rfl⟩:=pz eu;exact ⟨i,s,hp,hs,n1,n2,rfl⟩
theorem iQ {M M':Md} {n:Str} {u:bu} (e:fO M (.use true n u)= .ok M'):∃i s lo hi us,dz M n i/\M.steps[i]?=some s/\s.sec=some (lo,hi,us)/\(∀x∈us,x.1≠u.1)/\us.length≠12/\M'={M with steps:=M.steps.set i {s with sec:=some (lo,hi,us++ [u])}}:=by
 obtain ⟨i,s,s',hp,hs,hf,rfl⟩:=fR e
 split at hf
 ·cases hf
 next lo hi us es=>
 split at hf
 ·cases hf
 next us' eu=>
 cases hf;obtain ⟨n1,n2,rfl⟩:=pz eu;exact ⟨i,s,lo,hi,us,hp,hs,es,n1,n2,rfl⟩
structure sD (M:Md):Prop where
 t:M.takes.length<=12
 s:M.steps.length<=12
 k:M.links.length<=24
 us:∀s∈M.steps,s.uses.length<=12/\∀x,s.sec=some x->x.2.2.length<=12
def pA (cC cR cW cRec:Addr):Sp:=fun vs H Q _=>∃(r l:Addr) (a:V) (G:Hp) (n:Str) (p:Nat) (lt ls lk:Addr) (ks:List So) (M M':Md) (rr:Rr),vs= [.ref r,a,.ref l]/\RM cC cR cW cRec G H r n p lt ls lk ks M/\LV H l (qJ rr).1 (qJ rr).2/\gB rr/\sD M/\fO M rr= .ok M'/\∀(ks':List So) (H':Hp),RM cC cR cW cRec G H' r n p lt ls lk ks' M'->Q .non H'
theorem sD.set {M:Md} (h:sD M) {i:Nat} {s':SV} (hs:s'.uses.length<=12/\∀x,s'.sec=some x->x.2.2.length<=12):sD {M with steps:=M.steps.set i s'}:=
 {h with
  s:=by simp;exact h.s
  us:=fun x hx=>by
   rcases List.mem_or_eq_of_mem_set hx with hx|rfl
   ·exact h.us x hx
   ·exact hs}
theorem sD.put {M M':Md} (h:sD M) {r:Rr} (e:fO M r= .ok M'):sD M':=by
 have ht:=h.t;have hs:=h.s;have hk:=h.k;cases r with
 |take g a=>
  obtain ⟨_,n2,rfl⟩:=hG e;exact {h with t:=by simp;lia}
 |step w n lo hi f=>
  obtain ⟨_,n2,rfl⟩:=hJ e;refine {h with s:=by simp;lia,us:=fun s hs=>?_}
  rcases GD.mp hs with hs|hs
  ·exact h.us s hs
  ·rw[G3.mp hs];exact ⟨by simp,fun x hx=>by cases hx⟩
 |sec n lo hi=>
  obtain ⟨i,s,hp,hs,_,rfl⟩:=iO e;have k:=h.us s (F9 hs);exact h.set ⟨k.1,fun x hx=>by cases hx;simp⟩
 |use o n u=>
  cases o with
  |false=>
   obtain ⟨i,s,hp,hs,_,n2,rfl⟩:=iP e;have k:=h.us s (F9 hs);exact h.set ⟨by have:=k.1;simp;lia,k.2⟩
  |true=>
   obtain ⟨i,s,lo,hi,us,hp,hs,es,_,n2,rfl⟩:=iQ e;have k:=h.us s (F9 hs);have k2:=k.2 _ es;dsimp only at k2;exact h.set ⟨k.1,fun x hx=>by cases hx;simp;lia⟩
 |link w a b t=>
  obtain ⟨i,j,_,_,n2,rfl⟩:=hU e;exact {h with k:=by simp;lia}
theorem hV {f:Str} {v x:V}:∀{fs:List (Str×V)},fs.lookup f=some x->(aK f v fs).length=fs.length
 | [],h=>by cases h
 |(g,y)::r,h=>by
  rw[show aK f v ((g,y)::r)=(if g=f then (g,v)::r else (g,y)::aK f v r) from rfl]
  by_cases c:g=f
  ·rw[if_pos c]
   rfl
  ·rw[if_neg c];rw[List.lookup_cons,show (f==g)=false by simpa using fun z=>c z.symm] at h
   simp[hV (fs:=r) h]
theorem xM.put2 {ff:List (Str×V)} {nm l m u s v:V} (h:xM ff nm l m u s):xM (aK "second" v ff) nm l m u v:=by
 have k:∀{g:Str},g≠ "second" ->(aK "second" v ff).lookup g=ff.lookup g:=fun hg=>by rw[bD,if_neg hg]
 exact ⟨(k (by decide+kernel)).trans h.name,(k (by decide+kernel)).trans h.least,(k (by decide+kernel)).trans h.most,(k (by decide+kernel)).trans h.uses,by rw[bD,if_pos rfl],(k (by decide+kernel)).trans h.word,(k (by decide+kernel)).trans h.span,(k (by decide+kernel)).trans h.grown,(k (by decide+kernel)).trans h.way,(k (by decide+kernel)).trans h.rounds⟩
section
variable {cC cR cW cRec:Addr} {G H H1 H':Hp} {r:Addr} {n:Str} {p:Nat} {lt ls lk:Addr} {ks:List So} {M:Md}
theorem RM.own_nd (h:RM cC cR cW cRec G H r n p lt ls lk ks M) {k:So} (hk:k∈ks):k.own.Nodup:=by
 have nd:=h.nd;unfold cy at nd;simp only[GR] at nd;have nf:=nd.2.2.2.2;exact nf.sublist (List.sublist_flatten_of_mem (GI.mpr ⟨k,hk,rfl⟩))
theorem qN {k:So} {x:Addr} {o:HO} (g:aA H H1) (hx:x∈k.own):Kp k.own H (aL H1 x o):=fun b u e m=>by
 rw[av fun z=>m (by rw[z];exact hx)]
 exact g _ _ e
theorem SM.second {k:So} {s:SV} {C dx:Addr} {sv:V} {ff:List (Str×V)} {t l:Addr} {lo hi:Nat} (hx:H k.x=some (.ins C dx ff)) (hC:jV cC cR cW s.w C) (sf:xM ff (.str s.n) (vN s.lo) (vN s.hi) (.ref k.u) sv) (l10:ff.length<=10) (hf:gY H ff s.fill) (hu:Uz H k.u s.uses) (g:aA H H1) (nl:H l=none) (el:H1 l=some (.lst [])) (et:H1 t=some (.tup [vN lo,vN hi,.ref l])):SM cC cR cW (aL H1 k.x (.ins C dx (aK "second" (.ref t) ff))) ⟨k.x,k.u,some l⟩ {s with sec:=some (lo,hi,[])}:=by
 have q:sw [k.x] H1:=f7 (g _ _ hx) nofun;have kp:=(Kp.refl [k.x] H1).put (x:=k.x) (by simp) (.ins C dx (aK "second" (.ref t) ff))
 have nu:k.u∉ [k.x]:=fun z=>by
  obtain ⟨vs,e,_⟩:=hu;rw[G3.mp z,hx] at e;cases e
 have nlx:l≠k.x:=fun z=>by rw[z,hx] at nl;cases nl
 refine ⟨C,dx,.ref t,_,ah,hC,sf.put2,by rw[hV sf.second];exact l10,?_,kp.rtupM q (hu.same g) nu,t,rfl,kp.tupM q et,[],?_,A2.nil⟩
 ·have k0:=kp.fillM q (hf.same g);show gY _ _ s.fill;generalize s.fill=o at k0;cases o with
  |none=>exact k0
  |some a=>
   obtain ⟨t',e1,e2⟩:=k0;exact ⟨t',by rw[bD,if_neg (by decide+kernel)];exact e1,e2⟩
 ·rw[av nlx];exact el
theorem SM.use {k:So} {s:SV} {vs:List V} {t:Addr} {u:bu} (h:SM cC cR cW H k s) (nd:k.own.Nodup) (ev:H k.u=some (.lst vs)) (g:aA H H1) (et:H1 t=some (.tup (ja u))):SM cC cR cW (aL H1 k.u (.lst (vs++ [.ref t]))) k {s with uses:=s.uses++ [u]}:=by
 obtain ⟨C,dx,sv,ff,hx,hC,sf,l10,hf,hu,hs⟩:=h.same g;have q:sw [k.u] H1:=f7 (g _ _ ev) nofun;have kp:=(Kp.refl [k.u] H1).put (x:=k.u) (by simp) (.lst (vs++ [.ref t]))
 simp only[So.own,GR,F8,not_or] at nd;refine ⟨C,dx,sv,ff,kp _ _ hx (by simpa using nd.1.1),hC,sf,l10,kp.fillM q hf,?_,kp.secM q hs fun b hb=>by simpa using fun z:b=k.u=>nd.2.1 (z▸hb)⟩
 obtain ⟨us,e',rr⟩:=hu;rw[g _ _ ev] at e';cases e';exact ⟨_,ah,(rr.snoc ⟨t,rfl,trivial,et⟩).imp fun v x ⟨t,e1,e2,e3⟩=>⟨t,e1,e2,kp.tupM q e3⟩⟩
theorem SM.orw {k:So} {s:SV} {vs:List V} {t l lo hi:Nat} {us:List bu} {u:bu} (h:SM cC cR cW H k s) (nd:k.own.Nodup) (ek:k.sec=some l) (es:s.sec=some (lo,hi,us)) (ev:H l=some (.lst vs)) (g:aA H H1) (et:H1 t=some (.tup (ja u))):SM cC cR cW (aL H1 l (.lst (vs++ [.ref t]))) k {s with sec:=some (lo,hi,us++ [u])}:=by
 obtain ⟨C,dx,sv,ff,hx,hC,sf,l10,hf,hu,hs⟩:=h.same g;have q:sw [l] H1:=f7 (g _ _ ev) nofun;have kp:=(Kp.refl [l] H1).put (x:=l) (by simp) (.lst (vs++ [.ref t]))
 simp only[So.own,ek,Option.toList,GR,F8,not_or,GF,not_false_eq_true,and_true] at nd;rw[ek,es] at hs;obtain ⟨t2,rfl,e2,⟨ws,e3,rr⟩⟩:=hs;rw[g _ _ ev] at e3;cases e3;refine ⟨C,dx,_,ff,kp _ _ hx (by simpa using nd.1.2),hC,sf,l10,kp.fillM q hf,kp.rtupM q hu (by simpa using nd.2.1),?_⟩
 rw[ek];exact ⟨t2,rfl,kp.tupM q e2,_,ah,(rr.snoc ⟨t,rfl,trivial,et⟩).imp fun v x ⟨t,e1,e2,e3⟩=>⟨t,e1,e2,kp.tupM q e3⟩⟩
end
theorem yc {r:Rr} (h:gB r) (e:(qJ r).1= "take"):∃g a,r= .take g a:=by
 cases r with
 |take g a=>exact ⟨g,a,rfl⟩
 |step w n lo hi f=>
  have e:w= "take" :=e;rcases h.1 with k|k|k<;>exact absurd (k.symm.trans e) (by decide)
 |sec n lo hi=>exact absurd e (show ¬Str.ofString "or" =Str.ofString "take" from by decide+kernel)
 |use o n u=>
  cases o with
  |false=>exact absurd e (show ¬Str.ofString "with" =Str.ofString "take" from by decide+kernel)
  |true=>exact absurd e (show ¬Str.ofString "orwith" =Str.ofString "take" from by decide+kernel)
 |link w a b t=>
  have e:w= "take" :=e;rcases h.1 with k|k|k<;>exact absurd (k.symm.trans e) (by decide)
theorem yd {r:Rr} (h:gB r) (e:(qJ r).1∈([("cut" :Str),"rest","warm"]:Ld)):∃w n lo hi f,r= .step w n lo hi f:=by
 cases r with
 |take g a=>exact absurd e (show ¬Str.ofString "take" ∈([Str.ofString "cut","rest","warm"]:Ld) from by decide+kernel)
 |step w n lo hi f=>exact ⟨w,n,lo,hi,f,rfl⟩
 |sec n lo hi=>exact absurd e (show ¬Str.ofString "or" ∈([Str.ofString "cut","rest","warm"]:Ld) from by decide+kernel)
 |use o n u=>
  cases o with
  |false=>exact absurd e (show ¬Str.ofString "with" ∈([Str.ofString "cut","rest","warm"]:Ld) from by decide+kernel)
  |true=>exact absurd e (show ¬Str.ofString "orwith" ∈([Str.ofString "cut","rest","warm"]:Ld) from by decide+kernel)
 |link w a b t=>
  have e:w∈([("cut" :Str),"rest","warm"]:Ld):=e;rcases h.1 with k|k|k<;>(rw[k] at e;exact absurd e (by decide+kernel))
theorem Av {r:Rr} (h:gB r) (e:(qJ r).1= "or"):∃n lo hi,r= .sec n lo hi:=by
 cases r with
 |take g a=>exact absurd e (show ¬Str.ofString "take" =Str.ofString "or" from by decide+kernel)
 |step w n lo hi f=>
  have e:w= "or" :=e;rcases h.1 with k|k|k<;>exact absurd (k.symm.trans e) (by decide)
 |sec n lo hi=>exact ⟨n,lo,hi,rfl⟩
 |use o n u=>
  cases o with
  |false=>exact absurd e (show ¬Str.ofString "with" =Str.ofString "or" from by decide+kernel)
  |true=>exact absurd e (show ¬Str.ofString "orwith" =Str.ofString "or" from by decide+kernel)
 |link w a b t=>
  have e:w= "or" :=e;rcases h.1 with k|k|k<;>exact absurd (k.symm.trans e) (by decide)
theorem Aw {r:Rr} (h:gB r) (e:(qJ r).1∈([("with" :Str),"orwith"]:Ld)):∃o n u,r= .use o n u:=by
 cases r with
 |take g a=>exact absurd e (show ¬Str.ofString "take" ∈([Str.ofString "with","orwith"]:Ld) from by decide+kernel)
 |step w n lo hi f=>
  have e:w∈([("with" :Str),"orwith"]:Ld):=e;rcases h.1 with k|k|k<;>(rw[k] at e;exact absurd e (by decide+kernel))
 |sec n lo hi=>exact absurd e (show ¬Str.ofString "or" ∈([Str.ofString "with","orwith"]:Ld) from by decide+kernel)
 |use o n u=>exact ⟨o,n,u,rfl⟩
 |link w a b t=>
  have e:w∈([("with" :Str),"orwith"]:Ld):=e;rcases h.1 with k|k|k<;>(rw[k] at e;exact absurd e (by decide+kernel))
theorem ye {r:Rr} (h:gB r) (n1:(qJ r).1≠ "take") (n2:(qJ r).1∉([("cut" :Str),"rest","warm"]:Ld)) (n3:(qJ r).1≠ "or") (n4:(qJ r).1∉([("with" :Str),"orwith"]:Ld)):∃w a b t,r= .link w a b t:=by
 cases r with
 |take g a=>exact absurd rfl n1
 |step w n lo hi f=>
  have n2:w∉([("cut" :Str),"rest","warm"]:Ld):=n2;rcases h.1 with k|k|k<;>(rw[k] at n2;exact absurd (by decide+kernel) n2)
 |sec n lo hi=>exact absurd rfl n3
 |use o n u=>
  cases o with
  |false=>exact absurd (show Str.ofString "with" ∈([Str.ofString "with","orwith"]:Ld) from by decide+kernel) n4
  |true=>exact absurd (show Str.ofString "orwith" ∈([Str.ofString "with","orwith"]:Ld) from by decide+kernel) n4
 |link w a b t=>exact ⟨w,a,b,t,rfl⟩
def Wg (w:Str):Prop:=(∀c∈sL w,32<=c)/\w.length<=40
theorem hW {z:Str} (h:Nm z):Wg z:=⟨fun c m=>by have:=h.2.2 c m;lia,by have:=h.len;lia⟩
theorem fS {n:Nat} (h:n<=999999999):Wg (bT n):=⟨fun c m=>by
 unfold bT at m;rw[bB] at m;have:=(eF n c m).1
 lia,by have:=du h;lia⟩
theorem yf {p q:Nat}:∀c∈c6 p q,43<=c:=fun c hc=>by
 have dd:∀n c,c∈dg n->43<=c:=fun n c h=>by have:=(eF n c h).1;lia
 unfold c6 at hc
 split at hc
 ·exact dd _ c hc
 ·split at hc
  ·rcases GD.mp hc with h|h
   ·exact dd _ c h
   ·rcases F8.mp h with rfl|h
    ·decide
    ·exact dd _ c h
  ·rcases GD.mp hc with h|h
   ·exact dd _ c h
   ·rcases F8.mp h with rfl|h
    ·decide
    ·rcases GD.mp h with h|h
     ·exact dd _ c h
     ·rcases F8.mp h with rfl|h
      ·decide
      ·exact dd _ c h
theorem y4 {a:dE} (h:v4 a):Wg (oR a):=⟨fun c m=>by
 unfold oR at m;rw[bB] at m;have:=yf c m
 lia,xT h⟩
theorem qO {w:Str} (h:BI w=true):Wg w:=hW ((gU w).mp h)
theorem wu:∀{ws:Ld},(∀w∈ws,Wg w)->∀c∈sL (jB ws),32<=c
 | [],_,c,m=>by simp[jB] at m;exact absurd m (by decide+revert)
 | [a],h,c,m=>(h a GM).1 c m
 |a::b::r,h,c,m=>by
  rw[mR,ci,ci] at m;rcases GD.mp m with m|m
  ·rcases GD.mp m with m|m
   ·exact (h a GM).1 c m
   ·have:sL nA= [32]:=by decide
    rw[this] at m;simp at m
    lia
  ·exact wu (fun w hw=>h w (FS _ hw)) c m
theorem y6 {r:Rr} (h:gB r):(∀w∈iW r,Wg w)/\(iW r).length<=5:=by
 have W:∀{w:Str},v5 w->Wg w:=fun h=>by rcases h with rfl|rfl|rfl<;>exact qO (by decide+kernel)
 have L:∀{w:Str},Fk w->Wg w:=fun h=>by rcases h with rfl|rfl|rfl<;>exact qO (by decide+kernel)
 cases r with
 |take g a=>
  refine ⟨fun w hw=>?_,by simp[iW]⟩
  simp only[iW,F8,GF,or_false] at hw;rcases hw with rfl|rfl|rfl
  ·exact qO (by decide+kernel)
  ·exact hW h.1
  ·exact y4 h.2
 |step w n lo hi f=>
  obtain ⟨h1,h2,⟨l1,l2,l3⟩,h4⟩:=h;refine ⟨fun x hx=>?_,by cases f<;>simp[iW,oS]⟩
  have hx:x∈ [w,n,bT lo,bT hi]++oS f:=hx;rcases GD.mp hx with hx|hx
  ·simp only[F8,GF,or_false] at hx;rcases hx with rfl|rfl|rfl|rfl
   ·exact W h1
   ·exact hW h2
   ·exact fS (by lia)
   ·exact fS (by lia)
  ·cases f with
   |none=>cases hx
   |some a=>
    rw[G3.mp hx];exact y4 h4.2
 |sec n lo hi=>
  obtain ⟨h2,⟨l1,l2,l3⟩⟩:=h;refine ⟨fun x hx=>?_,by simp[iW,gX]⟩
  simp only[iW,gX,F8,GF,or_false] at hx;rcases hx with rfl|rfl|rfl|rfl
  ·exact qO (by decide+kernel)
  ·exact hW h2
  ·exact fS (by lia)
  ·exact fS (by lia)
 |use o n u=>
  obtain ⟨h1,h2,h3,h4,h5⟩:=h;refine ⟨fun x hx=>?_,by simp[iW,dP]⟩
  simp only[iW,dP,F8,GF,or_false] at hx;rcases hx with rfl|rfl|rfl|rfl|rfl
  ·cases o
   ·exact qO (w:=Str.ofString "with") (by decide+kernel)
   ·exact qO (w:=Str.ofString "orwith") (by decide+kernel)
  ·exact hW h1
  ·exact hW h2
  ·exact fS (by lia)
  ·exact fS (by lia)
 |link w a b t=>
  obtain ⟨h1,h2,h3,h4,h5,h6⟩:=h;refine ⟨fun x hx=>?_,by simp only[iW,mQ];split<;>simp⟩
  have hx:x∈ [w,a,b]++if w= "within" then [bT t] else []:=hx
  rcases GD.mp hx with hx|hx
  ·simp only[F8,GF,or_false] at hx;rcases hx with rfl|rfl|rfl
   ·exact L h1
   ·exact hW h2
   ·exact hW h3
  ·split at hx
   ·rw[G3.mp hx];exact fS (by lia)
   ·cases hx
theorem j3 {r:Rr} (h:gB r):10∉sL (fA r)/\(fA r).length<=400:=by
 obtain ⟨h1,h2⟩:=y6 h;refine ⟨fun m=>absurd (wu h1 10 m) (by decide),?_⟩
 have k:=v7 (iW r) (m:=40) fun w hw=>(h1 w hw).2
 have:=Nat.mul_le_mul_left 41 h2;exact GP k (by lia)
theorem ic {n:Str} {p:Nat} (h:Nm n) (hp:p<=1000):10∉sL (cn n p)/\(cn n p).length<=400:=by
 refine ⟨fun m=>absurd (wu (ws:= ["dish",n,bT p]) (fun w hw=>?_) 10 m) (by decide),tY h hp⟩
 simp only[F8,GF,or_false] at hw;rcases hw with rfl|rfl|rfl
 ·exact qO (by decide+kernel)
 ·exact hW h
 ·exact fS (by lia)
theorem uh {n:Str} {p:Nat} {rs:List Rr} (h:Nm n) (hp:p<=1000) (ro:∀r∈rs,gB r):Txt.split (Txt.join sg (cn n p::rs.map fA)) sg=cn n p::rs.map fA:=by
 refine oZ (by simp) fun w hw=>?_
 rcases F8.mp hw with rfl|hw
 ·exact (ic h hp).1
 ·obtain ⟨r,hr,rfl⟩:=GI.mp hw;exact (j3 (ro r hr)).1
theorem yg {n:Str} {p:Nat} {rs:List Rr} (h:Nm n) (hp:p<=1000) (ro:∀r∈rs,gB r) (l:rs.length<=1000):(Txt.join sg (cn n p::rs.map fA)).length<=500000:=by
 have s:=gW (m:=400) (ws:=cn n p::rs.map fA) fun w hw=>by
  rcases F8.mp hw with rfl|hw
  ·exact (ic h hp).2
  ·obtain ⟨r,hr,rfl⟩:=GI.mp hw;exact (j3 (ro r hr)).2
 rw[oE,show sg.length=1 from rfl]
 simp only[G6,F6] at s⊢
 lia
theorem ie {rs ts:List Rr} {M M':Md} (h:bP M rs= .ok M'):bP M (rs++ts)=bP M' ts:=by
 induction rs generalizing M with
 |nil=>cases h;rfl
 |cons r rs ih=>
  simp only[HH,bP] at h⊢;cases e:fO M r with
  |error x=>rw[e] at h;cases h
  |ok M1=>rw[e] at h;exact ih h
theorem j4 {r:Rr} {rs:List Rr} {M M':Md} (h:bP M (r::rs)= .ok M'):∃M1,fO M r= .ok M1/\bP M1 rs= .ok M':=by
 simp only[bP] at h;cases e:fO M r with
 |error x=>rw[e] at h;cases h
 |ok M1=>rw[e] at h;exact ⟨M1,rfl,h⟩
theorem sD.puts {rs:List Rr} {M M':Md} (b:sD M) (h:bP M rs= .ok M'):sD M':=by
 induction rs generalizing M with
 |nil=>cases h;exact b
 |cons r rs ih=>
  obtain ⟨M1,e1,e2⟩:=j4 h;exact ih (b.put e1) e2
theorem sD.nil:sD ⟨[],[],[]⟩:=⟨by simp,by simp,by simp,fun s h=>by cases h⟩
theorem ui {rs:List Rr} {M:Md} (h:bP ⟨[],[],[]⟩ rs= .ok M) (i:Nat):∃M1,bP ⟨[],[],[]⟩ (rs.take i)= .ok M1/\sD M1/\bP M1 (rs.drop i)= .ok M:=by
 have g:∀(M0:Md) (rs:List Rr) (i:Nat),bP M0 rs= .ok M->∃M1,bP M0 (rs.take i)= .ok M1/\bP M1 (rs.drop i)= .ok M:=by
  intro M0 rs
  induction rs generalizing M0 with
  |nil=>intro i h;exact ⟨M0,by simp[bP],by simpa using h⟩
  |cons r rs ih=>
   intro i h;cases i with
   |zero=>exact ⟨M0,rfl,h⟩
   |succ i=>
    obtain ⟨M1,e1,e2⟩:=j4 h;obtain ⟨M2,k1,k2⟩:=ih M1 i e2;exact ⟨M2,by simp only[List.take_succ_cons,bP,e1];exact k1,k2⟩
 obtain ⟨M1,e1,e2⟩:=g _ rs i h;exact ⟨M1,e1,sD.nil.puts e1,e2⟩
section
variable {cC cR cW cRec:Addr} {G G' H H':Hp} {r:Addr} {n:Str} {p:Nat} {lt ls lk:Addr} {ks:List So} {M:Md}
theorem RM.low (h:RM cC cR cW cRec G H r n p lt ls lk ks M) (g:aA G' G):RM cC cR cW cRec G' H r n p lt ls lk ks M:={h with fr:=g.trans h.fr,nw:=fun a ha=>g.free (h.nw a ha)}
theorem RM.top (h:RM cC cR cW cRec G H r n p lt ls lk ks M):RM cC cR cW cRec (less H (cy r lt ls lk ks)) H r n p lt ls lk ks M:={h with fr:=tX _ _,nw:=fun a ha=>if_pos ha}
theorem RM.less (h:RM cC cR cW cRec G H r n p lt ls lk ks M):aA G (Sw.less H (cy r lt ls lk ks)):=fun b o e=>by
 rw[sk fun hx=>?_]
 ·exact h.fr _ _ e
 ·have:=h.nw b hx;rw[e] at this;cases this
end
theorem ww {r:Rr} (h:gB r):(qJ r).1≠ "dish" :=fun e=>by
 cases r with
 |take g a=>exact absurd e (show ¬Str.ofString "take" = "dish" from by decide)
 |step w n lo hi f=>
  have e:w= "dish" :=e;rcases h.1 with k|k|k<;>exact absurd (k.symm.trans e) (by decide)
 |sec n lo hi=>exact absurd e (show ¬Str.ofString "or" = "dish" from by decide)
 |use o n u=>
  cases o with
  |false=>exact absurd e (show ¬Str.ofString "with" = "dish" from by decide)
  |true=>exact absurd e (show ¬Str.ofString "orwith" = "dish" from by decide)
 |link w a b t=>
  have e:w= "dish" :=e;rcases h.1 with k|k|k<;>exact absurd (k.symm.trans e) (by decide)
theorem lM {us ts:List bu} {u:bu} (nd:((us++u::ts).map fun x=>x.1).Nodup) (l:(us++u::ts).length<=12):tV us u= .ok (us++ [u]):=by
 unfold tV;rw[if_neg,if_neg]
 ·simp at l;lia
 ·intro m;rw[GO,Gf] at nd;exact nd.2.2 _ m u.1 (by simp) rfl
def y8 (us:List bu):Prop:=(us.map fun x=>x.1).Nodup/\us.length<=12
end Sw
namespace L2
open PySem PySem.Spec PyProof.Rows XH Sw So
end L2
namespace Sw
open PySem L2 XH Hm PySem.NumText
open PyProof.Rows
noncomputable def wx (H:Hp) (a:Addr):bu:=match H a with
 |some (.tup [.str y,.int m,.int k])=>(y,m.toNat,k.toNat)
 |_=>(Str.empty,0,0)
variable {H H':Hp}
theorem j5 {a:Addr} {u:bu} (h:dC ja An H (.ref a) u):wx H a=u/\wN H a=u.1/\H a=some (.tup (ja u)):=by
 obtain ⟨t,e,_,k⟩:=h;cases e;have k':H a=some (.tup [.str u.1,vN u.2.1,vN u.2.2]):=k;refine ⟨?_,?_,k⟩
 ·unfold wx;rw[k'];show (u.1,((u.2.1:Nat):Int).toNat,((u.2.2:Nat):Int).toNat)=u;rw[Hi,Hi]
 ·unfold wN;rw[k']
theorem y9 {as:Le} {us:List bu} (r:A2 (dC ja An H) (as.map V.ref) us):us=as.map (wx H):=by
 refine HE fun i=>?_
 have hl:=r.1;rw[F6] at hl;rw[FP];cases e:as[i]? with
 |none=>
  rw[List.getElem?_eq_none_iff] at e;rw[List.getElem?_eq_none (by lia)]
  rfl
 |some a=>
  have il:=bv e;have hu:=F0 (l:=us) (i:=i) (by lia)
  have k:=r.2 i (.ref a) _ (by rw[FP,e];rfl) hu
  rw[hu,Hc,(j5 k).1]
theorem mW {as:Le} {us:List bu} (r:A2 (dC ja An H) (as.map V.ref) us):∀a∈as,dC ja An H (.ref a) (wx H a):=fun a ha=>by
 obtain ⟨i,hi⟩:=G4.mp ha;obtain ⟨u,hu,k⟩:=r.at_ (i:=i) (by rw[FP,hi];rfl)
 rw[(j5 k).1];exact k
theorem za {as:Le} {us:List bu} (r:A2 (dC ja An H) (as.map V.ref) us) (nd:y8 us):UL H as (wN H):=by
 have e:as.map (wN H)=us.map fun x=>x.1:=by
  rw[y9 r,Gy];exact HW fun a ha=>(j5 (mW r a ha)).2.1.trans (congrArg Prod.fst (j5 (mW r a ha)).1.symm)
 have hl:=r.1;rw[F6] at hl;refine ⟨fun a ha=>?_,by rw[e];exact nd.1,by have:=nd.2;lia⟩
 have k:=j5 (mW r a ha);exact ⟨_,_,by rw[k.2.1];exact k.2.2⟩
theorem wy {as bs:Le} {us:List bu} (r:A2 (dC ja An H) (as.map V.ref) us) (s:vV as bs (wN H)):A2 (dC ja An H) (bs.map V.ref) (bs.map (wx H))/\(bs.map (wx H)).Perm us/\sortedS ((bs.map (wx H)).map fun x=>x.1)=true:=by
 have all:∀a∈bs,dC ja An H (.ref a) (wx H a):=fun a ha=>mW r a (s.perm.mem_iff.mp ha)
 refine ⟨⟨by simp,fun i v x e1 e2=>?_⟩,?_,?_⟩
 ·rw[FP] at e1 e2;cases e:bs[i]? with
  |none=>rw[e] at e1;cases e1
  |some a=>
   rw[e] at e1 e2;cases e1;cases e2;exact all a (F9 e)
 ·rw[y9 r];exact s.perm.map _
 ·have e:(bs.map (wx H)).map (fun x=>x.1)=bs.map (wN H):=by
   rw[Gy];exact HW fun a ha=>((j5 (all a ha)).2.1.trans (congrArg Prod.fst (j5 (all a ha)).1.symm)).symm
  rw[e];exact s.srt
theorem qP {us U W:List bu} (nd:(us.map fun x=>x.1).Nodup) (p1:U.Perm us) (p2:W.Perm us) (s1:sortedS (U.map fun x=>x.1)=true) (s2:sortedS (W.map fun x=>x.1)=true):U=W:=by
 have e:=So.ou s1 s2 ((p1.map _).trans (p2.map _).symm);have inj:∀a∈us,∀b∈us,a.1=b.1->a=b:=fun a ha b hb e=>by
  obtain ⟨i,hi⟩:=G4.mp ha;obtain ⟨j,hj⟩:=G4.mp hb;have e1:(us.map fun x=>x.1)[i]?=some a.1:=by rw[FP,hi];rfl
  have e2:(us.map fun x=>x.1)[j]?=some a.1:=by rw[FP,hj,e];rfl
  have ij:=(List.getElem?_inj (by rw[F6];exact bv hi) nd).mp (e1.trans e2.symm)
  rw[ij,hj] at hi;exact (GK hi).symm
 apply HE;intro i;have ei:(U.map fun x=>x.1)[i]?=(W.map fun x=>x.1)[i]?:=by rw[e]
 rw[FP,FP] at ei;cases hb:U[i]? with
 |none=>
  cases hc:W[i]? with
  |none=>rfl
  |some c=>rw[hb,hc] at ei;cases ei
 |some b=>
  cases hc:W[i]? with
  |none=>rw[hb,hc] at ei;cases ei
  |some c=>
   rw[hb,hc] at ei;rw[inj b (p1.mem_iff.mp (F9 hb)) c (p2.mem_iff.mp (F9 hc)) (GK ei)]
theorem xU.sta {cC cR cW x:Addr} {s:SV} (h:xU cC cR cW H x s):∃(C:Addr) (as:Le) (c:qD),jV cC cR cW s.w C/\Fj H x C s.n (s.lo:Int) (s.hi:Int) as c/\A2 (dC ja An H) (as.map V.ref) s.uses/\wc H c s.sec:=by
 obtain ⟨C,dx,u,sv,ff,ex,hC,sf,hf,⟨vs,eu,ru⟩,hs⟩:=h;obtain ⟨as,rfl⟩:=A2.ref ru;generalize s.sec=o at hs⊢
 match o,hs with
 |none,hs=>exact ⟨C,as,none,hC,⟨dx,u,sv,ff,ex,sf,eu,hs⟩,ru,trivial⟩
 |some (lo,hi,us),⟨t,l,e1,e2,⟨ws,e3,rw⟩⟩=>
  obtain ⟨bs,rfl⟩:=A2.ref rw;exact ⟨C,as,some ((lo:Int),(hi:Int),bs),hC,⟨dx,u,sv,ff,ex,sf,eu,t,l,e1,e2,e3⟩,ru,rfl,rfl,rw⟩
theorem up_eq {n l p q:Int} (hq:0<q) (h:Up n l p q):n= -((-(l*p)).fdiv q):=by
 have h1:=h.lo;have h2:=h.hi;have k:=Int.mul_fdiv_add_fmod (-(l*p)) q;have m0:=FM (-(l*p)) hq;have m1:=FT (-(l*p)) hq;generalize (-(l*p)).fdiv q=d at k⊢;generalize l*p=X at*;have e1:(n+d+1)*q>0:=by
  rw[Int.add_mul,Int.add_mul,Hr d q,Int.one_mul]
  lia
 have e2:(n+d-1)*q<0:=by
  rw[show n+d-1=(n-1)+d by lia,Int.add_mul,Hr d q]
  lia
 have a1:0<n+d+1:=Int.not_le.mp fun z=>by
  have:=Int.mul_le_mul_of_nonneg_right z (HQ hq);rw[Int.zero_mul] at this
  lia
 have a2:n+d-1<0:=Int.not_le.mp fun z=>by
  have:=Int.mul_nonneg z (HQ hq)
  lia
 lia
def zb (s:SV):Prop:=y8 s.uses/\∀x,s.sec=some x->y8 x.2.2
theorem A2.cons {α:Type} {R:V->α->Prop} {x:V} {y:α} {xs:List V} {ys:List α} (h:R x y) (k:A2 R xs ys):A2 R (x::xs) (y::ys):=⟨by simp[k.1],fun i v z e1 e2=>by
 cases i with
 |zero=>
  cases e1;cases e2;exact h
 |succ i=>exact k.2 i v z (by simpa using e1) (by simpa using e2)⟩
abbrev Dv:=Nat×Nat×List bu
noncomputable def jb (s:SV):List Dv:=(s.lo,s.hi,s.uses)::s.sec.toList
theorem sE {H:Hp} {as:Le} {c:qD} {s:SV} (r:A2 (dC ja An H) (as.map V.ref) s.uses) (hc:wc H c s.sec):(fv (s.lo:Int) (s.hi:Int) as c).length=(jb s).length/\∀(i:Nat) (d:Due) (e:Dv),(fv (s.lo:Int) (s.hi:Int) as c)[i]?=some d->(jb s)[i]?=some e->d.1=(e.1:Int)/\d.2.1=(e.2.1:Int)/\A2 (dC ja An H) (d.2.2.map V.ref) e.2.2:=by
 unfold jb;generalize s.sec=o at hc
 match c,o,hc with
 |none,none,_=>
  refine ⟨rfl,fun i d e h1 h2=>?_⟩
  match i,h1,h2 with
  |0,h1,h2=>
   cases h1;cases h2;exact ⟨rfl,rfl,r⟩
 |some (x,y,bs),some (lo,hi,us),⟨k1,k2,k3⟩=>
  refine ⟨rfl,fun i d e h1 h2=>?_⟩
  match i,h1,h2 with
  |0,h1,h2=>
   cases h1;cases h2;exact ⟨rfl,rfl,r⟩
  |1,h1,h2=>
   cases h1;cases h2;exact ⟨k1,k2,k3⟩
theorem wz {n k:Nat} (h:n<2^k):Bd k (n:Int):=by
 unfold Bd
 simpa using h
theorem fT (us:List bu):∃W:List bu,W.Perm us/\((∃V:List bu,V.Perm us/\sortedS (V.map fun x=>x.1)=true)->sortedS (W.map fun x=>x.1)=true):=by
 by_cases h:∃V:List bu,V.Perm us/\sortedS (V.map fun x=>x.1)=true
 ·obtain ⟨V,h1,h2⟩:=h;exact ⟨V,h1,fun _=>h2⟩
 ·exact ⟨us,.refl _,fun k=>absurd k h⟩
noncomputable def CD (us:List bu):List bu:=Classical.choose (fT us)
theorem wA {us W:List bu} (nd:(us.map fun x=>x.1).Nodup) (p:W.Perm us) (s:sortedS (W.map fun x=>x.1)=true):W=CD us:=by
 have h:=Classical.choose_spec (fT us);exact qP nd p h.1 s (h.2 ⟨W,p,s⟩)
theorem yh (us:List bu):(CD us).length=us.length:=(Classical.choose_spec (fT us)).1.length_eq
abbrev uj:=Int×Int×List bu
structure kv where
 k:Int
 t:Int
 ws:List uj
noncomputable def zc (cut:Bool) (l p q:Int):Int:=if cut=true then-((-(l*p)).fdiv q) else l
theorem sF {cut:Bool} {l p q n:Int} (hq:0<q) (h:xN cut l p q n):n=zc cut l p q:=by
 unfold xN at h;unfold zc;cases cut with
 |true=>exact up_eq hq h.1
 |false=>exact h
noncomputable def wB (cut:Bool) (p q:Int) (d:Dv):uj:=(zc cut (d.1:Int) p q,zc cut (d.2.1:Int) p q,CD d.2.2)
noncomputable def kx (s:SV) (p q:Int):List uj:=(jb s).map (wB (decide (s.w= "cut")) p q)
noncomputable def lN (f:Option dE) (p q sp sq:Int):Int:=match f with
 |none=>1
 |some a=> -((-((a.1:Int)*p*sq)).fdiv (sp*(a.2:Int)*q))
theorem CF {n a b p q sp sq:Int} (hb:0<b) (hq:0<q) (hs:0<sp) (h:EA n a b p q sp sq):n= -((-(a*p*sq)).fdiv (sp*b*q)):=by
 have k:=up_eq (n:=n) (l:=a*p*sq) (p:=1) (q:=sp*b*q) (Gr (Gr hs hb) hq) ⟨by rw[Hl];exact h.lo,by rw[Hl];exact h.hi⟩
 rw[Hl] at k;exact k
noncomputable def DS:SV:=⟨"rest","",1,1,none,[],none⟩
noncomputable def pB (ss:List SV) (p q sp sq:Int):Nat->List kv
 |0=> []
 |i+1=>pB ss p q sp sq i++(Gx (lN (ss.getD i DS).fill p q sp sq).toNat).map fun t:Nat=>⟨(i:Int),(t:Int),kx (ss.getD i DS) p q⟩
noncomputable def wQ (ss:List SV) (p q sp sq:Int):List kv:=pB ss p q sp sq ss.length
noncomputable def wR (ss:List SV) (p q sp sq:Int):Int:=(ss.map fun s=>lN s.fill p q sp sq).sum
def EN (H:Hp) (v:V) (w:uj) (c:Addr):Prop:=∃a,v= .ref a/\H a=some (.tup [.int w.1,.int w.2.1,.ref c])/\Uz H c w.2.2
def mX (H:Hp) (b:Addr) (ws:List uj) (cs:Le):Prop:=∃vs,H b=some (.lst vs)/\cs.length=vs.length/\ws.length=vs.length/\∀(i:Nat) (v:V) (w:uj) (c:Addr),vs[i]?=some v->ws[i]?=some w->cs[i]?=some c->EN H v w c
def ze (H:Hp) (v:V) (t:kv) (o:Addr×Le):Prop:=∃a,v= .ref a/\H a=some (.tup [.int t.k,.int t.t,.ref o.1])/\mX H o.1 t.ws o.2
def A3 (H:Hp) (vs:List V) (ts:List kv) (os:List (Addr×Le)):Prop:=vs.length=ts.length/\os.length=ts.length/\∀(i:Nat) (v:V) (t:kv) (o:Addr×Le),vs[i]?=some v->ts[i]?=some t->os[i]?=some o->ze H v t o
noncomputable def eK (os:List (Addr×Le)):Le:=os.flatMap fun o=>o.1::o.2
def uk (F:Le) (H H':Hp):Prop:=∀(y:Addr) (o:HO),H y=some o->((∀zs,o≠ .lst zs)∨y∈F)->H' y=some o
theorem uk.mono {F G:Le} {H H':Hp} (k:uk F H H') (s:∀x∈G,x∈F):uk G H H':=fun y o e h=>k y o e (h.imp id (s y))
theorem uk.of {F:Le} {H H':Hp} (g:aA H H'):uk F H H':=fun y o e _=>g y o e
theorem uk.upd {F:Le} {H:Hp} {x:Addr} {zs:List V} {o:HO} (e:H x=some (.lst zs)) (n:x∉F):uk F H (aL H x o):=fun y p e1 h=>by
 rw[av (fun z=>by
  subst z;rw[e] at e1;cases e1;rcases h with h|h
  ·exact h _ rfl
  ·exact n h)]
 exact e1
theorem Uz.kp {F:Le} {H H':Hp} (k:uk F H H') {c:Addr} {us:List bu} (hc:c∈F) (h:Uz H c us):Uz H' c us:=by
 obtain ⟨vs,e,r⟩:=h;refine ⟨vs,k _ _ e (.inr hc),r.imp fun v u h=>?_⟩
 obtain ⟨t,e1,e2,e3⟩:=h;exact ⟨t,e1,e2,k _ _ e3 (.inl fun zs z=>by cases z)⟩
theorem mX.kp {F:Le} {H H':Hp} (k:uk F H H') {b:Addr} {cs:Le} {ws:List uj} (hb:b∈F) (hc:∀c∈cs,c∈F) (h:mX H b ws cs):mX H' b ws cs:=by
 obtain ⟨vs,e,l1,l2,r⟩:=h;refine ⟨vs,k _ _ e (.inr hb),l1,l2,fun i v w c e1 e2 e3=>?_⟩
 obtain ⟨a,k1,k2,k3⟩:=r i v w c e1 e2 e3;exact ⟨a,k1,k _ _ k2 (.inl fun zs z=>by cases z),k3.kp k (hc c (F9 e3))⟩
theorem ze.kp {F:Le} {H H':Hp} (k:uk F H H') {v:V} {t:kv} {o:Addr×Le} (hb:o.1∈F) (hc:∀c∈o.2,c∈F) (h:ze H v t o):ze H' v t o:=by
 obtain ⟨a,e1,e2,e3⟩:=h;exact ⟨a,e1,k _ _ e2 (.inl fun zs z=>by cases z),e3.kp k hb hc⟩
theorem sG {os:List (Addr×Le)} {o:Addr×Le} (h:o∈os):o.1∈eK os/\∀c∈o.2,c∈eK os:=⟨List.mem_flatMap.mpr ⟨o,h,GM⟩,fun c hc=>List.mem_flatMap.mpr ⟨o,h,FS _ hc⟩⟩
theorem A3.kp {H H':Hp} {vs:List V} {ts:List kv} {os:List (Addr×Le)} (h:A3 H vs ts os) (k:uk (eK os) H H'):A3 H' vs ts os:=⟨h.1,h.2.1,fun i v t o e1 e2 e3=>(h.2.2 i v t o e1 e2 e3).kp k (sG (F9 e3)).1 (sG (F9 e3)).2⟩
theorem A3.same {H H':Hp} {vs:List V} {ts:List kv} {os:List (Addr×Le)} (h:A3 H vs ts os) (g:aA H H'):A3 H' vs ts os:=h.kp (.of g)
theorem A3.drop {H:Hp} {vs:List V} {ts:List kv} {os:List (Addr×Le)} (h:A3 H vs ts os) (n:Nat):A3 H (vs.drop n) (ts.drop n) (os.drop n):=⟨by rw[Gd,Gd,h.1],by rw[Gd,Gd,h.2.1],fun i v t o e1 e2 e3=>by
 rw[Hd] at e1 e2 e3;exact h.2.2 _ v t o e1 e2 e3⟩
theorem A3.snoc {H:Hp} {vs:List V} {ts:List kv} {os:List (Addr×Le)} {v:V} {t:kv} {o:Addr×Le} (h:A3 H vs ts os) (k:ze H v t o):A3 H (vs++ [v]) (ts++ [t]) (os++ [o]):=by
 refine ⟨by simp[h.1],by simp[h.2.1],fun i v' t' o' e1 e2 e3=>?_⟩
 by_cases hi:i<vs.length
 ·rw[FV hi] at e1;rw[FV (by have:=h.1;lia)] at e2
  rw[FV (by have:=h.1;have:=h.2.1;lia)] at e3
  exact h.2.2 i v' t' o' e1 e2 e3
 ·have e4:i=vs.length:=by
   have:=(FR.mp e1).1;simp at this
   lia
  have l1:=h.1;have l2:=h.2.1;rw[e4] at e1 e2 e3;rw[FN (FO _),Nat.sub_self] at e1;rw[FN (by lia),show vs.length-ts.length=0 by lia] at e2
  rw[FN (by lia),show vs.length-os.length=0 by lia] at e3
  cases e1;cases e2;cases e3;exact k
structure ky (H0 H:Hp) (l:Addr) (ts:List kv):Prop where
 ex:∃vs os,H l=some (.lst vs)/\A3 H vs ts os/\(l::eK os).Nodup/\∀x∈l::eK os,H0 x=none
def FK (H:Hp) (l:Addr) (ts:List kv):Prop:=∃vs os,H l=some (.lst vs)/\A3 H vs ts os
theorem ky.same {H0 H H':Hp} {l:Addr} {ts:List kv} (h:ky H0 H l ts) (g:aA H H'):ky H0 H' l ts:=by
 obtain ⟨vs,os,e,a,r⟩:=h.ex;exact ⟨vs,os,g _ _ e,a.same g,r⟩
theorem A3.own {H:Hp} {vs:List V} {ts:List kv} {os:List (Addr×Le)} (h:A3 H vs ts os) {x:Addr} (hx:x∈eK os):∃zs,H x=some (.lst zs):=by
 obtain ⟨o,ho,hm⟩:=List.mem_flatMap.mp hx;obtain ⟨i,hi⟩:=G4.mp ho;have il:=(FR.mp hi).1;have l1:=h.1;have l2:=h.2.1;obtain ⟨a,_,_,vs',e,n1,n2,r⟩:=h.2.2 i _ _ o (F0 (show i<vs.length by lia)) (F0 (show i<ts.length by lia)) hi
 rcases F8.mp hm with rfl|hm
 ·exact ⟨_,e⟩
 ·obtain ⟨j,hj⟩:=G4.mp hm;have jl:=(FR.mp hj).1;obtain ⟨b,_,_,zs,k,_⟩:=r j _ _ x (F0 (show j<vs'.length by lia)) (F0 (show j<ts[i].ws.length by lia)) hj
  exact ⟨zs,k⟩
theorem ky.nil {H0 H:Hp} {l:Addr} (e:H l=some (.lst [])) (n:H0 l=none):ky H0 H l []:=⟨[],[],e,⟨rfl,rfl,fun i v t o e=>by simp at e⟩,by simp[eK],fun x hx=>by
 rcases F8.mp hx with rfl|hx
 ·exact n
 ·simp[eK] at hx⟩
theorem ky.snoc {H0 H H':Hp} {l:Addr} {ts:List kv} {t:kv} {o:Addr×Le} {v:V} (h:ky H0 H l ts) (g0:aA H0 H) (g:aA H H') (k:ze H' v t o) (nd:(o.1::o.2).Nodup) (nw:∀x∈o.1::o.2,H x=none):∃xs,H' l=some (.lst xs)/\xs.length=ts.length/\ky H0 (aL H' l (.lst (xs++ [v]))) l (ts++ [t]):=by
 obtain ⟨vs,os,e,a,n,f⟩:=h.ex;have el:=g _ _ e;have lo:l∉o.1::o.2:=fun z=>by rw[nw _ z] at e;cases e
 have kp:uk (eK os++(o.1::o.2)) H' (aL H' l (.lst (vs++ [v]))):= .upd el fun z=>by
  rcases GD.mp z with z|z
  ·exact (GR.mp n).1 z
  ·exact lo z
 have ow:eK (os++ [o])=eK os++(o.1::o.2):=by simp[eK]
 refine ⟨vs,el,a.1,vs++ [v],os++ [o],ah,?_,?_,?_⟩
 ·exact ((a.same g).kp (kp.mono fun x hx=>Gu _ hx)).snoc (k.kp (kp.mono fun x (hx:x∈o.1::o.2)=>FU _ hx) GM fun c hc=>FS _ hc)
 ·rw[ow,<-HH];refine Gf.mpr ⟨n,nd,fun x hx y hy z=>?_⟩
  subst z;have q:=nw _ hy;rcases F8.mp hx with rfl|hx
  ·rw[e] at q;cases q
  ·obtain ⟨zs,e2⟩:=a.own hx;rw[e2] at q;cases q
 ·rw[ow,<-HH];intro x hx;rcases GD.mp hx with hx|hx
  ·exact f x hx
  ·exact g0.free (nw x hx)
noncomputable def BJ (H:Hp) (t:Addr):Addr:=match H t with
 |some (.tup [_,_,.ref l])=>l
 |_=>t
theorem Ax {H:Hp} {t l:Addr} {x y:V} (e:H t=some (.tup [x,y,.ref l])):BJ H t=l:=by
 unfold BJ;rw[e]
theorem sH {s:SV} (nd:zb s):∀d∈jb s,y8 d.2.2:=fun d hd=>by
 unfold jb at hd;rcases F8.mp hd with rfl|hd
 ·exact nd.1
 ·have e:s.sec=some d:=by
   cases h:s.sec with
   |none=>rw[h] at hd;cases hd
   |some x=>
    rw[h] at hd;rw[G3.mp hd]
  exact nd.2 _ e
theorem um {H H':Hp} {lw:Addr} {s:SV} {as:Le} {c:qD} {p q:Int} (hq:0<q) (nd:zb s) (ru:A2 (dC ja An H) (as.map V.ref) s.uses) (hc:wc H c s.sec) (g:aA H H') (wa:vX H H' lw (decide (s.w= "cut")) p q (fv (s.lo:Int) (s.hi:Int) as c) (wN H)):∃cs,mX H' lw (kx s p q) cs/\(lw::cs).Nodup/\∀x∈lw::cs,H x=none:=by
 obtain ⟨ts,e1,e2,e3,e4,e5⟩:=wa.ex;obtain ⟨d1,d2⟩:=sE ru hc;have each:∀(i:Nat) (t:Addr),ts[i]?=some t->∃(e:Dv) (n k:Int) (bs:Le),(jb s)[i]?=some e/\H' t=some (.tup [.int n,.int k,.ref (BJ H' t)])/\H' (BJ H' t)=some (.lst (bs.map V.ref))/\H (BJ H' t)=none/\(n,k,bs.map (wx H))=wB (decide (s.w= "cut")) p q e/\A2 (dC ja An H) (bs.map V.ref) (bs.map (wx H)):=fun i t ht=>by
  have il:=bv ht;have hd:=F0 (show i<(fv (s.lo:Int) (s.hi:Int) as c).length by lia)
  have he:=F0 (show i<(jb s).length by lia)
  obtain ⟨n,k,ls,bs,w1,w2,w3,w4,w5,w6⟩:=(e4 i t _ ht hd).ex;obtain ⟨k1,k2,k3⟩:=d2 i _ _ hd he;have el:=Ax w1;obtain ⟨s1,s2,s3⟩:=wy k3 w5;have ndd:y8 ((jb s)[i]).2.2:=sH nd _ (GU (show i<(jb s).length by lia))
  refine ⟨_,n,k,bs,he,by rw[el];exact w1,by rw[el];exact w2,by rw[el];exact w6,?_,s1⟩
  unfold wB;rw[k1] at w3;rw[k2] at w4;rw[sF hq w3,sF hq w4,wA ndd.1 s2 s3]
 refine ⟨ts.map (BJ H'),⟨ts.map V.ref,e1,by simp,?_,fun i v w c h1 h2 h3=>?_⟩,?_,fun x hx=>?_⟩
 ·unfold kx;rw[F6,F6]
  lia
 ·obtain ⟨t,ht,rfl⟩:=qC h1;rw[FP,ht] at h3;cases h3;obtain ⟨e,n,k,bs,he,w1,w2,w3,w4,w5⟩:=each i t ht;unfold kx at h2;rw[FP,he,Hc,<-w4] at h2;cases h2;exact ⟨t,rfl,w1,_,w2,w5.imp fun v u h=>zW h g⟩
 ·refine GR.mpr ⟨fun z=>?_,?_⟩
  ·obtain ⟨t,ht,e⟩:=GI.mp z;obtain ⟨i,hi⟩:=G4.mp ht;obtain ⟨_,n,k,bs,_,w1,_⟩:=each i t hi;exact (e5 i i t t _ _ _ _ _ _ hi hi w1 w1).1 e
  ·refine HK.mpr fun i j hi hj hij=>?_
   rw[F6] at hi hj;rw[Gm,Gm];obtain ⟨_,_,_,_,_,w1,_⟩:=each i _ (F0 hi);obtain ⟨_,_,_,_,_,w2,_⟩:=each j _ (F0 hj);exact (e5 i j _ _ _ _ _ _ _ _ (F0 hi) (F0 hj) w1 w2).2 (by lia)
 ·rcases F8.mp hx with rfl|hx
  ·exact e3
  ·obtain ⟨t,ht,rfl⟩:=GI.mp hx;obtain ⟨i,hi⟩:=G4.mp ht;obtain ⟨_,_,_,_,_,_,_,w,_⟩:=each i t hi;exact w
def DT (x y:V):Prop:=(∃i:Int,x= .int i/\y= .int i)∨∃z:Str,x= .str z/\y= .str z
def pC (H:Hp):Nat->V->V->Prop
 |0,x,y=>DT x y
 |n+1,x,y=>DT x y∨∃a b xs ys,x= .ref a/\y= .ref b/\((H a=some (.lst xs)/\H b=some (.lst ys))∨(H a=some (.tup xs)/\H b=some (.tup ys)))/\xs.length=ys.length/\ys.length<=4000/\∀(i:Nat) (x y:V),xs[i]?=some x->ys[i]?=some y->pC H n x y
def pD (N:Nat):Sp:=fun vs H Q _=>∃(x y:V) (n:Nat),vs= [x,y]/\n<=N/\pC H n x y/\Q (.bl true) H
theorem dG {H:Hp} (m:Int):∀n,pC H n (.int m) (.int m)
 |0=> .inl ⟨m,rfl,rfl⟩
 |_+1=> .inl (.inl ⟨m,rfl,rfl⟩)
theorem yi {H:Hp} (z:Str):∀n,pC H n (.str z) (.str z)
 |0=> .inr ⟨z,rfl,rfl⟩
 |_+1=> .inl (.inr ⟨z,rfl,rfl⟩)
theorem mY {H:Hp} {a b:Addr} {xs ys:List V} {n:Nat} (ea:H a=some (.lst xs)) (eb:H b=some (.lst ys)) (hl:xs.length=ys.length) (few:ys.length<=4000) (each:∀(i:Nat) (x y:V),xs[i]?=some x->ys[i]?=some y->pC H n x y):pC H (n+1) (.ref a) (.ref b):= .inr ⟨a,b,xs,ys,rfl,rfl,.inl ⟨ea,eb⟩,hl,few,each⟩
theorem mZ {H:Hp} {a b:Addr} {x1 x2 x3 y1 y2 y3:V} {n:Nat} (ea:H a=some (.tup [x1,x2,x3])) (eb:H b=some (.tup [y1,y2,y3])) (h1:pC H n x1 y1) (h2:pC H n x2 y2) (h3:pC H n x3 y3):pC H (n+1) (.ref a) (.ref b):= .inr ⟨a,b,_,_,rfl,rfl,.inr ⟨ea,eb⟩,rfl,by show (3:Nat)<=4000;decide,fun i x y hx hy=>by
 match i,hx,hy with
 |0,hx,hy=>cases hx;cases hy;exact h1
 |1,hx,hy=>cases hx;cases hy;exact h2
 |2,hx,hy=>cases hx;cases hy;exact h3
 |j+3,hx,hy=>simp at hx⟩
theorem Ay {H:Hp} {a b:Addr} {x1 x2 y1 y2:V} {n:Nat} (ea:H a=some (.tup [x1,x2])) (eb:H b=some (.tup [y1,y2])) (h1:pC H n x1 y1) (h2:pC H n x2 y2):pC H (n+1) (.ref a) (.ref b):= .inr ⟨a,b,_,_,rfl,rfl,.inr ⟨ea,eb⟩,rfl,by show (2:Nat)<=4000;decide,fun i x y hx hy=>by
 match i,hx,hy with
 |0,hx,hy=>cases hx;cases hy;exact h1
 |1,hx,hy=>cases hx;cases hy;exact h2
 |j+2,hx,hy=>simp at hx⟩
theorem qQ {H:Hp} {c d:Addr} {us:List bu} (h:Uz H c us) (k:Uz H d us) (few:us.length<=4000):pC H 2 (.ref c) (.ref d):=by
 obtain ⟨vs,e1,r1⟩:=h;obtain ⟨ws,e2,r2⟩:=k;refine mY e1 e2 (by rw[r1.1,r2.1]) (by rw[r2.1];exact few) fun i x y hx hy=>?_
 obtain ⟨u,hu,a,rfl,_,ea⟩:=r1.at_ hx;obtain ⟨b,rfl,_,eb⟩:=r2.2 i _ u hy hu;exact mZ ea eb (yi _ _) (dG _ _) (dG _ _)
theorem Az {H:Hp} {b b':Addr} {ws:List uj} {cs cs':Le} (h:mX H b ws cs) (k:mX H b' ws cs') (few:ws.length<=4000) (fu:∀w∈ws,w.2.2.length<=4000):pC H 4 (.ref b) (.ref b'):=by
 obtain ⟨vs,e1,l1,l2,r⟩:=h;obtain ⟨vs',e1',l1',l2',r'⟩:=k;refine mY e1 e1' (by lia) (by lia) fun i x y hx hy=>?_
 have il:=bv hx;have hw:=F0 (show i<ws.length by lia)
 obtain ⟨a,rfl,ea,ua⟩:=r i x _ _ hx hw (F0 (show i<cs.length by lia))
 obtain ⟨d,rfl,ed,ud⟩:=r' i y _ _ hy hw (F0 (show i<cs'.length by lia))
 exact mZ ea ed (dG _ _) (dG _ _) (qQ ua ud (fu _ (GU _)))
structure wC (ts:List kv):Prop where
 len:ts.length<=4000
 ws:∀t∈ts,t.ws.length<=4000/\∀w∈t.ws,w.2.2.length<=4000
theorem wC.drop {ts:List kv} (h:wC ts) (n:Nat):wC (ts.drop n):=⟨by rw[Gd];have:=h.len;lia,fun t ht=>h.ws t (List.mem_of_mem_drop ht)⟩
theorem wD {H:Hp} {l l':Addr} {ts:List kv} {vs vs':List V} {os os':List (Addr×Le)} (el:H l=some (.lst vs)) (el':H l'=some (.lst vs')) (h:A3 H vs ts os) (h':A3 H vs' ts os') (f:wC ts):pC H 6 (.ref l) (.ref l'):=by
 obtain ⟨l1,l2,r⟩:=h;obtain ⟨l1',l2',r'⟩:=h';have f1:=f.len;refine mY el el' (by lia) (by lia) fun i x y hx hy=>?_
 have il:=bv hx;have ht:=F0 (show i<ts.length by lia)
 obtain ⟨a,rfl,ea,wa⟩:=r i x _ _ hx ht (F0 (show i<os.length by lia))
 obtain ⟨d,rfl,ed,wd⟩:=r' i y _ _ hy ht (F0 (show i<os'.length by lia))
 have f2:=f.ws _ (GU (show i<ts.length by lia))
 exact mZ ea ed (dG _ _) (dG _ _) (Az wa wd f2.1 f2.2)
theorem jc {ss:List SV} {p q sp sq:Int} (h1:∀s∈ss,1<=lN s.fill p q sp sq):∀n,n<=ss.length->((pB ss p q sp sq n).length:Int)=((ss.map fun s=>lN s.fill p q sp sq).take n).sum
 |0,_=>by simp[pB]
 |n+1,hn=>by
  have ih:=jc h1 n (by lia)
  have hs:=F0 (show n<ss.length by lia)
  have r1:=h1 _ (GU (show n<ss.length by lia))
  rw[Gq,FP,hs,Hc,HB,List.sum_append];unfold pB;rw[FQ,F6,HD,GX,hs,Option.getD_some];simp only[Hw,List.sum_nil]
  lia
theorem sI {ss:List SV} {p q sp sq:Int} (nd:∀s∈ss,zb s):∀n,n<=ss.length->∀t∈pB ss p q sp sq n,t.ws.length<=4000/\∀w∈t.ws,w.2.2.length<=4000
 |0,_,t,ht=>by simp[pB] at ht
 |n+1,hn,t,ht=>by
  unfold pB at ht;rcases GD.mp ht with ht|ht
  ·exact sI nd n (by lia) t ht
  ·obtain ⟨i,_,rfl⟩:=GI.mp ht;have hs:=F0 (show n<ss.length by lia)
   rw[GX,hs,Option.getD_some];have nd1:=nd _ (GU (show n<ss.length by lia))
   generalize ss[n]=s at nd1;refine ⟨?_,fun w hw'=>?_⟩
   ·show ((jb s).map _).length<=4000;rw[F6];unfold jb;rw[G6];cases s.sec<;>simp
   ·obtain ⟨d,hd,rfl⟩:=GI.mp hw';show (CD d.2.2).length<=4000;rw[yh];have:=(sH nd1 d hd).2
    lia
theorem yj {i:Int} (h0:0<=i) (h:i<26):fe eI.cps.toList i=some (97+i.toNat):=by
 have key:∀n:Nat,n<26->eI.cps.toList[n]?=some (97+n):=by decide
 have:=key i.toNat (by lia)
 have e:=aC this
 rwa [Gz h0] at e
noncomputable def sgn (c st:Int) (k:Nat):Nat:=97+((c+(0+(k:Int))*st).fmod 26).toNat
def m7 (st:Int):Prop:=st=1∨st=3∨st=5∨st=7∨st=9∨st=11∨st=15∨st=17
theorem yk {c st:Int} (hs:m7 st) {k k':Nat} (h:k<14) (h':k'<14) (e:sgn c st k=sgn c st k'):k=k':=by
 unfold sgn at e;rw[HI _ (by decide),HI _ (by decide)] at e
 rcases hs with rfl|rfl|rfl|rfl|rfl|rfl|rfl|rfl<;>omega
theorem m8 (x y:Str):(x++y).cps.toList=x.cps.toList++y.cps.toList:=by
 show (x.cps++y.cps).toList=_;simp
def ym (md:Int) (pre suf:List Nat) (k:Nat) (s:Nat) (z:Str):Prop:=if md=1 then z.length=k+1 else if md=2 then ∃x,z.cps.toList=x++ [s] else z.cps.toList=pre++s::suf
theorem uq {zs:Ld} {md c st:Int} (hs:m7 st) {pre suf:List Nat} (l:zs.length<=12) (h:∀(k:Nat) (z:Str),zs[k]?=some z->Nm z/\ym md pre suf k (sgn c st k) z):zs.Nodup:=by
 unfold List.Nodup;rw[HK];intro i j hi hj ij e;have h1:=(h i _ (F0 hi)).2;have h2:=(h j _ (F0 hj)).2;rw[e] at h1;unfold ym at h1 h2
 by_cases c1:md=1
 ·rw[if_pos c1] at h1 h2
  lia
 rw[if_neg c1] at h1 h2;have:sgn c st i=sgn c st j:=by
  by_cases c2:md=2
  ·rw[if_pos c2] at h1 h2;obtain ⟨x,h1⟩:=h1;obtain ⟨y,h2⟩:=h2;rw[h1] at h2;have:=(List.append_inj' h2 rfl).2;injection this
  ·rw[if_neg c2] at h1 h2;rw[h1] at h2;have:=List.append_cancel_left h2;injection this
 have:=yk hs (by lia) (by lia) this
 lia
def pE:Sp:=fun vs H Q _=>∃n m:Int,vs= [.int n,.int m]/\0<=m/\m<=12/\∀(l:Addr) (H':Hp) (zs:Ld),aA H H'->H' l=some (.lst (zs.map V.str))->(zs.length:Int)=m->(∀z∈zs,Nm z)->zs.Nodup->Q (.ref l) H'
def wE:Sp:=fun vs H Q _=>∃a b:Int,vs= [.int a,.int b]/\0<b/\Q (.int (cg a b)) H
def DU (w:Str):Option dE->Prop
 |none=>w≠ "warm"
 |some a=>w= "warm" /\0<a.1/\0<a.2/\a.1<2^200/\a.2<2^200
structure BK (s:SV):Prop where
 wd:v5 s.w
 lo:s.lo<2^40
 hi:s.hi<2^40
 sec:∀x,s.sec=some x->x.1<2^40/\x.2.1<2^40
 fl:DU s.w s.fill
 nd:zb s
theorem yo {n k m:Nat} (h:n<2^k) (km:k<=m):Bd m (n:Int):=(wz h).mono km
theorem BK.ds {s:SV} (h:BK s):∀d∈jb s,d.1<2^40/\d.2.1<2^40:=fun d hd=>by
 unfold jb at hd;rcases F8.mp hd with rfl|hd
 ·exact ⟨h.lo,h.hi⟩
 ·have e:s.sec=some d:=by
   cases k:s.sec with
   |none=>rw[k] at hd;cases hd
   |some x=>
    rw[k] at hd;rw[G3.mp hd]
  exact h.sec _ e
theorem yq {H:Hp} {as:Le} {c:qD} {s:SV} (b:BK s) (r:A2 (dC ja An H) (as.map V.ref) s.uses) (hc:wc H c s.sec):∀d∈fv (s.lo:Int) (s.hi:Int) as c,Bd 210 d.1/\Bd 210 d.2.1/\UL H d.2.2 (wN H):=fun d hd=>by
 obtain ⟨d1,d2⟩:=sE r hc;obtain ⟨i,hi⟩:=G4.mp hd;have il:=bv hi;have he:=F0 (show i<(jb s).length by lia)
 have hm:=GU (show i<(jb s).length by lia)
 generalize (jb s)[i]=e at he hm;obtain ⟨k1,k2,k3⟩:=d2 i d e hi he;have ⟨b1,b2⟩:=b.ds e hm;rw[k1,k2];exact ⟨yo b1 (by decide),yo b2 (by decide),za k3 (sH b.nd e hm)⟩
def ur (H:Hp) (v:V) (s:SV):Prop:=∃(a tf u:Addr) (sv:V) (fl:dE),v= .ref a/\H a=some (.tup [.str s.w,.str s.n,vN s.lo,vN s.hi,.ref tf,.ref u,sv])/\H tf=some (.tup (wP fl))/\(∀f,s.fill=some f->f=fl)/\Uz H u s.uses/\oU H sv s.sec
theorem ur.same {H H':Hp} {v:V} {s:SV} (h:ur H v s) (g:aA H H'):ur H' v s:=by
 obtain ⟨a,tf,u,sv,fl,e1,e2,e3,e4,e5,e6⟩:=h;exact ⟨a,tf,u,sv,fl,e1,g _ _ e2,g _ _ e3,e4,e5.same g,e6.same g⟩
def sJ (l:Addr) (H:Hp) (v:V) (s:SV):Prop:=∀G:Hp,(∀b o,b≠l->H b=some o->G b=some o)->ur G v s
theorem sJ.o {l:Addr} {H:Hp} {v:V} {s:SV} (h:sJ l H v s):ur H v s:=h H fun _ _ _ e=>e
theorem sJ.same {l:Addr} {H H':Hp} {v:V} {s:SV} (h:sJ l H v s) (g:aA H H'):sJ l H' v s:=fun G k=>h G fun b o n e=>k b o n (g _ _ e)
theorem sJ.upd {l:Addr} {H:Hp} {v:V} {s:SV} (h:sJ l H v s) (o:HO):sJ l (aL H l o) v s:=fun G k=>h G fun b o' n e=>k b o' n (by rw[av n];exact e)
def pF (H:Hp) (l:Addr) (ss:List SV):Prop:=∃vs,H l=some (.lst vs)/\A2 (sJ l H) vs ss
theorem pF.same {H H':Hp} {l:Addr} {ss:List SV} (h:pF H l ss) (g:aA H H'):pF H' l ss:=by
 obtain ⟨vs,e,r⟩:=h;exact ⟨vs,g _ _ e,r.imp fun v s k=>k.same g⟩
theorem pF.snoc {H:Hp} {l:Addr} {vs:List V} {ss:List SV} {v:V} {s:SV} (r:A2 (sJ l H) vs ss) (k:sJ l H v s):pF (aL H l (.lst (vs++ [v]))) l (ss++ [s]):=⟨_,ah,(r.imp fun _ _ q=>q.upd _).snoc (k.upd _)⟩
theorem wF {α:Type} {f:α->List V} {H:Hp} {u t:Addr} {xs:List α} {x:α} (h:oK (dC f) An H u xs) (e:H t=some (.tup (f x))):∃vs,H u=some (.lst vs)/\vs.length=xs.length/\oK (dC f) An (aL H u (.lst (vs++ [.ref t]))) u (xs++ [x]):=by
 obtain ⟨vs,eu,r⟩:=h;have ne:∀{b:Addr} {zs:List V},H b=some (.tup zs)->b≠u:=fun hb z=>by subst z;rw[eu] at hb;cases hb
 refine ⟨vs,eu,r.1,_,ah,(r.imp fun v y ⟨b,e1,e2,e3⟩=>⟨b,e1,e2,by rw[av (ne e3)];exact e3⟩).snoc ⟨t,rfl,trivial,by rw[av (ne e)];exact e⟩⟩
def kz (H:Hp) (l:Addr) (ss:List SV):Prop:=∃vs,H l=some (.lst vs)/\A2 (ur H) vs ss
theorem kz.same {H H':Hp} {l:Addr} {ss:List SV} (h:kz H l ss) (g:aA H H'):kz H' l ss:=by
 obtain ⟨vs,e,r⟩:=h;exact ⟨vs,g _ _ e,r.imp fun v s k=>k.same g⟩
structure m9 (us:List bu):Prop where
 len:us.length<=3
 nd:(us.map fun x=>x.1).Nodup
 us:∀u∈us,Nm u.1/\1<=u.2.1/\u.2.1<=8/\u.2.2<2^30
structure Zn (n:Nat) (zs:Ld):Prop where
 len:zs.length=n
 nd:zs.Nodup
 nm:∀z∈zs,Nm z
def yr (w:Str):Option dE->Prop
 |none=>w≠ "warm"
 |some a=>w= "warm" /\0<a.1/\0<a.2/\a.2<10000/\HC a.2 a.1=1/\a.1/a.2<10^30
structure sK (s:SV):Prop where
 wd:v5 s.w
 nm:Nm s.n
 le:1<=s.lo/\s.lo<=s.hi/\s.hi<=2000000000
 fl:yr s.w s.fill
 us:m9 s.uses
 sec:∀x,s.sec=some x->1<=x.1/\x.1<=x.2.1/\x.2.1<=2000000000/\m9 x.2.2
theorem m9.un {us:List bu} (h:m9 us):y8 us:=⟨h.nd,by have:=h.len;lia⟩
theorem yr.f4 {w:Str}:∀{o:Option dE},yr w o->DU w o
 |none,h=>h
 |some a,⟨h1,h2,h3,h4,h5,h6⟩=>⟨h1,h2,h3,by
  have e:=Nat.div_add_mod a.1 a.2;have m:=Nat.mod_lt a.1 h3;have:a.2*(a.1/a.2)<=10000*10^30:=Nat.mul_le_mul (He h4) (He h6);have k:10000*10^30+10000<2^200:=by decide+kernel
  lia,GW h4 (by decide+kernel)⟩
theorem sK.b {s:SV} (h:sK s):BK s:=⟨h.wd,by have:=h.le;lia,by have:=h.le;lia,fun x hx=>by have:=h.sec x hx;lia,h.fl.f4,h.us.un,fun x hx=>(h.sec x hx).2.2.2.un⟩
def pG:Sp:=fun vs H Q _=>∃(c:Int) (ln:Addr) (zs:Ld),vs= [.int c,.ref ln]/\0<=c/\H ln=some (.lst (zs.map V.str))/\Zn 6 zs/\∀(u:Addr) (us:List bu) (H':Hp),aA H H'->H u=none->Uz H' u us->m9 us->Q (.ref u) H'
def pH:Sp:=fun vs H Q _=>∃c:Int,vs= [.int c]/\0<=c/\∀(t:Addr) (lo hi:Nat) (H':Hp),aA H H'->H' t=some (.tup [vN lo,vN hi])->1<=lo->lo<=hi->hi<=2000000000->Q (.ref t) H'
def sM:Sp:=fun vs H Q _=>∃(c m:Int) (n:Str) (ln:Addr) (zs:Ld),vs= [.int c,.int m,.str n,.ref ln]/\0<=c/\0<=m/\Nm n/\H ln=some (.lst (zs.map V.str))/\Zn 6 zs/\∀(v:V) (s:SV) (H':Hp),aA H H'->ur H' v s->(∀(l:Addr) (zs:List V),H l=some (.lst zs)->sJ l H' v s)->sK s->s.n=n->Q v H'
def pI (cC cR cW:Addr):Sp:=fun vs H Q _=>∃(v:V) (s:SV),vs= [v]/\ur H v s/\DU s.w s.fill/\v5 s.w/\∀(x:Addr) (H':Hp),aA H H'->(∀H5:Hp,(∀b o,H' b=some o->(∀ws,H b≠some (.lst ws))->H5 b=some o)->xU cC cR cW H5 x s)->Q (.ref x) H'
def qR:Sp:=fun vs H Q _=>∃a b:Int,vs= [.int a,.int b]/\0<b/\b<1000000000/\Q (.int (-((-a).fdiv b))) H
def pJ:Sp:=fun vs H Q _=>∃(v:V) (s:SV) (tf:Addr) (p q:Int),vs= [v,.ref tf]/\ur H v s/\BK s/\H tf=some (.tup [.int p,.int q])/\0<p/\p<=100000/\0<q/\q<=100000/\∀(l:Addr) (cs:Le) (H':Hp),aA H H'->mX H' l (kx s p q) cs->(l::cs).Nodup->(∀x∈l::cs,H x=none)->Q (.ref l) H'
structure BL (H:Hp) (tf ts:Addr) (p q sp sq:Int):Prop where
 f:H tf=some (.tup [.int p,.int q])
 s:H ts=some (.tup [.int sp,.int sq])
 p0:0<p
 p1:p<=1000
 q0:0<q
 q1:q<=1000
 sp0:0<sp
 sp1:sp<=9
 sq0:0<sq
 sq1:sq<=4
theorem BL.same {H H':Hp} {tf ts:Addr} {p q sp sq:Int} (h:BL H tf ts p q sp sq) (g:aA H H'):BL H' tf ts p q sp sq:={h with f:=g _ _ h.f,s:=g _ _ h.s}
def ng:Sp:=fun vs H Q _=>∃(lr tf ts:Addr) (ss:List SV) (p q sp sq:Int),vs= [.ref lr,.ref tf,.ref ts]/\kz H lr ss/\ss.length<=12/\(∀s∈ss,sK s)/\BL H tf ts p q sp sq/\(wR ss p q sp sq>24->∀H',aA H H'->Q .non H')/\(wR ss p q sp sq<=24->∀(l:Addr) (H':Hp),aA H H'->FK H' l (wQ ss p q sp sq)->Q (.ref l) H')
noncomputable def ig (us:List bu):List bu:=us.map fun u=>(u.1,u.2.1,u.2.2 % 1001)
noncomputable def dJ (s:SV):SV:={s with lo:=1+s.lo % 50000,hi:=1+s.lo % 50000+s.hi % 50000,uses:=ig s.uses,sec:=s.sec.map fun x=>(1+x.1 % 50000,1+x.1 % 50000+x.2.1 % 50000,ig x.2.2)}
def lO:Sp:=fun vs H Q _=>∃(v:V) (s:SV),vs= [v]/\ur H v s/\s.uses.length<=12/\(∀x,s.sec=some x->x.2.2.length<=12)/\∀(w:V) (H':Hp),aA H H'->ur H' w (dJ s)->(∀(l:Addr) (zs:List V),H l=some (.lst zs)->sJ l H' w (dJ s))->Q w H'
def j6:Sp:=fun vs H Q _=>∃(w n:Str) (u:Addr) (us:List bu),vs= [.str w,.str n,.ref u]/\Uz H u us/\DR us/\w.length<=12/\n.length<=12/\∀(l:Addr) (H':Hp),aA H H'->H l=none->H' l=some (.lst ((us.map fun u=>jB (dP w n u)).map V.str))->Q (.ref l) H'
noncomputable def kA (s:SV):Rr:= .step s.w s.n s.lo s.hi s.fill
noncomputable def gF (s:SV):List Rr:=(s.uses.map fun u=>Rr.use false s.n u)++(match s.sec with
 |none=> []
 |some (lo,hi,us)=>Rr.sec s.n lo hi::us.map fun u=>Rr.use true s.n u)
noncomputable def eZ (ss:List SV):List Rr:=ss.map kA++ss.flatMap gF
def pK:Sp:=fun vs H Q _=>∃(n:Str) (p:Nat) (lr:Addr) (ss:List SV),vs= [.str n,vN p,.ref lr]/\Nm n/\1<=p/\p<=1000/\kz H lr ss/\ss.length<=12/\(∀s∈ss,yU s/\yr s.w s.fill)/\∀H',aA H H'->Q (.str (Txt.join sg (cn n p::(eZ ss).map fA))) H'
def j7:Sp:=fun vs H Q _=>∃(lr tf ts:Addr) (ss:List SV) (want p q sp sq:Int),vs= [.ref lr,.ref tf,.ref ts,.int want]/\pF H lr ss/\ss≠ []/\ss.length<=12/\(∀s∈ss,sK s)/\BL H tf ts p q sp sq/\24<=want/\want<=25/\∀(ss':List SV) (H':Hp),(∀b o,b≠lr->H b=some o->H' b=some o)->kz H' lr ss'->ss'.length=ss.length->(∀s∈ss',sK s)->(ss'.map fun x=>x.n)=(ss.map fun x=>x.n)->Q .non H'
def zf (H:Hp) (left:Bool) (ts:Addr) (sp sq:Int):Prop:=H ts=some (.tup [.int sp,.int sq])/\0<sp/\sp<=9/\0<sq/\sq<=4/\(left=true->sp=1/\sq=1)
theorem zf.same {H H':Hp} {left:Bool} {ts:Addr} {sp sq:Int} (h:zf H left ts sp sq) (g:aA H H'):zf H' left ts sp sq:=⟨g _ _ h.1,h.2⟩
structure zg (cC cR cW cRec:Addr) (H:Hp) (r:Addr) (p0:Nat) (ss:List SV):Prop where
 ex:∃n T L,yT cC cR cW cRec H r n p0 ⟨T,ss,L⟩
 p1:1<=p0
 p2:p0<=1000
 len:ss.length<=12
 ok:∀s∈ss,BK s
theorem zg.same {cC cR cW cRec:Addr} {H H':Hp} {r:Addr} {p0:Nat} {ss:List SV} (h:zg cC cR cW cRec H r p0 ss) (g:aA H H'):zg cC cR cW cRec H' r p0 ss:={h with ex:=let ⟨n,T,L,e⟩:=h.ex;⟨n,T,L,e.same g⟩}
def iH (K:F5) (cC cR cW cRec cTm:Addr):Sp:=fun vs H Q E=>∃(r:Addr) (pl:Int) (vz:V) (p0:Nat) (ss:List SV) (sp sq:Int),vs= [.ref r,.int pl,vz]/\zg cC cR cW cRec H r p0 ss/\1<=pl/\pl<=1000000/\((vz= .non/\sp=1/\sq=1)∨∃ts,vz= .ref ts/\cL K 201 H ts sp sq)/\0<sp/\
 ∀a b:Int,Fr a b pl (p0:Int)->(wR ss a b sp sq>24->EF cTm H E)/\(wR ss a b sp sq<=24->∀(l:Addr) (H':Hp),aA H H'->ky H H' l (wQ ss a b sp sq)->Q (.ref l) H')
def lP (cC cR cW cRec:Addr):Sp:=fun vs H Q _=>∃(r:Addr) (pl:Int) (ts:Addr) (left:Bool) (p0:Nat) (ss:List SV) (sp sq:Int),vs= [.ref r,.int pl,.ref ts,.bl left]/\zg cC cR cW cRec H r p0 ss/\1<=pl/\pl<=1000/\zf H left ts sp sq/\
 ∀a b:Int,Fr a b pl (p0:Int)->(wR ss a b sp sq>24->∀H',aA H H'->Q .non H')/\(wR ss a b sp sq<=24->∀(l:Addr) (H':Hp),aA H H'->ky H H' l (wQ ss a b sp sq)->Q (.ref l) H')
def lQ (cC cR cW cRec:Addr):Sp:=fun vs H Q _=>∃(r lr:Addr) (pl:Int) (ts:Addr) (left:Bool) (p0:Nat) (ss:List SV) (sp sq:Int),vs= [.ref r,.ref lr,.int pl,.ref ts,.bl left]/\zg cC cR cW cRec H r p0 ss/\kz H lr ss/\(∀s∈ss,sK s)/\1<=pl/\pl<=1000/\zf H left ts sp sq/\∀H',aA H H'->Q (.bl true) H'
theorem yt {cC cR cW:Addr} {H:Hp} {vs:List V} {ss:List SV} (r:A2 (Cv cC cR cW H) vs ss):∃xs:Le,vs=xs.map V.ref:=by
 refine ⟨vs.map fun v=>match v with| .ref a=>a|_=>0,?_⟩
 apply Hn (by simp)
 intro i h1 h2;obtain ⟨s,_,x,e,_⟩:=r.at_ (F0 h1);simp only[Gm];rw[e]
theorem nh {w:Str} {p q sp sq:Int} (p0:0<p) (q0:0<q) (s0:0<sp) (t0:0<sq):∀{o:Option dE},DU w o->1<=lN o p q sp sq
 |none,_=>Int.le_refl 1
 |some a,⟨_,h1,h2,_⟩=>by
  have n1:0<(a.1:Int)*p*sq:=Gr (Gr (by lia) p0) t0
  have n2:0<sp*(a.2:Int)*q:=Gr (Gr s0 (by lia)) q0
  show 1<= -((-((a.1:Int)*p*sq)).fdiv (sp*(a.2:Int)*q));generalize (a.1:Int)*p*sq=X at n1⊢;generalize sp*(a.2:Int)*q=Y at n2⊢;have k:=Int.mul_fdiv_add_fmod (-X) Y;have m0:=FM (-X) n2;generalize (-X).fdiv Y=d at k⊢;have:d<0:=Int.not_le.mp fun z=>by
   have:=Int.mul_nonneg (HQ n2) z
   lia
  lia
theorem ky.low {H0 H1 H:Hp} {l:Addr} {ts:List kv} (h:ky H1 H l ts) (g:aA H0 H1):ky H0 H l ts:=by
 obtain ⟨vs,os,e,a,n,f⟩:=h.ex;exact ⟨vs,os,e,a,n,fun x hx=>g.free (f x hx)⟩
theorem CG {a b:Int} (b0:0<b):(a+b-1).fdiv b= -((-a).fdiv b):=by
 have k1:=Int.mul_fdiv_add_fmod (a+b-1) b;have m1:=FM (a+b-1) b0;have m2:=FT (a+b-1) b0;generalize (a+b-1).fdiv b=n at k1⊢;refine (up_eq (n:=n) (l:=a) (p:=1) b0 ⟨?_,?_⟩).trans (by rw[Hl])
 ·rw[Hl,Hr];lia
 ·rw[Hl,Int.sub_mul,Hr n b,Int.one_mul];lia
end Sw
namespace L2
open PySem PySem.Spec PyProof.Rows XH Sw
theorem yu {X:Cx} {K:F5} {T:String} {name:Str} {id:String} {r:V->List V->Hp->VK->Prop} {o:Expr} {to:TE} {e:Expr} {es:List Expr} {t:TA} {apos cpos:Pos} (hK:X.K=K) (pa:PlainAttrs T) (slot:Slot T name id) (hty:typeOf (.builtin id)=pure (.type "method_descriptor")) (hm:BB X id r) (ho:PE X o to) (ha:PA X (e::es) t)
  (hbase:attributeBase o name X.env (eval o X.env)=eval o X.env:=by rfl)
  (hfew:((backTo cpos (starEach (e::es) X.env)).all (fun x=> !x.1)&&(backToKw cpos (keywordEach [] X.env)).all (fun x=>x.1.isSome)&&decide ((e::es).length+([]:List Keyword).length+(if ([]:List Keyword).isEmpty then 0 else 1)<30))=true:=by rfl)
  (hline:(apos.endLine==cpos.line)=true:=by rfl) (hs:starEach (e::es) X.env=(false,eval e X.env)::starEach es X.env:=by rfl) (hplain:(backTo cpos (starEach es X.env)).any (·.1)=false:=by rfl):
  PE X (.Call (.Attribute o name apos) (e::es) [] cpos) (Fe K T r to t):=by
 subst hK;exact bZ pa slot hty hm ho ha hbase hfew hline hs hplain
theorem wG {X:Cx} {K:F5} (hK:X.K=K):BB X "str.join" (fun x vs H Q=>∃z a ws,x= .str z/\vs= [.ref a]/\aO K H a (ws.map V.str)/\z.length<=16/\(ws.map (fun x=>x.length)).sum+ws.length<=1048576/\Q (.str (Txt.join z ws)) H):=by
 subst hK;exact i4
end L2
namespace Sw
open PySem L2 XH Hm PySem.NumText PyProof.Rows
theorem wH {l u:Addr} {H G:Hp} {zs:List V} {us:List bu} (el:H l=some (.lst zs)) (ul:u≠l) (k:∀b o,b≠l->H b=some o->G b=some o) (h:Uz H u us):Uz G u us:=by
 obtain ⟨vs,e,r⟩:=h;refine ⟨vs,k _ _ ul e,r.imp fun v x ⟨t,e1,e2,e3⟩=>⟨t,e1,e2,k _ _ (fun z=>by subst z;rw[el] at e3;cases e3) e3⟩⟩
theorem sN {H H':Hp} {a tf u:Addr} {sv:V} {fl:dE} {s:SV} (g:aA H H') (ea:H' a=some (.tup [.str s.w,.str s.n,vN s.lo,vN s.hi,.ref tf,.ref u,sv])) (etf:H' tf=some (.tup (wP fl))) (hf:∀f,s.fill=some f->f=fl) (hu:Uz H' u s.uses) (nu:H u=none) (hs:oU H' sv s.sec) (ns:∀(t l2:Addr) (x y:V),sv= .ref t->H' t=some (.tup [x,y,.ref l2])->H l2=none):ur H' (.ref a) s/\∀(l:Addr) (zs:List V),H l=some (.lst zs)->sJ l H' (.ref a) s:=by
 refine ⟨⟨a,tf,u,sv,fl,rfl,ea,etf,hf,hu,hs⟩,fun l zs el G k=>?_⟩
 have el':=g _ _ el;have tp:∀{b:Addr} {ys:List V},H' b=some (.tup ys)->G b=some (.tup ys):=fun {b ys} e=>k _ _ (fun z=>by subst z;rw[el'] at e;cases e) e
 refine ⟨a,tf,u,sv,fl,rfl,tp ea,tp etf,hf,wH el' (fun z=>by subst z;rw[el] at nu;cases nu) k hu,?_⟩
 generalize s.sec=o at hs⊢
 match o,hs with
 |none,hs=>exact hs
 |some (lo,hi,us),⟨t,l2,e1,e2,e3⟩=>exact ⟨t,l2,e1,tp e2,wH el' (fun z=>by have:=ns t l2 _ _ e1 e2;subst z;rw[el] at this;cases this) k e3⟩
theorem wI {p q a b:Int} (f:Fr p q a b) (ha:0<a) (hb:0<b):∃m n:Nat,p=(m:Int)/\q=(n:Int)/\0<m/\0<n/\HC n m=1/\(m:Int)<=a/\(n:Int)<=b:=by
 have p0:=jR f ha hb;have q0:=f.pos;have h1:=f.bt;have h2:=f.bb;have lw:=f.low;refine ⟨p.toNat,q.toNat,by lia,by lia,by lia,by lia,?_,by lia,by lia⟩
 unfold cg at lw;have e:Int.gcd p q=HC p.toNat q.toNat:=by
  unfold Int.gcd;rw[show p.natAbs=p.toNat by lia,show q.natAbs=q.toNat by lia]
 rw[e] at lw;rw[Hq]
 lia
def BM (H0 H:Hp) (v:V) (d:Dv):Prop:=∃t lu,v= .ref t/\H t=some (.tup [vN d.1,vN d.2.1,.ref lu])/\Uz H0 lu d.2.2
theorem BM.same {H0 H H':Hp} {v:V} {d:Dv} (h:BM H0 H v d) (g:aA H H'):BM H0 H' v d:=by
 obtain ⟨t,lu,e1,e2,e3⟩:=h;exact ⟨t,lu,e1,g _ _ e2,e3⟩
theorem mX.nil {H:Hp} {l:Addr} (e:H l=some (.lst [])):mX H l [] []:=⟨[],e,rfl,rfl,fun i v w c e=>by simp at e⟩
theorem mX.snoc {H:Hp} {l t c:Addr} {ws:List uj} {cs:Le} {w:uj} (h:mX H l ws cs) (nl:l∉cs) (et:H t=some (.tup [.int w.1,.int w.2.1,.ref c])) (hc:Uz H c w.2.2) (cl:c≠l):∃vs,H l=some (.lst vs)/\vs.length=ws.length/\mX (aL H l (.lst (vs++ [.ref t]))) l (ws++ [w]) (cs++ [c]):=by
 obtain ⟨vs,e,l1,l2,r⟩:=h;have kp:uk (cs++ [c]) H (aL H l (.lst (vs++ [.ref t]))):= .upd e fun z=>by
  rcases GD.mp z with z|z
  ·exact nl z
  ·exact cl (G3.mp z).symm
 have one:∀{v:V} {x:uj} {d:Addr},d∈cs++ [c]->EN H v x d->EN (aL H l (.lst (vs++ [.ref t]))) v x d:=fun {v x d} hd ⟨a,k1,k2,k3⟩=>⟨a,k1,kp _ _ k2 (.inl fun zs z=>by cases z),k3.kp kp hd⟩
 refine ⟨vs,e,l2.symm,vs++ [.ref t],ah,by simp[l1],by simp[l2],fun i v x d h1 h2 h3=>?_⟩
 by_cases hi:i<vs.length
 ·rw[FV hi] at h1;rw[FV (by lia)] at h2 h3
  exact one (Gu _ (F9 h3)) (r i v x d h1 h2 h3)
 ·have e4:i=vs.length:=by
   have:=bv h1;simp at this
   lia
  rw[e4] at h1 h2 h3;rw[FN (FO _),Nat.sub_self] at h1;rw[FN (by lia),show vs.length-ws.length=0 by lia] at h2
  rw[FN (by lia),show vs.length-cs.length=0 by lia] at h3
  cases h1;cases h2;cases h3;exact one (FU _ (G3.mpr rfl)) ⟨t,rfl,et,hc⟩
theorem mX.same {H H':Hp} {l:Addr} {ws:List uj} {cs:Le} (h:mX H l ws cs) (g:aA H H'):mX H' l ws cs:=h.kp (F:=l::cs) (.of g) GM fun c hc=>FS _ hc
theorem mX.lists {H:Hp} {l:Addr} {ws:List uj} {cs:Le} (h:mX H l ws cs) {c:Addr} (hc:c∈cs):∃zs,H c=some (.lst zs):=by
 obtain ⟨vs,e,l1,l2,r⟩:=h;obtain ⟨i,hi⟩:=G4.mp hc;have il:=bv hi;obtain ⟨a,_,_,zs,k,_⟩:=r i _ _ c (F0 (show i<vs.length by lia)) (F0 (show i<ws.length by lia)) hi
 exact ⟨zs,k⟩
theorem j8 {K:F5} {β:Type} {l1:Addr} {xs:List V} {n:Nat} {g:L2.TG} {js:List Nat} {te:TE} {σ:L2.St} {H1:Hp} {Q:VK} (R:RA β) [Mv R] (Z:Addr->Prop) (f:Nat->β) (q1:aO K H1 l1 xs) (hz:xs.length<=sizeLine) (hZ:∀a,Z a->H1 a≠none)
  (step:∀(i:Nat) (x:V),xs[i]?=some x->∀H2,aA H1 H2->∀o:L2.St,o.length=n->∀Q':VK,(∀v H5,aA H2 H5->R (fun a=>H2 a=none∨Z a) H5 v (f i)->Q' v H5)->
   g x (o++bw js σ) H2 fun σ4 H4=>(∃o':L2.St,o'.length=n/\σ4=o'++bw js σ)/\te σ4 H4 Q')
  (fin:∀p H',H1 p=none->aA H1 H'->oK R (fun a=>a≠p/\(H1 a=none∨Z a)) H' p ((Gx xs.length).map f)->Q (.ref p) H'):vM n g js te σ Q (wU K l1) H1:=by
 intro p hp;refine ⟨fun i m zs H2=>i<=xs.length/\m=xs.length-i/\aA H1 H2/\H2 p=some (.lst zs)/\A2 (R (fun a=>a≠p/\(H1 a=none∨Z a)) H2) zs ((Gx i).map f),⟨xs.length,Gi _,rfl,Sw.aj hp _,ah,A2.nil⟩,?_⟩
 rintro i m zs H2 ⟨hi,rfl,gg,e,r⟩;refine ⟨e,?_⟩;have s1:=gg.seq q1
 by_cases hin:i<xs.length
 ·refine .inr ⟨⟨xs,xs[i]'(by lia),s1,F0 _⟩,?_,fun x H3 hy o ho=>?_⟩
  ·have:=r.1;rw[F6,HD] at this
   lia
  obtain ⟨rfl,hx⟩:=hy;refine step i x (hx xs s1) H3 gg o ho _ fun v H5 g25 ry=>?_
  refine ⟨g25 _ _ e,xs.length-(i+1),by lia,hin,rfl,Sw.fH (gg.trans g25) hp _,ah,?_⟩
  rw[List.range_succ,GO];have np:¬(p≠p/\(H1 p=none∨Z p)):=fun z=>z.1 rfl
  refine ((r.imp fun v b q=>zW q g25).snoc (ED ry fun a ha=>?_)).imp fun v b q=>Fi q np _
  rcases ha with h|h
  ·exact ⟨(fun z=>by rw[z,e] at h;cases h),.inl (gg.free h)⟩
  ·exact ⟨fun z=>hZ a h (z▸hp),.inr h⟩
 ·have e2:i=xs.length:=by lia
  subst e2;exact .inl ⟨⟨xs,s1,FO _⟩,fin p H2 hp gg ⟨zs,e,r⟩⟩
theorem sO {α β:Type} (d:α) (g:α->β) (xs:List α):(Gx xs.length).map (fun i=>g (xs.getD i d))=xs.map g:=by
 apply Hn (by simp)
 intro i h1 h2;simp at h1;simp[GX,F0 h1]
noncomputable def ut:bu:=("",0,0)
theorem wJ (a k:Nat) (hk:0<k):(a:Int).fmod (k:Int)=((a % k:Nat):Int):=by
 rw[HI _ (by lia)]
 exact (Int.natCast_emod a k).symm
theorem wK {a:dE} (h1:0<a.1) (h2:0<a.2) (h3:a.2<10000) (g:HC a.2 a.1=1) (d:a.1/a.2<10^30):v4 a:=by
 obtain ⟨x,y⟩:=a;dsimp only at*;have e:=Nat.div_add_mod x y;have m:=Nat.mod_lt x h2;have gm:HC y (x % y)=1:=by
  have k:=Nat.gcd_rec y x;rw[g] at k;rw[Hq];exact k.symm
 by_cases t:x % y=0
 ·rw[t,Nat.gcd_zero_right] at gm;subst gm;rw[Nat.div_one] at d;exact (Cy h1 d).1
 by_cases w:x/y=0
 ·have lt:x<y:=by rw[w] at e;simp at e;lia
  exact (Ae (by lia) lt g h3).1
 ·have k:=(xW w d t m gm h3).1;rw[Ho,e] at k;exact k
theorem yr.ok {w:Str}:∀{o:Option dE},yr w o->v6 w o
 |none,h=>h
 |some a,⟨h0,h1,h2,h3,h4,h5⟩=>⟨h0,wK h1 h2 h3 h4 h5⟩
theorem uu {T:List (Str×dE)} {S Z:List SV} {L:List Ab} {s:SV} (h:s.n∉S.map fun x=>x.n):place ⟨T,S++s::Z,L⟩ s.n=some S.length:=by
 unfold place;rw[List.findIdx?_eq_some_iff_getElem];refine ⟨by simp,by simp,fun j hj=>?_⟩
 simp only[decide_eq_true_eq];rw[List.getElem_append_left hj];exact fun e=>h (GI.mpr ⟨_,GU hj,e⟩)
theorem qS {T:List (Str×dE)} {S Z:List SV} {L:List Ab} {s s':SV} {f:SV->Except wO SV} (h:s.n∉S.map fun x=>x.n) (e:f s= .ok s'):gC ⟨T,S++s::Z,L⟩ s.n f= .ok ⟨T,S++s'::Z,L⟩:=by
 unfold gC;rw[uu h];simp only[FN (FO S.length),Nat.sub_self,List.getElem?_cons_zero,e];rw[List.set_append_right _ _ (FO _)];simp
theorem j9 {T:List (Str×dE)} {S Z:List SV} {L:List Ab} {n:Str} (h:n∉S.map fun x=>x.n) {w:Str} {lo hi:Nat} {f:Option dE} {sec:Option (Nat×Nat×List bu)}:∀{ts us:List bu},((us++ts).map fun x=>x.1).Nodup->(us++ts).length<=12->bP ⟨T,S++⟨w,n,lo,hi,f,us,sec⟩::Z,L⟩ (ts.map fun u=> .use false n u)= .ok ⟨T,S++⟨w,n,lo,hi,f,us++ts,sec⟩::Z,L⟩
 | [],us,_,_=>by simp[bP]
 |u::ts,us,nd,l=>by
  have e1:fO ⟨T,S++⟨w,n,lo,hi,f,us,sec⟩::Z,L⟩ (.use false n u)= .ok ⟨T,S++⟨w,n,lo,hi,f,us++ [u],sec⟩::Z,L⟩:=qS (s:=⟨w,n,lo,hi,f,us,sec⟩) h (by simp only[lM nd l])
  simp only[Gw,bP,e1];rw[show us++u::ts=(us++ [u])++ts by simp] at nd l⊢
  exact j9 h nd l
theorem kc {T:List (Str×dE)} {S Z:List SV} {L:List Ab} {n:Str} (h:n∉S.map fun x=>x.n) {w:Str} {lo hi lo2 hi2:Nat} {f:Option dE} {vs:List bu}:∀{ts us:List bu},((us++ts).map fun x=>x.1).Nodup->(us++ts).length<=12->bP ⟨T,S++⟨w,n,lo,hi,f,vs,some (lo2,hi2,us)⟩::Z,L⟩ (ts.map fun u=> .use true n u)= .ok ⟨T,S++⟨w,n,lo,hi,f,vs,some (lo2,hi2,us++ts)⟩::Z,L⟩
 | [],us,_,_=>by simp[bP]
 |u::ts,us,nd,l=>by
  have e1:fO ⟨T,S++⟨w,n,lo,hi,f,vs,some (lo2,hi2,us)⟩::Z,L⟩ (.use true n u)= .ok ⟨T,S++⟨w,n,lo,hi,f,vs,some (lo2,hi2,us++ [u])⟩::Z,L⟩:=qS (s:=⟨w,n,lo,hi,f,vs,some (lo2,hi2,us)⟩) h (by simp only[lM nd l])
  simp only[Gw,bP,e1];rw[show us++u::ts=(us++ [u])++ts by simp] at nd l⊢
  exact kc h nd l
noncomputable def bare (s:SV):SV:=⟨s.w,s.n,s.lo,s.hi,s.fill,[],none⟩
theorem wL {T:List (Str×dE)} {S Z:List SV} {s:SV} (h:s.n∉S.map fun x=>x.n) (nd:zb s):bP ⟨T,S++bare s::Z,[]⟩ (gF s)= .ok ⟨T,S++s::Z,[]⟩:=by
 obtain ⟨w,n,lo,hi,f,us,sec⟩:=s;have e2:bP ⟨T,S++⟨w,n,lo,hi,f,[],none⟩::Z,[]⟩ (us.map fun u=> .use false n u)= .ok ⟨T,S++⟨w,n,lo,hi,f,us,none⟩::Z,[]⟩:=j9 (us:= []) h nd.1.1 nd.1.2
 unfold gF bare;dsimp only;rw[ie e2];cases sec with
 |none=>rfl
 |some x=>
  obtain ⟨lo2,hi2,us2⟩:=x;obtain ⟨k1,k2⟩:=nd.2 _ rfl;have e3:fO ⟨T,S++⟨w,n,lo,hi,f,us,none⟩::Z,[]⟩ (.sec n lo2 hi2)= .ok ⟨T,S++⟨w,n,lo,hi,f,us,some (lo2,hi2,[])⟩::Z,[]⟩:=qS (s:=⟨w,n,lo,hi,f,us,none⟩) h rfl;simp only[bP,e3];exact kc (us:= []) h k1 k2
theorem lR {T:List (Str×dE)}:∀{ss S:List SV},((S++ss).map fun x=>x.n).Nodup->(S++ss).length<=12->bP ⟨T,S,[]⟩ (ss.map kA)= .ok ⟨T,S++ss.map bare,[]⟩
 | [],S,_,_=>by simp[bP]
 |s::ss,S,nd,l=>by
  have h:s.n∉S.map fun x=>x.n:=fun m=>by
   rw[GO,Gf] at nd;exact nd.2.2 _ m s.n (by simp) rfl
  have e1:fO ⟨T,S,[]⟩ (kA s)= .ok ⟨T,S++ [bare s],[]⟩:=by
   show (if s.n∈S.map (fun s=>s.n) then Except.error wO.twice else if S.length=12 then .error .full else .ok _)=_
   rw[if_neg h,if_neg (by simp at l;lia)]
   rfl
  simp only[Gw,bP,e1];rw[show S++bare s::ss.map bare=(S++ [bare s])++ss.map bare by simp]
  refine lR ?_ ?_
  ·rw[show ((S++ [bare s]++ss).map fun x=>x.n)=((S++s::ss).map fun x=>x.n) by simp[bare]]
   exact nd
  ·simp at l⊢
   lia
theorem iR {T:List (Str×dE)}:∀{ss S:List SV},((S++ss).map fun x=>x.n).Nodup->(∀s∈ss,zb s)->bP ⟨T,S++ss.map bare,[]⟩ (ss.flatMap gF)= .ok ⟨T,S++ss,[]⟩
 | [],S,_,_=>by simp[bP]
 |s::ss,S,nd,u=>by
  have h:s.n∉S.map fun x=>x.n:=fun m=>by
   rw[GO,Gf] at nd;exact nd.2.2 _ m s.n (by simp) rfl
  rw[Gw,List.flatMap_cons,ie (wL h (u s GM))];rw[show S++s::ss=(S++ [s])++ss by simp] at nd⊢
  rw[show S++s::ss.map bare=(S++ [s])++ss.map bare by simp]
  exact iR nd fun x hx=>u x (FS _ hx)
theorem qT {ss:List SV} (nd:(ss.map fun x=>x.n).Nodup) (l:ss.length<=12) (u:∀s∈ss,zb s):bP ⟨[],[],[]⟩ (eZ ss)= .ok ⟨[],ss,[]⟩:=by
 unfold eZ;rw[ie (lR (S:= []) (by simpa using nd) (by simpa using l))]
 exact iR (S:= []) (by simpa using nd) u
theorem yw {s:SV} (b:yU s):∀r∈gF s,gB r:=fun r hr=>by
 unfold gF at hr;rcases GD.mp hr with hr|hr
 ·obtain ⟨u,hu,rfl⟩:=GI.mp hr;exact ⟨b.nm,b.us.2 u hu⟩
 ·generalize ho:s.sec=o at hr
  match o,hr with
  |none,hr=>cases hr
  |some (lo,hi,us),hr=>
   have k:=b.sec _ ho;rcases F8.mp hr with rfl|hr
   ·exact ⟨b.nm,k.1⟩
   ·obtain ⟨u,hu,rfl⟩:=GI.mp hr;exact ⟨b.nm,k.2.2 u hu⟩
theorem pM {ss:List SV} (b:∀s∈ss,yU s):∀r∈eZ ss,gB r:=fun r hr=>by
 unfold eZ at hr;rcases GD.mp hr with hr|hr
 ·obtain ⟨s,hs,rfl⟩:=GI.mp hr;have k:=b s hs;exact ⟨k.wd,k.nm,k.le,k.fl⟩
 ·obtain ⟨s,hs,hr⟩:=List.mem_flatMap.mp hr;exact yw (b s hs) r hr
theorem pN {s:SV} (b:yU s):(gF s).length<=25:=by
 unfold gF;rw[FQ,F6];have k1:=b.us.1;generalize ho:s.sec=o
 match o with
 |none=>simp;lia
 |some (lo,hi,us)=>
  have k:us.length<=12:=(b.sec _ ho).2.1;simp;omega
theorem yx {us:List bu} (h:y8 us):y8 (ig us):=⟨by unfold ig;rw[Gy];exact h.1,by unfold ig;rw[F6];exact h.2⟩
theorem sP {us:List bu} (h:m9 us):DR (ig us):=⟨by unfold ig;rw[F6];have:=h.len;lia,fun u hu=>by
 obtain ⟨x,hx,rfl⟩:=GI.mp hu;have k:=h.us x hx;exact ⟨k.1,k.2.1,k.2.2.1,by show x.2.2 % 1001<=1000;lia⟩⟩
theorem pO {s:SV} {x:Nat×Nat×List bu} (h:(dJ s).sec=some x):∃y,s.sec=some y/\x=(1+y.1 % 50000,1+y.1 % 50000+y.2.1 % 50000,ig y.2.2):=by
 have e:(dJ s).sec=s.sec.map fun x=>(1+x.1 % 50000,1+x.1 % 50000+x.2.1 % 50000,ig x.2.2):=rfl
 rw[e] at h;obtain ⟨y,hy,rfl⟩:=GS.mp h;exact ⟨y,hy,rfl⟩
theorem yy {s:SV} (h:sK s):yU (dJ s) where
 nm:=h.nm
 wd:=h.wd
 le:=⟨by show 1<=1+s.lo % 50000;lia,by show 1+s.lo % 50000<=1+s.lo % 50000+s.hi % 50000;lia,by show 1+s.lo % 50000+s.hi % 50000<=100000;lia⟩
 fl:=h.fl.ok
 us:=sP h.us
 sec:=fun x hx=>by
  obtain ⟨y,hy,rfl⟩:=pO hx;exact ⟨⟨by show 1<=1+y.1 % 50000;lia,by show 1+y.1 % 50000<=1+y.1 % 50000+y.2.1 % 50000;lia,by show 1+y.1 % 50000+y.2.1 % 50000<=100000;lia⟩,sP (h.sec y hy).2.2.2⟩
theorem sQ {us:List bu} (h:m9 us):m9 (ig us):=⟨by unfold ig;rw[F6];exact h.len,(yx h.un).1,fun u hu=>by
 obtain ⟨x,hx,rfl⟩:=GI.mp hu;have k:=h.us x hx;exact ⟨k.1,k.2.1,k.2.2.1,by show x.2.2 % 1001<2^30;lia⟩⟩
theorem sR {s:SV} (h:sK s):sK (dJ s) where
 wd:=h.wd
 nm:=h.nm
 le:=⟨by show 1<=1+s.lo % 50000;lia,by show 1+s.lo % 50000<=1+s.lo % 50000+s.hi % 50000;lia,by show 1+s.lo % 50000+s.hi % 50000<=2000000000;lia⟩
 fl:=h.fl
 us:=sQ h.us
 sec:=fun x hx=>by
  obtain ⟨y,hy,rfl⟩:=pO hx;exact ⟨by show 1<=1+y.1 % 50000;lia,by show 1+y.1 % 50000<=1+y.1 % 50000+y.2.1 % 50000;lia,by show 1+y.1 % 50000+y.2.1 % 50000<=2000000000;lia,sQ (h.sec y hy).2.2.2⟩
theorem uy (ss:List SV):(ss.map dJ).map (fun x=>x.n)=ss.map fun x=>x.n:=by
 rw[Gy]
 rfl
def f9 (c1:Addr):Sp:=fun vs H Q _=>∃a:Addr,vs= [.ref a]/\FG H a c1 none/\∀H',aA H H'->Q (.bl true) H'
theorem nj {p q p' q' a b:Int} (f:Fr p q a b) (f':Fr p' q' a b) (b0:0<b):p=p'/\q=q':=by
 refine jq ⟨f.pos,f.low⟩ ⟨f'.pos,f'.low⟩ (qi (k:=b) ?_ (by lia))
 have e:=f.same;have e':=f'.same
 grind
theorem lS (xs:List V) (k:Nat):fG xs (some (k:Int)) none=xs.drop k:=by
 unfold fG;rw[HT.nH,HT.w8]
 by_cases h:k<=xs.length
 ·rw[Nat.min_eq_left h,Gp (by rw[Gd];lia)]
 ·rw[Nat.min_eq_right (by lia),List.drop_of_length_le (by lia),List.drop_of_length_le (by lia)]
  simp
theorem zh {ss:List SV} {p q sp sq:Int}:∀n,∀t∈pB ss p q sp sq n,t.ws≠ []
 |0,t,ht=>by simp[pB] at ht
 |n+1,t,ht=>by
  unfold pB at ht;rcases GD.mp ht with ht|ht
  ·exact zh n t ht
  ·obtain ⟨i,_,rfl⟩:=GI.mp ht;unfold kx jb;simp
theorem uz {os:List (Addr×Le)} {i:Nat} {o:Addr×Le} (h:os[i]?=some o):eK os=eK (os.take i)++((o.1::o.2)++eK (os.drop (i+1))):=by
 have il:=bv h;have e:os=os.take i++o::os.drop (i+1):=by
  have k:=GQ i os;rw[HL il] at k;rw[F0 il] at h;cases h;exact k.symm
 unfold eK
 conv=>lhs;rw[e]
 rw[List.flatMap_append,List.flatMap_cons]
theorem yz {l:Addr} {os:List (Addr×Le)} {i:Nat} {o:Addr×Le} (nd:(l::eK os).Nodup) (h:os[i]?=some o):(o.1::o.2).Nodup/\(∀x∈o.1::o.2,x∉eK (os.drop (i+1))/\x≠l/\x∈eK os)/\∀x∈eK (os.drop (i+1)),x≠l:=by
 have e:=uz h;have n2:=(GR.mp nd).2;rw[e] at n2;have k:=Gf.mp n2;have k2:=Gf.mp k.2.1;have sub:∀x,x∈o.1::o.2->x∈eK os:=fun x hx=>by rw[e];exact FU _ (Gu _ hx)
 refine ⟨k2.1,fun x hx=>⟨fun z=>k2.2.2 x hx x z rfl,fun z=>(GR.mp nd).1 (z▸sub x hx),sub x hx⟩,fun x hx z=>?_⟩
 exact (GR.mp nd).1 (z▸(by rw[e];exact FU _ (FU _ hx):x∈eK os))
theorem yA {ss:List SV} {p q sp sq:Int} (nd:∀s∈ss,zb s) (r1:∀s∈ss,1<=lN s.fill p q sp sq) (le:wR ss p q sp sq<=24):wC (wQ ss p q sp sq)/\(wQ ss p q sp sq).length<=24:=by
 have k:=jc r1 ss.length (FO _);rw[Gp (by rw[F6];exact FO _)] at k
 have k':((wQ ss p q sp sq).length:Int)=wR ss p q sp sq:=k;exact ⟨⟨by lia,sI nd ss.length (FO _)⟩,by lia⟩
theorem uA {ss:List SV} {n:Nat} {s s':SV} (h:ss[n]?=some s) (e:s'.n=s.n):((ss.set n s').map fun x=>x.n)=ss.map fun x=>x.n:=by
 apply HE;intro i;rw[FP,FP]
 by_cases hi:n=i
 ·subst hi;rw[List.getElem?_set_self (bv h),h];exact congrArg some e
 ·rw[Hk hi]
theorem lT:∀{ss:List SV},(∀s∈ss,yU s)->(ss.flatMap gF).length<=25*ss.length
 | [],_=>by simp
 |s::ss,h=>by
  rw[List.flatMap_cons,FQ,G6];have h1:=pN (h s GM);have h2:=lT (ss:=ss) fun x hx=>h x (FS _ hx)
  lia
theorem qU {ss:List SV} (h:∀s∈ss,yU s) (l:ss.length<=12):(eZ ss).length<=1000:=by
 unfold eZ;rw[FQ,F6];have:=lT h
 lia
end Sw
namespace Lk41
open PySem L2 Sw XH PyProof.Rows Hm
abbrev Li (x:Addr):Option V:=some (.ref x)
theorem bX {X:Cx} {N P:Ld} {sp:Scope} (i:Nat) (sc:aw N P sp) {x:Str} {e:Expr} {te:TE} {pos pos':Pos} (he:PE X e te) (hi:X.N[i]?=some x:=by rfl) (hx:Loc X.env.scope x:=by exact Or.inl rfl) (hn:X.N=N:=by rfl) (hs:swapsWith e (some (.Name x pos')) pos.line X.env=pure false:=by rfl) (hf:X.fn x=true∨X.env.scope.names.lookup x=some .local:=by first|exact .inl rfl|exact .inr rfl|assumption):PS X (.Assign [.Name x pos'] e pos) (tm te (bM i)):=jf (hn▸sc.nd) hi hx he hs hf
theorem iS {X:Cx} {N P:Ld} {sp:Scope} (i:Nat) (sc:aw N P sp) {x:Str} {pos:Pos} (hi:X.N[i]?=some x:=by rfl) (hx:Loc X.env.scope x:=by exact Or.inl rfl) (hn:X.N=N:=by rfl) (hf:X.fn x=true∨X.env.scope.names.lookup x=some .local:=by first|exact .inl rfl|exact .inr rfl|assumption):PG X (.Name x pos) (bM i):=iX (hn▸sc.nd) hi hx hf
theorem bU {X:Cx} {k j:Nat} {x:Str} {ps:Ld} {dvs:List V} {sp:Sp} {e:Expr} {es:List Expr} {t:TA} {p pos:Pos} (D:Dx X.prog X.w X.K X.mg X.base aV k x ps dvs sp) (hr:b8 j X.A) (ha:PA X (e::es) t) (hk:k<=j:=by decide) (hg:Gl X x:=by rfl) (hdb:(x==("__debug__" :Str))=false:=by decide) (he:starEach (e::es) X.env=(false,eval e X.env)::starEach es X.env:=by rfl) (hpl:(backTo pos (starEach es X.env)).any (·.1)=false:=by rfl):PE X (.Call (.Name x p) (e::es) [] pos) (jj sp [] E0 t):=vn D hr hk hg ha hdb he hpl
noncomputable def top (i:Nat):Stmt:=PySem.Challenge.pw_stovework_k41_tasks.main.body.getD i (.Pass ⟨0,0,0,0⟩)
noncomputable def clsAt (s:Stmt) (i:Nat):Stmt:=match s with| .ClassDef _ _ _ body _ _ _ _ _ _ _=>body.getD i (.Pass ⟨0,0,0,0⟩)|_=>s
abbrev EO:Stmt:=top 35
abbrev EQ:Stmt:=top 19
abbrev ER:Stmt:=top 20
abbrev DV:Stmt:=top 22
abbrev ES:Stmt:=top 23
abbrev EU:Stmt:=top 24
abbrev EV:Stmt:=top 25
abbrev EW:Stmt:=top 26
abbrev EX:Stmt:=top 27
abbrev EY:Stmt:=top 37
abbrev AA:Stmt:=top 40
abbrev AB:Stmt:=top 39
abbrev AC:Stmt:=top 38
abbrev AD:Stmt:=top 44
abbrev AE:Stmt:=top 46
abbrev AF:Stmt:=top 47
abbrev AG:Stmt:=top 52
abbrev AH:Stmt:=top 51
abbrev AI:Stmt:=top 50
abbrev AJ:Stmt:=top 73
abbrev AK:Stmt:=top 72
abbrev AL:Stmt:=top 82
abbrev AM:Stmt:=top 83
abbrev AN:Stmt:=top 81
abbrev AO:Stmt:=top 75
abbrev AQ:Stmt:=top 80
abbrev yB:Stmt:=clsAt (top 54) 0
abbrev yC:Stmt:=clsAt (top 56) 0
abbrev AR:Stmt:=clsAt (top 60) 0
abbrev AS:Stmt:=top 58
abbrev AT:Stmt:=clsAt (top 54) 2
abbrev AU:Stmt:=clsAt (top 55) 1
abbrev AV:Stmt:=clsAt (top 54) 5
abbrev AW:Stmt:=clsAt (top 54) 4
abbrev AX:Stmt:=clsAt (top 54) 3
abbrev AY:Stmt:=clsAt (top 56) 2
abbrev AZ:Stmt:=top 71
abbrev A0:Stmt:=top 77
abbrev A1:Stmt:=top 76
abbrev A5:Stmt:=top 78
abbrev A9:Stmt:=top 79
abbrev Ba:Stmt:=top 74
abbrev Bb:Stmt:=top 70
abbrev Bc:Stmt:=top 30
abbrev yD:Stmt:=top 31
abbrev Be:Stmt:=top 85
abbrev Bf:Stmt:=top 86
abbrev Bg:Stmt:=top 87
abbrev Bh:Stmt:=top 88
abbrev CH:Stmt:=top 89
abbrev CI:Stmt:=top 89
abbrev Bi:Stmt:=top 89
abbrev Bj:Stmt:=top 90
abbrev Bk:Stmt:=top 91
abbrev Bl:Stmt:=top 92
abbrev Bm:Stmt:=top 93
abbrev Bo:Stmt:=top 94
abbrev Bp:Stmt:=top 95
abbrev Bq:Stmt:=top 96
abbrev Br:Stmt:=top 97
abbrev Bs:Stmt:=top 98
abbrev Bt:Stmt:=top 99
abbrev Bu:Stmt:=top 100
abbrev Bv:Stmt:=top 101
abbrev yE:Stmt:=top 102
abbrev Bw:Stmt:=top 103
abbrev By:Stmt:=top 104
abbrev ny:Stmt:=top 105
noncomputable def sS:List (Str×List V):= [("dish",[.str "name",.str "plates"]),("take",[.str "name",.str "amount"]),("cut",[.str "name",.str "length",.str "length"]),("rest",[.str "name",.str "length",.str "length"]),("warm",[.str "name",.str "length",.str "length",.str "amount"]),("or",[.str "name",.str "length",.str "length"]),("with",[.str "name",.str "name",.str "many",.str "heat"]),("orwith",[.str "name",.str "name",.str "many",.str "heat"]),("after",[.str "name",.str "name"]),("within",[.str "name",.str "name",.str "turns"]),("apart",[.str "name",.str "name"])]
noncomputable def pP:List (Str×List V):= [("plates",[.int 1,.int 1000]),("length",[.int 1,.int 100000]),("many",[.int 1,.int 8]),("heat",[.int 0,.int 1000]),("turns",[.int 0,.int 100000]),("course",[.int 1,.int 8]),("parts",[.int 0,.int 400]),("low",[.int 0,.int 1000000000000000])]
structure Bn (w:World) (K:F5) (mg:La) (IO Hy Il IR IN Ih Ia IM IL IY Ip IK IJ IX Ix Ik II mt Go Ie Ic Ig IH Hz IW Io on Ja Jm Jt Jc Jf IV IU Je Jx:Addr):Prop where
 Kh:∃t,mg "LETTERS" =some (.str "abcdefghijklmnopqrstuvwxyz" t)
 JB:∃t,mg "MOST_LETTERS" =some (.int 12 t)
 Ki:∃t,mg "FIGURES" =some (.str "0123456789" t)
 JC:∃t,mg "MOST_FIGURES" =some (.int 30 t)
 JT:∃t,mg "MOST_TAKES" =some (.int 12 t)
 JU:∃t,mg "MOST_STEPS" =some (.int 12 t)
 J3:∃t,mg "MOST_USES" =some (.int 12 t)
 JV:∃t,mg "MOST_LINKS" =some (.int 24 t)
 JS:∃t,mg "MOST_TASKS" =some (.int 24 t)
 Kw:mg "abs" =none
 J8:mg "bool" =none
 Jn:mg "enumerate" =none
 JD:mg "int" =none
 HM:mg "isinstance" =none
 IS:mg "len" =none
 Jj:mg "list" =none
 KY:mg "min" =none
 IZ:mg "range" =none
 J5:mg "sorted" =none
 IP:mg "str" =none
 KP:mg "sum" =none
 Jy:mg "tuple" =none
 KW:mg "zip" =none
 Kv:mg "BOUNDS" =some (.ref IO)
 KN:mg "Cut" =some (.ref Hy)
 J1:mg "EmptyHeap" =some (.ref Il)
 Kb:mg "FORMS" =some (.ref IR)
 Ku:mg "InRing" =some (.ref IN)
 JP:mg "LINK_WORDS" =some (.ref Ih)
 Jh:mg "NoAmount" =some (.ref Ia)
 Kt:mg "NoDish" =some (.ref IM)
 Ks:mg "NoName" =some (.ref IL)
 KH:mg "NoNet" =some (.ref IY)
 J7:mg "NoNumber" =some (.ref Ip)
 Kr:mg "NoPack" =some (.ref IK)
 Kq:mg "NoPlan" =some (.ref IJ)
 KG:mg "NoRow" =some (.ref IX)
 Kg:mg "NoStand" =some (.ref Ix)
 JZ:mg "NoStandIn" =some (.ref Ik)
 Ko:mg "NoStep" =some (.ref II)
 JY:mg "Recipe" =some (.ref mt)
 Kn:mg "Rest" =some (.ref Go)
 Js:mg "STEP_WORDS" =some (.ref Ie)
 KS:mg "Step" =some (.ref Ic)
 JO:mg "StoveError" =some (.ref Ig)
 Km:mg "TooFew" =some (.ref IH)
 JJ:mg "TooMany" =some (.ref Hz)
 KF:mg "Twice" =some (.ref IW)
 JX:mg "USE_WORDS" =some (.ref Io)
 Kl:mg "Warm" =some (.ref on)
 Jp:oQ K Ie ["cut","rest","warm"]
 JK:oQ K Io ["with","orwith"]
 JE:oQ K Ih ["after","within","apart"]
 J4:oV w K IR sS
 Kj:oV w K IO pP
 Jz:Hs K Ia Cf "ValueError.__new__" =true
 KT:XI K Ia
 Ke:Hs K Hz Cf "ValueError.__new__" =true
 Jv:XI K Hz
 J6:XT K Ia
 Kf:XT K Hz
 Jo:Hb K (.ref Ia) (.ref Ia)=some true
 IT:Hb K (.ref Hz) (.ref Hz)=some true
 JW:G7 K (.ref Ia) (.ref Ig)=some true
 Jl:G7 K (.ref Hz) (.ref Ig)=some true
 JR:PySem.W.kitAny K (.ref Hz) [.ref Il,.ref IN,.ref Ia,.ref IM,.ref IL,.ref IY,.ref Ip,.ref IK,.ref IJ,.ref IX]=some false
 JQ:PySem.W.kitAny K (.ref Hz) [.ref Ix,.ref Ik,.ref II,.ref IH,.ref IW]=some false
 K3:iI K Ic
 K2:Mk K Ic Ja
 K8:cA K Ic "span" Jc
 K5:cA K Ic "rounds" Je
 K6:cA K Ic "grown" IU
 K7:cA K Ic "grown_way" IV
 Ji:iI K Hy
 Kk:Mk K Hy Ja
 KR:cA K Hy "span" Jf
 JH:cA K Hy "rounds" Je
 JN:cA K Hy "grown" IU
 Ju:cA K Hy "grown_way" IV
 Jd:iI K Go
 Ka:Mk K Go Ja
 JM:cA K Go "span" Jc
 JA:cA K Go "rounds" Je
 JG:cA K Go "grown" IU
 Jr:cA K Go "grown_way" IV
 Jb:iI K on
 J9:Mk K on Jm
 JL:cA K on "span" Jc
 KQ:cA K on "rounds" Jx
 JF:cA K on "grown" IU
 Jq:cA K on "grown_way" IV
 Id:iI K mt
 JI:Mk K mt Jt
 IF:aE K Hy "name"
 ID:aE K Hy "least"
 IG:aE K Hy "most"
 Iy:aE K Hy "uses"
 Im:aE K Hy "second"
 IB:aE K Go "name"
 Iv:aE K Go "least"
 IC:aE K Go "most"
 Ir:aE K Go "uses"
 Ij:aE K Go "second"
 Iz:aE K on "name"
 Iu:aE K on "least"
 IA:aE K on "most"
 Iq:aE K on "uses"
 Ii:aE K on "second"
 Jg:aE K on "fill"
 Jk:aE K mt "name"
 Iw:aE K mt "plates"
 IE:aE K mt "takes"
 Ib:aE K mt "steps"
 IQ:aE K mt "links"
 Jw:zL K Ic "__init__" Ja
 K0:wM K Ic
 K4:wM K Hy
 K1:wM K Go
 KZ:wM K on
 KU:wM K mt
 KO:G7 K (.ref Hy) (.ref Hy)=some true
 KM:G7 K (.ref Hy) (.ref Go)=some false
 KK:G7 K (.ref Hy) (.ref on)=some false
 KL:G7 K (.ref Hy) (.ref Ic)=some true
 KJ:G7 K (.ref Go) (.ref Hy)=some false
 KD:G7 K (.ref Go) (.ref Go)=some true
 KB:G7 K (.ref Go) (.ref on)=some false
 KC:G7 K (.ref Go) (.ref Ic)=some true
 KI:G7 K (.ref on) (.ref Hy)=some false
 KA:G7 K (.ref on) (.ref Go)=some false
 Ky:G7 K (.ref on) (.ref on)=some true
 Kz:G7 K (.ref on) (.ref Ic)=some true
 Kc:G7 K (.ref mt) (.ref mt)=some true
section
variable {P:Program} {w:World} {K:F5} {mg:La} {base:Heap} {f:Addr} {fd:FuncData} {IO Hy Il IR IN Ih Ia IM IL IY Ip IK IJ IX Ix Ik II mt Go Ie Ic Ig IH Hz IW Io on Ja Jm Jt Jc Jf IV IU Je Jx:Addr}
variable (B:Bn w K mg IO Hy Il IR IN Ih Ia IM IL IY Ip IK IJ IX Ix Ik II mt Go Ie Ic Ig IH Hz IW Io on Ja Jm Jt Jc Jf IV IU Je Jx)
include B
theorem EZ {dV:Value} (F:bh K "read_figures" "read_figures" EO dV f fd):aW P w K mg base aV 1 f fd ["word"] qA:=by
 have sc:aw ["word","sign"] ["word"] (ao EO):=cN (by decide+kernel)
 and_intros
 ·obtain ⟨_,rfl,_⟩:=h
  rfl
 obtain ⟨z,rfl,hz,q0,q1⟩:=h;have hz':z.length<=sizeLine:=GP hz (by decide)
 have hl:=dm z;refine ⟨_,(ae (aI (PW.pt (dN (ar kD (aG dW rfl B.IS boot_len ((pv 0)<*>ad)) ac (aD _)) (dA (ar kE (aG dW rfl B.IS boot_len ((pv 0)<*>ad)) (eH rfl B.JC) (aD _))))) (af (au aR)) az) (ae (aI (PW.pt (ip (ar bO (ai jm (pv 0) ac (fun _ _=>rfl)) aN (aD _)) (fU (ar gG (pv 0) aN (aD _))))) (af (au aR)) az) (ae (cv PassesOwn.never rfl (vx (pv 0)) (iS 1 sc) (af (aI (ar dU (pv 1) (nX rfl B.Ki) (by with_unfolding_all rfl)) (af (au aR)) az))) (af (au (a7 mG rfl B.JD boot_int ((pv 0)<*>ad))))))),?_⟩
 try dsimp only[cxK]
 refine ⟨ν,z,rfl,hz',aF _ _ ⟨rfl,rfl,ν,d2 (fun c=>?_) (fun c1=>⟨ν,z,rfl,hz',aF _ _ ⟨rfl,rfl,ν,d2 (fun c=>?_) (fun c2=>?_)⟩⟩)⟩⟩
 ·exact q0 (fW fun f=>by have:=f.1;lia)
 ·exact q0 (fW fun f=>by have:=f.2.1;lia)
 obtain ⟨c0,r0,el⟩:∃c r,sL z=c::r:=by
  cases e:sL z with
  |nil=>rw[e] at hl;simp at hl;lia
  |cons c r=>exact (aF c r rfl)
 try dsimp only[bM,bY]
 refine cut (fun σ H'=>σ= [some (.str z),none]/\H'=H/\(c0≠48∨sL z= [48])) (fun N hN=>?_) ?_
 ·refine ⟨ν,b5 z 0 c0 ⟨rfl,rfl,hz',(by show fe (sL z) ((0:Nat):Int)=some c0;exact aC (by rw[el];rfl)),rfl,ν,zP (fun e1=>⟨ν,rfl,ν,vG (fun e2=>?_) (fun e2=>?_)⟩) (fun e1=>?_)⟩⟩
  ·refine q0 (fW fun f=>?_)
   have c48:c0=48:=by
    have:=congrArg sL (e1.trans i3);rw[zN,bB,bB] at this;cases this
    rfl
   rcases f.2.2.1 with h|h
   ·exact h (by rw[el,c48];rfl)
   ·exact e2 (fK (by rw[h,i3,bB]))
  ·exact hN _ _ ⟨rfl,rfl,.inr (by rw[e2,i3,bB])⟩
  ·refine hN _ _ ⟨rfl,rfl,.inl fun e=>e1 ?_⟩
   rw[e,i3]
   rfl
 rintro σ H' ⟨rfl,rfl,hd⟩;refine ⟨ν,z,rfl,rE (fun i σ H2=>H2=H'/\(∃o,σ= [some (.str z),o])/\∀j c,j<i->z.cps[j]?=some c->48<=c/\c<=57) ⟨rfl,⟨ν⟩,fun j c h=>absurd h (by lia)⟩ (fun i c σ H2 hc hP=>?_) (fun σ H2 hP=>?_)⟩
 ·obtain ⟨rfl,⟨o,rfl⟩,hP⟩:=hP;refine ⟨ν,aF _ _ ⟨rfl,rfl,ν,DP (fun e=>?_) (fun e=>?_)⟩⟩
  ·have e':=(rO c).symm.trans e;refine q0 (fW fun f=>?_)
   have:=f.2.2.2 c (F9 (show (sL z)[i]?=some c by rw[<-hc];exact HA))
   rw[decide_eq_true this] at e';cases e'
  ·have e':=(rO c).symm.trans e;refine ⟨rfl,⟨ν⟩,fun j c' hj hc'=>?_⟩
   rcases Nat.lt_succ_iff_lt_or_eq.mp hj with k|k
   ·exact hP j c' k hc'
   ·subst k;rw[hc] at hc';cases hc';exact of_decide_eq_true e'
 ·obtain ⟨rfl,⟨o,rfl⟩,hP⟩:=hP;have f:xE (sL z):=by
   refine ⟨by lia,by lia,?_,fun c hc=>?_⟩
   ·rcases hd with h|h
    ·exact .inl (by rw[el];simp;exact h)
    ·exact .inr h
   ·obtain ⟨i,hi⟩:=G4.mp hc;have hi':z.cps[i]?=some c:=by rw[<-hi];exact HA.symm
    exact hP i c (by have:=(Hj.mp hi').1;exact this) hi'
  exact ⟨ν,aF z _ ⟨rfl,int_text f,by have:=f.2.1;lia,q1 _ (qx f)⟩⟩
theorem E1 {dV:Value} (F:bh K "is_whole" "is_whole" EQ dV f fd):aW P w K mg base aV 1 f fd ["thing"] rh:=by
 have sc:aw ["thing"] ["thing"] (ao EQ):=cN (by decide+kernel)
 and_intros
 ·obtain ⟨_,rfl,_⟩:=h
  rfl
 obtain ⟨v,rfl,q⟩:=h;refine ⟨_,(af (au (fh (aG nO rfl B.HM boot_isinstance ((pv 0)<*>((bQ (v:= .ty "int") rfl B.JD boot_int rfl)<*>ad))) (gl (lV (aG nO rfl B.HM boot_isinstance ((pv 0)<*>((bQ (v:= .ty "bool") rfl B.J8 boot_bool rfl)<*>ad)))))))),?_⟩;try dsimp only[cxK]
 refine ⟨ν,b5 _ _ _ ⟨rfl,.ii v,ν,dh ⟨ν,b5 _ _ _ ⟨rfl,.ib v,ν,q⟩⟩⟩⟩
theorem E3 {dV:Value} (F:bh K "divisor" "divisor" ER dV f fd):aW P w K mg base aV 1 f fd ["one","other"] yJ:=by
 have sc:aw ["one","other","greater","lesser","rest"] ["one","other"] (ao ER):=cN (by decide+kernel)
 and_intros
 ·obtain ⟨_,_,rfl,_⟩:=h
  rfl
 obtain ⟨a,b,rfl,q⟩:=h;refine ⟨_,(ae (bX 2 sc (aG jh rfl B.Kw boot_abs ((pv 0)<*>ad))) (ae (bX 3 sc (aG jh rfl B.Kw boot_abs ((pv 1)<*>ad))) (ae (nD PassesOwn.never (ar gG (pv 3) ac (aD _)) (ae (bX 4 sc (ak aJ (pv 2) (pv 3))) (ae (bX 2 sc (pv 3)) (af (bX 3 sc (pv 4)))))) (af (au (pv 2)))))),?_⟩;try dsimp only[cxK]
 refine ⟨ν,ν,ν,ν,?_⟩;refine nE (fun σ H'=>H'=H/\∃(g l:Int) (r:Option V),σ= [some (.int a),some (.int b),some (.int g),some (.int l),r]/\0<=g/\0<=l/\cg g l=cg a b)
  (fun (σ:L2.St) (_:Hp)=>match σ[3]? with|some (some (V.int l))=>l.toNat|_=>0) ⟨rfl,b5 _ _ _ ⟨rfl,rg a,rg b,uW a b⟩⟩ ?_ (fun σ H Q Q' m ⟨v,e,s,k,hk,h2⟩=>⟨v,e,s,k,hk,m _ _ h2⟩)
 rintro σ H' ⟨rfl,g,l,r,rfl,g0,l0,inv⟩;refine ⟨ν,rfl,ν,Ff (fun c=>?_) (fun c=>?_)⟩
 ·have lp:0<l:=by lia
  refine ⟨ν,ν,aF _ _ ⟨rfl,rfl,c,ν,ν,⟨rfl,b5 l (g.fmod l) _ ⟨rfl,l0,FM g lp,?_⟩⟩,?_⟩⟩
  ·rw[kP lp];exact inv
  ·have h1:=FT g lp;have h2:=FM g lp;show (g.fmod l).toNat<l.toNat
   lia
 ·subst c;rw[kQ g0] at inv;rw[<-inv] at q;exact ⟨ν,q⟩
theorem E5 {dV:Value} (F:bh K "fraction" "fraction" DV dV f fd) (DZ1:Dx P w K mg base aV 1 "is_whole" ["thing"] [] rh) (DZ2:Dx P w K mg base aV 1 "divisor" ["one","other"] [] yJ):aW P w K mg base aV 2 f fd ["top","bottom"] mn:=by
 have sc:aw ["top","bottom","common"] ["top","bottom"] (ao DV):=cN (by decide+kernel)
 and_intros
 ·obtain ⟨_,_,rfl,_⟩:=h
  rfl
 obtain ⟨a,b,rfl,b0,hb,q⟩:=h;refine ⟨_,(ae (aI (PW.pt (dN (cr (bE (bU DZ1 hr ((pv 0)<*>ad)))) (dA (cr (bE (bU DZ1 hr ((pv 1)<*>ad))))))) (af cT) az) (ae (aI (ar bO (pv 1) ac (aD _)) (af cT) az) (ae (bX 2 sc (bU DZ2 hr ((pv 0)<*>((pv 1)<*>ad)))) (ae (aI (ar kD (pv 1) ac (aD _)) (af (bX 2 sc (kC ir (pv 2)))) az) (af (au (@bN _ _ _ _ _ ((ak aQ (pv 0) (pv 2))<*>((ak aQ (pv 1) (pv 2))<*>ad))))))))),?_⟩;try dsimp only[cxK]
 have c0:=qg (a:=a) b0;have cb:=uY (a:=a) b0 hb;have f:=yI (a:=a) b0;refine ⟨ν,ν,true,rfl,cU ⟨ν,ν,true,rfl,cU ?_⟩⟩;refine ⟨ν,rfl,ν,FF b0 ?_⟩;refine ⟨ν,ν,aF _ _ ⟨rfl,?_⟩⟩;refine ⟨ν,aF _ _ ⟨rfl,rfl,ν,d2 (fun c=>?_) (fun c=>?_)⟩⟩
 ·have e:ke a b= -cg a b:=if_pos c;rw[e] at c0 cb f;exact ⟨ν,ν,ν,ν,aF _ _ ⟨rfl,rfl,⟨c0,cb.div c0⟩,ν,ν,aF _ _ ⟨rfl,rfl,⟨c0,cb.div c0⟩,by show 2<=sizeLine;decide,fun t ht=>q _ _ f t _ (aj ht _) ah⟩⟩⟩
 ·have e:ke a b=cg a b:=if_neg c;rw[e] at c0 cb f;exact ⟨ν,ν,aF _ _ ⟨rfl,rfl,⟨c0,cb.div c0⟩,ν,ν,aF _ _ ⟨rfl,rfl,⟨c0,cb.div c0⟩,by show 2<=sizeLine;decide,fun t ht=>q _ _ f t _ (aj ht _) ah⟩⟩⟩
theorem E6 {dV:Value} (F:bh K "plus" "plus" ES dV f fd) (DZ3:Dx P w K mg base aV 2 "fraction" ["top","bottom"] [.int 1] mn):aW P w K mg base aV 3 f fd ["one","other"] (u9 K):=by
 have sc:aw ["one","other"] ["one","other"] (ao ES):=cN (by decide+kernel)
 and_intros
 ·obtain ⟨_,_,_,_,_,_,rfl,_⟩:=h
  rfl
 obtain ⟨t,t',p,q,p',q',rfl,h1,h2,qq⟩:=h;refine ⟨_,(af (au (bU DZ3 hr ((ak bH (ak bo (ai bj (pv 0) ac (fun _ _=>rfl)) (ai bj (pv 1) ac (fun _ _=>rfl))) (ak bo (ai bj (pv 1) ac (fun _ _=>rfl)) (ai bj (pv 0) ac (fun _ _=>rfl))))<*>((ak bo (ai bj (pv 0) ac (fun _ _=>rfl)) (ai bj (pv 1) ac (fun _ _=>rfl)))<*>ad))))),?_⟩
 try dsimp only[cxK]
 exact ⟨ν,aH _ _ _ _ ⟨rfl,rfl,h1.at_,rfl,ν,aH _ _ _ _ ⟨rfl,rfl,h2.at_,rfl,aF _ _ ⟨rfl,rfl,h1.bp.ok h2.bq,ν,aH _ _ _ _ ⟨rfl,rfl,h2.at_,rfl,ν,b5 _ _ _ ⟨ν,rfl,h1.at_,rfl,ω,h2.bp.ok h1.bq,ω,ν,_,_,ω,h1.at_,rfl,ν,_,_,ω,h2.at_,rfl,ω,h1.bq.ok h2.bq,_,ν,qk h1.pos h2.pos,(h1.bq.mul h2.bq).mono (by decide),qq⟩⟩⟩⟩⟩⟩
theorem E7 {dV:Value} (F:bh K "product" "product" EU dV f fd) (DZ3:Dx P w K mg base aV 2 "fraction" ["top","bottom"] [.int 1] mn):aW P w K mg base aV 3 f fd ["one","other"] (qh K):=by
 have sc:aw ["one","other"] ["one","other"] (ao EU):=cN (by decide+kernel)
 and_intros
 ·obtain ⟨_,_,_,_,_,_,rfl,_⟩:=h
  rfl
 obtain ⟨t,t',p,q,p',q',rfl,h1,h2,qq⟩:=h;refine ⟨_,(af (au (bU DZ3 hr ((ak bo (ai bj (pv 0) ac (fun _ _=>rfl)) (ai bj (pv 1) ac (fun _ _=>rfl)))<*>((ak bo (ai bj (pv 0) ac (fun _ _=>rfl)) (ai bj (pv 1) ac (fun _ _=>rfl)))<*>ad))))),?_⟩
 try dsimp only[cxK]
 exact ⟨ν,aH _ _ _ _ ⟨rfl,rfl,h1.at_,rfl,ν,aH _ _ _ _ ⟨rfl,rfl,h2.at_,rfl,aF _ _ ⟨rfl,rfl,h1.bp.ok h2.bp,ν,aH _ _ _ _ ⟨rfl,rfl,h1.at_,rfl,ν,b5 _ _ _ ⟨ν,rfl,h2.at_,rfl,ω,h1.bq.ok h2.bq,_,ν,qk h1.pos h2.pos,(h1.bq.mul h2.bq).mono (by decide),qq⟩⟩⟩⟩⟩⟩
theorem E8 {dV:Value} (F:bh K "quotient" "quotient" EV dV f fd) (DZ3:Dx P w K mg base aV 2 "fraction" ["top","bottom"] [.int 1] mn):aW P w K mg base aV 3 f fd ["one","other"] (va K):=by
 have sc:aw ["one","other"] ["one","other"] (ao EV):=cN (by decide+kernel)
 and_intros
 ·obtain ⟨_,_,_,_,_,_,rfl,_⟩:=h
  rfl
 refine tU h fun t t' p q p' q' _hi=>?_
 refine BG _hi fun _r1 h1 h2 _hj=>?_
 refine iV _hj fun n0 qq=>?_
 clear h _hi _hj;subst _r1;refine ⟨_,(af (au (bU DZ3 hr ((ak bo (ai bj (pv 0) ac (fun _ _=>rfl)) (ai bj (pv 1) ac (fun _ _=>rfl)))<*>((ak bo (ai bj (pv 0) ac (fun _ _=>rfl)) (ai bj (pv 1) ac (fun _ _=>rfl)))<*>ad))))),?_⟩
 try dsimp only[cxK]
 exact ⟨ν,aH _ _ _ _ ⟨rfl,rfl,h1.at_,rfl,ν,aH _ _ _ _ ⟨rfl,rfl,h2.at_,rfl,aF _ _ ⟨rfl,rfl,h1.bp.ok h2.bq,ν,aH _ _ _ _ ⟨rfl,rfl,h1.at_,rfl,ν,b5 _ _ _ ⟨ν,rfl,h2.at_,rfl,ω,h1.bq.ok h2.bp,_,ν,Int.mul_ne_zero (by have:=h1.pos;lia) n0,(h1.bq.mul h2.bp).mono (by decide),qq⟩⟩⟩⟩⟩⟩
theorem E9 {dV:Value} (F:bh K "round_up" "round_up" EW dV f fd):aW P w K mg base aV 1 f fd ["one"] (zC K):=by
 have sc:aw ["one"] ["one"] (ao EW):=cN (by decide+kernel)
 and_intros
 ·obtain ⟨_,_,_,rfl,_⟩:=h
  rfl
 obtain ⟨t,p,q,rfl,h1,qq⟩:=h;refine ⟨_,(af (au (kC ir (ak aQ (kC ir (ai bj (pv 0) ac (fun _ _=>rfl))) (ai bj (pv 0) ac (fun _ _=>rfl)))))),?_⟩
 try dsimp only[cxK]
 have q0:q≠0:=by have:=h1.pos;lia
 exact ⟨ν,aH _ _ _ _ ⟨rfl,rfl,h1.at_,rfl,ν,ν,aH _ _ _ _ ⟨rfl,rfl,h1.at_,rfl,aF _ _ ⟨rfl,rfl,⟨q0,h1.bq.div q0⟩,ν,qq⟩⟩⟩⟩
theorem Fa {dV:Value} (F:bh K "round_down" "round_down" EX dV f fd):aW P w K mg base aV 1 f fd ["one"] (uZ K):=by
 have sc:aw ["one"] ["one"] (ao EX):=cN (by decide+kernel)
 and_intros
 ·obtain ⟨_,_,_,rfl,_⟩:=h
  rfl
 obtain ⟨t,p,q,rfl,h1,qq⟩:=h;refine ⟨_,(af (au (ak aQ (ai bj (pv 0) ac (fun _ _=>rfl)) (ai bj (pv 0) ac (fun _ _=>rfl))))),?_⟩
 try dsimp only[cxK]
 have q0:q≠0:=by have:=h1.pos;lia
 exact ⟨ν,aH _ _ _ _ ⟨rfl,rfl,h1.at_,rfl,ν,aH _ _ _ _ ⟨rfl,rfl,h1.at_,rfl,aF _ _ ⟨rfl,rfl,⟨q0,h1.bq.div q0⟩,qq⟩⟩⟩⟩
theorem Fb {dV:Value} (F:bh K "amount_text" "amount_text" EY dV f fd) (DZ8:Dx P w K mg base aV 1 "round_down" ["one"] [] (uZ K)):aW P w K mg base aV 2 f fd ["amount"] (yQ K):=by
 have sc:aw ["amount","whole","bottom","top"] ["amount"] (ao EY):=cN (by decide+kernel)
 and_intros
 ·obtain ⟨_,_,_,rfl,_⟩:=h
  rfl
 obtain ⟨t,p,q,rfl,h1,qq⟩:=h;refine ⟨_,(ae (bX 1 sc (bU DZ8 hr ((pv 0)<*>ad))) (ae (bX 2 sc (ai bj (pv 0) ac (fun _ _=>rfl))) (ae (bX 3 sc (ak pT (ai bj (pv 0) ac (fun _ _=>rfl)) (ak bo (pv 1) (pv 2)))) (ae (aI (ar bO (pv 3) ac (aD _)) (af (au (a7 br rfl B.IP boot_str ((pv 1)<*>ad)))) az) (ae (aI (ar bO (pv 1) ac (aD _)) (af (au (mF (dD (iC (pv 3)) (dD aN (dD (iC (pv 2)) qy)))))) az) (af (au (mF (dD (iC (pv 1)) (dD aN (dD (iC (pv 3)) (dD aN (dD (iC (pv 2)) qy))))))))))))),?_⟩
 try dsimp only[cxK]
 have q0:q≠0:=by have:=h1.pos;lia
 have bp:=Cq h1.bp;have bq:=Cq h1.bq;have lw:p/q<2^1900:=Ge (Nat.div_le_self p q) bp;have lt:p % q<2^1900:=Ge (Nat.mod_le p q) bp;refine ⟨ν,b5 t p q ⟨rfl,h1.mono (by decide),?_⟩⟩
 rw[ot];refine ⟨ν,aH _ _ _ _ ⟨rfl,rfl,h1.at_,rfl,?_⟩⟩;refine ⟨ν,aH _ _ _ _ ⟨rfl,rfl,h1.at_,rfl,ν,ν,aF _ _ ⟨rfl,rfl,(Fg lw).ok h1.bq,aF _ _ ⟨rfl,rfl,?_⟩⟩⟩⟩;dsimp only[bM];rw[xH];have dw:=cE lw;have dt:=cE lt;have dq:=cE bq;have s6:(600:Nat)*3+10<=sizeLine:=by decide
 refine ⟨ν,rfl,ν,uB (fun c=>?_) (fun c=>?_)⟩
 ·refine ⟨ν,ν,lg lw,?_⟩;rw[iZ];unfold c6 at qq;rw[if_pos (by lia)] at qq
  exact qq
 refine ⟨ν,rfl,ν,uB (fun c2=>?_) (fun c2=>?_)⟩
 ·refine ⟨ν,.inl ⟨ν,lg lt,ν,?_,ν,?_,ν,.inl ⟨ν,lg bq,ν,?_,?_,?_⟩⟩⟩
  all_goals simp only[iZ,cV,oa,b4,cD,List.nil_append,FQ,G6,List.length_nil]
  ·lia
  ·lia
  ·lia
  ·lia
  ·unfold c6 at qq;rw[if_neg (by lia),if_pos (by lia)] at qq
   simpa using qq
 ·refine ⟨ν,.inl ⟨ν,lg lw,ν,?_,ν,?_,ν,.inl ⟨ν,lg lt,ν,?_,ν,?_,ν,.inl ⟨ν,lg bq,ν,?_,?_,?_⟩⟩⟩⟩
  all_goals simp only[iZ,cV,fk,oa,b4,cD,List.nil_append,FQ,G6,List.length_nil]
  ·lia
  ·lia
  ·lia
  ·lia
  ·lia
  ·lia
  ·unfold c6 at qq;rw[if_neg (by lia),if_neg (by lia)] at qq
   simpa using qq
theorem CJ {dV:Value} (F:bh K "loosely_read_term" "loosely_read_term" AA dV f fd) (DZ0:Dx P w K mg base aV 1 "read_figures" ["word"] [] qA) (DZ3:Dx P w K mg base aV 2 "fraction" ["top","bottom"] [.int 1] mn):aW P w K mg base aV 3 f fd ["text"] vE:=by
 have sc:aw ["text","halves","top","bottom"] ["text"] (ao AA):=cN (by decide+kernel)
 and_intros
 ·obtain ⟨_,rfl,_⟩:=h
  rfl
 obtain ⟨z,rfl,hz,q0,q1⟩:=h;refine ⟨_,(ae (aI (ar dU aN (pv 0) (by with_unfolding_all rfl)) (af (bX 0 sc (mF (dD (iC (pv 0)) (dD aN qy))))) az) (ae (bX 1 sc (bZ Gk PySem.F.slot_str_partition PySem.F.type_str_partition gN (pv 0) (aN<*>ad))) (ae (bX 2 sc (bU DZ0 hr ((ai bj (pv 1) ac (fun _ _=>rfl))<*>ad))) (ae (bX 3 sc (bU DZ0 hr ((ai bj (pv 1) ac (fun _ _=>rfl))<*>ad))) (ae (aI (PW.pt (dN (ar cP (pv 2) aR (aD _)) (dN (ar cP (pv 3) aR (aD _)) (dA (ar bO (pv 3) ac (aD _)))))) (af (au aR)) az) (af (au (bU DZ3 hr ((pv 2)<*>((pv 3)<*>ad)))))))))),?_⟩
 try dsimp only[cxK]
 have lz:=dm z;refine cut (fun σ H'=>H'=H/\∃z':Str,σ= [some (.str z'),none,none,none]/\z'.length<=900010/\47∈sL z'/\c8 (sL z)=cM (cH 47 (sL z')).1 (cH 47 (sL z')).2) (fun N hN=>?_) ?_
 ·refine ⟨ν,aF _ _ ⟨rfl,rfl,ν,DP (fun e=>?_) (fun e=>?_)⟩⟩
  ·rw[cV,iD] at e;have e':=of_decide_eq_false e;have e1:Str.ofString "/1" =bJ [47,49]:=by decide
   refine ⟨ν,.inr ⟨z,rfl,GP hz (by decide),ν,?_,ν,?_,?_,?_⟩⟩
   all_goals simp only[e1,Str.empty_append]
   ·exact GP hz (by decide)
   ·rw[<-dm,ci,bB,FQ];refine GP (m:=900010) ?_ (by decide)
    simp;omega
   ·rw[<-dm,ci,bB,FQ];refine GP (m:=900010) ?_ (by decide)
    simp;omega
   ·refine hN _ _ ⟨rfl,ν,?_,?_,?_⟩
    ·rw[<-dm,ci,bB,FQ];simp;omega
    ·rw[ci,bB];simp
    ·rw[ci,bB];have c:=eA (c:=47) (a:=sL z) (b:= [49]) e';rw[c];exact if_neg e'
  ·rw[cV,iD] at e;have e':=of_decide_eq_true e;refine hN _ _ ⟨rfl,z,rfl,by lia,e',?_⟩
   exact if_pos e'
 rintro σ H' ⟨rfl,z',rfl,hz',hm,et⟩;rw[et] at q0 q1;obtain ⟨ec,_⟩:=rJ hm;have lz':=dm z';have lc:=congrArg List.length ec;rw[FQ,G6] at lc;refine ⟨ν,rfl,aF z' _ ⟨rfl,rfl,(by rw[cV,cD];decide),GP hz' (by decide),fun t1 n1=>?_⟩⟩
 rw[cV,og,if_pos hm];have g1:=aj n1 (.tup [.str (bJ (cH 47 (sL z')).1),.str (bJ [47]),.str (bJ (cH 47 (sL z')).2)]);generalize (cH 47 (sL z')).1=a at*;generalize (cH 47 (sL z')).2=b at*;cases ea:di a with
 |none=>
  have en:cM a b=none:=by unfold cM;rw[ea]
  refine ⟨ν,aH _ _ _ _ ⟨rfl,rfl,bi.of ah,rfl,ν,by rw[cD];lia,fun _=>?_,(fun n h=>by rw[bB,ea] at h;cases h)⟩⟩
  cases eb:di b with
  |none=>
   refine ⟨ν,aH _ _ _ _ ⟨rfl,rfl,bi.of ah,rfl,ν,by rw[cD];lia,fun _=>?_,(fun n h=>by rw[bB,eb] at h;cases h)⟩⟩
   exact ⟨ν,rfl,ν,dT rfl (q0 en _ g1)⟩
  |some m=>
   refine ⟨ν,aH _ _ _ _ ⟨rfl,rfl,bi.of ah,rfl,ν,by rw[cD];lia,(fun h=>by rw[bB,eb] at h;cases h),fun n h=>?_⟩⟩
   exact ⟨ν,rfl,ν,dT rfl (q0 en _ g1)⟩
 |some n=>
  refine ⟨ν,aH _ _ _ _ ⟨rfl,rfl,bi.of ah,rfl,ν,by rw[cD];lia,(fun h=>by rw[bB,ea] at h;cases h),fun n' h=>?_⟩⟩
  rw[bB,ea] at h;cases h;cases eb:di b with
  |none=>
   have en:cM a b=none:=by unfold cM;rw[ea,eb]
   refine ⟨ν,aH _ _ _ _ ⟨rfl,rfl,bi.of ah,rfl,ν,by rw[cD];lia,fun _=>?_,(fun n h=>by rw[bB,eb] at h;cases h)⟩⟩
   exact ⟨ν,rfl,ν,dF (fun z=>nomatch z) ⟨ν,rfl,ν,dT rfl (q0 en _ g1)⟩⟩
  |some m=>
   refine ⟨ν,aH _ _ _ _ ⟨rfl,rfl,bi.of ah,rfl,ν,by rw[cD];lia,(fun h=>by rw[bB,eb] at h;cases h),fun m' h=>?_⟩⟩
   rw[bB,eb] at h;cases h;refine ⟨ν,rfl,ν,dF (fun z=>nomatch z) ⟨ν,rfl,ν,dF (fun z=>nomatch z) ⟨ν,rfl,ν,uB (fun c=>?_) (fun c=>?_)⟩⟩⟩
   ·exact q0 (by unfold cM;rw[ea,eb];simp only;rw[if_pos (by lia)]) _ g1
   ·have m0:m≠0:=fun z=>c (by rw[z];rfl)
    have ep:cM a b=some (n,m):=by unfold cM;rw[ea,eb];simp only;rw[if_neg m0]
    refine ⟨ν,ν,aF _ _ ⟨rfl,c,(fZ (iA eb)).mono (by decide),fun p q f t2 H2 g2 e2=>?_⟩⟩
    exact q1 n m p q ep m0 (iA ea) (iA eb) f t2 H2 (g1.trans g2) e2
theorem CK {dV:Value} (F:bh K "loosely_read" "loosely_read" AB dV f fd) (DZ4:Dx P w K mg base aV 3 "plus" ["one","other"] [] (u9 K)) (DZ10:Dx P w K mg base aV 3 "loosely_read_term" ["text"] [] vE):aW P w K mg base aV 4 f fd ["text"] rP:=by
 have sc:aw ["text","halves","whole","rest"] ["text"] (ao AB):=cN (by decide+kernel)
 and_intros
 ·obtain ⟨_,rfl,_⟩:=h
  rfl
 obtain ⟨z,rfl,hz,q0,q1⟩:=h;refine ⟨_,(ae (aI (ar dU aN (pv 0) (by with_unfolding_all rfl)) (af (au (bU DZ10 hr ((pv 0)<*>ad)))) az) (ae (bX 1 sc (bZ Gk PySem.F.slot_str_partition PySem.F.type_str_partition gN (pv 0) (aN<*>ad))) (ae (bX 2 sc (bU DZ10 hr ((ai bj (pv 1) ac (fun _ _=>rfl))<*>ad))) (ae (bX 3 sc (bU DZ10 hr ((ai bj (pv 1) ac (fun _ _=>rfl))<*>ad))) (ae (aI (PW.pt (dN (ar cP (pv 2) aR (aD _)) (dA (ar cP (pv 3) aR (aD _))))) (af (au aR)) az) (af (au (bU DZ4 hr ((pv 2)<*>((pv 3)<*>ad)))))))))),?_⟩
 try dsimp only[cxK]
 have noB:∀{n:Nat},n<10^30->Bd 400 (n:Int):=fun h=>(fZ h).mono (by decide)
 refine ⟨ν,aF _ _ ⟨rfl,rfl,ν,DP (fun e=>?_) (fun e=>?_)⟩⟩
 ·rw[fk,iD] at e;have e':=of_decide_eq_false e;have el:dB (sL z)=c8 (sL z):=if_neg e';rw[el] at q0 q1;refine ⟨ν,z,rfl,by lia,q0,fun n m p q ht m0 hn hm f=>?_⟩
  exact q1 n m p q ht f.to f.same m0 ((noB hn).of_le f.bt) ((noB hm).of_le f.bb)
 ·rw[fk,iD] at e;have e':=of_decide_eq_true e;obtain ⟨ec,_⟩:=rJ e';have el:dB (sL z)=mD (c8 (cH 43 (sL z)).1) (c8 (cH 43 (sL z)).2):=if_pos e';rw[el] at q0 q1;have lz:=dm z;have lc:=congrArg List.length ec;rw[FQ,G6] at lc;refine ⟨ν,rfl,aF z _ ⟨rfl,rfl,(by rw[fk,cD];decide),GP hz (by decide),fun t1 n1=>?_⟩⟩
  rw[fk,og,if_pos e'];have g1:=aj n1 (.tup [.str (bJ (cH 43 (sL z)).1),.str (bJ [43]),.str (bJ (cH 43 (sL z)).2)]);generalize (cH 43 (sL z)).1=a at*;generalize (cH 43 (sL z)).2=b at*;refine ⟨ν,aH _ _ _ _ ⟨rfl,rfl,(bi.of ah),rfl,ν,by rw[cD];lia,fun ht H2 g2=>?_,fun n m p q ht m0 hn hm f t2 H2 g2 e2=>?_⟩⟩
  ·rw[bB] at ht;have en:mD (c8 a) (c8 b)=none:=by unfold mD;rw[ht]
   have E2:H2 t1=some _:=g2 _ _ ah;refine ⟨ν,aH _ _ _ _ ⟨rfl,rfl,bi.of E2,rfl,ν,by rw[cD];lia,fun hb H3 g3=>?_,fun n m p q hb m0 hn hm f t3 H3 g3 e3=>?_⟩⟩
   ·exact ⟨ν,rfl,ν,dT rfl (q0 en _ (g1.trans (g2.trans g3)))⟩
   ·exact ⟨ν,rfl,ν,dT rfl (q0 en _ (g1.trans (g2.trans g3)))⟩
  ·rw[bB] at ht;have E2:H2 t1=some _:=g2 _ _ ah;refine ⟨ν,aH _ _ _ _ ⟨rfl,rfl,bi.of E2,rfl,ν,by rw[cD];lia,fun hb H3 g3=>?_,fun n' m' p' q' hb m0' hn' hm' f' t3 H3 g3 e3=>?_⟩⟩
   ·rw[bB] at hb;have en:mD (c8 a) (c8 b)=none:=by unfold mD;rw[ht,hb]
    exact ⟨ν,rfl,ν,dF (fun z=>nomatch z) ⟨ν,rfl,ν,dT rfl (q0 en _ (g1.trans (g2.trans g3)))⟩⟩
   ·rw[bB] at hb;have es:mD (c8 a) (c8 b)=some (n*m'+n'*m,m*m'):=by unfold mD;rw[ht,hb]
    have F1:cL K 100 H3 t2 p q:= .of f (fZ hn) (fZ hm) (g3 _ _ e2);have F2:cL K 100 H3 t3 p' q':= .of f' (fZ hn') (fZ hm') e3;refine ⟨ν,rfl,ν,dF (fun z=>nomatch z) ⟨ν,rfl,ν,dF (fun z=>nomatch z) ?_⟩⟩
    refine ⟨ν,ν,iM t2 t3 p q p' q' ⟨rfl,F1.mono (by decide),F2.mono (by decide),fun r s fr t4 H4 g4 e4=>?_⟩⟩
    have b1:Bd 201 (p*q'+p'*q):=(F1.bp.mul F2.bq).add (F2.bp.mul F1.bq);have b2:Bd 200 (q*q'):=F1.bq.mul F2.bq;refine q1 _ _ r s es fr.to ?_ (Nat.mul_ne_zero m0 m0') ((b1.of_le fr.bt).mono (by decide)) ((b2.of_le fr.bb).mono (by decide)) t4 H4 (g1.trans (g2.trans (g3.trans g4))) e4
    have sm:=vb f.same f'.same F1.pos F2.pos fr.same;rw[HF,Int.natCast_add,HF,HF];exact sm
theorem CL {dV:Value} (F:bh K "read_amount" "read_amount" AC dV f fd) (DZ9:Dx P w K mg base aV 2 "amount_text" ["amount"] [] (yQ K)) (DZ11:Dx P w K mg base aV 4 "loosely_read" ["text"] [] rP):aW P w K mg base (jr P w) 5 f fd ["text"] (qB Ia):=by
 have sc:aw ["text","amount"] ["text"] (ao AC):=cN (by decide+kernel)
 refine F.okX sc (fun vs H Q E h=>?_) (fun cdv A outer s H vs Q E hr h=>?_)
 ·obtain ⟨_,rfl,_⟩:=h
  rfl
 obtain ⟨z,rfl,hz,q0,q1⟩:=h;refine ⟨_,(ae (aI (cr (bE (aG (bz (K:=K) rfl) rfl B.HM boot_isinstance ((pv 0)<*>((bQ (v:= .ty "str") rfl B.IP boot_str rfl)<*>ad))))) (af (jw B.Jz rfl B.Jh rfl jt (aN<*>ad))) az) (ae (bX 1 sc (bU DZ11 hr ((pv 0)<*>ad))) (ae (aI (PW.pt (dN (ar cP (pv 1) aR (aD _)) (dA (ar gG (bU DZ9 hr ((pv 1)<*>ad)) (pv 0) (aD _))))) (af (jw B.Jz rfl B.Jh rfl jt (aN<*>ad))) az) (af (au (pv 1)))))),?_⟩;try dsimp only[cxK]
 refine ⟨ν,aH _ _ "str" true ⟨rfl,.str z,(by kernel_rfl),true,rfl,cU ?_⟩⟩
 refine ⟨ν,z,rfl,hz,fun hl H2 g2=>?_,fun n m p q hl lo sm m0 bp bq t2 H2 g2 e2=>?_⟩
 ·refine ⟨ν,rfl,ν,dT rfl ⟨by show 1<=sizeLine;decide,q1 (fun p q r=>?_) _ g2⟩⟩
  obtain ⟨n,m,e,_⟩:=r.ex;rw[hl] at e;cases e
 ·have p0:0<=p:=Int.nonneg_of_mul_nonneg_left (a:=p) (b:=(m:Int)) (by rw[sm];exact Int.mul_nonneg (Int.natCast_nonneg _) (HQ lo.pos)) (by lia)
  obtain ⟨P,rfl⟩:=Int.eq_ofNat_of_zero_le p0;obtain ⟨D,rfl⟩:=Int.eq_ofNat_of_zero_le (HQ lo.pos);have F1:cL K 1900 H2 t2 P D:=⟨bi.of e2,lo.pos,bp.mono (by decide),bq.mono (by decide)⟩
  have low:HC P D=1:=by
   have:=lo.low;show HC P D=1;have e:cg (P:Int) (D:Int)=((HC P D:Nat):Int):=rfl;rw[e] at this
   lia
  have D0:0<D:=by have:=lo.pos;lia
  have sm':P*m=n*D:=by
   have:((P*m:Nat):Int)=((n*D:Nat):Int):=by rw[HF,HF];exact sm
   lia
  refine ⟨ν,rfl,ν,dF (fun z=>nomatch z) ⟨ν,b5 t2 P D ⟨rfl,F1,ν,rfl,ν,vG (fun e=>?_) (fun e=>?_)⟩⟩⟩
  ·refine ⟨by show 1<=sizeLine;decide,q1 (fun p q r=>e ?_) _ g2⟩
   obtain ⟨n',m',el,sm2⟩:=r.ex;rw[hl] at el;cases el;have u:(P:Int)=p/\(D:Int)=q:=by
    refine jq lo ⟨by have:=r.pos;lia,by show ((HC p q:Nat):Int)=1;rw[r.low];rfl⟩ ?_
    have:P*q=p*D:=by
     refine Nat.eq_of_mul_eq_mul_right (Nat.pos_of_ne_zero m0) ?_;have h1:P*q*m=(P*m)*q:=by rw[Nat.mul_right_comm]
     have h2:p*D*m=(p*m)*D:=by rw[Nat.mul_right_comm]
     rw[h1,h2,sm',sm2,Nat.mul_right_comm]
    have h3:((P*q:Nat):Int)=((p*D:Nat):Int):=by rw[this]
    rw[HF,HF] at h3;exact h3
   have e1:P=p:=by have:=u.1;lia
   have e2':D=q:=by have:=u.2;lia
   rw[e1,e2',r.wr,vD]
  ·refine ⟨ν,q0 P D ⟨D0,low,(aF n m ⟨hl,sm'⟩),?_⟩ t2 H2 g2 e2⟩;rw[<-e,bB]
theorem CM {dV:Value} (F:bh K "is_name" "is_name" AD dV f fd):aW P w K mg base aV 1 f fd ["thing"] (oM K):=by
 have sc:aw ["thing","sign"] ["thing"] (ao AD):=cN (by decide+kernel)
 and_intros
 ·obtain ⟨_,rfl,_⟩:=h
  rfl
 obtain ⟨x,rfl,h⟩:=h;refine ⟨_,(ae (aI (PW.pt (dN (cr (bE (aG (bz (K:=K) rfl) rfl B.HM boot_isinstance ((pv 0)<*>((bQ (v:= .ty "str") rfl B.IP boot_str rfl)<*>ad))))) (dN (ar kD (aG dW rfl B.IS boot_len ((pv 0)<*>ad)) ac (aD _)) (dA (ar kE (aG dW rfl B.IS boot_len ((pv 0)<*>ad)) (eH rfl B.JB) (aD _)))))) (af (au cJ)) az) (ae (cv PassesOwn.never rfl (vx (pv 0)) (iS 1 sc) (af (aI (ar dU (pv 1) (nX rfl B.Kh) (by with_unfolding_all rfl)) (af (au cJ)) az))) (af (au cJ)))),?_⟩
 try dsimp only[cxK]
 rcases h with ⟨z,rfl,hz,q1,q0⟩|⟨ty,hty,hk,q⟩
 ·have hz':z.length<=sizeLine:=GP hz (by decide)
  have hl:=dm z;try dsimp only[bM,bY]
  refine cut (fun σ H'=>H=H'/\σ= [some (.str z),none]/\1<=z.length/\z.length<=12) (fun N hN=>?_) ?_
  ·refine ⟨ν,aH _ _ _ true ⟨rfl,.str _,rfl,ν,cU ⟨ν,z,rfl,hz',aF _ _ ⟨rfl,rfl,ν,d2 (fun c=>?_) (fun c1=>⟨ν,z,rfl,hz',aF _ _ ⟨rfl,rfl,ν,d2 (fun c=>?_) (fun c2=>?_)⟩⟩)⟩⟩⟩⟩
   ·exact q0 fun n=>by have:=n.1;lia
   ·exact q0 fun n=>by have:=n.2.1;lia
   ·exact hN _ _ ⟨rfl,rfl,by lia,by lia⟩
  rintro σ _ ⟨rfl,rfl,l1,l2⟩;refine ⟨ν,z,rfl,rE (fun i σ H2=>H=H2/\(∃o,σ= [some (.str z),o])/\∀j c,j<i->z.cps[j]?=some c->97<=c/\c<=122) ⟨rfl,⟨ν⟩,fun j c h=>absurd h (by lia)⟩ (fun i c σ H2 hc hP=>?_) (fun σ H2 hP=>?_)⟩
  ·obtain ⟨rfl,⟨o,rfl⟩,hP⟩:=hP;refine ⟨ν,aF _ _ ⟨rfl,rfl,ν,DP (fun e=>?_) (fun e=>?_)⟩⟩
   ·have e':=(r8 c).symm.trans e;refine q0 fun n=>?_
    have:=n.2.2 c (F9 (show (sL z)[i]?=some c by rw[<-hc];exact HA))
    rw[decide_eq_true this] at e';cases e'
   ·have e':=(r8 c).symm.trans e;refine ⟨rfl,⟨ν⟩,fun j c' hj hc'=>?_⟩
    rcases Nat.lt_succ_iff_lt_or_eq.mp hj with k|k
    ·exact hP j c' k hc'
    ·subst k;rw[hc] at hc';cases hc';exact of_decide_eq_true e'
  ·obtain ⟨rfl,⟨o,rfl⟩,hP⟩:=hP;refine q1 ⟨by lia,by lia,fun c hc=>?_⟩
   obtain ⟨i,hi⟩:=G4.mp hc;have hi':z.cps[i]?=some c:=by rw[<-hi];exact HA.symm
   exact hP i c (by have:=(Hj.mp hi').1;exact this) hi'
 ·exact ⟨ν,aH _ _ _ false ⟨rfl,hty,hk,ν,dh q⟩⟩
theorem CN {dV:Value} (F:bh K "words_of" "words_of" AE dV f fd):aW P w K mg base aV 1 f fd ["row"] rX:=by
 have sc:aw ["row","words"] ["row"] (ao AE):=cN (by decide+kernel)
 and_intros
 ·obtain ⟨_,rfl,_⟩:=h
  rfl
 obtain ⟨z,rfl,hz,q0,q1⟩:=h;have s4:(5000:Nat)<=sizeLine:=by decide
 refine ⟨_,(ae (bX 1 sc (bZ Gk PySem.F.slot_str_split PySem.F.type_str_split nY (pv 0) (aN<*>ad))) (ae (aI (ar eC aN (pv 1) (by with_unfolding_all rfl)) (af (au aR)) az) (af (au (pv 1))))),?_⟩
 try dsimp only[cxK]
 refine ⟨ν,rfl,aF z 32 ⟨rfl,rfl,by lia,fun p np=>?_⟩⟩
 have g1:=aj np (.lst ((Txt.split z (bJ [32])).map V.str));try dsimp only[bM,bY]
 refine ⟨ν,aF p _ ⟨rfl,.inl (aO.of ah),rfl,ll _,ν,BF (fun e=>q0 e _ g1) (fun e=>⟨ν,q1 e p _ g1 ah⟩)⟩⟩
theorem CO {dV:Value} (F:bh K "number_of" "number_of" AF dV f fd) (DZ0:Dx P w K mg base aV 1 "read_figures" ["word"] [] qA):aW P w K mg base aV 2 f fd ["word","low","high"] rY:=by
 have sc:aw ["word","low","high","number"] ["word","low","high"] (ao AF):=cN (by decide+kernel)
 and_intros
 ·obtain ⟨_,_,_,rfl,_⟩:=h
  rfl
 obtain ⟨z,lo,hi,rfl,hz,q0,q1⟩:=h;refine ⟨_,(ae (bX 3 sc (bU DZ0 hr ((pv 0)<*>ad))) (ae (aI (PW.pt (dN (ar cP (pv 3) aR (aD _)) (dN (ar kD (pv 3) (pv 1) (aD _)) (dA (ar kE (pv 3) (pv 2) (aD _)))))) (af (au aR)) az) (af (au (pv 3))))),?_⟩;try dsimp only[cxK]
 refine ⟨ν,z,rfl,hz,fun e=>⟨ν,rfl,ν,dT rfl (q0 e)⟩,fun n e=>⟨ν,rfl,ν,dF (fun z=>nomatch z) ?_⟩⟩
 have q:=q1 n e;refine ⟨ν,ν,aF _ _ ⟨rfl,rfl,ν,d2 (fun c=>?_) (fun c=>⟨ν,ν,aF _ _ ⟨rfl,rfl,ν,d2 (fun c2=>?_) (fun c2=>⟨ν,?_⟩)⟩⟩)⟩⟩
 ·rw[if_pos (.inl c)] at q;exact q
 ·rw[if_pos (.inr c2)] at q;exact q
 ·rw[if_neg (fun k=>k.elim c c2)] at q
  exact q
theorem CP {dV:Value} (F:bh K "amount_from" "amount_from" AG dV f fd) (XZ12:Dx P w K mg base (jr P w) 5 "read_amount" ["text"] [] (qB Ia)):aW P w K mg base aV 6 f fd ["word","least"] lE:=by
 have sc:aw ["word","least","amount"] ["word","least"] (ao AG):=cN (by decide+kernel)
 and_intros
 ·obtain ⟨_,rfl,_⟩:=h
  rfl
 obtain ⟨w,rfl,wl,q0,q1⟩:=h;refine ⟨_,(ae (vf rfl rfl (fun pins E=>(af (bX 2 sc (qr XZ12 hr (by decide) rfl jt ((pv 0)<*>ad))))) (Ce B.J6 rfl B.Jh (fun pins a=>(af (au aR))) vg)) (af (au (eD (ar B1 (ai bj (pv 2) ac (fun _ _=>rfl)) (pv 1) (aD _)) (pv 2) aR)))),?_⟩
 try dsimp only[cxK]
 have sl:sizeLine=16777216:=sizeLine_eq;refine cut (fun σ H'=>∃(t:Addr) (p q:Nat),σ= [some (.str w),some (.int 1),Li t]/\aA H H'/\H' t=some (.tup [.int p,.int q])/\Reads (sL w) p q) (fun N hN=>?_) ?_
 ·refine ⟨ν,w,rfl,by lia,fun p q rd t H1 g1 e1=>?_,fun no H1 g1=>?_⟩
  ·exact hN _ _ (b5 t p q ⟨rfl,g1,e1,rd⟩)
  ·intro a na;have ga:=aj na (qo a (.ref Ia) none);refine (aF Ia true ⟨rfl,B.Jo,dh ?_⟩);exact q0 (lC fun a h _=>no _ _ h) _ (g1.trans ga)
 rintro σ H1 ⟨t,p,q,rfl,g1,e1,rd⟩;refine ⟨ν,aH t _ _ _ ⟨rfl,rfl,bi.of e1,rfl,ν,aF _ _ ⟨rfl,rfl,ν,d2 (fun c=>⟨ν,q1 (p,q) (lA (a:=(p,q)) rd (by show 1<=p;lia)) t _ g1 e1⟩) fun c=>q0 (lC fun a h h1=>?_) _ g1⟩⟩⟩
 obtain ⟨e,_⟩:=iE h rd
 lia
theorem CQ {dV:Value} (F:bh K "value_of" "value_of" AH dV f fd) (DZ13:Dx P w K mg base aV 1 "is_name" ["thing"] [] (oM K)) (DZ15:Dx P w K mg base aV 2 "number_of" ["word","low","high"] [] rY) (DZ16:Dx P w K mg base aV 6 "amount_from" ["word","least"] [] lE):aW P w K mg base aV 7 f fd ["field","word"] lF:=by
 have sc:aw ["field","word","bounds"] ["field","word"] (ao AH):=cN (by decide+kernel)
 and_intros
 ·obtain ⟨_,_,rfl,_⟩:=h
  rfl
 obtain ⟨f,z,rfl,zl,fo,q0,q1⟩:=h;refine ⟨_,(ae (aI (ar bO (pv 0) aN (aD _)) (af (au (eD (bE (bU DZ13 hr ((pv 1)<*>ad))) (pv 1) aR))) az) (ae (aI (ar bO (pv 0) aN (aD _)) (af (au (bU DZ16 hr ((pv 1)<*>(ac<*>ad))))) az) (ae (aI (ar bO (pv 0) aN (aD _)) (af (au (bU DZ16 hr ((pv 1)<*>(ac<*>ad))))) az) (ae (bX 2 sc (oW (K:=K) (w:=w) rfl rfl (bG (v:=V.ref IO) rfl B.Kv rfl) (pv 0) (fun _ _=>rfl))) (af (au (bU DZ15 hr ((pv 1)<*>((ai bj (pv 2) ac (fun _ _=>rfl))<*>((ai bj (pv 2) ac (fun _ _=>rfl))<*>ad)))))))))),?_⟩
 try dsimp only[cxK]
 have sl:sizeLine=16777216:=sizeLine_eq;refine cut (fun σ H'=>σ= [some (.str f),some (.str z),none]/\H=H'/\f≠ "name") (fun N hN=>?_) ?_
 ·refine ⟨ν,rfl,ν,oP (fun e=>?_) fun e=>hN _ _ ⟨rfl,rfl,e⟩⟩
  have ef:bA f z=if BI z=true then some (.nm z) else none:=by unfold bA;rw[if_pos e]
  refine ⟨ν,ν,.inl ⟨z,rfl,by lia,fun nm=>⟨ν,dh ⟨ν,q1 (.nm z) ?_ _ _ (.refl _) rfl⟩⟩,fun nm=>⟨ν,cU (q0 ?_ _ (.refl _))⟩⟩⟩
  ·rw[ef,if_pos ((gU z).mpr nm)]
  ·rw[ef,if_neg fun k=>nm ((gU z).mp k)]
 rintro σ _ ⟨rfl,rfl,n1⟩;refine cut (fun σ H'=>σ= [some (.str f),some (.str z),none]/\H=H'/\f≠ "amount") (fun N hN=>?_) ?_
 ·refine ⟨ν,rfl,ν,oP (fun e=>?_) fun e=>hN _ _ ⟨rfl,rfl,e⟩⟩
  have ef:bA f z=(ph z).map .am:=by unfold bA;rw[if_neg n1,if_pos e]
  exact ⟨ν,z,rfl,zl,fun h H1 g1=>q0 (by rw[ef,h];rfl) H1 g1,fun a h t H1 g1 e1=>q1 (.am a) (by rw[ef,h];rfl) _ _ g1 ⟨t,rfl,trivial,e1⟩⟩
 rintro σ _ ⟨rfl,rfl,n2⟩;obtain ⟨n3,b,hb⟩:f≠ "stock" /\∃b,qH.lookup f=some b:=by
  rcases fo with e|e|⟨_,_,n3,hb⟩
  ·exact absurd e n1
  ·exact absurd e n2
  ·exact ⟨n3,hb⟩
 have ef:bA f z=(pi z b.1 b.2).map .num:=by unfold bA;rw[if_neg n1,if_neg n2,hb]
 refine cut (fun σ H'=>σ= [some (.str f),some (.str z),none]/\H=H') (fun N hN=>?_) ?_
 ·exact ⟨ν,rfl,ν,oP (fun e=>absurd e n3) fun e=>hN _ _ ⟨rfl,rfl⟩⟩
 rintro σ _ ⟨rfl,rfl⟩;refine ⟨ν,aH IO x6 f _ ⟨rfl,rfl,B.Kj,Ao,x9 hb,fun t tv=>?_⟩⟩
 have st:=fun H=>mS.sq tv H
 dsimp only[bM,bY];refine ⟨ν,ν,aH t _ _ _ ⟨rfl,rfl,st _,rfl,ν,aH t _ _ _ ⟨rfl,rfl,st _,rfl,b5 z _ _ ⟨rfl,by lia,fun e=>q0 ?_ _ (.refl _),fun n e=>?_⟩⟩⟩⟩
 ·rw[ef];unfold pi;rw[if_neg fun h=>?_]
  ·rfl
  ·have:=(jT _).mp h.1;rw[qx this] at e;cases e
 ·have ex:=jz e;have fg:xE (sL z):=by
   refine Classical.byContradiction fun nf=>?_
   rw[fW nf] at e;cases e
  have ev:PySem.NumText.digitsVal (sL z)=n:=by
   rw[qx fg] at e;exact GK e
  by_cases c:b.1<=n/\n<=b.2
  ·rw[if_neg (by lia)]
   refine q1 (.num n) ?_ _ _ (.refl _) rfl;rw[ef];unfold pi;rw[ev,if_pos ⟨(jT _).mpr fg,c⟩]
   rfl
  ·rw[if_pos (by lia)]
   refine q0 ?_ _ (.refl _);rw[ef];unfold pi;rw[ev,if_neg fun h=>c h.2]
   rfl
theorem CS {dV:Value} (F:bh K "values_by" "values_by" AI dV f fd) (DZ17:Dx P w K mg base aV 7 "value_of" ["field","word"] [] lF):aW P w K mg base aV 8 f fd ["fields","words"] (jW K):=by
 have sc:aw ["fields","words","values","field","word"] ["fields","words"] (ao AI):=cN (by decide+kernel)
 and_intros
 ·obtain ⟨_,_,_,_,_,rfl,_⟩:=h
  rfl
 refine ku h fun t l fs w _hi=>?_
 refine jQ _hi fun rest _hj=>?_
 refine im _hj fun _r1 tv el wb fo _hk=>?_
 refine sd _hk fun fl q0 q1=>?_
 clear h _hi _hj _hk;subst _r1;refine ⟨_,(ae (aI (ar gG (aG aZ rfl B.IS boot_len ((pv 1)<*>ad)) (ak bH ac (aG aZ rfl B.IS boot_len ((pv 0)<*>ad))) (aD _)) (af (au aR)) az) (ae (bX 2 sc (@bK _ _ _ _ ((ai aB (pv 1) ac (fun _ _=>rfl))<*>ad))) (ae (cv PassesOwn.never rfl (CA rfl B.KW ((pv 0)<*>((cG gI (pv 1) (cZ ac) cY)<*>ad))) (iq rfl (bL (iS 3 sc) (bL (iS 4 sc) eM))) (af (aT (bZ G0 FZ FY aS (pv 2) ((bU DZ17 hr ((pv 3)<*>((pv 4)<*>ad)))<*>ad))))) (af (au (eD (ar (x8 (Ca hr)) aR (pv 2) (by with_unfolding_all rfl)) aR (pv 2))))))),?_⟩
 try dsimp only[cxK]
 have sl:sizeLine=16777216:=sizeLine_eq;have st:=fun H=>mS.sq tv H
 refine cut (fun σ H'=>σ= [Li t,Li l,none,none,none]/\H=H'/\fs.length=rest.length) (fun N hN=>?_) ?_
 ·refine ⟨ν,aF l _ ⟨rfl,.inl (aO.of el),ν,aF t _ ⟨rfl,.inr (st _),?_⟩⟩⟩;refine (aF _ _ ⟨rfl,rfl,rfl,ν,?_⟩)
  by_cases e:fs.length=rest.length
  ·show if (!decide (V.int _=V.int _))=true then _ else _
   rw[if_neg (by rw[decide_eq_true (congrArg V.int (by simp[e];lia))];decide)]
   exact hN _ _ ⟨rfl,rfl,e⟩
  ·show if (!decide (V.int _=V.int _))=true then _ else _
   rw[if_pos (by rw[decide_eq_false fun z=>by have:=vj z;simp at this;lia];rfl)]
   exact q0 (lG e) _ (.refl _)
 rintro σ _ ⟨rfl,rfl,en⟩;refine ⟨ν,aH l _ _ _ ⟨rfl,rfl,aO.of el,(aC (j:=0) rfl),by show 1<=sizeLine;decide,fun vl nv=>?_⟩⟩
 have g1:=aj nv (.lst [.str w]);have e1:aL H vl (.lst [.str w]) vl=some (.lst [.str w]):=ah;generalize aL H vl (.lst [.str w])=H1 at g1 e1⊢;dsimp only[bM,bY];refine cut (fun σ H'=>∃o3 o4 xs,σ= [Li t,Li l,Li vl,o3,o4]/\aA H H'/\H' vl=some (.lst (.str w::xs))/\A2 (sB H') xs (fQ fs rest)) (fun N hN=>?_) ?_
 ·refine ⟨ν,ν,ν,aF l _ ⟨rfl,aO.of (g1 _ _ el),fun sl' nsl=>?_⟩⟩
  have ec:fG ((w::rest).map V.str) (some 1) none=rest.map V.str:=lq (c:=1);rw[ec];have g2:=g1.trans (aj nsl (.lst (rest.map V.str)));have e2:aL H1 sl' (.lst (rest.map V.str)) sl'=some (.lst (rest.map V.str)):=ah;have e12:=aj nsl (.lst (rest.map V.str)) _ _ e1;have ns:sl'≠vl:=fun z=>by rw[z,e1] at nsl;cases nsl
  generalize aL H1 sl' (.lst (rest.map V.str))=H2 at g2 e2 e12⊢;refine (aF t sl' ⟨rfl,⟨_,st _⟩,⟨_,aO.of e2⟩,Ak (xs:=fs.map V.str) (ys:=rest.map V.str) (fun i σ H'=>∃o3 o4 xs,σ= [Li t,Li l,Li vl,o3,o4]/\aA H H'/\H' sl'=some (.lst (rest.map V.str))/\H' vl=some (.lst (.str w::xs))/\A2 (sB H') xs ((fQ fs rest).take i)) (b5 none none [] ⟨rfl,g2,e2,e12,.nil⟩) (fun i σ H' _ ⟨_,_,_,_,_,e,_⟩=>⟨st _,aO.of e⟩) ?_ ?_⟩)
  ·rintro i y z σ H3 T hy hz ⟨o3,o4,xs,rfl,g3,e3,e4,r⟩ nT;rw[FP] at hy hz;obtain ⟨fd',hf,rfl⟩:=GS.mp hy;obtain ⟨wd,hw,rfl⟩:=GS.mp hz;refine (aF T _ ⟨rfl,bi.of ah,rfl,aF _ _ ⟨rfl,aF _ _ ⟨rfl,rfl,?_⟩⟩⟩);have gT:=aj nT (.tup [.str fd',.str wd]);generalize aL H3 T (.tup [.str fd',.str wd])=H4 at gT⊢;have il:(fQ fs rest)[i]?=some (bA fd' wd):=by
    unfold fQ;rw[FP,(List.getElem?_zip_eq_some (z:=(fd',wd))).mpr ⟨hf,hw⟩]
    rfl
   have fin:∀(x:V) (H5:Hp),aA H4 H5->sB H5 x (bA fd' wd)->∃o3 o4 xs',[some (V.ref t),some (V.ref l),some (V.ref vl),some (V.str fd'),some (V.str wd)]= [some (.ref t),some (.ref l),some (.ref vl),o3,o4]/\aA H (aL H5 vl (.lst (.str w::xs++ [x])))/\aL H5 vl (.lst (.str w::xs++ [x])) sl'=some (.lst (rest.map V.str))/\aL H5 vl (.lst (.str w::xs++ [x])) vl=some (.lst (.str w::xs'))/\A2 (sB (aL H5 vl (.lst (.str w::xs++ [x])))) xs' ((fQ fs rest).take (i+1)):=by
    intro x H5 g5 rx;have g45:=gT.trans g5;have e5:=g45 _ _ e4;refine (b5 _ _ (xs++ [x]) ⟨rfl,?_,?_,ah,?_⟩)
    ·intro a o ea;rw[av fun z=>by rw[z,nv] at ea;cases ea]
     exact g45 _ _ (g3 _ _ ea)
    ·rw[av ns];exact g45 _ _ e3
    ·rw[Gq,il];exact (r.imp fun _ _ q=>(q.same g45).upd e5).snoc (rx.upd e5)
   have xl:(V.str w::xs).length<sizeLine:=by
    rw[G6,r.1,GG];unfold fQ;rw[F6,List.length_zip]
    lia
   refine ⟨ν,.inl ⟨rfl,_,aO.of (gT _ _ e4)⟩,ν,ν,aF fd' wd ⟨rfl,wb.2 wd (FS _ (F9 hw)),fo fd' (F9 hf),fun z H5 g5=>?_,fun v z x H5 g5 rx=>?_⟩⟩
   ·exact (b5 vl _ _ ⟨rfl,rfl,g5 _ _ (gT _ _ e4),xl,fin .non H5 g5 (by rw[z];rfl)⟩)
   ·exact (b5 vl _ _ ⟨rfl,rfl,g5 _ _ (gT _ _ e4),xl,fin x H5 g5 (by rw[z];exact rx)⟩)
  ·rintro σ H3 ⟨o3,o4,xs,rfl,g3,e3,e4,r⟩;rw[Gp (by unfold fQ;simp[List.length_zip])] at r
   exact hN _ _ (b5 o3 o4 xs ⟨rfl,g3,e4,r⟩)
 rintro σ H2 ⟨o3,o4,xs,rfl,g2,e2,r⟩;have mx:∀v∈V.str w::xs,Mx K H2 v:=by
  intro v hv;rcases F8.mp hv with rfl|hv
  ·exact .inr (.inl ⟨ν⟩)
  ·obtain ⟨i,e⟩:=G4.mp hv;obtain ⟨o,_,q⟩:=r.at_ e;exact q.mx.1
 refine ⟨ν,aF vl _ ⟨rfl,rfl,aO.of e2,mx,ν,d2 (fun m=>?_) fun m=>?_⟩⟩
 ·have m':=(wm r).mp (by simpa using m)
  rcases gD en with ⟨_,z⟩|⟨us,_,o⟩
  ·exact q0 z _ g2
  ·rw[o] at m';simp at m'
 ·rcases gD en with ⟨z,_⟩|⟨us,z,o⟩
  ·exact absurd (FS _ ((wm r).mpr z)) m
  ·rw[o] at r;exact ⟨ν,q1 us z vl _ g2 nv ⟨xs,e2,CB r⟩⟩
theorem CT {dV:Value} (F:bh K "agree" "agree" AJ dV f fd):aW P w K mg base aV 1 f fd ["values"] sC:=by
 have sc:aw ["values"] ["values"] (ao AJ):=cN (by decide+kernel)
 and_intros
 ·obtain ⟨_,_,_,rfl,_⟩:=h
  rfl
 obtain ⟨l,w,us,rfl,⟨xs,el,r⟩,⟨v1,v2⟩,q⟩:=h;refine ⟨_,(ae (aI (PW.pt (dN (ar bO (ai aB (pv 0) ac (fun _ _=>rfl)) aN (aD _)) (dA (ar eC (ai aB (pv 0) ac (fun _ _=>rfl)) (bG (v:=V.ref Ie) rfl B.Js rfl) (by with_unfolding_all rfl))))) (af (au (dS yG (ai aB (pv 0) ac (fun _ _=>rfl)) (ai aB (pv 0) ac (fun _ _=>rfl)) (aD _)))) az) (ae (aI (ar eC (ai aB (pv 0) ac (fun _ _=>rfl)) (bG (v:=V.ref Ih) rfl B.JP rfl) (by with_unfolding_all rfl)) (af (au (dS gG (ai aB (pv 0) ac (fun _ _=>rfl)) (ai aB (pv 0) ac (fun _ _=>rfl)) (aD _)))) az) (af (au cJ)))),?_⟩
 try dsimp only[cxK]
 have sl:sizeLine=16777216:=sizeLine_eq;have le:∀N:Ends,N.rt=Q->(w= "or" ∨w= "cut" ∨w= "rest" ∨w= "warm")->BQ (zw (wV fun i j=>V.bl (decide (i<=j))) (zw (xg K) (wT 0) (tC (V.int 2))) (zw (xg K) (wT 0) (tC (V.int 3)))) N [some (.ref l)] H:=by
  rintro N en c;obtain ⟨n,lo,hi,r',rfl⟩:=v1 c;obtain ⟨ys,rfl⟩:=Ap r;have ea:cS w (.nm n:: .num lo:: .num hi::r')=decide ((lo:Int)<=hi):=by
   show (!(decide (w= "or" ∨w= "cut" ∨w= "rest" ∨w= "warm"))||decide (lo<=hi))=_;rw[decide_eq_true c];simp
  rw[ea] at q;refine ⟨ν,aH l _ _ _ ⟨rfl,rfl,aO.of el,(aC (j:=2) rfl),ν,aH l _ _ _ ⟨rfl,rfl,aO.of el,(aC (j:=3) rfl),aF _ _ ⟨rfl,rfl,?_⟩⟩⟩⟩;rw[en];exact q
 refine cut (fun σ H'=>σ= [Li l]/\H=H'/\¬(w= "or" ∨w= "cut" ∨w= "rest" ∨w= "warm")) (fun N hN=>?_) ?_
 ·refine ⟨ν,aH l _ _ _ ⟨rfl,rfl,aO.of el,(aC (j:=0) rfl),rfl,ν,oP (fun e=>dh (le _ rfl (.inl e))) fun e=>⟨ν,aH l _ _ _ ⟨rfl,rfl,aO.of el,(aC (j:=0) rfl),aF Ie _ ⟨rfl,.inr (B.Jp.sq _),rfl,ll _,ν,BF (gs:= ["cut","rest","warm"]) (fun m=>le _ rfl (.inr (by simpa using m))) fun m=>hN _ _ ⟨rfl,rfl,fun c=>?_⟩⟩⟩⟩⟩⟩
  rcases c with c|c
  ·exact e c
  ·exact m (by simpa using c)
 rintro σ _ ⟨rfl,rfl,n1⟩;refine cut (fun σ H'=>σ= [Li l]/\H=H'/\¬(w= "after" ∨w= "within" ∨w= "apart")) (fun N hN=>?_) ?_
 ·refine ⟨ν,aH l _ _ _ ⟨rfl,rfl,aO.of el,(aC (j:=0) rfl),aF Ih _ ⟨rfl,.inr (B.JE.sq _),rfl,ll _,ν,BF (gs:= ["after","within","apart"]) (fun m=>?_) fun m=>hN _ _ ⟨rfl,rfl,fun c=>m (by simpa using c)⟩⟩⟩⟩
  have c:w= "after" ∨w= "within" ∨w= "apart" :=by simpa using m
  obtain ⟨a,b,r',rfl⟩:=v2 c;obtain ⟨ys,rfl⟩:=CC r;have ea:cS w (.nm a:: .nm b::r')= !decide (V.str a=V.str b):=by
   show (!(decide (w= "after" ∨w= "within" ∨w= "apart"))||decide (a≠b))=_;rw[decide_eq_true c];simp
  rw[ea] at q;exact ⟨ν,aH l _ _ _ ⟨rfl,rfl,aO.of el,(aC (j:=1) rfl),ν,aH l _ _ _ ⟨rfl,rfl,aO.of el,(aC (j:=2) rfl),rfl,q⟩⟩⟩
 rintro σ _ ⟨rfl,rfl,n2⟩;have ea:cS w us=true:=by
  unfold cS
  split
  ·rw[decide_eq_false n1]
   rfl
  ·rw[decide_eq_false n2]
   rfl
  ·rfl
 rw[ea] at q;exact q
theorem CU {dV:Value} (F:bh K "values_of" "values_of" AK dV f fd) (DZ14:Dx P w K mg base aV 1 "words_of" ["row"] [] rX) (DZ18:Dx P w K mg base aV 8 "values_by" ["fields","words"] [] (jW K)) (DZ19:Dx P w K mg base aV 1 "agree" ["values"] [] sC):aW P w K mg base aV 9 f fd ["row"] jX:=by
 have sc:aw ["row","words","values"] ["row"] (ao AK):=cN (by decide+kernel)
 and_intros
 ·obtain ⟨_,rfl,_⟩:=h
  rfl
 obtain ⟨z,rfl,hz,qn,qs⟩:=h;refine ⟨_,(ae (bX 1 sc (bU DZ14 hr ((pv 0)<*>ad))) (ae (aI (PW.pt (dN (ar cP (pv 1) aR (aD _)) (dA (ar (oX (K:=K) (w:=w) rfl rfl) (ai aB (pv 1) ac (fun _ _=>rfl)) (bG (v:=V.ref IR) rfl B.Kb rfl) (by with_unfolding_all rfl))))) (af (au aR)) az) (ae (bX 2 sc (bU DZ18 hr ((oW (K:=K) (w:=w) rfl rfl (bG (v:=V.ref IR) rfl B.Kb rfl) (ai aB (pv 1) ac (fun _ _=>rfl)) (fun _ _=>rfl))<*>((pv 1)<*>ad)))) (ae (aI (PW.pt (dN (ar cP (pv 2) aR (aD _)) (dA (cr (bE (bU DZ19 hr ((pv 2)<*>ad))))))) (af (au aR)) az) (af (au (pv 2))))))),?_⟩
 try dsimp only[cxK]
 have sl:sizeLine=16777216:=sizeLine_eq;refine ⟨ν,z,rfl,by lia,fun e H1 g1=>?_,fun e p H1 g1 ep=>?_⟩
 ·exact ⟨ν,rfl,ν,dT rfl (qn (if_pos e) _ g1)⟩
 have wb:EG (Txt.split z nA):=xR (c:=32) (by lia)
 have nee:=om z 32;change H1 p=some (.lst ((Txt.split z nA).map V.str)) at ep;change Txt.split z nA≠ [] at nee;have er:mT z=match Txt.split z nA with
  | []=>none
  |w::rest=>match cI.lookup w with
   |none=>none
   |some fs=>match cO fs rest with
    |none=>none
    |some vs=>if cS w vs=true then some (w,vs) else none:=if_neg e
 rw[er] at qn qs;generalize Txt.split z nA=ws at ep wb nee qn qs;cases ws with
 |nil=>exact absurd rfl nee
 |cons w rest=>
 dsimp only at qn qs;try dsimp only[bM,bY]
 refine cut (fun σ H'=>σ= [some (.str z),Li p,none]/\H1=H'/\∃fs,cI.lookup w=some fs) (fun N hN=>?_) ?_
 ·refine ⟨ν,rfl,ν,dF (fun z=>nomatch z) ⟨ν,aH p _ _ _ ⟨rfl,rfl,aO.of ep,(aC (j:=0) rfl),b5 IR fP w ⟨rfl,rfl,B.J4,pk,ν,?_⟩⟩⟩⟩
  show if (!(fP.lookup w).isSome)=true then _ else _
  rw[pp];cases ef:cI.lookup w with
  |none=>
   rw[ef] at qn;exact qn rfl _ g1
  |some fs=>exact hN _ _ ⟨rfl,rfl,fs,ef⟩
 rintro σ _ ⟨rfl,rfl,fs,ef⟩;rw[ef] at qn qs;dsimp only at qn qs;obtain ⟨fo,fl⟩:=wk ef;refine ⟨ν,aH p _ _ _ ⟨rfl,rfl,aO.of ep,(aC (j:=0) rfl),aH IR fP w _ ⟨rfl,rfl,B.J4,pk,t9 ef,fun t tv=>⟨ν,aH t p fs w ⟨rest,⟨rfl,tv,ep,wb,fo,fl,fun h H2 g2=>?_,fun us h v H2 g2 nv lv=>?_⟩⟩⟩⟩⟩⟩
 ·exact ⟨ν,rfl,ν,dT rfl (qn (by rw[h]) _ (g1.trans g2))⟩
 rw[h] at qn qs;dsimp only at qn qs;try dsimp only[bM,bY]
 refine cut (fun σ H'=>σ= [some (.str z),Li p,Li v]/\H2=H'/\cS w us=true) (fun N hN=>?_) ?_
 ·refine ⟨ν,rfl,ν,dF (fun z=>nomatch z) ⟨ν,b5 v w us ⟨rfl,lv,uc ef h,?_⟩⟩⟩
  cases ea:cS w us with
  |false=>exact ⟨_,rfl,qn (if_neg (by rw[ea];decide)) _ (g1.trans g2)⟩
  |true=>exact ⟨_,rfl,hN _ _ ⟨rfl,rfl,ea⟩⟩
 rintro σ _ ⟨rfl,rfl,ea⟩;exact ⟨ν,qs w us (if_pos ea) v _ (g1.trans g2) (g1.free nv) lv⟩
theorem CV {dV:Value} (F:bh K "refuse_twice" "refuse_twice" AL dV f fd):aW P w K mg base aV 1 f fd ["name","told","at"] fD:=by
 have sc:aw ["name","told","at"] ["name","told","at"] (ao AL):=cN (by decide+kernel)
 and_intros
 ·obtain ⟨_,_,_,_,rfl,_⟩:=h
  rfl
 obtain ⟨z,l,ts,a,rfl,el,nz,q⟩:=h;refine ⟨_,(af (aI (ar eC (pv 0) (pv 1) (by with_unfolding_all rfl)) (af cT) az)),?_⟩
 try dsimp only[cxK]
 have sl:sizeLine=16777216:=sizeLine_eq;refine ⟨ν,ν,aF l _ ⟨rfl,.inl (aO.of el),rfl,ll _,ν,BF (gs:=ts) (fun m=>absurd m nz) fun _=>q⟩⟩
theorem CW {dV:Value} (F:bh K "refuse_full" "refuse_full" AM dV f fd):aW P w K mg base aV 1 f fd ["kept","most"] eY:=by
 have sc:aw ["kept","most"] ["kept","most"] (ao AM):=cN (by decide+kernel)
 and_intros
 ·obtain ⟨_,_,_,rfl,_⟩:=h
  rfl
 obtain ⟨l,xs,m,rfl,el,lt,q⟩:=h;refine ⟨_,(af (aI (ar bO (aG aZ rfl B.IS boot_len ((pv 0)<*>ad)) (pv 1) (aD _)) (af cT) az)),?_⟩;try dsimp only[cxK]
 have sl:sizeLine=16777216:=sizeLine_eq;refine ⟨ν,aF l _ ⟨rfl,.inl (aO.of el),ν,rfl,ν,uB (fun e=>absurd e (by lia)) fun _=>q⟩⟩
theorem CY {dV:Value} (F:bh K "place_of" "place_of" AN dV f fd):aW P w K mg base aV 1 f fd ["recipe","name","at"] (f8 Hy Go on mt):=by
 have sc:aw ["recipe","name","at","place","step"] ["recipe","name","at"] (ao AN):=cN (by decide+kernel)
 and_intros
 ·obtain ⟨_,_,_,_,_,_,_,_,rfl,_⟩:=h
  rfl
 refine tU h fun r z a n p M _hi=>?_
 refine zZ _hi fun i s _hj=>?_
 refine im _hj fun _r1 _r2 ml hi _r3 _hk=>?_
 refine iV _hk fun hj q=>?_
 clear h _hi _hj _hk;subst _r1;obtain ⟨lt,ls,lk,⟨dx,er⟩,⟨vt,et,rt⟩,⟨vs,es,rs⟩,⟨vk,ek,rk⟩⟩:=_r2;subst _r3;refine ⟨_,(ae (cv PassesOwn.never rfl (rD rfl B.Jn ((bI (pv 0) rfl)<*>ad)) (iq rfl (bL (iS 3 sc) (bL (iS 4 sc) eM))) (af (aI (ar bO (bI (pv 4) rfl) (pv 1) (aD _)) (af (au (pv 3))) az))) (af cT)),?_⟩;try dsimp only[cxK]
 have sl:sizeLine=16777216:=sizeLine_eq;have il:=(FR.mp hi).1;have ls12:=rs.1;refine cut (fun σ H'=>False) (fun N hN=>?_) ?_
 ·refine ⟨ν,aH r _ dx _ ⟨_,⟨rfl,er,B.Id,B.Ib,cQ.2.2.2.1,ls,rfl,⟨_,aO.of es⟩,nV (xs:=vs) (fun j σ H'=>∃o3 o4:Option V,σ= [Li r,some (.str s.n),some a,o3,o4]/\aA H H'/\j<=i) (aF none none ⟨rfl,.refl _,Gi _⟩) (fun i σ H' _ ⟨_,_,_,g,_⟩=>aO.of (g _ _ es)) ?_ ?_⟩⟩⟩
  ·rintro j y σ H1 T hy ⟨o3,o4,rfl,g1,ji⟩ nT;refine jQ (rs.at_ hy) fun x' _hi=>?_
   refine iV _hi fun hx _hj=>?_
   refine jQ _hj fun x _hk=>?_
   refine iV _hk fun _r1 _hl=>?_
   refine ku _hl fun C dx u sv _hm=>?_
   refine jQ _hm fun ff _hn=>?_
   refine BG _hn fun ex cl sf _=>?_
   clear _hi _hj _hk _hl _hm _hn;subst _r1;have sc0:jK K C:=by
    rcases cl with ⟨_,rfl⟩|⟨_,rfl⟩|⟨_,rfl⟩
    ·exact ⟨B.Ji,B.IF,B.ID,B.IG,B.Iy,B.Im⟩
    ·exact ⟨B.Jd,B.IB,B.Iv,B.IC,B.Ir,B.Ij⟩
    ·exact ⟨B.Jb,B.Iz,B.Iu,B.IA,B.Iq,B.Ii⟩
   have g2:=g1.trans (aj nT (.tup [.int (j:Int),.ref x]));refine (aF T _ ⟨rfl,bi.of ah,rfl,aF _ _ ⟨rfl,aF _ _ ⟨rfl,rfl,?_⟩⟩⟩);generalize aL H1 T (.tup [.int (j:Int),.ref x])=H2 at g2⊢;have ex2:=g2 _ _ ex;refine ⟨ν,aH x C dx ff ⟨_,⟨rfl,ex2,sc0.cl,sc0.name,sf.name,ν,rfl,ν,oP (fun e=>?_) fun e=>?_⟩⟩⟩
   ·have:j=i:=Classical.byContradiction fun n=>hj j x' (by lia) hx e
    subst this;exact ⟨ν,q _ g2⟩
   ·refine (aF _ _ ⟨rfl,g2,?_⟩);have:j≠i:=fun z=>by
     subst z;rw[hi] at hx;cases hx;exact e rfl
    lia
  ·rintro σ H1 ⟨_,_,_,_,ji⟩
   lia
 rintro σ _ z;exact z.elim
theorem CZ {dV:Value} (F:bh K "put_take" "put_take" AO dV f fd) (DZ21:Dx P w K mg base aV 1 "refuse_twice" ["name","told","at"] [] fD) (DZ22:Dx P w K mg base aV 1 "refuse_full" ["kept","most"] [] eY):aW P w K mg base aV 2 f fd ["recipe","at","values"] (lI Hy Go on mt):=by
 have sc:aw ["recipe","at","values"] ["recipe","at","values"] (ao AO):=cN (by decide+kernel)
 and_intros
 ·obtain ⟨_,_,_,_,_,_,_,_,_,_,_,_,_,rfl,_⟩:=h
  rfl
 refine mO h fun r l a G n p lt ls lk _hi=>?_
 refine ku _hi fun ks M g am _hj=>?_
 refine im _hj fun _r1 rm _r2 nt ml q=>?_
 clear h _hi _hj;subst _r1;obtain ⟨xs,el,rl⟩:=_r2;refine ⟨_,(ae (aT (bU DZ21 hr ((ai aB (pv 2) ac (fun _ _=>rfl))<*>((mw (own:= "take") (ys:= []) (js:= []) rfl (BD vo .nil (by decide) rfl rfl rfl rfl rfl rfl rfl rfl) (cX (bI (pv 0) rfl)) (fun C fp s H=>(ai (rZ (K:=K) rfl) (pv 0) ac (fun _ _=>rfl))))<*>((pv 1)<*>ad))))) (ae (aT (bU DZ22 hr ((bI (pv 0) rfl)<*>((eH rfl B.JT)<*>ad)))) (af (aT (bZ G0 FZ FY aS (bI (pv 0) rfl) ((@bN _ _ _ _ _ ((ai aB (pv 2) ac (fun _ _=>rfl))<*>((ai aB (pv 2) ac (fun _ _=>rfl))<*>ad)))<*>ad)))))),?_⟩
 try dsimp only[cxK]
 have sl:sizeLine=16777216:=sizeLine_eq;obtain ⟨x1,xs,rfl,e1,rl⟩:=aY rl;obtain ⟨x2,xs,rfl,⟨t2,rfl,_,et2⟩,rl⟩:=aY rl;cases e1;obtain ⟨dx,er⟩:=rm.er;obtain ⟨vt,et,rt⟩:=id rm.et;refine ⟨ν,aH l _ _ _ ⟨rfl,rfl,aO.of el,(aC (j:=1) rfl),ν,aH r _ dx _ ⟨_,⟨rfl,er,B.Id,B.IE,cQ.2.2.1,lt,rfl,⟨_,aO.of et⟩,vJ (xs:=vt) (fun x y=>∃(t:Addr) (z:Str),x= .ref t/\(∃b,H t=some (.tup [.str z,.ref b]))/\y= .str z) (aO.of et) (by have:=rt.1;lia) (fun x hx H3 g3 Q' hQ=>?_) (fun p1 ys H4 np hl ht g4 e4=>?_)⟩⟩⟩⟩
 ·obtain ⟨i,hi⟩:=G4.mp hx;obtain ⟨k,hk,t,b,rfl,_,_,et',eb⟩:=rt.at_ hi;exact ⟨ν,aH t _ _ _ ⟨rfl,rfl,bi.of (g3 _ _ et'),rfl,hQ _ _ (aF t k.1 ⟨rfl,⟨b,et'⟩,rfl⟩) (.refl _)⟩⟩
 have ey:ys=(M.takes.map fun k=>k.1).map V.str:=by
  refine HE fun i=>?_
  by_cases il:i<ys.length
  ·have iv:i<vt.length:=by lia
   obtain ⟨k,hk,t,b,ev,_,_,et',_⟩:=rt.at_ (F0 iv);obtain ⟨t',z,ev',⟨b',et''⟩,ez⟩:=ht i _ _ (F0 iv) (F0 il);rw[ev] at ev';cases ev';rw[et'] at et'';cases et'';rw[F0 il,ez,FP,FP,hk]
   rfl
  ·have:=rt.1;rw[List.getElem?_eq_none (by lia),List.getElem?_eq_none (by simp;lia)]
 subst ey;have tl:=rt.1;refine ⟨ν,aH g p1 _ a ⟨rfl,e4,(fun m=>?_),ν,aH r _ dx _ ⟨_,⟨rfl,(g4 _ _ er),B.Id,B.IE,cQ.2.2.1,b5 lt vt 12 ⟨rfl,g4 _ _ et,by lia,ν,aH r _ dx _ ⟨_,⟨rfl,(g4 _ _ er),B.Id,B.IE,cQ.2.2.1,.inl ⟨rfl,_,aO.of (g4 _ _ et)⟩,ν,l,_,ω,aO.of (g4 _ _ el),(aC (j:=1) rfl),ν,l,_,ω,aO.of (g4 _ _ el),(aC (j:=2) rfl),by show 2<=sizeLine;decide,fun t nt'=>?_⟩⟩⟩⟩⟩⟩⟩
 ·obtain ⟨x,hx,ex⟩:=GI.mp m;exact nt x hx ex
 have g5:=g4.trans (aj nt' (.tup [.str g,.ref t2]));have e5:aL H4 t (.tup [.str g,.ref t2]) t=some (.tup [.str g,.ref t2]):=ah;generalize aL H4 t (.tup [.str g,.ref t2])=H5 at g5 e5⊢;exact (b5 lt _ _ ⟨rfl,rfl,g5 _ _ et,by lia,q _ ((rm.same g5).take (g5 _ _ et) (aF t t2 ⟨rfl,trivial,trivial,e5,g5 _ _ et2⟩))⟩)
theorem C0 {dV:Value} (F:bh K "put_link" "put_link" AQ dV f fd) (DZ22:Dx P w K mg base aV 1 "refuse_full" ["kept","most"] [] eY) (DZ23:Dx P w K mg base aV 1 "place_of" ["recipe","name","at"] [] (f8 Hy Go on mt)):aW P w K mg base aV 2 f fd ["recipe","at","values"] (lJ Hy Go on mt):=by
 have sc:aw ["recipe","at","values","one","other","turns"] ["recipe","at","values"] (ao AQ):=cN (by decide+kernel)
 and_intros
 ·obtain ⟨_,_,_,_,_,_,_,_,_,_,_,_,_,_,_,_,_,rfl,_⟩:=h
  rfl
 refine mO h fun r l a G n p lt ls lk _hi=>?_
 refine tU _hi fun ks M w x y t _hj=>?_
 refine zZ _hj fun i j _hk=>?_
 refine BH _hk fun _r1 rm _r2 t0 sl1 _r3 _r4 ml q=>?_
 clear h _hi _hj _hk;subst _r1;obtain ⟨xs,el,rl⟩:=_r2;obtain ⟨⟨s1,hi,rfl⟩,mi⟩:=_r3;obtain ⟨⟨s2,hj,rfl⟩,mj⟩:=_r4;refine ⟨_,(ae (bX 3 sc (bU DZ23 hr ((pv 0)<*>((ai aB (pv 2) ac (fun _ _=>rfl))<*>((pv 1)<*>ad))))) (ae (bX 4 sc (bU DZ23 hr ((pv 0)<*>((ai aB (pv 2) ac (fun _ _=>rfl))<*>((pv 1)<*>ad))))) (ae (aT (bU DZ22 hr ((bI (pv 0) rfl)<*>((eH rfl B.JV)<*>ad)))) (ae (bX 5 sc (eD (ar bO (ai aB (pv 2) ac (fun _ _=>rfl)) aN (aD _)) (ai aB (pv 2) ac (fun _ _=>rfl)) ac)) (af (aT (bZ G0 FZ FY aS (bI (pv 0) rfl) ((@bN _ _ _ _ _ ((ai aB (pv 2) ac (fun _ _=>rfl))<*>((pv 3)<*>((pv 4)<*>((pv 5)<*>ad)))))<*>ad)))))))),?_⟩
 try dsimp only[cxK]
 have sl:sizeLine=16777216:=sizeLine_eq;obtain ⟨x1,xs,rfl,e1,rl1⟩:=aY rl;obtain ⟨x2,xs,rfl,e2,rl2⟩:=aY rl1;cases e1;cases e2;obtain ⟨dx,er⟩:=rm.er;obtain ⟨vk,ek,rk⟩:=id rm.ek;refine ⟨ν,ν,aH l _ _ _ ⟨rfl,rfl,aO.of el,(aC (j:=1) rfl),ν,iM r s1.n a n p M (aF i s1 ⟨rfl,rm.a,sl1,hi,rfl,mi,fun H1 g1=>?_⟩)⟩⟩
 refine ⟨ν,ν,aH l _ _ _ ⟨rfl,rfl,aO.of (g1 _ _ el),(aC (j:=2) rfl),ν,iM r s2.n a n p M (aF j s2 ⟨rfl,(rm.same g1).a,sl1,hj,rfl,mj,fun H2 g2=>?_⟩)⟩⟩
 have g12:=g1.trans g2;have kl:=rk.1;refine ⟨ν,aH r _ dx _ ⟨_,⟨rfl,(g12 _ _ er),B.Id,B.IQ,cQ.2.2.2.2,b5 lk vk 24 ⟨rfl,g12 _ _ ek,by lia,?_⟩⟩⟩⟩
 dsimp only;change L2.lW (tm _ _) _ _ [some (.ref r),some a,some (.ref l),some (vN i),some (vN j),none] _;refine cut (fun σ H'=>σ= [Li r,some a,Li l,some (vN i),some (vN j),some (vN t)]/\H2=H') (fun N hN=>?_) ?_
 ·refine ⟨ν,aH l _ _ _ ⟨rfl,rfl,aO.of (g12 _ _ el),(aC (j:=0) rfl),rfl,ν,oP (fun e=>?_) fun e=>?_⟩⟩
  ·change A2 _ xs (if w= "within" then [Fv.num t] else []) at rl2
   rw[if_pos e] at rl2;obtain ⟨x3,xs,rfl,e3,rl3⟩:=aY rl2;cases e3;exact ⟨ν,aH l _ _ _ ⟨rfl,rfl,aO.of (g12 _ _ el),(aC (j:=3) rfl),hN _ _ ⟨rfl,rfl⟩⟩⟩
  ·cases t0 e;exact hN _ _ ⟨rfl,rfl⟩
 rintro σ _ ⟨rfl,rfl⟩;refine ⟨ν,aH r _ dx _ ⟨_,⟨rfl,(g12 _ _ er),B.Id,B.IQ,cQ.2.2.2.2,.inl ⟨rfl,_,aO.of (g12 _ _ ek)⟩,ν,aH l _ _ _ ⟨rfl,rfl,aO.of (g12 _ _ el),(aC (j:=0) rfl),ν,ν,ν,by show 4<=sizeLine;decide,fun t' nt'=>?_⟩⟩⟩⟩
 have g5:=g12.trans (aj nt' (.tup [.str w,vN i,vN j,vN t]));have e5:aL H2 t' (.tup [.str w,vN i,vN j,vN t]) t'=some (.tup [.str w,vN i,vN j,vN t]):=ah;generalize aL H2 t' (.tup [.str w,vN i,vN j,vN t])=H5 at g5 e5⊢;exact (b5 lk _ _ ⟨rfl,rfl,g5 _ _ ek,by lia,q _ ((rm.same g5).link (g5 _ _ ek) ⟨t',rfl,trivial,e5⟩)⟩)
theorem C1 {dV:Value} (F:bh K "__init__" "Step.__init__" yB dV f fd):aW P w K mg base aV 1 f fd ["self","name","least","most","uses","second"] (gR K):=by
 have sc:aw ["self","name","least","most","uses","second"] ["self","name","least","most","uses","second"] (ao yB):=cN (by decide+kernel)
 and_intros
 ·obtain ⟨_,_,_,_,_,_,_,_,_,_,rfl,_⟩:=h
  rfl
 refine mO h fun a C dx nm l m uv sv us _hi=>?_
 refine jQ _hi fun c _hj=>?_
 refine im _hj fun _r1 e0 sc0 hu hs q=>?_
 clear h _hi _hj;subst _r1;refine ⟨_,(ae (dL (pv 0) (pv 1) rfl) (ae (dL (pv 0) (pv 2) rfl) (ae (dL (pv 0) (pv 3) rfl) (ae (dL (pv 0) (eD (ar cP (pv 4) aR (aD _)) (@bK _ _ _ _ ad) (a7 cB rfl B.Jj boot_list ((pv 4)<*>ad))) rfl) (af (dL (pv 0) (eD (ar cP (pv 5) aR (aD _)) aR (@bN _ _ _ _ _ ((ai bj (pv 5) ac (fun _ _=>rfl))<*>((ai bj (pv 5) ac (fun _ _=>rfl))<*>((a7 cB rfl B.Jj boot_list ((ai bj (pv 5) ac (fun _ _=>rfl))<*>ad))<*>ad))))) rfl)))))),?_⟩
 try dsimp only[cxK]
 refine ⟨ν,ν,aH a C dx _ ⟨rfl,e0,sc0.cl,sc0.name,by decide,?_⟩⟩
 refine ⟨ν,ν,aH a C dx _ ⟨rfl,ah,sc0.cl,sc0.least,(by have:=aU "name" (.str nm) [];simp at this;lia),?_⟩⟩
 refine ⟨ν,ν,aH a C dx _ ⟨rfl,ah,sc0.cl,sc0.most,(by have:=aU "name" (.str nm) [];have:=aU "least" (.int l) (aK "name" (.str nm) []);simp at*;lia),?_⟩⟩
 have k0:=(((Kept.refl H a).put (.ins C dx (aK "name" (.str nm) []))).put (.ins C dx (aK "least" (.int l) (aK "name" (.str nm) [])))).put (.ins C dx (aK "most" (.int m) (aK "least" (.int l) (aK "name" (.str nm) []))));have ea:(aL (aL (aL H a (.ins C dx (aK "name" (.str nm) []))) a (.ins C dx (aK "least" (.int l) (aK "name" (.str nm) [])))) a (.ins C dx (aK "most" (.int m) (aK "least" (.int l) (aK "name" (.str nm) []))))) a=some (.ins C dx (aK "most" (.int m) (aK "least" (.int l) (aK "name" (.str nm) [])))):=ah;have fr0:∀{b:Addr},(aL (aL (aL H a (.ins C dx (aK "name" (.str nm) []))) a (.ins C dx (aK "least" (.int l) (aK "name" (.str nm) [])))) a (.ins C dx (aK "most" (.int m) (aK "least" (.int l) (aK "name" (.str nm) []))))) b=none->H b=none:=fun {b} hb=>by
  have n:b≠a:=fun z=>by rw[z,ah] at hb;cases hb
  rw[av n,av n,av n] at hb;exact hb
 generalize aL (aL (aL H a (.ins C dx (aK "name" (.str nm) []))) a (.ins C dx (aK "least" (.int l) (aK "name" (.str nm) [])))) a (.ins C dx (aK "most" (.int m) (aK "least" (.int l) (aK "name" (.str nm) []))))=H1 at k0 ea fr0⊢;have l3:(aK "most" (.int m) (aK "least" (.int l) (aK "name" (.str nm) []))).length<=3:=by
  have h1:=aU "name" (.str nm) [];have h2:=aU "least" (.int l) (aK "name" (.str nm) []);have h3:=aU "most" (.int m) (aK "least" (.int l) (aK "name" (.str nm) []));simp at h1
  lia
 obtain ⟨f3,ef3⟩:∃f3,f3=aK "most" (.int m) (aK "least" (.int l) (aK "name" (.str nm) [])):=⟨_,rfl⟩;rw[<-ef3] at ea l3;have ne:∀{b:Addr} {zs:List V},H b=some (.lst zs)->b≠a:=fun hb z=>by subst z;rw[e0] at hb;cases hb
 have neT:∀{b:Addr} {zs:List V},H b=some (.tup zs)->b≠a:=fun hb z=>by subst z;rw[e0] at hb;cases hb
 try dsimp only[bM,bY]
 refine cut (fun σ H'=>Kept H H' a/\σ= [Li a,some (.str nm),some (.int l),some (.int m),some uv,some sv]/\∃u,u≠a/\H u=none/\H' u=some (.lst (us.map V.ref))/\H' a=some (.ins C dx (aK "uses" (.ref u) f3))/\∀b,H' b=none->H b=none) (fun N hN=>?_) ?_
 ·rcases hu with ⟨rfl,rfl⟩|⟨lu,rfl,eu⟩
  ·refine ⟨ν,rfl,ν,dT rfl ⟨by show 0<=sizeLine;decide,fun u nu=>?_⟩⟩
   have ua:u≠a:=fun z=>by rw[z,ea] at nu;cases nu
   refine ⟨ν,aH a C dx _ ⟨rfl,(by rw[av (Ne.symm ua)];exact ea),sc0.cl,sc0.uses,by lia,hN _ _ ⟨(k0.new nu _).put _,rfl,u,ua,fr0 nu,by rw[av ua];exact ah,ah,fun b hb=>?_⟩⟩⟩
   have n1:b≠a:=fun z=>by rw[z,ah] at hb;cases hb
   have n2:b≠u:=fun z=>by rw[z,av ua,ah] at hb;cases hb
   rw[av n1,av n2] at hb;exact fr0 hb
  ·refine ⟨ν,rfl,ν,dF (fun z=>nomatch z) ⟨ν,aF lu _ ⟨rfl,.inl (aO.of (k0 _ _ eu (ne eu))),fun u nu=>?_⟩⟩⟩
   have ua:u≠a:=fun z=>by rw[z,ea] at nu;cases nu
   refine ⟨ν,aH a C dx _ ⟨rfl,(by rw[av (Ne.symm ua)];exact ea),sc0.cl,sc0.uses,by lia,hN _ _ ⟨(k0.new nu _).put _,rfl,u,ua,fr0 nu,by rw[av ua];exact ah,ah,fun b hb=>?_⟩⟩⟩
   have n1:b≠a:=fun z=>by rw[z,ah] at hb;cases hb
   have n2:b≠u:=fun z=>by rw[z,av ua,ah] at hb;cases hb
   rw[av n1,av n2] at hb;exact fr0 hb
 rintro σ H2 ⟨k2,rfl,u,ua,nu,eu,ea2,fr2⟩;have l4:=aU "uses" (.ref u) f3
 match c,hs with
 |none,hs=>
  have hs':sv= .non:=hs;subst hs';refine ⟨ν,rfl,ν,dT rfl ⟨ν,aH a C dx _ ⟨rfl,ea2,sc0.cl,sc0.second,by lia,?_⟩⟩⟩
  exact q u .non _ (k2.put _) ua nu (by rw[av ua];exact eu) rfl (by rw[ah,ef3];rfl)
 |some (x,y,vs),hs=>
  obtain ⟨t,l2,rfl,et,el⟩:=hs;have et2:=k2 _ _ et (neT et);have el2:=k2 _ _ el (ne el);refine ⟨ν,rfl,ν,dF (fun z=>nomatch z) ?_⟩
  refine ⟨ν,aH _ _ _ _ ⟨rfl,rfl,bi.of et2,rfl,ν,aH _ _ _ _ ⟨rfl,rfl,bi.of et2,rfl,ν,aH _ _ _ _ ⟨rfl,rfl,bi.of et2,rfl,aF l2 _ ⟨rfl,.inl (aO.of el2),fun lc nc=>⟨by show 3<=sizeLine;decide,fun tc ntc=>?_⟩⟩⟩⟩⟩⟩
  have lca:lc≠a:=fun z=>by rw[z,ea2] at nc;cases nc
  have lcu:lc≠u:=fun z=>by rw[z,eu] at nc;cases nc
  have gc:=aj nc (.lst (vs.map V.ref));have gt:=aj ntc (.tup [.int x,.int y,.ref lc]);have tca:tc≠a:=fun z=>by rw[z,gc _ _ ea2] at ntc;cases ntc
  have tcu:tc≠u:=fun z=>by rw[z,gc _ _ eu] at ntc;cases ntc
  refine ⟨ν,aH a C dx _ ⟨rfl,gt _ _ (gc _ _ ea2),sc0.cl,sc0.second,by lia,?_⟩⟩
  refine q u (.ref tc) _ (((k2.new nc _).new ntc _).put _) ua nu (by rw[av ua];exact gt _ _ (gc _ _ eu)) (aF tc lc ⟨rfl,by rw[av tca];exact ah,by rw[av lca];exact gt _ _ ah,fr2 _ (gc.free ntc),fr2 _ nc⟩) (by rw[ah,ef3];rfl)
theorem C2 {dV:Value} (F:bh K "__init__" "Warm.__init__" yC dV f fd) (DZ26:kr P w K mg base aV 1 Ja ["self","name","least","most","uses","second"] [.non,.non] (gR K)):aW P w K mg base aV 2 f fd ["self","name","least","most","fill","uses","second"] (i8 K):=by
 have sc:aw ["self","name","least","most","fill","uses","second"] ["self","name","least","most","fill","uses","second"] (ao yC):=cN (by decide+kernel)
 and_intros
 ·obtain ⟨_,_,_,_,_,_,_,_,_,_,_,rfl,_⟩:=h
  rfl
 refine mO h fun a C dx nm l m fl uv sv _hi=>?_
 refine zZ _hi fun us c _hj=>?_
 refine im _hj fun _r1 e0 sc0 nf hu _hk=>?_
 refine iV _hk fun hs q=>?_
 clear h _hi _hj _hk;subst _r1;refine ⟨_,(ae (aT (Ci B.Jw DZ26 hr (by decide) rfl B.KS ((pv 0)<*>((pv 1)<*>((pv 2)<*>((pv 3)<*>((pv 5)<*>((pv 6)<*>ad)))))))) (af (dL (pv 0) (pv 4) rfl))),?_⟩
 try dsimp only[cxK]
 refine ⟨ν,ν,ν,ν,ν,ν,i9 a C dx nm l m uv sv us ⟨c,⟨rfl,e0,sc0,hu,hs,fun u s H1 k1 ua nu eu hs1 ea=>?_⟩⟩⟩
 refine ⟨ν,ν,aH a C dx _ ⟨rfl,ea,sc0.cl,nf,(by have:=f6 (nm:= .str nm) (l:= .int l) (m:= .int m) (u:= .ref u) (s:=s);lia),?_⟩⟩
 exact q u s _ (k1.put _) ua nu (by rw[av ua];exact eu) (hs1.self ea) ah
theorem C3 {dV:Value} (F:bh K "__init__" "Recipe.__init__" AR dV f fd):aW P w K mg base aV 1 f fd ["self","name","plates","takes","steps","links"] (qG K):=by
 have sc:aw ["self","name","plates","takes","steps","links"] ["self","name","plates","takes","steps","links"] (ao AR):=cN (by decide+kernel)
 and_intros
 ·obtain ⟨_,_,_,_,_,_,_,_,_,_,_,rfl,_⟩:=h
  rfl
 refine mO h fun a C dx lt ls lk nm p xt _hi=>?_
 refine zZ _hi fun xs xk _hj=>?_
 refine im _hj fun _r1 e0 sc0 et es _hk=>?_
 refine iV _hk fun ek q=>?_
 clear h _hi _hj _hk;subst _r1;refine ⟨_,(ae (dL (pv 0) (pv 1) rfl) (ae (dL (pv 0) (pv 2) rfl) (ae (dL (pv 0) (a7 cB rfl B.Jj boot_list ((pv 3)<*>ad)) rfl) (ae (dL (pv 0) (a7 cB rfl B.Jj boot_list ((pv 4)<*>ad)) rfl) (af (dL (pv 0) (a7 cB rfl B.Jj boot_list ((pv 5)<*>ad)) rfl)))))),?_⟩;try dsimp only[cxK]
 have ne:∀{b:Addr} {zs:List V},H b=some (.lst zs)->b≠a:=fun hb z=>by subst z;rw[e0] at hb;cases hb
 refine ⟨ν,ν,aH a C dx _ ⟨rfl,e0,sc0.cl,sc0.name,by decide,?_⟩⟩
 refine ⟨ν,ν,aH a C dx _ ⟨rfl,ah,sc0.cl,sc0.plates,(by have:=aU "name" nm [];simp at this;lia),?_⟩⟩
 have k0:=((Kept.refl H a).put (.ins C dx (aK "name" nm []))).put (.ins C dx (aK "plates" p (aK "name" nm [])));have ea:(aL (aL H a (.ins C dx (aK "name" nm []))) a (.ins C dx (aK "plates" p (aK "name" nm [])))) a=some (.ins C dx (aK "plates" p (aK "name" nm []))):=ah;have f0:∀b,(aL (aL H a (.ins C dx (aK "name" nm []))) a (.ins C dx (aK "plates" p (aK "name" nm [])))) b=none->H b=none:=fun b hb=>by
  have n1:b≠a:=fun z=>by rw[z,ah] at hb;cases hb
  rwa [av n1,av n1] at hb
 generalize aL (aL H a (.ins C dx (aK "name" nm []))) a (.ins C dx (aK "plates" p (aK "name" nm [])))=H1 at k0 ea f0⊢;have l2:(aK "plates" p (aK "name" nm [])).length<=2:=by
  have h1:=aU "name" nm [];have h2:=aU "plates" p (aK "name" nm []);simp at h1
  lia
 obtain ⟨f2,ef2⟩:∃f2,f2=aK "plates" p (aK "name" nm []):=⟨_,rfl⟩;rw[<-ef2] at ea l2;have et1:=k0 _ _ et (ne et);refine ⟨ν,aF lt xt ⟨rfl,.inl (aO.of et1),fun la na=>?_⟩⟩
 have laa:la≠a:=fun z=>by rw[z,ea] at na;cases na
 refine ⟨ν,aH a C dx _ ⟨rfl,(by rw[av (Ne.symm laa)];exact ea),sc0.cl,sc0.takes,by lia,?_⟩⟩
 have k1:=(k0.new na (.lst xt)).put (.ins C dx (aK "takes" (.ref la) f2));have ea1:(aL (aL H1 la (.lst xt)) a (.ins C dx (aK "takes" (.ref la) f2))) a=some (.ins C dx (aK "takes" (.ref la) f2)):=ah;have ela1:(aL (aL H1 la (.lst xt)) a (.ins C dx (aK "takes" (.ref la) f2))) la=some (.lst xt):=by rw[av laa];exact ah
 have f1:∀b,(aL (aL H1 la (.lst xt)) a (.ins C dx (aK "takes" (.ref la) f2))) b=none->H b=none:=fun b hb=>by
  have n1:b≠a:=fun z=>by rw[z,ah] at hb;cases hb
  have n2:b≠la:=fun z=>by rw[z,ela1] at hb;cases hb
  rw[av n1,av n2] at hb;exact f0 b hb
 generalize aL (aL H1 la (.lst xt)) a (.ins C dx (aK "takes" (.ref la) f2))=H2 at k1 ea1 ela1 f1⊢;have l3:=aU "takes" (.ref la) f2;obtain ⟨f3,ef3⟩:∃f3,f3=aK "takes" (.ref la) f2:=⟨_,rfl⟩;rw[<-ef3] at ea1 l3;have es1:=k1 _ _ es (ne es);refine ⟨ν,aF ls xs ⟨rfl,.inl (aO.of es1),fun lb nb=>?_⟩⟩
 have lba:lb≠a:=fun z=>by rw[z,ea1] at nb;cases nb
 have lbl:la≠lb:=fun z=>by rw[<-z,ela1] at nb;cases nb
 refine ⟨ν,aH a C dx _ ⟨rfl,(by rw[av (Ne.symm lba)];exact ea1),sc0.cl,sc0.steps,by lia,?_⟩⟩
 have k2:=(k1.new nb (.lst xs)).put (.ins C dx (aK "steps" (.ref lb) f3));have ea2:(aL (aL H2 lb (.lst xs)) a (.ins C dx (aK "steps" (.ref lb) f3))) a=some (.ins C dx (aK "steps" (.ref lb) f3)):=ah;have elb2:(aL (aL H2 lb (.lst xs)) a (.ins C dx (aK "steps" (.ref lb) f3))) lb=some (.lst xs):=by rw[av lba];exact ah
 have ela2:(aL (aL H2 lb (.lst xs)) a (.ins C dx (aK "steps" (.ref lb) f3))) la=some (.lst xt):=by rw[av laa,av lbl];exact ela1
 have f2':∀b,(aL (aL H2 lb (.lst xs)) a (.ins C dx (aK "steps" (.ref lb) f3))) b=none->H b=none:=fun b hb=>by
  have n1:b≠a:=fun z=>by rw[z,ah] at hb;cases hb
  have n2:b≠lb:=fun z=>by rw[z,elb2] at hb;cases hb
  rw[av n1,av n2] at hb;exact f1 b hb
 generalize aL (aL H2 lb (.lst xs)) a (.ins C dx (aK "steps" (.ref lb) f3))=H3 at k2 ea2 elb2 ela2 f2'⊢;have l4:=aU "steps" (.ref lb) f3;obtain ⟨f4,ef4⟩:∃f4,f4=aK "steps" (.ref lb) f3:=⟨_,rfl⟩;rw[<-ef4] at ea2 l4;have ek1:=k2 _ _ ek (ne ek);refine ⟨ν,aF lk xk ⟨rfl,.inl (aO.of ek1),fun lc nc=>?_⟩⟩
 have lca:lc≠a:=fun z=>by rw[z,ea2] at nc;cases nc
 have lcb:lb≠lc:=fun z=>by rw[<-z,elb2] at nc;cases nc
 have lcl:la≠lc:=fun z=>by rw[<-z,ela2] at nc;cases nc
 refine ⟨ν,aH a C dx _ ⟨rfl,(by rw[av (Ne.symm lca)];exact ea2),sc0.cl,sc0.links,by lia,?_⟩⟩
 refine q la lb lc _ laa lba lca (f0 _ na) (f1 _ nb) (f2' _ nc) (by simp[lbl,lcl,lcb]) ((k2.new nc (.lst xk)).put _) (by rw[av laa,av lcl];exact ela2) (by rw[av lba,av lcb];exact elb2) (by rw[av lca];exact ah) ?_
 rw[ah,ef4,ef3,ef2]
 rfl
theorem C4 {dV:Value} (F:bh K "grown_length" "grown_length" AS dV f fd) (DZ3:Dx P w K mg base aV 2 "fraction" ["top","bottom"] [.int 1] mn) (DZ5:Dx P w K mg base aV 3 "product" ["one","other"] [] (qh K)) (DZ7:Dx P w K mg base aV 1 "round_up" ["one"] [] (zC K)):aW P w K mg base aV 4 f fd ["length","factor"] (jO K):=by
 have sc:aw ["length","factor"] ["length","factor"] (ao AS):=cN (by decide+kernel)
 and_intros
 ·obtain ⟨_,_,_,_,rfl,_⟩:=h
  rfl
 obtain ⟨l,p,q,tf,rfl,ft,bl,k⟩:=h;refine ⟨_,(af (au (bU DZ7 hr ((bU DZ5 hr ((rC DZ3 hr (by decide) rfl ((pv 0)<*>ad))<*>((pv 1)<*>ad)))<*>ad)))),?_⟩
 try dsimp only[cxK]
 refine ⟨ν,aF l 1 ⟨rfl,by decide,Bd.one.mono (by decide),fun a b f t1 H1 g1 e1=>?_⟩⟩
 obtain ⟨rfl,rfl⟩:=oG f;have F1:cL K 210 H1 t1 a 1:=⟨bi.of e1,by decide,bl,Bd.one.mono (by decide)⟩
 have F2:=ft.same g1;refine ⟨ν,iM t1 tf a 1 p q ⟨rfl,F1.mono (by decide),F2.mono (by decide),fun r s F t2 H2 g2 e2=>?_⟩⟩
 have b1:Bd 420 (a*p):=F1.bp.mul F2.bp;have b2:Bd 420 (1*q):=F1.bq.mul F2.bq|>.mono (by decide)
 have F3:cL K 420 H2 t2 r s:= .of F b1 b2 e2;refine (b5 t2 r s ⟨rfl,F3.mono (by decide),k _ _ (g1.trans g2) ?_⟩)
 exact ⟨Cu F F2.pos,(rq (F3.bp.mono (by decide)).neg).neg⟩
theorem C5 {dV:Value} (F:bh K "span" "Step.span" AT dV f fd):aW P w K mg base aV 1 f fd ["self","least","most","factor"] (mM K false):=by
 have sc:aw ["self","least","most","factor"] ["self","least","most","factor"] (ao AT):=cN (by decide+kernel)
 and_intros
 ·obtain ⟨_,_,_,_,_,_,rfl,_⟩:=h
  rfl
 refine tU h fun x l m p q tf _hi=>?_
 refine BG _hi fun _r1 ft bl _hj=>?_
 refine iV _hj fun bm k=>?_
 clear h _hi _hj;subst _r1;refine ⟨_,(af (au (@bN _ _ _ _ _ ((pv 1)<*>((pv 2)<*>ad))))),?_⟩;try dsimp only[cxK]
 exact ⟨ν,ν,by show 2<=sizeLine;decide,fun t nt=>k t _ _ _ (aj nt _) ah rfl rfl⟩
theorem C6 {dV:Value} (F:bh K "span" "Cut.span" AU dV f fd) (DZ29:Dx P w K mg base aV 4 "grown_length" ["length","factor"] [] (jO K)):aW P w K mg base aV 5 f fd ["self","least","most","factor"] (mM K true):=by
 have sc:aw ["self","least","most","factor"] ["self","least","most","factor"] (ao AU):=cN (by decide+kernel)
 and_intros
 ·obtain ⟨_,_,_,_,_,_,rfl,_⟩:=h
  rfl
 refine tU h fun x l m p q tf _hi=>?_
 refine BG _hi fun _r1 ft bl _hj=>?_
 refine iV _hj fun bm k=>?_
 clear h _hi _hj;subst _r1;refine ⟨_,(af (au (@bN _ _ _ _ _ ((bU DZ29 hr ((pv 1)<*>((pv 3)<*>ad)))<*>((bU DZ29 hr ((pv 2)<*>((pv 3)<*>ad)))<*>ad))))),?_⟩;try dsimp only[cxK]
 refine ⟨ν,ν,aH l p q tf ⟨rfl,ft,bl,fun n H1 g1 gn=>?_⟩⟩
 refine ⟨ν,ν,aH m p q tf ⟨rfl,ft.same g1,bm,fun n2 H2 g2 gn2=>?_⟩⟩
 exact ⟨by show 2<=sizeLine;decide,fun t nt=>k t _ _ _ ((g1.trans g2).trans (aj nt _)) ah gn gn2⟩
theorem C7 {dV:Value} (F:bh K "grown_way" "Step.grown_way" AV dV f fd) (DZ30:kr P w K mg base aV 1 Jc ["self","least","most","factor"] [] (mM K false)) (DZ31:kr P w K mg base aV 5 Jf ["self","least","most","factor"] [] (mM K true)):aW P w K mg base aV 6 f fd ["self","least","most","uses","factor"] (vW K IU IV Jc Jf):=by
 have sc:aw ["self","least","most","uses","factor","lengths"] ["self","least","most","uses","factor"] (ao AV):=cN (by decide+kernel)
 and_intros
 ·obtain ⟨_,_,_,_,_,_,_,_,_,_,_,_,_,rfl,_⟩:=h
  rfl
 refine mO h fun x C dx lu tf l m p q _hi=>?_
 refine ku _hi fun us f ff ct _hj=>?_
 refine BH _hj fun _r1 ex ns sm ft bl bm eu _hk=>?_
 refine iV _hk fun ul k=>?_
 clear h _hi _hj _hk;subst _r1;refine ⟨_,(ae (bX 5 sc (kX (iz (pv 0) DZ30 hr (by decide) ((pv 1)<*>((pv 2)<*>((pv 4)<*>ad)))) (iz (pv 0) DZ31 hr (by decide) ((pv 1)<*>((pv 2)<*>((pv 4)<*>ad)))))) (af (au (@bN _ _ _ _ _ ((ai bj (pv 5) ac (fun _ _=>rfl))<*>((ai bj (pv 5) ac (fun _ _=>rfl))<*>((aG jG rfl B.J5 PyProof.Rows.Boot.«sorted» ((pv 3)<*>ad))<*>ad))))))),?_⟩
 try dsimp only[cxK]
 try dsimp only[bM,bY]
 refine cut (fun σ H'=>aA H H'/\∃(t:Addr) (n n2:Int),σ= [Li x,some (.int l),some (.int m),Li lu,Li tf,Li t]/\H' t=some (.tup [.int n,.int n2])/\xN ct l p q n/\xN ct m p q n2) (fun N hN=>?_) ?_
 ·cases ct with
  |false=>exact .inl ⟨_,rfl,aH x C dx ff ⟨rfl,ex,sm.c.cl,sm.span,ns,_,rfl,_,rfl,_,rfl,iM _ l m p q tf ⟨rfl,ft,bl,bm,fun t H1 n n2 g1 e1 gn gn2=>hN _ _ ⟨g1,b5 t n n2 ⟨rfl,e1,gn,gn2⟩⟩⟩⟩⟩
  |true=>exact .inr ⟨_,rfl,aH x C dx ff ⟨rfl,ex,sm.c.cl,sm.span,ns,_,rfl,_,rfl,_,rfl,iM _ l m p q tf ⟨rfl,ft,bl,bm,fun t H1 n n2 g1 e1 gn gn2=>hN _ _ ⟨g1,b5 t n n2 ⟨rfl,e1,gn,gn2⟩⟩⟩⟩⟩
 rintro σ H1 ⟨g1,t,n,n2,rfl,e1,gn,gn2⟩;refine ⟨ν,aH _ _ _ _ ⟨rfl,rfl,bi.of e1,rfl,ν,aH _ _ _ _ ⟨rfl,rfl,bi.of e1,rfl,ν,b5 lu us f ⟨rfl,g1 _ _ eu,(ul.same g1).tup,ul.nd,ul.sm,fun ls bs nl pr sr=>?_⟩⟩⟩⟩
 refine ⟨by show 3<=sizeLine;decide,fun t2 nt=>?_⟩
 exact k t2 _ ((g1.trans (aj nl _)).trans (aj nt _)) ⟨n,n2,ls,bs,ah,aj nt _ _ _ ah,gn,gn2,⟨pr,sr⟩,g1.free nl⟩
theorem C8 {dV:Value} (F:bh K "grown" "Step.grown" AW dV f fd) (DZ32:kr P w K mg base aV 6 IV ["self","least","most","uses","factor"] [] (vW K IU IV Jc Jf)):aW P w K mg base aV 7 f fd ["self","factor"] (oO K IU IV Jc Jf):=by
 have sc:aw ["self","factor","ways"] ["self","factor"] (ao AW):=cN (by decide+kernel)
 and_intros
 ·obtain ⟨_,_,_,_,_,_,_,_,_,_,_,_,rfl,_⟩:=h
  rfl
 refine mO h fun x C tf nm l m p q us _hi=>?_
 refine FH _hi fun c f ct _hj=>?_
 refine im _hj fun _r1 st sm ft hd k=>?_
 clear h _hi _hj;subst _r1;refine ⟨_,(ae (bX 2 sc (@bK _ _ _ _ ((iz (pv 0) DZ32 hr (by decide) ((bI (pv 0) rfl)<*>((bI (pv 0) rfl)<*>((bI (pv 0) rfl)<*>((pv 1)<*>ad)))))<*>ad))) (ae (aI (ar eN (bI (pv 0) rfl) aR (aD _)) (af (aT (bZ G0 FZ FY aS (pv 2) ((iz (pv 0) DZ32 hr (by decide) ((ai bj (bI (pv 0) rfl) ac (fun _ _=>rfl))<*>((ai bj (bI (pv 0) rfl) ac (fun _ _=>rfl))<*>((ai bj (bI (pv 0) rfl) ac (fun _ _=>rfl))<*>((pv 1)<*>ad)))))<*>ad)))) az) (af (au (pv 2))))),?_⟩
 try dsimp only[cxK]
 obtain ⟨dx,u,s,ff,ex,sf,eu,hs⟩:=st.ex;have FL:∀{H1:Hp},aA H H1->H1 x=some (.ins C dx ff):=fun g=>g _ _ ex
 have h0:=hd (l,m,us) (by cases c<;>simp[fv])
 refine ⟨ν,aH x C dx ff ⟨rfl,ex,sm.c.cl,sm.way,sf.way,ν,aH x C dx ff ⟨_,⟨rfl,ex,sm.c.cl,sm.c.least,sf.least,ν,aH x C dx ff ⟨_,⟨rfl,ex,sm.c.cl,sm.c.most,sf.most,ν,b5 x C dx ⟨ff,ν,ex,sm.c.cl,sm.c.uses,sf.uses,ν,x,C,dx,u,tf,l,m,p,q,us,f,ff,ct,rfl,ex,sf.span,sm,ft,h0.1,h0.2.1,eu,h0.2.2,fun t H1 g1 w1=>?_⟩⟩⟩⟩⟩⟩⟩
 refine ⟨by show 1<=sizeLine;decide,fun lw nl=>?_⟩
 have g2:=g1.trans (aj nl (.lst [.ref t]));have ex2:=FL g2;have w2:=w1.same (aj nl (.lst [.ref t]))
 match c,hs,hd,k with
 |none,hs,hd,k=>
  have hs':s= .non:=hs;subst hs';refine ⟨ν,aH x C dx ff ⟨_,⟨rfl,ex2,sm.c.cl,sm.c.second,sf.second,rfl,ν,nF rfl ⟨ν,k lw _ g2 ⟨[t],ah,rfl,g1.free nl,fun i t' d e1 e2=>?_,?_⟩⟩⟩⟩⟩
  ·match i,e1,e2 with
   |0,e1,e2=>cases e1;cases e2;exact w2
  obtain ⟨n1,k1,ls1,bs1,j1,j2,_⟩:=w1.ex;intro i j t' t'' n k n' k' ls ls' e1 e2 e3 e4
  match i,j,e1,e2 with
  |0,0,e1,e2=>
   cases e1;rw[aj nl _ _ _ j1] at e3;cases e3;exact ⟨aP j2 nl,fun z=>absurd rfl z⟩
 |some (l',m',us'),hs,hd,k=>
  obtain ⟨t2,l2,rfl,et,el⟩:=hs;have h1:=hd (l',m',us') (by simp[fv])
  have et2:=g2 _ _ et;have el2:=g2 _ _ el;have elw:aL H1 lw (.lst [.ref t]) lw=some (.lst [.ref t]):=ah;refine ⟨ν,aH x C dx ff ⟨_,⟨rfl,ex2,sm.c.cl,sm.c.second,sf.second,rfl,ν,nT (fun z=>nomatch z) ?_⟩⟩⟩
  refine ⟨ν,.inl ⟨rfl,_,aO.of elw⟩,ν,aH x C dx ff ⟨rfl,ex2,sm.c.cl,sm.way,sf.way,ν,aH x C dx ff ⟨_,⟨rfl,ex2,sm.c.cl,sm.c.second,sf.second,aH _ _ _ _ ⟨rfl,rfl,bi.of et2,rfl,ν,aH x C dx ff ⟨ν,ex2,sm.c.cl,sm.c.second,sf.second,_,_,ω,bi.of et2,rfl,ν,x,C,dx,ff,ν,ex2,sm.c.cl,sm.c.second,sf.second,_,_,ω,bi.of et2,rfl,ν,x,C,dx,l2,tf,l',m',p,q,us',f,ff,ct,rfl,ex2,sf.span,sm,ft.same g2,h1.1,h1.2.1,el2,h1.2.2.same g2,fun t3 H3 g3 w3=>?_⟩⟩⟩⟩⟩⟩
  refine (b5 lw _ _ ⟨rfl,rfl,g3 _ _ elw,(by show 1<sizeLine;decide),?_⟩)
  have g4:aA H (aL H3 lw (.lst ([.ref t]++ [.ref t3]))):=fH (g2.trans g3) (g1.free nl) _;refine ⟨ν,k lw _ g4 ⟨[t,t3],ah,rfl,g1.free nl,fun i t' d e1 e2=>?_,?_⟩⟩
  ·match i,e1,e2 with
   |0,e1,e2=>cases e1;cases e2;exact w1.putA nl ((aj nl _).trans g3)
   |1,e1,e2=>cases e1;cases e2;exact w3.putB elw (g3 _ _ elw) g2
  obtain ⟨n1,k1,ls1,bs1,j1,j2,_⟩:=w1.ex;obtain ⟨n3,k3,ls3,bs3,i1,i2,_,_,_,i6⟩:=w3.ex;have j1':=g3 _ _ (aj nl (.lst [.ref t]) _ _ j1);have p1:aL H3 lw (.lst ([.ref t]++ [.ref t3])) t=some (.tup [.int n1,.int k1,.ref ls1]):=by
   rw[av (fun z=>by rw[z,g3 _ _ elw] at j1';cases j1')]
   exact j1'
  have p3:aL H3 lw (.lst ([.ref t]++ [.ref t3])) t3=some (.tup [.int n3,.int k3,.ref ls3]):=by
   rw[av (fun z=>by rw[z,g3 _ _ elw] at i1;cases i1)]
   exact i1
  have d1:ls1≠lw:=aP j2 nl;have d3:ls3≠lw:=fun z=>by rw[z,elw] at i6;cases i6
  have d13:ls1≠ls3:=aP (aj nl (.lst [.ref t]) _ _ j2) i6;intro i j t' t'' n k n' k' ls ls' e1 e2 e3 e4
  match i,j,e1,e2 with
  |0,0,e1,e2=>cases e1;rw[p1] at e3;cases e3;exact ⟨d1,fun z=>absurd rfl z⟩
  |0,1,e1,e2=>cases e1;cases e2;rw[p1] at e3;cases e3;rw[p3] at e4;cases e4;exact ⟨d1,fun _=>d13⟩
  |1,0,e1,e2=>cases e1;cases e2;rw[p3] at e3;cases e3;rw[p1] at e4;cases e4;exact ⟨d3,fun _=>d13.symm⟩
  |1,1,e1,e2=>cases e1;rw[p3] at e3;cases e3;exact ⟨d3,fun z=>absurd rfl z⟩
theorem C9 {dV:Value} (F:bh K "rounds" "Step.rounds" AX dV f fd):aW P w K mg base aV 1 f fd ["self","factor","size"] jL:=by
 have sc:aw ["self","factor","size"] ["self","factor","size"] (ao AX):=cN (by decide+kernel)
 and_intros
 ·obtain ⟨_,_,_,rfl,_⟩:=h
  rfl
 obtain ⟨a,b,c,rfl,q⟩:=h;refine ⟨_,(af (au ac)),?_⟩;try dsimp only[cxK]
 exact q
theorem Da {dV:Value} (F:bh K "rounds" "Warm.rounds" AY dV f fd) (DZ5:Dx P w K mg base aV 3 "product" ["one","other"] [] (qh K)) (DZ6:Dx P w K mg base aV 3 "quotient" ["one","other"] [] (va K)) (DZ7:Dx P w K mg base aV 1 "round_up" ["one"] [] (zC K)):aW P w K mg base aV 4 f fd ["self","factor","size"] (oH K):=by
 have sc:aw ["self","factor","size"] ["self","factor","size"] (ao AY):=cN (by decide+kernel)
 and_intros
 ·obtain ⟨_,_,_,_,_,_,_,_,_,_,_,_,_,rfl,_⟩:=h
  rfl
 refine mO h fun a C dx t tf ts fs p q _hi=>?_
 refine ku _hi fun fp fq sp sq _hj=>?_
 refine BH _hj fun _r1 ea cl na lk f1 f2 f3 _hk=>?_
 refine iV _hk fun s0 k=>?_
 clear h _hi _hj _hk;subst _r1;refine ⟨_,(af (au (bU DZ7 hr ((bU DZ6 hr ((bU DZ5 hr ((bI (pv 0) rfl)<*>((pv 1)<*>ad)))<*>((pv 2)<*>ad)))<*>ad)))),?_⟩;try dsimp only[cxK]
 refine ⟨ν,aH a C dx fs ⟨_,⟨rfl,ea,cl,na,lk,ν,iM t tf p q fp fq ⟨rfl,f1.mono (by decide),f2.mono (by decide),fun r s F t1 H1 g1 e1=>?_⟩⟩⟩⟩
 have b1:Bd 402 (p*fp):=f1.bp.mul f2.bp;have b2:Bd 402 (q*fq):=f1.bq.mul f2.bq;have F1:cL K 402 H1 t1 r s:= .of F b1 b2 e1;have F3:=f3.same g1;refine ⟨ν,iM t1 ts r s sp sq ⟨rfl,F1.mono (by decide),F3.mono (by decide),by lia,fun u v F' t2 H2 g2 e2=>?_⟩⟩
 have c1:Bd 603 (r*sq):=F1.bp.mul F3.bq;have c2:Bd 603 (s*sp):=F1.bq.mul F3.bp;have F4:cL K 603 H2 t2 u v:= .of F' c1 c2 e2;exact (b5 t2 u v ⟨rfl,F4.mono (by decide),k _ _ (g1.trans g2) (zT f1.pos f2.pos s0 F F' (F4.bp.mono (by decide)))⟩)
theorem Db {dV:Value} (F:bh K "recipe_begun" "recipe_begun" AZ dV f fd) (DZ28:kr P w K mg base aV 1 Jt ["self","name","plates","takes","steps","links"] [] (qG K)):aW P w K mg base aV 3 f fd ["values"] (jZ Hy Go on mt):=by
 have sc:aw ["values"] ["values"] (ao AZ):=cN (by decide+kernel)
 and_intros
 ·obtain ⟨_,_,_,rfl,_⟩:=h
  rfl
 obtain ⟨l,n,p,rfl,⟨xs,el,rl⟩,q⟩:=h;refine ⟨_,(ae (aI (PW.pt (dN (ar cP (pv 0) aR (aD _)) (dA (ar gG (ai aB (pv 0) ac (fun _ _=>rfl)) aN (aD _))))) (af cT) az) (af (au (jy B.JI DZ28 hr (by decide) rfl B.JY ((ai aB (pv 0) ac (fun _ _=>rfl))<*>((ai aB (pv 0) ac (fun _ _=>rfl))<*>((@bK _ _ _ _ ad)<*>((@bK _ _ _ _ ad)<*>((@bK _ _ _ _ ad)<*>ad))))))))),?_⟩
 try dsimp only[cxK]
 have sl:sizeLine=16777216:=sizeLine_eq;obtain ⟨x1,xs,rfl,e1,rl⟩:=aY rl;obtain ⟨x2,xs,rfl,e2,rl⟩:=aY rl;cases e1;cases e2;refine cut (fun σ H'=>σ= [Li l]/\H=H') (fun N hN=>?_) ?_
 ·exact ⟨ν,rfl,ν,dF (fun z=>nomatch z) ⟨ν,aH l _ _ _ ⟨rfl,rfl,aO.of el,(aC (j:=0) rfl),rfl,ν,nF rfl (hN _ _ ⟨rfl,rfl⟩)⟩⟩⟩
 rintro σ _ ⟨rfl,rfl⟩;refine ⟨ν,aH l _ _ _ ⟨rfl,rfl,aO.of el,(aC (j:=1) rfl),ν,aH l _ _ _ ⟨rfl,rfl,aO.of el,(aC (j:=2) rfl),by show 0<=sizeLine;decide,fun b0 nb0=>⟨by show 0<=sizeLine;decide,fun b1 nb1=>⟨by show 0<=sizeLine;decide,fun b2 nb2=>fun rb dxb nr nd nrd=>?_⟩⟩⟩⟩⟩
 have k0:=aj nb0 (.lst []);have k1:=aj nb1 (.lst []);have k2:=aj nb2 (.lst []);have gm:=dH (C:=mt) nr nd;have gk:=(k0.trans k1).trans k2;refine (i9 rb _ dxb b0 b1 b2 (.str n) (vN p) [] (aF [] [] ⟨rfl,ah,⟨B.Id,B.Jk,B.Iw,B.IE,B.Ib,B.IQ⟩,gm _ _ (k2 _ _ (k1 _ _ ah)),gm _ _ (k2 _ _ ah),gm _ _ ah,fun t' s' u' H15 ta sa ua nt ns nu nd3 kp et7 es7 eu7 er=>⟨rfl,?_⟩⟩))
 have gg:=gk.trans gm;exact q rb t' s' u' _ (Au (gk.trans (df nr nd kp)) (gk.free nr) (gg.free nt) (gg.free ns) (gg.free nu) ta sa ua nd3 er et7 es7 eu7)
theorem Dc {dV:Value} (F:bh K "step_of" "step_of" A0 dV f fd) (DZ26:kr P w K mg base aV 1 Ja ["self","name","least","most","uses","second"] [.non,.non] (gR K)) (DZ27:kr P w K mg base aV 2 Jm ["self","name","least","most","fill","uses","second"] [.non,.non] (i8 K)):aW P w K mg base aV 4 f fd ["values"] (pq Hy Go on):=by
 have sc:aw ["values"] ["values"] (ao A0):=cN (by decide+kernel)
 and_intros
 ·obtain ⟨_,_,_,_,_,_,rfl,_⟩:=h
  rfl
 refine tU h fun l w n lo hi f _hi=>?_
 refine BG _hi fun _r1 _r2 wd _hj=>?_
 refine iV _hj fun fo q=>?_
 clear h _hi _hj;subst _r1;obtain ⟨xs,el,rl⟩:=_r2;refine ⟨_,(ae (aI (ar bO (ai aB (pv 0) ac (fun _ _=>rfl)) aN (aD _)) (af (au (mz B.Kk DZ26 hr (by decide) rfl B.KN ((ai aB (pv 0) ac (fun _ _=>rfl))<*>((ai aB (pv 0) ac (fun _ _=>rfl))<*>((ai aB (pv 0) ac (fun _ _=>rfl))<*>ad)))))) az) (ae (aI (ar bO (ai aB (pv 0) ac (fun _ _=>rfl)) aN (aD _)) (af (au (mz B.J9 DZ27 hr (by decide) rfl B.Kl ((ai aB (pv 0) ac (fun _ _=>rfl))<*>((ai aB (pv 0) ac (fun _ _=>rfl))<*>((ai aB (pv 0) ac (fun _ _=>rfl))<*>((ai aB (pv 0) ac (fun _ _=>rfl))<*>ad))))))) az) (af (au (mz B.Ka DZ26 hr (by decide) rfl B.Kn ((ai aB (pv 0) ac (fun _ _=>rfl))<*>((ai aB (pv 0) ac (fun _ _=>rfl))<*>((ai aB (pv 0) ac (fun _ _=>rfl))<*>ad)))))))),?_⟩
 try dsimp only[cxK]
 have sl:sizeLine=16777216:=sizeLine_eq;obtain ⟨x1,xs1,rfl,e1,rl1⟩:=aY rl;obtain ⟨x2,xs2,rfl,e2,rl2⟩:=aY rl1;obtain ⟨x3,xs3,rfl,e3,rl3⟩:=aY rl2;cases e1;cases e2;cases e3;have own2:∀{x u:Addr},H x=none->H u=none->∀a∈(So.mk x u none).own,H a=none:=fun h1 h2 a ha=>by
  simp only[So.own,Option.toList,F8,GF,or_false] at ha;rcases ha with rfl|rfl
  ·exact h1
  ·exact h2
 have own_nd:∀{x u:Addr},u≠x->(So.mk x u none).own.Nodup:=fun h=>by
  simp[So.own,h.symm]
 refine cut (fun σ H'=>σ= [Li l]/\H=H'/\w≠ "cut") (fun N hN=>?_) ?_
 ·refine ⟨ν,aH l _ _ _ ⟨rfl,rfl,aO.of el,(aC (j:=0) rfl),rfl,ν,oP (fun e=>?_) fun e=>hN _ _ ⟨rfl,rfl,e⟩⟩⟩
  subst e
  match f,fo with
  |some am,z=>exact absurd z.1 (by decide)
  |none,_=>
  refine ⟨ν,aH l _ _ _ ⟨rfl,rfl,aO.of el,(aC (j:=1) rfl),ν,aH l _ _ _ ⟨rfl,rfl,aO.of el,(aC (j:=2) rfl),ν,aH l _ _ _ ⟨rfl,rfl,aO.of el,(aC (j:=3) rfl),fun x dx nx nd nxd=>(i9 x _ dx _ _ _ .non .non [] ⟨none,⟨rfl,ah,⟨B.Ji,B.IF,B.ID,B.IG,B.Iy,B.Im⟩,.inl ⟨rfl,rfl⟩,rfl,fun u6 s6 H6 k6 ux nu eu hs6 ex=>⟨rfl,?_⟩⟩⟩)⟩⟩⟩⟩
  have gm:=dH (C:=Hy) nx nd;have g6:=df nx nd k6;have hs6:s6= .non:=hs6;subst hs6;exact q ⟨x,u6,none⟩ _ g6 (aH _ dx _ _ ⟨ex,.inl ⟨rfl,rfl⟩,fM,GP f6 (by decide),trivial,⟨[],eu,A2.nil⟩,rfl⟩) (own2 nx (gm.free nu)) (own_nd ux)
 rintro σ _ ⟨rfl,rfl,n1⟩;refine cut (fun σ H'=>σ= [Li l]/\H=H'/\w≠ "warm") (fun N hN=>?_) ?_
 ·refine ⟨ν,aH l _ _ _ ⟨rfl,rfl,aO.of el,(aC (j:=0) rfl),rfl,ν,oP (fun e=>?_) fun e=>hN _ _ ⟨rfl,rfl,e⟩⟩⟩
  subst e
  match f,fo,rl3,q with
  |none,z,_,_=>exact absurd rfl z
  |some am,_,rl3,q=>
  obtain ⟨x4,xs4,rfl,⟨tf,rfl,_,etf⟩,rl4⟩:=aY rl3;refine ⟨ν,aH l _ _ _ ⟨rfl,rfl,aO.of el,(aC (j:=1) rfl),ν,aH l _ _ _ ⟨rfl,rfl,aO.of el,(aC (j:=2) rfl),ν,aH l _ _ _ ⟨rfl,rfl,aO.of el,(aC (j:=3) rfl),ν,aH l _ _ _ ⟨rfl,rfl,aO.of el,(aC (j:=4) rfl),fun x dx nx nd nxd=>(i9 x _ dx _ _ _ _ .non .non (aF [] none ⟨rfl,ah,⟨B.Jb,B.Iz,B.Iu,B.IA,B.Iq,B.Ii⟩,B.Jg,.inl ⟨rfl,rfl⟩,rfl,fun u6 s6 H6 k6 ux nu eu hs6 ex=>⟨rfl,?_⟩⟩))⟩⟩⟩⟩⟩
  have gm:=dH (C:=on) nx nd;have g6:=df nx nd k6;have hs6:s6= .non:=hs6;subst hs6;exact q ⟨x,u6,none⟩ _ g6 (aH _ dx _ _ ⟨ex,.inr (.inr ⟨rfl,rfl⟩),oN,GP (aU "fill" (.ref tf) (gf (.str n) (vN lo) (vN hi) (.ref u6) .non)) (GP (Nat.succ_le_succ f6) (show 6<=10 by decide)),⟨tf,jJ,g6 _ _ etf⟩,⟨[],eu,A2.nil⟩,rfl⟩) (own2 nx (gm.free nu)) (own_nd ux)
 rintro σ _ ⟨rfl,rfl,n2⟩;have e:w= "rest" :=by
  rcases wd with e|e|e
  ·exact absurd e n1
  ·exact e
  ·exact absurd e n2
 subst e
 match f,fo with
 |some am,z=>exact absurd z.1 (by decide)
 |none,_=>
  refine ⟨ν,aH l _ _ _ ⟨rfl,rfl,aO.of el,(aC (j:=1) rfl),ν,aH l _ _ _ ⟨rfl,rfl,aO.of el,(aC (j:=2) rfl),ν,aH l _ _ _ ⟨rfl,rfl,aO.of el,(aC (j:=3) rfl),fun x dx nx nd nxd=>(i9 x _ dx _ _ _ .non .non [] ⟨none,⟨rfl,ah,⟨B.Jd,B.IB,B.Iv,B.IC,B.Ir,B.Ij⟩,.inl ⟨rfl,rfl⟩,rfl,fun u6 s6 H6 k6 ux nu eu hs6 ex=>⟨rfl,?_⟩⟩⟩)⟩⟩⟩⟩
  have gm:=dH (C:=Go) nx nd;have g6:=df nx nd k6;have hs6:s6= .non:=hs6;subst hs6;exact q ⟨x,u6,none⟩ _ g6 (aH _ dx _ _ ⟨ex,.inr (.inl ⟨rfl,rfl⟩),fM,GP f6 (by decide),trivial,⟨[],eu,A2.nil⟩,rfl⟩) (own2 nx (gm.free nu)) (own_nd ux)
theorem Dd {dV:Value} (F:bh K "put_step" "put_step" A1 dV f fd) (DZ21:Dx P w K mg base aV 1 "refuse_twice" ["name","told","at"] [] fD) (DZ22:Dx P w K mg base aV 1 "refuse_full" ["kept","most"] [] eY) (DZ37:Dx P w K mg base aV 4 "step_of" ["values"] [] (pq Hy Go on)):aW P w K mg base aV 5 f fd ["recipe","at","values"] (lK Hy Go on mt):=by
 have sc:aw ["recipe","at","values"] ["recipe","at","values"] (ao A1):=cN (by decide+kernel)
 and_intros
 ·obtain ⟨_,_,_,_,_,_,_,_,_,_,_,_,_,_,_,_,rfl,_⟩:=h
  rfl
 refine mO h fun r l a G n p lt ls lk _hi=>?_
 refine tU _hi fun ks M w z lo hi _hj=>?_
 refine jQ _hj fun f _hk=>?_
 refine im _hk fun _r1 rm lv wd fo _hl=>?_
 refine sd _hl fun nz ml q=>?_
 clear h _hi _hj _hk _hl;subst _r1;refine ⟨_,(ae (aT (bU DZ21 hr ((ai aB (pv 2) ac (fun _ _=>rfl))<*>((mw (own:= "step") (ys:= []) (js:= []) rfl (BD vo .nil (by decide) rfl rfl rfl rfl rfl rfl rfl rfl) (cX (bI (pv 0) rfl)) (fun C fp s H=>(xO (K:=K) rfl (pv 0) rfl)))<*>((pv 1)<*>ad))))) (ae (aT (bU DZ22 hr ((bI (pv 0) rfl)<*>((eH rfl B.JU)<*>ad)))) (af (aT (bZ G0 FZ FY aS (bI (pv 0) rfl) ((bU DZ37 hr ((pv 2)<*>ad))<*>ad)))))),?_⟩
 try dsimp only[cxK]
 have sl:sizeLine=16777216:=sizeLine_eq;have scOf:∀{w:Str} {C:Addr},jV Hy Go on w C->jK K C:=fun h=>by
  rcases h with ⟨_,rfl⟩|⟨_,rfl⟩|⟨_,rfl⟩
  ·exact ⟨B.Ji,B.IF,B.ID,B.IG,B.Iy,B.Im⟩
  ·exact ⟨B.Jd,B.IB,B.Iv,B.IC,B.Ir,B.Ij⟩
  ·exact ⟨B.Jb,B.Iz,B.Iu,B.IA,B.Iq,B.Ii⟩
 obtain ⟨xs,el,rl⟩:=id lv;obtain ⟨x1,xs1,rfl,e1,rl1⟩:=aY rl;cases e1;obtain ⟨dx,er⟩:=rm.er;have es:=rm.es;have kl:=rm.len;refine ⟨ν,aH l _ _ _ ⟨rfl,rfl,aO.of el,(aC (j:=1) rfl),ν,aH r _ dx _ ⟨_,⟨rfl,er,B.Id,B.Ib,cQ.2.2.2.1,ls,rfl,⟨_,aO.of es⟩,mL (vS V.str) (fun _=>False) (fun i=>Ac M.steps i) (aO.of es) (by rw[F6];lia) (fun a h=>h.elim) (fun i y hy H2 g Q' hQ=>?_) fun p1 H4 np g4 hp=>?_⟩⟩⟩⟩
 ·rw[FP] at hy;obtain ⟨k,hk,rfl⟩:=GS.mp hy;have il:i<M.steps.length:=by have:=bv hk;lia
  have hs:=F0 il;rw[tZ hs] at hQ;obtain ⟨C,dxk,sv,ff,ex,hC,sf,_⟩:=rm.ss i k _ hk hs;exact ⟨ν,aH k.x C dxk ff ⟨_,⟨rfl,g _ _ ex,(scOf hC).cl,(scOf hC).name,sf.name,hQ _ _ (.refl _) rfl⟩⟩⟩
 obtain ⟨vs,ep,rp⟩:=hp;have ey:vs=(M.steps.map fun s=>s.n).map V.str:=by
  have e:=map_getD (fun z:Str=>z) (M.steps.map fun s=>s.n) ""
  rw[F6,List.map_id'] at e;rw[rp.val,F6,kl];exact congrArg (List.map V.str) e
 subst ey;refine ⟨ν,aH z p1 _ a ⟨rfl,ep,(fun m=>?_),ν,aH r _ dx _ ⟨_,⟨rfl,(g4 _ _ er),B.Id,B.Ib,cQ.2.2.2.1,b5 ls _ 12 ⟨rfl,g4 _ _ es,by rw[F6];lia,ν,aH r _ dx _ ⟨_,⟨rfl,(g4 _ _ er),B.Id,B.Ib,cQ.2.2.2.1,.inl ⟨rfl,_,aO.of (g4 _ _ es)⟩,ν,l,w,z,lo,hi,f,rfl,lv.same g4,wd,fo,fun k H5 g5 sm nk ndk=>?_⟩⟩⟩⟩⟩⟩⟩
 ·obtain ⟨x,hx,ex⟩:=GI.mp m;exact nz x hx ex
 have g45:=g4.trans g5;exact (b5 ls _ _ ⟨rfl,rfl,g45 _ _ es,by rw[F6];lia,q k _ (rm.step g45 sm (fun a ha=>g4.free (nk a ha)) ndk)⟩)
theorem De {dV:Value} (F:bh K "put_second" "put_second" A5 dV f fd) (DZ23:Dx P w K mg base aV 1 "place_of" ["recipe","name","at"] [] (f8 Hy Go on mt)):aW P w K mg base aV 2 f fd ["recipe","at","values"] (iN Hy Go on mt):=by
 have sc:aw ["recipe","at","values","step"] ["recipe","at","values"] (ao A5):=cN (by decide+kernel)
 and_intros
 ·obtain ⟨_,_,_,_,_,_,_,_,_,_,_,_,_,_,_,_,rfl,_⟩:=h
  rfl
 refine mO h fun r l a G n p lt ls lk _hi=>?_
 refine tU _hi fun ks M z lo hi i _hj=>?_
 refine jQ _hj fun s _hk=>?_
 refine im _hk fun _r1 rm _r2 sl1 _r3 _hl=>?_
 refine sd _hl fun hi2 es0 q=>?_
 clear h _hi _hj _hk _hl;subst _r1;obtain ⟨xs,el,rl⟩:=_r2;obtain ⟨⟨s1,hi1,rfl⟩,mi⟩:=_r3;refine ⟨_,(ae (bX 3 sc (ai aB (bI (pv 0) rfl) (bU DZ23 hr ((pv 0)<*>((ai aB (pv 2) ac (fun _ _=>rfl))<*>((pv 1)<*>ad)))) (fun _ _=>rfl))) (ae (aI (ar eN (bI (pv 3) rfl) aR (aD _)) (af cT) az) (af (dL (pv 3) (@bN _ _ _ _ _ ((ai aB (pv 2) ac (fun _ _=>rfl))<*>((ai aB (pv 2) ac (fun _ _=>rfl))<*>((@bK _ _ _ _ ad)<*>ad)))) rfl)))),?_⟩
 try dsimp only[cxK]
 have sl:sizeLine=16777216:=sizeLine_eq;have scOf:∀{w:Str} {C:Addr},jV Hy Go on w C->jK K C:=fun h=>by
  rcases h with ⟨_,rfl⟩|⟨_,rfl⟩|⟨_,rfl⟩
  ·exact ⟨B.Ji,B.IF,B.ID,B.IG,B.Iy,B.Im⟩
  ·exact ⟨B.Jd,B.IB,B.Iv,B.IC,B.Ir,B.Ij⟩
  ·exact ⟨B.Jb,B.Iz,B.Iu,B.IA,B.Iq,B.Ii⟩
 have e9:=GK (hi1.symm.trans hi2);subst e9;obtain ⟨x1,xs1,rfl,e1,rl1⟩:=aY rl;obtain ⟨x2,xs2,rfl,e2,rl2⟩:=aY rl1;obtain ⟨x3,xs3,rfl,e3,rl3⟩:=aY rl2;cases e1;cases e2;cases e3;obtain ⟨dx,er⟩:=rm.er;have es:=rm.es;have kl:=rm.len;have il:=bv hi1;have hk:=F0 (l:=ks) (i:=i) (by lia)
 generalize ks[i]=k at hk;refine ⟨ν,aH r _ dx _ ⟨_,⟨rfl,er,B.Id,B.Ib,cQ.2.2.2.1,ν,ν,aH l _ _ _ ⟨rfl,rfl,aO.of el,(aC (j:=1) rfl),ν,iM r s1.n a n p M (aF i s1 ⟨rfl,rm.a,sl1,hi1,rfl,mi,fun H1 g1=>?_⟩)⟩⟩⟩⟩
 have rm1:=rm.same g1;have hkx:(ks.map fun k=>V.ref k.x)[i]?=some (.ref k.x):=by rw[FP,hk];rfl
 have sm:=rm1.ss i k s1 hk hi1;refine ku (id sm) fun C dxk sv ff _hi=>?_
 refine im _hi fun hx hC sf l10 hf _hj=>?_
 refine iV _hj fun hu hsv=>?_
 rw[es0] at hsv
 match kso:k.sec,hsv with
 |none,hsv=>
 have hsv:sv= .non:=hsv;subst hsv;refine (aH ls _ _ _ ⟨rfl,rfl,aO.of (g1 _ _ es),(aC hkx),?_⟩);dsimp only[bM,bY];refine cut (fun σ H'=>σ= [Li r,some a,Li l,Li k.x]/\H1=H') (fun N hN=>?_) ?_
 ·exact ⟨ν,aH k.x C dxk ff ⟨_,⟨rfl,hx,(scOf hC).cl,(scOf hC).second,sf.second,rfl,ν,nF rfl (hN _ _ ⟨rfl,rfl⟩)⟩⟩⟩
 rintro σ _ ⟨rfl,rfl⟩;refine ⟨ν,aH l _ _ _ ⟨rfl,rfl,aO.of (g1 _ _ el),(aC (j:=2) rfl),ν,aH l _ _ _ ⟨rfl,rfl,aO.of (g1 _ _ el),(aC (j:=3) rfl),by show 0<=sizeLine;decide,fun nl nnl=>⟨by show 3<=sizeLine;decide,fun nt nnt=>?_⟩⟩⟩⟩
 have g2:=aj nnl (.lst []);have g3:=aj nnt (.tup [vN lo,vN hi,.ref nl]);have g23:=g2.trans g3;have en:=g3 _ _ (ah (H:=H1) (a:=nl) (o:= .lst []));have et:=ah (H:=aL H1 nl (.lst [])) (a:=nt) (o:= .tup [vN lo,vN hi,.ref nl]);refine ⟨ν,aH k.x C dxk ff ⟨rfl,g23 _ _ hx,(scOf hC).cl,(scOf hC).second,by lia,?_⟩⟩
 have sm':=SM.second (cC:=Hy) (cR:=Go) (cW:=on) hx hC sf l10 hf hu g23 nnl en et;have nd':=rm1.own_nd (F9 hk);refine q _ _ (rm1.set hk hi1 (qN g23 (by simp[So.own])) sm' rfl (fun b hb=>?_) ?_)
 ·simp only[So.own,Option.toList,F8,GF,or_false] at hb;rcases hb with rfl|rfl|rfl
  ·exact .inl (by simp[So.own])
  ·exact .inl (by simp[So.own])
  ·exact .inr nnl
 ·simp only[So.own,GR,F8,not_or] at nd';have n1:k.x≠nl:=aP hx nnl;obtain ⟨vu,eu,_⟩:=hu;have n2:k.u≠nl:=aP eu nnl;simp[So.own,Option.toList,nd'.1.1,n1,n2]
theorem Df {dV:Value} (F:bh K "put_use" "put_use" A9 dV f fd) (DZ21:Dx P w K mg base aV 1 "refuse_twice" ["name","told","at"] [] fD) (DZ22:Dx P w K mg base aV 1 "refuse_full" ["kept","most"] [] eY) (DZ23:Dx P w K mg base aV 1 "place_of" ["recipe","name","at"] [] (f8 Hy Go on mt)):aW P w K mg base aV 2 f fd ["recipe","at","values"] (pw Hy Go on mt):=by
 have sc:aw ["recipe","at","values","step","uses"] ["recipe","at","values"] (ao A9):=cN (by decide+kernel)
 and_intros
 ·obtain ⟨_,_,_,_,_,_,_,_,_,_,_,_,_,_,_,_,_,rfl,_⟩:=h
  rfl
 refine mO h fun r l a G n p lt ls lk _hi=>?_
 refine tU _hi fun ks M o z u i _hj=>?_
 refine zZ _hj fun s us _hk=>?_
 refine BH _hk fun _r1 rm _r2 sl1 _r3 hi2 hus nz _hl=>?_
 refine iV _hl fun ul q=>?_
 clear h _hi _hj _hk _hl;subst _r1;obtain ⟨xs,el,rl⟩:=_r2;obtain ⟨⟨s1,hi1,rfl⟩,mi⟩:=_r3;refine ⟨_,(ae (bX 3 sc (ai aB (bI (pv 0) rfl) (bU DZ23 hr ((pv 0)<*>((ai aB (pv 2) ac (fun _ _=>rfl))<*>((pv 1)<*>ad)))) (fun _ _=>rfl))) (ae (bX 4 sc (bI (pv 3) rfl)) (ae (aI (ar bO (ai aB (pv 2) ac (fun _ _=>rfl)) aN (aD _)) (ae (aI (ar cP (bI (pv 3) rfl) aR (aD _)) (af cT) az) (af (bX 4 sc (ai bj (bI (pv 3) rfl) ac (fun _ _=>rfl))))) az) (ae (aT (bU DZ21 hr ((ai aB (pv 2) ac (fun _ _=>rfl))<*>((mw (own:= "use") (ys:= []) (js:= []) rfl (BD vo .nil (by decide) rfl rfl rfl rfl rfl rfl rfl rfl) (cX (pv 4)) (fun C fp s H=>(ai (rZ (K:=K) rfl) (pv 0) ac (fun _ _=>rfl))))<*>((pv 1)<*>ad))))) (ae (aT (bU DZ22 hr ((pv 4)<*>((eH rfl B.J3)<*>ad)))) (af (aT (bZ G0 FZ FY aS (pv 4) ((@bN _ _ _ _ _ ((ai aB (pv 2) ac (fun _ _=>rfl))<*>((ai aB (pv 2) ac (fun _ _=>rfl))<*>((ai aB (pv 2) ac (fun _ _=>rfl))<*>ad))))<*>ad))))))))),?_⟩
 try dsimp only[cxK]
 have sl:sizeLine=16777216:=sizeLine_eq;have scOf:∀{w:Str} {C:Addr},jV Hy Go on w C->jK K C:=fun h=>by
  rcases h with ⟨_,rfl⟩|⟨_,rfl⟩|⟨_,rfl⟩
  ·exact ⟨B.Ji,B.IF,B.ID,B.IG,B.Iy,B.Im⟩
  ·exact ⟨B.Jd,B.IB,B.Iv,B.IC,B.Ir,B.Ij⟩
  ·exact ⟨B.Jb,B.Iz,B.Iu,B.IA,B.Iq,B.Ii⟩
 have e9:=GK (hi1.symm.trans hi2);subst e9;obtain ⟨x1,xs1,rfl,e1,rl1⟩:=aY rl;obtain ⟨x2,xs2,rfl,e2,rl2⟩:=aY rl1;obtain ⟨x3,xs3,rfl,e3,rl3⟩:=aY rl2;obtain ⟨x4,xs4,rfl,e4,rl4⟩:=aY rl3;cases e1;cases e2;cases e3;cases e4;obtain ⟨dx,er⟩:=rm.er;have es:=rm.es;have kl:=rm.len;have il:=bv hi1;have hk:=F0 (l:=ks) (i:=i) (by lia)
 generalize ks[i]=k at hk;refine ⟨ν,aH r _ dx _ ⟨_,⟨rfl,er,B.Id,B.Ib,cQ.2.2.2.1,ν,ν,aH l _ _ _ ⟨rfl,rfl,aO.of el,(aC (j:=1) rfl),ν,iM r s1.n a n p M (aF i s1 ⟨rfl,rm.a,sl1,hi1,rfl,mi,fun H1 g1=>?_⟩)⟩⟩⟩⟩
 have rm1:=rm.same g1;have hkx:(ks.map fun k=>V.ref k.x)[i]?=some (.ref k.x):=by rw[FP,hk];rfl
 have sm:=rm1.ss i k s1 hk hi1;have ndk:=rm1.own_nd (F9 hk);refine ku (id sm) fun C dxk sv ff _hi=>?_
 refine im _hi fun hx hC sf l10 hf _hj=>?_
 refine iV _hj fun hu hsv=>?_
 refine (aH ls _ _ _ ⟨rfl,rfl,aO.of (g1 _ _ es),(aC hkx),ν,aH k.x C dxk ff ⟨_,⟨rfl,hx,(scOf hC).cl,(scOf hC).uses,sf.uses,?_⟩⟩⟩);dsimp only[bM,bY];have mkx:k.x∈k.own:=by simp[So.own]
 have mku:k.u∈k.own:=by simp[So.own]
 refine cut (fun σ H'=>∃ua,σ= [Li r,some a,Li l,Li k.x,Li ua]/\H1=H'/\Uz H1 ua us/\∀(H2:Hp) (t:Addr) (vs:List V),H1 ua=some (.lst vs)->aA H1 H2->H2 t=some (.tup (ja u))->Q .non (aL H2 ua (.lst (vs++ [.ref t])))) (fun N hN=>?_) ?_
 ·refine ⟨ν,aH l _ _ _ ⟨rfl,rfl,aO.of (g1 _ _ el),(aC (j:=0) rfl),rfl,ν,oP (fun e=>?_) fun e=>?_⟩⟩
  ·have ho:o=true:=by
    cases o with
    |true=>rfl
    |false=>exact absurd e (by decide)
   subst ho;rw[if_pos rfl] at hus;obtain ⟨lo,hi,hs1⟩:=hus
   match kso:k.sec,s1.sec,hs1,hsv with
   |some l2,_,rfl,hsv=>
   obtain ⟨t2,rfl,et2,hu2⟩:=hsv;refine ⟨ν,aH k.x C dxk ff ⟨_,⟨rfl,hx,(scOf hC).cl,(scOf hC).second,sf.second,rfl,ν,dF (fun z=>nomatch z) ⟨ν,aH k.x C dxk ff ⟨_,⟨rfl,hx,(scOf hC).cl,(scOf hC).second,sf.second,aH t2 _ _ _ ⟨rfl,rfl,bi.of et2,rfl,hN _ _ ⟨l2,rfl,rfl,hu2,fun H2 t vs ev g et=>?_⟩⟩⟩⟩⟩⟩⟩⟩
   have hs1':s1.sec=some (lo,hi,us):=by assumption
   exact q _ _ _ (by rw[if_pos rfl];exact (aF lo hi ⟨hs1',rfl⟩)) (rm1.set hk hi1 (qN g (by simp[So.own,kso])) (sm.orw ndk kso hs1' ev g et) rfl (fun b hb=> .inl hb) ndk)
  ·have ho:o=false:=by
    cases o with
    |false=>rfl
    |true=>exact absurd rfl e
   subst ho;have hus:s1.uses=us:=hus;subst hus;refine hN _ _ ⟨k.u,rfl,rfl,hu,fun H2 t vs ev g et=>?_⟩
   exact q _ _ _ rfl (rm1.set hk hi1 (qN g mku) (sm.use ndk ev g et) rfl (fun b hb=> .inl hb) ndk)
 rintro σ _ ⟨ua,rfl,rfl,⟨vs,ev,rv⟩,fin⟩;have vl:=rv.1;have el1:=g1 _ _ el;refine ⟨ν,aH l _ _ _ ⟨rfl,rfl,aO.of el1,(aC (j:=2) rfl),ν,ua,rfl,⟨_,aO.of ev⟩,mL (vS V.str) (fun _=>False) (fun i=>((us.map fun x=>x.1).getD i ("" :Str))) (aO.of ev) (by lia) (fun a h=>h.elim) (fun i y hy H2 g Q' hQ=>?_) fun p1 H4 np g4 hp=>?_⟩⟩
 ·obtain ⟨x,hx',t,rfl,_,et⟩:=rv.at_ hy;have e1:(us.map fun x=>x.1).getD i ("" :Str)=x.1:=by simp[List.getD,hx']
  rw[e1] at hQ;exact ⟨ν,aH t _ _ _ ⟨rfl,rfl,bi.of (g _ _ et),rfl,hQ _ _ (.refl _) rfl⟩⟩
 obtain ⟨ws,ep,rp⟩:=hp;have ey:ws=(us.map fun x=>x.1).map V.str:=by
  have e:=map_getD (fun z:Str=>z) (us.map fun x=>x.1) ""
  rw[F6,List.map_id'] at e;rw[rp.val,vl];exact congrArg (List.map V.str) e
 subst ey;refine ⟨ν,aH u.1 p1 _ a ⟨rfl,ep,(fun m=>?_),ν,b5 ua vs 12 ⟨rfl,g4 _ _ ev,by lia,ν,.inl ⟨rfl,_,aO.of (g4 _ _ ev)⟩,ν,aH l _ _ _ ⟨rfl,rfl,aO.of (g4 _ _ el1),(aC (j:=2) rfl),ν,aH l _ _ _ ⟨rfl,rfl,aO.of (g4 _ _ el1),(aC (j:=3) rfl),ν,l,_,ω,aO.of (g4 _ _ el1),(aC (j:=4) rfl),by show 3<=sizeLine;decide,fun t nt=>?_⟩⟩⟩⟩⟩
 ·obtain ⟨x,hx',ex⟩:=GI.mp m;exact nz x hx' ex
 have g5:=g4.trans (aj nt (.tup (ja u)));exact (b5 ua _ _ ⟨rfl,rfl,g5 _ _ ev,by lia,fin _ t vs ev g5 ah⟩)
theorem Dg {dV:Value} (F:bh K "put_row" "put_row" Ba dV f fd) (DZ24:Dx P w K mg base aV 2 "put_take" ["recipe","at","values"] [] (lI Hy Go on mt)) (DZ25:Dx P w K mg base aV 2 "put_link" ["recipe","at","values"] [] (lJ Hy Go on mt)) (DZ38:Dx P w K mg base aV 5 "put_step" ["recipe","at","values"] [] (lK Hy Go on mt)) (DZ39:Dx P w K mg base aV 2 "put_second" ["recipe","at","values"] [] (iN Hy Go on mt)) (DZ40:Dx P w K mg base aV 2 "put_use" ["recipe","at","values"] [] (pw Hy Go on mt)):aW P w K mg base aV 6 f fd ["recipe","at","values"] (pA Hy Go on mt):=by
 have sc:aw ["recipe","at","values"] ["recipe","at","values"] (ao Ba):=cN (by decide+kernel)
 and_intros
 ·obtain ⟨_,_,_,_,_,_,_,_,_,_,_,_,_,rfl,_⟩:=h
  rfl
 refine mO h fun r l a G n p lt ls lk _hi=>?_
 refine ku _hi fun ks M M' rr _hj=>?_
 refine im _hj fun _r1 rm lv ro bd _hk=>?_
 refine iV _hk fun hp q=>?_
 clear h _hi _hj _hk;subst _r1;refine ⟨_,(af (aI (ar bO (ai aB (pv 2) ac (fun _ _=>rfl)) aN (aD _)) (af (aT (bU DZ24 hr ((pv 0)<*>((pv 1)<*>((pv 2)<*>ad)))))) (af (aI (ar eC (ai aB (pv 2) ac (fun _ _=>rfl)) (bG (v:=V.ref Ie) rfl B.Js rfl) (by with_unfolding_all rfl)) (af (aT (bU DZ38 hr ((pv 0)<*>((pv 1)<*>((pv 2)<*>ad)))))) (af (aI (ar bO (ai aB (pv 2) ac (fun _ _=>rfl)) aN (aD _)) (af (aT (bU DZ39 hr ((pv 0)<*>((pv 1)<*>((pv 2)<*>ad)))))) (af (aI (ar eC (ai aB (pv 2) ac (fun _ _=>rfl)) (bG (v:=V.ref Io) rfl B.JX rfl) (by with_unfolding_all rfl)) (af (aT (bU DZ40 hr ((pv 0)<*>((pv 1)<*>((pv 2)<*>ad)))))) (af (aT (bU DZ25 hr ((pv 0)<*>((pv 1)<*>((pv 2)<*>ad)))))))))))))),?_⟩
 try dsimp only[cxK]
 have sl:sizeLine=16777216:=sizeLine_eq;have ml:=bd.s;have tl:=bd.t;have k24:=bd.k;obtain ⟨xs,el,rl⟩:=id lv;refine ⟨_,rfl,aH l _ _ _ ⟨rfl,rfl,aO.of el,(aC (j:=0) rfl),rfl,_,rfl,oP (fun e=>?_) fun n1=>⟨_,rfl,aH l _ _ _ ⟨rfl,rfl,aO.of el,(aC (j:=0) rfl),aF Ie _ ⟨rfl,.inr (B.Jp.sq _),rfl,ll _,_,rfl,BF (gs:= ["cut","rest","warm"]) (fun e=>?_) fun n2=>⟨_,rfl,aH l _ _ _ ⟨rfl,rfl,aO.of el,(aC (j:=0) rfl),rfl,_,rfl,oP (fun e=>?_) fun n3=>⟨_,rfl,aH l _ _ _ ⟨rfl,rfl,aO.of el,(aC (j:=0) rfl),aF Io _ ⟨rfl,.inr (B.JK.sq _),rfl,ll _,_,rfl,BF (gs:= ["with","orwith"]) (fun e=>?_) fun n4=>?_⟩⟩⟩⟩⟩⟩⟩⟩⟩⟩
 ·obtain ⟨g,am,rfl⟩:=yc ro e;obtain ⟨h1,h2,rfl⟩:=hG hp;exact ⟨ν,ν,ν,i9 r l a G n p lt ls lk (aH ks M g am ⟨rfl,rm,lv,h1,by lia,fun H' rm'=>q ks _ rm'⟩)⟩
 ·obtain ⟨w,z,lo,hi,f,rfl⟩:=yd ro e;obtain ⟨h1,h2,rfl⟩:=hJ hp;exact ⟨ν,ν,ν,i9 r l a G n p lt ls lk (iM ks M w z lo hi ⟨f,⟨rfl,rm,lv,ro.1,ro.2.2.2,h1,by lia,fun k H' rm'=>q _ _ rm'⟩⟩)⟩
 ·obtain ⟨z,lo,hi,rfl⟩:=Av ro e;obtain ⟨i,s,h1,h2,h3,rfl⟩:=iO hp;exact ⟨ν,ν,ν,i9 r l a G n p lt ls lk (iM ks M z lo hi i ⟨s,⟨rfl,rm,lv,by lia,h1,h2,h3,fun ks' H' rm'=>q _ _ rm'⟩⟩)⟩
 ·obtain ⟨o,z,u,rfl⟩:=Aw ro e;cases o with
  |false=>
   obtain ⟨i,s,h1,h2,h3,h4,rfl⟩:=iP hp;refine ⟨ν,ν,ν,i9 r l a G n p lt ls lk (iM ks M false z u i (aF s s.uses ⟨rfl,rm,lv,by lia,h1,h2,rfl,h3,(by have:=(bd.us s (F9 h2)).1;lia),fun ks' s' H' e' rm'=>?_⟩))⟩
   have e':s'=_:=e';subst e';exact q _ _ rm'
  |true=>
   refine ku (iQ hp) fun i s lo hi _hi=>?_
   refine jQ _hi fun us _hj=>?_
   refine im _hj fun h1 h2 h3 h4 h5 _r1=>?_
   clear _hi _hj;subst _r1;refine ⟨ν,ν,ν,i9 r l a G n p lt ls lk (iM ks M true z u i (aF s us ⟨rfl,rm,lv,by lia,h1,h2,(aF lo hi h3),h4,(by have:=(bd.us s (F9 h2)).2 _ h3;dsimp only at this;lia),fun ks' s' H' e' rm'=>?_⟩))⟩
   obtain ⟨lo',hi',e1,rfl⟩:=e';rw[h3] at e1;cases e1;exact q _ _ rm'
 ·obtain ⟨w,x,y,t,rfl⟩:=ye ro n1 n2 n3 n4;obtain ⟨i,j,h1,h2,h3,rfl⟩:=hU hp;exact ⟨ν,ν,ν,i9 r l a G n p lt ls lk (iM ks M w x y t (aF i j ⟨rfl,rm,lv,ro.2.2.2.2.2,by lia,h1,h2,by lia,fun H' rm'=>q _ _ rm'⟩))⟩
theorem Dh {dV:Value} (F:bh K "read_recipe" "read_recipe" Bb dV f fd) (DZ20:Dx P w K mg base aV 9 "values_of" ["row"] [] jX) (DZ36:Dx P w K mg base aV 3 "recipe_begun" ["values"] [] (jZ Hy Go on mt)) (DZ41:Dx P w K mg base aV 6 "put_row" ["recipe","at","values"] [] (pA Hy Go on mt)):aW P w K mg base aV 10 f fd ["text"] (lL Hy Go on mt):=by
 have sc:aw ["text","rows","recipe","at","row","values"] ["text"] (ao Bb):=cN (by decide+kernel)
 and_intros
 ·obtain ⟨_,_,_,_,rfl,_⟩:=h
  rfl
 refine ku h fun n p rs M _hi=>?_
 refine im _hi fun _r1 nm p1 p2 ro _hj=>?_
 refine sd _hj fun r1 hp q=>?_
 clear h _hi _hj;subst _r1;refine ⟨_,(ae (aI (cr (bE (aG (bz (K:=K) rfl) rfl B.HM boot_isinstance ((pv 0)<*>((bQ (v:= .ty "str") rfl B.IP boot_str rfl)<*>ad))))) (af cT) az) (ae (bX 1 sc (bZ Gk PySem.F.slot_str_split PySem.F.type_str_split nY (pv 0) (aN<*>ad))) (ae (bX 2 sc (bU DZ36 hr ((bU DZ20 hr ((ai aB (pv 1) ac (fun _ _=>rfl))<*>ad))<*>ad))) (ae (cv PassesOwn.never rfl (wt rfl B.Jn (cG gI (pv 1) (cZ ac) cY)) (iq rfl (bL (iS 3 sc) (bL (iS 4 sc) eM))) (ae (bX 5 sc (bU DZ20 hr ((pv 4)<*>ad))) (ae (aI (PW.pt (dN (ar cP (pv 5) aR (aD _)) (dA (ar bO (ai aB (pv 5) ac (fun _ _=>rfl)) aN (aD _))))) (af cT) az) (af (aT (bU DZ41 hr ((pv 2)<*>((pv 3)<*>((pv 5)<*>ad))))))))) (af (au (pv 2))))))),?_⟩
 try dsimp only[cxK]
 have sl:sizeLine=16777216:=sizeLine_eq;have esp:=uh nm p2 ro;have tl:=yg nm p2 ro r1;generalize Txt.join sg (cn n p::rs.map fA)=txt at esp tl⊢;refine cut (fun σ H'=>σ= [some (.str txt),none,none,none,none,none]/\H=H') (fun N hN=>?_) ?_
 ·exact ⟨ν,aH _ _ _ true ⟨rfl,.str _,rfl,ν,cU (hN _ _ ⟨rfl,rfl⟩)⟩⟩
 rintro σ _ ⟨rfl,rfl⟩;refine ⟨ν,rfl,aF txt 10 ⟨rfl,rfl,by lia,fun rl nrl=>?_⟩⟩
 have gp:=aj nrl (.lst ((Txt.split txt sg).map V.str));have ep:aL H rl (.lst ((Txt.split txt sg).map V.str)) rl=some (.lst ((cn n p::rs.map fA).map V.str)):=by rw[ah,esp]
 dsimp only[bM,bY];change L2.lW _ _ _ _ (aL H rl (.lst ((Txt.split txt sg).map V.str)));generalize aL H rl (.lst ((Txt.split txt sg).map V.str))=H1 at gp ep⊢;clear esp tl;obtain ⟨ht1,ht2⟩:=ic nm p2;refine cut (fun σ H'=>∃r lt ls lk,σ= [some (.str txt),Li rl,Li r,none,none,none]/\RM Hy Go on mt H1 H' r n p lt ls lk [] ⟨[],[],[]⟩) (fun N hN=>?_) ?_
 ·refine ⟨ν,aH rl _ _ _ ⟨rfl,rfl,aO.of ep,(aC (j:=0) rfl),cn n p,rfl,by lia,fun e=>?_,fun w us e p5 H5 g5 np5 lv=>?_⟩⟩
  ·rw[lD nm p1 p2] at e;cases e
  ·rw[lD nm p1 p2] at e;cases e;exact (b5 p5 n p ⟨rfl,lv,fun r lt ls lk H6 rm=>hN _ _ (aH r lt ls lk ⟨rfl,rm.low g5⟩)⟩)
 rintro σ H2 ⟨r,lt,ls,lk,rfl,rm⟩;refine cut (fun σ H'=>∃(o3 o4 o5:Option V) (ks:List So),σ= [some (.str txt),Li rl,Li r,o3,o4,o5]/\RM Hy Go on mt H1 H' r n p lt ls lk ks M) (fun N hN=>?_) ?_
 ·refine ⟨ν,ν,aF rl _ ⟨rfl,aO.of (rm.fr _ _ ep),fun sl1 ns1=>?_⟩⟩
  have ecd:fG ((cn n p::rs.map fA).map V.str) (some (1:Int)) none=(rs.map fA).map V.str:=by
   have:=lq (xs:=(cn n p::rs.map fA).map V.str) (c:=1);exact this
  rw[ecd];have gs:=aj ns1 (.lst ((rs.map fA).map V.str));have e1:aL H2 sl1 (.lst ((rs.map fA).map V.str)) sl1=some (.lst ((rs.map fA).map V.str)):=ah;have rm1:=rm.same gs;have nso:sl1∉cy r lt ls lk []:=fun z=>rm.all _ z ns1
  generalize aL H2 sl1 (.lst ((rs.map fA).map V.str))=H3 at gs e1 rm1⊢;refine ⟨sl1,rfl,⟨_,aO.of e1⟩,ug (xs:=(rs.map fA).map V.str) (fun i σ H'=>∃(o3 o4 o5:Option V) (ks:List So) (M1:Md),σ= [some (.str txt),Li rl,Li r,o3,o4,o5]/\RM Hy Go on mt (less H3 (cy r lt ls lk [])) H' r n p lt ls lk ks M1/\bP ⟨[],[],[]⟩ (rs.take i)= .ok M1) (aH none none none [] ⟨⟨[],[],[]⟩,⟨rfl,rm1.top,rfl⟩⟩) (fun i σ H' _ h=>?_) ?_ ?_⟩
  ·obtain ⟨_,_,_,_,_,_,rm2,_⟩:=h;exact aO.of (rm2.fr _ _ (by rw[sk nso];exact e1))
  ·rintro i y σ H4 T hy ⟨o3,o4,o5,ks,M1,rfl,rm2,hM⟩ nT;rw[FP,FP] at hy;obtain ⟨z,hz,rfl⟩:=GS.mp hy;obtain ⟨rr,hr',rfl⟩:=GS.mp hz;have ok:=ro rr (F9 hr');have rm3:=rm2.same (aj nT (.tup [.int ((i:Int)+1),.str (fA rr)]));refine (aF T _ ⟨rfl,bi.of ah,rfl,aF _ _ ⟨rfl,aF _ _ ⟨rfl,rfl,?_⟩⟩⟩);generalize aL H4 T (.tup [.int ((i:Int)+1),.str (fA rr)])=H5 at rm3⊢;have tl:=(j3 ok).2;refine ⟨ν,fA rr,rfl,by lia,fun e=>?_,fun w us e p5 H6 g6 np5 lv=>?_⟩
   ·rw[sA ok] at e;cases e
   rw[sA ok] at e;have e':qJ rr=(w,us):=GK e;obtain ⟨M1',k1,bd,k2⟩:=ui hp i;rw[hM] at k1;cases k1;have ed:rs.drop i=rr::rs.drop (i+1):=by
    have il:=bv hr';rw[HL il];rw[F0 il] at hr';rw[GK hr']
   rw[ed] at k2;obtain ⟨M2,k3,k4⟩:=j4 k2;have hM2:bP ⟨[],[],[]⟩ (rs.take (i+1))= .ok M2:=by
    rw[Gq,hr',ie hM];simp only[Option.toList,bP,k3]
   have nd:=ww ok;rw[e'] at nd;obtain ⟨xs,el,_⟩:=id lv;have lv':LV H6 p5 (qJ rr).1 (qJ rr).2:=by rw[e'];exact lv
   dsimp only[bM,bY];refine cut (fun σ H'=>σ= [some (.str txt),Li rl,Li r,some (.int ((i:Int)+1)),some (.str (fA rr)),Li p5]/\H6=H') (fun N hN=>?_) ?_
   ·exact ⟨ν,rfl,ν,dF (fun z=>nomatch z) ⟨ν,aH p5 _ _ _ ⟨rfl,rfl,aO.of el,(aC (j:=0) rfl),rfl,ν,oP (fun z=>absurd z nd) fun _=>hN _ _ ⟨rfl,rfl⟩⟩⟩⟩
   rintro σ _ ⟨rfl,rfl⟩;exact ⟨ν,ν,ν,i9 r p5 _ _ n p lt ls lk (aH ks M1 M2 rr ⟨rfl,rm3.same g6,lv',ok,bd,k3,fun ks' H7 rm7=>(aH _ _ _ ks' ⟨M2,⟨rfl,rm7,hM2⟩⟩)⟩)⟩
  ·rintro σ H5 ⟨o3,o4,o5,ks,M1,rfl,rm2,hM⟩;rw[F6,F6,List.take_length,hp] at hM;cases hM;exact hN _ _ (aH o3 o4 o5 ks ⟨rfl,rm2.low (rm1.less)⟩)
 rintro σ H3 ⟨o3,o4,o5,ks,rfl,rm3⟩;exact ⟨ν,q r lt ls lk ks _ (rm3.low gp)⟩
theorem Di {dV:Value} (F:bh K "factor_of" "factor_of" Bc dV f fd) (DZ3:Dx P w K mg base aV 2 "fraction" ["top","bottom"] [.int 1] mn):aW P w K mg base aV 3 f fd ["recipe","plates"] (iF K):=by
 have sc:aw ["recipe","plates"] ["recipe","plates"] (ao Bc):=cN (by decide+kernel)
 and_intros
 ·obtain ⟨_,_,_,_,_,_,rfl,_⟩:=h
  rfl
 refine tU h fun r C dx fl n p0 _hi=>?_
 refine im _hi fun _r1 er cl na fp _hj=>?_
 refine sd _hj fun p1 p2 q=>?_
 clear h _hi _hj;subst _r1;refine ⟨_,(af (au (bU DZ3 hr ((pv 1)<*>((bI (pv 0) rfl)<*>ad))))),?_⟩;try dsimp only[cxK]
 exact ⟨ν,ν,aH r C dx fl ⟨_,⟨rfl,er,cl,na,fp,aF n p0 ⟨rfl,by lia,Bd.mono (m:=10) (by unfold Bd;show _<1024;lia) (by decide),q⟩⟩⟩⟩
theorem Dj {dV:Value} (F:bh K "tasks_of" "tasks_of" yD dV f fd) (DZ3:Dx P w K mg base aV 2 "fraction" ["top","bottom"] [.int 1] mn) (DZ33:kr P w K mg base aV 7 IU ["self","factor"] [] (oO K IU IV Jc Jf)) (DZ34:kr P w K mg base aV 1 Je ["self","factor","size"] [] jL) (DZ35:kr P w K mg base aV 4 Jx ["self","factor","size"] [] (oH K)) (DZ43:Dx P w K mg base aV 3 "factor_of" ["recipe","plates"] [] (iF K)):aW P w K mg base (jr P w) 8 f fd ["recipe","plates","size"] (iH K Hy Go on mt Hz):=by
 have sc:aw ["recipe","plates","size","factor","pan","many","tasks","place","step","turn"] ["recipe","plates","size"] (ao yD):=cN (by decide+kernel)
 refine F.okX sc (fun vs H Q E h=>?_) (fun cdv A outer s H vs Q E hr h=>?_)
 ·obtain ⟨_,_,_,_,_,_,_,rfl,_⟩:=h
  rfl
 refine tU h fun r pl vz p0 ss sp _hi=>?_
 refine jQ _hi fun sq _hj=>?_
 refine im _hj fun _r1 rt l1 l2 hz _hk=>?_
 refine iV _hk fun sp0 q=>?_
 clear h _hi _hj _hk;subst _r1;have sl:sizeLine=16777216:=rfl;obtain ⟨nm,T,L,ra⟩:=rt.ex;obtain ⟨la,ls,lk,⟨dx,er⟩,_,⟨vs,es,rs⟩,_⟩:=ra.ex;have p1:=rt.p1;have p2:=rt.p2;obtain ⟨xs,rfl⟩:=yt rs;have xl:=rs.1;rw[F6] at xl;have x12:=rt.len;have xl':xs.length=ss.length:=xl;clear xl;have hst:∀(i:Nat) (x:Addr) (s:SV),xs[i]?=some x->ss[i]?=some s->xU Hy Go on H x s:=fun i x s h1 h2=>by
  obtain ⟨y,e,k⟩:=rs.2 i (.ref x) s (by rw[FP,h1];rfl) h2
  cases e;exact k
 refine ⟨_,(ae (jf (i:=3) sc.nd rfl (Or.inr rfl) (bU DZ43 hr ((pv 0)<*>((pv 1)<*>ad)))) (ae (jf (i:=4) sc.nd rfl (Or.inr rfl) (eD (ar cP (pv 2) aR (aD _)) (rC DZ3 hr (by decide) rfl (ac<*>ad)) (pv 2))) (ae (jH (own:= "step") (ys:= ["factor","pan"]) (js:= [3,4]) sc.nd (i:=5) rfl rfl rfl (BD (DN (DN vo)) (.cons rfl (.cons rfl .nil)) (by decide) rfl rfl rfl rfl rfl rfl rfl rfl) (cX (bI (pv 0) rfl)) (fun C fp s H=>(kX (se (K:=K) rfl (pv 0) DZ34 hr (by decide) ((pv 1)<*>((pv 2)<*>ad))) (se (K:=K) rfl (pv 0) DZ35 hr (by decide) ((pv 1)<*>((pv 2)<*>ad)))))) (ae (aI (ar kE (aG (lx rfl) rfl B.KP PyProof.Rows.Boot.«sum» ((pv 5)<*>ad)) (eH rfl B.JS) (aD _)) (af (jw B.Ke rfl B.JJ rfl jt (aN<*>ad))) az) (ae (bX 6 sc (@bK _ _ _ _ ad)) (ae (cv (vh rfl rfl) rfl (rD rfl B.Jn ((bI (pv 0) rfl)<*>ad)) (iq rfl (bL (iS 7 sc) (bL (iS 8 sc) eM))) (af (cv (vh rfl rfl) rfl (cu rfl B.IZ ((ai aB (pv 5) (pv 7) (fun _ _=>rfl))<*>ad)) (iS 9 sc) (af (aT (bZ G0 FZ FY aS (pv 6) ((@bN _ _ _ _ _ ((pv 7)<*>((pv 9)<*>((iz (pv 8) DZ33 hr (by decide) ((pv 3)<*>ad))<*>ad))))<*>ad))))))) (af (au (pv 6))))))))),?_⟩
 try dsimp only[cxK]
 have bpl:Bd 201 pl:=Bd.mono (m:=20) (by unfold Bd;show _<1048576;lia) (by decide)
 have bp0:Bd 201 (p0:Int):=Bd.mono (m:=20) (by unfold Bd;show _<1048576;lia) (by decide)
 refine ⟨ν,ν,iM r mt dx _ pl p0 ⟨rfl,er,B.Id,B.Iw,cQ.2.1,by lia,by lia,fun fa fb F tf H1 g1 e1=>?_⟩⟩
 have F1:cL K 201 H1 tf fa fb:= .of F bpl bp0 e1;dsimp only;refine cut (fun σ H'=>∃tp:Addr,σ= [Li r,some (.int pl),some vz,Li tf,Li tp,none,none,none,none,none]/\aA H1 H'/\cL K 201 H' tp sp sq) (fun N hN=>?_) ?_
 ·rcases hz with ⟨rfl,rfl,rfl⟩|⟨tz,rfl,fz⟩
  ·refine ⟨ν,rfl,ν,dh ?_⟩;refine (aF 1 1 ⟨rfl,by decide,Bd.one.mono (by decide),fun a b f t H2 g2 e2=>?_⟩)
   obtain ⟨rfl,rfl⟩:=oG f;exact hN _ _ ⟨t,rfl,g2,⟨bi.of e2,by decide,Bd.one.mono (by decide),Bd.one.mono (by decide)⟩⟩
  ·exact ⟨ν,rfl,ν,cU ⟨ν,hN _ _ ⟨tz,rfl,.refl _,fz.same g1⟩⟩⟩
 rintro σ H2 ⟨tp,rfl,g2,F2⟩;have g12:=g1.trans g2;have F12:=F1.same g2;have fa0:0<fa:=jR F (by lia) (by lia)
 refine cut (fun σ H'=>∃(lm:Addr) (ns:List Int),σ= [Li r,some (.int pl),some vz,Li tf,Li tp,Li lm,none,none,none,none]/\aA H2 H'/\H' lm=some (.lst (ns.map V.int))/\ns=(ss.map fun s=>lN s.fill fa fb sp sq)) (fun N hN=>?_) ?_
 ·refine ⟨ν,aH r mt dx _ ⟨_,⟨rfl,g12 _ _ er,B.Id,B.Ib,cQ.2.2.2.1,ls,rfl,⟨_,aO.of (g12 _ _ es)⟩,mL (rQ fun i n=>∀s,ss[i]?=some s->n=lN s.fill fa fb sp sq) (fun _=>False) (fun i=>i) (aO.of (g12 _ _ es)) (by rw[F6];lia) (fun a h=>h.elim) (fun i y hy H3 g3 Q' hQ=>?_) fun lm H4 np g4 hp=>?_⟩⟩⟩
  ·obtain ⟨x,hx,rfl⟩:=qC hy;have il:=(FR.mp hx).1;have hs:=F0 (show i<ss.length by lia)
   have sb:=rt.ok _ (GU (show i<ss.length by lia))
   generalize ss[i]=s at hs sb;obtain ⟨C,dy,u,sv,ff,ex,hC,sf,hf,_⟩:=(hst i x s hx hs).same (g12.trans g3);have sfl:=sb.fl;generalize ef:s.fill=o at hf sfl
   match o,hf,sfl with
   |none,hf,sfl=>
    have hm:cA K C "rounds" Je/\iI K C:=by
     rcases hC with ⟨_,e⟩|⟨_,e⟩|⟨e,_⟩
     ·rw[e];exact ⟨B.JH,B.Ji⟩
     ·rw[e];exact ⟨B.JA,B.Jd⟩
     ·exact absurd e sfl
    exact .inl ⟨ν,aH x C dy ff ⟨rfl,ex,hm.2,hm.1,sf.rounds,ν,ν,b5 _ _ _ ⟨rfl,hQ _ _ (.refl _) ⟨1,rfl,fun s' hs'=>by rw[hs] at hs';cases hs';rw[ef];rfl⟩⟩⟩⟩
   |some am,⟨t,lf,et⟩,⟨ew,a1,a2,b1,b2⟩=>
    have kw:C=on:=by
     rcases hC with ⟨e,_⟩|⟨e,_⟩|⟨_,e⟩
     ·exact absurd (e.symm.trans ew) (by decide)
     ·exact absurd (e.symm.trans ew) (by decide)
     ·exact e
    refine .inr ⟨ν,aH x C dy ff ⟨rfl,ex,by rw[kw];exact B.Jb,by rw[kw];exact B.KQ,sf.rounds,ν,ν,i9 x C dy t tf tp ff am.1 am.2 (aH fa fb sp sq ⟨rfl,ex,by rw[kw];exact B.Jb,by rw[kw];exact B.Jg,lf,⟨bi.of et,by lia,yo b1 (by decide),yo b2 (by decide)⟩,F12.same g3,F2.same g3,sp0,fun n H5 g5 rn=>hQ _ _ g5 ⟨n,rfl,fun s' hs'=>?_⟩⟩)⟩⟩
    rw[hs] at hs';cases hs';rw[ef];exact CF (by lia) F.pos sp0 rn
  ·obtain ⟨vs,ep,rp⟩:=hp;obtain ⟨ns,rfl,nl,pr⟩:=xQ rp;rw[F6] at nl;refine hN _ _ (aF lm ns ⟨rfl,g4,ep,?_⟩);refine Hn (by rw[F6];lia) fun i h1 h2=>?_
   rw[Gm];exact pr i _ (F0 h1) _ (F0 (by rw[F6] at h2;exact h2))
 rintro σ H3 ⟨lm,ns,rfl,g3,em,ens⟩;have nl:ns.length=ss.length:=by rw[ens,F6]
 have g13:=g12.trans g3;obtain ⟨q1,q2⟩:=q fa fb F;have rn1:∀s∈ss,1<=lN s.fill fa fb sp sq:=fun s hs=>nh fa0 F.pos sp0 F2.pos (rt.ok s hs).fl
 have ns1:∀n∈ns,1<=n:=fun n hn=>by
  rw[ens] at hn;obtain ⟨s,hs,rfl⟩:=GI.mp hn;exact rn1 s hs
 have esum:wR ss fa fb sp sq=ns.sum:=by rw[ens];rfl
 rw[esum] at q1 q2;refine cut (fun σ H'=>σ= [Li r,some (.int pl),some vz,Li tf,Li tp,Li lm,none,none,none,none]/\H3=H'/\ns.sum<=24) (fun N hN=>?_) ?_
 ·refine ⟨ν,aF lm ns ⟨rfl,aO.of em,aF _ _ ⟨rfl,rfl,ν,d2 (fun c=>?_) fun c=>hN _ _ ⟨rfl,rfl,by lia⟩⟩⟩⟩
  exact ⟨by show 1<=sizeLine;decide,q1 c _ g13⟩
 rintro σ _ ⟨rfl,rfl,s24⟩;have q:=q2 s24;have len:=jS ns1;refine ⟨by show 0<=sizeLine;decide,fun l nl0=>?_⟩
 have g4:=aj nl0 (.lst []);have el:aL H3 l (.lst []) l=some (.lst []):=ah;have nl1:=g13.free nl0;generalize aL H3 l (.lst [])=H4 at g4 el⊢;have g14:=g13.trans g4;have em4:=g4 _ _ em;have tgl:=jc (p:=fa) (q:=fb) (sp:=sp) (sq:=sq) rn1;rw[<-ens] at tgl;have sumT:∀k,(ns.take k).sum<=ns.sum:=fun k=>by
  have e:ns.sum=(ns.take k).sum+(ns.drop k).sum:=by rw[<-List.sum_append,GQ]
  have:=jS (ns:=ns.drop k) fun n hn=>ns1 n (List.mem_of_mem_drop hn)
  lia
 dsimp only;change L2.lW _ _ _ [some (.ref r),some (.int pl),some vz,some (.ref tf),some (.ref tp),some (.ref lm),some (.ref l),none,none,none] H4;refine cut (fun σ H'=>∃o7 o8 o9,σ= [Li r,some (.int pl),some vz,Li tf,Li tp,Li lm,Li l,o7,o8,o9]/\aA H3 H'/\ky H3 H' l (wQ ss fa fb sp sq)) (fun N hN=>?_) ?_
 ·refine ⟨_,rfl,aH r mt dx _ ⟨_,⟨rfl,g14 _ _ er,B.Id,B.Ib,cQ.2.2.2.1,ls,rfl,⟨_,aO.of (g14 _ _ es)⟩,nV (xs:=xs.map V.ref) (fun i σ H'=>∃o7 o8 o9,σ= [Li r,some (.int pl),some vz,Li tf,Li tp,Li lm,Li l,o7,o8,o9]/\aA H3 H'/\ky H3 H' l (pB ss fa fb sp sq i)) (b5 none none none ⟨rfl,g4,.nil el nl0⟩) (fun i σ H' _ h=>by obtain ⟨_,_,_,_,g,_⟩:=h;exact aO.of (g _ _ (g13 _ _ es))) ?_ ?_⟩⟩⟩
  ·rintro i y σ H5 T hy ⟨o7,o8,o9,rfl,g5,tg⟩ nT;obtain ⟨x,hx,rfl⟩:=qC hy;have il:=(FR.mp hx).1;have gT:=aj nT (.tup [.int i,.ref x]);refine (aF T _ ⟨rfl,bi.of ah,rfl,aF _ _ ⟨rfl,aF _ _ ⟨rfl,rfl,?_⟩⟩⟩);have nn:=F0 (show i<ns.length by lia)
   have at_:fe (ns.map V.int) (i:Int)=some (.int ns[i]):=aC (by rw[FP,nn];rfl)
   have n1:=ns1 _ (GU (show i<ns.length by lia))
   have n24:=qF ns1 nn;have g6:=g5.trans gT;have tg6:=tg.same gT;generalize aL H5 T (.tup [.int i,.ref x])=H6 at gT g6 tg6⊢;have hs:=F0 (show i<ss.length by lia)
   have sb:=rt.ok _ (GU (show i<ss.length by lia))
   have hnn:ns[i]=lN ss[i].fill fa fb sp sq:=by simp only[ens,Gm]
   have hgd:ss.getD i DS=ss[i]:=by rw[GX,hs];rfl
   generalize ss[i]=s at hs sb hnn hgd;have st0:=hst i x s hx hs;have stl:=tgl i (by lia)
   have stl1:=tgl (i+1) (by lia)
   have sT1:=sumT (i+1);dsimp only;change BY _ _ _ _ [some (.ref r),some (.int pl),some vz,some (.ref tf),some (.ref tp),some (.ref lm),some (.ref l),some (.int i),some (.ref x),o9] H6;refine ⟨ν,ν,aH lm _ _ _ ⟨rfl,rfl,aO.of (g6 _ _ em),at_,ν,by lia,by lia,cw (fun j σ H'=>∃(o9:Option V),σ= [Li r,some (.int pl),some vz,Li tf,Li tp,Li lm,Li l,some (.int i),Li x,o9]/\aA H3 H'/\ky H3 H' l (pB ss fa fb sp sq i++(Gx j).map fun t:Nat=>⟨(i:Int),(t:Int),kx s fa fb⟩)) ⟨o9,rfl,g6,by simpa using tg6⟩ (fun j σ H7 hj hP=>?_) (fun σ H7 hP=>?_)⟩⟩
   ·obtain ⟨o9,rfl,g7,tg7⟩:=hP;have jn:(j:Int)<ns[i]:=by lia
    have st:=st0.same (g13.trans g7);obtain ⟨C,as,c,hC,sta,ru,hc⟩:=st.sta;have F7:=(F12.same g3).same g7;have smx:EE K C IU IV Jc Jf (decide (s.w= "cut")):=by
     rcases hC with ⟨e1,e⟩|⟨e1,e⟩|⟨e1,e⟩
     ·rw[e,e1];exact ⟨⟨B.Ji,B.IF,B.ID,B.IG,B.Iy,B.Im⟩,B.JN,B.Ju,B.KR⟩
     ·rw[e,e1];exact ⟨⟨B.Jd,B.IB,B.Iv,B.IC,B.Ir,B.Ij⟩,B.JG,B.Jr,B.JM⟩
     ·rw[e,e1];exact ⟨⟨B.Jb,B.Iz,B.Iu,B.IA,B.Iq,B.Ii⟩,B.JF,B.Jq,B.JL⟩
    obtain ⟨dy,u,sv,ff,ex,sf,eu,hsv⟩:=sta.ex;obtain ⟨vs7,os7,a2,a3,_⟩:=tg7.ex;refine ⟨ν,.inl ⟨rfl,_,aO.of a2⟩,ν,ν,ν,aH x C dy ff ⟨rfl,ex,smx.c.cl,smx.grown,sf.grown,ν,i9 x C tf s.n s.lo s.hi fa fb as (b5 c (wN H7) (decide (s.w= "cut")) ⟨rfl,sta,smx,⟨F7.at_,F7.pos,F7.bp.mono (by decide),F7.bq.mono (by decide)⟩,yq sb ru hc,fun lw H8 g8 wa=>⟨by show 3<=sizeLine;decide,fun t nt=>?_⟩⟩)⟩⟩
    obtain ⟨cs,w1,w2,w3⟩:=um F.pos sb.nd ru hc g8 wa;have g9:=aj nt (.tup [.int i,.int (0+(j:Int)),.ref lw]);have tko:ze (aL H8 t (.tup [.int i,.int (0+(j:Int)),.ref lw])) (.ref t) ⟨(i:Int),(j:Int),kx s fa fb⟩ (lw,cs):=⟨t,rfl,by rw[ah,Gs],w1.kp (F:=lw::cs) (.of g9) GM fun c hc=>FS _ hc⟩
    obtain ⟨ys,y1,y2,y3⟩:=tg7.snoc g7 (g8.trans g9) tko w2 w3;have yl:ys.length<=24:=by
     rw[y2,FQ,F6,HD];have e2:(ns.take (i+1)).sum=(ns.take i).sum+ns[i]:=by rw[Gq,nn,HB,List.sum_append];simp
     lia
    refine (b5 l ys _ ⟨rfl,rfl,y1,by lia,ν,fH ((g7.trans g8).trans g9) nl0 _,?_⟩)
    rw[List.range_succ,GO,<-GT];exact y3
   ·obtain ⟨o9,rfl,g7,tg7⟩:=hP;refine (b5 _ _ _ ⟨rfl,g7,?_⟩);show ky H3 H7 l (pB ss fa fb sp sq i++_);rw[hgd,<-hnn];exact tg7
  ·rintro σ H5 ⟨o7,o8,o9,rfl,g5,tg⟩;rw[F6,xl'] at tg;exact hN _ _ (b5 o7 o8 o9 ⟨rfl,g5,tg⟩)
 rintro σ H5 ⟨o7,o8,o9,rfl,g5,tg⟩;exact ⟨ν,q l H5 (g13.trans g5) (tg.low g13)⟩
theorem Dk {dV:Value} (F:bh K "_law_cell_at" "_law_cell_at" Be dV f fd):aW P w K mg base aV 1 f fd ["_law_script","_law_k"] (uX K):=by
 have sc:aw ["_law_script","_law_k"] ["_law_script","_law_k"] (ao Be):=cN (by decide+kernel)
 and_intros
 ·obtain ⟨_,_,_,rfl,_⟩:=h
  rfl
 obtain ⟨a,ns,k,rfl,hS,h0,q⟩:=h;refine ⟨_,(ae (aI (ar kD (pv 1) (aG aZ rfl B.IS boot_len ((pv 0)<*>ad)) (aD _)) (af (au (ai aB (pv 0) (pv 1) (fun _ _=>rfl)))) az) (af (au ac))),?_⟩
 try dsimp only[cxK]
 refine ⟨ν,ν,aF a _ ⟨rfl,.inl hS,aF _ _ ⟨rfl,rfl,ν,d2 (fun c=>?_) (fun c=>?_)⟩⟩⟩
 ·obtain ⟨v,hv⟩:=xu h0 c;exact ⟨ν,ν,aH a _ _ _ ⟨rfl,rfl,hS,hv,q v⟩⟩
 ·exact q 0
theorem Dl {dV:Value} (F:bh K "_law_names" "_law_names" Bf dV f fd):aW P w K mg base aV 1 f fd ["_law_number","_law_many"] pE:=by
 have sc:aw ["_law_number","_law_many","_law_cell","_law_letters","_law_base","_law_k","_law_at","_law_size","_law_step_here","_law_core","_law_names_here","_law_sign"] ["_law_number","_law_many"] (ao Bf):=cN (by decide+kernel)
 and_intros
 ·obtain ⟨_,_,rfl,_⟩:=h
  rfl
 obtain ⟨nb,many,rfl,m0,m1,q⟩:=h;refine ⟨_,(ae (bX 2 sc (ak aJ (pv 0) ac)) (ae (bX 3 sc aN) (ae (bX 4 sc aN) (ae (cv PassesOwn.never rfl (cu rfl B.IZ (ac<*>ad)) (iS 5 sc) (af (bX 4 sc (ak bC (pv 4) (ai jm (pv 3) (ak aJ (ak aJ (ak bo (ak bH (pv 2) ac) (ak bH (ak bH (ak bo (pv 5) (pv 5)) (ak bo ac (pv 5))) ac)) ac) ac) (fun _ _=>rfl)))))) (ae (bX 6 sc (ak aJ (ak aQ (pv 2) ac) ac)) (ae (bX 7 sc (ak aJ (ak aQ (pv 2) ac) ac)) (@ae _ _ _ _ _ (@jf _ _ 8 _ _ _ _ sc.nd rfl (Or.inl rfl) (@ai _ _ _ _ _ _ _ aB (@bK _ _ _ _ (ac<*>(ac<*>(ac<*>(ac<*>(ac<*>(ac<*>(ac<*>(ac<*>ad))))))))) (ak aJ (ak aQ (pv 2) ac) ac) (fun _ _=>rfl)) rfl (Or.inr rfl)) (ae (bX 9 sc (cG gw (pv 4) cY (cZ (pv 7)))) (ae (bX 10 sc (@bK _ _ _ _ ad)) (ae (cv PassesOwn.never rfl (cu rfl B.IZ ((pv 1)<*>ad)) (iS 5 sc) (ae (bX 11 sc (ai jm (pv 3) (ak aJ (ak bH (ak aQ (pv 2) ac) (ak bo (pv 5) (pv 8))) ac) (fun _ _=>rfl))) (af (aI (ar kE (pv 1) ac (aD _)) (af (aT (bZ G0 FZ FY aS (pv 10) ((ak bC (ak bC (ak bC (cG gw (pv 9) cY (cZ (pv 6))) (ai jm (pv 3) (ak aQ (pv 5) ac) (fun _ _=>rfl))) (pv 11)) (cG gw (pv 9) (cZ (pv 6)) cY))<*>ad)))) (af (aI (PW.pt (ip (ar bO (ak aJ (pv 2) ac) ac (aD _)) (fU (ar yG (pv 1) ac (aD _))))) (af (aT (bZ G0 FZ FY aS (pv 10) ((cG gw (pv 4) cY (cZ (ak bH (pv 5) ac)))<*>ad)))) (af (aI (ar bO (ak aJ (pv 2) ac) ac (aD _)) (af (aT (bZ G0 FZ FY aS (pv 10) ((ak bC (cG gw (pv 4) cY (cZ (ak aJ (pv 5) ac))) (pv 11))<*>ad)))) (af (aT (bZ G0 FZ FY aS (pv 10) ((ak bC (ak bC (cG gw (pv 9) cY (cZ (pv 6))) (pv 11)) (cG gw (pv 9) (cZ (pv 6)) cY))<*>ad)))))))))))) (af (au (pv 10))))))))))))),?_⟩
 try dsimp only[cxK]
 refine ⟨ν,aF _ _ ⟨rfl,rfl,(by show (1000003:Int)≠0;decide),?_⟩⟩
 have c0:=FM nb (show (0:Int)<1000003 by decide)
 have c1:=FT nb (show (0:Int)<1000003 by decide)
 have s9:(9000:Nat)<=sizeLine:=by decide
 have one:∀c:Nat,(⟨#[c]⟩:Str).length=1:=fun _=>rfl
 have sm:∀(x:Int),0<=x->x<2^30->Bd 30 x:=fun x h0 h1=>by unfold Bd;lia
 have bd3:Bd 30 (3:Int):=by unfold Bd;decide
 try dsimp only[bM,bY]
 refine cut (fun σ H'=>H=H'/\∃c:Int,0<=c/\c<1000003/\σ= [some (.int nb),some (.int many),some (.int c),some (.str eI),none,none,none,none,none,none,none,none]) (fun N hN=>hN _ _ ⟨rfl,_,c0,c1,rfl⟩) ?_
 clear c0 c1;rintro σ _ ⟨rfl,c,c0,c1,rfl⟩;refine cut (fun σ H'=>H=H'/\σ= [some (.int nb),some (.int many),some (.int c),some (.str eI),some (.str ""),none,none,none,none,none,none,none]) (fun N hN=>hN _ _ ⟨rfl,rfl⟩) ?_
 rintro σ _ ⟨rfl,rfl⟩;refine cut (fun σ H'=>H=H'/\∃(b:Str) (o5:Option V),σ= [some (.int nb),some (.int many),some (.int c),some (.str eI),some (.str b),o5,none,none,none,none,none,none]/\b.length=12/\Lt b) (fun N hN=>?_) ?_
 ·refine ⟨ν,by decide,by decide,cw (fun i σ H'=>H=H'/\∃(b:Str) (o5:Option V),σ= [some (.int nb),some (.int many),some (.int c),some (.str eI),some (.str b),o5,none,none,none,none,none,none]/\b.length=i/\Lt b) ⟨rfl,aF _ none ⟨rfl,rfl,Lt.nil⟩⟩ (fun i σ H' hi hP=>?_) (fun σ H' hP=>?_)⟩
  ·obtain ⟨rfl,b,o5,rfl,hb,hL⟩:=hP;have hi':i<12:=hi;have bk:Bd 30 (0+(i:Int)):=sm _ (by lia) (by lia)
   have b1:Bd 60 ((0+(i:Int))*(0+(i:Int))):=bk.mul bk;have b2:Bd 60 (3*(0+(i:Int))):=bd3.mul bk;have b3:Bd 62 ((0+(i:Int))*(0+(i:Int))+3*(0+(i:Int))+7):=(b1.add b2).add ((show Bd 61 (7:Int) by unfold Bd;decide))
   have i0:=FM (((c+1)*((0+(i:Int))*(0+(i:Int))+3*(0+(i:Int))+7)).fmod 1013) (show (0:Int)<26 by decide)
   have i1:=FT (((c+1)*((0+(i:Int))*(0+(i:Int))+3*(0+(i:Int))+7)).fmod 1013) (show (0:Int)<26 by decide)
   obtain ⟨ch,hch,hq⟩:=vY i0 i1;refine ⟨ν,ν,ν,aF _ _ ⟨rfl,rfl,ν,ν,aF _ _ ⟨rfl,rfl,bk.ok bk,ν,aF _ _ ⟨rfl,rfl,bd3.ok bk,aF _ _ ⟨rfl,rfl,aF _ _ ⟨rfl,rfl,aF _ _ ⟨rfl,rfl,(sm (c+1) (by lia) (by lia)).ok b3,ω,(by show (1013:Int)≠0;decide),ω,(by show (26:Int)≠0;decide),eI,_,ch,rfl,rfl,by decide,hch,ω,?_,?_⟩⟩⟩⟩⟩⟩⟩
   ·rw[one];lia
   ·exact ⟨rfl,aF _ _ ⟨rfl,by rw[Str.length_append,one,hb],hL.app (Lt.one hq)⟩⟩
  ·obtain ⟨rfl,b,o5,rfl,hb,hL⟩:=hP;exact hN _ _ ⟨rfl,aF b o5 ⟨rfl,by rw[hb];rfl,hL⟩⟩
 rintro σ _ ⟨rfl,b,o5,rfl,hb12,hL⟩;have hb:b.length<=12:=by lia
 have hz:b.length<=sizeLine:=by lia
 have a0:=FM (c.fdiv 3) (show (0:Int)<11 by decide)
 have z0:=FM (c.fdiv 40) (show (0:Int)<11 by decide)
 have t0:=FM (c.fdiv 500) (show (0:Int)<8 by decide)
 have t1:=FT (c.fdiv 500) (show (0:Int)<8 by decide)
 refine ⟨ν,aF _ _ ⟨rfl,rfl,⟨by show (3:Int)≠0;decide,FX (by decide)⟩,aF _ _ ⟨rfl,rfl,(by show (11:Int)≠0;decide),?_⟩⟩⟩
 refine ⟨ν,aF _ _ ⟨rfl,rfl,⟨by show (40:Int)≠0;decide,FX (by decide)⟩,aF _ _ ⟨rfl,rfl,(by show (11:Int)≠0;decide),?_⟩⟩⟩
 refine ⟨by show 8<=sizeLine;decide,fun ls ns=>?_⟩
 have g1:=aj ns (.lst [.int 1,.int 3,.int 5,.int 7,.int 9,.int 11,.int 15,.int 17]);obtain ⟨v,hv,ev⟩:=zR (xs:= [V.int 1,V.int 3,V.int 5,V.int 7,V.int 9,V.int 11,V.int 15,V.int 17]) t0 (by show (c.fdiv 500).fmod 8<((8:Nat):Int);exact t1)
 obtain ⟨st,rfl,st0,st1,sto⟩:∃y:Int,v= .int y/\0<=y/\y<20/\m7 y:=by
  simp at hv;rcases hv with rfl|rfl|rfl|rfl|rfl|rfl|rfl|rfl
  all_goals exact ⟨_,rfl,by decide,by decide,by unfold m7;decide⟩
 refine ⟨ν,aF _ _ ⟨rfl,rfl,⟨by show (500:Int)≠0;decide,FX (by decide)⟩,aF _ _ ⟨rfl,rfl,(by show (8:Int)≠0;decide),aH ls _ _ _ ⟨rfl,rfl,aO.of ah,ev,?_⟩⟩⟩⟩
 refine ⟨ν,ν,ν,b,rfl,hz,?_⟩;have hc:(dZ b none (some ((c.fdiv 40).fmod 11))).length<=12:=GP (eO _ _ _) hb;refine ⟨by show 0<=sizeLine;decide,fun lp np=>?_⟩
 have z1:=FT (c.fdiv 40) (show (0:Int)<11 by decide)
 have a1:=FT (c.fdiv 3) (show (0:Int)<11 by decide)
 have hc10:(dZ b none (some ((c.fdiv 40).fmod 11))).length<=10:=by rw[gS z0];lia
 have hcL:=hL.cut none (some ((c.fdiv 40).fmod 11));generalize dZ b none (some ((c.fdiv 40).fmod 11))=core at*;have cz:core.length<=sizeLine:=by lia
 have g2:=g1.trans (aj np (.lst []));have cl:∀lo hi,(dZ core lo hi).length<=12:=fun lo hi=>GP (eO _ _ _) hc
 have bl:∀lo hi,(dZ b lo hi).length<=12:=fun lo hi=>GP (eO _ _ _) hb
 try dsimp only[bM,bY]
 refine cut (fun σ H'=>aA H H'/\∃(zs:Ld) (o5 o11:Option V),σ= [some (.int nb),some (.int many),some (.int c),some (.str eI),some (.str b),o5,some (.int ((c.fdiv 3).fmod 11)),some (.int ((c.fdiv 40).fmod 11)),some (.int st),some (.str core),Li lp,o11]/\(zs.length:Int)=many/\H' lp=some (.lst (zs.map V.str))/\∀(k:Nat) (z:Str),zs[k]?=some z->Nm z/\ym (c.fmod 3) (dZ core none (some ((c.fdiv 3).fmod 11))).cps.toList (dZ core (some ((c.fdiv 3).fmod 11)) none).cps.toList k (sgn (c.fdiv 7) st k) z) (fun N hN=>?_) ?_
 ·refine ⟨ν,ν,by lia,by lia,cw (fun i σ H'=>aA H H'/\∃(zs:Ld) (o5 o11:Option V),σ= [some (.int nb),some (.int many),some (.int c),some (.str eI),some (.str b),o5,some (.int ((c.fdiv 3).fmod 11)),some (.int ((c.fdiv 40).fmod 11)),some (.int st),some (.str core),Li lp,o11]/\zs.length=i/\H' lp=some (.lst (zs.map V.str))/\∀(k:Nat) (z:Str),zs[k]?=some z->Nm z/\ym (c.fmod 3) (dZ core none (some ((c.fdiv 3).fmod 11))).cps.toList (dZ core (some ((c.fdiv 3).fmod 11)) none).cps.toList k (sgn (c.fdiv 7) st k) z) ⟨g2,b5 [] o5 none ⟨rfl,rfl,ah,fun k z h=>by simp at h⟩⟩ (fun i σ H' hi hP=>?_) (fun σ H' hP=>?_)⟩
  ·obtain ⟨g,zs,o5,o11,rfl,hl,e,nz⟩:=hP;have hi':(i:Int)<many:=by have:i<many.toNat:=hi;lia
   have i0:=FM (c.fdiv 7+(0+(i:Int))*st) (show (0:Int)<26 by decide)
   have i1:=FT (c.fdiv 7+(0+(i:Int))*st) (show (0:Int)<26 by decide)
   have hch:=yj i0 i1;have hq:97<=sgn (c.fdiv 7) st i/\sgn (c.fdiv 7) st i<=122:=by unfold sgn;lia
   rw[show 97+((c.fdiv 7+(0+(i:Int))*st).fmod 26).toNat=sgn (c.fdiv 7) st i from rfl] at hch
   have k0:0<=(0+(i:Int)).fdiv 26:=by rw[Int.fdiv_eq_ediv_of_nonneg _ (by decide)];lia
   have k1:(0+(i:Int)).fdiv 26<26:=by rw[Int.fdiv_eq_ediv_of_nonneg _ (by decide)];lia
   obtain ⟨ch2,hch2⟩:=rT k0 k1;have app:∀(z:Str),aA H (aL H' lp (.lst (zs.map V.str++ [.str z])))/\aL H' lp (.lst (zs.map V.str++ [.str z])) lp=some (.lst ((zs++ [z]).map V.str)):=fun z=>⟨fH g (g1.free np) _,by rw[ah,GO];rfl⟩
   have lnp:(zs.map V.str).length<sizeLine:=by rw[F6,hl];lia
   refine ⟨ν,ν,aF _ _ ⟨rfl,rfl,⟨by show (7:Int)≠0;decide,FX (by decide)⟩,ν,ν,aF _ _ ⟨rfl,rfl,(sm _ (by lia) (by lia)).ok (sm st (by lia) (by lia)),aF _ _ ⟨rfl,rfl,aF _ _ ⟨rfl,rfl,(by show (26:Int)≠0;decide),b5 eI _ (sgn (c.fdiv 7) st i) ⟨rfl,rfl,by decide,hch,?_⟩⟩⟩⟩⟩⟩
   have sn:∀z,Nm z/\ym (c.fmod 3) (dZ core none (some ((c.fdiv 3).fmod 11))).cps.toList (dZ core (some ((c.fdiv 3).fmod 11)) none).cps.toList i (sgn (c.fdiv 7) st i) z->∀(k:Nat) (y:Str),(zs++ [z])[k]?=some y->Nm y/\ym (c.fmod 3) (dZ core none (some ((c.fdiv 3).fmod 11))).cps.toList (dZ core (some ((c.fdiv 3).fmod 11)) none).cps.toList k (sgn (c.fdiv 7) st k) y:=fun z hz' k y hy=>by
    by_cases ck:k<zs.length
    ·rw[FV ck] at hy;exact nz k y hy
    ·rw[FN (by lia)] at hy
     have:k-zs.length=0:=by
      cases hk:k-zs.length with
      |zero=>rfl
      |succ n=>rw[hk] at hy;simp at hy
     rw[this] at hy;cases hy;have:k=i:=by lia
     rw[this];exact hz'
   have q0:=FM (0+(i:Int)) (show (0:Int)<11 by decide)
   have q1:=FT (0+(i:Int)) (show (0:Int)<11 by decide)
   refine ⟨ν,aF _ _ ⟨rfl,rfl,ν,d2 (fun z26=>absurd m1 (by lia)) (fun _=>?_)⟩⟩
   ·refine ⟨ν,aF _ _ ⟨rfl,rfl,(by show (3:Int)≠0;decide),rfl,ν,uB (fun m1c=>⟨ν,aF _ _ ⟨rfl,rfl,ν,d2 (fun _=>?_) (fun z12=>absurd m1 (by lia))⟩⟩) (fun m1n=>?_)⟩⟩
    ·refine ⟨ν,.inl ⟨rfl,_,aO.of e⟩,ν,ν,aF _ _ ⟨rfl,rfl,ν,b,rfl,hz,b5 lp _ _ ⟨rfl,rfl,e,lnp,(app _).1,b5 _ _ _ ⟨rfl,by rw[FQ,hl];rfl,(app _).2,sn _ ?_⟩⟩⟩⟩
     refine ⟨(hL.cut _ _).nm ?_ ?_,?_⟩
     ·rw[gS (by lia)];lia
     ·exact bl _ _
     ·unfold ym;rw[if_pos m1c,gS (by lia)]
      lia
    ·refine ⟨ν,aF _ _ ⟨rfl,rfl,(by show (3:Int)≠0;decide),rfl,ν,uB (fun m2c=>?_) (fun m2n=>?_)⟩⟩
     ·refine ⟨ν,.inl ⟨rfl,_,aO.of e⟩,ν,ν,aF _ _ ⟨rfl,rfl,(by show (11:Int)≠0;decide),ν,b,rfl,hz,ν,aF _ _ ⟨rfl,rfl,?_,b5 lp _ _ ⟨rfl,rfl,e,lnp,(app _).1,b5 _ _ _ ⟨rfl,by rw[FQ,hl];rfl,(app _).2,sn _ ?_⟩⟩⟩⟩⟩
      ·(simp only[Str.length_append,one];have l3:=bl none (some ((0+(i:Int)).fmod 11));lia)
      ·refine ⟨((hL.cut _ _).app (Lt.one hq)).nm ?_ ?_,?_⟩
       ·rw[Str.length_append,one];lia
       ·rw[Str.length_append,one,gS q0];lia
       ·unfold ym;rw[if_neg m1n,if_pos m2c];exact ⟨_,m8 _ _⟩
     ·refine ⟨ν,.inl ⟨rfl,_,aO.of e⟩,ν,ν,ν,core,rfl,cz,ν,aF _ _ ⟨rfl,rfl,?_,ν,ν,ν,core,rfl,cz,aF _ _ ⟨rfl,rfl,?_,b5 lp _ _ ⟨rfl,rfl,e,lnp,(app _).1,_,_,ν,by rw[FQ,hl];rfl,(app _).2,sn _ ?_⟩⟩⟩⟩
      ·(simp only[Str.length_append,one];have l1:=cl none (some ((c.fdiv 3).fmod 11));have l2:=cl (some ((c.fdiv 3).fmod 11)) none;lia)
      ·(simp only[Str.length_append,one];have l1:=cl none (some ((c.fdiv 3).fmod 11));have l2:=cl (some ((c.fdiv 3).fmod 11)) none;lia)
      ·refine ⟨(((hcL.cut _ _).app (Lt.one hq)).app (hcL.cut _ _)).nm ?_ ?_,?_⟩
       ·rw[Str.length_append,Str.length_append,one];lia
       ·rw[Str.length_append,Str.length_append,one,gS a0,xP a0];lia
       ·unfold ym;rw[if_neg m1n,if_neg m2n,m8,m8,GT]
        rfl
  ·obtain ⟨g,zs,o5,o11,rfl,hl,e,nz⟩:=hP;exact hN _ _ ⟨g,b5 zs o5 o11 ⟨rfl,by lia,e,nz⟩⟩
 rintro σ H1 ⟨g,zs,o5',o11,rfl,hl,e,nz⟩;exact ⟨_,rfl,q lp H1 zs g e hl (fun z hz=>by obtain ⟨k,hk⟩:=G4.mp hz;exact (nz k z hk).1) (uq sto (by lia) nz)⟩
theorem Dm {dV:Value} (F:bh K "_law_divisor_of" "_law_divisor_of" Bg dV f fd):aW P w K mg base aV 1 f fd ["_law_one","_law_other"] wE:=by
 have sc:aw ["_law_one","_law_other"] ["_law_one","_law_other"] (ao Bg):=cN (by decide+kernel)
 and_intros
 ·obtain ⟨_,_,rfl,_⟩:=h
  rfl
 obtain ⟨a,b,rfl,b0,q⟩:=h;refine ⟨_,(ae (nD PassesOwn.never (ar gG (pv 1) ac (aD _)) (af (zv (i:=0) (j:=1) rfl sc.nd rfl rfl (by decide) rfl rfl ((pv 1)<*>((ak aJ (pv 0) (pv 1))<*>ad)) rfl))) (af (au (aG jh rfl B.Kw boot_abs ((pv 0)<*>ad))))),?_⟩
 try dsimp only[cxK]
 refine nE (fun σ H'=>H=H'/\∃(g l:Int),σ= [some (.int g),some (.int l)]/\(l=0->0<=g)/\0<=l/\cg g l=cg a b)
  (fun (σ:L2.St) (_:Hp)=>match σ[1]? with|some (some (V.int l))=>l.toNat|_=>0) ⟨rfl,aF _ _ ⟨rfl,fun z=>by lia,by lia,rfl⟩⟩ ?_ (fun σ H Q Q' m ⟨v,e,s,k,hk,h2⟩=>⟨v,e,s,k,hk,m _ _ h2⟩)
 rintro σ H' ⟨rfl,g,l,rfl,g0,l0,inv⟩;refine ⟨ν,rfl,ν,Ff (fun c=>?_) (fun c=>?_)⟩
 ·have lp:0<l:=by lia
  refine ⟨ν,ν,ν,aF _ _ ⟨rfl,rfl,c,aF _ _ ⟨rfl,⟨rfl,aF l (g.fmod l) ⟨rfl,fun _=>l0,FM g lp,?_⟩⟩,?_⟩⟩⟩
  ·rw[kP lp];exact inv
  ·have h1:=FT g lp;have h2:=FM g lp;show (g.fmod l).toNat<l.toNat
   lia
 ·have g1:=g0 c;subst c;rw[kQ g1] at inv;rw[<-inv] at q;refine ⟨ν,ν,?_⟩;rw[if_neg (show ¬g<0 by lia)]
  exact q
theorem Dn {dV:Value} (F:bh K "_law_lowest" "_law_lowest" Bh dV f fd) (DZ47:Dx P w K mg base aV 1 "_law_divisor_of" ["_law_one","_law_other"] [] wE):aW P w K mg base aV 2 f fd ["_law_top","_law_bottom"] nP:=by
 have sc:aw ["_law_top","_law_bottom","_law_by"] ["_law_top","_law_bottom"] (ao Bh):=cN (by decide+kernel)
 and_intros
 ·obtain ⟨_,_,rfl,_⟩:=h
  rfl
 obtain ⟨a,b,rfl,b0,hb,q⟩:=h;refine ⟨_,(ae (bX 2 sc (bU DZ47 hr ((pv 0)<*>((pv 1)<*>ad)))) (af (au (@bN _ _ _ _ _ ((ak aQ (pv 0) (pv 2))<*>((ak aQ (pv 1) (pv 2))<*>ad)))))),?_⟩;try dsimp only[cxK]
 have c0:=qg (a:=a) (show b≠0 by lia)
 have cb:=uY (a:=a) (show b≠0 by lia) hb
 have f:=yI (a:=a) (show b≠0 by lia)
 rw[xv b0] at c0 cb f;exact ⟨ν,ν,aF a b ⟨rfl,b0,ν,ν,aF _ _ ⟨rfl,rfl,⟨c0,cb.div c0⟩,ν,ν,aF _ _ ⟨rfl,rfl,⟨c0,cb.div c0⟩,by show 2<=sizeLine;decide,fun t ht=>q _ _ f t _ (aj ht _) ah⟩⟩⟩⟩
theorem Do {dV:Value} (F:bh K "_law_alike" "_law_alike" CH dV f fd):aW P w K mg base aV 1 f fd ["_law_found","_law_due_here"] r6:=by
 have sc:aw ["_law_found","_law_due_here","_law_k"] ["_law_found","_law_due_here"] (ao CH):=cN (by decide+kernel)
 exact ⟨fun _ _ _ _ h=>h.elim,fun _ _ _ _ _ _ _ _ _ _ _ _ _ h=>h.elim⟩
theorem Dp {dV:Value} (F:bh K "_law_alike" "_law_alike" CI dV f fd) (DZ49:Dx P w K mg base aV 1 "_law_alike" ["_law_found","_law_due_here"] [] r6):aW P w K mg base aV 2 f fd ["_law_found","_law_due_here"] (pD 0):=by
 have sc:aw ["_law_found","_law_due_here","_law_k"] ["_law_found","_law_due_here"] (ao CI):=cN (by decide+kernel)
 and_intros
 ·obtain ⟨_,_,_,rfl,_⟩:=h
  rfl
 obtain ⟨x,y,n,rfl,nN,al,q⟩:=h;have s4:(5000:Nat)<=sizeLine:=by decide
 refine ⟨_,(ae (aI (bE (aG (bz (K:=K) rfl) rfl B.HM boot_isinstance ((pv 1)<*>((bQ (v:= .ty "str") rfl B.IP boot_str rfl)<*>ad)))) (af (au (fh (aG (bz (K:=K) rfl) rfl B.HM boot_isinstance ((pv 0)<*>((bQ (v:= .ty "str") rfl B.IP boot_str rfl)<*>ad))) (gl (dS bO (pv 0) (pv 1) (aD _)))))) az) (ae (aI (bE (aG (bz (K:=K) rfl) rfl B.HM boot_isinstance ((pv 1)<*>((bQ (v:= .ty "int") rfl B.JD boot_int rfl)<*>ad)))) (af (au (fh (aG (bz (K:=K) rfl) rfl B.HM boot_isinstance ((pv 0)<*>((bQ (v:= .ty "int") rfl B.JD boot_int rfl)<*>ad))) (fh (lV (aG (bz (K:=K) rfl) rfl B.HM boot_isinstance ((pv 0)<*>((bQ (v:= .ty "bool") rfl B.J8 boot_bool rfl)<*>ad)))) (gl (dS bO (pv 0) (pv 1) (aD _))))))) az) (ae (aI (bE (aG (bz (K:=K) rfl) rfl B.HM boot_isinstance ((pv 1)<*>((bQ (v:= .ty "tuple") rfl B.Jy boot_tuple rfl)<*>ad)))) (af (aI (cr (bE (aG (bz (K:=K) rfl) rfl B.HM boot_isinstance ((pv 0)<*>((bQ (v:= .ty "tuple") rfl B.Jy boot_tuple rfl)<*>ad))))) (af (au cJ)) az)) (af (aI (cr (bE (aG (bz (K:=K) rfl) rfl B.HM boot_isinstance ((pv 0)<*>((bQ (v:= .ty "list") rfl B.Jj boot_list rfl)<*>ad))))) (af (au cJ)) az))) (ae (aI (ar gG (aG aZ rfl B.IS boot_len ((pv 0)<*>ad)) (aG aZ rfl B.IS boot_len ((pv 1)<*>ad)) (aD _)) (af (au cJ)) az) (ae (cv PassesOwn.never rfl (cu rfl B.IZ ((aG aZ rfl B.IS boot_len ((pv 1)<*>ad))<*>ad)) (iS 2 sc) (af (aI (cr (bE (bU DZ49 hr ((ai lZ (pv 0) (pv 2) (fun _ _=>rfl))<*>((ai lZ (pv 1) (pv 2) (fun _ _=>rfl))<*>ad))))) (af (au cJ)) az))) (af (au cJ))))))),?_⟩
 try dsimp only[cxK]
 have n0:n=0:=by lia
 subst n0;have al:DT x y:=al;rcases al with ⟨i,rfl,rfl⟩|⟨z,rfl,rfl⟩
 ·refine ⟨ν,aH _ _ _ false ⟨rfl,.int _,rfl,ν,cU ?_⟩⟩;refine ⟨ν,aH _ _ _ true ⟨rfl,.int _,rfl,ν,dh ?_⟩⟩;exact ⟨ν,aH _ _ _ true ⟨rfl,.int _,rfl,ν,dh ⟨ν,aH _ _ _ false ⟨rfl,.int _,rfl,ν,ν,dh ⟨ν,ν,rfl,DQ (Q:=fun v=>Q v _) q⟩⟩⟩⟩⟩
 ·refine ⟨ν,aH _ _ _ true ⟨rfl,.str _,rfl,ν,dh ?_⟩⟩;exact ⟨ν,aH _ _ _ true ⟨rfl,.str _,rfl,ν,dh ⟨ν,ν,rfl,DQ (Q:=fun v=>Q v _) q⟩⟩⟩
theorem b6 (n0 k0:Nat) {dV:Value} (F:bh K "_law_alike" "_law_alike" Bi dV f fd) (DZ50:Dx P w K mg base aV k0 "_law_alike" ["_law_found","_law_due_here"] [] (pD n0)):aW P w K mg base aV (k0+1) f fd ["_law_found","_law_due_here"] (pD (n0+1)):=by
 have sc:aw ["_law_found","_law_due_here","_law_k"] ["_law_found","_law_due_here"] (ao Bi):=cN (by decide+kernel)
 and_intros
 ·obtain ⟨_,_,_,rfl,_⟩:=h
  rfl
 obtain ⟨x,y,n,rfl,nN,al,q⟩:=h;have s4:(5000:Nat)<=sizeLine:=by decide
 refine ⟨_,(ae (aI (bE (aG (bz (K:=K) rfl) rfl B.HM boot_isinstance ((pv 1)<*>((bQ (v:= .ty "str") rfl B.IP boot_str rfl)<*>ad)))) (af (au (fh (aG (bz (K:=K) rfl) rfl B.HM boot_isinstance ((pv 0)<*>((bQ (v:= .ty "str") rfl B.IP boot_str rfl)<*>ad))) (gl (dS bO (pv 0) (pv 1) (aD _)))))) az) (ae (aI (bE (aG (bz (K:=K) rfl) rfl B.HM boot_isinstance ((pv 1)<*>((bQ (v:= .ty "int") rfl B.JD boot_int rfl)<*>ad)))) (af (au (fh (aG (bz (K:=K) rfl) rfl B.HM boot_isinstance ((pv 0)<*>((bQ (v:= .ty "int") rfl B.JD boot_int rfl)<*>ad))) (fh (lV (aG (bz (K:=K) rfl) rfl B.HM boot_isinstance ((pv 0)<*>((bQ (v:= .ty "bool") rfl B.J8 boot_bool rfl)<*>ad)))) (gl (dS bO (pv 0) (pv 1) (aD _))))))) az) (ae (aI (bE (aG (bz (K:=K) rfl) rfl B.HM boot_isinstance ((pv 1)<*>((bQ (v:= .ty "tuple") rfl B.Jy boot_tuple rfl)<*>ad)))) (af (aI (cr (bE (aG (bz (K:=K) rfl) rfl B.HM boot_isinstance ((pv 0)<*>((bQ (v:= .ty "tuple") rfl B.Jy boot_tuple rfl)<*>ad))))) (af (au cJ)) az)) (af (aI (cr (bE (aG (bz (K:=K) rfl) rfl B.HM boot_isinstance ((pv 0)<*>((bQ (v:= .ty "list") rfl B.Jj boot_list rfl)<*>ad))))) (af (au cJ)) az))) (ae (aI (ar gG (aG aZ rfl B.IS boot_len ((pv 0)<*>ad)) (aG aZ rfl B.IS boot_len ((pv 1)<*>ad)) (aD _)) (af (au cJ)) az) (ae (cv PassesOwn.never rfl (cu rfl B.IZ ((aG aZ rfl B.IS boot_len ((pv 1)<*>ad))<*>ad)) (iS 2 sc) (af (aI (cr (bE (vn DZ50 hr (by lia) rfl ((ai lZ (pv 0) (pv 2) (fun _ _=>rfl))<*>((ai lZ (pv 1) (pv 2) (fun _ _=>rfl))<*>ad))))) (af (au cJ)) az))) (af (au cJ))))))),?_⟩
 try dsimp only[cxK]
 have al2:DT x y∨∃m,m+1=n/\∃a b xs ys,x= .ref a/\y= .ref b/\((H a=some (.lst xs)/\H b=some (.lst ys))∨(H a=some (.tup xs)/\H b=some (.tup ys)))/\xs.length=ys.length/\ys.length<=4000/\∀(i:Nat) (x y:V),xs[i]?=some x->ys[i]?=some y->pC H m x y:=by
  cases n with
  |zero=>exact .inl al
  |succ m=>exact al.imp id fun k=>⟨m,rfl,k⟩
 clear al;rcases al2 with al|⟨m,rfl,al⟩
 ·rcases al with ⟨i,rfl,rfl⟩|⟨z,rfl,rfl⟩
  ·refine ⟨ν,aH _ _ _ false ⟨rfl,.int _,rfl,ν,cU ?_⟩⟩;refine ⟨ν,aH _ _ _ true ⟨rfl,.int _,rfl,ν,dh ?_⟩⟩;exact ⟨ν,aH _ _ _ true ⟨rfl,.int _,rfl,ν,dh ⟨ν,aH _ _ _ false ⟨rfl,.int _,rfl,ν,ν,dh ⟨ν,ν,rfl,DQ (Q:=fun v=>Q v _) q⟩⟩⟩⟩⟩
  ·refine ⟨ν,aH _ _ _ true ⟨rfl,.str _,rfl,ν,dh ?_⟩⟩;exact ⟨ν,aH _ _ _ true ⟨rfl,.str _,rfl,ν,dh ⟨ν,ν,rfl,DQ (Q:=fun v=>Q v _) q⟩⟩⟩
 ·obtain ⟨a,b,xs,ys,rfl,rfl,hh,hl,h4,each⟩:=al;rcases hh with ⟨el,em⟩|⟨el,em⟩
  ·refine ⟨ν,aH _ _ _ false ⟨rfl,.lst em,rfl,ν,cU ?_⟩⟩;refine ⟨ν,aH _ _ _ false ⟨rfl,.lst em,rfl,ν,cU ?_⟩⟩;try dsimp only[bM,bY]
   refine cut (fun σ H'=>H=H'/\σ= [Li a,Li b,none]) (fun N hN=>?_) ?_
   ·exact ⟨ν,aH _ _ _ false ⟨rfl,.lst em,rfl,ν,cU ⟨ν,aH _ _ _ true ⟨rfl,.lst el,rfl,ν,cU (hN _ _ ⟨rfl,rfl⟩)⟩⟩⟩⟩
   rintro σ _ ⟨rfl,rfl⟩;refine ⟨ν,aF a _ ⟨rfl,.inl (aO.of el),ν,aF b _ ⟨rfl,.inl (aO.of em),rfl,ν,nF (by rw[hl]) ?_⟩⟩⟩
   refine ⟨ν,aF b _ ⟨rfl,.inl (aO.of em),ν,by lia,by lia,cw (fun i σ H'=>H=H'/\∃o2:Option V,σ= [Li a,Li b,o2]) ⟨rfl,none,rfl⟩ (fun i σ H' hi hP=>?_) (fun σ H' hP=>?_)⟩⟩
   ·obtain ⟨rfl,o2,rfl⟩:=hP;have hi':i<ys.length:=by lia
    have hx:=F0 (show i<xs.length by lia)
    have hy:=F0 hi';have ea:=each i _ _ hx hy;have ax:fe xs (0+(i:Int))=some xs[i]:=by rw[Gs];exact aC hx
    have ay:fe ys (0+(i:Int))=some ys[i]:=by rw[Gs];exact aC hy
    exact ⟨ν,ν,.inl (aH a _ _ _ ⟨rfl,rfl,aO.of el,ax,ν,ν,.inl (aH b _ _ _ ⟨rfl,rfl,aO.of em,ay,b5 _ _ m ⟨rfl,by lia,ea,ν,cU ⟨rfl,ν⟩⟩⟩)⟩)⟩
   ·obtain ⟨rfl,o2,rfl⟩:=hP;exact q
  ·refine ⟨ν,aH _ _ _ false ⟨rfl,.tup em,rfl,ν,cU ?_⟩⟩;refine ⟨ν,aH _ _ _ false ⟨rfl,.tup em,rfl,ν,cU ?_⟩⟩;try dsimp only[bM,bY]
   refine cut (fun σ H'=>H=H'/\σ= [Li a,Li b,none]) (fun N hN=>?_) ?_
   ·exact ⟨ν,aH _ _ _ true ⟨rfl,.tup em,rfl,ν,dh ⟨ν,aH _ _ _ true ⟨rfl,.tup el,rfl,ν,cU (hN _ _ ⟨rfl,rfl⟩)⟩⟩⟩⟩
   rintro σ _ ⟨rfl,rfl⟩;refine ⟨ν,aF a _ ⟨rfl,.inr (bi.of el),ν,aF b _ ⟨rfl,.inr (bi.of em),rfl,ν,nF (by rw[hl]) ?_⟩⟩⟩
   refine ⟨ν,aF b _ ⟨rfl,.inr (bi.of em),ν,by lia,by lia,cw (fun i σ H'=>H=H'/\∃o2:Option V,σ= [Li a,Li b,o2]) ⟨rfl,none,rfl⟩ (fun i σ H' hi hP=>?_) (fun σ H' hP=>?_)⟩⟩
   ·obtain ⟨rfl,o2,rfl⟩:=hP;have hi':i<ys.length:=by lia
    have hx:=F0 (show i<xs.length by lia)
    have hy:=F0 hi';have ea:=each i _ _ hx hy;have ax:fe xs (0+(i:Int))=some xs[i]:=by rw[Gs];exact aC hx
    have ay:fe ys (0+(i:Int))=some ys[i]:=by rw[Gs];exact aC hy
    exact ⟨ν,ν,.inr (.inl (aH a _ _ _ ⟨rfl,rfl,bi.of el,ax,ν,ν,.inr (.inl (aH b _ _ _ ⟨rfl,rfl,bi.of em,ay,b5 _ _ m ⟨rfl,by lia,ea,ν,cU ⟨rfl,ν⟩⟩⟩))⟩))⟩
   ·obtain ⟨rfl,o2,rfl⟩:=hP;exact q
theorem Dq {dV:Value} (F:bh K "_law_uses" "_law_uses" Bj dV f fd):aW P w K mg base aV 1 f fd ["_law_cell","_law_tools"] pG:=by
 have sc:aw ["_law_cell","_law_tools","_law_uses_here","_law_k","_law_number","_law_heat"] ["_law_cell","_law_tools"] (ao Bj):=cN (by decide+kernel)
 and_intros
 ·obtain ⟨_,_,_,rfl,_⟩:=h
  rfl
 obtain ⟨c,ln,zs,rfl,c0,en,zn,q⟩:=h;have sl:sizeLine=16777216:=rfl;refine ⟨_,(ae (bX 2 sc (@bK _ _ _ _ ad)) (ae (cv PassesOwn.never rfl (cu rfl B.IZ ((ak aJ (pv 0) ac)<*>ad)) (iS 3 sc) (ae (bX 4 sc (ak aJ (ak bo (ak bo (ak aJ (ak aQ (pv 0) ac) ac) (ak bH (pv 3) ac)) ac) ac)) (ae (bX 5 sc (ak aJ (ak bo (pv 4) ac) (ai aB (@bK _ _ _ _ (ac<*>(ac<*>((ak fV ac ac)<*>ad)))) (ak aJ (pv 4) ac) (fun _ _=>rfl)))) (af (aT (bZ G0 FZ FY aS (pv 2) ((@bN _ _ _ _ _ ((ai aB (pv 1) (ak aJ (ak bH (ak aQ (pv 0) ac) (pv 3)) (aG aZ rfl B.IS boot_len ((pv 1)<*>ad))) (fun _ _=>rfl))<*>((ak bH ac (ak aJ (pv 4) ac))<*>((pv 5)<*>ad))))<*>ad))))))) (af (au (pv 2))))),?_⟩
 try dsimp only[cxK]
 refine ⟨by show 0<=sizeLine;decide,fun u nu=>?_⟩
 have g1:=aj nu (.lst []);have el:aL H u (.lst []) u=some (.lst []):=ah;generalize aL H u (.lst [])=H1 at g1 el⊢;dsimp only[bM,bY];have m0:=FM c (show (0:Int)<4 by decide)
 have m4:=FT c (show (0:Int)<4 by decide)
 refine ⟨ν,aF _ _ ⟨rfl,rfl,(by show (4:Int)≠0;decide),ν,by lia,by lia,cw (fun i σ H'=>∃(us:List bu) (o1 o2 o3:Option V),σ= [some (.int c),Li ln,Li u,o1,o2,o3]/\aA H H'/\Uz H' u us/\us.length=i/\∀(j:Nat) (x:bu),us[j]?=some x->zs[((c.fdiv 4+j).fmod 6).toNat]?=some x.1/\1<=x.2.1/\x.2.1<=8/\x.2.2<2^30) (aH [] none none none ⟨rfl,g1,⟨[],el,.nil⟩,rfl,fun j x e=>by simp at e⟩) (fun i σ H2 hi hP=>?_) (fun σ H2 hP=>?_)⟩⟩
 ·obtain ⟨us,o1,o2,o3,rfl,g2,hu,hl,hp⟩:=hP;have n0:=FM (((c.fdiv 4).fmod 1000003*(0+(i:Int)+2))*48271) (show (0:Int)<999983 by decide)
  have n1:=FT (((c.fdiv 4).fmod 1000003*(0+(i:Int)+2))*48271) (show (0:Int)<999983 by decide)
  dsimp only[bM,bY];refine cut (fun σ H'=>∃n:Int,0<=n/\n<999983/\σ= [some (.int c),Li ln,Li u,some (.int (0+(i:Int))),some (.int n),o3]/\H2=H') (fun N hN=>?_) ?_
  ·have a0:=FM (c.fdiv 4) (show (0:Int)<1000003 by decide)
   have a1:=FT (c.fdiv 4) (show (0:Int)<1000003 by decide)
   have b1:Bd 20 ((c.fdiv 4).fmod 1000003):=by unfold Bd;show _<1048576;lia
   have b2:Bd 20 (0+(i:Int)+2):=by unfold Bd;show _<1048576;lia
   exact ⟨ν,aF _ _ ⟨rfl,rfl,⟨by decide,FX (by decide)⟩,aF _ _ ⟨rfl,rfl,(by show (1000003:Int)≠0;decide),ν,aF _ _ ⟨rfl,rfl,aF _ _ ⟨rfl,rfl,b1.ok b2,aF _ _ ⟨rfl,rfl,IntMulOk.of_right (by decide),aF _ _ ⟨rfl,rfl,(by show (999983:Int)≠0;decide),hN _ _ ⟨_,n0,n1,rfl,rfl⟩⟩⟩⟩⟩⟩⟩⟩
  rintro σ _ ⟨n,n0',n1',rfl,rfl⟩;refine cut (fun σ H'=>∃h:Nat,h<2^30/\σ= [some (.int c),Li ln,Li u,some (.int (0+(i:Int))),some (.int n),some (vN h)]/\aA H2 H') (fun N hN=>?_) ?_
  ·refine ⟨ν,aF _ _ ⟨rfl,rfl,IntMulOk.of_right (by decide),aF _ _ ⟨rfl,rfl,⟨by decide,by decide⟩,by show 3<=sizeLine;decide,fun ld nd=>?_⟩⟩⟩
   have gd:=aj nd (.lst [.int 1,.int 300,.int (10^9)]);have r0:=FM n (show (0:Int)<3 by decide)
   have r1:=FT n (show (0:Int)<3 by decide)
   refine ⟨ν,aF _ _ ⟨rfl,rfl,(by show (3:Int)≠0;decide),?_⟩⟩
   have pick:∃m:Int,0<m/\m<=1000000000/\fe [V.int 1,V.int 300,V.int (10^9)] (n.fmod 3)=some (.int m):=by
    rcases (show n.fmod 3=0∨n.fmod 3=1∨n.fmod 3=2 by lia) with e|e|e<;>rw[e]
    ·exact ⟨1,by decide,by decide,rfl⟩
    ·exact ⟨300,by decide,by decide,rfl⟩
    ·exact ⟨10^9,by decide,by decide,rfl⟩
   obtain ⟨m,m0',m1',at_⟩:=pick;have h0:=FM (n*7) m0';have h1:=FT (n*7) m0';exact (aH ld _ _ _ ⟨rfl,rfl,aO.of ah,at_,aF _ _ ⟨rfl,rfl,by lia,hN _ _ ⟨((n*7).fmod m).toNat,by lia,by rw[show vN ((n*7).fmod m).toNat= .int ((n*7).fmod m) from congrArg V.int (Gz h0)];rfl,gd⟩⟩⟩)
  rintro σ H3 ⟨h,h30,rfl,g3⟩;have g23:=g2.trans g3;have w0:=FM n (show (0:Int)<8 by decide)
  have w1:=FT n (show (0:Int)<8 by decide)
  have d0:=FM (c.fdiv 4+(i:Int)) (show (0:Int)<6 by decide)
  have d1:=FT (c.fdiv 4+(i:Int)) (show (0:Int)<6 by decide)
  have zl:=zn.len;have hz:=F0 (show ((c.fdiv 4+(i:Int)).fmod 6).toNat<zs.length by lia)
  generalize zs[((c.fdiv 4+(i:Int)).fmod 6).toNat]=z at hz;have at_:fe (zs.map V.str) ((c.fdiv 4+(0+(i:Int))).fmod 6)=some (.str z):=by
   rw[Gs,<-Gz d0];exact aC (by rw[FP,hz];rfl)
  obtain ⟨vs,eu,ru⟩:=id (hu.same g3);refine ⟨ν,.inl ⟨rfl,_,aO.of eu⟩,ν,ν,aF _ _ ⟨rfl,rfl,⟨by decide,FX (by decide)⟩,ν,aF _ _ ⟨rfl,rfl,ν,aF ln _ ⟨rfl,.inl (aO.of (g23 _ _ en)),aF _ _ ⟨rfl,rfl,(by show ((zs.map V.str).length:Int)≠0;rw[F6,zl];decide),?_⟩⟩⟩⟩⟩
  rw[F6,zl];refine (aH ln _ _ _ ⟨rfl,rfl,aO.of (g23 _ _ en),at_,ν,aF _ _ ⟨rfl,rfl,(by show (8:Int)≠0;decide),aF _ _ ⟨rfl,rfl,ν,by show 3<=sizeLine;decide,fun t nt=>?_⟩⟩⟩)
  have gt:=aj nt (.tup [.str z,.int (1+n.fmod 8),vN h]);obtain ⟨vs',e1,e2,e3⟩:=wF (f:=ja) ((hu.same g3).same gt) (x:=(z,(1+n.fmod 8).toNat,h)) (t:=t) (by rw[ah];show _=some (HO.tup [.str z,.int (((1+n.fmod 8).toNat:Nat):Int),vN h]);rw[Gz (by lia)])
  refine (b5 u _ _ ⟨rfl,rfl,e1,by lia,aH _ _ _ _ ⟨rfl,fH (g23.trans gt) nu _,e3,by rw[FQ,hl];rfl,fun j x hj=>?_⟩⟩)
  by_cases jl:j<us.length
  ·rw[FV jl] at hj;exact hp j x hj
  ·rw[FN (by lia)] at hj
   have j0:j-us.length=0:=by
    cases hk:j-us.length with
    |zero=>rfl
    |succ n=>rw[hk] at hj;simp at hj
   rw[j0] at hj;cases hj;have:j=i:=by lia
   rw[this];exact ⟨hz,by show 1<=(1+n.fmod 8).toNat;lia,by show (1+n.fmod 8).toNat<=8;lia,h30⟩
 ·obtain ⟨us,o1,o2,o3,rfl,g2,hu,hl,hp⟩:=hP;refine ⟨ν,q u us H2 g2 nu hu ⟨by lia,?_,fun x hx=>?_⟩⟩
  ·refine HK.mpr fun i j hi hj hij=>?_
   rw[F6] at hi hj;rw[Gm,Gm];have h1:=(hp i _ (F0 hi)).1;have h2:=(hp j _ (F0 hj)).1;intro z;rw[z] at h1;have e:=(List.getElem?_inj (bv h1) zn.nd).mp (h1.trans h2.symm);rw[HI _ (by decide),HI _ (by decide)] at e
   lia
  ·obtain ⟨j,hj⟩:=G4.mp hx;obtain ⟨k1,k2⟩:=hp j x hj;exact ⟨zn.nm _ (F9 k1),k2⟩
theorem Dr {dV:Value} (F:bh K "_law_span" "_law_span" Bk dV f fd):aW P w K mg base aV 1 f fd ["_law_cell"] pH:=by
 have sc:aw ["_law_cell","_law_number","_law_least"] ["_law_cell"] (ao Bk):=cN (by decide+kernel)
 and_intros
 ·obtain ⟨_,rfl,_⟩:=h
  rfl
 obtain ⟨c,rfl,c0,q⟩:=h;have sl:sizeLine=16777216:=rfl;refine ⟨_,(ae (bX 1 sc (ak aJ (ak bo (ak aJ (pv 0) ac) ac) ac)) (ae (bX 2 sc (ak bH ac (ai aB (@bK _ _ _ _ ((ak aJ (pv 1) ac)<*>((ak aJ (ak bo (pv 1) ac) (ak fV ac ac))<*>ad))) (ak aJ (ak aQ (pv 1) ac) ac) (fun _ _=>rfl)))) (af (au (@bN _ _ _ _ _ ((pv 2)<*>((ak bH (pv 2) (ai aB (@bK _ _ _ _ (ac<*>((ak aJ (ak aQ (pv 1) ac) ac)<*>((ak aJ (ak bo (pv 1) ac) (ak fV ac ac))<*>ad)))) (ak aJ (ak aQ (pv 1) ac) ac) (fun _ _=>rfl)))<*>ad))))))),?_⟩
 try dsimp only[cxK]
 have n0:=FM (c.fmod 1000003*48271) (show (0:Int)<999983 by decide)
 have n1:=FT (c.fmod 1000003*48271) (show (0:Int)<999983 by decide)
 refine cut (fun σ H'=>∃n:Int,0<=n/\n<999983/\σ= [some (.int c),some (.int n),none]/\H=H') (fun N hN=>?_) ?_
 ·exact ⟨ν,aF _ _ ⟨rfl,rfl,(by show (1000003:Int)≠0;decide),aF _ _ ⟨rfl,rfl,IntMulOk.of_right (by decide),aF _ _ ⟨rfl,rfl,(by show (999983:Int)≠0;decide),hN _ _ ⟨_,n0,n1,rfl,rfl⟩⟩⟩⟩⟩
 rintro σ _ ⟨n,n0',n1',rfl,rfl⟩;have t0:=FM (n*1013) (show (0:Int)<10^9 by decide)
 have t1:=FT (n*1013) (show (0:Int)<10^9 by decide)
 have u0:=FM n (show (0:Int)<9 by decide)
 have u1:=FT n (show (0:Int)<9 by decide)
 refine cut (fun σ H'=>∃l:Int,1<=l/\l<=1000000000/\σ= [some (.int c),some (.int n),some (.int l)]/\aA H H') (fun N hN=>?_) ?_
 ·refine ⟨ν,aF _ _ ⟨rfl,rfl,(by show (9:Int)≠0;decide),ν,aF _ _ ⟨rfl,rfl,IntMulOk.of_right (by decide),aF _ _ ⟨rfl,rfl,⟨by decide,by decide⟩,aF _ _ ⟨rfl,rfl,(by show (10^9:Int)≠0;decide),by show 2<=sizeLine;decide,fun ld nd=>?_⟩⟩⟩⟩⟩
  have gd:=aj nd (.lst [.int (n.fmod 9),.int ((n*1013).fmod (10^9))]);have r0:=FM (n.fdiv 9) (show (0:Int)<2 by decide)
  have r1:=FT (n.fdiv 9) (show (0:Int)<2 by decide)
  have pick:∃m:Int,0<=m/\m<1000000000/\fe [V.int (n.fmod 9),V.int ((n*1013).fmod (10^9))] ((n.fdiv 9).fmod 2)=some (.int m):=by
   rcases (show (n.fdiv 9).fmod 2=0∨(n.fdiv 9).fmod 2=1 by lia) with e|e<;>rw[e]
   ·exact ⟨_,u0,by lia,rfl⟩
   ·exact ⟨_,t0,t1,rfl⟩
  obtain ⟨m,m0',m1',at_⟩:=pick;exact ⟨ν,aF _ _ ⟨rfl,rfl,⟨by decide,FX (by decide)⟩,aF _ _ ⟨rfl,rfl,(by show (2:Int)≠0;decide),aH ld _ _ _ ⟨rfl,rfl,aO.of ah,at_,aF _ _ ⟨rfl,rfl,hN _ _ ⟨1+m,by lia,by lia,rfl,gd⟩⟩⟩⟩⟩⟩
 rintro σ H1 ⟨l,l0,l1,rfl,g1⟩;have v0:=FM (n*517) (show (0:Int)<10^9 by decide)
 have v1:=FT (n*517) (show (0:Int)<10^9 by decide)
 have w0:=FM (n.fdiv 18) (show (0:Int)<20 by decide)
 have w1:=FT (n.fdiv 18) (show (0:Int)<20 by decide)
 refine ⟨ν,ν,ν,aF _ _ ⟨rfl,rfl,⟨by decide,FX (by decide)⟩,aF _ _ ⟨rfl,rfl,(by show (20:Int)≠0;decide),ν,aF _ _ ⟨rfl,rfl,IntMulOk.of_right (by decide),aF _ _ ⟨rfl,rfl,⟨by decide,by decide⟩,aF _ _ ⟨rfl,rfl,(by show (10^9:Int)≠0;decide),by show 3<=sizeLine;decide,fun ld nd=>?_⟩⟩⟩⟩⟩⟩
 have gd:=aj nd (.lst [.int 0,.int ((n.fdiv 18).fmod 20),.int ((n*517).fmod (10^9))]);have r0:=FM (n.fdiv 360) (show (0:Int)<3 by decide)
 have r1:=FT (n.fdiv 360) (show (0:Int)<3 by decide)
 have pick:∃m:Int,0<=m/\m<1000000000/\fe [V.int 0,V.int ((n.fdiv 18).fmod 20),V.int ((n*517).fmod (10^9))] ((n.fdiv 360).fmod 3)=some (.int m):=by
  rcases (show (n.fdiv 360).fmod 3=0∨(n.fdiv 360).fmod 3=1∨(n.fdiv 360).fmod 3=2 by lia) with e|e|e<;>rw[e]
  ·exact ⟨0,by decide,by decide,rfl⟩
  ·exact ⟨_,w0,by lia,rfl⟩
  ·exact ⟨_,v0,v1,rfl⟩
 obtain ⟨m,m0',m1',at_⟩:=pick;refine ⟨ν,aF _ _ ⟨rfl,rfl,⟨by decide,FX (by decide)⟩,aF _ _ ⟨rfl,rfl,(by show (3:Int)≠0;decide),aH ld _ _ _ ⟨rfl,rfl,aO.of ah,at_,aF _ _ ⟨rfl,rfl,by show 2<=sizeLine;decide,fun t nt=>?_⟩⟩⟩⟩⟩
 exact q t l.toNat (l+m).toNat _ ((g1.trans gd).trans (aj nt _)) (by rw[ah];show _=some (HO.tup [.int ((l.toNat:Nat):Int),.int (((l+m).toNat:Nat):Int)]);rw[Gz (by lia),Gz (by lia)]) (by lia) (by lia) (by lia)
theorem Ds {dV:Value} (F:bh K "_law_row" "_law_row" Bl dV f fd) (DZ48:Dx P w K mg base aV 2 "_law_lowest" ["_law_top","_law_bottom"] [] nP) (DZ57:Dx P w K mg base aV 1 "_law_uses" ["_law_cell","_law_tools"] [] pG) (DZ58:Dx P w K mg base aV 1 "_law_span" ["_law_cell"] [] pH):aW P w K mg base aV 3 f fd ["_law_cell","_law_more","_law_name","_law_tools"] sM:=by
 have sc:aw ["_law_cell","_law_more","_law_name","_law_tools","_law_least","_law_most","_law_fill","_law_second","_law_span_here"] ["_law_cell","_law_more","_law_name","_law_tools"] (ao Bl):=cN (by decide+kernel)
 and_intros
 ·obtain ⟨_,_,_,_,_,rfl,_⟩:=h
  rfl
 refine ku h fun c m n ln _hi=>?_
 refine jQ _hi fun zs _hj=>?_
 refine im _hj fun _r1 c0 m0 nn en _hk=>?_
 refine iV _hk fun zn q=>?_
 clear h _hi _hj _hk;subst _r1;have sl:sizeLine=16777216:=rfl;refine ⟨_,(ae (uH (bU DZ58 hr ((ak aQ (pv 0) ac)<*>ad)) (iq rfl (bL (iS 4 sc) (bL (iS 5 sc) eM)))) (ae (bX 6 sc (bU DZ48 hr ((ak bH ac (ak aJ (pv 1) ac))<*>((ak bH ac (ak aJ (ak aQ (pv 1) ac) ac))<*>ad)))) (ae (aI (ar bO (ak aJ (ak aQ (pv 1) ac) ac) ac (aD _)) (af (bX 6 sc (@bN _ _ _ _ _ ((ak bH (ak fV ac ac) (ak aJ (pv 1) ac))<*>(ac<*>ad))))) az) (ae (bX 7 sc aR) (ae (aI (ar bO (ak aJ (ak aQ (pv 1) ac) ac) ac (aD _)) (ae (bX 8 sc (bU DZ58 hr ((ak aQ (pv 1) ac)<*>ad))) (af (bX 7 sc (@bN _ _ _ _ _ ((ai (aq (K:=K) rfl) (pv 8) ac (fun _ _=>rfl))<*>((ai (aq (K:=K) rfl) (pv 8) ac (fun _ _=>rfl))<*>((bU DZ57 hr ((ak aQ (pv 1) ac)<*>((pv 3)<*>ad)))<*>ad))))))) az) (af (au (@bN _ _ _ _ _ ((ai aB (@bK _ _ _ _ (aN<*>(aN<*>(aN<*>ad)))) (ak aJ (pv 0) ac) (fun _ _=>rfl))<*>((pv 2)<*>((pv 4)<*>((pv 5)<*>((pv 6)<*>((bU DZ57 hr ((ak aQ (pv 0) ac)<*>((pv 3)<*>ad)))<*>((pv 7)<*>ad))))))))))))))),?_⟩
 try dsimp only[cxK]
 refine cut (fun σ H'=>∃lo hi:Nat,σ= [some (.int c),some (.int m),some (.str n),Li ln,some (vN lo),some (vN hi),none,none,none]/\aA H H'/\1<=lo/\lo<=hi/\hi<=2000000000) (fun N hN=>?_) ?_
 ·exact ⟨ν,aF _ _ ⟨rfl,rfl,⟨by decide,FX (by decide)⟩,ν,Int.fdiv_nonneg c0 (by decide),fun t lo hi H1 g1 et l1 l2 l3=>(aF t _ ⟨rfl,bi.of et,rfl,aF _ _ ⟨rfl,aF _ _ ⟨rfl,rfl,hN _ _ (aF lo hi ⟨rfl,g1,l1,l2,l3⟩)⟩⟩⟩)⟩⟩
 rintro σ H1 ⟨lo,hi,rfl,g1,l1,l2,l3⟩;have r0:=FM m (show (0:Int)<12 by decide)
 have r1:=FT m (show (0:Int)<12 by decide)
 have s0:=FM (m.fdiv 12) (show (0:Int)<5 by decide)
 have s1:=FT (m.fdiv 12) (show (0:Int)<5 by decide)
 refine cut (fun σ H'=>∃(tf:Addr) (am:dE),σ= [some (.int c),some (.int m),some (.str n),Li ln,some (vN lo),some (vN hi),Li tf,none,none]/\aA H1 H'/\H' tf=some (.tup (wP am))/\0<am.1/\0<am.2/\am.2<10000/\HC am.2 am.1=1/\am.1/am.2<10^30) (fun N hN=>?_) ?_
 ·refine ⟨ν,aF _ _ ⟨rfl,rfl,(by show (12:Int)≠0;decide),aF _ _ ⟨rfl,rfl,ν,aF _ _ ⟨rfl,rfl,⟨by decide,FX (by decide)⟩,aF _ _ ⟨rfl,rfl,(by show (5:Int)≠0;decide),aF _ _ ⟨rfl,rfl,aF _ _ ⟨rfl,by lia,Bd.mono (m:=10) (by unfold Bd;show _<1024;lia) (by decide),fun p q f t H2 g2 et=>?_⟩⟩⟩⟩⟩⟩⟩
  obtain ⟨a,b,rfl,rfl,a0,b0,gc,a1,b1⟩:=wI f (by lia) (by lia)
  refine hN _ _ (aF t (a,b) ⟨rfl,g2,et,a0,b0,by show b<10000;lia,gc,?_⟩)
  have:=Nat.div_le_self a b;exact Ge this (GW (show a<13 by lia) (by decide+kernel))
 rintro σ H2 ⟨tf0,am0,rfl,g2,et0,a0,b0,b1,gc,dv⟩;have g12:=g1.trans g2;refine cut (fun σ H'=>∃(tf:Addr) (am:dE),σ= [some (.int c),some (.int m),some (.str n),Li ln,some (vN lo),some (vN hi),Li tf,none,none]/\aA H2 H'/\H' tf=some (.tup (wP am))/\0<am.1/\0<am.2/\am.2<10000/\HC am.2 am.1=1/\am.1/am.2<10^30) (fun N hN=>?_) ?_
 ·refine ⟨ν,aF _ _ ⟨rfl,rfl,⟨by decide,FX (by decide)⟩,aF _ _ ⟨rfl,rfl,(by show (16:Int)≠0;decide),rfl,ν,uB (fun _=>?_) (fun _=>hN _ _ (aF tf0 am0 ⟨rfl,.refl _,et0,a0,b0,b1,gc,dv⟩))⟩⟩⟩
  have w0:=FM m (show (0:Int)<1000 by decide)
  have w1:=FT m (show (0:Int)<1000 by decide)
  refine (aF _ _ ⟨rfl,rfl,⟨by decide,by decide⟩,ν,aF _ _ ⟨rfl,rfl,(by show (1000:Int)≠0;decide),aF _ _ ⟨rfl,rfl,by show 2<=sizeLine;decide,fun t nt=>hN _ _ (aF t ((10^29+m.fmod 1000).toNat,1) ⟨rfl,aj nt _,?_,?_,Nat.one_pos,(by show 1<10000;decide),Nat.gcd_one_left _,?_⟩)⟩⟩⟩)
  ·rw[ah];show _=some (HO.tup [.int (((10^29+m.fmod 1000).toNat:Nat):Int),.int 1]);rw[Gz (by lia)]
   rfl
  ·show 0<(10^29+m.fmod 1000).toNat
   lia
  ·show (10^29+m.fmod 1000).toNat/1<10^30;rw[Nat.div_one]
   lia
 rintro σ H3 ⟨tf,am,rfl,g3,et,a0,b0,b1,gc,dv⟩;have g13:=g12.trans g3;refine cut (fun σ H'=>σ= [some (.int c),some (.int m),some (.str n),Li ln,some (vN lo),some (vN hi),Li tf,some .non,none]/\H3=H') (fun N hN=>hN _ _ ⟨rfl,rfl⟩) ?_
 rintro σ _ ⟨rfl,rfl⟩;refine cut (fun σ H'=>∃(sv:V) (sec:Option (Nat×Nat×List bu)) (o:Option V),σ= [some (.int c),some (.int m),some (.str n),Li ln,some (vN lo),some (vN hi),Li tf,some sv,o]/\aA H3 H'/\oU H' sv sec/\(∀(t l2:Addr) (x y:V),sv= .ref t->H' t=some (.tup [x,y,.ref l2])->H l2=none)/\∀x,sec=some x->1<=x.1/\x.1<=x.2.1/\x.2.1<=2000000000/\m9 x.2.2) (fun N hN=>?_) ?_
 ·refine ⟨ν,aF _ _ ⟨rfl,rfl,⟨by decide,FX (by decide)⟩,aF _ _ ⟨rfl,rfl,(by show (2:Int)≠0;decide),rfl,ν,uB (fun _=>?_) (fun _=>hN _ _ (b5 .non none none ⟨rfl,.refl _,rfl,fun t l2 x y e=>(by cases e),fun x e=>(by cases e)⟩))⟩⟩⟩
  refine ⟨ν,aF _ _ ⟨rfl,rfl,⟨by decide,FX (by decide)⟩,ν,Int.fdiv_nonneg m0 (by decide),fun t x y H4 g4 et4 x1 x2 x3=>?_⟩⟩
  dsimp only[bM,bY];have g14:=g13.trans g4;refine ⟨ν,aH t _ _ _ ⟨rfl,rfl,bi.of et4,rfl,ν,aH t _ _ _ ⟨rfl,rfl,bi.of et4,rfl,ν,aF _ _ ⟨rfl,rfl,⟨by decide,FX (by decide)⟩,ν,b5 _ ln zs ⟨rfl,Int.fdiv_nonneg m0 (by decide),g14 _ _ en,zn,fun u us H5 g5 nu hu ub=>⟨by show 3<=sizeLine;decide,fun t2 n2=>?_⟩⟩⟩⟩⟩⟩
  have g6:=aj n2 (.tup [vN x,vN y,.ref u]);refine hN _ _ (b5 (.ref t2) (some (x,y,us)) _ ⟨rfl,(g4.trans g5).trans g6,(aF t2 u ⟨rfl,ah,hu.same g6⟩),fun t l2 a b e1 e2=>?_,fun z e=>by cases e;exact ⟨x1,x2,x3,ub⟩⟩)
  cases e1;rw[ah] at e2;cases e2;exact g14.free nu
 rintro σ H4 ⟨sv,sec,o,rfl,g4,hs,ns,hsb⟩;have g14:=g13.trans g4;refine ⟨by show 3<=sizeLine;decide,fun ld nd=>?_⟩
 have gd:=aj nd (.lst [.str "cut",.str "rest",.str "warm"]);have v0:=FM c (show (0:Int)<3 by decide)
 have v1:=FT c (show (0:Int)<3 by decide)
 have pick:∃w:Str,v5 w/\fe [V.str "cut",V.str "rest",V.str "warm"] (c.fmod 3)=some (.str w):=by
  rcases (show c.fmod 3=0∨c.fmod 3=1∨c.fmod 3=2 by lia) with e|e|e<;>rw[e]
  ·exact ⟨_,.inl rfl,rfl⟩
  ·exact ⟨_,.inr (.inl rfl),rfl⟩
  ·exact ⟨_,.inr (.inr rfl),rfl⟩
 obtain ⟨w,wd,at_⟩:=pick;refine ⟨ν,aF _ _ ⟨rfl,rfl,(by show (3:Int)≠0;decide),aH ld _ _ _ ⟨rfl,rfl,aO.of ah,at_,ν,ν,ν,ν,ν,aF _ _ ⟨rfl,rfl,⟨by decide,FX (by decide)⟩,ν,b5 _ ln zs ⟨rfl,Int.fdiv_nonneg c0 (by decide),gd _ _ (g14 _ _ en),zn,fun u us H5 g5 nu hu ub=>⟨ν,by show 7<=sizeLine;decide,fun t nt=>?_⟩⟩⟩⟩⟩⟩
 have gt:=aj nt (.tup [.str w,.str n,vN lo,vN hi,.ref tf,.ref u,sv]);have g45:=(gd.trans g5).trans gt;have gA:=g14.trans g45;have mk:=sN (s:=⟨w,n,lo,hi,if w= "warm" then some am else none,us,sec⟩) gA ah ((g4.trans g45) _ _ et) (fun f e=>by
  dsimp only at e
  by_cases ew:w= "warm"
  ·rw[if_pos ew] at e;exact (GK e).symm
  ·rw[if_neg ew] at e;cases e) (hu.same gt) ((g14.trans gd).free nu) (hs.same g45) (fun t l2 x y e1 e2=>by
   subst e1
   match sec,hs with
   |none,hs=>cases hs
   |some (a,b,vs),⟨t',l',k1,k2,k3⟩=>
    cases k1;rw[g45 _ _ k2] at e2;cases e2;exact ns _ _ _ _ rfl k2)
 refine q _ _ _ gA mk.1 mk.2 ⟨wd,nn,⟨l1,l2,l3⟩,?_,ub,hsb⟩ rfl;show yr w (if w= "warm" then some am else none)
 by_cases ew:w= "warm"
 ·rw[if_pos ew];exact ⟨ew,a0,b0,b1,gc,dv⟩
 ·rw[if_neg ew];exact ew
theorem Dt {dV:Value} (F:bh K "_law_step" "_law_step" Bm dV f fd) (DZ26:kr P w K mg base aV 1 Ja ["self","name","least","most","uses","second"] [.non,.non] (gR K)) (DZ27:kr P w K mg base aV 2 Jm ["self","name","least","most","fill","uses","second"] [.non,.non] (i8 K)):aW P w K mg base aV 4 f fd ["_law_row_here"] (pI Hy Go on):=by
 have sc:aw ["_law_row_here","_law_uses_here","_law_second"] ["_law_row_here"] (ao Bm):=cN (by decide+kernel)
 and_intros
 ·obtain ⟨_,_,rfl,_⟩:=h
  rfl
 obtain ⟨v,⟨w,n,lo,hi,fl,us,sec⟩,rfl,⟨a,tf,u,sv,am,rfl,ea,etf,hfl,hu,hs⟩,fo,wd,q⟩:=h;refine ⟨_,(ae (bX 1 sc (a7 cB rfl B.Jj boot_list ((ai (aq (K:=K) rfl) (pv 0) ac (fun _ _=>rfl))<*>ad))) (ae (bX 2 sc aR) (ae (aI (ar eN (ai (aq (K:=K) rfl) (pv 0) ac (fun _ _=>rfl)) aR (aD _)) (af (bX 2 sc (@bN _ _ _ _ _ ((ai (aq (K:=K) rfl) (ai (aq (K:=K) rfl) (pv 0) ac (fun _ _=>rfl)) ac (fun _ _=>rfl))<*>((ai (aq (K:=K) rfl) (ai (aq (K:=K) rfl) (pv 0) ac (fun _ _=>rfl)) ac (fun _ _=>rfl))<*>((a7 cB rfl B.Jj boot_list ((ai (aq (K:=K) rfl) (ai (aq (K:=K) rfl) (pv 0) ac (fun _ _=>rfl)) ac (fun _ _=>rfl))<*>ad))<*>ad)))))) az) (ae (aI (ar bO (ai (aq (K:=K) rfl) (pv 0) ac (fun _ _=>rfl)) aN (aD _)) (af (au (jy B.Kk DZ26 hr (by decide) rfl B.KN ((ai (aq (K:=K) rfl) (pv 0) ac (fun _ _=>rfl))<*>((ai (aq (K:=K) rfl) (pv 0) ac (fun _ _=>rfl))<*>((ai (aq (K:=K) rfl) (pv 0) ac (fun _ _=>rfl))<*>((pv 1)<*>((pv 2)<*>ad)))))))) az) (ae (aI (ar bO (ai (aq (K:=K) rfl) (pv 0) ac (fun _ _=>rfl)) aN (aD _)) (af (au (jy B.J9 DZ27 hr (by decide) rfl B.Kl ((ai (aq (K:=K) rfl) (pv 0) ac (fun _ _=>rfl))<*>((ai (aq (K:=K) rfl) (pv 0) ac (fun _ _=>rfl))<*>((ai (aq (K:=K) rfl) (pv 0) ac (fun _ _=>rfl))<*>((ai (aq (K:=K) rfl) (pv 0) ac (fun _ _=>rfl))<*>((pv 1)<*>((pv 2)<*>ad))))))))) az) (af (au (jy B.Ka DZ26 hr (by decide) rfl B.Kn ((ai (aq (K:=K) rfl) (pv 0) ac (fun _ _=>rfl))<*>((ai (aq (K:=K) rfl) (pv 0) ac (fun _ _=>rfl))<*>((ai (aq (K:=K) rfl) (pv 0) ac (fun _ _=>rfl))<*>((pv 1)<*>((pv 2)<*>ad))))))))))))),?_⟩
 try dsimp only[cxK]
 have sl:sizeLine=16777216:=rfl;dsimp only at ea hfl hu hs wd fo;obtain ⟨vs,eu,ra⟩:=hu;obtain ⟨as,rfl⟩:=A2.ref ra;refine ⟨ν,aH a _ _ _ ⟨rfl,rfl,bi.of ea,rfl,aF u _ ⟨rfl,.inl (aO.of eu),fun lu nlu=>?_⟩⟩⟩
 have g1:=aj nlu (.lst (as.map V.ref));have elu:aL H lu (.lst (as.map V.ref)) lu=some (.lst (as.map V.ref)):=ah;generalize aL H lu (.lst (as.map V.ref))=H1 at g1 elu⊢;dsimp only[bM,bY];refine cut (fun σ H'=>σ= [Li a,Li lu,some .non]/\H1=H') (fun N hN=>hN _ _ ⟨rfl,rfl⟩) ?_
 rintro σ _ ⟨rfl,rfl⟩;refine cut (fun σ H'=>∃(ov:V) (c:qD),σ= [Li a,Li lu,some ov]/\aA H1 H'/\jN H' ov c/\wc H c sec) (fun N hN=>?_) ?_
 ·match sec,hs with
  |none,hs=>
   have hs:sv= .non:=hs;subst hs;exact ⟨ν,aH a _ _ _ ⟨rfl,rfl,bi.of (g1 _ _ ea),rfl,rfl,ν,nF rfl (hN _ _ (aF .non none ⟨rfl,.refl _,rfl,trivial⟩))⟩⟩
  |some (lo2,hi2,us2),⟨b,l2,e1,e2,⟨v2,e4,r4⟩⟩=>
   subst e1;obtain ⟨bs,rfl⟩:=A2.ref r4;have A:=g1 _ _ ea;have E2:=g1 _ _ e2;refine ⟨ν,aH a _ _ _ ⟨rfl,rfl,bi.of A,rfl,rfl,ν,nT (fun z=>nomatch z) ⟨ν,aH a _ _ _ ⟨rfl,rfl,bi.of A,rfl,aH b _ _ _ ⟨rfl,rfl,bi.of E2,rfl,ν,aH a _ _ _ ⟨rfl,rfl,bi.of A,rfl,aH b _ _ _ ⟨rfl,rfl,bi.of E2,rfl,ν,aF a _ ⟨ω,bi.of A,rfl,b,_,ω,bi.of E2,rfl,l2,ν,.inl (aO.of (g1 _ _ e4)),fun lc nc=>⟨by show 3<=sizeLine;decide,fun tc ntc=>?_⟩⟩⟩⟩⟩⟩⟩⟩⟩
   have g3:=aj nc (.lst (bs.map V.ref));have g4:=aj ntc (.tup [vN lo2,vN hi2,.ref lc]);exact hN _ _ (aF (.ref tc) (some (lo2,hi2,bs)) ⟨rfl,g3.trans g4,(aF tc lc ⟨rfl,ah,g4 _ _ ah⟩),rfl,rfl,r4⟩)
 rintro σ H2 ⟨ov,c,rfl,g2,hc,hr2⟩;have g12:=g1.trans g2;refine cut (fun σ H'=>σ= [Li a,Li lu,some ov]/\H2=H'/\w≠ "cut") (fun N hN=>?_) ?_
 ·refine ⟨ν,aH a _ _ _ ⟨rfl,rfl,bi.of (g12 _ _ ea),rfl,rfl,ν,oP (fun e=>?_) fun e=>hN _ _ ⟨rfl,rfl,e⟩⟩⟩
  match fl,fo with
  |some am',z=>exact absurd (e.symm.trans z.1) (by decide)
  |none,_=>
  refine ⟨ν,aH a _ _ _ ⟨rfl,rfl,bi.of (g12 _ _ ea),rfl,ν,aH a _ _ _ ⟨rfl,rfl,bi.of (g12 _ _ ea),rfl,ν,aH a _ _ _ ⟨rfl,rfl,bi.of (g12 _ _ ea),rfl,ν,ν,fun x dx nx nd nxd=>?_⟩⟩⟩⟩
  have gm:=dH (C:=Hy) nx nd;refine (i9 x _ dx n lo hi (.ref lu) ov as ⟨c,⟨rfl,ah,⟨B.Ji,B.IF,B.ID,B.IG,B.Iy,B.Im⟩,.inr ⟨lu,rfl,gm _ _ (g2 _ _ elu)⟩,hc.same gm,fun u3 s H6 k6 ux nu eu6 hs6 ex=>⟨rfl,?_⟩⟩⟩)
  have g6:=df nx nd k6;have gZ:=g12.trans g6;refine q x H6 gZ fun H9 kp=>?_
  have kN:∀{b:Addr} {o:HO},H6 b=some o->H b=none->H9 b=some o:=fun e n=>kp _ _ e fun ws z=>by rw[n] at z;cases z
  have kT:∀{b:Addr} {xs:List V},H b=some (.tup xs)->H9 b=some (.tup xs):=fun e=>kp _ _ (gZ _ _ e) fun ws z=>by rw[e] at z;cases z
  have gA:=g12.trans gm;refine (aH _ dx u3 s ⟨_,⟨kN ex (g12.free nx),.inl ⟨e,rfl⟩,fM,trivial,⟨_,kN eu6 (gA.free nu),ra.imp fun v x ⟨t,e1,e2,e3⟩=>⟨t,e1,e2,kT e3⟩⟩,?_⟩⟩)
  match c,sec,hr2,hs6 with
  |none,none,_,hs6=>exact hs6
  |some (x1,y1,bs),some (lo2,hi2,us2),⟨e1,e2,rb⟩,hs6=>
   obtain ⟨t,l2,f1,f2,f3,f4,f5⟩:=hs6;subst e1 e2;exact (aF t l2 ⟨f1,kN f2 (gA.free f4),_,kN f3 (gA.free f5),rb.imp fun v x ⟨t,e1,e2,e3⟩=>⟨t,e1,e2,kT e3⟩⟩)
 rintro σ _ ⟨rfl,rfl,w1⟩;refine cut (fun σ H'=>σ= [Li a,Li lu,some ov]/\H2=H'/\w≠ "warm") (fun N hN=>?_) ?_
 ·refine ⟨ν,aH a _ _ _ ⟨rfl,rfl,bi.of (g12 _ _ ea),rfl,rfl,ν,oP (fun e=>?_) fun e=>hN _ _ ⟨rfl,rfl,e⟩⟩⟩
  match fl,fo with
  |none,z=>exact absurd e z
  |some am',z=>
  obtain rfl:=hfl am' rfl;refine ⟨ν,aH a _ _ _ ⟨rfl,rfl,bi.of (g12 _ _ ea),rfl,ν,aH a _ _ _ ⟨rfl,rfl,bi.of (g12 _ _ ea),rfl,ν,aH a _ _ _ ⟨rfl,rfl,bi.of (g12 _ _ ea),rfl,ν,aH a _ _ _ ⟨rfl,rfl,bi.of (g12 _ _ ea),rfl,ν,ν,fun x dx nx nd nxd=>?_⟩⟩⟩⟩⟩
  have gm:=dH (C:=on) nx nd;refine (i9 x _ dx n lo hi (.ref tf) (.ref lu) ov (aF as c ⟨rfl,ah,⟨B.Jb,B.Iz,B.Iu,B.IA,B.Iq,B.Ii⟩,B.Jg,.inr ⟨lu,rfl,gm _ _ (g2 _ _ elu)⟩,hc.same gm,fun u3 s H6 k6 ux nu eu6 hs6 ex=>⟨rfl,?_⟩⟩))
  have g6:=df nx nd k6;have gZ:=g12.trans g6;refine q x H6 gZ fun H9 kp=>?_
  have kN:∀{b:Addr} {o:HO},H6 b=some o->H b=none->H9 b=some o:=fun e n=>kp _ _ e fun ws z=>by rw[n] at z;cases z
  have kT:∀{b:Addr} {xs:List V},H b=some (.tup xs)->H9 b=some (.tup xs):=fun e=>kp _ _ (gZ _ _ e) fun ws z=>by rw[e] at z;cases z
  have gA:=g12.trans gm;refine (aH _ dx u3 s ⟨_,⟨kN ex (g12.free nx),.inr (.inr ⟨e,rfl⟩),oN,⟨tf,jJ,kT etf⟩,⟨_,kN eu6 (gA.free nu),ra.imp fun v x ⟨t,e1,e2,e3⟩=>⟨t,e1,e2,kT e3⟩⟩,?_⟩⟩)
  match c,sec,hr2,hs6 with
  |none,none,_,hs6=>exact hs6
  |some (x1,y1,bs),some (lo2,hi2,us2),⟨e1,e2,rb⟩,hs6=>
   obtain ⟨t,l2,f1,f2,f3,f4,f5⟩:=hs6;subst e1 e2;exact (aF t l2 ⟨f1,kN f2 (gA.free f4),_,kN f3 (gA.free f5),rb.imp fun v x ⟨t,e1,e2,e3⟩=>⟨t,e1,e2,kT e3⟩⟩)
 rintro σ _ ⟨rfl,rfl,w2⟩;have e:w= "rest" :=by rcases wd with z|z|z<;>first|exact z|exact absurd z w1|exact absurd z w2
 match fl,fo with
 |some am',z=>exact absurd z.1 w2
 |none,_=>
  refine ⟨ν,aH a _ _ _ ⟨rfl,rfl,bi.of (g12 _ _ ea),rfl,ν,aH a _ _ _ ⟨rfl,rfl,bi.of (g12 _ _ ea),rfl,ν,aH a _ _ _ ⟨rfl,rfl,bi.of (g12 _ _ ea),rfl,ν,ν,fun x dx nx nd nxd=>?_⟩⟩⟩⟩
  have gm:=dH (C:=Go) nx nd;refine (i9 x _ dx n lo hi (.ref lu) ov as ⟨c,⟨rfl,ah,⟨B.Jd,B.IB,B.Iv,B.IC,B.Ir,B.Ij⟩,.inr ⟨lu,rfl,gm _ _ (g2 _ _ elu)⟩,hc.same gm,fun u3 s H6 k6 ux nu eu6 hs6 ex=>⟨rfl,?_⟩⟩⟩)
  have g6:=df nx nd k6;have gZ:=g12.trans g6;refine q x H6 gZ fun H9 kp=>?_
  have kN:∀{b:Addr} {o:HO},H6 b=some o->H b=none->H9 b=some o:=fun e n=>kp _ _ e fun ws z=>by rw[n] at z;cases z
  have kT:∀{b:Addr} {xs:List V},H b=some (.tup xs)->H9 b=some (.tup xs):=fun e=>kp _ _ (gZ _ _ e) fun ws z=>by rw[e] at z;cases z
  have gA:=g12.trans gm;refine (aH _ dx u3 s ⟨_,⟨kN ex (g12.free nx),.inr (.inl ⟨e,rfl⟩),fM,trivial,⟨_,kN eu6 (gA.free nu),ra.imp fun v x ⟨t,e1,e2,e3⟩=>⟨t,e1,e2,kT e3⟩⟩,?_⟩⟩)
  match c,sec,hr2,hs6 with
  |none,none,_,hs6=>exact hs6
  |some (x1,y1,bs),some (lo2,hi2,us2),⟨e1,e2,rb⟩,hs6=>
   obtain ⟨t,l2,f1,f2,f3,f4,f5⟩:=hs6;subst e1 e2;exact (aF t l2 ⟨f1,kN f2 (gA.free f4),_,kN f3 (gA.free f5),rb.imp fun v x ⟨t,e1,e2,e3⟩=>⟨t,e1,e2,kT e3⟩⟩)
theorem Du {dV:Value} (F:bh K "_law_up" "_law_up" Bo dV f fd):aW P w K mg base aV 1 f fd ["_law_top","_law_bottom"] qR:=by
 have sc:aw ["_law_top","_law_bottom"] ["_law_top","_law_bottom"] (ao Bo):=cN (by decide+kernel)
 and_intros
 ·obtain ⟨_,_,rfl,_⟩:=h
  rfl
 obtain ⟨a,b,rfl,b0,b9,q⟩:=h;refine ⟨_,(af (au (ak aQ (ak pT (ak bH (pv 0) (pv 1)) ac) (pv 1)))),?_⟩;try dsimp only[cxK]
 refine ⟨ν,ν,aF _ _ ⟨rfl,rfl,aF _ _ ⟨rfl,rfl,ν,aF _ _ ⟨rfl,rfl,⟨by lia,FX (by lia)⟩,?_⟩⟩⟩⟩
 show Q (.int ((a+b-1).fdiv b)) _;rw[CG b0];exact q
theorem Dw {dV:Value} (F:bh K "_law_ways" "_law_ways" Bp dV f fd) (DZ61:Dx P w K mg base aV 1 "_law_up" ["_law_top","_law_bottom"] [] qR):aW P w K mg base aV 2 f fd ["_law_row_here","_law_factor"] pJ:=by
 have sc:aw ["_law_row_here","_law_factor","_law_ways_here","_law_way","_law_least","_law_most"] ["_law_row_here","_law_factor"] (ao Bp):=cN (by decide+kernel)
 and_intros
 ·obtain ⟨_,_,_,_,_,rfl,_⟩:=h
  rfl
 refine ku h fun v s tf p _hi=>?_
 refine jQ _hi fun q _hj=>?_
 refine BH _hj fun _r1 _r2 sb ef p0 p1 q0 q1 Q1=>?_
 clear h _hi _hj;subst _r1;obtain ⟨a,tfl,u,sv,am,rfl,ea,etf,hfl,hu,hs⟩:=_r2;have sl:sizeLine=16777216:=rfl;refine ⟨_,(ae (bX 2 sc (@bK _ _ _ _ ad)) (ae (cv PassesOwn.never rfl (cX (ak mf (@bK _ _ _ _ ((@bN _ _ _ _ _ ((ai (aq (K:=K) rfl) (pv 0) ac (fun _ _=>rfl))<*>((ai (aq (K:=K) rfl) (pv 0) ac (fun _ _=>rfl))<*>((ai (aq (K:=K) rfl) (pv 0) ac (fun _ _=>rfl))<*>ad))))<*>ad)) (ak zA (@bK _ _ _ _ ((ai (aq (K:=K) rfl) (pv 0) ac (fun _ _=>rfl))<*>ad)) (a7 oI rfl B.JD boot_int ((dS eN (ai (aq (K:=K) rfl) (pv 0) ac (fun _ _=>rfl)) aR (aD _))<*>ad))))) (iS 3 sc) (ae (bX 4 sc (ai (aq (K:=K) rfl) (pv 3) ac (fun _ _=>rfl))) (ae (bX 5 sc (ai (aq (K:=K) rfl) (pv 3) ac (fun _ _=>rfl))) (ae (aI (ar bO (ai (aq (K:=K) rfl) (pv 0) ac (fun _ _=>rfl)) aN (aD _)) (ae (bX 4 sc (bU DZ61 hr ((ak bo (pv 4) (ai (aq (K:=K) rfl) (pv 1) ac (fun _ _=>rfl)))<*>((ai (aq (K:=K) rfl) (pv 1) ac (fun _ _=>rfl))<*>ad)))) (af (bX 5 sc (bU DZ61 hr ((ak bo (pv 5) (ai (aq (K:=K) rfl) (pv 1) ac (fun _ _=>rfl)))<*>((ai (aq (K:=K) rfl) (pv 1) ac (fun _ _=>rfl))<*>ad)))))) az) (af (aT (bZ G0 FZ FY aS (pv 2) ((@bN _ _ _ _ _ ((pv 4)<*>((pv 5)<*>((aG jG rfl B.J5 PyProof.Rows.Boot.«sorted» ((ai (aq (K:=K) rfl) (pv 3) ac (fun _ _=>rfl))<*>ad))<*>ad))))<*>ad)))))))) (af (au (pv 2))))),?_⟩
 try dsimp only[cxK]
 refine ⟨by show 0<=sizeLine;decide,fun l nl=>?_⟩
 have g1:=aj nl (.lst []);have el:aL H l (.lst []) l=some (.lst []):=ah;generalize aL H l (.lst [])=H1 at g1 el⊢;dsimp only[bM,bY];refine ⟨ν,aH a _ _ _ ⟨rfl,rfl,bi.of (g1 _ _ ea),rfl,ν,aH a _ _ _ ⟨rfl,rfl,bi.of (g1 _ _ ea),rfl,ν,aH a _ _ _ ⟨rfl,rfl,bi.of (g1 _ _ ea),rfl,by show 3<=sizeLine;decide,fun t1 n1=>?_⟩⟩⟩⟩
 have g2:=aj n1 (.tup [vN s.lo,vN s.hi,.ref u]);have et1:aL H1 t1 (.tup [vN s.lo,vN s.hi,.ref u]) t1=some (.tup [vN s.lo,vN s.hi,.ref u]):=ah;have el2:=g2 _ _ el;generalize aL H1 t1 (.tup [vN s.lo,vN s.hi,.ref u])=H2 at g2 et1 el2⊢;refine ⟨by show 1<=sizeLine;decide,fun l1 m1=>?_⟩
 have g3:=aj m1 (.lst [.ref t1]);have el1:aL H2 l1 (.lst [.ref t1]) l1=some (.lst [.ref t1]):=ah;generalize aL H2 l1 (.lst [.ref t1])=H3 at g3 el1⊢;have g13:=(g1.trans g2).trans g3;refine ⟨ν,aH a _ _ _ ⟨rfl,rfl,bi.of (g13 _ _ ea),rfl,by show 1<=sizeLine;decide,fun l2 m2=>?_⟩⟩
 have g4:=aj m2 (.lst [sv]);have el2':aL H3 l2 (.lst [sv]) l2=some (.lst [sv]):=ah;generalize aL H3 l2 (.lst [sv])=H4 at g4 el2'⊢;have g14:=g13.trans g4;have pick:∃b:Bool,b= !decide (sv= .non)/\A2 (BM H H4) (.ref t1::(if b=true then [sv] else [])) (jb s):=by
  refine ⟨ν,?_⟩;have h1:BM H H4 (.ref t1) (s.lo,s.hi,s.uses):=(aF t1 u ⟨rfl,g4 _ _ (g3 _ _ et1),hu⟩);unfold jb;generalize s.sec=o at hs⊢
  match o,hs with
  |none,hs=>
   have hs:sv= .non:=hs;rw[hs];exact .one h1
  |some (lo,hi,us),⟨t,k,e1,e2,e3⟩=>
   rw[e1];exact A2.cons h1 (.one (aF t k ⟨rfl,g14 _ _ e2,e3⟩))
 obtain ⟨b,eb,rd⟩:=pick;refine ⟨ν,aH a _ _ _ ⟨rfl,rfl,bi.of (g14 _ _ ea),rfl,rfl,b,by rw[eb],b5 l2 _ _ ⟨rfl,rfl,el2',(by cases b<;>decide),(by cases b<;>decide),(by cases b<;>simp[sl]),fun l3 m3=>?_⟩⟩⟩
 have rep:(Gb (if b=true then (1:Int) else 0).toNat [sv]).flatten=if b=true then [sv] else []:=by cases b<;>rfl
 rw[rep];have g5:=aj m3 (.lst (if b=true then [sv] else []))
 have el3:aL H4 l3 (.lst (if b=true then [sv] else [])) l3=some (.lst (if b=true then [sv] else [])):=ah
 generalize aL H4 l3 (.lst (if b=true then [sv] else []))=H5 at g5 el3⊢
 have len2:(if b=true then [sv] else []).length<=1:=by cases b<;>simp
 refine (aH l1 l3 _ _ ⟨rfl,rfl,g5 _ _ (g4 _ _ el1),el3,(by show 1+_<=_;lia),fun wl m4=>?_⟩)
 have g6:=aj m4 (.lst ([.ref t1]++if b=true then [sv] else []))
 have ew:aL H5 wl (.lst ([.ref t1]++if b=true then [sv] else [])) wl=some (.lst ([.ref t1]++if b=true then [sv] else [])):=ah
 generalize aL H5 wl (.lst ([.ref t1]++if b=true then [sv] else []))=H6 at g6 ew⊢
 have rd6:=rd.imp fun v d k=>(k.same g5).same g6
 have g16:=(g14.trans g5).trans g6;have el6:H6 l=some (.lst []):=g6 _ _ (g5 _ _ (g4 _ _ (g3 _ _ el2)));have wne:wl≠l:=fun z=>by rw[z,g5 _ _ (g4 _ _ (g3 _ _ el2))] at m4;cases m4
 change A2 (BM H H6) ([.ref t1]++if b=true then [sv] else []) (jb s) at rd6
 generalize ([.ref t1]++if b=true then [sv] else []:List V)=wv at ew rd6⊢
 have dl:(jb s).length<=2:=by unfold jb;rw[G6];cases s.sec<;>simp
 have rl:=rd6.1;refine ⟨wl,rfl,⟨_,aO.of ew⟩,jg (xs:=wv) (fun i σ H'=>∃(cs:Le) (o1 o2 o3:Option V),σ= [Li a,Li tf,Li l,o1,o2,o3]/\aA H H'/\mX H' l (((jb s).take i).map (wB (decide (s.w= "cut")) p q)) cs/\(l::cs).Nodup/\(∀x∈l::cs,H x=none)/\∀(b:Addr) (o:HO),b≠l->H6 b=some o->H' b=some o) (aH [] none none none ⟨rfl,g16,.nil el6,GR.mpr ⟨fun h=>(by cases h),List.nodup_nil⟩,(fun x hx=>by rw[G3.mp hx];exact nl),fun b o _ e=>e⟩) (fun i σ H' _ h=>by obtain ⟨_,_,_,_,_,_,_,_,_,k⟩:=h;exact aO.of (k _ _ wne ew)) ?_ ?_⟩
 ·rintro i y σ H7 hy ⟨cs,o1,o2,o3,rfl,g7,wo,ndc,nw,kp⟩;obtain ⟨d,hd,t,lu,rfl,e2,e3⟩:=rd6.at_ hy;have il:=bv hd;have hd1:=sb.ds d (F9 hd);have nd1:=sH sb.nd d (F9 hd);have et:H7 t=some (.tup [vN d.1,vN d.2.1,.ref lu]):=kp _ _ (fun z=>by rw[z,el6] at e2;cases e2) e2
  have ea7:=g7 _ _ ea;have ef7:=g7 _ _ ef;refine cut (fun σ H'=>σ= [Li a,Li tf,Li l,Li t,some (vN d.1),o3]/\H7=H') (fun N hN=>⟨ν,aH t _ _ _ ⟨rfl,rfl,bi.of et,rfl,hN _ _ ⟨rfl,rfl⟩⟩⟩) ?_
  rintro σ _ ⟨rfl,rfl⟩;refine cut (fun σ H'=>σ= [Li a,Li tf,Li l,Li t,some (vN d.1),some (vN d.2.1)]/\H7=H') (fun N hN=>⟨ν,aH t _ _ _ ⟨rfl,rfl,bi.of et,rfl,hN _ _ ⟨rfl,rfl⟩⟩⟩) ?_
  rintro σ _ ⟨rfl,rfl⟩;have b1:Bd 40 (d.1:Int):=wz hd1.1;have b2:Bd 40 (d.2.1:Int):=wz hd1.2;have bp:Bd 20 p:=by unfold Bd;show _<1048576;lia
  refine cut (fun σ H'=>σ= [Li a,Li tf,Li l,Li t,some (.int (zc (decide (s.w= "cut")) (d.1:Int) p q)),some (.int (zc (decide (s.w= "cut")) (d.2.1:Int) p q))]/\H7=H') (fun N hN=>?_) ?_
  ·refine ⟨ν,aH a _ _ _ ⟨rfl,rfl,bi.of ea7,rfl,rfl,ν,oP (fun e=>?_) fun e=>hN _ _ ⟨?_,rfl⟩⟩⟩
   ·refine ⟨ν,ν,aH tf _ _ _ ⟨rfl,rfl,bi.of ef7,rfl,aF _ _ ⟨rfl,rfl,b1.ok bp,ν,aH tf _ _ _ ⟨rfl,rfl,bi.of ef7,rfl,aF _ _ ⟨rfl,q0,by lia,?_⟩⟩⟩⟩⟩
    dsimp only[bM,bY];refine ⟨ν,ν,aH tf _ _ _ ⟨rfl,rfl,bi.of ef7,rfl,aF _ _ ⟨rfl,rfl,b2.ok bp,ν,aH tf _ _ _ ⟨rfl,rfl,bi.of ef7,rfl,aF _ _ ⟨rfl,q0,by lia,hN _ _ ⟨?_,rfl⟩⟩⟩⟩⟩⟩
    rw[e]
    rfl
   ·have e':decide (s.w= "cut")=false:=decide_eq_false e;rw[e']
    rfl
  rintro σ _ ⟨rfl,rfl⟩;obtain ⟨vs,ev,_⟩:=id wo;obtain ⟨us,eu,ru⟩:=e3.same g7;obtain ⟨as,rfl⟩:=A2.ref ru;have ul:=za ru nd1;refine ⟨ν,.inl ⟨rfl,_,aO.of ev⟩,ν,ν,ν,aH t _ _ _ ⟨rfl,rfl,bi.of et,rfl,b5 lu as (wN H7) ⟨rfl,eu,ul.tup,ul.nd,ul.sm,fun c bs ncc perm srt=>?_⟩⟩⟩
  have g8:=aj ncc (.lst (bs.map V.ref));have ec:aL H7 c (.lst (bs.map V.ref)) c=some (.lst (bs.map V.ref)):=ah;have cl:c≠l:=fun z=>by rw[z,ev] at ncc;cases ncc
  generalize aL H7 c (.lst (bs.map V.ref))=H8 at g8 ec⊢;refine ⟨by show 3<=sizeLine;decide,fun t2 n2=>?_⟩
  obtain ⟨s1,s2,s3⟩:=wy ru ⟨perm,srt⟩;have g9:=aj n2 (.tup [.int (zc (decide (s.w= "cut")) (d.1:Int) p q),.int (zc (decide (s.w= "cut")) (d.2.1:Int) p q),.ref c]);have wo8:=(wo.same g8).same g9;obtain ⟨ws,k1,k2,k3⟩:=wo8.snoc (w:=wB (decide (s.w= "cut")) p q d) (t:=t2) (c:=c) (GR.mp ndc).1 ah ⟨_,g9 _ _ ec,by
   have e:=wA nd1.1 s2 s3;show A2 _ _ (CD d.2.2);rw[<-e];exact s1.imp fun v u h=>zW h (g8.trans g9)⟩ cl
  refine (b5 l ws _ ⟨rfl,rfl,k1,by rw[k2,F6,GG];lia,aH (cs++ [c]) _ _ _ ⟨rfl,fH ((g7.trans g8).trans g9) nl _,?_,?_,fun x hx=>?_,fun b o hb e=>?_⟩⟩)
  ·rw[Gq,hd,HB,GO];exact k3
  ·rw[<-HH];refine Gf.mpr ⟨ndc,GR.mpr ⟨fun h=>(by cases h),List.nodup_nil⟩,fun x hx y hy z=>?_⟩
   subst z;rw[G3.mp hy] at hx;rcases F8.mp hx with hx|hx
   ·exact cl hx
   ·obtain ⟨zs,ez⟩:=wo.lists hx;rw[ez] at ncc;cases ncc
  ·rw[<-HH] at hx;rcases GD.mp hx with hx|hx
   ·exact nw x hx
   ·rw[G3.mp hx];exact g7.free ncc
  ·rw[av hb];exact g9 _ _ (g8 _ _ (kp b o hb e))
 ·rintro σ H7 ⟨cs,o1,o2,o3,rfl,g7,wo,ndc,nw,kp⟩;rw[rl,List.take_length] at wo;exact ⟨ν,Q1 l cs H7 g7 wo ndc nw⟩
theorem Dy {dV:Value} (F:bh K "_law_due" "_law_due" Bq dV f fd) (DZ61:Dx P w K mg base aV 1 "_law_up" ["_law_top","_law_bottom"] [] qR) (DZ62:Dx P w K mg base aV 2 "_law_ways" ["_law_row_here","_law_factor"] [] pJ):aW P w K mg base aV 3 f fd ["_law_rows","_law_factor","_law_size"] ng:=by
 have sc:aw ["_law_rows","_law_factor","_law_size","_law_counts","_law_row_here","_law_due_here","_law_k","_law_turn"] ["_law_rows","_law_factor","_law_size"] (ao Bq):=cN (by decide+kernel)
 and_intros
 ·obtain ⟨_,_,_,_,_,_,_,_,rfl,_⟩:=h
  rfl
 refine tU h fun lr tf ts ss p q _hi=>?_
 refine zZ _hi fun sp sq _hj=>?_
 refine im _hj fun _r1 _r2 s12 rb fc _hk=>?_
 refine iV _hk fun q1 q2=>?_
 clear h _hi _hj _hk;subst _r1;obtain ⟨vs,er,rr⟩:=_r2;have sl:sizeLine=16777216:=rfl;refine ⟨_,(ae (bX 3 sc (@bK _ _ _ _ ad)) (ae (cv PassesOwn.never rfl (cX (pv 0)) (iS 4 sc) (af (aI (ar bO (ai (aq (K:=K) rfl) (pv 4) ac (fun _ _=>rfl)) aN (aD _)) (af (aT (bZ G0 FZ FY aS (pv 3) ((bU DZ61 hr ((ak bo (ak bo (ai (aq (K:=K) rfl) (ai (aq (K:=K) rfl) (pv 4) ac (fun _ _=>rfl)) ac (fun _ _=>rfl)) (ai (aq (K:=K) rfl) (pv 1) ac (fun _ _=>rfl))) (ai (aq (K:=K) rfl) (pv 2) ac (fun _ _=>rfl)))<*>((ak bo (ak bo (ai (aq (K:=K) rfl) (ai (aq (K:=K) rfl) (pv 4) ac (fun _ _=>rfl)) ac (fun _ _=>rfl)) (ai (aq (K:=K) rfl) (pv 1) ac (fun _ _=>rfl))) (ai (aq (K:=K) rfl) (pv 2) ac (fun _ _=>rfl)))<*>ad)))<*>ad)))) (af (aT (bZ G0 FZ FY aS (pv 3) (ac<*>ad))))))) (ae (aI (ar kE (aG (lx rfl) rfl B.KP PyProof.Rows.Boot.«sum» ((pv 3)<*>ad)) ac (aD _)) (af (au aR)) az) (ae (bX 5 sc (@bK _ _ _ _ ad)) (ae (cv PassesOwn.never rfl (cu rfl B.IZ ((aG aZ rfl B.IS boot_len ((pv 0)<*>ad))<*>ad)) (iS 6 sc) (af (cv PassesOwn.never rfl (cu rfl B.IZ ((ai aB (pv 3) (pv 6) (fun _ _=>rfl))<*>ad)) (iS 7 sc) (af (aT (bZ G0 FZ FY aS (pv 5) ((@bN _ _ _ _ _ ((pv 6)<*>((pv 7)<*>((bU DZ62 hr ((ai aB (pv 0) (pv 6) (fun _ _=>rfl))<*>((pv 1)<*>ad)))<*>ad))))<*>ad))))))) (af (au (pv 5)))))))),?_⟩
 try dsimp only[cxK]
 have vl:=rr.1;refine ⟨by show 0<=sizeLine;decide,fun lc nlc=>?_⟩
 have g1:=aj nlc (.lst []);have el:aL H lc (.lst []) lc=some (.lst []):=ah;generalize aL H lc (.lst [])=H1 at g1 el⊢;dsimp only[bM,bY];have ne:lr≠lc:=fun z=>by rw[z,nlc] at er;cases er
 change L2.lW _ _ _ [some (.ref lr),some (.ref tf),some (.ref ts),some (.ref lc),none,none,none,none] H1;refine cut (fun σ H'=>∃o1,σ= [Li lr,Li tf,Li ts,Li lc,o1,none,none,none]/\aA H H'/\H' lc=some (.lst ((ss.map fun s=>lN s.fill p q sp sq).map V.int))) (fun N hN=>?_) ?_
 ·refine ⟨_,rfl,lr,rfl,⟨_,aO.of (g1 _ _ er)⟩,jg (xs:=vs) (fun i σ H'=>∃o1,σ= [Li lr,Li tf,Li ts,Li lc,o1,none,none,none]/\aA H H'/\H' lc=some (.lst (((ss.take i).map fun s=>lN s.fill p q sp sq).map V.int))) ⟨none,rfl,g1,el⟩ (fun i σ H' _ h=>by obtain ⟨_,_,g,_⟩:=h;exact aO.of (g _ _ er)) ?_ ?_⟩
  ·rintro i y σ H2 hy ⟨o1,rfl,g2,ec⟩;refine jQ (rr.at_ hy) fun s _hi=>?_
   refine iV _hi fun hs _hj=>?_
   refine ku _hj fun a tfl u sv _hk=>?_
   refine jQ _hk fun am _hl=>?_
   refine BG _hl fun _r1 ea et _hm=>?_
   refine iV _hm fun hf _=>?_
   clear _hi _hj _hk _hl _hm;subst _r1;have rs:=rb s (F9 hs);have il:=bv hs;have put:∀n:Int,n=lN s.fill p q sp sq->(aL H2 lc (.lst (((ss.take i).map fun s=>lN s.fill p q sp sq).map V.int++ [.int n]))) lc=some (.lst (((ss.take (i+1)).map fun s=>lN s.fill p q sp sq).map V.int)):=fun n e=>by
    rw[ah,Gq,hs,HB,GO,GO,e]
    rfl
   have sfl:=rs.fl;have ec':(((ss.take i).map fun s=>lN s.fill p q sp sq).map V.int).length<=12:=by rw[F6,F6,GG];lia
   refine ⟨ν,aH a _ _ _ ⟨rfl,rfl,bi.of (g2 _ _ ea),rfl,rfl,ν,oP (fun e=>?_) (fun e=>?_)⟩⟩
   ·generalize ef:s.fill=o at sfl hf
    match o,sfl,hf with
    |none,sfl,_=>exact absurd e sfl
    |some f,⟨_,f1,f2,f3,_,f5⟩,hf=>
     obtain rfl:=hf f rfl;have E4:=g2 _ _ ea;have ET:H2 tfl=some (.tup [vN f.1,vN f.2]):=g2 _ _ et;have F2:=fc.same g2;have p1:=fc.p1;have p0:=fc.p0;have qq1:=fc.q1;have qq0:=fc.q0;have sp1:=fc.sp1;have sp0:=fc.sp0;have sq1:=fc.sq1;have sq0:=fc.sq0;have fb:=yr.f4 (w:= "warm") (o:=some f) (by rw[<-e];exact ef▸rs.fl)
     have b1:Bd 200 (f.1:Int):=wz fb.2.2.2.1;have b2:Bd 200 (f.2:Int):=wz fb.2.2.2.2;have bp:Bd 20 p:=by unfold Bd;show _<1048576;lia
     have bq:Bd 20 q:=by unfold Bd;show _<1048576;lia
     have bs:Bd 20 sp:=by unfold Bd;show _<1048576;lia
     have bt:Bd 20 sq:=by unfold Bd;show _<1048576;lia
     have m1:0<(f.2:Int)*q:=Gr (by lia) qq0
     have m2:(f.2:Int)*q<=9999*1000:=Int.mul_le_mul (by lia) qq1 (by lia) (by decide)
     have m3:0<(f.2:Int)*q*sp:=Gr m1 sp0;have m4:(f.2:Int)*q*sp<=9999000*9:=Int.mul_le_mul (by lia) sp1 (by lia) (by decide)
     refine ⟨ν,.inl ⟨rfl,_,aO.of ec⟩,ν,aH a _ _ _ ⟨rfl,rfl,bi.of E4,rfl,aH tfl _ _ _ ⟨rfl,rfl,bi.of ET,rfl,ν,aH tf _ _ _ ⟨rfl,rfl,bi.of F2.f,rfl,aF _ _ ⟨rfl,rfl,b1.ok bp,ν,aF ts _ ⟨ω,bi.of F2.s,rfl,ω,(b1.mul bp).ok bt,ν,a,_,ω,bi.of E4,rfl,tfl,_,ω,bi.of ET,rfl,ν,tf,_,ω,bi.of F2.f,rfl,ω,b2.ok bq,ν,ts,_,ω,bi.of F2.s,rfl,ω,(b2.mul bq).ok bs,_,ν,m3,by lia,lc,ω,ec,by lia,ν,fH g2 nlc _,put _ ?_⟩⟩⟩⟩⟩⟩
     rw[ef];show _= -((-((f.1:Int)*p*sq)).fdiv (sp*(f.2:Int)*q));rw[Hr ((f.2:Int)*q) sp,Int.mul_assoc sp]
   ·refine ⟨ν,.inl ⟨rfl,_,aO.of ec⟩,b5 lc _ _ ⟨rfl,rfl,ec,by lia,ν,fH g2 nlc _,put 1 ?_⟩⟩
    generalize s.fill=o at sfl
    match o,sfl with
    |none,_=>rfl
    |some f,sfl=>exact absurd sfl.1 e
  ·rintro σ H2 ⟨o1,rfl,g2,ec⟩;rw[vl,List.take_length] at ec;exact hN _ _ ⟨o1,rfl,g2,ec⟩
 rintro σ H2 ⟨o1,rfl,g2,ec⟩;have p0:=fc.p0;have rn1:∀s∈ss,1<=lN s.fill p q sp sq:=fun s hs=>nh fc.p0 fc.q0 fc.sp0 fc.sq0 (rb s hs).b.fl
 obtain ⟨ns,ens⟩:∃ns,ns=ss.map fun s=>lN s.fill p q sp sq:=⟨_,rfl⟩
 rw[<-ens] at ec;have nl:ns.length=ss.length:=by rw[ens,F6]
 have ns1:∀n∈ns,1<=n:=fun n hn=>by
  rw[ens] at hn;obtain ⟨s,hs,rfl⟩:=GI.mp hn;exact rn1 s hs
 have esum:wR ss p q sp sq=ns.sum:=by rw[ens];rfl
 rw[esum] at q1 q2;refine cut (fun σ H'=>σ= [Li lr,Li tf,Li ts,Li lc,o1,none,none,none]/\H2=H'/\ns.sum<=24) (fun N hN=>?_) ?_
 ·exact ⟨ν,aF lc ns ⟨rfl,aO.of ec,aF _ _ ⟨rfl,rfl,ν,d2 (fun c=>q1 c _ g2) fun c=>hN _ _ ⟨rfl,rfl,by lia⟩⟩⟩⟩
 rintro σ _ ⟨rfl,rfl,s24⟩;have q2:=q2 s24;refine ⟨by show 0<=sizeLine;decide,fun l nl0=>?_⟩
 have g4:=aj nl0 (.lst []);have el:aL H2 l (.lst []) l=some (.lst []):=ah;generalize aL H2 l (.lst [])=H4 at g4 el⊢;dsimp only[bM,bY];have g24:=g2.trans g4;have tgl:=jc (p:=p) (q:=q) (sp:=sp) (sq:=sq) rn1;rw[<-ens] at tgl;have sumT:∀k,(ns.take k).sum<=ns.sum:=fun k=>by
  have e:ns.sum=(ns.take k).sum+(ns.drop k).sum:=by rw[<-List.sum_append,GQ]
  have:=jS (ns:=ns.drop k) fun n hn=>ns1 n (List.mem_of_mem_drop hn)
  lia
 change L2.lW _ _ _ [some (.ref lr),some (.ref tf),some (.ref ts),some (.ref lc),o1,some (.ref l),none,none] H4;refine cut (fun σ H'=>∃o7 o8,σ= [Li lr,Li tf,Li ts,Li lc,o1,Li l,o7,o8]/\aA H2 H'/\ky H2 H' l (wQ ss p q sp sq)) (fun N hN=>?_) ?_
 ·refine ⟨ν,aF lr _ ⟨rfl,.inl (aO.of (g24 _ _ er)),ν,by lia,by lia,cw (fun i σ H'=>∃o7 o8,σ= [Li lr,Li tf,Li ts,Li lc,o1,Li l,o7,o8]/\aA H2 H'/\ky H2 H' l (pB ss p q sp sq i)) (aF none none ⟨rfl,g4,.nil el nl0⟩) (fun i σ H5 hi hP=>?_) (fun σ H5 hP=>?_)⟩⟩
  ·obtain ⟨o7,o8,rfl,g5,tg⟩:=hP;have il:i<ss.length:=by lia
   have nn:=F0 (show i<ns.length by lia)
   have at_:fe (ns.map V.int) (0+(i:Int))=some (.int ns[i]):=by rw[Gs];exact aC (by rw[FP,nn];rfl)
   have n1:=ns1 _ (GU (show i<ns.length by lia))
   have n24:=qF ns1 nn;have hs:=F0 il;have rs:=rb _ (GU il);have hnn:ns[i]=lN ss[i].fill p q sp sq:=by simp only[ens,Gm]
   have hgd:ss.getD i DS=ss[i]:=by rw[GX,hs];rfl
   generalize ss[i]=s at hs rs hnn hgd;obtain ⟨v,hv,rv⟩:=rr.get hs;have atv:fe vs (0+(i:Int))=some v:=by rw[Gs];exact aC hv
   have stl:=tgl i (by lia)
   have stl1:=tgl (i+1) (by lia)
   have sT1:=sumT (i+1);refine ⟨ν,ν,aH lc _ _ _ ⟨rfl,rfl,aO.of (g5 _ _ ec),at_,ν,by lia,by lia,cw (fun j σ H'=>∃(o8:Option V),σ= [Li lr,Li tf,Li ts,Li lc,o1,Li l,some (.int (0+(i:Int))),o8]/\aA H2 H'/\ky H2 H' l (pB ss p q sp sq i++(Gx j).map fun t:Nat=>⟨(i:Int),(t:Int),kx s p q⟩)) ⟨o8,rfl,g5,by simpa using tg⟩ (fun j σ H7 hj hP=>?_) (fun σ H7 hP=>?_)⟩⟩
   ·obtain ⟨o8,rfl,g7,tg7⟩:=hP;have jn:(j:Int)<ns[i]:=by lia
    obtain ⟨vs7,os7,a2,a3,_⟩:=tg7.ex;have g27:=g2.trans g7;have F7:=fc.same g27;refine ⟨ν,.inl ⟨rfl,_,aO.of a2⟩,ν,ν,ν,ν,aH lr _ _ _ ⟨rfl,rfl,aO.of (g27 _ _ er),atv,ν,aH v s tf p ⟨q,⟨rfl,rv.same g27,rs.b,F7.f,fc.p0,(by have:=fc.p1;lia),fc.q0,(by have:=fc.q1;lia),fun lw cs H8 g8 wo w2 w3=>⟨by show 3<=sizeLine;decide,fun t nt=>?_⟩⟩⟩⟩⟩
    have g9:=aj nt (.tup [.int (0+(i:Int)),.int (0+(j:Int)),.ref lw]);have tko:ze (aL H8 t (.tup [.int (0+(i:Int)),.int (0+(j:Int)),.ref lw])) (.ref t) ⟨(i:Int),(j:Int),kx s p q⟩ (lw,cs):=⟨t,rfl,by rw[ah,Gs,Gs],wo.same g9⟩
    obtain ⟨ys,y1,y2,y3⟩:=tg7.snoc g7 (g8.trans g9) tko w2 w3;have yl:ys.length<=24:=by
     rw[y2,FQ,F6,HD];have e2:(ns.take (i+1)).sum=(ns.take i).sum+ns[i]:=by rw[Gq,nn,HB,List.sum_append];simp
     lia
    refine (b5 l ys _ ⟨rfl,rfl,y1,by lia,ν,fH ((g7.trans g8).trans g9) nl0 _,?_⟩)
    rw[List.range_succ,GO,<-GT];exact y3
   ·obtain ⟨o8,rfl,g7,tg7⟩:=hP;refine (aF _ _ ⟨rfl,g7,?_⟩);show ky H2 H7 l (pB ss p q sp sq i++_);rw[hgd,<-hnn];exact tg7
  ·obtain ⟨o7,o8,rfl,g5,tg⟩:=hP;rw[Hi,vl] at tg;exact hN _ _ (aF o7 o8 ⟨rfl,g5,tg⟩)
 rintro σ H5 ⟨o7,o8,rfl,g5,tg⟩;obtain ⟨vs5,os5,e5,a5,_⟩:=tg.ex;exact ⟨ν,q2 l H5 (g2.trans g5) (aF vs5 os5 ⟨e5,a5⟩)⟩
theorem Dz {dV:Value} (F:bh K "_law_bounded" "_law_bounded" Br dV f fd):aW P w K mg base aV 1 f fd ["_law_row_here"] lO:=by
 have sc:aw ["_law_row_here","_law_least","_law_uses_here","_law_second","_law_short","_law_others"] ["_law_row_here"] (ao Br):=cN (by decide+kernel)
 and_intros
 ·obtain ⟨_,_,rfl,_⟩:=h
  rfl
 obtain ⟨v,s,rfl,⟨a,tf,u,sv,am,rfl,ea,etf,hfl,⟨vs,eu,ru⟩,hs⟩,ul,sul,q⟩:=h;have sl:sizeLine=16777216:=rfl;refine ⟨_,(ae (bX 1 sc (ak bH ac (ak aJ (ai (aq (K:=K) rfl) (pv 0) ac (fun _ _=>rfl)) ac))) (ae (oF sc.nd (i:=2) rfl rfl (os:= ["_law_tool","_law_many","_law_heat"]) (ys:= []) (js:= []) rfl (zS vo .nil rfl rfl rfl rfl rfl rfl rfl) (cX (ai (aq (K:=K) rfl) (pv 0) ac (fun _ _=>rfl))) (fun C fp s H=>mJ (K:=K) (n:=3) rfl rfl (bL (dn (os:= ["_law_tool","_law_many","_law_heat"]) (ys:= []) (i:=0) (by decide) rfl rfl) (bL (dn (os:= ["_law_tool","_law_many","_law_heat"]) (ys:= []) (i:=1) (by decide) rfl rfl) (bL (dn (os:= ["_law_tool","_law_many","_law_heat"]) (ys:= []) (i:=2) (by decide) rfl rfl) eM)))) (fun C fp s H=>(@bN _ _ _ _ _ ((pv 0)<*>((pv 1)<*>((ak aJ (pv 2) ac)<*>ad)))))) (ae (bX 3 sc aR) (ae (aI (ar eN (ai (aq (K:=K) rfl) (pv 0) ac (fun _ _=>rfl)) aR (aD _)) (ae (bX 4 sc (ak bH ac (ak aJ (ai (aq (K:=K) rfl) (ai (aq (K:=K) rfl) (pv 0) ac (fun _ _=>rfl)) ac (fun _ _=>rfl)) ac))) (ae (oF sc.nd (i:=5) rfl rfl (os:= ["_law_tool","_law_many","_law_heat"]) (ys:= []) (js:= []) rfl (zS vo .nil rfl rfl rfl rfl rfl rfl rfl) (cX (ai (aq (K:=K) rfl) (ai (aq (K:=K) rfl) (pv 0) ac (fun _ _=>rfl)) ac (fun _ _=>rfl))) (fun C fp s H=>mJ (K:=K) (n:=3) rfl rfl (bL (dn (os:= ["_law_tool","_law_many","_law_heat"]) (ys:= []) (i:=0) (by decide) rfl rfl) (bL (dn (os:= ["_law_tool","_law_many","_law_heat"]) (ys:= []) (i:=1) (by decide) rfl rfl) (bL (dn (os:= ["_law_tool","_law_many","_law_heat"]) (ys:= []) (i:=2) (by decide) rfl rfl) eM)))) (fun C fp s H=>(@bN _ _ _ _ _ ((pv 0)<*>((pv 1)<*>((ak aJ (pv 2) ac)<*>ad)))))) (af (bX 3 sc (@bN _ _ _ _ _ ((pv 4)<*>((ak bH (pv 4) (ak aJ (ai (aq (K:=K) rfl) (ai (aq (K:=K) rfl) (pv 0) ac (fun _ _=>rfl)) ac (fun _ _=>rfl)) ac))<*>((pv 5)<*>ad)))))))) az) (af (au (@bN _ _ _ _ _ ((ai (aq (K:=K) rfl) (pv 0) ac (fun _ _=>rfl))<*>((ai (aq (K:=K) rfl) (pv 0) ac (fun _ _=>rfl))<*>((pv 1)<*>((ak bH (pv 1) (ak aJ (ai (aq (K:=K) rfl) (pv 0) ac (fun _ _=>rfl)) ac))<*>((ai (aq (K:=K) rfl) (pv 0) ac (fun _ _=>rfl))<*>((pv 2)<*>((pv 3)<*>ad)))))))))))))),?_⟩
 try dsimp only[cxK]
 have vl:=ru.1;have mm:∀n:Nat,(1:Int)+(n:Int).fmod 50000=((1+n % 50000:Nat):Int):=fun n=>by
  rw[show (50000:Int)=((50000:Nat):Int) from rfl,wJ n 50000 (by decide)]
  lia
 refine cut (fun σ H'=>σ= [Li a,some (vN (1+s.lo % 50000)),none,none,none,none]/\H=H') (fun N hN=>?_) ?_
 ·refine ⟨ν,aH a _ _ _ ⟨rfl,rfl,bi.of ea,rfl,aF _ _ ⟨rfl,rfl,(by show (50000:Int)≠0;decide),aF _ _ ⟨rfl,rfl,hN _ _ ⟨?_,rfl⟩⟩⟩⟩⟩
  rw[show vN (1+s.lo % 50000)= .int (1+(s.lo:Int).fmod 50000) from congrArg V.int (mm _).symm]
  rfl
 rintro σ _ ⟨rfl,rfl⟩;refine cut (fun σ H'=>∃p1,σ= [Li a,some (vN (1+s.lo % 50000)),Li p1,none,none,none]/\aA H H'/\Uz H' p1 (ig s.uses)/\H p1=none) (fun N hN=>?_) ?_
 ·refine ⟨ν,aH a _ _ _ ⟨rfl,rfl,bi.of ea,rfl,u,rfl,⟨_,aO.of eu⟩,j8 (dC ja) (fun _=>False) (fun i=>(((s.uses.getD i ut).1,(s.uses.getD i ut).2.1,(s.uses.getD i ut).2.2 % 1001):bu)) (aO.of eu) (by lia) (fun a h=>h.elim) (fun i y hy H2 g o ho Q' hQ=>?_) fun p1 H4 np g4 hp=>?_⟩⟩
  ·obtain ⟨ud,hud,t,rfl,_,et⟩:=ru.at_ hy;have et2:H2 t=some (.tup [.str ud.1,vN ud.2.1,vN ud.2.2]):=g _ _ et
   match o,ho with
   | [o1,o2,o3],_=>
   refine (aF t _ ⟨rfl,bi.of et2,rfl,aF _ _ ⟨rfl,aF _ _ ⟨rfl,aF _ _ ⟨rfl,rfl,⟨[some (.str ud.1),some (vN ud.2.1),some (vN ud.2.2)],rfl,rfl⟩,?_⟩⟩⟩⟩);refine ⟨ν,ν,ν,aF _ _ ⟨rfl,rfl,(by show (1001:Int)≠0;decide),by show 3<=sizeLine;decide,fun l nl=>hQ _ _ (aj nl _) ⟨l,rfl,.inl nl,?_⟩⟩⟩
   rw[ah,show s.uses.getD i ut=ud by rw[GX,hud];rfl]
   show _=some (HO.tup [.str ud.1,vN ud.2.1,.int ((ud.2.2 % 1001:Nat):Int)]);rw[<-wJ ud.2.2 1001 (by decide)]
   rfl
  ·obtain ⟨ws,ep,rp⟩:=hp;rw[vl,sO ut (fun u:bu=>((u.1,u.2.1,u.2.2 % 1001):bu))] at rp
   exact hN _ _ ⟨p1,rfl,g4,⟨ws,ep,rp.imp fun _ _ q=>Fh q⟩,np⟩
 rintro σ H1 ⟨p1,rfl,g1,hp1,np1⟩;refine cut (fun σ H'=>σ= [Li a,some (vN (1+s.lo % 50000)),Li p1,some .non,none,none]/\H1=H') (fun N hN=>hN _ _ ⟨rfl,rfl⟩) ?_
 rintro σ _ ⟨rfl,rfl⟩;have A:=g1 _ _ ea;refine cut (fun σ H'=>∃(ov:V) (o4 o5:Option V),σ= [Li a,some (vN (1+s.lo % 50000)),Li p1,some ov,o4,o5]/\aA H1 H'/\oU H' ov (dJ s).sec/\∀(t l2:Addr) (x y:V),ov= .ref t->H' t=some (.tup [x,y,.ref l2])->H l2=none) (fun N hN=>?_) ?_
 ·have es:(dJ s).sec=s.sec.map fun x=>(1+x.1 % 50000,1+x.1 % 50000+x.2.1 % 50000,ig x.2.2):=rfl
  rw[es] at hN;generalize s.sec=o at hs sul hN
  match o,hs with
  |none,hs=>
   have hs:sv= .non:=hs;subst hs;exact ⟨ν,aH a _ _ _ ⟨rfl,rfl,bi.of A,rfl,rfl,ν,nF rfl (hN _ _ (b5 .non none none ⟨rfl,.refl _,rfl,fun t l2 x y e=>(by cases e)⟩))⟩⟩
  |some (lo2,hi2,us2),⟨b,l2,e1,e2,⟨v2,e4,r4⟩⟩=>
   subst e1;have E2:=g1 _ _ e2;have E4:=g1 _ _ e4;have l12:us2.length<=12:=sul _ rfl;have vl2:=r4.1;refine ⟨ν,aH a _ _ _ ⟨rfl,rfl,bi.of A,rfl,rfl,ν,nT (fun z=>nomatch z) ?_⟩⟩
   refine cut (fun σ H'=>σ= [Li a,some (vN (1+s.lo % 50000)),Li p1,some .non,some (vN (1+lo2 % 50000)),none]/\H1=H') (fun N hN=>?_) ?_
   ·refine ⟨ν,aH a _ _ _ ⟨rfl,rfl,bi.of A,rfl,aH b _ _ _ ⟨rfl,rfl,bi.of E2,rfl,aF _ _ ⟨rfl,rfl,(by show (50000:Int)≠0;decide),aF _ _ ⟨rfl,rfl,hN _ _ ⟨?_,rfl⟩⟩⟩⟩⟩⟩
    rw[show vN (1+lo2 % 50000)= .int (1+(lo2:Int).fmod 50000) from congrArg V.int (mm _).symm]
    rfl
   rintro σ _ ⟨rfl,rfl⟩;refine cut (fun σ H'=>∃p2,σ= [Li a,some (vN (1+s.lo % 50000)),Li p1,some .non,some (vN (1+lo2 % 50000)),Li p2]/\aA H1 H'/\Uz H' p2 (ig us2)/\H1 p2=none) (fun N hN=>?_) ?_
   ·refine ⟨ν,aH a _ _ _ ⟨rfl,rfl,bi.of A,rfl,aH b _ _ _ ⟨rfl,rfl,bi.of E2,rfl,l2,rfl,⟨_,aO.of E4⟩,j8 (dC ja) (fun _=>False) (fun i=>(((us2.getD i ut).1,(us2.getD i ut).2.1,(us2.getD i ut).2.2 % 1001):bu)) (aO.of E4) (by lia) (fun a h=>h.elim) (fun i y hy H2 g o ho Q' hQ=>?_) fun p1 H4 np g4 hp=>?_⟩⟩⟩
    ·obtain ⟨ud,hud,t,rfl,_,et⟩:=r4.at_ hy;have et2:H2 t=some (.tup [.str ud.1,vN ud.2.1,vN ud.2.2]):=g _ _ (g1 _ _ et)
     match o,ho with
     | [o1,o2,o3],_=>
     refine (aF t _ ⟨rfl,bi.of et2,rfl,aF _ _ ⟨rfl,aF _ _ ⟨rfl,aF _ _ ⟨rfl,rfl,⟨[some (.str ud.1),some (vN ud.2.1),some (vN ud.2.2)],rfl,rfl⟩,?_⟩⟩⟩⟩);refine ⟨ν,ν,ν,aF _ _ ⟨rfl,rfl,(by show (1001:Int)≠0;decide),by show 3<=sizeLine;decide,fun l nl=>hQ _ _ (aj nl _) ⟨l,rfl,.inl nl,?_⟩⟩⟩
     rw[ah,show us2.getD i ut=ud by rw[GX,hud];rfl]
     show _=some (HO.tup [.str ud.1,vN ud.2.1,.int ((ud.2.2 % 1001:Nat):Int)]);rw[<-wJ ud.2.2 1001 (by decide)]
     rfl
    ·obtain ⟨ws,ep,rp⟩:=hp;rw[vl2,sO ut (fun u:bu=>((u.1,u.2.1,u.2.2 % 1001):bu))] at rp
     exact hN _ _ ⟨p1,rfl,g4,⟨ws,ep,rp.imp fun _ _ q=>Fh q⟩,np⟩
   rintro σ H2 ⟨p2,rfl,g2,hp2,np2⟩;refine ⟨ν,ν,ν,aH a _ _ _ ⟨rfl,rfl,bi.of (g2 _ _ A),rfl,aH b _ _ _ ⟨rfl,rfl,bi.of (g2 _ _ E2),rfl,aF _ _ ⟨rfl,rfl,(by show (50000:Int)≠0;decide),aF _ _ ⟨rfl,rfl,ν,by show 3<=sizeLine;decide,fun t nt=>?_⟩⟩⟩⟩⟩
   have g3:=aj nt (.tup [vN (1+lo2 % 50000),.int (((1+lo2 % 50000:Nat):Int)+(hi2:Int).fmod 50000),.ref p2]);have et9:(aL H2 t (.tup [vN (1+lo2 % 50000),.int (((1+lo2 % 50000:Nat):Int)+(hi2:Int).fmod 50000),.ref p2])) t=some (.tup [vN (1+lo2 % 50000),.int (((1+lo2 % 50000:Nat):Int)+(hi2:Int).fmod 50000),.ref p2]):=ah;refine hN _ _ (b5 (.ref t) _ _ ⟨rfl,g2.trans g3,(aF t p2 ⟨rfl,?_,hp2.same g3⟩),fun t' l2' x y e1 e2=>by cases e1;rw[et9] at e2;cases e2;exact g1.free np2⟩)
   rw[ah];show _=some (HO.tup [vN (1+lo2 % 50000),.int ((1+lo2 % 50000+hi2 % 50000:Nat):Int),.ref p2]);rw[Int.natCast_add (1+lo2 % 50000),<-wJ hi2 50000 (by decide)]
   rfl
 rintro σ H2 ⟨ov,o4,o5,rfl,g2,hso,nso⟩;have g12:=g1.trans g2;have A2':=g12 _ _ ea;refine ⟨ν,aH a _ _ _ ⟨rfl,rfl,bi.of A2',rfl,ν,aH a _ _ _ ⟨rfl,rfl,bi.of A2',rfl,ν,ν,ν,aH a _ _ _ ⟨rfl,rfl,bi.of A2',rfl,aF _ _ ⟨rfl,rfl,(by show (50000:Int)≠0;decide),ω,ν,a,_,ω,bi.of A2',rfl,ν,ν,by show 7<=sizeLine;decide,fun t nt=>?_⟩⟩⟩⟩⟩
 have g3:=aj nt (.tup [.str s.w,.str s.n,vN (1+s.lo % 50000),.int (((1+s.lo % 50000:Nat):Int)+(s.hi:Int).fmod 50000),.ref tf,.ref p1,ov]);have et9:(aL H2 t (.tup [.str s.w,.str s.n,vN (1+s.lo % 50000),.int (((1+s.lo % 50000:Nat):Int)+(s.hi:Int).fmod 50000),.ref tf,.ref p1,ov])) t=some (.tup [.str (dJ s).w,.str (dJ s).n,vN (dJ s).lo,vN (dJ s).hi,.ref tf,.ref p1,ov]):=by
  rw[ah];show _=some (HO.tup [.str s.w,.str s.n,vN (1+s.lo % 50000),.int ((1+s.lo % 50000+s.hi % 50000:Nat):Int),.ref tf,.ref p1,ov]);rw[Int.natCast_add (1+s.lo % 50000),<-wJ s.hi 50000 (by decide)]
  rfl
 have mk:=sN (s:=dJ s) (g12.trans g3) et9 (g3 _ _ (g12 _ _ etf)) hfl ((hp1.same g2).same g3) np1 (hso.same g3) (fun t l2 x y e1 e2=>by
  subst e1;generalize (dJ s).sec=o at hso
  match o,hso with
  |none,hso=>cases hso
  |some (a,b,vs),⟨t',l',k1,k2,k3⟩=>
   cases k1;rw[g3 _ _ k2] at e2;cases e2;exact nso _ _ _ _ rfl k2)
 exact q _ _ (g12.trans g3) mk.1 mk.2
theorem DA {dV:Value} (F:bh K "_law_amount" "_law_amount" Bs dV f fd):aW P w K mg base aV 1 f fd ["_law_amount_here"] v8:=by
 have sc:aw ["_law_amount_here","_law_whole","_law_top"] ["_law_amount_here"] (ao Bs):=cN (by decide+kernel)
 and_intros
 ·obtain ⟨_,_,rfl,_⟩:=h
  rfl
 obtain ⟨t,⟨p,b⟩,rfl,et,ag,q⟩:=h;refine ⟨_,(ae (bX 1 sc (ak aQ (ai (aq (K:=K) rfl) (pv 0) ac (fun _ _=>rfl)) (ai (aq (K:=K) rfl) (pv 0) ac (fun _ _=>rfl)))) (ae (bX 2 sc (ak aJ (ai (aq (K:=K) rfl) (pv 0) ac (fun _ _=>rfl)) (ai (aq (K:=K) rfl) (pv 0) ac (fun _ _=>rfl)))) (ae (aI (ar bO (pv 2) ac (aD _)) (af (au (a7 br rfl B.IP boot_str ((pv 1)<*>ad)))) az) (ae (aI (ar bO (pv 1) ac (aD _)) (af (au (ak bC (ak bC (a7 br rfl B.IP boot_str ((pv 2)<*>ad)) aN) (a7 br rfl B.IP boot_str ((ai (aq (K:=K) rfl) (pv 0) ac (fun _ _=>rfl))<*>ad))))) az) (af (au (ak bC (ak bC (ak bC (ak bC (a7 br rfl B.IP boot_str ((pv 1)<*>ad)) aN) (a7 br rfl B.IP boot_str ((pv 2)<*>ad))) aN) (a7 br rfl B.IP boot_str ((ai (aq (K:=K) rfl) (pv 0) ac (fun _ _=>rfl))<*>ad))))))))),?_⟩
 try dsimp only[cxK]
 have sl:sizeLine=16777216:=sizeLine_eq;have et2:H t=some (.tup [vN p,vN b]):=et;have b0:0<b:=ag.rd.pos;have b9:b<10000:=ag.bq;have p9:p<10^40:=ag.bp;have b0':(b:Int)≠0:=by lia
 refine ⟨ν,aH t _ _ _ ⟨rfl,rfl,bi.of et2,rfl,ν,aH t _ _ _ ⟨rfl,rfl,bi.of et2,rfl,aF _ _ ⟨rfl,rfl,⟨b0',FX (by lia)⟩,?_⟩⟩⟩⟩
 dsimp only[bM,bY];rw[ot];refine ⟨ν,aH t _ _ _ ⟨rfl,rfl,bi.of et2,rfl,ν,aH t _ _ _ ⟨rfl,rfl,bi.of et2,rfl,aF _ _ ⟨rfl,rfl,b0',?_⟩⟩⟩⟩;dsimp only[bM,bY];rw[Af];have lw:p/b<10^40:=Ge (Nat.div_le_self p b) p9;have lt:p % b<10000:=GW (Nat.mod_lt p b0) b9;have lgw:((p/b:Nat):Int).natAbs.log2<1920:=lg (GW lw (by decide+kernel))
 have lgt:((p % b:Nat):Int).natAbs.log2<1920:=lg (GW lt (by decide+kernel))
 have lgb:(b:Int).natAbs.log2<1920:=lg (GW b9 (by decide+kernel))
 have l0:=dM (n:=p/b) (k:=39) lw;have l1:=dM (n:=p % b) (k:=3) lt;have l2:=dM (n:=b) (k:=3) b9;have nl:∀n:Nat,(bT n).length=(dg n).length:=fun n=>cD _
 have ls:(Str.ofString "/").length=1:=by decide
 have lp:(Str.ofString "+").length=1:=by decide
 have ea:oR (p,b)=bJ (if p % b=0 then dg (p/b) else if p/b=0 then dg (p % b)++47::dg b else dg (p/b)++43::(dg (p % b)++47::dg b)):=rfl
 rw[ea] at q;refine ⟨ν,rfl,ν,uB (fun c=>?_) fun c=>?_⟩
 ·rw[if_pos (by lia)] at q
  refine ⟨ν,ν,lgw,?_⟩;rw[eV];exact q
 rw[if_neg (by lia)] at q
 refine ⟨ν,rfl,ν,uB (fun c2=>?_) fun c2=>?_⟩
 ·rw[if_pos (by lia)] at q
  refine ⟨ν,ν,lgt,?_⟩;rw[eV];refine (aF _ _ ⟨rfl,rfl,by rw[nl];lia,ν,aH t _ _ _ ⟨rfl,rfl,bi.of et2,rfl,ν,lgb,?_⟩⟩)
  rw[eV];refine (aF _ _ ⟨rfl,rfl,by rw[Str.length_append,nl,nl];lia,?_⟩)
  have e:bJ (dg (p % b)++47::dg b)=bT (p % b)++Str.ofString "/" ++bT b:=by
   show _=bJ (dg (p % b))++Str.ofString "/" ++bJ (dg b);rw[cV,b4,b4,GT]
   rfl
  rw[e] at q;exact q
 ·rw[if_neg (by lia)] at q
  refine ⟨ν,ν,lgw,?_⟩;rw[eV];refine (aF _ _ ⟨rfl,rfl,by rw[nl];lia,ν,ν,lgt,?_⟩)
  rw[eV];refine (aF _ _ ⟨rfl,rfl,by rw[Str.length_append,nl,nl];lia,aF _ _ ⟨rfl,rfl,by rw[Str.length_append,Str.length_append,nl,nl];lia,ν,aH t _ _ _ ⟨rfl,rfl,bi.of et2,rfl,ν,lgb,?_⟩⟩⟩)
  rw[eV];refine (aF _ _ ⟨rfl,rfl,by rw[Str.length_append,Str.length_append,Str.length_append,nl,nl,nl];lia,?_⟩)
  have e:bJ (dg (p/b)++43::(dg (p % b)++47::dg b))=bT (p/b)++Str.ofString "+" ++bT (p % b)++Str.ofString "/" ++bT b:=by
   show _=bJ (dg (p/b))++Str.ofString "+" ++bJ (dg (p % b))++Str.ofString "/" ++bJ (dg b);rw[cV,fk,b4,b4,b4,b4]
   congr 1
   simp
  rw[e] at q;exact q
theorem DB {dV:Value} (F:bh K "_law_use_lines" "_law_use_lines" Bt dV f fd):aW P w K mg base aV 1 f fd ["_law_word","_law_name","_law_uses_here"] j6:=by
 have sc:aw ["_law_word","_law_name","_law_uses_here"] ["_law_word","_law_name","_law_uses_here"] (ao Bt):=cN (by decide+kernel)
 and_intros
 ·obtain ⟨_,_,_,_,rfl,_⟩:=h
  rfl
 obtain ⟨wd,n,u,us,rfl,⟨vs,eu,ru⟩,ub,wl,nl,q⟩:=h;have sl:sizeLine=16777216:=rfl;refine ⟨_,(af (au (vP (os:= ["_law_tool","_law_many","_law_heat"]) (ys:= ["_law_word","_law_name"]) (js:= [0,1]) rfl (zS (DN (DN vo)) (.cons rfl (.cons rfl .nil)) rfl rfl rfl rfl rfl rfl rfl) (cX (pv 2)) (fun C fp s H=>mJ (K:=K) (n:=3) rfl rfl (bL (dn (os:= ["_law_tool","_law_many","_law_heat"]) (ys:= ["_law_word","_law_name"]) (i:=0) (by decide) rfl rfl) (bL (dn (os:= ["_law_tool","_law_many","_law_heat"]) (ys:= ["_law_word","_law_name"]) (i:=1) (by decide) rfl rfl) (bL (dn (os:= ["_law_tool","_law_many","_law_heat"]) (ys:= ["_law_word","_law_name"]) (i:=2) (by decide) rfl rfl) eM)))) (fun C fp s H=>(yu (K:=K) rfl Gk PySem.F.slot_str_join PySem.F.type_str_join (wG (K:=K) rfl) aN ((@bK _ _ _ _ ((pv 3)<*>((pv 4)<*>((pv 0)<*>((a7 br rfl B.IP boot_str ((pv 1)<*>ad))<*>((a7 br rfl B.IP boot_str ((pv 2)<*>ad))<*>ad))))))<*>ad)))))),?_⟩
 try dsimp only[cxK]
 have vl:=ru.1;have u12:=ub.1;refine ⟨ν,u,rfl,⟨_,aO.of eu⟩,j8 (vS V.str) (fun _=>False) (fun i=>jB (dP wd n (us.getD i ut))) (aO.of eu) (by lia) (fun a h=>h.elim) (fun i y hy H2 g o ho Q' hQ=>?_) fun p1 H4 np g4 hp=>?_⟩
 ·obtain ⟨ud,hud,t,rfl,_,et⟩:=ru.at_ hy;have et2:H2 t=some (.tup [.str ud.1,vN ud.2.1,vN ud.2.2]):=g _ _ et;have ok:=ub.2 ud (F9 hud);rw[show us.getD i ut=ud by rw[GX,hud];rfl] at hQ
  have l1:=ok.1.len;have l2:=du (n:=ud.2.1) (by lia)
  have l3:=du (n:=ud.2.2) (by lia)
  match o,ho with
  | [o1,o2,o3],_=>
  refine (aF t _ ⟨rfl,bi.of et2,rfl,aF _ _ ⟨rfl,aF _ _ ⟨rfl,aF _ _ ⟨rfl,rfl,⟨[some (.str ud.1),some (vN ud.2.1),some (vN ud.2.2)],rfl,rfl⟩,?_⟩⟩⟩⟩);refine ⟨rfl,ν,ν,ν,ν,ν,gy (by lia),?_⟩
  rw[eV];refine ⟨ν,ν,gy (by lia),?_⟩
  rw[eV];refine ⟨by show 5<=sizeLine;decide,fun l nl'=>?_⟩
  refine (b5 _ l [wd,n,ud.1,bT ud.2.1,bT ud.2.2] ⟨rfl,rfl,aO.of ah,by decide,?_,hQ _ _ (aj nl' _) rfl⟩)
  simp only[Gw,List.map_nil,Hw,List.sum_nil,G6,List.length_nil]
  lia
 ·obtain ⟨ws,ep,rp⟩:=hp;have e1:=rp.val;rw[vl,map_getD (fun u=>jB (dP wd n u)) us ut] at e1
  rw[e1] at ep;exact q p1 H4 g4 np ep
theorem DC {dV:Value} (F:bh K "_law_text" "_law_text" Bu dV f fd) (DZ65:Dx P w K mg base aV 1 "_law_amount" ["_law_amount_here"] [] v8) (DZ66:Dx P w K mg base aV 1 "_law_use_lines" ["_law_word","_law_name","_law_uses_here"] [] j6):aW P w K mg base aV 2 f fd ["_law_name","_law_plates","_law_rows"] pK:=by
 have sc:aw ["_law_name","_law_plates","_law_rows","_law_lines","_law_behind","_law_row_here","_law_words"] ["_law_name","_law_plates","_law_rows"] (ao Bu):=cN (by decide+kernel)
 and_intros
 ·obtain ⟨_,_,_,_,rfl,_⟩:=h
  rfl
 refine ku h fun n p lr ss _hi=>?_
 refine im _hi fun _r1 nn p1 p2 _r2 _hj=>?_
 refine sd _hj fun s12 sb q=>?_
 clear h _hi _hj;subst _r1;obtain ⟨vs,er,rr⟩:=_r2;have sl:sizeLine=16777216:=rfl;refine ⟨_,(ae (bX 3 sc (@bK _ _ _ _ ((ak bC (ak bC (ak bC aN (pv 0)) aN) (a7 br rfl B.IP boot_str ((pv 1)<*>ad)))<*>ad))) (ae (bX 4 sc (@bK _ _ _ _ ad)) (ae (cv PassesOwn.never rfl (cX (pv 2)) (iS 5 sc) (ae (bX 6 sc (@bK _ _ _ _ ((ai (aq (K:=K) rfl) (pv 5) ac (fun _ _=>rfl))<*>((ai (aq (K:=K) rfl) (pv 5) ac (fun _ _=>rfl))<*>((a7 br rfl B.IP boot_str ((ai (aq (K:=K) rfl) (pv 5) ac (fun _ _=>rfl))<*>ad))<*>((a7 br rfl B.IP boot_str ((ai (aq (K:=K) rfl) (pv 5) ac (fun _ _=>rfl))<*>ad))<*>ad)))))) (ae (aI (ar bO (ai (aq (K:=K) rfl) (pv 5) ac (fun _ _=>rfl)) aN (aD _)) (af (aT (bZ G0 FZ FY aS (pv 6) ((bU DZ65 hr ((ai (aq (K:=K) rfl) (pv 5) ac (fun _ _=>rfl))<*>ad))<*>ad)))) az) (ae (aT (bZ G0 FZ FY aS (pv 3) ((bZ Gk PySem.F.slot_str_join PySem.F.type_str_join i4 aN ((pv 6)<*>ad))<*>ad))) (ae (bX 4 sc (ak mf (pv 4) (bU DZ66 hr (aN<*>((ai (aq (K:=K) rfl) (pv 5) ac (fun _ _=>rfl))<*>((ai (aq (K:=K) rfl) (pv 5) ac (fun _ _=>rfl))<*>ad)))))) (af (aI (ar eN (ai (aq (K:=K) rfl) (pv 5) ac (fun _ _=>rfl)) aR (aD _)) (ae (aT (bZ G0 FZ FY aS (pv 4) ((bZ Gk PySem.F.slot_str_join PySem.F.type_str_join i4 aN ((@bK _ _ _ _ (aN<*>((ai (aq (K:=K) rfl) (pv 5) ac (fun _ _=>rfl))<*>((a7 br rfl B.IP boot_str ((ai (aq (K:=K) rfl) (ai (aq (K:=K) rfl) (pv 5) ac (fun _ _=>rfl)) ac (fun _ _=>rfl))<*>ad))<*>((a7 br rfl B.IP boot_str ((ai (aq (K:=K) rfl) (ai (aq (K:=K) rfl) (pv 5) ac (fun _ _=>rfl)) ac (fun _ _=>rfl))<*>ad))<*>ad)))))<*>ad))<*>ad))) (af (bX 4 sc (ak mf (pv 4) (bU DZ66 hr (aN<*>((ai (aq (K:=K) rfl) (pv 5) ac (fun _ _=>rfl))<*>((ai (aq (K:=K) rfl) (ai (aq (K:=K) rfl) (pv 5) ac (fun _ _=>rfl)) ac (fun _ _=>rfl))<*>ad)))))))) az))))))) (af (au (bZ Gk PySem.F.slot_str_join PySem.F.type_str_join i4 aN ((ak mf (pv 3) (pv 4))<*>ad))))))),?_⟩
 try dsimp only[cxK]
 have vl:=rr.1;have l5:(Str.ofString "dish ").length=5:=by decide
 have lB:(Str.ofString " ").length=1:=by decide
 have nl:=nn.len;have pl:=du (n:=p) (by lia)
 refine ⟨ν,aF _ _ ⟨rfl,rfl,by lia,aF _ _ ⟨rfl,rfl,by rw[Str.length_append];lia,ν,ν,gy (by lia),?_⟩⟩⟩
 rw[eV];refine (aF _ _ ⟨rfl,rfl,(by simp only[Str.length_append];lia),by show 1<=sizeLine;decide,fun l1 n1=>?_⟩)
 rw[v9,show jB [Str.ofString "dish",n,bT p]=cn n p from rfl]
 have g1:=aj n1 (.lst [.str (cn n p)]);have el:aL H l1 (.lst [.str (cn n p)]) l1=some (.lst [.str (cn n p)]):=ah;generalize aL H l1 (.lst [.str (cn n p)])=H1 at g1 el⊢;dsimp only[bM,bY];refine ⟨by show 0<=sizeLine;decide,fun lb n2=>?_⟩
 have g2:=aj n2 (.lst []);have eb:aL H1 lb (.lst []) lb=some (.lst []):=ah;have ne:l1≠lb:=fun z=>by rw[<-z,el] at n2;cases n2
 have el2:=g2 _ _ el;generalize aL H1 lb (.lst [])=H2 at g2 eb el2⊢;dsimp only[bM,bY];have nb:=g1.free n2;have g12:=g1.trans g2;change L2.lW _ _ _ [some (.str n),some (vN p),some (.ref lr),some (.ref l1),some (.ref lb),none,none] H2;refine cut (fun σ H'=>∃i,i=ss.length/\∃(lb:Addr) (B:Ld) (o5 o6:Option V),σ= [some (.str n),some (vN p),Li lr,Li l1,Li lb,o5,o6]/\aA H H'/\H' l1=some (.lst ((cn n p::(ss.take i).map (fun s=>fA (kA s))).map V.str))/\H' lb=some (.lst (B.map V.str))/\B=((ss.take i).flatMap gF).map fA/\B.length<=25*i/\l1≠lb/\H lb=none) (fun N hN=>?_) ?_
 ·refine ⟨_,rfl,lr,rfl,⟨_,aO.of (g12 _ _ er)⟩,jg (xs:=vs) (fun i σ H'=>∃(lb:Addr) (B:Ld) (o5 o6:Option V),σ= [some (.str n),some (vN p),Li lr,Li l1,Li lb,o5,o6]/\aA H H'/\H' l1=some (.lst ((cn n p::(ss.take i).map (fun s=>fA (kA s))).map V.str))/\H' lb=some (.lst (B.map V.str))/\B=((ss.take i).flatMap gF).map fA/\B.length<=25*i/\l1≠lb/\H lb=none) (aH lb [] none none ⟨rfl,g12,el2,eb,rfl,by simp,ne,nb⟩) (fun i σ H' _ h=>by obtain ⟨_,_,_,_,_,g,_⟩:=h;exact aO.of (g _ _ er)) ?_ ?_⟩
  ·intro i y σ H3 hy h_;refine ku h_ fun lb B o5 o6 _hi=>?_
   refine im _hi fun _r1 g3 e1 e2 eB _hj=>?_
   refine sd _hj fun lB' ne nb=>?_
   clear h_ _hi _hj;subst _r1;refine jQ (rr.at_ hy) fun s _hi=>?_
   refine iV _hi fun hs _hj=>?_
   refine ku _hj fun a tfl u sv _hk=>?_
   refine jQ _hk fun am _hl=>?_
   refine im _hl fun _r1 ea et hf hu hso=>?_
   clear _hi _hj _hk _hl;subst _r1;obtain ⟨bd,ft⟩:=sb s (F9 hs);have il:=bv hs;have A:=g3 _ _ ea;have snl:=bd.nm.len;have wl:=bd.wd.len;have b1:=bd.le;have k1:=du (n:=s.lo) (by have:=bd.le.1;have:=bd.le.2.1;have:=bd.le.2.2;lia)
   have k2:=du (n:=s.hi) (by have:=bd.le.2.2;lia)
   refine cut (fun σ H'=>∃lw,σ= [some (.str n),some (vN p),Li lr,Li l1,Li lb,Li a,Li lw]/\aA H3 H'/\H' lw=some (.lst ([s.w,s.n,bT s.lo,bT s.hi].map V.str))/\H3 lw=none) (fun N hN=>?_) ?_
   ·refine ⟨ν,aH a _ _ _ ⟨rfl,rfl,bi.of A,rfl,ν,aH a _ _ _ ⟨rfl,rfl,bi.of A,rfl,ν,aH a _ _ _ ⟨rfl,rfl,bi.of A,rfl,ν,gy (by have:=bd.le.2.1;have:=bd.le.2.2;lia),?_⟩⟩⟩⟩
    rw[eV];refine ⟨ν,aH a _ _ _ ⟨rfl,rfl,bi.of A,rfl,ν,gy (by have:=bd.le.2.2;lia),?_⟩⟩
    rw[eV];exact ⟨by show 4<=sizeLine;decide,fun lw nw=>hN _ _ ⟨lw,rfl,aj nw _,ah,nw⟩⟩
   rintro σ H4 ⟨lw,rfl,g4,ew,nw⟩;have e14:=g4 _ _ e1;have e24:=g4 _ _ e2;have nw1:lw≠l1:=fun z=>by rw[z,e1] at nw;cases nw
   have nwb:lw≠lb:=fun z=>by rw[z,e2] at nw;cases nw
   have A4:=g4 _ _ A;refine cut (fun σ H'=>σ= [some (.str n),some (vN p),Li lr,Li l1,Li lb,Li a,Li lw]/\(∀b o,b≠lw->H4 b=some o->H' b=some o)/\H' lw=some (.lst ((gz s).map V.str))) (fun N hN=>?_) ?_
   ·refine ⟨ν,aH a _ _ _ ⟨rfl,rfl,bi.of A4,rfl,rfl,ν,oP (fun e=>?_) (fun e=>hN _ _ ⟨rfl,fun b o _ h=>h,?_⟩)⟩⟩
    ·generalize ef:s.fill=o at ft hf
     match o,ft,hf with
     |none,ft,_=>exact absurd e ft
     |some f,⟨_,f1,f2,f3,f4,f5⟩,hf=>
      obtain rfl:=hf f rfl;refine ⟨ν,.inl ⟨rfl,_,aO.of ew⟩,ν,aH a _ _ _ ⟨rfl,rfl,bi.of A4,rfl,aF tfl f ⟨rfl,g4 _ _ (g3 _ _ et),wK f1 f2 f3 f4 f5,b5 lw _ _ ⟨rfl,rfl,ew,(by show 4<_;lia),hN _ _ ⟨rfl,fun b o n h=>by rw[av n];exact h,?_⟩⟩⟩⟩⟩
      rw[ah];unfold gz;rw[ef]
      rfl
    ·rw[ew];unfold gz;generalize s.fill=o at ft
     match o,ft with
     |none,_=>rfl
     |some f,ft=>exact absurd ft.1 e
   rintro σ H5 ⟨rfl,k5,ew5⟩;have e15:=k5 _ _ (Ne.symm nw1) e14;have e25:=k5 _ _ (Ne.symm nwb) e24;have g5:aA H3 H5:=fun b o h=>k5 b o (fun z=>by rw[z,nw] at h;cases h) (g4 _ _ h)
   have g35:=g3.trans g5;have rowl:=j3 (r:=kA s) ⟨bd.wd,bd.nm,bd.le,bd.fl⟩;refine cut (fun σ H'=>σ= [some (.str n),some (vN p),Li lr,Li l1,Li lb,Li a,Li lw]/\aA H H'/\(∀b o,b≠l1->H5 b=some o->H' b=some o)/\H' l1=some (.lst ((cn n p::(ss.take (i+1)).map (fun s=>fA (kA s))).map V.str))) (fun N hN=>?_) ?_
   ·refine ⟨ν,.inl ⟨rfl,_,aO.of e15⟩,rfl,ν,b5 _ lw (gz s) ⟨rfl,rfl,aO.of ew5,by decide,?_,b5 l1 _ _ ⟨rfl,rfl,e15,by rw[F6,G6,F6,GG];lia,hN _ _ ⟨rfl,fH g35 n1 _,fun b o n h=>by rw[av n];exact h,?_⟩⟩⟩⟩
    ·have w9:=gW (m:=40) (ws:=gz s) fun w hw=>(y6 (r:=kA s) ⟨bd.wd,bd.nm,bd.le,bd.fl⟩).1 w hw|>.2
     have:(gz s).length<=5:=by unfold gz;cases s.fill<;>simp[oS]
     lia
    ·rw[ah,Gq,hs,HB,GO,<-HH,GO]
     rfl
   rintro σ H6 ⟨rfl,g6,k6,e16⟩;have e26:=k6 _ _ (Ne.symm ne) e25;have A6:=g6 _ _ ea;have b25:=pN bd;refine cut (fun σ H'=>∃sW,σ= [some (.str n),some (vN p),Li lr,Li l1,Li sW,Li a,Li lw]/\aA H6 H'/\H' sW=some (.lst ((B++s.uses.map fun u=>jB (dP "with" s.n u)).map V.str))/\H6 sW=none) (fun N hN=>?_) ?_
   ·refine ⟨_,rfl,_,rfl,aH a _ _ _ ⟨rfl,rfl,bi.of A6,rfl,_,rfl,aH a _ _ _ ⟨rfl,rfl,bi.of A6,rfl,aH "with" s.n u s.uses ⟨rfl,hu.same g6,bd.us,by decide,snl,fun l H7 g7 nl e7=>?_⟩⟩⟩⟩
    have u12:=bd.us.1;refine (aH lb l _ _ ⟨rfl,rfl,g7 _ _ e26,e7,by rw[F6,F6,F6];lia,fun p4 n4=>hN _ _ ⟨p4,rfl,g7.trans (aj n4 _),?_,g7.free n4⟩⟩)
    rw[ah,GO]
   rintro σ H7 ⟨sW,rfl,g7,e27,nb7⟩;have g67:=g6.trans g7;have A7:=g67 _ _ ea;have e17:=g7 _ _ e16;have ne7:l1≠sW:=fun z=>by rw[<-z,e16] at nb7;cases nb7
   have fin:∀(l9:Addr) (H9:Hp) (C:Ld),aA H H9->H9 l1=some (.lst ((cn n p::(ss.take (i+1)).map (fun s=>fA (kA s))).map V.str))->H9 l9=some (.lst (C.map V.str))->C=B++(gF s).map fA->l1≠l9->H l9=none->∃(lb:Addr) (B:Ld) (o5 o6:Option V),[some (.str n),some (vN p),some (.ref lr),some (.ref l1),some (.ref l9),some (.ref a),some (.ref lw)]= [some (.str n),some (vN p),some (.ref lr),some (.ref l1),some (.ref lb),o5,o6]/\aA H H9/\H9 l1=some (.lst ((cn n p::(ss.take (i+1)).map (fun s=>fA (kA s))).map V.str))/\H9 lb=some (.lst (B.map V.str))/\B=((ss.take (i+1)).flatMap gF).map fA/\B.length<=25*(i+1)/\l1≠lb/\H lb=none:=fun l9 H9 C h1 h2 h3 h4 h5 h6=>by
    refine (aH l9 C _ _ ⟨rfl,h1,h2,h3,?_,?_,h5,h6⟩)
    ·rw[h4,eB,Gq,hs,HB,List.flatMap_append,GO];simp
    ·rw[h4,FQ,F6]
     lia
   have uw:(s.uses.map fun u=>jB (dP "with" s.n u))=(s.uses.map fun u=>Rr.use false s.n u).map fA:=by
    rw[Gy]
    rfl
   have rB:(gF s).map fA=(s.uses.map fun u=>jB (dP "with" s.n u))++(match s.sec with
    |none=> []
    |some (lo,hi,us)=>Rr.sec s.n lo hi::us.map fun u=>Rr.use true s.n u).map fA:=by
    unfold gF;rw[GO,uw];try (cases s.sec<;>rfl)
   have bsec:=bd.sec;have u12:=bd.us.1;generalize ho:s.sec=o at hso bsec rB
   match o,hso with
   |none,hso=>
    have hso:sv= .non:=hso;subst hso;refine ⟨ν,aH a _ _ _ ⟨rfl,rfl,bi.of A7,rfl,rfl,ν,nF rfl ?_⟩⟩;exact fin sW H7 _ g67 e17 e27 (by rw[rB];simp) ne7 (g6.free nb7)
   |some (lo2,hi2,us2),⟨b,l2,e1s,e2s,e3s⟩=>
    subst e1s;have B7:=g67 _ _ e2s;have k:=bsec _ rfl;have c3:hi2<=100000:=k.1.2.2;have c2:lo2<=hi2:=k.1.2.1;have c12:us2.length<=12:=k.2.1;have d1:=du (n:=lo2) (by lia)
    have d2:=du (n:=hi2) (by lia)
    have l2o:(Str.ofString "or").length=2:=by decide
    refine ⟨ν,aH a _ _ _ ⟨rfl,rfl,bi.of A7,rfl,rfl,ν,nT (fun z=>nomatch z) ?_⟩⟩
    refine cut (fun σ H'=>σ= [some (.str n),some (vN p),Li lr,Li l1,Li sW,Li a,Li lw]/\(∀b o,b≠sW->H7 b=some o->H' b=some o)/\H' sW=some (.lst (((B++s.uses.map fun u=>jB (dP "with" s.n u))++ [jB (gX s.n lo2 hi2)]).map V.str))) (fun N hN=>?_) ?_
    ·refine ⟨ν,.inl ⟨rfl,_,aO.of e27⟩,rfl,ν,aH a _ _ _ ⟨rfl,rfl,bi.of A7,rfl,ν,aH a _ _ _ ⟨rfl,rfl,bi.of A7,rfl,aH b _ _ _ ⟨rfl,rfl,bi.of B7,rfl,ν,gy (by lia),?_⟩⟩⟩⟩
     rw[eV];refine ⟨ν,aH a _ _ _ ⟨rfl,rfl,bi.of A7,rfl,aH b _ _ _ ⟨rfl,rfl,bi.of B7,rfl,ν,gy (by lia),?_⟩⟩⟩
     rw[eV];refine ⟨by show 4<=sizeLine;decide,fun l4 n4=>?_⟩
     have g8:=aj n4 (.lst [.str "or",.str s.n,.str (bT lo2),.str (bT hi2)]);refine (b5 _ l4 (gX s.n lo2 hi2) ⟨rfl,rfl,aO.of ah,by decide,?_,b5 sW _ _ ⟨rfl,rfl,g8 _ _ e27,by rw[F6,FQ,F6];lia,hN _ _ ⟨rfl,fun b o n h=>by rw[av n];exact g8 _ _ h,?_⟩⟩⟩)
     ·simp only[gX,Gw,List.map_nil,Hw,List.sum_nil,G6,List.length_nil]
      lia
     ·rw[ah,GO (l₂:= [jB (gX s.n lo2 hi2)])]
      rfl
    rintro σ H8 ⟨rfl,k8,e28⟩;have g8:aA H H8:=fun b o h=>k8 b o (fun z=>by have:=g6.free nb7;rw[z,this] at h;cases h) (g67 _ _ h)
    have A8:=g8 _ _ ea;have e18:=k8 _ _ ne7 e17;refine ⟨ν,ν,aH a _ _ _ ⟨rfl,rfl,bi.of A8,rfl,ν,aH a _ _ _ ⟨rfl,rfl,bi.of A8,rfl,aH b _ _ _ ⟨rfl,rfl,bi.of (g8 _ _ e2s),rfl,aH "orwith" s.n l2 us2 ⟨rfl,e3s.same g8,k.2,by decide,snl,fun l H9 g9 nl e9=>?_⟩⟩⟩⟩⟩
    refine (aH sW l _ _ ⟨rfl,rfl,g9 _ _ e28,e9,(by rw[F6,F6,F6,FQ,FQ,F6];simp;lia),fun p4 n4=>?_⟩)
    have gA:=aj n4 (.lst (((B++s.uses.map fun u=>jB (dP "with" s.n u))++ [jB (gX s.n lo2 hi2)]).map V.str++(us2.map fun u=>jB (dP "orwith" s.n u)).map V.str))
    refine fin p4 _ (((B++s.uses.map fun u=>jB (dP "with" s.n u))++ [jB (gX s.n lo2 hi2)])++us2.map fun u=>jB (dP "orwith" s.n u)) ((g8.trans g9).trans gA) (gA _ _ (g9 _ _ e18)) (by rw[ah,GO (l₂:=us2.map fun u=>jB (dP "orwith" s.n u))]) ?_ (fun z=>by rw[<-z,g9 _ _ e18] at n4;cases n4) ((g8.trans g9).free n4)
    rw[rB];have uo:(us2.map fun u=>jB (dP "orwith" s.n u))=(us2.map fun u=>Rr.use true s.n u).map fA:=by
     rw[Gy]
     rfl
    rw[uo,GT,GT]
    rfl
  ·rintro σ H3 ⟨lb,B,o5,o6,h⟩;rw[vl] at h;exact hN _ _ ⟨ν,aH lb B o5 o6 h⟩
 intro σ H3 h_;refine jQ h_ fun i _hi=>?_
 refine iV _hi fun _r1 _hj=>?_
 refine ku _hj fun lb B o5 o6 _hk=>?_
 refine im _hk fun _r2 g3 e1 e2 eB _hl=>?_
 refine sd _hl fun lB' ne nb=>?_
 clear h_ _hi _hj _hk _hl;subst _r1;subst _r2;rw[List.take_length] at e1 eB;refine ⟨rfl,ν,ν,aH l1 lb _ _ ⟨rfl,rfl,e1,e2,by rw[F6,F6,G6,F6];lia,fun p3 n3=>?_⟩⟩
 refine (b5 _ p3 (cn n p::(eZ ss).map fA) ⟨rfl,rfl,?_,by decide,?_,q _ (g3.trans (aj n3 _))⟩)
 ·refine aO.of ?_;rw[ah,eB,<-GO,HH];unfold eZ;rw[GO,Gy]
  rfl
 ·have ro:=pM fun s hs=>(sb s hs).1
  have s:=gW (m:=400) (ws:=cn n p::(eZ ss).map fA) fun w hw=>by
   rcases F8.mp hw with rfl|hw
   ·exact (ic nn p2).2
   ·obtain ⟨r,hr,rfl⟩:=GI.mp hw;exact (j3 (ro r hr)).2
  have len:(cn n p::(eZ ss).map fA).length<=400:=by
   unfold eZ;rw[G6,GO,FQ,F6,F6,<-eB]
   lia
  lia
theorem DD {dV:Value} (F:bh K "_law_last_full" "_law_last_full" Bv dV f fd) (DZ48:Dx P w K mg base aV 2 "_law_lowest" ["_law_top","_law_bottom"] [] nP) (DZ63:Dx P w K mg base aV 3 "_law_due" ["_law_rows","_law_factor","_law_size"] [] ng):aW P w K mg base aV 4 f fd ["_law_rows","_law_factor","_law_size","_law_want"] j7:=by
 have sc:aw ["_law_rows","_law_factor","_law_size","_law_want","_law_full","_law_fill","_law_row_here"] ["_law_rows","_law_factor","_law_size","_law_want"] (ao Bv):=cN (by decide+kernel)
 and_intros
 ·obtain ⟨_,_,_,_,_,_,_,_,_,rfl,_⟩:=h
  rfl
 refine mO h fun lr tf ts ss want p q sp sq _hi=>?_
 refine BH _hi fun _r1 _r2 sne s12 rb fc w1 w2 Q1=>?_
 clear h _hi;subst _r1;obtain ⟨vs,er,rr⟩:=_r2;have sl:sizeLine=16777216:=rfl;refine ⟨_,(ae (bX 4 sc (bU DZ63 hr ((cG gI (pv 0) cY (cZ (kC ir ac)))<*>((pv 1)<*>((pv 2)<*>ad))))) (af (aI (PW.pt (ip (ar eN (pv 4) aR (aD _)) (fU (ar kD (aG aZ rfl B.IS boot_len ((pv 4)<*>ad)) (pv 3) (aD _))))) (ae (bX 5 sc (bU DZ48 hr ((ak bo (ak bo (ak pT (pv 3) (aG aZ rfl B.IS boot_len ((pv 4)<*>ad))) (ai (aq (K:=K) rfl) (pv 2) ac (fun _ _=>rfl))) (ai (aq (K:=K) rfl) (pv 1) ac (fun _ _=>rfl)))<*>((ak bo (ai (aq (K:=K) rfl) (pv 2) ac (fun _ _=>rfl)) (ai (aq (K:=K) rfl) (pv 1) ac (fun _ _=>rfl)))<*>ad)))) (ae (bX 6 sc (ai aB (pv 0) (kC ir ac) (fun _ _=>rfl))) (af (uH (@bN _ _ _ _ _ (aN<*>((ai (aq (K:=K) rfl) (pv 6) ac (fun _ _=>rfl))<*>((ai (aq (K:=K) rfl) (pv 6) ac (fun _ _=>rfl))<*>((ai (aq (K:=K) rfl) (pv 6) ac (fun _ _=>rfl))<*>((pv 5)<*>((ai (aq (K:=K) rfl) (pv 6) ac (fun _ _=>rfl))<*>((ai (aq (K:=K) rfl) (pv 6) ac (fun _ _=>rfl))<*>ad)))))))) (zu (pv 0) (kC ir ac) set_list))))) az))),?_⟩
 try dsimp only[cxK]
 have vl:=rr.1;obtain ⟨n,hn⟩:∃n,ss.length=n+1:=⟨ss.length-1,by have:=List.length_pos_iff.mpr sne;lia⟩
 have cutL:fG vs none (some (-1))=vs.take n:=by
  have e:HT.eJ vs.length vs.length (some (-1))=n:=by
   show (if (-1:Int)<0 then (-1+(vs.length:Int)).toNat else min (-1:Int).toNat vs.length)=n
   rw[if_pos (by decide)]
   lia
  unfold fG;rw[HT.nH,List.drop_zero,e,Nat.sub_zero]
 refine ⟨ν,ν,ν,aF lr vs ⟨rfl,aO.of er,fun lc nc=>?_⟩⟩
 have g1:=aj nc (.lst (fG vs none (some (-1))));have ec:aL H lc (.lst (fG vs none (some (-1)))) lc=some (.lst (vs.take n)):=by rw[ah,cutL]
 generalize aL H lc (.lst (fG vs none (some (-1))))=H1 at g1 ec⊢;have rw1:kz H1 lc (ss.take n):=⟨_,ec,by rw[GG,GG,vl],fun i v s e1 e2=>by
  rw[List.getElem?_take] at e1 e2
  by_cases hi:i<n
  ·rw[if_pos hi] at e1 e2;exact (rr.2 i v s e1 e2).o.same g1
  ·rw[if_neg hi] at e1;cases e1⟩
 refine ⟨ν,ν,iM lc tf ts (ss.take n) p q (aF sp sq ⟨rfl,rw1,by rw[GG];lia,fun s hs=>rb s (List.mem_of_mem_take hs),fc.same g1,fun _ H2 g2=>?_,fun _ lf H2 g2 tw=>?_⟩)⟩
 ·have keep:∀b o,b≠lr->H b=some o->H2 b=some o:=fun b o _ e=>g2 _ _ (g1 _ _ e)
  exact ⟨ν,rfl,ν,nF rfl (Q1 ss H2 keep ⟨vs,g2 _ _ (g1 _ _ er),rr.imp fun v s k=>k H2 keep⟩ rfl rb rfl)⟩
 have g12:=g1.trans g2;obtain ⟨ws,os,el,a3⟩:=tw;refine ⟨ν,rfl,ν,nT (fun z=>nomatch z) ⟨ν,aF lf ws ⟨rfl,.inl (aO.of el),ν,aF _ _ ⟨rfl,rfl,ν,d2 (fun lt=>?_) fun _=>?_⟩⟩⟩⟩
 ·have F2:=fc.same g12;have hs:=F0 (show n<ss.length by lia)
  have rs:=rb _ (GU (show n<ss.length by lia))
  generalize ss[n]=s at hs rs;obtain ⟨v,hv,rk⟩:=rr.get hs;have fp1:=fc.p1;have fp0:=fc.p0;have fq1:=fc.q1;have fq0:=fc.q0;have fs1:=fc.sp1;have fs0:=fc.sp0;have ft1:=fc.sq1;have ft0:=fc.sq0;obtain ⟨x,hx⟩:∃x:Int,x=want-(ws.length:Int):=⟨_,rfl⟩;have x0:0<x:=by lia
  have x1:x<=25:=by lia
  have bx:Bd 20 x:=by unfold Bd;show _<1048576;lia
  have bp:Bd 20 p:=by unfold Bd;show _<1048576;lia
  have bq:Bd 20 q:=by unfold Bd;show _<1048576;lia
  have bs:Bd 20 sp:=by unfold Bd;show _<1048576;lia
  have bt:Bd 20 sq:=by unfold Bd;show _<1048576;lia
  have m1:0<x*sp:=Gr x0 fs0;have m2:x*sp<=25*9:=Int.mul_le_mul x1 fs1 (by lia) (by decide)
  have m3:0<x*sp*q:=Gr m1 fq0;have m4:x*sp*q<=225*1000:=Int.mul_le_mul (by lia) fq1 (by lia) (by decide)
  have m5:0<sq*p:=Gr ft0 fp0;have m6:sq*p<=4*1000:=Int.mul_le_mul ft1 fp1 (by lia) (by decide)
  refine cut (fun σ H'=>∃(tl:Addr) (am:dE),σ= [Li lr,Li tf,Li ts,some (.int want),Li lf,Li tl,none]/\aA H2 H'/\H' tl=some (.tup (wP am))/\0<am.1/\0<am.2/\am.2<10000/\HC am.2 am.1=1/\am.1/am.2<10^30) (fun N hN=>?_) ?_
  ·refine ⟨ν,ν,aF lf ws ⟨rfl,.inl (aO.of el),aF _ _ ⟨rfl,rfl,?_⟩⟩⟩;dsimp only;rw[<-hx];refine ⟨ν,aH ts _ _ _ ⟨rfl,rfl,bi.of F2.s,rfl,aF _ _ ⟨rfl,rfl,bx.ok bs,ν,aH tf _ _ _ ⟨rfl,rfl,bi.of F2.f,rfl,aF _ _ ⟨rfl,rfl,(bx.mul bs).ok bq,ν,aH ts _ _ _ ⟨rfl,rfl,bi.of F2.s,rfl,ν,tf,_,ω,bi.of F2.f,rfl,ω,bt.ok bp,_,ν,m5,Bd.mono (m:=20) (by unfold Bd;show _<1048576;lia) (by decide),fun y z f t H3 g3 et=>?_⟩⟩⟩⟩⟩⟩
   obtain ⟨a,b,rfl,rfl,a0,b0,gc,a1,b1⟩:=wI f m3 m5;refine hN _ _ (aF t (a,b) ⟨rfl,g3,et,a0,b0,by show b<10000;lia,gc,?_⟩)
   exact Ge (Nat.div_le_self a b) (GW (show a<1000000 by lia) (by decide+kernel))
  rintro σ H3 ⟨tl,am,rfl,g3,etl,a0,b0,b1,gc,dv⟩;have g13:=g12.trans g3;refine ku (rk.o.same g13) fun a tf0 u sv _hi=>?_
  refine jQ _hi fun fl _hj=>?_
  refine im _hj fun _r1 ea etf hfl hu hso=>?_
  clear _hi _hj;subst _r1;refine cut (fun σ H'=>σ= [Li lr,Li tf,Li ts,some (.int want),Li lf,Li tl,Li a]/\H3=H') (fun N hN=>⟨ν,ν,aH lr _ _ _ ⟨rfl,rfl,aO.of (g13 _ _ er),vZ (n:=n) (by lia) hv,hN _ _ ⟨rfl,rfl⟩⟩⟩) ?_
  rintro σ _ ⟨rfl,rfl⟩;refine ⟨ν,aH a _ _ _ ⟨rfl,rfl,bi.of ea,rfl,ν,aH a _ _ _ ⟨rfl,rfl,bi.of ea,rfl,ν,aH a _ _ _ ⟨rfl,rfl,bi.of ea,rfl,ν,ν,aH a _ _ _ ⟨rfl,rfl,bi.of ea,rfl,ν,a,_,ω,bi.of ea,rfl,by show 7<=sizeLine;decide,fun t nt=>?_⟩⟩⟩⟩⟩
  have g4:=aj nt (.tup [.str "warm",.str s.n,vN s.lo,vN s.hi,.ref tl,.ref u,sv]);have e4:aL H3 t (.tup [.str "warm",.str s.n,vN s.lo,vN s.hi,.ref tl,.ref u,sv]) t=some (.tup [.str "warm",.str s.n,vN s.lo,vN s.hi,.ref tl,.ref u,sv]):=ah;have nt':=g13.free nt;generalize aL H3 t (.tup [.str "warm",.str s.n,vN s.lo,vN s.hi,.ref tl,.ref u,sv])=H4 at g4 e4⊢;have g14:=g13.trans g4;have er4:=g14 _ _ er;have ixn:uQ vs.length (-1)=some n:=by
   unfold uQ;rw[if_neg (by lia),if_pos (by lia)]
   congr 1
   lia
  refine ⟨ν,ν,aH lr vs _ n ⟨rfl,rfl,er4,ixn,?_⟩⟩;have keep:∀b o,b≠lr->H4 b=some o->aL H4 lr (.lst (vs.set n (.ref t))) b=some o:=fun b o n e=>by rw[av n];exact e
  have keepH:∀b o,b≠lr->H b=some o->aL H4 lr (.lst (vs.set n (.ref t))) b=some o:=fun b o n e=>keep b o n (g14 _ _ e)
  have tp:∀{b:Addr} {ys:List V},H4 b=some (.tup ys)->aL H4 lr (.lst (vs.set n (.ref t))) b=some (.tup ys):=fun {b ys} e=>keep _ _ (fun z=>by subst z;rw[er4] at e;cases e) e
  refine ku (rk _ keepH) fun a' tf' u' sv' _hi=>?_
  refine jQ _hi fun fl' _hj=>?_
  refine im _hj fun e1 e2 e3 e5 e6 e7=>?_
  cases e1;rw[tp (g4 _ _ ea)] at e2;cases e2;refine Q1 (ss.set n ⟨"warm",s.n,s.lo,s.hi,some am,s.uses,s.sec⟩) _ keepH ⟨_,ah,by rw[List.length_set,List.length_set,vl],fun i v w h1 h2=>?_⟩ (by rw[List.length_set]) (fun w hw=>?_) (uA hs rfl)
  ·by_cases hi:n=i
   ·subst hi;rw[List.getElem?_set_self (by lia)] at h1 h2
    cases h1;cases h2;exact (aH t tl u sv ⟨am,⟨rfl,tp e4,tp (g4 _ _ etl),fun f e=>(GK e).symm,e6,e7⟩⟩)
   ·rw[Hk hi] at h1 h2;exact rr.2 i v w h1 h2 _ keepH
  ·rcases List.mem_or_eq_of_mem_set hw with hw|rfl
   ·exact rb w hw
   ·exact ⟨.inr (.inr rfl),rs.nm,rs.le,⟨rfl,a0,b0,b1,gc,dv⟩,rs.us,rs.sec⟩
 ·have keep:∀b o,b≠lr->H b=some o->H2 b=some o:=fun b o _ e=>g12 _ _ e
  exact Q1 ss H2 keep ⟨vs,g12 _ _ er,rr.imp fun v s k=>k H2 keep⟩ rfl rb rfl
theorem DE {dV:Value} {hd:Lh} (F:bh K "_law_alone" "_law_alone" yE dV f fd):yN hd P w K mg base 1 f fd ["_law_e"] (f9 Hz):=by
 have sc:aw ["_law_e"] ["_law_e"] (ao yE):=cN (by decide+kernel)
 refine F.okH sc (fun vs H Q E h=>?_) (fun cdv A outer s H vs Q E hr h=>?_)
 ·obtain ⟨_,rfl,_⟩:=h
  rfl
 obtain ⟨a,rfl,⟨⟨n,e⟩,xd⟩,q⟩:=h;refine ⟨_,(ae (aI (bE (aG (jP (K:=K) rfl) rfl B.HM boot_isinstance ((pv 0)<*>((@bN _ _ _ _ _ ((bG (v:=V.ref Il) rfl B.J1 rfl)<*>((bG (v:=V.ref IN) rfl B.Ku rfl)<*>((bG (v:=V.ref Ia) rfl B.Jh rfl)<*>((bG (v:=V.ref IM) rfl B.Kt rfl)<*>((bG (v:=V.ref IL) rfl B.Ks rfl)<*>((bG (v:=V.ref IY) rfl B.KH rfl)<*>((bG (v:=V.ref Ip) rfl B.J7 rfl)<*>((bG (v:=V.ref IK) rfl B.Kr rfl)<*>((bG (v:=V.ref IJ) rfl B.Kq rfl)<*>((bG (v:=V.ref IX) rfl B.KG rfl)<*>ad)))))))))))<*>ad)))) (af (au cJ)) az) (af (au (fh (aG (tM (K:=K) rfl) rfl B.HM boot_isinstance ((pv 0)<*>((bG (v:=V.ref Ig) rfl B.JO rfl)<*>ad))) (gl (lV (aG (jP (K:=K) rfl) rfl B.HM boot_isinstance ((pv 0)<*>((@bN _ _ _ _ _ ((bG (v:=V.ref Ix) rfl B.Kg rfl)<*>((bG (v:=V.ref Ik) rfl B.JZ rfl)<*>((bG (v:=V.ref II) rfl B.Ko rfl)<*>((bG (v:=V.ref IH) rfl B.Km rfl)<*>((bG (v:=V.ref IW) rfl B.KF rfl)<*>ad))))))<*>ad))))))))),?_⟩;try dsimp only[cxK]
 refine ⟨ν,by show 10<=sizeLine;decide,fun t1 n1=>?_⟩
 have g1:=aj n1 (.tup [.ref Il,.ref IN,.ref Ia,.ref IM,.ref IL,.ref IY,.ref Ip,.ref IK,.ref IJ,.ref IX]);refine (iM a _ none t1 [Il,IN,Ia,IM,IL,IY,Ip,IK,IJ,IX] false ⟨rfl,⟨n,g1 _ _ e⟩,trivial,B.Jv,ah,B.JR,ν,cU ?_⟩);refine ⟨ν,aH a _ none _ ⟨true,⟨rfl,⟨n,g1 _ _ e⟩,trivial,B.Jv,.own B.Jl,true,rfl,dh ?_⟩⟩⟩;refine ⟨ν,by show 5<=sizeLine;decide,fun t2 n2=>?_⟩
 have g2:=g1.trans (aj n2 (.tup [.ref Ix,.ref Ik,.ref II,.ref IH,.ref IW]));refine (iM a _ none t2 [Ix,Ik,II,IH,IW] false ⟨rfl,⟨n,g2 _ _ e⟩,trivial,B.Jv,ah,B.JQ,ν,q _ g2⟩)
theorem DF {dV:Value} (F:bh K "_law_asked" "_law_asked" Bw dV f fd) (XZ44:Dx P w K mg base (jr P w) 8 "tasks_of" ["recipe","plates","size"] [.non] (iH K Hy Go on mt Hz)) (HZ69:∀hd,Ch hd P w K mg base 1 "_law_alone" ["_law_e"] (f9 Hz)):aW P w K mg base aV 9 f fd ["_law_recipe","_law_plates","_law_size","_law_left_out"] (lP Hy Go on mt):=by
 have sc:aw ["_law_recipe","_law_plates","_law_size","_law_left_out","_law_found","_law_e"] ["_law_recipe","_law_plates","_law_size","_law_left_out"] (ao Bw):=cN (by decide+kernel)
 and_intros
 ·obtain ⟨_,_,_,_,_,_,_,_,rfl,_⟩:=h
  rfl
 refine tU h fun r pl ts left p0 ss _hi=>?_
 refine zZ _hi fun sp sq _hj=>?_
 refine im _hj fun _r1 rt l1 l2 sz q=>?_
 clear h _hi _hj;subst _r1;have sl:sizeLine=16777216:=rfl;refine ⟨_,(ae (vf rfl rfl (fun pins E=>(af (aI (PW.pt (ip (bE (pv 3)) (fU (ar bO (ak aJ (pv 1) ac) ac (aD _))))) (af (bX 4 sc (xD XZ44 hr (by decide) rfl jt ((pv 0)<*>((pv 1)<*>ad))))) (af (aI (bE (pv 3)) (af (bX 4 sc (qr XZ44 hr (by decide) rfl jt ((pv 0)<*>((pv 1)<*>(aR<*>ad)))))) (af (bX 4 sc (qr XZ44 hr (by decide) rfl jt ((pv 0)<*>((pv 1)<*>((pv 2)<*>ad))))))))))) (zH B.Kf rfl B.JJ sc.nd (i:=5) rfl rfl (fun pins a=>(ae (aI (bE (zK (j:=8) (HZ69 (some (.ref a))) (hr.suite _) (by decide) rfl ((pv 5)<*>ad))) (af (au aR)) az) (af (au aN)))) vg)) (af (au (pv 4)))),?_⟩
 try dsimp only[cxK]
 obtain ⟨es,sp0,sp9,sq0,sq4,sl1⟩:=sz;cases left with
 |false=>
  refine ⟨ν,ν,cU ⟨ν,ν,cU ?_⟩⟩;refine ⟨ν,ν,ν,iM r pl _ p0 ss sp ⟨sq,⟨rfl,rt,l1,by lia,.inr ⟨ts,rfl,?_⟩,sp0,fun a b F=>?_⟩⟩⟩
  ·exact ⟨bi.of es,sq0,Bd.mono (m:=10) (by unfold Bd;show _<1024;lia) (by decide),Bd.mono (m:=10) (by unfold Bd;show _<1024;lia) (by decide)⟩
  ·obtain ⟨q1,q2⟩:=q a b F;refine ⟨fun c H1 g1 xa nxa=>(aF Hz true ⟨rfl,B.IT,dh ?_⟩),fun c l H1 g1 tw=>⟨ν,q2 c l H1 g1 tw⟩⟩
   have k4:=aj nxa (qo xa (.ref Hz) none);exact ⟨ν,xa,rfl,⟨⟨_,ah⟩,trivial⟩,fun H5 g5=>⟨true,rfl,dh (q1 c _ ((g1.trans k4).trans g5))⟩⟩
 |true=>
  refine ⟨ν,ν,dh ⟨ν,aF _ _ ⟨rfl,rfl,(by show (2:Int)≠0;decide),rfl,ν,uB (fun _=>?_) fun _=>?_⟩⟩⟩
  ·obtain ⟨rfl,rfl⟩:=sl1 rfl;refine ⟨ν,ν,iM r pl _ p0 ss 1 ⟨1,⟨rfl,rt,l1,by lia,.inl ⟨rfl,rfl,rfl⟩,by decide,fun a b F=>?_⟩⟩⟩
   obtain ⟨q1,q2⟩:=q a b F;refine ⟨fun c H1 g1 xa nxa=>(aF Hz true ⟨rfl,B.IT,dh ?_⟩),fun c l H1 g1 tw=>⟨ν,q2 c l H1 g1 tw⟩⟩
   have k4:=aj nxa (qo xa (.ref Hz) none);exact ⟨ν,xa,rfl,⟨⟨_,ah⟩,trivial⟩,fun H5 g5=>⟨true,rfl,dh (q1 c _ ((g1.trans k4).trans g5))⟩⟩
  ·obtain ⟨rfl,rfl⟩:=sl1 rfl;refine ⟨ν,ν,dh ?_⟩;refine ⟨ν,ν,iM r pl _ p0 ss 1 ⟨1,⟨rfl,rt,l1,by lia,.inl ⟨rfl,rfl,rfl⟩,by decide,fun a b F=>?_⟩⟩⟩
   obtain ⟨q1,q2⟩:=q a b F;refine ⟨fun c H1 g1 xa nxa=>(aF Hz true ⟨rfl,B.IT,dh ?_⟩),fun c l H1 g1 tw=>⟨ν,q2 c l H1 g1 tw⟩⟩
   have k4:=aj nxa (qo xa (.ref Hz) none);exact ⟨ν,xa,rfl,⟨⟨_,ah⟩,trivial⟩,fun H5 g5=>⟨true,rfl,dh (q1 c _ ((g1.trans k4).trans g5))⟩⟩
theorem DG {dV:Value} (F:bh K "_law_right" "_law_right" By dV f fd) (DZ48:Dx P w K mg base aV 2 "_law_lowest" ["_law_top","_law_bottom"] [] nP) (DZ56:Dx P w K mg base aV 8 "_law_alike" ["_law_found","_law_due_here"] [] (pD 6)) (DZ63:Dx P w K mg base aV 3 "_law_due" ["_law_rows","_law_factor","_law_size"] [] ng) (DZ70:Dx P w K mg base aV 9 "_law_asked" ["_law_recipe","_law_plates","_law_size","_law_left_out"] [] (lP Hy Go on mt)):aW P w K mg base aV 10 f fd ["_law_recipe","_law_rows","_law_plates","_law_size","_law_left_out"] (lQ Hy Go on mt):=by
 have sc:aw ["_law_recipe","_law_rows","_law_plates","_law_size","_law_left_out","_law_due_here","_law_found","_law_k"] ["_law_recipe","_law_rows","_law_plates","_law_size","_law_left_out"] (ao By):=cN (by decide+kernel)
 and_intros
 ·obtain ⟨_,_,_,_,_,_,_,_,_,rfl,_⟩:=h
  rfl
 refine mO h fun r lr pl ts left p0 ss sp sq _hi=>?_
 refine im _hi fun _r1 rt rws rb l1 _hj=>?_
 refine sd _hj fun l2 sz Q1=>?_
 clear h _hi _hj;subst _r1;have sl:sizeLine=16777216:=rfl;refine ⟨_,(ae (bX 5 sc (bU DZ63 hr ((pv 1)<*>((bU DZ48 hr ((pv 2)<*>((bI (pv 0) rfl)<*>ad)))<*>((pv 3)<*>ad))))) (ae (bX 6 sc (bU DZ70 hr ((pv 0)<*>((pv 2)<*>((pv 3)<*>((pv 4)<*>ad)))))) (ae (aI (ar cP (pv 5) aR (aD _)) (af (au (dS cP (pv 6) aR (aD _)))) az) (ae (aI (cr (bE (bU DZ56 hr ((pv 6)<*>((pv 5)<*>ad))))) (af (au cJ)) az) (ae (cv PassesOwn.never rfl (cu rfl B.IZ ((aG aZ rfl B.IS boot_len ((pv 6)<*>ad))<*>ad)) (iS 7 sc) (ae (aT (bZ G0 FZ FY aS (ai (aq (K:=K) rfl) (ai aB (ai (aq (K:=K) rfl) (ai aB (pv 6) (pv 7) (fun _ _=>rfl)) ac (fun _ _=>rfl)) ac (fun _ _=>rfl)) ac (fun _ _=>rfl)) (aN<*>ad))) (ae (aT (bZ G0 FZ FY aS (ai (aq (K:=K) rfl) (ai aB (pv 6) (pv 7) (fun _ _=>rfl)) ac (fun _ _=>rfl)) (aR<*>ad))) (af (aI (cr (bE (bU DZ56 hr ((cG gI (pv 6) (cZ (ak bH (pv 7) ac)) cY)<*>((cG gI (pv 5) (cZ (ak bH (pv 7) ac)) cY)<*>ad))))) (af (au cJ)) az))))) (ae (aT (bZ G0 FZ FY aS (pv 6) (aR<*>ad))) (af (au cJ)))))))),?_⟩
 try dsimp only[cxK]
 obtain ⟨nm,T,L,ra⟩:=rt.ex;obtain ⟨la,ls,lk,⟨dx,er⟩,_⟩:=ra.ex;have p1:=rt.p1;have p2:=rt.p2;obtain ⟨es,sp0,sp9,sq0,sq4,sl1⟩:=id sz;refine ⟨ν,ν,ν,aH r mt dx _ ⟨_,⟨rfl,er,B.Id,B.Iw,cQ.2.1,aF pl (p0:Int) ⟨rfl,by lia,Bd.mono (m:=20) (by unfold Bd;show _<1048576;lia) (by decide),fun p q F tf H1 g1 etf=>?_⟩⟩⟩⟩
 have fp0:=jR F (by lia) (by lia)
 have fq0:=F.pos;have fb:=F.bt;have fbb:=F.bb;have fc:BL H1 tf ts p q sp sq:=⟨etf,g1 _ _ es,fp0,by lia,fq0,by lia,sp0,sp9,sq0,sq4⟩
 have rn1:∀s∈ss,1<=lN s.fill p q sp sq:=fun s hs=>nh fp0 fq0 sp0 sq0 (rb s hs).b.fl
 refine ⟨ν,iM lr tf ts ss p q (aF sp sq ⟨rfl,rws.same g1,rt.len,rb,fc,fun gt H2 g2=>?_,fun le ld H2 g2 tw=>?_⟩)⟩
 ·have g12:=g1.trans g2;refine ⟨ν,ν,ν,ν,iM r pl ts left p0 ss (aF sp sq ⟨rfl,rt.same g12,l1,l2,sz.same g12,fun a b F'=>?_⟩)⟩
  obtain ⟨rfl,rfl⟩:=nj F F' (by lia)
  refine ⟨fun _ H3 g3=>?_,fun c=>absurd gt (by lia)⟩
  exact ⟨ν,rfl,ν,d2 (fun _=>⟨ν,rfl,by rw[decide_eq_true rfl];exact Q1 _ (g12.trans g3)⟩) (fun w=>absurd rfl w)⟩
 ·have g12:=g1.trans g2;refine ⟨ν,ν,ν,ν,iM r pl ts left p0 ss (aF sp sq ⟨rfl,rt.same g12,l1,l2,sz.same g12,fun a b F'=>?_⟩)⟩
  obtain ⟨rfl,rfl⟩:=nj F F' (by lia)
  refine ⟨fun c=>absurd c (by lia),fun _ l H3 g3 ti=>?_⟩
  have ff:=yA (p:=p) (q:=q) (sp:=sp) (sq:=sq) (fun s hs=>(rb s hs).b.nd) rn1 le
  have wn:=zh (ss:=ss) (p:=p) (q:=q) (sp:=sp) (sq:=sq) ss.length;change ∀t∈wQ ss p q sp sq,t.ws≠ [] at wn;generalize wQ ss p q sp sq=tk at tw ti ff wn;obtain ⟨few,t24⟩:=ff;obtain ⟨vs,os,el,a3,ndo,nwo⟩:=ti.ex;obtain ⟨ws,os',eld,a3'⟩:=tw;have vl:=a3.1;have ol:=a3.2.1;have wl:=a3'.1;refine ⟨ν,rfl,ν,d2 (fun w=>nomatch w) fun _=>?_⟩
  refine ⟨ν,ν,b5 _ _ 6 ⟨rfl,FO _,wD el (g3 _ _ eld) a3 (a3'.same g3) few,⟨ν,cU ?_⟩⟩⟩;dsimp only[bM,bY];change L2.lW _ _ _ [some (.ref r),some (.ref lr),some (.int pl),some (.ref ts),some (.bl left),some (.ref ld),some (.ref l),none] H3;refine cut (fun σ H'=>∃o7,σ= [Li r,Li lr,some (.int pl),Li ts,some (.bl left),Li ld,Li l,o7]/\aA H2 H'/\H' l=some (.lst vs)) (fun N hN=>?_) ?_
  ·refine ⟨ν,aF l _ ⟨rfl,.inl (aO.of el),ν,by lia,by lia,cw (fun i σ H'=>∃o7,σ= [Li r,Li lr,some (.int pl),Li ts,some (.bl left),Li ld,Li l,o7]/\aA H2 H'/\H' l=some (.lst vs)/\A3 H' (vs.drop i) (tk.drop i) (os.drop i)) ⟨none,rfl,g3,el,by simpa using a3⟩ (fun i σ H4 hi hP=>?_) (fun σ H4 hP=>?_)⟩⟩
   ·obtain ⟨o7,rfl,g4,el4,b3⟩:=hP;have il:i<vs.length:=by lia
    have hv:=F0 il;have ht:=F0 (show i<tk.length by lia)
    have ho:=F0 (show i<os.length by lia)
    obtain ⟨a,ea0,ea,b0⟩:=b3.2.2 0 _ _ _ (by rw[Hd,Nat.add_zero];exact hv) (by rw[Hd,Nat.add_zero];exact ht) (by rw[Hd,Nat.add_zero];exact ho)
    have wne:=wn _ (GU (show i<tk.length by lia))
    obtain ⟨no,off,offl⟩:=yz ndo ho;generalize os[i]=o at ho ea b0 no off;generalize tk[i]=tt at ht ea b0 wne;obtain ⟨b,cs⟩:=o;obtain ⟨us,eb,n1,n2,rw4⟩:=id b0;dsimp only at ea b0 eb n1 no off;obtain ⟨w0,hw0⟩:∃w0,tt.ws[0]?=some w0:=⟨_,F0 (List.length_pos_iff.mpr wne)⟩;have wlp:=bv hw0;have hu0:=F0 (show 0<us.length by lia)
    have hc0:=F0 (show 0<cs.length by lia)
    obtain ⟨w,ew,etw,zs,ec,_⟩:=rw4 0 _ _ _ hu0 hw0 hc0;generalize cs[0]=c at hc0 etw ec;have cm:c∈cs:=F9 hc0;have at_:fe vs (0+(i:Int))=some (.ref a):=by rw[Gs];exact aC (by rw[hv,ea0])
    have at0:fe us (0:Int)=some (.ref w):=aC (j:=0) (by rw[hu0,ew])
    have cb:c≠b:=fun z=>(GR.mp no).1 (z▸cm)
    have offc:=off c (FS _ cm);have offb:=off b GM;refine cut (fun σ H'=>σ= [Li r,Li lr,some (.int pl),Li ts,some (.bl left),Li ld,Li l,some (.int (0+(i:Int)))]/\aA H2 H'/\H' l=some (.lst vs)/\H' a=some (.tup [.int tt.k,.int tt.t,.ref b])/\H' b=some (.lst us)/\A3 H' (vs.drop (i+1)) (tk.drop (i+1)) (os.drop (i+1))) (fun N hN=>?_) ?_
    ·refine ⟨ν,ν,aH l _ _ _ ⟨rfl,rfl,aO.of el4,at_,aH a _ _ _ ⟨rfl,rfl,bi.of ea,rfl,aH b _ _ _ ⟨rfl,rfl,aO.of eb,at0,aH w _ _ _ ⟨rfl,rfl,bi.of etw,rfl,.inl ⟨rfl,_,aO.of ec⟩,?_⟩⟩⟩⟩⟩;have zl:zs.length<=4000:=by
      have h:=few.ws tt (F9 ht);have k:=h.2 w0 (F9 hw0);obtain ⟨_,e1,_,zs',e2,r2⟩:=rw4 0 _ _ _ hu0 hw0 hc0;rw[ec] at e2;cases e2;rw[r2.1];exact k
     have ne1:∀{y:Addr} {o:HO},H4 y=some o->y≠c->aL H4 c (.lst (zs++ [.str "z"])) y=some o:=fun e n=>by rw[av n];exact e
     refine (b5 c _ _ ⟨rfl,rfl,ec,by lia,hN _ _ ⟨rfl,fH g4 (nwo c (FS _ offc.2.2)) _,ne1 el4 (fun z=>offc.2.1 z.symm),ne1 ea (fun z=>by rw[z,ec] at ea;cases ea),ne1 eb (fun z=>cb z.symm),?_⟩⟩)
     have d:=b3.drop 1;rw[List.drop_drop,List.drop_drop,List.drop_drop] at d;exact d.kp (.upd ec offc.1)
    rintro σ H5 ⟨rfl,g5,el5,ea5,eb5,a5⟩;refine cut (fun σ H'=>σ= [Li r,Li lr,some (.int pl),Li ts,some (.bl left),Li ld,Li l,some (.int (0+(i:Int)))]/\aA H2 H'/\H' l=some (.lst vs)/\A3 H' (vs.drop (i+1)) (tk.drop (i+1)) (os.drop (i+1))) (fun N hN=>?_) ?_
    ·have ul:us.length<=4000:=by
      have h:=few.ws tt (F9 ht)
      lia
     refine ⟨ν,ν,aH l _ _ _ ⟨rfl,rfl,aO.of el5,at_,aH a _ _ _ ⟨rfl,rfl,bi.of ea5,rfl,.inl ⟨rfl,_,aO.of eb5⟩,b5 b _ _ ⟨rfl,rfl,eb5,by lia,hN _ _ ⟨rfl,fH g5 (nwo b (FS _ offb.2.2)) _,by rw[av (fun z=>offb.2.1 z.symm)];exact el5,a5.kp (.upd eb5 offb.1)⟩⟩⟩⟩⟩
    rintro σ H6 ⟨rfl,g6,el6,a6⟩;have eq1:((0:Int)+(i:Int)+1)=((i+1:Nat):Int):=by lia
    refine ⟨ν,ν,aF _ _ ⟨rfl,rfl,ν,aF l vs ⟨rfl,aO.of el6,fun p5 n5=>?_⟩⟩⟩
    rw[eq1,lS];have g7:=aj n5 (.lst (vs.drop (i+1)));have e7:aL H6 p5 (.lst (vs.drop (i+1))) p5=some (.lst (vs.drop (i+1))):=ah;generalize aL H6 p5 (.lst (vs.drop (i+1)))=H7 at g7 e7⊢;have g27:=g6.trans g7;refine ⟨ν,ν,aF _ _ ⟨rfl,rfl,ν,aF ld ws ⟨rfl,aO.of (g27 _ _ eld),fun p6 n6=>?_⟩⟩⟩
    rw[eq1,lS];have g8:=aj n6 (.lst (ws.drop (i+1)));have e8:aL H7 p6 (.lst (ws.drop (i+1))) p6=some (.lst (ws.drop (i+1))):=ah;generalize aL H7 p6 (.lst (ws.drop (i+1)))=H8 at g8 e8⊢;have a8:=a6.same (g7.trans g8);have a8':=(a3'.drop (i+1)).same (g27.trans g8);exact (b5 _ _ 6 ⟨rfl,FO _,wD (g8 _ _ e7) e8 a8 a8' (few.drop _),⟨ν,cU ⟨ν,g27.trans g8,g8 _ _ (g7 _ _ el6),a8⟩⟩⟩)
   ·obtain ⟨o7,rfl,g4,el4,b3⟩:=hP;exact hN _ _ ⟨o7,rfl,g4,el4⟩
  rintro σ H4 ⟨o7,rfl,g4,el4⟩;refine ⟨ν,.inl ⟨rfl,_,aO.of el4⟩,b5 l _ _ ⟨rfl,rfl,el4,by lia,Q1 _ (g12.trans (fH g4 (nwo l GM) _))⟩⟩
theorem DH {dV:Value} (F:bh K "law" "law" ny dV f fd) (DZ28:kr P w K mg base aV 1 Jt ["self","name","plates","takes","steps","links"] [] (qG K)) (DZ42:Dx P w K mg base aV 10 "read_recipe" ["text"] [] (lL Hy Go on mt)) (DZ43:Dx P w K mg base aV 3 "factor_of" ["recipe","plates"] [] (iF K)) (DZ45:Dx P w K mg base aV 1 "_law_cell_at" ["_law_script","_law_k"] [] (uX K)) (DZ46:Dx P w K mg base aV 1 "_law_names" ["_law_number","_law_many"] [] pE) (DZ48:Dx P w K mg base aV 2 "_law_lowest" ["_law_top","_law_bottom"] [] nP) (DZ56:Dx P w K mg base aV 8 "_law_alike" ["_law_found","_law_due_here"] [] (pD 6)) (DZ59:Dx P w K mg base aV 3 "_law_row" ["_law_cell","_law_more","_law_name","_law_tools"] [] sM) (DZ60:Dx P w K mg base aV 4 "_law_step" ["_law_row_here"] [] (pI Hy Go on)) (DZ64:Dx P w K mg base aV 1 "_law_bounded" ["_law_row_here"] [] lO) (DZ67:Dx P w K mg base aV 2 "_law_text" ["_law_name","_law_plates","_law_rows"] [] pK) (DZ68:Dx P w K mg base aV 4 "_law_last_full" ["_law_rows","_law_factor","_law_size","_law_want"] [] j7) (DZ71:Dx P w K mg base aV 10 "_law_right" ["_law_recipe","_law_rows","_law_plates","_law_size","_law_left_out"] [] (lQ Hy Go on mt)):aW P w K mg base aV 20 f fd ["_law_script"] (rj K):=by
 have sc:aw ["_law_script","_law_head","_law_names_here","_law_tools","_law_rows","_law_k","_law_cell","_law_first","_law_more","_law_plates","_law_size","_law_left_out","_law_steps","_law_recipe","_law_small","_law_told"] ["_law_script"] (ao ny):=cN (by decide+kernel)
 and_intros
 ·obtain ⟨_,_,rfl,_⟩:=h
  rfl
 obtain ⟨a,ns,rfl,hS,h63,qq⟩:=h;have sl:sizeLine=16777216:=rfl;refine ⟨_,(ae (bX 1 sc (bU DZ45 hr ((pv 0)<*>(ac<*>ad)))) (ae (bX 2 sc (bU DZ46 hr ((bU DZ45 hr ((pv 0)<*>(ac<*>ad)))<*>(ac<*>ad)))) (ae (bX 3 sc (bU DZ46 hr ((ak bH (ak aQ (bU DZ45 hr ((pv 0)<*>(ac<*>ad))) ac) ac)<*>(ac<*>ad)))) (ae (bX 4 sc (@bK _ _ _ _ ad)) (ae (cv PassesOwn.never rfl (cu rfl B.IZ ((ak aJ (pv 1) ac)<*>ad)) (iS 5 sc) (ae (bX 6 sc (ak aJ (bU DZ45 hr ((pv 0)<*>((ak bH ac (ak bo ac (pv 5)))<*>ad))) (ak fV ac ac))) (af (aT (bZ G0 FZ FY aS (pv 4) ((bU DZ59 hr ((pv 6)<*>((ak aJ (bU DZ45 hr ((pv 0)<*>((ak bH ac (ak bo ac (pv 5)))<*>ad))) (ak fV ac ac))<*>((ai aB (pv 2) (pv 5) (fun _ _=>rfl))<*>((pv 3)<*>ad)))))<*>ad)))))) (ae (bX 7 sc (ak bH ac (ak aJ (bU DZ45 hr ((pv 0)<*>(ac<*>ad))) ac))) (ae (bX 8 sc (bU DZ45 hr ((pv 0)<*>(ac<*>ad)))) (@ae _ _ _ _ _ (@jf _ _ 9 _ _ _ _ sc.nd rfl (Or.inl rfl) (@ai _ _ _ _ _ _ _ aB (@bK _ _ _ _ ((pv 7)<*>((aG (tD rfl) rfl B.KY boot_min (ac<*>((ak bo (pv 7) (ak bH ac (ak aJ (ak aQ (pv 8) ac) ac)))<*>ad)))<*>((ak bH ac (ak aJ (ak aQ (pv 8) ac) ac))<*>ad)))) (ak aJ (pv 8) ac) (fun _ _=>rfl)) rfl (Or.inr rfl)) (ae (bX 10 sc (bU DZ48 hr ((ak bH ac (ak aJ (ak aQ (pv 1) ac) ac))<*>((ak bH ac (ak aJ (ak aQ (pv 1) ac) ac))<*>ad)))) (ae (bX 11 sc (dS bO (ak aJ (ak aQ (pv 1) ac) ac) ac (aD _))) (ae (aI (bE (pv 11)) (af (bX 10 sc (@bN _ _ _ _ _ (ac<*>(ac<*>ad))))) az) (ae (aI (PW.pt (ip (ar (vK hr.units0) (pv 4) (@bK _ _ _ _ ad) (aD _)) (fU (ar bO (ak aJ (ak aQ (pv 1) ac) ac) ac (aD _))))) (af (aT (bU DZ68 hr ((pv 4)<*>((bU DZ48 hr ((pv 9)<*>((pv 7)<*>ad)))<*>((pv 10)<*>((ak bH ac (ak aJ (ak aQ (pv 1) ac) ac))<*>ad))))))) az) (ae (jH (own:= "_law_row_here") (ys:= []) (js:= []) sc.nd (i:=12) rfl rfl rfl (BD vo .nil (by decide) rfl rfl rfl rfl rfl rfl rfl rfl) (cX (pv 4)) (fun C fp s H=>(bU DZ60 hr ((pv 0)<*>ad)))) (ae (bX 13 sc (jy B.JI DZ28 hr (by decide) rfl B.JY ((ai aB (pv 2) ac (fun _ _=>rfl))<*>((pv 7)<*>((@bK _ _ _ _ ad)<*>((pv 12)<*>((@bK _ _ _ _ ad)<*>ad))))))) (ae (aI (cr (bE (bU DZ56 hr ((bU DZ43 hr ((pv 13)<*>((pv 9)<*>ad)))<*>((bU DZ48 hr ((pv 9)<*>((pv 7)<*>ad)))<*>ad))))) (af (au cJ)) az) (ae (aI (PW.pt (dN (cr (bE (bU DZ71 hr ((pv 13)<*>((pv 4)<*>((pv 9)<*>((pv 10)<*>((pv 11)<*>ad)))))))) (dA (cr (bE (bU DZ71 hr ((pv 13)<*>((pv 4)<*>((pv 7)<*>((pv 10)<*>((pv 11)<*>ad))))))))))) (af (au cJ)) az) (ae (cv PassesOwn.never rfl (cu rfl B.IZ ((aG aZ rfl B.IS boot_len ((pv 4)<*>ad))<*>ad)) (iS 5 sc) (ae (aI (cr (bE (bU DZ56 hr ((bI (ai aB (pv 12) (pv 5) (fun _ _=>rfl)) rfl)<*>((ai (aq (K:=K) rfl) (ai aB (pv 4) (pv 5) (fun _ _=>rfl)) ac (fun _ _=>rfl))<*>ad))))) (af (au cJ)) az) (af (aI (PW.pt (ip (ar eN (ai (aq (K:=K) rfl) (ai aB (pv 4) (pv 5) (fun _ _=>rfl)) ac (fun _ _=>rfl)) aR (aD _)) (fU (cr (bE (bU DZ56 hr ((bI (ai aB (pv 12) (pv 5) (fun _ _=>rfl)) rfl)<*>((ai (aq (K:=K) rfl) (ai aB (pv 4) (pv 5) (fun _ _=>rfl)) ac (fun _ _=>rfl))<*>ad)))))))) (af (au cJ)) az)))) (ae (jH (own:= "_law_row_here") (ys:= []) (js:= []) sc.nd (i:=14) rfl rfl rfl (BD vo .nil (by decide) rfl rfl rfl rfl rfl rfl rfl rfl) (cX (pv 4)) (fun C fp s H=>(bU DZ64 hr ((pv 0)<*>ad)))) (ae (bX 15 sc (bU DZ42 hr ((bU DZ67 hr ((ai aB (pv 2) ac (fun _ _=>rfl))<*>((pv 7)<*>((pv 14)<*>ad))))<*>ad))) (ae (aI (cr (bE (bU DZ71 hr ((pv 15)<*>((pv 14)<*>((pv 9)<*>((pv 10)<*>((pv 11)<*>ad)))))))) (af (au cJ)) az) (af (au (fh (bU DZ71 hr ((pv 13)<*>((pv 4)<*>((pv 9)<*>((pv 10)<*>((pv 11)<*>ad)))))) (gl (bU DZ71 hr ((pv 15)<*>((pv 14)<*>((pv 7)<*>((pv 10)<*>((pv 11)<*>ad)))))))))))))))))))))))))))))),?_⟩
 try dsimp only[cxK]
 refine cut (fun σ H'=>∃hd:Int,σ= [Li a,some (.int hd),none,none,none,none,none,none,none,none,none,none,none,none,none,none]/\H=H') (fun N hN=>⟨ν,b5 a ns 0 ⟨rfl,hS,by decide,fun hd=>hN _ _ ⟨hd,rfl,rfl⟩⟩⟩) ?_
 rintro σ _ ⟨hd,rfl,rfl⟩;refine cut (fun σ H'=>∃(ln:Addr) (zs:Ld),σ= [Li a,some (.int hd),Li ln,none,none,none,none,none,none,none,none,none,none,none,none,none]/\aA H H'/\H' ln=some (.lst (zs.map V.str))/\Zn 12 zs) (fun N hN=>?_) ?_
 ·exact ⟨ν,b5 a ns 1 ⟨rfl,hS,by decide,fun c=>(aF _ _ ⟨rfl,by decide,by decide,fun l H' zs g e zl nm nd=>hN _ _ (aF l zs ⟨rfl,g,e,by lia,nd,nm⟩)⟩)⟩⟩
 rintro σ H1 ⟨ln,zs,rfl,g1,en,zn⟩;refine cut (fun σ H'=>∃(lt:Addr) (ys:Ld),σ= [Li a,some (.int hd),Li ln,Li lt,none,none,none,none,none,none,none,none,none,none,none,none]/\aA H1 H'/\H' lt=some (.lst (ys.map V.str))/\Zn 6 ys) (fun N hN=>?_) ?_
 ·exact ⟨ν,b5 a ns 1 ⟨rfl,g1.seq hS,by decide,fun c=>(aF _ _ ⟨rfl,rfl,⟨by decide,FX (by decide)⟩,aF _ _ ⟨rfl,rfl,aF _ _ ⟨rfl,by decide,by decide,fun l H' zs g e zl nm nd=>hN _ _ (aF l zs ⟨rfl,g,e,by lia,nd,nm⟩)⟩⟩⟩)⟩⟩
 rintro σ H2 ⟨lt,ys,rfl,g2,et,yn⟩;have g12:=g1.trans g2;refine cut (fun σ H'=>∃lr:Addr,σ= [Li a,some (.int hd),Li ln,Li lt,Li lr,none,none,none,none,none,none,none,none,none,none,none]/\aA H2 H'/\H' lr=some (.lst [])/\H2 lr=none) (fun N hN=>⟨by show 0<=sizeLine;decide,fun lr nr=>hN _ _ ⟨lr,rfl,aj nr _,ah,nr⟩⟩) ?_
 rintro σ H3 ⟨lr,rfl,g3,er,nr⟩;have g13:=g12.trans g3;have m0:=FM hd (show (0:Int)<13 by decide)
 have m1:=FT hd (show (0:Int)<13 by decide)
 refine cut (fun σ H'=>∃(ss:List SV) (o5 o6:Option V),σ= [Li a,some (.int hd),Li ln,Li lt,Li lr,o5,o6,none,none,none,none,none,none,none,none,none]/\aA H2 H'/\pF H' lr ss/\ss.length<=12/\(ss.map fun x=>x.n)=zs.take ss.length/\∀s∈ss,sK s) (fun N hN=>?_) ?_
 ·have inv:∀i:Nat,i=i:=fun _=>rfl
  refine ⟨ν,aF _ _ ⟨rfl,rfl,(by show (13:Int)≠0;decide),ν,by lia,by lia,cw (fun i σ H'=>∃(ss:List SV) (o5 o6:Option V),σ= [Li a,some (.int hd),Li ln,Li lt,Li lr,o5,o6,none,none,none,none,none,none,none,none,none]/\aA H2 H'/\pF H' lr ss/\ss.length=i/\(ss.map fun x=>x.n)=zs.take ss.length/\∀s∈ss,sK s) (b5 [] none none ⟨rfl,g3,⟨[],er,.nil⟩,rfl,rfl,fun s hs=>by cases hs⟩) (fun i σ H4 hi hP=>?_) (fun σ H4 hP=>?_)⟩⟩
  ·obtain ⟨ss,o5,o6,rfl,g4,⟨vs,ev,rv⟩,sl',nms,rb⟩:=hP;have g14:=g12.trans g4;have S4:=g14.seq hS;have i12:i<12:=by lia
   have vl:=rv.1;have zl:=zn.len;refine cut (fun σ H'=>∃c:Int,0<=c/\σ= [Li a,some (.int hd),Li ln,Li lt,Li lr,some (.int (0+(i:Int))),some (.int c),none,none,none,none,none,none,none,none,none]/\H4=H') (fun N hN=>?_) ?_
   ·exact ⟨ν,ν,aF _ _ ⟨rfl,rfl,IntMulOk.of_left (by decide),aF _ _ ⟨rfl,rfl,b5 a ns _ ⟨rfl,S4,by lia,fun c=>(aF _ _ ⟨rfl,rfl,⟨by decide,by decide⟩,aF _ _ ⟨rfl,rfl,(by show (10^12:Int)≠0;decide),hN _ _ ⟨_,FM c (show (0:Int)<10^12 by decide),rfl,rfl⟩⟩⟩)⟩⟩⟩⟩
   rintro σ _ ⟨c,c0,rfl,rfl⟩;have hz:=F0 (show i<zs.length by lia)
   have zm:=zn.nm _ (GU (show i<zs.length by lia))
   have vo:fe (zs.map V.str) (0+(i:Int))=some (.str zs[i]):=by rw[Gs];exact aC (by rw[FP,hz];rfl)
   refine ⟨ν,.inl ⟨rfl,_,aO.of ev⟩,ν,ν,ν,aF _ _ ⟨rfl,rfl,IntMulOk.of_left (by decide),aF _ _ ⟨rfl,rfl,b5 a ns _ ⟨rfl,S4,by lia,fun c2=>(aF _ _ ⟨rfl,rfl,⟨by decide,by decide⟩,aF _ _ ⟨rfl,rfl,(by show (10^12:Int)≠0;decide),ν,ν,aH ln _ _ _ ⟨rfl,rfl,aO.of (g4 _ _ (g2 _ _ en)),vo,ν,aH c _ (zs[i]) lt ⟨ys,⟨rfl,c0,FM c2 (show (0:Int)<10^12 by decide),zm,g4 _ _ et,yn,fun v s H5 g5 rwo rwk rbs sn=>?_⟩⟩⟩⟩⟩)⟩⟩⟩⟩
   refine (b5 lr _ _ ⟨rfl,rfl,g5 _ _ ev,by lia,b5 (ss++ [s]) _ _ ⟨rfl,fH (g4.trans g5) nr _,.snoc (rv.imp fun _ _ k=>k.same g5) (rwk lr _ ev),by rw[FQ,sl'];rfl,?_,fun x hx=>?_⟩⟩)
   ·rw[GO,nms,FQ,sl',List.length_singleton,Gq,hz,HB];show zs.take i++ [s.n]=_;rw[sn]
   ·rcases GD.mp hx with hx|hx
    ·exact rb x hx
    ·rw[G3.mp hx];exact rbs
  ·obtain ⟨ss,o5,o6,rfl,g4,rs,sl',nms,rb⟩:=hP;exact hN _ _ (b5 ss o5 o6 ⟨rfl,g4,rs,by lia,nms,rb⟩)
 rintro σ H4 ⟨ss0,o5,o6,rfl,g4,rs0,s12,nms0,rb0⟩;have g14:=g12.trans g4;refine cut (fun σ H'=>∃fi:Nat,1<=fi/\fi<=1000/\σ= [Li a,some (.int hd),Li ln,Li lt,Li lr,o5,o6,some (vN fi),none,none,none,none,none,none,none,none]/\H4=H') (fun N hN=>?_) ?_
 ·refine ⟨ν,b5 a ns 2 ⟨rfl,g14.seq hS,by decide,fun c=>(aF _ _ ⟨rfl,rfl,(by show (1000:Int)≠0;decide),aF _ _ ⟨rfl,rfl,?_⟩⟩)⟩⟩
  have c0:=FM c (show (0:Int)<1000 by decide)
  have c1:=FT c (show (0:Int)<1000 by decide)
  refine hN _ _ ⟨(1+c.fmod 1000).toNat,by lia,by lia,?_,rfl⟩
  rw[show vN (1+c.fmod 1000).toNat= .int (1+c.fmod 1000) from congrArg V.int (Gz (by lia))]
  rfl
 rintro σ _ ⟨fi,f1,f2,rfl,rfl⟩;refine cut (fun σ H'=>∃mo:Int,σ= [Li a,some (.int hd),Li ln,Li lt,Li lr,o5,o6,some (vN fi),some (.int mo),none,none,none,none,none,none,none]/\H4=H') (fun N hN=>⟨ν,b5 a ns 3 ⟨rfl,g14.seq hS,by decide,fun c=>hN _ _ ⟨c,rfl,rfl⟩⟩⟩) ?_
 rintro σ _ ⟨mo,rfl,rfl⟩;refine cut (fun σ H'=>∃pl:Int,1<=pl/\pl<=1000/\σ= [Li a,some (.int hd),Li ln,Li lt,Li lr,o5,o6,some (vN fi),some (.int mo),some (.int pl),none,none,none,none,none,none]/\aA H4 H') (fun N hN=>?_) ?_
 ·have q0:=FM (mo.fdiv 3) (show (0:Int)<4 by decide)
  have q1:=FT (mo.fdiv 3) (show (0:Int)<4 by decide)
  have t0:=FM (mo.fdiv 3) (show (0:Int)<1000 by decide)
  have t1:=FT (mo.fdiv 3) (show (0:Int)<1000 by decide)
  have r0:=FM mo (show (0:Int)<3 by decide)
  have r1:=FT mo (show (0:Int)<3 by decide)
  have bf:Bd 20 (fi:Int):=by unfold Bd;show _<1048576;lia
  have bm:Bd 20 (1+(mo.fdiv 3).fmod 4):=by unfold Bd;show _<1048576;lia
  have mp:1<=(fi:Int)*(1+(mo.fdiv 3).fmod 4):=by
   have:=Gr (show (0:Int)<fi by lia) (show (0:Int)<1+(mo.fdiv 3).fmod 4 by lia)
   lia
  refine ⟨ν,ν,ν,aF _ _ ⟨rfl,rfl,⟨by decide,FX (by decide)⟩,aF _ _ ⟨rfl,rfl,(by show (4:Int)≠0;decide),aF _ _ ⟨rfl,rfl,aF _ _ ⟨rfl,rfl,bf.ok bm,aF _ _ ⟨rfl,ν,aF _ _ ⟨rfl,rfl,⟨by decide,FX (by decide)⟩,aF _ _ ⟨rfl,rfl,(by show (1000:Int)≠0;decide),ω,by show 3<=sizeLine;decide,fun ld nd=>?_⟩⟩⟩⟩⟩⟩⟩⟩
  have pick:∃m:Int,1<=m/\m<=1000/\fe [vN fi,.int (if (fi:Int)*(1+(mo.fdiv 3).fmod 4)<1000 then (fi:Int)*(1+(mo.fdiv 3).fmod 4) else 1000),.int (1+(mo.fdiv 3).fmod 1000)] (mo.fmod 3)=some (.int m):=by
   rcases (show mo.fmod 3=0∨mo.fmod 3=1∨mo.fmod 3=2 by lia) with e|e|e<;>rw[e]
   ·exact ⟨(fi:Int),by lia,by lia,rfl⟩
   ·refine ⟨_,?_,?_,rfl⟩
    ·split<;>lia
    ·split<;>lia
   ·exact ⟨_,by lia,by lia,rfl⟩
  obtain ⟨m,m1,m2,at_⟩:=pick;exact ⟨ν,aF _ _ ⟨rfl,rfl,(by show (3:Int)≠0;decide),aH ld _ _ _ ⟨rfl,rfl,aO.of ah,at_,hN _ _ ⟨m,m1,m2,rfl,aj nd _⟩⟩⟩⟩
 rintro σ H5 ⟨pl,pl1,pl2,rfl,g5⟩;refine cut (fun σ H'=>∃(ts:Addr) (sp sq:Int),σ= [Li a,some (.int hd),Li ln,Li lt,Li lr,o5,o6,some (vN fi),some (.int mo),some (.int pl),Li ts,none,none,none,none,none]/\aA H5 H'/\zf H' false ts sp sq) (fun N hN=>?_) ?_
 ·have q0:=FM (hd.fdiv 13) (show (0:Int)<9 by decide)
  have q1:=FT (hd.fdiv 13) (show (0:Int)<9 by decide)
  have t0:=FM (hd.fdiv 117) (show (0:Int)<4 by decide)
  have t1:=FT (hd.fdiv 117) (show (0:Int)<4 by decide)
  refine ⟨ν,aF _ _ ⟨rfl,rfl,⟨by decide,FX (by decide)⟩,aF _ _ ⟨rfl,rfl,(by show (9:Int)≠0;decide),aF _ _ ⟨rfl,rfl,ν,aF _ _ ⟨rfl,rfl,⟨by decide,FX (by decide)⟩,aF _ _ ⟨rfl,rfl,(by show (4:Int)≠0;decide),aF _ _ ⟨rfl,rfl,aF _ _ ⟨rfl,by lia,Bd.mono (m:=20) (by unfold Bd;show _<1048576;lia) (by decide),fun p q f t H' g e=>?_⟩⟩⟩⟩⟩⟩⟩⟩
  have p0:=jR f (by lia) (by lia)
  have bt:=f.bt;have bb:=f.bb;exact hN _ _ (b5 t p q ⟨rfl,g,e,p0,by lia,f.pos,by lia,fun z=>by cases z⟩)
 rintro σ H6 ⟨ts0,sp0,sq0,rfl,g6,sz0⟩;refine cut (fun σ H'=>∃left:Bool,σ= [Li a,some (.int hd),Li ln,Li lt,Li lr,o5,o6,some (vN fi),some (.int mo),some (.int pl),Li ts0,some (.bl left),none,none,none,none]/\H6=H') (fun N hN=>⟨ν,aF _ _ ⟨rfl,rfl,⟨by decide,FX (by decide)⟩,aF _ _ ⟨rfl,rfl,(by show (3:Int)≠0;decide),rfl,hN _ _ ⟨ν,rfl⟩⟩⟩⟩) ?_
 rintro σ _ ⟨left,rfl,rfl⟩;refine cut (fun σ H'=>∃(ts:Addr) (sp sq:Int),σ= [Li a,some (.int hd),Li ln,Li lt,Li lr,o5,o6,some (vN fi),some (.int mo),some (.int pl),Li ts,some (.bl left),none,none,none,none]/\aA H6 H'/\zf H' left ts sp sq) (fun N hN=>?_) ?_
 ·cases left with
  |false=>exact ⟨_,rfl,_,rfl,cU (hN _ _ (b5 ts0 sp0 sq0 ⟨rfl,.refl _,sz0⟩))⟩
  |true=>exact ⟨_,rfl,_,rfl,dh ⟨by show 2<=sizeLine;decide,fun t nt=>hN _ _ (b5 t 1 1 ⟨rfl,aj nt _,ah,by decide,by decide,by decide,by decide,fun _=>⟨rfl,rfl⟩⟩)⟩⟩
 rintro σ H7 ⟨ts,sp,sq,rfl,g7,sz⟩;have g47:=(g5.trans g6).trans g7;obtain ⟨esz,z1,z2,z3,z4,z5⟩:=id sz;obtain ⟨vs0,ev0,rv0⟩:=rs0.same g47;refine cut (fun σ H'=>∃ss:List SV,σ= [Li a,some (.int hd),Li ln,Li lt,Li lr,o5,o6,some (vN fi),some (.int mo),some (.int pl),Li ts,some (.bl left),none,none,none,none]/\(∀b o,b≠lr->H7 b=some o->H' b=some o)/\kz H' lr ss/\ss.length<=12/\(∀s∈ss,sK s)/\(ss.map fun x=>x.n).Nodup) (fun N hN=>?_) ?_
 ·have nd0:(ss0.map fun x=>x.n).Nodup:=by
   rw[nms0];exact zn.nd.sublist (List.take_sublist _ _)
  have lv:=rv0.1;have done:∀H':Hp,aA H7 H'->N [some (.ref a),some (.int hd),some (.ref ln),some (.ref lt),some (.ref lr),o5,o6,some (vN fi),some (.int mo),some (.int pl),some (.ref ts),some (.bl left),none,none,none,none] H':=fun H' g=>hN _ _ ⟨ss0,rfl,fun b o _ e=>g _ _ e,⟨vs0,g _ _ ev0,rv0.imp fun v s k=>(k.same g).o⟩,s12,rb0,nd0⟩
  refine ⟨ν,by show 0<=sizeLine;decide,fun le ne=>?_⟩
  have ge:=aj ne (.lst []);have ee:aL H7 le (.lst []) le=some (.lst []):=ah;generalize aL H7 le (.lst [])=H8 at ge ee⊢;refine (b5 lr le vs0 ⟨rfl,rfl,aO.of (ge _ _ ev0),aO.of ee,ν,?_⟩);cases hvs:vs0 with
  |nil=>exact cU (done _ ge)
  |cons v vr=>
   refine dh ?_;refine ⟨ν,aF _ _ ⟨rfl,rfl,⟨by decide,FX (by decide)⟩,aF _ _ ⟨rfl,rfl,(by show (4:Int)≠0;decide),rfl,ν,uB (fun _=>?_) fun _=>done _ ge⟩⟩⟩
   have w0:=FM (hd.fdiv 5616) (show (0:Int)<2 by decide)
   have w1:=FT (hd.fdiv 5616) (show (0:Int)<2 by decide)
   refine ⟨ν,ν,ν,aF pl (fi:Int) ⟨rfl,by lia,Bd.mono (m:=20) (by unfold Bd;show _<1048576;lia) (by decide),fun p q F tf H9 g9 etf=>?_⟩⟩
   have p0:=jR F (by lia) (by lia)
   have bt:=F.bt;have bb:=F.bb;have g89:=ge.trans g9;refine ⟨ν,ν,aF _ _ ⟨rfl,rfl,⟨by decide,FX (by decide)⟩,aF _ _ ⟨rfl,rfl,(by show (2:Int)≠0;decide),aF _ _ ⟨rfl,rfl,i9 lr tf ts ss0 _ p q sp sq ⟨rfl,⟨vs0,g89 _ _ ev0,rv0.imp fun _ _ k=>k.same g89⟩,?_,s12,rb0,⟨etf,g89 _ _ esz,p0,by lia,F.pos,by lia,z1,z2,z3,z4⟩,by lia,by lia,fun ss' H' kp rws' sl' rb' nm'=>hN _ _ ⟨ss',rfl,fun b o n e=>kp b o n (g89 _ _ e),rws',by lia,rb',by rw[nm'];exact nd0⟩⟩⟩⟩⟩⟩
   intro z;rw[z,hvs] at lv;cases lv
 rintro σ H8 ⟨ss,rfl,k8,rws,sl12,rb,ndn⟩;have g27:=g4.trans g47;have g28:aA H2 H8:=fun b o h=>k8 b o (fun z=>by rw[z,nr] at h;cases h) (g27 _ _ h)
 have g18:=g12.trans g28;have sz8:zf H8 left ts sp sq:=⟨k8 _ _ (fun z=>by rw[z,ev0] at esz;cases esz) esz,z1,z2,z3,z4,z5⟩
 have en8:=g28 _ _ (g2 _ _ en);obtain ⟨vs,er8,rr⟩:=id rws;have vl:=rr.1;refine cut (fun σ H'=>∃lst:Addr,σ= [Li a,some (.int hd),Li ln,Li lt,Li lr,o5,o6,some (vN fi),some (.int mo),some (.int pl),Li ts,some (.bl left),Li lst,none,none,none]/\aA H8 H'/\Cw Hy Go on H' lst ss) (fun N hN=>?_) ?_
 ·refine ⟨ν,lr,rfl,⟨_,aO.of er8⟩,su (fun i H' y=>∃s,ss[i]?=some s/\Cv Hy Go on H' y s) (aO.of er8) (by lia) (fun i x hx H5 g5 p ws ep Q' hQ=>?_) fun p ys H5 np hl hy g5 e5=>hN _ _ ⟨p,rfl,g5,ys,e5,by lia,fun i v s h1 h2=>?_⟩⟩
  ·obtain ⟨s,hs,rw8⟩:=rr.at_ hx;have rbs:=rb s (F9 hs);exact ⟨ν,aF x s ⟨rfl,rw8.same g5,rbs.b.fl,rbs.wd,fun y H6 g6 st=>hQ _ _ g6 fun H7 kp=>⟨s,hs,y,rfl,st H7 fun b o e n=>kp b o (fun z=>n ws (z▸ep)) e⟩⟩⟩
  ·obtain ⟨s',hs',st⟩:=hy i v h1;rw[h2] at hs';cases hs';exact st
 rintro σ H9 ⟨lst,rfl,g9,hls⟩;have zl:=zn.len;have hz:=F0 (show 0<zs.length by lia)
 have zm:=zn.nm _ (GU (show 0<zs.length by lia))
 have at0:fe (zs.map V.str) (0:Int)=some (.str zs[0]):=aC (j:=0) (by rw[FP,hz];rfl)
 generalize zs[0]=z0 at hz zm at0;refine cut (fun σ H'=>∃r:Addr,σ= [Li a,some (.int hd),Li ln,Li lt,Li lr,o5,o6,some (vN fi),some (.int mo),some (.int pl),Li ts,some (.bl left),Li lst,Li r,none,none]/\aA H9 H'/\yT Hy Go on mt H' r z0 fi ⟨[],ss,[]⟩) (fun N hN=>?_) ?_
 ·obtain ⟨vs9,e9,r9⟩:=id hls;refine ⟨ν,aH ln _ _ _ ⟨rfl,rfl,aO.of (g9 _ _ en8),at0,ν,by show 0<=sizeLine;decide,fun l1 n1=>⟨ν,by show 0<=sizeLine;decide,fun l2 n2=>?_⟩⟩⟩
  have h1:=aj n1 (.lst []);have f1:aL H9 l1 (.lst []) l1=some (.lst []):=ah;generalize aL H9 l1 (.lst [])=G1 at h1 f1 n2⊢;have h2:=aj n2 (.lst []);have f2:aL G1 l2 (.lst []) l2=some (.lst []):=ah;generalize aL G1 l2 (.lst [])=G2 at h2 f2⊢;refine fun r dx nr nd nrd=>?_
  have gm:=dH (C:=mt) nr nd;refine (i9 r _ dx l1 lst l2 (.str z0) (vN fi) [] (aF vs9 [] ⟨rfl,ah,⟨B.Id,B.Jk,B.Iw,B.IE,B.Ib,B.IQ⟩,gm _ _ (h2 _ _ f1),gm _ _ (h2 _ _ (h1 _ _ e9)),gm _ _ f2,fun t s u H7 ta sa ua nt ns nu nd3 kp et7 es7 eu7 er=>⟨rfl,?_⟩⟩))
  have g7:=df nr nd kp;have gA:=(h1.trans h2).trans g7;exact hN _ _ ⟨r,rfl,gA,t,s,u,⟨dx,er⟩,⟨[],et7,.nil⟩,⟨vs9,es7,r9.steps gA⟩,⟨[],eu7,.nil⟩⟩
 rintro σ H10 ⟨r,rfl,g10,ra⟩;have g810:=g9.trans g10;have rws10:=rws.same g810;have sz10:=sz8.same g810;have rt10:zg Hy Go on mt H10 r fi ss:=⟨(b5 z0 [] [] ra),f1,f2,sl12,fun s hs=>(rb s hs).b⟩
 refine cut (fun σ H'=>σ= [Li a,some (.int hd),Li ln,Li lt,Li lr,o5,o6,some (vN fi),some (.int mo),some (.int pl),Li ts,some (.bl left),Li lst,Li r,none,none]/\aA H10 H') (fun N hN=>?_) ?_
 ·obtain ⟨la,ls,lk,⟨dx,er⟩,_⟩:=ra.ex;refine ⟨ν,ν,iM r mt dx _ pl (fi:Int) ⟨rfl,er,B.Id,B.Iw,cQ.2.1,by lia,by lia,fun fa fb F tf H1 g1 e1=>?_⟩⟩
  refine ⟨ν,ν,aF pl (fi:Int) ⟨rfl,by lia,Bd.mono (m:=20) (by unfold Bd;show _<1048576;lia) (by decide),fun p q F' t2 H2 g2 e2=>?_⟩⟩
  obtain ⟨rfl,rfl⟩:=nj F F' (by lia)
  exact (b5 _ _ 1 ⟨rfl,by decide,Ay (g2 _ _ e1) e2 (dG _ _) (dG _ _),⟨ν,cU (hN _ _ ⟨rfl,g1.trans g2⟩)⟩⟩)
 rintro σ H11 ⟨rfl,g11⟩;refine cut (fun σ H'=>σ= [Li a,some (.int hd),Li ln,Li lt,Li lr,o5,o6,some (vN fi),some (.int mo),some (.int pl),Li ts,some (.bl left),Li lst,Li r,none,none]/\aA H11 H') (fun N hN=>?_) ?_
 ·refine ⟨ν,ν,ν,ν,ν,i9 r lr pl ts left fi ss sp sq ⟨rfl,rt10.same g11,rws10.same g11,rb,pl1,pl2,sz10.same g11,fun H' g=>⟨ν,cU ?_⟩⟩⟩
  have gg:=g11.trans g;exact ⟨ν,ν,ν,ν,ν,i9 r lr (fi:Int) ts left fi ss sp sq ⟨rfl,rt10.same gg,rws10.same gg,rb,by lia,by lia,sz10.same gg,fun H' g'=>⟨ν,cU (hN _ _ ⟨rfl,g.trans g'⟩)⟩⟩⟩
 rintro σ H12 ⟨rfl,g12'⟩;have g812:=g810.trans (g11.trans g12');obtain ⟨vs12,els,rls⟩:=hls.same (g10.trans (g11.trans g12'));obtain ⟨ws12,elr,rrw⟩:=rws.same g812;have l1':=rls.1;have l2':=rrw.1;refine cut (fun σ H'=>∃o,σ= [Li a,some (.int hd),Li ln,Li lt,Li lr,o,o6,some (vN fi),some (.int mo),some (.int pl),Li ts,some (.bl left),Li lst,Li r,none,none]/\H12=H') (fun N hN=>?_) ?_
 ·refine ⟨ν,aF lr _ ⟨rfl,.inl (aO.of elr),ν,by lia,by lia,cw (fun i σ H'=>∃o,σ= [Li a,some (.int hd),Li ln,Li lt,Li lr,o,o6,some (vN fi),some (.int mo),some (.int pl),Li ts,some (.bl left),Li lst,Li r,none,none]/\H12=H') ⟨o5,rfl,rfl⟩ (fun i σ H' hi hP=>?_) (fun σ H' hP=>hN _ _ hP)⟩⟩
  obtain ⟨o,rfl,rfl⟩:=hP;have il:i<ss.length:=by lia
  have hs:=F0 il;have rbs:=rb _ (GU il);generalize ss[i]=s at hs rbs;refine jQ (rls.get hs) fun v1 _hi=>?_
  refine iV _hi fun hv1 _hj=>?_
  refine jQ _hj fun x _hk=>?_
  refine iV _hk fun _r1 _hl=>?_
  refine ku _hl fun C dx u sv _hm=>?_
  refine jQ _hm fun ff _hn=>?_
  refine im _hn fun ex hC sf hf hu hso=>?_
  clear _hi _hj _hk _hl _hm _hn;subst _r1;refine jQ (rrw.get hs) fun v2 _hi=>?_
  refine iV _hi fun hv2 _hj=>?_
  refine ku _hj fun a2 tf u2 sv2 _hk=>?_
  refine jQ _hk fun am _hl=>?_
  refine im _hl fun _r1 ea etf hfl hu2 hso2=>?_
  clear _hi _hj _hk _hl;subst _r1;have at1:fe vs12 (0+(i:Int))=some (.ref x):=by rw[Gs];exact aC hv1
  have at2:fe ws12 (0+(i:Int))=some (.ref a2):=by rw[Gs];exact aC hv2
  have sc:iI K C/\aE K C "uses" /\aE K C "second" :=by
   rcases hC with ⟨_,e⟩|⟨_,e⟩|⟨_,e⟩<;>rw[e]
   ·exact ⟨B.Ji,B.Iy,B.Im⟩
   ·exact ⟨B.Jd,B.Ir,B.Ij⟩
   ·exact ⟨B.Jb,B.Iq,B.Ii⟩
  refine cut (fun σ H'=>σ= [Li a,some (.int hd),Li ln,Li lt,Li lr,some (.int (0+(i:Int))),o6,some (vN fi),some (.int mo),some (.int pl),Li ts,some (.bl left),Li lst,Li r,none,none]/\H12=H') (fun N hN=>?_) ?_
  ·exact ⟨ν,ν,aH lst _ _ _ ⟨rfl,rfl,aO.of els,at1,aH x C dx ff ⟨_,⟨rfl,ex,sc.1,sc.2.1,sf.uses,ν,ν,aH lr _ _ _ ⟨rfl,rfl,aO.of elr,at2,aH a2 _ _ _ ⟨rfl,rfl,bi.of ea,rfl,_,_,2,rfl,by decide,qQ hu hu2 (by have:=rbs.us.len;lia),⟨ν,cU (hN _ _ ⟨rfl,rfl⟩)⟩⟩⟩⟩⟩⟩⟩
  rintro σ _ ⟨rfl,rfl⟩;refine ⟨ν,ν,aH lr _ _ _ ⟨rfl,rfl,aO.of elr,at2,aH a2 _ _ _ ⟨rfl,rfl,bi.of ea,rfl,rfl,ν,?_⟩⟩⟩;have rsec:=rbs.sec;generalize s.sec=oo at hso hso2 rsec
  match oo,hso,hso2 with
  |none,hso,hso2=>
   have e:sv2= .non:=hso2;subst e;exact nF rfl ⟨ν,rfl⟩
  |some (lo,hi,us),⟨t1,k1,e1,e2,e3⟩,⟨t2,k2,e1',e2',e3'⟩=>
   subst e1';have sfs:=sf.second;rw[e1] at sfs;refine nT (fun z=>nomatch z) ?_
   exact ⟨ν,ν,aH lst _ _ _ ⟨rfl,rfl,aO.of els,at1,aH x C dx ff ⟨_,⟨rfl,ex,sc.1,sc.2.2,sfs,ν,ν,aH lr _ _ _ ⟨rfl,rfl,aO.of elr,at2,aH a2 _ _ _ ⟨rfl,rfl,bi.of ea,rfl,_,_,3,rfl,by decide,mZ e2 e2' (dG _ _) (dG _ _) (qQ e3 e3' (by have h3:us.length<=3:=(rsec _ rfl).2.2.2.len;lia)),⟨ν,cU ⟨ν,rfl⟩⟩⟩⟩⟩⟩⟩⟩
 rintro σ _ ⟨o,rfl,rfl⟩;have bd:∀s∈ss.map dJ,yU s/\yr s.w s.fill:=fun s hs=>by
  obtain ⟨y,hy,rfl⟩:=GI.mp hs;exact ⟨yy (rb y hy),(sR (rb y hy)).fl⟩
 have rb2:∀s∈ss.map dJ,sK s:=fun s hs=>by
  obtain ⟨y,hy,rfl⟩:=GI.mp hs;exact sR (rb y hy)
 have len2:(ss.map dJ).length<=12:=by rw[F6];exact sl12
 refine cut (fun σ H'=>∃sm:Addr,σ= [Li a,some (.int hd),Li ln,Li lt,Li lr,o,o6,some (vN fi),some (.int mo),some (.int pl),Li ts,some (.bl left),Li lst,Li r,Li sm,none]/\aA H12 H'/\kz H' sm (ss.map dJ)) (fun N hN=>?_) ?_
 ·refine ⟨ν,lr,rfl,⟨_,aO.of elr⟩,su (fun i H' y=>∃s,ss[i]?=some s/\ur H' y (dJ s)) (aO.of elr) (by lia) (fun i x hx H5 g5 p ws ep Q' hQ=>?_) fun p ys H5 np hl hy g5 e5=>hN _ _ ⟨p,rfl,g5,ys,e5,by rw[F6];lia,fun i v s h1 h2=>?_⟩⟩
  ·obtain ⟨s,hs,rw8⟩:=rrw.at_ hx;have rbs:=rb s (F9 hs);exact ⟨ν,aF x s ⟨rfl,rw8.same g5,by have:=rbs.us.len;lia,fun y hy=>by have:=(rbs.sec y hy).2.2.2.len;lia,fun w H6 g6 ro rk=>hQ _ _ g6 fun H7 kp=>⟨s,hs,rk p ws ep H7 kp⟩⟩⟩
  ·obtain ⟨s',hs',st⟩:=hy i v h1;rw[FP,hs'] at h2;cases h2;exact st
 rintro σ H13 ⟨sm,rfl,g13',rsm⟩;have g813:=g812.trans g13';refine cut (fun σ H'=>∃rd:Addr,σ= [Li a,some (.int hd),Li ln,Li lt,Li lr,o,o6,some (vN fi),some (.int mo),some (.int pl),Li ts,some (.bl left),Li lst,Li r,Li sm,Li rd]/\aA H13 H'/\yT Hy Go on mt H' rd z0 fi ⟨[],ss.map dJ,[]⟩) (fun N hN=>?_) ?_
 ·refine ⟨ν,aH ln _ _ _ ⟨rfl,rfl,aO.of (g813 _ _ en8),at0,ν,ν,aH z0 fi sm (ss.map dJ) ⟨rfl,zm,f1,f2,rsm,len2,bd,fun H' g=>?_⟩⟩⟩
  exact (aH z0 fi (eZ (ss.map dJ)) _ ⟨rfl,zm,f1,f2,pM fun s hs=>(bd s hs).1,qU (fun s hs=>(bd s hs).1) len2,qT (by rw[uy];exact ndn) len2 (fun s hs=>(rb2 s hs).b.nd),fun rd lt ls lk ks H'' rm=>hN _ _ ⟨rd,rfl,g.trans rm.fr,rm.a⟩⟩)
 rintro σ H14 ⟨rd,rfl,g14',rad⟩;have g1014:=(g11.trans g12').trans (g13'.trans g14');have rtd:zg Hy Go on mt H14 rd fi (ss.map dJ):=⟨(b5 z0 [] [] rad),f1,f2,len2,fun s hs=>(rb2 s hs).b⟩
 have rt14:=rt10.same g1014;have rw14:=rws10.same g1014;have sz14:=sz10.same g1014;have rs14:=rsm.same g14';refine cut (fun σ H'=>σ= [Li a,some (.int hd),Li ln,Li lt,Li lr,o,o6,some (vN fi),some (.int mo),some (.int pl),Li ts,some (.bl left),Li lst,Li r,Li sm,Li rd]/\aA H14 H') (fun N hN=>?_) ?_
 ·exact ⟨ν,ν,ν,ν,ν,i9 rd sm pl ts left fi (ss.map dJ) sp sq ⟨rfl,rtd,rs14,rb2,pl1,pl2,sz14,fun H' g=>⟨ν,cU (hN _ _ ⟨rfl,g⟩)⟩⟩⟩
 rintro σ H15 ⟨rfl,g15⟩;exact ⟨ν,ν,ν,ν,ν,i9 r lr pl ts left fi ss sp sq ⟨rfl,rt14.same g15,rw14.same g15,rb,pl1,pl2,sz14.same g15,fun H' g=>⟨ν,dh ⟨ν,ν,ν,ν,ν,i9 rd sm (fi:Int) ts left fi (ss.map dJ) sp sq ⟨rfl,rtd.same (g15.trans g),rs14.same (g15.trans g),rb2,by lia,by lia,sz14.same (g15.trans g),fun H' g=>qq _⟩⟩⟩⟩⟩
end
theorem Bz {l:PySem.W.OpenLaw} {w:World} {K:F5} {h:Heap} {mg:La} {fa iv i0 i1 fw i2 i3 i4 i5 i6 iW fx fy fz f0 f1 f2 f3 f4 f5 fC fD fI fP fV ga gc gd ge gg gi gj gk gm gn go ez gp gq gs gt gv g0 g1 g2 g3 g4 g5 g6 g7 g8 g9 gA gB e0 gD gG e1 IO Hy Il IR IN Ih Ia IM IL IY Ip IK IJ IX Ix Ik II mt Go Ie Ic Ig IH Hz IW Io on Ja Jm Jt Jc Jf IV IU Je Jx:Addr} (X:K.In h) (G:h.Ns mainGlobals mg) (hfa:mg "law" =some (.ref fa))
  {eC eu:Lg} {eI:Lc} {eL ev ew ex d5 ey:Value}
  {cP:Tok}
  {a0:Tok}
  {cR:Tok}
  {a1:Tok}
  {bk:Tok}
  {bl:Tok}
  {cm:Tok}
  {bm:Tok}
  {bn:Tok}
  {ir:Addr} {gI:Value} {gJ:Lg} {gT:Nat} {gV:Lc} {e2:Tok}
  {eM:Addr} {eN:Value} {eX:Lg} {eY:Nat} {fb:Lc}
  {fc:Addr} {ff:Value} {fg:Lg} {fi:Nat} {fk:Lc}
  {fl:Addr} {fo:Value} {fp:Lg} {fq:Nat} {fr:Lc}
  (jh:bR K iv "read_figures" EO .none)
  (ji:bR K i0 "is_whole" EQ .none)
  (jl:bR K i1 "divisor" ER .none)
  (jm:FW K mainGlobals "fraction" =some (some (.ref fw)))
  (jn:FnAt K fw "fraction" "fraction" DV (.ref ir))
  (js:bR K i2 "plus" ES .none)
  (j0:bR K i3 "product" EU .none)
  (j1:bR K i4 "quotient" EV .none)
  (j2:bR K i5 "round_up" EW .none)
  (j6:bR K i6 "round_down" EX .none)
  (j7:bR K iW "amount_text" EY .none)
  (gZ:bR K fx "loosely_read_term" AA .none)
  (ha:bR K fy "loosely_read" AB .none)
  (hb:bR K fz "read_amount" AC .none)
  (hc:bR K f0 "is_name" AD .none)
  (he:bR K f1 "words_of" AE .none)
  (hf:bR K f2 "number_of" AF .none)
  (hg:bR K f3 "amount_from" AG .none)
  (hh:bR K f4 "value_of" AH .none)
  (hi:bR K f5 "values_by" AI .none)
  (hj:bR K fC "agree" AJ .none)
  (hk:bR K fD "values_of" AK .none)
  (hm:bR K fI "refuse_twice" AL .none)
  (hn:bR K fP "refuse_full" AM .none)
  (ho:bR K fV "place_of" AN .none)
  (hp:bR K ga "put_take" AO .none)
  (hq:bR K gc "put_link" AQ .none)
  (hr:bR K gd "grown_length" AS .none)
  (hs:bR K ge "recipe_begun" AZ .none)
  (ht:bR K gg "step_of" A0 .none)
  (hu:bR K gi "put_step" A1 .none)
  (hv:bR K gj "put_second" A5 .none)
  (hw:bR K gk "put_use" A9 .none)
  (hx:bR K gm "put_row" Ba .none)
  (hy:bR K gn "read_recipe" Bb .none)
  (hz:bR K go "factor_of" Bc .none)
  (h0:FW K mainGlobals "tasks_of" =some (some (.ref ez)))
  (h1:FnAt K ez "tasks_of" "tasks_of" yD (.ref fl))
  (h2:bR K gp "_law_cell_at" Be .none)
  (h3:bR K gq "_law_names" Bf .none)
  (h4:bR K gs "_law_divisor_of" Bg .none)
  (h5:bR K gt "_law_lowest" Bh .none)
  (c4:bR K gv "_law_alike" Bi .none)
  (h6:bR K g0 "_law_uses" Bj .none)
  (h9:bR K g1 "_law_span" Bk .none)
  (hA:bR K g2 "_law_row" Bl .none)
  (hB:bR K g3 "_law_step" Bm .none)
  (hC:bR K g4 "_law_up" Bo .none)
  (hD:bR K g5 "_law_ways" Bp .none)
  (hE:bR K g6 "_law_due" Bq .none)
  (hF:bR K g7 "_law_bounded" Br .none)
  (hH:bR K g8 "_law_amount" Bs .none)
  (hI:bR K g9 "_law_use_lines" Bt .none)
  (hK:bR K gA "_law_text" Bu .none)
  (hL:bR K gB "_law_last_full" Bv .none)
  (hM:FW K mainGlobals "_law_alone" =some (some (.ref e0)))
  (hN:FnAt K e0 "_law_alone" "_law_alone" yE .none)
  (hO:bR K gD "_law_asked" Bw .none)
  (hP:bR K gG "_law_right" By .none)
  (hQ:FW K mainGlobals "law" =some (some (.ref e1)))
  (hR:K.lookup e1=some ⟨eL,eC,.func (Gj "law" "law" (dX ny) (c5 ny) (ao ny) .none ev ew ex eu d5 ey),eI⟩) (hS:Hg K d5 "law" =true) (hT:Gh K (.ref e1)=true)
  (cT:FW K mainGlobals "LETTERS" =some (some (.str "abcdefghijklmnopqrstuvwxyz" cP)))
  (a2:FW K mainGlobals "MOST_LETTERS" =some (some (.int 12 a0)))
  (cV:FW K mainGlobals "FIGURES" =some (some (.str "0123456789" cR)))
  (a3:FW K mainGlobals "MOST_FIGURES" =some (some (.int 30 a1)))
  (bo:FW K mainGlobals "MOST_TAKES" =some (some (.int 12 bk)))
  (bp:FW K mainGlobals "MOST_STEPS" =some (some (.int 12 bl)))
  (co:FW K mainGlobals "MOST_USES" =some (some (.int 12 cm)))
  (bq:FW K mainGlobals "MOST_LINKS" =some (some (.int 24 bm)))
  (br:FW K mainGlobals "MOST_TASKS" =some (some (.int 24 bn)))
  (e3:FW K mainGlobals "abs" =some none)
  (eg:FW K mainGlobals "bool" =some none)
  (cp:FW K mainGlobals "enumerate" =some none)
  (e4:FW K mainGlobals "int" =some none)
  (bs:FW K mainGlobals "isinstance" =some none)
  (e5:FW K mainGlobals "len" =some none)
  (eh:FW K mainGlobals "list" =some none)
  (e6:FW K mainGlobals "min" =some none)
  (d6:FW K mainGlobals "range" =some none)
  (dp:FW K mainGlobals "sorted" =some none)
  (e7:FW K mainGlobals "str" =some none)
  (e8:FW K mainGlobals "sum" =some none)
  (d7:FW K mainGlobals "tuple" =some none)
  (e9:FW K mainGlobals "zip" =some none)
  (dq:FW K mainGlobals "BOUNDS" =some (some (.ref IO)))
  (eB:FW K mainGlobals "Cut" =some (some (.ref Hy)))
  (cs:FW K mainGlobals "EmptyHeap" =some (some (.ref Il)))
  (d8:FW K mainGlobals "FORMS" =some (some (.ref IR)))
  (dt:FW K mainGlobals "InRing" =some (some (.ref IN)))
  (bt:FW K mainGlobals "LINK_WORDS" =some (some (.ref Ih)))
  (c9:FW K mainGlobals "NoAmount" =some (some (.ref Ia)))
  (dv:FW K mainGlobals "NoDish" =some (some (.ref IM)))
  (dw:FW K mainGlobals "NoName" =some (some (.ref IL)))
  (d9:FW K mainGlobals "NoNet" =some (some (.ref IY)))
  (cB:FW K mainGlobals "NoNumber" =some (some (.ref Ip)))
  (dx:FW K mainGlobals "NoPack" =some (some (.ref IK)))
  (dy:FW K mainGlobals "NoPlan" =some (some (.ref IJ)))
  (dE:FW K mainGlobals "NoRow" =some (some (.ref IX)))
  (cW:FW K mainGlobals "NoStand" =some (some (.ref Ix)))
  (ct:FW K mainGlobals "NoStandIn" =some (some (.ref Ik)))
  (d0:FW K mainGlobals "NoStep" =some (some (.ref II)))
  (d1:FW K mainGlobals "Recipe" =some (some (.ref mt)))
  (ei:FW K mainGlobals "Rest" =some (some (.ref Go)))
  (bu:FW K mainGlobals "STEP_WORDS" =some (some (.ref Ie)))
  (ej:FW K mainGlobals "Step" =some (some (.ref Ic)))
  (bx:FW K mainGlobals "StoveError" =some (some (.ref Ig)))
  (d3:FW K mainGlobals "TooFew" =some (some (.ref IH)))
  (cY:FW K mainGlobals "TooMany" =some (some (.ref Hz)))
  (dK:FW K mainGlobals "Twice" =some (some (.ref IW)))
  (cz:FW K mainGlobals "USE_WORDS" =some (some (.ref Io)))
  (ek:FW K mainGlobals "Warm" =some (some (.ref on)))
  (atZ26:Ga K (.ref Ic) "__init__" =some (some (.ref Ja)))
  (hX:FnAt K Ja "__init__" "Step.__init__" yB (.ref eM))
  (atZ27:Ga K (.ref on) "__init__" =some (some (.ref Jm)))
  (hY:FnAt K Jm "__init__" "Warm.__init__" yC (.ref fc))
  (hZ:oJ K mt Jt "__init__" "Recipe.__init__" AR .none)
  (ia:oJ K Ic Jc "span" "Step.span" AT .none)
  (ib:oJ K Hy Jf "span" "Cut.span" AU .none)
  (ih:oJ K Ic IV "grown_way" "Step.grown_way" AV .none)
  (ii:oJ K Ic IU "grown" "Step.grown" AW .none)
  (ij:oJ K Ic Je "rounds" "Step.rounds" AX .none)
  (il:oJ K on Jx "rounds" "Warm.rounds" AY .none)
  (iu:K.lookup ir=some ⟨gI,gJ,.seq #[.int 1 e2] gT,gV⟩)
  (fs:K.lookup eM=some ⟨eN,eX,.seq #[.none,.none] eY,fb⟩)
  (ft:K.lookup fc=some ⟨ff,fg,.seq #[.none,.none] fi,fk⟩)
  (fu:K.lookup fl=some ⟨fo,fp,.seq #[.none] fq,fr⟩)
  (aB:oQ K Ie ["cut","rest","warm"])
  (b0:oQ K Io ["with","orwith"])
  (aJ:oQ K Ih ["after","within","apart"])
  (d4:oV w K IR sS)
  (da:oV w K IO pP)
  (cC:Hs K Ia Cf "ValueError.__new__" =true)
  (cI:XI K Ia)
  (db:Hs K Hz Cf "ValueError.__new__" =true)
  (dc:XI K Hz)
  (cO:XT K Ia)
  (dd:XT K Hz)
  (tx:Hb K (.ref Ia) (.ref Ia)=some true)
  (ab:Hb K (.ref Hz) (.ref Hz)=some true)
  (h7:G7 K (.ref Ia) (.ref Ig)=some true)
  (h8:G7 K (.ref Hz) (.ref Ig)=some true)
  (b1:PySem.W.kitAny K (.ref Hz) [.ref Il,.ref IN,.ref Ia,.ref IM,.ref IL,.ref IY,.ref Ip,.ref IK,.ref IJ,.ref IX]=some false)
  (b2:PySem.W.kitAny K (.ref Hz) [.ref Ix,.ref Ik,.ref II,.ref IH,.ref IW]=some false)
  (dU:iI K Ic)
  (dV:Mk K Ic Ja)
  (el:cA K Ic "span" Jc)
  (em:cA K Ic "rounds" Je)
  (en:cA K Ic "grown" IU)
  (eo:cA K Ic "grown_way" IV)
  (ep:iI K Hy)
  (eq:Mk K Hy Ja)
  (er:cA K Hy "span" Jf)
  (aQ:cA K Hy "rounds" Je)
  (b3:cA K Hy "grown" IU)
  (am:cA K Hy "grown_way" IV)
  (dW:iI K Go)
  (ea:Mk K Go Ja)
  (b7:cA K Go "span" Jc)
  (a4:cA K Go "rounds" Je)
  (aS:cA K Go "grown" IU)
  (ad:cA K Go "grown_way" IV)
  (eb:iI K on)
  (ec:Mk K on Jm)
  (b9:cA K on "span" Jc)
  (es:cA K on "rounds" Jx)
  (aX:cA K on "grown" IU)
  (ag:cA K on "grown_way" IV)
  (de:iI K mt)
  (dj:Mk K mt Jt)
  (c0:aE K Hy "name")
  (bC:aE K Hy "least")
  (c1:aE K Hy "most")
  (c2:aE K Hy "uses")
  (aZ:aE K Hy "second")
  (bH:aE K Go "name")
  (ba:aE K Go "least")
  (bO:aE K Go "most")
  (bY:aE K Go "uses")
  (a5:aE K Go "second")
  (ca:aE K on "name")
  (bb:aE K on "least")
  (cb:aE K on "most")
  (cc:aE K on "uses")
  (a6:aE K on "second")
  (cd:aE K on "fill")
  (a8:aE K mt "name")
  (an:aE K mt "plates")
  (ax:aE K mt "takes")
  (ay:aE K mt "steps")
  (az:aE K mt "links")
  (ap:zL K Ic "__init__" Ja)
  (ed:wM K Ic)
  (et:wM K Hy)
  (ee:wM K Go)
  (ef:wM K on)
  (dl:wM K mt)
  (c3:G7 K (.ref Hy) (.ref Hy)=some true)
  (ce:G7 K (.ref Hy) (.ref Go)=some false)
  (ch:G7 K (.ref Hy) (.ref on)=some false)
  (cj:G7 K (.ref Hy) (.ref Ic)=some true)
  (ck:G7 K (.ref Go) (.ref Hy)=some false)
  (bc:G7 K (.ref Go) (.ref Go)=some true)
  (bd:G7 K (.ref Go) (.ref on)=some false)
  (be:G7 K (.ref Go) (.ref Ic)=some true)
  (cl:G7 K (.ref on) (.ref Hy)=some false)
  (bf:G7 K (.ref on) (.ref Go)=some false)
  (bg:G7 K (.ref on) (.ref on)=some true)
  (bj:G7 K (.ref on) (.ref Ic)=some true)
  (al:G7 K (.ref mt) (.ref mt)=some true)
  :∃fd:FuncData,(∀(s:Shared) (v:Value),BindsTo s fd ⟨[v],[]⟩ [("_law_script",v)])/\∀base:Heap,K.In base->base.Ns mainGlobals mg->aW l.prog w K mg base aV 20 fa fd ["_law_script"] (rj K):=by
 have e:=hfa.symm.trans (G5 X G hQ);cases e;have B:Bn w K mg IO Hy Il IR IN Ih Ia IM IL IY Ip IK IJ IX Ix Ik II mt Go Ie Ic Ig IH Hz IW Io on Ja Jm Jt Jc Jf IV IU Je Jx:=⟨Exists.intro _<|G5 X G cT,Exists.intro _<|G5 X G a2,Exists.intro _<|G5 X G cV,Exists.intro _<|G5 X G a3,Exists.intro _<|G5 X G bo,Exists.intro _<|G5 X G bp,Exists.intro _<|G5 X G co,Exists.intro _<|G5 X G bq,Exists.intro _<|G5 X G br,GZ X G e3,GZ X G eg,GZ X G cp,GZ X G e4,GZ X G bs,GZ X G e5,GZ X G eh,GZ X G e6,GZ X G d6,GZ X G dp,GZ X G e7,GZ X G e8,GZ X G d7,GZ X G e9,G5 X G dq,G5 X G eB,G5 X G cs,G5 X G d8,G5 X G dt,G5 X G bt,G5 X G c9,G5 X G dv,G5 X G dw,G5 X G d9,G5 X G cB,G5 X G dx,G5 X G dy,G5 X G dE,G5 X G cW,G5 X G ct,G5 X G d0,G5 X G d1,G5 X G ei,G5 X G bu,G5 X G ej,G5 X G bx,G5 X G d3,G5 X G cY,G5 X G dK,G5 X G cz,G5 X G ek,aB,b0,aJ,d4,da,cC,cI,db,dc,cO,dd,tx,ab,h7,h8,b1,b2,dU,dV,el,em,en,eo,ep,eq,er,aQ,b3,am,dW,ea,b7,a4,aS,ad,eb,ec,b9,es,aX,ag,de,dj,c0,bC,c1,c2,aZ,bH,ba,bO,bY,a5,ca,bb,cb,cc,a6,cd,a8,an,ax,ay,az,ap,ed,et,ee,ef,dl,c3,ce,ch,cj,ck,bc,bd,be,cl,bf,bg,bj,al⟩;refine mO jn fun _ _ _ _ _ _ _ _ _ _hi=>?_
 refine sd _hi fun lZ3 cZ3 kZ3=>?_
 refine mO h1 fun _ _ _ _ _ _ _ _ _ _hi=>?_
 refine sd _hi fun lZ44 cZ44 kZ44=>?_
 refine mO hN fun _ _ _ _ _ _ _ _ _ _hi=>?_
 refine sd _hi fun lZ69 cZ69 kZ69=>?_
 refine mO hX fun _ _ _ _ _ _ _ _ _ _hi=>?_
 refine sd _hi fun lZ26 cZ26 kZ26=>?_
 refine mO hY fun _ _ _ _ _ _ _ _ _ _hi=>?_
 refine sd _hi fun lZ27 cZ27 kZ27=>?_
 have FZ3:=fj (st:=DV) lZ3 cZ3 kZ3;have FZ26:=fj (st:=yB) lZ26 cZ26 kZ26;have FZ27:=fj (st:=yC) lZ27 cZ27 kZ27;have FZ44:=fj (st:=yD) lZ44 cZ44 kZ44;have FZ69:=fj (st:=yE) lZ69 cZ69 kZ69;have Flaw:=fj (st:=ny) hR hS hT;refine ⟨Gj "law" "law" (dX ny) (c5 ny) (ao ny) .none ev ew ex eu d5 ey,?bind,fun base _ _=>?ok⟩
 case bind=>exact fun s v=> .of_eq rfl
 case ok=>
  have z9:Bx l.prog w base:=⟨⟩;have DZ0:=dk z9 X G jh (fun _ _ _ _ _ _=>cx fun _=>rfl) fun F=>EZ B F
  have DZ1:=dk z9 X G ji (fun _ _ _ _ _ _=>cx fun _=>rfl) fun F=>E1 B F
  have DZ2:=dk z9 X G jl (fun _ _ _ _ _ _=>bS fun _ _=>rfl) fun F=>E3 B F
  have DZ3:Dx l.prog w K mg base aV 2 "fraction" ["top","bottom"] [.int 1] mn:=⟨fw,_,E5 B FZ3 DZ1 DZ2,G5 X G jm,kZ3,FZ3.binds (ps:= ["top","bottom"]) (ds:= []) iu rfl fun _ _ _ _ _ _ us hl=>match us,hl with| [_,_],_=>⟨_,rfl,rfl⟩,⟨[.int 1 e2],FZ3.binds (ps:= ["top","bottom"]) (ds:= [.int 1 e2]) iu rfl fun _ _ _ _ _ _ us hl=>match us,hl with| [_],_=>⟨_,rfl,rfl⟩| [],h=>absurd h (by simp)|_::_::_,h=>absurd h (by simp),.cons ⟨_,rfl⟩ .nil⟩⟩
  have DZ4:=dk z9 X G js (fun _ _ _ _ _ _=>bS fun _ _=>rfl) fun F=>E6 B F DZ3
  have DZ5:=dk z9 X G j0 (fun _ _ _ _ _ _=>bS fun _ _=>rfl) fun F=>E7 B F DZ3
  have DZ6:=dk z9 X G j1 (fun _ _ _ _ _ _=>bS fun _ _=>rfl) fun F=>E8 B F DZ3
  have DZ7:=dk z9 X G j2 (fun _ _ _ _ _ _=>cx fun _=>rfl) fun F=>E9 B F
  have DZ8:=dk z9 X G j6 (fun _ _ _ _ _ _=>cx fun _=>rfl) fun F=>Fa B F
  have DZ9:=dk z9 X G j7 (fun _ _ _ _ _ _=>cx fun _=>rfl) fun F=>Fb B F DZ8
  have DZ10:=dk z9 X G gZ (fun _ _ _ _ _ _=>cx fun _=>rfl) fun F=>CJ B F DZ0 DZ3
  have DZ11:=dk z9 X G ha (fun _ _ _ _ _ _=>cx fun _=>rfl) fun F=>CK B F DZ4 DZ10
  have XZ12:=dk z9 X G hb (fun _ _ _ _ _ _=>cx fun _=>rfl) fun F=>CL B F DZ9 DZ11
  have DZ12:Dx l.prog w K mg base aV 5 "read_amount" ["text"] [] rR:=XZ12.calm vF;have DZ13:=dk z9 X G hc (fun _ _ _ _ _ _=>cx fun _=>rfl) fun F=>CM B F
  have DZ14:=dk z9 X G he (fun _ _ _ _ _ _=>cx fun _=>rfl) fun F=>CN B F
  have DZ15:=dk z9 X G hf (fun _ _ _ _ _ _=>dr fun _ _ _=>rfl) fun F=>CO B F DZ0
  have DZ16:=dk z9 X G hg (fun _ _ _ _ _ _=>bS fun _ _=>rfl) fun F=>CP B F XZ12
  have DZ17:=dk z9 X G hh (fun _ _ _ _ _ _=>bS fun _ _=>rfl) fun F=>CQ B F DZ13 DZ15 DZ16
  have DZ18:=dk z9 X G hi (fun _ _ _ _ _ _=>bS fun _ _=>rfl) fun F=>CS B F DZ17
  have DZ19:=dk z9 X G hj (fun _ _ _ _ _ _=>cx fun _=>rfl) fun F=>CT B F
  have DZ20:=dk z9 X G hk (fun _ _ _ _ _ _=>cx fun _=>rfl) fun F=>CU B F DZ14 DZ18 DZ19
  have DZ21:=dk z9 X G hm (fun _ _ _ _ _ _=>dr fun _ _ _=>rfl) fun F=>CV B F
  have DZ22:=dk z9 X G hn (fun _ _ _ _ _ _=>bS fun _ _=>rfl) fun F=>CW B F
  have DZ23:=dk z9 X G ho (fun _ _ _ _ _ _=>dr fun _ _ _=>rfl) fun F=>CY B F
  have DZ24:=dk z9 X G hp (fun _ _ _ _ _ _=>dr fun _ _ _=>rfl) fun F=>CZ B F DZ21 DZ22
  have DZ25:=dk z9 X G hq (fun _ _ _ _ _ _=>dr fun _ _ _=>rfl) fun F=>C0 B F DZ22 DZ23
  have DZ26:kr l.prog w K mg base aV 1 Ja ["self","name","least","most","uses","second"] [.non,.non] (gR K):=⟨_,C1 B FZ26,FZ26.binds (ps:= ["self","name","least","most","uses","second"]) (ds:= []) fs rfl fun _ _ _ _ _ _ us hl=>match us,hl with| [_,_,_,_,_,_],_=>⟨_,rfl,rfl⟩,⟨[.none,.none],FZ26.binds (ps:= ["self","name","least","most","uses","second"]) (ds:= [.none,.none]) fs rfl fun _ _ _ _ _ _ us hl=>match us,hl with| [_,_,_,_],_=>⟨_,rfl,rfl⟩| [],h=>absurd h (by simp)| [_],h=>absurd h (by simp)| [_,_],h=>absurd h (by simp)| [_,_,_],h=>absurd h (by simp)|_::_::_::_::_::_,h=>absurd h (by simp),.cons rfl (.cons rfl .nil)⟩⟩
  have DZ27:kr l.prog w K mg base aV 2 Jm ["self","name","least","most","fill","uses","second"] [.non,.non] (i8 K):=⟨_,C2 B FZ27 DZ26,FZ27.binds (ps:= ["self","name","least","most","fill","uses","second"]) (ds:= []) ft rfl fun _ _ _ _ _ _ us hl=>match us,hl with| [_,_,_,_,_,_,_],_=>⟨_,rfl,rfl⟩,⟨[.none,.none],FZ27.binds (ps:= ["self","name","least","most","fill","uses","second"]) (ds:= [.none,.none]) ft rfl fun _ _ _ _ _ _ us hl=>match us,hl with| [_,_,_,_,_],_=>⟨_,rfl,rfl⟩| [],h=>absurd h (by simp)| [_],h=>absurd h (by simp)| [_,_],h=>absurd h (by simp)| [_,_,_],h=>absurd h (by simp)| [_,_,_,_],h=>absurd h (by simp)|_::_::_::_::_::_::_,h=>absurd h (by simp),.cons rfl (.cons rfl .nil)⟩⟩
  have DZ28:=zV z9 hZ (fun _ _ _ _ _ _=>zU fun _ _ _ _ _ _=>rfl) fun F=>C3 B F
  have DZ29:=dk z9 X G hr (fun _ _ _ _ _ _=>bS fun _ _=>rfl) fun F=>C4 B F DZ3 DZ5 DZ7
  have DZ30:=zV z9 ia (fun _ _ _ _ _ _=>jM fun _ _ _ _=>rfl) fun F=>C5 B F
  have DZ31:=zV z9 ib (fun _ _ _ _ _ _=>jM fun _ _ _ _=>rfl) fun F=>C6 B F DZ29
  have DZ32:=zV z9 ih (fun _ _ _ _ _ _=>vR fun _ _ _ _ _=>rfl) fun F=>C7 B F DZ30 DZ31
  have DZ33:=zV z9 ii (fun _ _ _ _ _ _=>bS fun _ _=>rfl) fun F=>C8 B F DZ32
  have DZ34:=zV z9 ij (fun _ _ _ _ _ _=>dr fun _ _ _=>rfl) fun F=>C9 B F
  have DZ35:=zV z9 il (fun _ _ _ _ _ _=>dr fun _ _ _=>rfl) fun F=>Da B F DZ5 DZ6 DZ7
  have DZ36:=dk z9 X G hs (fun _ _ _ _ _ _=>cx fun _=>rfl) fun F=>Db B F DZ28
  have DZ37:=dk z9 X G ht (fun _ _ _ _ _ _=>cx fun _=>rfl) fun F=>Dc B F DZ26 DZ27
  have DZ38:=dk z9 X G hu (fun _ _ _ _ _ _=>dr fun _ _ _=>rfl) fun F=>Dd B F DZ21 DZ22 DZ37
  have DZ39:=dk z9 X G hv (fun _ _ _ _ _ _=>dr fun _ _ _=>rfl) fun F=>De B F DZ23
  have DZ40:=dk z9 X G hw (fun _ _ _ _ _ _=>dr fun _ _ _=>rfl) fun F=>Df B F DZ21 DZ22 DZ23
  have DZ41:=dk z9 X G hx (fun _ _ _ _ _ _=>dr fun _ _ _=>rfl) fun F=>Dg B F DZ24 DZ25 DZ38 DZ39 DZ40
  have DZ42:=dk z9 X G hy (fun _ _ _ _ _ _=>cx fun _=>rfl) fun F=>Dh B F DZ20 DZ36 DZ41
  have DZ43:=dk z9 X G hz (fun _ _ _ _ _ _=>bS fun _ _=>rfl) fun F=>Di B F DZ3
  have XZ44:Dx l.prog w K mg base (jr l.prog w) 8 "tasks_of" ["recipe","plates","size"] [.non] (iH K Hy Go on mt Hz):=⟨ez,_,Dj B FZ44 DZ3 DZ33 DZ34 DZ35 DZ43,G5 X G h0,kZ44,FZ44.binds (ps:= ["recipe","plates","size"]) (ds:= []) fu rfl fun _ _ _ _ _ _ us hl=>match us,hl with| [_,_,_],_=>⟨_,rfl,rfl⟩,⟨[.none],FZ44.binds (ps:= ["recipe","plates","size"]) (ds:= [.none]) fu rfl fun _ _ _ _ _ _ us hl=>match us,hl with| [_,_],_=>⟨_,rfl,rfl⟩| [],h=>absurd h (by simp)| [_],h=>absurd h (by simp)|_::_::_::_,h=>absurd h (by simp),.cons rfl .nil⟩⟩
  have DZ45:=dk z9 X G h2 (fun _ _ _ _ _ _=>bS fun _ _=>rfl) fun F=>Dk B F
  have DZ46:=dk z9 X G h3 (fun _ _ _ _ _ _=>bS fun _ _=>rfl) fun F=>Dl B F
  have DZ47:=dk z9 X G h4 (fun _ _ _ _ _ _=>bS fun _ _=>rfl) fun F=>Dm B F
  have DZ48:=dk z9 X G h5 (fun _ _ _ _ _ _=>bS fun _ _=>rfl) fun F=>Dn B F DZ47
  have DZ49:=dk z9 X G c4 (fun _ _ _ _ _ _=>bS fun _ _=>rfl) fun F=>Do B F
  have DZ50:=dk z9 X G c4 (fun _ _ _ _ _ _=>bS fun _ _=>rfl) fun F=>Dp B F DZ49
  have DZ51:=dk z9 X G c4 (fun _ _ _ _ _ _=>bS fun _ _=>rfl) fun F=>b6 B 0 2 F DZ50
  have DZ52:=dk z9 X G c4 (fun _ _ _ _ _ _=>bS fun _ _=>rfl) fun F=>b6 B 1 3 F DZ51
  have DZ53:=dk z9 X G c4 (fun _ _ _ _ _ _=>bS fun _ _=>rfl) fun F=>b6 B 2 4 F DZ52
  have DZ54:=dk z9 X G c4 (fun _ _ _ _ _ _=>bS fun _ _=>rfl) fun F=>b6 B 3 5 F DZ53
  have DZ55:=dk z9 X G c4 (fun _ _ _ _ _ _=>bS fun _ _=>rfl) fun F=>b6 B 4 6 F DZ54
  have DZ56:=dk z9 X G c4 (fun _ _ _ _ _ _=>bS fun _ _=>rfl) fun F=>b6 B 5 7 F DZ55
  have DZ57:=dk z9 X G h6 (fun _ _ _ _ _ _=>bS fun _ _=>rfl) fun F=>Dq B F
  have DZ58:=dk z9 X G h9 (fun _ _ _ _ _ _=>cx fun _=>rfl) fun F=>Dr B F
  have DZ59:=dk z9 X G hA (fun _ _ _ _ _ _=>jM fun _ _ _ _=>rfl) fun F=>Ds B F DZ48 DZ57 DZ58
  have DZ60:=dk z9 X G hB (fun _ _ _ _ _ _=>cx fun _=>rfl) fun F=>Dt B F DZ26 DZ27
  have DZ61:=dk z9 X G hC (fun _ _ _ _ _ _=>bS fun _ _=>rfl) fun F=>Du B F
  have DZ62:=dk z9 X G hD (fun _ _ _ _ _ _=>bS fun _ _=>rfl) fun F=>Dw B F DZ61
  have DZ63:=dk z9 X G hE (fun _ _ _ _ _ _=>dr fun _ _ _=>rfl) fun F=>Dy B F DZ61 DZ62
  have DZ64:=dk z9 X G hF (fun _ _ _ _ _ _=>cx fun _=>rfl) fun F=>Dz B F
  have DZ65:=dk z9 X G hH (fun _ _ _ _ _ _=>cx fun _=>rfl) fun F=>DA B F
  have DZ66:=dk z9 X G hI (fun _ _ _ _ _ _=>dr fun _ _ _=>rfl) fun F=>DB B F
  have DZ67:=dk z9 X G hK (fun _ _ _ _ _ _=>dr fun _ _ _=>rfl) fun F=>DC B F DZ65 DZ66
  have DZ68:=dk z9 X G hL (fun _ _ _ _ _ _=>jM fun _ _ _ _=>rfl) fun F=>DD B F DZ48 DZ63
  have bZ69:=FZ69.binds0 (ps:= ["_law_e"]) fun _ _ _ _ _ _=>cx (fun _=>rfl)
  have HZ69:∀hd,Ch hd l.prog w K mg base 1 "_law_alone" ["_law_e"] (f9 Hz):=fun hd=>⟨e0,_,DE B FZ69,G5 X G hM,kZ69,bZ69⟩
  have DZ69:Dx l.prog w K mg base aV 1 "_law_alone" ["_law_e"] [] (f9 Hz):=(HZ69 none).calm;have DZ70:=dk z9 X G hO (fun _ _ _ _ _ _=>jM fun _ _ _ _=>rfl) fun F=>DF B F XZ44 HZ69
  have DZ71:=dk z9 X G hP (fun _ _ _ _ _ _=>vR fun _ _ _ _ _=>rfl) fun F=>DG B F DZ48 DZ56 DZ63 DZ70
  exact DH B Flaw DZ28 DZ42 DZ43 DZ45 DZ46 DZ48 DZ56 DZ59 DZ60 DZ64 DZ67 DZ68 DZ71
theorem walk {l:PySem.W.OpenLaw} {q:Program} {loose:Ld} {XP:La->Heap->Prop} {YP:World->Heap->Prop} {d:DefRec} {K:Params->F5} (hn:l.most=some 63) (hdf:d.params.defaults= [])
  (hY:∀(w:World) (h:Heap),YP w h->(K w.params).In h)
  (F:∀(w:World) (mg:La) (fa:Addr) (h:Heap),(K w.params).In h->h.Ns mainGlobals mg->mg d.name=some (.ref fa)->
   ∃fd:FuncData,(∀(s:Shared) (u:Value),BindsTo s fd ⟨[u],[]⟩ [("_law_script",u)])/\∀base:Heap,(K w.params).In base->base.Ns mainGlobals mg->aW l.prog w (K w.params) mg base aV 20 fa fd ["_law_script"] (rj (K w.params))):
  PySem.W.WalkO q loose XP YP l.row.toRowW d [] (fun f vs=>PySem.call f vs):=
 L2.xq (n:=63) (k:=20) (x:= "_law_script") (CX:=fun _=>aV) (sp:=fun w=>rj (K w.params)) hn (by decide) hdf ⟨rfl,by decide,by decide⟩ hY F (fun _ _ a ns hl _ hS=>(aF a ns ⟨rfl,hS,hl,fun _=>rfl⟩)) fun _ _ _ _ _ z=>z
end Lk41
open PySem PySem.W PyProof.Rows
set_option maxRecDepth 100000 in
set_option maxHeartbeats 0 in
theorem PySem.Challenge.cw_stovework_k41_tasks_holds : PySem.Challenge.rw_stovework_k41_tasks.Holds := by
 refine Lk41.hd ?_
 k_fill
 refine Lk41.walk (l:=PySem.Challenge.rw_stovework_k41_tasks) rfl rfl (fun w h Y=>PySem.W.kIn_of Y) ?F
 case F=>
  intro w mg fa h KX G hmg
  refine' Lk41.Bz KX G hmg ?a ?b ?c ?d ?e ?f ?g ?h ?i ?j ?k ?l ?m ?n ?o ?p ?q ?r ?s ?t ?u ?v ?w ?x ?y ?z ?A ?B ?C ?D ?E ?F ?G ?H ?I ?J ?K ?L ?M ?N ?O ?P ?Q ?R ?S ?T ?U ?V ?W ?X ?Y ?Z ?aa ?ab ?ac ?ad ?ae ?af ?ag ?ah ?ai ?aj ?ak ?al ?am ?an ?ao ?ap ?aq ?ar ?au ?av ?aw ?ax ?ay ?az ?aA ?aB ?aC ?aD ?aE ?aF ?aG ?aH ?aI ?aJ ?aK ?aL ?aM ?aN ?aO ?aP ?aQ ?aR ?aS ?aT ?aU ?aV ?aW ?aX ?aY ?aZ ?ba ?bb ?bc ?bd ?be ?bf ?bg ?bh ?bi ?bj ?bk ?bl ?bm ?bn ?bo ?bp ?bq ?br ?bs ?bt ?bu ?bv ?bw ?bx ?bz ?bA ?bB ?bC ?bD ?bE ?bF ?bG ?bH ?bI ?bJ ?bK ?bL ?bM ?bN ?bO ?bP ?bQ ?bR ?bS ?bT ?bU ?bV ?bW ?bX ?bY ?bZ ?ca ?cb ?cc ?cd ?ce ?cf ?cg ?ch ?ci ?cj ?ck ?cl ?cm ?cn ?co ?cp ?cq ?cr ?cs ?ct ?cu ?cv ?cw ?cx ?cy ?cz ?cA ?cB ?cC ?cD ?cE ?cF ?cG ?cH ?cI ?cJ ?cK ?cL ?cM ?cN ?cO ?cP ?cQ ?cR ?cS ?cT ?cU ?cV ?cW ?cX ?cY ?cZ ?da ?db ?dc ?dd ?de ?df
  case a|b|c=>exact ⟨by k_is,_,_,_,_,_,_,_,_,_,by k_is,by k_is,by k_is⟩
  case d=>k_is
  case e=>exact ⟨_,_,_,_,_,_,_,_,_,by k_is,by k_is,by k_is⟩
  case f|g|h|i|j|k|l|m|n|o|p|q|r|s|t|u|v|w|x|y|z|A|B|C|D|E|F|G|H|I|J=>exact ⟨by k_is,_,_,_,_,_,_,_,_,_,by k_is,by k_is,by k_is⟩
  case K=>k_is
  case L=>exact ⟨_,_,_,_,_,_,_,_,_,by k_is,by k_is,by k_is⟩
  case M|N|O|P|Q|R|S|T|U|V|W|X|Y|Z|aa|ab|ac=>exact ⟨by k_is,_,_,_,_,_,_,_,_,_,by k_is,by k_is,by k_is⟩
  case ad=>k_is
  case ae=>exact ⟨_,_,_,_,_,_,_,_,_,by k_is,by k_is,by k_is⟩
  case af|ag=>exact ⟨by k_is,_,_,_,_,_,_,_,_,_,by k_is,by k_is,by k_is⟩
  case ah|ai|aj|ak|al|am|an|ao|ap|aq|ar|au|av|aw|ax|ay|az|aA|aB|aC|aD|aE|aF|aG|aH|aI|aJ|aK|aL|aM|aN|aO|aP|aQ|aR|aS|aT|aU|aV|aW|aX|aY|aZ|ba|bb|bc|bd|be|bf|bg|bh|bi|bj|bk|bl=>k_is
  case bm=>exact ⟨_,_,_,_,_,_,_,_,_,by k_is,by k_is,by k_is⟩
  case bn=>k_is
  case bo=>exact ⟨_,_,_,_,_,_,_,_,_,by k_is,by k_is,by k_is⟩
  case bp|bq|br|bs|bt|bu|bv=>exact ⟨by k_is,_,_,_,_,_,_,_,_,_,by k_is,by k_is,by k_is⟩
  case bw|bx|bz|bA=>k_is
  case bB=>exact ⟨_,_,_,by k_is,rfl,rfl,by decide,.cons ⟨_,rfl⟩ (.cons ⟨_,rfl⟩ (.cons ⟨_,rfl⟩ (.nil)))⟩
  case bC=>exact ⟨_,_,_,by k_is,rfl,rfl,by decide,.cons ⟨_,rfl⟩ (.cons ⟨_,rfl⟩ (.nil))⟩
  case bD=>exact ⟨_,_,_,by k_is,rfl,rfl,by decide,.cons ⟨_,rfl⟩ (.cons ⟨_,rfl⟩ (.cons ⟨_,rfl⟩ (.nil)))⟩
  case bE=>exact ⟨by decide,_,_,_,by k_is,⟨rfl,rfl,rfl⟩,rfl,(.cons ⟨_,_,_,by k_is,rfl,rfl,by decide,.cons ⟨_,rfl⟩ (.cons ⟨_,rfl⟩ (.nil))⟩ (.cons ⟨_,_,_,by k_is,rfl,rfl,by decide,.cons ⟨_,rfl⟩ (.cons ⟨_,rfl⟩ (.nil))⟩ (.cons ⟨_,_,_,by k_is,rfl,rfl,by decide,.cons ⟨_,rfl⟩ (.cons ⟨_,rfl⟩ (.cons ⟨_,rfl⟩ (.nil)))⟩ (.cons ⟨_,_,_,by k_is,rfl,rfl,by decide,.cons ⟨_,rfl⟩ (.cons ⟨_,rfl⟩ (.cons ⟨_,rfl⟩ (.nil)))⟩ (.cons ⟨_,_,_,by k_is,rfl,rfl,by decide,.cons ⟨_,rfl⟩ (.cons ⟨_,rfl⟩ (.cons ⟨_,rfl⟩ (.cons ⟨_,rfl⟩ (.nil))))⟩ (.cons ⟨_,_,_,by k_is,rfl,rfl,by decide,.cons ⟨_,rfl⟩ (.cons ⟨_,rfl⟩ (.cons ⟨_,rfl⟩ (.nil)))⟩ (.cons ⟨_,_,_,by k_is,rfl,rfl,by decide,.cons ⟨_,rfl⟩ (.cons ⟨_,rfl⟩ (.cons ⟨_,rfl⟩ (.cons ⟨_,rfl⟩ (.nil))))⟩ (.cons ⟨_,_,_,by k_is,rfl,rfl,by decide,.cons ⟨_,rfl⟩ (.cons ⟨_,rfl⟩ (.cons ⟨_,rfl⟩ (.cons ⟨_,rfl⟩ (.nil))))⟩ (.cons ⟨_,_,_,by k_is,rfl,rfl,by decide,.cons ⟨_,rfl⟩ (.cons ⟨_,rfl⟩ (.nil))⟩ (.cons ⟨_,_,_,by k_is,rfl,rfl,by decide,.cons ⟨_,rfl⟩ (.cons ⟨_,rfl⟩ (.cons ⟨_,rfl⟩ (.nil)))⟩ (.cons ⟨_,_,_,by k_is,rfl,rfl,by decide,.cons ⟨_,rfl⟩ (.cons ⟨_,rfl⟩ (.nil))⟩ .nil)))))))))))⟩
  case bF=>exact ⟨by decide,_,_,_,by k_is,⟨rfl,rfl,rfl⟩,rfl,(.cons ⟨_,_,_,by k_is,rfl,rfl,by decide,.cons ⟨_,rfl⟩ (.cons ⟨_,rfl⟩ (.nil))⟩ (.cons ⟨_,_,_,by k_is,rfl,rfl,by decide,.cons ⟨_,rfl⟩ (.cons ⟨_,rfl⟩ (.nil))⟩ (.cons ⟨_,_,_,by k_is,rfl,rfl,by decide,.cons ⟨_,rfl⟩ (.cons ⟨_,rfl⟩ (.nil))⟩ (.cons ⟨_,_,_,by k_is,rfl,rfl,by decide,.cons ⟨_,rfl⟩ (.cons ⟨_,rfl⟩ (.nil))⟩ (.cons ⟨_,_,_,by k_is,rfl,rfl,by decide,.cons ⟨_,rfl⟩ (.cons ⟨_,rfl⟩ (.nil))⟩ (.cons ⟨_,_,_,by k_is,rfl,rfl,by decide,.cons ⟨_,rfl⟩ (.cons ⟨_,rfl⟩ (.nil))⟩ (.cons ⟨_,_,_,by k_is,rfl,rfl,by decide,.cons ⟨_,rfl⟩ (.cons ⟨_,rfl⟩ (.nil))⟩ (.cons ⟨_,_,_,by k_is,rfl,rfl,by decide,.cons ⟨_,rfl⟩ (.cons ⟨_,rfl⟩ (.nil))⟩ .nil))))))))⟩
  case bG=>kernel_rfl
  case bH=>exact ⟨⟨by k_is,by k_is,by k_is⟩,by kernel_rfl,by k_is,by k_is,by k_is,by k_is⟩
  case bI=>kernel_rfl
  case bJ=>exact ⟨⟨by k_is,by k_is,by k_is⟩,by kernel_rfl,by k_is,by k_is,by k_is,by k_is⟩
  case bK|bL=>exact ⟨by k_is,by kernel_rfl,by k_is⟩
  case bM|bN=>k_is
  case bO|bP|bQ|bR=>kernel_rfl
  case bS|bT=>exact ⟨by k_is,by k_is,by k_is,by k_is⟩
  case bU|bV|bW|bX=>exact ⟨by k_is,by k_is,by k_is⟩
  case bY|bZ=>exact ⟨by k_is,by k_is,by k_is,by k_is⟩
  case ca|cb|cc|cd=>exact ⟨by k_is,by k_is,by k_is⟩
  case ce|cf=>exact ⟨by k_is,by k_is,by k_is,by k_is⟩
  case cg|ch|ci|cj=>exact ⟨by k_is,by k_is,by k_is⟩
  case ck|cl=>exact ⟨by k_is,by k_is,by k_is,by k_is⟩
  case cm|cn|co|cp=>exact ⟨by k_is,by k_is,by k_is⟩
  case cq|cr=>exact ⟨by k_is,by k_is,by k_is,by k_is⟩
  case cs|ct|cu|cv|cw|cx|cy|cz|cA|cB|cC|cD|cE|cF|cG|cH|cI|cJ|cK|cL|cM=>(unfold L2.aE;k_is)
  case cN|cO|cP|cQ|cR|cS=>exact ⟨by k_is,by k_is,by k_is,by k_is⟩
  case cT|cU|cV|cW|cX|cY|cZ|da|db|dc|dd|de|df=>kernel_rfl
