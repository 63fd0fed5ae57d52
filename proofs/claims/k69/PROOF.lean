import PyProof.Rows.All
import Wide.All
import OpenK.AllK
import Wide.FinOn
import Lean
import PyProof.EqAt
import PyProof.EqKinds
import PyProof.TupleCall
import PyProof.NeKinds
import PyProof.StationsW
import PyProof.RulesAs
import PyProof.ExcArgsOwn
import PyProof.CompFree
import PyProof.ExcInit
import PyProof.ConsumeWalk
import PyProof.Rows.SeqGen
import PyProof.StrWalks
import PyProof.SliceStr2
import PyProof.MeetsStr
import KE.KIntText
import PyProof.Rows.FStr
import PyProof.StrCalls6
import PyProof.StrBlockL
import PyProof.ToksMono
import PyProof.WalkInts
import PyProof.Rows.MinMaxN
import PyProof.StrLawsReplace
import PyProof.StrLawsTight
import PyProof.Rows.StrLawsPart
import PyProof.DictWalks
import KE.KEqDict
import KE.KDictLaws
import KE.KRevIter
import PyProof.ListCopy
import PyProof.CollectIter
import PyProof.Rows.SetFrom
import PyProof.Rows.SortShellK
import PyProof.Rows.SortStr
import PyProof.Rows.SortWalk
import KE.KDictSum
import KE.KSortTup
import PyProof.TupleOfSeq
import PyProof.Rows.SortRuns
import PyProof.FactsAll.tuple_2
import PyProof.WalksEnum
import PyProof.EnumMake
import PyProof.EnumFor
import PyProof.ZipIter
import KE.KDictOf
import PyProof.DictItems
import PyProof.FactsAll.dict_itemiterator_1
import PyProof.Rows.StrMul
import KE.KDictList
import PyProof.Rows.SumAny
import KE.KIsAll
import PyProof.StrLaws
import PyProof.Rows.SortRev
import PyProof.FactsAll.tuple_1
import PyProof.PureInt
import PyProof.Rows.CallKwBuiltin
import PySem.Challenge.RW_stovework_k69_best_of_all_sets
set_option maxHeartbeats 4000000
noncomputable section
abbrev II:=PySem.Value->PySem.Shared->Prop
abbrev IJ:=PySem.Str->Option PySem.Value
abbrev IK:=List (PySem.Addr×PySem.Obj)
abbrev IL:=Array (Option PySem.Value)
abbrev IM:=List PySem.Str
abbrev IN:=List PySem.Addr
abbrev IP:=List PySem.Value
abbrev IQ:=Option PySem.Addr
abbrev IR:=Option PySem.Value
open Array renaming length_toList → FZ, getElem?_toList → GG, getElem?_eq_getElem → Ga, getElem?_eq_none → HZ, getElem?_eq_some_iff → Hd
open Bool renaming false_ne_true → GD, and_eq_true → GF, false_eq_true → GY, not_true → HU, false_or → HV, eq_iff_iff → Hq
open Int renaming toNat_natCast → FO, le_refl → GP, zero_add → Gp, le_trans → HS, fdiv_eq_ediv_of_nonneg → Hg
open List renaming getElem?_eq_getElem → F0, length_map → F1, getElem?_eq_some_iff → F4, mem_of_getElem? → F5, getElem?_map → F7, getElem?_append_right → F9, mem_singleton → FM, mem_map → FN, length_append → FP, mem_iff_getElem? → FR, mem_append → FS, getElem?_append_left → FU, mem_cons → FW, mem_cons_of_mem → FX, mem_append_right → FY, range → G0, map_map → G1, getElem_mem → G5, size_toArray → G6, map_append → G8, getD_eq_getElem?_getD → G9, length_take → GA, length_range → GB, all_eq_true → GC, mem_range → GE, mem_cons_self → GJ, map_cons → GL, take_length → GN, take_append_drop → GS, getElem?_eq_none → GT, length_cons → GV, mem_append_left → GW, eq_nil_of_length_eq_zero → Gb, nodup_cons → Gc, map_congr_left → Gd, length_reverse → Ge, map_eq_nil_iff → Gg, append_assoc → Gi, getLast?_eq_some_getLast → Gj, sum_cons → Gm, append_nil → Gn, not_mem_nil → Gq, pairwise_append → Gr, take_add_one → Gv, ext_getElem? → Gw, mem_filter → Gx, find?_cons → Gy, length_drop → HA, pairwise_map → HJ, getElem?_range → HP, mem_reverse → HY, pairwise_cons → Ha, take_of_length_le → Hc, pairwise_iff_getElem → Hi, getElem?_eq_none_iff → Hj, mem_map_of_mem → Hl, getElem?_take_of_lt → Ho
open List.Pairwise renaming nil → Hh
open Nat renaming le_refl → F8, ne_of_lt → FV, zero_le → G4, lt_of_lt_of_le → GK, lt_succ_iff_lt_or_eq → GQ, lt_succ_of_lt → GR, le_trans → Gf, lt_succ_self → Gs, not_lt_zero → Gz, ne_of_gt → HC, lt_irrefl → HW, le_succ → He
open Option renaming map_eq_some_iff → FT, bind_eq_some_iff → GM, isSome_iff_exists → GX, map_some → Hn
open Option.some renaming inj → GZ
open PyProof renaming noPylong_small → FQ
open PyProof.Rows renaming callWith_type1 → GO
open PySem renaming mem_of_lookup → GU
open PySem.F renaming type_list_append → G2, slot_list_append → G3, plainAttrs_list → G7, plain_list_iadd → HD, plain_max_loop → HN
open PySem.W renaming Frag → F6, nsIn → GH, mg_none_of → GI, mg_of → Gh, kia_one → Gk, emptyDict → Gu, fnOf → HL, findIn → HQ, instObj → HR, keepIn → HX
open PySem.W.Fast renaming te14364793385576792824 → HE, te14289696077712309145 → HF, te11892475500146522536 → HG, te10274390034422433532 → HH, te10156331382660048174 → HI, te6613529449190102663 → HK
namespace Ht
open PySem PySem.W PyProof.Rows
noncomputable def rY (ok:Thread->Bool) (st:SharedT->Thread->Option (SharedT×Thread)) (n:Nat):SharedT->Thread->Option SharedT:=
 Nat.rec (motive:=fun _=>SharedT->Thread->Option SharedT) (fun _ _=>none) (fun _ ih s t=>
  Bool.rec (motive:=fun _=>Option SharedT)
   (Bool.rec (motive:=fun _=>Option SharedT) none (Option.rec (motive:=fun _=>Option SharedT) none (fun r=>Prod.rec (motive:=fun _=>Option SharedT) (fun s' t'=>ih s' t') r) (st s t)) (ok t))
   (some s) (through t)) n
theorem t9 {tb:String->Option Builtin} {p:Program} {w:World} {m:Nat} {ann:IR}:∀{n:Nat} {s s':SharedT} {t:Thread},rY (stepOk m ann) (stepT (denote tb) p w) n s t=some s'->topRun tb p w m ann n s.abs t=some s'.abs
 |0,_,_,_,h=>by cases h
 |n+1,s,s',t,h=>by
  unfold topRun;have h':Bool.rec (motive:=fun _=>Option SharedT)
   (Bool.rec (motive:=fun _=>Option SharedT) none (Option.rec (motive:=fun _=>Option SharedT) none (fun r=>Prod.rec (motive:=fun _=>Option SharedT) (fun s' t'=>rY (stepOk m ann) (stepT (denote tb) p w) n s' t') r) (stepT (denote tb) p w s t)) (stepOk m ann t))
   (some s) (through t)=some s':=h
  cases ht:through t with
  |true=>rw[ht] at h';cases h';rfl
  |false=>
   rw[ht] at h';cases hk:stepOk m ann t with
   |false=>rw[hk] at h';cases h'
   |true=>
    rw[hk] at h';cases hs:stepT (denote tb) p w s t with
    |none=>rw[hs] at h';cases h'
    |some r=>
     obtain ⟨s₂,t₂⟩:=r;rw[hs] at h';dsimp only;rw[stepT_spec hs];exact t9 h'
noncomputable def grow (l:List Obj):Nat->BT->Option BT:=
 List.rec (motive:=fun _=>Nat->BT->Option BT) (fun _ t=>some t) (fun o _ ih n t=>
  Bool.rec (motive:=fun _=>Option BT) none (ih (n+1) (t.ins n o)) ((t.ins n o).get n).isSome) l
theorem uc {life:Life}:∀{l:List Obj} {n:Nat} {t t':BT},grow l n t=some t'->absHeap t' (n+l.length) life=⟨(absHeap t n life).objs++l.toArray,life⟩
 | [],n,t,t',h=>by
  cases h;simp[absHeap]
 |o::l,n,t,t',h=>by
  have h':Bool.rec (motive:=fun _=>Option BT) none (grow l (n+1) (t.ins n o)) ((t.ins n o).get n).isSome=some t':=h
  cases e:((t.ins n o).get n).isSome with
  |false=>rw[e] at h';cases h'
  |true=>
   rw[e] at h';have z:=uc (life:=life) h';rw[absHeap_ins e] at z;rw[show n+(o::l).length=n+1+l.length by rw[GV];lia,z]
   simp[Heap.push]
noncomputable def treeOf (s:Shared):Option SharedT:=
 Option.rec (motive:=fun _=>Option SharedT) none (fun t=>some ⟨t,s.heap.objs.size,s.heap.life,s.gens,s.drawn,s.toks,s.os⟩) (grow s.heap.objs.toList 0 .nil)
theorem rZ {s:Shared} {s':SharedT} (h:treeOf s=some s'):s'.abs=s:=by
 have h':Option.rec (motive:=fun _=>Option SharedT) none (fun t=>some ⟨t,s.heap.objs.size,s.heap.life,s.gens,s.drawn,s.toks,s.os⟩) (grow s.heap.objs.toList 0 .nil)=some s':=h
 cases e:grow s.heap.objs.toList 0 .nil with
 |none=>rw[e] at h';cases h'
 |some t=>
  rw[e] at h';cases h';have z:=uc (life:=s.heap.life) e;obtain ⟨⟨objs,life⟩,gens,drawn,toks,os⟩:=s;simp only[SharedT.abs];have z':absHeap t objs.size life=⟨objs,life⟩:=by
   simpa [absHeap,BT.list] using z
  rw[z']
noncomputable def xx (ok:Nat->IR->Thread->Bool) (st:SharedT->Thread->Option (SharedT×Thread)) (p:Program) (N:Nat) (s₀:Shared):Option Shared:=
 Bool.rec (motive:=fun _=>Option Shared) none
  ((treeOf s₀).bind fun t₀=>(rY (ok s₀.heap.objs.size (s₀.heap.nsMap mainGlobals "__annotations__")) st N t₀ (topStub p)).bind fun t₁=>
   (fun s₁=>Bool.rec (motive:=fun _=>Option Shared) none (some s₁) (staticsOk (importedModules p.main.body) s₀.heap s₁.heap&&namesBound p s₁.heap&&gensDone s₁&&laidKept s₀.heap s₁.heap)) t₁.abs)
  (s₀.heap.isNs mainGlobals&&s₀.gens.size==0)
theorem xy {tb:String->Option Builtin} {p:Program} {w:World} {N:Nat} {s₀ s:Shared} (h:xx stepOk (stepT (denote tb) p w) p N s₀=some s):topFrom tb p w N s₀=some s:=by
 unfold xx at h;unfold topFrom;cases e:s₀.heap.isNs mainGlobals&&s₀.gens.size==0 with
 |false=>rw[e] at h;cases h
 |true=>
  rw[e] at h;obtain ⟨t₀,e0,h⟩:=GM.mp h;obtain ⟨t₁,e1,h⟩:=GM.mp h;have r:=t9 e1;rw[rZ e0] at r;dsimp only;rw[r];dsimp only at h;show (match staticsOk (importedModules p.main.body) s₀.heap t₁.abs.heap&&namesBound p t₁.abs.heap&&gensDone t₁.abs&&laidKept s₀.heap t₁.abs.heap with|true=>some t₁.abs|false=>none)=some s
  cases q:staticsOk (importedModules p.main.body) s₀.heap t₁.abs.heap&&namesBound p t₁.abs.heap&&gensDone t₁.abs&&laidKept s₀.heap t₁.abs.heap with
  |false=>rw[q] at h;cases h
  |true=>rw[q] at h;exact h
noncomputable def oh (ok:Nat->IR->Thread->Bool) (st:SharedT->Thread->Option (SharedT×Thread)) (p:Program) (N:Nat) (s₀:Shared):Option Shared:=
 (treeOf s₀).bind fun t₀=>(rY (ok s₀.heap.objs.size (s₀.heap.nsMap mainGlobals "__annotations__")) st N t₀ (topStub p)).map fun t₁=>t₁.abs
noncomputable def zD (p:Program) (s₀ s₁:Shared):Bool:=(s₀.heap.isNs mainGlobals&&s₀.gens.size==0)&&(staticsOk (importedModules p.main.body) s₀.heap s₁.heap&&namesBound p s₁.heap&&gensDone s₁&&laidKept s₀.heap s₁.heap)
theorem xz {tb:String->Option Builtin} {p:Program} {w:World} {N:Nat} {s₀ s:Shared} (h:oh stepOk (stepT (denote tb) p w) p N s₀=some s) (c:zD p s₀ s=true):topFrom tb p w N s₀=some s:=by
 apply xy;unfold oh at h;obtain ⟨t₀,e0,h⟩:=GM.mp h;obtain ⟨t₁,e1,rfl⟩:=FT.mp h;unfold zD at c;rw[GF] at c;unfold xx;rw[c.1];show ((treeOf s₀).bind fun t₀=>_)=_
 rw[e0];show ((rY _ _ N t₀ (topStub p)).bind fun t₁=>_)=_
 rw[e1];show (Bool.rec (motive:=fun _=>Option Shared) none (some t₁.abs) (staticsOk (importedModules p.main.body) s₀.heap t₁.abs.heap&&namesBound p t₁.abs.heap&&gensDone t₁.abs&&laidKept s₀.heap t₁.abs.heap):Option Shared)=_
 rw[c.2]
abbrev Look (p:Program) (N:Nat) {α:Type} (f:Shared->Shared->α) (v:World->α):Prop:=∀w:World,((importEnds treeTable (opening p) w N (start (opening p)).1 (start (opening p)).2).bind fun s=>(fenceModules? p s).bind fun s₀=>(oh stepOk (stepT (denote treeTable) p w) p N s₀).map fun s₁=>f s₀ s₁)=some (v w)
theorem Look.at_ {p:Program} {N:Nat} {α:Type} {f:Shared->Shared->α} {v:World->α} (h:Look p N f v) (w:World) {s s₀ s₁:Shared} (a:importEnds treeTable (opening p) w N (start (opening p)).1 (start (opening p)).2=some s) (b:fenceModules? p s=some s₀) (c:oh stepOk (stepT (denote treeTable) p w) p N s₀=some s₁):f s₀ s₁=v w:=by
 have:=h w;rw[a] at this;replace this:((fenceModules? p s).bind fun s₀=>(oh stepOk (stepT (denote treeTable) p w) p N s₀).map fun s₁=>f s₀ s₁)=some (v w):=this
 rw[b] at this;replace this:((oh stepOk (stepT (denote treeTable) p w) p N s₀).map fun s₁=>f s₀ s₁)=some (v w):=this
 rw[c] at this;injection this
theorem xA {p q:Program} {loose:IM} {Xt:Shared->Bool} {α:Type} {Yf:Shared->α} {Ya:World->α} {N:Nat} {g0:Bool} (hc:Look p N (fun s₀ s₁=>zD p s₀ s₁) fun _=>true)
  (h1:Look p N (fun _ s=>openSeen q loose (importedModules p.main.body) Xt g0 s) fun _=>openGood q loose) (h2:Look p N (fun _ s=>Yf s) Ya):LeftO p q loose Xt Yf Ya N g0:=fun w=>by
 obtain ⟨s,a,e⟩:=GM.mp (hc w);obtain ⟨s₀,b,e⟩:=GM.mp e;obtain ⟨s₁,c,e⟩:=FT.mp e;have z:openEnds treeTable p w N=some s₁:=by
  unfold openEnds fencedOpening;rw[a];show (fenceModules? p s).bind _=_;rw[b];exact xz c e
 rw[z];show some (_,_)=some (_,_);rw[h1.at_ w a b c,h2.at_ w a b c]
noncomputable def ud (t:SharedT) (a:Addr):Option Obj:=Bool.rec (motive:=fun _=>Option Obj) none ((fun o=>Bool.rec (motive:=fun _=>Option Obj) (some o) none (Obj.isFreed o)) ((t.tree.get a).getD default)) (Nat.blt a t.n)
theorem vF (t:SharedT) (a:Addr):ud t a=t.abs.heap.get? a:=by
 unfold ud SharedT.abs Heap.get?;dsimp only;rw[absHeap_at];cases h:Nat.blt a t.n with
 |false=>
  rw[if_neg fun z=>by rw[Nat.blt_eq.mpr z] at h;cases h]
 |true=>
  rw[if_pos (Nat.blt_eq.mp h)];obtain ⟨cls,dict,data,slots⟩:=(t.tree.get a).getD default;cases data<;>rfl
theorem vG {p:Program} {N:Nat} {as:IN} {v:World->List (Option Obj)}
  (h:∀w:World,((importEnds treeTable (opening p) w N (start (opening p)).1 (start (opening p)).2).bind fun s=>(fenceModules? p s).bind fun s₀=>(treeOf s₀).bind fun t₀=>(rY (stepOk s₀.heap.objs.size (s₀.heap.nsMap mainGlobals "__annotations__")) (stepT (denote treeTable) p w) N t₀ (topStub p)).map fun t₁=>as.map (ud t₁))=some (v w)):
  Look p N (fun _ s=>as.map s.heap.get?) v:=fun w=>by
 obtain ⟨s,a,e⟩:=GM.mp (h w);obtain ⟨s₀,b,e⟩:=GM.mp e;obtain ⟨t₀,c,e⟩:=GM.mp e;obtain ⟨t₁,d,e⟩:=FT.mp e;rw[a];show (fenceModules? p s).bind _=_;rw[b];show (oh stepOk (stepT (denote treeTable) p w) p N s₀).map _=_;unfold oh;rw[c];show ((rY _ _ N t₀ (topStub p)).map fun t₁=>t₁.abs).map _=_
 rw[d];show some (as.map t₁.abs.heap.get?)=_;rw[<-e,show (as.map (ud t₁))=as.map t₁.abs.heap.get? from Gd fun a _=>vF t₁ a]
theorem AS {p:Program} {N:Nat} {α β γ δ:Type} {f:Shared->Shared->α×β×γ×δ} {v:World->α×β×γ×δ} (h1:Look p N (fun a b=>((f a b).1,(f a b).2.1,(f a b).2.2.1)) fun w=>((v w).1,(v w).2.1,(v w).2.2.1)) (h2:Look p N (fun a b=>(f a b).2.2.2) fun w=>(v w).2.2.2):Look p N f v:=fun w=>by
 obtain ⟨s,a,e⟩:=GM.mp (h1 w);obtain ⟨s₀,b,e⟩:=GM.mp e;obtain ⟨s₁,c,e⟩:=FT.mp e;have e1:=h1.at_ w a b c;have e2:=h2.at_ w a b c;rw[a];show (fenceModules? p s).bind _=_;rw[b];show (oh stepOk (stepT (denote treeTable) p w) p N s₀).map _=_;rw[c];obtain ⟨f1,f2⟩:=Prod.mk.inj e1;obtain ⟨f2,f3⟩:=Prod.mk.inj f2;have f4:f s₀ s₁=v w:=Prod.ext f1 (Prod.ext f2 (Prod.ext f3 e2));exact congrArg some f4
end Ht
set_option Elab.async false
set_option linter.all false
set_option maxRecDepth 100000
namespace Lk69
open PySem PySem.W PyProof.Rows
noncomputable def qv:Program:={PySem.Challenge.pw_stovework_k69_best_of_all_sets with main:={PySem.Challenge.pw_stovework_k69_best_of_all_sets.main with body:=([1,2,3,5,6,7,9,10,11,12,13,14,15,16,17,18,19,20,21,22,23,24,26,27,28,29,31,32,33,34,35,37,38,39,40,42,43,44,45,46,47,48,49,50,51,52,53,54,55,56,57,58,59,60,61,62,63,64,65,66,67,68,69,70,71]:List Nat).filterMap fun i=>PySem.Challenge.pw_stovework_k69_best_of_all_sets.main.body[i]?}}
noncomputable def lo:IM:= []
theorem head {α:Type} {Yf:Shared->α} {Ya:World->α} {YP:World->Heap->Prop} {d:DefRec} {kwd:List (Str×Expr)} (left:LeftO PySem.Challenge.pw_stovework_k69_best_of_all_sets qv lo (fun s=>xlAt qv [] s&&recOk [] s) Yf Ya 6100)
  (hY:∀w s,Yf s=Ya w->YP w s.heap) (hYk:∀w h h',YP w h->(∀b o,h.get? b=some o->h'.get? b=some o)->YP w h') (hd:defOf qv PySem.Challenge.rw_stovework_k69_best_of_all_sets.row.name=some (d,kwd))
  (hp:PySem.Challenge.rw_stovework_k69_best_of_all_sets.row.prog.theDef PySem.Challenge.rw_stovework_k69_best_of_all_sets.row.name=some (d.params,d.body,d.scope)) (hk:kwWritten? d.params.kwonlyargs d.params.kw_defaults=some kwd)
  (said:PySem.Challenge.rw_stovework_k69_best_of_all_sets.row.wellSaid=true) (hw:PySem.Challenge.rw_stovework_k69_best_of_all_sets.row.toRowW.promised) (call:WalkO qv lo (XL qv []) YP PySem.Challenge.rw_stovework_k69_best_of_all_sets.row.toRowW d kwd fun f vs=>PySem.call f vs):PySem.Challenge.rw_stovework_k69_best_of_all_sets.row.Holds:=
 holds_open left hY hYk (fun s e=>xl_of s (Bool.and_eq_true_iff.mp e).1) XL.keeps hd hp hk (fun s e=>recFacts_of (Bool.and_eq_true_iff.mp e).2) rfl said (by decide+kernel) ⟨rfl,rfl,rfl,rfl,rfl,by decide+kernel⟩ hw call
set_option maxHeartbeats 0 in
theorem la:Ht.Look PySem.Challenge.pw_stovework_k69_best_of_all_sets 6100 (fun s₀ s₁=>Ht.zD PySem.Challenge.pw_stovework_k69_best_of_all_sets s₀ s₁) (fun _=>true):=by
 (intro w;rw[HH,HF,HK,HI,HG,HE];kernel_rfl)
set_option maxHeartbeats 0 in
theorem Fr:Ht.Look PySem.Challenge.pw_stovework_k69_best_of_all_sets 6100 (fun _ s=>((openSeen qv lo (importedModules PySem.Challenge.pw_stovework_k69_best_of_all_sets.main.body) (fun s=>xlAt qv [] s&&recOk [] s) true s).1,(openSeen qv lo (importedModules PySem.Challenge.pw_stovework_k69_best_of_all_sets.main.body) (fun s=>xlAt qv [] s&&recOk [] s) true s).2.1,(openSeen qv lo (importedModules PySem.Challenge.pw_stovework_k69_best_of_all_sets.main.body) (fun s=>xlAt qv [] s&&recOk [] s) true s).2.2.1)) (fun _=>((openGood qv lo).1,(openGood qv lo).2.1,(openGood qv lo).2.2.1)):=by
 dsimp only[openSeen,openGood]
 (intro w;rw[HH,HF,HK,HI,HG,HE];kernel_rfl)
set_option maxHeartbeats 0 in
theorem D9:Ht.Look PySem.Challenge.pw_stovework_k69_best_of_all_sets 6100 (fun _ s=>(openSeen qv lo (importedModules PySem.Challenge.pw_stovework_k69_best_of_all_sets.main.body) (fun s=>xlAt qv [] s&&recOk [] s) true s).2.2.2) (fun _=>(openGood qv lo).2.2.2):=by
 dsimp only[openSeen,openGood]
 (intro w;rw[HH,HF,HK,HI,HG,HE];kernel_rfl)
theorem lb:Ht.Look PySem.Challenge.pw_stovework_k69_best_of_all_sets 6100 (fun _ s=>(openSeen qv lo (importedModules PySem.Challenge.pw_stovework_k69_best_of_all_sets.main.body) (fun s=>xlAt qv [] s&&recOk [] s) true s)) (fun _=>(openGood qv lo)):=Ht.AS Fr D9
end Lk69
local macro_rules| `(tactic|o_head $H)=> `(tactic|(refine Lk69.head (Yf:=PySem.W.Hook.obs $H) (Ya:=PySem.W.Hook.val $H) (YP:=PySem.W.Hook.says $H) ?hl (PySem.W.Hook.of $H) (PySem.W.Hook.keeps $H) (by rfl) (by rfl) (by rfl) (by assumption) ?hw ?hc;(case hl=>(refine Ht.xA Lk69.la Lk69.lb ?c;(case c=>(refine Ht.vG ?c2;(case c2=>(intro w;rw[HH,HF,HK,HI,HG,HE];kernel_rfl))))))))
namespace PySem.W.Fast
noncomputable def tw12573276439495297843:PySem.Program:=PySem.Challenge.pw_stovework_k69_best_of_all_sets
theorem te12573276439495297843:PySem.Challenge.pw_stovework_k69_best_of_all_sets=tw12573276439495297843:=rfl
end PySem.W.Fast
set_option maxHeartbeats 0 in
open_top Lk69.hd for PySem.Challenge.rw_stovework_k69_best_of_all_sets
namespace L2
open PySem PySem.Spec PyProof.Rows
abbrev Key:=Sum Int Str
noncomputable def mW:Key->Value->Bool
 | .inl k,v=>Value.isInt k v
 | .inr x,v=>Value.isStrOf x v
noncomputable def kN (w:World):Key->Int
 | .inl k=>hashInt k
 | .inr x=>hashStr w x
theorem cw:∀{k:Key} {v:Value},mW k v=true->(∃i t,k=Sum.inl i/\v=Value.int i t)∨(∃x t,k=Sum.inr x/\v=Value.str x t)
 | .inl i,v,h=>by
  obtain ⟨t,e⟩:=Value.isInt_shape (k:=i) (v:=v) h;exact .inl ⟨i,t,rfl,e⟩
 | .inr x,v,h=>by
  obtain ⟨t,e⟩:=Value.isStrOf_shape (x:=x) (v:=v) h;exact .inr ⟨x,t,rfl,e⟩
theorem vH (i:Int) (t:Tok):mW (.inl i) (.int i t)=true:=by simp[mW,Value.isInt]
theorem vI (x:Str) (t:Tok):mW (.inr x) (.str x t)=true:=by simp[mW,Value.isStrOf]
theorem AT (a b:Int):decide ((Sum.inl a:Key)=Sum.inl b)=(a==b):=by
 by_cases e:a=b
 ·subst e;simp
 ·have h:¬(Sum.inl a:Key)=Sum.inl b:=fun q=>e (Sum.inl.inj q)
  rw[decide_eq_false h];exact (beq_eq_false_iff_ne.mpr e).symm
theorem AU (a b:Str):decide ((Sum.inr a:Key)=Sum.inr b)=decide (a=b):=by
 by_cases e:a=b
 ·subst e;simp
 ·have h:¬(Sum.inr a:Key)=Sum.inr b:=fun q=>e (Sum.inr.inj q)
  rw[decide_eq_false h,decide_eq_false e]
theorem AV (a:Int) (b:Str):decide ((Sum.inl a:Key)=Sum.inr b)=false:=decide_eq_false (fun q=>nomatch q)
theorem AW (a:Str) (b:Int):decide ((Sum.inr a:Key)=Sum.inl b)=false:=decide_eq_false (fun q=>nomatch q)
noncomputable def aO (prog:Program) (w:World):PySem.KeyKind prog w Key where
 is:=mW
 hash:=kN w
 inj:=fun v a b ha hb=>by
  rcases cw ha with ⟨i,t,rfl,rfl⟩|⟨x,t,rfl,rfl⟩
  ·rcases cw hb with ⟨j,u,rfl,e⟩|⟨y,u,rfl,e⟩
   ·injection e with e1 _;rw[e1]
   ·exact nomatch e
  ·rcases cw hb with ⟨j,u,rfl,e⟩|⟨y,u,rfl,e⟩
   ·exact nomatch e
   ·injection e with e1 _;rw[e1]
 byValue:=fun k v h=>by
  rcases cw h with ⟨i,t,rfl,rfl⟩|⟨x,t,rfl,rfl⟩<;>rfl
 pyHash:=fun hv h=>by
  rcases cw hv with ⟨i,t,rfl,rfl⟩|⟨x,t,rfl,rfl⟩
  ·exact wpAny_pyHash_int h
  ·exact wpAny_pyHash_str h
 eqBool:=fun hu hv h=>by
  rcases cw hu with ⟨i,t,rfl,rfl⟩|⟨x,t,rfl,rfl⟩
  ·rcases cw hv with ⟨j,u,rfl,rfl⟩|⟨y,u,rfl,rfl⟩
   ·rw[AT] at h;exact wpAny_eqBool_int h
   ·rw[AV] at h;exact SeqAt.EqAt.int_str i t y u _ _ _ _ h
  ·rcases cw hv with ⟨j,u,rfl,rfl⟩|⟨y,u,rfl,rfl⟩
   ·rw[AW] at h;exact SeqAt.EqAt.str_int x t j u _ _ _ _ h
   ·rw[AU] at h;exact wpAny_eqBool_str h
 «strs» :=fun k x t v h=>by
  rcases cw h with ⟨i,u,rfl,e⟩|⟨y,u,rfl,e⟩
  ·exact nomatch e
  ·injection e with e1 _
   subst e1;cases v<;>rfl
theorem pQ (prog:Program) (w:World) (i:Int) (t:Tok):(aO prog w).is (.inl i) (.int i t)=true:=vH i t
theorem pR (prog:Program) (w:World) (x:Str) (t:Tok):(aO prog w).is (.inr x) (.str x t)=true:=vI x t
inductive V where
 |non|bl (b:Bool)|int (i:Int)|str (x:Str)|byt (b:Array UInt8)|flt (b:UInt64)|ref (a:Addr)|ty (n:String)
 deriving DecidableEq
def RelV:V->Value->Prop
 | .non,u=>u=Value.none
 | .bl b,u=>u=Value.bool b
 | .int i,u=>∃t,u=Value.int i t
 | .str x,u=>∃t,u=Value.str x t
 | .byt b,u=>∃t,u=Value.bytes b t
 | .flt b,u=>∃t,u=Value.float b t
 | .ref a,u=>u=Value.ref a
 | .ty n,u=>u=Value.type n
abbrev bG:List V->IP->Prop:=Paired RelV
theorem bG.length {xs:List V} {us:IP} (r:bG xs us):xs.length=us.length:=Paired.length r
theorem bG.get:∀{xs:List V} {us:IP} {i:Nat} {x:V},bG xs us->xs[i]?=some x->∃u,us[i]?=some u/\RelV x u
 |_,_,_,_,.nil,e=>by simp at e
 |_,_,0,_,.cons r _,e=>by simp at e;subst e;exact ⟨_,rfl,r⟩
 |_,_,i+1,x,.cons _ t,e=>by
  obtain ⟨u,h1,h2⟩:=bG.get (i:=i) (x:=x) t (by simpa using e)
  exact ⟨u,by simpa using h1,h2⟩
theorem bG.set {x:V} {u:Value} (r:RelV x u):∀{xs:List V} {us:IP} (i:Nat),bG xs us->bG (xs.set i x) (us.set i u)
 |_,_,_,.nil=> .nil
 |_,_,0,.cons _ t=> .cons r t
 |_,_,i+1,.cons q t=> .cons q (bG.set r i t)
theorem bG.append:∀{xs ys:List V} {us ws:IP},bG xs us->bG ys ws->bG (xs++ys) (us++ws)
 |_,_,_,_,.nil,s=>s
 |_,_,_,_,.cons r t,s=> .cons r (bG.append t s)
theorem bG.take:∀{xs:List V} {us:IP} (n:Nat),bG xs us->bG (xs.take n) (us.take n)
 |_,_,0,_=> .nil
 |_,_,_+1,.nil=> .nil
 |_,_,n+1,.cons r t=> .cons r (bG.take n t)
theorem bG.drop:∀{xs:List V} {us:IP} (n:Nat),bG xs us->bG (xs.drop n) (us.drop n)
 |_,_,0,r=>r
 |_,_,_+1,.nil=> .nil
 |_,_,n+1,.cons _ t=>bG.drop n t
def jv:Option V->IR->Prop
 |some v,some u=>RelV v u
 |none,none=>True
 |_,_=>False
def KV {κ:Type}:List (κ×V)->List (κ×Value)->Prop:=Paired fun (p:κ×V) (q:κ×Value)=>p.1=q.1/\RelV p.2 q.2
noncomputable def kV:Key->V
 | .inl i=> .int i
 | .inr x=> .str x
inductive HO where
  |lst (xs:List V)
  |tup (xs:List V)
  |dK (kvs:List (Key×V))|dT (kvs:List (List Key×V))
  |set (S:Int->Bool) (n:Nat)
  |ins (C dx:Addr) (fs:List (Str×V))
  |own (x:Addr)
  |xd (fs:List (Str×V))
  |met (f x:Addr)
  |rng (lo hi:Int)
  |frz (o:Obj) (u:HO)
  |tbl (ps:Array Value)
  |ext (φ:Heap->Prop)
abbrev Hp:=Addr->Option HO
noncomputable def aI (H:Hp) (a:Addr) (o:HO):Hp:=fun b=>if b=a then some o else H b
theorem ao {H:Hp} {a:Addr} {o:HO}:aI H a o a=some o:=by unfold aI;rw[if_pos rfl]
theorem aJ {H:Hp} {a b:Addr} {o:HO} (h:b≠a):aI H a o b=H b:=by unfold aI;rw[if_neg h]
theorem iX {H:Hp} {a b:Addr} {o u:HO} (h:H a=some o) (h':H b=some u) (d:o≠u):a≠b:=by
 intro e;subst e;rw[h] at h';exact d (GZ h')
theorem dw {H:Hp} {a b:Addr} {o:HO} (h:H a=some o) (h':H b=none):a≠b:=by
 intro e;subst e;rw[h] at h';cases h'
section
variable (P:Program) (w:World)
def cg (H:Hp) (h:Heap) (a:Addr):HO->Prop
 | .lst xs=>xs.length<=sizeLine/\∃(its:IP) (n:Nat),bG xs its/\h.get? a=some {cls:= .type "list",data:= .seq its.toArray n}
 | .tup xs=>xs.length<=sizeLine/\∃its:IP,bG xs its/\IsTup h a its.toArray
 | .dK kvs=>kvs.length<=sizeLine/\(a==sysModules)=false/\∃vs,KV kvs vs/\h.DictOf (aO P w) a vs
 | .dT kvs=>kvs.length<=sizeLine/\(a==sysModules)=false/\∃xs:List (List Key×Addr×Value),
   Paired (fun (p:List Key×V) (q:List Key×Addr×Value)=>p.1=q.1/\H q.2.1=some (.tup (p.1.map kV))/\RelV p.2 q.2.2) kvs xs/\
   ∃o es ep,h.get? a=some o/\o.ExactDict/\o.data= .dict es ep/\es.toList=xs.map (entryOfKey (tupleKind (aO P w)))/\(xs.map (·.1)).Nodup
 | .set S n=>h.SetOf (intKind P w) a S n
 | .ins C dx fs=>H dx=some (.own a)/\fs.length<=1000/\dx≠a/\h.get? a=some (HR C dx)/\
   ∃mA,h.Ns1 dx mA/\(∀f,jv (fs.lookup f) (mA f))/\PySem.Within mA (fs.map (·.1))
 | .own _=>∃o,h.get? a=some o
 | .xd fs=>∃mA,h.Ns1 a mA/\∀f,jv (fs.lookup f) (mA f)
 | .rng lo hi=>∃t u v,h.get? a=some {cls:= .type "range",data:= .fields #[.int lo t,.int hi u,.int 1 v]}
 | .frz o u=>h.get? a=some o/\cg H h a u
 | .tbl ps=>h.get? a=some {cls:= .none,data:= .fields ps}
 | .met f x=>h.get? a=some (PySem.W.methodObj (.ref f) (.ref x))
 | .ext φ=>φ h/\(∃o,h.get? a=some o)/\∀h1 h2:Heap,φ h1->(∀o,h1.get? a=some o->h2.get? a=some o)->φ h2
def iA (H:Hp) (h:Heap):Prop:=∀a o,H a=some o->cg P w H h a o
end
section
variable {P:Program} {w:World} {H H':Hp} {h h':Heap} {a:Addr} {o:HO}
theorem cg.lt (x:cg P w H h a o):a<h.objs.size:=by
 cases o with
 |lst xs=>obtain ⟨_,_,_,_,e⟩:=x;exact Heap.lt_size e
 |tup xs=>obtain ⟨_,_,_,p⟩:=x;exact p.lt
 |dK kvs=>obtain ⟨_,_,_,_,o,_,_,e,_⟩:=x;exact Heap.lt_size e
 |dT kvs=>obtain ⟨_,_,_,_,o,_,_,e,_⟩:=x;exact Heap.lt_size e
 |set S n=>obtain ⟨o,_,_,_,e,_⟩:=x;exact Heap.lt_size e
 |ins C dx fs=>obtain ⟨_,_,_,e,_⟩:=x;exact Heap.lt_size e
 |own y=>obtain ⟨_,e⟩:=x;exact Heap.lt_size e
 |xd fs=>obtain ⟨_,⟨_,_,_,e,_⟩,_⟩:=x;exact Heap.lt_size e
 |rng lo hi=>obtain ⟨_,_,_,e⟩:=x;exact Heap.lt_size e
 |frz ob u=>obtain ⟨e,_⟩:=x;exact Heap.lt_size e
 |tbl ps=>exact Heap.lt_size (show h.get? a=some _ from x)
 |met f y=>exact Heap.lt_size (show h.get? a=some _ from x)
 |ext φ=>obtain ⟨_,⟨_,e⟩,_⟩:=x;exact Heap.lt_size e
theorem Paired.mapP {α β:Type} {F G:α->β->Prop}:∀{l₁:List α} {l₂:List β},Paired F l₁ l₂->(∀a b,F a b->G a b)->Paired G l₁ l₂
 |_,_,.nil,_=> .nil
 |_,_,.cons r t,f=> .cons (f _ _ r) (Paired.mapP t f)
theorem cg.stay (x:cg P w H h a o) (k:∀b u,(b=a∨H b=some (.own a))->h.get? b=some u->h'.get? b=some u)
  (ho:∀b,H b=some (.own a)->H' b=some (.own a)) (ht:∀b xs,H b=some (.tup xs)->H' b=some (.tup xs)):cg P w H' h' a o:=by
 induction o with
 |lst xs=>obtain ⟨z,its,n,r,e⟩:=x;exact ⟨z,its,n,r,k _ _ (.inl rfl) e⟩
 |tup xs=>obtain ⟨z,its,r,ob,e,c⟩:=x;exact ⟨z,its,r,ob,k _ _ (.inl rfl) e,c⟩
 |dK kvs=>obtain ⟨z,y,vs,r,ob,es,ep,e,c⟩:=x;exact ⟨z,y,vs,r,ob,es,ep,k _ _ (.inl rfl) e,c⟩
 |dT kvs=>
  obtain ⟨z,y,xs,r,ob,es,ep,e,c⟩:=x;exact ⟨z,y,xs,Paired.mapP r fun p q z=>⟨z.1,ht _ _ z.2.1,z.2.2⟩,ob,es,ep,k _ _ (.inl rfl) e,c⟩
 |set S n=>obtain ⟨ob,es,ep,t,e,c⟩:=x;exact ⟨ob,es,ep,t,k _ _ (.inl rfl) e,c⟩
 |ins C dx fs=>
  obtain ⟨d,z,ne,e,mA,⟨od,es,ep,e2,c⟩,r⟩:=x;exact ⟨ho _ d,z,ne,k _ _ (.inl rfl) e,mA,⟨od,es,ep,k _ _ (.inr d) e2,c⟩,r⟩
 |own y=>obtain ⟨ob,e⟩:=x;exact ⟨ob,k _ _ (.inl rfl) e⟩
 |xd fs=>obtain ⟨mA,⟨od,es,ep,e,c⟩,r⟩:=x;exact ⟨mA,⟨od,es,ep,k _ _ (.inl rfl) e,c⟩,r⟩
 |rng lo hi=>obtain ⟨t,u,v,e⟩:=x;exact ⟨t,u,v,k _ _ (.inl rfl) e⟩
 |frz ob u ih=>obtain ⟨e,q⟩:=x;exact ⟨k _ _ (.inl rfl) e,ih q⟩
 |tbl ps=>
  have e:h.get? a=some {cls:= .none,data:= .fields ps}:=x;show h'.get? a=some {cls:= .none,data:= .fields ps};exact k a _ (.inl rfl) e
 |met f y=>
  have e:h.get? a=some (PySem.W.methodObj (.ref f) (.ref y)):=x;show h'.get? a=some (PySem.W.methodObj (.ref f) (.ref y));exact k a _ (.inl rfl) e
 |ext φ=>obtain ⟨p,⟨o,e⟩,st⟩:=x;exact ⟨st _ _ p fun o q=>k _ _ (.inl rfl) q,⟨o,k _ _ (.inl rfl) e⟩,st⟩
theorem iA.lt (x:iA P w H h) (e:H a=some o):a<h.objs.size:=(x a o e).lt
theorem iA.fresh (x:iA P w H h) (e:h.objs.size<=a):H a=none:=by
 cases q:H a with
 |none=>rfl
 |some u=>exact absurd (GK (x.lt q) e) (HW _)
theorem iA.kept (x:iA P w H h) (k:∀b u,h.get? b=some u->h'.get? b=some u):iA P w H h':=fun a o e=>
 (x a o e).stay (fun b u _ q=>k b u q) (fun _ q=>q) fun _ _ q=>q
theorem iA.laid (x:iA P w H h) (k:∀b u,h.get? b=some u->h'.get? b=some u) (hp:h.objs.size<=a) (new:cg P w (aI H a o) h' a o):iA P w (aI H a o) h':=fun b u e=>by
 have hn:=x.fresh hp
 by_cases hb:b=a
 ·subst hb;rw[ao] at e;cases e;exact new
 ·rw[aJ hb] at e;exact (x b u e).stay (fun c v _ q=>k c v q) (fun c q=>by rw[aJ (dw q hn)];exact q) fun c xs q=>by rw[aJ (dw q hn)];exact q
end
def Rd (H:Hp) (a:Addr) (u:HO):Prop:=H a=some u∨∃o,H a=some (.frz o u)
theorem Rd.ok {P:Program} {w:World} {H:Hp} {h:Heap} {a:Addr} {u:HO} (r:Rd H a u) (x:iA P w H h):cg P w H h a u:=by
 rcases r with r|⟨o,r⟩
 ·exact x a u r
 ·obtain ⟨_,q⟩:=x a _ r;exact q
def Ct:Option HO->Prop
 |some (.lst _)=>True
 |some (.dK _)=>True
 |some (.dT _)=>True
 |some (.set _ _)=>True
 |some (.ins _ _ _)=>True
 |some (.ext _)=>True
 |_=>False
section
variable {P:Program} {w:World} {H:Hp} {h h':Heap} {x e:Addr} {o':HO}
theorem iA.write (ok:iA P w H h) (mu:Ct (H x)) (he:e=x∨H e=some (.own x)) (k:∀b u,b≠e->h.get? b=some u->h'.get? b=some u) (heo:∃u,h'.get? e=some u)
  (new:cg P w (aI H x o') h' x o'):iA P w (aI H x o') h':=fun b u q=>by
 have nown:∀c y,H c=some (.own y)->c≠x:=fun c y r z=>by subst z;rw[r] at mu;exact mu
 have ntup:∀c xs,H c=some (.tup xs)->c≠x:=fun c xs r z=>by subst z;rw[r] at mu;exact mu
 by_cases hb:b=x
 ·subst hb;rw[ao] at q;cases q;exact new
 ·rw[aJ hb] at q
  by_cases hbe:b=e
  ·have q':H b=some (.own x):=by
    rcases he with z|z
    ·exact absurd (hbe.trans z) hb
    ·rw[hbe];exact z
   rw[q] at q';cases q';obtain ⟨v,hv⟩:=heo;exact ⟨v,by rw[hbe];exact hv⟩
  ·refine (ok b u q).stay (fun c v hc r=>k c v ?_ r) (fun c r=>by rw[aJ (nown c b r)];exact r) fun c xs r=>by rw[aJ (ntup c xs r)];exact r
   rcases hc with rfl|hc
   ·exact hbe
   ·rintro rfl;rcases he with z|z
    ·exact nown c b hc z
    ·rw[hc] at z;cases z;exact hb rfl
end
structure Un (fs ex:IN) (H H':Hp) (h h':Heap):Prop where
 keep:∀b o,h.get? b=some o->H b=none->b∉fs->b∉ex->h'.get? b=some o
 slot:∀b o,h.get? b=some o->H b=none->b∈fs->b∉ex->∃sl,h'.get? b=some {o with slots:=sl}
 free:∀b o,h.get? b=some o->H b=none->b∉ex->H' b=none
 there:∀b o,h.get? b=some o->b∉ex->∃o',h'.get? b=some o'
 tups:∀b xs,H b=some (.tup xs)->H' b=some (.tup xs)
 frzs:∀b o u,H b=some (.frz o u)->H' b=some (.frz o u)
 tbls:∀b ps,H b=some (.tbl ps)->∃more,H' b=some (.tbl (ps++more))
section
variable {fs fs' ex ex':IN} {H H1 H2:Hp} {h h1 h2 h':Heap} {a x e:Addr} {o:HO}
theorem Un.any (u:Un fs ex H H1 h h1) {b:Addr} {ob:Obj} (q:h.get? b=some ob) (n:H b=none) (hx:b∉ex):∃sl,h1.get? b=some {ob with slots:=sl}:=by
 by_cases hb:b∈fs
 ·exact u.slot b ob q n hb hx
 ·exact ⟨ob.slots,u.keep b ob q n hb hx⟩
theorem Un.kept (k:∀b u,h.get? b=some u->h'.get? b=some u):Un fs ex H H h h':=
 ⟨fun b ob q _ _ _=>k b ob q,fun b ob q _ _ _=>⟨ob.slots,k b ob q⟩,fun _ _ _ n _=>n,fun b ob q _=>⟨ob,k b ob q⟩,fun _ _ q=>q,fun _ _ _ q=>q,fun _ ps q=>⟨#[],by rw[q];simp⟩⟩
theorem Un.refl:Un fs ex H H h h:=Un.kept fun _ _ q=>q
theorem Un.laid (k:∀b u,h.get? b=some u->h'.get? b=some u) (hp:h.objs.size<=a) (hn:H a=none):Un fs ex H (aI H a o) h h' where
 keep:=fun b u q _ _ _=>k b u q
 slot:=fun b u q _ _ _=>⟨u.slots,k b u q⟩
 free:=fun b u q n _=>by rw[aJ (FV (GK (Heap.lt_size q) hp))];exact n
 there:=fun b u q _=>⟨u,k b u q⟩
 tups:=fun b xs q=>by rw[aJ (dw q hn)];exact q
 frzs:=fun b u xs q=>by rw[aJ (dw q hn)];exact q
 tbls:=fun b ps q=>⟨#[],by rw[aJ (dw q hn),q];simp⟩
theorem Un.write (mu:Ct (H x)) (he:e=x∨H e=some (.own x)) (k:∀b u,b≠e->h.get? b=some u->h'.get? b=some u) (heo:∃u,h'.get? e=some u):Un fs ex H (aI H x o) h h':=by
 have hx:∀b,H b=none->b≠x:=fun b n z=>by subst z;rw[n] at mu;exact mu
 have hb:∀b,H b=none->b≠e:=fun b n z=>by
  subst z;rcases he with r|r
  ·exact hx b n r
  ·rw[n] at r;cases r
 have hm:∀b u,H b=some u->¬Ct (some u)->b≠x:=fun b u q nm z=>by subst z;rw[q] at mu;exact nm mu
 refine ⟨fun b u q n _ _=>k b u (hb b n) q,fun b u q n _ _=>⟨u.slots,k b u (hb b n) q⟩,fun b u q n _=>by rw[aJ (hx b n)];exact n,fun b u q _=>?_,
  fun b xs q=>by rw[aJ (hm b _ q fun z=>z)];exact q,fun b u xs q=>by rw[aJ (hm b _ q fun z=>z)];exact q,fun b ps q=>⟨#[],by rw[aJ (hm b _ q fun z=>z),q];simp⟩⟩
 by_cases hbe:b=e
 ·subst hbe;exact heo
 ·exact ⟨u,k b u hbe q⟩
end
noncomputable def Ea (h:Heap) (H:Hp):IN:=(G0 h.objs.size).filter fun a=>(H a).isSome
noncomputable def oj (h:Heap) (H:Hp):Heap:=PySem.W.hideAll h (Ea h H)
theorem vJ (h:Heap) (H:Hp):(oj h H).objs.size=h.objs.size:=PySem.W.hideAll_size _ _
theorem xB {h:Heap} {H:Hp} {b:Addr} {o:Obj} (e:h.get? b=some o) (n:H b=none):(oj h H).get? b=some o:=
 PySem.W.hideAll_get _ e fun hm=>by
  have q:(H b).isSome=true:=(Gx.mp hm).2;rw[n] at q;simp at q
theorem zE {h:Heap} {H:Hp} {b:Addr} {o:Obj} (e:(oj h H).get? b=some o):h.get? b=some o/\H b=none:=by
 have e':h.get? b=some o:=PySem.W.of_hideAll (Ea h H) e;refine ⟨e',?_⟩;cases q:H b with
 |none=>rfl
 |some x=>
  have hm:b∈Ea h H:=Gx.mpr ⟨GE.mpr (Heap.lt_size e'),by simp[q]⟩
  have z:(oj h H).get? b=none:=PySem.W.hideAll_none (Ea h H) hm;rw[z] at e;cases e
structure Mod (K:F6) (mg:IJ) (base:Heap):Prop where
 kin:K.In base
 glob:base.Ns mainGlobals mg
 blt:∃mb,base.Ns builtinsNs mb/\∀x:Str,x≠ "__name__" ->mb x=bootBuiltins x
 nolimit:base.NoLimit
structure Cx where
 prog:Program
 w:World
 K:F6
 mg:Str->IR
 base:Heap
 A:Around
 N:IM
 s₀:Shared
 H₀:Hp
 env:Env
 outer:List Env
 stack:List Env
 ex:IN
 fn:Str->Bool
 calm:Bool
 pn:IK
 xe:Value->Shared->Prop
noncomputable def vK (l:List Env):IN:=l.filterMap (·.frame)
abbrev Cx.fs (X:Cx):IN:=vK X.outer
def Eb (sc:Scope) (x:Str):Prop:=sc.names.lookup x=some .local∨sc.names.lookup x=some .cell∨sc.names.lookup x=some .free
def Loc (sc:Scope) (x:Str):Prop:=sc.names.lookup x=some .local∨sc.names.lookup x=some .cell
def Look (env:Env) (h:Heap) (m:IJ) (x:Str) (u:Value):Prop:=
 (env.kindOf x=some .local/\m x=some u)∨((env.kindOf x=some .cell∨env.kindOf x=some .free)/\∃c,env.cells.lookup x=some c/\h.IsCell c (some u))
structure Cx.Ok (X:Cx):Prop where
 mod:Mod X.K X.mg X.base
 kind:X.env.scope.kind= .function
 glob:X.env.globals=mainGlobals
 blt:X.env.builtins=builtinsNs
 above:X.s₀.heap.objs.size<=X.env.locals
 inj:∀x y c,X.env.cells.lookup x=some c->X.env.cells.lookup y=some c->x=y
 has:∀x,(X.env.kindOf x=some .cell∨X.env.kindOf x=some .free)->∃c,X.env.cells.lookup x=some c
 cab:∀x c,X.fn x=true->X.env.cells.lookup x=some c->X.s₀.heap.objs.size<=c
 hd:X.calm=true->X.A.handled=none
 frames:X.A.frames=some X.stack
 stk:X.stack=X.outer∨(X.stack=X.env::X.outer/\X.env.frame=some X.env.locals)
 exf:∀b∈X.ex,b≠X.env.locals/\∀x c,X.env.cells.lookup x=some c->c≠b
 bs:∀b o,X.base.get? b=some o->X.s₀.heap.get? b=some o/\X.H₀ b=none
 bsz:X.base.objs.size<=X.s₀.heap.objs.size
 noex:∀b o,X.base.get? b=some o->b∉X.ex
 exfs:∀b∈X.ex,b∉X.fs
 funs:X.s₀.heap.FunFrames X.base X.outer
 frf:∀b∈X.fs,X.H₀ b=none
structure aR (X:Cx) (pins:IK) (σ:List (Option V)) (H:Hp) (s:Shared):Prop where
 ok:X.Ok
 os:s.os=X.s₀.os
 bare:AllBare s.gens
 base:Un X.fs X.ex X.H₀ H X.s₀.heap s.heap
 loc:∃m,s.heap.Ns X.env.locals m/\∀(i:Nat) (x:Str) (v:V),X.N[i]?=some x->σ[i]?=some (some v)->Eb X.env.scope x->∃u,RelV v u/\Look X.env s.heap m x u
 cell:∀x c,X.env.cells.lookup x=some c->∃v,s.heap.IsCell c v
 free:H X.env.locals=none
 freeC:∀x c,X.env.cells.lookup x=some c->H c=none
 pin:∀p∈X.pn++pins,s.heap.get? p.1=some p.2/\H p.1=none/\p.1≠X.env.locals/\p.1∉X.fs/\∀v,p.2.data≠ .cell v
 hok:iA X.prog X.w H s.heap
 len:σ.length=X.N.length
variable {X:Cx} {pins:IK} {σ:List (Option V)} {H H':Hp} {s:Shared} {h':Heap}
theorem Cx.Ok.nofr (ok:X.Ok) {b:Addr} {o:Obj} (e:X.base.get? b=some o):b∉X.fs:=fun hb=>by
 have:=(ok.funs.mem hb).1;rw[e] at this;cases this
theorem aR.bs (I:aR X pins σ H s):∀b o,X.base.get? b=some o->s.heap.get? b=some o/\H b=none:=fun b o e=>
 ⟨I.base.keep b o (I.ok.bs b o e).1 (I.ok.bs b o e).2 (I.ok.nofr e) (I.ok.noex b o e),I.base.free b o (I.ok.bs b o e).1 (I.ok.bs b o e).2 (I.ok.noex b o e)⟩
theorem aR.bk (I:aR X pins σ H s):∀b o,X.base.get? b=some o->s.heap.get? b=some o:=fun b o e=>(I.bs b o e).1
theorem aR.mod (I:aR X pins σ H s):Mod X.K X.mg X.base:=I.ok.mod
theorem aR.kIn (I:aR X pins σ H s):X.K.In s.heap:=I.ok.mod.kin.keeps I.bk
theorem aR.lt (I:aR X pins σ H s):X.env.locals<s.heap.objs.size:=let ⟨_,hn,_⟩:=I.loc;hn.lt
theorem aR.sz (I:aR X pins σ H s):X.s₀.heap.objs.size<=s.heap.objs.size:=Gf I.ok.above (Nat.le_of_lt I.lt)
theorem aR.nofs (I:aR X pins σ H s) {a:Addr} (h:s.heap.objs.size<=a):a∉X.fs:=fun hb=>by
 obtain ⟨_,o,ho,_⟩:=I.ok.funs.mem hb;exact absurd (GK (Heap.lt_size ho) (Gf I.sz h)) (HW _)
theorem aR.cne (I:aR X pins σ H s):∀x c,X.env.cells.lookup x=some c->c≠X.env.locals:=fun x c e z=>by
 obtain ⟨v,o,ho,hd⟩:=I.cell x c e;obtain ⟨m,⟨o',es,ep,ho',hd',_⟩,_⟩:=I.loc;rw[z,ho'] at ho;cases ho;rw[hd'] at hd;cases hd
theorem aR.funs (I:aR X pins σ H s):s.heap.FunFrames X.base X.outer:=by
 have all:∀(l:List Env),(∀b∈vK l,b∈X.fs)->X.s₀.heap.FunFrames X.base l->s.heap.FunFrames X.base l:=by
  intro l
  induction l with
  |nil=>intro _ _;trivial
  |cons env r ih=>
   intro hs hl;obtain ⟨hk,⟨L,o,hf,hn,ho,hd⟩,hr⟩:=hl;have hL:L∈X.fs:=hs L (by unfold vK;rw[List.filterMap_cons,hf];exact GJ)
   obtain ⟨sl,e⟩:=I.base.slot L o ho (I.ok.frf L hL) hL fun z=>I.ok.exfs L z hL
   exact ⟨hk,⟨L,_,hf,hn,e,hd⟩,ih (fun b hb=>hs b (by unfold vK;rw[List.filterMap_cons,hf];exact FX _ hb)) hr⟩
 exact all X.outer (fun _ hb=>hb) I.ok.funs
theorem aR.stack (I:aR X pins σ H s):s.heap.FunFrames X.base X.stack:=by
 rcases I.ok.stk with e|⟨e,hf⟩
 ·rw[e];exact I.funs
 ·rw[e];obtain ⟨m,hn,_⟩:=I.loc;refine .cons (by rw[I.ok.kind];decide) hf hn ?_ I.funs
  exact Heap.get?_none_of_le (Gf I.ok.bsz I.ok.above)
theorem aR.stkSub (I:aR X pins σ H s):∀b∈vK X.stack,b∈X.env.locals::X.fs:=fun b hb=>by
 rcases I.ok.stk with e|⟨e,hf⟩
 ·rw[e] at hb;exact FX _ hb
 ·rw[e] at hb;unfold vK at hb;rw[List.filterMap_cons,hf] at hb;exact hb
theorem aR.stkFree (I:aR X pins σ H s):∀b∈vK X.stack,H b=none:=fun b hb=>by
 rcases FW.mp (I.stkSub b hb) with e|hb
 ·rw[e];exact I.free
 ·obtain ⟨_,o,ho,_⟩:=I.ok.funs.mem hb;exact I.base.free b o ho (I.ok.frf b hb) fun z=>I.ok.exfs b z hb
theorem aR.step {g':Array GenState} {t':Nat} {d':Drawn} {ch:IN} (I:aR X pins σ H s)
  (hch:∀b∈ch,(b∈X.ex∨X.s₀.heap.objs.size<=b)/\b≠X.env.locals/\(∀x c,X.env.cells.lookup x=some c->c≠b)/\∀p∈X.pn++pins,p.1≠b)
  (keep:∀b o,b≠X.env.locals->b∉X.fs->b∉ch->s.heap.get? b=some o->H b=none->h'.get? b=some o)
  (slot:∀b o,b≠X.env.locals->b∈X.fs->b∉ch->s.heap.get? b=some o->H b=none->∃sl,h'.get? b=some {o with slots:=sl}) (free:∀b o,b∉ch->s.heap.get? b=some o->H b=none->H' b=none)
  (there:∀b o,b∉ch->s.heap.get? b=some o->∃o',h'.get? b=some o')
  (tups:∀b xs,H b=some (.tup xs)->H' b=some (.tup xs)) (frzs:∀b o u,H b=some (.frz o u)->H' b=some (.frz o u)) (tbls:∀b ps,H b=some (.tbl ps)->∃more,H' b=some (.tbl (ps++more)))
  (ns:∀m,s.heap.Ns X.env.locals m->h'.Ns X.env.locals m) (hok:iA X.prog X.w H' h') (hg:AllBare g'):
  aR X pins σ H' {s with heap:=h',gens:=g',drawn:=d',toks:=t'}:=by
 have neL:∀b o,X.s₀.heap.get? b=some o->b≠X.env.locals:=fun b o e=>FV (GK (Heap.lt_size e) I.ok.above)
 have neC:∀b o,X.s₀.heap.get? b=some o->b∉X.ex->b∉ch:=fun b o e hx hb=>by
  rcases (hch b hb).1 with z|z
  ·exact hx z
  ·exact absurd (GK (Heap.lt_size e) z) (HW _)
 have cellK:∀x c,X.env.cells.lookup x=some c->∀v,s.heap.IsCell c v->h'.IsCell c v:=fun x c e v ⟨o,ho,hd⟩=>by
  have nch:c∉ch:=fun z=>(hch c z).2.2.1 x c e rfl
  by_cases hc:c∈X.fs
  ·obtain ⟨sl,q⟩:=slot c o (I.cne x c e) hc nch ho (I.freeC x c e);exact ⟨_,q,hd⟩
  ·exact ⟨o,keep c o (I.cne x c e) hc nch ho (I.freeC x c e),hd⟩
 refine ⟨I.ok,I.os,hg,⟨fun b o e n hb hx=>?_,fun b o e n hb hx=>?_,fun b o e n hx=>?_,fun b o e hx=>?_,fun b xs e=>tups b xs (I.base.tups b xs e),fun b o xs e=>frzs b o xs (I.base.frzs b o xs e),fun b ps e=>?_⟩,?_,fun x c e=>?_,?_,fun x c e=>?_,fun p hp=>?_,hok,I.len⟩
 ·exact keep b o (neL b o e) hb (neC b o e hx) (I.base.keep b o e n hb hx) (I.base.free b o e n hx)
 ·obtain ⟨sl,e1⟩:=I.base.slot b o e n hb hx;obtain ⟨sl',e2⟩:=slot b _ (neL b o e) hb (neC b o e hx) e1 (I.base.free b o e n hx);exact ⟨sl',e2⟩
 ·obtain ⟨o',e1⟩:=I.base.there b o e hx;exact free b o' (neC b o e hx) e1 (I.base.free b o e n hx)
 ·obtain ⟨o',e1⟩:=I.base.there b o e hx;exact there b o' (neC b o e hx) e1
 ·obtain ⟨m1,e1⟩:=I.base.tbls b ps e;obtain ⟨m2,e2⟩:=tbls b _ e1;exact ⟨m1++m2,by rw[e2,Array.append_assoc]⟩
 ·obtain ⟨m,hn,hl⟩:=I.loc;refine ⟨m,ns m hn,fun i x v e1 e2 e3=>?_⟩
  obtain ⟨u,r,l⟩:=hl i x v e1 e2 e3;refine ⟨u,r,?_⟩;rcases l with l|⟨k,c,e,z⟩
  ·exact .inl l
  ·exact .inr ⟨k,c,e,cellK x c e _ z⟩
 ·obtain ⟨v,z⟩:=I.cell x c e;exact ⟨v,cellK x c e v z⟩
 ·obtain ⟨m,⟨o,_,_,ho,_⟩,_⟩:=I.loc;exact free _ o (fun z=>(hch _ z).2.1 rfl) ho I.free
 ·obtain ⟨v,o,ho,hd⟩:=I.cell x c e;exact free c o (fun z=>(hch c z).2.2.1 x c e rfl) ho (I.freeC x c e)
 ·obtain ⟨e,n,ne,nf,d⟩:=I.pin p hp;have nch:p.1∉ch:=fun z=>(hch p.1 z).2.2.2 p hp rfl
  exact ⟨keep p.1 p.2 ne nf nch e n,free p.1 p.2 nch e n,ne,nf,d⟩
theorem aR.un {t':Nat} (I:aR X pins σ H s) (u:Un X.fs [] H H' s.heap h') (hok:iA X.prog X.w H' h'):aR X pins σ H' {s with heap:=h',toks:=t'}:=by
 obtain ⟨m,⟨o,es,ep,ho,r⟩,_⟩:=id I.loc;obtain ⟨sl,hL⟩:=u.any ho I.free (by simp)
 exact I.step (g':=s.gens) (d':=s.drawn) (ch:= []) (fun _ z=>nomatch z) (fun b o _ hb _ e n=>u.keep b o e n hb (by simp)) (fun b o _ hb _ e n=>u.slot b o e n hb (by simp)) (fun b o _ e n=>u.free b o e n (by simp)) (fun b o _ e=>u.there b o e (by simp)) u.tups u.frzs u.tbls (fun m' hm=>by
  obtain ⟨o',es',ep',ho',r'⟩:=hm;rw[ho] at ho';cases ho';exact ⟨_,es',ep',hL,r'⟩) hok I.bare
theorem aR.call {g':Array GenState} {t':Nat} {d':Drawn} {ch:IN} (I:aR X pins σ H s) (u:Un (vK X.stack) ch H H' s.heap h') (hok:iA X.prog X.w H' h') (hg:AllBare g')
  (hch:∀b∈ch,(b∈X.ex∨X.s₀.heap.objs.size<=b)/\b≠X.env.locals/\(∀x c,X.env.cells.lookup x=some c->c≠b)/\∀p∈X.pn++pins,p.1≠b):
  aR X pins σ H' {s with heap:=h',gens:=g',drawn:=d',toks:=t'}:=by
 obtain ⟨m,⟨o,es,ep,ho,r⟩,_⟩:=id I.loc;obtain ⟨sl,hL⟩:=u.any ho I.free fun z=>(hch _ z).2.1 rfl
 exact I.step (ch:=ch) hch (fun b o hL hb hc e n=>u.keep b o e n (fun z=>(FW.mp (I.stkSub b z)).elim hL hb) hc) (fun b o _ _ hc e n=>u.any e n hc) (fun b o hc e n=>u.free b o e n hc) (fun b o hc e=>u.there b o e hc) u.tups u.frzs u.tbls (fun m' hm=>by
  obtain ⟨o',es',ep',ho',r'⟩:=hm;rw[ho] at ho';cases ho';exact ⟨_,es',ep',hL,r'⟩) hok hg
theorem aR.turned {t':Nat} {it:Addr} (I:aR X pins σ H s) (k:∀b o,b≠it->s.heap.get? b=some o->h'.get? b=some o) (hn:H it=none) (hL:it≠X.env.locals)
  (h1:it∈X.ex∨X.s₀.heap.objs.size<=it) (h2:∀x c,X.env.cells.lookup x=some c->c≠it) (h3:∀p∈X.pn++pins,p.1≠it):aR X pins σ H {s with heap:=h',toks:=t'}:=by
 have nit:∀b u,H b=some u->b≠it:=fun b u e z=>by rw[z,hn] at e;cases e
 refine I.step (g':=s.gens) (d':=s.drawn) (ch:= [it]) (fun b hb=>?_) (fun b o _ _ hc e _=>k b o (fun z=>hc (by simp[z])) e) (fun b o _ _ hc e _=>⟨o.slots,k b o (fun z=>hc (by simp[z])) e⟩) (fun _ _ _ _ n=>n)
  (fun b o hc e=>⟨o,k b o (fun z=>hc (by simp[z])) e⟩) (fun _ _ e=>e) (fun _ _ _ e=>e) (fun b ps e=>⟨#[],by rw[e];simp⟩) (fun m hm=>?_) (fun b u e=>?_) I.bare
 ·have e:b=it:=by simpa using hb
  subst e;exact ⟨h1,hL,h2,h3⟩
 ·obtain ⟨o,es,ep,ho,r⟩:=hm;exact ⟨o,es,ep,k _ o (Ne.symm hL) ho,r⟩
 ·refine (I.hok b u e).stay (fun c v hc q=>k c v ?_ q) (fun _ q=>q) fun _ _ q=>q
  rcases hc with z|z
  ·rw[z];exact nit b u e
  ·exact nit c _ z
theorem aR.tok (I:aR X pins σ H s) (t:Nat):aR X pins σ H {s with toks:=t}:=I.un (h':=s.heap) (t':=t) Un.refl I.hok
theorem aR.kept {t':Nat} (I:aR X pins σ H s) (k:∀b u,s.heap.get? b=some u->h'.get? b=some u):aR X pins σ H {s with heap:=h',toks:=t'}:=I.un (Un.kept k) (I.hok.kept k)
theorem aR.laid {a:Addr} {o:HO} {t':Nat} (I:aR X pins σ H s) (k:∀b u,s.heap.get? b=some u->h'.get? b=some u) (hp:s.heap.objs.size<=a) (new:cg X.prog X.w (aI H a o) h' a o):
  aR X pins σ (aI H a o) {s with heap:=h',toks:=t'}:=I.un (Un.laid k hp (I.hok.fresh hp)) (I.hok.laid k hp new)
theorem aR.write {x e:Addr} {o:HO} {t':Nat} (I:aR X pins σ H s) (mu:Ct (H x)) (he:e=x∨H e=some (.own x)) (k:∀b u,b≠e->s.heap.get? b=some u->h'.get? b=some u) (heo:∃u,h'.get? e=some u)
  (new:cg X.prog X.w (aI H x o) h' x o):aR X pins σ (aI H x o) {s with heap:=h',toks:=t'}:=I.un (Un.write mu he k heo) (I.hok.write mu he k heo new)
theorem aR.pins_of {pins':IK} (I:aR X pins σ H s) (h:∀p∈pins',s.heap.get? p.1=some p.2/\H p.1=none/\p.1≠X.env.locals/\p.1∉X.fs/\∀v,p.2.data≠ .cell v):aR X pins' σ H s:=
 ⟨I.ok,I.os,I.bare,I.base,I.loc,I.cell,I.free,I.freeC,fun p hp=>(FS.mp hp).elim (fun z=>I.pin p (GW _ z)) (h p),I.hok,I.len⟩
theorem pS {N:IM} (hN:N.Nodup) {i j:Nat} {x:Str} (a:N[i]?=some x) (b:N[j]?=some x):i=j:=by
 obtain ⟨h1,e1⟩:=F4.mp a;obtain ⟨h2,e2⟩:=F4.mp b;exact (List.getElem_inj hN).mp (e1.trans e2.symm)
theorem mX {M:Model} {A:Around} {E:II} {i:Nat} {x:Str} {v:V} {u:Value} {Q:Unit->Shared->Prop} (I:aR X pins σ H s) (hN:X.N.Nodup) (hi:X.N[i]?=some x) (hx:Loc X.env.scope x) (r:RelV v u)
  (h:∀s',aR X pins (σ.set i (some v)) H s'->(∃a,Heap.SameBut a s.heap s'.heap/\(a=X.env.locals∨X.env.cells.lookup x=some a))->Q () s') (hf:X.fn x=true∨X.env.scope.names.lookup x=some .local:=by first|exact .inl rfl|exact .inr rfl|assumption):wpAny M A (storeName X.env x u) Q E s:=by
 obtain ⟨m,hn,hl⟩:=id I.loc;have hcls:(X.env.scope.kind== .class||(X.env.scope.kind== .module&&X.env.locals !=X.env.globals))=false:=by rw[I.ok.kind];rfl
 have hiσ:i<σ.length:=by rw[I.len];exact (F4.mp hi).1
 have cne:=I.cne;have tracked:∀{a:Addr} {h':Heap},(∃o,s.heap.get? a=some o/\H a=none)->Heap.SameBut a s.heap h'->iA X.prog X.w H h':=fun {a h'} ha hs b ob e=>by
  obtain ⟨_,_,hfree⟩:=ha;refine (I.hok b ob e).stay (fun c w' hc q=>(hs.2 c ?_).trans q) (fun _ q=>q) fun _ _ q=>q
  rintro rfl;rcases hc with rfl|hc
  ·rw[hfree] at e;cases e
  ·rw[hfree] at hc;cases hc
 rcases hx with hk|hk
 ·refine wpAny_storeName_local hk hn (fun h' hn' hs=>?_) hcls
  obtain ⟨oL,_,_,hoL,_⟩:=id hn;refine h _ ⟨I.ok,I.os,I.bare,⟨fun b o e n hb hx=>?_,fun b o e n hb hx=>?_,I.base.free,fun b o e hx=>?_,I.base.tups,I.base.frzs,I.base.tbls⟩,⟨_,hn',fun j y v' e1 e2 e3=>?_⟩,fun y c e=>?_,I.free,I.freeC,fun p hp=>?_,tracked ⟨oL,hoL,I.free⟩ hs,by simpa using I.len⟩ ⟨_,hs,.inl rfl⟩
  ·exact (hs.2 b (FV (GK (Heap.lt_size e) I.ok.above))).trans (I.base.keep b o e n hb hx)
  ·obtain ⟨sl,e1⟩:=I.base.slot b o e n hb hx;exact ⟨sl,(hs.2 b (FV (GK (Heap.lt_size e) I.ok.above))).trans e1⟩
  ·obtain ⟨o',e1⟩:=I.base.there b o e hx;exact ⟨o',(hs.2 b (FV (GK (Heap.lt_size e) I.ok.above))).trans e1⟩
  ·by_cases hj:j=i
   ·subst hj;rw[hi] at e1;cases e1;rw[List.getElem?_set_self hiσ] at e2;cases e2;exact ⟨u,r,.inl ⟨hk,by simp⟩⟩
   ·rw[List.getElem?_set_ne (Ne.symm hj)] at e2;obtain ⟨u',r',q⟩:=hl j y v' e1 e2 e3;refine ⟨u',r',?_⟩;rcases q with ⟨k,e⟩|⟨k,c,e,z⟩
    ·refine .inl ⟨k,?_⟩;have:y≠x:=fun e=>hj (pS hN e1 (e▸hi))
     simp[this,e]
    ·exact .inr ⟨k,c,e,z.sameBut hs (cne y c e)⟩
  ·obtain ⟨w',z⟩:=I.cell y c e;exact ⟨w',z.sameBut hs (cne y c e)⟩
  ·obtain ⟨e,n,ne,nf,d⟩:=I.pin p hp;exact ⟨(hs.2 p.1 ne).trans e,n,ne,nf,d⟩
 ·have hfn:X.fn x=true:=by
   rcases hf with z|z
   ·exact z
   ·rw[z] at hk;cases hk
  obtain ⟨c,hc⟩:=I.ok.has x (.inl hk);obtain ⟨w',z⟩:=I.cell x c hc;refine wpAny_storeName_cell I.ok.kind hk hc z (fun h' hc' hs=>?_)
  obtain ⟨oc,hoc,hocd⟩:=id z;refine h {s with heap:=h'} ⟨I.ok,I.os,I.bare,⟨fun b o e n hb hx=>?_,fun b o e n hb hx=>?_,I.base.free,fun b o e hx=>?_,I.base.tups,I.base.frzs,I.base.tbls⟩,⟨m,hn.sameBut hs (Ne.symm (cne x c hc)),fun j y v' e1 e2 e3=>?_⟩,fun y c' e=>?_,I.free,I.freeC,fun p hp=>?_,tracked ⟨oc,hoc,I.freeC x c hc⟩ hs,by simpa using I.len⟩ ⟨c,hs,.inr hc⟩
  ·exact (hs.2 b (FV (GK (Heap.lt_size e) (I.ok.cab x c hfn hc)))).trans (I.base.keep b o e n hb hx)
  ·obtain ⟨sl,e1⟩:=I.base.slot b o e n hb hx;exact ⟨sl,(hs.2 b (FV (GK (Heap.lt_size e) (I.ok.cab x c hfn hc)))).trans e1⟩
  ·obtain ⟨o',e1⟩:=I.base.there b o e hx;exact ⟨o',(hs.2 b (FV (GK (Heap.lt_size e) (I.ok.cab x c hfn hc)))).trans e1⟩
  ·by_cases hj:j=i
   ·subst hj;rw[hi] at e1;cases e1;rw[List.getElem?_set_self hiσ] at e2;cases e2;exact ⟨u,r,.inr ⟨.inl hk,c,hc,hc'⟩⟩
   ·rw[List.getElem?_set_ne (Ne.symm hj)] at e2;obtain ⟨u',r',q⟩:=hl j y v' e1 e2 e3;refine ⟨u',r',?_⟩;rcases q with q|⟨k,c',e,z'⟩
    ·exact .inl q
    ·refine .inr ⟨k,c',e,z'.sameBut hs ?_⟩;rintro rfl;exact hj (pS hN e1 (I.ok.inj _ _ _ e hc▸hi))
  ·by_cases hcc:c'=c
   ·subst hcc;exact ⟨_,hc'⟩
   ·obtain ⟨w2,z2⟩:=I.cell y c' e;exact ⟨w2,z2.sameBut hs hcc⟩
  ·obtain ⟨e,n,ne,nf,d⟩:=I.pin p hp;refine ⟨(hs.2 p.1 ?_).trans e,n,ne,nf,d⟩;intro q;rw[q,hoc] at e;have q':oc=p.2:=GZ e;exact d w' (by rw[<-q'];exact hocd)
theorem kO {M:Model} {A:Around} {E:II} {i:Nat} {x:Str} {v:V} {u:Value} {Q:Unit->Shared->Prop} (I:aR X pins σ H s) (hN:X.N.Nodup) (hi:X.N[i]?=some x) (hx:Loc X.env.scope x) (r:RelV v u)
  (h:∀s',aR X pins (σ.set i (some v)) H s'->Q () s') (hf:X.fn x=true∨X.env.scope.names.lookup x=some .local:=by first|exact .inl rfl|exact .inr rfl|assumption):wpAny M A (storeName X.env x u) Q E s:=
 mX I hN hi hx r (fun s' I' _=>h s' I') hf
theorem aR.call' {s':Shared} {ch:IN} (I:aR X pins σ H s) (ho:s'.os=s.os) (u:Un (vK X.stack) ch H H' s.heap s'.heap) (hok:iA X.prog X.w H' s'.heap) (hg:AllBare s'.gens)
  (hch:∀b∈ch,(b∈X.ex∨X.s₀.heap.objs.size<=b)/\b≠X.env.locals/\(∀x c,X.env.cells.lookup x=some c->c≠b)/\∀p∈X.pn++pins,p.1≠b):aR X pins σ H' s':=by
 obtain ⟨h',g',d',t',o'⟩:=s';have e:o'=s.os:=ho;subst e;exact I.call (g':=g') (t':=t') (d':=d') u hok hg hch
abbrev XK:=Value->IQ->Hp->Prop
abbrev St:=List (Option V)
abbrev VK:=V->Hp->Prop
abbrev TE:=St->Hp->VK->Prop
abbrev TT:=St->Hp->(Bool->Hp->Prop)->Prop
abbrev TA:=St->Hp->(List V->Hp->Prop)->Prop
structure Ends where
 nx:St->Hp->Prop
 rt:VK
 bk:St->Hp->Prop:=fun _ _=>False
 ct:St->Hp->Prop:=fun _ _=>False
abbrev TS:=Ends->St->Hp->Prop
def EP (X:Cx) (pins:IK) (σ:St) (Q:VK) (u:Value) (s':Shared):Prop:=∃v H',aR X pins σ H' s'/\RelV v u/\Q v H'
def TP (X:Cx) (pins:IK) (σ:St) (Q:Bool->Hp->Prop) (b:Bool) (s':Shared):Prop:=∃H',aR X pins σ H' s'/\Q b H'
def AP (X:Cx) (pins:IK) (σ:St) (Q:List V->Hp->Prop) (us:IP) (s':Shared):Prop:=∃vs H',aR X pins σ H' s'/\bG vs us/\Q vs H'
def SP (X:Cx) (pins:IK) (D:Ends) (f:Flow) (s':Shared):Prop:=
 match f with
 | .next=>∃σ' H',aR X pins σ' H' s'/\D.nx σ' H'
 | .brk=>∃σ' H',aR X pins σ' H' s'/\D.bk σ' H'
 | .cont=>∃σ' H',aR X pins σ' H' s'/\D.ct σ' H'
 | .ret u=>∃v σ' H',aR X pins σ' H' s'/\RelV v u/\D.rt v H'
def PE (X:Cx) (e:Expr) (t:TE):Prop:=
 ∀(pins:IK) (s:Shared) (σ:St) (H:Hp) (Q:VK),aR X pins σ H s->t σ H Q->wpAny (model X.prog X.w) X.A (eval e X.env) (EP X pins σ Q) X.xe s
def PT (X:Cx) (e:Expr) (t:TT):Prop:=
 ∀(pins:IK) (s:Shared) (σ:St) (H:Hp) (Q:Bool->Hp->Prop),aR X pins σ H s->t σ H Q->wpAny (model X.prog X.w) X.A (isTrue e X.env (eval e X.env)) (TP X pins σ Q) X.xe s
def PW (X:Cx) (e:Expr) (t:TT):Prop:=
 ∀(whole:Sem Value) (pins:IK) (s:Shared) (σ:St) (H:Hp) (Q:Bool->Hp->Prop),aR X pins σ H s->t σ H Q->wpAny (model X.prog X.w) X.A (isTrue e X.env whole) (TP X pins σ Q) X.xe s
theorem PW.pt {X:Cx} {e:Expr} {t:TT} (h:PW X e t):PT X e t:=h _
def PA (X:Cx) (es:List Expr) (t:TA):Prop:=
 ∀(pos:Pos) (pins:IK) (s:Shared) (σ:St) (H:Hp) (Q:List V->Hp->Prop),aR X pins σ H s->t σ H Q->wpAny (model X.prog X.w) X.A (spliced (backTo pos (starEach es X.env))) (AP X pins σ Q) X.xe s
def PS (X:Cx) (st:Stmt) (t:TS):Prop:=
 ∀(pins:IK) (s:Shared) (σ:St) (H:Hp) (D:Ends),aR X pins σ H s->t D σ H->wpAny (model X.prog X.w) X.A (exec st X.env) (SP X pins D) X.xe s
def vL (X:Cx) (st:List Stmt) (t:TS):Prop:=
 ∀(pins:IK) (s:Shared) (σ:St) (H:Hp) (D:Ends),aR X pins σ H s->t D σ H->wpAny (model X.prog X.w) X.A (execs st X.env) (SP X pins D) X.xe s
theorem bW {α:Type} {t:Sem α} {Q Q':α->Shared->Prop} {M:Model} {A:Around} {E:II} {s:Shared} (h:wpAny M A t Q E s) (hQ:∀a s,Q a s->Q' a s):wpAny M A t Q' E s:=wpAny_mono h hQ fun _ _ x=>x
section
noncomputable def mV (o:Option (Option V)) (k:V->Prop):Prop:=match o with|some (some v)=>k v|_=>False
noncomputable def mB (x:V) (k:Bool->Prop):Prop:=match x with| .bl c=>k c|_=>False
noncomputable def mI (x:V) (k:Int->Prop):Prop:=match x with| .int i=>k i|_=>False
theorem mV.e {o:Option (Option V)} {k:V->Prop} (h:mV o k):∃v,o=some (some v)/\k v:=by
 unfold mV at h
 split at h
 ·exact ⟨_,rfl,h⟩
 ·exact h.elim
theorem mB.e {x:V} {k:Bool->Prop} (h:mB x k):∃v,x= .bl v/\k v:=by
 unfold mB at h
 split at h
 ·exact ⟨_,rfl,h⟩
 ·exact h.elim
theorem mI.e {x:V} {k:Int->Prop} (h:mI x k):∃v,x= .int v/\k v:=by
 unfold mI at h
 split at h
 ·exact ⟨_,rfl,h⟩
 ·exact h.elim
theorem mI.e2 {x y:V} {k:Int->Int->Prop} (h:mI x fun i=>mI y fun j=>k i j):∃i j,x= .int i/\y= .int j/\k i j:=by
 obtain ⟨i,hi,h⟩:=h.e;obtain ⟨j,hj,h⟩:=h.e;exact ⟨i,j,hi,hj,h⟩
theorem mV.i {v:V} {k:V->Prop} (h:k v):mV (some (some v)) k:=h
theorem mB.i {v:Bool} {k:Bool->Prop} (h:k v):mB (.bl v) k:=h
theorem mV.o {o:Option (Option V)} {v:V} {k:V->Prop} (e:o=some (some v)) (h:k v):mV o k:=by rw[e];exact h
theorem mI.i {i j:Int} {k:Int->Int->Prop} (h:k i j):mI (.int i) fun i=>mI (.int j) fun j=>k i j:=h
def AX (i:Nat):TE:=fun σ H Q=>mV σ[i]? fun v=>Q v H
def tC (v:V):TE:=fun _ H Q=>Q v H
theorem AY {i:Nat} {x:Str} {pos:Pos} (hN:X.N[i]?=some x) (hv:Eb X.env.scope x) (hd:(x==("__debug__" :Str))=false:=by decide) (hcd:(x==("__classdict__" :Str))=false:=by decide):PE X (.Name x pos) (AX i):=by
 intro pins s σ H Q I h;obtain ⟨v,e,h⟩:=mV.e h;obtain ⟨m,hn,hl⟩:=I.loc;obtain ⟨u,r,l⟩:=hl i x v hN e hv;have fin:EP X pins σ Q u s:=⟨v,H,I,r,h⟩;rcases l with ⟨hk,hm⟩|⟨hk,c,hc,hcell⟩
 ·exact wpAny_Name (wpAny_loadName_local I.ok.kind hk hn hm fin) hd
 ·rcases hk with hk|hk
  ·exact wpAny_Name (wpAny_loadName_cell I.ok.kind hk hc hcell fin) hd
  ·exact wpAny_Name (wpAny_loadName_free I.ok.kind hk hc hcell fin hcd) hd
theorem af {i j pos}:PE X (.Constant (.int i) j pos) (tC (.int i)):=fun _ _ _ H _ I h=>wpAny_Constant_int ⟨.int i,H,I.tok _,⟨_,rfl⟩,h⟩
theorem iY {b j pos}:PE X (.Constant (.bool b) j pos) (tC (.bl b)):=fun _ _ _ H _ I h=>Constant_bool ⟨.bl b,H,I,rfl,h⟩
theorem bq {j pos}:PE X (.Constant .none j pos) (tC .non):=fun _ _ _ H _ I h=>Constant_none ⟨.non,H,I,rfl,h⟩
theorem xC {x j pos}:PE X (.Constant (.str x) j pos) (tC (.str x)):=fun _ _ _ H _ I h=>Calls.Constant_str ⟨.str x,H,I.tok _,⟨_,rfl⟩,h⟩
def Gl (X:Cx) (x:Str):Prop:=X.env.kindOf x=some .globalImplicit
theorem om {E:II} {pins:IK} {s:Shared} {σ:St} {H:Hp} {x:Str} {u:Value} {pos:Pos} {Q:II} (I:aR X pins σ H s) (hg:Gl X x) (hm:X.mg x=some u) (h:Q u s)
  (hd:(x==("__debug__" :Str))=false:=by decide):wpAny (model X.prog X.w) X.A (eval (.Name x pos) X.env) Q E s:=
 Calls.Name_function_global I.ok.kind hg (Calls.loadGlobal_global (by rw[I.ok.glob];exact I.mod.glob.keeps I.bk) hm h) hd
theorem dA {E:II} {pins:IK} {s:Shared} {σ:St} {H:Hp} {x:Str} {u:Value} {pos:Pos} {Q:II} (I:aR X pins σ H s) (hg:Gl X x) (hm:X.mg x=none) (hv:bootBuiltins x=some u) (h:Q u s)
  (hn:x≠ "__name__" :=by decide) (hd:(x==("__debug__" :Str))=false:=by decide):wpAny (model X.prog X.w) X.A (eval (.Name x pos) X.env) Q E s:=by
 obtain ⟨mb,h1,h2⟩:=I.mod.blt;exact Calls.Name_function_global I.ok.kind hg (Calls.loadGlobal_builtin (by rw[I.ok.glob];exact I.mod.glob.keeps I.bk) hm (by rw[I.ok.blt];exact h1.keeps I.bk) ((h2 x hn).trans hv) h) hd
theorem ue {x:Str} {v:V} {u:Value} {pos:Pos} (hg:Gl X x) (hm:X.mg x=some u) (r:RelV v u) (hd:(x==("__debug__" :Str))=false:=by decide):PE X (.Name x pos) (tC v):=
 fun _ _ _ H _ I h=>om I hg hm ⟨v,H,I,r,h⟩ hd
theorem gv {x:Str} {v:V} {u:Value} {pos:Pos} (hg:Gl X x) (hm:X.mg x=none) (hv:bootBuiltins x=some u) (r:RelV v u) (hn:x≠ "__name__" :=by decide) (hd:(x==("__debug__" :Str))=false:=by decide):PE X (.Name x pos) (tC v):=
 fun _ _ _ H _ I h=>dA I hg hm hv ⟨v,H,I,r,h⟩ hn hd
variable {a b:Expr} {ta tb:TE} {pos:Pos}
def PC (X:Cx) (op:CmpOp) (a b:Expr) (t:TE):Prop:=
 ∀(pins:IK) (s:Shared) (σ:St) (H:Hp) (Q:VK),aR X pins σ H s->t σ H Q->
  wpAny (model X.prog X.w) X.A (eval a X.env) (fun v s₁=>wpAny (model X.prog X.w) X.A (eval b X.env) (fun u s₂=>wpAny (model X.prog X.w) X.A (compareOp op v u) (EP X pins σ Q) X.xe s₂) X.xe s₁) X.xe s
def tB (t:TE):TT:=fun σ H Q=>t σ H fun x H1=>mB x fun c=>Q c H1
theorem xD {op:CmpOp} {t:TE} (h:PC X op a b t) (h1:behindInMarks op b=false:=by first|exact nobehind _ (by decide) (by decide)|rfl):PT X (.Compare a [op] [b] pos) (tB t):=by
 intro pins s σ H Q I hw;refine wpAny_isTrue_Compare1 (bW (h pins s σ H _ I hw) fun v s1 h1=>bW h1 fun u s2 h2=>bW h2 fun c s3 ⟨x,H1,I1,r1,q1⟩=>?_) h1
 obtain ⟨d,rfl,q⟩:=mB.e q1;cases r1;exact wpAny_truthy_bool ⟨H1,I1,q⟩
theorem eU {e:Expr} {t:TE} (h:PE X e t) (he:∀whole,isTrue e X.env whole=(do let v<-whole;standAt e.pos;holding [v] (truthy v)):=by intro _;rfl):PT X e (tB t):=by
 intro pins s σ H Q I hw;refine isTrue_plain (bW (h pins s σ H _ I hw) fun v s1 ⟨x,H1,I1,r1,q1⟩=>?_) (he _)
 obtain ⟨d,rfl,q⟩:=mB.e q1;cases r1;exact wpAny_truthy_bool ⟨H1,I1,q⟩
variable {tA tB':TT} {rest:List Expr}
def El (t u:TT):TT:=fun σ H Q=>t σ H fun c H1=>if c=true then u σ H1 Q else Q false H1
def Fs (t u:TT):TT:=fun σ H Q=>t σ H fun c H1=>if c=true then Q true H1 else u σ H1 Q
def Em (t:TT):TT:=fun σ H Q=>t σ H fun c H1=>Q (!c) H1
theorem dY (ha:PT X a tA):PW X (.BoolOp .And [a] pos) tA:=by
 intro wh pins s σ H Q I h;refine isTrue_and (bW (ha pins s σ H Q I h) fun c s1 e=>?_)
 cases c with
 |true=>exact isTrue_and_nil e
 |false=>exact e
theorem fB (ha:PT X a tA):PW X (.BoolOp .Or [a] pos) tA:=by
 intro wh pins s σ H Q I h;refine isTrue_or (bW (ha pins s σ H Q I h) fun c s1 e=>?_)
 cases c with
 |false=>exact isTrue_or_nil e
 |true=>exact e
theorem fU (ha:PT X a tA) (hb:PW X (.BoolOp .And (b::rest) pos) tB'):PW X (.BoolOp .And (a::b::rest) pos) (El tA tB'):=by
 intro wh pins s σ H Q I h;refine isTrue_and (bW (ha pins s σ H _ I h) fun c s1 ⟨H1,I1,q1⟩=>?_)
 cases c with
 |true=>exact hb wh pins s1 σ H1 Q I1 q1
 |false=>exact ⟨H1,I1,q1⟩
theorem eI (ha:PT X a tA) (hb:PW X (.BoolOp .Or (b::rest) pos) tB'):PW X (.BoolOp .Or (a::b::rest) pos) (Fs tA tB'):=by
 intro wh pins s σ H Q I h;refine isTrue_or (bW (ha pins s σ H _ I h) fun c s1 ⟨H1,I1,q1⟩=>?_)
 cases c with
 |true=>exact ⟨H1,I1,q1⟩
 |false=>exact hb wh pins s1 σ H1 Q I1 q1
theorem df (ha:PT X a tA):PT X (.UnaryOp .Not a pos) (Em tA):=by
 intro pins s σ H Q I h;exact isTrue_not (ha pins s σ H (fun c H1=>Q (!c) H1) I h)
def Cu (ta tb:TE):TE:=fun σ H Q=>ta σ H fun x H1=>mB x fun c=>if c=true then tb σ H1 Q else Q (.bl false) H1
def Cv (ta:TE):TE:=fun σ H Q=>ta σ H fun x H1=>mB x fun c=>Q (.bl (!c)) H1
theorem xE {op} {t:TE} (h:PE X a t):PE X (.BoolOp op [a] pos) t:=fun pins s σ H Q I hw=>BoolOp_one (h pins s σ H Q I hw)
theorem xF (ha:PE X a ta) (hb:PE X (.BoolOp .And (b::rest) pos) tb):PE X (.BoolOp .And (a::b::rest) pos) (Cu ta tb):=by
 intro pins s σ H Q I h;refine BoolOp_and (bW (ha pins s σ H _ I h) fun v s1 ⟨x,H1,I1,r1,q1⟩=>?_)
 obtain ⟨c,rfl,q1⟩:=mB.e q1;cases r1;refine wpAny_truthy_bool ?_;cases c with
 |true=>exact hb pins s1 σ H1 Q I1 q1
 |false=>exact ⟨.bl false,H1,I1,rfl,q1⟩
theorem AZ (ha:PE X a ta):PE X (.UnaryOp .Not a pos) (Cv ta):=by
 intro pins s σ H Q I h;refine UnaryOp_ (bW (ha pins s σ H _ I h) fun v s1 ⟨x,H1,I1,r1,q1⟩=>?_)
 obtain ⟨c,rfl,q1⟩:=mB.e q1;cases r1;exact not_of (wpAny_truthy_bool ⟨.bl (!c),H1,I1,rfl,q1⟩)
def Ft (t:TT) (ta tb:TE):TE:=fun σ H Q=>t σ H fun c H1=>if c=true then ta σ H1 Q else tb σ H1 Q
theorem kP {c:Expr} (hc:PT X c tA) (ha:PE X a ta) (hb:PE X b tb):PE X (.IfExp c a b pos) (Ft tA ta tb):=by
 intro pins s σ H Q I h;refine wpAny_IfExp (bW (hc pins s σ H _ I h) fun d s1 ⟨H1,I1,q1⟩=>?_)
 cases d with
 |true=>exact ha pins s1 σ H1 Q I1 q1
 |false=>exact hb pins s1 σ H1 Q I1 q1
end
def aE (K:F6) (H:Hp) (a:Addr) (xs:List V):Prop:=
 Rd H a (.lst xs)∨
  ∃(o:Obj) (its:Array Value) (n:Nat),K.lookup a=some o/\o.cls= .type "list" /\o.dict=none/\o.data= .seq its n/\its.size<=sizeLine/\bG xs its.toList
def bT (K:F6) (H:Hp) (a:Addr) (xs:List V):Prop:=
 Rd H a (.tup xs)∨
  ∃(o:Obj) (its:Array Value) (n:Nat),K.lookup a=some o/\o.cls= .type "tuple" /\o.data= .seq its n/\its.size<=sizeLine/\bG xs its.toList
noncomputable def En:Value->Option V
 | .none=>some .non
 | .bool b=>some (.bl b)
 | .int i _=>some (.int i)
 | .str x _=>some (.str x)
 | .bytes b _=>some (.byt b)
 | .float b _=>some (.flt b)
 | .ref a=>some (.ref a)
 | .type n=>some (.ty n)
 |_=>none
theorem RelV.abs {x:V} {u:Value} (r:RelV x u):En u=some x:=by
 cases x with
 |non=>cases r;rfl
 |bl _=>cases r;rfl
 |int _=>obtain ⟨t,rfl⟩:=r;rfl
 |str _=>obtain ⟨t,rfl⟩:=r;rfl
 |byt _=>obtain ⟨t,rfl⟩:=r;rfl
 |flt _=>obtain ⟨t,rfl⟩:=r;rfl
 |ref _=>cases r;rfl
 |ty _=>cases r;rfl
theorem RelV.inj {x y:V} {u:Value} (r:RelV x u) (q:RelV y u):x=y:=GZ (r.abs.symm.trans q.abs)
theorem bG.inj:∀{xs ys:List V} {us:IP},bG xs us->bG ys us->xs=ys
 |_,_,_,.nil,.nil=>rfl
 |_,_,_,.cons r t,.cons r' t'=>by rw[r.inj r',bG.inj t t']
variable {σ:St} {a:Addr} {xs ys:List V}
theorem aE.of {K:F6} (h:H a=some (.lst xs)):aE K H a xs:= .inl (.inl h)
theorem bT.of {K:F6} (h:H a=some (.tup xs)):bT K H a xs:= .inl (.inl h)
theorem aR.list (I:aR X pins σ H s) (h:aE X.K H a xs):∃its:IP,bG xs its/\PlainL s.heap a its.toArray/\xs.length<=sizeLine:=by
 rcases h with h|⟨o,its,n,hk,hc,hd,hs,hz,r⟩
 ·obtain ⟨z,its,n,r,e⟩:=h.ok I.hok;exact ⟨its,r,⟨_,n,e,rfl,rfl,rfl⟩,z⟩
 ·refine ⟨its.toList,r,⟨o,n,I.kIn a o hk,hc,hd,by simpa using hs⟩,?_⟩
  have e:=r.length;simp only[FZ] at e
  lia
theorem aR.tuple (I:aR X pins σ H s) (h:bT X.K H a xs):∃its:IP,bG xs its/\IsTup s.heap a its.toArray/\xs.length<=sizeLine:=by
 rcases h with h|⟨o,its,n,hk,hc,hs,hz,r⟩
 ·obtain ⟨z,its,r,p⟩:=h.ok I.hok;exact ⟨its,r,p,z⟩
 ·refine ⟨its.toList,r,⟨o,I.kIn a o hk,hc,n,by simpa using hs⟩,?_⟩
  have e:=r.length;simp only[FZ] at e
  lia
theorem aR.list_inj (I:aR X pins σ H s) (h:aE X.K H a xs) (h':aE X.K H a ys):xs=ys:=by
 obtain ⟨its,r,⟨o,n,e,_,_,d⟩,_⟩:=I.list h;obtain ⟨its',r',⟨o',n',e',_,_,d'⟩,_⟩:=I.list h';rw[e] at e';cases e';rw[d] at d';injection d' with d1 _
 have:its=its':=by simpa using congrArg Array.toList d1
 subst this;exact r.inj r'
abbrev Cx.wish (X:Cx) (E:II):Cx:={X with xe:=E}
abbrev Cx.nox (X:Cx):Cx:=X.wish fun _ _=>False
theorem Cx.Ok.wish {X:Cx} (ok:X.Ok) (E:II):(X.wish E).Ok:=
 ⟨ok.mod,ok.kind,ok.glob,ok.blt,ok.above,ok.inj,ok.has,ok.cab,ok.hd,ok.frames,ok.stk,ok.exf,ok.bs,ok.bsz,ok.noex,ok.exfs,ok.funs,ok.frf⟩
theorem Cx.Ok.unwish {X:Cx} {E:II} (ok:(X.wish E).Ok):X.Ok:=
 ⟨ok.mod,ok.kind,ok.glob,ok.blt,ok.above,ok.inj,ok.has,ok.cab,ok.hd,ok.frames,ok.stk,ok.exf,ok.bs,ok.bsz,ok.noex,ok.exfs,ok.funs,ok.frf⟩
variable {E:II}
theorem aR.wish (I:aR X pins σ H s) (E:II):aR (X.wish E) pins σ H s:=⟨I.ok.wish E,I.os,I.bare,I.base,I.loc,I.cell,I.free,I.freeC,I.pin,I.hok,I.len⟩
theorem aR.unwish (I:aR (X.wish E) pins σ H s):aR X pins σ H s:=⟨I.ok.unwish,I.os,I.bare,I.base,I.loc,I.cell,I.free,I.freeC,I.pin,I.hok,I.len⟩
theorem SP.unwish {D:Ends} {f:Flow} {s':Shared} (h:SP (X.wish E) pins D f s'):SP X pins D f s':=by
 cases f with
 |next=>obtain ⟨σ',H',I,q⟩:=h;exact ⟨σ',H',I.unwish,q⟩
 |brk=>obtain ⟨σ',H',I,q⟩:=h;exact ⟨σ',H',I.unwish,q⟩
 |cont=>obtain ⟨σ',H',I,q⟩:=h;exact ⟨σ',H',I.unwish,q⟩
 |ret u=>obtain ⟨v,σ',H',I,r,q⟩:=h;exact ⟨v,σ',H',I.unwish,r,q⟩
theorem vL.nox {st:List Stmt} {t:TS} (h:vL X.nox st t):vL X st t:=fun pins s σ H D I hw=>
 wpAny_mono (h pins s σ H D (I.wish _) hw) (fun _ _ q=>q.unwish) fun _ _ z=>False.elim z
section
variable {st:Stmt} {rest:List Stmt} {t u:TS} {e:Expr} {te:TE} {pos:Pos}
def bz:TS:=fun D σ H=>D.nx σ H
def aY (t u:TS):TS:=fun D σ H=>t {D with nx:=u D} σ H
theorem aF:vL X [] bz:=fun _ _ σ H _ I h=>wpAny_execs_nil ⟨σ,H,I,h⟩
theorem ak (h1:PS X st t) (h2:vL X rest u):vL X (st::rest) (aY t u):=by
 intro pins s σ H D I h;refine wpAny_execs_cons (bW (h1 pins s σ H {D with nx:=u D} I h) fun f s1 q=>?_)
 cases f with
 |next=>
  obtain ⟨σ',H',I',q⟩:=q;exact h2 pins s1 σ' H' D I' q
 |ret v=>exact q
 |brk=>exact q
 |cont=>exact q
theorem au (h1:PS X st t):vL X [st] t:=by
 intro pins s σ H D I h;refine wpAny_execs_cons (bW (h1 pins s σ H D I h) fun f s1 q=>?_)
 cases f with
 |next=>exact wpAny_execs_nil q
 |ret v=>exact q
 |brk=>exact q
 |cont=>exact q
def A1:TS:=fun D σ H=>D.bk σ H
theorem xG:PS X (.Break pos) A1:=fun _ _ σ H _ I h=>wpAny_Break ⟨σ,H,I,h⟩
theorem aR.quiet {pins:IK} {σ:St} {H:Hp} {s:Shared} (I:aR X pins σ H s):interactive X.env=false:=by simp[interactive,I.ok.kind]
def Cw (te:TE):TS:=fun D σ H=>te σ H fun _ H1=>D.nx σ H1
theorem bU (he:PE X e te) (hs:swapsWith e none pos.line X.env=pure false:=by rfl):PS X (.Expr e pos) (Cw te):=by
 intro pins s σ H D I h;exact wpAny_Expr_any (bW (he pins s σ H _ I h) fun v s1 ⟨x,H1,I1,r1,q1⟩=>⟨σ,H1,I1,q1⟩) I.quiet hs
def Eo (te:TE):TS:=fun D σ H=>te σ H D.rt
theorem aG (he:PE X e te):PS X (.Return (some e) pos) (Eo te):=by
 intro pins s σ H D I h;exact wpAny_Return_some (bW (he pins s σ H _ I h) fun v s1 ⟨x,H1,I1,r1,q1⟩=>⟨x,σ,H1,I1,r1,q1⟩)
def Cy (c:TT) (t u:TS):TS:=fun D σ H=>c σ H fun b H1=>if b=true then t D σ H1 else u D σ H1
theorem bp {c:Expr} {a b:List Stmt} {tc:TT} (hc:PT X c tc) (ha:vL X a t) (hb:vL X b u):PS X (.If c a b pos) (Cy tc t u):=by
 intro pins s σ H D I h;refine wpAny_If (bW (hc pins s σ H _ I h) fun d s1 ⟨H1,I1,q1⟩=>?_)
 cases d with
 |true=>exact ha pins s1 σ H1 D I1 q1
 |false=>exact hb pins s1 σ H1 D I1 q1
def A3:TS:=fun _ _ _=>False
theorem ce:PS X st A3:=fun _ _ _ _ _ _ h=>h.elim
end
abbrev TG:=V->St->Hp->(St->Hp->Prop)->Prop
abbrev AC:=List V->St->Hp->(St->Hp->Prop)->Prop
def PG (X:Cx) (target:Expr) (t:TG):Prop:=
 ∀(pins:IK) (s:Shared) (σ:St) (H:Hp) (v:V) (u:Value) (Q:St->Hp->Prop),aR X pins σ H s->RelV v u->t v σ H Q->
  wpAny (model X.prog X.w) X.A (assign target X.env u) (fun _ s'=>∃σ' H',aR X pins σ' H' s'/\Q σ' H') X.xe s
def Cz (X:Cx) (ts:List Expr) (t:AC):Prop:=
 ∀(pins:IK) (s:Shared) (σ:St) (H:Hp) (vs:List V) (us:IP) (Q:St->Hp->Prop),aR X pins σ H s->bG vs us->t vs σ H Q->
  wpAny (model X.prog X.w) X.A (assignInOrder ((assignEach ts X.env).map (·.2)) us) (fun _ s'=>∃σ' H',aR X pins σ' H' s'/\Q σ' H') X.xe s
abbrev A4:=V->V->V->Hp->(Hp->Prop)->Prop
def CA (X:Cx) (t:A4):Prop:=
 ∀(pins:IK) (s:Shared) (σ:St) (H:Hp) (o i v:V) (ov iv u:Value) (Q:Hp->Prop),aR X pins σ H s->RelV o ov->RelV i iv->RelV v u->t o i v H Q->
  wpAny (model X.prog X.w) X.A (setItem ov iv u) (fun _ s'=>∃H',aR X pins σ H' s'/\Q H') X.xe s
abbrev Ec:=V->V->Hp->VK->Prop
def Fk (X:Cx) (op:Operator) (t:Ec):Prop:=
 ∀(pins:IK) (s:Shared) (σ:St) (H:Hp) (x y:V) (v u:Value) (Q:VK),aR X pins σ H s->RelV x v->RelV y u->t x y H Q->
  wpAny (model X.prog X.w) X.A (inplaceOp op v u) (EP X pins σ Q) X.xe s
section
variable {pos:Pos}
def aZ (i:Nat):TG:=fun v σ H Q=>Q (σ.set i (some v)) H
theorem dH {i:Nat} {x:Str} (hN:X.N.Nodup) (hi:X.N[i]?=some x) (hx:Loc X.env.scope x) (hf:X.fn x=true∨X.env.scope.names.lookup x=some .local:=by first|exact .inl rfl|exact .inr rfl|assumption):PG X (.Name x pos) (aZ i):=by
 intro pins s σ H v u Q I r h;exact wpAny_assign_Name (kO I hN hi hx r (fun s' I'=>⟨_,H,I',h⟩) hf)
def Ep:AC:=fun vs σ H Q=>vs= []/\Q σ H
def CB (t:TG) (u:AC):AC:=fun vs σ H Q=>∃v r,vs=v::r/\t v σ H fun σ' H'=>u r σ' H' Q
theorem dI:Cz X [] Ep:=by
 intro pins s σ H vs us Q I r h;obtain ⟨e,h⟩:=h;subst e;cases r;exact assignInOrder_nil ⟨σ,H,I,h⟩
theorem bw {e:Expr} {es:List Expr} {t:TG} {u:AC} (h1:PG X e t) (h2:Cz X es u)
  (hs:(assignEach (e::es) X.env).map (·.2)=assign e X.env::(assignEach es X.env).map (·.2):=by rfl):Cz X (e::es) (CB t u):=by
 intro pins s σ H vs us Q I r h;obtain ⟨v,vr,e1,h⟩:=h;subst e1;cases r with
 |cons r rr=>
  rw[hs];refine assignInOrder_cons (bW (h1 pins s σ H _ _ _ I r h) fun _ s1 ⟨σ1,H1,I1,q1⟩=>?_)
  exact h2 pins s1 σ1 H1 _ _ Q I1 rr q1
def CC (K:F6) (n:Nat) (t:AC):TG:=fun v σ H Q=>∃a xs,v= .ref a/\bT K H a xs/\xs.length=n/\t xs σ H Q
theorem fD {es:List Expr} {k:Nat} {t:AC} {n:Nat} (hc:X.calm=true) (h:Cz X es t)
  (hn:(assignEach es X.env).length=n:=by rfl) (hst:(assignEach es X.env).findIdx? (·.1)=none:=by rfl):PG X (.Tuple es k pos) (CC X.K n t):=by
 intro pins s σ H v u Q I r hw;obtain ⟨a,xs,e1,hq,hl,hw⟩:=hw;subst e1;cases r;obtain ⟨its,rv,ht,hz⟩:=I.tuple hq;refine assign_Tuple_tuple (I.ok.hd hc) ht (by simp[hn,<-hl,rv.length]) hst fun h' hx=>?_
 have I1:aR X pins σ H {s with heap:=h'}:=I.kept (t':=s.toks) fun b o e=>hx b o (FV (Heap.lt_size e)) e
 exact h pins _ σ H xs _ Q I1 (by simpa using rv) hw
def Er (to ti:TE) (t:A4):TG:=fun v σ H Q=>to σ H fun o H1=>ti σ H1 fun i H2=>t o i v H2 fun H3=>Q σ H3
theorem oo {o i:Expr} {to ti:TE} {t:A4} (ho:PE X o to) (hi:PE X i ti) (hs:CA X t)
  (ha:∀v,assign (.Subscript o i pos) X.env v=(do
   let ov<-holding [v] (eval o X.env)
   let iv<-holding [v,ov] (eval i X.env)
   standAt pos
   holding [v,ov,iv] (setItem ov iv v)
   release [v,ov,iv] []):=by intro _;rfl):PG X (.Subscript o i pos) (Er to ti t):=by
 intro pins s σ H v u Q I r h;rw[ha];refine wpAny_bind (wpAny_holding (bW (ho pins s σ H _ I h) fun ov s1 ⟨x,H1,I1,r1,q1⟩=>?_))
 refine wpAny_bind (wpAny_holding (bW (hi pins s1 σ H1 _ I1 q1) fun iv s2 ⟨y,H2,I2,r2,q2⟩=>?_))
 refine wpAny_bind (wpAny_standAt (wpAny_bind (wpAny_holding (bW (hs pins s2 σ H2 x y v ov iv u _ I2 r1 r2 r q2) fun _ s3 ⟨H3,I3,q3⟩=>?_))))
 exact wpAny_release ⟨σ,H3,I3,q3⟩
def sd (te:TE) (g:TG):TS:=fun D σ H=>te σ H fun x H1=>g x σ H1 D.nx
theorem jw {tg e:Expr} {te:TE} {g:TG} (he:PE X e te) (hg:PG X tg g) (hs:swapsWithSole [tg] e pos.line X.env=pure false:=by rfl) (hw:swappedStores [tg] e X.env=pure none:=by rfl)
  (h1:(assignEach [tg] X.env).map (·.2)= [assign tg X.env]:=by rfl):PS X (.Assign [tg] e pos) (sd te g):=by
 intro pins s σ H D I h;refine wpAny_Assign_stores (bW (he pins s σ H _ I h) fun v s1 ⟨x,H1,I1,r1,q1⟩=>?_) hs hw
 rw[h1];exact bW (hg pins s1 σ H1 x v _ I1 r1 q1) fun _ s2 q=>q
theorem dh {i:Nat} {x:Str} {e:Expr} {te:TE} {pos':Pos} (hN:X.N.Nodup) (hi:X.N[i]?=some x) (hx:Loc X.env.scope x) (he:PE X e te) (hs:swapsWith e (some (.Name x pos')) pos.line X.env=pure false:=by rfl) (hf:X.fn x=true∨X.env.scope.names.lookup x=some .local:=by first|exact .inl rfl|exact .inr rfl|assumption):
  PS X (.Assign [.Name x pos'] e pos) (sd te (aZ i)):=by
 intro pins s σ H D I h;refine wpAny_Assign_Name (bW (he pins s σ H _ I h) fun v s1 ⟨y,H1,I1,r1,q1⟩=>?_) hs
 exact kO I1 hN hi hx r1 (fun s2 I2=>⟨_,H1,I2,q1⟩) hf
def Es (i:Nat) (te:TE) (ti:Ec):TS:=fun D σ H=>mV σ[i]? fun x=>te σ H fun y H1=>ti x y H1 fun z H2=>D.nx (σ.set i (some z)) H2
theorem A5 {i:Nat} {x:Str} {e:Expr} {te:TE} {op:Operator} {ti:Ec} {pos':Pos} (hN:X.N.Nodup) (hi:X.N[i]?=some x) (hx:Loc X.env.scope x) (he:PE X e te) (ho:Fk X op ti) (hf:X.fn x=true∨X.env.scope.names.lookup x=some .local:=by first|exact .inl rfl|exact .inr rfl|assumption):
  PS X (.AugAssign (.Name x pos') op e pos) (Es i te ti):=by
 intro pins s σ H D I h;obtain ⟨v,e1,h⟩:=mV.e h;obtain ⟨m,hn,hl⟩:=I.loc;have vis:Eb X.env.scope x:=by rcases hx with k|k;exact .inl k;exact .inr (.inl k)
 obtain ⟨u,r,l⟩:=hl i x v hi e1 vis;refine wpAny_AugAssign_Name ?_;have go:wpAny (model X.prog X.w) X.A (eval e X.env) (fun w s₂=>wpAny (model X.prog X.w) X.A (inplaceOp op u w) (fun r s₃=>wpAny (model X.prog X.w) X.A (storeName X.env x r) (fun _=>SP X pins D .next) X.xe s₃) X.xe s₂) X.xe s:=by
  refine bW (he pins s σ H _ I h) fun w s1 ⟨y,H1,I1,r1,q1⟩=>?_
  refine bW (ho pins s1 σ H1 v y u w _ I1 r r1 q1) fun z s2 ⟨zv,H2,I2,r2,q2⟩=>?_
  exact kO I2 hN hi hx r2 (fun s3 I3=>⟨_,H2,I3,q2⟩) hf
 rcases l with ⟨hk,hm⟩|⟨hk,c,hc,hcell⟩
 ·exact wpAny_loadName_local I.ok.kind hk hn hm go
 ·rcases hk with hk|hk
  ·exact wpAny_loadName_cell I.ok.kind hk hc hcell go
  ·rcases hx with k|k
   ·have:X.env.scope.names.lookup x=some .free:=hk;rw[k] at this;cases this
   ·have:X.env.scope.names.lookup x=some .free:=hk;rw[k] at this;cases this
def Fu (f:Int->Int->Int):Ec:=fun x y H Q=>mI x fun i=>mI y fun j=>Q (.int (f i j)) H
theorem A6:Fk X .Add (Fu fun i j=>i+j):=by
 intro pins s σ H x y v u Q I r1 r2 h;obtain ⟨i,j,e1,e2,q⟩:=mI.e2 h;subst e1;subst e2;obtain ⟨t,rfl⟩:=r1;obtain ⟨t',rfl⟩:=r2;exact iadd_int ⟨.int _,H,I.tok _,⟨_,rfl⟩,q⟩
end
section
variable {pos:Pos}
def A7 (c:TT) (tb:TS):TS:=fun D σ H=>∃W:Nat->St->Hp->Prop,(∃m,W m σ H)/\∀m σ H,W m σ H->
 c σ H fun b H1=>if b=true then ∃N:St->Hp->Prop,(∀σ' H',N σ' H'->∃m',m'<m/\W m' σ' H')/\tb {D with nx:=N,ct:=N,bk:=D.nx} σ H1 else D.nx σ H1
theorem pT {c:Expr} {body:List Stmt} {tc:TT} {tb:TS} (hp:PassesOwn (model X.prog X.w) X.A X.env X.xe) (hc:PT X c tc) (hb:vL X body tb):PS X (.While c body [] pos) (A7 tc tb):=by
 intro pins s σ H D I h;obtain ⟨W,⟨m0,w0⟩,turn⟩:=h;refine wpAny_While (codeAny_whileLoop (fun n s'=>∃σ' H',aR X pins σ' H' s'/\W n σ' H') ?_ m0 ⟨σ,H,I,w0⟩)
 rintro n s1 ⟨σ1,H1,I1,w1⟩;refine wpAny_passesOwn hp (bW (hc pins s1 σ1 H1 _ I1 (turn n σ1 H1 w1)) fun b s2 ⟨H2,I2,q2⟩=>?_)
 cases b with
 |true=>
  obtain ⟨N,hN,q2⟩:=q2;rw[if_pos rfl];refine wpAny_passesOwn hp (bW (hb pins s2 σ1 H2 _ I2 q2) fun f s3 q3=>?_)
  cases f with
  |next=>
   obtain ⟨σ3,H3,I3,n3⟩:=q3;obtain ⟨m',hm,w3⟩:=hN σ3 H3 n3;exact ⟨m',hm,σ3,H3,I3,w3⟩
  |cont=>
   obtain ⟨σ3,H3,I3,n3⟩:=q3;obtain ⟨m',hm,w3⟩:=hN σ3 H3 n3;exact ⟨m',hm,σ3,H3,I3,w3⟩
  |brk=>exact q3
  |ret v=>exact q3
 |false=>
  rw[if_neg GD];exact wpAny_execs_nil ⟨σ1,H2,I2,q2⟩
end
structure It where
 go:Nat->Hp->Prop
 yld:Nat->Hp->V->Hp->Prop
 stop:Nat->Hp->Prop
def dQ (X:Cx) (pins:IK) (H:Hp) (b:Addr):Prop:=
 H b=none/\b≠X.env.locals/\b∉X.fs/\(b∈X.ex∨X.s₀.heap.objs.size<=b)/\(∀x c,X.env.cells.lookup x=some c->c≠b)/\∀p∈X.pn++pins,p.1≠b
theorem aR.fpOk {X:Cx} {pins:IK} {σ:St} {H H':Hp} {s:Shared} {b:Addr} (I:aR X pins σ H s) (hb:s.heap.objs.size<=b) (hn:H' b=none):dQ X pins H' b:=by
 refine ⟨hn,HC (GK I.lt hb),I.nofs hb,.inr (Gf I.sz hb),fun x c e z=>?_,fun p hp z=>?_⟩
 ·obtain ⟨v,q⟩:=I.cell x c e;exact absurd (GK q.lt (by rw[z];exact hb)) (HW _)
 ·exact absurd (GK (Heap.lt_size (I.pin p hp).1) (by rw[z];exact hb)) (HW _)
structure Turn (P:Program) (w:World) (K:F6) (tg:Expr) (J:It) (fp:IN) (it:Addr) (tn:Nat->Heap->Prop):Prop where
 mem:it∈fp
 obj:∀i h,tn i h->∀b∈fp,∃o,h.get? b=some o/\∀v,o.data≠ .cell v
 keep:∀i h h',tn i h->(∀b∈fp,∀o,h.get? b=some o->h'.get? b=some o)->tn i h'
 item:∀(X:Cx),X.prog=P->X.w=w->X.K=K->X.calm=true->∀(i:Nat) (pins:IK) (s:Shared) (σ:St) (H:Hp) (E:II),aR X pins σ H s->(∀b∈fp,dQ X pins H b)->tn i s.heap->J.go i H->
  wpAny (model P w) X.A (pyNext (.ref it)) (fun r s1=>∃u,r=some u/\
   wpAny (model P w) X.A (letOwnedTupleGo tg (.ref it) u) (fun _ s2=>∃x H',aR X pins σ H' s2/\RelV x u/\J.yld i H x H'/\tn (i+1) s2.heap/\∀b∈fp,H' b=none) E s1) E s
 done:∀(X:Cx),X.prog=P->X.w=w->X.K=K->X.calm=true->∀(i:Nat) (pins:IK) (s:Shared) (σ:St) (H:Hp) (E:II),aR X pins σ H s->(∀b∈fp,dQ X pins H b)->tn i s.heap->J.stop i H->
  wpAny (model P w) X.A (pyNext (.ref it)) (fun r s1=>r=none/\aR X pins σ H s1) E s
 self:∀(A:Around) (i:Nat) (s:Shared) (Q:II) (E:II),tn i s.heap->Q (.ref it) s->wpAny (model P w) A (pyIter (.ref it)) Q E s
abbrev TI:=St->Hp->(It->Hp->Prop)->Prop
def Et (X:Cx) (pins:IK) (σ:St) (tg:Expr) (R:It->Hp->Prop) (itv:Value) (s2:Shared):Prop:=
 ∃(it:Addr) (fp:IN) (tn:Nat->Heap->Prop) (J:It) (H':Hp),itv= .ref it/\aR X pins σ H' s2/\Turn X.prog X.w X.K tg J fp it tn/\tn 0 s2.heap/\(∀b∈fp,dQ X pins H' b)/\R J H'
def PI (X:Cx) (tg iter:Expr) (wi:TI):Prop:=
 ∀(pins:IK) (s:Shared) (σ:St) (H:Hp) (R:It->Hp->Prop),aR X pins σ H s->wi σ H R->
  wpAny (model X.prog X.w) X.A (eval iter X.env) (fun v s1=>wpAny (model X.prog X.w) X.A (pyIter v) (Et X pins σ tg R) X.xe s1) X.xe s
theorem pV {M:Model} {A:Around} {E:II} {s:Shared} {tg:Expr} {it:Addr} {u:Value} {o:Obj} {n:String} {vs:Array Value} {Q:Unit->Shared->Prop} (ho:s.heap.get? it=some o) (hc:o.cls= .type n) (hd:o.data= .fields vs)
    (hn: ["enumerate","zip","dict_itemiterator","dict_reverseitemiterator","odict_iterator","itertools.zip_longest","itertools.pairwise"].contains n=false) (hQ:Q () s):wpAny M A (letOwnedTupleGo tg (.ref it) u) Q E s:=by
  unfold letOwnedTupleGo;cases tg<;>first
    |exact wpAny_pure hQ
    | (cases u<;>first
        |exact wpAny_pure hQ
        | (refine wpAny_bind (wpAny_load ho ?_)
           rw[hc,hd];show wpAny M A (if (["enumerate","zip","dict_itemiterator","dict_reverseitemiterator","odict_iterator","itertools.zip_longest","itertools.pairwise"].contains n&&vs[0]?==some (rawInt _))=true then _ else _) Q E s
           rw[if_neg (by intro h;rw[hn,Bool.false_and] at h;cases h)]
           exact wpAny_pure hQ))
noncomputable def zw (K:F6) (a:Addr):It:=
 ⟨fun i H=>∃xs x,aE K H a xs/\xs[i]?=some x,fun i H x H'=>H'=H/\∀xs,aE K H a xs->xs[i]?=some x,fun i H=>∃xs,aE K H a xs/\xs.length<=i⟩
noncomputable def A8 (lo:Int) (n:Nat):It:=⟨fun i _=>i<n,fun i H x H'=>H'=H/\x= .int (lo+i),fun i _=>n<=i⟩
theorem vM {P:Program} {w:World} {K:F6} {tg:Expr} (a it:Addr):Turn P w K tg (zw K a) [it] it (fun i h=>h.IsListIter it a i) where
 mem:=by simp
 obj:=fun i h st b hb=>by
  have e:b=it:=by simpa using hb
  subst e;obtain ⟨o,e,c,d⟩:=st;exact ⟨o,e,fun v z=>by rw[d] at z;cases z⟩
 keep:=fun i h h' st k=>st.at fun o e=>k it (by simp) o e
 item:=by
  intro X hP hw hK hc i pins s σ H E I hf st hg;subst hP hw hK;obtain ⟨xs,x,hq,hx⟩:=hg;obtain ⟨its,rv,p,hz⟩:=I.list hq;obtain ⟨u,hu,ru⟩:=rv.get hx;obtain ⟨f0,f1,f2,f3,f4,f5⟩:=hf it (by simp)
  refine wpAny_pyNext_list_item st p.isList (x:=u) (by simpa using hu) fun h' st' sb=>?_
  have I1:aR X pins σ H {s with heap:=h'}:=I.turned (t':=s.toks) (fun b o hb e=>(sb.2 b hb).trans e) f0 f1 f3 f4 f5
  obtain ⟨o,e,c,d⟩:=id st';exact ⟨u,rfl,pV (s:={s with heap:=h'}) e c d (by decide) ⟨x,H,I1,ru,⟨rfl,fun ys hy=>by rw[I.list_inj hy hq];exact hx⟩,st',fun b hb=>(hf b hb).1⟩⟩
 done:=by
  intro X hP hw hK hc i pins s σ H E I hf st hg;subst hP hw hK;obtain ⟨xs,hq,hx⟩:=hg;obtain ⟨its,rv,p,hz⟩:=I.list hq;obtain ⟨f0,f1,f2,f3,f4,f5⟩:=hf it (by simp)
  have hl:=rv.length;exact wpAny_pyNext_list_end (I.ok.hd hc) st p.isList (by simp;lia) fun h' eb=>⟨rfl,I.turned (t':=s.toks) (fun b o hb e=>eb b o hb e) f0 f1 f3 f4 f5⟩
 self:=fun _ _ _ _ _ st h=>wpAny_pyIter_listiter st h
theorem se {P:Program} {w:World} {K:F6} {tg:Expr} (it:Addr) (lo:Int) (n:Nat):Turn P w K tg (A8 lo n) [it] it (fun i h=>IsRangeIter h it (lo+(i:Nat)*1) ((n:Int)-(i:Nat)) 1) where
 mem:=by simp
 obj:=fun i h st b hb=>by
  have e:b=it:=by simpa using hb
  subst e;exact ⟨_,st,fun v z=>by
   have z':Data.fields _=Data.cell v:=z;cases z'⟩
 keep:=fun i h h' st k=>k it (by simp) _ st
 item:=by
  intro X hP hw hK hc i pins s σ H E I hf st hg;subst hP hw hK;obtain ⟨f0,f1,f2,f3,f4,f5⟩:=hf it (by simp)
  have W:=Walks.range (prog:=X.prog) (w:=X.w) (I.ok.hd hc) it lo 1 n;refine W.item i s _ _ hg st fun v h' tk hv st' kk=>?_
  obtain ⟨t,rfl⟩:=hv;have I1:aR X pins σ H {s with heap:=h',toks:=tk}:=I.turned (fun b o hb e=>kk b o (by simpa using hb) e) f0 f1 f3 f4 f5
  refine ⟨_,rfl,pV (s:={s with heap:=h',toks:=tk}) (n:= "range_iterator") st' rfl rfl (by decide) ⟨.int (lo+i),H,I1,⟨t,?_⟩,⟨rfl,rfl⟩,st',fun b hb=>(hf b hb).1⟩⟩
  rw[Int.mul_one]
 done:=by
  intro X hP hw hK hc i pins s σ H E I hf st hg;subst hP hw hK;obtain ⟨f0,f1,f2,f3,f4,f5⟩:=hf it (by simp)
  exact wpAny_pyNext_range_end (I.ok.hd hc) st (by have:n<=i:=hg;lia) fun h' eb=>⟨rfl,I.turned (t':=s.toks) (fun b o hb e=>eb b o hb e) f0 f1 f3 f4 f5⟩
 self:=fun _ _ _ _ _ st h=>wpAny_pyIter_rangeiter st h
variable {tg:Expr}
def CD (K:F6) (tl:TE):TI:=fun σ H R=>tl σ H fun x H1=>∃a,x= .ref a/\(∃xs,aE K H1 a xs)/\R (zw K a) H1
theorem aP {l:Expr} {tl:TE} (hl:PE X l tl):PI X tg l (CD X.K tl):=by
 intro pins s σ H R I h;refine bW (hl pins s σ H _ I h) fun v s1 ⟨x,H1,I1,r1,q1⟩=>?_
 obtain ⟨a,e,⟨xs,hq⟩,q⟩:=q1;subst e;cases r1;obtain ⟨its,rv,p,hz⟩:=I1.list hq;refine wpAny_pyIter_list p.isList ?_;refine ⟨s1.heap.objs.size,[s1.heap.objs.size],_,_,H1,rfl,I1.kept (t':=s1.toks) fun b o e=>Heap.get?_push_of_some _ e,vM a _,⟨_,Heap.get?_push_size _ rfl,rfl,rfl⟩,fun b hb=>?_,q⟩
 have e:b=s1.heap.objs.size:=by simpa using hb
 subst e;exact I1.fpOk (F8 _) (I1.hok.fresh (F8 _))
theorem pW {pins:IK} {σ:St} {H:Hp} {s:Shared} {R:It->Hp->Prop} {E:II} {lo hi:Int} {t u v:Tok} {tk:Nat} (I:aR X pins σ H s) (h1: -(2^62)<=lo) (h2:lo<2^62) (h3: -(2^62)<=hi) (h4:hi<2^62)
  (q:R (A8 lo (hi-lo).toNat) H):wpAny (model X.prog X.w) X.A (pyIter (.ref s.heap.objs.size)) (Et X pins σ tg R) E {s with heap:=s.heap.push {cls:= .type "range",data:= .fields #[.int lo t,.int hi u,.int 1 v]},toks:=tk}:=by
 refine wpAny_pyIter_range (IsRange.new ..) (small_one h1 h2 h3 h4) ?_;have I1:aR X pins σ H {s with heap:=s.heap.push {cls:= .type "range",data:= .fields #[.int lo t,.int hi u,.int 1 v]},toks:=tk}:=I.kept fun b o e=>Heap.get?_push_of_some _ e
 refine ⟨(s.heap.push {cls:= .type "range",data:= .fields #[.int lo t,.int hi u,.int 1 v]}).objs.size,[(s.heap.push {cls:= .type "range",data:= .fields #[.int lo t,.int hi u,.int 1 v]}).objs.size],_,_,H,rfl,
  I1.kept (t':=tk) fun b o e=>Heap.get?_push_of_some _ e,se _ lo (hi-lo).toNat,?_,fun b hb=>?_,q⟩
 ·have e1:lo+((0:Nat):Int)*1=lo:=by simp
  have e2:(((hi-lo).toNat:Nat):Int)-((0:Nat):Int)=Builtin.Range.rangeSize lo hi 1:=by rw[rangeSize_one];split<;>lia
  show IsRangeIter _ _ (lo+((0:Nat):Int)*1) ((((hi-lo).toNat:Nat):Int)-((0:Nat):Int)) 1;rw[e1,e2];exact Heap.get?_push_size _ rfl
 ·have e:b=(s.heap.push {cls:= .type "range",data:= .fields #[.int lo t,.int hi u,.int 1 v]}).objs.size:=by simpa using hb
  subst e;exact I1.fpOk (F8 _) (I1.hok.fresh (F8 _))
def CF (ta:TA):TI:=fun σ H R=>ta σ H fun vs H1=>∃j:Int,vs= [.int j]/\ -(2^62)<=j/\j<2^62/\R (A8 0 j.toNat) H1
def CG (ta:TA):TI:=fun σ H R=>ta σ H fun vs H1=>∃i j:Int,vs= [.int i,.int j]/\(-(2^62)<=i/\i<2^62/\ -(2^62)<=j/\j<2^62)/\R (A8 i (j-i).toNat) H1
theorem bH {a:Expr} {ta:TA} {p pos:Pos} (hg:Gl X "range") (hm:X.mg "range" =none) (ha:PA X [a] ta) (hs:starEach [a] X.env= [(false,eval a X.env)]:=by rfl):PI X tg (.Call (.Name "range" p) [a] [] pos) (CF ta):=by
 intro pins s σ H R I h;refine Call_ (dA I hg hm boot_range (GO (bW (ha pos pins s σ H _ I h) fun us s1 ⟨vs,H1,I1,r1,q1⟩=>?_) hs rfl))
 obtain ⟨j,e,q1,q2,q⟩:=q1;subst e;cases r1 with
 |cons r rr=>
  cases rr;obtain ⟨t,rfl⟩:=r;exact call_range_1 (pW I1 (by lia) (by lia) q1 q2 (by simpa using q))
theorem vN {a b:Expr} {ta:TA} {p pos:Pos} (hg:Gl X "range") (hm:X.mg "range" =none) (ha:PA X [a,b] ta) (hs:starEach [a,b] X.env= [(false,eval a X.env),(false,eval b X.env)]:=by rfl) (hs2:starEach [b] X.env= [(false,eval b X.env)]:=by rfl):
  PI X tg (.Call (.Name "range" p) [a,b] [] pos) (CG ta):=by
 intro pins s σ H R I h;refine Call_ (dA I hg hm boot_range (GO (bW (ha pos pins s σ H _ I h) fun us s1 ⟨vs,H1,I1,r1,q1⟩=>?_) (by rw[hs,hs2]) (by rw[hs2];rfl)))
 obtain ⟨i,j,e,⟨q1,q2,q3,q4⟩,q⟩:=q1;subst e;cases r1 with
 |cons r rr=>
  cases rr with
  |cons r' rr=>
   cases rr;obtain ⟨t,rfl⟩:=r;obtain ⟨t',rfl⟩:=r';exact call_range_2 (pW I1 q1 q2 q3 q4 q)
def Eu (wi:TI) (g:TG) (tb:TS):TS:=fun D σ H=>wi σ H fun J H1=>∃W:Nat->Nat->St->Hp->Prop,(∃m,W 0 m σ H1)/\∀i m σ H,W i m σ H->
 (J.stop i H/\D.nx σ H)∨(J.go i H/\∃N:St->Hp->Prop,(∀σ' H',N σ' H'->∃m',m'<m/\W (i+1) m' σ' H')/\∀x H',J.yld i H x H'->g x σ H' fun σ2 H2=>tb {D with nx:=N,ct:=N,bk:=D.nx} σ2 H2)
noncomputable def kQ (fp:IN) (h:Heap):IK:=fp.filterMap fun b=>(h.get? b).map fun o=>(b,o)
theorem cG {fp:IN} {h:Heap} {b:Addr} {o:Obj} (hb:b∈fp) (e:h.get? b=some o):(b,o)∈kQ fp h:=List.mem_filterMap.mpr ⟨b,hb,by rw[e];rfl⟩
theorem vO {fp:IN} {h:Heap} {p:Addr×Obj} (hp:p∈kQ fp h):p.1∈fp/\h.get? p.1=some p.2:=by
 obtain ⟨b,hb,e⟩:=List.mem_filterMap.mp hp;cases q:h.get? b with
 |none=>rw[q] at e;cases e
 |some o=>
  rw[q] at e;have e':(b,o)=p:=GZ e;subst e';exact ⟨hb,q⟩
theorem aR.pinned {pins:IK} {σ:St} {H:Hp} {s:Shared} {fp:IN} (I:aR X pins σ H s) (hf:∀b∈fp,dQ X pins H b) (ho:∀b∈fp,∃o,s.heap.get? b=some o/\∀v,o.data≠ .cell v):aR X (pins++kQ fp s.heap) σ H s:=
 I.pins_of fun p hp=>(FS.mp hp).elim (fun z=>I.pin p (FY _ z)) fun z=>by
  obtain ⟨hb,e⟩:=vO z;obtain ⟨f0,f1,f2,_⟩:=hf p.1 hb;obtain ⟨o,e',d⟩:=ho p.1 hb;rw[e] at e';cases e';exact ⟨e,f0,f1,f2,d⟩
theorem aR.unpinned {pins pl:IK} {σ:St} {H:Hp} {s:Shared} (I:aR X (pins++pl) σ H s):aR X pins σ H s:=I.pins_of fun p hp=>I.pin p (FY _ (GW _ hp))
theorem bu {iter:Expr} {body:List Stmt} {wi:TI} {g:TG} {tb:TS} {pos:Pos} (hp:PassesOwn (model X.prog X.w) X.A X.env X.xe) (hc:X.calm=true) (hi:PI X tg iter wi) (hg:PG X tg g) (hb:vL X body tb)
  (hs:∀x,foldedSetIterable iter X.env x=pure x:=by intro _;rfl):PS X (.For tg iter body [] pos) (Eu wi g tb):=by
 intro pins s σ H D I h;refine wpAny_For (bW (hi pins s σ H _ I h) fun v s1 h1=>bW h1 fun itv s2 h2=>?_) hs
 obtain ⟨it,fp,tn,J,H2,e,I2,T,st2,f2,W,⟨m0,w0⟩,turn⟩:=h2;subst e;have stat:∀{H':Hp},(∀b∈fp,H' b=none)->∀b∈fp,dQ X pins H' b:=fun hn b hb=>⟨hn b hb,(f2 b hb).2⟩
 refine codeAny_forLoop_any (fun n s'=>∃i σ' H',aR X pins σ' H' s'/\tn i s'.heap/\(∀b∈fp,H' b=none)/\W i n σ' H') ?_ m0 ⟨0,σ,H2,I2,st2,fun b hb=>(f2 b hb).1,w0⟩
 rintro n s3 ⟨i,σ3,H3,I3,st3,fr3,w3⟩;rcases turn i n σ3 H3 w3 with ⟨stop,qn⟩|⟨go,N,hN,step⟩
 ·refine wpAny_passesOwn hp (bW (T.done X rfl rfl rfl hc i pins s3 σ3 H3 X.xe I3 (stat fr3) st3 stop) fun r s4 ⟨hr,I4⟩=>?_)
  subst hr;exact wpAny_execs_nil ⟨σ3,H3,I4,qn⟩
 ·refine wpAny_passesOwn hp (bW (T.item X rfl rfl rfl hc i pins s3 σ3 H3 X.xe I3 (stat fr3) st3 go) fun r s4 ⟨u,hr,h4⟩=>?_)
  subst hr;refine wpAny_passesOwn hp (bW h4 fun _ s5 ⟨x,H5,I5,r5,y5,st5,fr5⟩=>?_)
  have I5':=I5.pinned (stat fr5) (T.obj _ _ st5);refine wpAny_passesOwn hp (bW (hg _ s5 σ3 H5 x u _ I5' r5 (step x H5 y5)) fun _ s6 ⟨σ6,H6,I6,q6⟩=>?_)
  refine wpAny_passesOwn hp (bW (hb _ s6 σ6 H6 _ I6 q6) fun f s7 q7=>?_)
  have again:∀{σ7:St} {H7:Hp},aR X (pins++kQ fp s5.heap) σ7 H7 s7->N σ7 H7->∃m,m<n/\∃i σ' H',aR X pins σ' H' s7/\tn i s7.heap/\(∀b∈fp,H' b=none)/\W i m σ' H':=fun {σ7 H7} I7 n7=>by
   obtain ⟨m',hm,w7⟩:=hN σ7 H7 n7;refine ⟨m',hm,i+1,σ7,H7,I7.unpinned,T.keep _ _ _ st5 fun b hb o e=>(I7.pin (b,o) (FY _ (FY _ (cG hb e)))).1,fun b hb=>?_,w7⟩
   obtain ⟨o,e,d⟩:=T.obj _ _ st5 b hb;exact (I7.pin (b,o) (FY _ (FY _ (cG hb e)))).2.1
  cases f with
  |next=>obtain ⟨σ7,H7,I7,n7⟩:=q7;exact again I7 n7
  |cont=>obtain ⟨σ7,H7,I7,n7⟩:=q7;exact again I7 n7
  |brk=>obtain ⟨σ7,H7,I7,q7⟩:=q7;exact ⟨σ7,H7,I7.unpinned,q7⟩
  |ret v=>obtain ⟨x7,σ7,H7,I7,r7,q7⟩:=q7;exact ⟨x7,σ7,H7,I7.unpinned,r7,q7⟩
theorem bL {K:F6} {a:Addr} {xs:List V} {g:TG} {tb:TS} {D:Ends} {σ:St} {H:Hp} (Pv:Nat->St->Hp->Prop) (h0:Pv 0 σ H) (hl:∀i σ H,i<=xs.length->Pv i σ H->aE K H a xs)
  (hs:∀i x σ H,xs[i]?=some x->Pv i σ H->g x σ H fun σ2 H2=>tb {D with nx:=Pv (i+1),ct:=Pv (i+1),bk:=D.nx} σ2 H2) (hd:∀σ H,Pv xs.length σ H->D.nx σ H):
  ∃W:Nat->Nat->St->Hp->Prop,(∃m,W 0 m σ H)/\∀i m σ H,W i m σ H->
   ((zw K a).stop i H/\D.nx σ H)∨((zw K a).go i H/\∃N:St->Hp->Prop,(∀σ' H',N σ' H'->∃m',m'<m/\W (i+1) m' σ' H')/\∀x H',(zw K a).yld i H x H'->g x σ H' fun σ2 H2=>tb {D with nx:=N,ct:=N,bk:=D.nx} σ2 H2):=by
 refine ⟨fun i m σ H=>m=xs.length-i/\i<=xs.length/\Pv i σ H,⟨xs.length,by simp,G4 _,h0⟩,?_⟩
 rintro i m σ H ⟨rfl,hi,p⟩;have q:=hl i σ H hi p
 by_cases hlt:i<xs.length
 ·refine .inr ⟨⟨xs,xs[i],q,by simp[hlt]⟩,Pv (i+1),fun σ' H' p'=>⟨xs.length-(i+1),by lia,rfl,hlt,p'⟩,fun x H' y=>?_⟩
  obtain ⟨e,y⟩:=y;subst e;exact hs i x σ _ (y xs q) p
 ·have e:i=xs.length:=by lia
  subst e;exact .inl ⟨⟨xs,q,F8 _⟩,hd σ H p⟩
theorem bE {lo:Int} {n:Nat} {g:TG} {tb:TS} {D:Ends} {σ:St} {H:Hp} (Pv:Nat->St->Hp->Prop) (h0:Pv 0 σ H)
  (hs:∀i σ H,i<n->Pv i σ H->g (.int (lo+i)) σ H fun σ2 H2=>tb {D with nx:=Pv (i+1),ct:=Pv (i+1),bk:=D.nx} σ2 H2) (hd:∀σ H,Pv n σ H->D.nx σ H):
  ∃W:Nat->Nat->St->Hp->Prop,(∃m,W 0 m σ H)/\∀i m σ H,W i m σ H->
   ((A8 lo n).stop i H/\D.nx σ H)∨((A8 lo n).go i H/\∃N:St->Hp->Prop,(∀σ' H',N σ' H'->∃m',m'<m/\W (i+1) m' σ' H')/\∀x H',(A8 lo n).yld i H x H'->g x σ H' fun σ2 H2=>tb {D with nx:=N,ct:=N,bk:=D.nx} σ2 H2):=by
 refine ⟨fun i m σ H=>m=n-i/\i<=n/\Pv i σ H,⟨n,by simp,G4 _,h0⟩,?_⟩
 rintro i m σ H ⟨rfl,hi,p⟩
 by_cases hlt:i<n
 ·refine .inr ⟨hlt,Pv (i+1),fun σ' H' p'=>⟨n-(i+1),by lia,rfl,hlt,p'⟩,fun x H' y=>?_⟩
  obtain ⟨e,y⟩:=y;subst e y;exact hs i σ _ hlt p
 ·have e:i=n:=by lia
  subst e;exact .inl ⟨F8 _,hd σ H p⟩
abbrev R2:=V->V->Hp->VK->Prop
def iq (X:Cx) (f:Value->Value->Sem Value) (r:R2):Prop:=
 ∀(pins:IK) (s:Shared) (σ:St) (H:Hp) (x y:V) (v u:Value) (Q:VK),aR X pins σ H s->RelV x v->RelV y u->r x y H Q->
  wpAny (model X.prog X.w) X.A (f v u) (EP X pins σ Q) X.xe s
def Ev (X:Cx) (f:Value->Sem Value) (r:V->Hp->VK->Prop):Prop:=
 ∀(pins:IK) (s:Shared) (σ:St) (H:Hp) (x:V) (v:Value) (Q:VK),aR X pins σ H s->RelV x v->r x H Q->
  wpAny (model X.prog X.w) X.A (f v) (EP X pins σ Q) X.xe s
def cL (X:Cx) (f:Value) (r:List V->Hp->VK->Prop):Prop:=
 ∀(pins:IK) (s:Shared) (σ:St) (H:Hp) (xs:List V) (us:IP) (Q:VK),aR X pins σ H s->bG xs us->r xs H Q->
  wpAny (model X.prog X.w) X.A (call f us) (EP X pins σ Q) X.xe s
def Ed (r:R2) (ta tb:TE):TE:=fun σ H Q=>ta σ H fun x H1=>tb σ H1 fun y H2=>r x y H2 Q
def Fv (r:V->Hp->VK->Prop) (ta:TE):TE:=fun σ H Q=>ta σ H fun x H1=>r x H1 Q
def rI (C:Int->Int->Prop) (g:Int->Int->V):R2:=fun x y H Q=>mI x fun i=>mI y fun j=>C i j/\Q (g i j) H
def AD (g:Int->Int->V):R2:=fun x y H Q=>mI x fun i=>mI y fun j=>Q (g i j) H
def rU (g:Int->V):V->Hp->VK->Prop:=fun x H Q=>∃i,x= .int i/\Q (g i) H
section
variable {a b c:Expr} {ta tb tc:TE} {pos:Pos}
theorem A9 (ha:PE X a ta) (hb:PE X b tb) {pins:IK} {s:Shared} {σ:St} {H:Hp} {R:V->V->Hp->Prop} (I:aR X pins σ H s)
  (h:ta σ H fun x H1=>tb σ H1 fun y H2=>R x y H2) {Q:II} {f:Value->Value->Sem Value}
  (hf:∀v u s2 x y H2,aR X pins σ H2 s2->RelV x v->RelV y u->R x y H2->wpAny (model X.prog X.w) X.A (f v u) Q X.xe s2):
  wpAny (model X.prog X.w) X.A (eval a X.env) (fun v s₁=>wpAny (model X.prog X.w) X.A (eval b X.env) (fun u s₂=>wpAny (model X.prog X.w) X.A (f v u) Q X.xe s₂) X.xe s₁) X.xe s:=by
 refine bW (ha pins s σ H _ I h) fun v s1 ⟨x,H1,I1,r1,q1⟩=>?_
 refine bW (hb pins s1 σ H1 _ I1 q1) fun u s2 ⟨y,H2,I2,r2,q2⟩=>?_
 exact hf v u s2 x y H2 I2 r1 r2 q2
theorem av {op:Operator} {r:R2} (ho:iq X (binaryOp op) r) (ha:PE X a ta) (hb:PE X b tb):PE X (.BinOp a op b pos) (Ed r ta tb):=by
 intro pins s σ H Q I h;exact wpAny_BinOp (A9 ha hb I h fun v u s2 x y H2 I2 rx ry q=>ho pins s2 σ H2 x y v u Q I2 rx ry q)
theorem gI {op:UnaryOp} {r:V->Hp->VK->Prop} (ho:Ev X (unaryOp op) r) (ha:PE X a ta):PE X (.UnaryOp op a pos) (Fv r ta):=by
 intro pins s σ H Q I h;exact UnaryOp_ (bW (ha pins s σ H _ I h) fun v s1 ⟨x,H1,I1,r1,q1⟩=>ho pins s1 σ H1 x v Q I1 r1 q1)
theorem Ee {f:Value->Value->Sem Value} {C:Int->Int->Prop} {g:Int->Int->Int}
  (rule:∀(i j:Int) (t u:Tok) (s:Shared) (Q:II) (E:II),C i j->Q (.int (g i j) s.toks) {s with toks:=s.toks+1}->wpAny (model X.prog X.w) X.A (f (.int i t) (.int j u)) Q E s):
  iq X f (rI C fun i j=> .int (g i j)):=by
 intro pins s σ H x y v u Q I rx ry h;obtain ⟨i,j,rfl,rfl,hc,q⟩:=mI.e2 h;obtain ⟨t,rfl⟩:=rx;obtain ⟨t',rfl⟩:=ry;exact rule i j t t' s _ _ hc ⟨.int (g i j),H,I.tok _,⟨_,rfl⟩,q⟩
theorem CH {f:Value->Value->Sem Value} {g:Int->Int->Int}
  (rule:∀(i j:Int) (t u:Tok) (s:Shared) (Q:II) (E:II),Q (.int (g i j) s.toks) {s with toks:=s.toks+1}->wpAny (model X.prog X.w) X.A (f (.int i t) (.int j u)) Q E s):
  iq X f (AD fun i j=> .int (g i j)):=by
 intro pins s σ H x y v u Q I rx ry h;obtain ⟨i,j,rfl,rfl,q⟩:=mI.e2 h;obtain ⟨t,rfl⟩:=rx;obtain ⟨t',rfl⟩:=ry;exact rule i j t t' s _ _ ⟨.int (g i j),H,I.tok _,⟨_,rfl⟩,q⟩
theorem zF {f:Value->Value->Sem Value} {g:Int->Int->Bool}
  (rule:∀(i j:Int) (t u:Tok) (s:Shared) (Q:II) (E:II),Q (.bool (g i j)) s->wpAny (model X.prog X.w) X.A (f (.int i t) (.int j u)) Q E s):
  iq X f (AD fun i j=> .bl (g i j)):=by
 intro pins s σ H x y v u Q I rx ry h;obtain ⟨i,j,rfl,rfl,q⟩:=mI.e2 h;obtain ⟨t,rfl⟩:=rx;obtain ⟨t',rfl⟩:=ry;exact rule i j t t' s _ _ ⟨.bl (g i j),H,I,rfl,q⟩
theorem aW:iq X (binaryOp .Add) (AD fun i j=> .int (i+j)):=CH fun _ _ _ _ _ _ _ q=>add_int q
theorem fE:iq X (binaryOp .Sub) (AD fun i j=> .int (i-j)):=CH fun _ _ _ _ _ _ _ q=>sub_int q
theorem aS:iq X (binaryOp .Mod) (rI (fun _ j=>j≠0) fun i j=> .int (i.fmod j)):=Ee fun _ _ _ _ _ _ _ hc q=>mod_int' hc q
theorem Fw {f:Value->Sem Value} {g:Int->Int}
  (rule:∀(i:Int) (t:Tok) (s:Shared) (Q:II) (E:II),Q (.int (g i) s.toks) {s with toks:=s.toks+1}->wpAny (model X.prog X.w) X.A (f (.int i t)) Q E s):
  Ev X f (rU fun i=> .int (g i)):=by
 intro pins s σ H x v Q I rx h;obtain ⟨i,rfl,q⟩:=h;obtain ⟨t,rfl⟩:=rx;exact rule i t s _ _ ⟨.int (g i),H,I.tok _,⟨_,rfl⟩,q⟩
theorem eV:Ev X (unaryOp .USub) (rU fun i=> .int (-i)):=Fw fun _ _ _ _ _ q=>neg_int q
end
noncomputable def CI:V->V->Bool
 | .non,.non=>true| .non,.int _=>true| .int _,.non=>true| .non,.bl _=>true| .bl _,.non=>true| .non,.str _=>true| .str _,.non=>true
 | .int _,.int _=>true| .bl _,.bl _=>true| .str _,.str _=>true| .byt _,.byt _=>true
 | .int _,.str _=>true| .str _,.int _=>true| .bl _,.str _=>true| .str _,.bl _=>true
 |_,_=>false
def Fy:R2:=fun x y H Q=>CI x y=true/\Q (.bl (decide (x=y))) H
def Fz:R2:=fun x y H Q=>CI x y=true/\Q (.bl (!decide (x=y))) H
theorem uf {i j:Int}:decide (V.int i=V.int j)=(i==j):=by
 rw[Hq];simp
theorem xH {i j:Bool}:decide (V.bl i=V.bl j)=(i==j):=by
 rw[Hq];simp
theorem ug {i j:Str}:decide (V.str i=V.str j)=(i==j):=by
 rw[Hq];simp
theorem uh {i j:Array UInt8}:decide (V.byt i=V.byt j)=(i.toList==j.toList):=by
 rw[Hq];cases i;cases j;simp
section
variable {a b c:Expr} {ta tb tc:TE} {pos:Pos}
theorem bQ {pins:IK} {σ:St} {H:Hp} {s:Shared} {Q:VK} {k k':Bool} (I:aR X pins σ H s) (q:Q (.bl k) H) (e:k=k'):EP X pins σ Q (.bool k') s:=by
 subst e;exact ⟨.bl k,H,I,rfl,q⟩
theorem fF:iq X (compareOp .Eq) Fy:=by
 intro pins s σ H x y v u Q I rx ry h;obtain ⟨hs,q⟩:=h;cases x with
 |non=>
  cases rx;cases y with
  |non=>cases ry;exact PySem.EqNone.eq_none_none (bQ I q (by simp))
  |bl j=>cases ry;exact PySem.EqNone.eq_none_bool (bQ I q (by simp))
  |int j=>obtain ⟨t',rfl⟩:=ry;exact PySem.EqNone.eq_none_int (bQ I q (by simp))
  |str j=>obtain ⟨t',rfl⟩:=ry;exact PySem.EqNone.eq_none_str (bQ I q (by simp))
  |_=>exact absurd (show false=true from hs) GD
 |bl i=>
  cases rx;cases y with
  |non=>cases ry;exact PySem.EqNone.eq_bool_none (bQ I q (by simp))
  |bl j=>cases ry;exact eq_bool (bQ I q xH)
  |str j=>obtain ⟨t',rfl⟩:=ry;exact PySem.EqMixed.eq_bool_str (bQ I q (by simp))
  |_=>exact absurd (show false=true from hs) GD
 |int i=>
  obtain ⟨t,rfl⟩:=rx;cases y with
  |non=>cases ry;exact PySem.EqNone.eq_int_none (bQ I q (by simp))
  |int j=>obtain ⟨t',rfl⟩:=ry;exact eq_int (bQ I q uf)
  |str j=>obtain ⟨t',rfl⟩:=ry;exact PySem.EqMixed.eq_int_str (bQ I q (by simp))
  |_=>exact absurd (show false=true from hs) GD
 |str i=>
  obtain ⟨t,rfl⟩:=rx;cases y with
  |non=>cases ry;exact PySem.EqNone.eq_str_none (bQ I q (by simp))
  |bl j=>cases ry;exact PySem.EqMixed.eq_str_bool (bQ I q (by simp))
  |int j=>obtain ⟨t',rfl⟩:=ry;exact PySem.EqMixed.eq_str_int (bQ I q (by simp))
  |str j=>obtain ⟨t',rfl⟩:=ry;exact eq_str (bQ I q ug)
  |_=>exact absurd (show false=true from hs) GD
 |byt i=>
  obtain ⟨t,rfl⟩:=rx;cases y with
  |byt j=>obtain ⟨t',rfl⟩:=ry;exact PySem.W.eq_bytes (bQ I q uh)
  |_=>exact absurd (show false=true from hs) GD
 |_=>cases y<;>exact absurd (show false=true from hs) GD
theorem iZ:iq X (compareOp .NotEq) Fz:=by
 intro pins s σ H x y v u Q I rx ry h;obtain ⟨hs,q⟩:=h;cases x with
 |non=>
  cases rx;cases y with
  |non=>cases ry;exact PySem.EqNone.ne_none_none (bQ I q (by simp))
  |bl j=>cases ry;exact PySem.EqNone.ne_none_bool (bQ I q (by simp))
  |int j=>obtain ⟨t',rfl⟩:=ry;exact PySem.EqNone.ne_none_int (bQ I q (by simp))
  |str j=>obtain ⟨t',rfl⟩:=ry;exact PySem.EqNone.ne_none_str (bQ I q (by simp))
  |_=>exact absurd (show false=true from hs) GD
 |bl i=>
  cases rx;cases y with
  |non=>cases ry;exact PySem.EqNone.ne_bool_none (bQ I q (by simp))
  |bl j=>cases ry;exact ne_bool (bQ I q (congrArg not xH))
  |str j=>obtain ⟨t',rfl⟩:=ry;exact PySem.EqMixed.ne_bool_str (bQ I q (by simp))
  |_=>exact absurd (show false=true from hs) GD
 |int i=>
  obtain ⟨t,rfl⟩:=rx;cases y with
  |non=>cases ry;exact PySem.EqNone.ne_int_none (bQ I q (by simp))
  |int j=>obtain ⟨t',rfl⟩:=ry;exact ne_int (bQ I q (congrArg not uf))
  |str j=>obtain ⟨t',rfl⟩:=ry;exact PySem.EqMixed.ne_int_str (bQ I q (by simp))
  |_=>exact absurd (show false=true from hs) GD
 |str i=>
  obtain ⟨t,rfl⟩:=rx;cases y with
  |non=>cases ry;exact PySem.EqNone.ne_str_none (bQ I q (by simp))
  |bl j=>cases ry;exact PySem.EqMixed.ne_str_bool (bQ I q (by simp))
  |int j=>obtain ⟨t',rfl⟩:=ry;exact PySem.EqMixed.ne_str_int (bQ I q (by simp))
  |str j=>obtain ⟨t',rfl⟩:=ry;exact ne_str (bQ I q (congrArg not ug))
  |_=>exact absurd (show false=true from hs) GD
 |byt i=>
  obtain ⟨t,rfl⟩:=rx;cases y with
  |byt j=>obtain ⟨t',rfl⟩:=ry;exact PySem.W.ne_bytes (bQ I q (congrArg not uh))
  |_=>exact absurd (show false=true from hs) GD
 |_=>cases y<;>exact absurd (show false=true from hs) GD
theorem gM:iq X (compareOp .Lt) (AD fun i j=> .bl (decide (i<j))):=zF fun _ _ _ _ _ _ _ q=>lt_int q
theorem dJ:iq X (compareOp .LtE) (AD fun i j=> .bl (decide (i<=j))):=zF fun _ _ _ _ _ _ _ q=>le_int q
theorem fN:iq X (compareOp .Gt) (AD fun i j=> .bl (decide (j<i))):=zF fun _ _ _ _ _ _ _ q=>gt_int q
theorem uj:iq X (compareOp .GtE) (AD fun i j=> .bl (decide (j<=i))):=zF fun _ _ _ _ _ _ _ q=>ge_int q
theorem cV:iq X (compareOp .Is) (fun x y H Q=>y= .non/\Q (.bl (decide (x= .non))) H):=by
 intro pins s σ H x y v u Q I rx ry h;obtain ⟨rfl,q⟩:=h;cases ry;refine is_none_gen (bQ I q ?_);cases x<;>first
  |(cases rx;rfl)
  |(obtain ⟨t,rfl⟩:=rx;rfl)
theorem kq:iq X (compareOp .IsNot) (fun x y H Q=>y= .non/\Q (.bl (!decide (x= .non))) H):=by
 intro pins s σ H x y v u Q I rx ry h;obtain ⟨rfl,q⟩:=h;cases ry;refine isnot_none_gen (bQ I q ?_);cases x<;>first
  |(cases rx;rfl)
  |(obtain ⟨t,rfl⟩:=rx;rfl)
theorem aH (b:Expr) {op:CmpOp} (h:op≠ .In:=by decide) (h2:op≠ .NotIn:=by decide):behindInMarks op b=false:=by
 have e1:(op==CmpOp.In)=false:=by cases op<;>first|rfl|exact absurd rfl h
 have e2:(op==CmpOp.NotIn)=false:=by cases op<;>first|rfl|exact absurd rfl h2
 cases b<;>simp[behindInMarks,e1,e2]
theorem fO {op:CmpOp} {r:R2} (ho:iq X (compareOp op) r) (ha:PE X a ta) (hb:PE X b tb) (hm:behindInMarks op b=false):PE X (.Compare a [op] [b] pos) (Ed r ta tb):=by
 intro pins s σ H Q I h;exact wpAny_Compare1 (A9 ha hb I h fun v u s2 x y H2 I2 rx ry q=>ho pins s2 σ H2 x y v u Q I2 rx ry q) hm
def xI (t:TE):TT:=fun σ H Q=>t σ H fun x H'=>mB x fun k=>Q k H'
theorem aC {op:CmpOp} {r:R2} (ho:iq X (compareOp op) r) (ha:PE X a ta) (hb:PE X b tb) (hm:behindInMarks op b=false):PT X (.Compare a [op] [b] pos) (xI (Ed r ta tb)):=by
 intro pins s σ H Q I h;refine wpAny_isTrue_Compare1 (bW (ha pins s σ H _ I h) fun v s1 ⟨x,H1,I1,r1,q1⟩=>bW (hb pins s1 σ H1 _ I1 q1) fun u s2 ⟨y,H2,I2,r2,q2⟩=>
  bW (ho pins s2 σ H2 x y v u _ I2 r1 r2 q2) fun c s3 ⟨z,H3,I3,r3,q3⟩=>?_) hm
 obtain ⟨k,e,q3⟩:=mB.e q3;subst e;cases r3;exact wpAny_truthy_bool ⟨H3,I3,q3⟩
def Ba (r r':R2) (ta tb tc:TE):TE:=fun σ H Q=>ta σ H fun x H1=>tb σ H1 fun y H2=>r x y H2 fun z H3=>mB z fun k=>
 (if k=true then tc σ H3 fun w' H4=>r' y w' H4 Q else Q (.bl false) H3)
theorem dj {op op':CmpOp} {r r':R2} (ho:iq X (compareOp op) r) (ho':iq X (compareOp op') r') (ha:PE X a ta) (hb:PE X b tb) (hc:PE X c tc)
  (hm:lastMarks [op,op'] [b,c]=false:=by with_unfolding_all rfl):PT X (.Compare a [op,op'] [b,c] pos) (xI (Ba r r' ta tb tc)):=by
 intro pins s σ H Q I h;refine isTrue_chain (bW (ha pins s σ H _ I h) fun v s1 ⟨x,H1,I1,r1,q1⟩=>test_link (bW (hb pins s1 σ H1 _ I1 q1) fun u s2 ⟨y,H2,I2,r2,q2⟩=>
  bW (ho pins s2 σ H2 x y v u _ I2 r1 r2 q2) fun d s3 ⟨z,H3,I3,r3,q3⟩=>?_)) hm
 obtain ⟨k,e,q3⟩:=mB.e q3;subst e;cases r3;refine wpAny_truthy_bool ?_;cases k with
 |false=>
  obtain ⟨k',e',q'⟩:=mB.e q3;cases e';exact ite_ff ⟨H3,I3,q'⟩
 |true=>
  refine ite_tt (test_last (bW (hc pins s3 σ H3 _ I3 q3) fun w' s4 ⟨z',H4,I4,r4,q4⟩=>bW (ho' pins s4 σ H4 y z' u w' _ I4 r2 r4 q4) fun d' s5 ⟨z2,H5,I5,r5,q5⟩=>?_))
  obtain ⟨k2,e2,q5⟩:=mB.e q5;subst e2;cases r5;exact wpAny_truthy_bool ⟨H5,I5,q5⟩
theorem jx:(sizeLine:Nat)<2^63:=by rw[sizeLine_eq];decide
theorem fG:iq X (binaryOp .Add) (fun x y H Q=>∃i j,x= .str i/\y= .str j/\i.length+j.length<=sizeLine/\Q (.str (i++j)) H):=by
 intro pins s σ H x y v u Q I rx ry h;obtain ⟨i,j,rfl,rfl,hz,q⟩:=h;obtain ⟨t,rfl⟩:=rx;obtain ⟨t',rfl⟩:=ry;exact add_str (fun t' tk=>⟨.str (i++j),H,I.tok _,⟨_,rfl⟩,q⟩) hz
theorem vals1 {x:V} {us:IP} (r:bG [x] us):∃u,us= [u]/\RelV x u:=by
 cases r with
 |cons r1 r2=>cases r2;exact ⟨_,rfl,r1⟩
theorem vals2 {x y:V} {us:IP} (r:bG [x,y] us):∃u w',us= [u,w']/\RelV x u/\RelV y w':=by
 cases r with
 |cons r1 r2=>
  cases r2 with
  |cons r3 r4=>cases r4;exact ⟨_,_,rfl,r1,r3⟩
theorem xJ:cL X (.builtin "abs") (fun xs H Q=>∃i,xs= [.int i]/\Q (.int (if i<0 then-i else i)) H):=by
 intro pins s σ H xs us Q I r h;obtain ⟨i,rfl,q⟩:=h;obtain ⟨u,rfl,t,rfl⟩:=vals1 r;exact call_abs_int fun u tk=>⟨.int (if i<0 then-i else i),H,I.tok _,⟨_,rfl⟩,q⟩
theorem hW (hc:X.calm=true):cL X (.builtin "max") (fun xs H Q=>∃i j,xs= [.int i,.int j]/\Q (.int (if j>i then j else i)) H):=by
 intro pins s σ H xs us Q I r h;obtain ⟨i,j,rfl,q⟩:=h;obtain ⟨u,w',rfl,⟨t,rfl⟩,⟨t',rfl⟩⟩:=vals2 r;refine max_two_ints (I.ok.hd hc) fun h' tk k=>⟨_,H,I.kept k,?_,q⟩
 by_cases hj:j>i
 ·rw[if_pos hj,if_pos hj];exact ⟨_,rfl⟩
 ·rw[if_neg hj,if_neg hj];exact ⟨_,rfl⟩
theorem vP (hc:X.calm=true):cL X (.builtin "min") (fun xs H Q=>∃i j,xs= [.int i,.int j]/\Q (.int (if j<i then j else i)) H):=by
 intro pins s σ H xs us Q I r h;obtain ⟨i,j,rfl,q⟩:=h;obtain ⟨u,w',rfl,⟨t,rfl⟩,⟨t',rfl⟩⟩:=vals2 r;refine min_two_ints (I.ok.hd hc) fun h' tk k=>⟨_,H,I.kept k,?_,q⟩
 by_cases hj:j<i
 ·rw[if_pos hj,if_pos hj];exact ⟨_,rfl⟩
 ·rw[if_neg hj,if_neg hj];exact ⟨_,rfl⟩
end
structure vQ (h:Heap) (x dx C:Addr) (mA:IJ):Prop where
 obj:h.get? x=some (HR C dx)
 ns:h.Ns1 dx mA
 ne:dx≠x
theorem vR {h:Heap} {dx:Addr} {mA:IJ} (n:h.Ns1 dx mA):∃od,h.get? dx=some od/\∀name,PySem.W.lookIn name od=some (mA name):=by
 obtain ⟨o,es,ep,ho,hd,hk,_,hm⟩:=n;refine ⟨o,ho,fun name=>?_⟩
 have e:=hm name;unfold nsFind findBy at e;rw[<-Array.find?_toList] at e;unfold PySem.W.lookIn;rw[hd];dsimp only
 split
 ·rename_i y q;rw[q] at e;exact congrArg some e
 ·rename_i q;rw[q] at e;have a:es.toList.any (·.refKey)=false:=by
   rw[List.any_eq_false];intro y hy;obtain ⟨z,t,hkey⟩:=hk y (Array.mem_toList_iff.mp hy);simp[DictEntry.refKey,hkey]
  have a':¬es.toList.any (·.refKey)=true:=by rw[a];exact GD
  rw[if_neg a'];exact congrArg some e
theorem vQ.look {h:Heap} {x dx C:Addr} {mA:IJ} (I:vQ h x dx C mA):∃od,PySem.W.InstAt h x (HR C dx) C (some od)/\∀name,PySem.W.lookIn name od=some (mA name):=
 let ⟨od,ho,hl⟩:=vR I.ns
 ⟨od,⟨I.obj,rfl,rfl,ho⟩,hl⟩
section
variable {prog:Program} {w:World} {A:Around} {K:F6} {x dx C f:Addr} {mA:IJ} {name:Str} {v:Value}
theorem zG {expr:Bool} {Q:II} (X:K.In s.heap) (I:vQ s.heap x dx C mA) (hg:PySem.W.plainGet K C name=true) (hh:PySem.W.hasDictIn K C=true)
  (ha:HQ K (.ref C) name=some none) (hv:mA name=some v) (hv':PySem.W.handedIn v=true) (h:Q v {s with toks:=s.toks+1}):
  wpAny (model prog w) A (getAttr (.ref x) name expr) Q E s:=by
 obtain ⟨od,J,hl⟩:=I.look;exact PySem.W.get_value X J (PySem.W.plainGet_of hg).1 (PySem.W.findObj_own hh ha rfl (by rw[hl,hv])) hv' h
theorem zH {ns:IM} {Q:Unit->Shared->Prop} (X:K.In s.heap) (I:vQ s.heap x dx C mA)
  (hs:HQ K (.ref C) "__setattr__" =some (some (.builtin "object.__setattr__"))) (hp:PySem.W.plainOver K C=true) (ht:PySem.W.takerIn K C name=some none) (hh:PySem.W.hasDictIn K C=true)
  (hw:PySem.Within mA ns) (hsz:ns.length<=sizeLine)
  (h:∀h',vQ h' x dx C (fun y=>if y=name then some v else mA y)->Heap.SameBut dx s.heap h'->Q () {s with heap:=h',toks:=s.toks+2}):
  wpAny (model prog w) A (setAttr (.ref x) name v) Q E s:=by
 obtain ⟨od,J,hl⟩:=I.look;refine PySem.W.set_plain X J hs (PySem.W.osa_open (s:={s with toks:=s.toks+1}) (r:=none) X J hp ht fun b=>?_)
 obtain ⟨cd,hc,hd'⟩:=PySem.W.any_some hh;have hx:s.heap.get? x=some ⟨.ref C,some dx,.plain,#[]⟩:=I.obj;refine wpAny_bind (wpAny_pure (wpAny_bind (wpAny_bind (wpAny_loadPart hx (wpAny_bind (PySem.W.Looks.here (s:={s with toks:=s.toks+1}) (PySem.W.looks_clsIn X hc) ?_))))))
 rw[hd'];refine wpAny_pure (a:=some dx) (wpAny_bind (wpAny_pure (wpAny_bind ?_)));refine wpAny_nsSet1 (s:={s with toks:=s.toks+1}) I.ns fun h' hn2 hs2=>?_
 obtain ⟨oD,esD,epD,hoD,hdD,hcD⟩:=hn2.count (PySem.Within.cons name v hw);refine wpAny_bind (wpAny_lookBehind hoD (by rw[hdD];exact pastItsLine_dict (Gf hcD (by rw[GV];lia))) ?_)
 exact wpAny_pure (h _ ⟨(hs2.2 _ (Ne.symm I.ne)).trans I.obj,hn2,I.ne⟩ hs2)
theorem xK {R:Result->Shared->Prop} {vs:IP} {kw:List (Str×Value)} (X:K.In s.heap) (hm:PySem.W.makesIn K C=true)
  (hi:HQ K (.ref C) "__init__" =some (some (.ref f))) (hf:PySem.W.typeIn K (.ref f)=some (.type "function"))
  (h:codeAny (model prog w) (A.under (.builtin "type.__call__" ⟨.ref C::vs,kw⟩)) (.call (.ref f) ⟨.ref (s.heap.objs.size+1)::vs,kw⟩) (PySem.W.InitBack (s.heap.objs.size+1) R)
   {s with heap:=(s.heap.push Gu).push (HR C s.heap.objs.size)}):
  codeAny (model prog w) A (.call (.ref C) ⟨vs,kw⟩) R s:=by
 obtain ⟨hh,g,d,t,os⟩:=s;exact PySem.W.make_core (PySem.W.makes_of X hm) (PySem.W.looks_findIn X hi) (fun self=>PySem.W.bind_fn X self hf) (.inl rfl) h
end
noncomputable def bC (f:Str) (v:V):List (Str×V)->List (Str×V)
 | []=> [(f,v)]
 |(g,x)::r=>if g=f then (g,v)::r else (g,x)::bC f v r
theorem bD (f g:Str) (v:V):∀fs:List (Str×V),(bC f v fs).lookup g=if g=f then some v else fs.lookup g
 | []=>by
  show List.lookup g [(f,v)]=_
  by_cases h:g=f
  ·have hb:(g==f)=true:=beq_iff_eq.mpr h;simp only[List.lookup,hb,if_pos h]
  ·have hb:(g==f)=false:=beq_eq_false_iff_ne.mpr h;simp only[List.lookup,hb,if_neg h]
 |(k,x)::r=>by
  have ih:=bD f g v r;rw[show bC f v ((k,x)::r)=(if k=f then (k,v)::r else (k,x)::bC f v r) from rfl]
  by_cases hk:k=f
  ·rw[if_pos hk]
   by_cases h:g=k
   ·have hb:(g==k)=true:=beq_iff_eq.mpr h;simp only[List.lookup,hb,if_pos (h.trans hk)]
   ·have hb:(g==k)=false:=beq_eq_false_iff_ne.mpr h;simp only[List.lookup,hb,if_neg (fun e:g=f=>h (e.trans hk.symm))]
  ·rw[if_neg hk]
   by_cases h:g=k
   ·have hb:(g==k)=true:=beq_iff_eq.mpr h;simp only[List.lookup,hb,if_neg (fun e:g=f=>hk (h.symm.trans e))]
   ·have hb:(g==k)=false:=beq_eq_false_iff_ne.mpr h;simp only[List.lookup,hb];exact ih
theorem jy (f:Str) (v:V):∀fs:List (Str×V),f∈(bC f v fs).map (·.1)/\∀g,g∈fs.map (·.1)->g∈(bC f v fs).map (·.1)
 | []=>⟨by simp[bC],fun g h=>by simp at h⟩
 |(k,x)::r=>by
  obtain ⟨i1,i2⟩:=jy f v r;rw[show bC f v ((k,x)::r)=(if k=f then (k,v)::r else (k,x)::bC f v r) from rfl]
  by_cases hk:k=f
  ·rw[if_pos hk];subst hk;exact ⟨by simp,fun g h=>by simpa using h⟩
  ·rw[if_neg hk];refine ⟨?_,fun g h=>?_⟩
   ·rw[GL];exact FX _ i1
   ·rw[GL] at h⊢;rcases FW.mp h with e|e
    ·exact FW.mpr (.inl e)
    ·exact FX _ (i2 g e)
theorem bK (f:Str) (v:V):∀fs:List (Str×V),(bC f v fs).length<=fs.length+1
 | []=>by simp[bC]
 |(k,x)::r=>by
  have ih:=bK f v r;rw[show bC f v ((k,x)::r)=(if k=f then (k,v)::r else (k,x)::bC f v r) from rfl]
  by_cases hk:k=f
  ·rw[if_pos hk,GV,GV];lia
  ·rw[if_neg hk,GV,GV];lia
theorem jv.some_of {v:V} {o:IR} (r:jv (some v) o):∃u,o=some u/\RelV v u:=by
 cases o with
 |none=>exact (show False from r).elim
 |some u=>exact ⟨u,rfl,r⟩
theorem vS {v:V} {u:Value} (r:RelV v u):PySem.W.handedIn u=true:=by
 cases v with
 |non=>cases (show u=Value.none from r);rfl
 |bl b=>cases (show u=Value.bool b from r);rfl
 |int i=>obtain ⟨t,e⟩:=(show ∃t,u=Value.int i t from r);cases e;rfl
 |str x=>obtain ⟨t,e⟩:=(show ∃t,u=Value.str x t from r);cases e;rfl
 |byt b=>obtain ⟨t,e⟩:=(show ∃t,u=Value.bytes b t from r);cases e;rfl
 |flt b=>obtain ⟨t,e⟩:=(show ∃t,u=Value.float b t from r);cases e;rfl
 |ref a=>cases (show u=Value.ref a from r);rfl
 |ty n=>cases (show u=Value.type n from r);rfl
section
variable {P:Program} {w:World} {h:Heap} {C dx:Addr} {fs fs':List (Str×V)}
theorem oq (hok:iA P w H h) (e:H a=some (.ins C dx fs)):∃mA,vQ h a dx C mA/\(∀f,jv (fs.lookup f) (mA f))/\PySem.Within mA (fs.map (·.1))/\fs.length<=1000/\H dx=some (.own a):=by
 obtain ⟨d,z,ne,ob,mA,n,r,q⟩:=(show cg P w H h a (.ins C dx fs) from hok a _ e)
 exact ⟨mA,⟨ob,n,ne⟩,r,q,z,d⟩
end
structure zI (K:F6) (C:Addr):Prop where
 pg:PySem.W.plainGet K C Str.empty=true
 hd:PySem.W.hasDictIn K C=true
 po:PySem.W.plainOver K C=true
 sa:HQ K (.ref C) "__setattr__" =some (some (.builtin "object.__setattr__"))
theorem zI.get {K:F6} {C:Addr} (c:zI K C) (f:Str):PySem.W.plainGet K C f=true:=c.pg
def cH (K:F6) (C:Addr) (f:Str):Prop:=HQ K (.ref C) f=some none
theorem cH.taker {K:F6} {C:Addr} {f:Str} (n:cH K C f):PySem.W.takerIn K C f=some none:=by
 unfold PySem.W.takerIn;rw[show HQ K (.ref C) f=some none from n]
 rfl
section
variable {C dx:Addr} {fs:List (Str×V)} {f:Str} {v:V} {A:Around}
theorem sg {b:Bool} {Q:II} (I:aR X pins σ H s) (e:H a=some (.ins C dx fs)) (c:zI X.K C) (n:cH X.K C f) (l:fs.lookup f=some v)
  (h:∀u s',aR X pins σ H s'->RelV v u->Q u s'):wpAny (model X.prog X.w) A (getAttr (.ref a) f b) Q E s:=by
 obtain ⟨mA,O,r,_,_,_⟩:=oq I.hok e;obtain ⟨u,hu,ru⟩:=jv.some_of (v:=v) (o:=mA f) (by rw[<-l];exact r f)
 exact zG I.kIn O (c.get f) c.hd n hu (vS ru) (h u _ (I.tok _) ru)
theorem sh {y:V} {u:Value} {Q:Unit->Shared->Prop} (I:aR X pins σ H s) (e:H a=some (.ins C dx fs)) (c:zI X.K C) (n:cH X.K C f) (hl:fs.length<1000) (ry:RelV y u)
  (h:∀s',aR X pins σ (aI H a (.ins C dx (bC f y fs))) s'->Q () s'):wpAny (model X.prog X.w) A (setAttr (.ref a) f u) Q E s:=by
 obtain ⟨mA,O,r,wi,_,ho⟩:=oq I.hok e;have hz:(fs.map (·.1)).length<=sizeLine:=by rw[F1,sizeLine_eq];lia
 refine zH I.kIn O c.sa c.po n.taker c.hd wi hz fun h' O' sb=>h _ ?_
 have hd:∃o,h'.get? dx=some o:=let ⟨o,_,_,e',_⟩:=O'.ns;⟨o,e'⟩;refine I.write (x:=a) (e:=dx) (by rw[e];exact True.intro) (.inr ho) (fun b q hb z=>(sb.2 b hb).trans z) hd ?_
 refine ⟨by rw[aJ O.ne];exact ho,?_,O.ne,O'.obj,_,O'.ns,fun g=>?_,fun g hg=>?_⟩
 ·have:=bK f y fs;lia
 ·show jv ((bC f y fs).lookup g) (if g=f then some u else mA g)
  rw[bD]
  by_cases q:g=f
  ·rw[if_pos q,if_pos q];exact ry
  ·rw[if_neg q,if_neg q];exact r g
 ·by_cases q:g=f
  ·rw[q];exact (jy f y fs).1
  ·refine (jy f y fs).2 g (wi g fun z=>hg ?_)
   show (if g=f then some u else mA g)=none
   rw[if_neg q];exact z
theorem aR.made (I:aR X pins σ H s):aR X pins σ (aI (aI H s.heap.objs.size (.own (s.heap.objs.size+1))) (s.heap.objs.size+1) (.ins C s.heap.objs.size []))
  {s with heap:=(s.heap.push Gu).push (HR C s.heap.objs.size)}:=by
 have e1:(s.heap.push Gu).get? s.heap.objs.size=some Gu:=Heap.get?_push_size s.heap rfl;have e2:((s.heap.push Gu).push (HR C s.heap.objs.size)).get? (s.heap.objs.size+1)=some (HR C s.heap.objs.size):=by
  have:=Heap.get?_push_size (s.heap.push Gu) (o:=HR C s.heap.objs.size) rfl
  rwa [Heap.size_push] at this
 have e3:(s.heap.push Gu).Ns s.heap.objs.size (fun _=>none):=⟨Gu,#[],_,e1,rfl,(fun e he=>absurd he (by simp)),fun _=>rfl⟩
 have I1:=I.laid (a:=s.heap.objs.size) (o:= .own (s.heap.objs.size+1)) (h':=s.heap.push Gu) (t':=s.toks) (fun b u q=>Heap.get?_push_of_some _ q) (F8 _) ⟨_,e1⟩
 refine I1.laid (a:=s.heap.objs.size+1) (o:= .ins C s.heap.objs.size []) (t':=s.toks) (fun b u q=>Heap.get?_push_of_some _ q) (Nat.le_of_eq (Heap.size_push _ _)) ?_
 have ne:s.heap.objs.size≠s.heap.objs.size+1:=FV (Gs _);refine ⟨by rw[aJ ne,ao],G4 _,ne,e2,fun _=>none,(Heap.Ns1.of_empty e3).at fun o q=>Heap.get?_push_of_some _ q,fun _=>True.intro,fun y hy=>absurd rfl hy⟩
theorem zJ {prog:Program} {w:World} {env:Env} {e:Expr} {f:Str} {pos:Pos} {s:Shared} {Q:II} (hb:attributeBase e f env (eval e env)=eval e env)
  (h:wpAny (model prog w) A (eval e env) (fun o s₁=>wpAny (model prog w) A (getAttr o f true) Q E s₁) E s):wpAny (model prog w) A (eval (.Attribute e f pos) env) Q E s:=
 Attribute_any_ h (by rw[arm_eval_Attribute,hb])
end
def Ew (K:F6) (ta:TE) (f:Str):TE:=fun σ H Q=>ta σ H fun x H1=>∃a C dx fs v,x= .ref a/\H1 a=some (.ins C dx fs)/\zI K C/\cH K C f/\fs.lookup f=some v/\Q v H1
def Ex (K:F6) (ta tv:TE) (f:Str):TS:=fun D σ H=>tv σ H fun y H1=>ta σ H1 fun x H2=>∃a C dx fs,x= .ref a/\H2 a=some (.ins C dx fs)/\zI K C/\cH K C f/\fs.length<1000/\
 D.nx σ (aI H2 a (.ins C dx (bC f y fs)))
section
variable {o e value:Expr} {f:Str} {pos pos' tpos:Pos} {ta tv:TE}
theorem dL (he:PE X e ta) (hb:attributeBase e f X.env (eval e X.env)=eval e X.env):PE X (.Attribute e f pos) (Ew X.K ta f):=by
 intro pins s σ H Q I h;refine zJ hb (bW (he pins s σ H _ I h) fun u s1 ⟨x,H1,I1,rx,a,C,dx,fs,v,ex,ea,c,n,l,q⟩=>?_)
 subst ex;obtain rfl:u=Value.ref a:=rx;exact sg I1 ea c n l fun u' s2 I2 ru=>⟨v,H1,I2,ru,q⟩
theorem kR (ha:PE X o ta) (hv:PE X value tv) (hs:swapsWith value (some (.Attribute o f pos')) pos.line X.env=pure false):PS X (.Assign [.Attribute o f pos'] value pos) (Ex X.K ta tv f):=by
 intro pins s σ H D I h;refine plainObj_wpAny_Assign_Attribute (bW (hv pins s σ H _ I h) fun u s1 ⟨y,H1,I1,ry,q⟩=>bW (ha pins s1 σ H1 _ I1 q) fun ov s2 ⟨x,H2,I2,rx,a,C,dx,fs,ex,ea,c,n,l,q2⟩=>?_) hs
 subst ex;obtain rfl:ov=Value.ref a:=rx;exact sh I2 ea c n l ry fun s3 I3=>⟨σ,_,I3,q2⟩
end
section
variable {A:Around} {Q:II} {c:Value} {b:Bool}
inductive iH (K:F6) (H:Hp):V->Value->Prop where
 |non:iH K H .non (.type "NoneType")
 |bl (x:Bool):iH K H (.bl x) (.type "bool")
 |int (i:Int):iH K H (.int i) (.type "int")
 |str (x:Str):iH K H (.str x) (.type "str")
 |flt (x:UInt64):iH K H (.flt x) (.type "float")
 |lst {a:Addr} {xs:List V} (e:H a=some (.lst xs)):iH K H (.ref a) (.type "list")
 |frz {a:Addr} {o:Obj} {xs:List V} (e:H a=some (.frz o (.lst xs))):iH K H (.ref a) (.type "list")
 |tup {a:Addr} {xs:List V} (e:H a=some (.tup xs)):iH K H (.ref a) (.type "tuple")
 |dK {a:Addr} {kvs:List (Key×V)} (e:H a=some (.dK kvs)):iH K H (.ref a) (.type "dict")
 |dT {a:Addr} {kvs:List (List Key×V)} (e:H a=some (.dT kvs)):iH K H (.ref a) (.type "dict")
 |ins {a C dx:Addr} {fs:List (Str×V)} (e:H a=some (.ins C dx fs)) (cl:zI K C) (ha:HQ K (.ref C) "__class__" =some (some (.builtin "object.__class__")))
   (hn:PySem.W.specialIn K (.builtin "object.__class__") "__get__" =some (some (.builtin "getset_descriptor.__get__"))) (htk:PySem.W.takesIn K (.builtin "object.__class__")=some true)
   (hm:PySem.W.mroIn K C (.type "object")=some true):iH K H (.ref a) (.ref C)
theorem vT {x:V} {u t:Value} (I:aR X pins σ H s) (rx:RelV x u) (ty:iH X.K H x t) (e:PySem.W.kitOne X.K t c=some b) (h:∀tk,Q (.bool b) {s with toks:=tk}):
  wpAny (model X.prog X.w) A (call (.builtin "isinstance") [u,c]) Q E s:=by
 cases ty with
 |non=>cases (show u=Value.none from rx);exact Gk PySem.W.kitx_none I.kIn True.intro e (fun z=>nomatch z) h
 |bl y=>cases (show u=Value.bool y from rx);exact Gk PySem.W.kitx_bool I.kIn True.intro e (fun z=>nomatch z) h
 |int i=>obtain ⟨t,q⟩:=(show ∃t,u=Value.int i t from rx);cases q;exact Gk PySem.W.kitx_int I.kIn True.intro e (fun z=>nomatch z) h
 |str y=>obtain ⟨t,q⟩:=(show ∃t,u=Value.str y t from rx);cases q;exact Gk PySem.W.kitx_str I.kIn True.intro e (fun z=>nomatch z) h
 |flt y=>obtain ⟨t,q⟩:=(show ∃t,u=Value.float y t from rx);cases q;exact Gk PySem.W.kitx_float I.kIn True.intro e (fun z=>nomatch z) h
 | @lst a xs ea=>
  cases (show u=Value.ref a from rx)
  obtain ⟨_,_,n,_,h1⟩:=(show cg X.prog X.w H s.heap a (.lst xs) from I.hok a _ ea)
  exact Gk PySem.W.kitx_list I.kIn ⟨_,h1,rfl⟩ e (fun z=>nomatch z) h
 | @frz a ob xs ea=>
  cases (show u=Value.ref a from rx)
  obtain ⟨_,_,_,n,_,h1⟩:=(show cg X.prog X.w H s.heap a (.frz ob (.lst xs)) from I.hok a _ ea)
  exact Gk PySem.W.kitx_list I.kIn ⟨_,h1,rfl⟩ e (fun z=>nomatch z) h
 | @tup a xs ea=>
  cases (show u=Value.ref a from rx)
  obtain ⟨_,_,_,p⟩:=(show cg X.prog X.w H s.heap a (.tup xs) from I.hok a _ ea)
  obtain ⟨o,h1,h2,_⟩:=p;exact Gk PySem.W.kitx_tuple I.kIn ⟨o,h1,h2⟩ e (fun z=>nomatch z) h
 | @dK a kvs ea=>
  cases (show u=Value.ref a from rx)
  obtain ⟨_,_,vs,_,p⟩:=(show cg X.prog X.w H s.heap a (.dK kvs) from I.hok a _ ea)
  obtain ⟨o,es,ep,h1,h2,_⟩:=p;exact Gk PySem.W.kitx_dict I.kIn ⟨o,h1,h2.1⟩ e (fun z=>nomatch z) h
 | @dT a kvs ea=>
  cases (show u=Value.ref a from rx)
  obtain ⟨_,_,xs,_,o,es,ep,h1,h2,_⟩:=(show cg X.prog X.w H s.heap a (.dT kvs) from I.hok a _ ea)
  exact Gk PySem.W.kitx_dict I.kIn ⟨o,h1,h2.1⟩ e (fun z=>nomatch z) h
 | @ins a C dx fs ea cl ha hn htk hm=>
  cases (show u=Value.ref a from rx)
  obtain ⟨mA,O,_⟩:=oq I.hok ea;obtain ⟨od,J,_⟩:=O.look;exact Gk (PySem.W.kitx_own (cl.get _) cl.hd ha hn htk hm) I.kIn J e (fun z=>nomatch z) h
end
structure dM (k:Nat) (A:Around):Prop where
 hd:A.handled=none
 dp:A.depth+3*k+5<recursionLimit
 un:A.units+16*k+200<cLine
theorem dM.mono {j k:Nat} {A:Around} (r:dM k A) (h:j<=k):dM j A:=⟨r.hd,by have:=r.dp;lia,by have:=r.un;lia⟩
theorem dM.deeper {k:Nat} {A:Around} (r:dM (k+1) A) (env:Env):dM k (A.deeper env):=
 ⟨r.hd,by have:=r.dp;show A.depth+1+3*k+5<_;lia,by have:=r.un;show A.units+3+16*k+200<_;lia⟩
theorem si {A:Around} {C:Addr} {us:IP} {kw:List (Str×Value)}:(A.under (.builtin "type.__call__" ⟨.ref C::us,kw⟩)).depth=A.depth+1:=by
 first|rfl|simp[Around.under,Code.weight,Code.isCreation,Code.isGuard,Code.isCaller,Code.frames,Code.isFrame,guardIds]
theorem sj {A:Around} {C:Addr} {us:IP} {kw:List (Str×Value)}:(A.under (.builtin "type.__call__" ⟨.ref C::us,kw⟩)).units=A.units+1:=by
 first|rfl|simp[Around.under,Code.cUnits,Code.frames,Code.isFrame]
theorem dM.make {k:Nat} {A:Around} (r:dM (k+1) A) (C:Addr) (us:IP) (kw:List (Str×Value)):dM k (A.under (.builtin "type.__call__" ⟨.ref C::us,kw⟩)):=
 ⟨r.hd,by have:=r.dp;rw[si];lia,by have:=r.un;rw[sj];lia⟩
theorem dM.depth {k:Nat} {A:Around} (r:dM k A):A.depth<recursionLimit:=by have:=r.dp;lia
theorem dM.units {k:Nat} {A:Around} (r:dM k A):A.units+64<cLine:=by have:=r.un;lia
theorem dM.units0 {k:Nat} {A:Around} (r:dM k A):A.units<cLine:=by have:=r.un;lia
def Ey:TA:=fun _ H Q=>Q [] H
def CJ (ta:TE) (tr:TA):TA:=fun σ H Q=>ta σ H fun x H1=>tr σ H1 fun xs H2=>Q (x::xs) H2
section
variable {e:Expr} {es:List Expr} {te:TE} {t:TA} {pos:Pos}
theorem ae:PA X [] Ey:=fun _ _ _ _ H Q I h=>Calls.spliced_nil ⟨[],H,I,.nil,h⟩
theorem aa (ha:PE X e te) (hr:PA X es t) (hs:starEach (e::es) X.env=(false,eval e X.env)::starEach es X.env:=by rfl):PA X (e::es) (CJ te t):=by
 intro pos pins s σ H Q I h;rw[hs];show wpAny _ _ (spliced ((false,eval e X.env)::backTo pos (starEach es X.env))) _ _ s;refine Calls.spliced_cons (bW (ha pins s σ H _ I h) fun u s1 ⟨x,H1,I1,r1,q1⟩=>?_)
 exact bW (hr pos pins s1 σ H1 _ I1 q1) fun us s2 ⟨xs,H2,I2,r2,q2⟩=>⟨x::xs,H2,I2,.cons r1 r2,q2⟩
def Ez (t:TA):TE:=fun σ H Q=>t σ H fun xs H1=>xs.length<=sizeLine/\∀p,H1 p=none->Q (.ref p) (aI H1 p (.tup xs))
def EA (t:TA):TE:=fun σ H Q=>t σ H fun xs H1=>xs.length<=sizeLine/\∀p,H1 p=none->Q (.ref p) (aI H1 p (.lst xs))
theorem bR {x1} (h:PA X es t):PE X (.Tuple es x1 pos) (Ez t):=by
 intro pins s σ H Q I hq;refine wpAny_Tuple_spliced (bW (h pos pins s σ H _ I hq) fun us s1 ⟨xs,H1,I1,r,z,q⟩=>⟨by rw[<-r.length];exact z,?_⟩)
 have hf:H1 s1.heap.objs.size=none:=I1.hok.fresh (F8 _);refine ⟨.ref s1.heap.objs.size,aI H1 s1.heap.objs.size (.tup xs),I1.laid (t':=s1.toks) (fun b u e=>Heap.get?_push_of_some _ e) (F8 _) ?_,rfl,q _ hf⟩
 exact ⟨z,us,r,⟨_,Heap.get?_push_size _ rfl,rfl,_,rfl⟩⟩
theorem aU (h:PA X es t):PE X (.List es pos) (EA t):=by
 intro pins s σ H Q I hq;refine wpAny_List_spliced (bW (h pos pins s σ H _ I hq) fun us s1 ⟨xs,H1,I1,r,z,q⟩=>⟨by rw[<-r.length];exact z,?_⟩)
 have hf:H1 s1.heap.objs.size=none:=I1.hok.fresh (F8 _);refine ⟨.ref s1.heap.objs.size,aI H1 s1.heap.objs.size (.lst xs),I1.laid (t':=s1.toks) (fun b u e=>Heap.get?_push_of_some _ e) (F8 _) ?_,rfl,q _ hf⟩
 exact ⟨z,us,0,r,Heap.get?_push_size _ rfl⟩
end
abbrev Sp:=List V->Hp->VK->XK->Prop
abbrev uk:=List Env->Hp->Shared->XK->Value->Shared->Prop
structure su (P:Program) (w:World) (K:F6) (mg:IJ) (base:Heap) (A:Around) (outer:List Env) (s:Shared) (H:Hp):Prop where
 frames:A.frames=some outer
 mod:Mod K mg base
 bs:∀b o,base.get? b=some o->s.heap.get? b=some o/\H b=none
 bsz:base.objs.size<=s.heap.objs.size
 funs:s.heap.FunFrames base outer
 frf:∀b∈vK outer,H b=none
 hok:iA P w H s.heap
 bare:AllBare s.gens
def CE (outer:List Env) (P:Program) (w:World) (H:Hp) (s:Shared) (Q:VK) (u:Value) (s':Shared):Prop:=
 ∃v H',s'.os=s.os/\AllBare s'.gens/\Un (vK outer) [] H H' s.heap s'.heap/\iA P w H' s'.heap/\RelV v u/\Q v H'
def CR (CX:uk) (outer:List Env) (P:Program) (w:World) (H:Hp) (s:Shared) (Q:VK) (E:XK) (r:Result) (s':Shared):Prop:=
 match r with
 | .ok (.ret u)=>CE outer P w H s Q u s'
 | .ok _=>False
 | .error e=>CX outer H s E e s'
structure bS (P:Program) (w:World) (K:F6) (mg:IJ) (base:Heap) (CX:uk) (k:Nat) (f:Addr) (fd:FuncData) (ps:IM) (sp:Sp):Prop where
 len:∀vs H Q E,sp vs H Q E->vs.length=ps.length
 run:∀(A:Around) (outer:List Env) (s:Shared) (H:Hp) (args:Args) (us:IP) (vs:List V) (Q:VK) (E:XK),dM k A->su P w K mg base A outer s H->BindsTo s fd args (ps.zip us)->bG vs us->sp vs H Q E->
  codeAny (model P w) A (.call (.ref f) args) (CR CX outer P w H s Q E) s
theorem su.make {P:Program} {w:World} {K:F6} {mg:IJ} {base:Heap} {A:Around} {outer:List Env} {s:Shared} {H:Hp} (e:su P w K mg base A outer s H) (C:Addr) (us:IP) (kw:List (Str×Value)):
  su P w K mg base (A.under (.builtin "type.__call__" ⟨.ref C::us,kw⟩)) outer s H:=⟨by first|exact e.frames|(simpa [Around.under,Code.envs,Code.isFrame,pushEnvs] using e.frames),e.mod,e.bs,e.bsz,e.funs,e.frf,e.hok,e.bare⟩
variable {s':Shared}
theorem aR.env0 (I:aR X pins σ H s):su X.prog X.w X.K X.mg X.base X.A X.stack s H:=
 ⟨I.ok.frames,I.ok.mod,I.bs,Gf I.ok.bsz I.sz,I.stack,I.stkFree,I.hok,I.bare⟩
theorem aR.after {Q:VK} {u:Value} (I:aR X pins σ H s) (h:CE X.stack X.prog X.w H s Q u s'):EP X pins σ Q u s':=by
 obtain ⟨v,H',os,bare,un,hok,r,q⟩:=h;obtain ⟨hh,g,d,t,os'⟩:=s';obtain rfl:os'=s.os:=os;exact ⟨v,H',I.call (h':=hh) (g':=g) (d':=d) (t':=t) (ch:= []) un hok bare (fun b z=>absurd z (by simp)),r,q⟩
def xL (sp:Sp) (dvs:List V) (E:XK) (t:TA):TE:=fun σ H Q=>t σ H fun vs H1=>sp (vs++dvs) H1 Q E
def xM (C:Addr) (sp:Sp) (dvs:List V) (E:XK) (t:TA):TE:=fun σ H Q=>t σ H fun vs H1=>∀x dx,H1 x=none->H1 dx=none->dx≠x->
 sp (.ref x::(vs++dvs)) (aI (aI H1 dx (.own x)) x (.ins C dx [])) (fun v H2=>v= .non/\Q (.ref x) H2) E
def Binds (K:F6) (fd:FuncData) (ps:IM) (ds:IP):Prop:=
 ∀(s:Shared) (us:IP),K.In s.heap->(us++ds).length=ps.length->BindsTo s fd ⟨us,[]⟩ (ps.zip (us++ds))
theorem Binds.all {K:F6} {fd:FuncData} {ps:IM} (h:∀us:IP,us.length=ps.length->bindArgs fd ⟨us,[]⟩=pure (ps.zip us)):Binds K fd ps []:=fun s us _ hl=>by
 rw[Gn] at hl⊢;exact .of_eq (h us hl)
def kS (CX:uk) (X:Cx) (E:XK):Prop:=∀(pins:IK) (σ:St) (H:Hp) (s:Shared) (e:Value) (s':Shared),aR X pins σ H s->CX X.stack H s E e s'->X.xe e s'
section
variable {CX:uk} {k:Nat} {f C:Addr} {fd:FuncData} {ps:IM} {sp:Sp} {dvs:List V} {ds:IP} {E:XK} {x m:Str} {p pos apos:Pos} {e o:Expr} {es:List Expr} {ta:TE} {t:TA}
theorem Bb {pins:IK} {σ:St} {H:Hp} {s:Shared} {Q:VK} {us:IP} {vs:List V} (F:bS X.prog X.w X.K X.mg X.base CX k f fd ps sp) (hr:dM k X.A) (hb:Binds X.K fd ps ds) (hd:bG dvs ds) (hx:kS CX X E)
  (I:aR X pins σ H s) (r:bG vs us) (h:sp (vs++dvs) H Q E):wpAny (model X.prog X.w) X.A (call (.ref f) us) (EP X pins σ Q) X.xe s:=by
 have r2:bG (vs++dvs) (us++ds):=r.append hd;have hl:(us++ds).length=ps.length:=by rw[<-r2.length];exact F.len _ _ _ _ h
 refine wpAny_call (codeAny_mono (F.run X.A X.stack s H ⟨us,[]⟩ (us++ds) (vs++dvs) Q E hr I.env0 (hb s us I.kIn hl) r2 h) fun r s' hq=>?_)
 cases r with
 |error e=>exact hx pins σ H s e s' I hq
 |ok fl=>
  cases fl with
  |ret u=>exact I.after hq
  |next=>exact False.elim hq
  |brk=>exact False.elim hq
  |cont=>exact False.elim hq
theorem zK (F:bS X.prog X.w X.K X.mg X.base CX k f fd ps sp) (hr:dM k X.A) (hg:Gl X x) (hm:X.mg x=some (.ref f)) (hk:HX X.K (.ref f)=true) (hb:Binds X.K fd ps ds) (hd:bG dvs ds) (hx:kS CX X E)
  (ha:PA X (e::es) t) (hdb:(x==("__debug__" :Str))=false:=by decide) (he:starEach (e::es) X.env=(false,eval e X.env)::starEach es X.env:=by rfl) (hpl:(backTo pos (starEach es X.env)).any (·.1)=false:=by rfl):
  PE X (.Call (.Name x p) (e::es) [] pos) (xL sp dvs E t):=by
 intro pins s σ H Q I h;refine wpAny_Call_Name_kw (om I hg hm ?_ hdb);refine PySem.W.callWith_K (h₀:=X.base) I.ok.mod.kin hk (bW (ha pos pins s σ H _ I h) fun us s1 ⟨vs,H1,I1,r,q⟩=>⟨I1.kIn,?_⟩) he hpl
 exact Bb F hr hb hd hx I1 r q
structure Mk (K:F6) (C f:Addr):Prop where
 makes:PySem.W.makesIn K C=true
 init:HQ K (.ref C) "__init__" =some (some (.ref f))
 fn:PySem.W.isFn K (.ref f)=true
 kp:HX K (.ref C)=true
theorem xN {pins:IK} {σ:St} {H:Hp} {s:Shared} {Q:VK} {us:IP} {vs:List V} (M:Mk X.K C f) (F:bS X.prog X.w X.K X.mg X.base CX k f fd ps sp) (hr:dM (k+1) X.A) (hb:Binds X.K fd ps ds) (hd:bG dvs ds)
  (hx:kS CX X E) (I:aR X pins σ H s) (r:bG vs us)
  (h:∀x dx,H x=none->H dx=none->dx≠x->sp (.ref x::(vs++dvs)) (aI (aI H dx (.own x)) x (.ins C dx [])) (fun v H2=>v= .non/\Q (.ref x) H2) E):
  wpAny (model X.prog X.w) X.A (call (.ref C) us) (EP X pins σ Q) X.xe s:=by
 have hq:=h (s.heap.objs.size+1) s.heap.objs.size (I.hok.fresh (He _)) (I.hok.fresh (F8 _)) (FV (Gs _));have I2:=aR.made (C:=C) I;have r2:bG (V.ref (s.heap.objs.size+1)::(vs++dvs)) (Value.ref (s.heap.objs.size+1)::(us++ds)):= .cons rfl (r.append hd);have hl:(Value.ref (s.heap.objs.size+1)::us++ds).length=ps.length:=by
  have e:=r2.length;rw[F.len _ _ _ _ hq] at e;exact e.symm
 refine wpAny_call (xK (f:=f) I.kIn M.makes M.init (beq_iff_eq.mp M.fn) (codeAny_mono (F.run _ X.stack _ _ ⟨Value.ref (s.heap.objs.size+1)::us,[]⟩ (Value.ref (s.heap.objs.size+1)::(us++ds)) _ _ E (hr.make C us [])
  (I2.env0.make C us []) (hb _ (Value.ref (s.heap.objs.size+1)::us) I2.kIn hl) r2 hq) fun r s' hq'=>?_))
 cases r with
 |error e=>exact hx pins σ _ _ e s' I2 hq'
 |ok fl=>
  cases fl with
  |ret u=>
   obtain ⟨v,H',I3,rv,ev,q3⟩:=I2.after hq';subst ev;exact ⟨rv,⟨V.ref (s.heap.objs.size+1),H',I3,rfl,q3⟩⟩
  |next=>exact False.elim hq'
  |brk=>exact False.elim hq'
  |cont=>exact False.elim hq'
theorem um (M:Mk X.K C f) (F:bS X.prog X.w X.K X.mg X.base CX k f fd ps sp) (hr:dM (k+1) X.A) (hg:Gl X x) (hm:X.mg x=some (.ref C)) (hb:Binds X.K fd ps ds) (hd:bG dvs ds) (hx:kS CX X E)
  (ha:PA X (e::es) t) (hdb:(x==("__debug__" :Str))=false:=by decide) (he:starEach (e::es) X.env=(false,eval e X.env)::starEach es X.env:=by rfl) (hpl:(backTo pos (starEach es X.env)).any (·.1)=false:=by rfl):
  PE X (.Call (.Name x p) (e::es) [] pos) (xM C sp dvs E t):=by
 intro pins s σ H Q I h;refine wpAny_Call_Name_kw (om I hg hm ?_ hdb);refine PySem.W.callWith_K (h₀:=X.base) I.ok.mod.kin M.kp (bW (ha pos pins s σ H _ I h) fun us s1 ⟨vs,H1,I1,r,q⟩=>⟨I1.kIn,?_⟩) he hpl
 exact xN M F hr hb hd hx I1 r q
end
structure aK (N P:IM) (sc:Scope):Prop where
 kind:sc.kind= .function
 co:sc.isCoroutine=false
 gen:sc.isGenerator=false
 nd:N.Nodup
 pre:N.take P.length=P
 par:∀x∈P,sc.names.lookup x=some .local∨sc.names.lookup x=some .cell
 nofree:∀y∈sc.names,y.2≠ .free
theorem mY {kindOf:Str->Option NameKind} {x:Str}:∀{binds:List (Str×Value)} {m:IJ},(∀v,(x,v)∉binds)->bindL kindOf binds m x=m x
 | [],_,_=>rfl
 |(n,v)::r,m,h=>by
  unfold bindL;rw[mY fun w hw=>h w (FX _ hw)]
  split
  ·have:x≠n:=by rintro rfl;exact h v GJ
   simp[this]
  ·rfl
theorem mZ {kindOf:Str->Option NameKind} {x:Str}:∀{binds:List (Str×Value)} {m:IJ},(∀v,(x,v)∉binds)->bindC kindOf binds m x=m x
 | [],_,_=>rfl
 |(n,v)::r,m,h=>by
  unfold bindC;rw[mZ fun w hw=>h w (FX _ hw)]
  split
  ·rfl
  ·have:x≠n:=by rintro rfl;exact h v GJ
   simp[this]
theorem m5 {kindOf:Str->Option NameKind} {x:Str} {v:Value}:∀{P:IM} {vs:IP} {i:Nat} {m:IJ},P.Nodup->P[i]?=some x->vs[i]?=some v->kindOf x=some .local->
  bindL kindOf (P.zip vs) m x=some v
 | [],_,_,_,_,h,_,_=>by simp at h
 |_::_,[],_,_,_,_,h,_=>by simp at h
 |p::P,w::vs,0,m,nd,h1,h2,hk=>by
  simp at h1 h2;subst h1;subst h2;show bindL kindOf ((p,w)::P.zip vs) m p=_;unfold bindL;rw[mY fun v hv=>(Gc.mp nd).1 (List.of_mem_zip hv).1,if_pos hk]
  simp
 |p::P,w::vs,i+1,m,nd,h1,h2,hk=>by
  show bindL kindOf ((p,w)::P.zip vs) m x=_;unfold bindL;exact m5 (i:=i) (Gc.mp nd).2 (by simpa using h1) (by simpa using h2) hk
theorem m7 {kindOf:Str->Option NameKind} {x:Str} {v:Value}:∀{P:IM} {vs:IP} {i:Nat} {m:IJ},P.Nodup->P[i]?=some x->vs[i]?=some v->kindOf x≠some .local->
  bindC kindOf (P.zip vs) m x=some v
 | [],_,_,_,_,h,_,_=>by simp at h
 |_::_,[],_,_,_,_,h,_=>by simp at h
 |p::P,w::vs,0,m,nd,h1,h2,hk=>by
  simp at h1 h2;subst h1;subst h2;show bindC kindOf ((p,w)::P.zip vs) m p=_;unfold bindC;rw[mZ fun v hv=>(Gc.mp nd).1 (List.of_mem_zip hv).1,if_neg hk]
  simp
 |p::P,w::vs,i+1,m,nd,h1,h2,hk=>by
  show bindC kindOf ((p,w)::P.zip vs) m x=_;unfold bindC;exact m7 (i:=i) (Gc.mp nd).2 (by simpa using h1) (by simpa using h2) hk
noncomputable def start (N:IM) (vs:List V):St:=vs.map some++List.replicate (N.length-vs.length) none
noncomputable def vU (CX:uk) (P:Program) (w:World) (K:F6) (mg:IJ) (base:Heap) (N:IM) (qual:Str) (scope:Scope) (f:Addr) (cd:Value) (A:Around) (outer:List Env) (s:Shared) (H:Hp) (E:XK):Cx where
 prog:=P
 w:=w
 K:=K
 mg:=mg
 base:=base
 A:=A.deeper (envOfC qual scope s.heap.objs.size f cd)
 N:=N
 s₀:=s
 H₀:=H
 env:=envOfC qual scope s.heap.objs.size f cd
 outer:=outer
 stack:=envOfC qual scope s.heap.objs.size f cd::outer
 ex:= []
 calm:=true
 fn:=fun _=>true
 pn:= []
 xe:=fun e s'=>wpAny (model P w) (A.deeper (envOfC qual scope s.heap.objs.size f cd)) (leaving (envOfC qual scope s.heap.objs.size f cd) e) (fun _ s''=>CX outer H s E e s'') (fun e' s''=>CX outer H s E e' s'') s'
theorem pY {sc:Scope} {n:Nat} {x:Str} (h:sc.names.lookup x=some .cell):∃c,(cellsFrom n sc.names []).lookup x=some c:=by
 have q:=PySem.W.cellsFrom_some sc.names n [] (.inl h);exact GX.mp q
theorem vV {CX:uk} {P:Program} {w:World} {K:F6} {mg:IJ} {base:Heap} {N ps:IM} {qual:Str} {scope:Scope} {f:Addr} {cd:Value} {A:Around} {outer:List Env} {s s1:Shared} {H:Hp} {E:XK} {us:IP} {vs:List V}
  (S:aK N ps scope) (hd:A.handled=none) (e0:su P w K mg base A outer s H) (hl:vs.length=ps.length) (r:bG vs us)
  (x:InCallC s s.heap.objs.size (bindL (envOfC qual scope s.heap.objs.size f cd).kindOf (ps.zip us) fun _=>none) (cellsFrom (s.heap.objs.size+1) scope.names []) (bindC (envOfC qual scope s.heap.objs.size f cd).kindOf (ps.zip us) fun _=>none) s1):
  aR (vU CX P w K mg base N qual scope f cd A outer s H E) [] (start N vs) H s1:=by
 have hpl:ps.length<=N.length:=by have:=congrArg List.length S.pre;rw[GA] at this;lia
 obtain ⟨h1,tk,rfl,hk⟩:=x.done;have noA:∀b:Addr,b∉(vU CX P w K mg base N qual scope f cd A outer s H E).ex:=fun b z=>absurd (show b∈([]:IN) from z) (by simp)
 refine ⟨⟨e0.mod,S.kind,rfl,rfl,F8 _,fun y z c h1 h2=>?_,fun y hy=>?_,fun y c _ h=>?_,fun _=>hd,Around.frames_deeper e0.frames,.inr ⟨rfl,rfl⟩,fun b z=>absurd z (noA b),e0.bs,e0.bsz,fun b _ _=>noA b,fun b z=>absurd z (noA b),e0.funs,e0.frf⟩,
  rfl,e0.bare,Un.kept hk,⟨_,x.toInCall.ns,fun i y v h1 h2 h3=>?_⟩,fun y c h=>⟨_,x.cell y c h⟩,e0.hok.fresh (F8 _),fun y c h=>?_,fun p hp=>absurd (show p∈([]:IK) from hp) (by simp),e0.hok.kept hk,?_⟩
 ·exact name_of_addr x.apart (GU h1) (GU h2)
 ·have hy:scope.names.lookup y=some .cell∨scope.names.lookup y=some .free:=hy;rcases hy with hy|hy
  ·exact pY hy
  ·exact absurd rfl (S.nofree _ (GU hy))
 ·exact Nat.le_of_lt (x.above y c (GU h))
 ·have hi:i<vs.length:=by
   unfold start at h2
   by_cases hi:i<vs.length
   ·exact hi
   ·rw[F9 (by simpa using hi)] at h2
    rw[List.getElem?_replicate] at h2
    split at h2<;>cases h2
  have ha:vs[i]?=some v:=by
   unfold start at h2;rw[FU (by simpa using hi),F7] at h2
   cases e:vs[i]? with
   |none=>rw[e] at h2;cases h2
   |some a=>rw[e] at h2;cases h2;rfl
  obtain ⟨u,hu,rv⟩:=r.get ha;have hp:ps[i]?=some y:=by
   rw[<-S.pre,Ho (by lia)];exact h1
  have ndP:ps.Nodup:=by rw[<-S.pre];exact S.nd.sublist (List.take_sublist _ _)
  refine ⟨u,rv,?_⟩;rcases S.par y (F5 hp) with k|k
  ·exact .inl ⟨k,m5 ndP hp hu k⟩
  ·obtain ⟨c,e⟩:=pY (n:=s.heap.objs.size+1) k;refine .inr ⟨.inl k,c,e,?_⟩;have q:=x.cell y c e;rw[m7 ndP hp hu (by show scope.names.lookup y≠_;rw[k];decide)] at q
   exact q
 ·exact e0.hok.fresh (Nat.le_of_lt (x.above y c (GU h)))
 ·unfold start;show _=N.length;rw[FP,F1,List.length_replicate]
  lia
theorem uq {CX:uk} {P:Program} {w:World} {K:F6} {mg:IJ} {base:Heap} {k:Nat} {f:Addr} {name qual:Str} {params:Arguments} {body:List Stmt} {scope:Scope} {dV kV doc pm cdv ct oc:Value} {an od:IQ}
  {osl:IL} {N ps:IM} {sp:Sp} (lk:K.lookup f=some ⟨oc,od,.func (HL name qual params body scope dV kV doc pm an cdv ct),osl⟩) (hcd:PySem.W.codeIn K cdv qual=true) (S:aK N ps scope)
  (len:∀vs H Q E,sp vs H Q E->vs.length=ps.length)
  (hbody:∀(A:Around) (outer:List Env) (s:Shared) (H:Hp) (vs:List V) (Q:VK) (E:XK),dM k (A.deeper (envOfC qual scope s.heap.objs.size f cdv))->sp vs H Q E->
   ∃t,vL (vU CX P w K mg base N qual scope f cdv A outer s H E) body t/\t {nx:=fun _ H'=>Q .non H',rt:=Q} (start N vs) H):
  bS P w K mg base CX (k+1) f (HL name qual params body scope dV kV doc pm an cdv ct) ps sp:=by
 refine ⟨len,fun A outer s H args us vs Q E hr e0 hb r hsp=>?_⟩
 have hl:=len _ _ _ _ hsp;have KX:K.In s.heap:=e0.mod.kin.keeps fun b o e=>(e0.bs b o e).1
 have lim:s.heap.NoLimit:=e0.mod.nolimit.keeps fun b o e=>(e0.bs b o e).1
 have hkind:∀y∈ps.zip us,scope.names.lookup y.1=some .local∨(scope.names.lookup y.1=some .cell/\((cellsFrom (s.heap.objs.size+1) scope.names []).lookup y.1).isSome=true):=fun ⟨n,v⟩ hy=>by
  rcases S.par n (List.of_mem_zip hy).1 with q|q
  ·exact .inl q
  ·exact .inr ⟨q,PySem.W.cellsFrom_some _ _ _ (.inl q)⟩
 refine codeAny_call_function hr.depth (KX _ _ lk) rfl S.co S.gen rfl (PySem.W.codeRec_of KX hcd) (hb _ _ _ _ ?_);refine wpAny_newFunctionEnv_cells S.kind hkind fun env he s1 x=>?_
 subst he;refine ⟨lim.keeps x.toInCall.keep,codeAny_func ?_⟩;obtain ⟨t,ht,hq⟩:=hbody A outer s H vs Q E (hr.deeper _) hsp;have I:aR (vU CX P w K mg base N qual scope f cdv A outer s H E) [] (start N vs) H s1:=vV S hr.hd e0 hl r x;refine wpAny_mono (ht [] s1 (start N vs) H _ I hq) (fun fl s' hs=>?_) fun e s' hs=>hs
 have fin:∀{σ':St} {H':Hp} {v:V} {u:Value},aR (vU CX P w K mg base N qual scope f cdv A outer s H E) [] σ' H' s'->RelV v u->Q v H'->CE outer P w H s Q u s':=
  fun {σ' H' v u} J rv q=>⟨v,H',J.os,J.bare,J.base,J.hok,rv,q⟩
 cases fl with
 |ret u=>
  obtain ⟨v,σ',H',J,rv,q⟩:=hs;exact fin J rv q
 |next=>
  obtain ⟨σ',H',J,q⟩:=hs;exact fin (v:=V.non) (u:=Value.none) J rfl q
 |brk=>
  obtain ⟨_,_,_,q⟩:=hs;exact False.elim q
 |cont=>
  obtain ⟨_,_,_,q⟩:=hs;exact False.elim q
section
variable {x:Str} {p pos:Pos} {e:Expr} {es:List Expr} {t:TA} {id T:String} {r:List V->Hp->VK->Prop}
def Fl (r:List V->Hp->VK->Prop) (t:TA):TE:=fun σ H Q=>t σ H fun vs H1=>r vs H1 Q
theorem az (hc:cL X (.builtin id) r) (hg:Gl X x) (hm:X.mg x=none) (hv:bootBuiltins x=some (.builtin id)) (ha:PA X (e::es) t) (hn:x≠ "__name__" :=by decide) (hdb:(x==("__debug__" :Str))=false:=by decide)
  (he:starEach (e::es) X.env=(false,eval e X.env)::starEach es X.env:=by rfl) (hpl:(backTo pos (starEach es X.env)).any (·.1)=false:=by rfl):PE X (.Call (.Name x p) (e::es) [] pos) (Fl r t):=by
 intro pins s σ H Q I h;refine wpAny_Call_Name_kw (dA I hg hm hv ?_ hn hdb);exact PyProof.Rows.callWith_builtin1 (bW (ha pos pins s σ H _ I h) fun us s1 ⟨vs,H1,I1,r1,q1⟩=>hc pins s1 σ H1 vs us Q I1 r1 q1) he hpl
theorem cQ (hc:cL X (.type T) r) (hg:Gl X x) (hm:X.mg x=none) (hv:bootBuiltins x=some (.type T)) (ha:PA X (e::es) t) (hn:x≠ "__name__" :=by decide) (hdb:(x==("__debug__" :Str))=false:=by decide)
  (he:starEach (e::es) X.env=(false,eval e X.env)::starEach es X.env:=by rfl) (hpl:(backTo pos (starEach es X.env)).any (·.1)=false:=by rfl):PE X (.Call (.Name x p) (e::es) [] pos) (Fl r t):=by
 intro pins s σ H Q I h;refine wpAny_Call_Name_kw (dA I hg hm hv ?_ hn hdb);exact GO (bW (ha pos pins s σ H _ I h) fun us s1 ⟨vs,H1,I1,r1,q1⟩=>hc pins s1 σ H1 vs us Q I1 r1 q1) he hpl
end
end L2
open Lean in
local macro_rules|`(⟨$xs,*⟩)=>do
 let mut y:Array (TSyntax `term):=#[]
 let mut c:=false
 for x in xs.getElems do
  if x.raw.getId== `ν then
   c:=true
   y:=(y.push (←`(_))).push (←`(rfl))
  else if x.raw.getId== `ω then
   c:=true
   y:=(((y.push (←`(_))).push (←`(_))).push (←`(rfl))).push (←`(rfl))
  else y:=y.push x
 if c then `(⟨$y,*⟩) else Macro.throwUnsupported
local macro_rules|`($a<*>$b)=>`(@L2.aa _ _ _ _ _ $a $b rfl)
set_option hygiene false in
local macro_rules|`(tactic|and_intros)=>`(tactic|refine F.ok sc (fun vs H Q E h=>by repeat first|(obtain ⟨rfl,_⟩:=h;rfl)|obtain ⟨_,h⟩:=h) (fun cdv A outer s H vs Q E hr h=>?_))
local macro_rules|`(tactic|exists $a,*)=>`(tactic|refine ⟨$a,*, ?_⟩)
local macro_rules|`(($x,$y,*))=>`(⟨$x,$y,*⟩)
set_option compiler.extract_closed false in
set_option hygiene false in
local macro_rules|`(tactic|sleep $n:num)=>do
 let n:=n.getNat
 let s<-match n/8 with
 |0=>`(tactic|first|(have sl:sizeLine=16777216:=sizeLine_eq)|(unfold Builtin.«set_iterator.__next__»;refine wpAny_bind (m:=slotArgs _ _ _) ?_;show wpAny _ _ (pure (Prod.mk (Value.ref I) ([]))) _ _ s;refine wpAny_pure ?_;refine wpAny_bind (wpAny_fieldsOf hI rfl ?_);show wpAny _ _ (setEntries S>>=_) _ _ s)|(obtain ⟨it,fp,tn,J,H2,rfl,I2,T,st2,f2,q2⟩:=h2;obtain ⟨W,⟨m0,w0⟩,turn⟩:=q2 s2.heap.objs.size (I2.hok.fresh 160);refine wpAny_newObj_type (wpAny_newFunctionEnv ncell (by intro y hy;simp at hy) (λh1 hns hsb=>?_) ok.kind))|(refine wpAny_bind (m:=slotArgs _ _ _) ?_;show wpAny _ _ (pure (Prod.mk (Value.ref I) ([]))) _ _ s;refine wpAny_pure ?_;refine wpAny_bind (wpAny_fieldsOf hI rfl ?_);show wpAny _ _ (setEntries S>>=_) _ _ s;refine wpAny_bind (eC hS ?_))|(show wpAny _ _ (pure (Prod.mk (Value.ref I) ([]))) _ _ s;refine wpAny_pure ?_;refine wpAny_bind (wpAny_fieldsOf hI rfl ?_);show wpAny _ _ (setEntries S>>=_) _ _ s;refine wpAny_bind (eC hS ?_);rw[if_neg 82])|(clear h_ _hi _hj;subst _r1)|(dsimp only at hns hsb⊢;rw[<-e3] at hns hsb;have hk:∀b o,s3.heap.get? b=some o->h1.get? b=some o:=λb o e=>hsb.extBut b o (FV (Heap.lt_size e)) (Heap.get?_push_of_some _ e))|(refine wpAny_pyIter_slot hT cC (wpAny_call_entry cC hT eB ?_ (fr _));show wpAny _ _ (ret 215) _ _ s;exact wpAny_pure (ν,"set_iterator",_,hT,bJ.lookup,hQ)))
 |1=>`(tactic|first|(apply codeAny_builtin F.entry_set_update_loop;rw[Around.under_plainId F.plain_set_update_loop _];show wpAny _ _ (pyNext 215>>=_) _ _ s;apply wpAny_bind)|(generalize hs3:({s2 with heap:=s2.heap.push 134,toks:=s2.toks}:Shared)=s3 at I3)|(have f3:∀b∈fp,dQ X pins (aI H2 s2.heap.objs.size 85) b:=λb hb=>(by rw[aJ (FV (fpo b hb))];exact (f2 b hb).1,(f2 b hb).2))|(intro X hP hw hK hc i pins s σ H E I hf st hg;subst hP hw hK)|(intro pins s σ H Q I h;apply wpAny_Call_Name_kw;refine dA I g1 m1 b1 ?_ 73 73)|(show wpAny _ _ (exec _ X.env) _ _ _;rw[exec_Assign_Name_used _ _ _ _ hsw];refine wpAny_bind (wpAny_standAt (wpAny_bind ?_)))|(intro pins s σ H xs us Q I r h)|(refine wpAny_comprehension_free rfl hs ok.clos ok.kind nloc (bW (hi pins s σ H _ I h) λv s1 h1=>bW h1 λitv s2 h2=>?_)))
 |2=>`(tactic|first|(have e3:s3.heap=s2.heap.push {cls:= .type "list",dict:=none,data:= .seq ([]:IP).toArray}:=by rw[<-hs3])|(refine lt3 ?_;intro D' r2 r1)|(dsimp only;refine wpAny_bind (wpAny_bind (wpAny_askSetting 126)))|(have t0:tn 0 h1:=T.keep 0 _ _ st2 λb hb o e=>hk b o (by rw[e3];exact Heap.get?_push_of_some _ e))|(have lt3:∀b∈fp,b<s3.heap.objs.size:=λb hb=>by rw[e3,Heap.size_push];exact GR (fpo b hb))|(clear h_ _hi _hj _hk;subst _r1)|(apply wpAny_bind)|(clear h _hi _hj _hk;subst _r1))
 |3=>`(tactic|first|(clear h _hi _hj;subst _r1)|(show wpAny _ A (load s.heap.objs.size>>=_) _ _ _)|(obtain ⟨f0,f1,f2,f3,f4,f5⟩:=hf it 82)|(obtain ⟨⟨slot,z1,z2,hI⟩,hS⟩:=st)|(refine AR ?_;intro D' r3 r2 r1)|(refine zC ?_;intro D' r1)|(refine cP _hi λhw _hj=>?_)|(refine wpS_bind (wpS_get ?_)))
 |4=>`(tactic|first|(obtain ⟨b,hb,rfl⟩:=d9 hy)|(refine fh _hk λ_r1 _ _ _hl=>?_)|(have q:=lookup_all ok.has z)|(clear h _hi;subst _r1)|(and_intros))
 |_=>Lean.Macro.throwUnsupported
 `(tactic|($(.mk s.raw[1][n%8][1])))
set_option compiler.extract_closed false in
set_option hygiene false in
local macro_rules|`($n:num)=>do
 let n:=n.getNat
 if n<36 then Lean.Macro.throwUnsupported
 let n:=n-36
 let s<-match n/16 with
 |0=>`(f (λ_ _=>rfl))
 |2=>`(f _ _ _ _ (by lia) (by decide) s.heap.objs.size (X.block scope cl s3.heap.objs.size (own::ys) own fp s3 (aI H2 s2.heap.objs.size 85)) Heap.get?_push_of_some {cls:= .type "set",dict:=none,data:= .set #[] 0 (.fresh 0 0 led)} (by decide+kernel) (model prog w) (bC "tasks" 120 139) PassesOwn.never (by simp) (gJ gE .nil 73 rfl rfl rfl rfl rfl rfl rfl rfl))
 |3=>`(f (aw (bN (K:=K) rfl) 98 af 36) (.lst []) (λ_ _ _ _ _ _=>cA λ_ _=>rfl) Heap.get?_push_size (gJ (iL gE) (.cons rfl .nil) 73 rfl rfl rfl rfl rfl rfl rfl rfl) IntMulOk.of_left _ (.ListComp elt [⟨.Name own px,iter,[],0⟩] scope pos) (az aN rfl B.Hs boot_len 212) (model X.prog X.w) s2.heap.objs.size (cy DZ23 hr (98<*>(af<*>ae))) (X.block scope cl C (own::ys) own fp s H) _ (pv 0) (T.length:Int))
 |4=>`(f _ (S.length:Int) (@aU _ _ _ _ ae) (by decide,FQ 73) (gJ (iL (iL (iL gE))) (.cons rfl (.cons rfl (.cons rfl .nil))) 73 rfl rfl rfl rfl rfl rfl rfl rfl) {cls:= .type "list",data:= .seq ([]:IP).toArray} Heap.lt_size (2*(i:Int)+1) s.heap.push {cls:= .type "tuple",data:= .seq (ys.map λ(i:Nat)=>rawInt i).toArray} (λ_ _ _ _ _ _=>eY λ_ _ _=>rfl) (pv 2) (λa h=>h.elim) (pv 1) (2*(i:Int)) (.dK (bv D)))
 |5=>`(f ((relabel scope X.env).names.all λp=> !(p.2== .cell||p.2== .free)||(cl.lookup p.1).isSome) {cls:= .type "range",data:= .fields #[.int lo t,.int hi u,.int 1 v]} (pv 4) (.dK kvs) (.ref p) (0+(i:Int)) _ (az aN rfl B.Hs boot_len 226) (pv 3) (λt k=>H t=some (.tup (k.map V.int))) (wpAny_pure ?_) (Int×Value) _ (aH _) (λk y hy Hk gk Q' hQ=>?_) (0,0,0))
 |6=>`(f (.ListComp elt [⟨.Name own px,iter,[cond],0⟩] scope pos) (λ_=>False) {cls:= .type "list",dict:=none,data:= .seq ([]:IP).toArray} (ns.map V.int) (scope.names.all λp=> !(p.2== .local)||scope.names.lookup p.1==some .local) (aw aM 111 af 36) (.lst (bs.map V.ref++ [.ref t1])) (bC "tools" (.ref td') []) (.lst (c.map V.int)) (by show (3:Int)≠0;decide) (∀h',Heap.SameBut C s6.heap h'->aR X pins σ H5 {s6 with heap:=h'}) (λz=>by subst z;rw[h] at q;cases q) _ (λ_ _=>False) (pv 5) (intBits_le_64 72 72))
 |7=>`(f (X.blockT scope cl s3.heap.objs.size (os++ys) os fp s3 (aI H2 94 85)) (Or.inr rfl) (lO (.ref td') 120 (.ref al') (.ref pl') (.int n)) (.tup [.int 114,.int 107,.int m1]) {s with heap:=h',toks:=tk} (∀y H5,aA H2 H5->R (λa=>H2 a=none∨Z a) H5 y (f i)->Q' y H5) ((b7 A T P0 (cU ps0)).map j5) (bC "arcs" (.ref al') 80) (by show (2:Int)≠0;decide) {cls:= .type "list",data:= .seq its.toArray n} (λi=>aV T P i z) (λa=>a≠p/\(H1 a=none∨Z a)) (F8 _) (.ref 74) ((bI R M).length:Int) {cls:= .type "list",data:= .seq vs.toArray})
 |8=>`(f (U.getD k []) (λc=>?_) (·.1) (seqObj "tuple" vs.toArray 0) (.refl _) (λ_ _ _ _ _ _=>jF λ_ _ _ _=>rfl) (.tup [.str z',.ref lf',.ref lb']) (rfl,aT _ _ (rfl,rfl,?_)) (SetTable.grown es1.size) (List Int) (λN hN=>?_) (λ_ _ _ _ _ _=>iO λ_=>rfl) (i+1) (X.blockT scope cl C (os++ys) os fp s H) (by with_unfolding_all rfl) (.lst (ba.map V.ref)))
 |9=>`(f _ (.frz o 119) (bH rfl B.Hr (92<*>ae)) (FY _ (FY _ (cG hb e))) (.lst ys) (by intro z;cases z) ((bA T P i).map λw:Wy=>w.2.1) (.ref l) (.ref a) (.lst ((lst n tm).map V.int)) (aw aM 124 af 36) (I.ok.hd hc) (if u.1=z then u.2.1 else 0) (Key×V) ((bA T P i).getD k (0,0,[])) (R.length:Int))
 |10=>`(f _ (M.length:Int) (x==("__debug__" :Str)) (rfl,rfl) _ (.builtin "isinstance") (false,eval e X.env) (eZ V.int) (Obj.mapSeq λ_=> #[]) {s with heap:=h'} (n0,m0) (111<*>ae) (R.getD i 131) (λa=>H a=none) (seqObj "list" #[] 0) (by kernel_rfl))
 |11=>`(f (98<*>ae) ((b7 A T P O).map j5) (by simpa using h) (.ref I) (.int m) ((dL 98 rfl)<*>ae) (_,87 _ rfl,rfl,rfl) (.ref it) (List Key×Addr×Value) (aw aM 146 af 36) (λi=>aV T P i p.1) (.ref t) (k+1) (λC fp s H=>84) (113<*>ae) (.ref 94))
 |12=>`(f (.frz o 115) (.Name own px) (dD 5 sc) (118<*>ae) (pv 6) (by simp[z]) (au (aG bq)) (pv 7) (ar np _) (.ref tl) (124<*>ae) (Dx P w K mg base bM) (bS P w K mg base bM) (bu 81 rfl) (az aN rfl B.Hs boot_len) (dk G7 G3 G2 bB))
 |13=>`(f (aQ t _ _ _) (az (gj (K:=K) rfl) rfl B.Hw boot_isinstance) (az (dX rfl) rfl B.Ih boot_min) (av bj af) (aw aD) (aQ x _ dx _) (av aW) (bH rfl B.Hr) (av aS) (g1 _ _) (av aX))
 |_=>Lean.Macro.throwUnsupported
 let r:=s.raw[1][n%16]
 if r.isIdent||r.getNumArgs>0&&!r.isOfKind `Lean.Parser.Term.hole then return r
 Lean.Macro.throwUnsupported
open Lean in
local macro_rules|`($n:num $x*)=>do
 let some r<-Macro.expandMacro? n|Macro.throwUnsupported
 let r:=if r.isOfKind `Lean.Parser.Term.paren then r[1] else r
 if r.isOfKind `Lean.Parser.Term.app then return mkNode `Lean.Parser.Term.app #[r[0],mkNullNode (r[1].getArgs++x.raw)]
 return mkNode `Lean.Parser.Term.app #[r,mkNullNode x.raw]
namespace HT
open PySem PyProof.Rows
section
variable {prog:Program} {w:World} {A:Around} {E:II} {s:Shared}
noncomputable def cT (n d:Nat):Option Int->Nat
 |none=>d
 |some v=>if v<0 then (v+(n:Int)).toNat else min v.toNat n
theorem Bc (n d:Nat) (hd:d<=n) (o:Option Int):cT n d o<=n:=by
 cases o with
 |none=>exact hd
 |some v=>
  show (if v<0 then (v+(n:Int)).toNat else min v.toNat n)<=n
  by_cases hv:v<0
  ·rw[if_pos hv];lia
  ·rw[if_neg hv];exact Nat.min_le_right _ _
theorem ur (v:Int) (n d:Nat):(if v<0 then max (v+(n:Int)) 0 else min v (n:Int))=((cT n d (some v):Nat):Int):=by
 show (if v<0 then max (v+(n:Int)) 0 else min v (n:Int))=(((if v<0 then (v+(n:Int)).toNat else min v.toNat n):Nat):Int)
 by_cases hv:v<0
 ·simp only[if_pos hv];lia
 ·simp only[if_neg hv];lia
theorem sv (lo hi:Option Int) (n:Nat):Builtin.Slice.sliceAdjust lo hi 1 (n:Int)=(((cT n 0 lo:Nat):Int),((cT n n hi:Nat):Int)):=by
 have h1:¬((1:Int)<0):=by lia
 unfold Builtin.Slice.sliceAdjust;simp only[h1,if_false];refine Prod.ext ?_ ?_
 ·cases lo with
  |none=>rfl
  |some v=>exact ur v n 0
 ·cases hi with
  |none=>rfl
  |some v=>exact ur v n n
theorem sA (i j:Nat):Builtin.Slice.slicePlaces (i:Int) (j:Int) 1=j-i:=by
 unfold Builtin.Slice.slicePlaces;have h1:(1:Int)>0:=by lia
 simp only[h1,if_true,Int.ediv_one]
 split<;>lia
theorem kU {v:Value} {o:Option Int} {Q:Option Int->Shared->Prop} (p:IsPart v o) (h:Q o s):wpAny 79 A (Builtin.Slice.slicePartIndex v) Q E s:=by
 cases p with
 |none=>exact slicePart_none h
 |int i t=>exact slicePart_int h
theorem jz {sl:Addr} {vl vu:Value} {lo hi:Option Int} {n:Nat} {Q:Int×Int×Nat->Shared->Prop} (hs:s.heap.IsSliceOf sl vl vu .none) (pl:IsPart vl lo) (pu:IsPart vu hi)
  (h:Q (((cT n 0 lo:Nat):Int),1,cT n n hi-cT n 0 lo) s):wpAny 79 A (Builtin.Slice.sliceApplied (.ref sl) (pure (n:Int))) Q E s:=by
 obtain ⟨os,hos,hcs,hds⟩:=id hs;unfold Builtin.Slice.sliceApplied Builtin.Slice.sliceFields;refine wpAny_bind (wpAny_bind (wpAny_field hos hds (x:=vl) rfl (wpAny_bind (wpAny_field hos hds (x:=vu) rfl (wpAny_bind (wpAny_field hos hds (x:= .none) rfl 126))))));refine wpAny_bind (slicePart_none ?_);show wpAny _ _ (if ((1:Int)==0)=true then _ else _) _ _ s
 rw[if_neg 73]
 refine wpAny_bind (kU pl (wpAny_bind (kU pu (wpAny_bind 126))));show wpAny _ _ (match Builtin.Slice.sliceAdjust lo hi 1 (n:Int) with|(Prod.mk (lo) (hi))=>pure (Prod.mk (lo) (Prod.mk ((1:Int)) (Builtin.Slice.slicePlaces lo hi 1)))) _ _ s
 rw[sv lo hi n];show wpAny _ _ (pure (Prod.mk ((cT n 0 lo:Nat):Int) (Prod.mk (1:Int) (Builtin.Slice.slicePlaces ((cT n 0 lo:Nat):Int) ((cT n n hi:Nat):Int) 1)))) _ _ s;rw[sA];exact wpAny_pure h
theorem xO (xs:Array Value) (i k:Nat):((G0 k).filterMap λ(m:Nat)=>xs[((i:Int)+(m:Int)*1).toNat]?).toArray=((xs.toList.drop i).take k).toArray:=by
 have e:(λ(m:Nat)=>xs[((i:Int)+(m:Int)*1).toNat]?)=λm=>xs[i+m]?:=by
  funext m
  have:((i:Int)+(m:Int)*1).toNat=i+m:=by lia
  rw[this]
 rw[e];have:=pick_run xs i k;rw[List.filterMap_map] at this;have e2:((λx=>xs[x]?) ∘ λx=>i+x)=λm=>xs[i+m]?:=rfl
 rw[e2] at this;rw[this]
theorem i4 {t sl:Addr} {items:Array Value} {vl vu:Value} {lo hi:Option Int} {Q:II} (ht:IsTup s.heap t items) (hs:s.heap.IsSliceOf sl vl vu .none) (pl:IsPart vl lo) (pu:IsPart vu hi)
  (hw:¬(cT items.size 0 lo=0/\cT items.size items.size hi=items.size))
  (h:Q 161 {s with heap:=108 {cls:= .type "tuple",data:= .seq ((items.toList.drop (cT items.size 0 lo)).take (cT items.size items.size hi-cT items.size 0 lo)).toArray}})
  (hsz:items.size<=sizeLine):wpAny 79 A (getItem 223 (.ref sl)) Q E s:=by
 have htake:sizeOk (.seq ((items.toList.drop (cT items.size 0 lo)).take (cT items.size items.size hi-cT items.size 0 lo)).toArray):=by
  show ((items.toList.drop (cT items.size 0 lo)).take (cT items.size items.size hi-cT items.size 0 lo)).toArray.size<=sizeLine;rw[G6,GA,HA,FZ]
  lia
 have hj:cT items.size items.size hi<=items.size:=Bc _ _ 160 hi;obtain ⟨os,hos,hcs,hds⟩:=id hs;have hTs:s.TypeIs (.ref sl) "slice" :=(os,hos,hcs);unfold getItem;try with_reducible refine wpAny_holding ?_
 first|refine wpAny_bind (wpAny_pure ?_)|skip
 refine wpAny_bind (wpAny_sequenceKey ht.typeIs 73 ?_)
 refine wpAny_bind (wpAny_callSpecial?_slot (name:=Str.ofString "__getitem__") ht.typeIs PyProof.Rows.slot_tuple_getitem
  (wpAny_call_entry PyProof.Rows.slot_tuple_getitem ht.typeIs entry_tuple_getitem ?_ (args_tuple_getitem _ _)))
 show wpAny _ _ (Builtin.Tuple.tupleItemsOf 223>>=_) _ _ s;refine wpAny_bind (tupleItemsOf_ ht ?_);refine wpAny_bind (wpAny_typeOf hTs ?_);rw[if_pos 73]
 refine wpAny_bind (jz hs pl pu ?_);have hno:¬((((cT items.size 0 lo:Nat):Int)==0&&(1:Int)==1&&(cT items.size items.size hi-cT items.size 0 lo)==items.size)=true):=by
  intro q;rw[GF,GF] at q;have q1:((cT items.size 0 lo:Nat):Int)=0:=eq_of_beq q.1.1;have q2:cT items.size items.size hi-cT items.size 0 lo=items.size:=eq_of_beq q.2;exact hw (by lia,by lia)
 show wpAny _ _ (if (((cT items.size 0 lo:Nat):Int)==0&&(1:Int)==1&&(cT items.size items.size hi-cT items.size 0 lo)==items.size)=true then _ else _) _ _ s
 rw[if_neg hno,xO]
 first
  |exact wpAny_bind (m:=Builtin.Tuple.tupleExact _) (wpAny_newObj_type (wpAny_pure ⟨_,rfl,wpAny_pure h⟩) htake)
  |exact wpAny_bind (m:=Builtin.Tuple.tupleExact _) (wpAny_newObj_type (wpAny_bind (wpAny_pure (wpAny_pure ⟨_,rfl,wpAny_pure h⟩))) htake)
  |exact wpAny_bind (wpAny_bind (m:=Builtin.Tuple.tupleExact _) (wpAny_newObj_type (wpAny_pure (wpAny_pure ⟨_,rfl,wpAny_pure h⟩)) htake))
  |exact wpAny_bind (wpAny_bind (m:=Builtin.Tuple.tupleExact _) (wpAny_newObj_type (wpAny_pure ⟨_,rfl,wpAny_pure h⟩) htake))
end
end HT
namespace L2
open PySem PySem.Spec PyProof.Rows
abbrev TO:=St->Hp->(Option Int->Hp->Prop)->Prop
def PO (X:Cx) (e:Option Expr) (t:TO):Prop:=
 ∀(pins:IK) (s:Shared) (σ:St) (H:Hp) (Q:Option Int->Hp->Prop),aR X pins σ H s->t σ H Q->
  wpAny 93 X.A (evalPart e X.env) (λu s'=>∃o H',aR X pins σ H' s'/\IsPart u o/\Q o H') X.xe s
def zL:TO:=λ_ H Q=>Q none H
def CK (t:TE):TO:=λσ H Q=>t σ H λx H1=>∃i,x= .int i/\Q (some i) H1
section
variable {X:Cx} {e:Expr} {te:TE} {lo hi:Option Expr} {tl th:TO} {pos p2:Pos}
theorem gB:PO X none zL:=by
 intro pins s σ H Q I h;rw[evalPart_none];exact wpAny_pure (none,H,I,.none,h)
theorem fk (h:PE X e te):PO X (some e) (CK te):=by
 intro pins s σ H Q I hw;rw[evalPart_some];refine bW (h pins s σ H _ I hw) λu s1 (x,H1,I1,r1,q1)=>?_
 obtain ⟨i,rfl,q⟩:=q1;obtain ⟨t,rfl⟩:=r1;exact (some i,H1,I1,.int i t,q)
def Ef (X:Cx) (r:V->Option Int->Option Int->Hp->VK->Prop):Prop:=
 ∀(pins:IK) (s:Shared) (σ:St) (H:Hp) (x:V) (v vl vu:Value) (lo hi:Option Int) (sl:Addr) (Q:VK),aR X pins σ H s->RelV x v->s.heap.IsSliceOf sl vl vu .none->IsPart vl lo->IsPart vu hi->r x lo hi H Q->
  ∃T id,typeLookup (.type T) "__getitem__" =pure (some (.builtin id))/\s.TypeIs v T/\wpAny 93 X.A (getItem v (.ref sl)) (EP X pins σ Q) X.xe s
def FA (r:V->Option Int->Option Int->Hp->VK->Prop) (te:TE) (tl th:TO):TE:=λσ H Q=>te σ H λx H1=>tl σ H1 λl H2=>th σ H2 λu H3=>r x l u H3 Q
theorem eJ {r:V->Option Int->Option Int->Hp->VK->Prop} (hr:Ef X r) (he:PE X e te) (hl:PO X lo tl) (hu:PO X hi th):PE X (.Subscript e (.Slice lo hi none p2) pos) (FA r te tl th):=by
 intro pins s σ H Q I h;refine Subscript_ (bW (he pins s σ H _ I h) λv s1 (x,H1,I1,r1,q1)=>?_)
 refine wpAny_Slice (bW (hl pins s1 σ H1 _ I1 q1) λvl s2 (l,H2,I2,pl,q2)=>bW (hu pins s2 σ H2 _ I2 q2) λvu s3 (u,H3,I3,pu,q3)=>?_)
 rw[evalPart_none];refine wpAny_pure ?_;have I4:aR X pins σ H3 {s3 with heap:=s3.heap.push {cls:= .type "slice",data:= .fields #[vl,vu,.none]}}:=I3.kept (t':=s3.toks) λb ob q=>76 _ q
 obtain ⟨T,id,hT,ht,hg⟩:=hr pins {s3 with heap:=s3.heap.push {cls:= .type "slice",data:= .fields #[vl,vu,.none]}} σ H3 x v vl vu l u s3.heap.objs.size Q I4 r1 (Heap.IsSliceOf.new ..) pl pu q3
 show wpAny 93 X.A (subscriptTail e (.Slice lo hi none p2) v (.ref s3.heap.objs.size)) (EP X pins σ Q) X.xe {s3 with heap:=s3.heap.push {cls:= .type "slice",data:= .fields #[vl,vu,.none]}}
 exact tail_any (ops:= [.ref s3.heap.objs.size,v]) ht hT hg 178
noncomputable def jA (xs:List V) (lo hi:Option Int):List V:=(xs.drop (HT.cT xs.length 0 lo)).take (HT.cT xs.length xs.length hi-HT.cT xs.length 0 lo)
theorem jT (xs:List V) (lo hi:Option Int):(jA xs lo hi).length<=xs.length:=by
 unfold jA;rw[GA,HA]
 lia
def EB (K:F6):V->Option Int->Option Int->Hp->VK->Prop:=λx lo hi H Q=>∃a xs,x= .ref a/\bT K H a xs/\
 ¬(HT.cT xs.length 0 lo=0/\HT.cT xs.length xs.length hi=xs.length)/\∀p,H p=none->Q 120 (aI H p (.tup (jA xs lo hi)))
theorem xP:Ef X (EB X.K):=by
 intro pins s σ H x v vl vu lo hi sl Q I rx hs pl pu h;obtain ⟨a,xs,rfl,hx,hw,q⟩:=h;cases rx;obtain ⟨its,r,ht,hz⟩:=I.tuple hx;have hlen:its.toArray.size=xs.length:=by rw[G6];exact r.length.symm
 exists "tuple",_,PyProof.Rows.slot_tuple_getitem.lookup,ht.typeIs;refine HT.i4 ht hs pl pu (by rw[hlen];exact hw) ?_ (by rw[hlen];exact hz)
 rw[hlen];refine (.ref 74,_,I.laid (t':=s.toks) (o:= .tup (jA xs lo hi)) (λb ob q=>76 _ q) 160 ?_,rfl,q _ (I.hok.fresh 160))
 exact (Gf (jT xs lo hi) hz,_,(r.drop (HT.cT xs.length 0 lo)).take (HT.cT xs.length xs.length hi-HT.cT xs.length 0 lo),IsTup.new _ _)
end
noncomputable def uu (n:Nat) (i:Int):Option Nat:=if 0<=i then (if i<n then some i.toNat else none) else if-(n:Int)<=i then some (i+n).toNat else none
noncomputable def fV {α:Type} (xs:List α) (i:Int):Option α:=(uu xs.length i).bind λj=>xs[j]?
theorem uv {n:Nat} {i:Int} {j:Nat} (h:uu n i=some j):seqIndex? i n=some j/\j<n/\ -(n:Int)<=i/\i<n:=by
 unfold uu at h
 by_cases h0:0<=i
 ·rw[if_pos h0] at h
  by_cases h1:i<n
  ·rw[if_pos h1] at h;have e:i.toNat=j:=GZ h;exact (by rw[seqIndex_of h0 h1,e],by lia,by lia,h1)
  ·rw[if_neg h1] at h;cases h
 ·rw[if_neg h0] at h
  by_cases h1: -(n:Int)<=i
  ·rw[if_pos h1] at h;have e:(i+n).toNat=j:=GZ h;exact (by rw[seqIndex_neg 72 h1,e],by lia,h1,by lia)
  ·rw[if_neg h1] at h;cases h
theorem ot {α:Type} {xs:List α} {i:Int} {v:α} (h:fV xs i=some v):∃j,seqIndex? i xs.length=some j/\xs[j]?=some v/\j<xs.length/\ -(xs.length:Int)<=i/\i<xs.length:=by
 unfold fV at h;cases e:uu xs.length i with
 |none=>rw[e] at h;cases h
 |some j=>
  rw[e] at h;obtain ⟨h1,h2,h3,h4⟩:=uv e;exact (j,h1,h,h2,h3,h4)
theorem bV {α:Type} {xs:List α} {j:Nat} {v:α} (h:xs[j]?=some v):fV xs (j:Int)=some v:=by
 have hj:j<xs.length:=(F4.mp h).1;have e:uu xs.length (j:Int)=some j:=by
  unfold uu;rw[if_pos 72,if_pos 72];simp
 unfold fV;rw[e];exact h
theorem xQ {α:Type} (xs:List α) (v:α):fV (xs++ [v]) (-1)=some v:=by
 have hl:(xs++ [v]).length=xs.length+1:=by simp
 have e:uu (xs++ [v]).length (-1)=some xs.length:=by
  unfold uu;rw[hl,if_neg 73,if_pos 72]
  congr 1
  lia
 unfold fV;rw[e];show (xs++ [v])[xs.length]?=some v;simp
def zM (b:Expr):Prop:=∀o i,subscripted b false o i=operate [o,i] (getItem o i)
def Cr (X:Cx) (r:R2):Prop:=
 ∀(value slice:Expr) (pins:IK) (s:Shared) (σ:St) (H:Hp) (x y:V) (v u:Value) (Q:VK),aR X pins σ H s->RelV x v->RelV y u->r x y H Q->
  subscripted slice false v u=operate [v,u] (getItem v u)->wpAny 93 X.A (subscriptTail value slice v u) (EP X pins σ Q) X.xe s
def EC (X:Cx) (id:String) (r:V->List V->Hp->VK->Prop):Prop:=
 ∀(pins:IK) (s:Shared) (σ:St) (H:Hp) (x:V) (xs:List V) (v:Value) (us:IP) (Q:VK),aR X pins σ H s->RelV x v->bG xs us->r x xs H Q->
  wpAny 93 X.A (call (.builtin id) (v::us)) (EP X pins σ Q) X.xe s
section
variable {X:Cx} {a b:Expr} {ta tb:TE} {pos:Pos}
theorem aw {r:R2} (hr:Cr X r) (ha:PE X a ta) (hb:PE X b tb) (hs:zM b):PE X (.Subscript a b pos) (Ed r ta tb):=by
 intro pins s σ H Q I h;exact Subscript_ (A9 ha hb I h λv u s2 x y H2 I2 rx ry q=>hr a b pins s2 σ H2 x y v u Q I2 rx ry q (hs _ _))
def CL (K:F6):R2:=λx y H Q=>∃p xs i v,x= .ref p/\y= .int i/\aE K H p xs/\fV xs i=some v/\Q v H
def CM (K:F6):R2:=λx y H Q=>∃p xs i v,x= .ref p/\y= .int i/\bT K H p xs/\fV xs i=some v/\Q v H
def ED:R2:=λx y H Q=>∃z i c,x= .str z/\y= .int i/\z.length<=sizeLine/\fV z.cps.toList i=some c/\Q (.str ⟨#[c]⟩) H
theorem aD:Cr X (CL X.K):=by
 intro value slice pins s σ H x y v u Q I rx ry h hs;obtain ⟨p,xs,i,z,rfl,rfl,hq,he,q⟩:=h;cases rx;obtain ⟨t,rfl⟩:=ry;obtain ⟨its,r,pl,hz⟩:=I.list hq;obtain ⟨j,h1,h2,h3,h4,h5⟩:=ot he;obtain ⟨w,ew,rw'⟩:=r.get h2;have hl:=r.length;have hn:=jx;have fin:EP X pins σ Q w s:=(z,H,I,rw',q)
 by_cases h0:0<=i
 ·have hj:i.toNat=j:=by
   rw[seqIndex_of h0 h5] at h1;exact GZ h1
  exact item_listR pl.isList h0 72 (by rw[hj];simpa using ew) fin hs
 ·have hj:(i+(its.toArray.size:Int)).toNat=j:=by
   rw[seqIndex_neg 72 h4] at h1
   rw[G6,<-hl];exact GZ h1
  exact subscriptTail_builtinR (x:=w) pl.isList.typeIs slot_list_getitem.lookup
   (wpAny_getItem_list_neg (Q:=λr s'=>r=w/\EP X pins σ Q r s') pl.isList 72 (by rw[G6]<;>lia) 72 (by rw[hj];simpa using ew) ⟨rfl,fin⟩) hs
theorem aM:Cr X (CM X.K):=by
 intro value slice pins s σ H x y v u Q I rx ry h hs;obtain ⟨p,xs,i,z,rfl,rfl,hq,he,q⟩:=h;cases rx;obtain ⟨t,rfl⟩:=ry;obtain ⟨its,r,pl,hz⟩:=I.tuple hq;obtain ⟨j,h1,h2,h3,h4,h5⟩:=ot he;obtain ⟨w,ew,rw'⟩:=r.get h2;have hl:=r.length;have hn:=jx;have fin:EP X pins σ Q w s:=(z,H,I,rw',q);exact subscriptTail_builtinR (x:=w) pl.typeIs slot_tuple_getitem.lookup
  (getItem_tuple (j:=j) (Q:=λr s'=>r=w/\EP X pins σ Q r s') pl 72 72 (by rw[G6,<-hl];exact h1) (by simpa using ew) ⟨rfl,fin⟩) hs
theorem ou:Cr X ED:=by
 intro value slice pins s σ H x y v u Q I rx ry h hs;obtain ⟨z,i,c,rfl,rfl,hz,he,q⟩:=h;obtain ⟨t,rfl⟩:=rx;obtain ⟨t',rfl⟩:=ry;obtain ⟨j,h1,h2,h3,h4,h5⟩:=ot he;have hl:z.cps.toList.length=z.length:=by simp[Str.length]
 rw[hl] at h1 h4 h5;have hn:=jx;exact tail_any (typeIs_str s z t) slot_str_getitem.lookup (getItem_str (c:=c) (by
  have e1:decide (i< -(2^63:Int))=false:=decide_eq_false 72
  have e2:decide (i≥2^63)=false:=decide_eq_false 72
  rw[e1,e2,Bool.or_false]) (by rw[h1];simpa using h2) ⟨.str ⟨#[c]⟩,H,I.tok _,⟨_,rfl⟩,q⟩) hs
theorem sB (its:IP) (n j:Nat) (u:Value):Obj.mapSeq (·.setIfInBounds j u) 157={cls:= .type "list",data:= .seq (its.set j u).toArray n}:=by
 simp[Obj.mapSeq]
theorem aR.lst {pins:IK} {σ:St} {H:Hp} {s:Shared} {p:Addr} {xs:List V} (I:aR X pins σ H s) (h:H p=some (.lst xs)):
  ∃(its:IP) (n:Nat),bG xs its/\s.heap.get? p=some 157/\xs.length<=sizeLine:=by
 obtain ⟨z,its,n,r,e⟩:=I.hok p _ h;exact (its,n,r,e,z)
theorem aR.lstUpd {pins:IK} {σ:St} {H:Hp} {s:Shared} {p:Addr} {xs ys:List V} {its its':IP} {n n':Nat} {f:Obj->Obj} (I:aR X pins σ H s) (h:H p=some (.lst xs))
  (ho:s.heap.get? p=some 157) (hf:f 157={cls:= .type "list",data:= .seq its'.toArray n'}) (r:bG ys its') (hz:ys.length<=sizeLine) (t:Nat):
  aR X pins σ (aI H p 184) {s with heap:=s.heap.update p f,toks:=t}:=by
 have e:(s.heap.update p f).get? p=some {cls:= .type "list",data:= .seq its'.toArray n'}:=by
  rw[Heap.get?_update_self f ho (by rw[hf]<;>rfl),hf]
 refine I.write (x:=p) (e:=p) (by rw[h];trivial) (.inl rfl) (λb u hb q=>(Heap.get?_update_other _ _ (Ne.symm hb)).trans q) (_,e) ?_
 exact (hz,its',n',r,e)
def CN:V->V->V->Hp->(Hp->Prop)->Prop:=λo i v H Q=>∃p xs k j,o= .ref p/\i= .int k/\H p=some (.lst xs)/\uu xs.length k=some j/\Q (aI H p (.lst (xs.set j v)))
theorem set_list:CA X CN:=by
 intro pins s σ H o i v ov iv u Q I ro ri rv h;obtain ⟨p,xs,k,j,rfl,rfl,hp,hj,q⟩:=h;cases ro;obtain ⟨t,rfl⟩:=ri;obtain ⟨its,n,r,ho,hz⟩:=I.lst hp;obtain ⟨h1,h2,h3,h4⟩:=uv hj;have hl:=r.length;have hn:=jx;have I':aR X pins σ (aI H p (.lst (xs.set j v))) {s with heap:=s.heap.update p (Obj.mapSeq (·.setIfInBounds j u))}:=
  I.lstUpd hp ho (sB its n j u) (r.set rv j) (by rw[List.length_set];exact hz) s.toks
 by_cases h0:0<=k
 ·have hk:k.toNat=j:=by
   rw[seqIndex_of h0 h4] at h1;exact GZ h1
  exact PySem.W.ki_setAt ho h0 72 (by rw[G6,<-hl];exact h4) (by rw[hk];exact (_,I',q))
 ·have hk:(k+(its.toArray.size:Int)).toNat=j:=by
   rw[seqIndex_neg 72 h3] at h1
   rw[G6,<-hl];exact GZ h1
  exact PySem.W.ki_setBack ho 72 (by rw[G6,<-hl];exact h3) 72 (by rw[hk];exact (_,I',q))
theorem oy (lo hi:Option Int) (n:Nat):(sliceBounds lo hi none n).1=((HT.cT n 0 lo:Nat):Int)/\(sliceBounds lo hi none n).2.1=((HT.cT n n hi:Nat):Int)/\(sliceBounds lo hi none n).2.2=1:=by
 refine (?_,?_,rfl)
 ·cases lo with
  |none=>simp[sliceBounds,HT.cT]
  |some i=>
   simp only[sliceBounds,HT.cT,Option.getD_none,show (1:Int)>0 by decide,if_true]
   by_cases h:i<0
   ·simp only[h,if_true]<;>lia
   ·simp only[h,if_false]<;>lia
 ·cases hi with
  |none=>simp[sliceBounds,HT.cT]
  |some i=>
   simp only[sliceBounds,HT.cT,Option.getD_none,show (1:Int)>0 by decide,if_true]
   by_cases h:i<0
   ·simp only[h,if_true]<;>lia
   ·simp only[h,if_false]<;>lia
theorem mM (its:IP) (lo hi:Option Int):slicePick its.toArray lo hi none=((its.drop (HT.cT its.length 0 lo)).take (HT.cT its.length its.length hi-HT.cT its.length 0 lo)).toArray:=by
 obtain ⟨h1,h2,h3⟩:=oy lo hi its.toArray.size;unfold slicePick;rw[h1,h2,h3];simp only[sliceRange_one,pick_run,G6]<;>rfl
def EE (K:F6):V->Option Int->Option Int->Hp->VK->Prop:=λx lo hi H Q=>∃a xs,x= .ref a/\aE K H a xs/\∀p,H p=none->Q 120 (aI H p (.lst (jA xs lo hi)))
theorem ux:Ef X (EE X.K):=by
 intro pins s σ H x v vl vu lo hi sl Q I rx hs pl pu h;obtain ⟨a,xs,rfl,hx,q⟩:=h;cases rx;obtain ⟨its,r,ht,hz⟩:=I.list hx;have hlen:=r.length;exists "list",_,slot_list_getitem.lookup,ht.isList.typeIs;refine wpAny_getItem_list_slice ht.isList hs pl pu .none 82 ?_ (by rw[G6]<;>lia)
 rw[mM,<-hlen];refine (.ref 74,_,I.laid (t':=s.toks) (o:= .lst (jA xs lo hi)) (λb ob q=>76 _ q) 160 ?_,rfl,q _ (I.hok.fresh 160))
 exact (Gf (jT xs lo hi) hz,_,0,(r.drop (HT.cT xs.length 0 lo)).take (HT.cT xs.length xs.length hi-HT.cT xs.length 0 lo),87 _ rfl)
noncomputable def iB:V->Bool
 | .non=>true
 | .bl _=>true
 | .int _=>true
 | .str _=>true
 |_=>false
noncomputable def zN:V->V->Bool
 | .non,.non=>true
 | .bl a,.bl b=>a==b
 | .bl a,.int b=>(if a then 1 else 0)==b
 | .int a,.bl b=>a==(if b then 1 else 0)
 | .int a,.int b=>a==b
 | .str a,.str b=>a==b
 |_,_=>false
theorem Bd {A:Around} {s:Shared} {y x:V} {u v:Value} (ry:RelV y u) (rx:RelV x v) (fy:iB y=true) (fx:iB x=true):SeqAt.EqAt A s u v (zN y x):=by
 cases y with
 |non=>
  cases ry;cases x with
  |non=>cases rx;exact SeqAt.EqAt.same _
  |bl b=>cases rx;exact SeqAt.EqAt.none_bool b
  |int b=>obtain ⟨t,rfl⟩:=rx;exact SeqAt.EqAt.none_int b t
  |str b=>obtain ⟨t,rfl⟩:=rx;exact SeqAt.EqAt.none_str b t
  |_=>exact absurd (show false=true from fx) GD
 |bl a=>
  cases ry;cases x with
  |non=>cases rx;exact SeqAt.EqAt.bool_none a
  |bl b=>cases rx;exact SeqAt.EqAt.bool_bool a b
  |int b=>obtain ⟨t,rfl⟩:=rx;exact SeqAt.EqAt.bool_int a b t
  |str b=>obtain ⟨t,rfl⟩:=rx;exact SeqAt.EqAt.bool_str a b t
  |_=>exact absurd (show false=true from fx) GD
 |int a=>
  obtain ⟨t',rfl⟩:=ry;cases x with
  |non=>cases rx;exact SeqAt.EqAt.int_none a t'
  |bl b=>cases rx;exact SeqAt.EqAt.int_bool a t' b
  |int b=>obtain ⟨t,rfl⟩:=rx;exact SeqAt.EqAt.int_int a t' b t
  |str b=>obtain ⟨t,rfl⟩:=rx;exact SeqAt.EqAt.int_str a t' b t
  |_=>exact absurd (show false=true from fx) GD
 |str a=>
  obtain ⟨t',rfl⟩:=ry;cases x with
  |non=>cases rx;exact SeqAt.EqAt.str_none a t'
  |bl b=>cases rx;exact SeqAt.EqAt.str_bool a t' b
  |int b=>obtain ⟨t,rfl⟩:=rx;exact SeqAt.EqAt.str_int a t' b t
  |str b=>obtain ⟨t,rfl⟩:=rx;exact SeqAt.EqAt.str_str a t' b t
  |_=>exact absurd (show false=true from fx) GD
 |_=>exact absurd (show false=true from fy) GD
noncomputable def sC (x:V) (u:Value):Bool:=match u with
 | .none=>zN .non x
 | .bool b=>zN (.bl b) x
 | .int i _=>zN (.int i) x
 | .str z _=>zN (.str z) x
 |_=>false
theorem xR {x y:V} {u:Value} (r:RelV y u) (f:iB y=true):sC x u=zN y x:=by
 cases y with
 |non=>cases r;rfl
 |bl b=>cases r;rfl
 |int i=>obtain ⟨t,rfl⟩:=r;rfl
 |str z=>obtain ⟨t,rfl⟩:=r;rfl
 |_=>exact absurd (show false=true from f) GD
theorem i5 {x:V}:∀{xs:List V} {us:IP},bG xs us->xs.all iB=true->us.any (sC x)=xs.any λy=>zN y x
 |_,_,.nil,_=>rfl
 |y::xs,u::us,.cons r t,f=>by
  rw[List.all_cons,GF] at f;rw[List.any_cons,List.any_cons,xR r f.1,i5 t f.2]
theorem gN {A:Around} {s:Shared} {x:V} {v:Value} (rx:RelV x v) (fx:iB x=true):∀{xs:List V} {us:IP},bG xs us->xs.all iB=true->∀u∈us,SeqAt.EqAt A s u v (sC x u)
 |_,_,.nil,_=>λu hu=>by cases hu
 |y::xs,u::us,.cons r t,f=>λu' hu=>by
  rw[List.all_cons,GF] at f;rcases FW.mp hu with rfl|hu
  ·rw[xR r f.1];exact Bd r rx f.1 fx
  ·exact gN rx fx t f.2 u' hu
noncomputable def zx (x:V) (xs:List V):Bool:=xs.any λy=>zN y x
def Fm (K:F6) (neg:Bool):R2:=λx y H Q=>∃p xs,y= .ref p/\(aE K H p xs∨bT K H p xs)/\iB x=true/\xs.all iB=true/\Q (.bl (if neg then !zx x xs else zx x xs)) H
theorem m9:iq X (compareOp .In) (Fm X.K false):=by
 intro pins s σ H x y v u Q I rx ry h;obtain ⟨p,xs,rfl,hq,fx,fs,q⟩:=h;cases ry;rcases hq with hq|hq
 ·obtain ⟨its,r,pl,hz⟩:=I.list hq;refine SeqAt.in_listAt (sC x) pl.isList (λw hw=>gN rx fx r fs w (by simpa using hw)) (.bl _,H,I,rfl,?_)
  rw[show its.toArray.any (sC x)=its.any (sC x) by simp,i5 r fs]
  exact q
 ·obtain ⟨its,r,pl,hz⟩:=I.tuple hq;refine SeqAt.in_tupleAt (sC x) pl (λw hw=>gN rx fx r fs w (by simpa using hw)) (.bl _,H,I,rfl,?_)
  rw[show its.toArray.any (sC x)=its.any (sC x) by simp,i5 r fs]
  exact q
theorem oz:iq X (compareOp .NotIn) (Fm X.K true):=by
 intro pins s σ H x y v u Q I rx ry h;obtain ⟨p,xs,rfl,hq,fx,fs,q⟩:=h;cases ry;rcases hq with hq|hq
 ·obtain ⟨its,r,pl,hz⟩:=I.list hq;refine SeqAt.notIn_listAt (sC x) pl.isList (λw hw=>gN rx fx r fs w (by simpa using hw)) (.bl _,H,I,rfl,?_)
  rw[show its.toArray.any (sC x)=its.any (sC x) by simp,i5 r fs]
  exact q
 ·obtain ⟨its,r,pl,hz⟩:=I.tuple hq;refine SeqAt.notIn_tupleAt (sC x) pl (λw hw=>gN rx fx r fs w (by simpa using hw)) (.bl _,H,I,rfl,?_)
  rw[show its.toArray.any (sC x)=its.any (sC x) by simp,i5 r fs]
  exact q
theorem oA:iq X (compareOp .NotIn) (λx y H Q=>∃i j,x= .str i/\y= .str j/\Q (.bl (!(!(Builtin.Str.occurrences j i 0 j.length 1).isEmpty))) H):=by
 intro pins s σ H x y v u Q I rx ry h;obtain ⟨i,j,rfl,rfl,q⟩:=h;obtain ⟨t,rfl⟩:=rx;obtain ⟨t',rfl⟩:=ry;exact notIn_str (.bl _,H,I,rfl,q)
theorem oB:cL X (.builtin "len") (λxs H Q=>∃p ys,xs= [.ref p]/\(aE X.K H p ys∨bT X.K H p ys)/\Q (.int ys.length) H):=by
 sleep 14;obtain ⟨p,ys,rfl,hq,q⟩:=h;obtain ⟨u,rfl,rx⟩:=vals1 r;cases rx;have hn:=jx;rcases hq with hq|hq
 ·obtain ⟨its,r',pl,hz⟩:=I.list hq;have hlen:=r'.length;exact Calls.call_len_list pl.isList (by simp only[G6]<;>lia) (.int ys.length,H,I.tok _,(s.toks+1,by rw[G6,hlen]),q)
 ·obtain ⟨its,r',pl,hz⟩:=I.tuple hq;have hlen:=r'.length;exact len_tuple pl (by simp only[G6]<;>lia) (.int ys.length,H,I.tok _,(s.toks+1,by rw[G6,hlen]),q)
theorem i6:cL X (.builtin "len") (λxs H Q=>∃z,xs= [.str z]/\z.length<=sizeLine/\Q (.int z.length) H):=by
 sleep 14;obtain ⟨z,rfl,hz,q⟩:=h;obtain ⟨u,rfl,t,rfl⟩:=vals1 r;have hn:=jx;exact len_str 72 (.int z.length,H,I.tok _,⟨ν⟩,q)
theorem c6:cL X (.type "list") (λxs H Q=>∃p ys,xs= [.ref p]/\(aE X.K H p ys∨bT X.K H p ys)/\∀l,H l=none->Q 187 (aI H l 184)):=by
 sleep 14;obtain ⟨p,ys,rfl,hq,q⟩:=h;obtain ⟨u,rfl,rx⟩:=vals1 r;cases rx;have fin:∀(its:IP),bG ys its->ys.length<=sizeLine->∀(h':Heap) (c':Nat),(∀b o',s.heap.get? b=some o'->h'.get? b=some o')->
   h'.get? 74=some {cls:= .type "list",dict:=none,data:= .seq its.toArray c',slots:= #[]}->EP X pins σ Q 161 {s with heap:=h'}:=λits r' hz h' c' kp e=>
  ⟨.ref 74,_,I.laid (t':=s.toks) kp 160 (show cg X.prog X.w _ h' _ 184 from ⟨hz,its,c',r',e⟩),rfl,q _ (I.hok.fresh 160)⟩
 rcases hq with hq|hq
 ·obtain ⟨its,r',pl,hz⟩:=I.list hq;have hlen:=r'.length;obtain ⟨o,ho,hc,n,hd⟩:=pl.isList;exact call_list_seq p (.inl rfl) ho hc hd (λh' c' kp e=>fin its r' hz h' c' kp e) (by simp only[G6]<;>lia)
 ·obtain ⟨its,r',pl,hz⟩:=I.tuple hq;have hlen:=r'.length;obtain ⟨o,ho,hc,n,hd⟩:=pl;exact call_list_seq p (.inr rfl) ho hc hd (λh' c' kp e=>fin its r' hz h' c' kp e) (by simp only[G6]<;>lia)
def EF (K:F6) (T:String) (x:V) (H:Hp):Prop:=match x with
 | .str _=>T= "str"
 | .int _=>T= "int"
 | .ref p=>(T= "list" /\∃xs,aE K H p xs)∨(T= "tuple" /\∃o,K.lookup p=some o/\o.cls= .type "tuple" /\o.dict=none)∨
   (T= "dict" /\((∃kvs,H p=some 119)∨∃kvs,H p=some (.dT kvs)))∨(T= "set" /\∃S n,H p=some (.set S n))
 |_=>False
theorem xS {pins:IK} {σ:St} {H:Hp} {s:Shared} {T:String} {x:V} {v:Value} (I:aR X pins σ H s) (r:RelV x v) (ty:EF X.K T x H):
  s.TypeIs v T/\∀a,v= .ref a->∃ob,s.heap.get? a=some ob/\ob.dict=none:=by
 cases x with
 |str z=>
  obtain ⟨t,rfl⟩:=r;cases (show T= "str" from ty)
  exact (typeIs_str s z t,λ_ e=>nomatch e)
 |int i=>
  obtain ⟨t,rfl⟩:=r;cases (show T= "int" from ty)
  exact (typeIs_int s i t,λ_ e=>nomatch e)
 |ref p=>
  cases r;rcases ty with ⟨rfl,xs,hq⟩|⟨rfl,o,hk,hc,hd⟩|⟨rfl,hk⟩|⟨rfl,S,n,hk⟩
  ·obtain ⟨its,_,pl,_⟩:=I.list hq;refine (pl.isList.typeIs,λa e=>?_)
   cases e;obtain ⟨o,n,e,c,hd,_⟩:=pl;exact (o,e,hd)
  ·refine ((o,I.kIn p o hk,hc),λa e=>?_)
   cases e;exact (o,I.kIn _ o hk,hd)
  ·have z:∃o,s.heap.get? p=some o/\o.ExactDict:=by
    rcases hk with ⟨kvs,hk⟩|⟨kvs,hk⟩
    ·obtain ⟨_,_,_,_,o,_,_,e,ex,_⟩:=I.hok p _ hk;exact (o,e,ex)
    ·obtain ⟨_,_,_,_,o,_,_,e,ex,_⟩:=I.hok p _ hk;exact (o,e,ex)
   obtain ⟨o,e,ex⟩:=z;refine ((o,e,ex.1),λa e2=>?_)
   cases e2;exact (o,e,ex.2.1)
  ·obtain ⟨o,_,_,_,e,ex,_⟩:=I.hok p _ hk;refine ((o,e,ex.1),λa e2=>?_)
   cases e2;exact (o,e,ex.2.1)
 |_=>exact False.elim ty
def EG (K:F6) (T:String) (r:V->List V->Hp->VK->Prop) (to:TE):TE:=λσ H Q=>to σ H λx H1=>EF K T x H1/\r x [] H1 Q
def FB (K:F6) (T:String) (r:V->List V->Hp->VK->Prop) (to:TE) (t:TA):TE:=λσ H Q=>to σ H λx H1=>EF K T x H1/\t σ H1 λxs H2=>r x xs H2 Q
variable {o e:Expr} {es:List Expr} {to:TE} {t:TA} {name:Str} {apos cpos:Pos} {T id:String} {r:V->List V->Hp->VK->Prop}
theorem Be (pa:PlainAttrs T) (slot:Slot T name id) (hty:typeOf (.builtin id)=pure (.type "method_descriptor")) (hm:EC X id r) (ho:PE X o to)
  (hbase:attributeBase o name X.env (eval o X.env)=eval o X.env:=by rfl) (hline:(apos.endLine==cpos.line)=true:=by rfl):PE X (.Call (.Attribute o name apos) [] [] cpos) (EG X.K T r to):=by
 intro pins s σ H Q I h;refine wpAny_Call_method0_late hbase hline (bW (ho pins s σ H _ I h) λv s1 (x,H1,I1,r1,ty,q1)=>?_)
 obtain ⟨h1,h2⟩:=xS I1 r1 ty;exact (T,id,pa,slot,hty,h1,h2,Calls.callWith_builtin rfl (PySem.evalArgs_none (hm pins s1 σ H1 x [] v [] Q I1 r1 .nil q1)))
theorem dk (pa:PlainAttrs T) (slot:Slot T name id) (hty:typeOf (.builtin id)=pure (.type "method_descriptor")) (hm:EC X id r) (ho:PE X o to) (ha:PA X (e::es) t)
  (hbase:attributeBase o name X.env (eval o X.env)=eval o X.env:=by rfl)
  (hfew:((backTo cpos (starEach (e::es) X.env)).all (λx=> !x.1)&&(backToKw cpos (keywordEach [] X.env)).all (λx=>x.1.isSome)
   &&decide ((e::es).length+([]:List Keyword).length+(if ([]:List Keyword).isEmpty then 0 else 1)<30))=true:=by rfl)
  (hline:(apos.endLine==cpos.line)=true:=by rfl) (hs:starEach (e::es) X.env=(false,eval e X.env)::starEach es X.env:=by rfl) (hplain:(backTo cpos (starEach es X.env)).any 166=false:=by rfl):
  PE X (.Call (.Attribute o name apos) (e::es) [] cpos) (FB X.K T r to t):=by
 intro pins s σ H Q I h;refine wpAny_Call_method_late hbase hfew hline rfl (bW (ho pins s σ H _ I h) λv s1 (x,H1,I1,r1,ty,q1)=>?_)
 obtain ⟨h1,h2⟩:=xS I1 r1 ty;exists T,id,pa,slot,hty,h1,h2;have hA:=ha cpos pins s1 σ H1 _ I1 q1;rw[hs] at hA⊢;refine Calls.callWith_builtin (by show (false||(backTo cpos (starEach es X.env)).any 166)=false;rw[hplain]<;>rfl) (Calls.evalArgs_plain ?_)
 exact bW hA λus s2 (vs,H2,I2,r2,q2)=>hm pins s2 σ H2 x vs v us Q I2 r1 r2 q2
end
def Fn (X:Cx) (id:String) (r:V->List V->Hp->VK->Prop):Prop:=
 ∀(pins:IK) (s:Shared) (σ:St) (H:Hp) (x:V) (xs:List V) (v:Value) (us:IP) (Q:VK),aR X pins σ H s->RelV x v->bG xs us->r x xs H Q->
  wpAny 93 X.A (call (.builtin id) (v::us)) (EP X pins σ Q) X.xe s
theorem bG.one:∀{x:V} {us:IP},bG [x] us->∃u,us= [u]/\RelV x u
 |_,_,.cons r .nil=>⟨_,rfl,r⟩
theorem bG.zero:∀{us:IP},bG [] us->us= []
 |_,.nil=>rfl
section
variable {X:Cx} {pins:IK} {σ:St} {H:Hp} {s:Shared} {l b:Addr} {xs ys zs:List V}
theorem aR.lset {its its':IP} {n:Nat} {f:Array Value->Array Value} {t':Nat} (I:aR X pins σ H s) (hH:H l=some (.lst xs))
  (e:s.heap.get? l=some 157) (hf:f its.toArray=its'.toArray) (hv:bG ys its') (hz:ys.length<=sizeLine):
  aR X pins σ (aI H l 184) {s with heap:=s.heap.update l (Obj.mapSeq f),toks:=t'}:=by
 have q:=PySem.IsL.update e f;rw[hf] at q;refine I.write (x:=l) (e:=l) (by rw[hH];exact trivial) (.inl rfl) (λb' u hb hu=>(Heap.get?_update_other s.heap (Obj.mapSeq f) (Ne.symm hb)).trans hu) (_,q) ?_
 exact (hz,its',_,hv,q)
theorem aR.lnew {its:IP} {t':Nat} (I:aR X pins σ H s) (hv:bG ys its) (hz:ys.length<=sizeLine):
  aR X pins σ (aI H 74 184) {s with heap:=108 {cls:= .type "list",data:= .seq its.toArray},toks:=t'}:=
 I.laid (λ_ _ q=>76 _ q) 160 ⟨hz,its,0,hv,87 _ rfl⟩
theorem aR.fresh (I:aR X pins σ H s):H 74=none:=I.hok.fresh 160
theorem aR.lstM (I:aR X pins σ H s) (hH:H l=some (.lst xs)):xs.length<=sizeLine/\∃(its:IP) (n:Nat),bG xs its/\xs.length=its.length/\s.heap.get? l=some {cls:= .type "list",data:= .seq its.toArray n}:=by
 obtain ⟨z,its,n,r,e⟩:=I.hok l _ hH;exact (z,its,n,r,r.length,e)
end
variable {X:Cx}
def zO:V->List V->Hp->VK->Prop:=λx vs H Q=>∃l xs y,x= .ref l/\vs= [y]/\H l=some (.lst xs)/\xs.length<sizeLine/\Q .non (aI H l (.lst (xs++ [y])))
theorem bB:Fn X "list.append" zO:=by
 intro pins s σ H x vs v us Q I rx rv h;obtain ⟨l,xs,y,rfl,rfl,hH,hz,q⟩:=h;cases rx;obtain ⟨u,rfl,ru⟩:=rv.one;obtain ⟨z,its,n,r,hl,e⟩:=I.lstM hH;refine call_meets F.slot_list_append (_,e,rfl) F.entry_list_append (F.args_list_append_2 _ _) (PySem.list_append l its.toArray n u (by rw[G6];lia)) (e,?_)
 refine (.non,_,I.lset (its':=its++ [u]) hH e 82 (r.append (.cons ru .nil)) ?_,rfl,q)
 rw[FP,List.length_singleton]
 lia
def EH:R2:=λx y H Q=>∃l b xs zs,x= .ref l/\y= .ref b/\H l=some (.lst xs)/\H b=some (.lst zs)/\xs.length+zs.length<=sizeLine/\∀p,H p=none->Q 120 (aI H p (.lst (xs++zs)))
theorem iI:iq X (binaryOp .Add) EH:=by
 intro pins s σ H x y v u Q I rx ry h;obtain ⟨l,b,xs,zs,rfl,rfl,hH,hB,hz,q⟩:=h;cases rx;cases ry;obtain ⟨z,its,n,r,hl,e⟩:=I.lstM hH;obtain ⟨z2,its2,n2,r2,hl2,e2⟩:=I.lstM hB;refine PySem.P.add_list e e2 ?_ (by rw[G6,G6];lia)
 have ea:its.toArray++its2.toArray=(its++its2).toArray:=by simp
 rw[ea];exact (.ref _,_,I.lnew (t':=s.toks) (r.append r2) (by rw[FP];lia),rfl,q _ I.fresh)
section
variable {κ:Type} [DecidableEq κ]
noncomputable def kg (kvs:List (κ×V)) (k:κ):Option V:=(kvs.find? λkv=>decide (kv.1=k)).map (·.2)
noncomputable def putK (kvs:List (κ×V)) (k:κ) (v:V):List (κ×V):=
 if (kvs.any λkv=>decide (kv.1=k))=true then kvs.map (λkv=>if kv.1=k then (kv.1,v) else kv) else kvs++ [(k,v)]
theorem i7 {p:κ×V} {r:List (κ×V)} {k:κ} (e:p.1=k):kg (p::r) k=some p.2:=by simp[kg,Gy,e]
theorem i8 {p:κ×V} {r:List (κ×V)} {k:κ} (e:¬p.1=k):kg (p::r) k=kg r k:=by simp[kg,Gy,e]
theorem pZ (k:κ):∀kvs:List (κ×V),(kvs.any λkv=>decide (kv.1=k))=(kg kvs k).isSome
 | []=>rfl
 |p::r=>by
  rw[List.any_cons]
  by_cases e:p.1=k
  ·simp only[i7 e,decide_eq_true e,Bool.true_or,Option.isSome_some]
  ·rw[i8 e,decide_eq_false e,HV];exact pZ k r
theorem gO (kvs:List (κ×V)) (k:κ) (v:V):(putK kvs k v).length<=kvs.length+1:=by
 unfold putK
 split
 ·rw[F1];lia
 ·rw[FP,GV,List.length_nil];lia
theorem jv.isSome_eq {o:Option V} {u:IR} (r:jv o u):o.isSome=u.isSome:=by
 cases o with
 |none=>cases u with
  |none=>rfl
  |some _=>exact (show False from r).elim
 |some _=>cases u with
  |none=>exact (show False from r).elim
  |some _=>rfl
theorem KV.val {kvs:List (κ×V)} {vs:List (κ×Value)} (r:KV kvs vs) (k:κ):jv (kg kvs k) (valueAt vs k):=by
 unfold KV at r
 induction r with
 |nil=>exact True.intro
 | @cons p q ps qs h t ih=>
  obtain ⟨h1,h2⟩:=h
  by_cases e:p.1=k
  ·have e':q.1=k:=h1.symm.trans e;have b:valueAt (q::qs) k=some q.2:=by simp[valueAt,Gy,e']
   rw[i7 e,b];exact h2
  ·have e':¬q.1=k:=λz=>e (h1.trans z)
   have b:valueAt (q::qs) k=valueAt qs k:=by simp[valueAt,Gy,e']
   rw[i8 e,b];exact ih
theorem KV.any {kvs:List (κ×V)} {vs:List (κ×Value)} (r:KV kvs vs) (k:κ):(kvs.any λkv=>decide (kv.1=k))=vs.any λkv=>decide (kv.1=k):=by
 unfold KV at r
 induction r with
 |nil=>rfl
 |cons h t ih=>rw[List.any_cons,List.any_cons,ih,h.1]
theorem KV.repl {kvs:List (κ×V)} {vs:List (κ×Value)} (r:KV kvs vs) (k:κ) {y:V} {u:Value} (ry:RelV y u):
  KV (kvs.map λkv=>if kv.1=k then (kv.1,y) else kv) (vs.map λkv=>if kv.1=k then (kv.1,u) else kv):=by
 unfold KV at r⊢
 induction r with
 |nil=>exact .nil
 | @cons p q ps qs h t ih=>
  rw[GL,GL];refine .cons ?_ ih;obtain ⟨h1,h2⟩:=h
  by_cases e:p.1=k
  ·rw[if_pos e,if_pos (h1.symm.trans e)];exact (h1,ry)
  ·rw[if_neg e,if_neg (λz=>e (h1.trans z))];exact (h1,h2)
theorem KV.put {kvs:List (κ×V)} {vs:List (κ×Value)} (r:KV kvs vs) (k:κ) {y:V} {u:Value} (ry:RelV y u):KV (putK kvs k y) (stored vs k u):=by
 unfold putK stored;rw[r.any k]
 by_cases e:(vs.any λkv=>decide (kv.1=k))=true
 ·rw[if_pos e,if_pos e];exact r.repl k ry
 ·rw[if_neg e,if_neg e];exact Paired.snoc r (rfl,ry)
theorem KV.length {kvs:List (κ×V)} {vs:List (κ×Value)} (r:KV kvs vs):kvs.length=vs.length:=Paired.length r
end
theorem kW {P:Program} {w:World} {k:Key} {u:Value} (r:RelV (kV k) u):(aO P w).is k u=true:=by
 cases k with
 |inl i=>obtain ⟨t,e⟩:=(show ∃t,u=Value.int i t from r);subst e;exact pQ P w i t
 |inr x=>obtain ⟨t,e⟩:=(show ∃t,u=Value.str x t from r);subst e;exact pR P w x t
theorem ng {P:Program} {w:World}:∀{ks:List Key} {us:IP},bG (ks.map kV) us->ItemsAre (aO P w) ks us
 | [],_,r=>by rw[List.map_nil] at r;cases r;exact .nil
 |k::ks,_,r=>by
  rw[GL] at r;cases r with
  |cons h t=>exact .cons (kW h) (ng t)
abbrev KT (H:Hp):List (List Key×V)->List 220->Prop:=Paired λp q=>p.1=q.1/\H q.2.1=some (.tup (p.1.map kV))/\RelV p.2 q.2.2
theorem KT.val {H:Hp} {kvs:List (List Key×V)} {xs:List 220} (r:KT H kvs xs) (k:List Key):jv (kg kvs k) ((atKey xs k).map (·.2)):=by
 induction r with
 |nil=>exact True.intro
 | @cons p q ps qs h t ih=>
  obtain ⟨h1,_,h2⟩:=h
  by_cases e:p.1=k
  ·have e':q.1=k:=h1.symm.trans e;have b:atKey (q::qs) k=some q.2:=by simp[atKey,Gy,e']
   rw[i7 e,b];exact h2
  ·have e':¬q.1=k:=λz=>e (h1.trans z)
   have b:atKey (q::qs) k=atKey qs k:=by simp[atKey,Gy,e']
   rw[i8 e,b];exact ih
theorem KT.repl {H:Hp} {kvs:List (List Key×V)} {xs:List 220} (r:KT H kvs xs) (k:List Key) {y:V} {u:Value} (ry:RelV y u):
  KT H (kvs.map λkv=>if kv.1=k then (kv.1,y) else kv) (xs.map (putAt k u)):=by
 induction r with
 |nil=>exact .nil
 | @cons p q ps qs h t ih=>
  rw[GL,GL];refine .cons ?_ ih;obtain ⟨h1,h2,h3⟩:=h;unfold putAt
  by_cases e:p.1=k
  ·rw[if_pos e,if_pos (h1.symm.trans e)];exact (h1,h2,ry)
  ·rw[if_neg e,if_neg (λz=>e (h1.trans z))];exact (h1,h2,h3)
theorem KT.put {H:Hp} {kvs:List (List Key×V)} {xs:List 220} (r:KT H kvs xs) (k:List Key) {b:Addr} {y:V} {u:Value} (hb:H b=some (.tup (k.map kV))) (ry:RelV y u):
  KT H (putK kvs k y) (storedH xs k b u):=by
 have e:(kvs.any λkv=>decide (kv.1=k))=(atKey xs k).isSome:=by
  rw[pZ,(r.val k).isSome_eq,Option.isSome_map]
 unfold putK storedH;rw[e]
 by_cases q:(atKey xs k).isSome=true
 ·rw[if_pos q,if_pos q];exact r.repl k ry
 ·rw[if_neg q,if_neg q];exact Paired.snoc r (rfl,hb,ry)
theorem KT.keeps {H H':Hp} {kvs:List (List Key×V)} {xs:List 220} (r:KT H kvs xs) (ht:∀b ys,H b=some (.tup ys)->H' b=some (.tup ys)):KT H' kvs xs:=
 Paired.mapP r λ_ _ z=>⟨z.1,ht _ _ z.2.1,z.2.2⟩
section
variable {P:Program} {w:World} {H:Hp} {h:Heap} {a:Addr}
theorem AE {u:HO} (ok:iA P w H h) (e:Rd H a u):cg P w H h a u:=e.ok ok
theorem p5 {kvs:List 193} (ok:iA P w H h) (e:Rd H a 119):kvs.length<=sizeLine/\(a==sysModules)=false/\∃vs,KV kvs vs/\h.DictOf (aO P w) a vs:=
 show cg P w H h a 119 from AE ok e
theorem p8 {kvs:List 193} (ok:iA P w H h) (e:H a=some 119):kvs.length<=sizeLine/\(a==sysModules)=false/\∃vs,KV kvs vs/\h.DictOf (aO P w) a vs:=p5 ok (.inl e)
theorem oC {ks:List Key} (ok:iA P w H h) (e:H a=some (.tup (ks.map kV))):(tupleKind (aO P w)).is h ks a:=by
 obtain ⟨_,its,r,o,h1,h2,n,h3⟩:=(show cg P w H h a (.tup (ks.map kV)) from ok a _ e)
 exact (o,its.toArray,n,h1,h2,h3,by simpa using ng r)
theorem uy {kvs:List (List Key×V)} (ok:iA P w H h) (e:Rd H a (.dT kvs)):kvs.length<=sizeLine/\(a==sysModules)=false/\
  ∃xs,KT H kvs xs/\h.DictOfH (tupleKind (aO P w)) a xs:=by
 obtain ⟨z,y,xs,r,o,es,ep,h1,h2,h3,h4,h5⟩:=(show cg P w H h a (.dT kvs) from AE ok e)
 refine (z,y,xs,r,o,es,ep,h1,h2,h3,h4,λx hx=>?_,h5)
 have all:∀{l:List (List Key×V)} {m:List 220},KT H l m->∀x∈m,(tupleKind (aO P w)).is h x.1 x.2.1:=by
  intro l m q
  induction q with
  |nil=>intro x hx;exact nomatch hx
  | @cons p q ps qs hq t ih=>
   intro x hx;rcases FW.mp hx with e|hx
   ·subst e;exact oC ok (by rw[<-hq.1];exact hq.2.1)
   ·exact ih x hx
 exact all r x hx
theorem CO {kvs:List (List Key×V)} (ok:iA P w H h) (e:H a=some (.dT kvs)):kvs.length<=sizeLine/\(a==sysModules)=false/\
  ∃xs,KT H kvs xs/\h.DictOfH (tupleKind (aO P w)) a xs:=uy ok (.inl e)
end
def sD (H:Hp) (a:Addr) (y:V) (r:Option V):Prop:=
 (∃kvs k,Rd H a 119/\y=kV k/\r=kg kvs k)∨∃kvs k b,Rd H a (.dT kvs)/\y= .ref b/\H b=some (.tup (k.map kV))/\r=kg kvs k
def xT (H:Hp) (a:Addr) (y v:V) (H':Hp):Prop:=
 (∃kvs k,H a=some 119/\y=kV k/\kvs.length<sizeLine/\H'=aI H a (.dK (putK kvs k v)))∨
 ∃kvs k b,H a=some (.dT kvs)/\y= .ref b/\H b=some (.tup (k.map kV))/\kvs.length<sizeLine/\H'=aI H a (.dT (putK kvs k v))
theorem xT.k {H:Hp} {a:Addr} {kvs:List 193} {k:Key} {v:V} (e:H a=some 119) (hl:kvs.length<sizeLine):xT H a (kV k) v (aI H a (.dK (putK kvs k v))):= .inl (kvs,k,e,rfl,hl,rfl)
section
variable {pins:IK} {σ:St} {H:Hp} {s:Shared} {a:Addr} {y v:V} {u r:Value} {o:Option V} {A:Around} {E:II}
theorem aR.big (I:aR X pins σ H s):sysModules<s.heap.objs.size:=by
 have h:mainGlobals<s.heap.objs.size:=(I.mod.glob.keeps I.bk).lt;exact Nat.lt_trans 73 h
theorem vW {Q:II} (hu:A.units+1<cLine) (I:aR X pins σ H s) (g:sD H a y (some v)) (ry:RelV y u) (h:∀w' s',aR X pins σ H s'->RelV v w'->Q w' s'):
  wpAny 93 A (getItem 188 u) Q E s:=by
 rcases g with ⟨kvs,k,e,ey,l⟩|⟨kvs,k,b,e,ey,eb,l⟩
 ·subst ey;obtain ⟨z,hd,vs,rel,dd⟩:=p5 I.hok e;obtain ⟨w',hw,rw'⟩:=jv.some_of (v:=v) (o:=valueAt vs k) (by rw[l];exact rel.val k)
  exact wpAny_getItem_of (kW ry) dd.mapOf hw (h w' _ (I.tok _) rw')
 ·subst ey;cases (show u=Value.ref b from ry)
  obtain ⟨z,hd,xs,rel,dd⟩:=uy I.hok e;obtain ⟨w',hw,rw'⟩:=jv.some_of (v:=v) (o:=(atKey xs k).map (·.2)) (by rw[l];exact rel.val k)
  obtain ⟨p,hp,hp2⟩:=FT.mp hw;refine wpAny_getItem_heap (tupleKind_room_in1 hu) (oC I.hok eb) dd hp ?_;rw[hp2];exact h w' _ (I.tok _) rw'
theorem zP {Q:II} (hu:A.units+1<cLine) (I:aR X pins σ H s) (g:sD H a y o) (ry:RelV y u) (h:∀s',aR X pins σ H s'->Q (.bool (!o.isSome)) s'):
  wpAny 93 A (compareOp .NotIn u 188) Q E s:=by
 rcases g with ⟨kvs,k,e,ey,l⟩|⟨kvs,k,b,e,ey,eb,l⟩
 ·subst ey;obtain ⟨z,hd,vs,rel,dd⟩:=p5 I.hok e;refine wpAny_notIn_of (kW ry) hd dd.mapOf ?_;rw[<-(rel.val k).isSome_eq,<-l];exact h _ (I.tok _)
 ·subst ey;cases (show u=Value.ref b from ry)
  obtain ⟨z,hd,xs,rel,dd⟩:=uy I.hok e;refine wpAny_notIn_heap (tupleKind_room_in1 hu) (oC I.hok eb) hd dd ?_;have q:=(rel.val k).isSome_eq;rw[Option.isSome_map] at q;rw[<-q,<-l];exact h _ (I.tok _)
theorem oE {h':Heap} {t':Nat} {ob:HO} (I:aR X pins σ H s) (mu:Ct (H a)) (hs:Heap.SameBut a s.heap h') (he:∃q,h'.get? a=some q) (new:cg X.prog X.w (aI H a ob) h' a ob):
  aR X pins σ (aI H a ob) {s with heap:=h',toks:=t'}:=
 I.write (x:=a) (e:=a) mu (.inl rfl) (λb q hb z=>(hs.2 b hb).trans z) he new
theorem xU {P:Program} {w:World} {H':Hp} {h':Heap} {kvs:List 193} {vs:List (Key×Value)} (z:kvs.length<=sizeLine) (hd:(a==sysModules)=false) (rel:KV kvs vs) (dd:h'.DictOf (aO P w) a vs):
  cg P w H' h' a (.dK kvs):=⟨z,hd,vs,rel,dd⟩
theorem vX {H':Hp} {Q:Unit->Shared->Prop} (hu:A.units+1<cLine) (I:aR X pins σ H s) (g:xT H a y v H') (ry:RelV y u) (rv:RelV v r) (h:∀s',aR X pins σ H' s'->Q () s'):
  wpAny 93 A (setItem 188 u r) Q E s:=by
 rcases g with ⟨kvs,k,e,ey,l,eH⟩|⟨kvs,k,b,e,ey,eb,l,eH⟩
 ·subst ey eH;obtain ⟨z,hd,vs,rel,dd⟩:=p8 I.hok e;have hz:vs.length<=sizeLine:=by rw[<-rel.length];exact z
  have hl:(putK kvs k v).length<=sizeLine:=by have:=gO kvs k v;lia
  refine wpAny_setItem_pairs (hsz:=hz) (kW ry) dd λh' dd' hs=>h _ ?_
  have he:∃q,h'.get? a=some q:=let ⟨q,_,_,hq,_⟩:=dd';⟨q,hq⟩;exact oE I (by rw[e];exact True.intro) hs he (xU hl hd (rel.put k rv) dd')
 ·subst ey eH;cases (show u=Value.ref b from ry)
  obtain ⟨z,hd,xs,rel,dd⟩:=CO I.hok e;have hz:xs.length<=sizeLine:=by rw[<-Paired.length rel];exact z
  have hl:(putK kvs k v).length<=sizeLine:=by have:=gO kvs k v;lia
  refine wpAny_setItem_heap (hsz:=hz) (tupleKind_room_in1 hu) (oC I.hok eb) dd λh' dd' hs=>h _ ?_
  obtain ⟨q,es,ep,hq,h2,h3,h4,_,h5⟩:=dd';refine oE I (by rw[e];exact True.intro) hs ⟨q,hq⟩ ⟨hl,hd,_,(rel.put k eb rv).keeps λc ys ec=>?_,q,es,ep,hq,h2,h3,h4,h5⟩
  rw[aJ (iX ec e (λz=>nomatch z))]
  exact ec
end
section
variable {pins:IK} {σ:St} {H:Hp} {s:Shared} {a:Addr} {kvs:List (Key×V)} {k:Key} {u:Value} {A:Around} {E:II}
theorem CP {Q:II} (I:aR X pins σ H s) (e:Rd H a 119) (h:∀t s',aR X pins σ H s'->Q (.int kvs.length t) s'):wpAny 93 A (call (.builtin "len") [.ref a]) Q E s:=by
 obtain ⟨z,hd,vs,rel,dd⟩:=p5 I.hok e;refine call_len_dict hd dd (by rw[<-rel.length];rw[sizeLine_eq] at z;lia) ?_
 rw[<-rel.length];exact h _ _ (I.tok _)
end
def CQ (i:Expr):Prop:=∀ov iv,subscripted i false ov iv=operate [ov,iv] (getItem ov iv)
theorem zQ {prog:Program} {w:World} {A:Around} {E:II} {s:Shared} {env:Env} {value slice:Expr} {pos:Pos} {T id:String} {Q:II}
  (hl:typeLookup (.type T) "__getitem__" =pure (some (.builtin id))) (hs:CQ slice)
  (h:wpAny 79 A (eval value env) (λo s₁=>wpAny 79 A (eval slice env) (λi s₂=>s₂.TypeIs o T/\wpAny 79 A (getItem o i) Q E s₂) E s₁) E s):
  wpAny 79 A (eval (.Subscript value slice pos) env) Q E s:=by
 refine Subscript_ (wpAny_mono h (λo s₁ h₁=>wpAny_mono h₁ (λi s₂ h₂=>?_) λ_ _ x=>x) λ_ _ x=>x)
 obtain ⟨hT,h₂⟩:=h₂;unfold subscriptTail;refine wpAny_bind ?_;rw[getitemInPython_of_ne hT.not_modules];refine wpAny_bind (wpAny_specialOf hT hl ?_);have fin:wpAny 79 A (subscripted slice false o i) (λr s₃=>wpAny 79 A (letTemporaryGo value o r>>=λ_=>pure r) Q E s₃) E s₂:=by
  rw[hs o i];exact wpAny_operating (wpAny_mono h₂ (λr s₃ h₃=>wpAny_bind (wpAny_letTemporaryGo (wpAny_pure h₃))) λ_ _ x=>x)
 first
  |exact wpAny_pure (wpAny_bind fin)
  |exact wpAny_bind (wpAny_pure (wpAny_bind fin))
  |exact wpAny_bind fin
theorem p9 {X:Cx} {pins:IK} {σ:St} {H:Hp} {s:Shared} {a:Addr} {y:V} {o:Option V} (I:aR X pins σ H s) (g:sD H a y o):s.TypeIs 188 "dict" :=by
 rcases g with ⟨kvs,k,e,_,_⟩|⟨kvs,k,b,e,_,_,_⟩
 ·obtain ⟨_,_,vs,_,dd⟩:=p5 I.hok e;exact dd.typeIs
 ·obtain ⟨_,_,xs,_,dd⟩:=uy I.hok e;exact dd.typeIs
def CT (td ty:TE):TE:=λσ H Q=>td σ H λx H1=>ty σ H1 λy H2=>∃a v,x= .ref a/\sD H2 a y (some v)/\Q v H2
def zR (ty td:TE):TE:=λσ H Q=>ty σ H λy H1=>td σ H1 λx H2=>∃a o,x= .ref a/\sD H2 a y o/\Q (.bl (!o.isSome)) H2
def CU (td ty tv:TE):TS:=λD σ H=>tv σ H λv H1=>td σ H1 λx H2=>ty σ H2 λy H3=>∃a H4,x= .ref a/\xT H3 a y v H4/\D.nx σ H4
section
variable {o i e value:Expr} {pos pos' tpos:Pos} {td ty tv:TE}
theorem i9 (hu:X.A.units+1<cLine) (ho:PE X o td) (hi:PE X i ty) (hs:CQ i):PE X (.Subscript o i pos) (CT td ty):=by
 intro pins s σ H Q I h;refine zQ PySem.F.slot_dict_getitem.lookup hs (bW (ho pins s σ H _ I h) λu s1 (x,H1,I1,rx,q1)=>bW (hi pins s1 σ H1 _ I1 q1) λiv s2 (y,H2,I2,ry,a,v,ex,g,q2)=>?_)
 subst ex;obtain rfl:u=Value.ref a:=rx;exact (p9 I2 g,vW hu I2 g ry λw' s3 I3 rw'=>(v,H2,I3,rw',q2))
theorem nh (hu:X.A.units+1<cLine) (hi:PE X i ty) (ho:PE X o td):PC X .NotIn i o (zR ty td):=by
 intro pins s σ H Q I h;refine bW (hi pins s σ H _ I h) λiv s1 (y,H1,I1,ry,q1)=>bW (ho pins s1 σ H1 _ I1 q1) λu s2 (x,H2,I2,rx,a,ov,ex,g,q2)=>?_
 subst ex;obtain rfl:u=Value.ref a:=rx;exact zP hu I2 g ry λs3 I3=>(.bl (!ov.isSome),H2,I3,rfl,q2)
theorem zS (hu:X.A.units+1<cLine) (ho:PE X o td) (hi:PE X i ty) (hv:PE X value tv) (hs:swapsWith value (some (.Subscript o i pos')) pos.line X.env=pure false):
  PS X (.Assign [.Subscript o i pos'] value pos) (CU td ty tv):=by
 intro pins s σ H D I h;refine wpAny_Assign_Subscript (bW (hv pins s σ H _ I h) λr s1 (v,H1,I1,rv,q1)=>bW (ho pins s1 σ H1 _ I1 q1) λu s2 (x,H2,I2,rx,q2)=>bW (hi pins s2 σ H2 _ I2 q2) λiv s3 (y,H3,I3,ry,a,H4,ex,g,q3)=>?_) hs
 subst ex;obtain rfl:u=Value.ref a:=rx;exact vX hu I3 g ry rv λs4 I4=>(σ,H4,I4,q3)
end
theorem qa {P:Program} {w:World} {H:Hp} (h:Heap) (hb:sysModules<h.objs.size):cg P w H (h.push {cls:= .type "dict",data:= .dict #[]}) h.objs.size (.dK []):=
 ⟨G4 _,beq_eq_false_iff_ne.mpr (Ne.symm (FV hb)),[],.nil,Heap.DictOf.new h⟩
def Bf:TE:=λ_ H Q=>∀p,H p=none->Q 120 (aI H p (.dK []))
section
variable {pos:Pos}
theorem qc:PE X (.Dict [] [] pos) Bf:=λpins s σ H Q I h=>
 wpAny_Dict_empty ⟨.ref 74,_,I.laid (a:=74) (o:= .dK []) (t':=s.toks) (λ_ _ q=>76 _ q) 160 (qa s.heap I.big),rfl,h _ (I.hok.fresh 160)⟩
end
def sE:List (TE×TE)->St->Hp->(List (V×V)->Hp->Prop)->Prop
 | [],_,H,Q=>Q [] H
 |(tk,tv)::r,σ,H,Q=>tk σ H λx H1=>tv σ H1 λy H2=>sE r σ H2 λps H3=>Q ((x,y)::ps) H3
abbrev VV:List (V×V)->List (Value×Value)->Prop:=Paired λp q=>RelV p.1 q.1/\RelV p.2 q.2
def Eg (X:Cx) (pos:Pos) (keys:List (Option Expr)) (values:List Expr) (trs:List (TE×TE)):Prop:=
 ∀(pins:IK) (s:Shared) (σ:St) (H:Hp) (Q:List (V×V)->Hp->Prop),aR X pins σ H s->sE trs σ H Q->
  wpAny 93 X.A (evalPairs (pairTrees keys values X.env pos)) (λvs s'=>∃ps H',aR X pins σ H' s'/\VV ps vs/\Q ps H') X.xe s
theorem zT {X:Cx} {pos:Pos}:Eg X pos [] [] []:=λpins s σ H Q I h=>pairTrees_nil_walk ([],H,I,.nil,h)
theorem qd {X:Cx} {pos:Pos} {k v:Expr} {ks:List (Option Expr)} {vs:List Expr} {tk tv:TE} {trs:List (TE×TE)} (hk:PE X k tk) (hv:PE X v tv) (hr:Eg X pos ks vs trs):
  Eg X pos (some k::ks) (v::vs) ((tk,tv)::trs):=λpins s σ H Q I h=>
 pairTrees_cons_walk (bW (hk pins s σ H _ I h) λu s1 ⟨x,H1,I1,rx,q1⟩=>bW (hv pins s1 σ H1 _ I1 q1) λw2 s2 ⟨y,H2,I2,ry,q2⟩=>
  bW (hr pins s2 σ H2 _ I2 q2) λws s3 ⟨ps,H3,I3,rel,q3⟩=>⟨(x,y)::ps,H3,I3,.cons ⟨rx,ry⟩ rel,q3⟩)
noncomputable def iJ (kvs more:List 193):List (Key×V):=more.foldl (λacc kv=>putK acc kv.1 kv.2) kvs
theorem KV.merge:∀{more:List 193} {rs:List (Key×Value)} {kvs:List 193} {vs:List (Key×Value)},KV more rs->KV kvs vs->KV (iJ kvs more) (merged vs rs):=by
 intro more rs kvs vs r;unfold KV at r
 induction r generalizing kvs vs with
 |nil=>intro q;exact q
 | @cons p q ps qs h t ih=>
  intro r0;have e:KV (putK kvs p.1 p.2) (stored vs q.1 q.2):=by
   have:=r0.put p.1 h.2;rw[<-h.1];exact this
  exact ih e
theorem iC:∀(more kvs:List 193),(iJ kvs more).length<=kvs.length+more.length
 | [],kvs=>by show kvs.length<=kvs.length+0;lia
 |p::r,kvs=>by
  have h1:=iC r (putK kvs p.1 p.2);have h2:=gO kvs p.1 p.2;show (iJ (putK kvs p.1 p.2) r).length<=_;rw[GV];lia
theorem kX {P:Program} {w:World}:∀{kvs:List 193} {ws:List (Value×Value)},VV (kvs.map λkv=>(kV kv.1,kv.2)) ws->∃rs,Carries (aO P w) ws rs/\KV kvs rs
 | [],_,r=>by rw[List.map_nil] at r;cases r;exact ⟨[],True.intro,.nil⟩
 |p::kvs,_,r=>by
  rw[GL] at r;cases r with
  | @cons a b as bs h t=>
   obtain ⟨rs,c,q⟩:=kX (P:=P) (w:=w) t;obtain ⟨b1,b2⟩:=b;exact ((p.1,b2)::rs,(kW h.1,rfl,c),.cons (rfl,h.2) q)
def CV (trs:List (TE×TE)):TE:=λσ H Q=>∀p,H p=none->sE trs σ (aI H p (.dK [])) λps H2=>H2 p=some (.dK [])/\∃kvs:List 193,ps=kvs.map (λkv=>(kV kv.1,kv.2))/\kvs.length<=15/\Q 120 (aI H2 p (.dK (iJ [] kvs)))
theorem zU {X:Cx} {pos:Pos} {keys:List (Option Expr)} {values:List Expr} {trs:List (TE×TE)} (h:Eg X pos keys values trs) (hall:keys.all (·.isSome)=true) (hl:keys.length=values.length) (h0:keys≠ [])
  (h15:keys.length<=15):PE X (.Dict keys values pos) (CV trs):=by
 intro pins s σ H Q I q;have hn:=I.hok.fresh (F8 74);have I1:=I.laid (a:=74) (o:= .dK []) (h':=108 {cls:= .type "dict",data:= .dict #[]}) (t':=s.toks) (λ_ _ q=>76 _ q) 160 (qa s.heap I.big)
 refine wpAny_Dict_walk (knd:=aO X.prog X.w) hall hl h0 h15 (bW (h pins _ σ _ _ I1 (q _ hn)) λws s2 (ps,H2,I2,rel,e,kvs,ep,lk,q2)=>?_)
 subst ep;obtain ⟨rs,c,rk⟩:=kX (P:=X.prog) (w:=X.w) rel;obtain ⟨z,hd,vs0,r0,dd⟩:=p8 I2.hok e;cases r0;refine (rs,c,dd,λh' dd' hs=>(.ref 74,_,?_,rfl,q2))
 have hz:(iJ [] kvs).length<=sizeLine:=by
  have h1:=iC kvs [];rw[List.length_nil] at h1;rw[sizeLine_eq];lia
 have he:∃q,h'.get? 74=some q:=let ⟨q,_,_,hq,_⟩:=dd';⟨q,hq⟩;exact oE I2 (by rw[e];exact True.intro) hs he (xU hz hd (rk.merge .nil) dd')
end L2
namespace Att
open PySem PySem.W PySem.Calls PyProof.Rows
theorem kh {P:Params} {h:Heap}:∀(ns:List Int) (vs:IP),WellAll P h vs (ns.map WData.int)->IntsAre vs ns:=by
 intro ns
 induction ns with
 |nil=>
  intro vs w;rw[List.map_nil] at w;cases w;exact .nil
 |cons n ns ih=>
  intro vs w;rw[GL] at w;cases w with
  |cons a b=>
   cases a;exact .cons _ _ (ih _ b)
theorem vY {l:OpenLaw} {n:Nat} (hn:l.most=some n) {P:Params} {h:Heap} {args:List WData} {vals:IP}
  (hpre:l.row.toRowW.claim.pre args=true) (hwl:WellAll P h vals args):
  ∃a vs ns,vals= [Value.ref a]/\args= [WData.list (ns.map WData.int)]/\h.get? a=some 163/\IntsAre vs ns/\ns.length<=n:=by
 have hsh:WShape.hasAll [] args [.list .int]=true:=(pre_splitW hpre).1;have hc:l.pre.holds [] {args:=args}=true:=(pre_splitW hpre).2;obtain ⟨d,r,rfl,h1,h2⟩:=hasAllW_cons hsh;obtain rfl:=hasAllW_nil h2;obtain ⟨xs,rfl,h3⟩:=hasW_list h1;obtain ⟨ns,rfl⟩:=items_int h3;have hlen:ns.length<=n:=by
  unfold OpenLaw.pre at hc;have h4:(WTm.not (.lt (.lit (.int (n:Int))) (.len (.arg 0)))).holds [] {args:= [.list (ns.map .int)]}=true:=by
   have h4:=(holds_andW hc).1;rw[hn] at h4;exact h4
  have h5:=condW_of h4 (w_not (w_lt w_lit (w_len_list (w_arg rfl))));rw[F1] at h5;refine Nat.le_of_not_lt λq=>?_
  have q':(n:Int)<((ns.length:Nat):Int):=by lia
  first
   |(rw[decide_eq_true q'] at h5;exact absurd h5 (by decide))
   |(simp at h5;lia)
 cases hwl with
 |cons w1 w2=>
  cases w2;cases w1 with
  |list ho hall=>exact ⟨_,_,ns,rfl,rfl,ho,kh ns _ hall,hlen⟩
theorem vZ (l:OpenLaw) (args:List WData):l.row.toRowW.claim.post args (.bool true) args=true:=
 postW_of (r:=l.row.toRowW) (X:=(true==true))
  (show WShape.has [] (.bool true) .bool=true by first|rfl|decide|simp[WShape.has,WShape.arms,WShape.armsAll])
  (show (WTm.eq .res (.lit (.bool true))).value [] {args:=args,res:=some (.bool true),after:=args}=some (.bool (true==true)) from w_eq_bool (w_res rfl) w_lit) rfl
theorem qe {l:OpenLaw} {n:Nat} {q:Program} {loose:IM} {XP:IJ->Heap->Prop} {YP:World->Heap->Prop} {d:DefRec}
  (hn:l.most=some n) (hdf:d.params.defaults= [])
  (call:∀(w:World) (s₀ s₁:Shared) (mg mb:IJ) (fa:Addr) (o:Obj) (pm cd doc:Value) (a:Addr) (vs:IP) (ns:List Int),
   Ground q loose [] XP w s₀ mg mb s₁.heap->YP w s₁.heap->
   s₁.heap.get? fa=some o->o.data= .func (docDef d.name d.params d.body d.scope pm cd doc)->s₁.heap.CodeRec cd d.name->mg d.name=some (.ref fa)->
   s₁.heap.get? a=some 163->IntsAre vs ns->ns.length<=n->s₁.gens= #[]->
   codeAny (model l.prog w) callerA (.call (.ref fa) ⟨[.ref a],[]⟩) (λr s'=>r= .ok (.ret (.bool true))/\OldK s₁.heap s'.heap/\s'.os=s₁.os/\AllBare s'.gens) s₁):
  WalkO q loose XP YP l.row.toRowW d [] (λf vs=>PySem.call f vs):=by
 intro w s₀ s₁ mg mb G Y fa o pm cd doc dV kV ho hd hcd hD hmg hg args vals as hpre hlay hrd hwl hlo;obtain rfl:dV= .none:=Dflts.none hD hdf;obtain rfl:kV= .none:=Dflts.noKw hD;obtain ⟨a,vs,ns,rfl,rfl,hobj,hints,hlen⟩:=vY hn hpre hwl;refine enter_call (codeAny_mono (call w s₀ s₁ mg mb fa o pm cd doc a vs ns G Y ho (fd_plain hd) hcd hmg hobj hints hlen hg) λr s' hq=>?_)
 obtain ⟨rfl,h2,h3,h4⟩:=hq;exact (.inl (.bool true,.bool true,[],rfl,λ_=>rfl,.bool true,vZ l _,λ_=>(Hh,λ_ hm=>(nomatch hm))),h2,h3,h4)
end Att
namespace L2
open PySem PySem.Spec PyProof.Rows
theorem jB:∀{vs:IP} {ns:List Int},IntsAre vs ns->bG 135 vs
 |_,_,.nil=> .nil
 |_,_,.cons n t h=> .cons ⟨t,rfl⟩ (jB h)
def Bg (H:Hp):Prop:=∀b,H b=none∨∃o xs,H b=some (.frz o (.lst xs))
theorem xV {P:Program} {w:World} {K:F6} {mg mb:IJ} {CX:uk} {k:Nat} {fa a:Addr} {fd:FuncData} {x:Str} {sp:Sp} {s₁:Shared} {vs:IP} {ns:List Int}
  (KX:K.In s₁.heap) (hns:s₁.heap.Ns mainGlobals mg) (hb:s₁.heap.Ns builtinsNs mb) (hbb:∀x:Str,x≠ "__name__" ->mb x=bootBuiltins x) (hlim:s₁.heap.NoLimit) (hg:s₁.gens= #[])
  (ha:s₁.heap.get? a=some 163) (hi:IntsAre vs ns) (hl:ns.length<=sizeLine) (hr:dM k callerA)
  (F:∀base:Heap,K.In base->base.Ns mainGlobals mg->bS P w K mg base CX k fa fd [x] sp) (hbind:∀(s:Shared) (u:Value),BindsTo s fd ⟨[u],[]⟩ [(x,u)])
  (hsp:∀H:Hp,Bg H->aE K H a 135->sp [.ref a] H (λv _=>v= .bl true) λ_ _ _=>False)
  (hCX:∀H e s',CX [] H s₁ (λ_ _ _=>False) e s'->False):
  codeAny (model P w) callerA (.call (.ref fa) ⟨[.ref a],[]⟩) (λr s'=>r= .ok (.ret (.bool true))/\OldK s₁.heap s'.heap/\s'.os=s₁.os/\AllBare s'.gens) s₁:=by
 have rv:=jB hi;have lenV:=hi.length;have core:∀H:Hp,Bg H->aE K H a 135->iA P w H s₁.heap->(∀b,H b≠none->b=a)->(H a≠none->K.lookup a=none)->
   codeAny (model P w) callerA (.call (.ref fa) ⟨[.ref a],[]⟩) (λr s'=>r= .ok (.ret (.bool true))/\OldK s₁.heap s'.heap/\s'.os=s₁.os/\AllBare s'.gens) s₁:=by
  intro H hO hS hok hA hK;have base_of:∀{b:Addr} {o:Obj},s₁.heap.get? b=some o->H b=none->(oj s₁.heap H).get? b=some o:=λe n=>xB e n
  have noA:∀{b:Addr} {o:Obj} {es:Array DictEntry} {ep:Nat},s₁.heap.get? b=some o->o.data= .dict es ep->H b=none:=λ{b o es ep} e d=>by
   cases q:H b with
   |none=>rfl
   |some u=>
    have e':b=a:=hA b (by rw[q];simp)
    subst e';rw[ha] at e;cases e;have d':Data.seq vs.toArray _=Data.dict es ep:=d;cases d'
  have nsK:∀{b:Addr} {m:IJ},s₁.heap.Ns b m->(oj s₁.heap H).Ns b m:=λ{b m} (o,es,ep,e,d,r)=>(o,es,ep,base_of e (noA e d),d,r)
  have hKb:K.In (oj s₁.heap H):=λb o e=>base_of (KX b o e) (by
   cases q:H b with
   |none=>rfl
   |some u=>
    have e':b=a:=hA b (by rw[q];simp)
    subst e';rw[hK (by rw[q];simp)] at e;cases e)
  have hM:Mod K mg (oj s₁.heap H):=⟨hKb,nsK hns,⟨mb,nsK hb,hbb⟩,let ⟨mc,h1,h2⟩:=hlim;⟨mc,nsK h1,h2⟩⟩;have e0:su P w K mg (oj s₁.heap H) callerA [] s₁ H:=(rfl,hM,λb o e=>zE e,Nat.le_of_eq (vJ _ _),trivial,λb hb=>absurd (show b∈([]:IN) from hb) (by simp),hok,.of_eq hg)
  refine codeAny_mono ((F _ hKb (nsK hns)).run callerA [] s₁ H ([.ref a],[]) [.ref a] [.ref a] _ _ hr e0 (hbind s₁ 188) (.cons rfl .nil) (hsp H hO hS)) λr s' h=>?_
  cases r with
  |error e=>exact (hCX H e s' h).elim
  |ok fl=>
   cases fl with
   |next=>exact False.elim h
   |brk=>exact False.elim h
   |cont=>exact False.elim h
   |ret u=>
    obtain ⟨v,H',os,bare,un,hok',r',q⟩:=h;have q':v= .bl true:=q;subst q';obtain rfl:u=Value.bool true:=r';refine (rfl,OldK.of_keep λb o e=>?_,os,bare)
    cases q:H b with
    |none=>exact un.keep b o e q (by intro z;exact absurd (show b∈([]:IN) from z) 82) 82
    |some u=>
     rcases hO b with z|⟨ob,xs,z⟩
     ·rw[q] at z;cases z
     ·have z2:=un.frzs b ob _ z;obtain ⟨e1,_⟩:=hok b _ z;obtain ⟨e2,_⟩:=hok' b _ z2;rw[e] at e1;cases e1;exact e2
 cases hk:K.lookup a with
 |some o=>
  have e:=KX a o hk;rw[ha] at e;cases e;refine core (λ_=>none) (λ_=> .inl rfl) (.inr (_,vs.toArray,_,hk,rfl,rfl,rfl,by rw[G6,lenV];exact hl,by simpa using rv)) (λb u z=>by have z':(none:Option HO)=some u:=z;cases z') (λb z=>absurd rfl z) λz=>absurd rfl z
 |none=>
  refine core (λb=>if b=a then some (.frz 163 (.lst 135)) else none) (λb=>?_) (.inl (.inr (163,if_pos rfl))) (λb u z=>?_) (λb z=>?_) λ_=>hk
  ·by_cases hb:b=a
   ·exact .inr (_,_,if_pos hb)
   ·exact .inl (if_neg hb)
  ·by_cases hb:b=a
   ·have z':=(if_pos hb).symm.trans z;cases z';subst hb;exact (ha,by rw[F1];exact hl,vs,_,rv,ha)
   ·have z':=(if_neg hb).symm.trans z;cases z'
  ·by_cases hb:b=a
   ·exact hb
   ·exact absurd (if_neg hb) z
theorem zV {l:PySem.W.OpenLaw} {n k:Nat} {q:Program} {loose:IM} {XP:IJ->Heap->Prop} {YP:World->Heap->Prop} {d:DefRec} {K:Params->F6} {CX:World->uk} {sp:World->Sp} {x:Str}
  (hn:l.most=some n) (hn2:n<=sizeLine) (hdf:d.params.defaults= []) (hr:dM k callerA)
  (hY:∀(w:World) (h:Heap),YP w h->(K w.params).In h)
  (F:∀(w:World) (mg:IJ) (fa:Addr) (h:Heap),(K w.params).In h->h.Ns mainGlobals mg->mg d.name=some (.ref fa)->
   ∃fd:FuncData,(∀(s:Shared) (u:Value),BindsTo s fd ⟨[u],[]⟩ [(x,u)])/\
    ∀base:Heap,(K w.params).In base->base.Ns mainGlobals mg->bS l.prog w (K w.params) mg base (CX w) k fa fd [x] (sp w))
  (hsp:∀(w:World) (H:Hp) (a:Addr) (ns:List Int),ns.length<=n->Bg H->aE (K w.params) H a 135->sp w [.ref a] H (λv _=>v= .bl true) λ_ _ _=>False)
  (hCX:∀(w:World) (H:Hp) (s:Shared) (e:Value) (s':Shared),CX w [] H s (λ_ _ _=>False) e s'->False):
  PySem.W.WalkO q loose XP YP l.row.toRowW d [] (λf vs=>PySem.call f vs):=by
 refine Att.qe hn hdf λw s₀ s₁ mg mb fa o pm cd doc a vs ns G Y ho hd hcd hmg hobj hints hlen hg=>?_
 have KX:=hY w _ Y;obtain ⟨fd,hb,hF⟩:=F w mg fa _ KX G.T.g hmg;exact xV KX G.T.g G.T.b G.T.builtins G.T.nolimit hg hobj hints (Gf hlen hn2) hr hF hb (λH hO hS=>hsp w H a ns hlen hO hS) λH e s'=>hCX w H s₁ e s'
noncomputable def fo (s:Stmt):Arguments:=match s with
 | .FunctionDef _ a _ _ _ _ _ _ _ _=>a
 |_=>{posonlyargs:= [],args:= [],vararg:=none,kwonlyargs:= [],kw_defaults:= [],kwarg:=none,defaults:= []}
noncomputable def dZ (s:Stmt):List Stmt:=match s with
 | .FunctionDef _ _ b _ _ _ _ _ _ _=>b
 |_=> []
noncomputable def aB (s:Stmt):Scope:=match s with
 | .FunctionDef _ _ _ _ _ _ sc _ _ _=>sc
 |_=>{kind:= .function,names:= [],isGenerator:=false,isCoroutine:=false}
abbrev bM:uk:=λ_ _ _ _ _ _=>False
abbrev E0:XK:=λ_ _ _=>False
theorem xW {X:Cx}:kS bM X E0:=λ_ _ _ _ _ _ _ h=>h.elim
theorem jU {A:Around} {k:Nat} (hr:dM k A):A.units+1<cLine:=Nat.lt_of_le_of_lt (Nat.add_le_add_left (by decide:1<=64) _) hr.units
variable {X:Cx}
theorem pv (i:Nat) {x:Str} {pos:Pos} (hN:X.N[i]?=some x:=by rfl) (hv:Eb X.env.scope x:=by first|exact Or.inl rfl|exact Or.inr (Or.inl rfl)|exact Or.inr 149) (hd:198=false:=by decide)
  (hcd:(x==("__classdict__" :Str))=false:=by decide):PE X (.Name x pos) (AX i):=AY hN hv hd hcd
theorem ja {A B:Prop} (h:B):if false=true then A else B:=by
 rw[if_neg GD];exact h
theorem gC {A B:Prop} (h:A):if true=true then A else B:=by
 rw[if_pos rfl];exact h
def aA (H H':Hp):Prop:=∀b o,H b=some o->H' b=some o
theorem aA.refl (H:Hp):aA H H:=λ_ _ h=>h
theorem aA.trans {H H1 H2:Hp} (a:aA H H1) (b:aA H1 H2):aA H H2:=λc o h=>b c o (a c o h)
theorem aA.free {H H':Hp} (e:aA H H') {l:Addr} (h:H' l=Option.none):H l=Option.none:=by
 cases q:H l with
 |none=>rfl
 |some o=>
  rw[e l o q] at h;cases h
theorem aA.seq {K:F6} {H H':Hp} {a:Addr} {xs:List V} (e:aA H H') (h:aE K H a xs):aE K H' a xs:=by
 rcases h with (h|⟨o,h⟩)|h
 ·exact .inl (.inl (e _ _ h))
 ·exact .inl (.inr (o,e _ _ h))
 ·exact .inr h
variable {pins:IK} {σ:St} {H:Hp} {s:Shared} {h':Heap}
theorem aR.turnedNew {ch:IN} {T:Addr} {o:HO} {t':Nat} (I:aR X pins σ H s) (hf:∀b∈ch,dQ X pins H b) (k:∀b u,b∉ch->s.heap.get? b=some u->h'.get? b=some u) (hp:s.heap.objs.size<=T) (new:cg X.prog X.w (aI H T o) h' T o):
  aR X pins σ (aI H T o) {s with heap:=h',toks:=t'}:=by
 have nT:H T=none:=I.hok.fresh hp;have ne:∀b u,H b=some u->b≠T:=λb u e z=>by rw[z,nT] at e;cases e
 have nch:∀b u,H b=some u->b∉ch:=λb u e z=>by rw[(hf b z).1] at e;cases e
 have up:∀b u,H b=some u->aI H T o b=some u:=λb u e=>by rw[aJ (ne b u e)];exact e
 refine I.step (g':=s.gens) (d':=s.drawn) (ch:=ch) (λb hb=>?_) (λb u _ _ hc e _=>k b u hc e) (λb u _ _ hc e _=>(u.slots,k b u hc e)) (λb u _ e n=>?_)
  (λb u hc e=>⟨u,k b u hc e⟩) (λb xs e=>up b _ e) (λb u v e=>up b _ e) (λb ps e=>⟨#[],by rw[up b _ e];simp⟩) (λm hm=>?_) (λb u e=>?_) I.bare
 ·obtain ⟨f0,f1,f2,f3,f4,f5⟩:=hf b hb;exact (f3,f1,f4,f5)
 ·have:b≠T:=FV (GK (106 e) hp);rw[aJ this];exact n
 ·obtain ⟨u,es,ep,ho,r⟩:=hm;exact (u,es,ep,k _ u (λz=>(hf _ z).2.1 rfl) ho,r)
 ·by_cases c:b=T
  ·subst c;rw[ao] at e;cases e;exact new
  ·rw[aJ c] at e;refine (I.hok b u e).stay (λc' v hc q=>k c' v ?_ q) (λ_ q=>up _ _ q) λ_ _ q=>up _ _ q
   rcases hc with z|z
   ·rw[z];exact nch b u e
   ·exact nch c' _ z
theorem aR.turnedAll {ch:IN} {t':Nat} (I:aR X pins σ H s) (hf:∀b∈ch,dQ X pins H b) (k:∀b u,b∉ch->s.heap.get? b=some u->h'.get? b=some u):aR X pins σ H {s with heap:=h',toks:=t'}:=by
 have nch:∀b u,H b=some u->b∉ch:=λb u e z=>by rw[(hf b z).1] at e;cases e
 refine I.step (g':=s.gens) (d':=s.drawn) (ch:=ch) (λb hb=>?_) (λb u _ _ hc e _=>k b u hc e) (λb u _ _ hc e _=>(u.slots,k b u hc e)) (λb u _ e n=>n)
  (λb u hc e=>⟨u,k b u hc e⟩) (λb xs e=>e) (λb u v e=>e) (λb ps e=>⟨#[],by rw[e];simp⟩) (λm hm=>?_) (λb u e=>?_) I.bare
 ·obtain ⟨f0,f1,f2,f3,f4,f5⟩:=hf b hb;exact (f3,f1,f4,f5)
 ·obtain ⟨u,es,ep,ho,r⟩:=hm;exact (u,es,ep,k _ u (λz=>(hf _ z).2.1 rfl) ho,r)
 ·refine (I.hok b u e).stay (λc' v hc q=>k c' v ?_ q) (λ_ q=>q) λ_ _ q=>q
  rcases hc with z|z
  ·rw[z];exact nch b u e
  ·exact nch c' _ z
noncomputable def CW (K:F6) (l:Addr):It:=
 ⟨λi H=>∃xs x,aE K H l xs/\xs[i]?=some x,λi H v H'=>∃(T:Addr) (x:V),v= .ref T/\H T=none/\(∀xs,aE K H l xs->xs[i]?=some x)/\H'=aI H T (.tup [.int i,x]),λi H=>∃xs,aE K H l xs/\xs.length<=i⟩
theorem v3 {P:Program} {w:World} {K:F6} {elts:List Expr} {k:Nat} {pos:Pos} (l e it:Addr) (ne:e≠it):Turn P w K (.Tuple elts k pos) (CW K l) [e,it] e (λi h=>(∃old,IsEnum h e it i old)/\h.IsListIter it l i) where
 mem:=by simp
 obj:=λi h st b hb=>by
  obtain ⟨⟨old,he⟩,o,e1,c,d⟩:=st;rcases FW.mp hb with z|z
  ·subst z;exact (_,he,λv z=>by cases z)
  ·rw[FM.mp z];exact (o,e1,λv z=>by rw[d] at z;cases z)
 keep:=λi h h' st k=>⟨let ⟨old,he⟩:=st.1;⟨old,k e (by simp) _ he⟩,st.2.at λo q=>k it (by simp) o q⟩
 item:=by
  sleep 11;obtain ⟨xs,x,hq,hx⟩:=hg;obtain ⟨its,rv,p,hz⟩:=I.list hq;obtain ⟨u,hu,ru⟩:=rv.get hx;obtain ⟨⟨old,he⟩,hit⟩:=st;refine wpAny_pyNext_enum_item he hit p.isList (x:=u) (by simpa using hu) ne λh1 ho hit' hT hsz hk=>?_
  refine ⟨_,rfl,wpAny_letOwnedTupleGo_enum (s:={s with heap:=h1,toks:=s.toks+1}) ho λh2 he2 hs2=>?_⟩
  have nT:H 74=none:=I.hok.fresh 160;have el:e<s.heap.objs.size:=106 he;have il:it<s.heap.objs.size:=by obtain ⟨_,q,_⟩:=hit;exact 106 q
  have hT2:h2.get? 74=some {cls:= .type "tuple",data:= .seq #[.int i s.toks,u]}:=(hs2.2 _ (HC el)).trans hT;have kp:∀b o,b∉ [e,it]->s.heap.get? b=some o->h2.get? b=some o:=λb o hb q=>by
   simp at hb;exact (hs2.2 b hb.1).trans (hk b o hb.1 hb.2 q)
  refine ⟨.ref 74,aI H 74 (.tup [.int i,x]),I.turnedNew (t':=s.toks+1) (ch:= [e,it]) hf kp 160 (by show 2<=sizeLine;decide,[.int i s.toks,u],.cons ⟨ν⟩ (.cons ru .nil),(_,hT2,rfl,0,rfl)),rfl,
   ⟨_,x,rfl,nT,λys hy=>by rw[I.list_inj hy hq];exact hx,rfl⟩,⟨⟨u,?_⟩,?_⟩,λb hb=>?_⟩
  ·simpa using he2
  ·exact hit'.at λo q=>(hs2.2 it (Ne.symm ne)).trans q
  ·have bl:b≠s.heap.objs.size:=by
    rcases FW.mp hb with z|z
    ·rw[z];exact FV el
    ·rw[FM.mp z];exact FV il
   rw[aJ bl];exact (hf b hb).1
 done:=by
  sleep 11;obtain ⟨xs,hq,hx⟩:=hg;obtain ⟨its,rv,p,hz⟩:=I.list hq;obtain ⟨⟨old,he⟩,hit⟩:=st;have hl:=rv.length;exact wpAny_pyNext_enum_end 191 he hit p.isList (by simp;lia) λh' eb=>(rfl,I.turnedAll (t':=s.toks) (ch:= [e,it]) hf λb o hb q=>eb b o (λz=>hb 233) q)
 self:=λ_ _ _ _ _ st h=>let ⟨_,he⟩:=st.1;wpAny_pyIter_enum he h
def CY (K:F6) (ta:TA):TI:=λσ H R=>ta σ H λvs H1=>∃l:Addr,vs= [.ref l]/\(∃xs,aE K H1 l xs)/\R (CW K l) H1
theorem boot_enumerate:bootBuiltins "enumerate" =some (.type "enumerate"):=by kernel_rfl
theorem zW {X:Cx} {a:Expr} {ta:TA} {elts:List Expr} {k:Nat} {tp p pos:Pos} (hg:Gl X "enumerate") (hm:X.mg "enumerate" =none) (ha:PA X [a] ta) (hs:starEach [a] X.env= [(false,eval a X.env)]:=by rfl):PI X (.Tuple elts k tp) (.Call (.Name "enumerate" p) [a] [] pos) (CY X.K ta):=by
 intro pins s σ H R I h;refine Call_ (dA I hg hm boot_enumerate (GO (bW (ha pos pins s σ H _ I h) λus s1 (vs,H1,I1,r1,q1)=>?_) hs rfl))
 obtain ⟨l,e,⟨xs,hq⟩,q⟩:=q1;subst e;cases r1 with
 |cons r rr=>
  cases rr;cases r;obtain ⟨its,rv,p1,hz⟩:=I1.list hq;refine call_enumerate_list p1.isList λh' he hit hsz hk=>?_
  refine wpAny_pyIter_enum (s:={s1 with heap:=h'}) he ?_
  have I2:aR X pins σ H1 {s1 with heap:=h'}:=I1.kept (t':=s1.toks) hk
  refine (s1.heap.objs.size+1,[s1.heap.objs.size+1,s1.heap.objs.size],_,_,H1,rfl,I2,v3 l _ _ (Nat.succ_ne_self _),((_,by simpa using he),hit),λb hb=>?_,q)
  have bl:s1.heap.objs.size<=b:=by
   rcases FW.mp hb with z|z
   ·rw[z];exact He _
   ·rw[FM.mp z];exact F8 _
  exact I1.fpOk bl (I1.hok.fresh bl)
theorem xX {K:F6} {a:Addr} {xs:List V} {g:TG} {tb:TS} {D:Ends} {σ:St} {H:Hp} (Pv:Nat->St->Hp->Prop) (h0:Pv 0 σ H) (hl:∀i σ H,i<=xs.length->Pv i σ H->aE K H a xs)
  (hs:∀i x σ H (T:Addr),xs[i]?=some x->Pv i σ H->H T=none->g (.ref T) σ (aI H T (.tup [.int i,x])) λσ2 H2=>tb {D with nx:=Pv 176,ct:=Pv 176,bk:=D.nx} σ2 H2) (hd:∀σ H,Pv xs.length σ H->D.nx σ H):
  ∃W:Nat->Nat->St->Hp->Prop,(∃m,W 0 m σ H)/\∀i m σ H,W i m σ H->
   ((CW K a).stop i H/\D.nx σ H)∨((CW K a).go i H/\∃N:St->Hp->Prop,(∀σ' H',N σ' H'->∃m',m'<m/\W 176 m' σ' H')/\∀x H',(CW K a).yld i H x H'->g x σ H' λσ2 H2=>tb {D with nx:=N,ct:=N,bk:=D.nx} σ2 H2):=by
 exists λi m σ H=>m=xs.length-i/\i<=xs.length/\Pv i σ H,(xs.length,by simp,G4 _,h0)
 rintro i m σ H ⟨rfl,hi,p⟩;have q:=hl i σ H hi p
 by_cases hlt:i<xs.length
 ·refine .inr ((xs,xs[i],q,by simp[hlt]),Pv 176,λσ' H' p'=>(xs.length-176,by lia,rfl,hlt,p'),λx H' y=>?_)
  obtain ⟨T,z,rfl,nT,hz,rfl⟩:=y;exact hs i z σ H T (hz xs q) p nT
 ·have e:i=xs.length:=by lia
  subst e;exact .inl ((xs,q,F8 _),hd σ H p)
theorem bj:iq X (binaryOp .Mult) (rI (λi j=>IntMulOk i j) λi j=> .int (i*j)):=Ee λ_ _ _ _ _ _ _ hc q=>mul_int q hc
theorem aX:iq X (binaryOp .FloorDiv) (rI (λi j=>j≠0/\Builtin.divisionGoesByPylong i j=false) λi j=> .int (i.fdiv j)):=Ee λ_ _ _ _ _ _ _ hc q=>floordiv_int hc.1 q (.inl hc.2)
theorem kr:iq X (binaryOp .Pow) (rI (λi j=>0<=j/\(Builtin.Int.intBits i:Int)*j<=2^27) λi j=> .int (i^j.toNat)):=Ee λ_ _ _ _ _ _ _ hc q=>pow_int hc.1 hc.2 q
theorem qf:cL X 201 (λxs H Q=>∃i,xs= [.int i,.ty "int"]/\Q (.bl true) H):=by
 sleep 14;obtain ⟨i,rfl,q⟩:=h;obtain ⟨u,w',rfl,⟨t,rfl⟩,e2⟩:=vals2 r;cases e2;exact PySem.call_isinstance (PySem.isinstance_true (Tx:= "int") PySem.F.isi_meta_int PySem.F.isi_self_int) (rfl,(.bl true,H,I,rfl,q))
theorem oG:cL X 201 (λxs H Q=>∃i,xs= [.int i,.ty "bool"]/\Q (.bl false) H):=by
 sleep 14;obtain ⟨i,rfl,q⟩:=h;obtain ⟨u,w',rfl,⟨t,rfl⟩,e2⟩:=vals2 r;cases e2;exact PySem.call_isinstance (PySem.isinstance_false_int (T:= "bool") 73 PySem.F.isi_meta_bool PySem.F.sub_int_bool) (.bl false,H,I.tok _,rfl,q)
theorem qg:cL X 201 (λxs H Q=>∃i,xs= [.bl i,.ty "bool"]/\Q (.bl true) H):=by
 sleep 14;obtain ⟨i,rfl,q⟩:=h;obtain ⟨u,w',rfl,e1,e2⟩:=vals2 r;cases e1;cases e2;exact PySem.call_isinstance (PySem.isinstance_true (Tx:= "bool") PySem.F.isi_meta_bool PySem.F.isi_self_bool) (rfl,(.bl true,H,I,rfl,q))
theorem qh:cL X 201 (λxs H Q=>∃a ys,xs= [.ref a,.ty "tuple"]/\bT X.K H a ys/\Q (.bl true) H):=by
 sleep 14;obtain ⟨a,ys,rfl,hs,q⟩:=h;obtain ⟨u,w',rfl,e1,e2⟩:=vals2 r;cases e1;cases e2;obtain ⟨its,_,p1,_⟩:=I.tuple hs;exact PySem.call_isinstance (PySem.isinstance_true (Tx:= "tuple") PySem.F.isi_meta_tuple PySem.F.isi_self_tuple) (p1.typeIs,(.bl true,H,I,rfl,q))
end L2
namespace Sw
open PySem
end Sw
namespace L2
open PySem
inductive CZ (K:F6) (H:Hp):V->String->Bool->Prop where
 |ii (i:Int):CZ K H (.int i) "int" true
 |ib (i:Int):CZ K H (.int i) "bool" false
 |bb (b:Bool):CZ K H (.bl b) "bool" true
 |tt (a:Addr) (ys:List V) (h:bT K H a ys):CZ K H (.ref a) "tuple" true
theorem qi {X:Cx}:cL X 201 (λxs H Q=>∃x T b,xs= [x,.ty T]/\CZ X.K H x T b/\Q (.bl b) H):=by
 sleep 14;obtain ⟨x,T,b,rfl,i,q⟩:=h;cases i with
 |ii i=>exact qf pins s σ H _ us Q I r ⟨i,rfl,q⟩
 |ib i=>exact oG pins s σ H _ us Q I r ⟨i,rfl,q⟩
 |bb i=>exact qg pins s σ H _ us Q I r ⟨i,rfl,q⟩
 |tt a ys h=>exact qh pins s σ H _ us Q I r ⟨a,ys,rfl,h,q⟩
end L2
namespace Sw
open PySem L2
theorem dT {p A B:Prop} [Decidable p] (h:p) (a:A):if decide p=true then A else B:=by rw[if_pos (decide_eq_true h)];exact a
theorem dF {p A B:Prop} [Decidable p] (h:¬p) (b:B):if decide p=true then A else B:=by rw[if_neg (by simp[h])];exact b
theorem d2 {p A B:Prop} [Decidable p] (h1:p->A) (h2:¬p->B):if decide p=true then A else B:=by
 by_cases h:p
 ·exact dT h (h1 h)
 ·exact dF h (h2 h)
theorem nT {p A B:Prop} [Decidable p] (h:¬p) (a:A):if (!decide p)=true then A else B:=by rw[if_pos (by simp[h])];exact a
theorem nF {p A B:Prop} [Decidable p] (h:p) (b:B):if (!decide p)=true then A else B:=by rw[if_neg (by simp[h])];exact b
theorem vi {a b:Int} (h:a=b):V.int a=V.int b:=by rw[h]
theorem vj {a b:Int} (h:V.int a=V.int b):a=b:=by cases h;rfl
theorem EI {a b:Int} {A B:Prop} (h1:a=b->A) (h2:a≠b->B):if decide (V.int a=V.int b)=true then A else B:=d2 (λh=>h1 (vj h)) λh=>h2 λe=>h (vi e)
theorem EJ {a b:Int} {A B:Prop} (h1:a≠b->A) (h2:a=b->B):if (!decide (V.int a=V.int b))=true then A else B:=by
 by_cases h:a=b
 ·exact nF (vi h) (h2 h)
 ·exact nT (λe=>h (vj e)) (h1 h)
theorem FC {a b:Int} {A B:Prop} (h:a≠b) (x:B):if decide (V.int a=V.int b)=true then A else B:=dF (λe=>h (vj e)) x
theorem C0 {a b:Int} {A B:Prop} (h:a=b) (x:B):if (!decide (V.int a=V.int b))=true then A else B:=nF (vi h) x
def kY (K:F6):Sp:=λvs H Q _=>∃(a:Addr) (ns:List Int) (k:Int),vs= [.ref a,.int k]/\aE K H a 135/\0<=k/\∀v:Int,Q (.int v) H
def uz:Sp:=λvs H Q _=>∃v:Int,vs= [.int v]/\Q (.bl true) H
def uA (K:F6):Sp:=λvs H Q _=>∃(a:Addr) (ns:List Int),vs= [.ref a]/\aE K H a 135/\ns.length<=63/\∀H',Q (.bl true) H'
theorem zX {ns:List Int} {k:Int} (h0:0<=k) (h:k<(((ns.map V.int).length:Nat):Int)):∃v:Int,fV 135 k=some (.int v):=by
 rw[F1] at h;have hk:k.toNat<ns.length:=by lia
 have ek:k=((k.toNat:Nat):Int):=by lia
 have q:fV 135 ((k.toNat:Nat):Int)=some (.int ns[k.toNat]):=bV (by rw[F7,F0 hk]<;>rfl)
 rw[<-ek] at q;exact (_,q)
theorem cut {t u:TS} {D:Ends} {σ:L2.St} {H:Hp} (I:L2.St->Hp->Prop) (h1:∀N:L2.St->Hp->Prop,(∀σ H,I σ H->N σ H)->t {D with nx:=N} σ H) (h2:∀σ H,I σ H->u D σ H):aY t u D σ H:=h1 _ h2
theorem ar {H:Hp} {p:Addr} (h:H p=none) (o:HO):aA H (aI H p o):=λb u q=>by rw[aJ (dw q h)];exact q
structure b6 (K:F6) (x qual:Str) (st:Stmt) (dV:Value) (f:Addr) (fd:FuncData):Prop where
 ex:∃(oc:Value) (od:IQ) (kV doc pm:Value) (an:IQ) (cdv ct:Value) (osl:IL),
  fd=HL x qual (fo st) (dZ st) (aB st) dV kV doc pm an cdv ct/\K.lookup f=some ⟨oc,od,.func fd,osl⟩/\PySem.W.codeIn K cdv qual=true
 kp:HX K (.ref f)=true
section
variable {P:Program} {w:World} {K:F6} {mg:IJ} {base:Heap}
theorem b6.ok {x qual:Str} {st:Stmt} {dV:Value} {f:Addr} {fd:FuncData} {N ps:IM} {k:Nat} {sp:Sp} (F:b6 K x qual st dV f fd) (S:aK N ps (aB st)) (len:∀vs H Q E,sp vs H Q E->vs.length=ps.length)
  (hbody:∀(cdv:Value) (A:Around) (outer:List Env) (s:Shared) (H:Hp) (vs:List V) (Q:VK) (E:XK),dM k (A.deeper (PyProof.Rows.envOfC qual (aB st) 74 f cdv))->sp vs H Q E->
   ∃t,vL (vU bM P w K mg base N qual (aB st) f cdv A outer s H E).nox (dZ st) t/\t {nx:=λ_ H'=>Q .non H',rt:=Q} (start N vs) H):bS P w K mg base bM 224 f fd ps sp:=by
 obtain ⟨oc,od,kV,doc,pm,an,cdv,ct,osl,rfl,lk,hcd⟩:=F.ex;refine uq lk hcd S len λA outer s H vs Q E hr hsp=>?_
 obtain ⟨t,h,q⟩:=hbody cdv A outer s H vs Q E hr hsp;exact (t,h.nox,q)
theorem b6.binds {x qual:Str} {st:Stmt} {T:Addr} {f:Addr} {fd:FuncData} {ps:IM} {o:Obj} {items:Array Value} {n:Nat} {ds:IP} (F:b6 K x qual st (.ref T) f fd) (ho:K.lookup T=some o) (hs:o.data= .seq items n)
  (h:∀(kV doc pm:Value) (an:IQ) (cdv ct:Value) (us:IP),(us++ds).length=ps.length->∃k:Option (Array Value)->Sem (List (Str×Value)),bindArgs (HL x qual (fo st) (dZ st) (aB st) (.ref T) kV doc pm an cdv ct) ⟨us,[]⟩=seqItems? (.ref T)>>=k/\k (some items)=pure (ps.zip (us++ds))):Binds K fd ps ds:=by
 obtain ⟨oc,od,kV,doc,pm,an,cdv,ct,osl,rfl,lk,hcd⟩:=F.ex;intro s us KX hl;obtain ⟨k,h1,h2⟩:=h kV doc pm an cdv ct us hl;exact PySem.W.binds_K KX rfl ho hs h1 h2
theorem b6.binds0 {x qual:Str} {st:Stmt} {dV:Value} {f:Addr} {fd:FuncData} {ps:IM} (F:b6 K x qual st dV f fd)
  (h:∀(kV doc pm:Value) (an:IQ) (cdv ct:Value) (us:IP),us.length=ps.length->bindArgs (HL x qual (fo st) (dZ st) (aB st) dV kV doc pm an cdv ct) ⟨us,[]⟩=pure (ps.zip us)):Binds K fd ps []:=by
 obtain ⟨oc,od,kV,doc,pm,an,cdv,ct,osl,rfl,lk,hcd⟩:=F.ex;exact .all (h kV doc pm an cdv ct)
theorem oH {x qual:Str} {st:Stmt} {f:Addr} {oc dV:Value} {od an:IQ} {osl:IL} {kV doc pm cdv ct:Value} (l:K.lookup f=some ⟨oc,od,.func (HL x qual (fo st) (dZ st) (aB st) dV kV doc pm an cdv ct),osl⟩)
  (c:PySem.W.codeIn K cdv qual=true) (k:HX K (.ref f)=true):b6 K x qual st dV f (HL x qual (fo st) (dZ st) (aB st) dV kV doc pm an cdv ct):=⟨⟨oc,od,kV,doc,pm,an,cdv,ct,osl,rfl,l,c⟩,k⟩
end
end Sw
namespace XH
open PySem
end XH
namespace L2
open PySem PySem.Spec PyProof.Rows XH
noncomputable def C1 (n:Bool) (a:Addr) (cls:Value) (dx:IQ):HO:= .ext λh=>∃ox vs,h.get? a=some ox/\ox.cls=cls/\ox.dict=dx/\ox.data= .fields vs/\vs[2]?=some .none/\(n=true->1<vs.size/\vs[1]?=some .none)
abbrev Cx.block (X:Cx) (scope:Scope) (cl:List (Str×Addr)) (C:Addr) (N:IM) (own:Str) (fp:IN) (s:Shared) (H:Hp):Cx:=
 {X with env:=compEnvC scope cl C X.env,N:=N,s₀:=s,H₀:=H,outer:=X.stack,stack:=X.stack,ex:=fp,fn:=λy=>y==own,pn:= [],xe:=λ_ _=>False}
structure fH (X:Cx) (scope:Scope) (cl:List (Str×Addr)) (own:Str) (ys:IM) (js:List Nat):Prop where
 clos:closureFor scope X.env=pure cl
 nocell:(scope.names.all λp=> !(p.2== .cell))=true
 kind:scope.kind= .function
 loc:136=true
 ownL:scope.names.lookup own=some .local
 sub:∀p∈cl,X.env.cells.lookup p.1=some p.2
 has:116=true
 noown:cl.lookup own=none
 nd:(own::ys).Nodup
 at_:∀(i:Nat) (y:Str),ys[i]?=some y->∃j:Nat,js[i]?=some j/\X.N[j]?=some y/\(X.env.scope.names.lookup y=some .cell∨X.env.scope.names.lookup y=some .free)/\((relabel scope X.env).names.lookup y=some .cell∨(relabel scope X.env).names.lookup y=some .free)
 len:js.length=ys.length
noncomputable def bn (js:List Nat) (σ:St):St:=js.map λj=>(σ[j]?).getD none
def kZ (js:List Nat) (te:TE) (σ:St) (Q:VK):It->Hp->Prop:=λJ H1=>∀p,H1 p=none->∃W:Nat->Nat->List V->Hp->Prop,(∃m,W 0 m [] (aI H1 p 85))/\
 ∀i m ys H2,W i m ys H2->H2 p=some 184/\((J.stop i H2/\Q 120 H2)∨(J.go i H2/\ys.length<sizeLine/\∀x H3,J.yld i H2 x H3->te (some x::bn js σ) H3 λy H4=>H4 p=some 184/\∃m',m'<m/\W 176 m' (ys++ [y]) (aI H4 p (.lst (ys++ [y])))))
def nj (wi:TI) (js:List Nat) (te:TE):TE:=λσ H Q=>wi σ H (kZ js te σ Q)
theorem lookup_all {α:Type} {f:Str×α->Bool} {x:Str} {a:α}:∀{l:List (Str×α)},l.all f=true->l.lookup x=some a->f (x,a)=true:=by
 intro l h e;exact GC.mp h _ (GU e)
section
variable {prog:Program} {w:World} {A:Around} {R:Result->Shared->Prop} {s:Shared}
theorem gD {elt target iter:Expr} {scope:Scope} {pos:Pos} {it acc:Value} {env:Env} (I:Nat->Shared->Prop)
  (turn:∀n s,I n s->wpAny 79 A (pyNext it) (λr s1=>match r with
   |none=>R (.ok .next) s1
   |some v=>wpAny 79 A (letOwnedTupleGo target it v) (λ_ s2=>wpAny 79 A (assign target env v) (λ_ s3=>wpAny 79 A (eval elt env) (λx s4=>
     wpAny 79 A (call (.builtin "list.append") [acc,x]) (λ_ s5=>∃m,m<n/\I m s5) 145 s4) 145 s3) 145 s2) 145 s1) 145 s)
  (n:Nat) (h:I n s):codeAny 79 A (.compLoop (.ListComp elt [⟨target,iter,[],0⟩] scope pos) 0 it acc env) R s:=by
 apply codeAny_loop rfl I ?_ n h;intro n s hI;show wpAny _ _ ((compTurn (.ListComp elt [⟨target,iter,[],0⟩] scope pos) 0 it acc env).onRaise _) _ _ s;apply wpAny_noted;rw[compTurn_list1];sleep 22;apply wpAny_standAt;sleep 22;refine wpAny_mono (turn n s hI) (λr s1 h1=>?_) λ_ _ z=>z.elim
 cases r with
 |none=>exact wpAny_pure h1
 |some v=>
  sleep 22;refine wpAny_mono h1 (λ_ s2 h2=>?_) λ_ _ z=>z.elim
  sleep 22;refine wpAny_mono h2 (λ_ s3 h3=>?_) λ_ _ z=>z.elim
  sleep 22;sleep 22;refine wpAny_mono h3 (λx s4 h4=>?_) λ_ _ z=>z.elim
  sleep 22;refine wpAny_mono h4 (λ_ s5 h5=>?_) λ_ _ z=>z.elim
  exact wpAny_pure (wpAny_pure (rfl,h5))
end
variable {X:Cx} {scope:Scope} {cl:List (Str×Addr)} {own:Str} {ys:IM} {js:List Nat} {fp:IN} {pins:IK} {σ:St} {H:Hp} {s s4:Shared}
theorem gP {h1:Heap} (ok:fH X scope cl own ys js) (I:aR X pins σ H s) (hf:∀b∈fp,dQ X pins H b) (hlt:∀b∈fp,b<74) (hns:h1.Ns 74 (λ_=>none))
  (hk:∀b o,s.heap.get? b=some o->h1.get? b=some o) (tk:Nat):
  aR (X.block scope cl 74 (own::ys) own fp s H) [] (none::bn js σ) H {s with heap:=h1,toks:=tk}:=by
 have sub:∀y c,cl.lookup y=some c->X.env.cells.lookup y=some c:=λy c e=>ok.sub (y,c) (GU e)
 refine ⟨⟨I.ok.mod,ok.kind,I.ok.glob,I.ok.blt,F8 _,λx y c e1 e2=>I.ok.inj x y c (sub x c e1) (sub y c e2),λx hx=>?_,λx c e1 e2=>?_,I.ok.hd,I.ok.frames,.inl rfl,λb hb=>(FV (hlt b hb),λx c e=>(hf b hb).2.2.2.2.1 x c (sub x c e)),
  I.bs,Gf I.ok.bsz I.sz,λb o e hb=>?_,λb hb z=>?_,I.stack,I.stkFree⟩,rfl,I.bare,Un.kept hk,⟨_,hns,λi y v e1 e2 e3=>?_⟩,λy c e=>?_,I.hok.fresh 160,λy c e=>I.freeC y c (sub y c e),λp hp=>absurd (show p∈([]:IK) from hp) 82,I.hok.kept hk,?_⟩
 ·have hx':(relabel scope X.env).names.lookup x=some .cell∨(relabel scope X.env).names.lookup x=some .free:=hx;rcases hx' with z|z
  ·sleep 34;simp only[beq_self_eq_true,Bool.true_or,HU,HV] at q;exact GX.mp q
  ·sleep 34;simp only[beq_self_eq_true,Bool.or_true,HU,HV] at q;exact GX.mp q
 ·have e1':(x==own)=true:=e1;have e:x=own:=beq_iff_eq.mp e1';have e2':cl.lookup x=some c:=e2;rw[e,ok.noown] at e2';cases e2'
 ·rcases (hf b hb).2.2.2.1 with z|z
  ·exact I.ok.noex b o e z
  ·exact absurd (GK (106 (I.ok.bs b o e).1) z) (HW _)
 ·rcases FW.mp (I.stkSub b z) with q|q
  ·exact (hf b hb).2.1 q
  ·exact (hf b hb).2.2.1 q
 ·cases i with
  |zero=>cases e2
  |succ i=>
   have e1':ys[i]?=some y:=e1;obtain ⟨j,hj,hN,hX,hc⟩:=ok.at_ i y e1';have e2':(bn js σ)[i]?=some (some v):=e2;unfold bn at e2';rw[F7,hj] at e2';have hs:σ[j]?=some (some v):=by
    cases q:σ[j]? with
    |none=>rw[Hn,q] at e2';cases e2'
    |some o=>rw[Hn,q] at e2';exact e2'
   obtain ⟨m,hn,hl⟩:=I.loc;obtain ⟨u,r,l⟩:=hl j y v hN hs (hX.elim (λz=> .inr (.inl z)) λz=> .inr (.inr z))
   refine (u,r,.inr (hc,?_));rcases l with ⟨k,_⟩|⟨k,c,hcl,hcell⟩
   ·have k':X.env.scope.names.lookup y=some .local:=k;rcases hX with z|z<;>(rw[z] at k';cases k')
   ·have ex:∃c',cl.lookup y=some c':=by
     rcases hc with z|z
     ·sleep 34;simp only[beq_self_eq_true,Bool.true_or,HU,HV] at q;exact GX.mp q
     ·sleep 34;simp only[beq_self_eq_true,Bool.or_true,HU,HV] at q;exact GX.mp q
    obtain ⟨c',hc'⟩:=ex;have e:=sub y c' hc';rw[hcl] at e;cases e;obtain ⟨oc,hoc,hd⟩:=hcell;exact (c,hc',oc,hk _ _ hoc,hd)
 ·obtain ⟨v,oc,hoc,hd⟩:=I.cell y c (sub y c e);exact (v,oc,hk _ _ hoc,hd)
 ·show (none::bn js σ).length=(own::ys).length;simp[bn,ok.len]
theorem jC {H':Hp} {h':Heap} {σ':St} (I:aR X pins σ H s) (hf:∀b∈fp,dQ X pins H b) (J:aR (X.block scope cl 74 (own::ys) own fp s H) [] σ' H' s4) (hs:Heap.SameBut 74 s4.heap h'):
  aR X pins σ H' {s4 with heap:=h'}:=by
 have low:∀b o,s.heap.get? b=some o->b≠s.heap.objs.size:=λb o e=>FV (106 e)
 have B:=J.base;have u:Un (vK X.stack) fp H H' s.heap h':={
  keep:=λb o q n hb hx=>(hs.2 b (low b o q)).trans (B.keep b o q n hb hx)
  slot:=λb o q n hb hx=>by
   obtain ⟨sl,e⟩:=B.slot b o q n hb hx;exact (sl,(hs.2 b (low b o q)).trans e)
  free:=B.free
  there:=λb o q hx=>by
   obtain ⟨o',e⟩:=B.there b o q hx;exact (o',(hs.2 b (low b o q)).trans e)
  tups:=B.tups
  frzs:=B.frzs
  tbls:=B.tbls}
 have hn:H' 74=none:=J.free;have hk:iA X.prog X.w H' h':=λa o e=>(J.hok a o e).stay (λb v hb q=>(hs.2 b (by
  intro z;rcases hb with z'|z'
  ·rw[<-z',z,hn] at e;cases e
  ·rw[z,hn] at z';cases z')).trans q) (λ_ q=>q) λ_ _ q=>q
 exact I.call' (s':={s4 with heap:=h'}) (ch:=fp) J.os u hk J.bare λb hb=>⟨(hf b hb).2.2.2.1,(hf b hb).2.1,(hf b hb).2.2.2.2.1,(hf b hb).2.2.2.2.2⟩
section
variable {elt iter:Expr} {px pos:Pos} {wi:TI} {te:TE}
theorem nk (hc:X.calm=true) (ok:fH X scope cl own ys js) (hi:PI X 229 iter wi)
  (he:∀(C:Addr) (fp:IN) (s:Shared) (H:Hp),PE 96 elt te)
  (hs:∀x,foldedSetIterable iter X.env x=pure x)
  {pins:IK} {s:Shared} {σ:St} {H:Hp} {Q:VK} {use:Option (Value->Sem Unit)} {QQ:II} {pp:Pos} (I:aR X pins σ H s) (h:(nj wi js te) σ H Q)
  (fin:∀(p C:Addr) (s6:Shared) (H5:Hp) (v:Flow),(∃m,s6.heap.Ns C m)->142->dQ X pins H5 C->Q 120 H5->compPost 93 X.A X.xe use QQ 120 C (.ok v) s6):
  wpAny 93 X.A (comprehension 91 scope X.env pp (newList []) false (eval iter X.env) use) QQ X.xe s:=by
 have ncell:∀y∈scope.names,y.2≠ .cell:=λy hy z=>by
  have q:=GC.mp ok.nocell y hy;rw[z] at q;simp at q
 have nloc:∀y∈scope.names,y.2= .local->scope.names.lookup y.1=some .local:=λy hy z=>by
  have q:=GC.mp ok.loc y hy;rw[z] at q
  simpa using q
 sleep 15
 sleep 2
 have I3:=I2.laid (a:=94) (o:= .lst []) (h':=s2.heap.push 134) (t':=s2.toks) (λb u q=>76 _ q) 160
  ⟨G4 _,[],0,.nil,87 _ rfl⟩
 have fpo:∀b∈fp,b<s2.heap.objs.size:=λb hb=>by
  obtain ⟨o,e,_⟩:=T.obj 0 _ st2 b hb;exact 106 e
 sleep 10
 sleep 9
 sleep 16
 sleep 20
 sleep 6
 have J0:=gP (h1:=h1) ok I3 f3 lt3 hns hk (s2.toks+0);sleep 19
 have fpB:∀{H':Hp},(∀b∈fp,H' b=none)->∀b∈fp,dQ 75 [] H' b:=λ{H'} hn b hb=>
  ⟨hn b hb,FV (lt3 b hb),λz=>(FW.mp (I3.stkSub b z)).elim (f3 b hb).2.1 (f3 b hb).2.2.1,.inl hb,λx c e=>(f3 b hb).2.2.2.2.1 x c (ok.sub (x,c) (GU e)),λp hp=>absurd (show p∈([]:IK) from hp) 82⟩
 have loop:codeAny 93 X.A (.compLoop 91 0 219 227 (compEnvC scope cl s3.heap.objs.size X.env))
   (compPost 93 X.A X.xe use QQ 227 s3.heap.objs.size) {s3 with heap:=h1,toks:=s2.toks+0}:=by
  refine gD (λn s'=>∃i zs o0 H',aR 75 [] (o0::bn js σ) H' s'/\tn i s'.heap/\(∀b∈fp,H' b=none)/\W i n zs H') ?_ m0
   ⟨0,[],none,_,J0,t0,λb hb=>(f3 b hb).1,w0⟩
  rintro n s5 ⟨i,zs,o0,H5,I5,t5,n5,w5⟩;obtain ⟨hD,hw⟩:=turn i n zs H5 w5;rcases hw with ⟨stop,qn⟩|⟨go,hz,step⟩
  ·refine bW (T.done 75 rfl rfl rfl hc i [] s5 _ H5 145 I5 (fpB n5) t5 stop) λr s6 (hr,I6)=>?_
   subst hr;obtain ⟨m,hn,_⟩:=id I6.loc;exact fin _ _ s6 H5 _ (m,hn) (λh' hs'=>jC I3 f3 I6 hs') (I3.fpOk 160 (show H5 s3.heap.objs.size=none from I6.free)) qn
  ·refine bW (T.item 75 rfl rfl rfl hc i [] s5 _ H5 145 I5 (fpB n5) t5 go) λr s6 (u,hr,h6)=>?_
   subst hr;refine bW h6 λ_ s7 (x,H7,I7,r7,y7,t7,n7)=>?_
   have I7':=I7.pinned (fpB n7) (T.obj _ _ t7);have hst:=step x H7 y7;have own':(relabel scope X.env).names.lookup own=some .local:=lookup_relabel_local ok.ownL;refine bW (dH (X:=X.block scope cl s3.heap.objs.size (own::ys) own fp s3 (aI H2 94 85)) (i:=0) (x:=own) (pos:=px) ok.nd rfl (.inl own') (.inr own') _ s7 _ H7 x u (λσ' H'=>σ'=some x::bn js σ/\H'=H7) I7' r7 199) λ_ s8 (σ8,H8,I8,e8,eH8)=>?_
   subst e8 eH8;refine bW (he _ _ _ _ _ s8 _ H8 _ I8 hst) λyv s9 (y,H9,I9,r9,hD9,m',hm,w9)=>?_
   refine bW (bB _ s9 _ H9 227 [y] 227 [yv] (λ_ H'=>H'=aI H9 94 (.lst (zs++ [y]))) I9 rfl (.cons r9 .nil) (_,zs,y,rfl,rfl,hD9,hz,rfl)) λ_ s10 (_,H10,I10,_,e10)=>?_
   subst e10;refine (m',hm,i+1,zs++ [y],some x,_,I10.unpinned,T.keep _ _ _ t7 λb hb o e=>(I10.pin (b,o) 183).1,λb hb=>?_,w9)
   obtain ⟨o,e,d⟩:=T.obj _ _ t7 b hb;exact (I10.pin (b,o) 183).2.1
 subst hs3;exact codeAny_compStart_list loop (T.self _ 0 _ _ _ t0 loop)
theorem bZ (hc:X.calm=true) (ok:fH X scope cl own ys js) (hi:PI X 229 iter wi)
  (he:∀(C:Addr) (fp:IN) (s:Shared) (H:Hp),PE 96 elt te)
  (hs:∀x,foldedSetIterable iter X.env x=pure x:=by intro _;rfl):PE X 91 (nj wi js te):=λpins s σ H Q I h=>by
 rw[eval_ListComp];exact nk hc ok hi he hs I h λp C s6 H5 v (m,hn) J _ q=>(m,hn,λh' hs'=>(.ref p,H5,J h' hs',rfl,q))
end
theorem ku {X:Cx} {pins:IK} {σ:St} {i:Nat} {y:Str} {py:Pos} {D:Ends} (hN:X.N.Nodup) (hi':X.N[i]?=some y) (hy:X.env.scope.names.lookup y=some .local) (p C:Addr) (s6:Shared) (H5:Hp) (v:Flow) (hm:∃m,s6.heap.Ns C m) (J:∀h',Heap.SameBut C s6.heap h'->aR X pins σ H5 {s6 with heap:=h'}) (fC:dQ X pins H5 C) (qn:aZ i 120 σ H5 D.nx):compPost 93 X.A X.xe (some (assign (.Name y py) X.env)) (λ_ s'=>SP X pins D .next s') 120 C (.ok v) s6:=by
 obtain ⟨m,hn⟩:=hm;obtain ⟨k0,k1,k2,k3,k4,k5⟩:=fC;show wpAny _ X.A (assign (.Name y py) X.env 120) _ _ _;refine wpAny_assign_Name (mX (v:= .ref p) (J s6.heap (Heap.SameBut.refl _ _)) hN hi' (.inl hy) rfl (λs7 I7 hsb=>?_) (.inr hy))
 obtain ⟨a',sb,ha⟩:=hsb;have ne:C≠a':=by
  rcases ha with z|z
  ·rw[z];exact k1
  ·exact λw=>k4 _ _ z w.symm
 exact (m,hn.sameBut sb ne,λh' hs'=>(_,H5,I7.turned (t':=s7.toks) (λb o hb e=>(hs'.2 b hb).trans e) k0 k1 k3 k4 k5,qn))
open PySem.Builtin PySem.Builtin.ObjectAttr
theorem mN:entryFor table "proto.unchain" =some Builtin.«proto.unchain» :=entryFor_of_fast 211
def gQ (hd:IR) (H:Hp):Prop:=∀v,hd=some v->∃a n cls dx,v= .ref a/\H a=some (C1 n a cls dx)
theorem gQ.no {H:Hp}:gQ none H:=λ_ z=>nomatch z
section
variable {prog:Program} {w:World} {A:Around} {E:II}
theorem sF {it hx:Addr} {ox:Obj} {vs:Array Value} {x left step:Int} {Q:IR->Shared->Prop} (hh:A.handled=some (.ref hx)) (ho:s.heap.get? hx=some ox) (hd:ox.data= .fields vs) (h2:vs[2]?=some .none)
  (hit:IsRangeIter s.heap it x left step) (hleft:left<=0) (hQ:∀h',Heap.ExtBut it s.heap h'->Q none 205):wpAny 79 A (pyNext 219) Q E s:=by
 have hT:s.TypeIs 219 "range_iterator" :=(_,hit,rfl);unfold pyNext;refine wpAny_bind (wpAny_attempt (wpAny_callSpecial?_slot (name:=Str.ofString "__next__") hT F.slot_range_iterator_next
  (wpAny_call_entry F.slot_range_iterator_next hT F.entry_range_iterator_next ?_ (F.args_range_iterator_next_1 _))))
 show wpAny _ _ (field 219 0>>=_) _ _ s;refine wpAny_bind (wpAny_field hit rfl (x:=rawInt x) rfl ?_);show wpAny _ _ (field 219 1>>=_) _ _ s;refine wpAny_bind (wpAny_field hit rfl (x:=rawInt left) rfl ?_);show wpAny _ _ (field 219 2>>=_) _ _ s;refine wpAny_bind (wpAny_field hit rfl (x:=rawInt step) rfl ?_);show wpAny _ _ (if left<=0 then _ else _) _ _ s
 rw[if_pos hleft];refine wpAny_bind (wpAny_rule ?_);refine wpAny_bind ?_;show wpAny _ _ (newExc (.type "StopIteration") []>>=_) _ _ _;refine wpAny_bind ?_;simp only[newExc,newTuple];refine wpAny_bind (wpAny_newObj_type ?_ (by size_fits))
 refine wpAny_bind (m:=firstArgMember _ _) (wpAny_of_eq (a:=Value.none) (by first|rfl|(simp only[firstArgMember];rfl)) ?_)
 refine wpAny_newObj_type ?_ (by size_fits)
 simp only[raiseNew];refine wpAny_bind (wpAny_handled ?_);rw[show A.in1.handled=some (.ref hx) from hh]
 have g0:s.heap.get? (108 {cls:= .type "tuple",dict:=none,data:= .seq ([]:IP).toArray}).objs.size=none:=Heap.get?_none_of_le (by rw[Heap.size_push];lia)
 have ne:hx≠(108 {cls:= .type "tuple",dict:=none,data:= .seq ([]:IP).toArray}).objs.size:=λz=>by
  rw[z,g0] at ho;cases ho
 dsimp only;rw[if_pos (bne_iff_ne.mpr λz=>ne (Value.ref.inj z))]
 refine wpAny_bind (wpAny_holding (wpAny_runValue (codeAny_builtin mN ?_)));show wpAny _ _ (field (.ref hx) 2>>=_) _ _ _;refine wpAny_bind (wpAny_field (76 _ (76 _ ho)) hd h2 ?_);rw[if_pos (by rfl)]
 refine wpAny_bind (wpAny_pure 126);refine wpAny_bind (m:=updateField _ 2 _) (wpAny_setField (87 _ rfl) rfl (by show 2<6;decide) ?_)
 refine wpAny_throw ?_;refine wpAny_bind (wpAny_isInstance (T:= "StopIteration") (b:=true) (_,Heap.get?_update_self _ (87 _ rfl) rfl,rfl) isSubtype_stop ?_);refine wpAny_pure (hQ _ λb o hb e=>?_)
 rw[Heap.get?_update_other _ _ (by
  intro z;rw[z] at g0;rw[g0] at e;cases e)]
 exact 76 _ (76 _ e)
end
structure AF (hd:IR) (P:Program) (w:World) (K:F6) (tg:Expr) (J:It) (fp:IN) (it:Addr) (tn:Nat->Heap->Prop):Prop where
 mem:it∈fp
 obj:∀i h,tn i h->∀b∈fp,∃o,h.get? b=some o/\∀v,o.data≠ .cell v
 keep:∀i h h',tn i h->(∀b∈fp,∀o,h.get? b=some o->h'.get? b=some o)->tn i h'
 item:∀(X:Cx),X.prog=P->X.w=w->X.K=K->X.A.handled=hd->∀(i:Nat) (pins:IK) (s:Shared) (σ:St) (H:Hp) (E:II),aR X pins σ H s->(∀b∈fp,dQ X pins H b)->tn i s.heap->J.go i H->
  wpAny (model P w) X.A (pyNext 219) (λr s1=>∃u,r=some u/\
   wpAny (model P w) X.A (letOwnedTupleGo tg 219 u) (λ_ s2=>∃x H',aR X pins σ H' s2/\RelV x u/\J.yld i H x H'/\tn 176 s2.heap/\∀b∈fp,H' b=none) E s1) E s
 done:∀(X:Cx),X.prog=P->X.w=w->X.K=K->X.A.handled=hd->∀(i:Nat) (pins:IK) (s:Shared) (σ:St) (H:Hp) (E:II),aR X pins σ H s->(∀b∈fp,dQ X pins H b)->tn i s.heap->J.stop i H->
  wpAny (model P w) X.A (pyNext 219) (λr s1=>r=none/\aR X pins σ H s1) E s
 self:∀(A:Around) (i:Nat) (s:Shared) (Q:II) (E:II),tn i s.heap->Q 219 s->wpAny (model P w) A (pyIter 219) Q E s
def C2 (hd:IR) (X:Cx) (pins:IK) (σ:St) (tg:Expr) (R:It->Hp->Prop) (itv:Value) (s2:Shared):Prop:=
 ∃(it:Addr) (fp:IN) (tn:Nat->Heap->Prop) (J:It) (H':Hp),itv= .ref it/\aR X pins σ H' s2/\AF hd X.prog X.w X.K tg J fp it tn/\tn 0 s2.heap/\(∀b∈fp,dQ X pins H' b)/\R J H'
def Eh (hd:IR) (X:Cx) (tg iter:Expr) (wi:TI):Prop:=
 ∀(pins:IK) (s:Shared) (σ:St) (H:Hp) (R:It->Hp->Prop),aR X pins σ H s->wi σ H R->
  wpAny 93 X.A (eval iter X.env) (λv s1=>wpAny 93 X.A (pyIter v) (C2 hd X pins σ tg R) X.xe s1) X.xe s
noncomputable def v4 (hd:IR) (lo:Int) (n:Nat):It:=⟨λi _=>i<n,λi H x H'=>H'=H/\x= .int (lo+i),λi H=>n<=i/\gQ hd H⟩
theorem qj {hd:IR} {P:Program} {w:World} {K:F6} {tg:Expr} (it:Addr) (lo:Int) (n:Nat):AF hd P w K tg (v4 hd lo n) [it] it (λi h=>IsRangeIter h it (lo+(i:Nat)*1) ((n:Int)-(i:Nat)) 1) where
 mem:=by simp
 obj:=λi h st b hb=>by
  have e:b=it:=by simpa using hb
  subst e;exact ⟨_,st,λv z=>by
   have z':Data.fields _=Data.cell v:=z;cases z'⟩
 keep:=λi h h' st k=>k it 82 _ st
 item:=by
  intro X hP hw hK hA i pins s σ H E I hf st hg;subst hP hw hK;sleep 26
  have hg':i<n:=hg;refine wpAny_pyNext_range_item st 72 λh' st' sb=>?_
  have I1:aR X pins σ H {s with heap:=h',toks:=s.toks+1}:=I.turned (λb o hb e=>(sb.2 b hb).trans e) f0 f1 f3 f4 f5
  have st2:IsRangeIter h' it (lo+((i+1:Nat):Int)*1) ((n:Int)-((i+1:Nat):Int)) 1:=by
   have e1:lo+((i+1:Nat):Int)*1=lo+(i:Int)*1+1:=by push_cast;lia
   have e2:(n:Int)-((i+1:Nat):Int)=(n:Int)-(i:Int)-1:=by push_cast;lia
   rw[e1,e2];exact st'
  refine ⟨_,rfl,pV (s:={s with heap:=h',toks:=s.toks+1}) (n:= "range_iterator") st2 rfl rfl 73 ⟨.int (lo+i),H,I1,⟨s.toks,?_⟩,⟨rfl,rfl⟩,st2,λb hb=>(hf b hb).1⟩⟩
  rw[Int.mul_one]
 done:=by
  intro X hP hw hK hA i pins s σ H E I hf st hg;subst hP hw hK;sleep 26
  obtain ⟨hl,hk⟩:=hg;cases hd with
  |none=>exact wpAny_pyNext_range_end hA st 72 λh' eb=>⟨rfl,I.turned (t':=s.toks) (λb o hb e=>eb b o hb e) f0 f1 f3 f4 f5⟩
  |some v=>
   obtain ⟨a,m,cls,dx,rfl,e⟩:=hk v rfl;obtain ⟨⟨ox,vs,h1,h2,h3,h4,h6,h5⟩,_⟩:=(show cg X.prog X.w H s.heap a (C1 m a cls dx) from I.hok a _ e)
   exact sF hA h1 h4 h6 st 72 λh' eb=>(rfl,I.turned (t':=s.toks) (λb o hb e=>eb b o hb e) f0 f1 f3 f4 f5)
 self:=λ_ _ _ _ _ st h=>wpAny_pyIter_rangeiter st h
def C3 (hd:IR) (ta:TA):TI:=λσ H R=>ta σ H λvs H1=>∃j:Int,vs= [.int j]/\ -(2^62)<=j/\j<2^62/\R (v4 hd 0 j.toNat) H1
section
variable {tg:Expr} {hd:IR}
theorem v5 {pins:IK} {σ:St} {H:Hp} {s:Shared} {R:It->Hp->Prop} {E:II} {lo hi:Int} {t u v:Tok} {tk:Nat} (I:aR X pins σ H s) (h1: -(2^62)<=lo) (h2:lo<2^62) (h3: -(2^62)<=hi) (h4:hi<2^62)
  (q:R (v4 hd lo (hi-lo).toNat) H):wpAny 93 X.A (pyIter 161) (C2 hd X pins σ tg R) E {s with heap:=108 117,toks:=tk}:=by
 refine wpAny_pyIter_range (IsRange.new ..) (small_one h1 h2 h3 h4) ?_;have I1:aR X pins σ H {s with heap:=108 117,toks:=tk}:=I.kept λb o e=>76 _ e
 refine ⟨(108 117).objs.size,[(108 117).objs.size],_,_,H,rfl,
  I1.kept (t':=tk) λb o e=>76 _ e,qj _ lo (hi-lo).toNat,?_,λb hb=>?_,q⟩
 ·have e1:lo+((0:Nat):Int)*1=lo:=by simp
  have e2:(((hi-lo).toNat:Nat):Int)-((0:Nat):Int)=Builtin.Range.rangeSize lo hi 1:=by rw[rangeSize_one];split<;>lia
  show IsRangeIter _ _ (lo+((0:Nat):Int)*1) ((((hi-lo).toNat:Nat):Int)-((0:Nat):Int)) 1;rw[e1,e2];exact 87 _ rfl
 ·have e:b=(108 117).objs.size:=by simpa using hb
  subst e;exact I1.fpOk 160 (I1.hok.fresh 160)
theorem c8 {a:Expr} {ta:TA} {p pos:Pos} (hg:Gl X "range") (hm:X.mg "range" =none) (ha:PA X [a] ta) (hs:starEach [a] X.env= [(false,eval a X.env)]:=by rfl):Eh hd X tg (.Call (.Name "range" p) [a] [] pos) (C3 hd ta):=by
 intro pins s σ H R I h;refine Call_ (dA I hg hm boot_range (GO (bW (ha pos pins s σ H _ I h) λus s1 (vs,H1,I1,r1,q1)=>?_) hs rfl))
 obtain ⟨j,e,q1,q2,q⟩:=q1;subst e;cases r1 with
 |cons r rr=>
  cases rr;obtain ⟨t,rfl⟩:=r;exact call_range_1 (v5 I1 72 72 q1 q2 (by simpa using q))
end
section
variable {elt iter:Expr} {px pos:Pos} {wi:TI} {te:TE} {hd:IR}
theorem k9 (hA:X.A.handled=hd) (ok:fH X scope cl own ys js) (hi:Eh hd X 229 iter wi)
  (he:∀(C:Addr) (fp:IN) (s:Shared) (H:Hp),PE 96 elt te)
  (hs:∀x,foldedSetIterable iter X.env x=pure x)
  {pins:IK} {s:Shared} {σ:St} {H:Hp} {Q:VK} {use:Option (Value->Sem Unit)} {QQ:II} {pp:Pos} (I:aR X pins σ H s) (h:(nj wi js te) σ H Q)
  (fin:∀(p C:Addr) (s6:Shared) (H5:Hp) (v:Flow),(∃m,s6.heap.Ns C m)->142->dQ X pins H5 C->Q 120 H5->compPost 93 X.A X.xe use QQ 120 C (.ok v) s6):
  wpAny 93 X.A (comprehension 91 scope X.env pp (newList []) false (eval iter X.env) use) QQ X.xe s:=by
 have ncell:∀y∈scope.names,y.2≠ .cell:=λy hy z=>by
  have q:=GC.mp ok.nocell y hy;rw[z] at q;simp at q
 have nloc:∀y∈scope.names,y.2= .local->scope.names.lookup y.1=some .local:=λy hy z=>by
  have q:=GC.mp ok.loc y hy;rw[z] at q
  simpa using q
 sleep 15
 sleep 2
 have I3:=I2.laid (a:=94) (o:= .lst []) (h':=s2.heap.push 134) (t':=s2.toks) (λb u q=>76 _ q) 160
  ⟨G4 _,[],0,.nil,87 _ rfl⟩
 have fpo:∀b∈fp,b<s2.heap.objs.size:=λb hb=>by
  obtain ⟨o,e,_⟩:=T.obj 0 _ st2 b hb;exact 106 e
 sleep 10
 sleep 9
 sleep 16
 sleep 20
 sleep 6
 have J0:=gP (h1:=h1) ok I3 f3 lt3 hns hk (s2.toks+0);sleep 19
 have fpB:∀{H':Hp},(∀b∈fp,H' b=none)->∀b∈fp,dQ 75 [] H' b:=λ{H'} hn b hb=>
  ⟨hn b hb,FV (lt3 b hb),λz=>(FW.mp (I3.stkSub b z)).elim (f3 b hb).2.1 (f3 b hb).2.2.1,.inl hb,λx c e=>(f3 b hb).2.2.2.2.1 x c (ok.sub (x,c) (GU e)),λp hp=>absurd (show p∈([]:IK) from hp) 82⟩
 have loop:codeAny 93 X.A (.compLoop 91 0 219 227 (compEnvC scope cl s3.heap.objs.size X.env))
   (compPost 93 X.A X.xe use QQ 227 s3.heap.objs.size) {s3 with heap:=h1,toks:=s2.toks+0}:=by
  refine gD (λn s'=>∃i zs o0 H',aR 75 [] (o0::bn js σ) H' s'/\tn i s'.heap/\(∀b∈fp,H' b=none)/\W i n zs H') ?_ m0
   ⟨0,[],none,_,J0,t0,λb hb=>(f3 b hb).1,w0⟩
  rintro n s5 ⟨i,zs,o0,H5,I5,t5,n5,w5⟩;obtain ⟨hD,hw⟩:=turn i n zs H5 w5;rcases hw with ⟨stop,qn⟩|⟨go,hz,step⟩
  ·refine bW (T.done 75 rfl rfl rfl hA i [] s5 _ H5 145 I5 (fpB n5) t5 stop) λr s6 (hr,I6)=>?_
   subst hr;obtain ⟨m,hn,_⟩:=id I6.loc;exact fin _ _ s6 H5 _ (m,hn) (λh' hs'=>jC I3 f3 I6 hs') (I3.fpOk 160 (show H5 s3.heap.objs.size=none from I6.free)) qn
  ·refine bW (T.item 75 rfl rfl rfl hA i [] s5 _ H5 145 I5 (fpB n5) t5 go) λr s6 (u,hr,h6)=>?_
   subst hr;refine bW h6 λ_ s7 (x,H7,I7,r7,y7,t7,n7)=>?_
   have I7':=I7.pinned (fpB n7) (T.obj _ _ t7);have hst:=step x H7 y7;have own':(relabel scope X.env).names.lookup own=some .local:=lookup_relabel_local ok.ownL;refine bW (dH (X:=X.block scope cl s3.heap.objs.size (own::ys) own fp s3 (aI H2 94 85)) (i:=0) (x:=own) (pos:=px) ok.nd rfl (.inl own') (.inr own') _ s7 _ H7 x u (λσ' H'=>σ'=some x::bn js σ/\H'=H7) I7' r7 199) λ_ s8 (σ8,H8,I8,e8,eH8)=>?_
   subst e8 eH8;refine bW (he _ _ _ _ _ s8 _ H8 _ I8 hst) λyv s9 (y,H9,I9,r9,hD9,m',hm,w9)=>?_
   refine bW (bB _ s9 _ H9 227 [y] 227 [yv] (λ_ H'=>H'=aI H9 94 (.lst (zs++ [y]))) I9 rfl (.cons r9 .nil) (_,zs,y,rfl,rfl,hD9,hz,rfl)) λ_ s10 (_,H10,I10,_,e10)=>?_
   subst e10;refine (m',hm,i+1,zs++ [y],some x,_,I10.unpinned,T.keep _ _ _ t7 λb hb o e=>(I10.pin (b,o) 183).1,λb hb=>?_,w9)
   obtain ⟨o,e,d⟩:=T.obj _ _ t7 b hb;exact (I10.pin (b,o) 183).2.1
 subst hs3;exact codeAny_compStart_list loop (T.self _ 0 _ _ _ t0 loop)
theorem gR (hA:X.A.handled=hd) (ok:fH X scope cl own ys js) (hi:Eh hd X 229 iter wi)
  (he:∀(C:Addr) (fp:IN) (s:Shared) (H:Hp),PE 96 elt te)
  (hs:∀x,foldedSetIterable iter X.env x=pure x:=by intro _;rfl):PE X 91 (nj wi js te):=λpins s σ H Q I h=>by
 rw[eval_ListComp];exact k9 hA ok hi he hs I h λp C s6 H5 v (m,hn) J _ q=>(m,hn,λh' hs'=>(.ref p,H5,J h' hs',rfl,q))
theorem jb {i:Nat} {y:Str} {py spos:Pos} (hN:X.N.Nodup) (hi':X.N[i]?=some y) (hy:X.env.scope.names.lookup y=some .local) (hA:X.A.handled=hd) (ok:fH X scope cl own ys js) (hi:Eh hd X 229 iter wi)
  (he:∀(C:Addr) (fp:IN) (s:Shared) (H:Hp),PE 96 elt te)
  (hsw:swapsWith 91 (some (.Name y py)) spos.line X.env=pure true:=by rfl) (hs:∀x,foldedSetIterable iter X.env x=pure x:=by intro _;rfl):
  PS X (.Assign [.Name y py] 91 spos) (sd (nj wi js te) (aZ i)):=λpins s σ H D I h=>by
 sleep 13;show wpAny _ X.A (do let _<-comprehension (.ListComp elt [⟨.Name own px,iter,[],0⟩] scope pos) scope X.env _ (newList []) false (eval iter X.env) (some (assign (.Name y py) X.env))) _ _ s
 exact wpAny_bind (wpAny_mono (k9 hA ok hi he hs I h (ku hN hi' hy)) (λ_ s' hq=>wpAny_pure (wpAny_pure hq)) λ_ _ e=>e)
end
end L2
namespace Sw
open PySem L2 XH
structure Dx (P:Program) (w:World) (K:F6) (mg:IJ) (base:Heap) (CX:uk) (k:Nat) (x:Str) (ps:IM) (dvs:List V) (sp:Sp) where
 f:Addr
 fd:FuncData
 ok:bS P w K mg base CX k f fd ps sp
 m:mg x=some (.ref f)
 q:HX K (.ref f)=true
 b:Binds K fd ps []
 bd:∃ds,Binds K fd ps ds/\bG dvs ds
section
variable {X:Cx} {k j:Nat} {x:Str} {ps:IM} {sp:Sp} {p pos:Pos} {e:Expr} {es:List Expr} {t:TA} {dvs:List V} {E:St->XK}
theorem Bh (D:Dx X.prog X.w X.K X.mg X.base bM k x ps dvs sp) (hr:dM j X.A) (hk:k<=j) (hg:Gl X x) (ha:PA X (e::es) t) (hdb:198=false:=by decide)
  (he:starEach (e::es) X.env=(false,eval e X.env)::starEach es X.env:=by rfl) (hpl:(backTo pos (starEach es X.env)).any 166=false:=by rfl):
  PE X (.Call (.Name x p) (e::es) [] pos) (xL sp [] E0 t):=
 zK D.ok (hr.mono hk) hg D.m D.q D.b .nil xW ha hdb he hpl
end
end Sw
namespace L2
open PySem PySem.Spec PyProof.Rows XH
theorem v6 {X:Cx} {K:F6} (hK:X.K=K):cL X 201 (λxs H Q=>∃x t T b,xs= [x,.ty T]/\iH K H x t/\PySem.W.kitOne K t (.type T)=some b/\Q (.bl b) H):=by
 subst hK;sleep 14;obtain ⟨x,t,T,b,rfl,ty,e,q⟩:=h;obtain ⟨u,w',rfl,e1,e2⟩:=vals2 r;cases e2;exact vT I e1 ty e λtk=>(.bl b,H,I.tok tk,rfl,q)
end L2
namespace Sw
open PySem L2 XH
end Sw
namespace L2
open PySem PySem.Spec PyProof.Rows XH
noncomputable def C4 (x:Str):It:=⟨λi _=>i<x.cps.size,λi H v H'=>H'=H/\∃c,x.cps[i]?=some c/\v= .str ⟨#[c]⟩,λi _=>i=x.cps.size⟩
theorem xY {P:Program} {w:World} {K:F6} {tg:Expr} {ty:String} (hty:ty= "str_ascii_iterator" ∨ty= "str_iterator") (it:Addr) (x:Str) (t:Tok):Turn P w K tg (C4 x) [it] it (λi h=>h.IsStrIter it ty x t i) where
 mem:=by simp
 obj:=λi h st b hb=>by
  have e:b=it:=by simpa using hb
  subst e;obtain ⟨o,e,c,d⟩:=st;exact (o,e,λv z=>by rw[d] at z;cases z)
 keep:=λi h h' st k=>by
  obtain ⟨o,e,c,d⟩:=st;exact (o,k it 82 o e,c,d)
 item:=by
  sleep 11;sleep 26
  have W:Walks X.prog X.w X.A it [it] [it] x.cps.size (SignAt x) (λi h=>h.IsStrIter it ty x t i):=by
   rcases hty with rfl|rfl
   ·exact Walks.strAscii 191 it x t
   ·exact Walks.strWide 191 it x t
  refine W.item i s _ _ hg st λv h' tk hv st' kk=>?_
  obtain ⟨c,u,hc',rfl⟩:=hv;have I1:aR X pins σ H {s with heap:=h',toks:=tk}:=I.turned (λb o hb e=>kk b o (by simpa using hb) e) f0 f1 f3 f4 f5
  obtain ⟨o,e,c1,d1⟩:=id st';refine ⟨_,rfl,pV (s:=152) (n:=ty) e c1 d1 (by rcases hty with rfl|rfl<;>decide) ⟨.str ⟨#[c]⟩,H,I1,⟨u,rfl⟩,⟨rfl,c,hc',rfl⟩,st',λb hb=>(hf b hb).1⟩⟩
 done:=by
  sleep 11;sleep 26
  have W:Walks X.prog X.w X.A it [it] [it] x.cps.size (SignAt x) (λi h=>h.IsStrIter it ty x t i):=by
   rcases hty with rfl|rfl
   ·exact Walks.strAscii 191 it x t
   ·exact Walks.strWide 191 it x t
  have hg':i=x.cps.size:=hg;subst hg';exact W.done s _ _ st λh' tk kk=>(rfl,I.turned (λb o hb e=>kk b o (by simpa using hb) e) f0 f1 f3 f4 f5)
 self:=λ_ _ _ _ _ st h=>by
  rcases hty with rfl|rfl
  ·exact wpAny_pyIter_striter_ascii st h
  ·exact wpAny_pyIter_striter_wide st h
def EK (tl:TE):TI:=λσ H R=>tl σ H λx H1=>∃z,x= .str z/\R (C4 z) H1
variable {X:Cx} {tg:Expr}
theorem Bi {l:Expr} {tl:TE} (hl:PE X l tl):PI X tg l (EK tl):=by
 intro pins s σ H R I h;refine bW (hl pins s σ H _ I h) λv s1 (x,H1,I1,r1,q1)=>?_
 obtain ⟨z,rfl,q⟩:=q1;obtain ⟨t,rfl⟩:=r1;have fin:∀{ty:String} {o:Obj},(ty= "str_ascii_iterator" ∨ty= "str_iterator")->(s1.heap.push o).IsStrIter s1.heap.objs.size ty z t 0->Et X pins σ tg R (.ref s1.heap.objs.size) {s1 with heap:=s1.heap.push o}:=λ{ty o} hty st=>by
  refine (s1.heap.objs.size,[s1.heap.objs.size],_,_,H1,rfl,I1.kept (t':=s1.toks) λb o e=>76 _ e,xY hty _ z t,st,λb hb=>?_,q)
  have e:b=s1.heap.objs.size:=by simpa using hb
  subst e;exact I1.fpOk 160 (I1.hok.fresh 160)
 cases ha:z.cps.all (· <128)
 ·exact wpAny_pyIter_wide ha (fin (.inr rfl) 218)
 ·exact wpAny_pyIter_ascii ha (fin (.inl rfl) 218)
theorem zY {z:Str} {g:TG} {tb:TS} {D:Ends} {σ:St} {H:Hp} (Pv:Nat->St->Hp->Prop) (h0:Pv 0 σ H)
  (hs:∀i c σ H,z.cps[i]?=some c->Pv i σ H->g (.str ⟨#[c]⟩) σ H λσ2 H2=>tb {D with nx:=Pv 176,ct:=Pv 176,bk:=D.nx} σ2 H2) (hd:∀σ H,Pv z.cps.size σ H->D.nx σ H):
  ∃W:Nat->Nat->St->Hp->Prop,(∃m,W 0 m σ H)/\∀i m σ H,W i m σ H->
   ((C4 z).stop i H/\D.nx σ H)∨((C4 z).go i H/\∃N:St->Hp->Prop,(∀σ' H',N σ' H'->∃m',m'<m/\W 176 m' σ' H')/\∀x H',(C4 z).yld i H x H'->g x σ H' λσ2 H2=>tb {D with nx:=N,ct:=N,bk:=D.nx} σ2 H2):=by
 exists λi m σ H=>m=z.cps.size-i/\i<=z.cps.size/\Pv i σ H,(z.cps.size,by simp,G4 _,h0)
 rintro i m σ H ⟨rfl,hi,p⟩
 by_cases hlt:i<z.cps.size
 ·refine .inr (hlt,Pv 176,λσ' H' p'=>(z.cps.size-176,by lia,rfl,hlt,p'),λx H' y=>?_)
  obtain ⟨e,c,hc,rfl⟩:=y;subst e;exact hs i c σ _ hc p
 ·have e:i=z.cps.size:=by lia
  subst e;exact .inl (rfl,hd σ H p)
noncomputable def iK (x:Str) (lo hi:Option Int):Str:=⟨((x.cps.toList.drop (HT.cT x.length 0 lo)).take (HT.cT x.length x.length hi-HT.cT x.length 0 lo)).toArray⟩
theorem C5 (lo hi:Option Int) (n:Nat):Builtin.Str.strSliceIndices lo hi 1 n=(G0 (HT.cT n n hi-HT.cT n 0 lo)).map (HT.cT n 0 lo+ ·):=by
 have h1:(match lo with|none=>(0:Int)|some i=>max 0 (min (if i<0 then i+(n:Int) else i) n))=((HT.cT n 0 lo:Nat):Int):=by
  cases lo with
  |none=>simp[HT.cT]
  |some i=>
   simp only[HT.cT]
   by_cases h:i<0
   ·simp only[h,if_true]<;>lia
   ·simp only[h,if_false]<;>lia
 have h2:(match hi with|none=>(n:Int)|some i=>max 0 (min (if i<0 then i+(n:Int) else i) n))=((HT.cT n n hi:Nat):Int):=by
  cases hi with
  |none=>simp[HT.cT]
  |some i=>
   simp only[HT.cT]
   by_cases h:i<0
   ·simp only[h,if_true]<;>lia
   ·simp only[h,if_false]<;>lia
 rw[<-sliceRange_one,<-h1,<-h2];cases lo<;>cases hi<;>rfl
theorem qk (x:Str) (l u:Option (Int×Tok)):(⟨((slicePicked x l u none).filterMap (x.cps[·]?)).toArray⟩:Str)=iK x (l.map 166) (u.map 166):=by
 show (⟨((Builtin.Str.strSliceIndices (l.map 166) (u.map 166) 1 x.length).filterMap (x.cps[·]?)).toArray⟩:Str)=_;rw[C5,pick_run]
 rfl
theorem jV (x:Str) (lo hi:Option Int):(iK x lo hi).length<=x.length:=by
 show ((x.cps.toList.drop _).take _).toArray.size<=x.cps.size;rw[G6,GA,HA];simp only[FZ]
 lia
theorem sG (x:Str) (l u:Option (Int×Tok)) (h:(slicePicked x l u none).length=x.length):iK x (l.map 166) (u.map 166)=x:=by
 have h':(Builtin.Str.strSliceIndices (l.map 166) (u.map 166) 1 x.length).length=x.length:=h;rw[C5,F1,GB] at h';have hs:HT.cT x.length x.length (u.map 166)<=x.length∨x.length<HT.cT x.length x.length (u.map 166):=by lia
 have hu:HT.cT x.length x.length (u.map 166)<=x.length:=by
  cases u with
  |none=>exact F8 _
  |some p=>
   show (if p.1<0 then (p.1+(x.length:Int)).toNat else min p.1.toNat x.length)<=x.length
   by_cases hp:p.1<0
   ·rw[if_pos hp];lia
   ·rw[if_neg hp];lia
 unfold iK
 by_cases hx:x.length=0
 ·have e:x.cps.toList= []:=by
   have:x.cps.toList.length=0:=by rw[FZ];exact hx
   exact Gb this
  rw[e,List.drop_nil,List.take_nil];obtain ⟨c⟩:=x;have e':c= #[]:=Array.toList_inj.mp (by simpa using e)
  rw[e']
 ·have h0:HT.cT x.length 0 (l.map 166)=0:=by lia
  rw[h0,List.drop_zero,Hc (by rw[FZ];show x.length<=_;lia)]
theorem part_of {v:Value} {o:Option Int} (p:IsPart v o):∃l:Option (Int×Tok),partValue l=v/\l.map 166=o:=by
 cases p with
 |none=>exact ⟨none,rfl,rfl⟩
 |int i t=>exact ⟨some (i,t),rfl,rfl⟩
theorem oI {X:Cx}:Ef X (λx lo hi H Q=>∃z,x= .str z/\z.length<=sizeLine/\Q (.str (iK z lo hi)) H):=by
 intro pins s σ H x v vl vu lo hi sl Q I rx hs pl pu h;obtain ⟨z,rfl,hz,q⟩:=h;obtain ⟨t,rfl⟩:=rx;obtain ⟨l,rfl,rfl⟩:=part_of pl;obtain ⟨u,rfl,rfl⟩:=part_of pu;exists "str",_,slot_str_getitem.lookup,typeIs_str s z t;refine wpAny_getItem_str_slice (l:=l) (u:=u) (st:=none) hs rfl ?_;unfold sliceMade
 by_cases hw:(slicePicked z l u none).length=z.length
 ·rw[if_pos (by simp[hw])]
  refine (.str (iK z (l.map 166) (u.map 166)),H,I,(t,by rw[sG z l u hw]),q)
 ·rw[if_neg (by simp[hw])]
  rw[qk];exact (Gf (jV _ _ _) hz,.str (iK z (l.map 166) (u.map 166)),H,I.tok _,⟨ν⟩,q)
end L2
namespace Sw
open PySem L2 XH PyProof.Rows
theorem sH {hd:IR} {H H':Hp} (h:gQ hd H) (g:aA H H'):gQ hd H':=λv e=>by
 obtain ⟨a,n,cls,dx,e1,e2⟩:=h v e;exact (a,n,cls,dx,e1,g _ _ e2)
theorem dE {H H':Hp} {p:Addr} (g:aA H H') (h:H p=none) (o:HO):aA H (aI H' p o):=λb u q=>by
 rw[aJ (dw q h)];exact g b u q
theorem oJ {hd:IR} {n:Nat} {js:List Nat} {te:TE} {σ:L2.St} {H1:Hp} {Q:VK} (P:Nat->V->Prop) (hok:gQ hd H1) (hn:n<=sizeLine)
  (step:∀i,i<n->∀H3,aA H1 H3->∀Q':VK,(∀y H4,P i y->aA H3 H4->Q' y H4)->te (some (.int 121)::bn js σ) H3 Q')
  (fin:∀p ys H',H1 p=none->ys.length=n->(∀i y,ys[i]?=some y->P i y)->aA H1 H'->H' p=some 184->Q 120 H'):
  kZ js te σ Q (v4 hd 0 n) H1:=by
 intro p hp;exists λi m ys H2=>i<=n/\m=n-i/\ys.length=i/\(∀j y,ys[j]?=some y->P j y)/\aA H1 H2/\H2 p=some 184,(n,G4 _,rfl,rfl,λj y e=>by simp at e,ar hp _,ao)
 rintro i m ys H2 ⟨hi,rfl,hl,hP,g,e⟩;exists e
 by_cases hin:i<n
 ·refine .inr (hin,by lia,λx H3 hy=>?_)
  obtain ⟨rfl,rfl⟩:=hy;refine step i hin H3 g _ λy H4 py g4=>(g4 _ _ e,n-176,by lia,hin,rfl,by simp[hl],λj z ez=>?_,dE (g.trans g4) hp _,ao)
  by_cases hj:j<ys.length
  ·rw[FU hj] at ez;exact hP j z ez
  ·rw[F9 72] at ez
   have h0:j-ys.length=0:=by
    rcases Nat.eq_zero_or_pos (j-ys.length) with q|q
    ·exact q
    ·rw[GT (by simp;lia)] at ez;cases ez
   rw[h0] at ez;have hji:j=i:=by lia
   subst hji;cases ez;exact py
 ·have e2:i=n:=by lia
  subst e2;exact .inl ((F8 _,sH hok g),fin p ys H2 hp hl hP g e)
def jD (X:Cx) (scope:Scope) (ys:IM) (js:List Nat):Prop:=∀(i:Nat) (y:Str),ys[i]?=some y->∃j:Nat,js[i]?=some j/\X.N[j]?=some y/\(X.env.scope.names.lookup y=some .cell∨X.env.scope.names.lookup y=some .free)/\((relabel scope X.env).names.lookup y=some .cell∨(relabel scope X.env).names.lookup y=some .free)
theorem gE {X:Cx} {scope:Scope}:jD X scope [] []:=λi y h=>by simp at h
theorem iL {X:Cx} {scope:Scope} {ys:IM} {js:List Nat} {y:Str} {j:Nat} (t:jD X scope ys js) (h1:X.N[j]?=some y:=by rfl) (h2:X.env.scope.names.lookup y=some .cell∨X.env.scope.names.lookup y=some .free:=by first|exact Or.inl rfl|exact Or.inr rfl)
  (h3:(relabel scope X.env).names.lookup y=some .cell∨(relabel scope X.env).names.lookup y=some .free:=by first|exact Or.inl rfl|exact Or.inr rfl):jD X scope (y::ys) (j::js):=λi z h=>by
 cases i with
 |zero=>
  cases h;exact (j,rfl,h1,h2,h3)
 |succ i=>exact t i z h
inductive sI (X:Cx):List (Str×Addr)->Prop where
 |nil:sI X []
 |cons {y:Str} {c:Addr} {cl:List (Str×Addr)} (h:X.env.cells.lookup y=some c) (t:sI X cl):sI X ((y,c)::cl)
theorem sI.all {X:Cx} {cl:List (Str×Addr)} (h:sI X cl):∀p∈cl,X.env.cells.lookup p.1=some p.2:=by
 induction h with
 |nil=>intro p hp;simp at hp
 |cons h _ ih=>
  intro p hp;rcases FW.mp hp with e|e
  ·rw[e];exact h
  ·exact ih p e
theorem gJ {X:Cx} {scope:Scope} {cl:List (Str×Addr)} {own:Str} {ys:IM} {js:List Nat} (a:jD X scope ys js) (s:sI X cl) (nd:(own::ys).Nodup) (len:js.length=ys.length) (clos:closureFor scope X.env=pure cl) (nocell:(scope.names.all λp=> !(p.2== .cell))=true) (kind:scope.kind= .function)
  (loc:136=true) (ownL:scope.names.lookup own=some .local) (has:116=true) (noown:cl.lookup own=none):fH X scope cl own ys js:=
 ⟨clos,nocell,kind,loc,ownL,s.all,has,noown,nd,a,len⟩
open PySem.NumText
end Sw
namespace L2
open PySem PySem.Spec PyProof.Rows XH
section
variable {X:Cx} {a b e o:Expr} {es:List Expr} {t te to:TE} {ta:TA} {pos apos cpos:Pos} {x y:Str}
theorem jc:∀{ns:List Int} {us:IP},bG 135 us->IntsAre us ns
 | [],_,h=>by cases h;exact .nil
 |n::ns,_,h=>by
  cases h with
  |cons r rr=>
   obtain ⟨t,rfl⟩:=r;exact .cons _ _ (jc rr)
theorem v7 (hc:X.calm=true):cL X (.builtin "max") (λxs H Q=>∃a ns,xs= [.ref a]/\aE X.K H a 135/\ns≠ []/\∀M:Int,M∈ns->(∀z∈ns,z<=M)->Q (.int M) H):=by
 sleep 14;obtain ⟨a,ns,rfl,h1,hne,q⟩:=h;obtain ⟨u,rfl,r1⟩:=vals1 r;cases r1;obtain ⟨its,rv,p,hz⟩:=I.list h1;have hi:=jc rv;obtain ⟨xs,e⟩:=hi.allInts.items;have lst:xs.toList.map 166=ns:=by
  rw[<-hi.numsOf,<-nums_intItems xs,<-e]
 have len:ns.length=xs.size:=by rw[<-lst,F1,FZ]
 have pos:0<xs.size:=len▸List.length_pos_iff.mpr hne;refine max_intList 191 (xs:=xs) (by have z:=p.isList;rw[e] at z;exact z) pos λv h' tk hv hk=>?_
 obtain ⟨t,rfl⟩:=intItems_at hv;have best:=argBest_gt (numAt xs) (xs.size-1);refine (.int _,H,I.kept (h':=h') (t':=tk) hk,⟨ν⟩,q _ ?_ λz hz=>?_)
 ·have m:=best.1;rw[<-lst,numAt_eq];refine getD_mem ?_;rw[lst,len]
  lia
 ·rw[<-lst] at hz;obtain ⟨j,hj,rfl⟩:=mem_getD hz;rw[lst,len] at hj;have m:=best.2 j 72
  rw[numAt_eq] at m;exact m
theorem xZ {z:Str} {p:Pos} (hg:Gl X x) (h:∃t,X.mg x=some (.str z t)) (hd:198=false:=by decide):PE X (.Name x p) (tC (.str z)):=by
 obtain ⟨t,h⟩:=h;exact ue hg h (t,rfl) hd
theorem cZ {i:Int} {p:Pos} (hg:Gl X x) (h:∃t,X.mg x=some (.int i t)) (hd:198=false:=by decide):PE X (.Name x p) (tC (.int i)):=by
 obtain ⟨t,h⟩:=h;exact ue hg h (t,rfl) hd
end
noncomputable def C6 (a:Addr) (o:Obj) (kvs:List 193):It:=
 ⟨λi H=>H a=some 181/\i<kvs.length,λi H v H'=>H'=H/\∃k x,kvs[i]?=some (k,x)/\v=kV k,λi H=>H a=some 181/\i=kvs.length⟩
theorem uC {P:Program} {w:World} {k:Key} {u:Value} (h:(aO P w).is k u=true):RelV (kV k) u:=by
 rcases cw h with ⟨i,t,rfl,rfl⟩|⟨x,t,rfl,rfl⟩
 ·exact (t,rfl)
 ·exact (t,rfl)
theorem x3 {κ:Type}:∀{kvs:List (κ×V)} {vs:List (κ×Value)} (r:KV kvs vs) (i:Nat) {k:κ} {x:V},kvs[i]?=some (k,x)->∃u,vs[i]?=some (k,u)/\RelV x u
 |_,_,.nil,i,k,x,h=>by simp at h
 |_,_,.cons (b:=q) r t,0,k,x,h=>by
  simp at h;subst h;obtain ⟨q1,q2⟩:=q;have e:k=q1:=r.1;subst e;exact (q2,by simp,r.2)
 |_,_,.cons r t,i+1,k,x,h=>by
  obtain ⟨u,e,rx⟩:=x3 t i 214
  exact (u,by simpa using e,rx)
theorem jd {X:Cx} {pins:IK} {σ:St} {H:Hp} {s:Shared} {a:Addr} {o:Obj} {kvs:List 193} {es0:Array DictEntry} {ep:Nat} (I:aR X pins σ H s) (h:H a=some 181) (hd:o.data= .dict es0 ep):
  ∃vs,KV kvs vs/\s.heap.DictAt (aO X.prog X.w) a vs ep:=by
 obtain ⟨ho,z,y,vs,rel,ob,es,ep',e,c,d,rest⟩:=(show cg X.prog X.w H s.heap a 181 from I.hok a _ h)
 rw[ho] at e;cases e;have e2:ep'=ep:=by rw[hd] at d;cases d;rfl
 subst e2;exact (vs,rel,o,es,ho,c,d,rest)
theorem v8 {P:Program} {w:World} {K:F6} {tg:Expr} (it a:Addr) (o:Obj) (kvs:List 193) {es0:Array DictEntry} {ep:Nat} (hd:o.data= .dict es0 ep):Turn P w K tg (C6 a o kvs) [it] it (λi h=>h.IsKeyIter it a i kvs.length ep) where
 mem:=by simp
 obj:=λi h st b hb=>by
  have e:b=it:=by simpa using hb
  subst e;obtain ⟨o,e,c,d⟩:=st;exact (o,e,λv z=>by rw[d] at z;cases z)
 keep:=λi h h' st k=>by
  obtain ⟨o,e,c,d⟩:=st;exact (o,k it 82 o e,c,d)
 item:=by
  sleep 11;sleep 26
  obtain ⟨hz,hlt⟩:=hg;obtain ⟨vs,rel,D⟩:=jd I hz hd;obtain ⟨⟨k,x⟩,hx⟩:∃p,kvs[i]?=some p:=⟨kvs[i],F0 hlt⟩;obtain ⟨u,hu,_⟩:=x3 rel i hx;have st':=st;rw[rel.length] at st';refine wpAny_pyNext_dict_item st' D hu λkey h' hkey hit' hs'=>?_
  rw[<-rel.length] at hit';have I1:aR X pins σ H {s with heap:=h',toks:=s.toks}:=I.turned (λb ob hb e=>hs'.extBut b ob hb e) f0 f1 f3 f4 f5
  obtain ⟨oi,ei,ci,di⟩:=id hit';exact ⟨_,rfl,pV (s:=205) (n:= "dict_keyiterator") ei ci di 73 ⟨kV k,H,I1,uC hkey,⟨rfl,k,x,hx,rfl⟩,hit',λb hb=>(hf b hb).1⟩⟩
 done:=by
  sleep 11;sleep 26
  obtain ⟨hz,rfl⟩:=hg;obtain ⟨vs,rel,D⟩:=jd I hz hd;rw[rel.length] at st;refine wpAny_pyNext_dict_end 191 st D 82 λh' he'=>(rfl,I.turned (t':=s.toks) (λb ob hb e=>he' b ob hb e) f0 f1 f3 f4 f5)
 self:=λ_ _ _ _ _ st h=>wpAny_pyIter_keyiter st h
def NF (X:Cx) (a:Addr):Prop:=∀o u,X.H₀ a≠some (.frz o u)
theorem aR.nf {X:Cx} {pins:IK} {σ:St} {H:Hp} {s:Shared} {a:Addr} {kvs:List 193} (I:aR X pins σ H s) (h:H a=some 119):NF X a:=λo u e=>by
 have:=I.base.frzs a o u e;rw[h] at this;cases this
theorem aR.freeze {X:Cx} {pins:IK} {σ:St} {H:Hp} {s:Shared} {a:Addr} {kvs:List 193} {o:Obj} (I:aR X pins σ H s) (h:H a=some 119) (ho:s.heap.get? a=some o):aR X pins σ (aI H a 181) s:=by
 refine I.un (H':=aI H a 181) (h':=s.heap) (t':=s.toks) (λb ob q n _ _=>q,λb ob q n _ _=>(ob.slots,q),λb ob q n _=>?_,λb ob q _=>(ob,q),λb xs q=>?_,λb ob u q=>?_,λb ps q=>(#[],?_)) ?_
 ·rw[aJ (λz=>by subst z;rw[h] at n;cases n)];exact n
 ·rw[aJ 143];exact q
 ·rw[aJ 143];exact q
 ·rw[aJ 143,q];simp
 ·intro b u q
  by_cases hb:b=a
  ·subst hb;rw[ao] at q;cases q;exact (ho,(I.hok b _ h).stay (λ_ _ _ q=>q) (λc q=>by rw[aJ 143];exact q) λc xs q=>by rw[aJ 143];exact q)
  ·rw[aJ hb] at q;exact (I.hok b _ q).stay (λ_ _ _ q=>q) (λc q=>by rw[aJ 143];exact q) λc xs q=>by rw[aJ 143];exact q
theorem aR.thaw {X:Cx} {pins:IK} {σ:St} {H:Hp} {s:Shared} {a:Addr} {kvs:List 193} {o:Obj} (I:aR X pins σ H s) (h:H a=some 181) (nf:NF X a):aR X pins σ (aI H a 119) s:=by
 have hn:∀{b:Addr} {u:HO},H b=some u->(∀o' v,u≠ .frz o' v)->aI H a 119 b=some u:=λ{b u} q n=>by
  rw[aJ (λz=>by subst z;rw[h] at q;cases q;exact n _ _ rfl)];exact q
 have hf:∀{b:Addr},H b=none->aI H a 119 b=none:=λ{b} n=>by
  rw[aJ (λz=>by subst z;rw[h] at n;cases n)];exact n
 refine (I.ok,I.os,I.bare,(I.base.keep,I.base.slot,λb ob q n hx=>hf (I.base.free b ob q n hx),I.base.there,λb xs q=>hn (I.base.tups b xs q) (λ_ _ z=>nomatch z),λb ob u q=>?_,λb ps q=>?_),I.loc,I.cell,hf I.free,λy c e=>hf (I.freeC y c e),λp hp=>?_,?_,I.len)
 ·have q':=I.base.frzs b ob u q;rw[aJ (λz=>by subst z;exact nf _ _ q)]
  exact q'
 ·obtain ⟨more,q'⟩:=I.base.tbls b ps q;exact (more,hn q' (λ_ _ z=>nomatch z))
 ·obtain ⟨p1,p2,p3⟩:=I.pin p hp;exact (p1,hf p2,p3)
 ·intro b u q
  by_cases hb:b=a
  ·subst hb;rw[ao] at q;cases q;obtain ⟨_,q2⟩:=(show cg X.prog X.w H s.heap b 181 from I.hok b _ h)
   exact cg.stay (o:= .dK kvs) q2 (λ_ _ _ q=>q) (λc q=>hn q (λ_ _ z=>nomatch z)) λc xs q=>hn q (λ_ _ z=>nomatch z)
  ·rw[aJ hb] at q;exact (I.hok b _ q).stay (λ_ _ _ q=>q) (λc q=>hn q (λ_ _ z=>nomatch z)) λc xs q=>hn q (λ_ _ z=>nomatch z)
def C7 (X:Cx) (tl:TE):TI:=λσ H R=>tl σ H λx H1=>∃a kvs,x= .ref a/\H1 a=some 119/\∀o,NF X a->R (C6 a o kvs) (aI H1 a 181)
variable {X:Cx} {tg:Expr}
theorem zZ {l:Expr} {tl:TE} (hl:PE X l tl):PI X tg l (C7 X tl):=by
 intro pins s σ H R I h;refine bW (hl pins s σ H _ I h) λv s1 (x,H1,I1,r1,q1)=>?_
 obtain ⟨a,kvs,rfl,hk,q⟩:=q1;cases r1;obtain ⟨z,y,vs,rel,ob,es,ep,e,c,d,rest⟩:=(show cg X.prog X.w H1 s1.heap a 119 from I1.hok a _ hk)
 have D:s1.heap.DictAt (aO X.prog X.w) a vs ep:=(ob,es,e,c,d,rest);have I2:=I1.freeze hk e;refine wpAny_pyIter_dict y D ?_;refine (s1.heap.objs.size,[s1.heap.objs.size],_,_,ν,I2.kept (t':=s1.toks) λb o e=>76 _ e,v8 _ a ob kvs d,(_,87 _ rfl,rfl,by rw[rel.length];rfl),λb hb=>?_,q ob (I1.nf hk))
 have e:b=s1.heap.objs.size:=by simpa using hb
 subst e;exact I2.fpOk 160 (I2.hok.fresh 160)
def Ei (X:Cx) (P:Hp->Prop) (H:Hp):Prop:=∃a o kvs,H a=some 181/\NF X a/\P (aI H a 119)
noncomputable def EL (X:Cx) (D:Ends):Ends:={nx:=λσ=>Ei X (D.nx σ),bk:=λσ=>Ei X (D.bk σ),ct:=λσ=>Ei X (D.ct σ),rt:=λv=>Ei X (D.rt v)}
theorem x4 {X:Cx} {st:Stmt} {t:TS} (h:PS X st t):PS X st (λD σ H=>t (EL X D) σ H):=by
 intro pins s σ H D I q;refine bW (h pins s σ H _ I q) λf s1 q1=>?_
 cases f with
 |next=>
  obtain ⟨σ',H',I',a,o,kvs,e,nf,p⟩:=q1;exact (σ',_,I'.thaw e nf,p)
 |brk=>
  obtain ⟨σ',H',I',a,o,kvs,e,nf,p⟩:=q1;exact (σ',_,I'.thaw e nf,p)
 |cont=>
  obtain ⟨σ',H',I',a,o,kvs,e,nf,p⟩:=q1;exact (σ',_,I'.thaw e nf,p)
 |ret u=>
  obtain ⟨v,σ',H',I',r,a,o,kvs,e,nf,p⟩:=q1;exact (v,σ',_,I'.thaw e nf,r,p)
theorem x5 {a:Addr} {o:Obj} {kvs:List 193} {g:TG} {tb:TS} {D:Ends} {σ:St} {H:Hp} (Pv:Nat->St->Hp->Prop) (h0:Pv 0 σ H) (hz:∀i σ H,i<=kvs.length->Pv i σ H->H a=some 181)
  (hs:∀i k x σ H,kvs[i]?=some (k,x)->Pv i σ H->g (kV k) σ H λσ2 H2=>tb {D with nx:=Pv 176,ct:=Pv 176,bk:=D.nx} σ2 H2) (hd:∀σ H,Pv kvs.length σ H->D.nx σ H):
  ∃W:Nat->Nat->St->Hp->Prop,(∃m,W 0 m σ H)/\∀i m σ H,W i m σ H->
   ((C6 a o kvs).stop i H/\D.nx σ H)∨((C6 a o kvs).go i H/\∃N:St->Hp->Prop,(∀σ' H',N σ' H'->∃m',m'<m/\W 176 m' σ' H')/\∀x H',(C6 a o kvs).yld i H x H'->g x σ H' λσ2 H2=>tb {D with nx:=N,ct:=N,bk:=D.nx} σ2 H2):=by
 exists λi m σ H=>m=kvs.length-i/\i<=kvs.length/\Pv i σ H,(kvs.length,by simp,G4 _,h0)
 rintro i m σ H ⟨rfl,hi,p⟩
 by_cases hlt:i<kvs.length
 ·refine .inr ((hz i σ H hi p,hlt),Pv 176,λσ' H' p'=>(kvs.length-176,by lia,rfl,hlt,p'),λx H' y=>?_)
  obtain ⟨e,k,v,hk,rfl⟩:=y;subst e;exact hs i k v σ _ hk p
 ·have e:i=kvs.length:=by lia
  subst e;exact .inl ((hz _ σ H hi p,rfl),hd σ H p)
section
variable {a b c d:Expr} {ta tb tc td:TE} {pos:Pos}
def z5 (r r' r'':R2) (ta tb tc td:TE):TE:=λσ H Q=>ta σ H λx H1=>tb σ H1 λy H2=>r x y H2 λz H3=>mB z λk=>
 (if k=true then tc σ H3 λw H4=>r' y w H4 λz' H5=>mB z' λk'=>(if k'=true then td σ H5 λv H6=>r'' w v H6 Q else Q (.bl false) H5) else Q (.bl false) H3)
theorem v9 {o1 o2 o3:CmpOp} {r r' r'':R2} (h1:iq X (compareOp o1) r) (h2:iq X (compareOp o2) r') (h3:iq X (compareOp o3) r'') (ha:PE X a ta) (hb:PE X b tb) (hc:PE X c tc) (hd:PE X d td)
  (hm:lastMarks [o1,o2,o3] [b,c,d]=false:=by with_unfolding_all rfl):PT X (.Compare a [o1,o2,o3] [b,c,d] pos) (xI (z5 r r' r'' ta tb tc td)):=by
 intro pins s σ H Q I h;refine isTrue_chain (bW (ha pins s σ H _ I h) λv s1 (x,H1,I1,r1,q1)=>test_link (bW (hb pins s1 σ H1 _ I1 q1) λu s2 (y,H2,I2,r2,q2)=>
  bW (h1 pins s2 σ H2 x y v u _ I2 r1 r2 q2) λe1 s3 ⟨z,H3,I3,r3,q3⟩=>?_)) hm
 obtain ⟨k,e,q3⟩:=mB.e q3;subst e;cases r3;refine wpAny_truthy_bool ?_;cases k with
 |false=>
  obtain ⟨k',e',q'⟩:=mB.e q3;cases e';exact ite_ff (H3,I3,q')
 |true=>
  refine ite_tt (test_link (bW (hc pins s3 σ H3 _ I3 q3) λw' s4 (z',H4,I4,r4,q4)=>bW (h2 pins s4 σ H4 y z' u w' _ I4 r2 r4 q4) λd' s5 (z2,H5,I5,r5,q5)=>?_))
  obtain ⟨k2,e2,q5⟩:=mB.e q5;subst e2;cases r5;refine wpAny_truthy_bool ?_;cases k2 with
  |false=>
   obtain ⟨k',e',q'⟩:=mB.e q5;cases e';exact ite_ff (H5,I5,q')
  |true=>
   refine ite_tt (test_last (bW (hd pins s5 σ H5 _ I5 q5) λw2 s6 (z3,H6,I6,r6,q6)=>bW (h3 pins s6 σ H6 z' z3 w' w2 _ I6 r4 r6 q6) λd2 s7 (z4,H7,I7,r7,q7)=>?_))
   obtain ⟨k3,e3,q7⟩:=mB.e q7;subst e3;cases r7;exact wpAny_truthy_bool (H7,I7,q7)
end
theorem iM {X:Cx}:cL X (.type "dict") (λxs H Q=>∃(d:Addr) (kvs:List 193),xs= [.ref d]/\H d=some 119/\∀p,H p=none->Q 120 (aI H p 119)):=by
 sleep 14;obtain ⟨d,kvs,rfl,hd,q⟩:=h;cases r with
 |cons r rr=>
  cases rr;cases r;obtain ⟨z,y,vs,rel,D⟩:=p8 I.hok hd;refine kt_call_dict y D (by rw[<-rel.length];exact z) λh' hm hs=>?_
  have kp:∀b o,s.heap.get? b=some o->h'.get? b=some o:=λb o e=>(hs.2 b (FV (106 e))).trans (76 _ e)
  have big:(74==sysModules)=false:=by
   have:=I.big;exact beq_eq_false_iff_ne.mpr (HC this)
  exact (.ref 74,_,I.laid (o:= .dK kvs) (t':=s.toks) kp 160 (z,big,vs,rel,hm),rfl,q _ I.fresh)
def Bj:V->List V->Hp->VK->Prop:=λx vs H Q=>∃(d:Addr) (kvs:List 193),x= .ref d/\vs= []/\H d=some 119/\∀v,H v=none->Q (.ref v) (aI H v (.ext λh=>h.IsItemsView v d))
theorem x6 {X:Cx}:Fn X "dict.items" Bj:=by
 intro pins s σ H x vs v us Q I rx rv h;obtain ⟨d,kvs,rfl,rfl,hd,q⟩:=h;cases rx;have hus:=rv.zero;subst hus;obtain ⟨z,y,ws,rel,D⟩:=p8 I.hok hd;refine call_meetsIn PySem.F.slot_dict_items D.typeIs PySem.F.entry_dict_items (PySem.F.args_dict_items_1 _) (meets_dict_items (aO X.prog X.w) d y) ((ws,D),?_);refine (.ref 74,_,I.laid (o:= .ext λh=>h.IsItemsView 74 d) (t':=s.toks) (λb o e=>76 _ e) 160 (218,(_,87 _ rfl),λh1 h2 (o,e,c,f) k=>(o,k o e,c,f)),rfl,q _ I.fresh)
noncomputable def Itm (a:Addr) (o:Obj) (kvs:List 193):It:=
 ⟨λi H=>H a=some 181/\i<kvs.length,λi H v H'=>∃(T:Addr) (k:Key) (x:V),v= .ref T/\H T=none/\kvs[i]?=some (k,x)/\H'=aI H T (.tup [kV k,x]),λi H=>H a=some 181/\i=kvs.length⟩
theorem li:entryFor table "dict_itemiterator.__iter__" =some Builtin.«dict_keyiterator.__iter__» :=
 entryFor_alias (id':= "dict_keyiterator.__iter__") 211 rfl 78 211
theorem mO {prog:Program} {w:World} {A:Around} {E:II} {s:Shared} {it d:Addr} {i n ep:Nat} {ok ov:Value} {Q:II} (e:IsItemIter s.heap it d i n ep ok ov) (h:Q 219 s):wpAny 79 A (pyIter 219) Q E s:=by
 have T:s.TypeIs 219 "dict_itemiterator" :=(_,e,rfl);refine wpAny_pyIter_slot T PySem.F.slot_dict_itemiterator_iter (wpAny_call_entry PySem.F.slot_dict_itemiterator_iter T li ?_ (PySem.F.args_dict_itemiterator_iter_1 _));exact (show wpAny _ _ (ret 219) _ _ s from wpAny_pure (ν,"dict_itemiterator",_,T,PySem.F.slot_dict_itemiterator_next.lookup,h))
theorem sJ {P:Program} {w:World} {K:F6} {elts:List Expr} {kk:Nat} {pos:Pos} (it a:Addr) (o:Obj) (kvs:List 193) {es0:Array DictEntry} {ep:Nat} (hd:o.data= .dict es0 ep):Turn P w K (.Tuple elts kk pos) (Itm a o kvs) [it] it (λi h=>∃ok ov,IsItemIter h it a i kvs.length ep ok ov) where
 mem:=by simp
 obj:=λi h st b hb=>by
  have e:b=it:=by simpa using hb
  subst e;obtain ⟨ok,ov,e⟩:=st;exact (_,e,λv z=>by cases z)
 keep:=λi h h' st k=>by
  obtain ⟨ok,ov,e⟩:=st;exact (ok,ov,k it 82 _ e)
 item:=by
  sleep 11;obtain ⟨hz,hlt⟩:=hg;obtain ⟨vs,rel,D⟩:=jd I hz hd;obtain ⟨⟨k,x⟩,hx⟩:∃p,kvs[i]?=some p:=⟨kvs[i],F0 hlt⟩;obtain ⟨u,hu,ru⟩:=x3 rel i hx;obtain ⟨ok,ov,st'⟩:=st;rw[rel.length] at st';refine wpAny_pyNext_items_item st' D hu λkey h1 hkey ho hT hsz hk=>?_
  refine ⟨_,rfl,wpAny_letOwnedTupleGo_items (s:={s with heap:=h1}) ho λh2 he2 hs2=>?_⟩
  have nT:H 74=none:=I.hok.fresh 160;have il:it<s.heap.objs.size:=106 st';have hT2:h2.get? 74=some {cls:= .type "tuple",data:= .seq #[key,u]}:=(hs2.2 _ (HC il)).trans hT;have kp:∀b o,b∉ [it]->s.heap.get? b=some o->h2.get? b=some o:=λb o hb q=>by
   simp at hb;exact (hs2.2 b hb).trans (hk b o hb q)
  rw[<-rel.length] at he2;refine ⟨.ref 74,aI H 74 (.tup [kV k,x]),I.turnedNew (t':=s.toks) (ch:= [it]) hf kp 160 (by show 2<=sizeLine;decide,[key,u],.cons (uC hkey) (.cons ru .nil),(_,hT2,rfl,0,rfl)),rfl,
   ⟨_,k,x,rfl,nT,hx,rfl⟩,⟨_,_,he2⟩,λb hb=>?_⟩
  have bl:b≠s.heap.objs.size:=by
   rw[FM.mp hb];exact FV il
  rw[aJ bl];exact (hf b hb).1
 done:=by
  sleep 11;obtain ⟨hz,rfl⟩:=hg;obtain ⟨vs,rel,D⟩:=jd I hz hd;obtain ⟨ok,ov,st'⟩:=st;rw[rel.length] at st';refine wpAny_pyNext_items_end 191 st' D 82 λh' he'=>(rfl,I.turnedAll (t':=s.toks) (ch:= [it]) hf λb o hb q=>he' b o (λz=>hb 233) q)
 self:=λA i s Q E st h=>by
  obtain ⟨ok,ov,e⟩:=st;exact mO e h
def Bk (X:Cx) (tl:TE):TI:=λσ H R=>tl σ H λx H1=>∃(v d:Addr) (kvs:List 193),x= .ref v/\H1 v=some (.ext λh=>h.IsItemsView v d)/\H1 d=some 119/\∀o,NF X d->R (Itm d o kvs) (aI H1 d 181)
theorem x9 {X:Cx} {l:Expr} {tl:TE} {elts:List Expr} {kk:Nat} {tp:Pos} (hl:PE X l tl):PI X (.Tuple elts kk tp) l (Bk X tl):=by
 intro pins s σ H R I h;refine bW (hl pins s σ H _ I h) λu s1 (x,H1,I1,r1,q1)=>?_
 obtain ⟨v,a,kvs,rfl,hv,hk,q⟩:=q1;cases r1;obtain ⟨z,y,vs,rel,ob,es,ep,e,c,d,rest⟩:=(show cg X.prog X.w H1 s1.heap a 119 from I1.hok a _ hk)
 have D:s1.heap.DictAt (aO X.prog X.w) a vs ep:=(ob,es,e,c,d,rest);have I2:=I1.freeze hk e;obtain ⟨view,_⟩:=(show cg X.prog X.w H1 s1.heap v (.ext λh=>h.IsItemsView v a) from I1.hok v _ hv)
 refine wpAny_pyIter_items view D ?_;refine (s1.heap.objs.size,[s1.heap.objs.size],_,_,ν,I2.kept (t':=s1.toks) λb o e=>76 _ e,sJ _ a ob kvs d,(_,_,by rw[rel.length];exact 87 _ rfl),λb hb=>?_,q ob (I1.nf hk))
 have e:b=s1.heap.objs.size:=by simpa using hb
 subst e;exact I2.fpOk 160 (I2.hok.fresh 160)
end L2
namespace So
open PySem PyProof.Rows
noncomputable def kk (κ:KeyKind) (p:Keyed):κ.α:=(κ.keyOf p.1).getD κ.dflt
def Kd (κ:KeyKind) (p:Keyed):Prop:=∃a,κ.keyOf p.1=some a
def zy (prog:Program) (w:World) (A:Around) (E:II) (s:Shared) (κ:KeyKind) (kd:SortKind):Prop:=∀(st:SortSt) (x y:Keyed) (Q:Option Bool->SortSt->Prop),kindOf st=kd->Kd κ x->Kd κ y->Q (some (κ.blt (kk κ x) (kk κ y))) st->wpS 79 A E s (lt' x y) Q st
section
variable {prog:Program} {w:World} {A:Around} {E:II} {s:Shared} {κ:KeyKind} {kd:SortKind}
theorem lC {α β:Type} {st:SortSt} {x:StateT SortSt Sem α} {f:α->StateT SortSt Sem β} {Q:β->SortSt->Prop} (h:wpS 79 A E s (x>>=f) Q st):wpS 79 A E s (x>>=f) Q st:=h
theorem ya (hO:zy prog w A E s κ kd) {st:SortSt} {x y:Keyed} {Q:Option Bool->SortSt->Prop} (hk:kindOf st=kd) (hx:Kd κ x) (hy:Kd κ y) (h:Q (some (κ.blt (kk κ x) (kk κ y))) st):wpS 79 A E s (lt' x y) Q st:=hO st x y Q hk hx hy h
theorem je {st:SortSt} {arr:Array Keyed} {i:Nat} {p:Keyed} {Q:Keyed->SortSt->Prop} (e:arr[i]?=some p) (h:Q p st):wpS 79 A E s (elem' arr i) Q st:=by
 rw[elem'_eq,e];exact wpS_pure h
end
def Lq (κ:KeyKind) (p q:Keyed):Prop:=κ.kle (kk κ p) (kk κ q)
section
variable {prog:Program} {w:World} {A:Around} {E:II} {s:Shared} {κ:KeyKind} {kd:SortKind}
theorem ql {st:SortSt} {r:String} {Q:Unit->SortSt->Prop} (h:Q () st):wpS 79 A E s (liftM (rule r):StateT SortSt Sem Unit) Q st:=wpS_lift (wpAny_rule (rfl,h))
end
section
variable {prog:Program} {w:World} {A:Around} {E:II} {s:Shared} {κ:KeyKind} {kd:SortKind}
theorem z6 {arr:Array Keyed} {P R:List Keyed} (e:arr.toList=P++R) {i:Nat} {x:Keyed} (h:R[i]?=some x):arr[P.length+i]?=some x:=by
 have:arr.toList[P.length+i]?=some x:=by rw[e,F9 72,Nat.add_sub_cancel_left];exact h
 simpa using this
theorem jf (hO:zy prog w A E s κ kd) {st:SortSt} {P R:List Keyed} {i j i' j':Nat} {x y:Keyed} {Q:Option Bool->SortSt->Prop} (hk:kindOf st=kd) (ka:∀x∈R,Kd κ x) (e:(arrOf st).toList=P++R)
  (hi:R[i]?=some x) (hj:R[j]?=some y) (ei:i'=P.length+i) (ej:j'=P.length+j) (h:Q (some (κ.blt (kk κ x) (kk κ y))) st):wpS 79 A E s (ltAt' i' j') Q st:=by
 subst ei ej;rw[ltAt'_eq];sleep 31;exact wpS_bind (je (z6 e hi) (wpS_bind (je (z6 e hj) (ya hO hk (ka x (F5 hi)) (ka y (F5 hj)) h))))
theorem take_snoc {R:List Keyed} {n:Nat} {x:Keyed} (h:R[n]?=some x):R.take (n+1)=R.take n++ [x]:=by
 rw[List.take_succ,h]
 rfl
theorem EM {R:List Keyed} {n:Nat} {x y:Keyed} (h1:1<=n) (hs:(R.take n).Pairwise (Lq κ)) (hy:R[n-1]?=some y) (hx:R[n]?=some x) (l:Lq κ y x):(R.take (n+1)).Pairwise (Lq κ):=by
 have e1:R.take n=R.take (n-1)++ [y]:=by
  have:=take_snoc hy
  rwa [show n-1+1=n by lia] at this
 rw[take_snoc hx,Gr];refine (hs,by simp,λu hu v hv=>?_)
 simp at hv;rw[hv];rw[e1] at hu hs;rcases FS.mp hu with k|k
 ·exact KeyOrd.kle_trans ((Gr.mp hs).2.2 u k y 82) l
 ·simp at k;rw[k];exact l
theorem uD {st:SortSt} {R:List Keyed} {n0 N:Nat} (hN:N=R.length) {body:Nat->Option (Option Nat)×Nat->StateT SortSt Sem (ForInStep (Option (Option Nat)×Nat))} {Q:Option (Option Nat)×Nat->SortSt->Prop} (h1:1<=n0) (hn:n0<=R.length) (hs:(R.take n0).Pairwise (Lq κ))
  (hb:∀n x y (i:Nat) (Q':ForInStep (Option (Option Nat)×Nat)->SortSt->Prop),1<=n->R[n]?=some x->R[n-1]?=some y->(κ.blt (kk κ x) (kk κ y)=true->Q' (.done (none,n)) st)->(κ.blt (kk κ x) (kk κ y)=false->Q' (.yield (none,n+1)) st)->wpS 79 A E s (body i (none,n)) Q' st)
  (h:∀n,n0<=n->n<=R.length->(R.take n).Pairwise (Lq κ)->(n=R.length∨∃x y,R[n]?=some x/\R[n-1]?=some y/\κ.blt (kk κ x) (kk κ y)=true)->Q (none,n) st):wpS 79 A E s (forIn [n0:N] (none,n0) body) Q st:=by
 subst hN;refine wpS_forRange (I:=λi c st'=>st'=st/\c=(none,i)/\n0<=i/\(R.take i).Pairwise (Lq κ)) ?_ ?_ (rfl,rfl,F8 _,hs)
 ·rintro i c st' hi1 hi2 ⟨rfl,rfl,h3,h4⟩;have ex:=F0 hi2;have ey:=F0 (show i-1<R.length by lia)
  refine hb i _ _ i _ 72 ex ey (λc=>h i h3 72 h4 (.inr (_,_,ex,ey,c))) (λc=>(rfl,rfl,by lia,EM 72 h4 ey ex c))
 ·rintro c st' ⟨rfl,rfl,h3,h4⟩;rw[Nat.max_eq_right hn] at h3 h4⊢;exact h _ h3 160 h4 (.inl rfl)
theorem jW {arr:Array Keyed} {P D S:List Keyed} (e:arr.toList=P++(D++S)):(mirror arr P.length (P.length+D.length) ((P.length+D.length-P.length)/2)).toList=P++(D.reverse++S):=by
 have sz:arr.size=P.length+(D.length+S.length):=by
  have:=congrArg List.length e
  simpa using this
 apply Gw;intro k;have q:=getElem?_mirror_all (xs:=arr) (i:=P.length) (j:=P.length+D.length) 72 k
 have q':(mirror arr P.length (P.length+D.length) ((P.length+D.length-P.length)/2)).toList[k]?=(mirror arr P.length (P.length+D.length) ((P.length+D.length-P.length)/2))[k]?:=by simp
 have ga:∀i,arr[i]?=(P++(D++S))[i]?:=λi=>by rw[<-e,GG]
 rw[q',q,ga,ga]
 by_cases c:P.length<=k/\k<P.length+D.length
 ·rw[if_pos c,F9 72,FU 72,F9 72,FU (by rw[Ge];lia),List.getElem?_reverse 72]
  congr 1
  lia
 ·rw[if_neg c]
  by_cases c2:k<P.length
  ·rw[FU c2,FU c2]
  ·rw[F9 72,F9 72,F9 72,F9 (by rw[Ge];lia),Ge]
structure Kp (st st':SortSt):Prop where
 kind:kindOf st'=kindOf st
 failed:failedOf st'=failedOf st
 pend:pendingOf st'=pendingOf st
def NI (κ:KeyKind) (L:List Keyed) (n:Nat):Prop:=((L.map (kk κ)).take n).Pairwise λa b=>κ.blt a b=false
theorem NI.snoc {L:List Keyed} {n:Nat} {x y:Keyed} (h1:1<=n) (h:NI κ L n) (hy:L[n-1]?=some y) (hx:L[n]?=some x) (l:κ.blt (kk κ y) (kk κ x)=false):NI κ L (n+1):=by
 have ey:(L.map (kk κ))[n-1]?=some (kk κ y):=by rw[F7,hy];rfl
 have ex:(L.map (kk κ))[n]?=some (kk κ x):=by rw[F7,hx];rfl
 unfold NI at h⊢;have e1:(L.map (kk κ)).take n=(L.map (kk κ)).take (n-1)++ [kk κ y]:=by
  have:=List.take_succ (l:=L.map (kk κ)) (i:=n-1);rw[show n-1+1=n by lia,ey] at this
  exact this
 have e2:(L.map (kk κ)).take (n+1)=(L.map (kk κ)).take n++ [kk κ x]:=by
  rw[List.take_succ,ex]
  rfl
 rw[e2,Gr];refine (h,by simp,λu hu v hv=>?_)
 simp at hv;rw[hv];rw[e1] at hu h;rcases FS.mp hu with k|k
 ·have q:=(Gr.mp h).2.2 u k (kk κ y) 82
  exact KeyOrd.kle_trans (O:=κ.toKeyOrd) l q
 ·simp at k;rw[k];exact l
theorem NI.falls {L:List Keyed} {n:Nat} (h:NI κ L n):(L.take n).Pairwise (λp q=>Lq κ q p):=by
 unfold NI at h;rw[<-List.map_take,HJ] at h;exact h
def AG (κ:KeyKind) (L:List Keyed) (n m:Nat):Prop:=∃(D1 D2 S:List Keyed) (a:κ.α),L=D1++(D2++S)/\D1.length+D2.length=n/\D2.length=m+1/\∀x∈D2,kk κ x=a
theorem wc {D:List Keyed} {a:κ.α} (h:∀x∈D,kk κ x=a):D.reverse.map (kk κ)=D.map (kk κ):=by
 have e1:D.map (kk κ)=List.replicate D.length a:=List.eq_replicate_iff.mpr ⟨by simp,λb hb=>by
  obtain ⟨x,hx,rfl⟩:=FN.mp hb;exact h x hx⟩
 have e2:D.reverse.map (kk κ)=List.replicate D.length a:=List.eq_replicate_iff.mpr ⟨by simp,λb hb=>by
  obtain ⟨x,hx,rfl⟩:=FN.mp hb;exact h x (HY.mp hx)⟩
 rw[e1,e2]
theorem lE {st:SortSt} {P L:List Keyed} {n m i j:Nat} {Q:Unit->SortSt->Prop} (e:(arrOf st).toList=P++L) (q:AG κ L n m) (ei:i=P.length+n-(m+1)) (ej:j=P.length+n)
  (h:∀st' L',Kp st st'->(arrOf st').toList=P++L'->L'.Perm L->L'.map (kk κ)=L.map (kk κ)->(∀k,n<=k->L'[k]?=L[k]?)->Q () st'):wpS 79 A E s (reverseSlice' i j) Q st:=by
 obtain ⟨D1,D2,S,a,rfl,l1,l2,al⟩:=q;refine wpS_reverse ?_;have er:(arrOf st).toList=(P++D1)++(D2++S):=by rw[e];simp
 have em:=jW er;have i1:i=(P++D1).length:=by rw[FP];lia
 have j1:j=(P++D1).length+D2.length:=by rw[FP];lia
 rw[i1,j1];refine h (setArr st (mirror (arrOf st) (P++D1).length ((P++D1).length+D2.length) (((P++D1).length+D2.length-(P++D1).length)/2))) (D1++(D2.reverse++S)) (rfl,rfl,rfl) ?_ ?_ ?_ λk hk=>?_
 ·rw[<-Gi];exact em
 ·exact List.Perm.append_left _ (List.Perm.append_right _ (List.reverse_perm _))
 ·simp only[G8];rw[wc al]
 ·rw[F9 72,F9 (by rw[Ge];lia),F9 72,F9 72,Ge]
theorem Kp.trans {a b c:SortSt} (h1:Kp a b) (h2:Kp b c):Kp a c:=(h2.kind.trans h1.kind,h2.failed.trans h1.failed,h2.pend.trans h1.pend)
theorem oK {L:List Keyed} {n:Nat} (h:n<L.length):AG κ L (n+1) 0:=by
 refine (L.take n,[L[n]],L.drop (n+1),kk κ L[n],?_,by rw[GA];simp;lia,rfl,λx hx=>by simp at hx;rw[hx])
 have:=List.drop_eq_getElem_cons h;rw[List.singleton_append,<-this,GS]
theorem AG.more {L:List Keyed} {n m:Nat} {x y:Keyed} (h:AG κ L n m) (hy:L[n-1]?=some y) (hx:L[n]?=some x) (e:kk κ x=kk κ y):AG κ L (n+1) (m+1):=by
 obtain ⟨D1,D2,S,a,rfl,l1,l2,al⟩:=h;have my:y∈D2:=by
  rw[F9 72,FU 72] at hy
  exact F5 hy
 rw[F9 72,F9 72] at hx
 have z:n-D1.length-D2.length=0:=by lia
 rw[z] at hx;cases S with
 |nil=>simp at hx
 |cons s S=>
  simp at hx;subst hx;refine (D1,D2++ [s],S,a,by simp,by simp;lia,by simp;lia,λu hu=>?_)
  rcases FS.mp hu with k|k
  ·exact al u k
  ·simp at k;rw[k,e];exact al y my
theorem yb {st st6:SortSt} {P L R:List Keyed} {n:Nat} {f:Unit->StateT SortSt Sem (Option Nat)} {Q:Option Nat->SortSt->Prop} (kp:Kp st st6) (e:(arrOf st6).toList=P++L) (pr:L.Perm R) (hn:n<=R.length) (ni:NI κ L n)
  (h:∀st7 M,Kp st st7->(arrOf st7).toList=P++M->M.Perm R->(M.take n).Pairwise (Lq κ)->wpS 79 A E s (f ()) Q st7):wpS 79 A E s (reverseSlice' P.length (P.length+n)>>=f) Q st6:=by
 have tl:(L.take n).length=n:=by rw[GA,pr.length_eq];lia
 have er:(arrOf st6).toList=P++(L.take n++L.drop n):=by rw[GS];exact e
 have em:=jW er;rw[tl] at em;refine wpS_bind (wpS_reverse (h _ ((L.take n).reverse++L.drop n) (kp.kind,kp.failed,kp.pend) em ?_ ?_))
 ·refine List.Perm.trans (List.Perm.append_right _ (List.reverse_perm _)) ?_;rw[GS];exact pr
 ·rw[List.take_left' (by rw[Ge,tl]),List.pairwise_reverse]
  exact ni.falls
theorem qm (hO:zy prog w A E s κ kd) {st:SortSt} {P R:List Keyed} {Q:Option Nat->SortSt->Prop} (hk:kindOf st=kd) (ka:∀x∈R,Kd κ x) (e:(arrOf st).toList=P++R) (hR:1<=R.length)
  (h:∀st' X S,Kp st st'->(arrOf st').toList=P++(X++S)->X.Pairwise (Lq κ)->(X++S).Perm R->1<=X.length->Q (some X.length) st'):wpS 79 A E s (countRun' P.length R.length) Q st:=by
 have got:∀n,1<=n->n<=R.length->(R.take n).Pairwise (Lq κ)->Q (some n) st:=λn h1 h2 h3=>by
  have q:=h st (R.take n) (R.drop n) (rfl,rfl,rfl) (by rw[GS];exact e) h3 (by rw[GS]) (by rw[GA];lia)
  rwa [GA,Nat.min_eq_left h2] at q
 unfold countRun';refine lC ?_;try dsimp only
 refine wpS_bind (uD (κ:=κ) (R:=R) rfl (F8 1) hR ?_ (λn x y i Q' h1 hx hy ht hf=>?_) λn h1 h2 h3 h4=>?_)
 ·cases R with
  |nil=>simp
  |cons=>simp
 ·refine wpS_bind (jf hO hk ka e hx hy rfl 72 ?_)
  cases c:κ.blt (kk κ x) (kk κ y) with
  |true=>exact wpS_pure (ht c)
  |false=>exact wpS_pure (hf c)
 try dsimp only
 by_cases c1:n=R.length
 ·rw[if_pos (beq_iff_eq.mpr c1)];exact wpS_pure (got n h1 h2 h3)
 rw[if_neg (λz=>c1 (beq_iff_eq.mp z))]
 rcases h4 with h4|⟨x,y,hx,hy,lt⟩
 ·exact absurd h4 c1
 have nl:n<R.length:=by lia
 have all:∀(i j:Nat) (u v:Keyed),i<=j->j<n->R[i]?=some u->R[j]?=some v->Lq κ u v:=λi j u v hij hj hu hv=>by
  rcases Nat.lt_or_ge i j with c|c
  ·obtain ⟨l1,g1⟩:=F4.mp hu;obtain ⟨l2,g2⟩:=F4.mp hv;have q:=Hi.mp h3 i j (by rw[GA];lia) (by rw[GA];lia) c
   rw[List.getElem_take,List.getElem_take,g1,g2] at q;exact q
  ·have:i=j:=by lia
   subst this;rw[hu] at hv;cases hv;exact KeyOrd.kle_refl _
 by_cases c2:n>1
 case' pos=>
  rw[if_pos c2];obtain ⟨x0,hx0⟩:∃x,R[0]?=some x:=⟨_,F0 72⟩
  refine wpS_bind (jf hO hk ka e hx0 hy rfl 72 ?_)
  try dsimp only
  cases rose:κ.blt (kk κ x0) (kk κ y) with
  |true=>exact wpS_pure (got n h1 h2 h3)
  |false=>?_
  try dsimp only
  rw[if_neg 73]
  have al:∀z∈R.take n,kk κ z=kk κ x0:=λz hz=>by
   obtain ⟨k,hk'⟩:=FR.mp hz;have kn:k<n:=by
    have:=(F4.mp hk').1;rw[GA] at this
    lia
   rw[Ho kn] at hk';have a1:=all 0 k x0 z 72 kn hx0 hk'
   have a2:=all k (n-1) z y 72 72 hk' hy
   exact KeyOrd.kle_antisymm (O:=κ.toKeyOrd) (KeyOrd.kle_trans (O:=κ.toKeyOrd) a2 rose) a1
  have eq0:AG κ R n (n-1):=([],R.take n,R.drop n,kk κ x0,by simp,by rw[GA];simp;lia,by rw[GA];lia,al)
  have ni0:NI κ R n:=by
   unfold NI;rw[<-List.map_take];refine HJ.mpr (List.Pairwise.imp_of_mem (R:=λ_ _=>True) (λ{u v} hu hv _=>?_) (List.pairwise_of_forall λ_ _=>trivial))
   rw[al u hu,al v hv];exact κ.irrefl _
  have ni1:NI κ R (n+1):=ni0.snoc h1 hy hx (KeyOrd.kle_of_klt lt);refine wpS_bind (lE (κ:=κ) e eq0 72 rfl λst1 L0 kp1 e1 p1 m1 _=>?_)
  have niL:NI κ L0 (n+1):=by
   unfold NI at ni1⊢;rw[m1];exact ni1
 case' neg=>
  rw[if_neg c2];have n1:n=1:=by lia
  have ni1:NI κ R (n+1):=by
   refine NI.snoc h1 ?_ hy hx (KeyOrd.kle_of_klt lt);rw[n1];unfold NI;cases R with
   |nil=>simp
   |cons=>simp
  have kp1:Kp st st:=(rfl,rfl,rfl);have e1:=e;have p1:=List.Perm.refl R;have niL:=ni1
 all_goals
  refine wpS_bind (ql ?_);have n2:2<=n+1:=by lia
  refine wpS_bind (wpS_mono (wpS_forRange (I:=λi c st'=>∃L m,c=(none,i,m)/\Kp st st'/\(arrOf st').toList=P++L/\L.Perm R/\NI κ L i/\AG κ L i m/\2<=i)
   (Q:=λc st'=>∃n' L m,c=(none,n',m)/\Kp st st'/\(arrOf st').toList=P++L/\L.Perm R/\NI κ L n'/\AG κ L n' m/\2<=n'/\n'<=R.length) ?ds ?de ⟨_,0,rfl,kp1,e1,p1,niL,?i0,n2⟩) ?dp)
  case i0=>
   exact oK (by rw[p1.length_eq];lia)
  case de=>
   rintro c st' ⟨L,m,rfl,kp,eL,pL,ni,eq,g1⟩;have:max (n+1) R.length=R.length:=by lia
   rw[this] at ni eq g1⊢;exact (_,L,m,rfl,kp,eL,pL,ni,eq,g1,F8 _)
  case ds=>
   rintro i c st' hi1 hi2 ⟨L,m,rfl,kp,eL,pL,ni,eq,g1⟩;have hi3:i<L.length:=by rw[pL.length_eq];exact hi2
   have ex:=F0 hi3;have ey:=F0 (show i-1<L.length by lia)
   have kL:∀x∈L,Kd κ x:=λx hx=>ka x (pL.mem_iff.mp hx)
   have hk':=kp.kind.trans hk;try dsimp only
   refine wpS_bind (jf hO hk' kL eL ex ey rfl 72 ?_)
   try dsimp only
   cases c:κ.blt (kk κ L[i]) (kk κ L[i-1]) with
   |true=>
    rw[if_pos rfl]
    by_cases hm:m>0
    ·rw[if_pos hm];refine wpS_bind (lE (κ:=κ) eL eq rfl rfl λst6 L6 kp6 e6 p6 m6 g6=>wpS_pure (L6,0,rfl,kp.trans kp6,e6,p6.trans pL,?_,oK (by rw[p6.length_eq];lia),by lia))
     have:=ni.snoc 72 ey ex (KeyOrd.kle_of_klt c)
     unfold NI at this⊢;rw[m6];exact this
    ·rw[if_neg hm];exact wpS_pure (L,0,rfl,kp,eL,pL,ni.snoc 72 ey ex (KeyOrd.kle_of_klt c),oK 72,by lia)
   |false=>
    rw[if_neg 73]
    refine wpS_bind (jf hO hk' kL eL ey ex 72 rfl ?_)
    try dsimp only
    cases c':κ.blt (kk κ L[i-1]) (kk κ L[i]) with
    |true=>exact wpS_pure ⟨i,L,m,rfl,kp,eL,pL,ni,eq,g1,by lia⟩
    |false=>exact wpS_pure ⟨L,m+1,rfl,kp,eL,pL,ni.snoc 72 ey ex c',eq.more ey ex (κ.total _ _ c c'),by lia⟩
  case dp=>
   rintro c st' ⟨n',L,m,rfl,kp,eL,pL,ni,eq,g1,g2⟩;try dsimp only
   by_cases hm:m>0
   case' pos=>
    rw[if_pos hm];refine wpS_bind (lE (κ:=κ) eL eq rfl rfl λst6 L6 kp6' e6 p6' m6 g6=>?_)
    have kp6:=kp.trans kp6';have p6:=p6'.trans pL;have ni6:NI κ L6 n':=by
     unfold NI at ni⊢;rw[m6];exact ni
   case' neg=>
    rw[if_neg hm];have kp6:=kp;have e6:=eL;have p6:=pL;have ni6:=ni
   all_goals
    refine yb (κ:=κ) kp6 e6 p6 g2 ni6 λst7 M kp7 e7 p7 s7=>?_
    have rl:=p7.length_eq;have kM:∀x∈M,Kd κ x:=λx hx=>ka x (p7.mem_iff.mp hx)
    refine wpS_bind (uD (κ:=κ) (R:=M) rl.symm 72 72 s7 (λm x y i Q' h1 hx hy ht hf=>?_) λm h1 h2 h3 _=>?_)
    ·try dsimp only
     refine wpS_bind (jf hO (kp7.kind.trans hk) kM e7 hx hy rfl 72 ?_)
     cases c:κ.blt (kk κ x) (kk κ y) with
     |true=>exact wpS_pure (ht c)
     |false=>exact wpS_pure (hf c)
    ·have q:=h st7 (M.take m) (M.drop m) kp7 (by rw[GS];exact e7) h3 (by rw[GS];exact p7) (by rw[GA];lia)
     rw[GA,Nat.min_eq_left h2] at q;exact wpS_pure q
end
theorem qo {arr:Array Keyed} {B V W:List Keyed} {x:Keyed} (e:arr.toList=B++(V++x::W)):(bubble arr (B.length+V.length) V.length).toList=B++(x::(V++W)):=by
 have sz:arr.size=B.length+(V.length+(W.length+1)):=by
  have:=congrArg List.length e
  simpa using this
 apply Gw;intro k;have q:=getElem?_bubble (xs:=arr) (src:=B.length+V.length) 72 V.length 72 k
 rw[Nat.add_sub_cancel] at q;have ga:∀i,arr[i]?=(B++(V++x::W))[i]?:=λi=>by rw[<-e,GG]
 rw[GG,q,ga,ga,ga]
 by_cases c1:k=B.length
 ·rw[if_pos c1];subst c1;simp
 rw[if_neg c1]
 by_cases c2:B.length<k/\k<=B.length+V.length
 ·rw[if_pos c2,F9 72,FU 72,F9 72]
  have:k-B.length=(k-1-B.length)+1:=by lia
  rw[this,List.getElem?_cons_succ,FU 72]
 rw[if_neg c2]
 by_cases c3:k<B.length
 ·rw[FU c3,FU c3]
 ·rw[F9 72,F9 72,F9 72]
  have e1:k-B.length-V.length=(k-B.length-V.length-1)+1:=by lia
  have e2:k-B.length=(k-B.length-1)+1:=by lia
  rw[e1,List.getElem?_cons_succ,e2,List.getElem?_cons_succ,F9 72]
  congr 1
  lia
section
variable {prog:Program} {w:World} {A:Around} {E:II} {s:Shared} {κ:KeyKind} {kd:SortKind}
theorem we (hO:zy prog w A E s κ kd) {st:SortSt} {P D S:List Keyed} {ok n:Nat} {Q:Bool->SortSt->Prop} (hn:n=D.length) (hk:kindOf st=kd) (ka:∀x∈D,Kd κ x) (e:(arrOf st).toList=P++(D++S)) (h1:1<=ok) (h2:ok<=D.length) (hs:(D.take ok).Pairwise (Lq κ))
  (h:∀st' X,Kp st st'->(arrOf st').toList=P++(X++S)->X.Pairwise (Lq κ)->X.Perm D->Q true st'):wpS 79 A E s (binarySort' P.length n ok) Q st:=by
 subst hn;unfold binarySort';refine lC ?_;try dsimp only
 have mx:max ok 1=ok:=by lia
 rw[mx];refine wpS_bind (wpS_mono (wpS_forRange (I:=λk c st'=>c=(none,())/\Kp st st'/\∃X,(arrOf st').toList=P++(X++S)/\X.Perm D/\(X.take k).Pairwise (Lq κ))
  (Q:=λc st'=>c=(none,())/\Kp st st'/\∃X,(arrOf st').toList=P++(X++S)/\X.Perm D/\X.Pairwise (Lq κ)) ?s1 ?e1 ⟨rfl,⟨rfl,rfl,rfl⟩,D,e,List.Perm.refl _,hs⟩) ?p1)
 case e1=>
  rintro c st' ⟨rfl,kp,X,eX,pX,sX⟩;rw[Nat.max_eq_right h2,Hc (by rw[pX.length_eq];exact F8 _)] at sX
  exact (rfl,kp,X,eX,pX,sX)
 case p1=>
  rintro c st' ⟨rfl,kp,X,eX,pX,sX⟩;exact wpS_pure (h st' X kp eX sX pX)
 case s1=>
  rintro k c st' hk1 hk2 ⟨rfl,kp,X,eX,pX,sX⟩;have xl:=pX.length_eq;have kaX:∀x∈X++S,x∈X->Kd κ x:=λx _ hx=>ka x (pX.mem_iff.mp hx)
  have hkx:k<X.length:=by lia
  have ex:=F0 hkx;generalize X[k]=x at ex;have eX':(arrOf st').toList=P++X++S:=by rw[eX,Gi]
  have lt:∀{i:Nat} {y:Keyed} {Q':Option Bool->SortSt->Prop},X[i]?=some y->Q' (some (κ.blt (kk κ x) (kk κ y))) st'->wpS 79 A E s (ltAt' (P.length+k) (P.length+i)) Q' st':=λ{i y Q'} hy hq=>by
   have il:=(F4.mp hy).1;rw[ltAt'_eq];sleep 31;exact wpS_bind (je (z6 eX (by rw[FU hkx];exact ex)) (wpS_bind (je (z6 eX (by rw[FU il];exact hy)) (ya hO (kp.kind.trans hk) (ka x (pX.mem_iff.mp (F5 ex))) (ka y (pX.mem_iff.mp (F5 hy))) hq))))
  have mono:∀{i j:Nat} {u v:Keyed},i<=j->j<k->X[i]?=some u->X[j]?=some v->Lq κ u v:=λ{i j u v} hij hj hu hv=>by
   rcases Nat.lt_or_ge i j with c|c
   ·obtain ⟨l1,g1⟩:=F4.mp hu;obtain ⟨l2,g2⟩:=F4.mp hv;have q:=Hi.mp sX i j (by rw[GA];lia) (by rw[GA];lia) c
    rw[List.getElem_take,List.getElem_take,g1,g2] at q;exact q
   ·have:i=j:=by lia
    subst this;rw[hu] at hv;cases hv;exact KeyOrd.kle_refl _
  try dsimp only
  refine wpS_bind (wpS_mono (wpS_forRange (I:=λi c st''=>st''=st'/\∃l r,c=(none,l,r)/\l<=r/\r<=k/\(∀j u,j<l->X[j]?=some u->Lq κ u x)/\(∀j u,r<=j->j<k->X[j]?=some u->Lq κ x u)/\r-l+i<=k)
   (Q:=λc st''=>st''=st'/\∃l,c=(none,l,l)/\l<=k/\(∀j u,j<l->X[j]?=some u->Lq κ u x)/\(∀j u,l<=j->j<k->X[j]?=some u->Lq κ x u)) ?s2 ?e2 ⟨rfl,0,k,rfl,by lia,by lia,λj u z=>absurd z 72,λj u z z'=>absurd z' 72,by lia⟩) ?p2)
  case e2=>
   rintro c st'' ⟨rfl,l,r,rfl,a1,a2,a3,a4,a5⟩;have:l=r:=by lia
   subst this;exact (rfl,l,rfl,a2,a3,a4)
  case s2=>
   rintro i c st'' _ hi ⟨rfl,l,r,rfl,a1,a2,a3,a4,a5⟩;try dsimp only
   by_cases c:l≥r
   ·rw[if_pos c];have:l=r:=by lia
    subst this;exact wpS_pure (rfl,l,rfl,a2,a3,a4)
   ·rw[if_neg c];have ml:(l+r)/2<X.length:=by lia
    have em:=F0 ml;refine wpS_bind (lt em ?_);try dsimp only
    cases cc:κ.blt (kk κ x) (kk κ X[(l+r)/2]) with
    |true=>exact wpS_pure ⟨rfl,_,_,rfl,by lia,by lia,a3,λj u hj hj2 hu=>KeyOrd.kle_trans (KeyOrd.kle_of_klt cc) (mono hj hj2 em hu),by lia⟩
    |false=>exact wpS_pure ⟨rfl,_,_,rfl,by lia,by lia,λj u hj hu=>KeyOrd.kle_trans (mono (show j<=(l+r)/2 by lia) 72 hu em) cc,a4,by lia⟩
  case p2=>
   rintro c st'' ⟨rfl,l,rfl,a2,a3,a4⟩;try dsimp only
   have eX2:X=X.take l++((X.take k).drop l++x::X.drop 224):=by
    obtain ⟨l1,g1⟩:=F4.mp ex;have d1:X.drop k=x::X.drop (k+1):=by rw[List.drop_eq_getElem_cons l1,g1]
    have t1:X.take k=X.take l++(X.take k).drop l:=by
     have q:=(GS l (X.take k)).symm;rw[List.take_take,Nat.min_eq_left a2] at q;exact q
    rw[<-d1,<-Gi,<-t1,GS]
   have lv:((X.take k).drop l).length=k-l:=by rw[HA,GA];lia
   have lu:(X.take l).length=l:=by rw[GA];lia
   have mU:∀u∈X.take l,Lq κ u x:=λu hu=>by
    obtain ⟨j,hj⟩:=FR.mp hu;have jl:=(F4.mp hj).1;rw[lu] at jl;rw[Ho jl] at hj;exact a3 j u jl hj
   have mV:∀u∈(X.take k).drop l,Lq κ x u:=λu hu=>by
    obtain ⟨j,hj⟩:=FR.mp hu;have jl:=(F4.mp hj).1;rw[lv] at jl;rw[List.getElem?_drop,Ho 72] at hj
    exact a4 (l+j) u 72 72 hj
   have sUV:(X.take l++(X.take k).drop l).Pairwise (Lq κ):=by
    have q:=(GS l (X.take k)).symm;rw[List.take_take,Nat.min_eq_left a2] at q;rw[<-q];exact sX
   generalize X.take l=U at*;generalize (X.take k).drop l=V at*;generalize X.drop 224=W at*;subst eX2;have eb:(arrOf st'').toList=(P++U)++(V++x::(W++S)):=by rw[eX];simp
   have bl:=qo eb;have l1:(P++U).length+V.length=P.length+k:=by rw[FP];lia
   rw[l1] at bl;have l2:P.length+k-(P.length+l)=V.length:=by lia
   have sp:=Gr.mp sUV;refine wpS_bind ?_;show wpS _ _ _ _ (moveDown' (P.length+k) (P.length+l)) _ _;rw[moveDown'_eq];refine wpS_modify (wpS_pure (rfl,(kp.kind,kp.failed,kp.pend),U++(x::(V++W)),?_,?_,?_))
   ·show (bubble (arrOf st'') (P.length+k) (P.length+k-(P.length+l))).toList=_;rw[l2,bl];simp
   ·refine List.Perm.trans (List.Perm.append_left _ ?_) pX;exact (List.perm_middle).symm
   ·have t:U++(x::(V++W))=(U++x::V)++W:=by simp
    rw[t,List.take_left' (by simp;lia),Gr,Ha]
    refine (sp.1,(mV,sp.2.1),λu hu v hv=>?_)
    rcases FW.mp hv with c|c
    ·rw[c];exact mU u hu
    ·exact sp.2.2 u hu v c
end
section
variable {prog:Program} {w:World} {A:Around} {E:II} {s:Shared} {κ:KeyKind}
theorem zy.of_one (hO:κ.OneLt):zy prog w A E s κ oneType':=by
 intro st x y Q hk hx hy h;obtain ⟨a,ha⟩:=hx;obtain ⟨b,hb⟩:=hy;have e1:kk κ x=a:=by unfold kk;rw[ha];rfl
 have e2:kk κ y=b:=by unfold kk;rw[hb];rfl
 rw[e1,e2] at h;rw[lt'_eq];sleep 31;rw[hk,keyLt'_oneType];refine wpS_bind (wpS_lift (wpAny_attempt (hO prog w A _ s x.1 y.1 a b ha hb (rfl,?_))));exact wpS_pure h
end
end So
namespace Sw
open PySem L2 XH PySem.NumText
noncomputable def sL (z:Str):List Nat:=z.cps.toList
noncomputable def EN (l:List Nat):Str:=⟨l.toArray⟩
theorem oM (z:Str):(sL z).length=z.length:=by simp[sL,Str.length]
theorem lH (x y:Str):sL (x++y)=sL x++sL y:=by
 show (x.cps++y.cps).toList=_;rw[Array.toList_append]
 rfl
theorem C8:Str.empty=EN []:=rfl
theorem Bl (z:Str) (c:Nat):(!(Builtin.Str.occurrences z (EN [c]) 0 z.length 1).isEmpty)=decide (c∈sL z):=StrLaws.found_one z c
theorem FD {b:Bool} {A B:Prop} (h1:b=false->A) (h2:b=true->B):if (!b)=true then A else B:=by
 cases b with
 |false=>exact gC (h1 rfl)
 |true=>exact ja (h2 rfl)
end Sw
namespace L2
open PySem PySem.Spec PyProof.Rows XH
def lJ (js:List Nat) (tc:TT) (te:TE) (σ:St) (Q:VK):It->Hp->Prop:=λJ H1=>∀p,H1 p=none->∃W:Nat->Nat->List V->Hp->Prop,(∃m,W 0 m [] (aI H1 p 85))/\
 ∀i m ys H2,W i m ys H2->H2 p=some 184/\((J.stop i H2/\Q 120 H2)∨(J.go i H2/\ys.length<sizeLine/\∀x H3,J.yld i H2 x H3->tc (some x::bn js σ) H3 λb H4=>
  if b=true then te (some x::bn js σ) H4 λy H5=>H5 p=some 184/\∃m',m'<m/\W 176 m' (ys++ [y]) (aI H5 p (.lst (ys++ [y]))) else ∃m',m'<m/\W 176 m' ys H4))
def oN (wi:TI) (js:List Nat) (tc:TT) (te:TE):TE:=λσ H Q=>wi σ H (lJ js tc te σ Q)
section
variable {prog:Program} {w:World} {A:Around} {R:Result->Shared->Prop} {s:Shared}
theorem qp {elt target iter cond:Expr} {scope:Scope} {pos:Pos} {it acc:Value} {env:Env} (I:Nat->Shared->Prop)
  (turn:∀n s,I n s->wpAny 79 A (pyNext it) (λr s1=>match r with
   |none=>R (.ok .next) s1
   |some v=>wpAny 79 A (letOwnedTupleGo target it v) (λ_ s2=>wpAny 79 A (assign target env v) (λ_ s3=>wpAny 79 A (isTrue cond env (eval cond env)) (λok s4=>
     if ok=true then wpAny 79 A (eval elt env) (λx s5=>wpAny 79 A (call (.builtin "list.append") [acc,x]) (λ_ s6=>∃m,m<n/\I m s6) 145 s5) 145 s4
     else ∃m,m<n/\I m s4) 145 s3) 145 s2) 145 s1) 145 s)
  (n:Nat) (h:I n s):codeAny 79 A (.compLoop (.ListComp elt [⟨target,iter,[cond],0⟩] scope pos) 0 it acc env) R s:=by
 apply codeAny_loop rfl I ?_ n h;intro n s hI;show wpAny _ _ ((compTurn (.ListComp elt [⟨target,iter,[cond],0⟩] scope pos) 0 it acc env).onRaise _) _ _ s;apply wpAny_noted;rw[compTurn_list];sleep 22;apply wpAny_standAt;sleep 22;refine wpAny_mono (turn n s hI) (λr s1 h1=>?_) λ_ _ z=>z.elim
 cases r with
 |none=>exact wpAny_pure h1
 |some v=>
  sleep 22;refine wpAny_mono h1 (λ_ s2 h2=>?_) λ_ _ z=>z.elim
  sleep 22;refine wpAny_mono h2 (λ_ s3 h3=>?_) λ_ _ z=>z.elim
  sleep 22;refine wpAny_mono (wpAny_tests_one h3) (λok s4 h4=>?_) λ_ _ z=>z.elim
  cases ok with
  |true=>
   sleep 22;sleep 22;refine wpAny_mono h4 (λx s5 h5=>?_) λ_ _ z=>z.elim
   sleep 22;refine wpAny_mono h5 (λ_ s6 h6=>?_) λ_ _ z=>z.elim
   exact wpAny_pure (wpAny_pure (rfl,h6))
  |false=>
   have h4':∃m,m<n/\I m s4:=h4;exact wpAny_pure (rfl,h4')
end
section
variable {X:Cx} {scope:Scope} {cl:List (Str×Addr)} {own:Str} {ys:IM} {js:List Nat} {elt iter cond:Expr} {px pos:Pos} {wi:TI} {te:TE} {tc:TT}
theorem jX (hc:X.calm=true) (ok:fH X scope cl own ys js) (hi:PI X 229 iter wi)
  (hq:∀(C:Addr) (fp:IN) (s:Shared) (H:Hp),PT 96 cond tc)
  (he:∀(C:Addr) (fp:IN) (s:Shared) (H:Hp),PE 96 elt te)
  (hs:∀x,foldedSetIterable iter X.env x=pure x)
  {pins:IK} {s:Shared} {σ:St} {H:Hp} {Q:VK} {use:Option (Value->Sem Unit)} {QQ:II} {pp:Pos} (I:aR X pins σ H s) (h:(oN wi js tc te) σ H Q)
  (fin:∀(p C:Addr) (s6:Shared) (H5:Hp) (v:Flow),(∃m,s6.heap.Ns C m)->142->dQ X pins H5 C->Q 120 H5->compPost 93 X.A X.xe use QQ 120 C (.ok v) s6):
  wpAny 93 X.A (comprehension 132 scope X.env pp (newList []) false (eval iter X.env) use) QQ X.xe s:=by
 have ncell:∀y∈scope.names,y.2≠ .cell:=λy hy z=>by
  have q:=GC.mp ok.nocell y hy;rw[z] at q;simp at q
 have nloc:∀y∈scope.names,y.2= .local->scope.names.lookup y.1=some .local:=λy hy z=>by
  have q:=GC.mp ok.loc y hy;rw[z] at q
  simpa using q
 sleep 15
 sleep 2
 have I3:=I2.laid (a:=94) (o:= .lst []) (h':=s2.heap.push 134) (t':=s2.toks) (λb u q=>76 _ q) 160
  ⟨G4 _,[],0,.nil,87 _ rfl⟩
 have fpo:∀b∈fp,b<s2.heap.objs.size:=λb hb=>by
  obtain ⟨o,e,_⟩:=T.obj 0 _ st2 b hb;exact 106 e
 sleep 10
 sleep 9
 sleep 16
 sleep 20
 sleep 6
 have J0:=gP (h1:=h1) ok I3 f3 lt3 hns hk (s2.toks+0);sleep 19
 have fpB:∀{H':Hp},(∀b∈fp,H' b=none)->∀b∈fp,dQ 75 [] H' b:=λ{H'} hn b hb=>
  ⟨hn b hb,FV (lt3 b hb),λz=>(FW.mp (I3.stkSub b z)).elim (f3 b hb).2.1 (f3 b hb).2.2.1,.inl hb,λx c e=>(f3 b hb).2.2.2.2.1 x c (ok.sub (x,c) (GU e)),λp hp=>absurd (show p∈([]:IK) from hp) 82⟩
 have loop:codeAny 93 X.A (.compLoop 132 0 219 227 (compEnvC scope cl s3.heap.objs.size X.env))
   (compPost 93 X.A X.xe use QQ 227 s3.heap.objs.size) {s3 with heap:=h1,toks:=s2.toks+0}:=by
  refine qp (λn s'=>∃i zs o0 H',aR 75 [] (o0::bn js σ) H' s'/\tn i s'.heap/\(∀b∈fp,H' b=none)/\W i n zs H') ?_ m0
   ⟨0,[],none,_,J0,t0,λb hb=>(f3 b hb).1,w0⟩
  rintro n s5 ⟨i,zs,o0,H5,I5,t5,n5,w5⟩;obtain ⟨hD,hw⟩:=turn i n zs H5 w5;rcases hw with ⟨stop,qn⟩|⟨go,hz,step⟩
  ·refine bW (T.done 75 rfl rfl rfl hc i [] s5 _ H5 145 I5 (fpB n5) t5 stop) λr s6 (hr,I6)=>?_
   subst hr;obtain ⟨m,hn,_⟩:=id I6.loc;exact fin _ _ s6 H5 _ (m,hn) (λh' hs'=>jC I3 f3 I6 hs') (I3.fpOk 160 (show H5 s3.heap.objs.size=none from I6.free)) qn
  ·refine bW (T.item 75 rfl rfl rfl hc i [] s5 _ H5 145 I5 (fpB n5) t5 go) λr s6 (u,hr,h6)=>?_
   subst hr;refine bW h6 λ_ s7 (x,H7,I7,r7,y7,t7,n7)=>?_
   have I7':=I7.pinned (fpB n7) (T.obj _ _ t7);have hst:=step x H7 y7;have own':(relabel scope X.env).names.lookup own=some .local:=lookup_relabel_local ok.ownL;refine bW (dH (X:=X.block scope cl s3.heap.objs.size (own::ys) own fp s3 (aI H2 94 85)) (i:=0) (x:=own) (pos:=px) ok.nd rfl (.inl own') (.inr own') _ s7 _ H7 x u (λσ' H'=>σ'=some x::bn js σ/\H'=H7) I7' r7 199) λ_ s8 (σ8,H8,I8,e8,eH8)=>?_
   subst e8 eH8;refine bW (hq _ _ _ _ _ s8 _ H8 _ I8 hst) λok s9 (H9,I9,h9)=>?_
   have frame:∀{s':Shared} {H':Hp},aR 75 ([]++kQ fp s7.heap) (some x::bn js σ) H' s'->tn 176 s'.heap/\∀b∈fp,H' b=none:=λ{s' H'} I'=>
    ⟨T.keep _ _ _ t7 λb hb o e=>(I'.pin (b,o) 183).1,λb hb=>by
     obtain ⟨o,e,d⟩:=T.obj _ _ t7 b hb;exact (I'.pin (b,o) 183).2.1⟩
   cases ok with
   |true=>
    refine bW (he _ _ _ _ _ s9 _ H9 _ I9 h9) λyv s10 (y,H10,I10,r10,hD10,m',hm,w10)=>?_
    refine bW (bB _ s10 _ H10 227 [y] 227 [yv] (λ_ H'=>H'=aI H10 94 (.lst (zs++ [y]))) I10 rfl (.cons r10 .nil) (_,zs,y,rfl,rfl,hD10,hz,rfl)) λ_ s11 (_,H11,I11,_,e11)=>?_
    subst e11;exact (m',hm,i+1,zs++ [y],some x,_,I11.unpinned,(frame I11).1,(frame I11).2,w10)
   |false=>
    obtain ⟨m',hm,w10⟩:=h9;exact (m',hm,i+1,zs,some x,_,I9.unpinned,(frame I9).1,(frame I9).2,w10)
 subst hs3;exact codeAny_compStart_list loop (T.self _ 0 _ _ _ t0 loop)
theorem wg (hc:X.calm=true) (ok:fH X scope cl own ys js) (hi:PI X 229 iter wi)
  (hq:∀(C:Addr) (fp:IN) (s:Shared) (H:Hp),PT 96 cond tc)
  (he:∀(C:Addr) (fp:IN) (s:Shared) (H:Hp),PE 96 elt te)
  (hs:∀x,foldedSetIterable iter X.env x=pure x:=by intro _;rfl):PE X 132 (oN wi js tc te):=λpins s σ H Q I h=>by
 rw[eval_ListComp];exact jX hc ok hi hq he hs I h λp C s6 H5 v (m,hn) J _ q=>(m,hn,λh' hs'=>(.ref p,H5,J h' hs',rfl,q))
end
theorem z7:typeLookup (.type "list_reverseiterator") "__len__" =pure none:=by
 rw[typeLookup_type,builtinLookup_eq_fast]
 kernel_rfl
theorem yc:typeLookup (.type "list_reverseiterator") "__length_hint__" =pure (some (.builtin "list_reverseiterator.__length_hint__")):=by
 rw[typeLookup_type,builtinLookup_eq_fast]
 kernel_rfl
section
variable {prog:Program} {w:World} {A:Around} {R:Result->Shared->Prop} {s:Shared} {I l S:Addr} {items:Array Value}
abbrev Bm (items:Array Value):Nat->Value->Prop:=λi v=>items[items.size-1-i]?=some v
theorem sK (hh:A.in1.handled=none) (hlI:l≠I) (hSI:S≠I) (hSl:S≠l) (res:Value) (c:Nat) (hit:s.heap.IsRevIter I l ((items.size:Int)-1)) (hl:s.heap.IsList l items)
  (hS:s.heap.get? S=some {cls:= .type "list",data:= .seq #[] c}) (hn:items.size<=sizeLine)
  (fin:∀s' acc c',Moved [S,I] (λa b=>b=a) s s'->s'.heap.get? S=some {cls:= .type "list",dict:=none,data:= .seq acc c',slots:= #[]}->ItemsOf (Bm items) acc items.size->R (.ok (.ret res)) s'):
  wpAny 79 A.in1 (Builtin.List.listExtendWith (.ref S) 215 res)
   (λfin s'=>match fin with| .done f=>R (.ok f) s'| .again c'=>c'.quiet=true/\codeAny (model prog w) A c' R s') (λe s'=>R (.error e) s') s:=by
 have ty:s.TypeIs 215 "list_reverseiterator" :=hit.typeIs;have ns:Builtin.List.listSameRef (.ref S) 215=false:=by
  simp[Builtin.List.listSameRef,hSI]
 unfold Builtin.List.listExtendWith;sleep 22;apply wpAny_typeOf ty;rw[if_neg (by rw[ns];decide)]
 sleep 22;apply wpAny_pyIter_revIter hit;sleep 22;apply wpAny_holding;unfold Builtin.List.listLengthHint;sleep 22;apply wpAny_specialOf ty z7;show wpAny _ _ (specialOf (Value.ref I) (Str.ofString "__length_hint__")>>=_) _ _ s;sleep 22;apply wpAny_specialOf ty yc;generalize hid:("list_reverseiterator.__length_hint__" :String)=id0
 wp_delta
 rw[show splitId id0=some ("list_reverseiterator","__length_hint__") from by subst hid;decide+kernel]
 subst hid;sleep 22;refine wpAny_isInstance (b:=true) ty (by rw[isSubtype_type];kernel_rfl) ?_
 apply wpAny_pure;rw[if_neg 73]
 have W:=(Walks.listRev (prog:=prog) (w:=w) hh I l hlI items).toS;have out:S∉ [I,l]:=by
  simp only[FW,Gq,or_false,not_or];exact (hSI,hSl)
 have st:(0:Nat)<=items.size/\s.heap.IsRevIter I l ((items.size:Int)-1-((0:Nat):Int))/\s.heap.IsList l items:=(G4 _,by simpa using hit,hl)
 apply wpAny_pure;exists plainId_quiet PySem.F.plain_extend_loop _;exact codeAny_extend_loopS W hn S out res items.size 0 s #[] c rfl (G4 _) st hS (ItemsOf.nil _) fin
theorem yd {E:II} {Q:II} (hh:A.handled=none) (hlI:l≠I) (hit:s.heap.IsRevIter I l ((items.size:Int)-1)) (hl:s.heap.IsList l items) (hn:items.size<=sizeLine)
  (fin:∀h' tk acc c',(∀b o,b≠I->s.heap.get? b=some o->h'.get? b=some o)->h'.get? 74=some {cls:= .type "list",dict:=none,data:= .seq acc c',slots:= #[]}->ItemsOf (Bm items) acc items.size->Q 161 152):
  wpAny 79 A (call (.type "list") [.ref I]) Q E s:=by
 have lI:I<s.heap.objs.size:=by
  obtain ⟨o,e,_⟩:=hit;exact 106 e
 have ll:l<s.heap.objs.size:=by
  obtain ⟨o,e,_⟩:=hl;exact 106 e
 refine callType_codes (Q₁:=λv s1=>v= .ref s.heap.objs.size/\s1={s with heap:=108 {cls:= .type "list",data:= .seq #[]}}) PySem.F.called_list (PySem.F.typeCall_list_1 _) PySem.F.entry_list_init (code_list_new _ ⟨rfl,rfl⟩) ?_
 rintro v s1 ⟨rfl,rfl⟩;have e0:(108 {cls:= .type "list",data:= .seq #[]}).get? 74=some {cls:= .type "list",data:= .seq #[]}:=87 _ rfl;exists (_,e0,rfl),PySem.F.args_list_init_2 _ _;show wpAny _ _ (Builtin.List.listItems 161>>=λold=>Builtin.List.listUpdate 161 (λ_=> #[])>>=λ_=>letGo old.toList.reverse>>=λ_=>Builtin.List.listExtendWith 161 215 .none) _ _ _
 sleep 22;unfold Builtin.List.listItems;sleep 22;apply wpAny_seqItems e0 rfl;apply wpAny_pure;show wpAny _ _ (updateSeq 74 (λ_=> #[])>>=λ_=>letGo (#[]:Array Value).toList.reverse>>=λ_=>Builtin.List.listExtendWith 161 215 .none) _ _ _
 sleep 22;apply wpAny_updateSeq e0 rfl;have e1:=Heap.get?_update_self (Obj.mapSeq (λ_=>(#[]:Array Value))) e0 rfl
 have old:∀b o,b≠s.heap.objs.size->s.heap.get? b=some o->((108 {cls:= .type "list",data:= .seq #[]}).update 74 (Obj.mapSeq (λ_=>(#[]:Array Value)))).get? b=some o:=λb o hb e=>
  (Heap.get?_update_other _ _ (Ne.symm hb)).trans (76 _ e)
 sleep 22;apply wpAny_letGo;refine sK (A:=A.in1) (by simpa using hh) hlI (HC lI) (HC ll) .none _ ?_ ?_ e1 hn λs' acc c' mv eS it=>?_
 ·obtain ⟨o,e,z⟩:=hit;exact (o,old _ _ (FV lI) e,z)
 ·obtain ⟨o,e,z⟩:=hl;exact (o,old _ _ (FV ll) e,z)
 ·obtain ⟨h',g',d',tk',os'⟩:=s';have eg:g'=s.gens:=mv.gens;have ed:d'=s.drawn:=mv.drawn;have eo:os'=s.os:=mv.os;subst eg ed eo;refine (rfl,fin h' tk' acc c' (λb o hb e=>?_) eS it)
  refine mv.heap b o ?_ (old b o (FV (106 e)) e);simp only[FW,Gq,or_false,not_or];exact (FV (106 e),hb)
end
theorem lK:∀{xs:List V} {us:IP},bG xs us->bG xs.reverse us.reverse
 |_,_,.nil=> .nil
 |_,_,.cons r t=>by
  rw[List.reverse_cons,List.reverse_cons];exact (lK t).append (.cons r .nil)
theorem wj {us:IP} {acc:Array Value} (h:ItemsOf (Bm us.toArray) acc us.toArray.size):acc.toList=us.reverse:=by
 obtain ⟨h1,h2⟩:=h;refine Gw λi=>?_
 by_cases hi:i<acc.size
 ·have e:=h2 i acc[i] (Ga hi);rw[GG,Ga hi,List.getElem?_reverse (by simpa [h1] using hi)]
  simpa using e.symm
 ·rw[GT (by simpa using hi),GT (by rw[Ge];simp[h1] at hi;lia)]
def C9 (K:F6) (te:TE):TE:=λσ H Q=>te σ H λx H1=>∃a xs,x= .ref a/\aE K H1 a xs/\∀l,H1 l=none->Q 187 (aI H1 l (.lst xs.reverse))
section
variable {X:Cx} {e:Expr} {te:TE} {p1 p2 pos pos2:Pos}
theorem gF (hc:X.calm=true) (g1:Gl X "list") (m1:X.mg "list" =none) (g2:Gl X "reversed") (m2:X.mg "reversed" =none) (b1:bootBuiltins "list" =some (.type "list")) (b2:bootBuiltins "reversed" =some (.type "reversed")) (he:PE X e te)
  (hs:starEach [e] X.env= [202]:=by rfl):
  PE X (.Call (.Name "list" p1) [.Call (.Name "reversed" p2) [e] [] pos2] [] pos) (C9 X.K te):=by
 sleep 12
 refine GO ?_ rfl rfl;refine Calls.spliced_cons (x:=eval (.Call (.Name "reversed" p2) [e] [] pos2) X.env) (rest:= []) ?_;apply wpAny_Call_Name_kw;refine dA I g2 m2 b2 ?_ 73 73
 refine GO ?_ hs rfl;rw[hs];refine Calls.spliced_cons (x:=eval e X.env) (rest:= []) (bW (he pins s σ H _ I h) λv s1 (x,H1,I1,r1,a,xs,ex,hq,q)=>?_)
 subst ex;cases r1;apply Calls.spliced_nil;obtain ⟨its,rv,pl,hz⟩:=I1.list hq;have hli:s1.heap.IsList a its.toArray:=pl.isList;have alt:a<s1.heap.objs.size:=by
  obtain ⟨o,eo,_⟩:=id hli;exact 106 eo
 apply call_reversed_list hli;apply Calls.spliced_nil;have I2:aR X pins σ H1 {s1 with heap:=s1.heap.push (revObj a ((its.toArray.size:Int)-1)),toks:=s1.toks}:=I1.kept λb o e=>76 _ e
 have sz:its.toArray.size=xs.length:=by rw[G6,rv.length]
 refine yd (l:=a) (items:=its.toArray) 191 (FV alt) 218 (hli.push _) (by rw[sz];exact hz) λh' tk acc c' kp eL itm=>?_
 have er:=wj itm;have sl:s1.heap.objs.size<=(s1.heap.push (revObj a ((its.toArray.size:Int)-1))).objs.size:=by
  rw[Heap.size_push];exact He _
 refine (.ref _,_,I1.laid (a:=(s1.heap.push (revObj a ((its.toArray.size:Int)-1))).objs.size) (o:= .lst xs.reverse) (h':=h') (t':=tk) (λb o eo=>kp b o (FV (106 eo)) (76 _ eo)) sl ?_,rfl,q _ (I1.hok.fresh sl))
 exists by rw[Ge];exact hz,acc.toList,c',by rw[er];exact lK rv
 rw[Array.toArray_toList];exact eL
end
noncomputable def upTo (ks:Nat->Key) (i:Nat):Key->Bool:=λk=>(G0 i).any λj=>decide (ks j=k)
theorem wm (ks:Nat->Key) (i:Nat):(λk=>upTo ks i k||decide (k=ks i))=upTo ks (i+1):=by
 funext k
 unfold upTo;rw[List.range_succ,List.any_append];simp[eq_comm]
section
variable {prog:Program} {w:World} {A:Around} {R:Result->Shared->Prop} {I:Addr} {fp wr:IN} {G:Array GenState->Array GenState->Prop} {n:Nat} {P:Nat->Value->Prop} {St:Nat->Shared->Prop}
theorem ye (W:WalksS prog w A.in1 I fp wr G n P St) (S:Addr) (out:S∉fp) (ks:Nat->Key) (hv:∀i v,P i v->(aO prog w).is (ks i) v=true/\v.scannable=true)
  (inj:∀i,i<n->upTo ks i (ks i)=false) (hb:n+1<scanBound):∀(m i:Nat) (s:Shared),n-i=m->i<=n->St i s->s.heap.SetOf (aO prog w) S (upTo ks i) i->
   (∀s',Moved (S::wr) G s s'->s'.heap.SetOf (aO prog w) S (upTo ks n) n->R (.ok (.ret .none)) s')->codeAny 79 A (.builtin "set.update.loop" ⟨[.ref S,.ref I],[]⟩) R s:=by
 have nw:S∉wr:=λh=>out (W.sub _ h)
 have up:∀b∈wr,b∈S::wr:=λb hb=> .tail _ hb
 have stay:∀{s1 s2:Shared} {f:Key->Bool} {c:Nat},s1.heap.SetOf (aO prog w) S f c->Moved wr G s1 s2->s2.heap.SetOf (aO prog w) S f c:=by
  rintro s1 s2 f c ⟨o,es,ep,t,ho,z⟩ mv;exact (o,es,ep,t,mv.heap S _ nw ho,z)
 intro m
 induction m with
 |zero=>
  intro i s hm hi st hS fin;have e:i=n:=by lia
  subst e;sleep 8;refine W.done s _ _ st λs' mv=>?_
  exact wpAny_pure (fin s' (mv.mono up) (stay hS mv))
 |succ m ih=>
  intro i s hm hi st hS fin;have lt:i<n:=by lia
  sleep 8;refine W.item i s _ _ lt st λv s' pv st' mv=>?_
  obtain ⟨kv,sc⟩:=hv i v pv;show wpAny _ _ (holding [v] (setAdd S v)>>=_) _ _ s';sleep 22;apply wpAny_holding;unfold setAdd;apply wpAny_holding;sleep 22;refine (aO prog w).pyHash (k:=ks i) kv ?_;refine wpAny_setAddHashed_of (knd:=aO prog w) (s:={s' with toks:=s'.toks+1}) kv sc (show Heap.SetOf (aO prog w) s'.heap S (upTo ks i) i from stay hS mv) 72 λh' same S2=>?_
  have S3:h'.SetOf (aO prog w) S (upTo ks 176) (i+1):=by
   rw[wm,inj i lt] at S2;exact S2
  apply wpAny_pure;refine (plainId_quiet F.plain_set_update_loop _,ih 176 _ 72 lt (W.frame _ s' _ _ st' (He _) λb hb o e=>?_) S3 λs'' mv2 S4=>?_)
  ·exact (same.2 b λz=>out (z▸hb)).trans e
  ·exact fin s'' (Moved.trans W.gtrans ((mv.mono up).then_heap (He _) λb o hb e=>(same.2 b λz=>hb (z▸GJ)).trans e) mv2) S4
end
section
variable {prog:Program} {w:World} {A:Around} {E:II} {s:Shared}
set_option maxHeartbeats 3200000 in
theorem wo {l:Addr} {items:Array Value} {ks:Nat->Key} {Q:II} (hh:A.handled=none) (hl:s.heap.IsList l items) (hv:∀i v,items[i]?=some v->(aO prog w).is (ks i) v=true/\v.scannable=true)
  (inj:∀i,i<items.size->upTo ks i (ks i)=false) (hb:items.size+1<scanBound)
  (fin:∀(h':Heap) (tk:Nat),h'.SetOf (aO prog w) 74 (upTo ks items.size) items.size->(∀b o,b<74->s.heap.get? b=some o->h'.get? b=some o)->Q 161 152):
  wpAny 79 A (call (.type "set") [.ref l]) Q E s:=by
 obtain ⟨c0,tl0,mro⟩:=F.called_set.mro;have made:=F.called_set.made;have subt:=F.called_set.sub;apply wpAny_call;apply codeAny_of_tree;show wpAny _ _ (callAny (.type "set") _) _ _ _;apply wpAny_pure;refine (Code.quiet_builtin _ 78,codeAny_builtin F.entry_type_call ?_)
 rw[Around.under_plain (weight_type_call_type "set" [.ref l] []) rfl];have nt:=F.called_set.notType;have cc:=F.called_set.canCreate;have tc:=F.typeCall_set_1 187
 repeat any_goals first|assumption|wp_step
 refine codeAny_mono (code_set_new_1 187 (E:=E) (Q₁:=λv s1=>∃led:Bool,v= .ref s.heap.objs.size/\s1={s with heap:=108 77}) λled=>⟨led,rfl,rfl⟩) λr s1 hr=>?_
 cases r with
 |error e=>exact hr
 |ok fl=>
  cases fl with
  |ret v=>
   obtain ⟨led,rfl,rfl⟩:=hr;have e0:(108 77).get? 74=some {cls:= .type "set",dict:=none,data:= .set #[] 0 (.fresh 0 0 led)}:=87 _ rfl;have tS:Shared.TypeIs {s with heap:=108 77} 161 "set" :=(_,e0,rfl)
   have lk:=F.called_set.init.lookup;have bd:=F.called_set.init.bind 161
   repeat any_goals first|assumption|wp_step
   refine codeAny_mono (codeAny_call_builtin (R:=wants (λr s2=>r= .none/\∃h' tk,s2=152/\h'.SetOf (aO prog w) 74 (upTo ks items.size) items.size/\∀b o,b<74->s.heap.get? b=some o->h'.get? b=some o) E) F.called_set.init.plain F.entry_set_init (check_set_init_1 tS ?_)) λr2 s2 hr2=>?_
   ·obtain ⟨⟨lc,ld,lx,ls⟩,hol,hcl,nl,hdl⟩:=hl;simp only at hcl hdl;subst hcl hdl;have el:(108 77).get? l=some {cls:= .type "list",dict:=ld,data:= .seq items nl,slots:=ls}:=76 _ hol;have n1:=F.sub_list_set;have n2:=F.sub_list_frozenset;have n3:(Value.type "list" ==Value.type "dict")=false:=by decide
    have il:(108 77).IsList l items:=(_,el,rfl,nl,rfl);unfold Builtin.«set.__init__» noKeywords Builtin.Frozenset.updateFrom;generalize hit:pyIter=PI
    wp_walk
    subst hit;apply wpAny_pyIter_list il;sleep 22;apply wpAny_runValue;have ll:l<s.heap.objs.size:=106 hol;have h3:A.in1.in1.in1.handled=none:=by simpa using hh
    have nI:l≠(108 77).objs.size:=by
     rw[Heap.size_push];exact FV (GR ll)
    have out:s.heap.objs.size∉ [(108 77).objs.size,l]:=by
     rw[Heap.size_push];simp only[FW,not_or];exact (FV (Gs _),HC ll,Gq)
    refine ye ((Walks.list h3 _ l nI items).toS) 74 out ks hv inj hb items.size 0 _ rfl (G4 _) (218,il.push _) ?_ ?_
    ·have e1:((108 77).push {cls:= .type "list_iterator",data:= .fields #[.ref l,.int 0 0]}).get? 74=some {cls:= .type "set",dict:=none,data:= .set #[] 0 (.fresh 0 0 led)}:=
      76 _ e0
     refine (_,#[],0,_,e1,(rfl,rfl,rfl),rfl,(λe he=>by simp at he),(λk=>by simp[upTo]),by decide,rfl,rfl)
    ·intro s' mv S2;obtain ⟨h',g',d',tk',os'⟩:=s';have eg:g'=s.gens:=mv.gens;have ed:d'=s.drawn:=mv.drawn;have eo:os'=s.os:=mv.os;subst eg ed eo;show wpAny _ _ _ _ _ _;apply wpAny_pure;show wpAny _ _ (ret Value.none) _ _ _;apply wpAny_pure;refine (rfl,h',tk',rfl,S2,λb o hb' e=>?_)
     refine mv.heap b o ?_ (76 _ (76 _ e));rw[Heap.size_push];simp only[FW,not_or];exact (FV hb',FV (GR hb'),Gq)
   ·cases r2 with
    |error e=>exact hr2
    |ok fl2=>
     cases fl2 with
     |ret r=>
      obtain ⟨rfl,h',tk,rfl,S2,kp⟩:=hr2
      repeat any_goals first|assumption|wp_step
      exact fin _ _ S2 kp
     |_=>exact hr2.elim
  |_=>exact hr.elim
end
def z8 (K:F6) (te:TE):TE:=λσ H Q=>te σ H λx H1=>∃(a:Addr) (ks:List Key),x= .ref a/\aE K H1 a (ks.map kV)/\ks.Nodup/\ks.length<4000/\Q (.int ks.length) H1
theorem sM {ks:List Key} (nd:ks.Nodup) (i:Nat) (hi:i<ks.length):upTo (λj=>ks.getD j (.inl 0)) i (ks.getD i (.inl 0))=false:=by
 unfold upTo;rw[List.any_eq_false];intro j hj;have lj:j<i:=GE.mp hj;simp only[G9,F0 hi,F0 (Nat.lt_trans lj hi),Option.getD_some,decide_eq_true_eq];intro e;have:=(List.getElem_inj nd).mp e
 lia
theorem qr:∀{ks:List Key} {us:IP},bG (ks.map kV) us->∀(P:Program) (w:World) (i:Nat) (v:Value),us[i]?=some v->(aO P w).is (ks.getD i (.inl 0)) v=true/\v.scannable=true
 | [],_,.nil,P,w,i,v,h=>by simp at h
 |k::ks,_,.cons r t,P,w,0,v,h=>by
  simp at h;subst h;exists kW r;cases k with
  |inl z=>obtain ⟨_,rfl⟩:=r;rfl
  |inr z=>obtain ⟨_,rfl⟩:=r;rfl
 |k::ks,_,.cons r t,P,w,i+1,v,h=>qr t P w i v 214
section
variable {X:Cx} {e:Expr} {te:TE} {p1 p2 pos pos2:Pos}
theorem wt (hc:X.calm=true) (g1:Gl X "len") (m1:X.mg "len" =none) (g2:Gl X "set") (m2:X.mg "set" =none) (b1:bootBuiltins "len" =some (.builtin "len")) (b2:bootBuiltins "set" =some (.type "set")) (he:PE X e te)
  (hs:starEach [e] X.env= [202]:=by rfl):
  PE X (.Call (.Name "len" p1) [.Call (.Name "set" p2) [e] [] pos2] [] pos) (z8 X.K te):=by
 sleep 12
 refine Calls.callWith_builtin rfl (Calls.evalArgs_plain ?_);refine Calls.spliced_cons (x:=eval (.Call (.Name "set" p2) [e] [] pos2) X.env) (rest:= []) ?_;apply wpAny_Call_Name_kw;refine dA I g2 m2 b2 ?_ 73 73
 refine GO ?_ hs rfl;rw[hs];refine Calls.spliced_cons (x:=eval e X.env) (rest:= []) (bW (he pins s σ H _ I h) λv s1 (x,H1,I1,r1,a,ks,ex,hq,nd,few,q)=>?_)
 subst ex;cases r1;apply Calls.spliced_nil;obtain ⟨its,rv,pl,hz⟩:=I1.list hq;have sz:its.toArray.size=ks.length:=by rw[G6,<-rv.length,F1]
 have hli:s1.heap.IsList a its.toArray:=pl.isList;refine wo (ks:=λj=>ks.getD j (.inl 0)) 191 hli (λi v hv=>qr rv X.prog X.w i v (by simpa using hv)) (λi hi=>sM nd i (by rw[<-sz];exact hi)) (by rw[sz];show ks.length+1<4096;lia) λh' tk S2 kp=>?_
 apply Calls.spliced_nil;obtain ⟨o,es,ep,t,ho,hx,hd,_,_,hb,hf,hn⟩:=S2;refine call_len_set ho hx hd hf (by rw[hn,sz];have:ks.length<4000:=few;lia) ?_
 refine (.int ks.length,H1,I1.kept (λb o e=>kp b o (106 e) e),(_,by rw[hn,sz]),q)
end
end L2
namespace Sw
open PySem L2
noncomputable def AH:Str:= "abcdefghijklmnopqrstuvwxyz"
end Sw
namespace L2
open PySem PySem.Spec PyProof.Rows XH
section
variable {X:Cx} {scope:Scope} {cl:List (Str×Addr)} {own:Str} {ys:IM} {js:List Nat} {elt iter cond:Expr} {px pos:Pos} {wi:TI} {te:TE} {tc:TT}
theorem wu {i:Nat} {y:Str} {py spos:Pos} (hN:X.N.Nodup) (hi':X.N[i]?=some y) (hy:X.env.scope.names.lookup y=some .local) (hc:X.calm=true) (ok:fH X scope cl own ys js) (hi:PI X 229 iter wi)
  (hq:∀(C:Addr) (fp:IN) (s:Shared) (H:Hp),PT 96 cond tc)
  (he:∀(C:Addr) (fp:IN) (s:Shared) (H:Hp),PE 96 elt te)
  (hsw:swapsWith 132 (some (.Name y py)) spos.line X.env=pure true:=by rfl) (hs:∀x,foldedSetIterable iter X.env x=pure x:=by intro _;rfl):
  PS X (.Assign [.Name y py] 132 spos) (sd (oN wi js tc te) (aZ i)):=λpins s σ H D I h=>by
 sleep 13;show wpAny _ X.A (do let _<-comprehension (.ListComp elt [⟨.Name own px,iter,[cond],0⟩] scope pos) scope X.env _ (newList []) false (eval iter X.env) (some (assign (.Name y py) X.env))) _ _ s
 exact wpAny_bind (wpAny_mono (jX hc ok hi hq he hs I h (ku hN hi' hy)) (λ_ s' hq=>wpAny_pure (wpAny_pure hq)) λ_ _ e=>e)
end
theorem yf {X:Cx} (hu:X.A.units<cLine):iq X (compareOp .Eq) (λx y H Q=>∃a b zs,x= .ref a/\y= .ref b/\aE X.K H a zs/\aE X.K H b []/\Q (.bl zs.isEmpty) H):=by
 intro pins s σ H x y v u Q I rx ry h;obtain ⟨a,b,zs,rfl,rfl,h1,h2,hq⟩:=h;cases rx;cases ry;obtain ⟨i1,r1,p1,_⟩:=I.list h1;obtain ⟨i2,r2,p2,_⟩:=I.list h2;cases r2;cases zs with
 |nil=>
  cases r1;refine SeqAt.eq_listAt (e:=λ_=>true) p1.isList p2.isList rfl hu (λj g1 g2=>absurd g1 82) ?_
  exact (.bl true,H,I,by show Value.bool _=Value.bool _;simp,hq)
 |cons z zs=>
  cases r1 with
  |cons r rr=>
   refine SeqAt.eq_list_lengthsAt p1.isList p2.isList 82 hu ?_
   exact (.bl false,H,I,rfl,hq)
end L2
namespace Sw
open PySem L2 PyProof.Rows
theorem nr {α β:Type} {F:α->β->Prop}:∀{l:List α} {m:List β},Paired F l m->∀{i:Nat} {b:β},m[i]?=some b->∃a,l[i]?=some a/\F a b
 |_,_,.nil,i,b,h=>by simp at h
 |_,_,.cons r t,0,b,h=>by simp at h;subst h;exact (ν,r)
 |_,_,.cons r t,i+1,b,h=>by
  obtain ⟨a,h1,h2⟩:=nr t (i:=i) 214
  exact (a,by simpa using h1,h2)
theorem kx {xs:List V} {v:V} (h:xs.getLast?=some v):fV xs (-1)=some v:=by
 rw[List.getLast?_eq_getElem?] at h;have l:=(F4.mp h).1;have ix:uu xs.length (-1)=some (xs.length-1):=by
  unfold uu;rw[if_neg 73]
  first
   |(rw[if_pos (by lia)];congr 1;lia)
   |(simp;lia)
 unfold fV;rw[ix];exact h
end Sw
namespace L2
open PySem PySem.Spec PyProof.Rows XH Sw So
theorem uE:∀{acc:IP} {ks:IM},acc.length=ks.length->(∀(j:Nat) (v:Value),acc[j]?=some v->∃y t,ks[j]?=some y/\v= .str y t)->StrsAre acc ks
 | [],[],_,_=> .nil
 |v::acc,k::ks,hl,h=>by
  obtain ⟨y,t,e,rfl⟩:=h 0 v rfl;simp at e;subst e;exact .cons _ _ (uE (by simpa using hl) λj u hu=>h (j+1) u (by simpa using hu))
 | [],_::_,hl,_=>by simp at hl
 |_::_,[],hl,_=>by simp at hl
theorem jg:∀{us:IP} {ks:IM},StrsAre us ks->bG (ks.map V.str) us
 |_,_,.nil=> .nil
 |_,_,.cons y t h=> .cons ⟨t,rfl⟩ (jg h)
theorem qt {prog:Program} {w:World} {A:Around} {E:II} {s:Shared} {T:String} {r d:Addr} {n:Nat} {P:Nat->Value->Prop} {OK:Heap->Prop} {R:IP->Shared->Prop} (K:PySem.W.KdlSrc prog w T r d n P OK) (hh:A.handled=none) (hok:OK s.heap) (hn:n<=sizeLine)
  (h:∀(h':Heap) (tk:Nat) (acc:Array Value),74<h'.objs.size->(∀b o,s.heap.get? b=some o->h'.get? b=some o)->PySem.ItemsOf P acc n->R acc.toList 152):
  wpAny 79 A (collect (.ref r)) R E s:=by
 have hlt:=K.there _ hok;unfold collect;refine wpAny_bind (wpAny_runValue (codeAny_builtin entry_proto_collect' ?_));rw[Around.under_plainId PySem.F.plain_proto_collect _];show wpAny _ A.in1 (newList []>>=λl=>again (.builtin "list.__iadd__" ⟨[l,.ref r],[]⟩)) _ _ s
 refine wpAny_bind (wpAny_newObj_type (wpAny_pure (plainId_quiet HD _,codeAny_builtin entry_list_iadd' ?_)));rw[Around.under_plainId HD _];have fresh:(108 105).get? 74=some {cls:= .type "list",data:= .seq #[]}:=87 _ rfl;show wpAny _ A.in1 (Builtin.List.listExtendWith 161 (.ref r) 161) _ _ _;have key:=PySem.W.kdl_extend (A:=A) (s:={s with heap:=108 105})
  (R:=λ(q:Result) (s':Shared)=>∃(h':Heap) (tk:Nat) (acc:Array Value) (c:Nat),q= .ok (.ret 161)/\s'=152/\(∀b o,s.heap.get? b=some o->h'.get? b=some o)/\h'.get? 74=some {cls:= .type "list",dict:=none,data:= .seq acc c,slots:= #[]}/\PySem.ItemsOf P acc n)
  K hh (K.keep _ _ hok λb _ o e=>76 _ e) 74 (HC hlt.1) (HC hlt.2) 161 0 fresh
  (λh' tk acc c hk hS ha=>⟨h',tk,acc,c,rfl,rfl,λb o e=>hk b o (FV (106 e)) (76 _ e),hS,ha⟩) hn
 have fin:∀{h':Heap} {tk c:Nat} {acc:Array Value},(∀b o,s.heap.get? b=some o->h'.get? b=some o)->h'.get? 74=some {cls:= .type "list",dict:=none,data:= .seq acc c,slots:= #[]}->PySem.ItemsOf P acc n->R acc.toList {s with heap:=h',toks:=tk}:=
  λ{h' tk c acc} hk hS ha=>h h' tk acc (106 hS) hk ha
 refine wpAny_mono key (λf s' x=>?_) λe s' x=>?_
 ·cases f with
  |done f=>
   obtain ⟨h',tk,acc,c,e,rfl,hk,hS,ha⟩:=x;cases e;sleep 25;exact wpAny_bind (wpAny_load hS (wpAny_pure (fin hk hS ha)))
  |again c₁=>
   refine (x.1,codeAny_mono x.2 λq s₂ y=>?_)
   obtain ⟨h',tk,acc,c,rfl,rfl,hk,hS,ha⟩:=y;sleep 25;exact wpAny_bind (wpAny_load hS (wpAny_pure (fin hk hS ha)))
 ·obtain ⟨_,_,_,_,e',_⟩:=x;cases e'
end L2
namespace So
open PySem PySem.Spec PyProof.Rows
section
variable {prog:Program} {w:World} {A:Around} {E:II} {s:Shared} {κ:KeyKind} {kd:SortKind}
theorem wx (hO:zy prog w A E s κ kd) {a0:List Keyed} {st:SortSt} {Q:Unit->SortSt->Prop} (hk:kindOf st=kd) (hf:failedOf st=none) (hp:pendingOf st= #[]) (ha:(arrOf st).toList=a0) (k0:∀x∈a0,Kd κ x) (h64:a0.length<64)
  (h:∀st',(arrOf st').toList.Perm a0->failedOf st'=none->(arrOf st').toList.Pairwise (Lq κ)->Q () st'):wpS 79 A E s sortRuns' Q st:=by
 have sz:(arrOf st).size=a0.length:=by rw[<-ha];simp
 have mr:minRun' a0.length a0.length 0=a0.length:=by
  cases n:a0.length with
  |zero=>rfl
  |succ m=>
   rw[n] at h64;rw[minRun'_succ,if_pos h64,Nat.add_zero]
 unfold sortRuns';refine lC ?_;sleep 31;dsimp only;rw[sz];change wpS _ _ _ _ (_>>=_) _ _;have mr':(sortPriv% PySem.Builtin.minRun) a0.length a0.length 0=a0.length:=mr;rw[mr'];refine wpS_bind (wpS_mono (wpS_forRange (I:=λx c st'=>(x=0/\c=(none,0)/\st'=st)∨(c=(none,a0.length)/\(arrOf st').toList.Perm a0/\failedOf st'=none/\(arrOf st').toList.Pairwise (Lq κ)/\(pendingOf st').size<=1))
  (Q:=λc st'=>∃lo,c=(none,lo)/\(arrOf st').toList.Perm a0/\failedOf st'=none/\(arrOf st').toList.Pairwise (Lq κ)/\(pendingOf st').size<=1) ?s1 ?e1 (.inl ⟨rfl,rfl,rfl⟩)) ?p1)
 case e1=>
  rintro c st' (⟨h0,rfl,rfl⟩|⟨rfl,z⟩)
  ·have z0:a0= []:=Gb 72
   refine (ν,by rw[ha],hf,by rw[ha,z0];exact Hh,by rw[hp];decide)
  ·exact (ν,z)
 case p1=>
  rintro c st' ⟨lo,rfl,p1,p2,p3,p4⟩;try dsimp only
  refine wpS_bind (wpS_mono (wpS_forRange (I:=λx c st''=>c=(none,())/\st''=st') (Q:=λc st''=>c=(none,())/\st''=st') ?s4 (λ_ _ z=>z) 199) ?p4)
  case s4=>
   rintro x c st'' _ hx ⟨rfl,rfl⟩;sleep 31;rw[if_pos p4];exact wpS_pure 199
  case p4=>
   rintro c st'' ⟨rfl,rfl⟩;exact wpS_pure (h _ p1 p2 p3)
 case s1=>
  rintro x c st1 _ hx (⟨h0,rfl,rfl⟩|⟨rfl,z⟩)
  ·try dsimp only
   rw[if_neg 72]
   have e0:(arrOf st1).toList= []++a0:=by simpa using ha
   refine wpS_bind (qm hO (P:= []) (R:=a0) hk k0 e0 72 λst3 X3 S3 kp3 e3 s3 p3 l3=>?_)
   try dsimp only
   have n3:X3.length+S3.length=a0.length:=by rw[<-FP];exact p3.length_eq
   have pe3:pendingOf st3= #[]:=kp3.pend.trans hp
   by_cases cm:X3.length<a0.length
   ·rw[if_pos cm];refine wpS_bind (ql (wpS_bind (we hO (P:= []) (D:=X3++S3) (S:= []) (by rw[FP,n3];lia) (kp3.kind.trans hk) (λx hx=>k0 x (p3.mem_iff.mp hx)) (by rw[Gn];exact e3) l3 (by rw[FP];lia) (by rw[List.take_left];exact s3) λst4 X4 kp4 e4 s4 p4=>?_)))
    simp only[HU,GY,if_false];sleep 31;have pe4:pendingOf st4= #[]:=kp4.pend.trans pe3;have e4':(arrOf st4).toList=X4:=by simpa using e4
    split
    ·rename_i q;have q':(pendingOf st4).back?=some _:=q;rw[pe4] at q';cases q'
    ·refine wpS_bind (wpS_modify (wpS_pure (.inr (?_,?_,?_,?_,?_))))
     ·rw[Nat.zero_add,Nat.sub_zero,Nat.min_self]
     ·show (arrOf st4).toList.Perm a0;rw[e4'];exact p4.trans p3
     ·exact kp4.failed.trans (kp3.failed.trans hf)
     ·show (arrOf st4).toList.Pairwise (Lq κ);rw[e4'];exact s4
     ·show ((pendingOf st4).push _).size<=1;rw[pe4];exact F8 1
   ·rw[if_neg cm];sleep 31;have S0:S3= []:=Gb 72
    subst S0;have e3':(arrOf st3).toList=X3:=by simpa using e3
    split
    ·rename_i q;have q':(pendingOf st3).back?=some _:=q;rw[pe3] at q';cases q'
    ·refine wpS_bind (wpS_modify (wpS_pure (.inr (?_,?_,?_,?_,?_))))
     ·have:X3.length=a0.length:=by simpa using n3
      rw[Nat.zero_add,this]
     ·show (arrOf st3).toList.Perm a0;rw[e3']
      simpa using p3
     ·exact kp3.failed.trans hf
     ·show (arrOf st3).toList.Pairwise (Lq κ);rw[e3'];exact s3
     ·show ((pendingOf st3).push _).size<=1;rw[pe3];exact F8 1
  ·try dsimp only
   rw[if_pos 160];exact wpS_pure (ν,z)
end
end So
namespace L2
open PySem PySem.Spec PyProof.Rows XH Sw So
theorem wA {α β:Type} {g:α->β} {k:β->α} (hk:∀a,k (g a)=a) {l:List β} {as:List α} (h:l.Perm (as.map g)):∃bs:List α,bs.Perm as/\l=bs.map g:=by
 exists l.map k,?_
 ·have:=h.map k;rw[G1] at this;have e:as.map (k ∘ g)=as:=by
   conv=>rhs;rw[<-List.map_id as]
   exact Gd λa _=>hk a
  rw[e] at this;exact this
 ·rw[G1]
  conv=>lhs;rw[<-List.map_id l]
  refine Gd λx hx=>?_
  obtain ⟨a,_,rfl⟩:=FN.mp (h.mem_iff.mp hx);show g a=g (k (g a));rw[hk]
theorem qu {prog:Program} {w:World} {A:Around} {E:II} {s:Shared} {r:Addr} {its:IP} {n:Nat} {R:IP->Shared->Prop} (hr:s.heap.get? r=some (seqObj "list" its.toArray n)) (hn:its.length<=sizeLine)
  (h:∀h':Heap,74<h'.objs.size->(∀b o,s.heap.get? b=some o->h'.get? b=some o)->R its 205):wpAny 79 A (collect (.ref r)) R E s:=by
 unfold collect;refine wpAny_bind (wpAny_runValue (codeAny_builtin entry_proto_collect' ?_));rw[Around.under_plainId PySem.F.plain_proto_collect _];show wpAny _ A.in1 (newList []>>=λl=>again (.builtin "list.__iadd__" ⟨[l,.ref r],[]⟩)) _ _ s
 refine wpAny_bind (wpAny_newObj_type (wpAny_pure (plainId_quiet HD _,codeAny_builtin entry_list_iadd' ?_)));rw[Around.under_plainId HD _];have fresh:(108 105).get? 74=some {cls:= .type "list",data:= .seq #[]}:=87 _ rfl;show wpAny _ A.in1 (Builtin.List.listExtendWith 161 (.ref r) 161) _ _ _;have key:=wpAny_extend_seq (A:=A) (s:={s with heap:=108 105}) (prog:=prog) (w:=w)
  (R:=λ(q:Result) (s':Shared)=>q= .ok (.ret 161)/\s'={s with heap:=(108 105).update 74 (Obj.mapSeq (· ++its.toArray))})
  74 r 161 0 (.inl rfl) fresh (76 _ hr) rfl rfl ⟨rfl,rfl⟩ (by simpa using hn)
 have at_:=Heap.get?_update_self (Obj.mapSeq (· ++its.toArray)) fresh rfl;have fin:R its {s with heap:=(108 105).update 74 (Obj.mapSeq (· ++its.toArray))}:=by
  refine h _ (by rw[Heap.size_update,Heap.size_push];exact Gs _) λb o e=>?_
  exact (Heap.get?_update_other _ _ (HC (106 e))).trans (76 _ e)
 have ei:((#[]:Array Value)++its.toArray).toList=its:=by simp
 have fin':R ((#[]:Array Value)++its.toArray).toList {s with heap:=(108 105).update 74 (Obj.mapSeq (· ++its.toArray))}:=by rw[ei];exact fin
 refine wpAny_mono key (λf s' x=>?_) λe s' x=>?_
 ·cases f with
  |done f=>
   obtain ⟨e,rfl⟩:=x;cases e;sleep 25;exact wpAny_bind (wpAny_load at_ (wpAny_pure fin'))
  |again c₁=>
   refine (x.1,codeAny_mono x.2 λq s₂ y=>?_)
   obtain ⟨rfl,rfl⟩:=y;sleep 25;exact wpAny_bind (wpAny_load at_ (wpAny_pure fin'))
 ·exact absurd x.1 82
end L2
namespace Hm
abbrev Ky:=List Int
noncomputable def dC:Ky->Ky->Bool
 | [],[]=>false
 | [],_::_=>true
 |_::_,[]=>false
 |a::as,b::bs=>if a=b then dC as bs else decide (a<b)
theorem cW:∀a:Ky,dC a a=false
 | []=>rfl
 |a::as=>by unfold dC;rw[if_pos rfl];exact cW as
theorem fW:∀{a b c:Ky},dC a b=true->dC b c=true->dC a c=true
 | [],[],_,h,_=>by cases h
 | [],_::_,[],_,h=>by cases h
 | [],_::_,_::_,_,_=>rfl
 |_::_,[],_,h,_=>by cases h
 |_::_,_::_,[],_,h=>by cases h
 |a::as,b::bs,c::cs,h1,h2=>by
  unfold dC at h1 h2⊢
  by_cases ab:a=b
  ·subst ab;rw[if_pos rfl] at h1
   by_cases ac:a=c
   ·rw[if_pos ac] at h2⊢;exact fW h1 h2
   ·rw[if_neg ac] at h2⊢;exact h2
  ·rw[if_neg ab] at h1;have l1:=of_decide_eq_true h1
   by_cases bc:b=c
   ·subst bc;rw[if_neg ab];exact h1
   ·rw[if_neg bc] at h2;have l2:=of_decide_eq_true h2;rw[if_neg 72]
    exact decide_eq_true 72
theorem fA:∀{a b:Ky},dC a b=false->dC b a=false->a=b
 | [],[],_,_=>rfl
 | [],_::_,h,_=>by cases h
 |_::_,[],_,h=>by cases h
 |a::as,b::bs,h1,h2=>by
  unfold dC at h1 h2
  by_cases ab:a=b
  ·subst ab;rw[if_pos rfl] at h1 h2;rw[fA h1 h2]
  ·rw[if_neg ab] at h1;rw[if_neg (Ne.symm ab)] at h2;have l1:=of_decide_eq_false h1;have l2:=of_decide_eq_false h2
   lia
theorem jE {a b:Ky} (h:dC a b=true):dC b a=false:=by
 cases c:dC b a with
 |false=>rfl
 |true=>
  have z:=fW h c;rw[cW] at z;cases z
theorem wB {a b c:Ky} (h1:dC a b=false) (h2:dC b c=false):dC a c=false:=by
 cases k:dC a c with
 |false=>rfl
 |true=>
  cases m:dC b a with
  |true=>rw[fW m k] at h2;cases h2
  |false=>rw[fA h1 m] at k;rw[k] at h2;cases h2
def Rs (l:List Ky):Prop:=l.Pairwise λa b=>dC b a=false
open PySem PySem.SeqAt PySem.MeetsSeq
def Nums:List Int->IP->Prop
 | [],[]=>True
 |k::ks,u::us=>(∃t,u= .int k t)/\Nums ks us
 |_,_=>False
theorem Nums.len:∀{ks:List Int} {us:IP},Nums ks us->ks.length=us.length
 | [],[],_=>rfl
 |_::_,_::_,h=>by rw[GV,GV,Nums.len h.2]
 | [],_::_,h=>h.elim
 |_::_,[],h=>h.elim
end Hm
namespace L2
open PySem PySem.Spec PyProof.Rows XH Sw So Hm
def Th (b:Bool) (H:Hp) (v:V) (k:Ky):Prop:=match b with
 |false=>∃i:Int,v= .int i/\k= [i]
 |true=>∃a:Addr,v= .ref a/\H a=some (.tup (k.map V.int))/\k≠ []/\k.length<=sizeLine
theorem kA:∀{ks:List Int} {us:IP},bG (ks.map V.int) us->Nums ks us
 | [],_,h=>by cases h;trivial
 |k::ks,_,h=>by
  cases h with
  |cons r t=>exact ⟨r,kA t⟩
theorem Aa {i j:Int}:dC [i] [j]=decide (i<j):=by
 unfold dC
 by_cases c:i=j
 ·rw[if_pos c];exact (decide_eq_false 72).symm
 ·rw[if_neg c]
noncomputable def cI (b:Bool) (nm:Addr->Option Ky):PyProof.Rows.KeyKind where
 α:=Ky
 blt:=dC
 irrefl:=cW
 trans _ _ _:=fW
 negTrans a c d h:=by
  cases k:dC a c with
  |true=>exact .inl rfl
  |false=>
   cases m:dC c d with
   |true=>exact .inr rfl
   |false=>rw[wB k m] at h;cases h
 total _ _:=fA
 keyOf v:=match b,v with|false,.int i _=>some [i]|true,.ref a=>nm a|_,_=>none
 dflt:= []
theorem yg {nm:Addr->Option Ky} {v:Value} {k:Ky} (h:(cI false nm).keyOf v=some k):∃i t,v= .int i t/\k= [i]:=by
 cases v with
 |int i t=>cases h;exact (i,t,rfl,rfl)
 |_=>cases h
theorem yh {nm:Addr->Option Ky} {v:Value} {k:Ky} (h:(cI true nm).keyOf v=some k):∃a,v= .ref a/\nm a=some k:=by
 cases v with
 |ref a=>exact ⟨a,rfl,h⟩
 |_=>cases h
def wC (h:Heap) (a:Addr) (k:Ky):Prop:=∃(o:Obj) (us:IP) (n:Nat),h.get? a=some o/\o.cls= .type "tuple" /\o.data= .seq us.toArray n/\Nums k us
section
variable {prog:Program} {w:World} {A:Around} {E:II} {s:Shared}
theorem yi {nm:Addr->Option Ky}:(cI false nm).OneLt:=by
 intro prog w A E s x y a b Q ha hb h;obtain ⟨i,t,rfl,rfl⟩:=yg ha;obtain ⟨j,u,rfl,rfl⟩:=yg hb;have h':Q (dC [i] [j]) s:=h;rw[Aa] at h';exact oneLt_int h'
theorem wD {b:Bool} {i j:Int} {t u:Tok} {Q:Bool->Shared->Prop} (h:Q (decide (i<j)) s):wpAny 79 A (oneLt' b (.int i t) (.int j u)) Q E s:=by
 cases b with
 |true=>exact oneLt_int h
 |false=>
  rw[oneLt'_eq,if_neg 73]
  exact wpAny_bind (wpAny_lt_int (wpAny_truthy_bool h))
theorem qw {fin:Bool} {Q:Bool->Shared->Prop}:∀{ks ls:List Int} {us ws:IP} {i:Nat},Nums ks us->Nums ls ws->fin=decide (ks.length<ls.length)->Q (dC ks ls) s->PySem.W.KatLex prog w A true fin Q (us.zip ws) i s
 | [],[],[],[],i,_,n2,hf,q=>by
  have e:fin=dC [] []:=hf;rw[<-e] at q;exact PySem.W.kat_nil q
 | [],l::ls,[],v::ws,i,_,n2,hf,q=>by
  have e:fin=dC [] (l::ls):=by rw[hf];simp[dC]
  rw[<-e] at q;exact PySem.W.kat_nil q
 |k::ks,[],u::us,[],i,n1,n2,hf,q=>by
  have e:fin=dC (k::ks) []:=by rw[hf];simp[dC]
  rw[<-e] at q;exact PySem.W.kat_nil q
 |k::ks,l::ls,u::us,v::ws,i,⟨⟨t,hu⟩,n1⟩,⟨⟨t',hv⟩,n2⟩,hf,q=>by
  subst hu hv;rw[List.zip_cons_cons];refine PySem.W.kat_cons (SeqAt.EqAt.int_int k t l t' _ _ _ _ ?_);unfold dC at q
  by_cases c:k=l
  ·rw[if_pos c] at q;rw[show (k==l)=true from beq_iff_eq.mpr c]
   exact PySem.W.kat_yes (qw n1 n2 (by rw[hf];simp) q)
  ·rw[if_neg c] at q;rw[show (k==l)=false from beq_eq_false_iff_ne.mpr c]
   exact PySem.W.kat_no (wD q)
 |_::_,_,[],_,_,n1,_,_,_=>n1.elim
 | [],_,_::_,_,_,n1,_,_,_=>n1.elim
 |_,_::_,_,[],_,_,n2,_,_=>n2.elim
 |_,[],_,_::_,_,_,n2,_,_=>n2.elim
theorem yj {nm:Addr->Option Ky} (tup:∀a k,nm a=some k->wC s.heap a k):zy prog w A E s (cI true nm) (tuples' true):=by
 intro st x y Q hk hx hy h;obtain ⟨ka,ha⟩:=hx;obtain ⟨kb,hb⟩:=hy;have e1:kk (cI true nm) x=ka:=by unfold kk;rw[ha];rfl
 have e2:kk (cI true nm) y=kb:=by unfold kk;rw[hb];rfl
 rw[e1,e2] at h;obtain ⟨a,xa,ea⟩:=yh ha;obtain ⟨b,xb,eb⟩:=yh hb;obtain ⟨o1,us,n1,g1,c1,d1,m1⟩:=tup a ka ea;obtain ⟨o2,ws,n2,g2,c2,d2,m2⟩:=tup b kb eb;rw[lt'_eq];sleep 31;rw[hk,xa,xb];refine wpS_bind (wpS_lift (wpAny_attempt (PySem.W.kat_lt (b:=true) g1 d1 g2 d2 ?_)));exact qw m1 m2 (by rw[m1.len,m2.len];simp) (rfl,wpS_pure h)
theorem wE {us us':IP} (p:us.Perm us'):∀{xs:List V},bG xs us->∃xs':List V,xs'.Perm xs/\bG xs' us':=by
 induction p with
 |nil=>exact λ{xs} h=>⟨xs,.refl _,h⟩
 |cons u p ih=>
  intro xs h;cases h with
  |cons r t=>
   obtain ⟨xs',p',v'⟩:=ih t;exact (_::xs',p'.cons _,.cons r v')
 |swap u v l=>
  intro xs h;cases h with
  |cons r t=>
   cases t with
   |cons r2 t2=>exact ⟨_::_::_,.swap _ _ _,.cons r2 (.cons r t2)⟩
 |trans p q ih1 ih2=>
  intro xs h;obtain ⟨x1,p1,v1⟩:=ih1 h;obtain ⟨x2,p2,v2⟩:=ih2 v1;exact (x2,p2.trans p1,v2)
theorem kat_firsts {h:Heap} {nm:Addr->Option Ky} (tup:∀a k,nm a=some k->wC h a k/\k≠ []):∀{vs:IP},(∀v∈vs,∃x k,v= .ref x/\nm x=some k)->∃fs:IP,PySem.W.KatTups h vs fs/\fs.length=vs.length/\∀f∈fs,∃i t,f= .int i t
 | [],_=>⟨[],trivial,rfl,by simp⟩
 |v::vs,hv=>by
  obtain ⟨fs,k1,k2,k3⟩:=kat_firsts tup (vs:=vs) λu hu=>hv u (FX _ hu)
  obtain ⟨x,k,rfl,e⟩:=hv v 82
  obtain ⟨⟨o,us,n,g,c,d,m⟩,ne⟩:=tup x k e
  match k,us,m,ne with
  | [],_,_,ne=>exact absurd rfl ne
  |i::k,u::us,⟨⟨t,hu⟩,m⟩,_=>
   subst hu;refine (.int i t::fs,((x,o,_,n,rfl,g,c,d,by simp),k1),by simp[k2],λf hf=>?_)
   rcases FW.mp hf with e|e
   ·exact (i,t,e)
   ·exact k3 f e
theorem wF (M:Model) (h:Heap) (i:Int) (t:Tok):PySem.W.Looks M h (typeOf (.int i t)) (.type "int"):=PySem.W.Looks.of_pure rfl
theorem qx {nm:Addr->Option Ky}:∀{vs:IP},(∀v∈vs,∃k,(cI false nm).keyOf v=some k)->∃ns:List Int,IntsAre vs ns
 | [],_=>⟨[],.nil⟩
 |v::vs,h=>by
  obtain ⟨ns,hn⟩:=qx (vs:=vs) λu hu=>h u (FX _ hu)
  obtain ⟨k,hk⟩:=h v 82
  obtain ⟨i,t,rfl,_⟩:=yg hk;exact (i::ns,.cons _ _ hn)
noncomputable def sk (b:Bool):SortKind:=match b with|false=>oneType'|true=>tuples' true
theorem yk:∀us:IP,us.zip us=us.map λu=>(u,u)
 | []=>rfl
 |u::us=>by rw[List.zip_cons_cons,yk us];rfl
theorem AI {b:Bool} {nm:Addr->Option Ky} {f:V->Ky}:∀{xs:List V} {us:IP},bG xs us->(∀x∈xs,∀u,RelV x u->(cI b nm).keyOf u=some (f x))->(us.map λu=>(u,u)).Pairwise (Lq (cI b nm))->Rs (xs.map f)
 | [],_,_,_,_=>Hh
 |x::xs,_,h,hk,hs=>by
  cases h with
  | @cons _ u _ us r t=>
   rw[GL] at hs;obtain ⟨h1,h2⟩:=Ha.mp hs;refine Ha.mpr (λk hk'=>?_,AI t (λy hy=>hk y (FX _ hy)) h2)
   obtain ⟨y,hy,rfl⟩:=FN.mp hk';obtain ⟨i,hi⟩:=FR.mp hy;obtain ⟨v,hv,rv⟩:=bG.get t hi;have q:=h1 (v,v) (FN.mpr (v,F5 hv,rfl));have e1:kk (cI b nm) (u,u)=f x:=by unfold kk;rw[hk x 82 u r];rfl
   have e2:kk (cI b nm) (v,v)=f y:=by unfold kk;rw[hk y (FX _ hy) v rv];rfl
   have q':dC (kk (cI b nm) (v,v)) (kk (cI b nm) (u,u))=false:=q;rw[e1,e2] at q';exact q'
end
end L2
namespace Sw
open PySem L2 XH
structure Da (P:Program) (w:World) (K:F6) (mg:IJ) (base:Heap) (CX:uk) (k:Nat) (f:Addr) (ps:IM) (dvs:List V) (sp:Sp) where
 fd:FuncData
 ok:bS P w K mg base CX k f fd ps sp
 b:Binds K fd ps []
 bd:∃ds,Binds K fd ps ds/\bG dvs ds
section
variable {X:Cx} {k j:Nat} {f C:Addr} {ps:IM} {sp:Sp} {dvs:List V} {x m:Str} {p pos apos:Pos} {e o:Expr} {es:List Expr} {ta tb:TE} {t:TA}
theorem Bo (M:Mk X.K C f) (D:Da X.prog X.w X.K X.mg X.base bM k f ps dvs sp) (hr:dM j X.A) (hk:k+1<=j) (hg:Gl X x) (hm:X.mg x=some (.ref C)) (ha:PA X (e::es) t) (hdb:198=false:=by decide)
  (he:starEach (e::es) X.env=(false,eval e X.env)::starEach es X.env:=by rfl) (hpl:(backTo pos (starEach es X.env)).any 166=false:=by rfl):PE X (.Call (.Name x p) (e::es) [] pos) (xM C sp [] E0 t):=
 um M D.ok (hr.mono hk) hg hm D.b .nil xW ha hdb he hpl
theorem uF (M:Mk X.K C f) (D:Da X.prog X.w X.K X.mg X.base bM k f ps dvs sp) (hr:dM j X.A) (hk:k+1<=j) (hg:Gl X x) (hm:X.mg x=some (.ref C)) (ha:PA X (e::es) t) (hdb:198=false:=by decide)
  (he:starEach (e::es) X.env=(false,eval e X.env)::starEach es X.env:=by rfl) (hpl:(backTo pos (starEach es X.env)).any 166=false:=by rfl):PE X (.Call (.Name x p) (e::es) [] pos) (xM C sp dvs E0 t):=by
 obtain ⟨ds,hb,hv⟩:=D.bd;exact um M D.ok (hr.mono hk) hg hm hb hv xW ha hdb he hpl
end
end Sw
namespace L2
open PySem PySem.Spec PyProof.Rows XH
section
variable {X:Cx} {scope:Scope} {cl:List (Str×Addr)} {own:Str} {ys:IM} {js:List Nat} {elt iter:Expr} {px pos:Pos} {wi:TI} {te:TE}
theorem lN {i:Nat} {y:Str} {py spos:Pos} (hN:X.N.Nodup) (hi':X.N[i]?=some y) (hy:X.env.scope.names.lookup y=some .local) (hc:X.calm=true) (ok:fH X scope cl own ys js) (hi:PI X 229 iter wi)
  (he:∀(C:Addr) (fp:IN) (s:Shared) (H:Hp),PE 96 elt te)
  (hsw:swapsWith 91 (some (.Name y py)) spos.line X.env=pure true:=by rfl) (hs:∀x,foldedSetIterable iter X.env x=pure x:=by intro _;rfl):
  PS X (.Assign [.Name y py] 91 spos) (sd (nj wi js te) (aZ i)):=λpins s σ H D I h=>by
 sleep 13;show wpAny _ X.A (do let _<-comprehension (.ListComp elt [⟨.Name own px,iter,[],0⟩] scope pos) scope X.env _ (newList []) false (eval iter X.env) (some (assign (.Name y py) X.env))) _ _ s
 exact wpAny_bind (wpAny_mono (nk hc ok hi he hs I h (ku hN hi' hy)) (λ_ s' hq=>wpAny_pure (wpAny_pure hq)) λ_ _ e=>e)
end
variable {X:Cx}
theorem qy:∀{ws:IM} {us:IP},bG (ws.map V.str) us->StrsAre us ws
 | [],_,h=>by cases h;exact .nil
 |w::ws,_,h=>by
  cases h with
  |cons r rr=>
   obtain ⟨t,rfl⟩:=r;exact .cons _ _ (qy rr)
theorem Ab:EC X "str.join" (λx vs H Q=>∃z a ws,x= .str z/\vs= [.ref a]/\aE X.K H a (ws.map V.str)/\z.length<=16/\(ws.map (λx=>x.length)).sum+ws.length<=1048576/\Q (.str (Txt.join z ws)) H):=by
 intro pins s σ H x vs v us Q I rx rv h;obtain ⟨z,a,ws,rfl,rfl,hS,hz,hl,q⟩:=h;obtain ⟨t,rfl⟩:=rx;obtain ⟨u,rfl,ru⟩:=vals1 rv;cases ru;obtain ⟨its,r,p,_⟩:=I.list hS;exact join_listW p.isList (by simpa using qy r) hz hl λt' k=>(.str _,H,I.tok _,⟨ν⟩,q)
end L2
namespace Sw
open PySem L2 XH PySem.NumText
end Sw
namespace L2
open PySem PySem.Spec PyProof.Rows XH Sw So Hm
theorem yl {xs:List V} {c:Nat} (h:c<=xs.length):jA xs (some (c:Int)) none=xs.drop c:=by
 have e1:HT.cT xs.length 0 (some (c:Int))=c:=by
  show (if (c:Int)<0 then ((c:Int)+(xs.length:Int)).toNat else min (c:Int).toNat xs.length)=c
  rw[if_neg 72]
  lia
 have e2:HT.cT xs.length xs.length none=xs.length:=rfl;unfold jA;rw[e1,e2,Hc (by rw[HA];lia)]
end L2
namespace Sw
open PySem L2 XH Hm
theorem uG {n j:Nat} (h:j<n):uu n (j:Int)=some j:=by
 unfold uu;rw[if_pos 72,if_pos 72]
 rfl
theorem cB {xs:List V} {i:Nat} {v:V} (h:xs[i]?=some v):fV xs 121=some v:=by
 rw[Gp];exact bV h
end Sw
namespace L2
open PySem PySem.Spec PyProof.Rows XH Sw Hm
theorem ym {K:F6} {a:Addr} {xs:List V} {js:List Nat} {te:TE} {σ:L2.St} {H1:Hp} {Q:VK} (P:Hp->V->V->Hp->Prop) (hS:aE K H1 a xs) (hz:xs.length<=sizeLine)
  (step:∀x∈xs,∀H3,aA H1 H3->∀Q':VK,(∀y H4,P H3 x y H4->aA H3 H4->Q' y H4)->te (some x::bn js σ) H3 Q')
  (fin:∀(p:Addr) (ys:List V) (H':Hp),H1 p=none->ys.length=xs.length->(∀(i:Nat) (x y:V),xs[i]?=some x->ys[i]?=some y->∃H3 H4,aA H1 H3/\H3 p≠none/\P H3 x y H4/\∀b o,b≠p->H4 b=some o->H' b=some o)->aA H1 H'->H' p=some 184->Q 120 H'):kZ js te σ Q (zw K a) H1:=by
 intro p hp;exists λi m ys H2=>i<=xs.length/\m=xs.length-i/\ys.length=i/\(∀(i:Nat) (x y:V),xs[i]?=some x->ys[i]?=some y->∃H3 H4,aA H1 H3/\H3 p≠none/\P H3 x y H4/\∀b o,b≠p->H4 b=some o->H2 b=some o)/\aA H1 H2/\H2 p=some 184,(xs.length,G4 _,rfl,rfl,λi x y _ e=>by simp at e,Sw.ar hp _,ao)
 rintro i m ys H2 ⟨hi,rfl,hl,hP,g,e⟩;exists e;have S2:=g.seq hS
 by_cases hin:i<xs.length
 ·refine .inr ((xs,xs[i],S2,F0 hin),by lia,λx H3 hy=>?_)
  obtain ⟨rfl,hx⟩:=hy;have ex:=hx xs S2;refine step x (F5 ex) H3 g _ λy H4 py g4=>(g4 _ _ e,xs.length-176,by lia,hin,rfl,by simp[hl],λj x' y' e1 e2=>?_,Sw.dE (g.trans g4) hp _,ao)
  by_cases hj:j<ys.length
  ·rw[FU hj] at e2;obtain ⟨A,B,q1,q2,q3,q4⟩:=hP j x' y' e1 e2;exact (A,B,q1,q2,q3,λb o n q=>by rw[aJ n];exact g4 _ _ (q4 b o n q))
  ·have ej:j=i:=by
    have:=(F4.mp e2).1;simp at this
    lia
   subst ej;rw[F9 72,hl] at e2
   simp at e2;subst e2;rw[ex] at e1;cases e1;exact (H3,H4,g,by rw[e];exact nofun,py,λb o n q=>by rw[aJ n];exact q)
 ·have e2:i=xs.length:=by lia
  subst e2;exact .inl ((xs,S2,F8 _),fin p ys H2 hp hl hP g e)
end L2
namespace Sw
open PySem L2 XH Hm
def cX {α:Type} (R:Addr->α->Prop) (as:IN) (xs:List α):Prop:=as.length=xs.length/\∀(i:Nat) (a:Addr) (x:α),as[i]?=some a->xs[i]?=some x->R a x
theorem cX.imp {α:Type} {R S:Addr->α->Prop} {as:IN} {xs:List α} (h:cX R as xs) (f:∀a x,R a x->S a x):cX S as xs:=(h.1,λi a x e1 e2=>f a x (h.2 i a x e1 e2))
theorem cX.get {α:Type} {R:Addr->α->Prop} {as:IN} {xs:List α} (h:cX R as xs) {i:Nat} {x:α} (e:xs[i]?=some x):∃a,as[i]?=some a/\R a x:=by
 have il:i<as.length:=by rw[h.1];exact (F4.mp e).1
 exact (_,F0 il,h.2 i _ x (F0 il) e)
theorem cX.nil {α:Type} {R:Addr->α->Prop}:cX R [] ([]:List α):=(rfl,λi a x e=>by simp at e)
theorem cX.snoc {α:Type} {R:Addr->α->Prop} {as:IN} {xs:List α} (h:cX R as xs) {a:Addr} {x:α} (r:R a x):cX R (as++ [a]) (xs++ [x]):=by
 refine (by simp[h.1],λi b y e1 e2=>?_)
 have il:=(F4.mp e1).1
 by_cases c:i<as.length
 ·rw[FU c] at e1;rw[FU (by rw[<-h.1];exact c)] at e2
  exact h.2 i b y e1 e2
 ·have ei:i=as.length:=by simp at il;lia
  subst ei;rw[F9 160] at e1;rw[F9 (by rw[h.1];exact F8 _),h.1] at e2
  simp at e1 e2;subst e1 e2;exact r
def bx (H:Hp) (l:Addr) (ks:List Ky):Prop:=∃as:IN,H l=some (.lst (as.map V.ref))/\cX 125 as ks
theorem bx.same {H H':Hp} {l:Addr} {ks:List Ky} (h:bx H l ks) (g:aA H H'):bx H' l ks:=by
 obtain ⟨as,e,r⟩:=h;exact (as,g _ _ e,r.imp λa k q=>g _ _ q)
end Sw
namespace L2
open PySem PySem.Spec PyProof.Rows XH
theorem sN {X:Cx}:cL X (.builtin "len") (λxs H Q=>∃(d:Addr) (kvs:List 193),xs= [.ref d]/\H d=some 119/\Q (.int kvs.length) H):=by
 sleep 14;obtain ⟨d,kvs,rfl,hd,q⟩:=h;obtain ⟨u,rfl,ru⟩:=vals1 r;cases ru;exact CP I (.inl hd) λt s' I'=>(.int kvs.length,H,I',(t,rfl),q)
theorem bN {X:Cx} {K:F6} (h:X.K=K):Cr X (CM K):=by
 subst h;exact aM
theorem fX {X:Cx} {K:F6} (h:X.K=K):Cr X (CL K):=by
 subst h;exact aD
theorem sO {X:Cx} {K:F6} (h:X.K=K):cL X (.type "list") (λxs H Q=>∃p ys,xs= [.ref p]/\(aE K H p ys∨bT K H p ys)/\∀l,H l=none->Q 187 (aI H l 184)):=by
 subst h;exact c6
theorem iN:bootBuiltins "dict" =some (.type "dict"):=by kernel_rfl
end L2
namespace Sw
open PySem L2 XH Hm
theorem ic:∀{ys:List V},(∀y∈ys,∃t:Addr,y= .ref t)->∃as:IN,ys=as.map V.ref
 | [],_=>⟨[],rfl⟩
 |y::ys,h=>by
  obtain ⟨t,rfl⟩:=h y 82
  obtain ⟨as,e⟩:=ic λz hz=>h z (FX _ hz)
  exact (t::as,by rw[e];rfl)
noncomputable def lO (td tl al pl n:V):List (Str×V):=bC "moments" n (bC "apart" pl (bC "arcs" al (bC "tasks" tl (bC "tools" td []))))
theorem Ac {td tl al pl n:V}:(lO td tl al pl n).lookup ("tools" :Str)=some td/\(lO td tl al pl n).lookup ("tasks" :Str)=some tl/\(lO td tl al pl n).lookup ("arcs" :Str)=some al/\(lO td tl al pl n).lookup ("apart" :Str)=some pl/\(lO td tl al pl n).lookup ("moments" :Str)=some n:=by
 unfold lO;exists ?_,?_,?_,?_
 ·rw[bD,if_neg 73,bD,if_neg 73,bD,if_neg 73,bD,if_neg 73,bD,if_pos rfl]
 ·rw[bD,if_neg 73,bD,if_neg 73,bD,if_neg 73,bD,if_pos rfl]
 ·rw[bD,if_neg 73,bD,if_neg 73,bD,if_pos rfl]
 ·rw[bD,if_neg 73,bD,if_pos rfl]
 ·rw[bD,if_pos rfl]
def Fx (x:Addr) (H H':Hp):Prop:=∀a o,a≠x->H a=some o->H' a=some o
theorem Fx.of {x:Addr} {H H':Hp} (g:aA H H'):Fx x H H':=λa o _ h=>g a o h
theorem Fx.put (x:Addr) (H:Hp) (o:HO):Fx x H (aI H x o):=λa u n h=>by rw[aJ n];exact h
theorem Fx.trans {x:Addr} {H H1 H2:Hp} (a:Fx x H H1) (b:Fx x H1 H2):Fx x H H2:=λc o n h=>b c o n (a c o n h)
theorem bx.fx {x:Addr} {H H':Hp} {l:Addr} {ks:List Ky} {C dx:Addr} {fs:List (Str×V)} (h:bx H l ks) (ex:H x=some (.ins C dx fs)) (g:Fx x H H'):bx H' l ks:=by
 obtain ⟨as,e,r⟩:=h;exact ⟨as,g _ _ (iX e ex 185) e,r.imp λa k q=>g _ _ (iX q ex 185) q⟩
def uH:Sp:=λvs H Q _=>∃(al:Addr) (m:Int) (A:List Ky),vs= [.ref al,.int m]/\bx H al A/\A.length<=600/\(∀k∈A,∃p q g:Int,k= [p,q,g]/\0<=p/\p<m/\0<=q/\q<m/\ -1000000000<=g/\g<=1000000000)/\Q .non H
end Sw
namespace L2
open PySem PySem.Spec PyProof.Rows XH
abbrev Cx.blockT (X:Cx) (scope:Scope) (cl:List (Str×Addr)) (C:Addr) (N:IM) (os:IM) (fp:IN) (s:Shared) (H:Hp):Cx:=
 {X with env:=compEnvC scope cl C X.env,N:=N,s₀:=s,H₀:=H,outer:=X.stack,stack:=X.stack,ex:=fp,fn:=λy=>os.contains y,pn:= [],xe:=λ_ _=>False}
structure kB (X:Cx) (scope:Scope) (cl:List (Str×Addr)) (os:IM) (ys:IM) (js:List Nat):Prop where
 clos:closureFor scope X.env=pure cl
 nocell:(scope.names.all λp=> !(p.2== .cell))=true
 kind:scope.kind= .function
 loc:136=true
 sub:∀p∈cl,X.env.cells.lookup p.1=some p.2
 has:116=true
 noown:∀x∈os,cl.lookup x=none
 at_:Sw.jD X scope ys js
 len:js.length=ys.length
def yn (n:Nat) (g:TG) (js:List Nat) (te:TE) (σ:St) (Q:VK):It->Hp->Prop:=λJ H1=>∀p,H1 p=none->∃W:Nat->Nat->List V->Hp->Prop,(∃m,W 0 m [] (aI H1 p 85))/\
 ∀i m ys H2,W i m ys H2->H2 p=some 184/\((J.stop i H2/\Q 120 H2)∨(J.go i H2/\ys.length<sizeLine/\∀x H3,J.yld i H2 x H3->∀o:St,o.length=n->g x (o++bn js σ) H3 λσ4 H4=>(∃o':St,o'.length=n/\σ4=o'++bn js σ)/\
  te σ4 H4 λy H5=>H5 p=some 184/\∃m',m'<m/\W 176 m' (ys++ [y]) (aI H5 p (.lst (ys++ [y])))))
def yo (wi:TI) (n:Nat) (g:TG) (js:List Nat) (te:TE):TE:=λσ H Q=>wi σ H (yn n g js te σ Q)
section
variable {X:Cx} {scope:Scope} {cl:List (Str×Addr)} {os:IM} {ys:IM} {js:List Nat} {fp:IN} {pins:IK} {σ:St} {H:Hp} {s s4:Shared}
theorem oO {h1:Heap} (ok:kB X scope cl os ys js) (I:aR X pins σ H s) (hf:∀b∈fp,dQ X pins H b) (hlt:∀b∈fp,b<74) (hns:h1.Ns 74 (λ_=>none))
  (hk:∀b o,s.heap.get? b=some o->h1.get? b=some o) (tk:Nat):
  aR (X.blockT scope cl 74 (os++ys) os fp s H) [] (os.map (λ_=>none)++bn js σ) H {s with heap:=h1,toks:=tk}:=by
 have sub:∀y c,cl.lookup y=some c->X.env.cells.lookup y=some c:=λy c e=>ok.sub (y,c) (GU e)
 refine ⟨⟨I.ok.mod,ok.kind,I.ok.glob,I.ok.blt,F8 _,λx y c e1 e2=>I.ok.inj x y c (sub x c e1) (sub y c e2),λx hx=>?_,λx c e1 e2=>?_,I.ok.hd,I.ok.frames,.inl rfl,λb hb=>(FV (hlt b hb),λx c e=>(hf b hb).2.2.2.2.1 x c (sub x c e)),
  I.bs,Gf I.ok.bsz I.sz,λb o e hb=>?_,λb hb z=>?_,I.stack,I.stkFree⟩,rfl,I.bare,Un.kept hk,⟨_,hns,λi y v e1 e2 e3=>?_⟩,λy c e=>?_,I.hok.fresh 160,λy c e=>I.freeC y c (sub y c e),λp hp=>absurd (show p∈([]:IK) from hp) 82,I.hok.kept hk,?_⟩
 ·have hx':(relabel scope X.env).names.lookup x=some .cell∨(relabel scope X.env).names.lookup x=some .free:=hx;rcases hx' with z|z
  ·sleep 34;simp only[beq_self_eq_true,Bool.true_or,HU,HV] at q;exact GX.mp q
  ·sleep 34;simp only[beq_self_eq_true,Bool.or_true,HU,HV] at q;exact GX.mp q
 ·have e1':os.contains x=true:=e1;have e2':cl.lookup x=some c:=e2;rw[ok.noown x (List.contains_iff_mem.mp e1')] at e2';cases e2'
 ·rcases (hf b hb).2.2.2.1 with z|z
  ·exact I.ok.noex b o e z
  ·exact absurd (GK (106 (I.ok.bs b o e).1) z) (HW _)
 ·rcases FW.mp (I.stkSub b z) with q|q
  ·exact (hf b hb).2.1 q
  ·exact (hf b hb).2.2.1 q
 ·by_cases hi:i<os.length
  ·have e2':(os.map (λ_=>(none:Option V))++bn js σ)[i]?=some (some v):=e2
   rw[FU (by rw[F1];exact hi),F7,F0 hi] at e2'
   cases e2'
  ·have e1'':(os++ys)[i]?=some y:=e1;have e2'':(os.map (λ_=>(none:Option V))++bn js σ)[i]?=some (some v):=e2
   rw[F9 72] at e1''
   rw[F9 (by rw[F1];lia),F1] at e2''
   have e1':=e1'';have e2:=e2'';clear e1 e1'' e2'';generalize i-os.length=i at e1' e2;obtain ⟨j,hj,hN,hX,hc⟩:=ok.at_ i y e1';have e2':(bn js σ)[i]?=some (some v):=e2;unfold bn at e2';rw[F7,hj] at e2';have hs:σ[j]?=some (some v):=by
    cases q:σ[j]? with
    |none=>rw[Hn,q] at e2';cases e2'
    |some o=>rw[Hn,q] at e2';exact e2'
   obtain ⟨m,hn,hl⟩:=I.loc;obtain ⟨u,r,l⟩:=hl j y v hN hs (hX.elim (λz=> .inr (.inl z)) λz=> .inr (.inr z))
   refine (u,r,.inr (hc,?_));rcases l with ⟨k,_⟩|⟨k,c,hcl,hcell⟩
   ·have k':X.env.scope.names.lookup y=some .local:=k;rcases hX with z|z<;>(rw[z] at k';cases k')
   ·have ex:∃c',cl.lookup y=some c':=by
     rcases hc with z|z
     ·sleep 34;simp only[beq_self_eq_true,Bool.true_or,HU,HV] at q;exact GX.mp q
     ·sleep 34;simp only[beq_self_eq_true,Bool.or_true,HU,HV] at q;exact GX.mp q
    obtain ⟨c',hc'⟩:=ex;have e:=sub y c' hc';rw[hcl] at e;cases e;obtain ⟨oc,hoc,hd⟩:=hcell;exact (c,hc',oc,hk _ _ hoc,hd)
 ·obtain ⟨v,oc,hoc,hd⟩:=I.cell y c (sub y c e);exact (v,oc,hk _ _ hoc,hd)
 ·show (os.map (λ_=>(none:Option V))++bn js σ).length=(os++ys).length
  simp[bn,ok.len]
theorem sP {H':Hp} {h':Heap} {σ':St} (I:aR X pins σ H s) (hf:∀b∈fp,dQ X pins H b) (J:aR (X.blockT scope cl 74 (os++ys) os fp s H) [] σ' H' s4) (hs:Heap.SameBut 74 s4.heap h'):
  aR X pins σ H' {s4 with heap:=h'}:=by
 have low:∀b o,s.heap.get? b=some o->b≠s.heap.objs.size:=λb o e=>FV (106 e)
 have B:=J.base;have u:Un (vK X.stack) fp H H' s.heap h':={
  keep:=λb o q n hb hx=>(hs.2 b (low b o q)).trans (B.keep b o q n hb hx)
  slot:=λb o q n hb hx=>by
   obtain ⟨sl,e⟩:=B.slot b o q n hb hx;exact (sl,(hs.2 b (low b o q)).trans e)
  free:=B.free
  there:=λb o q hx=>by
   obtain ⟨o',e⟩:=B.there b o q hx;exact (o',(hs.2 b (low b o q)).trans e)
  tups:=B.tups
  frzs:=B.frzs
  tbls:=B.tbls}
 have hn:H' 74=none:=J.free;have hk:iA X.prog X.w H' h':=λa o e=>(J.hok a o e).stay (λb v hb q=>(hs.2 b (by
  intro z;rcases hb with z'|z'
  ·rw[<-z',z,hn] at e;cases e
  ·rw[z,hn] at z';cases z')).trans q) (λ_ q=>q) λ_ _ q=>q
 exact I.call' (s':={s4 with heap:=h'}) (ch:=fp) J.os u hk J.bare λb hb=>⟨(hf b hb).2.2.2.1,(hf b hb).2.1,(hf b hb).2.2.2.2.1,(hf b hb).2.2.2.2.2⟩
end
section
variable {X:Cx} {scope:Scope} {cl:List (Str×Addr)} {os:IM} {ys:IM} {js:List Nat} {elt iter tg:Expr} {px pos:Pos} {wi:TI} {te:TE} {g:TG}
theorem sQ (hc:X.calm=true) (ok:kB X scope cl os ys js) (hi:PI X tg iter wi)
  (hg:∀(C:Addr) (fp:IN) (s:Shared) (H:Hp),PG 177 tg g)
  (he:∀(C:Addr) (fp:IN) (s:Shared) (H:Hp),PE 177 elt te)
  (hs:∀x,foldedSetIterable iter X.env x=pure x)
  {pins:IK} {s:Shared} {σ:St} {H:Hp} {Q:VK} {use:Option (Value->Sem Unit)} {QQ:II} {pp:Pos} (I:aR X pins σ H s) (h:(yo wi os.length g js te) σ H Q)
  (fin:∀(p C:Addr) (s6:Shared) (H5:Hp) (v:Flow),(∃m,s6.heap.Ns C m)->142->dQ X pins H5 C->Q 120 H5->compPost 93 X.A X.xe use QQ 120 C (.ok v) s6):
  wpAny 93 X.A (comprehension (.ListComp elt [⟨tg,iter,[],0⟩] scope pos) scope X.env pp (newList []) false (eval iter X.env) use) QQ X.xe s:=by
 have ncell:∀y∈scope.names,y.2≠ .cell:=λy hy z=>by
  have q:=GC.mp ok.nocell y hy;rw[z] at q;simp at q
 have nloc:∀y∈scope.names,y.2= .local->scope.names.lookup y.1=some .local:=λy hy z=>by
  have q:=GC.mp ok.loc y hy;rw[z] at q
  simpa using q
 sleep 15
 sleep 2
 have I3:=I2.laid (a:=94) (o:= .lst []) (h':=s2.heap.push 134) (t':=s2.toks) (λb u q=>76 _ q) 160
  ⟨G4 _,[],0,.nil,87 _ rfl⟩
 have fpo:∀b∈fp,b<s2.heap.objs.size:=λb hb=>by
  obtain ⟨o,e,_⟩:=T.obj 0 _ st2 b hb;exact 106 e
 sleep 10
 sleep 9
 sleep 16
 sleep 20
 sleep 6
 have J0:=oO (h1:=h1) ok I3 f3 lt3 hns hk (s2.toks+0);sleep 19
 have fpB:∀{H':Hp},(∀b∈fp,H' b=none)->∀b∈fp,dQ 148 [] H' b:=λ{H'} hn b hb=>
  ⟨hn b hb,FV (lt3 b hb),λz=>(FW.mp (I3.stkSub b z)).elim (f3 b hb).2.1 (f3 b hb).2.2.1,.inl hb,λx c e=>(f3 b hb).2.2.2.2.1 x c (ok.sub (x,c) (GU e)),λp hp=>absurd (show p∈([]:IK) from hp) 82⟩
 have loop:codeAny 93 X.A (.compLoop (.ListComp elt [⟨tg,iter,[],0⟩] scope pos) 0 219 227 (compEnvC scope cl s3.heap.objs.size X.env))
   (compPost 93 X.A X.xe use QQ 227 s3.heap.objs.size) {s3 with heap:=h1,toks:=s2.toks+0}:=by
  refine gD (λn s'=>∃i zs o0 H',aR 148 [] (o0++bn js σ) H' s'/\o0.length=os.length/\tn i s'.heap/\(∀b∈fp,H' b=none)/\W i n zs H') ?_ m0
   ⟨0,[],os.map (λ_=>none),_,J0,F1 _,t0,λb hb=>(f3 b hb).1,w0⟩
  rintro n s5 ⟨i,zs,o0,H5,I5,l5,t5,n5,w5⟩;obtain ⟨hD,hw⟩:=turn i n zs H5 w5;rcases hw with ⟨stop,qn⟩|⟨go,hz,step⟩
  ·refine bW (T.done 148 rfl rfl rfl hc i [] s5 _ H5 145 I5 (fpB n5) t5 stop) λr s6 (hr,I6)=>?_
   subst hr;obtain ⟨m,hn,_⟩:=id I6.loc;exact fin _ _ s6 H5 _ (m,hn) (λh' hs'=>sP I3 f3 I6 hs') (I3.fpOk 160 (show H5 s3.heap.objs.size=none from I6.free)) qn
  ·refine bW (T.item 148 rfl rfl rfl hc i [] s5 _ H5 145 I5 (fpB n5) t5 go) λr s6 (u,hr,h6)=>?_
   subst hr;refine bW h6 λ_ s7 (x,H7,I7,r7,y7,t7,n7)=>?_
   have I7':=I7.pinned (fpB n7) (T.obj _ _ t7);have hst:=step x H7 y7;refine bW (hg _ _ _ _ _ s7 _ H7 x u _ I7' r7 (hst o0 l5)) λ_ s8 (σ8,H8,I8,(o8,l8,e8),hst)=>?_
   subst e8;refine bW (he _ _ _ _ _ s8 _ H8 _ I8 hst) λyv s9 (y,H9,I9,r9,hD9,m',hm,w9)=>?_
   refine bW (bB _ s9 _ H9 227 [y] 227 [yv] (λ_ H'=>H'=aI H9 94 (.lst (zs++ [y]))) I9 rfl (.cons r9 .nil) (_,zs,y,rfl,rfl,hD9,hz,rfl)) λ_ s10 (_,H10,I10,_,e10)=>?_
   subst e10;refine (m',hm,i+1,zs++ [y],o8,_,I10.unpinned,l8,T.keep _ _ _ t7 λb hb o e=>(I10.pin (b,o) 183).1,λb hb=>?_,w9)
   obtain ⟨o,e,d⟩:=T.obj _ _ t7 b hb;exact (I10.pin (b,o) 183).2.1
 subst hs3;exact codeAny_compStart_list loop (T.self _ 0 _ _ _ t0 loop)
end
end L2
namespace Sw
open PySem L2 XH
theorem EO {X:Cx} {scope:Scope} {cl:List (Str×Addr)} {os ys:IM} {js:List Nat} (a:jD X scope ys js) (s:sI X cl) (len:js.length=ys.length) (clos:closureFor scope X.env=pure cl) (nocell:(scope.names.all λp=> !(p.2== .cell))=true) (kind:scope.kind= .function)
  (loc:136=true) (has:116=true) (noown:(os.all λx=>(cl.lookup x).isNone)=true):kB X scope cl os ys js:=
 ⟨clos,nocell,kind,loc,s.all,has,λx hx=>by have:=GC.mp noown x hx;simpa using this,a,len⟩
theorem Ad {X:Cx} {K:F6} {es:List Expr} {k:Nat} {t:AC} {n:Nat} {pos:Pos} (hK:X.K=K) (hc:X.calm=true) (h:Cz X es t) (hn:(assignEach es X.env).length=n:=by rfl) (hst:(assignEach es X.env).findIdx? 166=none:=by rfl):PG X (.Tuple es k pos) (CC K n t):=by
 subst hK;exact fD hc h hn hst
theorem lQ {X:Cx} {scope:Scope} {cl:List (Str×Addr)} {C:Addr} {fp:IN} {s:Shared} {H:Hp} {os ys:IM} {i:Nat} {x:Str} {pos:Pos} (nd:(os++ys).Nodup) (hi:(os++ys)[i]?=some x) (hl:(relabel scope X.env).names.lookup x=some .local):PG 177 (.Name x pos) (aZ i):=
 dH (X:=X.blockT scope cl C (os++ys) os fp s H) nd hi (.inl hl) (.inr hl)
end Sw
namespace L2
open PySem PySem.Spec PyProof.Rows XH
section
variable {X:Cx} {scope:Scope} {cl:List (Str×Addr)} {os:IM} {ys:IM} {js:List Nat} {elt iter tg:Expr} {px pos:Pos} {wi:TI} {te:TE} {g:TG}
theorem yq {i:Nat} {y:Str} {py spos:Pos} (hN:X.N.Nodup) (hi':X.N[i]?=some y) (hy:X.env.scope.names.lookup y=some .local) (hc:X.calm=true) (ok:kB X scope cl os ys js) (hi:PI X tg iter wi)
  (hg:∀(C:Addr) (fp:IN) (s:Shared) (H:Hp),PG 177 tg g)
  (he:∀(C:Addr) (fp:IN) (s:Shared) (H:Hp),PE 177 elt te)
  (hsw:swapsWith (.ListComp elt [⟨tg,iter,[],0⟩] scope pos) (some (.Name y py)) spos.line X.env=pure true:=by rfl) (hs:∀x,foldedSetIterable iter X.env x=pure x:=by intro _;rfl):
  PS X (.Assign [.Name y py] (.ListComp elt [⟨tg,iter,[],0⟩] scope pos) spos) (sd (yo wi os.length g js te) (aZ i)):=λpins s σ H D I h=>by
 sleep 13;show wpAny _ X.A (do let _<-comprehension (.ListComp elt [⟨tg,iter,[],0⟩] scope pos) scope X.env _ (newList []) false (eval iter X.env) (some (assign (.Name y py) X.env))) _ _ s
 exact wpAny_bind (wpAny_mono (sQ hc ok hi hg he hs I h (ku hN hi' hy)) (λ_ s' hq=>wpAny_pure (wpAny_pure hq)) λ_ _ e=>e)
end
end L2
namespace Sw
open PySem L2 XH
end Sw
namespace L2
open PySem PySem.Spec PyProof.Rows
end L2
namespace Sw
open PySem L2 XH
end Sw
namespace L2
open PySem PySem.Spec PyProof.Rows
end L2
namespace Sw
open PySem L2 XH
end Sw
namespace L2
open PySem PySem.Spec PyProof.Rows XH
noncomputable def iD (n:Nat) (pr:Nat->Bool) (f:Nat->V):List V:=((G0 n).filter pr).map f
theorem sR (n:Nat) (pr:Nat->Bool) (f:Nat->V):iD (n+1) pr f=iD n pr f++(if pr n=true then [f n] else []):=by
 unfold iD;rw[List.range_succ,List.filter_append,G8]
 congr 1
 cases h:pr n<;>simp[List.filter_cons,h]
theorem wG (n:Nat) (pr:Nat->Bool) (f:Nat->V):(iD n pr f).length<=n:=by
 unfold iD;rw[F1];have:=List.length_filter_le pr (G0 n)
 rwa [GB] at this
theorem sS {J:It} {n:Nat} {js:List Nat} {tc:TT} {te:TE} {σ:L2.St} {H1:Hp} {Q:VK} (pr:Nat->Bool) (f:Nat->V) (hz:n<=sizeLine)
  (hgo:∀i H2,aA H1 H2->i<n->J.go i H2) (hst:∀H2,aA H1 H2->J.stop n H2)
  (step:∀i,i<n->∀H2 x H3,aA H1 H2->J.yld i H2 x H3->H3=H2/\(∀R:Bool->Hp->Prop,R (pr i) H2->tc (some x::bn js σ) H2 R)/\(pr i=true->∀Q':VK,Q' (f i) H2->te (some x::bn js σ) H2 Q'))
  (fin:∀p H',H1 p=none->aA H1 H'->H' p=some (.lst (iD n pr f))->Q 120 H'):lJ js tc te σ Q J H1:=by
 intro p hp;exists λi m ys H2=>i<=n/\m=n-i/\ys=iD i pr f/\aA H1 H2/\H2 p=some 184,(n,G4 _,rfl,rfl,Sw.ar hp _,ao)
 rintro i m ys H2 ⟨hi,rfl,rfl,g,e⟩;exists e
 by_cases hin:i<n
 ·refine .inr (hgo i H2 g hin,?_,λx H3 hy=>?_)
  ·have:=wG i pr f
   lia
  obtain ⟨rfl,h1,h2⟩:=step i hin H2 x H3 g hy;refine h1 _ ?_;have tk:=sR i pr f;cases hpr:pr i with
  |true=>
   rw[hpr,if_pos rfl] at tk;rw[if_pos rfl];exact h2 hpr _ (e,n-176,by lia,hin,rfl,tk.symm,Sw.dE g hp _,ao)
  |false=>
   rw[hpr,if_neg 73,Gn] at tk
   rw[if_neg 73]
   exact (n-176,by lia,hin,rfl,tk.symm,g,e)
 ·have e2:i=n:=by lia
  subst e2;exact .inl (hst H2 g,fin p H2 hp g e)
theorem wH {K:F6} {a:Addr} {xs:List V} {js:List Nat} {tc:TT} {te:TE} {σ:L2.St} {H1:Hp} {Q:VK} (pr:Nat->Bool) (f:Nat->V) (hS:aE K H1 a xs) (hz:xs.length<=sizeLine)
  (s1:∀i x,xs[i]?=some x->∀H2,aA H1 H2->∀R:Bool->Hp->Prop,R (pr i) H2->tc (some x::bn js σ) H2 R)
  (s2:∀i x,xs[i]?=some x->∀H2,aA H1 H2->∀Q':VK,Q' (f i) H2->te (some x::bn js σ) H2 Q')
  (fin:∀p H',H1 p=none->aA H1 H'->H' p=some (.lst (iD xs.length pr f))->Q 120 H'):lJ js tc te σ Q (zw K a) H1:=by
 refine sS pr f hz (λi H2 g hi=>(xs,xs[i],g.seq hS,F0 hi)) (λH2 g=>(xs,g.seq hS,F8 _)) (λi hi H2 x H3 g hy=>?_) fin
 obtain ⟨rfl,hx⟩:=hy;have ex:=hx xs (g.seq hS);exact (rfl,s1 i x ex _ g,λ_=>s2 i x ex _ g)
end L2
namespace Sw
open PySem L2 XH
theorem wI {K:F6} {a:Addr} {xs:List V} {n:Nat} {g:TG} {js:List Nat} {te:TE} {σ:L2.St} {H1:Hp} {Q:VK} (P:Nat->List V->Prop) (hS:aE K H1 a xs) (hz:xs.length<=sizeLine)
  (step:∀(i:Nat) (x:V),xs[i]?=some x->∀H3,aA H1 H3->∀o:L2.St,o.length=n->∀Q':VK,(∀(b:Addr) (zs:List V) (H4:Hp),H4 b=some (.tup zs)->P i zs->aA H3 H4->Q' (.ref b) H4)->
   g x (o++bn js σ) H3 λσ4 H4=>(∃o':L2.St,o'.length=n/\σ4=o'++bn js σ)/\te σ4 H4 Q')
  (fin:∀(p:Addr) (as:IN) (H':Hp),H1 p=none->as.length=xs.length->(∀(i:Nat) (b:Addr),as[i]?=some b->∃zs,H' b=some (.tup zs)/\P i zs)->aA H1 H'->H' p=some (.lst (as.map V.ref))->Q 120 H'):
  yn n g js te σ Q (zw K a) H1:=by
 intro p hp;exists λi m ys H2=>i<=xs.length/\m=xs.length-i/\∃as:IN,ys=as.map V.ref/\as.length=i/\(∀(j:Nat) (b:Addr),as[j]?=some b->∃zs,H2 b=some (.tup zs)/\P j zs)/\aA H1 H2/\H2 p=some 184,(xs.length,G4 _,rfl,[],rfl,rfl,λj y e=>by simp at e,ar hp _,ao)
 rintro i m ys H2 ⟨hi,rfl,as,rfl,hl,hP,g2,e⟩;exists e;have S2:=g2.seq hS
 by_cases hin:i<xs.length
 ·refine .inr ((xs,xs[i],S2,F0 hin),by rw[F1];lia,λx H3 hy o ho=>?_)
  obtain ⟨rfl,hx⟩:=hy;have ex:=hx xs S2;refine step i x ex H3 g2 o ho _ λb zs H4 hb pb g4=>(g4 _ _ e,xs.length-176,by lia,hin,rfl,as++ [b],by simp,by simp[hl],λj c hj=>?_,dE (g2.trans g4) hp _,ao)
  have kp:∀{c:Addr} {zs:List V} {o:HO},H4 c=some (.tup zs)->(aI H4 p o) c=some (.tup zs):=λ{c zs o} hc=>by
   rw[aJ (λz=>by subst z;rw[g4 _ _ e] at hc;cases hc)]
   exact hc
  by_cases hj':j<as.length
  ·rw[FU hj'] at hj;obtain ⟨zs',h1,h2⟩:=hP j c hj;exact (zs',kp (g4 _ _ h1),h2)
  ·have ej:j=i:=by
    have:=(F4.mp hj).1;simp at this
    lia
   subst ej;rw[F9 72,hl] at hj
   simp at hj;subst hj;exact (zs,kp hb,pb)
 ·have e2:i=xs.length:=by lia
  subst e2;exact .inl ((xs,S2,F8 _),fin p as H2 hp hl hP g2 e)
end Sw
namespace L2
open PySem PySem.Spec PyProof.Rows XH Sw So
end L2
namespace Sw
open PySem L2 XH Hm
theorem cX.append {α:Type} {R:Addr->α->Prop} {as bs:IN} {xs ys:List α} (h:cX R as xs) (k:cX R bs ys):cX R (as++bs) (xs++ys):=by
 refine (by simp[h.1,k.1],λi a x e1 e2=>?_)
 by_cases c:i<as.length
 ·rw[FU c] at e1;rw[FU (by rw[<-h.1];exact c)] at e2
  exact h.2 i a x e1 e2
 ·rw[F9 72] at e1
  rw[F9 (by rw[<-h.1];lia),<-h.1] at e2
  exact k.2 _ a x e1 e2
end Sw
namespace L2
open PySem PySem.Spec PyProof.Rows XH Sw Hm
end L2
namespace Sw
open PySem L2 XH Hm
abbrev Rn:=Int×Int×Int
noncomputable def rk (r:Rn):Ky:= [r.1,r.2.1,r.2.2]
noncomputable def bI:List Rn->List Int->List Int
 | [],M=>M
 |r::R,M=>r.1::r.2.1::bI R M
theorem fY (M:List Int):∀R:List Rn,(bI R M).length=2*R.length+M.length
 | []=>by simp[bI]
 |r::R=>by simp[bI,fY M R];lia
theorem lU (M:List Int):∀(R:List Rn) (i:Nat) (r:Rn),R[i]?=some r->(bI R M)[2*i]?=some r.1/\(bI R M)[2*i+1]?=some r.2.1
 | [],i,r,h=>by simp at h
 |q::R,0,r,h=>by
  simp at h;subst h;exact 199
 |q::R,i+1,r,h=>by
  have ih:=lU M R i r 214
  exact ih
theorem n2 {p A B:Prop} [Decidable p] (h1:¬p->A) (h2:p->B):if (!decide p)=true then A else B:=by
 by_cases h:p
 ·rw[if_neg (by simp[h])];exact h2 h
 ·rw[if_pos (by simp[h])];exact h1 h
theorem aL {α:Type} {xs:List α} {i:Nat} {v d:α} (h:xs[i]?=some v):xs.getD i d=v:=by rw[G9,h];rfl
theorem d9 {as:IN} {i:Nat} {y:V} (h:(as.map V.ref)[i]?=some y):∃a,as[i]?=some a/\y= .ref a:=by
 rw[F7] at h;obtain ⟨a,e,rfl⟩:=FT.mp h;exact (a,e,rfl)
theorem cu {α:Type} {f:α->V} {xs:List α} {i:Nat} {x:α} (h:xs[i]?=some x):(xs.map f)[i]?=some (f x):=by rw[F7,h];rfl
theorem gS {H:Hp} {bs:IN} {R:List Rn} (h:cX 125 bs (R.map rk)) {i:Nat} {b:Addr} (e:bs[i]?=some b):∃r:Rn,R[i]?=some r/\H b=some (.tup [.int r.1,.int r.2.1,.int r.2.2]):=by
 have il:i<R.length:=by
  have:=(F4.mp e).1;rw[h.1,F1] at this;exact this
 exact (_,F0 il,h.2 i b (rk R[i]) e (by rw[F7,F0 il];rfl))
theorem run_get {H:Hp} {bs:IN} {R:List Rn} (h:cX 125 bs (R.map rk)) {i:Nat} {r:Rn} (e:R[i]?=some r):∃b,bs[i]?=some b/\H b=some (.tup [.int r.1,.int r.2.1,.int r.2.2]):=by
 obtain ⟨b,hb,_⟩:=h.get (i:=i) (x:=rk r) (by rw[F7,e];rfl)
 obtain ⟨r',e',q⟩:=gS h hb;rw[e] at e';cases e';exact (b,hb,q)
def jY (n:Int) (k:Ky):Prop:=∃p q g:Int,k= [p,q,g]/\0<=p/\p<n/\0<=q/\q<n/\ -1000000000<=g/\g<=1000000000
theorem nA (M:List Int):∀R:List Rn,bI R []++M=bI R M
 | []=>rfl
 |r::R=>by simp[bI,nA M R]
theorem lV:∀{R:List Rn} {i:Nat} {r:Rn},R[i]?=some r->bI (R.take 176) []=bI (R.take i) []++ [r.1]++ [r.2.1]
 | [],i,r,h=>by simp at h
 |q::R,0,r,h=>by
  simp at h;subst h
  rfl
 |q::R,i+1,r,h=>by
  have ih:=lV (R:=R) (i:=i) (r:=r) 214
  show q.1::q.2.1::bI (R.take 176) []=q.1::q.2.1::(bI (R.take i) []++ [r.1]++ [r.2.1]);rw[ih]
theorem fm {a n:Int} (h:0<n):0<=a.fmod n/\a.fmod n<n:=(Int.fmod_nonneg_of_pos a h,Int.fmod_lt_of_pos a h)
theorem eK {H:Hp} {l t:Addr} {as:IN} {ks:List Ky} {k:Ky} (e:H l=some (.lst (as.map V.ref))) (r:cX 125 as ks) (h:H t=some (.tup (k.map V.int))):bx (aI H l (.lst (as.map V.ref++ [.ref t]))) l (ks++ [k]):=
 ⟨as++ [t],by rw[ao,G8];rfl,(r.snoc h).imp λt b q=>by rw[aJ (iX q e 185)];exact q⟩
theorem bx.upd {H:Hp} {l x:Addr} {ks:List Ky} {zs ys:List V} (h:bx H l ks) (ex:H x=some (.lst zs)) (xl:l≠x):bx (L2.aI H x 184) l ks:=by
 obtain ⟨as,e,r⟩:=h;exact ⟨as,by rw[aJ xl];exact e,r.imp λa k q=>by rw[aJ (iX q ex 185)];exact q⟩
theorem wJ (ns:List Int) (lo hi:Option Int):∃cs:List Int,jA 135 lo hi=cs.map V.int/\cs.length<=ns.length:=by
 unfold jA;exists (ns.drop _).take _,by rw[List.map_take,List.map_drop]
 rw[GA,HA]
 lia
theorem dR {H1 H':Hp} {x dx:Addr} {C:Addr} (nx:H1 x=none) (nd:H1 dx=none) (h:∀a o,a≠x->aI (aI H1 dx (.own x)) x (.ins C dx []) a=some o->H' a=some o):aA H1 H':=λa o e=>by
 have ax:a≠x:=λz=>by rw[z,nx] at e;cases e
 have ad:a≠dx:=λz=>by rw[z,nd] at e;cases e
 exact h a o ax (by rw[aJ ax,aJ ad];exact e)
end Sw
namespace L2
open PySem PySem.Spec PyProof.Rows XH Sw Hm
end L2
namespace Sw
open PySem L2 XH Hm
end Sw
namespace L2
open PySem PySem.Spec PyProof.Rows XH Sw Hm
end L2
namespace Sw
open PySem L2 XH Hm
end Sw
namespace L2
open PySem PySem.Spec PyProof.Rows XH Sw Hm
theorem wK {hd:IR} {n:Nat} {js:List Nat} {te:TE} {σ:L2.St} {H1:Hp} {Q:VK} (P:Hp->Nat->V->Hp->Prop) (hok:gQ hd H1) (hn:n<=sizeLine)
  (step:∀i,i<n->∀H3,aA H1 H3->∀Q':VK,(∀y H4,P H3 i y H4->aA H3 H4->Q' y H4)->te (some (.int 121)::bn js σ) H3 Q')
  (fin:∀(p:Addr) (ys:List V) (H':Hp),H1 p=none->ys.length=n->(∀(i:Nat) (y:V),ys[i]?=some y->∃H3 H4,aA H1 H3/\H3 p≠none/\P H3 i y H4/\∀b o,b≠p->H4 b=some o->H' b=some o)->aA H1 H'->H' p=some 184->Q 120 H'):kZ js te σ Q (v4 hd 0 n) H1:=by
 intro p hp;exists λi m ys H2=>i<=n/\m=n-i/\ys.length=i/\(∀(i:Nat) (y:V),ys[i]?=some y->∃H3 H4,aA H1 H3/\H3 p≠none/\P H3 i y H4/\∀b o,b≠p->H4 b=some o->H2 b=some o)/\aA H1 H2/\H2 p=some 184,(n,G4 _,rfl,rfl,λi y e=>by simp at e,Sw.ar hp _,ao)
 rintro i m ys H2 ⟨hi,rfl,hl,hP,g,e⟩;exists e
 by_cases hin:i<n
 ·refine .inr (hin,by lia,λx H3 hy=>?_)
  obtain ⟨rfl,rfl⟩:=hy;refine step i hin _ g _ λy H4 py g4=>(g4 _ _ e,n-176,by lia,hin,rfl,by simp[hl],λj y' e2=>?_,Sw.dE (g.trans g4) hp _,ao)
  by_cases hj:j<ys.length
  ·rw[FU hj] at e2;obtain ⟨A,B,q1,q2,q3,q4⟩:=hP j y' e2;exact (A,B,q1,q2,q3,λb o n q=>by rw[aJ n];exact g4 _ _ (q4 b o n q))
  ·have ej:j=i:=by
    have:=(F4.mp e2).1;simp at this
    lia
   subst ej;rw[F9 72,hl] at e2
   simp at e2;subst e2;exact (_,H4,g,by rw[e];exact nofun,py,λb o n q=>by rw[aJ n];exact q)
 ·have e2:i=n:=by lia
  subst e2;exact .inl ((F8 _,sH hok g),fin p ys H2 hp hl hP g e)
end L2
namespace Sw
open PySem L2 XH Hm
theorem iO {α:Type} {P:List α->Prop} (h:∀a,P [a]):∀us:List α,us.length=1->P us
 | [a],_=>h a
theorem cA {α:Type} {P:List α->Prop} (h:∀a b,P [a,b]):∀us:List α,us.length=2->P us
 | [a,b],_=>h a b
theorem eY {α:Type} {P:List α->Prop} (h:∀a b c,P [a,b,c]):∀us:List α,us.length=3->P us
 | [a,b,c],_=>h a b c
theorem jF {α:Type} {P:List α->Prop} (h:∀a b c d,P [a,b,c,d]):∀us:List α,us.length=4->P us
 | [a,b,c,d],_=>h a b c d
theorem yt {α:Type} {P:List α->Prop} (h:∀a b c d e,P [a,b,c,d,e]):∀us:List α,us.length=5->P us
 | [a,b,c,d,e],_=>h a b c d e
end Sw
namespace L2
open PySem PySem.Spec PyProof.Rows XH
theorem mP (t:SetTable) (n:Nat):(t.orStandIn n).led=t.led:=by
 unfold SetTable.orStandIn
 by_cases h:t.fits n=true
 ·rw[if_pos h]
 ·rw[if_neg h];rfl
theorem sT (t:SetTable) (es:Array 127) (h:Int) (x:Value):(layNew t es h x).2.1.led=t.led:=by
 cases e:t.freeSlot h with
 |none=>simp only[layNew,e];rfl
 |some r=>
  obtain ⟨slot,d⟩:=r;simp only[layNew,e];rw[mP]
  rfl
theorem qz {t t':SetTable} {hs:Array Int} {n:Nat} {order:Array Nat} (e:t.relaid hs n=some (t',order)):t'.led=t.led/\t'.plain=t.plain:=by
 unfold SetTable.relaid SetTable.laid at e;obtain ⟨o,_,e2⟩:=GM.mp e;simp only[pure,Option.some.injEq,Prod.mk.injEq] at e2;rw[<-e2.1];exact 199
theorem oP (t:SetTable) (es:Array 127) (n:Nat):(relayAll t es n).2.1.led=t.led:=by
 cases e:t.relaid (es.map (·.1)) n with
 |none=>simp only[relayAll,e];rfl
 |some r=>
  obtain ⟨t',order⟩:=r;simp only[relayAll,e]
  by_cases c:(coversAll order es.size&&t'.fits (order.filterMap (es[·]?)).size)=true
  ·rw[if_pos c];exact (qz e).1
  ·rw[if_neg c];rfl
section
variable {prog:Program} {w:World} {A:Around} {E:II} {s:Shared}
theorem mQ (a:Value) {Q₁:II}
  (h:∀led:Bool,(w.params.followText "set-order" =false->led=true)->Q₁ 161 {s with heap:=108 77}):
  codeAny 79 A (.call (.builtin "set.__new__") ⟨[.type "set",a],[]⟩) (wants Q₁ E) s:=by
 refine codeAny_of_tree ?_;show wpAny _ A.in1 (do checkBuiltinCall "set.__new__" ⟨[.type "set",a],[]⟩;again (.builtin "set.__new__" ⟨[.type "set",a],[]⟩)) _ _ s
 refine wpAny_bind (wpAny_of_eq (F.newCall_set_1 a) (wpAny_pure (plainId_quiet F.plain_set_new _,codeAny_builtin F.entry_set_new ?_)));rw[Around.under_plainId F.plain_set_new _];unfold Builtin.«set.__new__» Builtin.Frozenset.newClass;have hsub:=sub_set_self;obtain ⟨hp,g,d,tk,os⟩:=s;dsimp only
 wp_walk
 refine wpAny_askSetting 126;dsimp only;simp only[newObj];refine wpAny_bind (wpAny_alloc 126);refine wpAny_pure (h _ λe=>?_)
 show (!(model prog w).w.params.followText "set-order")=true;rw[show (model prog w).w=w from rfl,e]
 rfl
end
theorem qA:Manifest.owners.lookup (String.ofList ['r','o','t','a','r','e','t','i','_','t','e','s'].reverse)=some Manifest.sig_set_iterator:=by kernel_rfl
theorem bJ:Slot "set_iterator" "__next__" "set_iterator.__next__" :=
 .of (owner:= "set_iterator") (n:= "__next__") (by rw[typeLookup_type,builtinLookup_eq_fast];kernel_rfl) 78 78 78
  (by first|exact .inl (by decide+kernel)|exact .inr 78) (by rw[isSubtype_type];kernel_rfl)
theorem eA:entryFor table "set_iterator.__next__" =some Builtin.«set_iterator.__next__» :=entryFor_of_tree 211
theorem fq (a:Value):argsOk "set_iterator.__next__" ⟨[a],[]⟩:=by
 unfold argsOk;rw[signature?_of (id:= "set_iterator.__next__") (n:= ['_','_','t','x','e','n','_','_']) (o:= ['r','o','t','a','r','e','t','i','_','t','e','s']) 211 qA];kernel_rfl
theorem cC:Slot "set_iterator" "__iter__" "set_iterator.__iter__" :=
 .of (owner:= "set_iterator") (n:= "__iter__") (by rw[typeLookup_type,builtinLookup_eq_fast];kernel_rfl) 78 78 78
  (by first|exact .inl (by decide+kernel)|exact .inr 78) (by rw[isSubtype_type];kernel_rfl)
theorem fr (a:Value):argsOk "set_iterator.__iter__" ⟨[a],[]⟩:=by
 unfold argsOk;rw[signature?_of (id:= "set_iterator.__iter__") (n:= ['_','_','r','e','t','i','_','_']) (o:= ['r','o','t','a','r','e','t','i','_','t','e','s']) 211 qA];kernel_rfl
theorem lW:entryFor table "set.__iter__" =some Builtin.«frozenset.__iter__» :=
 entryFor_alias (id':= "frozenset.__iter__") 211 rfl 78 211
theorem eB:entryFor table "set_iterator.__iter__" =some Builtin.«dict_keyiterator.__iter__» :=
 entryFor_alias (id':= "dict_keyiterator.__iter__") 211 rfl 78 211
section
variable {prog:Program} {w:World} {A:Around} {E:II} {s:Shared}
theorem mR {M:Model} {src:Source} {n:Nat} {Q:Nat->Shared->Prop} (hn:n≠0) (h:∀i d,i<n->Q i {s with drawn:=d}):wpAny M A (choose src n) Q E s:=λ_ _ _=>by
 unfold choose;rw[Sem.wp_choose];exact (hn,by simpa using h _ _ (Nat.mod_lt _ (Nat.pos_of_ne_zero hn)))
theorem jG {α:Type}:∀(l:List α) (i:Nat) (h:i<l.length),(l[i]::l.eraseIdx i).Perm l
 | [],i,h=>by simp at h
 |x::xs,0,_=> .refl _
 |x::xs,i+1,h=>by
  have h':i<xs.length:=by simpa using h
  show (xs[i]::x::xs.eraseIdx i).Perm (x::xs);exact (List.Perm.swap _ _ _).trans ((jG xs i h').cons x)
theorem gU {M:Model} {α:Type}:∀(n:Nat) (xs:List α) (s:Shared) (Q:List α->Shared->Prop),xs.length=n->(∀ys d,ys.Perm xs->Q ys {s with drawn:=d})->wpAny M A (drawOrder n xs) Q E s
 |0,xs,s,Q,hl,h=>by
  have:xs= []:=List.length_eq_zero_iff.mp hl;subst this;unfold drawOrder;exact wpAny_pure (h [] s.drawn .nil)
 |n+1,[],s,Q,hl,h=>by cases hl
 |n+1,x::xs,s,Q,hl,h=>by
  unfold drawOrder;refine wpAny_bind (mR 82 λi d hi=>?_)
  have e:(x::xs)[i]?=some ((x::xs)[i]):=F0 hi;rw[e];dsimp only;refine wpAny_bind (gU n ((x::xs).eraseIdx i) {s with drawn:=d} _ (by rw[List.length_eraseIdx_of_lt hi,hl];rfl) λys d' hp=>wpAny_pure (h _ d' ?_))
  exact (hp.cons _).trans (jG _ i hi)
def dN (h:Heap) (a:Addr) (es:Array 127) (ep:Nat) (t:SetTable):Prop:=∃o,h.get? a=some o/\o.ExactSet/\o.data= .set es ep t/\t.fits es.size=true
noncomputable def rV (first:Value) (i:Nat) (S:Addr) (n ep:Nat):Obj:={cls:= .type "set_iterator",data:= .fields #[first,.int i 0,.ref S,.int n 0,.int ep 0]}
theorem oQ {a:Addr} {es:Array 127} {ep:Nat} {t:SetTable} (h:dN s.heap a es ep t):s.TypeIs 188 "set" :=let ⟨o,ho,hx,_⟩:=h;⟨o,ho,hx.1⟩
theorem yu {a:Addr} {es:Array 127} {ep:Nat} {t:SetTable} {Q:II} (hS:dN s.heap a es ep t) (hz:es.size<=sizeLine)
  (h1:(!w.params.followText "set-order" &&(!t.plain&&decide (es.size>1)))=false->Q 161 {s with heap:=108 (rV (.int 0 0) 0 a es.size ep)})
  (h2:(!w.params.followText "set-order" &&(!t.plain&&decide (es.size>1)))=true->∀(ys:List Nat) d,ys.Perm (G0 es.size)->
   Q (.ref (74+1)) {s with heap:=(108 109).push (rV 161 0 a es.size ep),drawn:=d}):
  wpAny 79 A (pyIter 188) Q E s:=by
 have hT:=oQ hS;obtain ⟨o,ho,hx,hd,hf⟩:=hS;refine wpAny_pyIter_slot hT F.slot_set_iter (wpAny_call_entry F.slot_set_iter hT lW ?_ (F.args_set_iter_1 _));unfold Builtin.«frozenset.__iter__»;refine wpAny_bind (m:=Builtin.Frozenset.slot0 _ _) ?_;show wpAny _ _ (pure a) _ _ s;refine wpAny_pure ?_;unfold Builtin.Frozenset.sizeOf setEntries;refine wpAny_bind (wpAny_bind (wpAny_bind (wpAny_setState_of ho hd hf 126)));refine wpAny_pure ?_;unfold setDrawn setsByText;refine wpAny_bind (wpAny_bind (wpAny_setState_of ho hd hf ?_));sleep 18;show wpAny _ _ (pure (!w.params.followText "set-order" &&(!t.plain&&decide (es.size>1)))) _ _ s;refine wpAny_pure ?_;cases c:(!w.params.followText "set-order" &&(!t.plain&&decide (es.size>1))) with
 |false=>
  simp only[GY,if_false];refine wpAny_bind 126;unfold setEpoch;refine wpAny_bind (wpAny_bind (wpAny_setState_of ho hd hf 126));refine wpAny_bind (wpAny_newObj_type (wpAny_pure (ν,"set_iterator",_,(_,Heap.get?_push_size _ rfl,rfl),bJ.lookup,?_)));exact h1 c
 |true=>
  simp only[if_true];refine wpAny_bind (gU es.size (G0 es.size) s _ 82 λys d hp=>?_)
  refine wpAny_bind (wpAny_newTuple ?_ (by rw[F1,hp.length_eq,GB];exact hz))
  unfold setEpoch;have ho':(s.heap.push 109).get? a=some o:=Heap.get?_push_of_some _ ho
  refine wpAny_bind (wpAny_bind (wpAny_setState_of (s:={s with heap:=_,drawn:=d}) ho' hd hf 126))
  refine wpAny_bind (wpAny_newObj_type (wpAny_pure (ν,"set_iterator",_,(_,87 _ rfl,rfl),bJ.lookup,?_)));have:=h2 c ys d hp;rw[<-Heap.size_push s.heap 109] at this
  exact this
end
section
variable {prog:Program} {w:World} {A:Around} {E:II} {s:Shared}
theorem dN.at {h h':Heap} {a:Addr} {es:Array 127} {ep:Nat} {t:SetTable} (x:dN h a es ep t) (k:∀o,h.get? a=some o->h'.get? a=some o):dN h' a es ep t:=let ⟨o,ho,r⟩:=x;⟨o,k o ho,r⟩
theorem eC {a:Addr} {es:Array 127} {ep:Nat} {t:SetTable} {Q:Array 127->Shared->Prop} (hS:dN s.heap a es ep t) (h:Q es s):wpAny 79 A (setEntries a) Q E s:=by
 obtain ⟨o,ho,_,hd,hf⟩:=hS;unfold setEntries;exact wpAny_bind (wpAny_setState_of ho hd hf (wpAny_pure h))
theorem eQ {a:Addr} {es:Array 127} {ep:Nat} {t:SetTable} {Q:(Array (Int×Value)×Nat×SetTable)->Shared->Prop} (hS:dN s.heap a es ep t) (h:Q (es,ep,t) s):wpAny 79 A (setState a) Q E s:=by
 obtain ⟨o,ho,_,hd,hf⟩:=hS;exact wpAny_setState_of ho hd hf h
theorem jH {I S:Addr} {es:Array 127} {ep i slot nx:Nat} {t:SetTable} {x:Value} {Q:IR->Shared->Prop} (hI:s.heap.get? I=some (rV (.int slot 0) i S es.size ep)) (hS:dN s.heap S es ep t)
  (hn:∀(A:Around) (E:II) (Q:Option (Value×Nat)->Shared->Prop),Q (some (x,nx)) s->wpAny 79 A (setNext S slot i ep) Q E s)
  (h:∀h',h'.get? I=some (rV (.int nx 0) 176 S es.size ep)->Heap.SameBut I s.heap h'->Q (some x) 205):wpAny 79 A (pyNext 215) Q E s:=by
 have hT:s.TypeIs 215 "set_iterator" :=(_,hI,rfl);unfold pyNext;refine wpAny_bind (wpAny_attempt (wpAny_callSpecial?_slot (name:=Str.ofString "__next__") hT bJ (wpAny_call_entry bJ hT eA ?_ (fq _))));sleep 1;refine wpAny_bind (eC hS ?_);rw[if_neg 82]
 show wpAny _ _ (setNext S (Int.toNat slot) (Int.toNat i) (Int.toNat ep)>>=_) _ _ s;simp only[FO];refine wpAny_bind (hn _ _ _ ?_);dsimp only;refine wpAny_bind (wpAny_setField_rec (vs:= #[.int slot 0,.int i 0,.ref S,.int es.size 0,.int ep 0]) hI 82 λh1 e1 s1=>?_)
 refine wpAny_bind (wpAny_setField_rec (s:={s with heap:=h1}) e1 82 λh2 e2 s2=>?_)
 exact wpAny_pure (ν,wpAny_pure (h h2 (by simpa [rV,rawInt] using e2) (s1.trans s2)))
theorem jI {I S:Addr} {es:Array 127} {ep i slot:Nat} {t:SetTable} {Q:IR->Shared->Prop} (hh:A.handled=none) (hI:s.heap.get? I=some (rV (.int slot 0) i S es.size ep)) (hS:dN s.heap S es ep t)
  (hn:∀(A:Around) (E:II) (Q:Option (Value×Nat)->Shared->Prop),Q none s->wpAny 79 A (setNext S slot i ep) Q E s)
  (h:∀h',Heap.ExtBut I s.heap h'->Q none 205):wpAny 79 A (pyNext 215) Q E s:=by
 have hT:s.TypeIs 215 "set_iterator" :=(_,hI,rfl);unfold pyNext;refine wpAny_bind (wpAny_attempt (wpAny_callSpecial?_slot (name:=Str.ofString "__next__") hT bJ (wpAny_call_entry bJ hT eA ?_ (fq _))));sleep 1;refine wpAny_bind (eC hS ?_);rw[if_neg 82]
 show wpAny _ _ (setNext S (Int.toNat slot) (Int.toNat i) (Int.toNat ep)>>=_) _ _ s;simp only[FO];refine wpAny_bind (hn _ _ _ ?_);dsimp only;refine wpAny_bind (wpAny_setField_rec (vs:= #[.int slot 0,.int i 0,.ref S,.int es.size 0,.int ep 0]) hI 82 λh1 e1 s1=>?_)
 show wpAny _ _ (newExc (.type "StopIteration") []>>=_) _ _ _;refine wpAny_bind ?_;simp only[newExc,newTuple];refine wpAny_bind (wpAny_newObj_type ?_ (by size_fits))
 refine wpAny_bind (m:=firstArgMember _ _) (wpAny_of_eq (a:=Value.none) (by first|rfl|(simp only[firstArgMember];rfl)) ?_)
 refine wpAny_newObj_type ?_ (by size_fits)
 simp only[raiseNew];refine wpAny_bind (wpAny_handled ?_);rw[show A.in1.handled=none from hh]
 refine wpAny_bind (wpAny_pure (wpAny_throw ?_));refine wpAny_bind (wpAny_isInstance (T:= "StopIteration") (b:=true) (_,87 _ rfl,rfl) isSubtype_stop ?_);exact wpAny_pure (h _ ((s1.extBut.push _).push _))
end
theorem jZ {α:Type} (nx:Nat->Nat):∀(f k:Nat) (l:List α) (out:Array α),l.length=f->(pickOrder.go nx f k l out).toList.Perm (out.toList++l)
 |0,k,l,out,h=>by
  have:l= []:=List.length_eq_zero_iff.mp h;subst this;simp[pickOrder.go]
 |f+1,k,l,out,h=>by
  have hp:0<l.length:=by lia
  have hi:nx k % l.length<l.length:=Nat.mod_lt _ hp;have e:l[nx k % l.length]?=some (l[nx k % l.length]):=F0 hi;rw[pickOrder.go,e];dsimp only;refine (jZ nx f 224 _ _ (by rw[List.length_eraseIdx_of_lt hi,h];rfl)).trans ?_
  rw[Array.toList_push,Gi];exact List.Perm.append_left _ (jG l _ hi)
theorem lX {α:Type} (nx:Nat->Nat) (xs:Array α):(pickOrder nx xs).toList.Perm xs.toList:=by
 unfold pickOrder
 simpa using jZ nx xs.size 0 xs.toList #[] 82
section
variable {prog:Program} {w:World} {A:Around} {E:II} {s:Shared}
theorem jh {S:Addr} {es:Array 127} {ep i slot:Nat} {t:SetTable} {Q:Option (Value×Nat)->Shared->Prop} (hS:dN s.heap S es ep t) (hb:w.params.followText "set-order" =true)
  (h:Q (((pickOrder (w.params.setOrder S ep) es)[i]?).map λe=>(e.2,slot)) s):wpAny 79 A (setNext S slot i ep) Q E s:=by
 unfold setNext setsByText;refine wpAny_bind (eQ hS ?_);sleep 18;rw[show ((model prog w).w.params.followText "set-order")=true from hb]
 simp only[if_true];rw[if_neg 82]
 unfold setWalk setsByText;refine wpAny_bind (wpAny_bind (eQ hS ?_));sleep 18;rw[show ((model prog w).w.params.followText "set-order")=true from hb]
 simp only[if_true];refine wpAny_bind (wpAny_askSetting 126);exact wpAny_pure h
theorem j2 {S:Addr} {es:Array 127} {ep i slot:Nat} {t:SetTable} {Q:Option (Value×Nat)->Shared->Prop} (hS:dN s.heap S es ep t) (hb:w.params.followText "set-order" =false) (few:es.size<=1) (ld:t.led=true)
  (h:Q (match es[SetTable.below t.place slot]?,t.place[SetTable.below t.place slot]? with|some (_,x),some j=>some (x,j+1)|_,_=>none) s):wpAny (model prog w) A (setNext S slot i ep) Q E s:=by
 unfold setNext setsByText;refine wpAny_bind (eQ hS ?_);sleep 18;rw[show ((model prog w).w.params.followText "set-order")=false from hb]
 simp only[GY,if_false];have d1:(!t.plain&&decide (es.size>1))=false:=by
  rw[decide_eq_false 72,Bool.and_false]
 have d2:(!t.led&& !es.isEmpty)=false:=by rw[ld];rfl
 show wpAny _ _ (if (!t.plain&&decide (es.size>1))=true then _ else _) _ _ s
 rw[d1];simp only[GY,if_false];refine wpAny_bind ?_;show wpAny _ _ (if (!t.led&& !es.isEmpty)=true then _ else _) _ _ s
 rw[d2];simp only[GY,if_false];refine wpAny_pure ?_;exact wpAny_pure h
theorem wM (hh:A.handled=none) (hb:w.params.followText "set-order" =true) (I S:Addr) (ne:S≠I) (es:Array 127) (ep:Nat) (t:SetTable):
  Walks prog w A I [I,S] [I] es.size (λi v=>∃e,(pickOrder (w.params.setOrder S ep) es).toList[i]?=some e/\v=e.2) (λi h=>h.get? I=some (rV (.int 0 0) i S es.size ep)/\dN h S es ep t) where
 sub:=λb hb=>by simp at hb;simp[hb]
 frame:=λ_ _ _ st hk=>⟨hk I 82 _ st.1,st.2.at λo e=>hk S 82 o e⟩
 item:=λi s Q E hi st hQ=>by
  have hz:(pickOrder (w.params.setOrder S ep) es).size=es.size:=by rw[<-FZ,(lX _ es).length_eq,FZ]
  obtain ⟨x,hx⟩:∃x,(pickOrder (w.params.setOrder S ep) es)[i]?=some x:=⟨_,Ga (by rw[hz];exact hi)⟩
  refine jH (slot:=0) (nx:=0) (x:=x.2) st.1 st.2 (λA E Q q=>jh st.2 hb ?_) λh' e' sb=>?_
  ·rw[hx];exact q
  ·refine hQ _ h' s.toks (_,by rw[GG];exact hx,rfl) (e',st.2.at λo e=>(sb.2 S ne).trans e) λb o hb e=>(sb.2 b λz=>hb 233).trans e
 done:=λs Q E st hQ=>by
  have hz:(pickOrder (w.params.setOrder S ep) es).size=es.size:=by rw[<-FZ,(lX _ es).length_eq,FZ]
  have hx:(pickOrder (w.params.setOrder S ep) es)[es.size]?=none:=HZ 72
  refine jI (slot:=0) hh st.1 st.2 (λA E Q q=>jh st.2 hb ?_) λh' xb=>hQ h' s.toks λb o hb e=>xb b o (λz=>hb 233) e
  rw[hx];exact q
 self:=λi s Q E st hQ=>by
  have hT:s.TypeIs 215 "set_iterator" :=(_,st.1,rfl);sleep 7
theorem uJ {α:Type}:∀{a:Array α},a.size=1->∃j,a= #[j]
 |⟨[j]⟩,_=>⟨j,rfl⟩
 |⟨[]⟩,h=>by simp at h
 |⟨_::_::_⟩,h=>by simp at h
theorem nB (j k:Nat):SetTable.below #[j] k=if j<k then 1 else 0:=by
 unfold SetTable.below;simp only[G6,GV,List.length_nil,SetTable.below.go]
 by_cases h:j<k<;>simp[h,SetTable.below.go]
theorem yw (hh:A.handled=none) (hb:w.params.followText "set-order" =false) (I S:Addr) (ne:S≠I) (es:Array 127) (ep:Nat) (t:SetTable) (few:es.size<=1) (ld:t.led=true) (ft:t.fits es.size=true):
  Walks prog w A I [I,S] [I] es.size (λi v=>∃e,es.toList[i]?=some e/\v=e.2) (λi h=>(∃slot:Nat,(i=0->slot=0)/\(i≠0->∃j,t.place[0]?=some j/\slot=j+1)/\h.get? I=some (rV (.int slot 0) i S es.size ep))/\dN h S es ep t) where
 sub:=λb hb=>by simp at hb;simp[hb]
 frame:=λ_ _ _ st hk=>⟨let ⟨sl,a,b,c⟩:=st.1;⟨sl,a,b,hk I (by simp) _ c⟩,st.2.at λo e=>hk S (by simp) o e⟩
 item:=λi s Q E hi st hQ=>by
  sleep 27;have i0:i=0:=by lia
  subst i0;cases z1 rfl;have pz:t.place.size=1:=by
   simp only[SetTable.fits,GF,beq_iff_eq] at ft
   lia
  obtain ⟨j,ej⟩:=uJ pz;obtain ⟨x,hx⟩:∃x,es[0]?=some x:=⟨_,Ga hi⟩;refine jH (slot:=0) (nx:=j+1) (x:=x.2) hI hS (λA E Q q=>j2 hS hb few ld ?_) λh' e' sb=>?_
  ·rw[ej,nB];simp only[Gz,if_false,hx];exact q
  ·exact hQ _ h' s.toks (_,by rw[GG];exact hx,rfl) ((j+1,λz=>72,λ_=>(j,by rw[ej];rfl,rfl),e'),hS.at λo e=>(sb.2 S ne).trans e) λb o hb e=>(sb.2 b λz=>hb 233).trans e
 done:=λs Q E st hQ=>by
  sleep 27;refine jI (slot:=slot) hh hI hS (λA E Q q=>j2 hS hb few ld ?_) λh' xb=>hQ h' s.toks λb o hb e=>xb b o (λz=>hb 233) e
  have hn:es[SetTable.below t.place slot]?=none:=by
   by_cases e0:es.size=0
   ·exact HZ 72
   ·obtain ⟨j,e1,e2⟩:=z2 e0;have pz:t.place.size=1:=by
     simp only[SetTable.fits,GF,beq_iff_eq] at ft
     lia
    have ej:t.place= #[j]:=by
     obtain ⟨j',ej'⟩:=uJ pz;rw[ej'] at e1;simp at e1;rw[ej',e1]
    rw[ej,nB,e2,if_pos 72]
    exact HZ 72
  rw[hn];exact q
 self:=λi s Q E st hQ=>by
  sleep 27;have hT:s.TypeIs 215 "set_iterator" :=(_,hI,rfl);sleep 7
end
section
variable {prog:Program} {w:World} {A:Around} {E:II} {s:Shared}
theorem sU {I S T:Addr} {es:Array 127} {ep i j:Nat} {t:SetTable} {e:Int×Value} {ys:List Nat} {Q:IR->Shared->Prop} (hI:s.heap.get? I=some (rV (.ref T) i S es.size ep)) (hS:dN s.heap S es ep t)
  (hT:s.heap.get? T=some 109) (hj:ys[i]?=some j) (he:es[j]?=some e)
  (h:∀h',h'.get? I=some (rV (.ref T) 176 S es.size ep)->Heap.SameBut I s.heap h'->Q (some e.2) 205):wpAny 79 A (pyNext 215) Q E s:=by
 have hT':s.TypeIs 215 "set_iterator" :=(_,hI,rfl);unfold pyNext;refine wpAny_bind (wpAny_attempt (wpAny_callSpecial?_slot (name:=Str.ofString "__next__") hT' bJ (wpAny_call_entry bJ hT' eA ?_ (fq _))));sleep 1;refine wpAny_bind (eC hS ?_);rw[if_neg 82]
 show wpAny _ _ (seqItems? (.ref T)>>=_) _ _ s;refine wpAny_bind (wpAny_seqItems hT rfl ?_);have hp:((ys.map λ(i:Nat)=>rawInt i).toArray)[(i:Int).toNat]?=some (.int (j:Int) 0):=by
  simp[hj,rawInt]
 dsimp only;rw[hp];dsimp only;unfold setNextDrawn;refine wpAny_bind (wpAny_bind (eQ hS ?_));dsimp only;rw[if_neg 82]
 simp only[FO,he];refine wpAny_pure ?_;refine wpAny_bind (wpAny_setField_rec (vs:= #[.ref T,.int i 0,.ref S,.int es.size 0,.int ep 0]) hI 82 λh1 e1 s1=>?_)
 exact wpAny_pure (ν,wpAny_pure (h h1 (by simpa [rV,rawInt] using e1) s1))
theorem sV {I S T:Addr} {es:Array 127} {ep i:Nat} {t:SetTable} {ys:List Nat} {Q:IR->Shared->Prop} (hh:A.handled=none) (hI:s.heap.get? I=some (rV (.ref T) i S es.size ep)) (hS:dN s.heap S es ep t)
  (hT:s.heap.get? T=some 109) (hj:ys[i]?=none)
  (h:∀h',Heap.ExtBut I s.heap h'->Q none 205):wpAny 79 A (pyNext 215) Q E s:=by
 have hT':s.TypeIs 215 "set_iterator" :=(_,hI,rfl);unfold pyNext;refine wpAny_bind (wpAny_attempt (wpAny_callSpecial?_slot (name:=Str.ofString "__next__") hT' bJ (wpAny_call_entry bJ hT' eA ?_ (fq _))));sleep 1;refine wpAny_bind (eC hS ?_);rw[if_neg 82]
 show wpAny _ _ (seqItems? (.ref T)>>=_) _ _ s;refine wpAny_bind (wpAny_seqItems hT rfl ?_);have hp:((ys.map λ(i:Nat)=>rawInt i).toArray)[(i:Int).toNat]?=none:=by
  have:=Hj.mp hj
  simpa using this
 dsimp only;rw[hp];dsimp only;refine wpAny_bind (wpAny_setField_rec (vs:= #[.ref T,.int i 0,.ref S,.int es.size 0,.int ep 0]) hI 82 λh1 e1 s1=>?_)
 refine wpAny_bind (wpAny_setField_rec (s:={s with heap:=h1}) e1 82 λh2 e2 s2=>?_)
 show wpAny _ _ (newExc (.type "StopIteration") []>>=_) _ _ _;refine wpAny_bind ?_;simp only[newExc,newTuple];refine wpAny_bind (wpAny_newObj_type ?_ (by size_fits))
 refine wpAny_bind (m:=firstArgMember _ _) (wpAny_of_eq (a:=Value.none) (by first|rfl|(simp only[firstArgMember];rfl)) ?_)
 refine wpAny_newObj_type ?_ (by size_fits)
 simp only[raiseNew];refine wpAny_bind (wpAny_handled ?_);rw[show A.in1.handled=none from hh]
 refine wpAny_bind (wpAny_pure (wpAny_throw ?_));refine wpAny_bind (wpAny_isInstance (T:= "StopIteration") (b:=true) (_,87 _ rfl,rfl) isSubtype_stop ?_);exact wpAny_pure (h _ (((s1.trans s2).extBut.push _).push _))
theorem wN (hh:A.handled=none) (I S T:Addr) (ne:S≠I) (nT:T≠I) (es:Array 127) (ep:Nat) (t:SetTable) (ys:List Nat) (hy:ys.Perm (G0 es.size)):
  Walks prog w A I [I,S,T] [I] es.size (λi v=>∃j e,ys[i]?=some j/\es[j]?=some e/\v=e.2)
   (λi h=>h.get? I=some (rV (.ref T) i S es.size ep)/\dN h S es ep t/\h.get? T=some 109) where
 sub:=λb hb=>by simp at hb;simp[hb]
 frame:=λ_ _ _ st hk=>⟨hk I 82 _ st.1,st.2.1.at λo e=>hk S 82 o e,hk T 82 _ st.2.2⟩
 item:=λi s Q E hi st hQ=>by
  have hl:ys.length=es.size:=by rw[hy.length_eq,GB]
  obtain ⟨j,hj⟩:∃j,ys[i]?=some j:=⟨_,F0 (by rw[hl];exact hi)⟩
  have jl:j<es.size:=GE.mp (hy.mem_iff.mp (F5 hj));obtain ⟨e,he⟩:∃e,es[j]?=some e:=⟨_,Ga jl⟩;refine sU st.1 st.2.1 st.2.2 hj he λh' e' sb=>?_
  exact hQ _ h' s.toks (j,e,hj,he,rfl) (e',st.2.1.at λo e=>(sb.2 S ne).trans e,(sb.2 T nT).trans st.2.2) λb o hb e=>(sb.2 b λz=>hb 233).trans e
 done:=λs Q E st hQ=>by
  have hl:ys.length=es.size:=by rw[hy.length_eq,GB]
  exact sV hh st.1 st.2.1 st.2.2 (GT 72) λh' xb=>hQ h' s.toks λb o hb e=>xb b o (λz=>hb 233) e
 self:=λi s Q E st hQ=>by
  have hT:s.TypeIs 215 "set_iterator" :=(_,st.1,rfl);sleep 7
end
open Sw So
theorem aR.drew {X:Cx} {pins:IK} {σ:List (Option V)} {H:Hp} {s:Shared} {d:Drawn} (I:aR X pins σ H s):aR X pins σ H {s with drawn:=d}:=
 ⟨I.ok,I.os,I.bare,I.base,I.loc,I.cell,I.free,I.freeC,I.pin,I.hok,I.len⟩
section
variable {prog:Program} {w:World} {A:Around} {E:II} {s:Shared}
theorem yx {r:Addr} {Q:Bool->Shared->Prop} (hT:s.TypeIs (.ref r) "set") (h:Q false s):wpAny 79 A (Builtin.List.listLengthHint (.ref r)) Q E s:=by
 unfold Builtin.List.listLengthHint;refine wpAny_bind (wpAny_specialOf hT PySem.F.slot_set_len.lookup ?_);generalize hid:("set.__len__" :String)=id0
 wp_delta
 rw[show splitId id0=some ("set","__len__") from by subst hid;decide+kernel]
 subst hid;refine wpAny_bind (wpAny_isInstance (T:= "set") (b:=true) hT (by rw[isSubtype_type];kernel_rfl) ?_)
 refine wpAny_ite_split (λhab=>absurd hab 73) (λ_=>?_)
 refine wpAny_ite_split (λ_=>?_) (λhab=>absurd 78 hab)
 refine wpAny_bind (wpAny_typeOf hT ?_);exact wpAny_pure h
end
def Ri (xs:Array Nat):Prop:=xs.toList.Pairwise (· < ·)
theorem Ri.lt {xs:Array Nat} (h:Ri xs) {i k:Nat} (ik:i<k) (hk:k<xs.size):xs[i]'(Nat.lt_trans ik hk)<xs[k]:=by
 have:=Hi.mp h i k (by simpa using Nat.lt_trans ik hk) (by simpa using hk) ik
 simpa using this
theorem Ri.le {xs:Array Nat} (h:Ri xs) {i k:Nat} (ik:i<=k) (hk:k<xs.size):xs[i]'(Nat.lt_of_le_of_lt ik hk)<=xs[k]:=by
 rcases Nat.lt_or_eq_of_le ik with q|q
 ·exact Nat.le_of_lt (h.lt q hk)
 ·subst q;exact F8 _
theorem lY {xs:Array Nat} (hr:Ri xs) (j:Nat):∀(f lo hi:Nat),hi<=xs.size->lo<=hi->hi-lo<=f->(∀i (h:i<xs.size),i<lo->xs[i]<j)->(∀i (h:i<xs.size),hi<=i->j<=xs[i])->
  SetTable.below.go xs j f lo hi<=xs.size/\(∀i (h:i<xs.size),i<SetTable.below.go xs j f lo hi->xs[i]<j)/\(∀i (h:i<xs.size),SetTable.below.go xs j f lo hi<=i->j<=xs[i])
 |0,lo,hi,h1,h2,h3,h4,h5=>by
  have e:lo=hi:=by lia
  subst e;exact (h1,h4,h5)
 |f+1,lo,hi,h1,h2,h3,h4,h5=>by
  unfold SetTable.below.go
  by_cases c:lo<hi
  ·rw[if_pos c];have hm:(lo+hi)/2<xs.size:=by lia
   have eg:xs.getD ((lo+hi)/2) j=xs[(lo+hi)/2]:=by simp[Array.getD,hm]
   dsimp only;rw[eg]
   by_cases c2:xs[(lo+hi)/2]<j
   ·rw[if_pos c2];exact lY hr j f _ _ h1 72 72 (λi h q=>Nat.lt_of_le_of_lt (hr.le (Nat.le_of_lt_succ q) hm) c2) h5
   ·rw[if_neg c2];exact lY hr j f _ _ 72 72 72 h4 λi h q=>Gf (Nat.not_lt.mp c2) (hr.le q h)
  ·rw[if_neg c];have e:lo=hi:=by lia
   subst e;exact (h1,h4,h5)
theorem qC {xs:Array Nat} (hr:Ri xs) (j:Nat):SetTable.below xs j<=xs.size/\(∀i (h:i<xs.size),i<SetTable.below xs j->xs[i]<j)/\(∀i (h:i<xs.size),SetTable.below xs j<=i->j<=xs[i]):=
 lY hr j xs.size 0 xs.size 160 (G4 _) 72 (λi h q=>absurd q (Gz _)) λi h q=>absurd h (Nat.not_lt.mpr q)
theorem wO {t:SetTable} {j:Nat} (hr:Ri t.place) (nl:t.place[SetTable.below t.place j]?≠some j):Ri (t.put j).1.place:=by
 obtain ⟨b1,b2,b3⟩:=qC hr j;show (SetTable.insertAt t.place (SetTable.below t.place j) j).toList.Pairwise (· < ·);generalize SetTable.below t.place j=p at*;have tl:(SetTable.insertAt t.place p j).toList=t.place.toList.take p++j::t.place.toList.drop p:=by
  simp[SetTable.insertAt,Array.toList_extract,List.extract_eq_drop_take];rw[Hc 82]
 rw[tl,Gr];have hp:(t.place.toList.take p++t.place.toList.drop p).Pairwise (· < ·):=by rw[GS];exact hr
 rw[Gr] at hp;have up:∀y∈t.place.toList.drop p,j<y:=λy hy=>by
  obtain ⟨i,hi⟩:=FR.mp hy;rw[List.getElem?_drop,GG] at hi;obtain ⟨hl,rfl⟩:=Hd.mp hi;have:=b3 _ hl (Nat.le_add_right _ _);rcases Nat.lt_or_eq_of_le this with q|q
  ·exact q
  ·rcases Nat.eq_zero_or_pos i with z|z
   ·subst z;exact absurd (show t.place[p]?=some j from hi.trans (congrArg some q.symm)) nl
   ·have hpl:p<t.place.size:=by lia
    have l1:=b3 p hpl 160;have l2:=hr.lt (i:=p) (k:=p+i) 72 hl
    lia
 refine (hp.1,Ha.mpr (up,hp.2.1),λx hx y hy=>?_)
 have xl:x<j:=by
  obtain ⟨i,hi⟩:=FR.mp hx;rw[List.getElem?_take] at hi
  split at hi
  ·rename_i q;rw[GG] at hi;obtain ⟨hl,rfl⟩:=Hd.mp hi;exact b2 _ hl q
  ·cases hi
 rcases FW.mp hy with q|q
 ·rw[q];exact xl
 ·exact Nat.lt_trans xl (up y q)
theorem yy {t:SetTable} {j:Nat} (h:∀i,t.slot j≠ .live i):t.place[SetTable.below t.place j]?≠some j:=λe=>by
 refine h (SetTable.below t.place j) ?_;unfold SetTable.slot;simp[e]
theorem jJ {t:SetTable} {hs:Nat->Int} {h:Int}:∀(f:Nat) (p:SetTable.Probe),(∀d,p.dummy=some d->∀i,t.slot d≠ .live i)->∀{j:Nat} {dm:Option Nat},SetTable.probe.go t hs h f p=some (.empty j dm)->∀i,t.slot (dm.getD j)≠ .live i
 |0,p,hd,j,dm,e=>by cases e
 |f+1,p,hd,j,dm,e=>by
  unfold SetTable.probe.go at e;cases c:t.slot p.j with
  |empty=>
   rw[c] at e;cases e;cases q:p.dummy with
   |none=>intro i;show t.slot p.j≠_;rw[c];exact λz=>nomatch z
   |some d=>exact hd d q
  |dummy=>
   rw[c] at e;refine jJ f _ (λd hd'=>?_) e
   have:d=p.j:=by
    unfold SetTable.advance at hd'
    split at hd'<;>(cases hd';rfl)
   subst this;intro i;rw[c];exact λz=>nomatch z
  |live i=>
   rw[c] at e;dsimp only at e
   split at e
   ·cases e
   ·refine jJ f _ (λd hd'=>?_) e
    refine hd d ?_;unfold SetTable.advance at hd'
    split at hd'<;>exact hd'
theorem oR {t:SetTable} {h:Int} {j:Nat} {b:Bool} (e:t.freeSlot h=some (j,b)):t.place[SetTable.below t.place j]?≠some j:=by
 unfold SetTable.freeSlot at e;cases q:t.probe (λ_=>h+1) h (t.probeStart h) with
 |none=>rw[q] at e;cases e
 |some m=>
  rw[q] at e;cases m with
  |empty k dm=>
   cases e;exact yy (jJ _ _ (λd hd=>by cases (show (none:Option Nat)=some d from hd)) q)
  |candidate _ _ _=>cases e
theorem oS {t:SetTable} {es:Array 127} {h:Int} {x:Value} (hr:t.plain=true->Ri t.place):(layNew t es h x).2.1.plain=true->Ri (layNew t es h x).2.1.place:=by
 cases e:t.freeSlot h with
 |none=>simp only[layNew,e];intro z;cases z
 |some r=>
  obtain ⟨j,b⟩:=r;simp only[layNew,e];unfold SetTable.orStandIn
  split
  ·intro z;exact wO (hr z) (oR e)
  ·intro z;cases z
theorem sW {mask finger moves:Nat} {led plain:Bool} {hs:Array Int} {t:SetTable} {o:Array Nat} (e:SetTable.laid mask finger moves led plain hs=some (t,o)):Ri t.place:=by
 unfold SetTable.laid at e;obtain ⟨ow,_,e2⟩:=GM.mp e;simp only[pure,Option.some.injEq,Prod.mk.injEq] at e2;rw[<-e2.1];show List.Pairwise (· < ·) _;dsimp only;rw[HJ,List.pairwise_filterMap];refine (List.pairwise_lt_range).imp λ{a b} ab x hx y hy=>?_
 obtain ⟨k,_,rfl⟩:=FT.mp hx;obtain ⟨k',_,rfl⟩:=FT.mp hy;exact ab
theorem lZ {t:SetTable} {es:Array 127} {n:Nat} (h:(relayAll t es n).2.1.plain=true):Ri (relayAll t es n).2.1.place:=by
 cases e:t.relaid (es.map (·.1)) n with
 |none=>simp only[relayAll,e] at h;cases h
 |some r=>
  obtain ⟨t',order⟩:=r;simp only[relayAll,e] at h⊢
  by_cases c:(coversAll order es.size&&t'.fits (order.filterMap (es[·]?)).size)=true
  ·rw[if_pos c];exact sW e
  ·rw[if_neg c] at h;cases h
noncomputable def j4:Value->Int
 | .int y _=>y
 |_=>default
def Bp (prog:Program) (w:World) (e:Int×Value):Prop:=∃y t,e=((aO prog w).hash (.inl y),.int y t)
def rW (prog:Program) (w:World) (h:Heap) (a:Addr) (ys:List Int):Prop:=
 ∃o es ep t,h.get? a=some o/\o.ExactSet/\o.data= .set es ep t/\(∀e∈es.toList,Bp prog w e)/\(es.toList.map λe=>j4 e.2).Perm ys/\es.size<scanBound/\t.fits es.size=true/\
  (w.params.followText "set-order" =false->t.led=true)/\(t.plain=true->Ri t.place)
theorem uK {prog:Program} {w:World} {y:Int} {t:Tok}:(aO prog w).is (.inl y) (.int y t)=true:=kW (k:= .inl y) (t,rfl)
theorem me {prog:Program} {w:World} {l:List 127} (h:∀e∈l,Bp prog w e):ElemsOf (aO prog w) l:=λe he=>by
 obtain ⟨y,t,rfl⟩:=h e he;exact ((.inl y,uK,rfl),rfl)
noncomputable def insI (ys:List Int) (y:Int):List Int:=if y∈ys then ys else ys++ [y]
section
variable {prog:Program} {w:World} {A:Around} {E:II} {s:Shared}
theorem yz {h:Heap} {a:Addr} {ys:List Int} {es:Array 127} (te:∀e∈es.toList,Bp prog w e) (pm:(es.toList.map λe=>j4 e.2).Perm ys) (y:Int):
  (∃e∈es.toList,(aO prog w).is (.inl y) e.2=true)↔y∈ys:=by
 rw[<-pm.mem_iff,FN];constructor
 ·rintro ⟨e,he,q⟩;obtain ⟨z,t,rfl⟩:=te e he;obtain ⟨t',e'⟩:=uC q;cases e';exact (_,he,rfl)
 ·rintro ⟨e,he,q⟩;obtain ⟨z,t,rfl⟩:=te e he;cases q;exact (_,he,uK)
theorem uL {g:Bool->Sem Unit} (hg:∀(b:Bool) (s₁:Shared) (Q':Unit->Shared->Prop),Q' () s₁->wpAny 79 A (g b) Q' E s₁)
  {a:Addr} {o:Obj} {es:Array 127} {ep:Nat} {t:SetTable} (ho:s.heap.get? a=some o) (hex:o.ExactSet) (hd:o.data= .set es ep t)
  {es1:Array 127} {t2:SetTable} {ys:List Int} (te:∀e∈es1.toList,Bp prog w e) (pm:(es1.toList.map λe=>j4 e.2).Perm ys)
  (hb1:es1.size<scanBound) (hf2:t2.fits es1.size=true) (ld:w.params.followText "set-order" =false->t2.led=true) (pl:t2.plain=true->Ri t2.place) {wasDummy:Bool} {R:Option Bool->Shared->Prop}
  (h:∀h',Heap.SameBut a s.heap h'->rW prog w h' a ys->R (some true) 205):
  wpAny 79 A (do
    storeSet a es1 t2
    if (!wasDummy&&t2.tooFull)=true then do
      g (relayAll t2 es1 172).2.2
      storeSet a (relayAll t2 es1 172).1 (relayAll t2 es1 172).2.1
      pure (some true)
     else pure (some true)) R E s:=by
 refine wpAny_bind (wpAny_storeSet_of ho hd ?_ (fits_of_scanBound hb1));obtain ⟨ho1,_⟩:=SetOf_store (knd:=aO prog w) (S':=λk=>decide (∃e∈es1.toList,(aO prog w).is k e.2=true)) ho hex hd (me te) (λk=>by simp) hb1 hf2
 have hsb1:=Heap.SameBut.update s.heap a (Obj.putSet es1 t2)
 split
 ·have hp:=relayAll_perm t2 es1 172;have hfr:=relayAll_fits t2 es1 172;have hl:=oP t2 es1 172;have hpl:= @lZ t2 es1 172;generalize hRl:relayAll t2 es1 172=Rl at hp hfr hl hpl⊢;obtain ⟨es2,t3,gave2⟩:=Rl;dsimp only at hp hfr hl hpl⊢;have te2:∀e∈es2.toList,Bp prog w e:=λe he=>te e (hp.mem_iff.mp he)
  have hsz:es2.size=es1.size:=by rw[<-FZ,hp.length_eq,FZ]
  have hb2:es2.size<scanBound:=by rw[hsz];exact hb1
  refine wpAny_bind (hg _ _ _ ?_);refine wpAny_bind (wpAny_storeSet_of ho1 rfl ?_ (fits_of_scanBound hb2));obtain ⟨ho2,_⟩:=SetOf_store (knd:=aO prog w) (S':=λk=>decide (∃e∈es2.toList,(aO prog w).is k e.2=true)) ho1 hex rfl (me te2) (λk=>by simp) hb2 hfr
  exact wpAny_pure (h _ (hsb1.trans (Heap.SameBut.update _ a _)) (_,es2,_,t3,ho2,hex,rfl,te2,(hp.map _).trans pm,hb2,hfr,λb=>hl.trans (ld b),hpl))
 ·exact wpAny_pure (h _ hsb1 (_,es1,_,t2,ho1,hex,rfl,te,pm,hb1,hf2,ld,pl))
theorem Bq {a:Addr} {ys:List Int} {y:Int} {tk:Tok} {Q:Bool->Shared->Prop} (hS:rW prog w s.heap a ys) (room:ys.length+1<scanBound)
  (h:∀h',Heap.SameBut a s.heap h'->rW prog w h' a (insI ys y)->∀b,Q b 205):
  wpAny 79 A (setAddHashed a (.int y tk) ((aO prog w).hash (.inl y))) Q E s:=by
 obtain ⟨o,es,ep,t,ho,hex,hd,te,pm,hb,hf,ld,pl⟩:=hS;have hel:=me te;have hsz:es.size=ys.length:=by rw[<-FZ,<-F1 (λe:Int×Value=>j4 e.2),pm.length_eq]
 unfold setAddHashed setAddHashedIn;refine wpAny_holding (wpAny_bind (wpAny_setState_of ho hd hf ?_));dsimp only;rw[byScan_of (knd:=aO prog w) (x:= .int y tk) rfl hb hel];simp only[↓reduceIte];unfold setAddByScan;refine wpAny_bind ?_;refine wpAny_bind (wpAny_rule ?_);refine wpAny_bind (wpAny_setScan_of (knd:=aO prog w) (k:= .inl y) uK ho hd hf hel ?_);cases hr:List.findIdx? (λe=>(aO prog w).is (.inl y) e.2) es.toList with
 |some j=>
  dsimp only;obtain ⟨hj,hpj,_⟩:=List.findIdx?_eq_some_iff_getElem.mp hr;have hm:y∈ys:=(yz (h:=s.heap) (a:=a) te pm y).mp (es.toList[j],G5 hj,hpj);refine wpAny_pure 126;have e:s={s with heap:=s.heap}:=by cases s;rfl
  rw[e];refine h s.heap (Heap.SameBut.refl a s.heap) ?_ _;rw[insI,if_pos hm];exact (o,es,ep,t,ho,hex,hd,te,pm,hb,hf,ld,pl)
 |none=>
  dsimp only;have hm:y∉ys:=λhm=>by
   obtain ⟨e,he,q⟩:=(yz (h:=s.heap) (a:=a) te pm y).mpr hm;have:=List.findIdx?_eq_none_iff.mp hr e he;rw[q] at this;cases this
  have hgw:∀(b:Bool) {s₁:Shared} {Q':Unit->Shared->Prop},Q' () s₁->wpAny 79 A (match b with|true=>rule "set.scan.the-table-gave-way" |false=>pure ()) Q' E s₁:=
   λb s₁ Q' hq=>by cases b<;>first|exact wpAny_pure hq|exact wpAny_rule hq
  have hperm:=layNew_perm t es ((aO prog w).hash (.inl y)) (.int y tk);have hfits:=layNew_fits t es ((aO prog w).hash (.inl y)) (.int y tk);have hled:=sT t es ((aO prog w).hash (.inl y)) (.int y tk);have hri:=oS (es:=es) (h:=(aO prog w).hash (.inl y)) (x:= .int y tk) pl;generalize hL:layNew t es ((aO prog w).hash (.inl y)) (.int y tk)=L at hperm hfits hled hri⊢;obtain ⟨es1,t1,wasDummy,gave⟩:=L;dsimp only at hperm hfits hled hri⊢;rw[Array.toList_push] at hperm;have te1:∀e∈es1.toList,Bp prog w e:=λe he=>by
   rcases FS.mp (hperm.mem_iff.mp he) with q|q
   ·exact te e q
   ·rw[FM.mp q];exact (y,tk,rfl)
  have pm1:(es1.toList.map λe=>j4 e.2).Perm (insI ys y):=by
   rw[insI,if_neg hm];refine (hperm.map _).trans ?_;rw[G8];exact pm.append_right _
  have hb1':es1.size<scanBound:=by
   rw[<-FZ,hperm.length_eq,FP,FZ,hsz];exact room
  refine wpAny_bind (hgw _ ?_)
  split
  ·refine wpAny_bind ?_;rw[hashByValue_scannable 8 (x:= .int y tk) rfl];refine wpAny_pure ?_;simp only[show plainKind (Value.int y tk)=true from rfl,if_true]
   refine uL ?_ ho hex hd te1 pm1 hb1' hfits ?_ hri ?_
   ·intro b s₁ Q' hq;cases b<;>first|exact wpAny_pure hq|exact wpAny_rule hq
   ·exact λb=>hled.trans (ld b)
   ·intro h' hsb hS';dsimp only;exact wpAny_pure (h h' hsb hS' _)
  ·rename_i np;refine wpAny_bind 126;simp only[↓reduceIte];refine uL ?_ ho hex hd te1 pm1 hb1' hfits ?_ hri ?_
   ·intro b s₁ Q' hq;cases b<;>first|exact wpAny_pure hq|exact wpAny_rule hq
   ·exact λb=>hled.trans (ld b)
   ·intro h' hsb hS';dsimp only;exact wpAny_pure (h h' hsb hS' _)
end
noncomputable def qD (xs:List Int) (i:Nat):List Int:=(xs.take i).foldl insI []
theorem qE {xs:List Int} {i:Nat} {y:Int} (h:xs[i]?=some y):qD xs 176=insI (qD xs i) y:=by
 unfold qD;rw[Gv,h,Option.toList_some,List.foldl_append]
 rfl
theorem qF (ys:List Int) (y:Int):(insI ys y).length<=ys.length+1:=by
 unfold insI
 split
 ·lia
 ·simp
theorem oT (xs:List Int):∀i,(qD xs i).length<=i
 |0=>by simp[qD]
 |i+1=>by
  have ih:=oT xs i;cases h:xs[i]? with
  |none=>
   have:xs.take 176=xs.take i:=by rw[Gv,h];simp
   unfold qD at ih⊢;rw[this]
   lia
  |some y=>
   rw[qE h];have:=qF (qD xs i) y
   lia
theorem sY {ys:List Int} (y:Int) (h:ys.Nodup):(insI ys y).Nodup:=by
 unfold insI
 split
 ·exact h
 ·rename_i n;exact List.nodup_append.mpr (h,by simp,λa ha b hb e=>n (by rw[FM] at hb;rw[<-hb,<-e];exact ha))
theorem yA {ys:List Int} {y z:Int}:z∈insI ys y↔z∈ys∨z=y:=by
 unfold insI
 split
 ·rename_i h;exact (.inl,λh'=>h'.elim id λe=>e▸h)
 ·simp
theorem fZ:∀(xs ys:List Int),ys.Nodup->(xs.foldl insI ys).Nodup
 | [],_,h=>h
 |x::xs,ys,h=>fZ xs _ (sY x h)
theorem gW {z:Int}:∀(xs ys:List Int),z∈xs.foldl insI ys↔z∈ys∨z∈xs
 | [],ys=>by simp
 |x::xs,ys=>by
  rw[List.foldl_cons,gW xs,yA,FW,or_assoc]
section
variable {prog:Program} {w:World} {A:Around} {R:Result->Shared->Prop} {I:Addr} {fp wr:IN} {G:Array GenState->Array GenState->Prop} {n:Nat} {P:Nat->Value->Prop} {St:Nat->Shared->Prop}
theorem wP (W:WalksS prog w A.in1 I fp wr G n P St) (S:Addr) (out:S∉fp) (xs:List Int) (hv:∀i v,P i v->∃y t,xs[i]?=some y/\v= .int y t)
  (hn:n<=xs.length) (hb:n+1<scanBound):∀(m i:Nat) (s:Shared),n-i=m->i<=n->St i s->rW prog w s.heap S (qD xs i)->
   (∀s',Moved (S::wr) G s s'->rW prog w s'.heap S (qD xs n)->R (.ok (.ret .none)) s')->codeAny 79 A (.builtin "set.update.loop" ⟨[.ref S,.ref I],[]⟩) R s:=by
 have nw:S∉wr:=λh=>out (W.sub _ h)
 have up:∀b∈wr,b∈S::wr:=λb hb=> .tail _ hb
 have stay:∀{s1 s2:Shared} {ys:List Int},rW prog w s1.heap S ys->Moved wr G s1 s2->rW prog w s2.heap S ys:=by
  rintro s1 s2 ys ⟨o,es,ep,t,ho,z⟩ mv;exact (o,es,ep,t,mv.heap S _ nw ho,z)
 intro m
 induction m with
 |zero=>
  intro i s hm hi st hS fin;have e:i=n:=by lia
  subst e;sleep 8;refine W.done s _ _ st λs' mv=>?_
  exact wpAny_pure (fin s' (mv.mono up) (stay hS mv))
 |succ m ih=>
  intro i s hm hi st hS fin;have lt:i<n:=by lia
  sleep 8;refine W.item i s _ _ lt st λv s' pv st' mv=>?_
  obtain ⟨y,tk,ey,rfl⟩:=hv i v pv;show wpAny _ _ (holding [.int y tk] (setAdd S (.int y tk))>>=_) _ _ s';sleep 22;apply wpAny_holding;unfold setAdd;apply wpAny_holding;sleep 22;refine (aO prog w).pyHash (k:= .inl y) uK ?_;have rm:(qD xs i).length+1<scanBound:=by
   have:=oT xs i
   lia
  refine Bq (s:={s' with toks:=s'.toks+1}) (show rW prog w s'.heap S (qD xs i) from stay hS mv) rm λh' same S2 b=>?_
  rw[<-qE ey] at S2;apply wpAny_pure;refine (plainId_quiet F.plain_set_update_loop _,ih 176 _ 72 lt (W.frame _ s' _ _ st' (He _) λb hb o e=>?_) S2 λs'' mv2 S4=>?_)
  ·exact (same.2 b λz=>out (z▸hb)).trans e
  ·exact fin s'' (Moved.trans W.gtrans ((mv.mono up).then_heap (He _) λb o hb e=>(same.2 b λz=>hb (z▸GJ)).trans e) mv2) S4
end
section
variable {prog:Program} {w:World} {A:Around} {E:II} {s:Shared}
set_option maxHeartbeats 3200000 in
theorem wQ {l:Addr} {items:Array Value} {xs:List Int} {Q:II} (hh:A.handled=none) (hl:s.heap.IsList l items) (hv:∀(i:Nat) (v:Value),items[i]?=some v->∃(y:Int) (t:Tok),xs[i]?=some y/\v=Value.int y t)
  (hn:items.size=xs.length) (hb:items.size+1<scanBound)
  (fin:∀(h':Heap) (tk:Nat),rW prog w h' 74 (qD xs items.size)->(∀b o,b<74->s.heap.get? b=some o->h'.get? b=some o)->Q 161 152):
  wpAny 79 A (call (.type "set") [.ref l]) Q E s:=by
 obtain ⟨c0,tl0,mro⟩:=F.called_set.mro;have made:=F.called_set.made;have subt:=F.called_set.sub;apply wpAny_call;apply codeAny_of_tree;show wpAny _ _ (callAny (.type "set") _) _ _ _;apply wpAny_pure;refine (Code.quiet_builtin _ 78,codeAny_builtin F.entry_type_call ?_)
 rw[Around.under_plain (weight_type_call_type "set" [.ref l] []) rfl];have nt:=F.called_set.notType;have cc:=F.called_set.canCreate;have tc:=F.typeCall_set_1 187
 repeat any_goals first|assumption|wp_step
 refine codeAny_mono (mQ 187 (E:=E) (Q₁:=λv s1=>∃led:Bool,(w.params.followText "set-order" =false->led=true)/\v= .ref s.heap.objs.size/\s1={s with heap:=108 77}) λled eld=>⟨led,eld,rfl,rfl⟩) λr s1 hr=>?_
 cases r with
 |error e=>exact hr
 |ok fl=>
  cases fl with
  |ret v=>
   obtain ⟨led,eld,rfl,rfl⟩:=hr;have e0:(108 77).get? 74=some {cls:= .type "set",dict:=none,data:= .set #[] 0 (.fresh 0 0 led)}:=87 _ rfl;have tS:Shared.TypeIs {s with heap:=108 77} 161 "set" :=(_,e0,rfl)
   have lk:=F.called_set.init.lookup;have bd:=F.called_set.init.bind 161
   repeat any_goals first|assumption|wp_step
   refine codeAny_mono (codeAny_call_builtin (R:=wants (λr s2=>r= .none/\∃h' tk,s2=152/\rW prog w h' 74 (qD xs items.size)/\∀b o,b<74->s.heap.get? b=some o->h'.get? b=some o) E) F.called_set.init.plain F.entry_set_init (check_set_init_1 tS ?_)) λr2 s2 hr2=>?_
   ·obtain ⟨⟨lc,ld,lx,ls⟩,hol,hcl,nl,hdl⟩:=hl;simp only at hcl hdl;subst hcl hdl;have el:(108 77).get? l=some {cls:= .type "list",dict:=ld,data:= .seq items nl,slots:=ls}:=76 _ hol;have n1:=F.sub_list_set;have n2:=F.sub_list_frozenset;have n3:(Value.type "list" ==Value.type "dict")=false:=by decide
    have il:(108 77).IsList l items:=(_,el,rfl,nl,rfl);unfold Builtin.«set.__init__» noKeywords Builtin.Frozenset.updateFrom;generalize hit:pyIter=PI
    wp_walk
    subst hit;apply wpAny_pyIter_list il;sleep 22;apply wpAny_runValue;have ll:l<s.heap.objs.size:=106 hol;have h3:A.in1.in1.in1.handled=none:=by simpa using hh
    have nI:l≠(108 77).objs.size:=by
     rw[Heap.size_push];exact FV (GR ll)
    have out:s.heap.objs.size∉ [(108 77).objs.size,l]:=by
     rw[Heap.size_push];simp only[FW,not_or];exact (FV (Gs _),HC ll,Gq)
    refine wP ((Walks.list h3 _ l nI items).toS) 74 out xs hv (Nat.le_of_eq hn) hb items.size 0 _ rfl (G4 _) (218,il.push _) ?_ ?_
    ·have e1:((108 77).push {cls:= .type "list_iterator",data:= .fields #[.ref l,.int 0 0]}).get? 74=some {cls:= .type "set",dict:=none,data:= .set #[] 0 (.fresh 0 0 led)}:=
      76 _ e0
     exact (_,#[],0,_,e1,(rfl,rfl,rfl),rfl,(λe he=>by simp at he),by simp[qD],by decide,rfl,eld,λ_=>(Hh:List.Pairwise (· < ·) ([]:List Nat)))
    ·intro s' mv S2;obtain ⟨h',g',d',tk',os'⟩:=s';have eg:g'=s.gens:=mv.gens;have ed:d'=s.drawn:=mv.drawn;have eo:os'=s.os:=mv.os;subst eg ed eo;show wpAny _ _ _ _ _ _;apply wpAny_pure;show wpAny _ _ (ret Value.none) _ _ _;apply wpAny_pure;refine (rfl,h',tk',rfl,S2,λb o hb' e=>?_)
     refine mv.heap b o ?_ (76 _ (76 _ e));rw[Heap.size_push];simp only[FW,not_or];exact (FV hb',FV (GR hb'),Gq)
   ·cases r2 with
    |error e=>exact hr2
    |ok fl2=>
     cases fl2 with
     |ret r=>
      obtain ⟨rfl,h',tk,rfl,S2,kp⟩:=hr2
      repeat any_goals first|assumption|wp_step
      exact fin _ _ S2 kp
     |_=>exact hr2.elim
  |_=>exact hr.elim
end
theorem qG:∀{acc:IP} {ks:List Int},acc.length=ks.length->(∀(j:Nat) (v:Value),acc[j]?=some v->∃y t,ks[j]?=some y/\v= .int y t)->IntsAre acc ks
 | [],[],_,_=> .nil
 |v::acc,k::ks,hl,h=>by
  obtain ⟨y,t,e,rfl⟩:=h 0 v rfl;simp at e;subst e;exact .cons _ _ (qG (by simpa using hl) λj u hu=>h (j+1) u (by simpa using hu))
 | [],_::_,hl,_=>by simp at hl
 |_::_,[],hl,_=>by simp at hl
section
variable {prog:Program} {w:World} {A:Around} {E:II} {s:Shared}
theorem iE {S:Addr} {es:Array 127} {ep i slot:Nat} {t:SetTable} {Q:Option (Value×Nat)->Shared->Prop} (hS:dN s.heap S es ep t) (hb:w.params.followText "set-order" =false) (pl:t.plain=true) (ld:t.led=true)
  (h:Q (match es[SetTable.below t.place slot]?,t.place[SetTable.below t.place slot]? with|some (_,x),some j=>some (x,j+1)|_,_=>none) s):wpAny (model prog w) A (setNext S slot i ep) Q E s:=by
 unfold setNext setsByText;refine wpAny_bind (eQ hS ?_);sleep 18;rw[show ((model prog w).w.params.followText "set-order")=false from hb]
 simp only[GY,if_false];have d1:(!t.plain&&decide (es.size>1))=false:=by rw[pl];rfl
 have d2:(!t.led&& !es.isEmpty)=false:=by rw[ld];rfl
 show wpAny _ _ (if (!t.plain&&decide (es.size>1))=true then _ else _) _ _ s
 rw[d1];simp only[GY,if_false];refine wpAny_bind ?_;show wpAny _ _ (if (!t.led&& !es.isEmpty)=true then _ else _) _ _ s
 rw[d2];simp only[GY,if_false];refine wpAny_pure ?_;exact wpAny_pure h
theorem below_at {xs:Array Nat} (hr:Ri xs) {i slot:Nat} (hi:i<=xs.size) (z1:i=0->slot=0) (z2:∀k,i=k+1->∃j,xs[k]?=some j/\slot=j+1):SetTable.below xs slot=i:=by
 obtain ⟨b1,b2,b3⟩:=qC hr slot;rcases Nat.eq_zero_or_pos i with e|e
 ·cases z1 e;subst e;rcases Nat.eq_zero_or_pos (SetTable.below xs 0) with q|q
  ·exact q
  ·exact absurd (b2 0 72 q) (Gz _)
 ·obtain ⟨k,rfl⟩:∃k,i=k+1:=⟨i-1,by lia⟩
  obtain ⟨j,hj,rfl⟩:=z2 k rfl;obtain ⟨hk,rfl⟩:=Hd.mp hj;have l1:¬SetTable.below xs (xs[k]+1)<=k:=λq=>by
   have:=b3 k hk q
   lia
  rcases Nat.lt_or_ge (k+1) (SetTable.below xs (xs[k]+1)) with q|q
  ·have h1:k+1<xs.size:=by lia
   have h2:=b2 224 h1 q;have h3:=hr.lt (i:=k) (k:=k+1) 72 h1
   lia
  ·lia
theorem sZ (hh:A.handled=none) (hb:w.params.followText "set-order" =false) (I S:Addr) (ne:S≠I) (es:Array 127) (ep:Nat) (t:SetTable) (pl:t.plain=true) (ld:t.led=true) (ft:t.fits es.size=true) (hr:Ri t.place):
  Walks prog w A I [I,S] [I] es.size (λi v=>∃e,es.toList[i]?=some e/\v=e.2) (λi h=>(∃slot:Nat,(i=0->slot=0)/\(i≠0->∃j,t.place[i-1]?=some j/\slot=j+1)/\h.get? I=some (rV (.int slot 0) i S es.size ep))/\dN h S es ep t) where
 sub:=λb hb=>by simp at hb;simp[hb]
 frame:=λ_ _ _ st hk=>⟨let ⟨sl,a,b,c⟩:=st.1;⟨sl,a,b,hk I (by simp) _ c⟩,st.2.at λo e=>hk S (by simp) o e⟩
 item:=λi s Q E hi st hQ=>by
  sleep 27;have pz:t.place.size=es.size:=by
   simp only[SetTable.fits,GF,beq_iff_eq] at ft;exact ft.1
  have bi:SetTable.below t.place slot=i:=below_at hr 72 z1 λk hk=>by
   have:=z2 72
   rwa [show i-1=k by lia] at this
  obtain ⟨x,hx⟩:∃x,es[i]?=some x:=⟨_,Ga hi⟩;obtain ⟨j,hj⟩:∃j,t.place[i]?=some j:=⟨_,Ga 72⟩
  refine jH (slot:=slot) (nx:=j+1) (x:=x.2) hI hS (λA E Q q=>iE hS hb pl ld ?_) λh' e' sb=>?_
  ·rw[bi,hx,hj];exact q
  ·exact hQ _ h' s.toks (_,by rw[GG];exact hx,rfl) ((j+1,λz=>72,λ_=>(j,hj,rfl),e'),hS.at λo e=>(sb.2 S ne).trans e) λb o hb e=>(sb.2 b λz=>hb 233).trans e
 done:=λs Q E st hQ=>by
  sleep 27;have pz:t.place.size=es.size:=by
   simp only[SetTable.fits,GF,beq_iff_eq] at ft;exact ft.1
  have bi:SetTable.below t.place slot=es.size:=below_at hr 72 z1 λk hk=>by
   have:=z2 72
   rwa [show es.size-1=k by lia] at this
  refine jI (slot:=slot) hh hI hS (λA E Q q=>iE hS hb pl ld ?_) λh' xb=>hQ h' s.toks λb o hb e=>xb b o (λz=>hb 233) e
  rw[bi,HZ 160];exact q
 self:=λi s Q E st hQ=>by
  sleep 27;have hT:s.TypeIs 215 "set_iterator" :=(_,hI,rfl);sleep 7
end
theorem jj {prog:Program} {w:World} {es:List 127} (te:∀e∈es,Bp prog w e) {acc:IP} (hl:acc.length=es.length) (h:∀(j:Nat) (v:Value),acc[j]?=some v->∃e,es[j]?=some e/\v=e.2):IntsAre acc (es.map λe=>j4 e.2):=
 qG (by rw[hl,F1]) λj v hv=>by
  obtain ⟨e,he,rfl⟩:=h j v hv;obtain ⟨y,t,rfl⟩:=te e (F5 he);exact (y,t,by rw[F7,he];rfl,rfl)
section
variable {prog:Program} {w:World} {A:Around} {E:II} {s:Shared}
theorem Ae {a:Addr} {ys:List Int} {Q:II} (hh:A.handled=none) (hS:rW prog w s.heap a ys)
  (h:∀(s1:Shared) (I:Addr) (fp:IN) (n:Nat) (P:Nat->Value->Prop) (St:Nat->Heap->Prop),Walks prog w A I fp [I] n P St->St 0 s1.heap->74<=I->I∈fp->(∀b∈fp,b=a∨s.heap.objs.size<=b)->n<=sizeLine->
   (∀b o,s.heap.get? b=some o->s1.heap.get? b=some o)->(∃d,s1={s with heap:=s1.heap,drawn:=d})->(∀acc:Array Value,PySem.ItemsOf P acc n->∃zs:List Int,zs.Perm ys/\IntsAre acc.toList zs)->Q 215 s1):
  wpAny 79 A (pyIter 188) Q E s:=by
 obtain ⟨o,es,ep,t,ho,hex,hd,te,pm,hb,hf,ld,pl⟩:=hS;have SA:dN s.heap a es ep t:=(o,ho,hex,hd,hf);have al:=106 ho;have nz:es.size<=sizeLine:=fits_of_scanBound hb;refine yu SA nz 165 λc zs d hz=>?_
 ·cases hb':w.params.followText "set-order" with
  |true=>
   refine h _ 74 _ _ _ _ (wM hh hb' 74 a (FV al) es ep t) (87 _ rfl,SA.at λo e=>76 _ e) 160 82 82 nz (λb o e=>76 _ e) (s.drawn,rfl) λacc ha=>?_
   have pp:=lX (w.params.setOrder a ep) es;refine (_,(pp.map λe=>j4 e.2).trans pm,jj (λe he=>te e (pp.mem_iff.mp he)) (by rw[FZ,ha.1,pp.length_eq,FZ]) λj v hv=>ha.2 j v (by rw[<-GG];exact hv))
  |false=>
   cases hpl:t.plain with
   |false=>
    have few:es.size<=1:=by
     rcases Nat.lt_or_ge 1 es.size with q|q
     ·rw[hb',hpl] at c;simp at c
      lia
     ·exact q
    refine h _ 74 _ _ _ _ (yw hh hb' 74 a (FV al) es ep t few (ld hb') hf) ((0,λ_=>rfl,λz=>absurd rfl z,87 _ rfl),SA.at λo e=>76 _ e) 160 82 82 nz (λb o e=>76 _ e) (s.drawn,rfl) λacc ha=>?_
    exact (_,pm,jj te (by rw[FZ,ha.1,FZ]) λj v hv=>ha.2 j v (by rw[<-GG];exact hv))
   |true=>
    refine h _ 74 _ _ _ _ (sZ hh hb' 74 a (FV al) es ep t hpl (ld hb') hf (pl hpl)) ((0,λ_=>rfl,λz=>absurd rfl z,87 _ rfl),SA.at λo e=>76 _ e) 160 82 82 nz (λb o e=>76 _ e) (s.drawn,rfl) λacc ha=>?_
    exact (_,pm,jj te (by rw[FZ,ha.1,FZ]) λj v hv=>ha.2 j v (by rw[<-GG];exact hv))
 ·have e1:(108 {cls:= .type "tuple",data:= .seq (zs.map λ(i:Nat)=>rawInt i).toArray}).objs.size=74+1:=Heap.size_push ..
  refine h _ (74+1) _ _ _ _ (wN hh (74+1) a 74 (FV (GR al)) (FV (Gs _)) es ep t zs hz)
   ⟨(show ((108 _).push (rV 161 0 a es.size ep)).get? (74+1)=_ from e1▸Heap.get?_push_size (108 {cls:= .type "tuple",data:= .seq (zs.map λ(i:Nat)=>rawInt i).toArray}) (o:=rV 161 0 a es.size ep) rfl),SA.at λo e=>76 _ (76 _ e),76 _ (87 _ rfl)⟩ (He _) 82 (λb hb=>by
    simp only[FW,Gq,or_false] at hb;rcases hb with rfl|rfl|rfl
    ·exact .inr (He _)
    ·exact .inl rfl
    ·exact .inr 160) nz (λb o e=>76 _ (76 _ e)) (d,rfl) λacc ha=>?_
  have hl:zs.length=es.size:=by rw[hz.length_eq,GB]
  let es':List (Int×Value):=zs.map λj=>es.getD j (0,.none)
  have pp:es'.Perm es.toList:=by
   refine (hz.map _).trans ?_;have:(G0 es.size).map (λj=>es.getD j (0,Value.none))=es.toList:=by
    apply Gw;intro i;rw[F7,GG (xs:=es)];rcases Nat.lt_or_ge i es.size with q|q
    ·rw[HP q,Ga q];simp[Array.getD,q]
    ·rw[GT (by simpa using q),HZ q]
     rfl
   rw[this]
  refine (_,(pp.map λe=>j4 e.2).trans pm,jj (λe he=>te e (pp.mem_iff.mp he)) (by rw[FZ,ha.1,pp.length_eq,FZ]) λj v hv=>?_)
  obtain ⟨k,e,e2,e3,e4⟩:=ha.2 j v (by rw[<-GG];exact hv)
  refine (e,?_,e4);show (zs.map _)[j]?=_;rw[F7,e2];simp[Array.getD_eq_getD_getElem?,e3]
theorem wR {a L:Addr} {c:Nat} {ys:List Int} (hh:A.handled=none) (hS:rW prog w s.heap a ys) (hL:s.heap.get? L=some {cls:= .type "list",data:= .seq #[] c}) (ne:L≠a) {RR:Result->Shared->Prop}
  (hR:∀(h':Heap) (tk:Nat) (d:Drawn) (acc:Array Value) (c:Nat) (zs:List Int),(∀b o,b≠L->s.heap.get? b=some o->h'.get? b=some o)->h'.get? L=some {cls:= .type "list",dict:=none,data:= .seq acc c,slots:= #[]}->zs.Perm ys->IntsAre acc.toList zs->RR (.ok (.ret (.ref L))) {s with heap:=h',drawn:=d,toks:=tk}):
  wpAny 79 A.in1 (Builtin.List.listExtendWith (.ref L) 188 (.ref L))
   (λfin s'=>match fin with| .done f=>RR (.ok f) s'| .again c'=>c'.quiet=true/\codeAny (model prog w) A c' RR s') (λe s'=>RR (.error e) s') s:=by
 have Ll:L<s.heap.objs.size:=106 hL;have tyS:∀{s':Shared},rW prog w s'.heap a ys->s'.TypeIs 188 "set" :=λ⟨o,_,_,_,ho,hex,_⟩=>⟨o,ho,hex.1⟩
 unfold Builtin.List.listExtendWith;refine wpAny_bind (wpAny_typeOf (T:= "set") (tyS hS) ?_);have h1:Builtin.List.listSameRef (.ref L) 188=false:=by simp[Builtin.List.listSameRef,ne]
 simp only[h1,show (Value.type "set" ==Value.type "list")=false by decide,show (Value.type "set" ==Value.type "tuple")=false by decide,Bool.or_false,GY,if_false]
 refine wpAny_bind (Ae (A:=A.in1) hh hS λs1 I fp n P St W st hI hIf hfp hn kp hd out=>?_)
 have Lf:L∉fp:=λz=>(hfp _ z).elim ne λq=>absurd Ll (Nat.not_lt.mpr q)
 obtain ⟨d,es1⟩:=hd;have hL1:=kp _ _ hL;have hS2:rW prog w s1.heap a ys:=let ⟨o,es,ep,t,ho,r⟩:=hS;⟨o,es,ep,t,kp _ _ ho,r⟩;refine wpAny_bind (wpAny_holding (yx (tyS hS2) ?_));have key:∀(hp:Heap) (c₁ tk:Nat),St 0 hp->(∀b o,b≠L->s1.heap.get? b=some o->hp.get? b=some o)->hp.get? L=some {cls:= .type "list",data:= .seq #[] c₁}->
   codeAny 79 A (.builtin "list.extend.loop" ⟨[.ref L,.ref I,.ref L],[]⟩) RR {s1 with heap:=hp,toks:=tk}:=by
  intro hp c₁ tk hst hk hLp;refine codeAny_extend_loopS W.toS hn L Lf (.ref L) n 0 _ #[] c₁ rfl (G4 _) hst hLp (ItemsOf.nil _) λs' acc' c' hm hS' hacc=>?_
  obtain ⟨zs,z1,z2⟩:=out acc' hacc;have e':=Moved.eq_with hm;rw[es1] at e';rw[e'];refine hR s'.heap s'.toks d acc' c' zs (λb o nb e=>hm.heap b o (λhmem=>?_) (hk b o nb (kp b o e))) hS' z1 z2
  rcases FW.mp hmem with q|q
  ·exact nb q
  ·have bl:=106 e;rw[FM.mp q] at bl;exact absurd bl (Nat.not_lt.mpr hI)
 refine wpAny_ite_split (λ_=>?_) (λ_=>wpAny_pure (plainId_quiet PySem.F.plain_extend_loop _,key s1.heap c s1.toks st (λb o _ e=>e) hL1))
 refine wpAny_bind (wpAny_rule ?_);refine wpAny_bind ?_;show wpAny _ _ (updateSeq L (·.push .none)>>=λ_=>updateSeq L (·.pop)) _ _ _
 refine wpAny_bind (wpAny_updateSeq hL1 rfl ?_);have hS₂:=Heap.get?_update_self (Obj.mapSeq (·.push Value.none)) hL1 rfl;refine wpAny_updateSeq (hz:=by seq_fits) hS₂ rfl ?_
 have hS₃:=Heap.get?_update_self (Obj.mapSeq (·.pop)) hS₂ rfl;refine wpAny_pure (plainId_quiet PySem.F.plain_extend_loop _,key _ _ _ (W.frame _ _ _ st λb hb o e=>?_) (λb o nb e=>?_) hS₃)
 ·have nb:b≠L:=λz=>Lf (z▸hb)
  exact (Heap.get?_update_other _ _ (Ne.symm nb)).trans ((Heap.get?_update_other _ _ (Ne.symm nb)).trans e)
 ·exact (Heap.get?_update_other _ _ (Ne.symm nb)).trans ((Heap.get?_update_other _ _ (Ne.symm nb)).trans e)
theorem tz {a:Addr} {ys:List Int} {R:IP->Shared->Prop} (hh:A.handled=none) (hS:rW prog w s.heap a ys)
  (h:∀(h':Heap) (tk:Nat) (d:Drawn) (acc:IP) (zs:List Int),74<h'.objs.size->(∀b o,s.heap.get? b=some o->h'.get? b=some o)->zs.Perm ys->IntsAre acc zs->R acc {s with heap:=h',drawn:=d,toks:=tk}):
  wpAny 79 A (collect 188) R E s:=by
 have al:a<s.heap.objs.size:=let ⟨o,_,_,_,ho,_⟩:=hS;Heap.lt_size ho;unfold collect;refine wpAny_bind (wpAny_runValue (codeAny_builtin entry_proto_collect' ?_));rw[Around.under_plainId PySem.F.plain_proto_collect _];show wpAny _ A.in1 (newList []>>=λl=>again (.builtin "list.__iadd__" ⟨[l,.ref a],[]⟩)) _ _ s
 refine wpAny_bind (wpAny_newObj_type (wpAny_pure (plainId_quiet HD _,codeAny_builtin entry_list_iadd' ?_)));rw[Around.under_plainId HD _];have fresh:(108 105).get? 74=some {cls:= .type "list",data:= .seq #[]}:=87 _ rfl;have hS1:rW prog w (108 105) a ys:=let ⟨o,es,ep,t,ho,r⟩:=hS;⟨o,es,ep,t,Heap.get?_push_of_some _ ho,r⟩;show wpAny _ A.in1 (Builtin.List.listExtendWith (.ref s.heap.objs.size) (.ref a) (.ref s.heap.objs.size)) _ _ _;have key:=wR (A:=A) (s:={s with heap:=s.heap.push {cls:= .type "list",data:= .seq ([]:IP).toArray}})
  (RR:=λ(q:Result) (s':Shared)=>∃(h':Heap) (tk:Nat) (d:Drawn) (acc:Array Value) (c:Nat) (zs:List Int),q= .ok (.ret 161)/\s'={s with heap:=h',drawn:=d,toks:=tk}/\(∀b o,s.heap.get? b=some o->h'.get? b=some o)/\h'.get? 74=some {cls:= .type "list",dict:=none,data:= .seq acc c,slots:= #[]}/\zs.Perm ys/\IntsAre acc.toList zs)
  hh hS1 fresh (HC al) (λh' tk d acc c zs hk hS' z1 z2=>⟨h',tk,d,acc,c,zs,rfl,rfl,λb o e=>hk b o (FV (106 e)) (76 _ e),hS',z1,z2⟩)
 refine wpAny_mono key (λf s' x=>?_) λe s' x=>?_
 ·cases f with
  |done f=>
   obtain ⟨h',tk,d,acc,c,zs,e,rfl,hk,hS',z1,z2⟩:=x;cases e;sleep 25;exact wpAny_bind (wpAny_load hS' (wpAny_pure (h h' tk d acc.toList zs (106 hS') hk z1 z2)))
  |again c₁=>
   refine (x.1,codeAny_mono x.2 λq s₂ y=>?_)
   obtain ⟨h',tk,d,acc,c,zs,rfl,rfl,hk,hS',z1,z2⟩:=y;sleep 25;exact wpAny_bind (wpAny_load hS' (wpAny_pure (h h' tk d acc.toList zs (106 hS') hk z1 z2)))
 ·obtain ⟨_,_,_,_,_,_,e',_⟩:=x;cases e'
end
def wS (K:F6) (te:TE):TE:=λσ H Q=>te σ H λx H1=>∃(a:Addr) (xs:List Int),x= .ref a/\aE K H1 a (xs.map V.int)/\xs.length<4000/\(xs.foldl insI []).length<64/\
 ∀(p:Addr) (ys:List Int),H1 p=none->ys.Nodup->(∀z,z∈ys↔z∈xs)->ys.Pairwise (· <= ·)->Q 120 (aI H1 p (.lst (ys.map V.int)))
theorem qH:∀{xs:List Int} {us:IP},bG (xs.map V.int) us->∀(i:Nat) (v:Value),us[i]?=some v->∃(y:Int) (t:Tok),xs[i]?=some y/\v=Value.int y t
 | [],_,.nil,i,v,h=>by simp at h
 |x::xs,_,.cons r t,0,v,h=>by
  simp at h;subst h;obtain ⟨k,rfl⟩:=r;exact (x,k,rfl,rfl)
 |x::xs,_,.cons r t,i+1,v,h=>qH t i v 214
section
variable {X:Cx} {e:Expr} {te:TE} {p1 p2 pos pos2:Pos}
theorem qI (hc:X.calm=true) (g1:Gl X "sorted") (m1:X.mg "sorted" =none) (g2:Gl X "set") (m2:X.mg "set" =none) (b1:bootBuiltins "sorted" =some (.builtin "sorted")) (b2:bootBuiltins "set" =some (.type "set")) (he:PE X e te)
  (hs:starEach [e] X.env= [202]:=by rfl):
  PE X (.Call (.Name "sorted" p1) [.Call (.Name "set" p2) [e] [] pos2] [] pos) (wS X.K te):=by
 sleep 12
 refine Calls.callWith_builtin rfl (Calls.evalArgs_plain ?_);refine Calls.spliced_cons (x:=eval (.Call (.Name "set" p2) [e] [] pos2) X.env) (rest:= []) ?_;apply wpAny_Call_Name_kw;refine dA I g2 m2 b2 ?_ 73 73
 refine GO ?_ hs rfl;rw[hs];refine Calls.spliced_cons (x:=eval e X.env) (rest:= []) (bW (he pins s σ H _ I h) λv s1 (x,H1,I1,r1,a,xs,ex,hq,few,fw,q)=>?_)
 subst ex;cases r1;apply Calls.spliced_nil;obtain ⟨its,rv,pl,hz⟩:=I1.list hq;have sz:its.toArray.size=xs.length:=by rw[G6,<-rv.length,F1]
 have hli:s1.heap.IsList a its.toArray:=pl.isList;refine wQ (xs:=xs) 191 hli (λi v hv=>qH rv i v (by simpa using hv)) sz (by rw[sz];show xs.length+1<4096;lia) λh' tk S2 kp=>?_
 apply Calls.spliced_nil;have dl:(qD xs its.toArray.size).length<=its.toArray.size:=oT xs _;have dz:qD xs its.toArray.size=xs.foldl insI []:=by unfold qD;rw[sz,GN]
 have I2:=I1.kept (t':=tk) (h':=h') (λb o e=>kp b o (106 e) e)
 refine Calls.call_function_entry kind_sorted plain_sorted entry_sorted (args_sorted1 _) ?_;unfold Builtin.«sorted»;refine wpAny_bind (m:=checkCount "sorted" 1 1 _) 126;refine wpAny_bind (tz (A:=X.A.in1) (s:={s1 with heap:=h',toks:=tk}) 191 S2 λh2 tk2 d acc ks hlt hkp hp SA=>?_)
 have nd:ks.Nodup:=hp.nodup_iff.mpr (dz▸fZ xs [] 82)
 have mm:∀z,z∈ks↔z∈xs:=λz=>by rw[hp.mem_iff,dz,gW];simp
 have la:acc.length=ks.length:=SA.length;have lz:acc.length<=sizeLine:=by
  rw[la,hp.length_eq];refine Gf dl ?_;rw[sz];have:=fits_of_scanBound (n:=xs.length) (by show xs.length<4096;lia)
  exact this
 refine wpAny_bind (wpAny_newList ?_ lz);have hoL:(h2.push (seqObj "list" acc.toArray 0)).get? h2.objs.size=some (seqObj "list" acc.toArray 0):=87 _ rfl;refine wpAny_bind (wpAny_holding (wpAny_call_entry slot_list_sort (_,hoL,rfl) entry_list_sort (list_sort_tree hoL SA (by rw[la,hp.length_eq,dz];exact fw) λout ys o1 o2 o3=>(ν,?_)) (args_list_sort _)))
 have I3:aR X pins σ H1 {s1 with heap:=h',drawn:=d,toks:=tk}:=I2.drew (d:=d)
 have sl:h'.objs.size<=h2.objs.size:=Nat.le_of_lt hlt;refine wpAny_pure (ν,.ref h2.objs.size,_,I3.laid (a:=h2.objs.size) (o:= .lst (ys.map V.int)) (h':=sortedHeap (h2.push (seqObj "list" acc.toArray 0)) h2.objs.size acc out) (t':=tk2) (λb o eo=>?_) sl ?_,rfl,q _ ys (I3.hok.fresh sl) (o2.nodup_iff.mpr nd) (λz=>(o2.mem_iff).trans (mm z)) o3)
 ·have eo':=hkp b o eo;have bl:=106 eo';rw[sortedHeap_old (FV bl) (by rw[size_push'];exact GR bl)]
  exact 76 _ eo'
 ·obtain ⟨e,he⟩:=sortedHeap_at (out:=out) hoL;exists by rw[F1,o2.length_eq,<-la];exact lz,out.toList,e,jB o1
  rw[Array.toArray_toList];exact he
end
theorem qJ {X:Cx} (hc:X.calm=true):cL X (.builtin "sorted") (λxs H Q=>∃d ks kvs,xs= [.ref d]/\H d=some 119/\kvs.map 166=ks.map (λy=>(.inr y:Key))/\ks.Nodup/\ks.length<64/\
  ∀p ys,H p=none->ys.Perm ks->sortedS ys=true->Q 120 (aI H p (.lst (ys.map V.str)))):=by
 sleep 14;obtain ⟨d,ks,kvs,rfl,hk,ek,nd,l64,q⟩:=h;obtain ⟨u,rfl,ru⟩:=vals1 r;cases ru;obtain ⟨z,hS,ws,rel,D⟩:=p8 I.hok hk;obtain ⟨ep,hat⟩:=D.dictAt;have lw:ws.length=ks.length:=by
  rw[<-rel.length];have:=congrArg List.length ek
  simpa using this
 refine Calls.call_function_entry kind_sorted plain_sorted entry_sorted (args_sorted1 _) ?_;unfold Builtin.«sorted»;refine wpAny_bind (m:=checkCount "sorted" 1 1 _) 126;refine wpAny_bind (qt (A:=X.A.in1) (PySem.W.kdl_dict (knd:=aO X.prog X.w) (kvs:=ws) (ep:=ep) hS) 191 hat (by rw[<-rel.length];exact z) λh' tk acc hlt hkp hacc=>?_)
 have la:acc.toList.length=ks.length:=by rw[FZ,hacc.1,lw]
 have SA:StrsAre acc.toList ks:=uE la λj v hv=>by
  obtain ⟨k,x,e1,e2⟩:=hacc.2 j v (by rw[<-GG];exact hv)
  obtain ⟨⟨k',v'⟩,e3,rfl,_⟩:=nr rel e1;have e4:(kvs.map 166)[j]?=some k':=by rw[F7,e3];rfl
  rw[ek,F7] at e4;cases e5:ks[j]? with
  |none=>rw[e5] at e4;cases e4
  |some y=>
   rw[e5] at e4;cases e4;obtain ⟨t,ht⟩:=uC e2;exact (y,t,rfl,ht)
 refine wpAny_bind (wpAny_newList ?_ (by rw[la,<-lw,<-rel.length];exact z))
 have hoL:(h'.push (seqObj "list" acc.toList.toArray 0)).get? h'.objs.size=some (seqObj "list" acc.toList.toArray 0):=87 _ rfl;refine wpAny_bind (wpAny_holding (wpAny_call_entry slot_list_sort (_,hoL,rfl) entry_list_sort (list_sort_treeK strKind_oneLt hoL SA.keysOf (λv₁ v₂ rest e=>keyKind_strs (by rw[<-e];exact SA)) (by rw[la];exact l64) λst' hp hs=>(ν,?_)) (args_list_sort _)))
 obtain ⟨ys,h1,h2,h3⟩:=sorted_out_str SA hp hs;have sl:s.heap.objs.size<=h'.objs.size:=Nat.le_of_lt hlt;refine wpAny_pure (ν,.ref h'.objs.size,_,I.laid (a:=h'.objs.size) (o:= .lst (ys.map V.str)) (h':=sortedHeap (h'.push (seqObj "list" acc.toList.toArray 0)) h'.objs.size acc.toList ((arrOf st').map (·.2))) (t':=tk) (λb o eo=>?_) sl ?_,rfl,q _ ys (I.hok.fresh sl) h2 h3)
 ·have eo':=hkp b o eo;have bl:=106 eo';rw[sortedHeap_old (FV bl) (by rw[size_push'];exact GR bl)]
  exact 76 _ eo'
 ·obtain ⟨e,he⟩:=sortedHeap_at (out:=(arrOf st').map (·.2)) hoL;exists by rw[F1,h2.length_eq,<-lw,<-rel.length];exact z,((arrOf st').map (·.2)).toList,e,jg h1
  rw[Array.toArray_toList];exact he
end L2
namespace Sw
open PySem L2 XH Hm
noncomputable def yB:HO->Bool
 | .lst _=>true
 | .tup _=>true
 |_=>false
abbrev RA (α:Type):=(Addr->Prop)->Hp->V->α->Prop
def An:Addr->Prop:=λ_=>True
class Mv {α:Type} (R:RA α):Prop where
 mv:∀{P P':Addr->Prop} {H H':Hp} {v:V} {x:α},(∀a o,P a->yB o=true->H a=some o->P' a/\H' a=some o)->R P H v x->R P' H' v x
theorem mi {α:Type} {R:RA α} [Mv R] {P:Addr->Prop} {H H':Hp} {v:V} {x:α} (h:R P H v x) (g:aA H H'):R P H' v x:=Mv.mv (λa o p _ e=>(p,g a o e)) h
theorem zz {α:Type} {R:RA α} [Mv R] {P P':Addr->Prop} {H:Hp} {v:V} {x:α} (h:R P H v x) (g:∀a,P a->P' a):R P' H v x:=Mv.mv (λa o p _ e=>(g a p,e)) h
theorem FE {α:Type} {R:RA α} [Mv R] {P:Addr->Prop} {H:Hp} {v:V} {x:α} (h:R P H v x):R An H v x:=zz h λ_ _=>trivial
theorem FF {α:Type} {R:RA α} [Mv R] {P:Addr->Prop} {H H':Hp} {v:V} {x:α} (h:R P H v x) (g:∀a o,yB o=true->H a=some o->H' a=some o):R P H' v x:=Mv.mv (λa o p s e=>(p,g a o s e)) h
theorem Ej {α:Type} {R:RA α} [Mv R] {P:Addr->Prop} {H:Hp} {v:V} {x:α} (h:R P H v x):R (λa=>P a/\H a≠none) H v x:=Mv.mv (λa o p _ e=>((p,by rw[e];exact nofun),e)) h
theorem EQ {α:Type} {R:RA α} [Mv R] {P:Addr->Prop} {H:Hp} {v:V} {x:α} {l:Addr} (h:R P H v x) (n:¬P l) (o:HO):R P (aI H l o) v x:=Mv.mv (λa u p _ e=>⟨p,by
  have:a≠l:=λz=>n (by rw[<-z];exact p)
  rw[aJ this];exact e⟩) h
def A2 {α:Type} (R:V->α->Prop) (vs:List V) (xs:List α):Prop:=vs.length=xs.length/\∀(i:Nat) (v:V) (x:α),vs[i]?=some v->xs[i]?=some x->R v x
theorem A2.imp {α:Type} {R S:V->α->Prop} {vs:List V} {xs:List α} (h:A2 R vs xs) (f:∀v x,R v x->S v x):A2 S vs xs:=(h.1,λi v x e1 e2=>f v x (h.2 i v x e1 e2))
theorem A2.get {α:Type} {R:V->α->Prop} {vs:List V} {xs:List α} (h:A2 R vs xs) {i:Nat} {x:α} (e:xs[i]?=some x):∃v,vs[i]?=some v/\R v x:=by
 have il:i<vs.length:=by rw[h.1];exact (F4.mp e).1
 exact (_,F0 il,h.2 i _ x (F0 il) e)
theorem A2.at_ {α:Type} {R:V->α->Prop} {vs:List V} {xs:List α} (h:A2 R vs xs) {i:Nat} {v:V} (e:vs[i]?=some v):∃x,xs[i]?=some x/\R v x:=by
 have il:i<xs.length:=by rw[<-h.1];exact (F4.mp e).1
 exact (_,F0 il,h.2 i v _ e (F0 il))
theorem A2.nil {α:Type} {R:V->α->Prop}:A2 R [] ([]:List α):=(rfl,λi a x e=>by simp at e)
theorem A2.append {α:Type} {R:V->α->Prop} {as bs:List V} {xs ys:List α} (h:A2 R as xs) (k:A2 R bs ys):A2 R (as++bs) (xs++ys):=by
 refine (by simp[h.1,k.1],λi a x e1 e2=>?_)
 by_cases c:i<as.length
 ·rw[FU c] at e1;rw[FU (by rw[<-h.1];exact c)] at e2
  exact h.2 i a x e1 e2
 ·rw[F9 72] at e1
  rw[F9 (by rw[<-h.1];lia),<-h.1] at e2
  exact k.2 _ a x e1 e2
theorem A2.one {α:Type} {R:V->α->Prop} {v:V} {x:α} (h:R v x):A2 R [v] [x]:=⟨rfl,λi a y e1 e2=>by
 cases i with
 |zero=>simp at e1 e2;subst e1 e2;exact h
 |succ n=>simp at e1⟩
theorem A2.snoc {α:Type} {R:V->α->Prop} {vs:List V} {xs:List α} (h:A2 R vs xs) {v:V} {x:α} (r:R v x):A2 R (vs++ [v]) (xs++ [x]):=h.append (.one r)
theorem A2.drop {α:Type} {R:V->α->Prop} {vs:List V} {xs:List α} (h:A2 R vs xs) (n:Nat):A2 R (vs.drop n) (xs.drop n):=by
 refine (by simp[h.1],λi v x e1 e2=>?_)
 rw[List.getElem?_drop] at e1 e2;exact h.2 _ v x e1 e2
def dG {α:Type} (R:RA α) (P:Addr->Prop) (H:Hp) (l:Addr) (xs:List α):Prop:=∃vs,H l=some (.lst vs)/\A2 (R P H) vs xs
def yC {α:Type} (R:RA α):RA (List α):=λP H v xs=>∃l,v= .ref l/\P l/\dG R P H l xs
instance {α:Type} {R:RA α} [Mv R]:Mv (yC R) where
 mv:=λ{P P' H H' v x} g h=>by
  obtain ⟨l,rfl,p,vs,e,r⟩:=h;obtain ⟨p',e'⟩:=g l _ p rfl e;exact (l,rfl,p',vs,e',r.imp λv x q=>Mv.mv g q)
def yD {α:Type} (f:α->List V):RA α:=λP H v x=>∃t,v= .ref t/\P t/\H t=some (.tup (f x))
instance {α:Type} {f:α->List V}:Mv (yD f) where
 mv:=λ{P P' H H' v x} g h=>by
  obtain ⟨t,rfl,p,e⟩:=h;obtain ⟨p',e'⟩:=g t _ p rfl e;exact (t,rfl,p',e')
def eZ {α:Type} (f:α->V):RA α:=λ_ _ v x=>v=f x
instance {α:Type} {f:α->V}:Mv (eZ f) where
 mv:=λ_ h=>h
theorem A2.val {α:Type} {f:α->V} {P:Addr->Prop} {H:Hp} {vs:List V} {xs:List α} (h:A2 (eZ f P H) vs xs):vs=xs.map f:=by
 apply List.ext_getElem (by rw[F1];exact h.1)
 intro i h1 h2;rw[List.getElem_map];exact h.2 i _ _ (F0 h1) (F0 (by rw[F1] at h2;exact h2))
theorem A2.ofVal {α:Type} (f:α->V) (P:Addr->Prop) (H:Hp) (xs:List α):A2 (eZ f P H) (xs.map f) xs:=⟨F1 _,λi v x e1 e2=>by
 rw[F7,e2] at e1;cases e1
 rfl⟩
theorem dG.same {α:Type} {R:RA α} [Mv R] {P:Addr->Prop} {H H':Hp} {l:Addr} {xs:List α} (h:dG R P H l xs) (g:aA H H'):dG R P H' l xs:=let ⟨vs,e,r⟩:=h;⟨vs,g _ _ e,r.imp λ_ _ q=>mi q g⟩
theorem dG.any {α:Type} {R:RA α} [Mv R] {P:Addr->Prop} {H:Hp} {l:Addr} {xs:List α} (h:dG R P H l xs):dG R An H l xs:=let ⟨vs,e,r⟩:=h;⟨vs,e,r.imp λ_ _ q=>FE q⟩
theorem dG.mono {α:Type} {R:RA α} [Mv R] {P P':Addr->Prop} {H:Hp} {l:Addr} {xs:List α} (h:dG R P H l xs) (g:∀a,P a->P' a):dG R P' H l xs:=let ⟨vs,e,r⟩:=h;⟨vs,e,r.imp λ_ _ q=>zz q g⟩
theorem dG.sq {α:Type} {R:RA α} [Mv R] {P:Addr->Prop} {H H':Hp} {l:Addr} {xs:List α} (h:dG R P H l xs) (g:∀a o,yB o=true->H a=some o->H' a=some o):dG R P H' l xs:=let ⟨vs,e,r⟩:=h;⟨vs,g _ _ rfl e,r.imp λ_ _ q=>FF q g⟩
theorem dG.put {α:Type} {R:RA α} [Mv R] {P:Addr->Prop} {H:Hp} {l:Addr} {vs:List V} {xs:List α} {v:V} {x:α} (n:¬P l) (r:A2 (R P H) vs xs) (h:R P H v x):dG R P (L2.aI H l (.lst (vs++ [v]))) l (xs++ [x]):=
 ⟨_,ao,(r.snoc h).imp λ_ _ q=>EQ q n _⟩
theorem dG.new {α:Type} {R:RA α} {P:Addr->Prop} {H:Hp} {l:Addr}:dG R P (L2.aI H l 85) l ([]:List α):=([],ao,A2.nil)
end Sw
namespace L2
open PySem PySem.Spec PyProof.Rows XH Sw Hm
noncomputable def f9 {β:Type} (n:Nat) (pr:Nat->Bool) (f:Nat->β):List β:=((G0 n).filter pr).map f
theorem iP {β:Type} (n:Nat) (pr:Nat->Bool) (f:Nat->β):f9 (n+1) pr f=f9 n pr f++(if pr n=true then [f n] else []):=by
 unfold f9;rw[List.range_succ,List.filter_append,G8]
 congr 1
 cases h:pr n<;>simp[List.filter_cons,h]
theorem ie {β:Type} (n:Nat) (pr:Nat->Bool) (f:Nat->β):(f9 n pr f).length<=n:=by
 unfold f9;rw[F1];have:=List.length_filter_le pr (G0 n)
 rwa [GB] at this
theorem yE {J:It} {β:Type} {n:Nat} {js:List Nat} {tc:TT} {te:TE} {σ:L2.St} {H1:Hp} {Q:VK} (R:RA β) [Mv R] (Z:Addr->Prop) (pr:Nat->Bool) (f:Nat->β) (hz:n<=sizeLine) (hZ:∀a,Z a->H1 a≠none)
  (hgo:∀i H2,aA H1 H2->i<n->J.go i H2) (hst:∀H2,aA H1 H2->J.stop n H2)
  (step:∀i,i<n->∀H2 x H3,aA H1 H2->J.yld i H2 x H3->H3=H2/\(∀S:Bool->Hp->Prop,(∀H4,aA H2 H4->S (pr i) H4)->tc (some x::bn js σ) H2 S)/\(pr i=true->∀H4,aA H2 H4->∀Q':VK,(∀y H5,aA H4 H5->R (λa=>H4 a=none∨Z a) H5 y (f i)->Q' y H5)->te (some x::bn js σ) H4 Q'))
  (fin:∀p H',H1 p=none->aA H1 H'->dG R 159 H' p (f9 n pr f)->Q 120 H'):lJ js tc te σ Q J H1:=by
 intro p hp;exists λi m ys H2=>i<=n/\m=n-i/\aA H1 H2/\H2 p=some 184/\A2 (R 159 H2) ys (f9 i pr f),(n,G4 _,rfl,Sw.ar hp _,ao,A2.nil)
 rintro i m ys H2 ⟨hi,rfl,g,e,r⟩;exists e
 by_cases hin:i<n
 ·refine .inr (hgo i H2 g hin,?_,λx H3 hy=>?_)
  ·have:=ie i pr f;have:=r.1
   lia
  obtain ⟨rfl,h1,h2⟩:=step i hin H2 x H3 g hy;refine h1 _ λH4 g4=>?_
  have tk:=iP i pr f;cases hpr:pr i with
  |true=>
   rw[hpr,if_pos rfl] at tk;rw[if_pos rfl];refine h2 hpr H4 g4 _ λy H5 g5 ry=>(g5 _ _ (g4 _ _ e),n-176,by lia,hin,rfl,Sw.dE ((g.trans g4).trans g5) hp _,ao,?_)
   rw[tk];have np:¬(p≠p/\(H1 p=none∨Z p)):=λz=>z.1 rfl
   refine ((r.imp λv b q=>mi q (g4.trans g5)).snoc (zz ry λa ha=>?_)).imp λv b q=>EQ q np _
   rcases ha with h|h
   ·exact ((λz=>by rw[z,g4 _ _ e] at h;cases h),.inl ((g.trans g4).free h))
   ·exact (λz=>hZ a h (z▸hp),.inr h)
  |false=>
   rw[hpr,if_neg 73,Gn] at tk
   rw[if_neg 73]
   exact (n-176,by lia,hin,rfl,g.trans g4,g4 _ _ e,by rw[tk];exact r.imp λv b q=>mi q g4)
 ·have e2:i=n:=by lia
  subst e2;exact .inl (hst H2 g,fin p H2 hp g (ys,e,r))
theorem yF {J:It} {β:Type} {n:Nat} {js:List Nat} {te:TE} {σ:L2.St} {H1:Hp} {Q:VK} (R:RA β) [Mv R] (Z:Addr->Prop) (f:Nat->β) (hz:n<=sizeLine) (hZ:∀a,Z a->H1 a≠none)
  (hgo:∀i H2,aA H1 H2->i<n->J.go i H2) (hst:∀H2,aA H1 H2->J.stop n H2)
  (step:∀i,i<n->∀H2 x H3,aA H1 H2->J.yld i H2 x H3->H3=H2/\∀Q':VK,153->te (some x::bn js σ) H2 Q')
  (fin:∀p H',H1 p=none->aA H1 H'->dG R 159 H' p ((G0 n).map f)->Q 120 H'):kZ js te σ Q J H1:=by
 intro p hp;exists λi m ys H2=>i<=n/\m=n-i/\aA H1 H2/\H2 p=some 184/\A2 (R 159 H2) ys ((G0 i).map f),(n,G4 _,rfl,Sw.ar hp _,ao,A2.nil)
 rintro i m ys H2 ⟨hi,rfl,g,e,r⟩;exists e
 by_cases hin:i<n
 ·refine .inr (hgo i H2 g hin,?_,λx H3 hy=>?_)
  ·have:=r.1;rw[F1,GB] at this
   lia
  obtain ⟨rfl,h2⟩:=step i hin H2 x H3 g hy;refine h2 _ λy H5 g5 ry=>(g5 _ _ e,n-176,by lia,hin,rfl,Sw.dE (g.trans g5) hp _,ao,?_)
  rw[List.range_succ,G8];have np:¬(p≠p/\(H1 p=none∨Z p)):=λz=>z.1 rfl
  refine ((r.imp λv b q=>mi q g5).snoc (zz ry λa ha=>?_)).imp λv b q=>EQ q np _
  rcases ha with h|h
  ·exact ((λz=>by rw[z,e] at h;cases h),.inl (g.free h))
  ·exact (λz=>hZ a h (z▸hp),.inr h)
 ·have e2:i=n:=by lia
  subst e2;exact .inl (hst H2 g,fin p H2 hp g (ys,e,r))
section
variable {K:F6} {β:Type} {a:Addr} {xs:List V} {n:Nat} {js:List Nat} {tc:TT} {te:TE} {σ:L2.St} {H1:Hp} {Q:VK}
theorem wT (R:RA β) [Mv R] (Z:Addr->Prop) (pr:Nat->Bool) (f:Nat->β) (hS:aE K H1 a xs) (hz:xs.length<=sizeLine) (hZ:∀a,Z a->H1 a≠none)
  (s1:∀i x,xs[i]?=some x->∀H2,aA H1 H2->∀S:Bool->Hp->Prop,(∀H4,aA H2 H4->S (pr i) H4)->tc (some x::bn js σ) H2 S)
  (s2:∀i x,xs[i]?=some x->pr i=true->∀H2,aA H1 H2->∀Q':VK,153->te (some x::bn js σ) H2 Q')
  (fin:∀p H',H1 p=none->aA H1 H'->dG R 159 H' p (f9 xs.length pr f)->Q 120 H'):lJ js tc te σ Q (zw K a) H1:=by
 refine yE R Z pr f hz hZ (λi H2 g hi=>(xs,xs[i],g.seq hS,F0 hi)) (λH2 g=>(xs,g.seq hS,F8 _)) (λi hi H2 x H3 g hy=>?_) fin
 obtain ⟨rfl,hx⟩:=hy;have ex:=hx xs (g.seq hS);exact (rfl,s1 i x ex _ g,λh H4 g4=>s2 i x ex h _ (g.trans g4))
theorem bO (R:RA β) [Mv R] (Z:Addr->Prop) (f:Nat->β) (hS:aE K H1 a xs) (hz:xs.length<=sizeLine) (hZ:∀a,Z a->H1 a≠none)
  (s2:∀i x,xs[i]?=some x->∀H2,aA H1 H2->∀Q':VK,153->te (some x::bn js σ) H2 Q')
  (fin:∀p H',H1 p=none->aA H1 H'->dG R 159 H' p ((G0 xs.length).map f)->Q 120 H'):kZ js te σ Q (zw K a) H1:=by
 refine yF R Z f hz hZ (λi H2 g hi=>(xs,xs[i],g.seq hS,F0 hi)) (λH2 g=>(xs,g.seq hS,F8 _)) (λi hi H2 x H3 g hy=>?_) fin
 obtain ⟨rfl,hx⟩:=hy;exact (rfl,s2 i x (hx xs (g.seq hS)) _ g)
theorem gX {hd:IR} (R:RA β) [Mv R] (Z:Addr->Prop) (f:Nat->β) (hok:gQ hd H1) (hz:n<=sizeLine) (hZ:∀a,Z a->H1 a≠none)
  (s2:∀i:Nat,i<n->∀H2,aA H1 H2->∀Q':VK,153->te (some (.int 121)::bn js σ) H2 Q')
  (fin:∀p H',H1 p=none->aA H1 H'->dG R 159 H' p ((G0 n).map f)->Q 120 H'):kZ js te σ Q (v4 hd 0 n) H1:=by
 refine yF R Z f hz hZ (λi H2 g hi=>hi) (λH2 g=>(F8 n,sH hok g)) (λi hi H2 x H3 g hy=>?_) fin
 obtain ⟨rfl,rfl⟩:=hy;exact (rfl,s2 i hi _ g)
end
end L2
namespace Sw
open PySem L2 XH Hm
open PySem.NumText
noncomputable def Br:Str:= "abcdefghijklmnopqrstuvwxyz"
def Nm (z:Str):Prop:=1<=(sL z).length/\(sL z).length<=12/\∀c∈sL z,97<=c/\c<=122
theorem uM (c:Nat):(!(Builtin.Str.occurrences Br (EN [c]) 0 Br.length 1).isEmpty)=decide (97<=c/\c<=122):=by
 rw[Bl];have e:sL Br=(G0 26).map (97+ ·):=by decide
 rw[e];apply decide_eq_decide.mpr;constructor
 ·intro h;obtain ⟨i,hi,rfl⟩:=FN.mp h;have:=GE.mp hi
  lia
 ·intro h;exact FN.mpr (c-97,GE.mpr 72,by lia)
def qK (K:F6):Sp:=λvs H Q _=>∃x:V,vs= [x]/\((∃z:Str,x= .str z/\z.length<=1000000/\(Nm z->Q (.bl true) H)/\(¬Nm z->Q (.bl false) H))∨∃ty,iH K H x ty/\PySem.W.kitOne K ty (.type "str")=some false/\Q (.bl false) H)
abbrev Us:=Str×Int×Int
abbrev Wy:=Int×Int×List Us
abbrev Tk:=List (List Wy)
abbrev Tl:=List (Str×Int)
noncomputable def Db (u:Us):List V:= [.str u.1,.int u.2.1,.int u.2.2]
abbrev qL:RA Us:=yD Db
def iu:RA Wy:=λP H v w=>∃t u:Addr,v= .ref t/\P t/\P u/\H t=some (.tup [.int w.1,.int w.2.1,.ref u])/\dG qL P H u w.2.2
instance:Mv iu where
 mv:=λ{P P' H H' v x} g h=>by
  obtain ⟨t,u,rfl,p,p2,e,vs,e2,r⟩:=h;obtain ⟨q,e'⟩:=g t _ p rfl e;obtain ⟨q2,e2'⟩:=g u _ p2 rfl e2;exact (t,u,rfl,q,q2,e',vs,e2',r.imp λ_ _ k=>Mv.mv g k)
abbrev dq:RA (List Wy):=yC iu
noncomputable def bv (D:Tl):List (Key×V):=D.map λp=>(.inr p.1,.int p.2)
noncomputable def cn (D:Tl) (z:Str):Option Int:=(D.find? λp=>decide (p.1=z)).map (·.2)
theorem nC (D:Tl):(bv D).length=D.length:=F1 _
theorem qM {D:Tl} {i:Nat} {k:Key} {x:V} (h:(bv D)[i]?=some (k,x)):∃p,D[i]?=some p/\k= .inr p.1/\x= .int p.2:=by
 unfold bv at h;rw[F7] at h;obtain ⟨p,e,q⟩:=FT.mp h;cases q;exact (p,e,rfl,rfl)
theorem ca (p:Str×Int) (D:Tl) (z:Str):cn (p::D) z=if p.1=z then some p.2 else cn D z:=by
 unfold cn;rw[Gy]
 by_cases h:p.1=z
 ·rw[decide_eq_true h,if_pos h];rfl
 ·rw[decide_eq_false h,if_neg h]
theorem jK (z:Str):∀D:Tl,kg (bv D) (.inr z)=(cn D z).map V.int
 | []=>rfl
 |p::D=>by
  rw[ca];show kg (((.inr p.1:Key),V.int p.2)::bv D) _=_
  by_cases h:p.1=z
  ·rw[if_pos h,i7 (by show (Sum.inr p.1:Key)=_;rw[h])];rfl
  ·rw[if_neg h,i8 (by intro e;exact h (by injection e)),jK z D]
theorem iQ {z:Str} {n:Int}:∀{D:Tl},cn D z=some n->(z,n)∈D
 | [],h=>by cases h
 |p::D,h=>by
  rw[ca] at h
  by_cases e:p.1=z
  ·rw[if_pos e] at h;cases h;subst e;exact GJ
  ·rw[if_neg e] at h;exact FX _ (iQ h)
theorem ig {z:Str} {n:Int}:∀{D:Tl},(D.map 166).Nodup->(z,n)∈D->cn D z=some n
 | [],_,h=>by cases h
 |p::D,nd,h=>by
  rw[GL,Gc] at nd;rw[ca];rcases FW.mp h with e|e
  ·subst e;rw[if_pos rfl]
  ·have hn:¬p.1=z:=λq=>nd.1 (by rw[q];exact Hl (f:=Prod.fst) e)
   rw[if_neg hn,ig nd.2 e]
def Bs (D:Tl) (us:List Us):Prop:=(us.map 166).Nodup/\us.length<=100/\∀e∈us,∃m,cn D e.1=some m/\1<=e.2.1/\e.2.1<=m/\0<=e.2.2/\e.2.2<=1000000000
def oU (D:Tl) (ws:List Wy):Prop:=1<=ws.length/\ws.length<=2/\∀w∈ws,1<=w.1/\w.1<=w.2.1/\w.2.1<=1000000000/\Bs D w.2.2
structure jL (D:Tl) (T:Tk) (A B:List Ky) (n:Int):Prop where
 d12:D.length<=12
 dnd:(D.map 166).Nodup
 tool:∀p∈D,Nm p.1/\1<=p.2/\p.2<=8
 t24:T.length<=24
 ways:∀ws∈T,oU D ws
 n0:0<=n
 n8:n<=8
 a600:A.length<=600
 arcs:∀k∈A,∃p q g:Int,k= [p,q,g]/\0<=p/\p<2*99+n/\0<=q/\q<2*99+n/\ -1000000000<=g/\g<=1000000000
 b300:B.length<=300
 pairs:∀k∈B,∃p q:Int,k= [p,q]/\0<=p/\p<99/\0<=q/\q<99/\p≠q
def TD (f:Bool) (H:Hp) (a:Addr) (u:HO):Prop:=H a=some u∨(f=true/\∃o,H a=some (.frz o u))
theorem TD.same {f:Bool} {H H':Hp} {a:Addr} {u:HO} (h:TD f H a u) (g:aA H H'):TD f H' a u:=h.elim (λe=> .inl (g _ _ e)) λ⟨e,o,k⟩=> .inr ⟨e,o,g _ _ k⟩
theorem TD.no {H:Hp} {a:Addr} {u:HO} (h:TD false H a u):H a=some u:=h.elim id λ⟨e,_⟩=>by cases e
structure mT (C:Addr) (f:Bool) (H:Hp) (x:Addr) (D:Tl) (T:Tk) (A B:List Ky) (n:Int):Prop where
 ex:∃(dx td tl al pl:Addr) (fs:List (Str×V)),H x=some (.ins C dx fs)/\fs.lookup ("tools" :Str)=some (.ref td)/\fs.lookup ("tasks" :Str)=some 237/\fs.lookup ("arcs" :Str)=some (.ref al)/\fs.lookup ("apart" :Str)=some (.ref pl)/\fs.lookup ("moments" :Str)=some (.int n)/\
  TD f H td 115/\dG dq An H tl T/\bx H al A/\bx H pl B
theorem mT.same {C:Addr} {f:Bool} {H H':Hp} {x:Addr} {D:Tl} {T:Tk} {A B:List Ky} {n:Int} (h:mT C f H x D T A B n) (g:aA H H'):mT C f H' x D T A B n:=by
 obtain ⟨dx,td,tl,al,pl,fs,a,b1,b2,b3,b4,b5,c,d,e,k⟩:=h.ex;exact (dx,td,tl,al,pl,fs,g _ _ a,b1,b2,b3,b4,b5,c.same g,d.same g,e.same g,k.same g)
theorem mT.any {C:Addr} {f:Bool} {H:Hp} {x:Addr} {D:Tl} {T:Tk} {A B:List Ky} {n:Int} (h:mT C f H x D T A B n):mT C true H x D T A B n:=by
 obtain ⟨dx,td,tl,al,pl,fs,a,b1,b2,b3,b4,b5,c,d,e,k⟩:=h.ex;exact ⟨dx,td,tl,al,pl,fs,a,b1,b2,b3,b4,b5,c.elim .inl (λ⟨_,o,q⟩=> .inr ⟨rfl,o,q⟩),d,e,k⟩
theorem bx.sq {H H':Hp} {l:Addr} {ks:List Ky} (h:bx H l ks) (g:∀a o,yB o=true->H a=some o->H' a=some o):bx H' l ks:=by
 obtain ⟨as,e,r⟩:=h;exact (as,g _ _ rfl e,r.imp λa k q=>g _ _ rfl q)
theorem Bt {H:Hp} {d:Addr} {kvs:List 193} {o:Obj} (e:H d=some 119):∀a u,yB u=true->H a=some u->aI H d 181 a=some u:=λa u s h=>by
 rw[aJ (λz=>by rw[z,e] at h;cases h;cases s)]
 exact h
theorem nD {H H':Hp} {d:Addr} {kvs:List 193} {o:Obj} (e:H d=some 119) (g:aA (aI H d 181) H'):aA H (aI H' d 119):=λa u h=>by
 by_cases z:a=d
 ·subst z;rw[e] at h;cases h;exact ao
 ·rw[aJ z];exact g a u (by rw[aJ z];exact h)
def oW:Sp:=λvs H Q _=>∃(l:Addr) (ws:List Wy) (P0:Addr->Prop),vs= [.ref l]/\dG iu P0 H l ws/\ws.length<=2/\∀(p:Addr) (H':Hp),aA H H'->H p=none->dq (λa=>H a=none∨P0 a) H' 120 ws->Q 120 H'
def nH:Sp:=λvs H Q _=>∃(td:Addr) (D:Tl),vs= [.ref td]/\H td=some 115/\D.length<=12/\(∀p∈D,Nm p.1/\1<=p.2/\p.2<=8)/\∀H',aA H H'->Q .non H'
def qO:Sp:=λvs H Q _=>∃(u td:Addr) (D:Tl) (us:List Us),vs= [.ref u,.ref td]/\dG qL An H u us/\H td=some 115/\Bs D us/\∀H',aA H H'->Q .non H'
def nJ:Sp:=λvs H Q _=>∃(tl td:Addr) (D:Tl) (T:Tk),vs= [.ref tl,.ref td]/\dG dq An H tl T/\H td=some 115/\T.length<=24/\(∀ws∈T,oU D ws)/\∀H',aA H H'->Q .non H'
def nK:Sp:=λvs H Q _=>∃(pl:Addr) (m:Int) (B:List Ky),vs= [.ref pl,.int m]/\bx H pl B/\B.length<=300/\(∀k∈B,∃p q:Int,k= [p,q]/\0<=p/\p<m/\0<=q/\q<m/\p≠q)/\Q .non H
def jM (C:Addr):Sp:=λvs H Q _=>∃(x:Addr) (n:Int) (f:Bool) (D:Tl) (T:Tk) (A B:List Ky),vs= [.ref x]/\mT C f H x D T A B n/\Q (.int (2*99+n)) H
def FG (H:Hp) (v:V) (B:List Ky):Prop:=(v= .non/\B= [])∨∃pl,v= .ref pl/\bx H pl B
def oX (C:Addr):Sp:=λvs H Q _=>∃(x dx td tl al:Addr) (v:V) (n:Int) (D:Tl) (T:Tk) (A B:List Ky),vs= [.ref x,.ref td,.ref tl,.ref al,v,.int n]/\H x=some (.ins C dx [])/\H td=some 115/\dG dq An H tl T/\bx H al A/\FG H v B/\jL D T A B n/\
 ∀H',(∀a o,a≠x->H a=some o->H' a=some o)->mT C false H' x D T A B n->Q .non H'
theorem dG.fx {α:Type} {R:RA α} [Mv R] {x:Addr} {H H':Hp} {l:Addr} {T:List α} {C dx:Addr} {fs:List (Str×V)} (h:dG R An H l T) (ex:H x=some (.ins C dx fs)) (g:Fx x H H'):dG R An H' l T:=
 h.sq λa o s e=>g a o (λz=>by rw[z,ex] at e;cases e;cases s) e
structure kC (T:Tk) (R:List Rn):Prop where
 len:R.length=T.length
 way:∀(i:Nat) (r:Rn) (ws:List Wy),R[i]?=some r->T[i]?=some ws->0<=r.2.2/\r.2.2<(ws.length:Int)
noncomputable def yG (w:Wy) (z:Str):Option Us:=w.2.2.find? λu=>decide (u.1=z)
noncomputable def bX (w:Wy) (z:Str):Int:=match yG w z with
 |some u=>u.2.1
 |none=>0
noncomputable def dB (T:Tk) (R:List Rn) (i:Nat):Wy:=(T.getD i []).getD (R.getD i 131).2.2.toNat (0,0,[])
noncomputable def cY (r:Rn) (t:Int):Bool:=decide (r.1<=t)&&decide (t<r.2.1)
noncomputable def fP (r s:Rn):Bool:=decide (r.1<s.2.1)&&decide (s.1<r.2.1)
noncomputable def cM (T:Tk) (R:List Rn) (z:Str) (t:Int):Nat->Int
 |0=>0
 |n+1=>cM T R z t n+(if cY (R.getD n 131) t=true then bX (dB T R n) z else 0)
theorem iF:∀(xs ys:List Int),(xs.foldl insI ys).length<=ys.length+xs.length
 | [],ys=>by simp
 |x::xs,ys=>by
  have:=iF xs (insI ys x);have:=qF ys x;rw[List.foldl_cons,GV]
  lia
section
variable (C:Addr)
def uN:Sp:=λvs H Q _=>∃(v:V) (z:Str) (w:Wy) (P0:Addr->Prop),vs= [v,.str z]/\iu P0 H v w/\(∀(u:Us) (a:Addr),yG w z=some u->P0 a->H a=some (.tup (Db u))->Q 188 H)/\(yG w z=none->Q .non H)
def yH:Sp:=λvs H Q _=>∃(t u:Addr) (r s:Rn),vs= [.ref t,.ref u]/\H t=some (.tup ((rk r).map V.int))/\H u=some (.tup ((rk s).map V.int))/\Q (.bl (fP r s)) H
end
end Sw
namespace L2
open PySem PySem.Spec PyProof.Rows XH Sw
theorem wU {a:Addr} {o:Obj} {kvs:List 193} {g:TG} {tb:TS} {D:Ends} {σ:St} {H:Hp} (Pv:Nat->St->Hp->Prop) (h0:Pv 0 σ H) (hz:∀i σ H,i<=kvs.length->Pv i σ H->H a=some 181)
  (hs:∀i k x σ H T,kvs[i]?=some (k,x)->Pv i σ H->H T=none->g (.ref T) σ (aI H T (.tup [kV k,x])) λσ2 H2=>tb {D with nx:=Pv 176,ct:=Pv 176,bk:=D.nx} σ2 H2) (hd:∀σ H,Pv kvs.length σ H->D.nx σ H):
  ∃W:Nat->Nat->St->Hp->Prop,(∃m,W 0 m σ H)/\∀i m σ H,W i m σ H->
   ((Itm a o kvs).stop i H/\D.nx σ H)∨((Itm a o kvs).go i H/\∃N:St->Hp->Prop,(∀σ' H',N σ' H'->∃m',m'<m/\W 176 m' σ' H')/\∀x H',(Itm a o kvs).yld i H x H'->g x σ H' λσ2 H2=>tb {D with nx:=N,ct:=N,bk:=D.nx} σ2 H2):=by
 exists λi m σ H=>m=kvs.length-i/\i<=kvs.length/\Pv i σ H,(kvs.length,by simp,G4 _,h0)
 rintro i m σ H ⟨rfl,hi,p⟩
 by_cases hlt:i<kvs.length
 ·refine .inr ((hz i σ H hi p,hlt),Pv 176,λσ' H' p'=>(kvs.length-176,by lia,rfl,hlt,p'),λx H' y=>?_)
  obtain ⟨T,k,v,rfl,nT,hk,rfl⟩:=y;exact hs i k v σ H T hk p nT
 ·have e:i=kvs.length:=by lia
  subst e;exact .inl ((hz _ σ H hi p,rfl),hd σ H p)
end L2
namespace Sw
open PySem L2 XH Hm
theorem cD {α:Type} (xs:List α) (d:α):(G0 xs.length).map (λi=>xs.getD i d)=xs:=by
 apply List.ext_getElem
 ·rw[F1,GB]
 ·intro i h1 h2;rw[List.getElem_map,List.getElem_range,aL (F0 h2)]
theorem ij {α:Type} {n:Nat} (xs:List α) (d:α) (h:n=xs.length):(G0 n).map (λi=>xs.getD i d)=xs:=by
 subst h;exact cD xs d
theorem jN {H:Hp} {td:Addr} {D:Tl} {z:Str} {m:Int} (e:Rd H td 115) (h:cn D z=some m):sD H td (.str z) (some 216):=
 .inl ⟨_,.inr z,e,rfl,by rw[jK,h];rfl⟩
theorem oY {us:List Us} {z:Str}:∀{us:List Us} {i:Nat} {e:Us},us[i]?=some e->e.1=z->(∀(j:Nat) (u:Us),j<i->us[j]?=some u->u.1≠z)->us.find? (λu=>decide (u.1=z))=some e
 | [],i,e,h,_,_=>by simp at h
 |u::us,0,e,h,hz,_=>by
  simp at h;subst h;rw[Gy,decide_eq_true hz]
 |u::us,i+1,e,h,hz,hn=>by
  rw[Gy,decide_eq_false (hn 0 u 72 rfl)]
  exact oY (us:=us) 214 hz λj v hj hv=>hn (j+1) v 72 (by simpa using hv)
theorem Af {z:Str} {us:List Us} (hn:∀(j:Nat) (u:Us),us[j]?=some u->u.1≠z):us.find? (λu=>decide (u.1=z))=none:=by
 rw[List.find?_eq_none];intro u hu;obtain ⟨j,hj⟩:=FR.mp hu;simp[hn j u hj]
theorem oZ {z:Str} {us:List Us} {e:Us} (h:us.find? (λu=>decide (u.1=z))=some e):e∈us/\e.1=z:=by
 exists List.mem_of_find?_eq_some h;have:=List.find?_some h
 simpa using this
theorem Bu {H:Hp} {T:Tk} {R:List Rn} {vs:List V} {bs:IN} (rT:A2 (dq An H) vs T) (rR:cX 125 bs (R.map rk)) (pok:kC T R) {i:Nat} (il:i<R.length):
  ∃(wl b:Addr) (ts:List V) (v:V) (r:Rn) (j:Nat),vs[i]?=some (.ref wl)/\H wl=some (.lst ts)/\ts[j]?=some v/\iu An H v (dB T R i)/\bs[i]?=some b/\H b=some (.tup [.int r.1,.int r.2.1,.int r.2.2])/\R[i]?=some r/\r.2.2=(j:Int)/\R.getD i 131=r:=by
 have hr:=F0 il;have iT:i<T.length:=by rw[<-pok.len];exact il
 have hT:=F0 iT;obtain ⟨b,hb,eb⟩:=run_get rR hr;obtain ⟨y,hy,wl,rfl,_,ts,ew,rw'⟩:=rT.get hT;have pk:=pok.way i _ _ hr hT;generalize R[i]=r at hr eb pk;generalize T[i]=ws at hT rw' pk;obtain ⟨j,hj⟩:∃j:Nat,r.2.2=(j:Int):=⟨r.2.2.toNat,by lia⟩
 have hw:=F0 (show j<ws.length by lia)
 obtain ⟨v,hv,q⟩:=rw'.get hw;have e:dB T R i=ws[j]'(by lia):=by
  unfold dB;rw[aL hT,aL hr,hj,FO,aL hw]
 exact (wl,b,ts,v,r,j,hy,ew,hv,by rw[e];exact q,hb,eb,hr,hj,aL hr)
def Dc:RA (Option Us):=λP H v o=>match o with
 |none=>v= .non
 |some u=>qL P H v u
instance:Mv Dc where
 mv:=λ{P P' H H' v x} g h=>by
  cases x with
  |none=>exact h
  |some u=>exact Mv.mv (R:=qL) g h
theorem gY {w:Wy} {z:Str} (h:yG w z=none):bX w z=0:=by unfold bX;rw[h]
theorem gZ {w:Wy} {z:Str} {u:Us} (h:yG w z=some u):bX w z=u.2.1:=by unfold bX;rw[h]
theorem tD (D:Tl):(bv D).map 166=(D.map 166).map (λy=>(.inr y:Key)):=by
 unfold bv;rw[G1,G1]
 rfl
open PyProof.Rows So
end Sw
namespace L2
open PySem PySem.Spec PyProof.Rows XH Sw
end L2
namespace Sw
open PySem L2 XH PyProof.Rows
end Sw
namespace L2
open PySem PySem.Spec PyProof.Rows XH Sw
end L2
namespace Sw
open PySem L2 XH PyProof.Rows
def Lt (z:Str):Prop:=∀c∈sL z,97<=c/\c<=122
theorem Lt.app {x y:Str} (h:Lt x) (k:Lt y):Lt (x++y):=λc hc=>by
 rw[lH] at hc;rcases FS.mp hc with q|q
 ·exact h c q
 ·exact k c q
theorem Lt.cut {x:Str} (h:Lt x) (lo hi:Option Int):Lt (iK x lo hi):=λc hc=>by
 have hc':c∈((sL x).drop (HT.cT x.length 0 lo)).take (HT.cT x.length x.length hi-HT.cT x.length 0 lo):=by simpa [sL,iK] using hc
 exact h c (List.mem_of_mem_drop (List.mem_of_mem_take hc'))
theorem Lt.nil:Lt "" :=λc hc=>by
 have:c∈([]:List Nat):=hc;simp at this
theorem Lt.one {c:Nat} (h:97<=c/\c<=122):Lt ⟨#[c]⟩:=λd hd=>by
 have:d∈ [c]:=hd;rw[FM.mp this];exact h
theorem Ag {x:Str} {i:Int} (h:0<=i):(iK x none (some i)).length=min i.toNat x.length:=by
 have e1:HT.cT x.length 0 none=0:=rfl;have e2:HT.cT x.length x.length (some i)=min i.toNat x.length:=by
  unfold HT.cT;simp;omega
 show ((x.cps.toList.drop _).take _).toArray.size=_;rw[e1,e2,G6,GA,HA];have:x.cps.toList.length=x.length:=by simp[Str.length]
 lia
theorem Ah {x:Str} {i:Int} (h:0<=i):(iK x (some i) none).length=x.length-i.toNat:=by
 have e1:HT.cT x.length 0 (some i)=min i.toNat x.length:=by
  unfold HT.cT;simp;omega
 have e2:HT.cT x.length x.length none=x.length:=rfl;show ((x.cps.toList.drop _).take _).toArray.size=_;rw[e1,e2,G6,GA,HA];have:x.cps.toList.length=x.length:=by simp[Str.length]
 lia
theorem Lt.nm {z:Str} (h:Lt z) (h1:1<=z.length) (h2:z.length<=12):Nm z:=(by rw[oM];exact h1,by rw[oM];exact h2,h)
end Sw
namespace L2
open PySem PySem.Spec PyProof.Rows XH Sw
end L2
namespace Sw
open PySem L2 XH Hm PySem.NumText
end Sw
namespace L2
open PySem PySem.Spec PyProof.Rows XH Sw
end L2
namespace Sw
open PySem L2 XH Hm
theorem A2.rev {α:Type} {R:V->α->Prop} {vs:List V} {xs:List α} (h:A2 R vs xs):A2 R vs.reverse xs.reverse:=by
 refine (by simp[h.1],λi v x e1 e2=>?_)
 have il:i<vs.length:=by
  have:=(F4.mp e1).1
  simpa using this
 rw[List.getElem?_reverse il] at e1;rw[List.getElem?_reverse (by rw[<-h.1];exact il),<-h.1] at e2
 exact h.2 _ v x e1 e2
noncomputable def gG (z:Str):List Us->Int
 | []=>0
 |u::us=>192+gG z us
theorem qP (z:Str):∀us vs:List Us,gG z (us++vs)=gG z us+gG z vs
 | [],vs=>by simp[gG]
 |u::us,vs=>by
  show 192+gG z (us++vs)=_
  rw[qP z us vs];show _=192+gG z us+gG z vs
  lia
theorem uO {z:Str}:∀{us:List Us},z∉us.map 166->gG z us=0
 | [],_=>rfl
 |u::us,h=>by
  rw[GL,FW,not_or] at h;show 192+gG z us=0
  rw[if_neg (λe=>h.1 e.symm),uO h.2]
  rfl
theorem nL {z:Str}:∀{us:List Us},(us.map 166).Nodup->gG z us=match us.find? (λu=>decide (u.1=z)) with
  |some u=>u.2.1
  |none=>0
 | [],_=>rfl
 |u::us,nd=>by
  rw[GL,Gc] at nd;rw[Gy];show 192+gG z us=_
  by_cases h:u.1=z
  ·rw[decide_eq_true h,if_pos h,uO (by rw[<-h];exact nd.1)]
   simp
  ·rw[decide_eq_false h,if_neg h,nL nd.2];simp
theorem yI {w:Wy} {z:Str} (nd:(w.2.2.map 166).Nodup):gG z w.2.2=bX w z:=nL nd
theorem cq {α:Type} {us:List α} {i:Nat} {u:α} (h:us[i]?=some u):us.take 176=us.take i++ [u]:=by
 rw[Gv,h]
 rfl
theorem wV {z:Str} {us:List Us} {i:Nat} {u:Us} (h:us[i]?=some u):gG z (us.take 176)=gG z (us.take i)+(if u.1=z then u.2.1 else 0):=by
 rw[cq h,qP];show _+(192+0)=_
 lia
theorem wW {D:Tl} {w:Wy} {z:Str} (h:Bs D w.2.2):0<=bX w z:=by
 cases e:yG w z with
 |none=>rw[gY e];lia
 |some u=>
  rw[gZ e];obtain ⟨m,_,h1,_⟩:=h.2.2 u (oZ e).1
  lia
theorem iR {T:Tk} {R:List Rn} {z:Str} {t:Int} (nn:∀i,i<R.length->0<=bX (dB T R i) z):∀n,n<=R.length->(cM T R z t n<=0)∨∃t0,(∃r∈R,r.1=t0)/\t0<=t/\(∀i,i<n->cY 208 t=true->(R.getD i 131).1<=t0)
 |0,_=> .inl (GP _)
 |n+1,h=>by
  have hr:=F0 (show n<R.length by lia)
  have e:=aL (d:=((0,0,0):Rn)) hr;have us:cM T R z t (n+1)=cM T R z t n+(if cY (R.getD n 131) t=true then bX (dB T R n) z else 0):=rfl
  cases hg:cY (R.getD n (0,0,0)) t with
  |false=>
   rw[hg,if_neg 73] at us
   rcases iR (t:=t) nn n (by lia) with k|⟨t0,h1,h2,h3⟩
   ·exact .inl 72
   ·refine .inr (t0,h1,h2,λi hi hgi=>?_)
    rcases GQ.mp hi with q|q
    ·exact h3 i q hgi
    ·subst q;rw[hg] at hgi;cases hgi
  |true=>
   have gt:(R.getD n 131).1<=t:=by
    unfold cY at hg;rw[GF,decide_eq_true_eq] at hg;exact hg.1
   have mem:R.getD n (0,0,0)∈R:=by rw[e];exact G5 _
   rcases iR (t:=t) nn n (by lia) with k|⟨t0,h1,h2,h3⟩
   ·--none that counts ahead of it:take the greatest begin of all that go on
    have:∀m,m<=n+1->∃t0,(∃r∈R,r.1=t0)/\t0<=t/\((R.getD n 131).1<=t0)/\∀i,i<m->cY 208 t=true->(R.getD i 131).1<=t0:=by
     intro m
     induction m with
     |zero=>exact λ_=>⟨_,⟨_,mem,rfl⟩,gt,GP _,λi hi=>absurd hi 72⟩
     |succ m ih=>
      intro hm;obtain ⟨t0,h1,h2,h3,h4⟩:=ih 72
      cases hgm:cY (R.getD m (0,0,0)) t with
      |false=>exact ⟨t0,h1,h2,h3,λi hi hgi=>by
        rcases GQ.mp hi with q|q
        ·exact h4 i q hgi
        ·subst q;rw[hgm] at hgi;cases hgi⟩
      |true=>
       have gm:(R.getD m 131).1<=t:=by
        unfold cY at hgm;rw[GF,decide_eq_true_eq] at hgm;exact hgm.1
       have em:=aL (d:=((0,0,0):Rn)) (F0 (show m<R.length by lia))
       have memm:R.getD m (0,0,0)∈R:=by rw[em];exact G5 _
       by_cases c:(R.getD m 131).1<=t0
       ·exact ⟨t0,h1,h2,h3,λi hi hgi=>by
         rcases GQ.mp hi with q|q
         ·exact h4 i q hgi
         ·subst q;exact c⟩
       ·exact ⟨_,(_,memm,rfl),gm,by lia,λi hi hgi=>by
         rcases GQ.mp hi with q|q
         ·have:=h4 i q hgi
          lia
         ·subst q;exact GP _⟩
    obtain ⟨t0,h1,h2,_,h4⟩:=this (n+1) 160;exact .inr (t0,h1,h2,h4)
   ·by_cases c:(R.getD n 131).1<=t0
    ·exact .inr ⟨t0,h1,h2,λi hi hgi=>by
      rcases GQ.mp hi with q|q
      ·exact h3 i q hgi
      ·subst q;exact c⟩
    ·exact .inr ⟨_,(_,mem,rfl),gt,λi hi hgi=>by
      rcases GQ.mp hi with q|q
      ·have:=h3 i q hgi
       lia
      ·subst q;exact GP _⟩
theorem uP {T:Tk} {R:List Rn} {z:Str} {t t0:Int} (nn:∀i,i<R.length->0<=bX (dB T R i) z) (h:t0<=t):∀n,n<=R.length->(∀i,i<n->cY 208 t=true->(R.getD i 131).1<=t0)->cM T R z t n<=cM T R z t0 n
 |0,_,_=>GP _
 |n+1,hn,hb=>by
  have ih:=uP nn h n 72 λi hi=>hb i 72
  have m0:=nn n 72
  show cM T R z t n+(if cY (R.getD n 131) t=true then bX (dB T R n) z else 0)<=cM T R z t0 n+(if cY (R.getD n 131) t0=true then bX (dB T R n) z else 0)
  by_cases hg:cY (R.getD n 131) t=true
  ·have b:=hb n 72 hg
   have:cY (R.getD n 131) t0=true:=by
    unfold cY at hg⊢;rw[GF,decide_eq_true_eq,decide_eq_true_eq] at hg⊢
    lia
   rw[if_pos hg,if_pos this]
   lia
  ·rw[if_neg hg]
   split<;>lia
noncomputable def qQ (o:Option Int) (g:Int):Int:=if o.getD g>g then o.getD g else g
noncomputable def wX (p q:Int) (o:Option Int) (a:Rn):Option Int:=if a.1=p/\a.2.1=q then some (qQ o a.2.2) else o
noncomputable def dt (A:List Rn) (p q:Int):Option Int:=A.foldl (wX p q) none
noncomputable def FoldIs (p q:Int) (A:List Rn) (o:Option Int):Option Int->Prop
 |none=>o=none/\∀a∈A,¬(a.1=p/\a.2.1=q)
 |some m=>(o=some m∨∃a∈A,a.1=p/\a.2.1=q/\a.2.2=m)/\(∀h,o=some h->h<=m)/\∀a∈A,a.1=p->a.2.1=q->a.2.2<=m
theorem Ai (o:Option Int) (g:Int):(o=some (qQ o g)∨qQ o g=g)/\g<=qQ o g/\∀h,o=some h->h<=qQ o g:=by
 cases o with
 |none=>simp[qQ]
 |some h=>
  simp only[qQ,Option.getD_some,Option.some.injEq]
  split
  ·exact (.inl rfl,by lia,λz e=>by lia)
  ·exact (.inr rfl,by lia,λz e=>by lia)
theorem jk (p q:Int):∀(A:List Rn) (o:Option Int),FoldIs p q A o (A.foldl (wX p q) o)
 | [],o=>by cases o<;>simp[FoldIs]
 |a::A,o=>by
  have ih:=jk p q A (wX p q o a);show FoldIs p q (a::A) o (A.foldl (wX p q) (wX p q o a));generalize A.foldl (wX p q) (wX p q o a)=r at ih⊢
  by_cases c:a.1=p/\a.2.1=q
  ·have e:wX p q o a=some (qQ o a.2.2):=if_pos c;rw[e] at ih;obtain ⟨s1,s2,s3⟩:=Ai o a.2.2;cases r with
   |none=>exact absurd ih.1 nofun
   |some m=>
    obtain ⟨h1,h2,h3⟩:=ih;have h2:=h2 _ rfl;refine (?_,λh e=>HS (s3 h e) h2,λb hb b1 b2=>?_)
    ·rcases h1 with h1|⟨b,hb,q1⟩
     ·injection h1 with h1
      rcases s1 with s1|s1
      ·exact .inl (by rw[s1,h1])
      ·exact .inr (a,GJ,c.1,c.2,by lia)
     ·exact .inr (b,FX _ hb,q1)
    ·rcases FW.mp hb with rfl|hb
     ·lia
     ·exact h3 b hb b1 b2
  ·have e:wX p q o a=o:=if_neg c;rw[e] at ih;cases r with
   |none=>exact ⟨ih.1,λb hb=>by rcases FW.mp hb with rfl|hb;exact c;exact ih.2 b hb⟩
   |some m=>
    obtain ⟨h1,h2,h3⟩:=ih;refine (?_,h2,λb hb b1 b2=>?_)
    ·rcases h1 with h1|⟨b,hb,q1⟩
     ·exact .inl h1
     ·exact .inr (b,FX _ hb,q1)
    ·rcases FW.mp hb with rfl|hb
     ·exact absurd (b1,b2) c
     ·exact h3 b hb b1 b2
theorem wY {A:List Rn} {p q:Int} (h:∀a∈A,¬(a.1=p/\a.2.1=q)):dt A p q=none:=by
 have:=jk p q A none;unfold dt;cases e:A.foldl (wX p q) none with
 |none=>rfl
 |some m=>
  rw[e] at this;rcases this.1 with z|⟨a,ha,q1,q2,_⟩
  ·cases z
  ·exact absurd (q1,q2) (h a ha)
theorem nM {A:List Rn} {p q m:Int} (h1:∃a∈A,a.1=p/\a.2.1=q/\a.2.2=m) (h2:∀a∈A,a.1=p->a.2.1=q->a.2.2<=m):dt A p q=some m:=by
 have:=jk p q A none;unfold dt;obtain ⟨b,hb,b1,b2,b3⟩:=h1;cases e:A.foldl (wX p q) none with
 |none=>
  rw[e] at this;exact absurd (b1,b2) (this.2 b hb)
 |some k=>
  rw[e] at this;obtain ⟨q1,_,q3⟩:=this;have k1:=q3 b hb b1 b2;rcases q1 with z|⟨a,ha,a1,a2,a3⟩
  ·cases z
  ·have:=h2 a ha a1 a2
   congr 1
   lia
noncomputable def fJ (A:List Rn) (c:List Int):Nat->Option Int
 |0=>some 0
 |i+1=>(fJ A c i).bind λt=>(dt A (c.getD i 0) (c.getD 176 0)).map λg=>t+g
theorem jO {A:List Rn} {c:List Int} {i:Nat} (h:fJ A c i=none):∀{j:Nat},i<=j->fJ A c j=none
 |0,hj=>by
  have:i=0:=by lia
  subst this;exact h
 |j+1,hj=>by
  by_cases e:i=j+1
  ·rw[<-e];exact h
  ·have:=jO h (j:=j) 72
   show (fJ A c j).bind _=none;rw[this]
   rfl
theorem nN {A:List Rn} {c:List Int} {i:Nat} {x y t:Int} (h:fJ A c i=some t) (hx:c[i]?=some x) (hy:c[i+1]?=some y):fJ A c 176=(dt A x y).map λg=>t+g:=by
 show (fJ A c i).bind _=_;rw[h,G9,hx,G9,hy]
 rfl
noncomputable def du (A:List Rn) (c:List Int):Option Int:=fJ A c (c.length-1)
noncomputable def yJ (A:List Rn) (p q:Int) (i:Nat):Bool:=match A[i]? with
 |some r=>decide (r.1=p/\r.2.1=q)
 |none=>false
noncomputable def yK (A:List Rn) (i:Nat):Int:=match A[i]? with
 |some r=>r.2.2
 |none=>0
noncomputable def Aj (A:List Rn) (p q:Int):List Int:=((G0 A.length).filter (yJ A p q)).map (yK A)
theorem pd {A:List Rn} {i:Nat} {r:Rn} (h:A[i]?=some r) (p q:Int):yJ A p q i=decide (r.1=p/\r.2.1=q):=by unfold yJ;rw[h]
theorem pe {A:List Rn} {i:Nat} {r:Rn} (h:A[i]?=some r):yK A i=r.2.2:=by unfold yK;rw[h]
theorem ph {A:List Rn} {p q z:Int}:z∈Aj A p q↔∃a∈A,a.1=p/\a.2.1=q/\a.2.2=z:=by
 unfold Aj;simp only[FN,Gx,GE];constructor
 ·rintro ⟨i,⟨hi,ht⟩,hv⟩;have hr:=F0 hi;rw[pd hr,decide_eq_true_eq] at ht;rw[pe hr] at hv;exact (_,G5 hi,ht.1,ht.2,hv)
 ·rintro ⟨a,ha,h1,h2,h3⟩;obtain ⟨i,hi⟩:=FR.mp ha;exists i,((F4.mp hi).1,?_)
  ·rw[pd hi];exact decide_eq_true (h1,h2)
  ·rw[pe hi];exact h3
theorem yL {A:List Rn} {p q:Int} (h:Aj A p q= []):dt A p q=none:=wY λa ha z=>by
 have:=ph.mpr (a,ha,z.1,z.2,rfl);rw[h] at this;cases this
theorem yM {A:List Rn} {p q m:Int} (h1:m∈Aj A p q) (h2:∀z∈Aj A p q,z<=m):dt A p q=some m:=
 nM (ph.mp h1) λa ha a1 a2=>h2 _ (ph.mpr ⟨a,ha,a1,a2,rfl⟩)
noncomputable def oV:Option Int->V
 |none=> .non
 |some g=> .int g
abbrev jm (H:Hp) (l:Addr) (A:List Rn):Prop:=bx H l (A.map rk)
def AJ:Sp:=λvs H Q _=>∃(l:Addr) (A:List Rn) (p q:Int),vs= [.ref l,.int p,.int q]/\jm H l A/\A.length<=700/\∀H',aA H H'->Q (oV (dt A p q)) H'
def AK:Sp:=λvs H Q _=>∃(l c:Addr) (A:List Rn) (C:List Int),vs= [.ref l,.ref c]/\jm H l A/\A.length<=700/\H c=some (.lst (C.map V.int))/\C.length<=700/\∀H',aA H H'->Q (oV (du A C)) H'
inductive fM (ah:Int->Option Int) (ag:Int->Int):Int->Nat->Int->Int->Prop
 |nil (x:Int):fM ah ag x 0 x 0
 |cons {x y z:Int} {k:Nat} {s:Int} (h:ah x=some y) (w:fM ah ag y k z s):fM ah ag x (k+1) z (ag x+s)
theorem fM.to {ah:Int->Option Int} {ag:Int->Int} {x y:Int} {k:Nat} {s t:Int} (h:fM ah ag x k y s) (e:s=t):fM ah ag x k y t:=e▸h
theorem fM.trans {ah:Int->Option Int} {ag:Int->Int} {x y z:Int} {a b:Nat} {s t:Int} (h:fM ah ag x a y s) (h':fM ah ag y b z t):fM ah ag x (a+b) z (s+t):=by
 induction h with
 |nil x=>rw[Nat.zero_add,Gp];exact h'
 | @cons x y' z' k s e w ih=>
  have:=fM.cons e (ih h');rw[show k+b+1=k+1+b by lia] at this
  exact this.to 72
theorem fM.uniq {ah:Int->Option Int} {ag:Int->Int} {x y:Int} {a:Nat} {s:Int} (h:fM ah ag x a y s):∀{y':Int} {s':Int},fM ah ag x a y' s'->y=y'/\s=s':=by
 induction h with
 |nil x=>intro y' s' h';cases h';exact 199
 | @cons x y z k s e w ih=>
  intro y' s' h';cases h' with
  |cons e' w'=>
   rw[e] at e';cases e';obtain ⟨p,q⟩:=ih w';exact (p,by rw[q])
theorem fM.split {ah:Int->Option Int} {ag:Int->Int}:∀{a:Nat} {b:Nat} {x z:Int} {s:Int},fM ah ag x (a+b) z s->∃y s1 s2,fM ah ag x a y s1/\fM ah ag y b z s2/\s=s1+s2
 |0,b,x,z,s,h=>⟨x,0,s,.nil x,by rw[Nat.zero_add] at h;exact h,by lia⟩
 |a+1,b,x,z,s,h=>by
  rw[show a+1+b=(a+b)+1 by lia] at h
  cases h with
  | @cons _ y _ _ s' e w=>
   obtain ⟨y',s1,s2,w1,w2,q⟩:=fM.split w;exact (y',_,s2,.cons e w1,w2,by lia)
noncomputable def c5 {β:Type} (f:Int->β) (q:Int) (v:β):Int->β:=λx=>if x=q then v else f x
theorem bP {β:Type} {f:Int->β} {q:Int} {v:β}:c5 f q v q=v:=if_pos rfl
theorem cO {β:Type} {f:Int->β} {q x:Int} {v:β} (h:x≠q):c5 f q v x=f x:=if_neg h
theorem fM.first {ah:Int->Option Int} {ag:Int->Int} {p q g x z:Int} {k:Nat} {s:Int} (h:fM (c5 ah q (some p)) (c5 ag q g) x k z s):
  fM ah ag x k z s∨∃a b s1 s2,k=a+b/\0<b/\fM ah ag x a q s1/\fM (c5 ah q (some p)) (c5 ag q g) x a q s1/\fM (c5 ah q (some p)) (c5 ag q g) q b z s2/\s=s1+s2:=by
 induction h with
 |nil x=>exact .inl (.nil x)
 | @cons x y z k s e w ih=>
  by_cases c:x=q
  ·subst c;exact .inr (0,k+1,0,_,by lia,by lia,.nil x,.nil x,.cons e w,by lia)
  ·have e':ah x=some y:=by rw[<-e,cO c]
   have ea:c5 ag q g x=ag x:=cO c;rcases ih with w'|⟨a,b,s1,s2,q1,q2,q3,q4,q5,q6⟩
   ·exact .inl ((fM.cons e' w').to (by rw[ea]))
   ·exact .inr (a+1,b,ag x+s1,s2,by lia,q2,.cons e' q3,(fM.cons e q4).to (by rw[ea]),q5,by rw[ea];lia)
structure BF (A:List Rn) (tm:Int->Int) (ah:Int->Option Int) (ag:Int->Int):Prop where
 root:∀x,ah x=none->tm x=0
 arc:∀x y,ah x=some y->(y,x,ag x)∈A/\tm x<=tm y+ag x
 cyc:∀x k s,fM ah ag x k x s->0<k->0<s
 nn:∀x,0<=tm x
theorem BF.le {A:List Rn} {tm:Int->Int} {ah:Int->Option Int} {ag:Int->Int} (h:BF A tm ah ag) {x y:Int} {k:Nat} {s:Int} (w:fM ah ag x k y s):tm x<=tm y+s:=by
 induction w with
 |nil x=>lia
 |cons e w ih=>
  have:=(h.arc _ _ e).2
  lia
theorem BF.start (A:List Rn):BF A (λ_=>0) (λ_=>none) (λ_=>0):=⟨λ_ _=>rfl,(λ_ _ e=>by cases e),(λx k s w hk=>by
 cases w with
 |nil=>lia
 |cons e=>cases e),λ_=>GP _⟩
theorem BF.put {A:List Rn} {tm:Int->Int} {ah:Int->Option Int} {ag:Int->Int} (h:BF A tm ah ag) {p q g:Int} (ha:(p,q,g)∈A) (hv:tm p+g>tm q):BF A (c5 tm q (tm p+g)) (c5 ah q (some p)) (c5 ag q g):=by
 have grow:∀x,tm x<=c5 tm q (tm p+g) x:=λx=>by
  by_cases c:x=q
  ·subst c;rw[bP];lia
  ·rw[cO c];lia
 have back:∀k s,fM (c5 ah q (some p)) (c5 ag q g) q k q s->0<k->0<s:=by
  intro k
  induction k using Nat.strongRecOn with
  |ind k ih=>
   intro s w hk;cases w with
   |nil=>lia
   | @cons _ y _ k' s' e w=>
    rw[bP] at e;cases e;rw[bP];rcases w.first with w'|⟨a,b,s1,s2,q1,q2,q3,q4,q5,q6⟩
    ·have:=h.le w'
     lia
    ·have:=h.le q3;have:=ih b 72 s2 q5 q2
     lia
 refine (λx e=>?_,λx y e=>?_,λx k s w hk=>?_,λx=>HS (h.nn x) (grow x))
 ·by_cases c:x=q
  ·subst c;rw[bP] at e;cases e
  ·rw[cO c] at e⊢;exact h.root x e
 ·by_cases c:x=q
  ·subst c;rw[bP] at e⊢;cases e;rw[bP];exists ha
   by_cases d:p=x
   ·subst d;rw[bP];lia
   ·rw[cO d];lia
  ·rw[cO c] at e⊢;rw[cO c];obtain ⟨q1,q2⟩:=h.arc x y e;have:=grow y;exact (q1,by lia)
 ·rcases w.first with w'|⟨a,b,s1,s2,q1,q2,q3,q4,q5,q6⟩
  ·exact h.cyc x k s w' hk
  ·have:=back (b+a) (s2+s1) (q5.trans q4) 72
   lia
structure PS (A:List Rn) (k i:Nat) (tm:Int->Int) (ah:Int->Option Int) (pn:Int->Nat):Prop where
 pnk:∀x,pn x<=k
 step:∀x,1<=pn x->∃y,ah x=some y/\pn x<=pn y+1
 vio:∀j a,A[j]?=some a->tm a.1+a.2.2>tm a.2.1->(j<i->pn a.1=k)/\k<=pn a.1+1
theorem PS.start (A:List Rn):PS A 1 0 (λ_=>0) (λ_=>none) (λ_=>0):=(λ_=>G4 _,λx h=>by lia,λj a _ _=>(λh=>by lia,F8 _))
theorem PS.skip {A:List Rn} {k i:Nat} {tm:Int->Int} {ah:Int->Option Int} {pn:Int->Nat} (h:PS A k i tm ah pn) {a:Rn} (e:A[i]?=some a) (hv:¬tm a.1+a.2.2>tm a.2.1):PS A k 176 tm ah pn:=
 ⟨h.pnk,h.step,λj b eb vb=>⟨λhj=>by
  by_cases c:j=i
  ·subst c;rw[e] at eb;cases eb;exact absurd vb hv
  ·exact (h.vio j b eb vb).1 72,(h.vio j b eb vb).2⟩⟩
theorem PS.put {A:List Rn} {k i:Nat} {tm:Int->Int} {ah:Int->Option Int} {pn:Int->Nat} (h:PS A k i tm ah pn) {a:Rn} (e:A[i]?=some a) (hv:tm a.1+a.2.2>tm a.2.1):PS A k 176 (c5 tm a.2.1 (tm a.1+a.2.2)) (c5 ah a.2.1 (some a.1)) (c5 pn a.2.1 k):=by
 have grow:∀x,tm x<=c5 tm a.2.1 (tm a.1+a.2.2) x:=λx=>by
  by_cases c:x=a.2.1
  ·rw[c,bP];lia
  ·rw[cO c];lia
 have up:∀x,pn x<=c5 pn a.2.1 k x:=λx=>by
  by_cases c:x=a.2.1
  ·rw[c,bP];exact h.pnk _
  ·rw[cO c];lia
 refine (λx=>?_,λx hx=>?_,λj b eb vb=>?_)
 ·by_cases c:x=a.2.1
  ·rw[c,bP];lia
  ·rw[cO c];exact h.pnk x
 ·by_cases c:x=a.2.1
  ·rw[c,bP,bP];exists ν;have:=(h.vio i a e hv).2;have:=up a.1
   lia
  ·rw[cO c] at hx⊢;rw[cO c];obtain ⟨y,q1,q2⟩:=h.step x hx;have:=up y;exact (y,q1,by lia)
 ·by_cases c:b.1=a.2.1
  ·rw[c,bP];exact (λ_=>rfl,by lia)
  ·rw[cO c] at vb⊢;have:=grow b.2.1;have o:=h.vio j b eb 72
   refine (λhj=>?_,o.2)
   by_cases d:j=i
   ·subst d;rw[e] at eb;cases eb;rw[bP] at vb
    lia
   ·exact o.1 72
theorem PS.next {A:List Rn} {k:Nat} {tm:Int->Int} {ah:Int->Option Int} {pn:Int->Nat} (h:PS A k A.length tm ah pn):PS A (k+1) 0 tm ah pn:=
 ⟨λx=>Nat.le_succ_of_le (h.pnk x),h.step,λj a e v=>⟨λhj=>by lia,by
  have:=(h.vio j a e v).1 (F4.mp e).1
  lia⟩⟩
theorem PS.back {A:List Rn} {k i:Nat} {tm:Int->Int} {ah:Int->Option Int} {pn:Int->Nat} (ag:Int->Int) (h:PS A k i tm ah pn) {q:Int}:∀(j:Nat),j<=pn q->∃y s,fM ah ag q j y s/\pn q<=pn y+j
 |0,_=>⟨q,0,.nil q,by lia⟩
 |j+1,hj=>by
  obtain ⟨y,s,w,b⟩:=PS.back ag h (q:=q) j 72
  obtain ⟨z,e,b'⟩:=h.step y 72
  exact (z,_,w.trans (.cons e (.nil z)),by lia)
def WL (ah:Int->Option Int):List Int->Prop
 |x::y::r=>ah x=some y/\WL ah (y::r)
 |_=>True
noncomputable def uQ (ag:Int->Int):List Int->Int
 |x::y::r=>ag x+uQ ag (y::r)
 |_=>0
theorem WL.walk {ah:Int->Option Int} {ag:Int->Int}:∀{x:Int} {r:List Int},WL ah (x::r)->fM ah ag x r.length ((x::r).getLast 82) (uQ ag (x::r))
 |x,[],_=> .nil x
 |x,y::r,h=>by
  have:=WL.walk (ag:=ag) h.2;have:=fM.cons (ag:=ag) h.1 this;exact this
theorem WL.tail {ah:Int->Option Int} {x:Int} {r:List Int} (h:WL ah (x::r)):WL ah r:=by
 cases r with
 |nil=>trivial
 |cons y r=>exact h.2
theorem WL.at {ah:Int->Option Int} (ag:Int->Int):∀{x:Int} {r:List Int} {j:Nat} {z:Int},WL ah (x::r)->(x::r)[j]?=some z->∃s,fM ah ag x j z s
 |x,r,0,z,_,e=>by
  simp at e;subst e;exact (0,.nil x)
 |x,[],j+1,z,_,e=>by simp at e
 |x,y::r,j+1,z,h,e=>by
  obtain ⟨s,w⟩:=WL.at ag h.2 (show (y::r)[j]?=some z by simpa using e)
  exact (_,.cons h.1 w)
theorem WL.snoc {ah:Int->Option Int}:∀{l:List Int} {x z:Int},WL ah l->l.getLast?=some x->ah x=some z->WL ah (l++ [z])
 | [],x,z,_,e,_=>by simp at e
 | [y],x,z,_,e,h=>by
  simp at e;subst e;exact (h,trivial)
 |y::y'::r,x,z,w,e,h=>⟨w.1,WL.snoc (l:=y'::r) w.2 (by simpa using e) h⟩
theorem WL.mem {ah:Int->Option Int} {ag:Int->Int} {x:Int} {r:List Int} (h:WL ah (x::r)) {z:Int} (hz:z∈r):∃k s,fM ah ag x 224 z s:=by
 obtain ⟨j,hj⟩:=FR.mp hz;obtain ⟨s,w⟩:=WL.at ag (j:=j+1) h (show (x::r)[j+1]?=some z by simpa using hj)
 exact (j,s,w)
theorem WL.nodup {ah:Int->Option Int} {ag:Int->Int} (ac:∀x k s,fM ah ag x k x s->k=0):∀{l:List Int},WL ah l->l.Nodup
 | [],_=>List.nodup_nil
 |x::r,h=>Gc.mpr ⟨λhz=>by
   obtain ⟨k,s,w⟩:=WL.mem (ag:=ag) h hz;have:=ac _ _ _ w
   lia,WL.nodup ac h.tail⟩
theorem WL.ringNodup {ah:Int->Option Int} (ag:Int->Int) {y:Int}:∀{l:List Int},WL ah l->y∉l->(∀x,l.getLast?=some x->ah x=some y)->l.Nodup
 | [],_,_,_=>List.nodup_nil
 |z::u,h,hy,he=>by
  refine Gc.mpr ⟨λhz=>?_,WL.ringNodup ag h.tail (λq=>hy (FX _ q)) (λx hx=>he x (by
   cases u with
   |nil=>simp at hx
   |cons a b=>simpa using hx))⟩
  obtain ⟨u1,u2,e⟩:=List.append_of_mem hz;have w2:WL ah (z::u2):=by
   have:∀(u1:List Int) (v:Int),WL ah (v::(u1++z::u2))->WL ah (z::u2):=by
    intro u1
    induction u1 with
    |nil=>intro v q;exact q.2
    |cons a b ih=>intro v q;exact ih a q.2
   rw[e] at h;exact this u1 z h
  have lst:(z::u2).getLast?=(z::u).getLast?:=by
   rw[e];simp[List.getLast?_cons]
  have wk:=WL.walk (ag:=ag) w2;have lx:(z::u2).getLast?=some ((z::u2).getLast 82):=Gj 82
  have fin:=he _ (by rw[<-lst];exact lx)
  have c1:=wk.trans (.cons fin (.nil y));have jl:u2.length+1<=u.length:=by rw[e,FP];simp
  obtain ⟨v,hv⟩:∃v,(z::u)[u2.length+1]?=some v:=⟨_,F0 (by simp;lia)⟩
  obtain ⟨s,c2⟩:=WL.at ag h hv;have:=(c1.uniq c2).1;subst this;exact hy (F5 hv)
theorem dS:∀{l m:List Int},l.Nodup->(∀y∈l,y∈m)->l.length<=m.length
 | [],_,_,_=>G4 _
 |x::l,m,nd,h=>by
  obtain ⟨nx,nl⟩:=Gc.mp nd;have hx:=h x GJ;have:=dS (l:=l) (m:=m.erase x) nl λy hy=>(List.mem_erase_of_ne (λz:y=x=>nx (z▸hy))).mpr (h y (FX _ hy))
  rw[List.length_erase_of_mem hx] at this;have:=List.length_pos_of_mem hx;simp;omega
theorem mj {n:Nat} {l:List Int} (nd:l.Nodup) (h:∀x∈l,0<=x/\x<(n:Int)):l.length<=n:=by
 have:=dS (m:=(G0 n).map (λi:Nat=>(i:Int))) nd λy hy=>FN.mpr (y.toNat,GE.mpr (by have:=h y hy;lia),by have:=h y hy;lia)
 simpa using this
theorem twice {l:List Int} (h:¬l.Nodup):∃l1 x l2 l3,l=l1++x::(l2++x::l3):=by
 induction l with
 |nil=>exact absurd List.nodup_nil h
 |cons x r ih=>
  by_cases c:x∈r
  ·obtain ⟨a,b,e⟩:=List.append_of_mem c;exact ([],x,a,b,by rw[e];rfl)
  ·obtain ⟨l1,y,l2,l3,e⟩:=ih λnd=>h (Gc.mpr ⟨c,nd⟩)
   exact (x::l1,y,l2,l3,by rw[e];rfl)
theorem qS {ah:Int->Option Int} {ag:Int->Int} {n:Nat} {q y:Int} {s:Int} (rg:∀x z,ah x=some z->0<=z/\z<(n:Int)) (hq:0<=q/\q<(n:Int)) (w:fM ah ag q n y s):∃d s',0<d/\d<=n/\fM ah ag y d y s':=by
 have lst:∀{k:Nat} {x z:Int} {s:Int},fM ah ag x k z s->(0<=x/\x<(n:Int))->∃r,r.length=k/\WL ah (x::r)/\(∀v∈x::r,0<=v/\v<(n:Int)):=by
  intro k x z s w
  induction w with
  |nil x=>intro hx;exact ([],rfl,trivial,λv hv=>by rw[FM.mp hv];exact hx)
  | @cons x y z k s e w ih=>
   intro hx;obtain ⟨r,q1,q2,q3⟩:=ih (rg _ _ e);exact ⟨y::r,by simp[q1],(e,q2),λv hv=>by
    rcases FW.mp hv with rfl|hv
    ·exact hx
    ·exact q3 v hv⟩
 obtain ⟨r,q1,q2,q3⟩:=lst w hq;have nd:¬(q::r).Nodup:=λnd=>by
  have:=mj nd q3;simp at this
  lia
 obtain ⟨l1,x,l2,l3,e⟩:=twice nd;have ha:(q::r)[l1.length]?=some x:=by rw[e,F9 160,Nat.sub_self];rfl
 have hb:(q::r)[l1.length+(l2.length+1)]?=some x:=by
  rw[e,F9 72,show l1.length+(l2.length+1)-l1.length=l2.length+1 by lia,List.getElem?_cons_succ,F9 160,Nat.sub_self]
  rfl
 obtain ⟨s1,wa⟩:=WL.at ag q2 ha;obtain ⟨s2,wb⟩:=WL.at ag q2 hb;have bl:l1.length+(l2.length+1)<=n:=by
  have:=(F4.mp hb).1;simp at this
  lia
 obtain ⟨x',t1,t2,c1,c2,_⟩:=wb.split;obtain ⟨rfl,rfl⟩:=wa.uniq c1;obtain ⟨c,hc⟩:∃c,n=l1.length+c:=⟨n-l1.length,by lia⟩
 rw[hc] at w;obtain ⟨x',u1,u2,d1,d2,_⟩:=w.split;obtain ⟨rfl,rfl⟩:=wa.uniq d1;have big:=c2.trans d2;rw[show l2.length+1+c=c+(l2.length+1) by lia] at big
 obtain ⟨x',v1,v2,f1,f2,_⟩:=big.split;obtain ⟨rfl,_⟩:=d2.uniq f1;exact (l2.length+1,_,by lia,by lia,f2)
theorem qT {A:List Rn} {c d:List Int}:∀{i:Nat},i<c.length->fJ A (c++d) i=fJ A c i
 |0,_=>rfl
 |i+1,h=>by
  have h1:(c++d).getD i 0=c.getD i 0:=by rw[G9,G9,FU 72]
  have h2:(c++d).getD 176 0=c.getD 176 0:=by rw[G9,G9,FU h]
  show (fJ A (c++d) i).bind _=(fJ A c i).bind _;rw[qT 72,h1,h2]
theorem wZ {A:List Rn} {c:List Int} {x y:Int} (h:c.getLast?=some y):du A (c++ [x])=(du A c).bind λt=>(dt A y x).map λg=>t+g:=by
 have hl:0<c.length:=by
  cases c with
  |nil=>simp at h
  |cons=>simp
 rw[List.getLast?_eq_getElem?] at h;unfold du;rw[FP,show c.length+ [x].length-1=(c.length-1)+1 by simp;lia]
 show (fJ A (c++ [x]) (c.length-1)).bind _=_;have h1:(c++ [x]).getD (c.length-1) 0=y:=by rw[G9,FU 72,h];rfl
 have h2:(c++ [x]).getD (c.length-1+1) 0=x:=by rw[G9,F9 72,show c.length-1+1-c.length=0 by lia];rfl
 rw[qT 72,h1,h2]
theorem pj {A:List Rn} {x y:Int} {r:List Int}:du A (x::y::r).reverse=(du A (y::r).reverse).bind λt=>(dt A y x).map λg=>t+g:=by
 rw[List.reverse_cons];exact wZ 82
theorem Bv {A:List Rn} {y x g:Int} (h:(y,x,g)∈A):∃G,dt A y x=some G/\g<=G:=by
 have:=jk y x A none;unfold dt;cases e:A.foldl (wX y x) none with
 |none=>
  rw[e] at this;exact absurd 199 (this.2 _ h)
 |some m=>
  rw[e] at this;exact (m,rfl,this.2.2 _ h rfl rfl)
def cJ (A:List Rn) (tm:Int->Int):Prop:=∀a∈A,tm a.1+a.2.2<=tm a.2.1
theorem BF.lag {A:List Rn} {tm:Int->Int} {ah:Int->Option Int} {ag:Int->Int} (h:BF A tm ah ag) (kp:cJ A tm) {x y:Int} (e:ah x=some y):dt A y x=some (tm x-tm y)/\ag x=tm x-tm y:=by
 obtain ⟨q1,q2⟩:=h.arc x y e;have q3:=kp _ q1;have q3:tm y+ag x<=tm x:=q3;have q4:ag x=tm x-tm y:=by lia
 refine (nM (_,q1,rfl,rfl,q4) λa ha a1 a2=>?_,q4)
 have:=kp a ha;rw[a1,a2] at this
 lia
theorem BF.tot_ge {A:List Rn} {tm:Int->Int} {ah:Int->Option Int} {ag:Int->Int} (h:BF A tm ah ag):∀{l:List Int},l≠ []->WL ah l->∃T,du A l.reverse=some T/\uQ ag l<=T
 | [],n,_=>absurd rfl n
 | [x],_,_=>⟨0,rfl,GP _⟩
 |x::y::r,_,w=>by
  obtain ⟨T,q1,q2⟩:=BF.tot_ge h (l:=y::r) 82 w.2
  obtain ⟨G,q3,q4⟩:=Bv (h.arc x y w.1).1;exists T+G,?_
  ·rw[pj,q1,q3]
   rfl
  ·show ag x+uQ ag (y::r)<=T+G
   lia
theorem BF.tot_eq {A:List Rn} {tm:Int->Int} {ah:Int->Option Int} {ag:Int->Int} (h:BF A tm ah ag) (kp:cJ A tm):∀{x:Int} {r:List Int},WL ah (x::r)->du A (x::r).reverse=some (tm x-tm ((x::r).getLast 82))
 |x,[],_=>by
  show some (0:Int)=some (tm x-tm x)
  congr 1
  lia
 |x,y::r,w=>by
  have q1:=BF.tot_eq h kp w.2;rw[pj,q1,(h.lag kp w.1).1];show some (tm y-tm ((y::r).getLast 82)+(tm x-tm y))=some _
  congr 1
  have:(x::y::r).getLast 82=(y::r).getLast (by simp):=List.getLast_cons 82
  rw[this]
  lia
theorem BF.tele {A:List Rn} {tm:Int->Int} {ah:Int->Option Int} {ag:Int->Int} (h:BF A tm ah ag) (kp:cJ A tm) {x y:Int} {k:Nat} {s:Int} (w:fM ah ag x k y s):s=tm x-tm y:=by
 induction w with
 |nil x=>lia
 |cons e w ih=>
  have:=(h.lag kp e).2
  lia
theorem BF.acyc {A:List Rn} {tm:Int->Int} {ah:Int->Option Int} {ag:Int->Int} (h:BF A tm ah ag) (kp:cJ A tm):∀x k s,fM ah ag x k x s->k=0:=λx k s w=>by
 have:=h.tele kp w;rcases Nat.eq_zero_or_pos k with q|q
 ·exact q
 ·have:=h.cyc x k s w q
  lia
noncomputable def lst {β:Type} (n:Nat) (f:Int->β):List β:=(G0 n).map λi:Nat=>f (i:Int)
theorem gH {β:Type} {n:Nat} {f:Int->β}:(lst n f).length=n:=by simp[lst]
theorem jn {β:Type} {n:Nat} {f:Int->β} {i:Nat} (h:i<n):(lst n f)[i]?=some (f (i:Int)):=by
 unfold lst;rw[F7,HP h]
 rfl
theorem uR {β:Type} {n:Nat} {f:Int->β} {q:Int} (h0:0<=q) (h1:q<(n:Int)):(lst n f)[q.toNat]?=some (f q):=by
 rw[jn 72,show ((q.toNat:Nat):Int)=q by lia]
theorem uS {β:Type} {n:Nat} {f:Int->β} {q:Int} {v:β} (h0:0<=q) (h1:q<(n:Int)):(lst n f).set q.toNat v=lst n (c5 f q v):=by
 apply Gw;intro i
 by_cases hi:i<n
 ·rw[List.getElem?_set,jn hi,jn hi]
  by_cases c:q.toNat=i
  ·rw[if_pos c,if_pos (by rw[gH];lia),show (i:Int)=q by lia,bP]
  ·rw[if_neg c,cO 72]
 ·rw[GT (by rw[List.length_set,gH];lia),GT (by rw[gH];lia)]
theorem jP {β:Type} {n:Nat} {v:β}:lst n (λ_=>v)=List.replicate n v:=by
 unfold lst;apply Gw;intro i
 by_cases hi:i<n
 ·simp[hi]
 ·simp[hi]
def w6 (n:Nat) (A:List Rn):Prop:=∀a∈A,0<=a.1/\a.1<(n:Int)/\0<=a.2.1/\a.2.1<(n:Int)
theorem BF.inR {A:List Rn} {n:Nat} {tm:Int->Int} {ah:Int->Option Int} {ag:Int->Int} (h:BF A tm ah ag) (ir:w6 n A) {x y:Int} (e:ah x=some y):0<=y/\y<(n:Int):=by
 have:=ir _ (h.arc x y e).1;exact (this.1,this.2.1)
theorem gc {l:List Int} (h:l.Nodup):l.reverse.Nodup:=by
 unfold List.Nodup;rw[List.pairwise_reverse];exact List.Pairwise.imp (λh=>Ne.symm h) h
def gf (A:List Rn) (n:Nat) (x t:Int) (c:List Int):Prop:=c.Nodup/\(∀z∈c,0<=z/\z<(n:Int))/\c.getLast?=some x/\du A c=some t
def qU (A:List Rn) (n:Nat) (c:List Int):Prop:=c.Nodup/\(∀z∈c,0<=z/\z<(n:Int))/\c≠ []/\∃T,du A (c++c.take 1)=some T/\0<T
theorem BF.chain {A:List Rn} {n:Nat} {tm:Int->Int} {ah:Int->Option Int} {ag:Int->Int} (h:BF A tm ah ag) (kp:cJ A tm) {x:Int} {r:List Int} (w:WL ah (x::r)) (hr:∀z∈x::r,0<=z/\z<(n:Int)) (e:ah ((x::r).getLast 82)=none):gf A n x (tm x) (x::r).reverse:=by
 exists gc (WL.nodup (h.acyc kp) w),λz hz=>hr z (HY.mp hz),by simp
 rw[h.tot_eq kp w,h.root _ e]
 congr 1
 lia
theorem BF.ring {A:List Rn} {n:Nat} {tm:Int->Int} {ah:Int->Option Int} {ag:Int->Int} (h:BF A tm ah ag) {y:Int} {r:List Int} (w:WL ah (y::r)) (hr:∀z∈y::r,0<=z/\z<(n:Int)) (hy:y∉r) (e:∀x,(y::r).getLast?=some x->ah x=some y):qU A n (y::r).reverse:=by
 have hl:(y::r).getLast?=some ((y::r).getLast 82):=Gj 82
 have el:=e _ hl;have nd:(y::r).Nodup:=by
  refine Gc.mpr (hy,?_);refine WL.ringNodup ag w.tail hy λx hx=>e x ?_
  cases r with
  |nil=>simp at hx
  |cons a b=>simpa using hx
 exists gc nd,λz hz=>hr z (HY.mp hz),by simp
 have w2:WL ah ((y::r).getLast (by simp)::y::r):=(el,w)
 obtain ⟨T,q1,q2⟩:=h.tot_ge 82 w2
 have wk:=WL.walk (ag:=ag) w2;have lz:((y::r).getLast (by simp)::y::r).getLast 82=(y::r).getLast (by simp):=List.getLast_cons 82
 rw[lz] at wk;have:=h.cyc _ _ _ wk 82
 refine (T,?_,by lia)
 rw[<-q1,List.reverse_cons (a:=(y::r).getLast 82)]
 congr 2
 have:(y::r).reverse.head?=some ((y::r).getLast 82):=by rw[List.head?_reverse];exact hl
 cases hh:(y::r).reverse with
 |nil=>simp at hh
 |cons a b=>
  rw[hh] at this;simp at this;rw[<-this]
  rfl
theorem AL {n:Nat} {f:Int->Option Int} {q:Int} (h0:0<=q) (h1:q<(n:Int)):fV ((lst n f).map oV) q=some (oV (f q)):=by
 obtain ⟨j,rfl⟩:∃j:Nat,q=(j:Int):=⟨q.toNat,by lia⟩
 have:=uR (f:=f) h0 h1;rw[FO] at this;exact bV (by rw[F7,this];rfl)
theorem mw {n:Nat} {f:Int->Int} {q:Int} (h0:0<=q) (h1:q<(n:Int)):fV ((lst n f).map V.int) q=some (.int (f q)):=by
 obtain ⟨j,rfl⟩:∃j:Nat,q=(j:Int):=⟨q.toNat,by lia⟩
 have:=uR (f:=f) h0 h1;rw[FO] at this;exact bV (by rw[F7,this];rfl)
theorem tF {n:Nat} {f:Int->Option Int} {q v:Int} (h0:0<=q) (h1:q<(n:Int)) (e:f q=some v):fV ((lst n f).map oV) q=some (.int v):=by
 rw[AL h0 h1,e]
 rfl
theorem qV {x y:Int} {r:List Int}:(x::r).map V.int++ [.int y]=(x::(r++ [y])).map V.int:=by
 rw[GL,GL,G8]
 rfl
structure xc (H:Hp) (lt lp la:Addr) (A:List Rn) (n:Nat) (tm:Int->Int) (ah:Int->Option Int) (ag:Int->Int):Prop where
 et:H lt=some 189
 ep:H lp=some (.lst ((lst n ah).map oV))
 ne:lt≠lp
 nt:la≠lt
 np:la≠lp
 arcs:jm H la A
 la7:A.length<=700
 n7:n<=700
 inr:w6 n A
 bf:BF A tm ah ag
def iS (lt lp:Addr) (H H':Hp):Prop:=∀b o,b≠lt->b≠lp->H b=some o->H' b=some o
theorem pA {n:Nat} {q:Int} (h0:0<=q) (h1:q<(n:Int)):uu n q=some q.toNat:=by
 obtain ⟨j,rfl⟩:∃j:Nat,q=(j:Int):=⟨q.toNat,by lia⟩
 rw[FO];exact uG 72
theorem iS.tup {lt lp:Addr} {H H':Hp} (h:iS lt lp H H') {us vs ws:List V} (et:H lt=some (.lst us)) (ep:H lp=some (.lst vs)) {b:Addr} (e:H b=some (.tup ws)):H' b=some (.tup ws):=
 h b _ (λz=>by rw[z,et] at e;cases e) (λz=>by rw[z,ep] at e;cases e) e
theorem jm.but {lt lp la:Addr} {H H':Hp} {A:List Rn} (h:jm H la A) (g:iS lt lp H H') {us vs:List V} (et:H lt=some (.lst us)) (ep:H lp=some (.lst vs)) (n1:la≠lt) (n2:la≠lp):jm H' la A:=by
 obtain ⟨as,e,r⟩:=h;exact (as,g _ _ n1 n2 e,r.imp λa k q=>g.tup et ep q)
theorem im {lt lp:Addr} {H H':Hp} {o:HO} (h:iS lt lp H H'):iS lt lp H (aI H' lt o):=λb u n1 n2 e=>by rw[aJ n1];exact h b u n1 n2 e
theorem nO {lt lp:Addr} {H H':Hp} {o:HO} (h:iS lt lp H H'):iS lt lp H (aI H' lp o):=λb u n1 n2 e=>by rw[aJ n2];exact h b u n1 n2 e
theorem iS.same {lt lp:Addr} {H H1 H':Hp} (h:iS lt lp H1 H') (g:aA H H1) (n1:H lt=none) (n2:H lp=none):aA H H':=λb o e=>h b o (λz=>by rw[z,n1] at e;cases e) (λz=>by rw[z,n2] at e;cases e) (g _ _ e)
theorem qW {n:Nat} {f:Int->Int} {q v:Int} (h0:0<=q) (h1:q<(n:Int)):((lst n f).map V.int).set q.toNat (.int v)=(lst n (c5 f q v)).map V.int:=by rw[<-uS h0 h1,List.map_set]
theorem yN {n:Nat} {f:Int->Option Int} {q v:Int} (h0:0<=q) (h1:q<(n:Int)):((lst n f).map oV).set q.toNat (.int v)=(lst n (c5 f q (some v))).map oV:=by rw[<-uS h0 h1,List.map_set];rfl
def uU:Sp:=λvs H Q _=>∃(lt lp la:Addr) (A:List Rn) (n k:Nat) (tm:Int->Int) (ah:Int->Option Int) (ag:Int->Int) (pn:Int->Nat),vs= [.ref lt,.ref lp,.ref la]/\xc H lt lp la A n tm ah ag/\PS A k 0 tm ah pn/\
 ∀(H':Hp) (tm':Int->Int) (ah':Int->Option Int) (ag':Int->Int) (pn':Int->Nat) (r:Option Int),iS lt lp H H'->xc H' lt lp la A n tm' ah' ag'->PS A k A.length tm' ah' pn'->(∀q,r=some q->pn' q=k/\0<=q/\q<(n:Int))->(r=none->cJ A tm')->Q (oV r) H'
def nQ:Sp:=λvs H Q _=>∃(lp:Addr) (x:Int) (A:List Rn) (n:Nat) (tm:Int->Int) (ah:Int->Option Int) (ag:Int->Int),vs= [.ref lp,.int x]/\H lp=some (.lst ((lst n ah).map oV))/\n<=700/\0<=x/\x<(n:Int)/\w6 n A/\BF A tm ah ag/\cJ A tm/\
 ∀(l:Addr) (c:List Int) (H':Hp),H l=none->aA H H'->H' l=some 140->gf A n x (tm x) c->Q 187 H'
def uV:Sp:=λvs H Q _=>∃(lp:Addr) (q:Int) (A:List Rn) (n k i:Nat) (tm:Int->Int) (ah:Int->Option Int) (ag:Int->Int) (pn:Int->Nat),vs= [.ref lp,.int q]/\H lp=some (.lst ((lst n ah).map oV))/\n<=700/\0<=q/\q<(n:Int)/\w6 n A/\BF A tm ah ag/\PS A k i tm ah pn/\pn q=n/\
 ∀(l:Addr) (c:List Int) (H':Hp),aA H H'->H' l=some 140->qU A n c->Q 187 H'
def yO (H:Hp) (t:Addr) (A:List Rn) (n:Nat):Prop:=∃(lt lc:Addr) (tm:Int->Int) (as:IN),H t=some (.tup [.ref lt,.ref lc,.non])/\H lt=some 189/\H lc=some (.lst (as.map V.ref))/\as.length=n/\(∀(i:Nat) (l:Addr),as[i]?=some l->∃c:List Int,H l=some 140/\gf A n i (tm i) c)/\cJ A tm/\∀x,0<=tm x
theorem jQ {n:Nat} {ys:List V} {v:V} (ly:ys.length=n) (hy:∀(i:Nat) (y:V),ys[i]?=some y->y=v):ys=List.replicate n v:=by
 apply List.ext_getElem (by rw[ly,List.length_replicate])
 intro i h1 h2;rw[List.getElem_replicate];exact hy i _ (F0 h1)
theorem xf {A:List Rn} {n:Nat} {tm:Int->Int} {H1 H':Hp} {p:Addr} {ys:List V} (ly:ys.length=n)
  (hy:∀(i:Nat) (y:V),ys[i]?=some y->∃H3 H4:Hp,aA H1 H3/\H3 p≠none/\(∃(l:Addr) (c:List Int),y= .ref l/\H3 l=none/\H4 l=some 140/\gf A n 121 (tm 121) c)/\∀b o,b≠p->H4 b=some o->H' b=some o):
  ∃as:IN,ys=as.map V.ref/\as.length=n/\∀(i:Nat) (l:Addr),as[i]?=some l->∃c:List Int,H' l=some 140/\gf A n i (tm i) c:=by
 obtain ⟨as,rfl⟩:=ic (ys:=ys) λy hy'=>by
  obtain ⟨i,hi⟩:=FR.mp hy';obtain ⟨_,_,_,_,⟨l,_,e,_⟩,_⟩:=hy i y hi;exact (l,e)
 rw[F1] at ly;refine (as,rfl,ly,λi l e=>?_)
 obtain ⟨H3,H4,g3,n3,⟨l',c,q1,q2,q3,q4⟩,f⟩:=hy i 187 (by rw[F7,e];rfl)
 cases q1;rw[Gp] at q4;exact (c,f _ _ (λz=>n3 (z▸q2)) q3,q4)
def AM (H:Hp) (t:Addr) (A:List Rn) (n:Nat):Prop:=∃(lr:Addr) (c:List Int),H t=some (.tup [.non,.non,.ref lr])/\H lr=some 140/\qU A n c
def iU:Sp:=λvs H Q _=>∃(n:Nat) (la:Addr) (A:List Rn),vs= [.int (n:Int),.ref la]/\jm H la A/\A.length<=700/\n<=700/\w6 n A/\∀(t:Addr) (H':Hp),aA H H'->(yO H' t A n∨AM H' t A n)->Q 223 H'
theorem uX (x:Int) (c:List Int):zx (.int x) (c.map V.int)=decide (x∈c):=by
 unfold zx;rw[Hq];simp[zN]
end Sw
namespace L2
open PySem PySem.Spec PyProof.Rows XH Sw Hm
variable {X:Cx}
theorem xg (hc:X.calm=true):cL X (.builtin "min") (λxs H Q=>∃(a:Addr) (ns:List Int),xs= [.ref a]/\aE X.K H a 135/\ns≠ []/\∀M:Int,M∈ns->(∀z∈ns,M<=z)->Q (.int M) H):=by
 sleep 14;obtain ⟨a,ns,rfl,h1,hne,q⟩:=h;obtain ⟨u,rfl,r1⟩:=vals1 r;cases r1;obtain ⟨its,rv,p,hz⟩:=I.list h1;have hi:=jc rv;obtain ⟨xs,e⟩:=hi.allInts.items;have lst:xs.toList.map 166=ns:=by
  rw[<-hi.numsOf,<-nums_intItems xs,<-e]
 have len:ns.length=xs.size:=by rw[<-lst,F1,FZ]
 have pos:0<xs.size:=len▸List.length_pos_iff.mpr hne;refine min_intList 191 (xs:=xs) (by have z:=p.isList;rw[e] at z;exact z) pos λv h' tk hv hk=>?_
 obtain ⟨t,rfl⟩:=intItems_at hv;have best:=argBest_lt (numAt xs) (xs.size-1);refine (.int _,H,I.kept (h':=h') (t':=tk) hk,⟨ν⟩,q _ ?_ λz hz=>?_)
 ·have m:=best.1;rw[<-lst,numAt_eq];refine getD_mem ?_;rw[lst,len]
  lia
 ·rw[<-lst] at hz;obtain ⟨j,hj,rfl⟩:=mem_getD hz;rw[lst,len] at hj;have m:=best.2 j 72
  rw[<-numAt_eq];exact m
theorem xh (hc:X.calm=true):cL X (.builtin "sum") (λxs H Q=>∃(a:Addr) (ns:List Int),xs= [.ref a]/\aE X.K H a 135/\Q (.int ns.sum) H):=by
 sleep 14;obtain ⟨a,ns,rfl,h1,q⟩:=h;obtain ⟨u,rfl,r1⟩:=vals1 r;cases r1;obtain ⟨its,rv,p,hz⟩:=I.list h1;have hi:=jc rv;obtain ⟨xs,e⟩:=hi.allInts.items;have lst:xs.toList.map 166=ns:=by
  rw[<-hi.numsOf,<-nums_intItems xs,<-e]
 refine sum_intListG 191 (xs:=xs) (by have z:=p.isList;rw[e] at z;exact z) λh' tk t hk=>?_
 refine (.int ns.sum,H,I.kept (h':=h') (t':=tk) hk,(t,?_),q);rw[preSum_eq,Hc 82,lst]
end L2
namespace Sw
open PySem L2 XH Hm
abbrev Pk:=List (Option Nat)
noncomputable def rX:Option Nat->V
 |none=> .non
 |some j=> .int (j:Int)
def jo (H:Hp) (t:Addr) (P:Pk) (O:List Ky):Prop:=∃pl ol:Addr,H t=some (.tup [.ref pl,.ref ol])/\H pl=some (.lst (P.map rX))/\bx H ol O
theorem jo.same {H H':Hp} {t:Addr} {P:Pk} {O:List Ky} (h:jo H t P O) (g:aA H H'):jo H' t P O:=by
 obtain ⟨pl,ol,a,b,c⟩:=h;exact (pl,ol,g _ _ a,g _ _ b,c.same g)
structure xi (T:Tk) (P:Pk):Prop where
 len:P.length=T.length
 pick:∀(i j:Nat) (ws:List Wy),P[i]?=some (some j)->T[i]?=some ws->j<ws.length
noncomputable def bA (T:Tk) (P:Pk) (i:Nat):List Wy:=match P.getD i none with
 |none=>T.getD i []
 |some j=> [(T.getD i []).getD j (0,0,[])]
noncomputable def dU:List Int->Int
 | []=>0
 | [x]=>x
 |x::y::r=>if x<=dU (y::r) then x else dU (y::r)
theorem cR:∀{l:List Int},l≠ []->dU l∈l/\∀z∈l,dU l<=z
 | [],h=>absurd rfl h
 | [x],_=>by simp[dU]
 |x::y::r,_=>by
  have ih:=cR (l:=y::r) nofun;unfold dU
  by_cases c:x<=dU (y::r)
  ·rw[if_pos c];refine (GJ,λz hz=>?_)
   rcases FW.mp hz with e|e
   ·rw[e];exact GP _
   ·have:=ih.2 z e
    lia
  ·rw[if_neg c];refine (FX _ ih.1,λz hz=>?_)
   rcases FW.mp hz with e|e
   ·rw[e];lia
   ·exact ih.2 z e
theorem eE {l:List Int} {m:Int} (hm:m∈l) (h:∀z∈l,m<=z):m=dU l:=by
 have hne:l≠ []:=λe=>by rw[e] at hm;cases hm
 obtain ⟨a,b⟩:=cR hne;have:=h _ a;have:=b _ hm
 lia
noncomputable def aV (T:Tk) (P:Pk) (i:Nat) (z:Str):Int:=dU ((bA T P i).map λw=>w.1*bX w z)
theorem kD {D:Tl} {T:Tk} {P:Pk} {i:Nat} (hT:∀ws∈T,oU D ws) (il:i<T.length):bA T P i≠ []:=by
 unfold bA;cases P.getD i none with
 |none=>
  rw[aL (F0 il)];have:=(hT _ (G5 il)).1;intro (e:T[i]= []);rw[e] at this;simp at this
 |some j=>exact nofun
theorem hE {D:Tl} {T:Tk} {P:Pk} {i:Nat} (hT:∀ws∈T,oU D ws) (il:i<T.length):(bA T P i).length<=2:=by
 unfold bA;cases P.getD i none with
 |none=>
  rw[aL (F0 il)];exact (hT _ (G5 il)).2.1
 |some j=>exact Nat.le_of_ble_eq_true rfl
theorem pB {D:Tl} {T:Tk} {P:Pk} {i:Nat} (hT:∀ws∈T,oU D ws) (pk:xi T P) (il:i<T.length):∀w∈bA T P i,∃ws∈T,w∈ws:=by
 intro w hw;unfold bA at hw;have hTi:=F0 il;have hPi:=F0 (show i<P.length by rw[pk.len];exact il)
 rw[aL hTi,aL hPi] at hw;cases hp:P[i]'(by rw[pk.len];exact il) with
 |none=>
  rw[hp] at hw;exact (_,G5 il,hw)
 |some j=>
  rw[hp] at hw hPi;have jl:=pk.pick i j _ hPi hTi;replace hw:w∈ [(T[i]).getD j (0,0,[])]:=hw;rw[aL (F0 jl),FM] at hw;rw[hw];exact (_,G5 il,G5 jl)
section
variable (C:Addr)
structure qX (f:Bool) (H:Hp) (x t:Addr) (D:Tl) (T:Tk) (A B:List Ky) (n:Int) (P:Pk) (O:List Ky):Prop where
 net:mT C f H x D T A B n
 case_:jo H t P O
 ok:jL D T A B n
 pk:xi T P
def jp (f:Bool) (H:Hp) (x t:Addr) (Q:Tl->Tk->List Ky->List Ky->Int->Pk->List Ky->Prop):Prop:=∃(D:Tl) (T:Tk) (A B:List Ky) (n:Int) (P:Pk) (O:List Ky),qX C f H x t D T A B n P O/\Q D T A B n P O
def jq:Sp:=λvs H Q _=>∃(v:V) (z:Str) (w:Wy),vs= [v,.str z]/\iu An H v w/\Q (.int (bX w z)) H
def tG:Sp:=λvs H Q _=>∃(x t:Addr) (i:Nat),vs= [.ref x,.ref t,.int i]/\jp C true H x t λD T A B n P O=>i<T.length/\∀(p:Addr) (H':Hp),aA H H'->H p=none->dG iu An H' p (bA T P i)->Q 120 H'
def yP (F:Tk->Pk->Nat->Str->Int):Sp:=λvs H Q _=>∃(x t:Addr) (i:Nat) (z:Str),vs= [.ref x,.ref t,.int i,.str z]/\jp C true H x t λD T A B n P O=>i<T.length/\∀H':Hp,aA H H'->Q (.int (F T P i z)) H'
end
theorem qX.same {C:Addr} {f:Bool} {H H':Hp} {x t:Addr} {D:Tl} {T:Tk} {A B:List Ky} {n:Int} {P:Pk} {O:List Ky} (h:qX C f H x t D T A B n P O) (g:aA H H'):qX C f H' x t D T A B n P O:=(h.net.same g,h.case_.same g,h.ok,h.pk)
theorem qX.any {C:Addr} {f:Bool} {H:Hp} {x t:Addr} {D:Tl} {T:Tk} {A B:List Ky} {n:Int} {P:Pk} {O:List Ky} (h:qX C f H x t D T A B n P O):qX C true H x t D T A B n P O:=(h.net.any,h.case_,h.ok,h.pk)
theorem ER {x:Int} {c:List Int} {A B:Prop} (h1:x∈c->A) (h2:x∉c->B):if (if false=true then !zx (.int x) (c.map V.int) else zx (.int x) (c.map V.int))=true then A else B:=by
 rw[if_neg (show ¬(false=true) by decide),uX]
 exact d2 h1 h2
theorem AN (c:List Int):(c.map V.int).all iB=true:=by
 rw[GC];intro y hy;obtain ⟨i,_,rfl⟩:=FN.mp hy
 rfl
end Sw
namespace L2
open PySem PySem.Spec PyProof.Rows XH Sw
end L2
namespace Sw
open PySem L2 XH Hm
noncomputable def cU (ps:List (Int×Int)):List Ky:=ps.map λp=> [p.1,p.2]
open PySem.NumText
theorem Lt.join:∀{ws:IM},(∀w∈ws,Lt w)->Lt (Str.join Str.empty ws)
 | [],_=>Lt.nil
 | [x],h=>h x 82
 |x::y::r,h=>by
  have ih:=Lt.join (ws:=y::r) λw hw=>h w (FX _ hw)
  show Lt (x++Str.empty++Str.join Str.empty (y::r));exact ((h x 82).app Lt.nil).app ih
theorem Lt.tjoin {ws:IM} (h:∀w∈ws,Lt w):Lt (Txt.join "" ws):=by
 have:Txt.join "" ws=Str.join Str.empty ws:=StrLaws.glued_eq_join _ ws;rw[this];exact Lt.join h
theorem pC {i:Int} (h0:0<=i) (h:i<26):fV AH.cps.toList i=some (97+i.toNat):=by
 obtain ⟨n,rfl⟩:∃n:Nat,i=(n:Int):=⟨i.toNat,by lia⟩
 have hn:n<26:=by lia
 rw[FO];refine bV ?_;have e:AH.cps.toList=(G0 26).map (97+ ·):=by decide
 rw[e,F7,HP hn]
 rfl
theorem yQ {x y:Str} {c d:Nat} (h:c≠d):x++(⟨#[c]⟩:Str)++y≠x++(⟨#[d]⟩:Str)++y:=λe=>by
 have:=congrArg sL e;rw[lH,lH,lH,lH,List.append_cancel_right_eq,List.append_cancel_left_eq] at this;replace this: [c]= [d]:=this;injection this with this
 exact h this
theorem Bw {x:Str} {c:Nat}:x≠x++(⟨#[c]⟩:Str):=λe=>by
 have:=congrArg Str.length e;rw[Str.length_append] at this;have:(⟨#[c]⟩:Str).length=1:=rfl
 lia
theorem nR:∀{ws:IM},(∀w∈ws,w.length=1)->(Str.join Str.empty ws).length=ws.length
 | [],_=>rfl
 | [x],h=>h x 82
 |x::y::r,h=>by
  have ih:=nR (ws:=y::r) λw hw=>h w (FX _ hw)
  show (x++Str.empty++Str.join Str.empty (y::r)).length=_;rw[Str.append_empty,Str.length_append,ih,h x 82]
  simp only[GV]
  lia
theorem xj {ws:IM} (h:∀w∈ws,w.length=1):(Txt.join "" ws).length=ws.length:=by
 have:Txt.join "" ws=Str.join Str.empty ws:=StrLaws.glued_eq_join _ ws;rw[this];exact nR h
theorem qY:∀{ws:IM},(∀w∈ws,w.length=1)->(ws.map (λx=>x.length)).sum=ws.length
 | [],_=>rfl
 |x::r,h=>by
  rw[GL,Gm,qY λw hw=>h w (FX _ hw),h x 82,GV]
  lia
theorem tH {γ:Type} {p:γ->Prop} {f:γ->V}:∀{vs:List V},(∀v∈vs,∃c,p c/\v=f c)->∃cs:List γ,vs=cs.map f/\∀c∈cs,p c
 | [],_=>⟨[],rfl,λc hc=>by cases hc⟩
 |v::r,h=>by
  obtain ⟨cs,e,k⟩:=tH (vs:=r) λw hw=>h w (FX _ hw)
  obtain ⟨c,pc,e0⟩:=h v 82
  refine (c::cs,by rw[e,e0];rfl,λd hd=>?_)
  rcases FW.mp hd with z|z
  ·rw[z];exact pc
  ·exact k d z
def uY {γ:Type} (p:γ->Prop) (f:γ->V):RA Unit:=λ_ _ v _=>∃c,p c/\v=f c
instance {γ:Type} (p:γ->Prop) (f:γ->V):Mv (uY p f):=⟨λ_ h=>h⟩
theorem A2.some_of {γ:Type} {p:γ->Prop} {f:γ->V} {P:Addr->Prop} {H:Hp} {vs:List V} {us:List Unit} (h:A2 (uY p f P H) vs us):∃cs:List γ,vs=cs.map f/\cs.length=us.length/\∀c∈cs,p c:=by
 obtain ⟨cs,e,k⟩:=tH (p:=p) (f:=f) (vs:=vs) λv hv=>by
  obtain ⟨i,hi⟩:=FR.mp hv;obtain ⟨u,_,q⟩:=h.at_ hi;exact q
 refine (cs,e,?_,k);rw[<-h.1,e,F1]
theorem yR {x:Str} {i:Int} (h:0<=i) (k:i<(x.length:Int)):(iK x none (some i)).length+1+(iK x (some 176) none).length=x.length:=by
 rw[Ag h,Ah 72]
 lia
theorem nS {a b:Int} (a0:0<=a) (a1:a<26) (b0:0<=b) (b1:b<25):(a+1+b).fmod 26≠a:=by
 by_cases c:a+1+b<26
 ·rw[Int.fmod_eq_of_lt 72 c];lia
 ·have e:(a+1+b).fmod 26=a+1+b-26:=by
   have:a+1+b=(a+1+b-26)+26*1:=by lia
   rw[this,Int.add_mul_fmod_self_left,Int.fmod_eq_of_lt 72 72]
   lia
  rw[e];lia
noncomputable def hF (x:Int):Int:=if x=0 then 0 else if x=1 then 180 else 1000000000
theorem Dd {x:Int} (h0:0<=x) (h:x<3):fV [V.int 0,V.int 180,V.int ((10:Int)^(9:Int).toNat)] x=some (.int (hF x)):=by
 obtain rfl|rfl|rfl:x=0∨x=1∨x=2:=by lia
 ·rfl
 ·rfl
 ·have e:(10:Int)^(9:Int).toNat=1000000000:=by decide
  rw[e];rfl
theorem De (x:Int):0<=hF x/\hF x<=1000000000:=by
 unfold hF
 split
 ·lia
 ·split<;>lia
def mz (f:Int):Prop:=f=1∨f=10000019
def yS (f:Int) (r:Rn):Prop:=0<=r.1/\r.1<=23*f/\f<=r.2.1-r.1/\r.2.1-r.1<=6*f/\(r.2.2=0∨r.2.2=1)
theorem Ak {f a b c:Int} (hf:mz f) (a0:0<=a) (a1:a<24) (b0:0<=b) (b1:b<6) (c0:0<=c) (c1:c<2):yS f (a*f,a*f+(1+b)*f,c):=by
 rcases hf with rfl|rfl<;>(refine ⟨?_,?_,?_,?_,?_⟩<;>dsimp only<;>lia)
def kF:Sp:=λvs H Q _=>∃c k:Int,vs= [.int c,.int k]/\∀v:Int,0<=v->Q (.int v) H
def mC:Sp:=λvs H Q _=>∃c:Int,vs= [.int c]/\∀(l:Addr) (n0 n1:Str) (H':Hp),aA H H'->H' l=some (.lst [.str n0,.str n1])->Nm n0->Nm n1->n0≠n1->Q 187 H'
def uZ (K:F6):Sp:=λvs H Q _=>∃(a:Addr) (ns:List Int) (at_ m f:Int),vs= [.ref a,.int at_,.int m,.int f]/\aE K H a 135/\0<=at_/\at_<=1000/\0<=m/\m<=4/\mz f/\∀(l:Addr) (R:List Rn) (H':Hp),aA H H'->H l=none->bx H' l (R.map rk)->195=m->(∀r∈R,yS f r)->Q 187 H'
def fv (R:List Rn) (hs:List Int):Prop:=hs.length=R.length/\(∀h∈hs,0<=h/\h<=1000000000)/\∀i j,i<R.length->j<R.length->fP 208 (R.getD j 131)=true->hs.getD i 0=hs.getD j 0
theorem fv.zero {R:List Rn}:fv R ((G0 R.length).map λ_=>0):=by
 have z:∀i,((G0 R.length).map λ_=>(0:Int)).getD i 0=0:=λi=>by
  rw[G9,F7];cases (G0 R.length)[i]?<;>rfl
 refine (by simp,λh hh=>?_,λi j _ _ _=>by rw[z,z])
 obtain ⟨i,_,rfl⟩:=FN.mp hh
 lia
theorem fv.of {R:List Rn} {hs:List Int} (hl:hs.length=R.length) (hb:∀h∈hs,0<=h/\h<=1000000000) (hp:∀i j,i<R.length->j<i->fP 208 (R.getD j 131)=true->hs.getD i 0=hs.getD j 0):fv R hs:=by
 refine (hl,hb,λi j hi hj hm=>?_)
 rcases Nat.lt_trichotomy i j with c|c|c
 ·rw[hp j i hj c (by unfold fP at hm⊢;rw[Bool.and_comm];exact hm)]
 ·rw[c]
 ·exact hp i j hi c hm
def qZ:Sp:=λvs H Q _=>∃(lr lc:Addr) (R:List Rn) (cs:List Int) (b:Int),vs= [.ref lr,.ref lc,.int b]/\bx H lr (R.map rk)/\H lc=some (.lst (cs.map V.int))/\cs.length=R.length/\R.length<=4/\(b=18∨b=54)/\∀(l:Addr) (hs:List Int) (H':Hp),aA H H'->H' l=some (.lst (hs.map V.int))->fv R hs->Q 187 H'
structure xk (n0 n1:Str) (h0 h1:Int) (us:List Us):Prop where
 len:us.length<=2
 nd:(us.map 166).Nodup
 use:∀u∈us,((u.1=n0/\u.2.2=h0)∨(u.1=n1/\u.2.2=h1))/\1<=u.2.1/\u.2.1<=2
theorem xk.rev {n0 n1:Str} {h0 h1:Int} {us:List Us} (h:xk n0 n1 h0 h1 us):xk n0 n1 h0 h1 us.reverse:=
 ⟨by rw[Ge];exact h.len,by rw[List.map_reverse];exact ((List.reverse_perm (us.map 166)).nodup_iff).mpr h.nd,λu hu=>h.use u (HY.mp hu)⟩
def HB (h:Int):Prop:=0<=h/\h<=1000000000
def pE:Sp:=λvs H Q _=>∃(c:Int) (ln lh:Addr) (n0 n1:Str) (h0 h1:Int),vs= [.int c,.ref ln,.ref lh]/\H ln=some (.lst [.str n0,.str n1])/\H lh=some (.lst [.int h0,.int h1])/\n0≠n1/\∀(u:Addr) (us:List Us) (H':Hp),aA H H'->H u=none->dG qL 209 H' u us->xk n0 n1 h0 h1 us->Q (.ref u) H'
def Cs (n0 n1:Str) (w:Wy):Prop:=1<=w.1/\w.1<=w.2.1/\w.2.1<=900000000/\∃h0 h1,HB h0/\HB h1/\xk n0 n1 h0 h1 w.2.2
structure AO (n0 n1:Str) (h0 h1:Int) (r:Rn) (ws:List Wy):Prop where
 l1:1<=ws.length
 l2:ws.length<=2
 pick:r.2.2<(ws.length:Int)
 way:∀w∈ws,Cs n0 n1 w
 mine:∃w,ws[r.2.2.toNat]?=some w/\w.1<=r.2.1-r.1/\r.2.1-r.1<=w.2.1/\xk n0 n1 h0 h1 w.2.2
def u3:Sp:=λvs H Q _=>∃(t:Addr) (c mo:Int) (ln lh:Addr) (r:Rn) (f:Int) (n0 n1:Str) (h0 h1:Int),vs= [.ref t,.int c,.int mo,.ref ln,.ref lh]/\H t=some (.tup ((rk r).map V.int))/\mz f/\yS f r/\H ln=some (.lst [.str n0,.str n1])/\H lh=some (.lst [.int h0,.int h1])/\n0≠n1/\HB h0/\HB h1/\∀(v:V) (ws:List Wy) (H':Hp),aA H H'->dq 209 H' v ws->AO n0 n1 h0 h1 r ws->Q v H'
structure ES (n0 n1:Str) (hs1 hs2:List Int) (T:Tk) (R:List Rn):Prop where
 task:∀(i:Nat) (ws:List Wy) (r:Rn),T[i]?=some ws->R[i]?=some r->AO n0 n1 (hs1.getD i 0) (hs2.getD i 0) r ws
def u4:Sp:=λvs H Q _=>∃(rl tl:Addr) (z:Str) (t:Int) (T:Tk) (R:List Rn),vs= [.ref rl,.ref tl,.str z,.int t]/\dG dq An H tl T/\bx H rl (R.map rk)/\kC T R/\R.length<=24/\(∀ws∈T,∀w∈ws,(w.2.2.map 166).Nodup)/\Q (.int (cM T R z t R.length)) H
structure yT (n0 n1:Str) (T:Tk) (R:List Rn) (m0 m1:Int):Prop where
 r0:1<=m0/\m0<=8
 r1:1<=m1/\m1<=8
 u0:∀r∈R,cM T R n0 r.1 R.length<=m0
 u1:∀r∈R,cM T R n1 r.1 R.length<=m1
 w:∀ws∈T,∀w∈ws,∀u∈w.2.2,u.2.1<=m0/\u.2.1<=m1
theorem yU {k0 k:Key} {v0 v:V} (h:k0≠k):putK [(k0,v0)] k v= [(k0,v0),(k,v)]:=by
 unfold putK;rw[if_neg]
 ·rfl
 ·simp[h]
structure zA (T:Tk) (R:List Rn) (z:Str) (i:Nat) (m:Int):Prop where
 lo:1<=m
 hi:m<=8
 run:∀r∈R.take i,cM T R z r.1 R.length<=m
 way:∀ws∈T.take i,∀w∈ws,∀u∈w.2.2,u.2.1<=m
theorem yV {a b:Int} {c:Int} (h1:a<=c) (h2:b<=c):(if b>a then b else a)<=c:=by split<;>lia
theorem pF (a b:Int):a<=(if b>a then b else a):=by split<;>lia
theorem u5 (a b:Int):b<=(if b>a then b else a):=by split<;>lia
theorem By {a c:Int} (h1:c<=8) (h2:c<=a):c<=(if a<8 then a else 8):=by split<;>lia
theorem Al (a:Int):(if a<8 then a else 8)<=8:=by split<;>lia
def q8:Sp:=λvs H Q _=>∃(rl tl ln:Addr) (c:Int) (T:Tk) (R:List Rn) (n0 n1:Str),vs= [.ref rl,.ref tl,.ref ln,.int c]/\dG dq An H tl T/\bx H rl (R.map rk)/\H ln=some (.lst [.str n0,.str n1])/\n0≠n1/\kC T R/\R.length<=4/\(∀ws∈T,1<=ws.length/\ws.length<=2/\∀w∈ws,Cs n0 n1 w)/\
 ∀(td:Addr) (m0 m1:Int) (H':Hp),aA H H'->H td=none->H' td=some (.dK (bv [206,(n1,m1)]))->yT n0 n1 T R m0 m1->Q (.ref td) H'
structure fQ (f:Int) (n0 n1:Str) (m0 m1:Int) (hs1 hs2:List Int) (T:Tk) (R:List Rn) (M:List Int):Prop where
 far:mz f
 nm0:Nm n0
 nm1:Nm n1
 ne:n0≠n1
 len:T.length=R.length
 r4:R.length<=4
 runs:∀r∈R,yS f r
 tasks:ES n0 n1 hs1 hs2 T R
 h1:fv R hs1
 h2:fv R hs2
 tools:yT n0 n1 T R m0 m1
 m2:M.length<=2
 times:∀t∈M,0<=t/\t<=29*f
theorem fQ.ways {f:Int} {n0 n1:Str} {m0 m1:Int} {hs1 hs2:List Int} {T:Tk} {R:List Rn} {M:List Int} (h:fQ f n0 n1 m0 m1 hs1 hs2 T R M):∀ws∈T,oU [206,(n1,m1)] ws:=λws hw=>by
 obtain ⟨i,hi⟩:=FR.mp hw;have il:=(F4.mp hi).1;have tb:=h.tasks.task i ws _ hi (F0 (show i<R.length by rw[<-h.len];exact il))
 refine (tb.l1,tb.l2,λw hww=>?_)
 obtain ⟨a1,a2,a3,h0,h1,b0,b1,us⟩:=tb.way w hww;refine (a1,a2,by lia,us.nd,by have:=us.len;lia,λu hu=>?_)
 obtain ⟨e,u1,u2⟩:=us.use u hu;have uw:=h.tools.w ws hw w hww u hu;rcases e with ⟨e,eh⟩|⟨e,eh⟩
 ·exact (m0,by rw[e,ca,if_pos rfl],u1,uw.1,by rw[eh];exact b0.1,by rw[eh];exact b0.2)
 ·exact (m1,by rw[e,ca,if_neg h.ne,ca,if_pos rfl],u1,uw.2,by rw[eh];exact b1.1,by rw[eh];exact b1.2)
theorem fQ.net {f:Int} {n0 n1:Str} {m0 m1:Int} {hs1 hs2:List Int} {T:Tk} {R:List Rn} {M:List Int} (h:fQ f n0 n1 m0 m1 hs1 hs2 T R M) {A B:List Ky} (a:A.length<=600) (ha:∀k∈A,jY (2*195+M.length) k) (b:B.length<=300) (hb:∀k∈B,∃p q:Int,k= [p,q]/\0<=p/\p<195/\0<=q/\q<195/\p≠q):jL [206,(n1,m1)] T A B (M.length:Int):=by
 refine (by simp,?_,λp hp=>?_,by have:=h.r4;rw[h.len];lia,h.ways,by lia,by have:=h.m2;lia,a,λk hk=>?_,b,λk hk=>?_)
 ·simp;exact h.ne
 ·simp at hp;rcases hp with e|e
  ·rw[e];exact (h.nm0,h.tools.r0.1,h.tools.r0.2)
  ·rw[e];exact (h.nm1,h.tools.r1.1,h.tools.r1.2)
 ·rw[h.len];exact ha k hk
 ·rw[h.len];exact hb k hk
theorem fQ.mine {f:Int} {n0 n1:Str} {m0 m1:Int} {hs1 hs2:List Int} {T:Tk} {R:List Rn} {M:List Int} (h:fQ f n0 n1 m0 m1 hs1 hs2 T R M) {i:Nat} (il:i<R.length):(dB T R i).1<=(R[i]).2.1-(R[i]).1/\(R[i]).2.1-(R[i]).1<=(dB T R i).2.1/\xk n0 n1 (hs1.getD i 0) (hs2.getD i 0) (dB T R i).2.2:=by
 have hr:=F0 il;have hT:=F0 (show i<T.length by rw[h.len];exact il)
 obtain ⟨w,hw,a,b,c⟩:=(h.tasks.task i _ _ hT hr).mine;have e:dB T R i=w:=by
  unfold dB;rw[aL hT,aL hr,aL hw]
 rw[e];exact (a,b,c)
def u6 (K:F6):Sp:=λvs H Q _=>∃(a:Addr) (ns:List Int) (at_ m f:Int),vs= [.ref a,.int at_,.int m,.int f]/\aE K H a 135/\0<=at_/\at_<=900/\1<=m/\m<=4/\mz f/\
 ∀(t td tl rl ml:Addr) (n0 n1:Str) (m0 m1:Int) (hs1 hs2:List Int) (T:Tk) (R:List Rn) (M:List Int) (H':Hp),aA H H'->H' t=some (.tup [.ref td,.ref tl,.ref rl,.ref ml])->H' td=some (.dK (bv [206,(n1,m1)]))->dG dq An H' tl T->bx H' rl (R.map rk)->H' ml=some (.lst (M.map V.int))->195=m->fQ f n0 n1 m0 m1 hs1 hs2 T R M->Q 223 H'
def nU:Sp:=λvs H Q _=>∃(rl ml:Addr) (R:List Rn) (M:List Int),vs= [.ref rl,.ref ml]/\bx H rl (R.map rk)/\R.length<=24/\H ml=some (.lst (M.map V.int))/\M.length<=8/\∀(l:Addr) (H':Hp),aA H H'->H' l=some (.lst ((bI R M).map V.int))->Q 187 H'
def q9 (S:List Int) (k:Ky):Prop:=∃p q g:Int,k= [p,q,g]/\g<=S.getD q.toNat 0-S.getD p.toNat 0
structure hJ (R:List Rn) (P:Pk) (ps:List (Int×Int)):Prop where
 len:P.length=R.length
 pick:∀(i j:Nat) (r:Rn),P[i]?=some (some j)->R[i]?=some r->r.2.2=(j:Int)
 o16:ps.length<=16
 ord:∀p∈ps,0<=p.1/\p.1<195/\0<=p.2/\p.2<195/\(R.getD p.1.toNat 131).2.1<=(R.getD p.2.toNat 131).1
def u7:Sp:=λvs H Q _=>∃(rl:Addr) (c:Int) (R:List Rn),vs= [.ref rl,.int c]/\bx H rl (R.map rk)/\R.length<=4/\(∀r∈R,r.2.2=0∨r.2.2=1)/\∀(t:Addr) (P:Pk) (ps:List (Int×Int)) (H':Hp),aA H H'->jo H' t P (cU ps)->hJ R P ps->Q 223 H'
theorem hJ.ok {f:Int} {n0 n1:Str} {m0 m1:Int} {hs1 hs2:List Int} {T:Tk} {R:List Rn} {M:List Int} {P:Pk} {ps:List (Int×Int)} (h:fQ f n0 n1 m0 m1 hs1 hs2 T R M) (c:hJ R P ps):xi T P:=by
 refine (by rw[c.len,h.len],λi j ws e1 e2=>?_)
 have il:i<R.length:=by rw[<-h.len];exact (F4.mp e2).1
 have hr:=F0 il;have:=c.pick i j _ e1 hr;have:=(h.tasks.task i ws _ e2 hr).pick
 lia
theorem rc {T:Tk} {R:List Rn} {z:Str} {t:Int} (h:∀i,i<R.length->bX (dB T R i) z<=2):∀n,n<=R.length->cM T R z t n<=2*(n:Int)
 |0,_=>GP _
 |n+1,hn=>by
  have ih:=rc (t:=t) h n 72
  have:=h n 72
  show cM T R z t n+(if cY (R.getD n 131) t=true then bX (dB T R n) z else 0)<=_
  split<;>lia
theorem yW {n0 n1:Str} {w:Wy} {z:Str} (h:Cs n0 n1 w):bX w z<=2:=by
 obtain ⟨_,_,_,h0,h1,_,_,us⟩:=h;cases e:yG w z with
 |none=>rw[gY e];lia
 |some u=>
  rw[gZ e];exact (us.use u (oZ e).1).2.2
end Sw
namespace L2
open PySem
end L2
namespace Sw
open PySem L2 XH Hm PySem.NumText
structure fc (D:Tl) (H:Hp) (tl t:Addr) (T:Tk) (P:Pk):Prop where
 tasks:dG dq An H tl T
 cs:∃O,jo H t P O
 pk:xi T P
 ok:∀ws∈T,oU D ws
theorem fc.same {D:Tl} {H H':Hp} {tl t:Addr} {T:Tk} {P:Pk} (h:fc D H tl t T P) (g:aA H H'):fc D H' tl t T P:=(h.tasks.same g,h.cs.imp λ_ c=>c.same g,h.pk,h.ok)
def pG:Sp:=λvs H Q _=>∃(tl t:Addr) (i:Nat) (D:Tl) (T:Tk) (P:Pk),vs= [.ref tl,.ref t,.int i]/\fc D H tl t T P/\i<T.length/\∀(p:Addr) (H':Hp),aA H H'->dG iu An H' p (bA T P i)->Q 120 H'
theorem Bz {x:Int} (h0:0<=x) (h:x<3):∃f,fV [V.int 1,V.int 1,V.int ((10:Int)^(7:Int).toNat+19)] x=some (.int f)/\mz f:=by
 obtain rfl|rfl|rfl:x=0∨x=1∨x=2:=by lia
 ·exact (1,rfl,.inl rfl)
 ·exact (1,rfl,.inl rfl)
 ·exact (ν,.inr 73)
theorem nV {M:List Int} {t:Int}:∀{R:List Rn},t∈bI R M->t∈M∨∃r∈R,t=r.1∨t=r.2.1
 | [],h=> .inl h
 |r::R,h=>by
  rcases FW.mp h with h|h
  ·exact .inr (r,by simp,.inl h)
  rcases FW.mp h with h|h
  ·exact .inr (r,by simp,.inr h)
  ·rcases nV h with h|⟨s,hs,e⟩
   ·exact .inl h
   ·exact .inr (s,FX _ hs,e)
theorem fQ.spots {f:Int} {n0 n1:Str} {m0 m1:Int} {hs1 hs2:List Int} {T:Tk} {R:List Rn} {M:List Int} (h:fQ f n0 n1 m0 m1 hs1 hs2 T R M):∀t∈bI R M,0<=t/\t<=29*f:=λt ht=>by
 have f1:1<=f:=by rcases h.far with e|e<;>lia
 rcases nV ht with h1|⟨r,hr,e⟩
 ·exact h.times t h1
 ·obtain ⟨a,b,c,d,_⟩:=h.runs r hr;rcases e with e|e<;>lia
end Sw
namespace L2
open PySem
end L2
namespace Sw
open PySem L2 XH Hm PySem.NumText
section
variable {f:Int} {n0 n1:Str} {m0 m1:Int} {hs1 hs2:List Int} {T:Tk} {R:List Rn} {M:List Int}
theorem hJ.open (h:fQ f n0 n1 m0 m1 hs1 hs2 T R M) {P:Pk} (pl:P.length=R.length) (pk:∀(i j:Nat) (r:Rn),P[i]?=some (some j)->R[i]?=some r->r.2.2=(j:Int)) {i:Nat} (il:i<R.length):dB T R i∈bA T P i:=by
 have hr:=F0 il;have hT:=F0 (show i<T.length by rw[h.len];exact il)
 have hP:=F0 (show i<P.length by rw[pl];exact il)
 obtain ⟨w,hw,_⟩:=(h.tasks.task i _ _ hT hr).mine;have e:dB T R i=w:=by
  unfold dB;rw[aL hT,aL hr,aL hw]
 rw[e];unfold bA;rw[aL hT,aL hP];cases hp:P[i]'(by rw[pl];exact il) with
 |none=>exact F5 hw
 |some j=>
  rw[hp] at hP;have:=pk i j _ hP hr;rw[this,FO] at hw;show w∈ [(T[i]'(by rw[h.len];exact il)).getD j (0,0,[])]
  rw[aL hw];simp
end
theorem yX {R:List Rn} {n:Nat}:∀(i j:Nat) (r:Rn),((G0 n).map λ_=>(none:Option Nat))[i]?=some (some j)->R[i]?=some r->r.2.2=(j:Int):=λi j r h=>by
 rw[F7] at h;obtain ⟨_,_,e⟩:=FT.mp h;cases e
end Sw
namespace L2
open PySem
end L2
namespace Sw
open PySem L2 XH Hm PySem.NumText
theorem Am {T:Tk} {P:Pk} {i:Nat} {z:Str} {w:Wy} (hw:w∈bA T P i):aV T P i z<=w.1*bX w z:=by
 unfold aV;have m:=Hl (f:=λw:Wy=>w.1*bX w z) hw
 exact (cR (λe=>by rw[e] at m;cases m)).2 _ m
theorem xn (T:Tk) (P:Pk) (i:Nat) (z:Str):dU ((bA T P i).map λw=>bX w z*w.1)=aV T P i z:=by
 unfold aV
 congr 1
 apply Gd;intro w _;exact Int.mul_comm _ _
noncomputable def ki (l:List Int):Int:= -(dU (l.map λz=> -z))
theorem u9 {l:List Int} {m:Int} (hm:m∈l) (h:∀z∈l,z<=m):m=ki l:=by
 unfold ki;have:=eE (l:=l.map λz=> -z) (m:= -m) (FN.mpr (m,hm,rfl)) λz hz=>by
  obtain ⟨y,hy,rfl⟩:=FN.mp hz;have:=h y hy
  lia
 lia
noncomputable def cN (T:Tk) (P:Pk):Nat->List Ky
 |0=> []
 |i+1=>cN T P i++ [[2*(i:Int),2*(i:Int)+1,dU ((bA T P i).map 166)],[2*(i:Int)+1,2*(i:Int),-(ki ((bA T P i).map (·.2.1)))]]
theorem cS (T:Tk) (P:Pk):∀n,(cN T P n).length=2*n
 |0=>rfl
 |n+1=>by
  show (cN T P n++_).length=_;rw[FP,cS T P n];show 2*n+2=_
  lia
noncomputable def iw (O:List Ky):List Ky:=O.map λk=> [2*k.getD 0 0+1,2*k.getD 1 0,0]
noncomputable def b7 (A:List Ky) (T:Tk) (P:Pk) (O:List Ky):List Ky:=A++cN T P T.length++iw O
def pH (O:List Ky):Prop:=O.length<=1000/\∀k∈O,∃p q:Int,k= [p,q]
def rh (C:Addr):Sp:=λvs H Q _=>∃(x t:Addr),vs= [.ref x,.ref t]/\jp C true H x t λD T A B n P O=>pH O/\∀(l:Addr) (H':Hp),aA H H'->H l=none->bx H' l (b7 A T P O)->Q 187 H'
def tI:Sp:=λvs H Q _=>∃(al tl t:Addr) (A:List Ky) (D:Tl) (T:Tk) (P:Pk) (O:List Ky),vs= [.ref al,.ref tl,.ref t]/\bx H al A/\A.length<=1000/\dG dq An H tl T/\T.length<=24/\jo H t P O/\xi T P/\(∀ws∈T,oU D ws)/\pH O/\∀(l:Addr) (H':Hp),aA H H'->bx H' l (b7 A T P O)->Q 187 H'
theorem mD {H:Hp} {p:Addr} {as bs:IN} {A B:List Ky} (ra:cX 125 as A) (rb:cX 125 bs B) (np:H p=none):bx (aI H p (.lst (as.map V.ref++bs.map V.ref))) p (A++B):=
 ⟨as++bs,by rw[ao,G8],(ra.append rb).imp λt k q=>ar np _ _ _ q⟩
theorem cX.one {R:Addr->Ky->Prop} {a:Addr} {k:Ky} (h:R a k):cX R [a] [k]:=⟨rfl,λi t y e1 e2=>by
 cases i with
 |zero=>simp at e1 e2;subst e1 e2;exact h
 |succ n=>simp at e1⟩
theorem AQ {P:Addr->Prop} {H:Hp} {l:Addr} {ks:List Ky} (h:dG (yD λk:Ky=>k.map V.int) P H l ks):bx H l ks:=by
 obtain ⟨vs,e,r⟩:=h;obtain ⟨as,ea,_⟩:=tH (p:=λ_:Addr=>True) (f:=V.ref) (vs:=vs) λv hv=>by
  obtain ⟨i,hi⟩:=FR.mp hv;obtain ⟨k,_,t,e,_⟩:=r.at_ hi;exact (t,trivial,e)
 subst ea;refine (as,e,(by rw[<-r.1,F1],λi a k e1 e2=>?_))
 obtain ⟨t,et,_,h⟩:=r.2 i 188 k (by rw[F7,e1];rfl) e2
 injection et with et
 rw[et];exact h
end Sw
namespace L2
open PySem PySem.Spec PyProof.Rows XH
theorem va:∀{bs:List Bool} {us:IP},bG (bs.map V.bl) us->∀(i:Nat) (v:Value),us[i]?=some v->v= .bool (bs.getD i true)
 | [],_,.nil,i,v,h=>by simp at h
 |b::bs,_,.cons r t,0,v,h=>by
  cases r
  simpa using h.symm
 |b::bs,_,.cons _ t,i+1,v,h=>by
  have:=va (bs:=bs) t i v 214
  simpa using this
theorem Ao (bs:List Bool):(G0 bs.length).all (λi=>bs.getD i true)=bs.all id:=by
 rw[Hq,GC,GC];constructor
 ·intro h b hb;obtain ⟨i,hi⟩:=FR.mp hb;have:=h i (GE.mpr (F4.mp hi).1);rw[G9,hi] at this;exact this
 ·intro h i hi;have il:=GE.mp hi;have:=h _ (G5 il);rw[G9,F0 il];exact this
theorem xo {X:Cx} (hc:X.calm=true):cL X (.builtin "all") (λxs H Q=>∃(a:Addr) (bs:List Bool),xs= [.ref a]/\aE X.K H a (bs.map V.bl)/\Q (.bl (bs.all id)) H):=by
 sleep 14;obtain ⟨a,bs,rfl,h1,hq⟩:=h;cases r with
 |cons r rr=>
  cases rr;cases r;obtain ⟨its,rv,p,hz⟩:=I.list h1;have hh:=I.ok.hd hc;have ln:its.length=bs.length:=by rw[<-rv.length,F1]
  have hlt:a<s.heap.objs.size:=by
   obtain ⟨o,n,e,_⟩:=id p;exact 106 e
  refine call_all_walk (wpAny_pyIter_list p.isList (74,_,_,_,_,_,λi=>bs.getD i true,rfl,Walks.list (A:=X.A.in1) hh _ a (FV hlt) its.toArray,(218,p.isList.at λo e=>76 _ e),?_,λh' tk hk=>?_))
  ·intro i v s' Q' E' hv hq';have e:=va rv i v (by simpa using hv)
   subst e;exact wpAny_truthy_bool hq'
  ·refine (.bl (bs.all id),H,I.kept (h':=h') (t':=tk) λb o e=>hk b o (by simpa using FV (106 e)) (76 _ e),?_,hq)
   show Value.bool _=Value.bool _;rw[G6,ln,Ao]
end L2
namespace Sw
open PySem L2 XH Hm PySem.NumText
def vd (O:List Ky) (n:Nat):Prop:=O.length<=1000/\∀k∈O,∃p q:Int,k= [p,q]/\0<=p/\p<(n:Int)/\0<=q/\q<(n:Int)
def rj (n:Int) (due:List Ky):Prop:=due.length<=2000/\∀k∈due,∃p q g:Int,k= [p,q,g]/\0<=p/\p<n/\0<=q/\q<n
def io:Sp:=λvs H Q _=>∃(tl t:Addr) (i:Nat) (z:Str) (D:Tl) (T:Tk) (P:Pk),vs= [.ref tl,.ref t,.int i,.str z]/\fc D H tl t T P/\i<T.length/\∀H',aA H H'->Q (.int (aV T P i z)) H'
def vh:Sp:=λvs H Q _=>∃w m:Int,vs= [.int w,.int m]/\1<=m/\m<=1000/\Q (.int (-((-w).fdiv m))) H
noncomputable def tJ (n:Int) (C:List Int):Bool:=C.all λp=>decide (0<=p)&&decide (p<n)
def Df (H0:Hp):RA Wy:=λP H v w=>∃t u:Addr,v= .ref t/\P t/\P u/\H0 u=none/\H t=some (.tup [.int w.1,.int w.2.1,.ref u])/\dG qL P H u w.2.2
instance (H0:Hp):Mv (Df H0) where
 mv:=λ{P P' H H' v x} g h=>by
  obtain ⟨t,u,rfl,p,p2,n0,e,vs,e2,r⟩:=h;obtain ⟨q,e'⟩:=g t _ p rfl e;obtain ⟨q2,e2'⟩:=g u _ p2 rfl e2;exact (t,u,rfl,q,q2,n0,e',vs,e2',r.imp λ_ _ k=>Mv.mv g k)
theorem vd.pairs {O:List Ky} {n:Nat} (h:vd O n):pH O:=⟨h.1,λk hk=>by
 obtain ⟨p,q,e,_⟩:=h.2 k hk;exact (p,q,e)⟩
theorem tK {A:List Ky} {T:Tk} {P:Pk} {O:List Ky} (h:∀k∈A,∃p q g:Int,k= [p,q,g]):∀k∈b7 A T P O,∃p q g:Int,k= [p,q,g]:=by
 have hn:∀n,∀k∈cN T P n,∃p q g:Int,k= [p,q,g]:=λn=>by
  induction n with
  |zero=>intro k hk;cases hk
  |succ n ih=>
   intro k hk;rcases FS.mp (show k∈cN T P n++_ from hk) with z|z
   ·exact ih k z
   ·simp only[FW,Gq,or_false] at z;rcases z with rfl|rfl<;>exact ⟨_,_,_,rfl⟩
 intro k hk;unfold b7 at hk;rcases FS.mp hk with z|z
 ·rcases FS.mp z with z|z
  ·exact h k z
  ·exact hn _ k z
 ·unfold iw at z;obtain ⟨o,_,rfl⟩:=FN.mp z;exact (_,_,ν)
theorem tN {f:Int} {n0 n1:Str} {m0 m1:Int} {hs1 hs2:List Int} {T:Tk} {R:List Rn} {M:List Int} {A:List Ky} {P:Pk} {ps:List (Int×Int)} (h:fQ f n0 n1 m0 m1 hs1 hs2 T R M) (cb:hJ R P ps) (hA:∀k∈A,jY 162 k/\q9 (bI R M) k):
  ∀k∈b7 A T P (cU ps),∃p q g:Int,k= [p,q,g]/\0<=p/\p<162/\0<=q/\q<162/\(bI R M).getD p.toNat 0+g<=(bI R M).getD q.toNat 0:=by
 have ls:(bI R M).length=2*R.length+M.length:=fY M R;have s0:∀i,i<R.length->(bI R M).getD (2*i) 0=(R.getD i 131).1/\(bI R M).getD (2*i+1) 0=(R.getD i 131).2.1:=λi il=>by
  have hr:=F0 il;obtain ⟨a,b⟩:=lU M R i _ hr;rw[aL a,aL b,aL hr];exact 199
 have hn:∀n,n<=T.length->∀k∈cN T P n,∃p q g:Int,k= [p,q,g]/\0<=p/\p<162/\0<=q/\q<162/\(bI R M).getD p.toNat 0+g<=(bI R M).getD q.toNat 0:=λn=>by
  induction n with
  |zero=>intro _ k hk;cases hk
  |succ n ih=>
   intro hn k hk;rcases FS.mp (show k∈cN T P n++_ from hk) with z|z
   ·exact ih 72 k z
   ·have il:n<R.length:=by rw[<-h.len];lia
    obtain ⟨a0,a1⟩:=s0 n il;have op:=hJ.open h cb.len cb.pick il;have mn:=(cR (l:=(bA T P n).map 166) (λe=>by rw[Gg] at e;rw[e] at op;cases op)).2 _ (Hl (f:=λw:Wy=>w.1) op)
    have mx:=(cR (l:=((bA T P n).map λw:Wy=>w.2.1).map λz=> -z) (λe=>by rw[Gg,Gg] at e;rw[e] at op;cases op)).2 _ (Hl (f:=λz:Int=> -z) (Hl (f:=λw:Wy=>w.2.1) op))
    have lg:=h.mine il;rw[<-aL (d:=131) (F0 il)] at lg;simp only[FW,Gq,or_false] at z;rcases z with rfl|rfl
    ·exists _,_,ν,by lia,by lia,by lia,by lia
     rw[show (2*(n:Int)).toNat=2*n by lia,show (2*(n:Int)+1).toNat=2*n+1 by lia,a0,a1]
     lia
    ·exists _,_,ν,by lia,by lia,by lia,by lia
     rw[show (2*(n:Int)).toNat=2*n by lia,show (2*(n:Int)+1).toNat=2*n+1 by lia,a0,a1]
     unfold ki
     lia
 intro k hk;unfold b7 at hk;rcases FS.mp hk with z|z
 ·rcases FS.mp z with z|z
  ·obtain ⟨⟨p,q,g,e,b1,b2,b3,b4,_⟩,p',q',g',e',hk'⟩:=hA k z;rw[e] at e';injection e' with e1 e'
   injection e' with e2 e'
   injection e' with e3 _
   subst e1 e2 e3;exact (p,q,g,e,b1,b2,b3,b4,by lia)
  ·exact hn _ 160 k z
 ·unfold iw at z;obtain ⟨o,ho,rfl⟩:=FN.mp z;obtain ⟨p,hp,rfl⟩:=FN.mp ho;obtain ⟨p1,p2,p3,p4,le⟩:=cb.ord p hp;exists _,_,ν,?_,?_,?_,?_
  ·show 0<=2*p.1+1;lia
  ·show 2*p.1+1<_;lia
  ·show 0<=2*p.2;lia
  ·show 2*p.2<_;lia
  ·show (bI R M).getD (2*p.1+1).toNat 0+0<=(bI R M).getD (2*p.2).toNat 0;rw[show (2*p.1+1).toNat=2*p.1.toNat+1 by lia,show (2*p.2).toNat=2*p.2.toNat by lia,(s0 _ 72).2,(s0 _ 72).1]
   lia
end Sw
namespace L2
open PySem PySem.Spec PyProof.Rows XH Sw Hm
end L2
namespace Sw
open PySem L2 XH Hm PySem.NumText
theorem hJ.ordOk {R:List Rn} {P:Pk} {ps:List (Int×Int)} (c:hJ R P ps):vd (cU ps) R.length:=by
 refine (by unfold cU;rw[F1];have:=c.o16;lia,λk hk=>?_)
 obtain ⟨p,hp,rfl⟩:=FN.mp hk;obtain ⟨p1,p2,p3,p4,_⟩:=c.ord p hp;exact (p.1,p.2,rfl,p1,p2,p3,p4)
end Sw
namespace L2
open PySem PySem.Spec PyProof.Rows XH Sw Hm
end L2
namespace Sw
open PySem L2 XH Hm PySem.NumText
abbrev yY:RA (List Int):=yC 203
abbrev Ap (H:Hp) (l:Addr) (F:List 173):Prop:=dG yY An H l F
theorem nW {H:Hp} {P:Addr->Prop} {v:V} {f:List Int} (h:yY P H v f):∃c,v= .ref c/\P c/\H c=some (.lst (f.map V.int)):=by
 obtain ⟨c,rfl,p,vs,e,r⟩:=h;rw[r.val] at e;exact (c,rfl,p,e)
theorem vk {H:Hp} {P:Addr->Prop} {c:Addr} {f:List Int} (p:P c) (e:H c=some (.lst (f.map V.int))):yY P H (.ref c) f:=(c,rfl,p,_,e,A2.ofVal V.int _ _ _)
noncomputable def gK (f:List Int):Int:=f.getLast?.getD (-1)
noncomputable def rn (b:List Int):Int:=b.head?.getD (-1)
noncomputable def fi (f:List Int):Int:=(gK f).fdiv 2
theorem vm {f:List Int} (h:f≠ []):fV (f.map V.int) (-1)=some (.int (gK f)):=by
 obtain ⟨D,x,rfl⟩:∃D x,f=D++ [x]:=⟨f.dropLast,f.getLast h,(List.dropLast_concat_getLast h).symm⟩;rw[G8];have:=xQ (D.map V.int) (V.int x);unfold gK;rw[List.getLast?_append]
 simpa using this
theorem Aq {b:List Int} (h:b≠ []):fV (b.map V.int) 0=some (.int (rn b)):=by
 obtain ⟨x,D,rfl⟩:=List.exists_cons_of_ne_nil h;exact bV (j:=0) rfl
noncomputable def fg (n:Nat) (f b:List Int):Bool:=(!f.isEmpty&& !b.isEmpty)&&(decide (gK f=2*fi f/\0<=fi f/\fi f<(n:Int))&&decide (rn b=gK f+1))
noncomputable def gL (n:Nat):List 173->List 173->Bool
 |f::F,b::B=>fg n f b&&gL n F B
 | [],[]=>true
 |_,_=>false
theorem da {n:Nat}:∀{F B:List 173},gL n F B=true↔F.length=B.length/\∀(i:Nat) (f b:List Int),F[i]?=some f->B[i]?=some b->fg n f b=true
 | [],[]=>by simp[gL]
 | [],_::_=>by simp[gL]
 |_::_,[]=>by simp[gL]
 |f::F,b::B=>by
  have ih:=da (n:=n) (F:=F) (B:=B);show (fg n f b&&gL n F B)=true↔_;rw[GF,ih];constructor
  ·rintro ⟨h1,h2,h3⟩;refine (by simp[h2],λi x y e1 e2=>?_)
   cases i with
   |zero=>simp at e1 e2;subst e1 e2;exact h1
   |succ i=>exact h3 i x y (by simpa using e1) (by simpa using e2)
  ·rintro ⟨h1,h2⟩;exact (h2 0 f b rfl rfl,by simpa using h1,λi x y e1 e2=>h2 176 x y (by simpa using e1) (by simpa using e2))
noncomputable def cE (n:Nat) (F B:List 173):Bool:= !F.isEmpty&&(gL n F B&&decide ((F.map fi).Nodup))
noncomputable def hV (N:Int) (F:List 173):Bool:=F.all (tJ N)
noncomputable def mE (A:List Rn) (F:List 173):Bool:=F.all λc=>(du A c).isSome
noncomputable def pI (A:List Rn) (F:List 173):Int:=dU (F.map λc=>(du A c).getD 0)
noncomputable def cK (A:List Rn) (N:Int) (F:List 173):Option Int:=if (hV N F&&mE A F)=true then some (pI A F) else none
noncomputable def pJ (T:Tk) (P:Pk) (z:Str) (F:List 173):Int:=(F.map λf=>aV T P (fi f).toNat z).sum
noncomputable def kj (D:Tl) (T:Tk) (P:Pk) (A:List Rn) (N:Int) (z:Str) (F B:List 173):Option Int:=
 if cE T.length F B=true then
  match cn D z with
  |none=>none
  |some m=>match cK A N F,cK A N B with
   |some h,some t=>some (h+t+ -((-(pJ T P z F)).fdiv m))
   |_,_=>none
 else none
noncomputable def j5 (k:Ky):Rn:=(k.getD 0 0,k.getD 1 0,k.getD 2 0)
theorem BA {A:List Ky} (h:∀k∈A,∃p q g:Int,k= [p,q,g]):(A.map j5).map rk=A:=by
 rw[G1]
 conv=>rhs;rw[<-List.map_id A]
 apply Gd;intro k hk;obtain ⟨p,q,g,rfl⟩:=h k hk
 rfl
theorem kH {H:Hp} {l:Addr} {A:List Ky} (h:bx H l A) (t:∀k∈A,∃p q g:Int,k= [p,q,g]):jm H l (A.map j5):=by
 show bx H l ((A.map j5).map rk);rw[BA t];exact h
def rC:Sp:=λvs H Q _=>∃(l cl:Addr) (A:List Rn) (N:Int) (F:List 173),vs= [.ref l,.int N,.ref cl]/\jm H l A/\A.length<=700/\Ap H cl F/\F≠ []/\F.length<=1000/\(∀f∈F,f.length<=700)/\∀H',aA H H'->Q (oV (cK A N F)) H'
def vn:Sp:=λvs H Q _=>∃(tl lf lb:Addr) (T:Tk) (F G:List 173),vs= [.ref tl,.ref lf,.ref lb]/\dG dq An H tl T/\T.length<=24/\Ap H lf F/\Ap H lb G/\F.length<=1000/\G.length<=1000/\∀(l:Addr) (H':Hp),aA H H'->H' l=some (.lst ((if cE T.length F G=true then F.map fi else []).map V.int))->Q 187 H'
def iV:Sp:=λvs H Q _=>∃(td tl t dl row:Addr) (N:Int) (z:Str) (lf lb:Addr) (D:Tl) (T:Tk) (P:Pk) (A:List Rn) (F G:List 173),vs= [.ref td,.ref tl,.ref t,.ref dl,.int N,.ref row]/\H td=some 115/\fc D H tl t T P/\T.length<=24/\(∀p∈D,1<=p.2/\p.2<=8)/\jm H dl A/\A.length<=700/\H row=some (.tup [.str z,.ref lf,.ref lb])/\Ap H lf F/\Ap H lb G/\F.length<=1000/\G.length<=1000/\(∀f∈F,f.length<=700)/\(∀f∈G,f.length<=700)/\∀H',aA H H'->Q (oV (kj D T P A N z F G)) H'
theorem Dg (os:List (Option Int)):(os.map oV).all iB=true:=by
 rw[GC];intro y hy;obtain ⟨o,_,rfl⟩:=FN.mp hy;cases o<;>rfl
theorem FH (os:List (Option Int)):zx .non (os.map oV)=os.any λo=>o.isNone:=by
 unfold zx;rw[List.any_map]
 congr 1
 funext o
 cases o<;>rfl
theorem ET {os:List (Option Int)} {A B:Prop} (h1:none∈os->A) (h2:none∉os->B):if (if false=true then !zx .non (os.map oV) else zx .non (os.map oV))=true then A else B:=by
 rw[if_neg (show ¬(false=true) by decide),FH]
 by_cases h:none∈os
 ·rw[if_pos]
  ·exact h1 h
  ·rw[List.any_eq_true];exact (none,h,rfl)
 ·rw[if_neg]
  ·exact h2 h
  ·rw[List.any_eq_true];rintro ⟨o,ho,e⟩;cases o with
   |none=>exact h ho
   |some _=>cases e
theorem mF {A:List Rn} {F:List 173}:mE A F=true↔none∉F.map (du A):=by
 unfold mE;rw[GC];constructor
 ·intro h hm;obtain ⟨c,hc,e⟩:=FN.mp hm;have:=h c hc;rw[e] at this;cases this
 ·intro h c hc;cases e:du A c with
  |none=>exact absurd (FN.mpr ⟨c,hc,e⟩) h
  |some _=>rfl
theorem xp {A:List Rn} {F:List 173} (h:none∉F.map (du A)):(F.map (du A)).map oV=(F.map λc=>(du A c).getD 0).map V.int:=by
 rw[G1,G1];apply Gd;intro c hc;cases e:du A c with
 |none=>exact absurd (FN.mpr ⟨c,hc,e⟩) h
 |some t=>simp[Function.comp,e,oV]
theorem rD {n:Nat} {f b:List Int} (h:fg n f b=true):∃i:Nat,i<n/\fi f=(i:Int):=by
 unfold fg at h;have h2:=((GF _ _).mp h).2;have:=of_decide_eq_true ((GF _ _).mp h2).1;exact ((fi f).toNat,by lia,by lia)
theorem yZ {D:Tl} {z:Str} {m:Int} (h:cn D z=some m):∃p∈D,p.2=m:=by
 unfold cn at h;obtain ⟨p,hp,e⟩:=FT.mp h;exact (p,List.mem_of_find?_eq_some hp,e)
theorem BB {H:Hp} {td:Addr} {D:Tl} {z:Str} (e:Rd H td 115) (h:cn D z=none):sD H td (.str z) none:=
 .inl ⟨_,.inr z,e,rfl,by rw[jK,h];rfl⟩
theorem fR {n:Nat} {F G:List 173}:cE n F G=true↔F≠ []/\gL n F G=true/\(F.map fi).Nodup:=by
 unfold cE;rw[GF,GF,decide_eq_true_eq];cases F<;>simp
theorem xq {D:Tl} {T:Tk} {P:Pk} {A:List Rn} {N:Int} {z:Str} {F G:List 173} (h:cK A N F=none∨cK A N G=none):kj D T P A N z F G=none:=by
 unfold kj
 split
 ·cases cn D z with
  |none=>rfl
  |some m=>
   rcases h with e|e
   ·rw[e]
   ·rw[e];cases cK A N F<;>rfl
 ·rfl
theorem tO {A:List Rn} {N:Int} {F:List 173} (h:none∈F.map (du A)):cK A N F=none:=by
 unfold cK;rw[if_neg];intro e;rw[GF] at e;exact mF.mp e.2 h
end Sw
namespace L2
open PySem PySem.Spec PyProof.Rows XH Sw Hm
end L2
namespace Sw
open PySem L2 XH Hm PySem.NumText
def FI (p:List Int->Prop):RA Unit:=λP H v _=>∃f,p f/\yY P H v f
instance (p:List Int->Prop):Mv (FI p) where
 mv:=λ{P P' H H' v x} g h=>by
  obtain ⟨f,pf,r⟩:=h;exact (f,pf,Mv.mv g r)
theorem j6 {A:List Ky} {T:Tk} {P:Pk} {O:List Ky} {n:Int} (hA:∀k∈A,jY n k) (a:A.length<=600) (t:T.length<=24) (hO:vd O T.length) (hn:2*99<=n):rj n (b7 A T P O):=by
 refine (?_,λk hk=>?_)
 ·unfold b7 iw;rw[FP,FP,cS,F1];have:=hO.1
  lia
 have hN:∀m,m<=T.length->∀k∈cN T P m,∃p q g:Int,k= [p,q,g]/\0<=p/\p<n/\0<=q/\q<n:=λm=>by
  induction m with
  |zero=>intro _ k hk;cases hk
  |succ m ih=>
   intro hm k hk;rcases FS.mp (show k∈cN T P m++_ from hk) with z|z
   ·exact ih 72 k z
   ·simp only[FW,Gq,or_false] at z;rcases z with rfl|rfl<;>exact ⟨_,_,_,rfl,by lia,by lia,by lia,by lia⟩
 unfold b7 at hk;rcases FS.mp hk with z|z
 ·rcases FS.mp z with z|z
  ·obtain ⟨p,q,g,e,b1,b2,b3,b4,_⟩:=hA k z;exact (p,q,g,e,b1,b2,b3,b4)
  ·exact hN _ 160 k z
 ·unfold iw at z;obtain ⟨o,ho,rfl⟩:=FN.mp z;obtain ⟨p,q,rfl,p0,p1,q0,q1⟩:=hO.2 o ho;refine (2*p+1,2*q,0,rfl,?_,?_,?_,?_)<;>lia
theorem tP {A:List Rn} {dm:Int->Int} (kp:cJ A dm) {c:List Int} {h:Int} (hh:c[0]?=some h):∀{i:Nat} {t x:Int},fJ A c i=some t->c[i]?=some x->t<=dm x-dm h
 |0,t,x,ht,hx=>by
  rw[hh] at hx;cases hx;cases ht
  lia
 |i+1,t,x,ht,hx=>by
  have il:=(F4.mp hx).1;have hy:=F0 (show i<c.length by lia)
  generalize c[i]=y at hy;cases e:fJ A c i with
  |none=>
   have:=jO e (j:=i+1) 72
   rw[this] at ht;cases ht
  |some s=>
   have ih:=tP kp hh e hy;rw[nN e hy hx] at ht;cases g:dt A y x with
   |none=>rw[g] at ht;cases ht
   |some m=>
    rw[g] at ht;injection ht with ht
    have ht:s+m=t:=ht;have f:=jk y x A none;unfold dt at g;rw[g] at f;rcases f.1 with z|⟨a,ha,a1,a2,a3⟩
    ·cases z
    ·have:=kp a ha;rw[a1,a2,a3] at this
     lia
theorem qU.no {A:List Rn} {n:Nat} {c:List Int} (h:qU A n c) {dm:Int->Int} (kp:cJ A dm):False:=by
 obtain ⟨nd,rg,ne,T,hT,t0⟩:=h;cases c with
 |nil=>exact ne rfl
 |cons x r=>
  have:=tP kp (c:=x::r++ [x]) (h:=x) rfl (i:=(x::r++ [x]).length-1) (t:=T) (x:=x) hT 82
  lia
theorem y3 {l l':List Int} (h:l.Perm l'):l.sum=l'.sum:=by
 induction h with
 |nil=>rfl
 |cons x _ ih=>rw[Gm,Gm,ih]
 |swap x y l=>rw[Gm,Gm,Gm,Gm];lia
 |trans _ _ h1 h2=>exact h1.trans h2
variable {T:Tk} {R:List Rn} {z:Str}
structure Dh (D:Tl) (T:Tk) (P:Pk) (Ar:List Rn) (N:Int) (R:List Rn) (dm:Int->Int) (L:Int) (z:Str):Prop where
 kp:cJ Ar dm
 nn:∀x,0<=dm x
 up:∀x,0<=x->x<N->dm x<=L
 len:R.length=T.length
 at_:∀i,i<R.length->dm 114=(R.getD i 131).1/\dm 107=(R.getD i 131).2.1
 pos:∀i,i<R.length->(R.getD i 131).1<=(R.getD i 131).2.1
 many:∀i,i<R.length->0<=bX (dB T R i) z
 cap:∀m,cn D z=some m->0<m/\∀t,cM T R z t R.length<=m
 wk:∀i,i<R.length->aV T P i z<=bX (dB T R i) z*((R.getD i 131).2.1-(R.getD i 131).1)
end Sw
namespace L2
open PySem PySem.Spec PyProof.Rows XH Sw Hm
theorem rE {X:Cx} {e:Expr} {te:TE} {p1 p2 pos pos2:Pos} {K:F6} (hK:X.K=K) (hc:X.calm=true) (g1:Gl X "list") (m1:X.mg "list" =none) (g2:Gl X "reversed") (m2:X.mg "reversed" =none) (b1:bootBuiltins "list" =some (.type "list")) (b2:bootBuiltins "reversed" =some (.type "reversed")) (he:PE X e te)
  (hs:starEach [e] X.env= [202]:=by rfl):
  PE X (.Call (.Name "list" p1) [.Call (.Name "reversed" p2) [e] [] pos2] [] pos) (C9 K te):=by
 subst hK;exact gF hc g1 m1 g2 m2 b1 b2 he hs
end L2
namespace Sw
open PySem L2 XH Hm
noncomputable def cx (A:List Rn):List Rn:=A.map λa=>(a.2.1,a.1,a.2.2)
theorem y4 (A:List Rn) (x y:Int):dt (cx A) x y=dt A y x:=by
 unfold dt cx;rw[List.foldl_map]
 congr 1
 funext o a
 unfold wX
 by_cases c:a.1=y/\a.2.1=x
 ·rw[if_pos c,if_pos ⟨c.2,c.1⟩]
 ·rw[if_neg c,if_neg (λz=>c ⟨z.2,z.1⟩)]
theorem rF {A:List Rn} {x:Int} {c:List Int}:∀i,fJ A (x::c) 176=(dt A x (c.getD 0 0)).bind λg=>(fJ A c i).map λt=>g+t
 |0=>by
  show (some (0:Int)).bind (λt=>(dt A ((x::c).getD 0 0) ((x::c).getD 1 0)).map λg=>t+g)=_
  have e:(x::c).getD 1 0=c.getD 0 0:=by simp[G9]
  rw[e];show (dt A x (c.getD 0 0)).map _=(dt A x (c.getD 0 0)).bind λg=>some (g+0)
  cases dt A x (c.getD 0 0) with
  |none=>rfl
  |some g=>show some (0+g)=some (g+0);congr 1;lia
 |i+1=>by
  show (fJ A (x::c) 176).bind _=_;rw[rF i];have e1:(x::c).getD 176 0=c.getD i 0:=by simp[G9]
  have e2:(x::c).getD (i+1+1) 0=c.getD 176 0:=by simp[G9]
  rw[e1,e2];cases dt A x (c.getD 0 0) with
  |none=>rfl
  |some g=>
   show ((fJ A c i).map λt=>g+t).bind _=((fJ A c i).bind _).map _
   cases fJ A c i with
   |none=>rfl
   |some t=>
    show ((dt A (c.getD i 0) (c.getD 176 0)).map λh=>g+t+h)=((dt A (c.getD i 0) (c.getD 176 0)).map λh=>t+h).map λs=>g+s
    cases dt A (c.getD i 0) (c.getD (i+1) 0) with
    |none=>rfl
    |some h=>show some (g+t+h)=some (g+(t+h));congr 1;lia
theorem jr (A:List Rn):∀c:List Int,du A c.reverse=du (cx A) c
 | []=>rfl
 | [x]=>rfl
 |x::y::r=>by
  rw[pj,jr A (y::r)];show _=fJ (cx A) (x::y::r) ((y::r).length-1+1);rw[rF];show _=(dt (cx A) x y).bind λg=>(du (cx A) (y::r)).map λt=>g+t
  rw[y4];cases du (cx A) (y::r) with
  |none=>cases dt A y x<;>rfl
  |some t=>
   cases dt A y x with
   |none=>rfl
   |some g=>show some (t+g)=some (g+t);congr 1;lia
def km (A:List Rn) (n:Nat) (x t:Int) (c:List Int):Prop:=c.Nodup/\(∀z∈c,0<=z/\z<(n:Int))/\c.head?=some x/\du A c=some t
theorem gf.tail {A:List Rn} {n:Nat} {x t:Int} {c:List Int} (h:gf (cx A) n x t c):km A n x t c.reverse:=by
 obtain ⟨nd,rg,l,tot⟩:=h;exact (gc nd,λz hz=>rg z (HY.mp hz),by rw[List.head?_reverse];exact l,by rw[jr];exact tot)
def y6 (H:Hp) (t:Addr) (A:List Rn) (n:Nat):Prop:=∃(ls lc:Addr) (tm:Int->Int) (as:IN),H t=some (.tup [.ref ls,.ref lc])/\H ls=some 189/\H lc=some (.lst (as.map V.ref))/\as.length=n/\(∀(i:Nat) (l:Addr),as[i]?=some l->∃c:List Int,H l=some 140/\km A n i (tm i) c)/\cJ (cx A) tm/\∀x,0<=tm x
def vo:Sp:=λvs H Q _=>∃(n:Nat) (la:Addr) (A:List Rn),vs= [.int (n:Int),.ref la]/\jm H la A/\A.length<=700/\n<=700/\w6 n A/\∀(t:Addr) (H':Hp),aA H H'->(y6 H' t A n∨(H' t=some (.tup [.non,.non])/\∃c,qU (cx A) n c))->Q 223 H'
theorem w6.turn {n:Nat} {A:List Rn} (h:w6 n A):w6 n (cx A):=λa ha=>by
 obtain ⟨b,hb,rfl⟩:=FN.mp ha;obtain ⟨h1,h2,h3,h4⟩:=h b hb;exact (h3,h4,h1,h2)
theorem cJ.turn {A:List Rn} {dm:Int->Int} (h:cJ A dm):cJ (cx A) (λx=> -dm x):=λa ha=>by
 obtain ⟨b,hb,rfl⟩:=FN.mp ha;have:=h b hb;show-dm b.2.1+b.2.2<= -dm b.1
 lia
theorem y8 {A:List Rn} {n:Nat} {tm:Int->Int} {H1 H':Hp} {p:Addr} {as:IN} {ys:List V} (las:as.length=n) (ly:ys.length=(as.map V.ref).length)
  (hc:∀(i:Nat) (l:Addr),as[i]?=some l->∃c:List Int,H1 l=some 140/\gf (cx A) n i (tm i) c)
  (hy:∀(i:Nat) (x y:V),(as.map V.ref)[i]?=some x->ys[i]?=some y->∃H3 H4:Hp,aA H1 H3/\H3 p≠none/\(∃(l l':Addr) (c:List Int),x= .ref l/\H3 l=some 140/\y= .ref l'/\H3 l'=none/\H4 l'=some (.lst (c.reverse.map V.int)))/\∀b o,b≠p->H4 b=some o->H' b=some o):
  ∃bs:IN,ys=bs.map V.ref/\bs.length=n/\∀(i:Nat) (l:Addr),bs[i]?=some l->∃c:List Int,H' l=some 140/\km A n i (tm i) c:=by
 rw[F1] at ly;obtain ⟨bs,rfl⟩:=ic (ys:=ys) λy hy'=>by
  obtain ⟨i,hi⟩:=FR.mp hy';have il:=(F4.mp hi).1;obtain ⟨_,_,_,_,⟨_,l',_,_,_,e,_⟩,_⟩:=hy i _ y (F0 (by rw[F1];lia)) hi
  exact (l',e)
 rw[F1] at ly;refine (bs,rfl,by lia,λi l' e=>?_)
 have il:=(F4.mp e).1;have hl:=F0 (show i<as.length by lia)
 generalize as[i]=l at hl;obtain ⟨c,el,ok⟩:=hc i l hl;obtain ⟨H3,H4,g3,n3,⟨l1,l1',c1,q1,q2,q3,q4,q5⟩,f⟩:=hy i 187 (.ref l') (by rw[F7,hl];rfl) (by rw[F7,e];rfl)
 cases q1;cases q3;rw[g3 _ _ el] at q2;injection q2 with q2
 injection q2 with q2
 have ec:c=c1:=(List.map_inj_right (λ_ _ z=>by injection z)).mp q2
 subst ec;exact (c.reverse,f _ _ (λz=>n3 (z▸q4)) q5,ok.tail)
end Sw
namespace L2
open PySem PySem.Spec PyProof.Rows XH Sw So Hm
section
variable {prog:Program} {w:World} {A:Around} {E:II} {s:Shared}
theorem y9 {b:Bool} {a:Addr} {vs:IP} {n:Nat} {P:PySem.Fin->Shared->Prop} {nm:Addr->Option Ky} (ho:s.heap.get? a=some (seqObj "list" vs.toArray n)) (keys:∀v∈vs,∃k,(cI b nm).keyOf v=some k)
  (tup:b=true->∀x k,nm x=some k->wC s.heap x k/\k≠ []) (hz:vs.length<=sizeLine) (h64:vs.length<64)
  (h:∀st':SortSt,(arrOf st').toList.Perm (pairsOf vs).toList->(arrOf st').toList.Pairwise (Lq (cI b nm))->P (.done (.ret .none)) {s with heap:=sortedHeap s.heap a vs ((arrOf st').map (·.2)).reverse}):
  wpAny 79 A (Builtin.«list.sort» ⟨[.ref a],[(Str.ofString "reverse",.bool true)]⟩) P E s:=by
 rw[list_sort_rev];have ha:a<s.heap.objs.size:=106 ho;refine wpAny_bind (listItems_at ho rfl ?_);refine wpAny_bind (listUpdate_at ho rfl ?_);obtain ⟨e1,ho1⟩:∃e1,(s.heap.update a (Obj.mapSeq λ_=> #[])).get? a=some (seqObj "list" #[] e1):=⟨_,get?_update_seq ho (λ_=> #[])⟩
 refine wpAny_bind (seqEpoch_at ho1 rfl (wpAny_bind (wpAny_newTuple (wpAny_bind (wpAny_newList (wpAny_holding ?_))))));have ho6:(((s.heap.update a 204).push 167).push 210).get? a=some (seqObj "list" #[] e1):=by
  rw[Heap.get?_push_ne _ _ _ (by rw[size_push',Heap.size_update];exact FV (GR ha)),Heap.get?_push_ne _ _ _ (by rw[Heap.size_update];exact FV ha)]
  exact ho1
 have old:∀{b:Addr} {o:Obj},b≠a->s.heap.get? b=some o->(((s.heap.update a 204).push 167).push 210).get? b=some o:=λ{b o} hb e=>by
  have bl:=106 e;rw[Heap.get?_push_ne _ _ _ (by rw[size_push',Heap.size_update];exact FV (GR bl)),Heap.get?_push_ne _ _ _ (by rw[Heap.size_update];exact FV bl),Heap.get?_update_other _ _ (Ne.symm hb)]
  exact e
 show wpAny 79 A _ P E {s with heap:=((s.heap.update a 204).push 167).push 210}
 dsimp only;have tna:∀{x:Addr} {k:Ky},wC s.heap x k->x≠a:=λ{x k} t z=>by
  obtain ⟨o,us,n',g,c,d,_⟩:=t;rw[z,ho] at g;cases g;have c':("list" :String)= "tuple" :=by injection c
  exact absurd c' 73
 have fin:∀st':SortSt,(arrOf st').toList.Perm (pairsOf vs).toList->failedOf st'=none->(arrOf st').toList.Pairwise (Lq (cI b nm))->P (.done (.ret .none)) {s with heap:=sortedHeap s.heap a vs ((arrOf st').map (·.2)).reverse}/\((arrOf st').map (·.2)).reverse.size<=sizeLine+1:=λst' hp hf hs=>by
  exists h st' hp hs;have:=hp.length_eq;rw[Array.size_reverse,Array.size_map];have e:(pairsOf vs).toList.length=vs.length:=by rw[pairsOf_toList];simp
  rw[e,FZ] at this
  lia
 refine wpAny_bind (wpAny_rule ?_);have prv:((vs.toArray.zip vs.toArray).reverse).toList.Perm (pairsOf vs).toList:=by rw[Array.toList_reverse];exact List.reverse_perm _
 by_cases h2:vs.toArray.size<2
 ·rw[if_pos h2,if_pos h2];refine wpAny_bind 126;have st0:=fin (SortSt.mk' general' (vs.toArray.zip vs.toArray).reverse #[] 7 none) prv rfl (by
   have:((vs.toArray.zip vs.toArray).reverse).toList.length<2:=by rw[prv.length_eq,pairsOf_toList];simp at h2⊢;exact h2
   show ((vs.toArray.zip vs.toArray).reverse).toList.Pairwise _
   match e:((vs.toArray.zip vs.toArray).reverse).toList,this with
   | [],_=>exact Hh
   | [x],_=>exact List.pairwise_singleton _ _
   |_::_::_,l=>simp at l;lia)
  refine wpAny_bind 126;dsimp only;refine wpAny_bind (seqEpoch_at ho6 rfl ?_);refine wpAny_bind (listUpdate_at ho6 rfl ?_ (hsz2:=st0.2));simp only[bne_self_eq_false,GY,if_false];exact wpAny_pure st0.1
 ·rw[if_neg h2,if_neg h2];have l2:2<=vs.length:=by simpa using h2
  have go:zy prog w A E {s with heap:=((s.heap.update a 204).push 167).push 210} (cI b nm) (sk b)/\∀{R:SortKind->Shared->Prop},R (sk b) {s with heap:=((s.heap.update a 204).push 167).push 210}->wpAny 79 A (keyKind' vs.toArray) R E {s with heap:=((s.heap.update a 204).push 167).push 210}:=by
   cases b with
   |false=>
    refine (zy.of_one yi,λ{R} q=>?_)
    obtain ⟨ns,hn⟩:=qx keys;have ek:keyKind' vs.toArray=pure oneType':=by
     match vs,l2,hn with
     |v₁::v₂::rest,_,hn=>exact keyKind_ints hn
    rw[ek];exact wpAny_pure q
   |true=>
    have tup6:∀x k,nm x=some k->wC (((s.heap.update a 204).push 167).push 210) x k/\k≠ []:=λx k hx=>by
     obtain ⟨t,ne⟩:=tup rfl x k hx;have na:=tna t;obtain ⟨o,us,n',g,c,d,m⟩:=t;exact ((o,us,n',old na g,c,d,m),ne)
    refine (yj λx k hx=>(tup6 x k hx).1,λ{R} q=>?_)
    obtain ⟨fs,kt,kl,kf⟩:=kat_firsts tup6 (vs:=vs) λv hv=>by
     obtain ⟨k,e⟩:=keys v hv;obtain ⟨x,rfl,e⟩:=yh e;exact (x,k,rfl,e)
    exact PySem.W.kat_kind (T:= .type "int") kt 72 (λv hv=>by obtain ⟨i,t,rfl⟩:=kf v hv;exact wF _ _ _ _) rfl q
  refine wpAny_bind (go.2 ?_);refine wpAny_bind (wpAny_mono (wx (κ:=cI b nm) (kd:=sk b) go.1 (a0:=((vs.toArray.zip vs.toArray).reverse).toList) (st:=SortSt.mk' (sk b) (vs.toArray.zip vs.toArray).reverse #[] 7 none)
   (Q:=λ_ st'=>(arrOf st').toList.Perm (pairsOf vs).toList/\failedOf st'=none/\(arrOf st').toList.Pairwise (Lq (cI b nm)))
   rfl rfl rfl rfl (λx hx=>?_) (by simpa using h64) λst' pr fl sr=>⟨pr.trans prv,fl,sr⟩) ?_ λ_ _ e=>e)
  ·rw[prv.mem_iff,pairsOf_toList] at hx;exact keys _ (List.of_mem_zip hx).1
  rintro ⟨⟨⟩,st'⟩ s' ⟨rfl,hp,hf,hs⟩;have f:=fin st' hp hf hs;dsimp only;refine wpAny_bind (seqEpoch_at ho6 rfl ?_);refine wpAny_bind (listUpdate_at ho6 rfl ?_ (hsz2:=f.2));rw[hf];simp only[bne_self_eq_false,GY,if_false];exact wpAny_pure f.1
end
def za (te:TE):TE:=λσ H Q=>te σ H λx H1=>∃(l:Addr) (vs:List V) (b:Bool) (f:V->Ky),x= .ref l/\H1 l=some (.lst vs)/\(∀v∈vs,Th b H1 v (f v))/\vs.length<64/\
  ∀(p:Addr) (ws:List V),H1 p=none->ws.Perm vs->Rs (ws.map f).reverse->Q 120 (aI H1 p (.lst ws))
theorem tQ {X:Cx} {pins:IK} {s:Shared} {σ:L2.St} {H:Hp} {Q:VK} (I:aR X pins σ H s) {l:Addr} {vs:List V} {b:Bool} {f:V->Ky} (hl:H l=some (.lst vs)) (ht:∀v∈vs,Th b H v (f v)) (l64:vs.length<64)
  (q:∀(p:Addr) (ws:List V),H p=none->ws.Perm vs->Rs (ws.map f).reverse->Q 120 (aI H p (.lst ws))):wpAny 93 X.A (call (.builtin "sorted") [.ref l] [(Str.ofString "reverse",.bool true)]) (EP X pins σ Q) X.xe s:=by
 obtain ⟨z,its,n,rv,hlen,hg⟩:=I.lstM hl;have z':its.length<=sizeLine:=by rw[<-hlen];exact z
 refine call_function_entry_kw kind_sorted plain_sorted entry_sorted (args_sorted_rev _ _) ?_;unfold Builtin.«sorted»;refine wpAny_bind (m:=checkCount "sorted" 1 1 _) 126;refine wpAny_bind (qu hg z' λh' hlt hk=>?_)
 refine wpAny_bind (wpAny_newList ?_ z');have hoL:(h'.push (seqObj "list" its.toArray 0)).get? h'.objs.size=some (seqObj "list" its.toArray 0):=87 _ rfl
 let nm:Addr->Option Ky:=λa=>if V.ref a∈vs then some (f (.ref a)) else none
 have nm_of:∀{a:Addr} {k:Ky},nm a=some k->V.ref a∈vs/\f 188=k:=λ{a k} e=>by
  have e':(if V.ref a∈vs then some (f 188) else none)=some k:=e
  by_cases m:V.ref a∈vs
  ·rw[if_pos m] at e';exact (m,GZ e')
  ·rw[if_neg m] at e';cases e'
 have keyv:∀x∈vs,∀u,RelV x u->(cI b nm).keyOf u=some (f x):=λx hx u ru=>by
  have t:=ht x hx;cases b with
  |false=>
   obtain ⟨i,rfl,e⟩:=t;obtain ⟨tk,rfl⟩:=ru;rw[e]
   rfl
  |true=>
   obtain ⟨a,rfl,_,_⟩:=t;cases ru;show (if V.ref a∈vs then some (f 188) else none)=_
   rw[if_pos hx]
 have keys:∀u∈its,∃k,(cI b nm).keyOf u=some k:=λu hu=>by
  obtain ⟨i,hi⟩:=FR.mp hu;have il:i<vs.length:=by rw[hlen];exact (F4.mp hi).1
  obtain ⟨u',h1,h2⟩:=rv.get (F0 il);rw[hi] at h1;cases h1;exact (_,keyv _ (G5 _) u h2)
 have tup:b=true->∀x k,nm x=some k->wC (h'.push (seqObj "list" its.toArray 0)) x k/\k≠ []:=λhb x k hx=>by
  subst hb;obtain ⟨m,e⟩:=nm_of hx;obtain ⟨a,ea,et,ne,_⟩:=ht _ m;injection ea with ea
  subst ea;rw[e] at et ne;obtain ⟨its',rv',⟨o,e1,c1,n1,d1⟩,_⟩:=I.tuple (bT.of et);exact ((o,its',n1,76 _ (hk _ _ e1),c1,d1,kA rv'),ne)
 refine wpAny_bind (wpAny_holding (wpAny_call_entry_kw slot_list_sort (_,hoL,rfl) entry_list_sort (y9 (b:=b) (nm:=nm) hoL keys tup z' (by rw[<-hlen];exact l64) λst' hp hs=>(ν,?_)) (args_list_sort_rev _ _)))
 rw[pairsOf_toList,yk] at hp;obtain ⟨ws,hw,ew⟩:=wA (k:=λp:Keyed=>p.1) (λa=>rfl) hp
 rw[ew] at hs;obtain ⟨xs',px,vx⟩:=wE hw.symm rv;have so:Rs (xs'.map f):=AI vx (λx hx=>keyv x (px.mem_iff.mp hx)) hs
 have eo:((arrOf st').map (·.2)).reverse=ws.reverse.toArray:=by
  apply Array.toList_inj.mp;rw[Array.toList_reverse,Array.toList_map,ew,G1];exact congrArg List.reverse (List.map_id ws)
 have sl:s.heap.objs.size<=h'.objs.size:=Nat.le_of_lt hlt;refine wpAny_pure (ν,.ref h'.objs.size,_,I.laid (a:=h'.objs.size) (o:= .lst xs'.reverse) (h':=sortedHeap (h'.push (seqObj "list" its.toArray 0)) h'.objs.size its ((arrOf st').map (·.2)).reverse) (t':=s.toks) (λb o eo=>?_) sl ?_,rfl,q _ xs'.reverse (I.hok.fresh sl) ((List.reverse_perm _).trans px) (by rw[List.map_reverse,List.reverse_reverse];exact so))
 ·have eo':=hk b o eo;have bl:=106 eo';rw[sortedHeap_old (FV bl) (by rw[size_push'];exact GR bl)]
  exact 76 _ eo'
 ·obtain ⟨e,he⟩:=sortedHeap_at (out:=((arrOf st').map (·.2)).reverse) hoL;exists by rw[Ge,px.length_eq];exact z,ws.reverse,e,lK vx
  rw[<-eo];exact he
theorem tR {X:Cx} {e:Expr} {te:TE} {p1 pos kp cp:Pos} {cj:Nat} (g1:Gl X "sorted") (m1:X.mg "sorted" =none) (b1:bootBuiltins "sorted" =some (.builtin "sorted")) (he:PE X e te)
  (hs:starEach [e] X.env= [202]:=by rfl):PE X (.Call (.Name "sorted" p1) [e] [⟨some "reverse",.Constant (.bool true) cj cp,kp⟩] pos) (za te):=by
 sleep 12
 have hb:backTo pos (starEach [e] X.env)= [202]:=by rw[hs];rfl
 rw[hb];refine callWith_builtin_kwB rfl rfl ?_;refine evalArgs_kwB rfl ?_;refine Calls.spliced_cons (x:=eval e X.env) (rest:= []) (bW (he pins s σ H _ I h) λv s1 (x,H1,I1,r1,l,vs,b,f,ex,hl,ht,l64,q)=>?_)
 subst ex;cases r1;refine Calls.spliced_nil ?_;refine kws_cons (Constant_bool (kws_nil ?_));exact tQ I1 hl ht l64 q
end L2
namespace Hm
open PySem PySem.SeqAt PySem.MeetsSeq
theorem xr (x y:Addr) (us ws:IP) (ks ls:List Int) (m1 m2:Nat) (d1 d2:IQ) (z1 z2:IL) (h1:Nums ks us) (h2:Nums ls ws):
  Meets (Builtin.«tuple.__ge__» ⟨[.ref x,.ref y],[]⟩)
   (λA R s=>s.heap.get? x=some {cls:= .type "tuple",dict:=d1,data:= .seq us.toArray m1,slots:=z1}/\s.heap.get? y=some {cls:= .type "tuple",dict:=d2,data:= .seq ws.toArray m2,slots:=z2}/\
    R (.ok (.ret (.bool (!dC ks ls)))) s):=
 .of_wp λprog w A R s h=>by
  obtain ⟨hp,gs,dr,tk,os⟩:=s;obtain ⟨gx,gy,fin⟩:=h;have sub:=AutoSeq1.sub_tuple_tuple
  wp_walk using AutoSeq1.wpAny_loadPart' gx,AutoSeq1.wpAny_loadPart' gy,wpAny_forIn_list _ (λrest b s'=>b.1=none/\s'=⟨hp,gs,dr,tk,os⟩/\∃ks' ls' us' ws',rest=us'.zip ws'/\Nums ks' us'/\Nums ls' ws'/\us.length+ws'.length=ws.length+us'.length/\
   R (.ok (.ret (.bool (!dC ks' ls')))) ⟨hp,gs,dr,tk,os⟩) _
  case turn=>
   rintro ⟨p,q⟩ rest b s' ⟨hb,rfl,ks',ls',us',ws',hz,n1,n2,hl,hR⟩
   match ks',us',n1 with
   | [],[],_=>simp at hz
   |k::ks',u::us',⟨⟨t,hu⟩,n1⟩=>
    match ls',ws',n2 with
    | [],[],_=>simp at hz
    |l::ls',v::ws',⟨⟨t',hv⟩,n2⟩=>
     rw[List.zip_cons_cons] at hz;injection hz with e1 e2
     injection e1 with e1 e3
     subst e1 e3 hu hv;have eq:=(EqGives.int k l t t').at;refine wpAny_bind (eq _ _ prog w _ _ ?_);unfold dC at hR
     by_cases c:k=l
     ·rw[if_pos c] at hR;rw[show (k==l)=true from beq_iff_eq.mpr c]
      wp_walk
      refine (rfl,rfl,ks',ls',us',ws',e2,n1,n2,?_,hR);simp at hl
      lia
     ·rw[if_neg c] at hR;rw[show (k==l)=false from beq_eq_false_iff_ne.mpr c]
      have ltr:∀{A:Around} {E:II} {s:Shared} {Q:II},Q (.bool (decide (k≥l))) s->wpAny 79 A (richCompare .GtE (.int k t) (.int l t')) Q E s:=λh=>PySem.P.ge_int h
      wp_walk using ltr
      exists ν;have e9:(!decide (k<l))=decide (k≥l):=by by_cases c9:k<l<;>simp[c9]<;>lia
      rw[e9] at hR;exact hR
  case fin=>
   rintro ⟨b1,b2⟩ s' ⟨hb,rfl,ks',ls',us',ws',hz,n1,n2,hl,hR⟩;simp only at hb;subst hb
   wp_walk
   exists ν;have e:dC ks' ls'=decide (us.length<ws.length):=by
    match ks',us',n1 with
    | [],[],_=>
     match ls',ws',n2 with
     | [],[],_=>exact (decide_eq_false (by simp at hl;lia)).symm
     |_::_,_::_,_=>exact (decide_eq_true (by simp at hl;lia)).symm
    |_::_,_::_,_=>
     match ls',ws',n2 with
     | [],[],_=>exact (decide_eq_false (by simp at hl;lia)).symm
     |_::_,_::_,_=>simp at hz
   rw[e] at hR;have e8:(!decide (us.length<ws.length))=decide (us.length≥ws.length):=by by_cases c9:us.length<ws.length<;>simp[c9]<;>lia
   rw[e8] at hR
   simpa [Builtin.Tuple.tupleCompareSizes] using hR
  case h=>
   exact (rfl,rfl,ks,ls,us,ws,rfl,h1,h2,Nat.add_comm _ _,fin)
section
variable {prog:Program} {w:World} {A:Around} {E:II} {s:Shared}
theorem As {x y:Addr} {us ws:IP} {ks ls:List Int} {Q:II} (gx:s.heap.IsTuple x us.toArray) (gy:s.heap.IsTuple y ws.toArray) (h1:Nums ks us) (h2:Nums ls ws) (hu:A.units<cLine) (h:Q (.bool (!dC ks ls)) s):
  wpAny 79 A (compareOp .GtE (.ref x) (.ref y)) Q E s:=by
 obtain ⟨⟨c1,d1,t1,z1⟩,o1,e1,m1,f1⟩:=gx;obtain ⟨⟨c2,d2,t2,z2⟩,o2,e2,m2,f2⟩:=gy;simp only at e1 f1 e2 f2;subst e1 f1 e2 f2;refine richCompare_meets_room (op:= .GtE) (_,o1,rfl) (_,o2,rfl) F.slot_tuple_ge F.entry_tuple_ge (F.args_tuple_ge_2 _ _) (xr x y us ws ks ls m1 m2 d1 d2 z1 z2 h1 h2) (o1,o2,?_) hu;exact (show Value.bool (!dC ks ls)≠Value.notImplemented/\Q (.bool (!dC ks ls)) s from ((λz=>nomatch z),h))
end
end Hm
namespace L2
open PySem PySem.Spec PyProof.Rows XH Sw So Hm
theorem At {X:Cx} (hu:X.A.units<cLine):iq X (compareOp .GtE) (λx y H Q=>∃k l,Th true H x k/\Th true H y l/\Q (.bl (!dC k l)) H):=by
 intro pins s σ H x y u v Q I rx ry h;obtain ⟨k,l,hx,hy,q⟩:=h;obtain ⟨a,rfl,ea,_⟩:=hx;obtain ⟨c,rfl,ec,_⟩:=hy;cases rx;cases ry;obtain ⟨us,r1,g1,_⟩:=I.tuple (bT.of ea);obtain ⟨ws,r2,g2,_⟩:=I.tuple (bT.of ec);exact As g1 g2 (kA r1) (kA r2) hu (.bl (!dC k l),H,I,rfl,q)
end L2
namespace Sw
open PySem L2 XH Hm
noncomputable def uT (u:Ky):Int:=u.getD 0 0
noncomputable def uB (u:Ky):Int:=u.getD 1 0
noncomputable def uW (u:Ky):Int:=u.getD 2 0
noncomputable def uI (u:Ky):Int:=u.getD 3 0
noncomputable def b8 (U:List Ky) (f:Int) (k:Nat):List Ky:=(U.take k).filter λu=>decide (f<=uB u)
noncomputable def tT (U:List Ky) (f:Int) (k:Nat):Int:=((b8 U f k).map uW).sum
noncomputable def ko (U:List Ky) (m f:Int) (k:Nat):Int:=f+uT 164+ -((-(tT U f 224)).fdiv m)
noncomputable def db (U:List Ky) (f:Int) (k:Nat):List Int:=(b8 U f 224).map uI
structure pK (U:List Ky) (f:Int) (k:Nat):Prop where
 fl:∃u∈U,uB u=f
 lt:k<U.length
 ge:f<=uB 164
structure zb (U:List Ky) (m total f:Int) (k:Nat):Prop where
 cand:pK U f k
 eq:total=ko U m f k
 max:∀f' k',pK U f' k'->ko U m f' k'<=total
def iG (U:List Ky):Prop:=U.Pairwise λa b=>dC b a=true
structure mG (ws:List Int) (tm ts:Int->Int) (U:List Ky):Prop where
 falls:iG U
 mem:∀u,u∈U↔∃i:Nat,i<ws.length/\0<ws.getD i 0/\u= [ts 107,tm 114,ws.getD i 0,(i:Int)]
theorem nX {U:List Ky} {f:Int} {k:Nat} {u:Ky} (h:U[k]?=some u):b8 U f 224=b8 U f k++(if f<=uB u then [u] else []):=by
 unfold b8;rw[Gv,h,Option.toList_some,List.filter_append]
 congr 1
 by_cases c:f<=uB u
 ·rw[if_pos c,List.filter_cons,if_pos (decide_eq_true c)]
  rfl
 ·rw[if_neg c,List.filter_cons,if_neg (by rw[decide_eq_true_eq];exact c)]
  rfl
theorem Au {U:List Ky} {f:Int} {k:Nat} {u:Ky} (h:U[k]?=some u):tT U f 224=if f<=uB u then tT U f k+uW u else tT U f k:=by
 unfold tT;rw[nX h]
 by_cases c:f<=uB u
 ·rw[if_pos c,if_pos c,G8,List.sum_append];simp
 ·rw[if_neg c,if_neg c,Gn]
theorem jt {U:List Ky} (h:iG U) {i j:Nat} {a b:Ky} (hi:U[i]?=some a) (hj:U[j]?=some b) (c:i<j):dC b a=true:=by
 obtain ⟨h1,rfl⟩:=F4.mp hi;obtain ⟨h2,rfl⟩:=F4.mp hj;exact Hi.mp h i j h1 h2 c
theorem zc {U:List Ky} (h:iG U) {i j:Nat} {a b:Ky} (hi:U[i]?=some a) (hj:U[j]?=some b):(!dC a b)=decide (i<=j):=by
 rcases Nat.lt_trichotomy i j with c|c|c
 ·rw[jE (jt h hi hj c),decide_eq_true 72]
  rfl
 ·subst c;rw[hi] at hj;cases hj;rw[cW,decide_eq_true 160]
  rfl
 ·rw[jt h hj hi c,decide_eq_false 72]
  rfl
theorem zd {U:List Ky} {f:Int} {k:Nat} (h:iG U) {u:Ky} (hk:U[k]?=some u):f9 U.length (λj=>decide (f<=uB (U.getD j []))&& !dC (U.getD j []) u) (λj=>uI (U.getD j []))=db U f k:=by
 have kl:=(F4.mp hk).1;have go:∀n,n<=U.length->f9 n (λj=>decide (f<=uB (U.getD j []))&& !dC (U.getD j []) u) (λj=>uI (U.getD j []))=(b8 U f (min n 224)).map uI:=λn=>by
  induction n with
  |zero=>intro _;rw[Nat.zero_min];rfl
  |succ n ih=>
   intro hn;have hu:=F0 (show n<U.length by lia)
   rw[iP,ih 72,aL hu,zc h hu hk]
   by_cases c:n<=k
   ·rw[show min (n+1) 224=n+1 by lia,show min n 224=n by lia,nX hu,decide_eq_true c,Bool.and_true,G8]
    congr 1
    by_cases d:f<=uB U[n]
    ·rw[if_pos (decide_eq_true d),if_pos d]
     rfl
    ·rw[if_neg (by rw[decide_eq_true_eq];exact d),if_neg d]
     rfl
   ·rw[show min (n+1) 224=min n 224 by lia,decide_eq_false c,Bool.and_false,if_neg 73,Gn]
 rw[go U.length 160,show min U.length 224=k+1 by lia]
 rfl
theorem rG {a b:Ky} (h:dC b a=true) (la:a≠ []) (lb:b≠ []):uT b<=uT a:=by
 cases a with
 |nil=>exact absurd rfl la
 |cons x a=>
  cases b with
  |nil=>exact absurd rfl lb
  |cons y b=>
   unfold dC at h;show y<=x
   by_cases c:y=x
   ·lia
   ·rw[if_neg c] at h;have:=of_decide_eq_true h
    lia
theorem dv {U:List Ky} {f:Int} {k:Nat} {u:Ky}:u∈b8 U f k↔(∃j,j<k/\U[j]?=some u)/\f<=uB u:=by
 unfold b8;rw[Gx,decide_eq_true_eq];constructor
 ·rintro ⟨h1,h2⟩;obtain ⟨j,hj⟩:=FR.mp h1;have jl:=(F4.mp hj).1;rw[GA] at jl;rw[List.getElem?_take] at hj;exact ((j,by lia,by rw[if_pos 72] at hj;exact hj),h2)
 ·rintro ⟨⟨j,hj,e⟩,h2⟩;exact (FR.mpr (j,by rw[List.getElem?_take,if_pos hj];exact e),h2)
theorem tU {U:List Ky} {m total f:Int} {k:Nat} (fa:iG U) (l4:∀u∈U,u≠ []) (h:zb U m total f k) {u:Ky} (hk:U[k]?=some u):u∈b8 U f 224/\(∀x∈b8 U f 224,f<=uB x/\uT u<=uT x)/\∃x∈b8 U f 224,uB x=f:=by
 have ge:=h.cand.ge;rw[aL hk] at ge;have hu:u∈b8 U f (k+1):=dv.mpr ((k,by lia,hk),ge)
 have all:∀x∈b8 U f 224,f<=uB x/\uT u<=uT x:=λx hx=>by
  obtain ⟨⟨j,hj,e⟩,h2⟩:=dv.mp hx;exists h2;rcases Nat.lt_or_ge j k with c|c
  ·exact rG (jt fa e hk c) (l4 x (F5 e)) (l4 u (F5 hk))
  ·have:j=k:=by lia
   subst this;rw[hk] at e;cases e;exact GP _
 exists hu,all;have ne:(b8 U f 224).map uB≠ []:=λe=>by
  have:uB u∈(b8 U f 224).map uB:=FN.mpr (u,hu,rfl);rw[e] at this;cases this
 obtain ⟨mm,ml⟩:=cR ne;obtain ⟨x,hx,ex⟩:=FN.mp mm;exists x,hx;have fx:=(all x hx).1;rcases Int.lt_or_eq_of_le fx with c|c
 ·exfalso;have same:b8 U (uB x) 224=b8 U f (k+1):=by
   unfold b8;apply List.filter_congr;intro y hy;have:decide (uB x<=uB y)=decide (f<=uB y):=by
    by_cases d:f<=uB y
    ·have:y∈b8 U f (k+1):=Gx.mpr (hy,decide_eq_true d);have:=ml _ (FN.mpr (y,this,rfl));rw[<-ex] at this;rw[decide_eq_true d,decide_eq_true this]
    ·rw[decide_eq_false d,decide_eq_false 72]
   exact this
  have xm:x∈U:=by
   obtain ⟨⟨j,_,e⟩,_⟩:=dv.mp hx;exact F5 e
  have:=h.max (uB x) k ⟨(x,xm,rfl),h.cand.lt,by
   rw[aL hk];have:=ml _ (FN.mpr (u,hu,rfl))
   lia⟩
  rw[h.eq] at this;unfold ko tT at this;rw[same] at this
  lia
 ·exact c.symm
theorem mG.uniq {ws:List Int} {tm ts:Int->Int} {U U':List Ky} (h:mG ws tm ts U) (h':mG ws tm ts U'):U=U':=by
 have key:∀{a b:List Ky},iG a->iG b->(∀u,u∈a↔u∈b)->a=b:=λ{a}=>by
  induction a with
  |nil=>
   intro b _ _ hm;cases b with
   |nil=>rfl
   |cons y b=>exact absurd ((hm y).mpr GJ) 82
  |cons x a ih=>
   intro b fa fb hm;cases b with
   |nil=>exact absurd ((hm x).mp GJ) 82
   |cons y b=>
    obtain ⟨fa1,fa2⟩:=Ha.mp fa;obtain ⟨fb1,fb2⟩:=Ha.mp fb;have exy:x=y:=by
     rcases FW.mp ((hm x).mp GJ) with e|e
     ·exact e
     ·rcases FW.mp ((hm y).mpr GJ) with e2|e2
      ·exact e2.symm
      ·have:=jE (fb1 x e);rw[fa1 y e2] at this;cases this
    subst exy
    congr 1
    refine ih fa2 fb2 λu=>?_
    constructor
    ·intro hu;rcases FW.mp ((hm u).mp (FX _ hu)) with e|e
     ·subst e;have:=fa1 u hu;rw[cW] at this;cases this
     ·exact e
    ·intro hu;rcases FW.mp ((hm u).mpr (FX _ hu)) with e|e
     ·subst e;have:=fb1 u hu;rw[cW] at this;cases this
     ·exact e
 exact key h.falls h'.falls λu=>(h.mem u).trans (h'.mem u).symm
noncomputable def dW (T:Tk) (P:Pk) (z:Str):List Int:=(G0 T.length).map λi=>aV T P i z
theorem dO {T:Tk} {P:Pk} {z:Str} {i:Nat} (h:i<T.length):(dW T P z).getD i 0=aV T P i z:=by
 unfold dW;exact aL (by rw[F7,HP h];rfl)
theorem eF {T:Tk} {P:Pk} {z:Str}:(dW T P z).length=T.length:=by unfold dW;rw[F1,GB]
def rH (H:Hp) (v:V) (D:Tl) (T:Tk) (P:Pk) (A:List Rn) (n:Nat) (tm ts:Int->Int):Prop:=
 (v= .non/\∀p∈D,mG (dW T P p.1) tm ts [])∨
 ∃(t:Addr) (z:Str) (lf lb:Addr) (F G:List 173) (total m f:Int) (k:Nat) (U:List Ky),v= .ref t/\H t=some (.tup [.int total,.str z,.ref lf,.ref lb])/\Ap H lf F/\Ap H lb G/\cn D z=some m/\mG (dW T P z) tm ts U/\zb U m total f k/\
  F.length=(db U f k).length/\G.length=(db U f k).length/\(∀(j:Nat) (i:Int),(db U f k)[j]?=some i->∃c b,F[j]?=some c/\G[j]?=some b/\gf A n (2*i) (tm (2*i)) c/\km A n (2*i+1) (ts (2*i+1)) b)/\
  ∀p∈D,∀U',mG (dW T P p.1) tm ts U'->∀f' k',pK U' f' k'->ko U' p.2 f' k'<=total
theorem pM {A:List Rn} {n:Nat} {x t:Int} {c:List Int} (h:gf A n x t c):c≠ []/\gK c=x:=by
 obtain ⟨_,_,l,_⟩:=h;have ne:c≠ []:=λe=>by rw[e] at l;cases l
 exact (ne,by unfold gK;rw[l];rfl)
theorem Av {A:List Rn} {n:Nat} {x t:Int} {c:List Int} (h:km A n x t c):c≠ []/\rn c=x:=by
 obtain ⟨_,_,l,_⟩:=h;have ne:c≠ []:=λe=>by rw[e] at l;cases l
 exact (ne,by unfold rn;rw[l];rfl)
theorem rJ {D:Tl} {T:Tk} {P:Pk} {A:List Rn} {n:Nat} {tm ts:Int->Int} {z:Str} {F G:List 173} {total m f:Int} {k:Nat} {U:List Ky} (hm:cn D z=some m) (uo:mG (dW T P z) tm ts U) (fu:zb U m total f k)
  (lF:F.length=(db U f k).length) (lG:G.length=(db U f k).length) (each:∀(j:Nat) (i:Int),(db U f k)[j]?=some i->∃c b,F[j]?=some c/\G[j]?=some b/\gf A n (2*i) (tm (2*i)) c/\km A n (2*i+1) (ts (2*i+1)) b):
  kj D T P A (n:Int) z F G=some total/\∀c∈F,0<=fi c/\fi c<99/\0<aV T P (fi c).toNat z:=by
 have kl:=fu.cand.lt;have hk:=F0 kl;generalize U[k]=u at hk;have l4:∀u∈U,u≠ []:=λu hu=>by
  obtain ⟨i,_,_,rfl⟩:=(uo.mem u).mp hu;exact List.cons_ne_nil _ _
 obtain ⟨hu,all,x0,hx0,ex0⟩:=tU uo.falls l4 fu hk;have inU:∀x∈b8 U f 224,x∈U:=λx hx=>by
  obtain ⟨⟨j,_,e⟩,_⟩:=dv.mp hx;exact F5 e
 have shape:∀x∈b8 U f 224,∃i:Nat,i<T.length/\0<aV T P i z/\x= [ts 107,tm 114,aV T P i z,(i:Int)]:=λx hx=>by
  obtain ⟨i,h1,h2,h3⟩:=(uo.mem x).mp (inU x hx);rw[eF] at h1;rw[dO h1] at h2 h3;exact (i,h1,h2,h3)
 have jth:∀(j:Nat) (x:Ky),(b8 U f 224)[j]?=some x->∃(i:Nat) (c b:List Int),i<T.length/\0<aV T P i z/\x= [ts 107,tm 114,aV T P i z,(i:Int)]/\F[j]?=some c/\G[j]?=some b/\gf A n 114 (tm 114) c/\km A n 107 (ts 107) b/\fi c=(i:Int):=λj x hj=>by
  obtain ⟨i,h1,h2,rfl⟩:=shape x (F5 hj);obtain ⟨c,b,e1,e2,e3,e4⟩:=each j (i:Int) (by unfold db;rw[F7,hj];rfl)
  exists i,c,b,h1,h2,rfl,e1,e2,e3,e4;unfold fi;rw[(pM e3).2,Int.mul_fdiv_cancel_left _ 73]
 have sl:(db U f k).length=(b8 U f 224).length:=by unfold db;rw[F1]
 have ofF:∀(j:Nat) (c:List Int),F[j]?=some c->∃x,(b8 U f 224)[j]?=some x:=λj c e=>by
  have jl:=(F4.mp e).1;exact (_,F0 72)
 have nF:F≠ []:=λe=>by
  rw[e] at lF;rw[sl] at lF;have:=Gb lF.symm;rw[this] at hu;cases hu
 have nG:G≠ []:=λe=>by
  rw[e] at lG;rw[sl] at lG;have:=Gb lG.symm;rw[this] at hu;cases hu
 have tks:F.map fi=db U f k:=Gw λj=>by
  rw[F7];unfold db;rw[F7];cases e:F[j]? with
  |none=>
   have:F.length<=j:=Hj.mp e;rw[GT 72]
   rfl
  |some c=>
   obtain ⟨x,hx⟩:=ofF j c e;obtain ⟨i,c',b,h1,h2,rfl,e1,_,_,_,e5⟩:=jth j x hx;rw[e] at e1;cases e1;rw[hx];show some (fi c)=some (i:Int);rw[e5]
 have ndU:U.Nodup:=uo.falls.imp λh e=>by
  rw[e,cW] at h;cases h
 have ndK:(b8 U f 224).Nodup:=(ndU.sublist (List.take_sublist _ _)).filter _;have ndS:(db U f k).Nodup:=by
  unfold db;refine (HJ).mpr ?_;refine List.Pairwise.imp_of_mem ?_ ndK;intro a b ha hb ne e;obtain ⟨i,_,_,ea⟩:=shape a ha;obtain ⟨j,_,_,eb⟩:=shape b hb;rw[ea,eb] at e;replace e:(i:Int)=(j:Int):=e;have:i=j:=by lia
  subst this;exact ne (ea.trans eb.symm)
 have zk:gL T.length F G=true:=by
  rw[da];refine (by lia,λj c b hc hb=>?_)
  obtain ⟨x,hx⟩:=ofF j c hc;obtain ⟨i,c',b',h1,h2,_,e1,e2,e3,e4,e5⟩:=jth j x hx;rw[hc] at e1;cases e1;rw[hb] at e2;cases e2;obtain ⟨n1,l1⟩:=pM e3;obtain ⟨n2,l2⟩:=Av e4;unfold fg;rw[l1,l2,e5];simp only[GF,decide_eq_true_eq,Bool.not_eq_true',List.isEmpty_eq_false_iff];exact ((n1,n2),(trivial,by lia,by lia),trivial)
 have tk:cE T.length F G=true:=fR.mpr (nF,zk,by rw[tks];exact ndS)
 have memF:∀c∈F,∃(x:Ky) (i:Nat),x∈b8 U f 224/\i<T.length/\0<aV T P i z/\x= [ts 107,tm 114,aV T P i z,(i:Int)]/\gf A n 114 (tm 114) c/\fi c=(i:Int):=λc hc=>by
  obtain ⟨j,hj⟩:=FR.mp hc;obtain ⟨x,hx⟩:=ofF j c hj;obtain ⟨i,c',b',h1,h2,e0,e1,e2,e3,e4,e5⟩:=jth j x hx;rw[hj] at e1;cases e1;exact (x,i,F5 hx,h1,h2,e0,e3,e5)
 have memG:∀b∈G,∃(x:Ky) (i:Nat),x∈b8 U f 224/\x= [ts 107,tm 114,aV T P i z,(i:Int)]/\km A n 107 (ts 107) b:=λb hb=>by
  obtain ⟨j,hj⟩:=FR.mp hb;have jl:=(F4.mp hj).1;have hx:=F0 (show j<(b8 U f 224).length by lia)
  obtain ⟨i,c',b',h1,h2,e0,e1,e2,e3,e4,e5⟩:=jth j _ hx;rw[hj] at e2;cases e2;exact (_,i,G5 _,e0,e4)
 have lf:cK A (n:Int) F=some f:=by
  have p1:hV (n:Int) F=true:=GC.mpr λc hc=>by
   obtain ⟨x,i,_,_,_,_,h,_⟩:=memF c hc;unfold tJ;exact GC.mpr λp hp=>by
    have:=h.2.1 p hp;rw[decide_eq_true this.1,decide_eq_true this.2]
    rfl
  have p2:mE A F=true:=GC.mpr λc hc=>by
   obtain ⟨x,i,_,_,_,_,h,_⟩:=memF c hc;rw[h.2.2.2]
   rfl
  unfold cK;rw[p1,p2];have:pI A F=f:=by
   refine (eE (l:=F.map λc=>(du A c).getD 0) ?_ λy hy=>?_).symm
   ·obtain ⟨j,hj⟩:=FR.mp hx0;obtain ⟨i,c,b,_,_,e0,e1,_,e3,_⟩:=jth j x0 hj;refine FN.mpr (c,F5 e1,?_);rw[e3.2.2.2];rw[e0] at ex0;exact ex0
   ·obtain ⟨c,hc,rfl⟩:=FN.mp hy;obtain ⟨x,i,hx,_,_,e0,h,_⟩:=memF c hc;rw[h.2.2.2];have:=(all x hx).1;rw[e0] at this;exact this
  rw[this]
  rfl
 have lg:cK A (n:Int) G=some (uT u):=by
  have p1:hV (n:Int) G=true:=GC.mpr λc hc=>by
   obtain ⟨x,i,_,_,h⟩:=memG c hc;unfold tJ;exact GC.mpr λp hp=>by
    have:=h.2.1 p hp;rw[decide_eq_true this.1,decide_eq_true this.2]
    rfl
  have p2:mE A G=true:=GC.mpr λc hc=>by
   obtain ⟨x,i,_,_,h⟩:=memG c hc;rw[h.2.2.2]
   rfl
  unfold cK;rw[p1,p2];have:pI A G=uT u:=by
   refine (eE (l:=G.map λc=>(du A c).getD 0) ?_ λy hy=>?_).symm
   ·obtain ⟨j,hj⟩:=FR.mp hu;obtain ⟨i,c,b,_,_,e0,_,e2,_,e4,_⟩:=jth j u hj;refine FN.mpr (b,F5 e2,?_);rw[e4.2.2.2,e0]
    rfl
   ·obtain ⟨c,hc,rfl⟩:=FN.mp hy;obtain ⟨x,i,hx,e0,h⟩:=memG c hc;rw[h.2.2.2];have:=(all x hx).2;rw[e0] at this;exact this
  rw[this]
  rfl
 have wk:pJ T P z F=tT U f (k+1):=by
  unfold pJ tT
  congr 1
  refine Gw λj=>?_
  rw[F7,F7];cases e:F[j]? with
  |none=>
   have:F.length<=j:=Hj.mp e;rw[GT 72]
   rfl
  |some c=>
   obtain ⟨x,hx⟩:=ofF j c e;obtain ⟨i,c',b,h1,h2,rfl,e1,_,_,_,e5⟩:=jth j x hx;rw[e] at e1;cases e1;rw[hx];show some (aV T P (fi c).toNat z)=some (aV T P i z);rw[e5,FO]
 refine (?_,λc hc=>?_)
 ·unfold kj;rw[if_pos tk,hm];dsimp only;rw[lf,lg,wk,fu.eq];unfold ko;rw[aL hk]
 ·obtain ⟨x,i,_,h1,h2,_,_,e⟩:=memF c hc;rw[e,FO];exact (by lia,by lia,h2)
noncomputable def kN (H:Hp) (v:V):Ky:=match v with
 | .ref a=>match H a with
  |some (.tup xs)=>xs.map fun| .int i=>i|_=>0
  |_=> []
 |_=> []
theorem pN {H:Hp} {a:Addr} {k:Ky} (e:H a=some (.tup (k.map V.int))):kN H 188=k:=by
 unfold kN;simp only[e];rw[G1];exact List.map_id k
def vv:Sp:=λvs H Q _=>∃(lw lt ls:Addr) (ws:List Int) (n:Nat) (tm ts:Int->Int),vs= [.ref lw,.ref lt,.ref ls]/\H lw=some (.lst (ws.map V.int))/\ws.length<=24/\H lt=some 189/\H ls=some (.lst ((lst n ts).map V.int))/\2*ws.length<=n/\
 ∀(l:Addr) (U:List Ky) (H':Hp),aA H H'->H l=none->bx H' l U->U.length<=24->mG ws tm ts U->Q 187 H'
def ze:Sp:=λvs H Q _=>∃(lu:Addr) (m:Int) (U:List Ky),vs= [.ref lu,.int m]/\bx H lu U/\U.length<=24/\iG U/\(∀u∈U,u.length=4)/\1<=m/\m<=8/\
 (U= []->∀H',aA H H'->Q .non H')/\∀(t l:Addr) (total f:Int) (k:Nat) (H':Hp),aA H H'->H' t=some (.tup [.int total,.ref l])->H' l=some (.lst ((db U f k).map V.int))->zb U m total f k->Q 223 H'
def tV (C:Addr):Sp:=λvs H Q _=>∃(x t:Addr),vs= [.ref x,.ref t]/\jp C false H x t λD T A B n P O=>pH O/\A.length+2*T.length+O.length<=700/\rj (2*99+n) (b7 A T P O)/\0<=n/\n<=8/\
 (∀(c:List Int) (H':Hp),aA H H'->qU 213 (2*99+n).toNat c->Q .non H')/\
 ∀(tm ts:Int->Int) (v:V) (H':Hp),aA H H'->cJ 213 tm->(∀x,0<=tm x)->(∀i:Nat,(i:Int)<2*99+n->∃c,gf 213 (2*99+n).toNat i (tm i) c)->cJ (cx 213) ts->(∀x,0<=ts x)->(∀i:Nat,(i:Int)<2*99+n->∃c,km 213 (2*99+n).toNat i (ts i) c)->
  rH H' v D T P 213 (2*99+n).toNat tm ts->Q v H'
theorem zf {U:List Ky} (nd:U.Nodup) (rs:Rs U.reverse):iG U:=by
 unfold Rs at rs;rw[List.pairwise_reverse] at rs;exact (rs.and nd).imp λ{a b} h=>by
  cases c:dC b a with
  |true=>rfl
  |false=>exact absurd (fA h.1 c) h.2
theorem tW {H H':Hp} {p:Addr} {as:IN} {W:List Ky} {ws:List V} (r:cX 125 as W) (ndW:W.Nodup) (pm:ws.Perm (as.map V.ref)) (rs:Rs (ws.map (kN H)).reverse) (ep:H' p=some (.lst ws)) (g:aA H H'):∃U,bx H' p U/\U.Perm W/\iG U:=by
 have eW:(as.map V.ref).map (kN H)=W:=by
  rw[G1];refine Gw λi=>?_
  rw[F7];cases e:as[i]? with
  |none=>
   have:as.length<=i:=Hj.mp e;rw[GT (by rw[<-r.1];exact this)]
   rfl
  |some a=>
   have il:=(F4.mp e).1;have hk:=F0 (show i<W.length by rw[<-r.1];exact il)
   rw[hk];show some (kN H 188)=_;rw[pN (r.2 i a _ e hk)]
 have pU:(ws.map (kN H)).Perm W:=by
  have:=pm.map (kN H);rw[eW] at this;exact this
 obtain ⟨bs,rfl⟩:=ic (ys:=ws) λv hv=>by
  obtain ⟨a,_,rfl⟩:=FN.mp (pm.mem_iff.mp hv);exact (a,rfl)
 refine (_,(bs,ep,by rw[F1,F1],λi b k hb hk=>?_),pU,zf (pU.nodup_iff.mpr ndW) rs)
 rw[F7,F7,hb] at hk;replace hk:some (kN H (.ref b))=some k:=hk;have mb:V.ref b∈as.map V.ref:=pm.mem_iff.mp (FN.mpr (b,F5 hb,rfl));obtain ⟨a,ha,e⟩:=FN.mp mb;cases e;obtain ⟨j,hj⟩:=FR.mp ha;have jl:=(F4.mp hj).1;have hq:=r.2 j b _ hj (F0 (show j<W.length by rw[<-r.1];exact jl))
 rw[pN hq] at hk;cases hk;exact g _ _ hq
noncomputable def vy (ws:List Int) (tm ts:Int->Int) (n:Nat):List Ky:=f9 n (λi=>decide (0<ws.getD i 0)) λi=> [ts 107,tm 114,ws.getD i 0,(i:Int)]
theorem pO {ws:List Int} {tm ts:Int->Int} {n:Nat} {u:Ky}:u∈vy ws tm ts n↔∃i:Nat,i<n/\0<ws.getD i 0/\u= [ts 107,tm 114,ws.getD i 0,(i:Int)]:=by
 unfold vy f9;constructor
 ·intro h;obtain ⟨i,hi,rfl⟩:=FN.mp h;obtain ⟨h1,h2⟩:=Gx.mp hi;exact (i,GE.mp h1,of_decide_eq_true h2,rfl)
 ·rintro ⟨i,h1,h2,rfl⟩;exact FN.mpr (i,Gx.mpr (GE.mpr h1,decide_eq_true h2),rfl)
theorem nY {ws:List Int} {tm ts:Int->Int} {n:Nat}:(vy ws tm ts n).Nodup:=by
 unfold vy f9;refine HJ.mpr ?_;refine (List.nodup_range.filter _).imp λ{i j} ne e=>?_
 injection e with _ e
 injection e with _ e
 injection e with _ e
 injection e with e _
 exact ne 72
def j7 (H:Hp) (v:V) (U:List Ky) (m:Int) (C:Int->Nat->Prop):Prop:=
 (v= .non/\∀f k,¬C f k)∨∃(t tu:Addr) (f:Int) (k:Nat) (u:Ky),v= .ref t/\H t=some (.tup [.int (ko U m f k),.int f,.ref tu])/\U[k]?=some u/\H tu=some (.tup (u.map V.int))/\C f k/\∀f' k',C f' k'->ko U m f' k'<=ko U m f k
theorem j7.congr {H:Hp} {v:V} {U:List Ky} {m:Int} {C C':Int->Nat->Prop} (h:j7 H v U m C) (e:∀f k,C f k↔C' f k):j7 H v U m C':=by
 have:C=C':=by funext f k;exact propext (e f k)
 rw[<-this];exact h
structure nZ (H:Hp) (v:V) (ys:IM) (D:Tl) (T:Tk) (P:Pk) (tm ts:Int->Int):Prop where
 ex:(v= .non/\∀z∈ys,mG (dW T P z) tm ts [])∨∃(t:Addr) (z:Str) (l:Addr) (total m f:Int) (k:Nat) (U:List Ky),v= .ref t/\H t=some (.tup [.int total,.str z,.ref l])/\H l=some (.lst ((db U f k).map V.int))/\cn D z=some m/\mG (dW T P z) tm ts U/\zb U m total f k/\
  ∀z'∈ys,∀m' U',cn D z'=some m'->mG (dW T P z') tm ts U'->∀f' k',pK U' f' k'->ko U' m' f' k'<=total
theorem nZ.same {H H':Hp} {v:V} {ys:IM} {D:Tl} {T:Tk} {P:Pk} {tm ts:Int->Int} (h:nZ H v ys D T P tm ts) (g:aA H H'):nZ H' v ys D T P tm ts:=by
 rcases h.ex with h|⟨t,z,l,total,m,f,k,U,e,e1,e2,q⟩
 ·exact ⟨.inl h⟩
 ·exact ⟨.inr (t,z,l,total,m,f,k,U,e,g _ _ e1,g _ _ e2,q)⟩
theorem n4 {f:Int} {k:Nat} (h:pK [] f k):False:=absurd h.lt (Gz _)
theorem vz {D:Tl} (nd:(D.map 166).Nodup) {p:Str×Int} (h:p∈D):cn D p.1=some p.2:=by
 induction D with
 |nil=>cases h
 |cons d D ih=>
  rw[GL,Gc] at nd;rw[ca];rcases FW.mp h with rfl|w
  ·rw[if_pos rfl]
  ·have:d.1≠p.1:=λe=>nd.1 (by rw[e];exact FN.mpr (p,w,rfl))
   rw[if_neg this];exact ih nd.2 w
theorem uq {α:Type} [Inhabited α] {as:IN} {R:Nat->Addr->α->Prop} (h:∀(i:Nat) (l:Addr),as[i]?=some l->∃c,R i l c):∃f:Nat->α,∀(i:Nat) (l:Addr),as[i]?=some l->R i l (f i):=by
 refine (λi=> @Classical.epsilon α ⟨default⟩ (λc=>∀l,as[i]?=some l->R i l c),λi l e=>?_)
 obtain ⟨c,hc⟩:=h i l e;exact @Classical.epsilon_spec α (λc=>∀l,as[i]?=some l->R i l c) (c,λl' e'=>by rw[e] at e';cases e';exact hc) l e
theorem zg {N:Int} {A:List Ky} {n:Nat} (e:(n:Int)=N) (h:rj N A):w6 n (A.map j5):=λa ha=>by
 obtain ⟨k,hk,rfl⟩:=FN.mp ha;obtain ⟨p,q,g,rfl,h1,h2,h3,h4⟩:=h.2 k hk;rw[e];exact (h1,h2,h3,h4)
theorem Aw {ws:List Int} {tm ts:Int->Int} {U:List Ky} {f:Int} {k j:Nat} {i:Int} (uo:mG ws tm ts U) (h:(db U f k)[j]?=some i):0<=i/\i<(ws.length:Int):=by
 unfold db at h;rw[F7] at h;obtain ⟨u,hu,rfl⟩:=FT.mp h;obtain ⟨⟨j',_,e⟩,_⟩:=dv.mp (F5 hu);obtain ⟨i,h1,_,rfl⟩:=(uo.mem u).mp (F5 e);show 0<=(i:Int)/\(i:Int)<_
 lia
noncomputable def kI (S:List Int) (x:Int):Int:=S.getD x.toNat 0
theorem getD_mem {S:List Int} {i:Nat} (h:i<S.length):S.getD i 0∈S:=by
 rw[aL (F0 h)];exact G5 h
theorem rK {f:Int} {n0 n1:Str} {m0 m1:Int} {hs1 hs2:List Int} {T:Tk} {R:List Rn} {M:List Int} (h:fQ f n0 n1 m0 m1 hs1 hs2 T R M) {z:Str} (nn:∀i,i<R.length->0<=bX (dB T R i) z) {m:Int} (hm:cn [206,(n1,m1)] z=some m) (t:Int):0<m/\cM T R z t R.length<=m:=by
 have hz:(z=n0/\m=m0)∨(z=n1/\m=m1):=by
  rw[ca] at hm
  by_cases c:n0=z
  ·rw[if_pos c] at hm;exact .inl (c.symm,(GZ hm).symm)
  ·rw[if_neg c,ca] at hm
   by_cases d:n1=z
   ·rw[if_pos d] at hm;exact .inr (d.symm,(GZ hm).symm)
   ·rw[if_neg d] at hm;cases hm
 have m1':1<=m:=by
  rcases hz with ⟨_,e⟩|⟨_,e⟩
  ·rw[e];exact h.tools.r0.1
  ·rw[e];exact h.tools.r1.1
 exists by lia
 rcases iR (t:=t) nn R.length (F8 _) with k|⟨t0,⟨r,hr,e⟩,h2,h3⟩
 ·lia
 ·have le:=uP nn h2 R.length 160 h3;have:cM T R z t0 R.length<=m:=by
   rcases hz with ⟨e1,e2⟩|⟨e1,e2⟩
   ·rw[e1,e2,<-e];exact h.tools.u0 r hr
   ·rw[e1,e2,<-e];exact h.tools.u1 r hr
  lia
theorem tX {f:Int} {n0 n1:Str} {m0 m1:Int} {hs1 hs2:List Int} {T:Tk} {R:List Rn} {M:List Int} {A:List Ky} {P:Pk} {ps:List (Int×Int)} (h:fQ f n0 n1 m0 m1 hs1 hs2 T R M) (cb:hJ R P ps) (hA:∀k∈A,jY 162 k/\q9 (bI R M) k) {L:Int} (hL:∀t∈bI R M,t<=L) (z:Str):
  Dh [206,(n1,m1)] T P ((b7 A T P (cU ps)).map j5) 162 R (kI (bI R M)) L z:=by
 have f1:1<=f:=by rcases h.far with e|e<;>lia
 have many:∀i,i<R.length->0<=bX (dB T R i) z:=λi il=>by
  have us:=(h.mine il).2.2;cases e:yG (dB T R i) z with
  |none=>rw[gY e];lia
  |some u=>
   rw[gZ e];have:=(us.use u (oZ e).1).2.1
   lia
 refine (λa ha=>?_,λx=>?_,λx x0 x1=>?_,h.len.symm,λi il=>?_,λi il=>?_,many,λm hm=>((rK h many hm 0).1,λt=>(rK h many hm t).2),λi il=>?_)
 ·obtain ⟨k,hk,rfl⟩:=FN.mp ha;obtain ⟨p,q,g,rfl,_,_,_,_,le⟩:=tN h cb hA k hk;exact le
 ·unfold kI
  by_cases c:x.toNat<(bI R M).length
  ·exact (h.spots _ (getD_mem c)).1
  ·rw[G9,GT 72]
   exact GP _
 ·exact hL _ (getD_mem 72)
 ·have hr:=F0 il;obtain ⟨a,b⟩:=lU M R i _ hr;unfold kI;rw[show (2*(i:Int)).toNat=2*i by lia,show (2*(i:Int)+1).toNat=2*i+1 by lia,aL a,aL b,aL hr]
  exact 199
 ·have hr:=F0 il;rw[aL hr];have:=(h.runs _ (G5 il)).2.2.1
  lia
 ·have hr:=F0 il;have op:=hJ.open h cb.len cb.pick il;have wl:=Am (z:=z) op;have lg:=(h.mine il).1;rw[aL hr];have m0:=many i il;have:=Int.mul_le_mul_of_nonneg_right lg m0;rw[Int.mul_comm (bX (dB T R i) z)];exact HS wl this
theorem BC {ws:List Int} {tm ts:Int->Int} (h:mG ws tm ts []) {i:Nat} (il:i<ws.length):¬0<ws.getD i 0:=λc=>by
 have:=(h.mem [ts 107,tm 114,ws.getD i 0,(i:Int)]).mpr (i,il,c,rfl);cases this
theorem n6 {D:Tl} {T:Tk} {P:Pk} {A:List Rn} {N:Int} {z:Str} {F G:List 173} {v:Int} (h:kj D T P A N z F G=some v):cE T.length F G=true:=by
 unfold kj at h
 by_cases c:cE T.length F G=true
 ·exact c
 ·rw[if_neg c] at h;cases h
def FJ (p:Int->List Int->Prop):RA Int:=λP H v i=>∃f,p i f/\yY P H v f
instance (p:Int->List Int->Prop):Mv (FJ p) where
 mv:=λg ⟨f,pf,r⟩=>⟨f,pf,Mv.mv g r⟩
theorem zh {S:List Int} {x:Int} (x0:0<=x) (x1:x<101):fV (S.map V.int) x=some (.int (kI S x)):=by
 have h:=F0 (show x.toNat<S.length by lia)
 have:=bV (cu (f:=V.int) h);rw[show ((x.toNat:Nat):Int)=x by lia] at this
 unfold kI;rw[aL h];exact this
theorem zj (S:List Int):∃L,∀t∈S,t<=L:=by
 induction S with
 |nil=>exact ⟨0,nofun⟩
 |cons a S ih=>
  obtain ⟨L,h⟩:=ih;refine (max a L,λt ht=>?_)
  rcases FW.mp ht with e|e
  ·rw[e];exact Int.le_max_left _ _
  ·exact HS (h t e) (Int.le_max_right _ _)
theorem Di {A:List Rn} {tm dm:Int->Int} {ah:Int->Option Int} {ag:Int->Int} (h:BF A tm ah ag) (kd:cJ A dm) {x y:Int} {k:Nat} {s:Int} (w:fM ah ag x k y s):s<=dm x-dm y:=by
 induction w with
 |nil x=>lia
 |cons e w ih=>
  have:=kd _ (h.arc _ _ e).1;dsimp only at this
  lia
theorem rL {A:List Rn} {n:Nat} {tm dm:Int->Int} {ah:Int->Option Int} {ag:Int->Int} {pn:Int->Nat} (h:BF A tm ah ag) (ps:PS A (n+1) 0 tm ah pn) (ir:w6 n A) (kd:cJ A dm):cJ A tm:=λa ha=>by
 obtain ⟨j,hj⟩:=FR.mp ha
 by_cases c:tm a.1+a.2.2>tm a.2.1
 ·have v:=(ps.vio j a hj c).2;obtain ⟨p0,p1,_⟩:=ir a ha;obtain ⟨y,s,w,_⟩:=ps.back ag (q:=a.1) n 72
  obtain ⟨d,s',d0,_,w'⟩:=qS (λx z e=>h.inR ir e) ⟨p0,p1⟩ w
  have:=h.cyc _ _ _ w' d0;have:=Di h kd w'
  lia
 ·lia
theorem mH {A:List Rn} {n:Nat} {dm:Int->Int} (kd:cJ A dm) (d0:∀x,0<=dm x) {x t:Int} {c:List Int} (h:gf A n x t c):t<=dm x:=by
 obtain ⟨_,_,l,e⟩:=h;have ne:c≠ []:=λz=>by rw[z] at l;cases l
 have cl:=List.length_pos_iff.mpr ne;have hh:=F0 cl;have hx:c[c.length-1]?=some x:=by rw[<-List.getLast?_eq_getElem?];exact l
 have:=tP kd hh (i:=c.length-1) (t:=t) (x:=x) e hx;have:=d0 (c[0]'cl)
 lia
theorem n9 {A:List Rn} {n:Nat} {tm tE:Int->Int} (kp:cJ A tm) (nn:∀x,0<=tm x) (ls:∀t':Int->Int,cJ A t'->(∀x,0<=t' x)->∀x,tm x<=t' x)
  (kE:cJ A tE) (nE:∀x,0<=tE x) {x:Int} (ch:∃c,gf A n x (tE x) c):tm x=tE x:=by
 obtain ⟨c,hc⟩:=ch;have:=ls tE kE nE x;have:=mH kp nn hc
 lia
theorem tY {A:List Rn} {n:Nat} {tm tE:Int->Int} (kp:cJ (cx A) tm) (nn:∀x,0<=tm x) (ls:∀t':Int->Int,cJ (cx A) t'->(∀x,0<=t' x)->∀x,tm x<=t' x)
  (kE:cJ (cx A) tE) (nE:∀x,0<=tE x) {x:Int} (ch:∃c,km A n x (tE x) c):tm x=tE x:=by
 obtain ⟨c,h1,h2,h3,h4⟩:=ch;have hc:gf (cx A) n x (tE x) c.reverse:=⟨gc h1,λz hz=>h2 z (HY.mp hz),by rw[List.getLast?_reverse];exact h3,by
  rw[<-jr,List.reverse_reverse];exact h4⟩
 exact n9 kp nn ls kE nE (_,hc)
noncomputable def bY (w:Nat->Int):Nat->List 173
 |0=> [[]]
 |i+1=>if 0<w i then bY w i++(bY w i).map (· ++ [(i:Int)]) else bY w i
theorem j8 {w:Nat->Int} {p:Nat->Bool} (hp:∀i,p i=true->0<w i):∀n,((G0 n).filter p).map (λi:Nat=>(i:Int))∈bY w n
 |0=>by simp[bY]
 |n+1=>by
  have ih:=j8 hp n;rw[List.range_succ,List.filter_append,G8];unfold bY
  by_cases c:p n=true
  ·rw[if_pos (hp n c)];refine FY _ (FN.mpr (_,ih,?_));rw[List.filter_cons_of_pos c]
   rfl
  ·have:List.filter p [n]= []:=List.filter_cons_of_neg c;rw[this,List.map_nil,Gn]
   by_cases d:0<w n
   ·rw[if_pos d];exact GW _ ih
   ·rw[if_neg d];exact ih
theorem fT {w:Nat->Int}:∀{n:Nat} {S:List Int},S∈bY w n->S.Nodup/\∀x∈S,∃i:Nat,x=(i:Int)/\i<n/\0<w i
 |0,S,h=>by
  rw[FM.mp h];exact (List.nodup_nil,λx hx=>by cases hx)
 |n+1,S,h=>by
  unfold bY at h;have old:S∈bY w n->S.Nodup/\∀x∈S,∃i:Nat,x=(i:Int)/\i<n+1/\0<w i:=λh=>by
   obtain ⟨a,b⟩:=fT h;exact ⟨a,λx hx=>by
    obtain ⟨i,e,l,z⟩:=b x hx;exact (i,e,by lia,z)⟩
  by_cases d:0<w n
  ·rw[if_pos d] at h;rcases FS.mp h with h|h
   ·exact old h
   ·obtain ⟨S',h',rfl⟩:=FN.mp h;obtain ⟨a,b⟩:=fT h';refine (?_,λx hx=>?_)
    ·refine List.nodup_append.mpr (a,by simp,λx hx y hy z=>?_)
     obtain ⟨i,e,l,_⟩:=b x hx;have:=FM.mp hy
     lia
    ·rcases FS.mp hx with hx|hx
     ·obtain ⟨i,e,l,z⟩:=b x hx;exact (i,e,by lia,z)
     ·exact (n,FM.mp hx,Gs n,d)
  ·rw[if_neg d] at h;exact old h
theorem ju {w:Nat->Int}:∀n,1<=(bY w n).length/\(bY w n).length<=2^n
 |0=>⟨F8 _,F8 _⟩
 |n+1=>by
  have ⟨a,b⟩:=ju (w:=w) n;have:2^(n+1)=2^n+2^n:=by rw[Nat.pow_succ];lia
  unfold bY
  split
  ·rw[FP,F1];lia
  ·lia
theorem oa {w:Nat->Int}:∀n,∃L,bY w n= []::L/\∀S∈L,S≠ []
 |0=>⟨[],rfl,λS h=>by cases h⟩
 |n+1=>by
  obtain ⟨L,e,h⟩:=oa (w:=w) n;unfold bY
  split
  ·refine (L++(([]:List Int)::L).map (· ++ [(n:Int)]),by rw[e];rfl,λS hS=>?_)
   rcases FS.mp hS with hS|hS
   ·exact h S hS
   ·obtain ⟨S',_,rfl⟩:=FN.mp hS;simp
  ·exact (L,e,h)
noncomputable def fK (w tm ts:Int->Int) (m:Int) (S:List Int):Int:=dU (S.map λi=>tm (2*i))+dU (S.map λi=>ts (2*i+1))-(-((S.map w).sum)).fdiv m
theorem zn {α:Type} {g:α->Int}:∀{K:List α},(∀x∈K,0<=g x)->0<=(K.map g).sum
 | [],_=>GP _
 |a::K,h0=>by
  rw[GL,Gm];have:=h0 a GJ;have:=zn (K:=K) (λx h=>h0 x (FX _ h))
  lia
theorem kJ {α:Type} [BEq α] [LawfulBEq α] {g:α->Int}:∀{L K:List α},L.Nodup->(∀x∈L,x∈K)->(∀x∈K,0<=g x)->(L.map g).sum<=(K.map g).sum
 | [],K,_,_,h0=>zn h0
 |a::L,K,nd,h,h0=>by
  have ha:=h a GJ;have pm:=List.perm_cons_erase ha;obtain ⟨na,nd⟩:=Gc.mp nd;have ih:=kJ (g:=g) (K:=K.erase a) nd (λx hx=>by
   have:x∈a::K.erase a:=pm.mem_iff.mp (h x (FX _ hx));rcases FW.mp this with e|e
   ·subst e;exact absurd hx na
   ·exact e) (λx hx=>h0 x (List.mem_of_mem_erase hx))
  rw[y3 (pm.map g),GL,GL,Gm,Gm]
  lia
theorem jR {a b m:Int} (h:a<=b) (hm:1<=m):(-b).fdiv m<=(-a).fdiv m:=by
 rw[Hg _ 72,Hg _ 72]
 exact Int.ediv_le_ediv 72 72
theorem vA {P:Nat->Prop}:∀{n:Nat},(∃k,k<n/\P k)->∃k,k<n/\P k/\∀j,j<n->P j->j<=k
 |0,⟨_,h,_⟩=>absurd h (Gz _)
 |n+1,⟨k,hk,pk⟩=>by
  by_cases c:P n
  ·exact (n,Gs n,c,λj h _=>by lia)
  ·have kn:k<n:=by
    rcases Nat.lt_or_eq_of_le (Nat.le_of_lt_succ hk) with h|h
    ·exact h
    ·subst h;exact absurd pk c
   obtain ⟨j,h1,h2,h3⟩:=vA ⟨k,kn,pk⟩;refine (j,by lia,h2,λi hi pi=>?_)
   rcases Nat.lt_or_eq_of_le (Nat.le_of_lt_succ hi) with h|h
   ·exact h3 i h pi
   ·subst h;exact absurd pi c
variable {ws:List Int} {tm ts:Int->Int} {U:List Ky}
noncomputable def tZ (ws:List Int) (tm ts:Int->Int) (i:Int):Ky:= [ts (2*i+1),tm (2*i),ws.getD i.toNat 0,i]
theorem Ax {i j:Int} (h:tZ ws tm ts i=tZ ws tm ts j):i=j:=by
 unfold tZ at h;injection h with _ h
 injection h with _ h
 injection h with _ h
 injection h
theorem mG.usr (h:mG ws tm ts U) {i:Nat} (l:i<ws.length) (p:0<ws.getD i 0):Sw.tZ ws tm ts (i:Int)∈U:=(h.mem _).mpr (i,l,p,rfl)
theorem mG.ne (h:mG ws tm ts U):∀u∈U,u≠ []:=λu hu=>by
 obtain ⟨i,_,_,rfl⟩:=(h.mem u).mp hu;exact List.cons_ne_nil _ _
theorem rM (h:mG ws tm ts U) {m:Int} (m1:1<=m) {S:List Int} (ne:S≠ []) (nd:S.Nodup) (hS:∀x∈S,∃i:Nat,x=(i:Int)/\i<ws.length/\0<ws.getD i 0):
  ∃f k,pK U f k/\fK (λi=>ws.getD i.toNat 0) tm ts m S<=ko U m f k:=by
 have inU:∀x∈S,Sw.tZ ws tm ts x∈U:=λx hx=>by
  obtain ⟨i,rfl,l,p⟩:=hS x hx;exact h.usr l p
 have neB:S.map (λi=>tm (2*i))≠ []:=λe=>ne (Gg.mp e)
 have neT:S.map (λi=>ts (2*i+1))≠ []:=λe=>ne (Gg.mp e)
 obtain ⟨fm,fl⟩:=cR neB;obtain ⟨i0,hi0,e0⟩:=FN.mp fm;obtain ⟨x1,hx1⟩:=List.exists_mem_of_ne_nil _ ne;obtain ⟨k1,hk1⟩:=FR.mp (inU x1 hx1);obtain ⟨k,kl,⟨x,hx,hk⟩,last⟩:=vA (P:=λk=>∃x∈S,U[k]?=some (Sw.tZ ws tm ts x)) ⟨k1,(F4.mp hk1).1,x1,hx1,hk1⟩
 exists dU (S.map λi=>tm (2*i)),k,((_,inU i0 hi0,e0),kl,?_)
 ·rw[aL hk];exact fl _ (FN.mpr (x,hx,rfl))
 ·have tl:=(cR neT).2 _ (FN.mpr (x,hx,rfl));have sm:(S.map λi=>ws.getD i.toNat 0).sum<=tT U (dU (S.map λi=>tm (2*i))) (k+1):=by
   have:=kJ (g:=uW) (L:=S.map (Sw.tZ ws tm ts)) (K:=b8 U (dU (S.map λi=>tm (2*i))) 224) ?_ ?_ ?_
   ·rw[G1] at this;exact this
   ·exact HJ.mpr (nd.imp λne e=>ne (Ax e))
   ·intro u hu;obtain ⟨y,hy,rfl⟩:=FN.mp hu;obtain ⟨j,hj⟩:=FR.mp (inU y hy);have:=last j (F4.mp hj).1 (y,hy,hj);exact dv.mpr ((j,by lia,hj),fl _ (FN.mpr (y,hy,rfl)))
   ·intro u hu;obtain ⟨⟨j,_,hj⟩,_⟩:=dv.mp hu;obtain ⟨i,_,p,rfl⟩:=(h.mem u).mp (F5 hj);exact Int.le_of_lt p
  have:=jR sm m1;unfold fK ko;rw[aL hk];have:uT (Sw.tZ ws tm ts x)=ts (2*x+1):=rfl
  lia
theorem rN (h:mG ws tm ts U) {m:Int} (m1:1<=m) {f:Int} {k:Nat} (c:pK U f k):
  ∃S,S∈bY (λi=>ws.getD i 0) ws.length/\S≠ []/\ko U m f k<=fK (λi=>ws.getD i.toNat 0) tm ts m S:=by
 have hk:=F0 c.lt;have ge:=c.ge;rw[aL hk] at ge;have fst:∀x∈b8 U f 224,f<=uB x/\uT (U[k]'c.lt)<=uT x:=λx hx=>by
  obtain ⟨⟨j,hj,e⟩,h2⟩:=dv.mp hx;exists h2;rcases Nat.lt_or_ge j k with c'|c'
  ·exact rG (jt h.falls e hk c') (h.ne x (F5 e)) (h.ne _ (F5 hk))
  ·have:j=k:=by lia
   subst this;rw[hk] at e;cases e;exact GP _
 have mS:∀x,x∈((G0 ws.length).filter λi=>decide (0<ws.getD i 0)&&decide (Sw.tZ ws tm ts (i:Int)∈b8 U f 224)).map (λi:Nat=>(i:Int))↔∃i:Nat,i<ws.length/\0<ws.getD i 0/\Sw.tZ ws tm ts (i:Int)∈b8 U f 224/\(i:Int)=x:=λx=>by
  rw[FN];constructor
  ·rintro ⟨i,hi,rfl⟩;obtain ⟨h1,h2⟩:=Gx.mp hi;rw[GF,decide_eq_true_eq,decide_eq_true_eq] at h2;exact (i,GE.mp h1,h2.1,h2.2,rfl)
  ·rintro ⟨i,h1,h2,h3,rfl⟩;exact (i,Gx.mpr (GE.mpr h1,by rw[GF,decide_eq_true_eq,decide_eq_true_eq];exact (h2,h3)),rfl)
 have all:∀u∈b8 U f 224,∃i:Nat,i<ws.length/\0<ws.getD i 0/\u=Sw.tZ ws tm ts (i:Int):=λu hu=>by
  obtain ⟨⟨j,_,e⟩,_⟩:=dv.mp hu;exact (h.mem u).mp (F5 e)
 have hu:U[k]'c.lt∈b8 U f (k+1):=dv.mpr ((k,Gs k,hk),ge);have mem:=j8 (w:=λi=>ws.getD i 0) (p:=λi=>decide (0<ws.getD i 0)&&decide (Sw.tZ ws tm ts (i:Int)∈b8 U f 224)) (λi hi=>by
  rw[GF,decide_eq_true_eq] at hi;exact hi.1) ws.length
 generalize ((G0 ws.length).filter λi=>decide (0<ws.getD i 0)&&decide (Sw.tZ ws tm ts (i:Int)∈b8 U f 224)).map (λi:Nat=>(i:Int))=S at mS mem
 obtain ⟨ik,a1,a2,a3⟩:=all _ hu;have ne:S≠ []:=λe=>by
  have:=(mS ik).mpr (ik,a1,a2,a3▸hu,rfl);rw[e] at this;cases this
 exists S,mem,ne;have bm:=(cR (l:=S.map λi=>tm (2*i)) λe=>ne (Gg.mp e)).1
 have tmm:=(cR (l:=S.map λi=>ts (2*i+1)) λe=>ne (Gg.mp e)).1
 obtain ⟨x,hx,ex⟩:=FN.mp bm;obtain ⟨y,hy,ey⟩:=FN.mp tmm;obtain ⟨i,_,_,i3,rfl⟩:=(mS x).mp hx;obtain ⟨j,_,_,j3,rfl⟩:=(mS y).mp hy;have b1:f<=tm (2*(i:Int)):=(fst _ i3).1;have t1:uT (U[k]'c.lt)<=ts (2*(j:Int)+1):=(fst _ j3).2;have sm:tT U f 224<=(S.map λi=>ws.getD i.toNat 0).sum:=by
  have nd:(b8 U f 224).Nodup:=by
   unfold b8;refine List.Pairwise.filter _ (List.Pairwise.sublist (List.take_sublist _ _) ?_);exact h.falls.imp λ{a b} l e=>by
    rw[e,cW] at l;cases l
  have:=kJ (g:=uW) (L:=b8 U f 224) (K:=S.map (Sw.tZ ws tm ts)) nd (λu hu=>by
   obtain ⟨i,a1,a2,rfl⟩:=all u hu;exact FN.mpr (_,(mS _).mpr (i,a1,a2,hu,rfl),rfl)) (λu hu=>by
   obtain ⟨z,hz,rfl⟩:=FN.mp hu;obtain ⟨i,_,p,_,rfl⟩:=(mS z).mp hz;exact Int.le_of_lt p)
  rw[G1] at this;exact this
 have:=jR sm m1;unfold fK ko;rw[aL hk,<-ex,<-ey]
 lia
end Sw
namespace L2
open PySem PySem.Spec PyProof.Rows XH Sw
section
variable {prog:Program} {w:World} {A:Around} {R:Result->Shared->Prop} {I:Addr} {fp wr:IN} {n:Nat} {P:Nat->Value->Prop} {St:Nat->Heap->Prop}
noncomputable def EU:IR->Array Value
 |none=> #[]
 |some v=> #[v,v]
end
section
variable {prog:Program} {w:World} {A:Around} {R:Result->Shared->Prop} {I:Addr} {fp wr:IN} {n:Nat} {P:Nat->Value->Prop} {St:Nat->Heap->Prop}
def EV (num:Nat->Int) (P:Nat->Value->Prop) (j:Nat) (o:IR):Prop:=(j=0/\o=none)∨∃v i,o=some v/\i<j/\P i v/\∀i',i'<j->num i'<=num i
theorem zo (W:Walks prog w A.in1 I fp wr n P St) (num:Nat->Int) (hcmp:CmpOf prog w A.in1 .Gt P λi j=>decide (num i>num j)) (S:Addr) (sf:S∉fp) (d:Value):
  ∀(k j:Nat) (s:Shared) (o:IR) (c:Nat),n-j=k->j<=n->St j s.heap->EV num P j o->s.heap.get? S=some {cls:= .type "list",dict:=none,data:= .seq (EU o) c,slots:= #[]}->
  (∀v h' tk,((n=0/\v=d)∨∃i,i<n/\P i v/\∀i',i'<n->num i'<=num i)->(∀b x,b∉wr->b≠S->s.heap.get? b=some x->h'.get? b=some x)->R (.ok (.ret v)) 152)->
  codeAny 79 A (.builtin "max.loop" ⟨[.ref I,.none,.ref S],[("default",d)]⟩) R s:=by
 have sw:S∉wr:=λh=>sf (W.sub _ h)
 have nm:(toString "max" ++toString ".loop" :String)= "max.loop" :=by decide
 intro k
 induction k with
 |zero=>
  intro j s o c hk hj st bo hS q;obtain rfl:j=n:=by lia
  refine codeAny_builtin PySem.F.entry_max_loop (?_);rw[Around.under_plainId HN _];show wpAny _ A.in1 (seqItems? (.ref S)>>=_) _ _ s;refine wpAny_bind (wpAny_seqItems hS rfl (?_));show wpAny _ A.in1 (tryCatch (pyNext 215) _>>=_) _ _ s;refine wpAny_bind (wpAny_tryCatch (W.done s _ _ st λh' tk hk'=>?_))
  have hS':=hk' S _ sw hS;rcases bo with ⟨j0,rfl⟩|⟨v,i,rfl,il,pv,le⟩
  ·exact wpAny_bind (wpAny_rule (wpAny_pure (q d _ tk (.inl (j0,rfl)) λb x hw _ e=>hk' b x hw e)))
  ·show wpAny _ A.in1 (updateSeq S (λ_=> #[])>>=_) _ _ _;refine wpAny_bind (wpAny_updateSeq hS' rfl (wpAny_bind (wpAny_letGo 126)) (hz:=by show 2<=sizeLine;rw[sizeLine_eq];lia))
   exact q v _ tk (.inr (i,il,pv,le)) λb x hw hs e=>(Heap.get?_update_other _ _ (λz=>hs z.symm)).trans (hk' b x hw e)
 |succ k ih=>
  intro j s o c hk hj st bo hS q;have jl:j<n:=by lia
  refine codeAny_builtin PySem.F.entry_max_loop (?_);rw[Around.under_plainId HN _];show wpAny _ A.in1 (seqItems? (.ref S)>>=_) _ _ s;refine wpAny_bind (wpAny_seqItems hS rfl (?_));show wpAny _ A.in1 (tryCatch (pyNext 215) _>>=_) _ _ s;refine wpAny_bind (wpAny_tryCatch (W.item j s _ _ jl st λv h' tk pv st' hk'=>?_))
  have hS':=hk' S _ sw hS;have other:∀{h:Heap} {f:Obj->Obj} {b:Addr} {x:Obj},b≠S->h.get? b=some x->(h.update S f).get? b=some x:=λhb e=>(Heap.get?_update_other _ _ (λz=>hb z.symm)).trans e
  have fS:∀b∈fp,b≠S:=λb hb z=>sf (by rw[<-z];exact hb)
  rcases bo with ⟨j0,rfl⟩|⟨vb,i,rfl,il,pb,le⟩
  ·show wpAny _ A.in1 (updateSeq S (λ_=> #[v,v])>>=_) _ _ _;refine wpAny_bind (wpAny_updateSeq hS' rfl ?_)
   rw[nm];refine wpAny_pure (plainId_quiet HN _,ih (j+1) _ (some v) _ 72 jl (W.frame _ _ _ st' λb hb x e=>other (fS b hb) e) (.inr (v,j,rfl,by lia,pv,λi' hi'=>?_)) (Heap.get?_update_self _ hS' rfl) λv' h2 t2 pr kp=>q v' h2 t2 pr λb x hw hs e=>kp b x hw hs (other hs (hk' b x hw e)))
   obtain rfl:i'=j:=by lia
   exact GP _
  ·show wpAny _ A.in1 (tryCatch (holding [v,v] (richCompare .Gt v vb>>=_)) _>>=_) _ _ _;refine wpAny_bind (wpAny_tryCatch (wpAny_holding (wpAny_bind (hcmp j i v vb _ _ _ pv pb ?_))));refine wpAny_bind (wpAny_holding (wpAny_truthy_bool (wpAny_bind (wpAny_letGo 126))))
   by_cases hb:num j>num i
   ·have he:decide (num j>num i)=true:=decide_eq_true hb;simp only[he,if_true];refine wpAny_bind (wpAny_updateSeq hS' rfl (wpAny_bind (wpAny_letGo ?_)) (hz:=by show 2<=sizeLine;rw[sizeLine_eq];lia))
    rw[nm];refine wpAny_pure (plainId_quiet HN _,ih (j+1) _ (some v) _ 72 jl (W.frame _ _ _ st' λb hb x e=>other (fS b hb) e) (.inr (v,j,rfl,by lia,pv,λi' hi'=>?_)) (Heap.get?_update_self _ hS' rfl) λv' h2 t2 pr kp=>q v' h2 t2 pr λb x hw hs e=>kp b x hw hs (other hs (hk' b x hw e)))
    by_cases c2:i'=j
    ·rw[c2];exact GP _
    ·have:=le i' 72;lia
   ·have he:decide (num j>num i)=false:=decide_eq_false hb;simp only[he,GY,if_false];refine wpAny_bind (wpAny_letGo ?_);rw[nm];refine wpAny_pure (plainId_quiet HN _,ih (j+1) _ (some vb) c 72 jl st' (.inr (vb,i,rfl,by lia,pb,λi' hi'=>?_)) hS' λv' h2 t2 pr kp=>q v' h2 t2 pr λb x hw hs e=>kp b x hw hs (hk' b x hw e))
    by_cases c2:i'=j
    ·rw[c2];lia
    ·exact le i' 72
end
theorem xt (a d:Value):argsOk "max" ⟨[a],[(Str.ofString "default",d)]⟩:=by unfold argsOk;kernel_rfl
def Dj (K:F6) (te:TE):TE:=λσ H Q=>te σ H λx H1=>∃(a:Addr) (ns:List Int),x= .ref a/\aE K H1 a 135/\((ns= []/\Q .non H1)∨(ns≠ []/\∀M:Int,M∈ns->(∀z∈ns,z<=M)->Q (.int M) H1))
theorem Ay {X:Cx} {e:Expr} {te:TE} {p1 pos kp cp:Pos} {cj:Nat} (hc:X.calm=true) (g1:Gl X "max") (m1:X.mg "max" =none) (b1:bootBuiltins "max" =some (.builtin "max")) (he:PE X e te)
  (hs:starEach [e] X.env= [202]:=by rfl):PE X (.Call (.Name "max" p1) [e] [⟨some "default",.Constant .none cj cp,kp⟩] pos) (Dj X.K te):=by
 sleep 12
 have hb:backTo pos (starEach [e] X.env)= [202]:=by rw[hs];rfl
 rw[hb];refine callWith_builtin_kwB rfl rfl (evalArgs_kwB rfl ?_);refine Calls.spliced_cons (x:=eval e X.env) (rest:= []) (bW (he pins s σ H _ I h) λv s1 (x,H1,I1,r1,a,ns,ex,hl,q)=>?_)
 subst ex;cases r1;refine Calls.spliced_nil (kws_cons (Constant_none (kws_nil ?_)));obtain ⟨its,rv,p,hz⟩:=I1.list hl;have hi:=jc rv;obtain ⟨xs,ei⟩:=hi.allInts.items;have lst:xs.toList.map 166=ns:=by
  rw[<-hi.numsOf,<-nums_intItems xs,<-ei]
 have len:ns.length=xs.size:=by rw[<-lst,F1,FZ]
 have pl:=p.isList;rw[ei] at pl;have hh:X.A.in1.handled=none:=I1.ok.hd hc;refine kmk_tree PySem.F.kind_max PySem.F.plain_max PySem.F.entry_max (xt _ _) ?_;show wpAny _ X.A.in1 (Builtin.Builtins.bindParams "max" ["key","default"] 0 ⟨[],[(Str.ofString "default",Value.none)]⟩>>=_) _ _ s1;refine wpAny_bind (wpAny_of_eq (show Builtin.Builtins.bindParams "max" ["key","default"] 0 ([],[(Str.ofString "default",Value.none)])=pure [none,some Value.none] from rfl) (wpAny_bind 126))
 refine wpAny_bind (iter_intList pl λs₂ es st hfp hlI=>?_)
 subst es;refine wpAny_bind (wpAny_newObj_type ?_);have nm:(toString "max" ++toString ".loop" :String)= "max.loop" :=by decide
 rw[nm];have W:=Walks.list (prog:=X.prog) (w:=X.w) (A:=X.A.in1) hh _ a hlI (intItems xs);refine wpAny_pure (plainId_quiet HN _,zo W (numAt xs) (CmpOf.ints_gt (numAt xs) λ_ _=>intItems_at) _ (λhm=>HW _ (hfp _ hm)) Value.none _ 0 _ none _ rfl (G4 _) (W.frame _ _ _ st λb _ o e=>76 _ e) (.inl 199) (87 _ rfl) λv h' tk pr kp=>?_)
 have kept:∀b o,s1.heap.get? b=some o->h'.get? b=some o:=λb o e=>by
  have l1:=106 e;refine kp b o (λhm=>?_) (λz=>?_) (76 _ (76 _ e))
  ·rw[FM.mp hm] at l1;exact HW _ l1
  ·rw[z] at l1;have l2:(s1.heap.push {cls:= .type "list_iterator",data:= .fields #[.ref a,.int 0 0]}).objs.size<s1.heap.objs.size:=l1;rw[Heap.size_push] at l2
   lia
 have sz:(intItems xs).size=ns.length:=by rw[len];simp[intItems]
 rcases q with ⟨e0,q⟩|⟨ne,q⟩
 ·rcases pr with ⟨_,rfl⟩|⟨i,il,_,_⟩
  ·exact (.non,H1,I1.kept (h':=h') (t':=tk) kept,rfl,q)
  ·rw[sz,e0] at il;cases il
 ·rcases pr with ⟨e0,_⟩|⟨i,il,pv,le⟩
  ·rw[sz] at e0;exact absurd (Gb e0) ne
  ·obtain ⟨t,rfl⟩:=intItems_at pv;refine (.int _,H1,I1.kept (h':=h') (t':=tk) kept,⟨ν⟩,q _ ?_ λz hz=>?_)
   ·rw[<-lst,numAt_eq];exact PySem.getD_mem (by rw[lst,<-sz];exact il)
   ·rw[<-lst] at hz;obtain ⟨j,hj,rfl⟩:=mem_getD hz;have:=le j (by rw[sz,<-lst];exact hj)
    rw[<-numAt_eq];exact this
end L2
namespace Sw
open PySem L2 XH Hm
def Rest (A:List Rn) (tm:Int->Int):Prop:=cJ A tm/\(∀x,0<=tm x)/\∀t':Int->Int,cJ A t'->(∀x,0<=t' x)->∀x,tm x<=t' x
def oe:Sp:=λvs H Q _=>∃(la:Addr) (A:List Rn) (n:Nat) (dm:Int->Int),vs= [.ref la,.int (n:Int)]/\jm H la A/\A.length<=700/\n<=700/\w6 n A/\cJ A dm/\
 ∀(l:Addr) (tm:Int->Int) (H':Hp),aA H H'->H' l=some 189->Rest A tm->Q 187 H'
def vB:Sp:=λvs H Q _=>∃(tl t:Addr) (z:Str) (D:Tl) (T:Tk) (P:Pk),vs= [.ref tl,.ref t,.str z]/\fc D H tl t T P/\T.length<=4/\
 ∀(l:Addr) (H':Hp),H l=none->aA H H'->dG yY 209 H' l ((bY 158 T.length).drop 1)->Q 187 H'
noncomputable def zp (T:Tk) (P:Pk) (z:Str) (i:Int):Int:=aV T P i.toNat z
def Fo (D:Tl) (T:Tk) (P:Pk) (tm ts:Int->Int):Option Int->Prop
 |none=>∀p∈D,∀S∈bY 222 T.length,S= []
 |some v=>(∃p∈D,∃S∈bY 222 T.length,S≠ []/\v=fK (zp T P p.1) tm ts p.2 S)/\∀p∈D,∀S∈bY 222 T.length,S≠ []->fK (zp T P p.1) tm ts p.2 S<=v
def rO:Sp:=λvs H Q _=>∃(td tl t dl:Addr) (D:Tl) (T:Tk) (P:Pk) (A:List Rn) (n:Nat) (dm:Int->Int),vs= [.ref td,.ref tl,.ref t,.ref dl,.int (n:Int)]/\H td=some 115/\(D.map 166).Nodup/\D.length<=12/\(∀p∈D,1<=p.2/\p.2<=8)/\fc D H tl t T P/\T.length<=4/\jm H dl A/\A.length<=700/\n<=700/\2*T.length<=n/\w6 n A/\cJ A dm/\
 ∀(tm ts:Int->Int) (r:Option Int) (H':Hp),aA H H'->Rest A tm->Rest (cx A) ts->Fo D T P tm ts r->Q (oV r) H'
theorem zq {H H':Hp} {l:Addr} {o:HO} (g:aA H H'):aA (aI H l o) (aI H' l o):=λb u e=>by
 by_cases c:b=l
 ·subst c;rw[ao] at e⊢;exact e
 ·rw[aJ c] at e⊢;exact g _ _ e
theorem Az {H H':Hp} {l:Addr} {o o':HO} (g:aA H (aI H' l o)):aA H (aI (aI H' l o') l o):=λb u e=>by
 have:=g b u e
 by_cases c:b=l
 ·subst c;rw[ao] at this⊢;exact this
 ·rw[aJ c] at this⊢;rw[aJ c];exact this
theorem vC {H H':Hp} {l b:Addr} {o u:HO} (g:aA (aI H l o) (aI H' l o)) (c:b≠l) (e:H b=some u):H' b=some u:=by
 have:=g b u (by rw[aJ c];exact e)
 rw[aJ c] at this;exact this
theorem AA {T:Tk} {P:Pk} {z:Str} {tm ts:Int->Int} {m:Int} {S:List Int} (hS:∀x∈S,∃i:Nat,x=(i:Int)/\i<T.length):fK (λi=>(dW T P z).getD i.toNat 0) tm ts m S=fK (zp T P z) tm ts m S:=by
 unfold fK
 congr 2
 congr 1
 congr 1
 refine Gd λx hx=>?_
 obtain ⟨i,rfl,l⟩:=hS x hx;rw[FO,dO l];unfold zp;rw[FO]
theorem mJ {w w':Nat->Int}:∀{n:Nat},(∀i,i<n->w i=w' i)->bY w n=bY w' n
 |0,_=>rfl
 |n+1,h=>by
  unfold bY;rw[mJ (n:=n) (λi hi=>h i 72),h n (Gs n)]
theorem rP {T:Tk} {P:Pk} {z:Str}:bY (λi=>(dW T P z).getD i 0) (dW T P z).length=bY 158 T.length:=by
 rw[eF];exact mJ λi hi=>dO hi
theorem t6 {w tm ts tm' ts':Int->Int} {m:Int} {S:List Int} (h1:∀x∈S,tm (2*x)=tm' (2*x)) (h2:∀x∈S,ts (2*x+1)=ts' (2*x+1)):fK w tm ts m S=fK w tm' ts' m S:=by
 unfold fK;rw[Gd (f:=λi=>tm (2*i)) (g:=λi=>tm' (2*i)) h1,Gd (f:=λi=>ts (2*i+1)) (g:=λi=>ts' (2*i+1)) h2]
theorem t8 {H:Hp} {v:V} {D:Tl} {T:Tk} {P:Pk} {A:List Rn} {n:Nat} {tm ts tE tS:Int->Int} {r:Option Int} (ba:rH H v D T P A n tE tS) (gr:Fo D T P tm ts r) (nt:2*T.length<=n)
  (e1:∀x:Nat,x<n->tm x=tE x) (e2:∀x:Nat,x<n->ts x=tS x) (dm:∀p∈D,1<=p.2/\p.2<=8) (hmany:∀p∈D,cn D p.1=some p.2) (hmem:∀z m,cn D z=some m->(z,m)∈D)
  (uo:∀p∈D,∃U,mG (dW T P p.1) tE tS U):
  (v= .non/\r=none)∨∃(t:Addr) (z:Str) (lf lb:Addr) (total:Int),v= .ref t/\H t=some (.tup [.int total,.str z,.ref lf,.ref lb])/\r=some total:=by
 have vc:∀{w:Int->Int} {m:Int} {z:Str} {S:List Int},S∈bY 158 T.length->fK w tm ts m S=fK w tE tS m S:=λhS=>by
  have inS:=(fT hS).2;refine t6 (λx hx=>?_) (λx hx=>?_)
  ·obtain ⟨i,rfl,l,_⟩:=inS x hx;have:=e1 (2*i) 72
   rw[show ((2*i:Nat):Int)=2*(i:Int) by lia] at this
   exact this
  ·obtain ⟨i,rfl,l,_⟩:=inS x hx;have:=e2 (2*i+1) 72
   rw[show ((2*i+1:Nat):Int)=2*(i:Int)+1 by lia] at this
   exact this
 have wv:∀{m:Int} {z:Str} {S:List Int},S∈bY 158 T.length->fK (λi=>(dW T P z).getD i.toNat 0) tE tS m S=fK (zp T P z) tm ts m S:=λhS=>by
  rw[vc hS];exact AA λx hx=>by
   obtain ⟨i,e,l,_⟩:=(fT hS).2 x hx;exact (i,e,l)
 rcases ba with ⟨rfl,no⟩|⟨t,z,lf,lb,F,G,total,m,f,k,U,rfl,et,_,_,hm,hu,fu,_,_,_,mx⟩
 ·refine .inl (rfl,?_);cases r with
  |none=>rfl
  |some v=>
   obtain ⟨⟨p,hp,S,hS,ne,_⟩,_⟩:=gr;obtain ⟨x,hx⟩:=List.exists_mem_of_ne_nil _ ne;obtain ⟨i,_,l,w⟩:=(fT hS).2 x hx;have:Sw.tZ (dW T P p.1) tE tS (i:Int)∈([]:List Ky):=(no p hp).usr (by rw[eF];exact l) (by rw[dO l];exact w)
   cases this
 ·refine .inr (t,z,lf,lb,total,rfl,et,?_);have zm:=hmem z m hm;have m1:=(dm _ zm).1;obtain ⟨S0,hS0,ne0,le0⟩:=rN hu m1 fu.cand;rw[rP] at hS0;rw[wv hS0,<-fu.eq] at le0;cases r with
  |none=>exact absurd (gr _ zm S0 hS0) ne0
  |some v=>
   obtain ⟨⟨p,hp,S,hS,ne,ev⟩,ge⟩:=gr;have a:=ge _ zm S0 hS0 ne0;obtain ⟨U',hU'⟩:=uo p hp;have inS:=fT hS;obtain ⟨f',k',c',le'⟩:=rM hU' (dm p hp).1 ne inS.1 (λx hx=>by
    obtain ⟨i,e,l,w⟩:=inS.2 x hx;exact (i,e,by rw[eF];exact l,by rw[dO l];exact w))
   rw[wv hS,<-ev] at le';have b:=mx p hp U' hU' f' k' c';have:v=total:=by
    have a:total<=v:=HS le0 a
    lia
   rw[this]
theorem kK {w:Nat->Int}:∀{n:Nat} {S:List Int},S∈bY w n->S.length<=n
 |0,S,h=>by rw[FM.mp h];exact F8 _
 |n+1,S,h=>by
  unfold bY at h;have old:S∈bY w n->S.length<=n+1:=λh=>Nat.le_succ_of_le (kK h)
  by_cases d:0<w n
  ·rw[if_pos d] at h;rcases FS.mp h with h|h
   ·exact old h
   ·obtain ⟨S',h',rfl⟩:=FN.mp h;rw[FP];exact Nat.succ_le_succ (kK h')
  ·rw[if_neg d] at h;exact old h
theorem rQ {ws:List Int} {tm ts:Int->Int}:∃U,mG ws tm ts U:=by
 have tr:∀a b c:Ky,(!dC a b)=true->(!dC b c)=true->(!dC a c)=true:=λa b c h1 h2=>by
  rw[Bool.not_eq_true'] at h1 h2⊢;cases h:dC a c with
  |false=>rfl
  |true=>
   cases h3:dC b a with
   |true=>rw[fW h3 h] at h2;cases h2
   |false=>
    rw[fA h1 h3,h2] at h;cases h
 have tt:∀a b:Ky,((!dC a b)||(!dC b a))=true:=λa b=>by
  cases h:dC a b with
  |false=>rfl
  |true=>rw[jE h];rfl
 refine ((vy ws tm ts ws.length).mergeSort λa b=> !dC a b,(?_,λu=>?_))
 ·have pw:=List.pairwise_mergeSort tr tt (vy ws tm ts ws.length);have nd:((vy ws tm ts ws.length).mergeSort λa b=> !dC a b).Nodup:=(List.mergeSort_perm _ _).nodup_iff.mpr nY
  have both:=List.Pairwise.and pw nd;refine both.imp λ{a b} (h1,h2)=>?_
  rw[Bool.not_eq_true'] at h1;cases h:dC b a with
  |true=>rfl
  |false=>exact absurd (fA h1 h) h2
 ·rw[(List.mergeSort_perm _ _).mem_iff];exact pO
def vD:Sp:=λvs H Q _=>∃(lc ls:Addr) (cs S:List Int) (f:Int),vs= [.ref lc,.ref ls,.int f]/\H lc=some (.lst (cs.map V.int))/\cs.length<=63/\H ls=some (.lst (S.map V.int))/\1<=S.length/\S.length<=100/\mz f/\(∀t∈S,0<=t/\t<=29*f)/\∀(l:Addr) (A:List Ky) (H':Hp),H l=none->aA H H'->bx H' l A->A.length=cs.length->(∀k∈A,jY 101 k/\q9 S k)->Q 187 H'
def j9 (K:F6):Sp:=λvs H Q _=>∃(a:Addr) (ns:List Int),vs= [.ref a]/\aE K H a 135/\ns.length<=63/\∀H',aA H H'->Q (.bl true) H'
theorem BD {x:Int} (h0:0<=x) (h1:x<2):∃M,fV [V.int 60,V.int ((10:Int)^(9:Int).toNat)] x=some (.int M)/\60<=M/\M<=1000000000:=by
 rcases (by lia:x=0∨x=1) with rfl|rfl
 ·exact (60,rfl,by decide,by decide)
 ·exact (ν,by decide,by decide)
noncomputable def WS (T:Tk) (P:Pk) (z:Str):Int:=((G0 T.length).map λi=>aV T P i z).sum
theorem rS {w tm ts:Int->Int} {m:Int} {S:List Int} (ne:S≠ []) (h1:∀x∈S,tm (2*x)=0) (h2:∀x∈S,ts (2*x+1)=0):fK w tm ts m S=0-(-((S.map w).sum)).fdiv m:=by
 have z:∀{f:Int->Int},(∀x∈S,f x=0)->dU (S.map f)=0:=λh=>by
  obtain ⟨x,hx,e⟩:=FN.mp (cR (l:=S.map _) λe=>ne (Gg.mp e)).1
  rw[<-e];exact h x hx
 unfold fK;rw[z h1,z h2]
 lia
theorem BE {T:Tk} {P:Pk} {z:Str} (nn:∀i,i<T.length->0<=aV T P i z):
  ((((G0 T.length).filter λi=>decide (0<aV T P i z)).map λi:Nat=>(i:Int)).map λx=>(dW T P z).getD x.toNat 0).sum=WS T P z:=by
 unfold WS;have key:∀l:List Nat,(∀i∈l,i<T.length)->(((l.filter λi=>decide (0<aV T P i z)).map λi:Nat=>(i:Int)).map λx=>(dW T P z).getD x.toNat 0).sum=(l.map λi=>aV T P i z).sum:=by
  intro l
  induction l with
  |nil=>exact λ_=>rfl
  |cons a l ih=>
   intro h;have ha:=h a GJ;have n:=nn a ha;have ih:=ih λi hi=>h i (FX _ hi)
   rw[GL,Gm]
   by_cases c:0<aV T P a z
   ·rw[List.filter_cons_of_pos (by exact decide_eq_true c),GL,GL,Gm,ih,FO,dO ha]
   ·rw[List.filter_cons_of_neg (by simpa using c),ih]
    lia
 exact key _ λi hi=>GE.mp hi
theorem zt {T:Tk} {P:Pk} {z:Str} (nn:∀i,i<T.length->0<=aV T P i z) {S:List Int} (nd:S.Nodup) (hS:∀x∈S,∃i:Nat,x=(i:Int)/\i<T.length):(S.map λx=>(dW T P z).getD x.toNat 0).sum<=WS T P z:=by
 have e:(((G0 T.length).map λi:Nat=>(i:Int)).map λx=>(dW T P z).getD x.toNat 0).sum=WS T P z:=by
  unfold WS;rw[G1]
  congr 1
  refine Gd λi hi=>?_
  show (dW T P z).getD (i:Int).toNat 0=_;rw[FO,dO (GE.mp hi)]
 rw[<-e];refine kJ nd (λx hx=>?_) (λx hx=>?_)
 ·obtain ⟨i,rfl,l⟩:=hS x hx;exact FN.mpr (i,GE.mpr l,rfl)
 ·obtain ⟨i,hi,rfl⟩:=FN.mp hx;rw[FO,dO (GE.mp hi)];exact nn i (GE.mp hi)
theorem xu {H:Hp} {v:V} {D:Tl} {T:Tk} {P:Pk} {A:List Rn} {n:Nat} {tm ts:Int->Int} {L:List Int} (ba:rH H v D T P A n tm ts) (z1:∀i:Nat,i<T.length->tm 114=0) (z2:∀i:Nat,i<T.length->ts 107=0)
  (dm:∀p∈D,1<=p.2/\p.2<=8) (hmem:∀z m,cn D z=some m->(z,m)∈D) (nn:∀z i,i<T.length->0<=aV T P i z) (hL:∀x,x∈L↔∃p∈D,0<WS T P p.1/\x=0-(-(WS T P p.1)).fdiv p.2):
  (v= .non/\L= [])∨∃(t:Addr) (z:Str) (lf lb:Addr) (total:Int),v= .ref t/\H t=some (.tup [.int total,.str z,.ref lf,.ref lb])/\total∈L/\∀x∈L,x<=total:=by
 have pos:∀z,0<WS T P z->∃i,i<T.length/\0<aV T P i z:=λz h=>by
  by_cases c:∃i,i<T.length/\0<aV T P i z
  ·exact c
  ·have:∀l:List Nat,(∀i∈l,i<T.length)->(l.map λi=>aV T P i z).sum<=0:=by
    intro l
    induction l with
    |nil=>exact λ_=>GP _
    |cons a l ih=>
     intro hl;have:=ih λi hi=>hl i (FX _ hi)
     have:¬0<aV T P a z:=λh=>c (a,hl a GJ,h)
     rw[GL,Gm]
     lia
   have:=this (G0 T.length) λi hi=>GE.mp hi
   unfold WS at h
   lia
 have neg:∀z i,i<T.length->0<aV T P i z->0<WS T P z:=λz i il h=>by
  have:=zt (T:=T) (P:=P) (z:=z) (nn z) (S:= [(i:Int)]) 82 λx hx=>(i,FM.mp hx,il)
  rw[List.map_singleton,List.sum_singleton,FO,dO il] at this
  lia
 rcases ba with ⟨rfl,no⟩|⟨t,z,lf,lb,F,G,total,m,f,k,U,rfl,et,_,_,hm,hu,fu,_,_,_,mx⟩
 ·refine .inl (rfl,List.eq_nil_iff_forall_not_mem.mpr λx hx=>?_)
  obtain ⟨p,hp,w,_⟩:=(hL x).mp hx;obtain ⟨i,il,wi⟩:=pos _ w;exact BC (no p hp) (show i<(dW T P p.1).length by rw[eF];exact il) (by rw[dO il];exact wi)
 ·have zm:=hmem z m hm;have m1:=(dm _ zm).1;have up:∀x∈L,x<=total:=λx hx=>by
   obtain ⟨p,hp,w,rfl⟩:=(hL x).mp hx;obtain ⟨U',hU'⟩:=rQ (ws:=dW T P p.1) (tm:=tm) (ts:=ts);have mS:∀x∈((G0 T.length).filter λi=>decide (0<aV T P i p.1)).map (λi:Nat=>(i:Int)),∃i:Nat,x=(i:Int)/\i<T.length/\0<aV T P i p.1:=λx hx=>by
    obtain ⟨i,hi,rfl⟩:=FN.mp hx;obtain ⟨a,b⟩:=Gx.mp hi;exact (i,rfl,GE.mp a,of_decide_eq_true b)
   have nd:(((G0 T.length).filter λi=>decide (0<aV T P i p.1)).map (λi:Nat=>(i:Int))).Nodup:=
    HJ.mpr ((List.Pairwise.filter _ List.nodup_range).imp λ{a b} ne e=>ne 72)
   have sum:=BE (T:=T) (P:=P) (z:=p.1) (nn p.1);generalize ((G0 T.length).filter λi=>decide (0<aV T P i p.1)).map (λi:Nat=>(i:Int))=S at mS nd sum
   have ne:S≠ []:=λe=>by
    rw[e] at sum;have:(0:Int)=WS T P p.1:=sum
    lia
   obtain ⟨f',k',c',le'⟩:=rM hU' (dm p hp).1 ne nd λx hx=>by
    obtain ⟨i,e,l,w⟩:=mS x hx;exact (i,e,by rw[eF];exact l,by rw[dO l];exact w)
   rw[rS ne (λx hx=>by obtain ⟨i,rfl,l,_⟩:=mS x hx;exact z1 i l) (λx hx=>by obtain ⟨i,rfl,l,_⟩:=mS x hx;exact z2 i l),sum] at le'
   exact HS le' (mx p hp U' hU' f' k' c')
  refine .inr (t,z,lf,lb,total,rfl,et,?_,up);obtain ⟨S0,hS0,ne0,le0⟩:=rN hu m1 fu.cand;rw[rP] at hS0;obtain ⟨nd,inS⟩:=fT hS0;rw[rS ne0 (λx hx=>by obtain ⟨i,rfl,l,_⟩:=inS x hx;exact z1 i l) (λx hx=>by obtain ⟨i,rfl,l,_⟩:=inS x hx;exact z2 i l),<-fu.eq] at le0
  have sw:=zt (T:=T) (P:=P) (z:=z) (nn z) nd λx hx=>by
   obtain ⟨i,e,l,_⟩:=inS x hx;exact (i,e,l)
  have cm:=jR sw m1;obtain ⟨x,hx⟩:=List.exists_mem_of_ne_nil _ ne0;obtain ⟨i,_,l,w⟩:=inS x hx;have w0:=neg z i l w;have b:=up _ ((hL _).mpr ((z,m),zm,w0,rfl));have:total=0-(-(WS T P z)).fdiv m:=by
   dsimp only at b le0 cm
   lia
  rw[this];exact (hL _).mpr ((z,m),zm,w0,rfl)
theorem og {T:Tk} {P:Pk}:∀{n:Nat} {k:Ky},k∈cN T P n->∃i:Nat,i<n/\(k= [2*(i:Int),2*(i:Int)+1,dU ((bA T P i).map 166)]∨k= [2*(i:Int)+1,2*(i:Int),-(ki ((bA T P i).map (·.2.1)))])
 |0,k,h=>by cases h
 |n+1,k,h=>by
  unfold cN at h;rcases FS.mp h with h|h
  ·obtain ⟨i,l,e⟩:=og h;exact (i,by lia,e)
  ·rcases FW.mp h with h|h
   ·exact (n,by lia,.inl h)
   ·exact (n,by lia,.inr (FM.mp h))
theorem zu {T:Tk} {P:Pk} (h:∀i,i<T.length->∃L us,bA T P i= [(L,L,us)]/\1<=L):
  (∃d:Int->Int,(∀x,0<=d x)/\cJ ((b7 [] T P []).map j5) d/\∀i:Nat,d 114=0)/\∃d:Int->Int,(∀x,0<=d x)/\cJ (cx ((b7 [] T P []).map j5)) d/\∀i:Nat,d 107=0:=by
 have mem:∀b∈(b7 [] T P []).map j5,∃(i:Nat) (L:Int),i<T.length/\1<=L/\dU ((bA T P i).map 166)=L/\(b=(2*(i:Int),2*(i:Int)+1,L)∨b=(2*(i:Int)+1,2*(i:Int),-L)):=λb hb=>by
  obtain ⟨k,hk,rfl⟩:=FN.mp hb;unfold b7 at hk;rcases FS.mp hk with hk|hk
  ·obtain ⟨i,il,e⟩:=og hk;obtain ⟨L,us,eo,l1⟩:=h i il;rw[eo] at e;exists i,L,il,l1,by rw[eo];rfl
   have m1:dU (([(L,L,us)]:List Wy).map 166)=L:=rfl;have m2:ki (([(L,L,us)]:List Wy).map (·.2.1))=L:=by show-(-L)=L;lia
   rw[m1,m2] at e;rcases e with rfl|rfl
   ·exact .inl rfl
   ·exact .inr rfl
  ·cases hk
 obtain ⟨len,hlen⟩:∃len:Int->Int,∀(i:Nat),len i=dU ((bA T P i).map (·.1)):=⟨λx=>dU ((bA T P x.toNat).map 166),λi=>by show dU ((bA T P ((i:Int)).toNat).map _)=_;rw[FO]⟩
 refine ((λx=>if x % 2=1 then (if 0<=len (x/2) then len (x/2) else 0) else 0,λx=>?_,λb hb=>?_,λi=>if_neg 72),(λx=>if x % 2=0 then (if 0<=len (x/2) then len (x/2) else 0) else 0,λx=>?_,λb hb=>?_,λi=>if_neg 72))
 ·dsimp only
  split
  ·split<;>lia
  ·exact GP _
 ·obtain ⟨i,L,il,l1,eL,e⟩:=mem b hb;have e1:107 % 2=1:=by lia
  have e2:¬(2*(i:Int)) % 2=1:=by lia
  have e3:¬(2*(i:Int)+1) % 2=0:=by lia
  have e4:114 % 2=0:=by lia
  have l0:0<=len (i:Int):=by rw[hlen,eL];lia
  rcases e with rfl|rfl
  ·dsimp only;rw[if_neg e2,if_pos e1,show 107/2=(i:Int) by lia,if_pos l0,hlen,eL]
   lia
  ·dsimp only;rw[if_pos e1,if_neg e2,show 107/2=(i:Int) by lia,if_pos l0,hlen,eL]
   lia
 ·dsimp only
  split
  ·split<;>lia
  ·exact GP _
 ·obtain ⟨b',hb',rfl⟩:=FN.mp hb;obtain ⟨i,L,il,l1,eL,e⟩:=mem b' hb';have e1:107 % 2=1:=by lia
  have e2:¬(2*(i:Int)) % 2=1:=by lia
  have e3:¬(2*(i:Int)+1) % 2=0:=by lia
  have e4:114 % 2=0:=by lia
  have l0:0<=len (i:Int):=by rw[hlen,eL];lia
  rcases e with rfl|rfl
  ·dsimp only;rw[if_neg e3,if_pos e4,show 114/2=(i:Int) by lia,if_pos l0,hlen,eL]
   lia
  ·dsimp only;rw[if_pos e4,if_neg e3,show 114/2=(i:Int) by lia,if_pos l0,hlen,eL]
   lia
theorem xv {A:List Rn} {n:Nat} {dm:Int->Int} (kd:cJ (cx A) dm) (d0:∀x,0<=dm x) {x t:Int} {c:List Int} (h:km A n x t c):t<=dm x:=by
 obtain ⟨h1,h2,h3,h4⟩:=h;exact mH kd d0 (n:=n) (c:=c.reverse) ⟨gc h1,λz hz=>h2 z (HY.mp hz),by rw[List.getLast?_reverse];exact h3,by
  rw[<-jr,List.reverse_reverse];exact h4⟩
theorem BG {α:Type} {P:List α->Prop} (h:∀a b c d e f,P [a,b,c,d,e,f]):∀us:List α,us.length=6->P us
 | [a,b,c,d,e,f],_=>h a b c d e f
theorem dP {t u:TS} {D:Ends} {σ:L2.St} {H:Hp} (I:(L2.St->Hp->Prop)->Prop) (h1:∀N:L2.St->Hp->Prop,I N->t {D with nx:=N} σ H) (h2:I (u D)):aY t u D σ H:=h1 _ h2
abbrev FnAt (K:F6) (f:Addr) (n q:Str) (st:Stmt) (dV:Value):Prop:=∃(oc:Value) (od:IQ) (kV dc pm:Value) (an:IQ) (cd ct:Value) (sl:IL),K.lookup f=some ⟨oc,od,.func (HL n q (fo st) (dZ st) (aB st) dV kV dc pm an cd ct),sl⟩/\PySem.W.codeIn K cd q=true/\HX K (.ref f)=true
abbrev cr (K:F6) (f:Addr) (x:Str) (st:Stmt) (dV:Value):Prop:=GH K mainGlobals x=some (some (.ref f))/\FnAt K f x x st dV
abbrev EW (n q:Str) (st:Stmt) (dV:Value) (ps:IM):Prop:=∀(kV doc pm:Value) (an:IQ) (cdv ct:Value) (us:IP),us.length=ps.length->bindArgs (HL n q (fo st) (dZ st) (aB st) dV kV doc pm an cdv ct) ⟨us,[]⟩=pure (ps.zip us)
theorem eR {N P:IM} {sc:Scope} (h:N.Nodup/\(∀x∈P,sc.names.lookup x=some .local∨sc.names.lookup x=some .cell)/\∀y∈sc.names,y.2≠ .free) (h1:sc.kind= .function:=by rfl) (h2:sc.isCoroutine=false:=by rfl) (h3:sc.isGenerator=false:=by rfl) (h4:N.take P.length=P:=by rfl):aK N P sc:=(h1,h2,h3,h.1,h4,h.2.1,h.2.2)
section
variable {P:Program} {w:World} {K:F6} {mg:IJ} {base h:Heap} {CX:uk} {k:Nat} {f c:Addr} {x m q:Str} {st:Stmt} {ps:IM} {sp:Sp}
theorem FnAt.ex {n q:Str} {dV:Value} (a:FnAt K f n q st dV):∃fd,b6 K n q st dV f fd/\HX K (.ref f)=true:=by
 obtain ⟨_,_,_,_,_,_,_,_,_,l,c,k⟩:=a;exact (_,oH (st:=st) l c k,k)
structure Bx (P:Program) (w:World) (base:Heap):Prop
noncomputable def fj (_:Bx P w base) (X:K.In h) (G:h.Ns mainGlobals mg) (a:cr K f x st .none) (b:EW x x st .none ps) (ok:∀{fd:FuncData},b6 K x x st .none f fd->bS P w K mg base CX k f fd ps sp):Dx P w K mg base CX k x ps [] sp:=
 have e:=a.2.ex
 ⟨f,e.choose,ok e.choose_spec.1,Gh X G a.1,e.choose_spec.2,e.choose_spec.1.binds0 b,[],e.choose_spec.1.binds0 b,.nil⟩
end
abbrev CS:=List V->Hp->VK->Prop
abbrev Dk (K:F6):CS:=λxs H Q=>∃p ys,xs= [.ref p]/\(aE K H p ys∨bT K H p ys)/\Q (.int ys.length) H
theorem aN {X:Cx}:cL X (.builtin "len") (Dk X.K):=oB
abbrev Dl (K:F6):CS:=λxs H Q=>∃a ns,xs= [.ref a]/\aE K H a 135/\ns≠ []/\∀M:Int,M∈ns->(∀z∈ns,z<=M)->Q (.int M) H
theorem gi {X:Cx} (hc:X.calm=true):cL X (.builtin "max") (Dl X.K):=v7 hc
abbrev Dm (K:F6):CS:=λxs H Q=>∃(a:Addr) (ns:List Int),xs= [.ref a]/\aE K H a 135/\ns≠ []/\∀M:Int,M∈ns->(∀z∈ns,M<=z)->Q (.int M) H
theorem dX {X:Cx} (hc:X.calm=true):cL X (.builtin "min") (Dm X.K):=xg hc
abbrev Dn (K:F6):CS:=λxs H Q=>∃(a:Addr) (ns:List Int),xs= [.ref a]/\aE K H a 135/\Q (.int ns.sum) H
theorem jS {X:Cx} (hc:X.calm=true):cL X (.builtin "sum") (Dn X.K):=xh hc
abbrev Do (K:F6):CS:=λxs H Q=>∃x t T b,xs= [x,.ty T]/\iH K H x t/\PySem.W.kitOne K t (.type T)=some b/\Q (.bl b) H
theorem gj {X:Cx} {K:F6} (hK:X.K=K):cL X 201 (Do K):=v6 hK
abbrev BH (K:F6):CS:=λxs H Q=>∃p ys,xs= [.ref p]/\(aE K H p ys∨bT K H p ys)/\∀l,H l=none->Q 187 (aI H l 184)
theorem iW {X:Cx} {K:F6} (h:X.K=K):cL X (.type "list") (BH K):=sO h
abbrev AB (K:F6):R2:=λx y H Q=>∃a b zs,x= .ref a/\y= .ref b/\aE K H a zs/\aE K H b []/\Q (.bl zs.isEmpty) H
theorem gn {X:Cx} (hu:X.A.units<cLine):iq X (compareOp .Eq) (AB X.K):=yf hu
end Sw
theorem aT {A B:Type} {p:A->B->Prop} (a:A) (b:B) (h:p a b):∃a b,p a b:=(a,b,h)
theorem b9 {A B C:Type} {p:A->B->C->Prop} (a:A) (b:B) (c:C) (h:p a b c):∃a b c,p a b c:=(a,b,c,h)
theorem aQ {A B C D:Type} {p:A->B->C->D->Prop} (a:A) (b:B) (c:C) (d:D) (h:p a b c d):∃a b c d,p a b c d:=(a,b,c,d,h)
theorem fL {A B C D E F:Type} {p:A->B->C->D->E->F->Prop} (a:A) (b:B) (c:C) (d:D) (e:E) (f:F) (h:p a b c d e f):∃a b c d e f,p a b c d e f:=(a,b,c,d,e,f,h)
theorem zB {A B C D E F H I J:Type} {p:A->B->C->D->E->F->H->I->J->Prop} (a:A) (b:B) (c:C) (d:D) (e:E) (f:F) (g:H) (i:I) (j:J) (h:p a b c d e f g i j):∃a b c d e f g i j,p a b c d e f g i j:=(a,b,c,d,e,f,g,i,j,h)
theorem eG {A:Type} {p:A->Prop} {G:Prop}:(∃a,p a)->(∀a,p a->G)->G
 |⟨a,h⟩,k=>k a h
theorem kc {A B:Type} {p:A->B->Prop} {G:Prop}:(∃a b,p a b)->(∀a b,p a b->G)->G
 |⟨a,b,h⟩,k=>k a b h
theorem mK {A B C:Type} {p:A->B->C->Prop} {G:Prop}:(∃a b c,p a b c)->(∀a b c,p a b c->G)->G
 |⟨a,b,c,h⟩,k=>k a b c h
theorem ip {A B C D:Type} {p:A->B->C->D->Prop} {G:Prop}:(∃a b c d,p a b c d)->(∀a b c d,p a b c d->G)->G
 |⟨a,b,c,d,h⟩,k=>k a b c d h
theorem iy {A B C D E F:Type} {p:A->B->C->D->E->F->Prop} {G:Prop}:(∃a b c d e f,p a b c d e f)->(∀a b c d e f,p a b c d e f->G)->G
 |⟨a,b,c,d,e,f,h⟩,k=>k a b c d e f h
theorem BI {A B C D E F H I J:Type} {p:A->B->C->D->E->F->H->I->J->Prop} {G:Prop}:(∃a b c d e f g i j,p a b c d e f g i j)->(∀a b c d e f g i j,p a b c d e f g i j->G)->G
 |⟨a,b,c,d,e,f,g,i,j,h⟩,k=>k a b c d e f g i j h
theorem cP {A B G:Prop} (h:A/\B) (k:A->B->G):G:=k h.1 h.2
theorem ke {A B C G:Prop} (h:A/\B/\C) (k:A->B->C->G):G:=k h.1 h.2.1 h.2.2
theorem fh {A B C D G:Prop} (h:A/\B/\C/\D) (k:A->B->C->D->G):G:=k h.1 h.2.1 h.2.2.1 h.2.2.2
theorem iz {A B C D E F G:Prop} (h:A/\B/\C/\D/\E/\F) (k:A->B->C->D->E->F->G):G:=k h.1 h.2.1 h.2.2.1 h.2.2.2.1 h.2.2.2.2.1 h.2.2.2.2.2
theorem vE {A B C D E F H I J G:Prop} (h:A/\B/\C/\D/\E/\F/\H/\I/\J) (k:A->B->C->D->E->F->H->I->J->G):G:=k h.1 h.2.1 h.2.2.1 h.2.2.2.1 h.2.2.2.2.1 h.2.2.2.2.2.1 h.2.2.2.2.2.2.1 h.2.2.2.2.2.2.2.1 h.2.2.2.2.2.2.2.2
namespace Sw
open PySem L2
theorem zC {a1 a2:TS} {D:Ends} {σ:L2.St} {H:Hp} (h:let D':=D;let r1:TS:=a2;aY a1 r1 D' σ H):aY a1 a2 D σ H:=h
theorem lt3 {a1 a2 a3:TS} {D:Ends} {σ:L2.St} {H:Hp} (h:let D':=D;let r2:TS:=a3;let r1:TS:=aY a2 r2;aY a1 r1 D' σ H):aY a1 (aY a2 a3) D σ H:=h
theorem AR {a1 a2 a3 a4:TS} {D:Ends} {σ:L2.St} {H:Hp} (h:let D':=D;let r3:TS:=a4;let r2:TS:=aY a3 r3;let r1:TS:=aY a2 r2;aY a1 r1 D' σ H):aY a1 (aY a2 (aY a3 a4)) D σ H:=h
theorem Fp {a1 a2 a3 a4 a5:TS} {D:Ends} {σ:L2.St} {H:Hp} (h:let D':=D;let r4:TS:=a5;let r3:TS:=aY a4 r4;let r2:TS:=aY a3 r3;let r1:TS:=aY a2 r2;aY a1 r1 D' σ H):aY a1 (aY a2 (aY a3 (aY a4 a5))) D σ H:=h
theorem FK {a1 a2 a3 a4 a5 a6:TS} {D:Ends} {σ:L2.St} {H:Hp} (h:let D':=D;let r5:TS:=a6;let r4:TS:=aY a5 r5;let r3:TS:=aY a4 r4;let r2:TS:=aY a3 r3;let r1:TS:=aY a2 r2;aY a1 r1 D' σ H):aY a1 (aY a2 (aY a3 (aY a4 (aY a5 a6)))) D σ H:=h
theorem EX {a1 a2 a3 a4 a5 a6 a7 a8:TS} {D:Ends} {σ:L2.St} {H:Hp} (h:let D':=D;let r7:TS:=a8;let r6:TS:=aY a7 r7;let r5:TS:=aY a6 r6;let r4:TS:=aY a5 r5;let r3:TS:=aY a4 r4;let r2:TS:=aY a3 r3;let r1:TS:=aY a2 r2;aY a1 r1 D' σ H):aY a1 (aY a2 (aY a3 (aY a4 (aY a5 (aY a6 (aY a7 a8)))))) D σ H:=h
theorem FL {a1 a2 a3 a4 a5 a6 a7 a8 a9:TS} {D:Ends} {σ:L2.St} {H:Hp} (h:let D':=D;let r8:TS:=a9;let r7:TS:=aY a8 r8;let r6:TS:=aY a7 r7;let r5:TS:=aY a6 r6;let r4:TS:=aY a5 r5;let r3:TS:=aY a4 r4;let r2:TS:=aY a3 r3;let r1:TS:=aY a2 r2;aY a1 r1 D' σ H):aY a1 (aY a2 (aY a3 (aY a4 (aY a5 (aY a6 (aY a7 (aY a8 a9))))))) D σ H:=h
theorem Dp {a1 a2 a3 a4 a5 a6 a7 a8 a9 a10:TS} {D:Ends} {σ:L2.St} {H:Hp} (h:let D':=D;let r9:TS:=a10;let r8:TS:=aY a9 r9;let r7:TS:=aY a8 r8;let r6:TS:=aY a7 r7;let r5:TS:=aY a6 r6;let r4:TS:=aY a5 r5;let r3:TS:=aY a4 r4;let r2:TS:=aY a3 r3;let r1:TS:=aY a2 r2;aY a1 r1 D' σ H):aY a1 (aY a2 (aY a3 (aY a4 (aY a5 (aY a6 (aY a7 (aY a8 (aY a9 a10)))))))) D σ H:=h
theorem EY {a1 a2 a3 a4 a5 a6 a7 a8 a9 a10 a11 a12 a13:TS} {D:Ends} {σ:L2.St} {H:Hp} (h:let D':=D;let r12:TS:=a13;let r11:TS:=aY a12 r12;let r10:TS:=aY a11 r11;let r9:TS:=aY a10 r10;let r8:TS:=aY a9 r9;let r7:TS:=aY a8 r8;let r6:TS:=aY a7 r7;let r5:TS:=aY a6 r6;let r4:TS:=aY a5 r5;let r3:TS:=aY a4 r4;let r2:TS:=aY a3 r3;let r1:TS:=aY a2 r2;aY a1 r1 D' σ H):aY a1 (aY a2 (aY a3 (aY a4 (aY a5 (aY a6 (aY a7 (aY a8 (aY a9 (aY a10 (aY a11 (aY a12 a13))))))))))) D σ H:=h
end Sw
namespace Lk69
open PySem L2 Sw XH PyProof.Rows Hm
abbrev IS (x:Addr):Option V:=some (.ref x)
theorem cz {X:Cx} {N P:IM} {sp:Scope} (i:Nat) (sc:aK N P sp) {x:Str} {e:Expr} {te:TE} {pos pos':Pos} (he:PE X e te) (hi:X.N[i]?=some x:=by rfl) (hx:Loc X.env.scope x:=by exact Or.inl rfl) (hn:X.N=N:=by rfl) (hs:swapsWith e (some (.Name x pos')) pos.line X.env=pure false:=by rfl) (hf:X.fn x=true∨X.env.scope.names.lookup x=some .local:=by first|exact .inl rfl|exact .inr rfl|assumption):PS X (.Assign [.Name x pos'] e pos) (sd te (aZ i)):=dh (hn▸sc.nd) hi hx he hs hf
theorem dD {X:Cx} {N P:IM} {sp:Scope} (i:Nat) (sc:aK N P sp) {x:Str} {pos:Pos} (hi:X.N[i]?=some x:=by rfl) (hx:Loc X.env.scope x:=by exact Or.inl rfl) (hn:X.N=N:=by rfl) (hf:X.fn x=true∨X.env.scope.names.lookup x=some .local:=by first|exact .inl rfl|exact .inr rfl|assumption):PG X (.Name x pos) (aZ i):=dH (hn▸sc.nd) hi hx hf
theorem cy {X:Cx} {k j:Nat} {x:Str} {ps:IM} {dvs:List V} {sp:Sp} {e:Expr} {es:List Expr} {t:TA} {p pos:Pos} (D:Dx X.prog X.w X.K X.mg X.base bM k x ps dvs sp) (hr:dM j X.A) (ha:PA X (e::es) t) (hk:k<=j:=by decide) (hg:Gl X x:=by rfl) (hdb:198=false:=by decide) (he:starEach (e::es) X.env=(false,eval e X.env)::starEach es X.env:=by rfl) (hpl:(backTo pos (starEach es X.env)).any 166=false:=by rfl):PE X (.Call (.Name x p) (e::es) [] pos) (xL sp [] E0 t):=Bh D hr hk hg ha hdb he hpl
noncomputable def top (i:Nat):Stmt:=PySem.Challenge.pw_stovework_k69_best_of_all_sets.main.body.getD i (.Pass ⟨0,0,0,0⟩)
noncomputable def clsAt (s:Stmt) (i:Nat):Stmt:=match s with| .ClassDef _ _ _ body _ _ _ _ _ _ _=>body.getD i (.Pass ⟨0,0,0,0⟩)|_=>s
abbrev EZ:Stmt:=top 7
abbrev E1:Stmt:=top 17
abbrev E2:Stmt:=top 19
abbrev E3:Stmt:=top 20
abbrev E4:Stmt:=top 22
abbrev E5:Stmt:=top 21
abbrev E6:Stmt:=top 23
abbrev E7:Stmt:=top 24
abbrev Ek:Stmt:=clsAt (top 16) 0
abbrev E9:Stmt:=top 18
abbrev BJ:Stmt:=top 29
abbrev BK:Stmt:=top 26
abbrev BL:Stmt:=top 28
abbrev BM:Stmt:=top 27
abbrev BN:Stmt:=top 32
abbrev BO:Stmt:=top 33
abbrev BP:Stmt:=top 34
abbrev BQ:Stmt:=top 31
abbrev BR:Stmt:=top 35
abbrev BS:Stmt:=top 37
abbrev BU:Stmt:=top 39
abbrev BV:Stmt:=top 40
abbrev BW:Stmt:=top 38
abbrev BX:Stmt:=top 42
abbrev BY:Stmt:=top 43
abbrev BZ:Stmt:=top 44
abbrev B0:Stmt:=top 45
abbrev B1:Stmt:=top 46
abbrev B3:Stmt:=top 47
abbrev B4:Stmt:=top 48
abbrev B5:Stmt:=top 49
abbrev B6:Stmt:=top 50
abbrev B7:Stmt:=top 51
abbrev B8:Stmt:=top 52
abbrev B9:Stmt:=top 53
abbrev Ca:Stmt:=top 55
abbrev Cb:Stmt:=top 56
abbrev Cc:Stmt:=top 57
abbrev Cd:Stmt:=top 58
abbrev Ce:Stmt:=top 59
abbrev Cf:Stmt:=top 60
abbrev Cg:Stmt:=top 61
abbrev Ch:Stmt:=top 62
abbrev Ci:Stmt:=top 63
abbrev Cj:Stmt:=top 64
abbrev Ck:Stmt:=top 65
abbrev Cl:Stmt:=top 66
abbrev Cm:Stmt:=top 67
abbrev Cn:Stmt:=top 68
abbrev Co:Stmt:=top 69
abbrev Cp:Stmt:=top 70
abbrev pP:Stmt:=top 71
structure Bn (K:F6) (mg:IJ) (Go Ik:Addr):Prop where
 Iy:∃t,mg "LETTERS" =some (.str "abcdefghijklmnopqrstuvwxyz" t)
 Ij:∃t,mg "MOST_LETTERS" =some (.int 12 t)
 Ip:∃t,mg "MOST_TASKS" =some (.int 24 t)
 Io:∃t,mg "MOST_TOOLS" =some (.int 12 t)
 Im:∃t,mg "MOST_PIECES" =some (.int 8 t)
 Ir:∃t,mg "MOST_WAYS" =some (.int 2 t)
 Ii:∃t,mg "MOST_MOMENTS" =some (.int 8 t)
 Iu:∃t,mg "MOST_ARCS" =some (.int 600 t)
 Iq:∃t,mg "MOST_APART" =some (.int 300 t)
 Ig:∃t,mg "GREATEST" =some (.int 1000000000 t)
 IH:mg "abs" =none
 IG:mg "all" =none
 IE:mg "bool" =none
 Ix:mg "dict" =none
 Iv:mg "enumerate" =none
 IF:mg "int" =none
 Hw:mg "isinstance" =none
 Hs:mg "len" =none
 HM:mg "list" =none
 Ie:mg "max" =none
 Ih:mg "min" =none
 Hr:mg "range" =none
 Ib:mg "reversed" =none
 ID:mg "set" =none
 Il:mg "sorted" =none
 IC:mg "str" =none
 IA:mg "sum" =none
 IB:mg "tuple" =none
 Iz:mg "Net" =some (.ref Go)
 Hu:zI K Go
 Iw:Mk K Go Ik
 Hy:cH K Go "tools"
 Hv:cH K Go "tasks"
 Id:cH K Go "arcs"
 Ia:cH K Go "apart"
 Ic:cH K Go "moments"
section
variable {P:Program} {w:World} {K:F6} {mg:IJ} {base:Heap} {f:Addr} {fd:FuncData} {Go Ik:Addr}
variable (B:Bn K mg Go Ik)
include B
theorem Fa {dV:Value} (F:b6 K "is_name" "is_name" EZ dV f fd):240 1 f fd ["thing"] (qK K):=by
 have sc:aK ["thing","sign"] ["thing"] (aB EZ):=eR 78
 sleep 36
 obtain ⟨x,rfl,h⟩:=h;exists _,(ak (bp (PW.pt (eI (df (eU (245 (98<*>((gv (v:= .ty "str") rfl B.IC boot_str rfl)<*>ae))))) (eI (aC gM (az i6 rfl B.Hs boot_len 212) af 129) (fB (aC fN (az i6 rfl B.Hs boot_len 212) (cZ rfl B.Ij) 129))))) (au (aG iY)) aF) (ak (241 (Bi 98) (dD 1 sc) (au (bp (aC oA 113 (xZ rfl B.Iy) 178) (au (aG iY)) aF))) (au (aG iY))))
 try dsimp only[cxK]
 sleep 17;rcases h with ⟨z,rfl,hz,q1,q0⟩|⟨ty,hty,hk,q⟩
 ·have hz':z.length<=sizeLine:=Gf hz 73
  have hl:=oM z;try dsimp only[aZ,bz]
  refine dP (λNq=>1<=z.length->z.length<=12->Nq [some (.str z),none] H) 174 ?_
  ·refine (aQ _ _ _ true (rfl,.str _,rfl,(z,rfl,hz',d2 165 (λc1=>(z,rfl,hz',d2 165 (λc2=>?_))))))
   ·exact q0 λn=>by have:=n.1;lia
   ·exact q0 λn=>by have:=n.2.1;lia
   ·exact hN 72 72
  intro l1 l2;refine (z,rfl,zY (λi σ H2=>H=H2/\(∃o,σ= [some (.str z),o])/\∀j c,j<i->z.cps[j]?=some c->97<=c/\c<=122) (rfl,⟨ν⟩,λj c h=>absurd h 72) (λi c σ H2 hc hP=>?_) (λσ H2 hP=>?_))
  ·obtain ⟨rfl,⟨o,rfl⟩,hP⟩:=hP;refine (aT _ _ (rfl,rfl,FD (λe=>?_) (λe=>?_)))
   ·have e':=(uM c).symm.trans e;refine q0 λn=>?_
    have:=n.2.2 c (F5 (show (sL z)[i]?=some c by rw[<-hc];exact GG))
    rw[decide_eq_true this] at e';cases e'
   ·have e':=(uM c).symm.trans e;refine (rfl,⟨ν⟩,λj c' hj hc'=>?_)
    rcases GQ.mp hj with k|k
    ·exact hP j c' k hc'
    ·subst k;rw[hc] at hc';cases hc';exact of_decide_eq_true e'
  ·obtain ⟨rfl,⟨o,rfl⟩,hP⟩:=hP;refine q1 (by lia,by lia,λc hc=>?_)
   obtain ⟨i,hi⟩:=FR.mp hc;have hi':z.cps[i]?=some c:=by rw[<-hi];exact GG.symm
   exact hP i c (by have:=(Hd.mp hi').1;exact this) hi'
 ·exact (aQ _ _ _ false (rfl,hty,hk,q))
theorem Fb {dV:Value} (F:b6 K "points_of" "points_of" E1 dV f fd):240 1 f fd ["net"] (jM Go):=by
 have sc:aK ["net"] ["net"] (aB E1):=eR 78
 sleep 36
 refine iy h λx n fz D T A _hi=>?_
 refine eG _hi λB2 _hj=>?_
 refine ke _hj λ_r1 N q=>?_
 sleep 24;exists _,(au (aG (250 (247 (242 217)) (dL 98 rfl))));try dsimp only[cxK]
 refine iy N.ex λdx td tl al pl fs _hi=>?_
 refine vE _hi λe0 l1 l2 l3 l4 l5 e1 _r1 _hj=>?_
 refine cP _hj λe3 e4=>?_
 obtain ⟨as,e2,r2⟩:=_r1;refine (249 (_,(rfl,e0,B.Hu,B.Hv,l2,aT tl _ (rfl,.inl (aE.of e2),89 73,aQ x _ dx _ (_,(rfl,e0,B.Hu,B.Ic,l5,?_))))))
 rw[r2.1];exact q
theorem Fc {dV:Value} (F:b6 K "copy_of_task" "copy_of_task" E2 dV f fd):240 1 f fd ["ways"] oW:=by
 have sc:aK ["ways"] ["ways"] (aB E2):=eR 78
 sleep 36
 obtain ⟨l,ws,P0,rfl,⟨vs,el,r0⟩,l2,q⟩:=h;exists _,(au (aG (bZ (own:= "way") (ys:= []) (js:= []) rfl 83 (aP 98) (λC fp s H=>(@bR _ _ _ _ _ (84<*>(84<*>((cQ (iW (K:=K) rfl) rfl B.HM boot_list (84<*>ae))<*>ae))))))))
 try dsimp only[cxK]
 sleep 0;have r:=r0.imp λ_ _ q=>Ej q
 refine (l,rfl,(_,aE.of el),bO iu (λa=>P0 a/\H a≠none) (λi=>ws.getD i (0,0,[])) (aE.of el) (by rw[r.1];lia) (λa h=>h.2) (λi y hy H3 g Q' hQ=>?_) λp H' np g hp=>?_)
 ·refine eG (r.at_ hy) λw _hi=>?_
  sleep 30
  refine kc _hj λt u _hk=>?_
  sleep 33
  refine cP _hl λet _hm=>?_
  refine eG _hm λus _hn=>?_
  refine cP _hn λeu ru=>?_
  clear _hi _hj _hk _hl _hm _hn;subst _r1;have et3:=g _ _ et;rw[aL hw] at hQ;refine (244 (rfl,rfl,bT.of et3,rfl,aQ t _ _ _ (rfl,rfl,bT.of et3,rfl,aQ t _ _ _ (rfl,rfl,bT.of et3,rfl,aT u us (rfl,.inl (aE.of (g _ _ eu)),λu' nu=>(by show 3<=sizeLine;decide,λt' nt=>?_))))))
  have g1:=ar nu (.lst us);have g2:=ar nt (.tup [.int w.1,.int w.2.1,.ref u']);exact hQ _ _ (g1.trans g2) (aT t' u' (rfl,.inl (g1.free nt),.inl nu,ao,us,g2 _ _ ao,ru.imp λv e q=>zz (mi q (g.trans (g1.trans g2))) λa h=> .inr h))
 ·rw[ij ws (0,0,[]) r.1] at hp;exact q p H' g np (p,rfl,.inl np,hp.mono λa h=>h.2.imp id λz=>z.1)
theorem Fd {dV:Value} (F:b6 K "refuse_wrong_tools" "refuse_wrong_tools" E3 dV f fd) (DZ0:239 1 "is_name" ["thing"] [] (qK K)):240 2 f fd ["tools"] nH:=by
 have sc:aK ["tools","tool","many"] ["tools"] (aB E3):=eR 78
 sleep 36
 obtain ⟨td,D,rfl,e,l12,ok,q⟩:=h;exists _,(ak (bp (aC fN (az sN rfl B.Hs boot_len 212) (cZ rfl B.Io) 129) (au ce) aF) (au (x4 (241 (x9 (Be PySem.F.plainAttrs_dict PySem.F.slot_dict_items PySem.F.type_dict_items x6 98)) (fD rfl (bw (dD 1 sc) (bw (dD 2 sc) dI))) (ak (bp (df (eU (cy DZ0 hr 226))) (au ce) aF) (au (bp (df (dj dJ dJ af 111 (cZ rfl B.Im))) (au ce) aF)))))));try dsimp only[cxK]
 sleep 29;refine (aT td _ (rfl,e,dF (by rw[nC];lia) ?_))
 refine (.inr (.inr (.inl (rfl,.inl (_,e)))),aT td _ (rfl,rfl,e,λv nv=>?_))
 have g:=ar nv (.ext λh=>h.IsItemsView v td)
 refine (b9 v td _ (rfl,ao,g _ _ e,λo nf=>?_))
 have e1:=g _ _ e;generalize aI H v (.ext λh=>h.IsItemsView v td)=H1 at g e1⊢
 have ef:aI H1 td 228 td=some (.frz o 115):=ao;refine wU (λi σ H'=>aA (aI H1 td 228) H'/\∃o1 o2:Option V,σ= [IS td,o1,o2]) (.refl _,aT none none rfl) (λi σ H' _ h=>h.1 _ _ ef) ?_ ?_
 ·rintro i k y σ H2 T' hk ⟨g2,o1,o2,rfl⟩ nT;obtain ⟨p,hp,rfl,rfl⟩:=qM hk;obtain ⟨n1,n2,n3⟩:=ok p (F5 hp);have g3:=g2.trans (ar nT (.tup [kV (.inr p.1),.int p.2]));have zl:p.1.length<=1000000:=by have:=n1.2.1;rw[oM] at this;lia
  refine (aT T' _ (rfl,bT.of ao,rfl,aT _ _ 171));refine (ν,.inl (p.1,rfl,zl,λ_=>(mB.i (ja ?_)),λz=>absurd n1 z))
  exact (dT n2 (nF n3 (g3,aT _ _ rfl)))
 ·rintro σ H2 ⟨g2,o1,o2,rfl⟩;exact (b9 td o _ (g2 _ _ ef,nf,q _ (g.trans (nD e1 g2))))
theorem Fe {dV:Value} (F:b6 K "refuse_wrong_uses" "refuse_wrong_uses" E4 dV f fd):240 1 f fd ["uses","tools"] qO:=by
 have sc:aK ["uses","tools","use"] ["uses","tools"] (aB E4):=eR 78
 sleep 36
 refine ip h λu td D us _hi=>?_
 refine fh _hi λ_r1 _r2 ed _hj=>?_
 refine cP _hj λ_r3 q=>?_
 sleep 24;obtain ⟨vs,eu,ru⟩:=_r2;obtain ⟨nd,l100,ok⟩:=_r3;exists _,(ak (bp (aC iZ (wt rfl rfl B.Hs rfl B.ID PyProof.Rows.Boot.«len» PyProof.Rows.Boot.«set» (bZ (own:= "use") (ys:= []) (js:= []) rfl 83 (aP 98) 225)) 92 129) (au ce) aF) (au (241 (aP 98) (dD 2 sc) (ak (bp (xD (nh (jU hr) 137 113) 178) (au ce) aF) (ak (bp (df (dj dJ dJ af 137 (i9 (jU hr) 113 137 36))) (au ce) aF) (au (bp (df (dj dJ dJ af 137 (cZ rfl B.Ig))) (au ce) aF)))))))
 try dsimp only[cxK]
 sleep 29;sleep 0;refine (u,rfl,(_,aE.of eu),bO (eZ V.str) 133 (λi=>(us.getD i ("",0,0)).1) (aE.of eu) (by rw[ru.1];lia) 112 (λi y hy H3 g Q' hQ=>?_) λp H' np g hp=>?_)
 ·obtain ⟨e,he,t,rfl,_,et⟩:=ru.at_ hy;rw[aL he] at hQ;exact (244 (rfl,rfl,bT.of (g _ _ et),rfl,hQ _ _ 168 rfl))
 obtain ⟨ps,ep,rp⟩:=hp;have e1:ps=(us.map λe=>(.inr e.1:Key)).map kV:=by
  rw[rp.val,G1,G1]
  conv=>rhs;rw[<-cD us ("",0,0),G1,<-ru.1]
  rfl
 rw[e1] at ep;refine (aT p (us.map λe=>(.inr e.1:Key)) (rfl,aE.of ep,?_,by rw[F1];lia,aT u _ (rfl,.inl (aE.of (g _ _ eu)),rfl,C0 (by rw[F1,ru.1]) ?_)))
 ·have:(us.map λe=>(.inr e.1:Key))=(us.map 166).map Sum.inr:=by rw[G1];rfl
  rw[this];exact nd.map (f:=(Sum.inr:Str->Key)) λa b h e=>h (by injection e)
 clear ep rp e1;refine (u,rfl,(_,aE.of (g _ _ eu)),bL (xs:=vs) (λi σ H2=>H'=H2/\∃o2:Option V,σ= [IS u,IS td,o2]) (rfl,none,rfl) (λi σ H2 _ h=>by rw[<-h.1];exact aE.of (g _ _ eu)) ?_ ?_)
 ·rintro i y σ H2 hy ⟨rfl,o2,rfl⟩;obtain ⟨e,he,t,rfl,_,et⟩:=ru.at_ hy;obtain ⟨m,hm,k1,k2,k3,k4⟩:=ok e (F5 he);have et':=g _ _ et;have dg:=jN (.inl (g _ _ ed)) hm;refine (244 (rfl,rfl,bT.of et',rfl,aT td _ (rfl,dg,mB.i (ja ?_))));refine (244 (rfl,rfl,bT.of et',rfl,dT k1 (244 (rfl,rfl,bT.of et',rfl,aT td _ (rfl,dg,nF k2 ?_)))));exact (244 (rfl,rfl,bT.of et',rfl,dT k3 (nF k4 (rfl,ν))))
 ·rintro σ H2 ⟨rfl,o2,rfl⟩;exact q _ g
theorem Ff {dV:Value} (F:b6 K "refuse_wrong_tasks" "refuse_wrong_tasks" E5 dV f fd) (DZ4:239 1 "refuse_wrong_uses" ["uses","tools"] [] qO):240 2 f fd ["tasks","tools"] nJ:=by
 have sc:aK ["tasks","tools","ways","way"] ["tasks","tools"] (aB E5):=eR 78
 sleep 36
 refine ip h λtl td D T _hi=>?_
 refine iz _hi λ_r1 _r2 ed l24 ok q=>?_
 sleep 35;obtain ⟨as,el,r⟩:=_r2;exists _,(ak (bp (aC fN 92 (cZ rfl B.Ip) 129) (au ce) aF) (au (241 (aP 98) (dD 2 sc) (ak (bp (df (dj dJ dJ af (242 207) (cZ rfl B.Ir))) (au ce) aF) (au (241 (aP 111) (dD 3 sc) (ak (bp (df (v9 dJ dJ dJ af 190 190 (cZ rfl B.Ig))) (au ce) aF) (au (bU (cy DZ4 hr (190<*>226)))))))))))
 try dsimp only[cxK]
 sleep 29;have ll:as.length=T.length:=r.1;refine (aT tl _ (rfl,.inl (aE.of el),dF (by rw[ll];lia) ?_))
 refine (tl,rfl,(_,aE.of el),bL (xs:=as) (λi σ H'=>aA H H'/\∃o2 o3:Option V,σ= [IS tl,IS td,o2,o3]) (.refl _,aT none none rfl) (λi σ H' _ h=>aE.of (h.1 _ _ el)) ?_ ?_)
 ·rintro i y σ H1 hy ⟨g1,o2,o3,rfl⟩;refine eG (r.at_ hy) λws _hi=>?_
  sleep 30
  refine eG _hj λwl _hk=>?_
  refine ke _hk λ_r1 _ _hl=>?_
  refine eG _hl λts _hm=>?_
  refine cP _hm λets0 rt0=>?_
  clear _hi _hj _hk _hl _hm;subst _r1;have ets:=g1 _ _ ets0;have rt:=rt0.imp λ_ _ q=>mi q g1
  obtain ⟨o1,o2',ow⟩:=ok ws (F5 hw);have lw:ts.length=ws.length:=rt.1;refine (aT wl _ (rfl,.inl (aE.of ets),dT (by rw[lw];lia) (nF (by rw[lw];lia) ?_)))
  refine (wl,rfl,(_,aE.of ets),bL (xs:=ts) (λj σ H'=>aA H H'/\aA H1 H'/\∃o3:Option V,σ= [IS tl,IS td,IS wl,o3]) (g1,.refl _,o3,rfl) (λj σ H' _ h=>aE.of (h.2.1 _ _ ets)) ?_ ?_)
  ·rintro j z σ H2 hz ⟨g2,g12,o3,rfl⟩;refine eG (rt.at_ hz) λw _hi=>?_
   refine cP _hi λhw2 _hj=>?_
   refine kc _hj λt u _hk=>?_
   sleep 33
   refine cP _hl λet0 lu0=>?_
   clear _hi _hj _hk _hl;subst _r1;have et:=g12 _ _ et0;obtain ⟨w1,w2,w3,w4⟩:=ow w (F5 hw2);refine (244 (rfl,rfl,bT.of et,rfl,dT w1 (244 (rfl,rfl,bT.of et,rfl,dT w2 (nF w3 ?_)))));exact (244 (rfl,rfl,bT.of et,rfl,aQ u td D w.2.2 (rfl,lu0.same g12,g2 _ _ ed,w4,λH3 g3=>(g2.trans g3,g12.trans g3,ν))))
  ·rintro σ H2 ⟨g2,_,o3,rfl⟩;exact (g2,aT _ _ rfl)
 ·rintro σ H1 ⟨g1,o2,o3,rfl⟩;exact q _ g1
theorem Fg {dV:Value} (F:b6 K "refuse_wrong_arcs" "refuse_wrong_arcs" E6 dV f fd):240 1 f fd ["arcs","points"] uH:=by
 have sc:aK ["arcs","points","arc"] ["arcs","points"] (aB E6):=eR 78
 sleep 36
 refine mK h λal m A _hi=>?_
 refine fh _hi λ_r1 _r2 l6 _hj=>?_
 refine cP _hj λok q=>?_
 sleep 24;obtain ⟨as,el,r⟩:=_r2;exists _,(ak (bp (aC fN 92 (cZ rfl B.Iu) 129) (au ce) aF) (au (241 (aP 98) (dD 2 sc) (ak (bp (df (PW.pt (fU (dj dJ gM af 137 113) (dY (dj dJ gM af 137 113))))) (au ce) aF) (au (bp (aC fN (az xJ rfl B.IH boot_abs (137<*>ae)) (cZ rfl B.Ig) 129) (au ce) aF))))))
 try dsimp only[cxK]
 sleep 29;have ll:(as.map V.ref).length=A.length:=by rw[F1];exact r.1
 refine (aT al _ (rfl,.inl (aE.of el),dF (by rw[ll];lia) ?_))
 refine (al,rfl,(_,aE.of el),bL (xs:=as.map V.ref) (λi σ H'=>H=H'/\∃o2:Option V,σ= [IS al,some 216,o2]) (rfl,none,rfl) (λi σ H' _ h=>by rw[<-h.1];exact aE.of el) ?_ ?_)
 ·rintro i x σ H1 hx ⟨rfl,o2,rfl⟩;rw[F7] at hx;obtain ⟨t,ht,rfl⟩:=FT.mp hx;have il:i<A.length:=by rw[<-r.1];exact (F4.mp ht).1
  have et:=r.2 i t _ ht (F0 il);refine mK (ok _ (G5 il)) λa b g _hi=>?_
  refine iz _hi λe a0 a1 b0 b1 _hj=>?_
  refine cP _hj λg0 g1=>?_
  rw[e] at et;refine (244 (rfl,rfl,bT.of et,rfl,dT a0 (dT a1 (244 (rfl,rfl,bT.of et,rfl,dT b0 (nF b1 ?_))))));exact (244 (rfl,rfl,bT.of et,rfl,g,rfl,dF (by split<;>lia) (rfl,ν)))
 ·rintro σ H1 ⟨rfl,o2,rfl⟩;exact q
theorem Fh {dV:Value} (F:b6 K "refuse_wrong_pairs" "refuse_wrong_pairs" E7 dV f fd):240 1 f fd ["pairs","many"] nK:=by
 have sc:aK ["pairs","many","pair"] ["pairs","many"] (aB E7):=eR 78
 sleep 36
 refine mK h λpl m B2 _hi=>?_
 refine fh _hi λ_r1 _r2 l3 _hj=>?_
 refine cP _hj λok q=>?_
 sleep 24;obtain ⟨as,el,r⟩:=_r2;exists _,(ak (bp (aC fN 92 (cZ rfl B.Iq) 129) (au ce) aF) (au (241 (aP 98) (dD 2 sc) (ak (bp (df (PW.pt (fU (dj dJ gM af 137 113) (dY (dj dJ gM af 137 113))))) (au ce) aF) (au (bp (aC fF 137 137 129) (au ce) aF))))))
 try dsimp only[cxK]
 sleep 29;have ll:(as.map V.ref).length=B2.length:=by rw[F1];exact r.1
 refine (aT pl _ (rfl,.inl (aE.of el),dF (by rw[ll];lia) ?_))
 refine (pl,rfl,(_,aE.of el),bL (xs:=as.map V.ref) (λi σ H'=>H=H'/\∃o2:Option V,σ= [IS pl,some 216,o2]) (rfl,none,rfl) (λi σ H' _ h=>by rw[<-h.1];exact aE.of el) ?_ ?_)
 ·rintro i y σ H1 hy ⟨rfl,o2,rfl⟩;obtain ⟨t,ht,rfl⟩:=d9 hy;have il:i<B2.length:=by rw[<-r.1];exact (F4.mp ht).1
  have et:=r.2 i t _ ht (F0 il);refine kc (ok _ (G5 il)) λa b _hi=>?_
  refine iz _hi λe a0 a1 b0 b1 ab=>?_
  rw[e] at et;refine (244 (rfl,rfl,bT.of et,rfl,dT a0 (dT a1 (244 (rfl,rfl,bT.of et,rfl,dT b0 (nF b1 ?_))))));exact (244 (rfl,rfl,bT.of et,rfl,aQ t _ _ _ (rfl,rfl,bT.of et,rfl,rfl,FC ab (rfl,ν))))
 ·rintro σ H1 ⟨rfl,o2,rfl⟩;exact q
theorem Fi {dV:Value} (F:b6 K "__init__" "Net.__init__" Ek dV f fd) (DZ1:239 1 "points_of" ["net"] [] (jM Go)) (DZ2:239 1 "copy_of_task" ["ways"] [] oW) (DZ3:239 2 "refuse_wrong_tools" ["tools"] [] nH) (DZ5:239 2 "refuse_wrong_tasks" ["tasks","tools"] [] nJ) (DZ6:239 1 "refuse_wrong_arcs" ["arcs","points"] [] uH) (DZ7:239 1 "refuse_wrong_pairs" ["pairs","many"] [] nK):240 3 f fd ["self","tools","tasks","arcs","apart","moments"] (oX Go):=by
 have sc:aK ["self","tools","tasks","arcs","apart","moments"] ["self","tools","tasks","arcs","apart","moments"] (aB Ek):=eR 78
 sleep 36
 refine BI h λx dx td tl al v n D T _hi=>?_
 refine kc _hi λA B2 _hj=>?_
 refine iz _hj λ_r1 ex etd hT hA _hk=>?_
 refine ke _hk λhv ok q=>?_
 sleep 23;exists _,(ak (kR 98 (cQ iM rfl B.Ix iN 226) rfl) (ak (kR 98 (bZ (own:= "ways") (ys:= []) (js:= []) rfl 83 (aP 111) (λC fp s H=>(cy DZ2 hr 212))) rfl) (ak (kR 98 (cQ c6 rfl B.HM boot_list 238) rfl) (ak (kR 98 (kP (aC cV 118 bq 129) 102 (cQ c6 rfl B.HM boot_list 231)) rfl) (ak (kR 98 146 rfl) (ak (bU (cy DZ3 hr 217)) (ak (bU (cy DZ5 hr ((dL 98 rfl)<*>217))) (ak (bp (df (dj dJ dJ af 146 (cZ rfl B.Ii))) (au ce) aF) (ak (bU (cy DZ6 hr ((dL 98 rfl)<*>((cy DZ1 hr 212)<*>ae)))) (au (bU (cy DZ7 hr ((dL 98 rfl)<*>((242 217)<*>ae))))))))))))))
 try dsimp only[cxK]
 refine Dp ?_;intro D' r9 r8 r7 r6 r5 r4 r3 r2 r1;sleep 0;refine (aT td _ (rfl,etd,λtd' ntd=>?_))
 have g1:=ar ntd 115;refine (249 (rfl,g1 _ _ ex,B.Hu,B.Hy,by decide,?_))
 have e1:aI (aI H td' 115) x (.ins Go dx 139) x=some (.ins Go dx 139):=ao;have f1:Fx x H (aI (aI H td' 115) x (.ins Go dx 139)):=(Fx.of g1).trans (Fx.put x _ _);have d1:aI (aI H td' 115) x (.ins Go dx 139) td'=some (.dK (bv D)):=by
  rw[aJ (λz=>by rw[z,ex] at ntd;cases ntd)]
  exact ao
 generalize aI (aI H td' 115) x (.ins Go dx 139)=H1 at e1 f1 d1⊢;obtain ⟨vs,el,rT⟩:=hT.fx ex f1;clear g1 ntd;refine (tl,rfl,(_,aE.of el),bO dq (λa=>An a/\H1 a≠none) (λi=>T.getD i []) (aE.of el) (by rw[rT.1];have:=ok.t24;lia) (λa h=>h.2) (λi y hy H3 g Q' hQ=>?_) λp H2 np g2 hp=>?_)
 ·obtain ⟨ws,hw,hwl⟩:=rT.at_ hy;obtain ⟨l,rfl,_,lw⟩:=Ej hwl;obtain ⟨w1,w2,w3⟩:=ok.ways ws (F5 hw);rw[aL hw] at hQ;exact (b9 l ws _ (rfl,lw.same g,w2,λp H4 g4 _ wf=>hQ _ _ g4 wf))
 rw[ij T [] rT.1] at hp;have hT2:=hp.any;have e2:=g2 _ _ e1;have d2:=g2 _ _ d1;have f2:Fx x H H2:=f1.trans (Fx.of g2);clear hp g2 np rT el;refine ⟨x,_,dx,ν,e2,B.Hu,B.Hv,by
  have:=bK "tools" (.ref td') [];simp at*
  lia,?_⟩
 have e3:aI H2 x (.ins Go dx 80) x=some (.ins Go dx 80):=ao;have w3:Fx x H2 (aI H2 x (.ins Go dx 80)):=Fx.put x H2 _;generalize aI H2 x (.ins Go dx 80)=H3 at e3 w3⊢;have d3:=w3 _ _ (iX d2 e2 185) d2
 have hT3:=hT2.fx e2 w3;have f3:=f2.trans w3;clear d2 hT2 f2 w3 e2 e1 d1 f1;obtain ⟨bs,eal,rA⟩:=bx.fx hA ex f3;refine (aT al _ (rfl,.inl (aE.of eal),λal' nal=>?_))
 have g4:=ar nal (.lst (bs.map V.ref));have hA4:bx (aI H3 al' (.lst (bs.map V.ref))) al' A:=(bs,ao,rA.imp λa k q=>g4 _ _ q)
 have e4:=g4 _ _ e3;have d4:=g4 _ _ d3;have hT4:=hT3.same g4;have f4:=f3.trans (Fx.of g4);generalize aI H3 al' (.lst (bs.map V.ref))=H4 at hA4 e4 d4 hT4 f4⊢;clear g4 nal d3 hT3 f3 rA eal e3;refine ⟨x,_,dx,ν,e4,B.Hu,B.Id,by
  have:=bK "tools" (.ref td') [];have:=bK "tasks" 120 139;simp at*
  lia,?_⟩
 have e5:aI H4 x (.ins Go dx 155) x=some (.ins Go dx 155):=ao;have w5:Fx x H4 (aI H4 x (.ins Go dx 155)):=Fx.put x H4 _;generalize aI H4 x (.ins Go dx 155)=H5 at e5 w5⊢;have d5:=w5 _ _ (iX d4 e4 185) d4
 have hT5:=hT4.fx e4 w5;have hA5:=hA4.fx e4 w5;have f5:=f4.trans w5;clear d4 hT4 hA4 f4 w5 e4;try dsimp only[aZ,bz]
 refine dP (λNq=>∀(pl':Addr) (H':Hp),H' x=some (.ins Go dx (bC "apart" (.ref pl') 155))->H' td'=some 115->dG dq An H' p T->bx H' al' A->bx H' pl' B2->Fx x H H'->Nq [some (.ref x),some (.ref td),some 237,some (.ref al),some v,some (.int n)] H') 174 ?_
 ·have fin:∀(cs:IN) (pl':Addr),H5 pl'=none->cX (λt k=>H5 t=some (.tup (k.map V.int))) cs B2->N [some (.ref x),some (.ref td),some 237,some (.ref al),some v,some (.int n)] (aI (aI H5 pl' (.lst (cs.map V.ref))) x (.ins Go dx (bC "apart" (.ref pl') 155))):=λcs pl' npl rB=>by
   have g6:=ar npl (.lst (cs.map V.ref));have hB6:bx (aI H5 pl' (.lst (cs.map V.ref))) pl' B2:=(cs,ao,rB.imp λa k q=>g6 _ _ q)
   have e6:=g6 _ _ e5;have d6:=g6 _ _ d5;have hT6:=hT5.same g6;have hA6:=hA5.same g6;have f6:=f5.trans (Fx.of g6);generalize aI H5 pl' (.lst (cs.map V.ref))=H6 at hB6 e6 d6 hT6 hA6 f6⊢;have w7:Fx x H6 (aI H6 x (.ins Go dx (bC "apart" (.ref pl') 155))):=Fx.put x H6 _;exact hN pl' _ ao (w7 _ _ (iX d6 e6 185) d6) (hT6.fx e6 w7) (hA6.fx e6 w7) (hB6.fx e6 w7) (f6.trans w7)
  rcases hv with ⟨rfl,rfl⟩|⟨pl,rfl,hB⟩
  ·refine (rfl,mB.i (dT rfl (by show 0<=sizeLine;decide,λpl' npl=>?_)))
   have l3:(bC "arcs" (.ref al') 80).length<1000:=by
    have:=bK "tools" (.ref td') [];have:=bK "tasks" 120 139;have:=bK "arcs" (.ref al') 80;simp at*
    lia
   exact (249 (rfl,ar npl _ _ _ e5,B.Hu,B.Ia,l3,fin [] pl' npl cX.nil))
  ·obtain ⟨cs,epl,rB⟩:=bx.fx hB ex f5;refine ⟨rfl,mB.i (dF 185 (aT pl _ ⟨rfl,.inl (aE.of epl),λpl' npl=>?_⟩))⟩
   have l3:(bC "arcs" (.ref al') 80).length<1000:=by
    have:=bK "tools" (.ref td') [];have:=bK "tasks" 120 139;have:=bK "arcs" (.ref al') 80;simp at*
    lia
   exact (249 (rfl,ar npl _ _ _ e5,B.Hu,B.Ia,l3,fin cs pl' npl rB))
 clear d5 hT5 hA5 f5 e5;intro pl' H7 e7 d7 hT7 hA7 hB7 f7;have l4:(bC "apart" (.ref pl') 155).length<1000:=by
  have:=bK "tools" (.ref td') [];have:=bK "tasks" 120 139;have:=bK "arcs" (.ref al') 80;have:=bK "apart" (.ref pl') 155;simp at*
  lia
 refine (249 (rfl,e7,B.Hu,B.Ic,l4,?_));have e8:aI H7 x (.ins Go dx 150) x=some (.ins Go dx 150):=ao;have w8:Fx x H7 (aI H7 x (.ins Go dx 150)):=Fx.put x H7 _;change L2.aY _ _ _ _ (aI H7 x (.ins Go dx 150));generalize aI H7 x (.ins Go dx 150)=H8 at e8 w8⊢;have d8:=w8 _ _ (iX d7 e7 185) d7
 have hT8:=hT7.fx e7 w8;have hA8:=hA7.fx e7 w8;have hB8:=hB7.fx e7 w8;have f8:=f7.trans w8;clear d7 hT7 hA7 hB7 f7 w8 e7;obtain ⟨k1,k2,k3,k4,k5⟩:=Ac (td:= .ref td') (tl:= .ref p) (al:= .ref al') (pl:= .ref pl') (n:= .int n);have N8:mT Go false H8 x D T A B2 n:=(dx,td',p,al',pl',_,e8,k1,k2,k3,k4,k5,.inl d8,hT8,hA8,hB8);refine (249 (_,(rfl,e8,B.Hu,B.Hy,k1,aT td' D (rfl,d8,ok.d12,ok.tool,λH9 g9=>?_))))
 refine (249 (_,(rfl,(g9 _ _ e8),B.Hu,B.Hv,k2,aQ x _ dx _ (_,(rfl,(g9 _ _ e8),B.Hu,B.Hy,k1,aQ p td' D T (rfl,hT8.same g9,g9 _ _ d8,ok.t24,ok.ways,λH10 g10=>?_))))))
 have g:=g9.trans g10;refine (dT ok.n0 (nF ok.n8 ?_));refine (249 (_,(rfl,(g _ _ e8),B.Hu,B.Id,k3,fL x n false D T A (B2,(rfl,N8.same g,b9 al' _ A (rfl,hA8.same g,ok.a600,ok.arcs,?_))))));obtain ⟨ps,ep8,rp8⟩:=hT8.same g;refine (249 (_,(rfl,(g _ _ e8),B.Hu,B.Ia,k4,aQ x _ dx _ (_,(rfl,(g _ _ e8),B.Hu,B.Hv,k2,aT p _ (rfl,.inl (aE.of ep8),b9 pl' _ B2 (rfl,hB8.same g,ok.b300,λk hk=>?_,?_)))))))
 ·rw[rp8.1];exact ok.pairs k hk
 exact q _ (f8.trans (Fx.of g)) (N8.same g)
theorem Fj {dV:Value} (F:b6 K "use_in" "use_in" E9 dV f fd):240 1 f fd ["way","tool"] uN:=by
 have sc:aK ["way","tool","use"] ["way","tool"] (aB E9):=eR 78
 sleep 36
 refine ip h λv z w P0 _hi=>?_
 refine fh _hi λ_r1 _r2 q1 q0=>?_
 sleep 35;obtain ⟨t,u,rfl,_,_,et,us,eu,ru⟩:=_r2;exists _,(ak (241 (aP (aw aM 98 af 36)) (dD 2 sc) (au (bp (aC fF 137 113 129) (au (aG 111)) aF))) 234)
 try dsimp only[cxK]
 sleep 29;refine (244 (rfl,rfl,bT.of et,rfl,u,rfl,(_,aE.of eu),bL (xs:=us) (λi σ H'=>H=H'/\(∃o2:Option V,σ= [IS t,some (.str z),o2])/\∀(j:Nat) (e:Us),j<i->w.2.2[j]?=some e->e.1≠z) (rfl,(none,rfl),λj e h=>absurd h 72) (λi σ H' _ h=>by rw[<-h.1];exact aE.of eu) ?_ ?_))
 ·rintro i y σ H1 hy ⟨rfl,⟨o2,rfl⟩,hn⟩;obtain ⟨e,he,a,rfl,pa,ea⟩:=ru.at_ hy;refine (aQ a _ _ _ (rfl,rfl,bT.of ea,rfl,rfl,d2 165 165))
  ·exact (q1 e a (oY (us:=w.2.2) he (by injection c) hn) pa ea)
  ·refine (rfl,⟨ν⟩,λj e' hj he'=>?_)
   rcases GQ.mp hj with h|h
   ·exact hn j e' h he'
   ·subst h;rw[he] at he';cases he';exact λz=>c (by rw[z])
 ·rintro σ H1 ⟨rfl,⟨o2,rfl⟩,hn⟩;exact q0 (Af λj e he=>hn j e (by rw[ru.1];exact (F4.mp he).1) he)
theorem Dq {dV:Value} (F:b6 K "many_in" "many_in" BJ dV f fd) (DZ9:239 1 "use_in" ["way","tool"] [] uN):240 2 f fd ["way","tool"] jq:=by
 have sc:aK ["way","tool","use"] ["way","tool"] (aB BJ):=eR 78
 sleep 36
 obtain ⟨v,z,w,rfl,rw',q⟩:=h;exists _,(ak (cz 2 sc (cy DZ9 hr (98<*>226))) (au (aG (kP (aC cV 111 bq 129) af 137))))
 try dsimp only[cxK]
 sleep 29;refine (aQ v z w _ (rfl,rw',λu a hu _ ha=>?_,λhn=>?_))
 ·rw[gZ hu] at q;exact (rfl,mB.i (dF nofun (aQ a _ _ _ (rfl,rfl,bT.of ha,rfl,q))))
 ·rw[gY hn] at q;exact (rfl,mB.i (dT rfl q))
theorem Dr {dV:Value} (F:b6 K "open_ways" "open_ways" BK dV f fd) (DZ2:239 1 "copy_of_task" ["ways"] [] oW):240 2 f fd ["net","case","i"] (tG Go):=by
 have sc:aK ["net","case","i","ways","pick"] ["net","case","i"] (aB BK):=eR 78
 sleep 36
 refine mK h λx t i _hi=>?_
 refine cP _hi λ_r1 _hj=>?_
 refine iy _hj λD T A B2 n P _hk=>?_
 refine eG _hk λO _hl=>?_
 refine ke _hl λNC il q=>?_
 clear h _hi _hj _hk _hl;subst _r1;exists _,(ak (cz 3 sc (cy DZ2 hr ((248 (dL 98 rfl) 111 36)<*>ae))) (ak (cz 4 sc (248 (aw aM 113 af 36) 111 36)) (au (aG (kP (aC cV 118 bq 129) 124 (@aU _ _ _ _ ((248 124 118 36)<*>ae)))))))
 try dsimp only[cxK]
 sleep 17;refine iy NC.net.ex λdx td tl al pl fs _hi=>?_
 refine vE _hi λe0 l1 l2 l3 l4 l5 ed _r1 _hj=>?_
 refine cP _hj λhA hB=>?_
 obtain ⟨vs,el,rT⟩:=_r1;obtain ⟨kl,ol,ec,ek,ho⟩:=id NC.case_;have hT:=F0 il;have ol':=hE (P:=P) NC.ok.ways il;obtain ⟨w1,w2,_⟩:=NC.ok.ways _ (G5 il);obtain ⟨y,hy,wl,rfl,_,lw⟩:=rT.get hT;have hP:=F0 (show i<P.length by rw[NC.pk.len];exact il)
 have oF:bA T P i=match P[i]'(by rw[NC.pk.len];exact il) with|none=>T[i]|some j=> [(T[i]).getD j (0,0,[])]:=by
  unfold bA;rw[aL hT,aL hP];try rfl
 refine (249 (_,(rfl,e0,B.Hu,B.Hv,l2,aQ tl _ _ _ (rfl,rfl,aE.of el,(bV hy),b9 wl _ _ (rfl,lw,w2,λp H1 g1 np wf=>?_)))))
 refine (244 (rfl,rfl,bT.of (253 ec),rfl,aQ kl _ _ _ (rfl,rfl,aE.of (253 ek),(bV (cu hP)),?_)));obtain ⟨p',e',hpn,lp⟩:=wf;cases e';have lpA:=lp.any;cases hp:P[i]'(by rw[NC.pk.len];exact il) with
 |none=>
  rw[hp] at oF;refine (rfl,mB.i (dT rfl (mV.i ?_)));rw[oF] at q;exact q p H1 g1 np lpA
 |some j=>
  rw[hp] at oF hP;have jl:=NC.pk.pick i j _ hP hT;have hw:=F0 jl;replace oF:bA T P i= [(T[i]).getD j (0,0,[])]:=oF;rw[aL hw] at oF;obtain ⟨ys,ey,ry⟩:=lpA;obtain ⟨v,hv,rv⟩:=ry.get hw;refine (rfl,mB.i (dF nofun (aQ p _ _ _ (rfl,rfl,aE.of ey,(bV hv),by show 1<=sizeLine;decide,λp2 np2=>?_))))
  rw[oF] at q;exact q p2 _ (g1.trans (ar np2 _)) (g1.free np2) (_,ao,A2.one (mi rv (ar np2 _)))
theorem Ds {dV:Value} (F:b6 K "work_of" "work_of" BL dV f fd) (DZ10:239 2 "many_in" ["way","tool"] [] jq) (DZ11:239 2 "open_ways" ["net","case","i"] [] (tG Go)):240 3 f fd ["net","case","i","tool"] (yP Go aV):=by
 have sc:aK ["net","case","i","tool"] ["net","case","i","tool"] (aB BL):=eR 78
 sleep 36
 refine ip h λx t i z _hi=>?_
 refine cP _hi λ_r1 _hj=>?_
 refine iy _hj λD T A B2 n P _hk=>?_
 refine eG _hk λO _hl=>?_
 refine ke _hl λNC il q=>?_
 clear h _hi _hj _hk _hl;subst _r1;exists _,(au (aG (246 ((bZ (own:= "way") (ys:= ["tool"]) (js:= [3]) rfl 88 (aP (cy DZ11 hr (98<*>(113<*>207)))) (λC fp s H=>(av bj 84 (cy DZ10 hr (98<*>226)))))<*>ae))))
 try dsimp only[cxK]
 sleep 0;have ne:=kD (P:=P) NC.ok.ways il;have ln:=hE (P:=P) NC.ok.ways il;refine (b9 x t i (rfl,fL D T A B2 n P (O,(NC,il,λp H1 g1 np (vs,ev,rv)=>?_))))
 refine (p,rfl,(_,aE.of ev),bO 203 133 (λk=>(λw:Wy=>w.1*bX w z) 194) (aE.of ev) (by rw[rv.1];lia) 112 (λk y hy H2 g2 Q' hQ=>?_) λp2 H2 np2 g2 hp=>?_)
 ·obtain ⟨w,hw,rw'⟩:=rv.at_ hy;rw[aL hw] at hQ;obtain ⟨tw,uw,rfl,pa,pb,etw,lw⟩:=id rw';have w1:1<=w.1/\w.1<=1000000000:=by
   obtain ⟨ws,hws,hww⟩:=pB NC.ok.ways NC.pk il w (F5 hw);obtain ⟨a1,a2,a3,_⟩:=(NC.ok.ways ws hws).2.2 w hww
   lia
  exact (aQ tw _ _ _ (rfl,rfl,bT.of (g2 _ _ etw),rfl,b9 (.ref tw) z w (rfl,mi rw' g2,89 147,hQ _ _ 168 rfl)))
 ·obtain ⟨us,eu,ru⟩:=hp;have eus:us=((bA T P i).map λw:Wy=>w.1*bX w z).map V.int:=by
   rw[ru.val,rv.1]
   conv=>rhs;rw[<-cD (bA T P i) (0,0,[])]
   rw[G1,G1,G1]
   rfl
  rw[eus] at eu;refine (aT p2 _ (rfl,aE.of eu,by simpa using ne,λM hM hle=>?_))
  rw[eE hM hle];exact q _ (g1.trans g2)
theorem Dt {dV:Value} (F:b6 K "arcs_of" "arcs_of" BM dV f fd) (DZ11:239 2 "open_ways" ["net","case","i"] [] (tG Go)):240 3 f fd ["net","case"] (rh Go):=by
 have sc:aK ["net","case","arcs","i","ways","j"] ["net","case"] (aB BM):=eR 78
 sleep 36
 refine kc h λx t _hi=>?_
 refine cP _hi λ_r1 _hj=>?_
 refine iy _hj λD T A B2 n P _hk=>?_
 refine eG _hk λO _hl=>?_
 refine ke _hl λNC po q=>?_
 clear h _hi _hj _hk _hl;subst _r1;exists _,(ak (cz 2 sc (cQ c6 rfl B.HM boot_list 217)) (ak (241 (251 ((242 217)<*>ae)) (dD 3 sc) (ak (cz 4 sc (cy DZ11 hr (98<*>(113<*>238)))) (ak (bU (243 111 ((@bR _ _ _ _ _ ((247 124)<*>((250 (247 124) af)<*>((246 ((bZ (own:= "way") (ys:= []) (js:= []) rfl 83 (aP 118) 225)<*>ae))<*>ae))))<*>ae))) (au (bU (243 111 ((@bR _ _ _ _ _ ((250 (247 124) af)<*>((247 124)<*>((gI eV (az (gi rfl) rfl B.Ie boot_max ((bZ (own:= "way") (ys:= []) (js:= []) rfl 83 (aP 118) 225)<*>ae)))<*>ae))))<*>ae))))))) (ak (241 (aP (aw aM 113 af 36)) (fD rfl (bw (dD 3 sc) (bw 230 dI))) (au (bU (243 111 ((@bR _ _ _ _ _ ((250 (247 124) af)<*>((247 146)<*>(af<*>ae))))<*>ae))))) (au (aG 111)))))
 try dsimp only[cxK]
 sleep 28;sleep 0;refine iy NC.net.ex λdx td tl al pl fs _hi=>?_
 refine vE _hi λe0 l1 l2 l3 l4 l5 ed _r1 _hj=>?_
 refine cP _hj λ_r2 hB=>?_
 obtain ⟨vs,el,rT⟩:=_r1;obtain ⟨ba,ea,ra⟩:=_r2;obtain ⟨kl,ol,ec,ek,⟨bo,eo,ro⟩⟩:=id NC.case_;have a600:=NC.ok.a600;have t24:=NC.ok.t24;have lv:vs.length=T.length:=rT.1;refine (249 (_,(rfl,e0,B.Hu,B.Id,l3,aT al _ (rfl,.inl (aE.of ea),λl nl=>?_))))
 have g0:=ar nl 179;have hA0:bx (aI H l 179) l (A++cN T P 0):=(ba,ao,by rw[show A++cN T P 0=A from Gn A];exact ra.imp λa k q=>g0 _ _ q)
 generalize aI H l 179=H0 at g0 hA0⊢;try dsimp only[aZ,bz]
 refine dP (λNq=>∀(o3 o4 o5:Option V) (H':Hp),aA H H'->bx H' l (A++cN T P T.length)->Nq [some (.ref x),some 223,some 187,o3,o4,o5] H') 174 ?_
 ·refine (249 (_,(rfl,(g0 _ _ e0),B.Hu,B.Hv,l2,aT tl _ (rfl,.inl (aE.of (g0 _ _ el)),ν,by lia,by lia,bE (λi σ H'=>∃o3 o4 o5:Option V,σ= [IS x,IS t,IS l,o3,o4,o5]/\aA H H'/\bx H' l (A++cN T P i)) (b9 none none none (rfl,g0,hA0)) ?_ ?_))))
  ·rintro i σ H1 hi ⟨o3,o4,o5,rfl,g1,⟨bs,eb,rb⟩⟩;rw[FO,lv] at hi;have zi:121=(i:Int):=Gp _;have ne:=kD (P:=P) NC.ok.ways hi;have ln:=hE (P:=P) NC.ok.ways hi;have lb:bs.length=A.length+2*i:=by rw[rb.1,FP,cS]
   refine (b9 x t i (by rw[zi];rfl,fL D T A B2 n P (O,(NC.same g1,hi,λp H2 g2 np (vs,ev,rv)=>?_))))
   refine (.inl (rfl,_,aE.of (g2 _ _ eb)),89 73,89 73,p,rfl,(_,aE.of ev),bO 203 133 (λk=>(λw:Wy=>w.1) 194) (aE.of ev) (by rw[rv.1];lia) 112 130 λp2 H3 np2 g3 hp2=>?_)
   ·refine eG (rv.at_ hy) λw _hi=>?_
    sleep 30
    refine kc _hj λtw uw _hk=>?_
    sleep 33
    refine cP _hl λetw _=>?_
    clear _hi _hj _hk _hl;subst _r1;rw[aL hw] at hQ;exact (aQ tw _ _ _ (rfl,rfl,bT.of (gk _ _ etw),rfl,hQ _ _ 168 rfl))
   obtain ⟨us,eu,ru⟩:=hp2;have eus:us=((bA T P i).map λw:Wy=>w.1).map V.int:=by
    rw[ru.val,rv.1]
    conv=>rhs;rw[<-cD (bA T P i) (0,0,[])]
    rw[G1,G1,G1]
    rfl
   rw[eus] at eu;refine (aT p2 _ (rfl,aE.of eu,by simpa using ne,λM hM hle=>(by show 3<=sizeLine;decide,λt1 nt1=>(b9 l _ _ (rfl,rfl,ar nt1 _ _ _ ((g2.trans g3) _ _ eb),by rw[F1];lia,?_)))))
   rw[zi,eE hM hle];obtain ⟨m1,hm1⟩:∃m1,m1=dU ((bA T P i).map λw:Wy=>w.1):=⟨_,rfl⟩
   rw[<-hm1];have gt1:=ar nt1 151;have k4:=((g1.trans g2).trans g3).trans gt1;have q4:=(g2.trans g3).trans gt1;have hA4:=eK (k:= [2*(i:Int),2*(i:Int)+1,m1]) (q4 _ _ eb) (rb.imp λa k q=>q4 _ _ q) ao
   have k5:=dE k4 nl 138;have ev5:aI (aI H3 t1 151) l 138 p=some (.lst vs):=by
    rw[aJ (λe=>by rw[e,eb] at np;cases np)]
    exact (g3.trans gt1) _ _ ev
   have tw5:∀tw ys,H2 tw=some (.tup ys)->aI (aI H3 t1 151) l 138 tw=some (.tup ys):=λtw ys e=>by
    rw[aJ (λz=>by rw[z,g2 _ _ eb] at e;cases e)]
    exact (g3.trans gt1) _ _ e
   generalize aI (aI H3 t1 151) l 138=H5 at hA4 k5 ev5 tw5⊢;clear eu eus ru us gt1 k4 q4 nt1 g3 np2;obtain ⟨cs,ecs,rcs⟩:=hA4;have lc:cs.length=A.length+2*i+1:=by rw[rcs.1,FP,FP,cS];rfl
   refine (.inl (rfl,_,aE.of ecs),89 73,89 73,p,rfl,(_,aE.of ev5),bO 203 133 (λk=>(λw:Wy=>w.2.1) 194) (aE.of ev5) (by rw[rv.1];lia) 112 130 λp3 H6 np3 g6 hp3=>?_)
   ·refine eG (rv.at_ hy) λw _hi=>?_
    sleep 30
    refine kc _hj λtw uw _hk=>?_
    sleep 33
    refine cP _hl λetw _=>?_
    clear _hi _hj _hk _hl;subst _r1;rw[aL hw] at hQ;exact (aQ tw _ _ _ (rfl,rfl,bT.of (gk _ _ (tw5 _ _ etw)),rfl,hQ _ _ 168 rfl))
   obtain ⟨us,eu,ru⟩:=hp3;have eus:us=((bA T P i).map λw:Wy=>w.2.1).map V.int:=by
    rw[ru.val,rv.1]
    conv=>rhs;rw[<-cD (bA T P i) (0,0,[])]
    rw[G1,G1,G1]
    rfl
   rw[eus] at eu;refine (aT p3 _ (rfl,aE.of eu,by simpa using ne,λM2 hM2 hle2=>(ν,by show 3<=sizeLine;decide,λt2 nt2=>(b9 l _ _ (rfl,rfl,ar nt2 _ _ _ (g6 _ _ ecs),by rw[F1];lia,?_)))))
   rw[u9 hM2 hle2];have gt2:=ar nt2 (.tup [.int 107,.int 114,.int (-(ki 186))])
   have hA7:=eK (k:= [2*(i:Int)+1,2*(i:Int),-(ki 186)]) ((g6.trans gt2) _ _ ecs) (rcs.imp λa k q=>(g6.trans gt2) _ _ q) ao
   refine (b9 _ _ _ (rfl,dE ((k5.trans g6).trans gt2) nl _,?_));have e:A++cN T P 176=A++cN T P i++ [[2*(i:Int),2*(i:Int)+1,m1]]++ [[2*(i:Int)+1,2*(i:Int),-(ki 186)]]:=by
    rw[hm1];show A++(cN T P i++_)=_;rw[Gi,Gi]
    rfl
   rw[e];exact hA7
  ·rintro σ H1 ⟨o3,o4,o5,rfl,g1,hA⟩;rw[FO,lv] at hA;exact hN _ _ _ _ g1 hA
 clear hA0 g0;intro o3 o4 o5 H1 g1 hA;refine (244 ⟨rfl,rfl,bT.of (253 ec),rfl,ol,rfl,⟨_,aE.of (253 eo)⟩,bL (xs:=bo.map V.ref) (λk σ H'=>∃o3 o4 o5:Option V,σ= [IS x,IS t,IS l,o3,o4,o5]/\aA H H'/\bx H' l (A++cN T P T.length++iw (O.take k))) (b9 _ _ _ ⟨rfl,g1,by rw[List.take_zero];exact (Gn _).symm▸hA⟩) (λk σ H' _ h=>by obtain ⟨_,_,_,_,g,_⟩:=h;exact aE.of (g _ _ eo)) ?_ ?_⟩)
 ·rintro k y σ H2 hy ⟨o3,o4,o5,rfl,g2,⟨bs,eb,rb⟩⟩;sleep 32;have kl:k<O.length:=by rw[<-ro.1];exact (F4.mp hb).1
  have hk:=F0 kl;have eb':=ro.2 k b _ hb hk;obtain ⟨p,q',ek'⟩:=po.2 _ (G5 kl);rw[ek'] at eb' hk;have lb:bs.length<=2000:=by
   have:=rb.1;have h1:=po.1;rw[FP,FP,cS] at this;unfold iw at this;rw[F1,GA] at this
   lia
  refine (aT b _ (rfl,bT.of (g2 _ _ eb'),rfl,aT _ _ 171));refine (.inl (rfl,_,aE.of eb),89 73,89 73,by show 3<=sizeLine;decide,λt1 nt1=>(b9 l _ _ (rfl,rfl,ar nt1 _ _ _ eb,by rw[F1];lia,?_)))
  have gt:=ar nt1 (.tup [.int (2*p+1),.int (2*q'),.int 0]);refine (b9 _ _ _ (rfl,dE (g2.trans gt) nl _,?_));have e:iw (O.take 224)=iw (O.take k)++ [[2*p+1,2*q',0]]:=by
   unfold iw;rw[cq hk,G8]
   rfl
  rw[e,<-Gi];exact eK (gt _ _ eb) (rb.imp λa k q=>gt _ _ q) ao
 ·rintro σ H2 ⟨o3,o4,o5,rfl,g2,hA2⟩;have lo:(bo.map V.ref).length=O.length:=by rw[F1,ro.1]
  rw[lo,GN] at hA2;exact (q l H2 g2 nl hA2)
theorem Du {dV:Value} (F:b6 K "raise_times" "raise_times" BN dV f fd):240 1 f fd ["times","ahead","arcs"] uU:=by
 have sc:aK ["times","ahead","arcs","raised","p","q","lag"] ["times","ahead","arcs"] (aB BN):=eR 78
 sleep 36
 refine BI h λlt lp la A n k tm ah ag _hi=>?_
 refine eG _hi λpn _hj=>?_
 refine fh _hj λ_r1 R0 ps q=>?_
 sleep 24;exists _,(ak (cz 3 sc bq) (ak (241 (aP 111) (fD rfl (bw (dD 4 sc) (bw 230 (bw (dD 6 sc) dI)))) (au (bp (aC fN (250 (248 98 118 36) 232) (248 98 146 36) 129) (ak (jw (250 (248 98 118 36) 232) (oo 98 146 set_list)) (ak (jw 118 (oo 113 146 set_list)) (au (cz 3 sc 146)))) aF))) (au (aG 124))))
 try dsimp only[cxK]
 sleep 17;sleep 0;obtain ⟨as,el,rA⟩:=R0.arcs;have lA:(as.map V.ref).length=A.length:=by rw[F1,rA.1,F1]
 refine (la,rfl,(_,aE.of el),bL (xs:=as.map V.ref) (λi σ H'=>∃(o4 o5 o6:Option V) (r:Option Int) (tm':Int->Int) (ah':Int->Option Int) (ag':Int->Int) (pn':Int->Nat),σ= [IS lt,IS lp,IS la,some (oV r),o4,o5,o6]/\iS lt lp H H'/\xc H' lt lp la A n tm' ah' ag'/\PS A k i tm' ah' pn'/\(∀q,r=some q->pn' q=k/\0<=q/\q<(n:Int))/\(r=none->∀j a,j<i->A[j]?=some a->tm' a.1+a.2.2<=tm' a.2.1)) (fL none none none none tm ah (aT ag pn (rfl,λb o _ _ h=>h,R0,ps,nofun,λ_ j a h=>by lia))) (λi σ H' _ (_,_,_,_,_,_,_,_,_,b,_)=>aE.of (b _ _ R0.nt R0.np el)) ?_ ?_)
 ·intro i y σ H1 hy h_;refine iy h_ λo4 o5 o6 r tm' ah' _hi=>?_
  refine kc _hi λag' pn' _hj=>?_
  refine iz _hj λ_r1 b1 R1 ps1 hr1 hn1=>?_
  sleep 5;sleep 32;obtain ⟨a,ha',eb⟩:=gS rA hb;have eb1:=b1.tup R0.et R0.ep eb;have am:=F5 ha';obtain ⟨p0,p1,q0,q1⟩:=R0.inr a am;refine (aT b _ (rfl,bT.of eb1,rfl,aT _ _ (rfl,aT _ _ 171)));refine (aQ lt _ _ _ (rfl,rfl,aE.of R1.et,(mw p0 p1),aQ lt _ _ _ (rfl,rfl,aE.of R1.et,(mw q0 q1),d2 165 165)))
  ·have c:tm' a.1+a.2.2>tm' a.2.1:=c;refine (aQ lt _ _ _ (rfl,rfl,aE.of R1.et,(mw p0 p1),aQ lt _ _ a.2.1.toNat (rfl,rfl,R1.et,pA q0 (by rw[F1,gH];exact q1),?_)))
   rw[qW q0 q1];have ep2:aI H1 lt (.lst ((lst n (c5 tm' a.2.1 (tm' a.1+a.2.2))).map V.int)) lp=some (.lst ((lst n ah').map oV)):=by rw[aJ R0.ne.symm];exact R1.ep
   refine (aQ lp _ _ a.2.1.toNat (rfl,rfl,ep2,pA q0 (by rw[F1,gH];exact q1),?_))
   rw[yN q0 q1];refine (fL _ _ _ (some a.2.1) (c5 tm' a.2.1 (tm' a.1+a.2.2)) (c5 ah' a.2.1 (some a.1)) (aT (c5 ag' a.2.1 a.2.2) (c5 pn' a.2.1 k) (rfl,nO (im b1),?_,ps1.put ha' c,?_,nofun)))
   ·have bb:iS lt lp H1 (aI (aI H1 lt (.lst ((lst n (c5 tm' a.2.1 (tm' a.1+a.2.2))).map V.int))) lp (.lst ((lst n (c5 ah' a.2.1 (some a.1))).map oV))):=nO (im (λb o _ _ h=>h))
    exact (by rw[aJ R0.ne];exact ao,ao,R0.ne,R0.nt,R0.np,R1.arcs.but bb R1.et R1.ep R0.nt R0.np,R0.la7,R0.n7,R0.inr,R1.bf.put am c)
   ·intro q hq;cases hq;exact (bP,q0,q1)
  ·have c:¬tm' a.1+a.2.2>tm' a.2.1:=c;refine (fL _ _ _ r tm' ah' (aT ag' pn' (rfl,b1,R1,ps1.skip ha' c,hr1,λhn j a' hj e=>?_)))
   by_cases z:j=i
   ·subst z;rw[ha'] at e;cases e
    lia
   ·exact hn1 hn j a' 72 e
 ·intro σ H1 h_;refine iy h_ λo4 o5 o6 r tm' ah' _hi=>?_
  refine kc _hi λag' pn' _hj=>?_
  refine iz _hj λ_r1 b1 R1 ps1 hr1 hn1=>?_
  sleep 5;rw[lA] at ps1 hn1;refine (q H1 tm' ah' ag' pn' r b1 R1 ps1 hr1 λhn a ha=>?_)
  obtain ⟨j,hj⟩:=FR.mp ha;exact hn1 hn j a (F4.mp hj).1 hj
theorem Dv {dV:Value} (F:b6 K "chain_to" "chain_to" BO dV f fd):240 1 f fd ["ahead","point"] nQ:=by
 have sc:aK ["ahead","point","chain"] ["ahead","point"] (aB BO):=eR 78
 sleep 36
 refine iy h λlp x A n tm ah _hi=>?_
 refine eG _hi λag _hj=>?_
 refine vE _hj λ_r1 ep n7 x0 x1 ir bf kp q=>?_
 sleep 24;exists _,(ak (cz 2 sc (@aU _ _ _ _ 226)) (ak (pT 81 (aC kq (248 98 (248 111 (gI eV af) 36) 36) bq 129) (au (bU (243 111 ((248 98 (248 111 (gI eV af) 36) 36)<*>ae))))) (au (aG (gF rfl rfl B.HM rfl B.Ib boot_list PyProof.Rows.Boot.«reversed» 111)))))
 try dsimp only[cxK]
 sleep 17;sleep 0;refine (by show 1<=sizeLine;decide,λl nl=>?_)
 exists λm σ H'=>∃r:List Int,σ= [IS lp,some (.int x),IS l]/\aA H H'/\H' l=some (.lst ((x::r).map V.int))/\WL ah (x::r)/\(∀z∈x::r,0<=z/\z<(n:Int))/\m=n-r.length,(aT n [] (rfl,ar nl _,ao,trivial,λz hz=>by rw[FM.mp hz];exact (x0,x1),rfl))
 rintro m σ H1 ⟨r,rfl,g1,el,w,hr',rfl⟩;have lastV:((x::r).map V.int).getLast?=some (.int ((x::r).getLast 82)):=by rw[List.getLast?_map,Gj 82];rfl
 have hlast:=hr' _ (List.getLast_mem (l:=x::r) 82)
 have hfew:=mj (WL.nodup (bf.acyc kp) w) hr';have lst?:(x::r).getLast?=some ((x::r).getLast 82):=Gj 82
 generalize hz:(x::r).getLast 82=z at lastV hlast lst?
 have ep1:=g1 _ _ ep;simp at hfew;refine (ν,aQ l _ _ _ (rfl,rfl,aE.of el,(kx lastV),aQ lp _ _ _ (rfl,rfl,aE.of ep1,(AL hlast.1 hlast.2),rfl,mB.i ?_)));cases ha:ah z with
 |none=>
  refine nF rfl (aT l _ (rfl,aE.of el,λp np=>?_))
  refine q p (x::r).reverse _ (g1.free np) (g1.trans 236) (by rw[ao,List.map_reverse]) (bf.chain kp w hr' (by rw[hz];exact ha))
 |some y=>
  have yr:=bf.inR ir ha;refine nT nofun ⟨λσ H'=>∃r':List Int,σ= [IS lp,some (.int x),IS l]/\aA H H'/\H' l=some (.lst ((x::r').map V.int))/\WL ah (x::r')/\(∀z∈x::r',0<=z/\z<(n:Int))/\r'.length=r.length+1,λσ H' ⟨r',h1,h2,h3,h4,h5,h6⟩=>⟨n-r'.length,by lia,r',h1,h2,h3,h4,h5,rfl⟩,?_⟩
  refine (.inl (rfl,_,aE.of el),ν,aQ l _ _ _ (rfl,rfl,aE.of el,(kx lastV),aQ lp _ _ _ (rfl,rfl,aE.of ep1,(tF hlast.1 hlast.2 ha),b9 l _ _ (rfl,rfl,el,by rw[F1];simp;lia,?_))))
  refine (r++ [y],rfl,dE g1 nl _,?_,WL.snoc w lst? ha,λv hv=>?_,by simp)
  ·rw[ao,qV]
  ·rcases FS.mp (show v∈(x::r)++ [y] from hv) with h|h
   ·exact hr' v h
   ·rw[FM.mp h];exact yr
theorem Dw {dV:Value} (F:b6 K "ring_behind" "ring_behind" BP dV f fd):240 1 f fd ["ahead","point"] uV:=by
 have sc:aK ["ahead","point","first","step","ring"] ["ahead","point"] (aB BP):=eR 78
 sleep 36
 refine BI h λlp q A n k i0 tm ah ag _hi=>?_
 refine eG _hi λpn _hj=>?_
 refine vE _hj λ_r1 ep n7 q0 q1 ir bf ps _hk=>?_
 refine cP _hk λpq K'=>?_
 sleep 23;exists _,(ak (cz 2 sc 113) (ak (241 182 (dD 3 sc) (au (cz 2 sc (248 98 111 36)))) (ak (cz 4 sc (@aU _ _ _ _ 207)) (ak (pT 81 (aC iZ (248 98 (248 118 (gI eV af) 36) 36) 111 129) (au (bU (243 118 ((248 98 (248 118 (gI eV af) 36) 36)<*>ae))))) (au (aG (gF rfl rfl B.HM rfl B.Ib boot_list PyProof.Rows.Boot.«reversed» 118)))))))
 try dsimp only[cxK]
 refine Fp ?_;intro D' r4 r3 r2 r1;sleep 0;have ll:((lst n ah).map oV).length=n:=by rw[F1,gH]
 try dsimp only[aZ,bz]
 refine dP (λNq=>Nq [some (.ref lp),some (.int q),some (.int q),none,none] H) (λN hN=>hN) ?_
 refine cut (λσ H'=>H=H'/\∃(o3:Option V) (y s:Int),σ= [IS lp,some (.int q),some (.int y),o3,none]/\0<=y/\y<(n:Int)/\fM ah ag q n y s) 174 ?_
 ·refine (aT lp _ (rfl,.inl (aE.of ep),ν,by lia,by lia,bE (λi σ H'=>H=H'/\∃(o3:Option V) (y s:Int),σ= [IS lp,some (.int q),some (.int y),o3,none]/\0<=y/\y<(n:Int)/\fM ah ag q i y s/\n<=pn y+i) (rfl,b9 none q 0 (rfl,q0,q1,.nil q,by lia)) ?_ ?_))
  ·intro i σ H1 hi h_;refine cP h_ λ_r1 _hi=>?_
   refine mK _hi λo3 y s _hj=>?_
   refine fh _hj λ_r2 y0 y1 _hk=>?_
   refine cP _hk λw hp=>?_
   sleep 21;subst _r2;obtain ⟨z,ez,_⟩:=ps.step y 72
   obtain ⟨z',s',w',hp'⟩:=ps.back ag (q:=q) 176 72
   obtain ⟨y2,s1,s2,w1,w2,_⟩:=w'.split;obtain ⟨rfl,_⟩:=w.uniq w1;have ez':z'=z:=by
    have:=(fM.cons (ag:=ag) ez (.nil z)).uniq w2;exact this.1.symm
   subst ez';have zr:=bf.inR ir ez;exact (aQ lp _ _ _ (rfl,rfl,aE.of ep,(tF y0 y1 ez),rfl,b9 _ _ s' (rfl,zr.1,zr.2,w',by lia)))
  ·intro σ H1 h_;refine cP h_ λ_r1 _hi=>?_
   refine mK _hi λo3 y s _hj=>?_
   refine fh _hj λ_r2 y0 y1 _hk=>?_
   refine cP _hk λw _=>?_
   sleep 21;subst _r2;rw[show ((((lst n ah).map oV).length:Int)).toNat=n by lia] at w
   exact hN _ _ (rfl,b9 o3 y s (rfl,y0,y1,w))
 intro σ H0 h_;refine cP h_ λ_r1 _hi=>?_
 refine mK _hi λo3 y s _hj=>?_
 refine fh _hj λ_r2 y0 y1 w=>?_
 sleep 5;subst _r2;obtain ⟨d,s',d0,dn,wd⟩:=qS (λx z e=>bf.inR ir e) ⟨q0,q1⟩ w
 refine (by show 1<=sizeLine;decide,λl nl=>?_)
 exists λm σ H'=>∃r:List Int,σ= [IS lp,some (.int q),some (.int y),o3,IS l]/\aA H H'/\H' l=some (.lst ((y::r).map V.int))/\WL ah (y::r)/\(∀z∈y::r,0<=z/\z<(n:Int))/\y∉r/\r.length<d/\m=d-r.length,(aT d [] (rfl,ar nl _,ao,trivial,λz hz=>by rw[FM.mp hz];exact (y0,y1),by simp,d0,rfl))
 intro m σ H1 h_;refine eG h_ λr _hi=>?_
 refine iz _hi λ_r1 g1 el wl hr' _hj=>?_
 refine ke _hj λny rd _r2=>?_
 sleep 5;subst _r2;have lastV:((y::r).map V.int).getLast?=some (.int ((y::r).getLast 82)):=by rw[List.getLast?_map,Gj 82];rfl
 have hlast:=hr' _ (List.getLast_mem (l:=y::r) 82)
 have lst?:(y::r).getLast?=some ((y::r).getLast 82):=Gj 82
 have wk:=WL.walk (ag:=ag) wl;generalize hz:(y::r).getLast 82=z at lastV hlast lst? wk
 have ep1:=g1 _ _ ep;obtain ⟨e,he⟩:∃e,d=r.length+(e+1):=⟨d-r.length-1,by lia⟩
 rw[he] at wd;obtain ⟨z',s1,s2,w1,w2,_⟩:=wd.split;obtain ⟨rfl,_⟩:=wk.uniq w1;obtain ⟨v,ev⟩:∃v,ah z=some v:=by
  cases w2 with
  |cons h _=>exact ⟨_,h⟩
 have vr:=bf.inR ir ev;have ix1:fV ((lst n ah).map oV) z=some (.int v):=tF hlast.1 hlast.2 ev;refine (ν,aQ l _ _ _ (rfl,rfl,aE.of el,(kx lastV),aQ lp _ _ _ (rfl,rfl,aE.of ep1,ix1,rfl,n2 165 165)))
 ·have cv:v≠y:=λz=>c (by rw[z])
  exists λσ H'=>∃r':List Int,σ= [IS lp,some (.int q),some (.int y),o3,IS l]/\aA H H'/\H' l=some (.lst ((y::r').map V.int))/\WL ah (y::r')/\(∀z∈y::r',0<=z/\z<(n:Int))/\y∉r'/\r'.length<d/\r'.length=r.length+1,λσ H' (r',h1,h2,h3,h4,h5,h6,h7,h8)=>(d-r'.length,by lia,r',h1,h2,h3,h4,h5,h6,h7,rfl)
  refine (.inl (rfl,_,aE.of el),ν,aQ l _ _ _ (rfl,rfl,aE.of el,(kx lastV),aQ lp _ _ _ (rfl,rfl,aE.of ep1,ix1,b9 l _ _ (rfl,rfl,el,by rw[F1];simp;lia,?_))))
  refine (r++ [v],rfl,dE g1 nl _,?_,WL.snoc wl lst? ev,λu hu=>?_,?_,?_,by simp)
  ·rw[ao,qV]
  ·rcases FS.mp (show u∈(y::r)++ [v] from hu) with h|h
   ·exact hr' u h
   ·rw[FM.mp h];exact vr
  ·intro h;rcases FS.mp h with h|h
   ·exact ny h
   ·exact cv (FM.mp h).symm
  ·have:e≠0:=λz0=>by
    subst z0;cases w2 with
    |cons h h'=>
     rw[ev] at h;cases h;cases h';exact cv rfl
   simp;omega
 ·injection c with c
  rw[c] at ev;refine (aT l _ (rfl,aE.of el,λp np=>?_))
  exact K' p (y::r).reverse _ (g1.trans 236) (by rw[ao,List.map_reverse]) (bf.ring wl hr' ny λx hx=>by rw[lst?] at hx;cases hx;exact ev)
theorem Dy {dV:Value} (F:b6 K "earliest_times" "earliest_times" BQ dV f fd) (DZ14:239 1 "raise_times" ["times","ahead","arcs"] [] uU) (DZ15:239 1 "chain_to" ["ahead","point"] [] nQ) (DZ16:239 1 "ring_behind" ["ahead","point"] [] uV):240 2 f fd ["points","arcs"] iU:=by
 have sc:aK ["points","arcs","times","ahead","raised","turn"] ["points","arcs"] (aB BQ):=eR 78
 sleep 36
 refine mK h λn la A _hi=>?_
 refine iz _hi λ_r1 hA la7 n7 ir q=>?_
 sleep 35;exists _,(ak (jb (hd:=none) (own:= "point") (ys:= []) (js:= []) sc.nd (i:=2) rfl rfl hr.hd 83 (c8 rfl B.Hr 212) (λC fp s H=>af)) (ak (dh (i:=3) sc.nd rfl 149 (gR (hd:=none) (own:= "point") (ys:= []) (js:= []) hr.hd 83 (c8 rfl B.Hr 212) (λC fp s H=>bq))) (ak (cz 4 sc bq) (ak (241 (251 212) 230 (ak (cz 4 sc (cy DZ14 hr (111<*>(124<*>226)))) (au (bp (aC cV 118 bq 129) (au xG) aF)))) (ak (bp (aC kq 118 bq 129) (au (aG (@bR _ _ _ _ _ (bq<*>(bq<*>((cy DZ16 hr (124<*>231))<*>ae)))))) aF) (au (aG (@bR _ _ _ _ _ (111<*>((gR (hd:=none) (own:= "point") (ys:= ["ahead"]) (js:= [3]) hr.hd 88 (c8 rfl B.Hr 212) (λC fp s H=>(cy DZ15 hr (113<*>212))))<*>(bq<*>ae)))))))))))
 try dsimp only[cxK]
 refine FK ?_;intro D' r5 r4 r3 r2 r1;sleep 0;refine (ν,by lia,by lia,oJ (λi y=>y= .int 0) gQ.no 72 (λi hi H3 g3 Q' hQ=>hQ _ _ rfl 168) λlt ys H1 nlt ly hy g1 et=>?_)
 refine (ν,by lia,by lia,oJ (λi y=>y= .non) gQ.no 72 (λi hi H3 g3 Q' hQ=>hQ _ _ rfl 168) λlp zs H2 nlp lz hz g2 ep=>?_)
 rw[jQ (n:=n) (by rw[ly];exact FO n) hy] at et
 rw[jQ (n:=n) (by rw[lz];exact FO n) hz] at ep
 have et2:=g2 _ _ et;have g12:=g1.trans g2;have nlp0:=g1.free nlp;have ltp:lt≠lp:=λz=>by rw[z,nlp] at et;cases et
 obtain ⟨as0,ela,rla⟩:=id hA;have nat:la≠lt:=λz=>by rw[z,nlt] at ela;cases ela
 have nap:la≠lp:=λz=>by rw[z,nlp0] at ela;cases ela
 have R0:xc H2 lt lp la A n (λ_=>0) (λ_=>none) (λ_=>0):=(by rw[et2,jP,List.map_replicate],by rw[ep,jP,List.map_replicate];rfl,ltp,nat,nap,hA.same g12,la7,n7,ir,BF.start A)
 clear et et2 ep ly lz hy hz;try dsimp only[aZ,bz]
 refine dP (λNq=>Nq [some (.int (n:Int)),some (.ref la),some (.ref lt),some (.ref lp),some .non,none] H2) (λN hN=>hN) ?_
 refine dP (λNq=>∀(o5:Option V) (r:Option Int) (tm:Int->Int) (ah:Int->Option Int) (ag:Int->Int) (pn:Int->Nat) (k i:Nat) (H':Hp),aA H H'->xc H' lt lp la A n tm ah ag->Sw.PS A k i tm ah pn->(((r=none/\cJ A tm)∨∃qq,r=some qq/\pn qq=n/\0<=qq/\qq<(n:Int)))->Nq [some (.int (n:Int)),some (.ref la),some (.ref lt),some (.ref lp),some (oV r),o5] H') 174 ?_
 ·refine (ν,by lia,by lia,bE (λi σ H'=>∃(o5:Option V) (r:Option Int) (tm:Int->Int) (ah:Int->Option Int) (ag:Int->Int) (pn:Int->Nat),σ= [some (.int (n:Int)),IS la,IS lt,IS lp,some (oV r),o5]/\aA H H'/\xc H' lt lp la A n tm ah ag/\Sw.PS A 176 0 tm ah pn/\((i=0/\r=none)∨∃qq,r=some qq/\pn qq=i/\0<=qq/\qq<(n:Int))) (fL none none _ _ _ (λ_=>0) (rfl,g12,R0,PS.start A,.inl 199)) ?_ ?_)
  ·intro i σ H3 hi h_;refine iy h_ λo5 r tm ah ag pn _hi=>?_
   refine fh _hi λ_r1 g3 R3 _hj=>?_
   refine cP _hj λps3 _=>?_
   sleep 5;refine (zB lt lp la A n 176 tm ah ag (pn,(rfl,R3,ps3,λH4 tm' ah' ag' pn' r' b4 R4 ps4 hr4 hn4=>?_)))
   have g4:=b4.same g3 nlt nlp0;cases r' with
   |none=>exact ⟨rfl,mB.i (dT rfl (hN _ none tm' ah' ag' pn' _ _ _ g4 R4 ps4 (.inl ⟨rfl,hn4 rfl⟩)))⟩
   |some qq=>exact ⟨rfl,mB.i (dF nofun (fL _ (some qq) tm' ah' ag' pn' ⟨rfl,g4,R4,ps4.next,.inr ⟨qq,rfl,hr4 qq rfl⟩⟩))⟩
  ·intro σ H3 h_;refine iy h_ λo5 r tm ah ag pn _hi=>?_
   refine fh _hi λ_r1 g3 R3 _hj=>?_
   refine cP _hj λps3 h=>?_
   sleep 5;refine hN _ r tm ah ag pn _ _ _ g3 R3 ps3 ?_;rcases h with ⟨h0,h1⟩|⟨qq,h1,h2,h3⟩
   ·refine .inl (h1,λa ha=>?_)
    have:=ir a ha
    lia
   ·exact .inr (qq,h1,by rw[h2];exact FO n,h3)
 clear R0;intro o5 r tm ah ag pn k i H3 g3 R3 ps3 h;rcases h with ⟨rfl,kp⟩|⟨qq,rfl,h2,h3,h4⟩
 ·refine (rfl,mB.i (nF rfl (ν,by lia,by lia,?_)))
  refine wK (λH3 i y H4=>∃(l:Addr) (c:List Int),y= .ref l/\H3 l=none/\H4 l=some 140/\gf A n 121 (tm 121) c) gQ.no 72 (λj hj H4 g4 Q' hQ=>?_) λp ys H4 np ly hy g4 epl=>?_
  ·exact (fL lp _ A n tm ah (ag,(rfl,g4 _ _ R3.ep,n7,by lia,by lia,ir,R3.bf,kp,λl c H5 nl g5 el ok=>hQ _ _ (aT l c (rfl,nl,el,ok)) g5)))
  ·obtain ⟨as,rfl,las,has⟩:=xf (n:=n) (by rw[ly];exact FO n) hy
   refine (by show 3<=sizeLine;decide,λt nt=>?_)
   have g5:=ar nt (.tup [.ref lt,.ref p,.non]);exact q t _ ((g3.trans g4).trans g5) (.inl ⟨lt,p,tm,as,ao,g5 _ _ (g4 _ _ R3.et),g5 _ _ epl,las,λi l e=>by
    obtain ⟨c,q1,q2⟩:=has i l e;exact (c,g5 _ _ q1,q2),kp,R3.bf.nn⟩)
 ·refine (rfl,mB.i (nT nofun (zB lp qq A n k i tm ah ag (pn,(rfl,R3.ep,n7,h3,h4,ir,R3.bf,ps3,h2,λl c H4 g4 el ok=>(by show 3<=sizeLine;decide,λt nt=>?_))))))
  have g5:=ar nt (.tup [.non,.non,.ref l]);exact q t _ ((g3.trans g4).trans g5) (.inr (aT l c (ao,g5 _ _ el,ok)))
theorem Dz {dV:Value} (F:b6 K "tail_chains" "tail_chains" BR dV f fd) (DZ17:239 2 "earliest_times" ["points","arcs"] [] iU):240 3 f fd ["points","arcs"] vo:=by
 have sc:aK ["points","arcs","turned","told"] ["points","arcs"] (aB BR):=eR 78
 sleep 36
 refine mK h λn la A _hi=>?_
 refine iz _hi λ_r1 _r2 a7 n7 ir q=>?_
 sleep 35;obtain ⟨as,el,rA⟩:=_r2;exists _,(ak (yq sc.nd (i:=2) rfl rfl (os:= ["p","q","lag"]) (ys:= []) (js:= []) rfl (EO gE .nil rfl rfl rfl rfl rfl rfl rfl) (aP 113) (λC fp s H=>Ad (K:=K) (n:=3) rfl rfl (bw (lQ (os:= ["p","q","lag"]) (ys:= []) (i:=0) 73 rfl rfl) (bw (lQ (os:= ["p","q","lag"]) (ys:= []) (i:=1) 73 rfl rfl) (bw (lQ (os:= ["p","q","lag"]) (ys:= []) (i:=2) 73 rfl rfl) dI)))) (λC fp s H=>(@bR _ _ _ _ _ (113<*>(98<*>207))))) (ak (cz 3 sc (cy DZ17 hr (98<*>207))) (ak (bp (aC cV 190 bq 129) (au (aG (@bR _ _ _ _ _ (bq<*>(bq<*>ae))))) aF) (au (aG (@bR _ _ _ _ _ (190<*>((bZ (own:= "chain") (ys:= []) (js:= []) rfl 83 (aP 190) (λC fp s H=>(rE (K:=K) rfl rfl rfl B.HM rfl B.Ib boot_list PyProof.Rows.Boot.«reversed» 98)))<*>ae))))))))
 try dsimp only[cxK]
 sleep 28;sleep 0;have lA:(as.map V.ref).length=A.length:=by rw[F1,rA.1,F1]
 refine (la,rfl,(_,aE.of el),wI (xs:=as.map V.ref) (λi zs=>∀a,A[i]?=some a->zs= [.int a.2.1,.int a.1,.int a.2.2]) (aE.of el) 72 (λi x hx H4 g4 o ho Q' hQ=>?_) (λp bs H1 np hl ht g1 e1=>?_))
 ·obtain ⟨b,hb,rfl⟩:=d9 hx;obtain ⟨a,ha',eb⟩:=gS rA hb;obtain ⟨o1,o2,o3,rfl⟩:∃o1 o2 o3:Option V,o= [o1,o2,o3]:=by
   match o,ho with
   | [o1,o2,o3],_=>exact (b9 o1 o2 o3 rfl)
  refine (aT b _ (rfl,bT.of (g4 _ _ eb),rfl,aT _ _ (rfl,aT _ _ (rfl,aT _ _ (rfl,rfl,([some (.int a.1),some (.int a.2.1),some (.int a.2.2)],rfl,rfl),?_)))));exact (by show 3<=sizeLine;decide,λt nt=>hQ t _ _ ao (λa2 h2=>by rw[ha'] at h2;cases h2;rfl) (ar nt _))
 have lB:bs.length=A.length:=by rw[hl,lA]
 have hT:jm H1 p (cx A):=by
  refine (bs,e1,by rw[F1];unfold cx;rw[F1];exact lB,λi b k h1 h2=>?_)
  unfold cx at h2;rw[G1,F7] at h2;obtain ⟨a,ha',rfl⟩:=FT.mp h2;obtain ⟨zs,ez,hz⟩:=ht i b h1;rw[ez,hz a ha']
  rfl
 refine (b9 n p (cx A) (rfl,hT,by unfold cx;rw[F1];exact a7,n7,ir.turn,λt H2 g2 or=>?_))
 rcases or with ⟨lt,lc,tm,cs,et,elt,elc,lcs,hc,kp,nn⟩|⟨lr,c,et,elr,ok⟩
 ·refine (244 (rfl,rfl,bT.of et,rfl,rfl,mB.i (dF nofun (244 (rfl,rfl,bT.of et,rfl,aQ t _ _ _ (rfl,rfl,bT.of et,rfl,lc,rfl,(_,aE.of elc),?_))))));refine ym (λH3 x y H4=>∃(l l':Addr) (c:List Int),x= .ref l/\H3 l=some 140/\y= .ref l'/\H3 l'=none/\H4 l'=some (.lst (c.reverse.map V.int))) (aE.of elc) (by rw[F1,lcs];lia) (λx hx H3 g3 Q' hQ=>?_) λp' ys H3 np' ly hy g3 ep'=>?_
  ·obtain ⟨l,hl',rfl⟩:=FN.mp hx;obtain ⟨i,hi⟩:=FR.mp hl';obtain ⟨c,el',_⟩:=hc i l hi;exact (aT l _ (rfl,aE.of (g3 _ _ el'),λl' nl'=>hQ _ _ (b9 l l' c (rfl,g3 _ _ el',rfl,nl',by rw[ao,List.map_reverse])) (ar nl' _)))
  ·obtain ⟨ds,rfl,lds,hds⟩:=y8 lcs ly hc hy;refine (by show 2<=sizeLine;decide,λt2 nt2=>?_)
   have g4:=ar nt2 (.tup [.ref lt,.ref p']);exact q t2 _ (((g1.trans g2).trans g3).trans g4) (.inl ⟨lt,p',tm,ds,ao,g4 _ _ (g3 _ _ elt),g4 _ _ ep',lds,λi l e=>by
    obtain ⟨c,q1,q2⟩:=hds i l e;exact (c,g4 _ _ q1,q2),kp,nn⟩)
 ·refine (244 (rfl,rfl,bT.of et,rfl,rfl,mB.i (dT rfl (by show 2<=sizeLine;decide,λt2 nt2=>?_))))
  exact q t2 _ ((g1.trans g2).trans (ar nt2 _)) (.inr (ao,c,ok))
theorem DA {dV:Value} (F:b6 K "turns_for" "turns_for" BS dV f fd):240 1 f fd ["work","many"] vh:=by
 have sc:aK ["work","many"] ["work","many"] (aB BS):=eR 78
 sleep 36
 obtain ⟨w,m,rfl,m1,m2,q⟩:=h;exists _,(au (aG (gI eV (254 (gI eV 98) 113))));try dsimp only[cxK]
 exact (ν,(by lia,FQ 72),ν,q)
theorem DB {dV:Value} (F:b6 K "users_of" "users_of" BU dV f fd):240 1 f fd ["works","times","sums"] vv:=by
 have sc:aK ["works","times","sums","users","i","work"] ["works","times","sums"] (aB BU):=eR 78
 sleep 36
 refine iy h λlw lt ls ws n tm _hi=>?_
 refine eG _hi λts _hj=>?_
 refine iz _hj λ_r1 ew w24 et es _hk=>?_
 refine cP _hk λwn q=>?_
 sleep 23;exists _,(ak (cz 3 sc 102) (ak (241 (zW rfl B.Iv 212) (fD rfl (bw (dD 4 sc) (bw 230 dI))) (au (bp (aC fN 146 af 129) (au (bU (243 124 ((@bR _ _ _ _ _ ((248 111 (250 (247 118) af) 36)<*>((248 113 (247 118) 36)<*>(146<*>231))))<*>ae)))) aF))) (au (aG (tR rfl B.Il PyProof.Rows.Boot.«sorted» 124)))))
 try dsimp only[cxK]
 sleep 17;sleep 0;refine (by show 0<=sizeLine;decide,λlu nlu=>?_)
 have g0:=ar nlu 85;have eu0:aI H lu 85 lu=some (.lst []):=ao;generalize aI H lu 85=H0 at g0 eu0⊢;try dsimp only[aZ,bz]
 refine dP (λNq=>∀(o4 o5:Option V) (H':Hp),aA H H'->bx H' lu (vy ws tm ts ws.length)->Nq [some (.ref lw),some (.ref lt),some (.ref ls),some (.ref lu),o4,o5] H') 174 ?_
 ·refine (lw,rfl,(_,aE.of (g0 _ _ ew)),xX (xs:=ws.map V.int) (λi σ H'=>∃o4 o5:Option V,σ= [IS lw,IS lt,IS ls,IS lu,o4,o5]/\aA H H'/\bx H' lu (vy ws tm ts i)) (aT none none (rfl,g0,[],eu0,cX.nil)) (λi σ H' _ (_,_,_,g,_)=>aE.of (g _ _ ew)) ?_ ?_)
  ·rintro i y σ H1 T' hy ⟨o4,o5,rfl,g1,as,eu,r⟩ nT;rw[F7] at hy;obtain ⟨w,hw,rfl⟩:=FT.mp hy;have il:=(F4.mp hw).1;refine (aT T' _ (rfl,bT.of ao,rfl,aT _ _ 171));have gT:=ar nT (.tup [.int (i:Int),.int w]);have g2:=g1.trans gT;have eu2:=gT _ _ eu;replace r:=r.imp λa k q=>gT _ _ q
   generalize aI H1 T' (.tup [.int (i:Int),.int w])=H2 at g2 eu2 r⊢;have us:vy ws tm ts 176=vy ws tm ts i++(if decide (0<ws.getD i 0)=true then [[ts 107,tm 114,ws.getD i 0,(i:Int)]] else []):=iP _ _ _
   rw[aL hw] at us;have ll:as.length<=i:=by rw[r.1];exact ie _ _ _
   try dsimp only[aZ,bz]
   refine (d2 165 165)
   ·replace c:0<w:=c;rw[if_pos (decide_eq_true c)] at us;have a1:fV ((lst n ts).map V.int) 107=some (.int (ts 107)):=by
     have:=bV (cu (f:=V.int) (jn (f:=ts) (show 2*i+1<n by lia)))
     rw[show ((2*i+1:Nat):Int)=2*(i:Int)+1 by lia] at this
     exact this
    have a2:fV ((lst n tm).map V.int) 114=some (.int (tm 114)):=by
     have:=bV (cu (f:=V.int) (jn (f:=tm) (show 2*i<n by lia)))
     rw[show ((2*i:Nat):Int)=2*(i:Int) by lia] at this
     exact this
    refine (.inl (rfl,_,aE.of eu2),89 73,aQ ls _ _ _ (rfl,rfl,aE.of (g2 _ _ es),a1,89 73,aQ lt _ _ _ (rfl,rfl,aE.of (g2 _ _ et),a2,by show 4<=sizeLine;decide,λt nt=>(b9 lu _ _ (rfl,rfl,ar nt _ _ _ eu2,by rw[F1];lia,aT _ _ (rfl,dE (g2.trans (ar nt _)) nlu _,?_))))))
    have gt:=ar nt (.tup [.int (ts 107),.int (tm 114),.int w,.int (i:Int)]);have eu3:=gt _ _ eu2;have tp:∀b xs,aI H2 t (.tup [.int (ts 107),.int (tm 114),.int w,.int (i:Int)]) b=some (.tup xs)->aI (aI H2 t (.tup [.int (ts 107),.int (tm 114),.int w,.int (i:Int)])) lu (.lst (as.map V.ref++ [.ref t])) b=some (.tup xs):=λb xs e=>by
     rw[aJ (λz=>by rw[z,eu3] at e;cases e)]
     exact e
    exists as++ [t],by rw[ao,G8];rfl
    rw[us];exact (r.imp λa k q=>tp _ _ (gt _ _ q)).snoc (tp _ _ ao)
   ·replace c:¬0<w:=c;rw[if_neg (by rw[decide_eq_true_eq];exact c),Gn] at us
    exact (aT _ _ (rfl,g2,as,eu2,by rw[us];exact r))
  ·rintro σ H1 ⟨o4,o5,rfl,g1,tu⟩;rw[F1] at tu;exact hN o4 o5 _ g1 tu
 rintro o4 o5 H1 g1 ⟨as,eu,r⟩;refine (aQ lu _ true (kN H1) (rfl,eu,λv hv=>?_,by rw[F1,r.1];have:=(show (vy ws tm ts ws.length).length<=ws.length from ie _ _ _);lia,λp us np pm rs=>?_))
 ·obtain ⟨a,ha,rfl⟩:=FN.mp hv;obtain ⟨i,hi⟩:=FR.mp ha;have il:=(F4.mp hi).1;have hk:=F0 (show i<(vy ws tm ts ws.length).length by rw[<-r.1];exact il)
  have e:=r.2 i a _ hi hk;obtain ⟨j,_,_,ej⟩:=pO.mp (F5 hk);rw[pN e];refine (a,rfl,e,by rw[ej];exact List.cons_ne_nil _ _,by rw[ej];show 4<=sizeLine;lia)
 ·have gp:=ar np (.lst us);obtain ⟨U,tu,pU,fa⟩:=tW r nY pm rs ao gp;exact q p U _ (g1.trans gp) (g1.free np) tu (by rw[pU.length_eq];have:=ie ws.length (λi=>decide (0<ws.getD i 0)) λi=> [ts 107,tm 114,ws.getD i 0,(i:Int)];unfold vy;lia) (fa,λu=>(pU.mem_iff).trans pO)
theorem DC {dV:Value} (F:b6 K "fullest_of" "fullest_of" BV dV f fd) (DZ19:239 1 "turns_for" ["work","many"] [] vh):240 2 f fd ["users","many"] ze:=by
 have sc:aK ["users","many","best","floor","work","user","total"] ["users","many"] (aB BV):=eR 78
 sleep 36
 refine mK h λlu m U _hi=>?_
 refine vE _hi λ_r1 _r2 u24 fa l4 m1 m8 qN q=>?_
 sleep 35;obtain ⟨as,eu,r⟩:=_r2;exists _,(ak (dh (i:=2) sc.nd rfl 149 bq) (ak (241 (aP (qI rfl rfl B.Il rfl B.ID PyProof.Rows.Boot.«sorted» PyProof.Rows.Boot.«set» (bZ (own:= "user") (ys:= []) (js:= []) rfl 83 (aP 98) 225))) (dD 3 sc) (ak (cz 4 sc af) (au (241 (aP 98) 230 (au (bp (aC uj 221 124 129) (ak (A5 (i:=4) sc.nd rfl (Or.inl rfl) 221 A6) (ak (cz 6 sc (250 (250 124 221) (cy DZ19 hr (118<*>226)))) (au (bp (PW.pt (eI (aC cV 111 bq 129) (fB (aC fN 232 137 129)))) (au (dh (i:=2) sc.nd rfl 149 (@bR _ _ _ _ _ (232<*>(124<*>(146<*>ae)))))) aF)))) aF)))))) (ak (bp (aC cV 111 bq 129) 234 aF) (au (aG (@bR _ _ _ _ _ (137<*>((wg (own:= "user") (ys:= ["best"]) (js:= [2]) rfl 88 (aP 98) (λC fp s H=>(PW.pt (fU (aC uj 84 (aw (bN (K:=K) rfl) 113 af 36) 129) (dY (aC (At hr.units0) 98 (aw (bN (K:=K) rfl) 113 af 36) 129))))) 225)<*>ae))))))))
 try dsimp only[cxK]
 sleep 28;sleep 0;have la:as.length=U.length:=r.1;have four:∀(k:Nat) (u:Ky),U[k]?=some u->∃a b c d:Int,u= [a,b,c,d]:=λk u h=>by
  have:=l4 u (F5 h)
  match u,this with
  | [a,b,c,d],_=>exact (aQ a b c d rfl)
 refine dP (λNq=>Nq [some (.ref lu),some 216,some .non,none,none,none,none] H) (λN hN=>hN) ?_
 refine cut (λσ H'=>∃(v:V) (o3 o4 o5 o6:Option V),σ= [IS lu,some 216,some v,o3,o4,o5,o6]/\aA H H'/\j7 H' v U m (pK U)) 174 ?_
 ·refine (lu,rfl,(_,aE.of eu),bO 203 133 (λk=>uB 164) (aE.of eu) (by rw[F1];lia) 112 130 λlx H1 nlx g1 hx=>?_)
  ·rw[F7] at hy;obtain ⟨tu,htu,rfl⟩:=FT.mp hy;have kl:=(F4.mp htu).1;have hk:=F0 (show k<U.length by lia)
   have e:=r.2 k tu _ htu hk;rw[aL hk] at hQ;obtain ⟨a,b,c,d,ek⟩:=four k _ hk;rw[ek] at e hQ;exact (aQ tu _ _ _ (rfl,rfl,bT.of (gk _ _ e),rfl,hQ _ _ 168 rfl))
  obtain ⟨vx,ex,rx⟩:=hx;rw[rx.val] at ex;have exl:((G0 (as.map V.ref).length).map λk=>uB 164)=U.map uB:=by
   rw[F1,la]
   conv=>rhs;rw[<-cD U []]
   rw[G1]
   rfl
  rw[exl] at ex;have lx2:=iF (U.map uB) [];rw[F1] at lx2;refine (aT lx (U.map uB) (rfl,aE.of ex,by rw[F1];lia,(by rw[List.length_nil] at lx2;lia),λp ys np nd mem le=>(p,rfl,(_,aE.of ao),?_)))
  have gp:=g1.trans (ar np (.lst (ys.map V.int)));have ep:aI H1 p (.lst (ys.map V.int)) p=some (.lst (ys.map V.int)):=ao;generalize aI H1 p (.lst (ys.map V.int))=H2 at gp ep⊢;refine bL (xs:=ys.map V.int) (λi σ H'=>aA H2 H'/\∃(v:V) (o3 o4 o5 o6:Option V),σ= [IS lu,some 216,some v,o3,o4,o5,o6]/\j7 H' v U m (λf k=>f∈ys.take i/\k<U.length/\f<=uB 164)) (.refl _,aQ .non none none none (none,(rfl,.inl (rfl,λf k h=>by simp at h)))) (λi σ H' _ h=>aE.of (h.1 _ _ ep)) ?_ ?_
  ·intro i y σ H3 hy h_;refine cP h_ λg3 _hi=>?_
   refine ip _hi λv o3 o4 o5 _hj=>?_
   refine eG _hj λo6 _hk=>?_
   refine cP _hk λ_r1 bs=>?_
   sleep 21;rw[F7] at hy;obtain ⟨fl,hfl,rfl⟩:=FT.mp hy;have hflm:=F5 hfl;try dsimp only[aZ,bz]
   refine dP (λNq=>Nq [some (.ref lu),some 216,some v,some (.int fl),some (.int (tT U fl 0)),o5,o6] H3) (λN hN=>hN) ?_
   have gu:=gp.trans g3;refine (lu,rfl,(_,aE.of (gu _ _ eu)),bL (xs:=as.map V.ref) (λj σ H'=>aA H3 H'/\∃(v:V) (o5 o6:Option V),σ= [IS lu,some 216,some v,some (.int fl),some (.int (tT U fl j)),o5,o6]/\j7 H' v U m (λf k=>(f∈ys.take i/\k<U.length/\f<=uB 164)∨(f=fl/\k<j/\fl<=uB 164))) (.refl _,b9 v o5 o6 (rfl,bs.congr λf k=>(λh=> .inl h,λh=>h.elim id λz=>absurd z.2.1 (Gz _)))) (λj σ H' _ h=>aE.of (h.1 _ _ (gu _ _ eu))) ?_ ?_)
   ·rintro j y σ H4 hy ⟨g4,v,o5,o6,rfl,bs⟩;rw[F7] at hy;obtain ⟨tu,htu,rfl⟩:=FT.mp hy;have jl:=(F4.mp htu).1;have hj:=F0 (show j<U.length by lia)
    generalize hu:U[j]=u at hj;have e:=(gu.trans g4) _ _ (r.2 j tu _ htu hj);have ws:=Au (f:=fl) hj;have gd:=aL (d:=([]:Ky)) hj;obtain ⟨ut,ub,uw,ui,rfl⟩:=four j _ hj;try dsimp only[aZ,bz]
    refine (aQ tu _ _ _ (rfl,rfl,bT.of e,rfl,d2 165 165))
    ·replace c:ub≥fl:=c;rw[if_pos (show fl<=uB [ut,ub,uw,ui] from c)] at ws
     refine cut (λσ H'=>H4=H'/\σ= [IS lu,some 216,some v,some (.int fl),some (.int (tT U fl (j+1))),IS tu,o6]) (λN hN=>(aQ tu _ _ _ (rfl,rfl,bT.of e,rfl,hN _ _ (rfl,by rw[ws];rfl)))) ?_
     rintro σ _ ⟨rfl,rfl⟩;have et:ko U m fl j=fl+ut+ -((-(tT U fl (j+1))).fdiv m):=by unfold ko;rw[gd];rfl
     refine cut (λσ H'=>H4=H'/\σ= [IS lu,some 216,some v,some (.int fl),some (.int (tT U fl (j+1))),IS tu,some (.int (ko U m fl j))]) (λN hN=>(aQ tu _ _ _ (rfl,rfl,bT.of e,rfl,aT _ m (rfl,m1,by lia,hN _ _ (rfl,by rw[et];rfl))))) ?_
     rintro σ _ ⟨rfl,rfl⟩;have newC:j7 H4 v U m (λf k=>(f∈ys.take i/\k<U.length/\f<=uB 164)∨(f=fl/\k<j/\fl<=uB 164))->∀f k,((f∈ys.take i/\k<U.length/\f<=uB 164)∨(f=fl/\k<j+1/\fl<=uB 164))↔((f∈ys.take i/\k<U.length/\f<=uB 164)∨(f=fl/\k<j/\fl<=uB 164))∨(f=fl/\k=j):=λ_ f k=>by
      constructor
      ·rintro (h|⟨h1,h2,h3⟩)
       ·exact .inl (.inl h)
       ·rcases GQ.mp h2 with w|w
        ·exact .inl (.inr (h1,w,h3))
        ·exact .inr (h1,w)
      ·rintro ((h|⟨h1,h2,h3⟩)|⟨h1,h2⟩)
       ·exact .inl h
       ·exact .inr (h1,by lia,h3)
       ·exact .inr (h1,by lia,by rw[h2,gd];exact c)
     have nc:=newC bs;have put:∀t,H4 t=none->(∀f k,((f∈ys.take i/\k<U.length/\f<=uB 164)∨(f=fl/\k<j/\fl<=uB 164))->ko U m f k<=ko U m fl j)->aA H3 (aI H4 t (.tup [.int (ko U m fl j),.int fl,.ref tu]))/\j7 (aI H4 t (.tup [.int (ko U m fl j),.int fl,.ref tu])) 223 U m (λf k=>(f∈ys.take i/\k<U.length/\f<=uB 164)∨(f=fl/\k<j+1/\fl<=uB 164)):=λt nt mx=>⟨g4.trans (ar nt _),.inr ⟨t,tu,fl,j,_,rfl,ao,hj,ar nt _ _ _ e,(nc fl j).mpr (.inr 199),λf k h=>by
      rcases (nc f k).mp h with w|⟨rfl,rfl⟩
      ·exact mx f k w
      ·exact GP _⟩⟩
     rcases bs with ⟨rfl,none⟩|⟨t0,tu0,f0,k0,u0,rfl,e0,hk0,e1,c0,mx⟩
     ·refine (rfl,mB.i (dT rfl (gC (by show 3<=sizeLine;decide,λt nt=>?_))))
      obtain ⟨h1,h2⟩:=put t nt λf k h=>absurd h (none f k)
      exact (h1,b9 _ _ _ (rfl,h2))
     ·refine (rfl,mB.i (dF nofun (aQ t0 _ _ _ (rfl,rfl,bT.of e0,rfl,d2 (λc2=>(by show 3<=sizeLine;decide,λt nt=>?_)) (λc2=>?_)))))
      ·replace c2:ko U m fl j>ko U m f0 k0:=c2;obtain ⟨h1,h2⟩:=put t nt λf k h=>by have:=mx f k h;lia
       exact (h1,b9 _ _ _ (rfl,h2))
      ·replace c2:¬ko U m fl j>ko U m f0 k0:=c2;exact ⟨g4,_,_,ν,.inr ⟨t0,tu0,f0,k0,u0,rfl,e0,hk0,e1,(nc f0 k0).mpr (.inl c0),λf k h=>by
        rcases (nc f k).mp h with w|⟨rfl,rfl⟩
        ·exact mx f k w
        ·lia⟩⟩
    ·replace c:¬ub≥fl:=c;rw[if_neg (show ¬fl<=uB [ut,ub,uw,ui] from c)] at ws
     refine (g4,b9 v (some (.ref tu)) o6 (by rw[ws];rfl,bs.congr λf k=>(λh=>?_,λh=>?_)))
     ·rcases h with h|⟨h1,h2,h3⟩
      ·exact .inl h
      ·exact .inr (h1,by lia,h3)
     ·rcases h with h|⟨h1,h2,h3⟩
      ·exact .inl h
      ·rcases GQ.mp h2 with w|w
       ·exact .inr (h1,w,h3)
       ·rw[w,gd] at h3;exact absurd h3 c
   ·rintro σ H4 ⟨g4,v,o5,o6,rfl,bs⟩;rw[F1,la] at bs;refine (g3.trans g4,aQ v _ _ _ (_,(rfl,bs.congr λf k=>?_)))
    rw[Gv,hfl,Option.toList_some];constructor
    ·rintro (⟨h1,h2,h3⟩|⟨h1,h2,h3⟩)
     ·exact (GW _ h1,h2,h3)
     ·exact (FY _ (by rw[h1];simp),h2,by rw[h1];exact h3)
    ·rintro ⟨h1,h2,h3⟩;rcases FS.mp h1 with w|w
     ·exact .inl (w,h2,h3)
     ·rw[FM] at w;exact .inr (w,h2,by rw[<-w];exact h3)
  ·intro σ H3 h_;refine cP h_ λg3 _hi=>?_
   refine ip _hi λv o3 o4 o5 _hj=>?_
   refine eG _hj λo6 _hk=>?_
   refine cP _hk λ_r1 bs=>?_
   sleep 21;rw[F1,GN] at bs;refine hN _ _ (aQ v _ _ _ ⟨_,⟨rfl,gp.trans g3,bs.congr λf k=>⟨λ⟨h1,h2,h3⟩=>⟨?_,h2,h3⟩,λh=>⟨?_,h.lt,h.ge⟩⟩⟩⟩)
   ·obtain ⟨u,hu,e⟩:=FN.mp ((mem f).mp h1);exact (u,hu,e)
   ·obtain ⟨u,hu,e⟩:=h.fl;exact (mem f).mpr (FN.mpr (u,hu,e))
 intro σ H1 h_;refine ip h_ λv o3 o4 o5 _hi=>?_
 refine eG _hi λo6 _hj=>?_
 refine ke _hj λ_r1 g1 bs=>?_
 sleep 5;rcases bs with ⟨rfl,none⟩|⟨t0,tu0,f0,k0,u0,rfl,e0,hk0,e1,c0,mx⟩
 ·refine (rfl,mB.i (dT rfl (qN ?_ _ g1)));cases hU:U with
  |nil=>rfl
  |cons u0 U0=>
   exfalso;rw[hU] at none;exact none (uB u0) 0 ((u0,by simp,rfl),by simp,GP _)
 ·have eu1:=g1 _ _ eu;obtain ⟨a0,b0,c0',d0,eu0⟩:=four k0 _ hk0;refine (rfl,mB.i (dF nofun (aQ t0 _ _ _ (rfl,rfl,bT.of e0,rfl,lu,rfl,(_,aE.of eu1),wT 203 133 (λj=>decide (f0<=uB (U.getD j []))&& !dC (U.getD j []) u0) (λj=>uI (U.getD j [])) (aE.of eu1) (by rw[F1];lia) 112 (λj y hy Hk gk S' hS'=>?_) (λj y hy _ Hk gk Q' hQ=>?_) λll H2 nll g2 hl=>?_))))
  ·rw[F7] at hy;obtain ⟨tu,htu,rfl⟩:=FT.mp hy;have jl:=(F4.mp htu).1;have hj:=F0 (show j<U.length by lia)
   have e:=(g1.trans gk) _ _ (r.2 j tu _ htu hj);rw[aL hj] at hS';generalize U[j]=u at hj e hS';obtain ⟨ut,ub,uw,ui,rfl⟩:=four j _ hj;refine (aQ tu _ _ _ (rfl,rfl,bT.of e,rfl,aQ t0 _ _ _ (rfl,rfl,bT.of (gk _ _ e0),rfl,d2 165 165)))
   ·replace c:f0<=uB [ut,ub,uw,ui]:=c;rw[decide_eq_true c,Bool.true_and] at hS';refine (aQ t0 _ _ _ (rfl,rfl,bT.of (gk _ _ e0),rfl,aT [ut,ub,uw,ui] u0 ((tu,rfl,e,List.cons_ne_nil _ _,by show 4<=sizeLine;lia),(tu0,rfl,gk _ _ e1,by rw[eu0];exact List.cons_ne_nil _ _,by rw[eu0];show 4<=sizeLine;lia),hS' _ 168)))
   ·replace c:¬f0<=uB [ut,ub,uw,ui]:=c;rw[decide_eq_false c,Bool.false_and] at hS';exact hS' _ 168
  ·rw[F7] at hy;obtain ⟨tu,htu,rfl⟩:=FT.mp hy;have jl:=(F4.mp htu).1;have hj:=F0 (show j<U.length by lia)
   have e:=(g1.trans gk) _ _ (r.2 j tu _ htu hj);rw[aL hj] at hQ;generalize U[j]=u at hj e hQ;obtain ⟨ut,ub,uw,ui,rfl⟩:=four j _ hj;exact (aQ tu _ _ _ (rfl,rfl,bT.of e,rfl,hQ _ _ 168 rfl))
  obtain ⟨vl,el,rl⟩:=hl;rw[rl.val] at el;rw[F1,la,zd fa hk0] at el;refine (by show 2<=sizeLine;decide,λt nt=>q t ll _ f0 k0 _ ((g1.trans g2).trans (ar nt _)) ao (ar nt _ _ _ el) (c0,rfl,mx))
theorem DD {dV:Value} (F:b6 K "best_stretch" "best_stretch" BW dV f fd) (DZ1:239 1 "points_of" ["net"] [] (jM Go)) (DZ12:239 3 "work_of" ["net","case","i","tool"] [] (yP Go aV)) (DZ13:239 3 "arcs_of" ["net","case"] [] (rh Go)) (DZ17:239 2 "earliest_times" ["points","arcs"] [] iU) (DZ18:239 3 "tail_chains" ["points","arcs"] [] vo) (DZ20:239 1 "users_of" ["works","times","sums"] [] vv) (DZ21:239 2 "fullest_of" ["users","many"] [] ze):240 6 f fd ["net","case"] (tV Go):=by
 have sc:aK ["net","case","arcs","heads","tails","best","tool","works","users","fullest","fronts","backs"] ["net","case"] (aB BW):=eR 78
 sleep 36
 refine kc h λx t _hi=>?_
 refine cP _hi λ_r1 _hj=>?_
 refine iy _hj λD T A B2 n P _hk=>?_
 refine eG _hk λO _hl=>?_
 refine iz _hl λNC po l7 tk n0 _hm=>?_
 refine ke _hm λn8 qR qB=>?_
 clear h _hi _hj _hk _hl _hm;subst _r1;exists _,(ak (cz 2 sc (cy DZ13 hr (98<*>226))) (ak (dh (i:=3) sc.nd rfl 149 (cy DZ17 hr ((cy DZ1 hr 212)<*>207))) (ak (dh (i:=4) sc.nd rfl 149 (cy DZ18 hr ((cy DZ1 hr 212)<*>207))) (ak (bp (aC cV 190 bq 129) 234 aF) (ak (cz 5 sc bq) (ak (241 (aP (az (qJ rfl) rfl B.Il PyProof.Rows.Boot.«sorted» 217)) (dH (i:=6) sc.nd rfl 149) (ak (jb (hd:=none) (own:= "i") (ys:= ["net","case","tool"]) (js:= [0,1,6]) sc.nd (i:=7) rfl rfl hr.hd 104 (c8 rfl B.Hr ((242 217)<*>ae)) (λC fp s H=>(cy DZ12 hr (113<*>(111<*>(98<*>238)))))) (ak (cz 8 sc (cy DZ20 hr (235<*>(190<*>((aw aM 118 af 36)<*>ae))))) (ak (cz 9 sc (cy DZ21 hr ((pv 8)<*>((i9 (jU hr) (dL 98 rfl) 232 36)<*>ae)))) (au (bp (PW.pt (fU (aC kq (pv 9) bq 129) (dY (PW.pt (eI (aC cV 146 bq 129) (fB (aC fN (aw aM (pv 9) af 36) 221 129))))))) (au (cz 5 sc (@bR _ _ _ _ _ ((aw aM (pv 9) af 36)<*>(232<*>((aw aM (pv 9) af 36)<*>ae)))))) aF)))))) (ak (bp (aC cV 146 bq 129) 234 aF) (ak (lN (own:= "i") (ys:= ["heads"]) (js:= [3]) sc.nd (i:=10) rfl rfl rfl 88 (aP 221) (λC fp s H=>(aw (fX (K:=K) rfl) (aw (bN (K:=K) rfl) 113 af 36) (247 98) 36))) (ak (lN (own:= "i") (ys:= ["tails"]) (js:= [4]) sc.nd (i:=11) rfl rfl rfl 88 (aP 221) (λC fp s H=>(aw (fX (K:=K) rfl) (aw (bN (K:=K) rfl) 113 af 36) (250 (247 98) af) 36))) (au (aG (@bR _ _ _ _ _ (221<*>(221<*>((pv 10)<*>((pv 11)<*>ae))))))))))))))))
 try dsimp only[cxK]
 refine Dp ?_;intro D' r9 r8 r7 r6 r5 r4 r3 r2 r1;sleep 0;have t24:=NC.ok.t24;have tr:∀k∈A,∃p q g:Int,k= [p,q,g]:=λk hk=>by
  obtain ⟨p,q,g,e,_⟩:=NC.ok.arcs k hk;exact (b9 p q g e)
 have trF:=tK (T:=T) (P:=P) (O:=O) tr;have lA:((b7 A T P O).map j5).length<=700:=by
  rw[F1];unfold b7 iw;rw[FP,FP,cS,F1]
  lia
 have eN:(((2*99+n).toNat:Nat):Int)=2*99+n:=by lia
 have ir:=zg eN tk;generalize hN:(2*99+n).toNat=N at*;have n7:N<=700:=by lia
 have nTT:2*T.length<=N:=by lia
 refine (aT x t (rfl,fL D T A B2 n P (O,(NC.any,po,λla H1 g1 nla hA1=>?_))))
 have hA:=kH hA1 trF;generalize 213=Ar at*;try dsimp only[aZ,bz]
 refine dP (λNq=>∀(th:Addr) (H':Hp),aA H1 H'->((yO H' th Ar N∨AM H' th Ar N))->Nq [some (.ref x),some 223,some (.ref la),some (.ref th),none,none,none,none,none,none,none,none] H') (λM hM=>(fL x n false D T A (B2,(rfl,(NC.same g1).net,b9 N la Ar (by rw[eN];rfl,hA,lA,n7,ir,λth H2 g2 ho=>hM th _ g2 ho))))) ?_
 intro th H2 g2 ho;try dsimp only[aZ,bz]
 refine dP (λNq=>∀(tt:Addr) (H':Hp),aA H2 H'->((y6 H' tt Ar N∨(H' tt=some (.tup [.non,.non])/\∃c,qU (cx Ar) N c)))->Nq [some (.ref x),some 223,some (.ref la),some (.ref th),some (.ref tt),none,none,none,none,none,none,none] H') (λM hM=>(fL x n false D T A (B2,(rfl,(NC.same (g1.trans g2)).net,b9 N la Ar (by rw[eN];rfl,hA.same g2,lA,n7,ir,λtt H3 g3 hq=>hM tt _ g3 hq))))) ?_
 intro tt H3 g3 hq;have k3:=(g1.trans g2).trans g3;rcases ho with ⟨lt,lc,tm,as,eh,et,elc,las,each,kp,nn⟩|⟨lr,c,eh,elr,rg⟩
 rotate_left
 ·exact (aQ th _ _ _ (rfl,rfl,bT.of (g3 _ _ eh),rfl,rfl,mB.i (dT rfl (qR c _ k3 rg))))
 replace eh:=g3 _ _ eh;replace et:=g3 _ _ et;replace elc:=g3 _ _ elc;replace each:∀(i:Nat) (l:Addr),as[i]?=some l->∃c:List Int,H3 l=some 140/\gf Ar N i (tm i) c:=λi l h=>by
  obtain ⟨c,e1,e2⟩:=each i l h;exact (c,g3 _ _ e1,e2)
 rcases hq with ⟨ls,lb,ts,bs,ett,es,elb,lbs,eachb,kpt,nnt⟩|⟨_,c,rg⟩
 rotate_left
 ·exact (rg.no kp.turn).elim
 obtain ⟨cF,hcF⟩:=uq each;obtain ⟨bF,hbF⟩:=uq eachb;refine dP (λNq=>Nq [some (.ref x),some 223,some (.ref la),some (.ref th),some (.ref tt),none,none,none,none,none,none,none] H3) (λM hM=>(aQ th _ _ _ (rfl,rfl,bT.of eh,rfl,rfl,mB.i (dF nofun (hM))))) ?_
 refine dP (λNq=>Nq [some (.ref x),some 223,some (.ref la),some (.ref th),some (.ref tt),some .non,none,none,none,none,none,none] H3) (λM hM=>hM) ?_
 have NC3:=NC.same k3;refine iy NC3.net.ex λdx td tl al pl fs _hi=>?_
 refine vE _hi λe0 l1 l2 l3 l4 l5 ed _r1 _hj=>?_
 refine cP _hj λ_ _=>?_
 obtain ⟨vt,el,rT⟩:=_r1;replace ed:=ed.no;have lvt:vt.length=T.length:=rT.1;have d12:=NC.ok.d12;have dnd:=NC.ok.dnd;refine cut (λσ H'=>∃(v:V) (o6 o7 o8 o9:Option V),σ= [IS x,IS t,IS la,IS th,IS tt,some v,o6,o7,o8,o9,none,none]/\aA H3 H'/\nZ H' v (D.map 166) D T P tm ts) (λM hM=>?_) ?_
 ·refine (249 (_,(rfl,e0,B.Hu,B.Hy,l1,b9 td _ _ (rfl,ed,tD D,dnd,by rw[F1];lia,λly ys nly yp ysrt=>(ly,rfl,(_,aE.of ao),?_)))))
  have gl:=ar nly (.lst (ys.map V.str));have ely:aI H3 ly (.lst (ys.map V.str)) ly=some (.lst (ys.map V.str)):=ao;generalize aI H3 ly (.lst (ys.map V.str))=H4 at gl ely⊢;refine bL (xs:=ys.map V.str) (λi σ H'=>aA H4 H'/\∃(v:V) (o6 o7 o8 o9:Option V),σ= [IS x,IS t,IS la,IS th,IS tt,some v,o6,o7,o8,o9,none,none]/\nZ H' v (ys.take i) D T P tm ts) (.refl _,aQ .non none none none (none,(rfl,⟨.inl (rfl,λz h=>by simp at h)⟩))) (λi σ H' _ h=>aE.of (h.1 _ _ ely)) ?_ ?_
  ·intro i y σ H5 hy h_;refine cP h_ λg5 _hi=>?_
   refine ip _hi λv o6 o7 o8 _hj=>?_
   refine eG _hj λo9 _hk=>?_
   refine cP _hk λ_r1 tb=>?_
   sleep 21;rw[F7] at hy;obtain ⟨z,hz,rfl⟩:=FT.mp hy;obtain ⟨p,hp,ep⟩:=FN.mp (yp.mem_iff.mp (F5 hz));have hm:=vz dnd hp;have m1:=(NC.ok.tool p hp).2.1;have m8:=(NC.ok.tool p hp).2.2;rw[ep] at hm;generalize p.2=m at hm m1 m8;clear hp ep p;have k5:=gl.trans g5;have tks:ys.take 176=ys.take i++ [z]:=by rw[Gv,hz];rfl
   try dsimp only[aZ,bz]
   refine dP (λNq=>∀(lw:Addr) (H':Hp),aA H5 H'->H' lw=some (.lst ((dW T P z).map V.int))->Nq [some (.ref x),some 223,some (.ref la),some (.ref th),some (.ref tt),some v,some (.str z),some (.ref lw),o8,o9,none,none] H') (λM hM=>?_) ?_
   ·refine (249 (_,(rfl,(k5 _ _ e0),B.Hu,B.Hv,l2,aT tl _ (rfl,.inl (aE.of (k5 _ _ el)),ν,by lia,by lia,gX 203 133 158 gQ.no 72 112 (λj hj H6 g6 Q' hQ=>?_) λlw H6 nlw g6 hw=>?_))))
    ·rw[FO,lvt] at hj;exact (aQ x t j z (by rw[Gp];rfl,fL D T A B2 n P (O,(((NC3.same k5).same g6).any,hj,λH' g'=>hQ _ _ g' rfl))))
    obtain ⟨vw,ew,rw'⟩:=hw;rw[rw'.val,FO,lvt] at ew;exact hM lw _ g6 ew
   intro lw H6 g6 ew;have k6:=k5.trans g6;try dsimp only[aZ,bz]
   refine dP (λNq=>∀(lu:Addr) (U:List Ky) (H':Hp),aA H6 H'->bx H' lu U->U.length<=24->mG (dW T P z) tm ts U->Nq [some (.ref x),some 223,some (.ref la),some (.ref th),some (.ref tt),some v,some (.str z),some (.ref lw),some (.ref lu),o9,none,none] H') (λM hM=>(aQ th _ _ _ (rfl,rfl,bT.of (k6 _ _ eh),rfl,aQ tt _ _ _ (rfl,rfl,bT.of (k6 _ _ ett),rfl,fL lw lt ls _ N tm (ts,(rfl,ew,by rw[eF];exact t24,k6 _ _ et,k6 _ _ es,by rw[eF];exact nTT,λlu U H7 g7 nlu tu u24 uo=>hM lu U _ g7 tu u24 uo)))))) ?_
   intro lu U H7 g7 tu u24 uo;have k7:=k6.trans g7;have l4:∀u∈U,u.length=4:=λu hu=>by
    obtain ⟨_,_,_,rfl⟩:=(uo.mem u).mp hu
    rfl
   try dsimp only[aZ,bz]
   refine (249 (_,(rfl,(k7 _ _ e0),B.Hu,B.Hy,l1,aT td _ (rfl,jN (.inl (k7 _ _ ed)) hm,b9 lu m U (rfl,tu,u24,uo.falls,l4,m1,m8,λhU H8 g8=>?_,λtf ll total f k H8 g8 ef ell fu=>?_)))))
   ·have g58:=(g6.trans g7).trans g8;subst hU;refine (rfl,mB.i (nF rfl (g5.trans g58,aQ v _ _ _ (_,(rfl,?_)))));rw[tks];rcases (tb.same g58).ex with ⟨rfl,h⟩|⟨t0,z0,l0,total0,m0,f0,k0,U0,rfl,e1,e2,e3,e4,e5,mx⟩
    ·exact ⟨.inl ⟨rfl,λz' hz'=>by
      rcases FS.mp hz' with w|w
      ·exact h z' w
      ·rw[FM] at w;rw[w];exact uo⟩⟩
    ·refine ⟨.inr (fL t0 z0 l0 total0 m0 f0 (aT k0 U0 (rfl,e1,e2,e3,e4,e5,λz' hz' m' U' hm' uo' f' k' cd=>?_)))⟩
     rcases FS.mp hz' with w|w
     ·exact mx z' w m' U' hm' uo' f' k' cd
     ·rw[FM] at w;rw[w] at uo';rw[uo'.uniq uo] at cd;exact (n4 cd).elim
   ·have g58:=(g6.trans g7).trans g8;have new:∀t2,H8 t2=none->(∀z'∈ys.take i,∀m' U',cn D z'=some m'->mG (dW T P z') tm ts U'->∀f' k',pK U' f' k'->ko U' m' f' k'<=total)->nZ (aI H8 t2 (.tup [.int total,.str z,.ref ll])) (.ref t2) (ys.take 176) D T P tm ts:=λt2 n2 mx=>⟨.inr ⟨t2,z,ll,total,m,f,k,U,rfl,ao,ar n2 _ _ _ ell,hm,uo,fu,λz' hz' m' U' hm' uo' f' k' cd=>by
     rw[tks] at hz';rcases FS.mp hz' with w|w
     ·exact mx z' w m' U' hm' uo' f' k' cd
     ·rw[FM] at w;rw[w] at uo' hm';rw[hm] at hm';cases hm';rw[uo'.uniq uo] at cd⊢;exact fu.max f' k' cd⟩⟩
    refine (rfl,mB.i (nT nofun ?_));rcases (tb.same g58).ex with ⟨rfl,h⟩|⟨t0,z0,l0,total0,m0,f0,k0,U0,rfl,e1,e2,e3,e4,e5,mx⟩
    ·refine (rfl,mB.i (dT rfl (gC (aQ tf _ _ _ (rfl,rfl,bT.of ef,rfl,aQ tf _ _ _ (rfl,rfl,bT.of ef,rfl,by show 3<=sizeLine;decide,λt2 n2=>((g5.trans g58).trans (ar n2 _),aQ _ _ _ _ (_,(rfl,new t2 n2 λz' hz' m' U' _ uo' f' k' cd=>?_)))))))))
     rw[uo'.uniq (h z' hz')] at cd;exact (n4 cd).elim
    ·refine (rfl,mB.i (dF nofun (aQ tf _ _ _ (rfl,rfl,bT.of ef,rfl,aQ t0 _ _ _ (rfl,rfl,bT.of e1,rfl,d2 (λc2=>(aQ tf _ _ _ (rfl,rfl,bT.of ef,rfl,aQ tf _ _ _ (rfl,rfl,bT.of ef,rfl,by show 3<=sizeLine;decide,λt2 n2=>((g5.trans g58).trans (ar n2 _),aQ _ _ _ _ (_,(rfl,new t2 n2 λz' hz' m' U' hm' uo' f' k' cd=>?_))))))) (λc2=>(g5.trans g58,aQ _ _ _ _ (_,(rfl,?_)))))))))
     ·replace c2:total>total0:=c2;have:=mx z' hz' m' U' hm' uo' f' k' cd
      lia
     ·replace c2:¬total>total0:=c2;refine ⟨.inr (fL t0 z0 l0 total0 m0 f0 (aT k0 U0 (rfl,e1,e2,e3,e4,e5,λz' hz' m' U' hm' uo' f' k' cd=>?_)))⟩
      rw[tks] at hz';rcases FS.mp hz' with w|w
      ·exact mx z' w m' U' hm' uo' f' k' cd
      ·rw[FM] at w;rw[w] at uo' hm';rw[hm] at hm';cases hm';rw[uo'.uniq uo] at cd⊢;have:=fu.max f' k' cd
       lia
  ·intro σ H5 h_;refine cP h_ λg5 _hi=>?_
   refine ip _hi λv o6 o7 o8 _hj=>?_
   refine eG _hj λo9 _hk=>?_
   refine cP _hk λ_r1 tb=>?_
   sleep 21;rw[F1,GN] at tb;refine hM _ _ (aQ v _ _ _ (_,(rfl,gl.trans g5,?_)));rcases tb.ex with ⟨rfl,h⟩|⟨t0,z0,l0,total0,m0,f0,k0,U0,rfl,e1,e2,e3,e4,e5,mx⟩
   ·exact ⟨.inl (rfl,λz hz=>h z (yp.mem_iff.mpr hz))⟩
   ·exact ⟨.inr (fL t0 z0 l0 total0 m0 f0 (aT k0 U0 (rfl,e1,e2,e3,e4,e5,λz' hz'=>mx z' (yp.mem_iff.mpr hz'))))⟩
 intro σ H4 h_;refine ip h_ λv o6 o7 o8 _hi=>?_
 refine eG _hi λo9 _hj=>?_
 refine ke _hj λ_r1 g4 tb=>?_
 sleep 5;have fin:=λ(v:V) (H':Hp) (g:aA H3 H') (b:rH H' v D T P Ar N tm ts)=>qB tm ts v H' (k3.trans g) kp nn (λi hi=>by
  have il:i<as.length:=by lia
  exact (_,(hcF i _ (F0 il)).2)) kpt nnt (λi hi=>by
  have il:i<bs.length:=by lia
  exact (_,(hbF i _ (F0 il)).2)) b
 rcases tb.ex with ⟨rfl,h⟩|⟨t0,z0,l0,total0,m0,f0,k0,U0,rfl,e1,e2,e3,e4,e5,mx⟩
 ·exact (rfl,mB.i (dT rfl (fin _ _ g4 (.inl (rfl,λp hp=>h _ (FN.mpr (p,hp,rfl)))))))
 have selT:∀(j:Nat) (i:Int),(db U0 f0 k0)[j]?=some i->0<=i/\i<(T.length:Int):=λj i h=>by
  have:=Aw e4 h;rw[eF] at this;exact this
 have sel24:(db U0 f0 k0).length<=24:=by
  have h1:(db U0 f0 k0).length<=U0.length:=by
   unfold db b8;rw[F1];exact Gf (List.length_filter_le _ _) (by rw[GA];lia)
  have h2:U0.length<=T.length:=by
   have nd:(U0.map uI).Nodup:=by
    refine HJ.mpr ?_;refine List.Pairwise.imp_of_mem ?_ e4.falls;intro a b ha hb lt e;obtain ⟨i,_,_,ea⟩:=(e4.mem a).mp ha;obtain ⟨j,_,_,eb⟩:=(e4.mem b).mp hb;rw[ea,eb] at e;replace e:(i:Int)=(j:Int):=e;have:i=j:=by lia
    subst this;rw[ea,eb,cW] at lt;cases lt
   have:=dS nd (m:=(G0 T.length).map λn:Nat=>(n:Int)) λi hi=>by
    obtain ⟨u,hu,rfl⟩:=FN.mp hi;obtain ⟨i,h1,_,eu⟩:=(e4.mem u).mp hu;rw[eF] at h1;rw[eu];exact FN.mpr (i,GE.mpr h1,rfl)
   rw[F1,F1,GB] at this;exact this
  lia
 refine (rfl,mB.i (dF nofun ?_));refine (aQ t0 _ _ _ (rfl,rfl,bT.of e1,rfl,l0,rfl,(_,aE.of e2),bO yY (λa=>An a/\H4 a≠none) (λj=>cF (2*(db U0 f0 k0).getD j 0).toNat) (aE.of e2) (by rw[F1];lia) (λa h=>h.2) (λj y hy Hk gk Q' hQ=>?_) λlf H5 nlf g5 hf=>?_))
 ·rw[F7] at hy;obtain ⟨i,hi,rfl⟩:=FT.mp hy;obtain ⟨i0,i1⟩:=selT j i hi;rw[aL hi] at hQ;have hl:=F0 (show (2*i).toNat<as.length by lia)
  generalize as[(2*i).toNat]=c at hl;have ec:=(hcF _ _ hl).1;have at1:fV (as.map V.ref) (2*i)=some (.ref c):=by
   have:=bV (cu (f:=V.ref) hl)
   rwa [show (((2*i).toNat:Nat):Int)=2*i by lia] at this
  exact (aQ th _ _ _ (rfl,rfl,bT.of (gk _ _ (g4 _ _ eh)),rfl,89 73,aQ lc _ _ _ (rfl,rfl,aE.of (gk _ _ (g4 _ _ elc)),at1,hQ _ _ 168 (vk (.inr (trivial,by rw[g4 _ _ ec];exact nofun)) (gk _ _ (g4 _ _ ec))))))
 have hf1:Ap H5 lf ((G0 (db U0 f0 k0).length).map λj=>cF (2*(db U0 f0 k0).getD j 0).toNat):=by
  have:=hf.any
  rwa [F1] at this
 refine (aQ t0 _ _ _ (rfl,rfl,bT.of (g5 _ _ e1),rfl,l0,rfl,(_,aE.of (g5 _ _ e2)),bO yY (λa=>An a/\H5 a≠none) (λj=>bF (2*(db U0 f0 k0).getD j 0+1).toNat) (aE.of (g5 _ _ e2)) (by rw[F1];lia) (λa h=>h.2) (λj y hy Hk gk Q' hQ=>?_) λD9 H6 nlb g6 hb=>?_))
 ·rw[F7] at hy;obtain ⟨i,hi,rfl⟩:=FT.mp hy;obtain ⟨i0,i1⟩:=selT j i hi;rw[aL hi] at hQ;have hl:=F0 (show (2*i+1).toNat<bs.length by lia)
  generalize bs[(2*i+1).toNat]=c at hl;have ec:=(g4.trans g5) _ _ (hbF _ _ hl).1;have at1:fV (bs.map V.ref) (2*i+1)=some (.ref c):=by
   have:=bV (cu (f:=V.ref) hl)
   rwa [show (((2*i+1).toNat:Nat):Int)=2*i+1 by lia] at this
  exact (aQ tt _ _ _ (rfl,rfl,bT.of (gk _ _ (g5 _ _ (g4 _ _ ett))),rfl,89 73,aQ lb _ _ _ (rfl,rfl,aE.of (gk _ _ (g5 _ _ (g4 _ _ elb))),at1,hQ _ _ 168 (vk (.inr (trivial,by rw[ec];exact nofun)) (gk _ _ ec)))))
 have hb1:Ap H6 D9 ((G0 (db U0 f0 k0).length).map λj=>bF (2*(db U0 f0 k0).getD j 0+1).toNat):=by
  have:=hb.any
  rwa [F1] at this
 have e16:=g6 _ _ (g5 _ _ e1);refine (aQ t0 _ _ _ (rfl,rfl,bT.of e16,rfl,aQ t0 _ _ _ (rfl,rfl,bT.of e16,rfl,by show 4<=sizeLine;decide,λtr9 ntr=>fin _ _ (((g4.trans g5).trans g6).trans (ar ntr _)) (.inr (zB tr9 z0 lf D9 _ _ total0 m0 f0 (aT k0 U0 (rfl,ao,(hf1.same g6).same (ar ntr _),hb1.same (ar ntr _),e3,e4,e5,by rw[F1,GB],by rw[F1,GB],λj i hi=>?_,λp hp U' uo' f' k' cd=>mx p.1 (FN.mpr (p,hp,rfl)) p.2 U' (vz dnd hp) uo' f' k' cd)))))))
 obtain ⟨i0,i1⟩:=selT j i hi;have jl:=(F4.mp hi).1;have h1:=(hcF _ _ (F0 (show (2*i).toNat<as.length by lia))).2
 have h2:=(hbF _ _ (F0 (show (2*i+1).toNat<bs.length by lia))).2
 rw[show (((2*i).toNat:Nat):Int)=2*i by lia] at h1
 rw[show (((2*i+1).toNat:Nat):Int)=2*i+1 by lia] at h2
 exact (aT _ _ (by rw[F7,HP jl,Hn,aL hi],by rw[F7,HP jl,Hn,aL hi],h1,h2))
theorem DE {dV:Value} (F:b6 K "_law_cell_at" "_law_cell_at" BX dV f fd):240 1 f fd ["_law_script","_law_k"] (kY K):=by
 have sc:aK ["_law_script","_law_k"] ["_law_script","_law_k"] (aB BX):=eR 78
 sleep 36
 obtain ⟨a,ns,k,rfl,hS,h0,q⟩:=h;exists _,(ak (bp (aC gM 113 92 129) (au (aG (248 98 113 36))) aF) (au (aG af)))
 try dsimp only[cxK]
 sleep 29;refine (aT a _ (rfl,.inl hS,d2 165 165))
 ·obtain ⟨v,hv⟩:=zX h0 c;exact (aQ a _ _ _ (rfl,rfl,hS,hv,q v))
 ·exact q 0
theorem DF {dV:Value} (F:b6 K "_law_whole" "_law_whole" BY dV f fd):240 1 f fd ["_law_found"] uz:=by
 have sc:aK ["_law_found"] ["_law_found"] (aB BY):=eR 78
 sleep 36
 obtain ⟨v,rfl,q⟩:=h;exists _,(au (aG (xF (az qi rfl B.Hw boot_isinstance (98<*>((gv (v:= .ty "int") rfl B.IF boot_int rfl)<*>ae))) (xE (AZ (az qi rfl B.Hw boot_isinstance (98<*>((gv (v:= .ty "bool") rfl B.IE boot_bool rfl)<*>ae))))))));try dsimp only[cxK]
 refine (b9 _ _ _ (rfl,.ii v,(b9 _ _ _ (rfl,.ib v,q))))
theorem DG {dV:Value} (F:b6 K "_law_mixed" "_law_mixed" BZ dV f fd):240 1 f fd ["_law_cell","_law_k"] kF:=by
 have sc:aK ["_law_cell","_law_k"] ["_law_cell","_law_k"] (aB BZ):=eR 78
 sleep 36
 obtain ⟨c,k,rfl,q⟩:=h;exists _,(au (aG (254 (252 (av bj (250 (252 98 af) af) (250 af (247 113))) af) af)));try dsimp only[cxK]
 have m1:=fm (a:=c) (n:=999983) 73
 have m2:=fm (a:=(c.fmod 999983+17)*(48271+7919*k)) (n:=999979) 73
 refine ((by show (999983:Int)≠0;decide),89 73,89 147,(by show (999979:Int)≠0;decide),103,q _ ?_)
 exact Int.fdiv_nonneg m2.1 73
theorem DH {dV:Value} (F:b6 K "_law_meet" "_law_meet" B0 dV f fd):240 1 f fd ["_law_one","_law_other"] yH:=by
 have sc:aK ["_law_one","_law_other"] ["_law_one","_law_other"] (aB B0):=eR 78
 sleep 36
 refine ip h λt u r s2 _hi=>?_
 refine fh _hi λ_r1 et eu q=>?_
 sleep 35;exists _,(au (aG (xF (fO gM (aw aM 98 af 36) (aw aM 113 af 36) 129) (xE (fO gM (aw aM 113 af 36) (aw aM 98 af 36) 129)))))
 try dsimp only[cxK]
 refine (244 (rfl,rfl,bT.of et,rfl,aQ u _ _ _ (rfl,rfl,bT.of eu,rfl,d2 (λc=>(aQ u _ _ _ (rfl,rfl,bT.of eu,rfl,aQ t _ _ _ (rfl,rfl,bT.of et,rfl,?_)))) 165)))
 ·have e:fP r s2=decide (s2.1<r.2.1):=by unfold fP;rw[decide_eq_true c,Bool.true_and]
  rw[e] at q;exact q
 ·have e:fP r s2=false:=by unfold fP;rw[decide_eq_false c,Bool.false_and]
  rw[e] at q;exact q
theorem DI {dV:Value} (F:b6 K "_law_names" "_law_names" B1 dV f fd) (DZ25:239 1 "_law_mixed" ["_law_cell","_law_k"] [] kF):240 2 f fd ["_law_cell"] mC:=by
 have sc:aK ["_law_cell","_law_letters","_law_size","_law_at","_law_word","_law_first","_law_second"] ["_law_cell"] (aB B1):=eR 78
 sleep 36
 obtain ⟨c,rfl,q⟩:=h;exists _,(ak (dh (i:=1) sc.nd rfl 149 xC) (ak (cz 2 sc (250 af (252 98 af))) (ak (cz 3 sc (252 (254 98 af) 111)) (ak (cz 4 sc (dk PySem.F.plainAttrs_str PySem.F.slot_str_join PySem.F.type_str_join Ab xC ((gR (hd:=none) (own:= "_law_k") (ys:= ["_law_letters","_law_cell"]) (js:= [1,0]) hr.hd (gJ (iL (iL gE)) (.cons rfl (.cons rfl .nil)) 73 rfl rfl rfl rfl rfl rfl rfl rfl) (c8 rfl B.Hr 207) (λC fp s H=>(aw ou 113 (252 (cy DZ25 hr (111<*>212)) af) 36)))<*>ae))) (ak (cz 5 sc (252 (254 98 af) af)) (ak (bp (PW.pt (fU (aC fF (252 (254 98 af) af) af 129) (dY (aC gM 111 af 129)))) (au (aG (@aU _ _ _ _ (118<*>((av fG 118 (aw ou 113 146 36))<*>ae))))) aF) (ak (cz 6 sc (252 (250 (250 146 af) (252 (254 98 af) af)) af)) (au (aG (@aU _ _ _ _ ((av fG (av fG (eJ oI 118 gB (fk 124)) (aw ou 113 146 36)) (eJ oI 118 (fk (250 124 af)) gB))<*>((av fG (av fG (eJ oI 118 gB (fk 124)) (aw ou 113 232 36)) (eJ oI 118 (fk (250 124 af)) gB))<*>ae))))))))))))
 try dsimp only[cxK]
 refine EX ?_;intro D' r7 r6 r5 r4 r3 r2 r1;sleep 0;have one:∀c,(⟨#[c]⟩:Str).length=1:=λ_=>rfl
 have s:=fm (a:=c) (n:=12) 73
 have ma:=fm (a:=c.fdiv 12) (n:=1+c.fmod 12) 72
 have mf:=fm (a:=c.fdiv 144) (n:=26) 73
 have ms:=fm (a:=c.fdiv 3744) (n:=25) 73
 have mt:=fm (a:=(c.fdiv 144).fmod 26+1+(c.fdiv 3744).fmod 25) (n:=26) 73
 exists (by show (12:Int)≠0;decide),103,by lia
 refine (rfl,1+c.fmod 12,rfl,by lia,by lia,gX (uY (λc:Nat=>97<=c/\c<=122) λc=>V.str ⟨#[c]⟩) 133 (λ_=>()) gQ.no 72 112 (λi hi H2 g2 Q' hQ=>?_) λlw H1 nlw g1 hw=>?_)
 ·refine (aT _ _ (rfl,λv v0=>?_))
  have mv:=fm (a:=v) (n:=26) 73
  exact ((by show (26:Int)≠0;decide),b9 _ _ _ (rfl,rfl,by decide,pC mv.1 mv.2,hQ _ _ 168 (_,by lia,rfl)))
 obtain ⟨vs,ev,rv⟩:=hw;obtain ⟨cs,rfl,lc,okc⟩:=rv.some_of;rw[F1,GB] at lc;have l1:∀w∈cs.map (λc=>(⟨#[c]⟩:Str)),w.length=1:=λw hw=>by
  obtain ⟨x,_,rfl⟩:=FN.mp hw
  rfl
 have lL:∀w∈cs.map (λc=>(⟨#[c]⟩:Str)),Lt w:=λw hw=>by
  obtain ⟨x,hx,rfl⟩:=FN.mp hw;exact Lt.one (okc x hx)
 have ev':H1 lw=some (.lst ((cs.map (λc=>(⟨#[c]⟩:Str))).map V.str)):=by rw[ev,G1];rfl
 have lw1:(cs.map (λc=>(⟨#[c]⟩:Str))).length=cs.length:=F1 _
 refine (b9 _ lw _ (rfl,rfl,aE.of ev',by decide,by rw[qY l1,lw1];lia,?_))
 have wl:=xj l1;have wL:=Lt.tjoin lL;rw[lw1,lc] at wl;generalize Txt.join "" (cs.map (λc=>(⟨#[c]⟩:Str)))=wd at wl wL⊢
 clear ev ev' rv okc l1 lL lw1 lc;have wz:wd.length<=sizeLine:=by lia
 have wi:(wd.length:Int)=1+c.fmod 12:=by lia
 have w1:1<=wd.length:=by lia
 have w12:wd.length<=12:=by lia
 have hf:=pC mf.1 mf.2;have ht:=pC mt.1 mt.2;have f1:97<=97+((c.fdiv 144).fmod 26).toNat/\97+((c.fdiv 144).fmod 26).toNat<=122:=by lia
 have t1:97<=97+(((c.fdiv 144).fmod 26+1+(c.fdiv 3744).fmod 25).fmod 26).toNat/\97+(((c.fdiv 144).fmod 26+1+(c.fdiv 3744).fmod 25).fmod 26).toNat<=122:=by lia
 exists 103,(by show (26:Int)≠0;decide)
 have nmA:∀{d:Nat},97<=d/\d<=122->wd.length<12->Nm (wd++(⟨#[d]⟩:Str)):=λhd h12=>(wL.app (Lt.one hd)).nm (by rw[Str.length_append,one];lia) (by rw[Str.length_append,one];lia)
 have cm:=yR (x:=wd) (i:=(c.fdiv 12).fmod (1+c.fmod 12)) ma.1 72
 have c1':=jV wd none (some ((c.fdiv 12).fmod (1+c.fmod 12)));have nmB:∀{d:Nat},97<=d/\d<=122->Nm (iK wd none (some ((c.fdiv 12).fmod (1+c.fmod 12)))++(⟨#[d]⟩:Str)++iK wd (some ((c.fdiv 12).fmod (1+c.fmod 12)+1)) none):=λhd=>(((wL.cut _ _).app (Lt.one hd)).app (wL.cut _ _)).nm (by rw[Str.length_append,Str.length_append,one];lia) (by rw[Str.length_append,Str.length_append,one];lia)
 refine (103,141,rfl,EI (λc1=>(d2 (λc2=>?_) (λc2=>?_))) (λc1=>?_))
 ·refine (b9 _ _ _ (rfl,rfl,by decide,hf,aT _ _ (rfl,rfl,by rw[one];lia,by show 2<=sizeLine;decide,λl nl=>?_)))
  exact q l _ _ _ (g1.trans (ar nl _)) ao (wL.nm w1 w12) (nmA f1 72) Bw
 ·exists 103,(by show (25:Int)≠0;decide),(by show (26:Int)≠0;decide)
  refine (ν,ν,wz,b9 _ _ _ (rfl,rfl,by decide,hf,aT _ _ (rfl,rfl,by rw[one];lia,ν,ν,wz,aT _ _ (rfl,rfl,by rw[Str.length_append,one];lia,ν,ν,wz,b9 _ _ _ (rfl,rfl,by decide,ht,aT _ _ (rfl,rfl,by rw[one];lia,ν,ν,wz,aT _ _ (rfl,rfl,by rw[Str.length_append,one];lia,by show 2<=sizeLine;decide,λl nl=>?_)))))))
  exact q l _ _ _ (g1.trans (ar nl _)) ao (nmB f1) (nmB t1) (yQ λe=>nS mf.1 mf.2 ms.1 ms.2 72)
 ·exists 103,(by show (25:Int)≠0;decide),(by show (26:Int)≠0;decide)
  refine (ν,ν,wz,b9 _ _ _ (rfl,rfl,by decide,hf,aT _ _ (rfl,rfl,by rw[one];lia,ν,ν,wz,aT _ _ (rfl,rfl,by rw[Str.length_append,one];lia,ν,ν,wz,b9 _ _ _ (rfl,rfl,by decide,ht,aT _ _ (rfl,rfl,by rw[one];lia,ν,ν,wz,aT _ _ (rfl,rfl,by rw[Str.length_append,one];lia,by show 2<=sizeLine;decide,λl nl=>?_)))))))
  exact q l _ _ _ (g1.trans (ar nl _)) ao (nmB f1) (nmB t1) (yQ λe=>nS mf.1 mf.2 ms.1 ms.2 72)
theorem DJ {dV:Value} (F:b6 K "_law_runs" "_law_runs" B3 dV f fd) (DZ23:239 1 "_law_cell_at" ["_law_script","_law_k"] [] (kY K)):240 2 f fd ["_law_script","_law_at","_law_many_here","_law_far"] (uZ K):=by
 have sc:aK ["_law_script","_law_at","_law_many_here","_law_far","_law_runs_here","_law_i","_law_more","_law_begin"] ["_law_script","_law_at","_law_many_here","_law_far"] (aB B3):=eR 78
 sleep 36
 refine ip h λa ns at_ m _hi=>?_
 refine eG _hi λf _hj=>?_
 refine iz _hj λ_r1 hS h0 h1 m0 _hk=>?_
 refine ke _hk λm4 hf q=>?_
 sleep 23;exists _,(ak (cz 4 sc 102) (ak (241 (251 207) 230 (ak (cz 6 sc (cy DZ23 hr (98<*>((250 (250 113 (247 146)) af)<*>ae)))) (ak (cz 7 sc (av bj (252 (cy DZ23 hr (98<*>((250 113 (247 146))<*>ae))) af) 124)) (au (bU (243 118 ((@bR _ _ _ _ _ (235<*>((250 235 (av bj (250 af (252 232 af)) 124))<*>((252 (254 232 af) af)<*>ae))))<*>ae))))))) (au (aG 118))));try dsimp only[cxK]
 sleep 17;sleep 0;refine (by show 0<=sizeLine;decide,λl nl=>?_)
 have g0:=ar nl 85;have e0:aI H l 85 l=some (.lst []):=ao;generalize aI H l 85=H0 at g0 e0⊢;refine (m,rfl,by lia,by lia,bE (λi σ H'=>∃(o5 o6 o7:Option V) (R:List Rn),σ= [IS a,some (.int at_),some 216,some (.int f),IS l,o5,o6,o7]/\aA H H'/\bx H' l (R.map rk)/\R.length=i/\(∀r∈R,yS f r)) (aQ none none none [] (rfl,g0,([],e0,cX.nil),rfl,λr hr=>by cases hr)) ?_ ?_)
 ·intro i σ H1 hi h_;refine ip h_ λo5 o6 o7 R _hi=>?_
  refine fh _hi λ_r1 g1 _r2 _hj=>?_
  refine cP _hj λln ok=>?_
  sleep 5;obtain ⟨bs,eb,rb⟩:=_r2;have hS1:=g1.seq hS;refine (89 73,b9 a ns _ (rfl,hS1,by lia,λc=>(89 73,b9 a ns _ (rfl,hS1,by lia,λd=>?_))))
  have md:=fm (a:=d) (n:=24) 73
  have mc:=fm (a:=c) (n:=6) 73
  have mb:=fm (a:=c.fdiv 6) (n:=2) 73
  have sz:(bs.map V.ref).length<sizeLine:=by rw[F1,rb.1,F1];lia
  refine ((by show (24:Int)≠0;decide),89 147,.inl (rfl,_,aE.of eb),(by show (6:Int)≠0;decide),89 147,103,156,by show 3<=sizeLine;decide,λt nt=>(b9 l _ _ (rfl,rfl,ar nt _ _ _ eb,sz,?_)))
  have gt:=ar nt (.tup [.int (d.fmod 24*f),.int (d.fmod 24*f+(1+c.fmod 6)*f),.int ((c.fdiv 6).fmod 2)]);refine (aQ _ _ _ (R++ [(d.fmod 24*f,d.fmod 24*f+(1+c.fmod 6)*f,(c.fdiv 6).fmod 2)]) (rfl,dE (g1.trans gt) nl _,?_,by rw[FP];simp;lia,λr hr=>?_))
  ·rw[G8];exact eK (gt _ _ eb) (rb.imp λa k q=>gt _ _ q) ao
  ·rcases FS.mp hr with h|h
   ·exact ok r h
   ·rw[FM.mp h];exact Ak hf md.1 md.2 mc.1 mc.2 mb.1 mb.2
 ·intro σ H1 h_;refine ip h_ λo5 o6 o7 R _hi=>?_
  refine fh _hi λ_r1 g1 hR _hj=>?_
  refine cP _hj λln ok=>?_
  sleep 5;exact (q l R H1 g1 nl hR 72 ok)
theorem DK {dV:Value} (F:b6 K "_law_heats" "_law_heats" B4 dV f fd) (DZ26:239 1 "_law_meet" ["_law_one","_law_other"] [] yH):240 2 f fd ["_law_runs_here","_law_cells","_law_by"] qZ:=by
 have sc:aK ["_law_runs_here","_law_cells","_law_by","_law_heats_here","_law_i","_law_j"] ["_law_runs_here","_law_cells","_law_by"] (aB B4):=eR 78
 sleep 36
 refine ip h λlr lc R cs _hi=>?_
 refine eG _hi λb _hj=>?_
 refine iz _hj λ_r1 hR ec lcs r4 _hk=>?_
 refine cP _hk λhb q=>?_
 sleep 23;exists _,(ak (lN (own:= "_law_cell") (ys:= ["_law_by"]) (js:= [2]) sc.nd (i:=3) rfl rfl rfl 88 (aP 113) (λC fp s H=>(aw (fX (K:=K) rfl) (@aU _ _ _ _ (af<*>(af<*>((av kr af af)<*>ae)))) (252 (254 98 113) af) 36))) (ak (241 182 (dD 4 sc) (au (241 (251 231) 230 (au (bp (eU (cy DZ26 hr ((248 98 118 36)<*>((248 98 146 36)<*>ae)))) (au (jw (248 124 146 36) (oo 124 118 set_list))) aF))))) (ak (241 182 (dD 4 sc) (au (241 (251 231) 230 (au (bp (PW.pt (fU (eU (cy DZ26 hr ((248 98 118 36)<*>((248 98 146 36)<*>ae)))) (dY (aC iZ (248 124 118 36) (248 124 146 36) 129)))) (au (aG (bZ (own:= "_law_run") (ys:= []) (js:= []) rfl 83 (aP 98) (λC fp s H=>af)))) aF))))) (au (aG 124)))))
 try dsimp only[cxK]
 sleep 28;sleep 0;have lm:(cs.map V.int).length=R.length:=by rw[F1,lcs]
 refine (lc,rfl,(_,aE.of ec),bO 203 133 (λi=>hF (((cs.getD i 0).fdiv b).fmod 3)) (aE.of ec) 72 112 (λk y hy H2 g2 Q' hQ=>?_) λlh H1 nlh g1 hh=>?_)
 ·rw[F7] at hy;obtain ⟨v,hv,rfl⟩:=FT.mp hy;rw[aL hv] at hQ;have m3:=fm (a:=v.fdiv b) (n:=3) 73
  refine ((by decide,by decide),by show 3<=sizeLine;decide,λp np=>(?_,141,aQ p _ _ _ (rfl,rfl,aE.of ao,Dd m3.1 m3.2,hQ _ _ 236 rfl)))
  rcases hb with rfl|rfl
  ·exact 103
  ·exact 103
 obtain ⟨vs,ev,rv⟩:=hh;rw[lm] at rv;rw[rv.val] at ev;obtain ⟨hs0,eh0⟩:∃hs0:List Int,hs0=(G0 R.length).map λi=>hF (((cs.getD i 0).fdiv b).fmod 3):=⟨_,rfl⟩
 rw[<-eh0] at ev;have l0:hs0.length=R.length:=by rw[eh0,F1,GB]
 have b0:∀h∈hs0,0<=h/\h<=1000000000:=λh hh=>by
  rw[eh0] at hh;obtain ⟨i,_,rfl⟩:=FN.mp hh;exact De _
 clear rv eh0;obtain ⟨bs,er,rR⟩:=id hR;have lr':(bs.map V.ref).length=R.length:=by rw[F1,rR.1,F1]
 have run:∀H':Hp,aA H H'->∀i,i<R.length->∃t,fV (bs.map V.ref) 121=some 223/\H' t=some (.tup ((rk 208).map V.int)):=λH' g i hi=>by
  have hr:=F0 hi;obtain ⟨t,ht,et⟩:=rR.get (show (R.map rk)[i]?=some (rk R[i]) by rw[F7,hr];rfl)
  rw[aL hr];exact (t,cB (cu ht),g _ _ et)
 try dsimp only[aZ,bz]
 refine cut (λσ H'=>∃(o4 o5:Option V) (hs:List Int),σ= [IS lr,IS lc,some (.int b),IS lh,o4,o5]/\aA H H'/\H' lh=some (.lst (hs.map V.int))/\hs.length=R.length/\∀h∈hs,0<=h/\h<=1000000000) 174 ?_
 ·refine (aT lr _ (rfl,.inl (aE.of (253 er)),ν,by lia,by lia,bE (λi σ H'=>∃(o4 o5:Option V) (hs:List Int),σ= [IS lr,IS lc,some (.int b),IS lh,o4,o5]/\aA H H'/\H' lh=some (.lst (hs.map V.int))/\hs.length=R.length/\∀h∈hs,0<=h/\h<=1000000000) (b9 none none hs0 (rfl,g1,ev,l0,b0)) ?_ ?_))
  ·intro i σ H2 hi h_;refine mK h_ λo4 o5 hs _hi=>?_
   refine fh _hi λ_r1 g2 eh _hj=>?_
   refine cP _hj λlh' bh=>?_
   sleep 5;rw[FO,lr'] at hi;refine (ν,by lia,by lia,bE (λj σ H'=>∃(o5:Option V) (hs:List Int),σ= [IS lr,IS lc,some (.int b),IS lh,some (.int 121),o5]/\aA H H'/\H' lh=some (.lst (hs.map V.int))/\hs.length=R.length/\∀h∈hs,0<=h/\h<=1000000000) (aT o5 hs (rfl,g2,eh,lh',bh)) ?_ ?_)
   ·rintro j σ H3 hj ⟨o5,hs,rfl,g3,eh3,lh3,bh3⟩;have jl:j<R.length:=by lia
    obtain ⟨ti,ai,eti⟩:=run H3 g3 i hi;obtain ⟨tj,aj,etj⟩:=run H3 g3 j jl;refine (aQ lr _ _ _ (rfl,rfl,aE.of (g3 _ _ er),ai,aQ lr _ _ _ (rfl,rfl,aE.of (g3 _ _ er),aj,aQ ti tj _ _ (rfl,eti,etj,mB.i ?_))));cases fP (R.getD i (0,0,0)) (R.getD j (0,0,0)) with
    |false=>exact ja (aT _ hs ⟨rfl,g3,eh3,lh3,bh3⟩)
    |true=>
     have hv:=F0 (show j<hs.length by lia)
     refine gC (aQ lh _ _ _ (rfl,rfl,aE.of eh3,(cB (cu hv)),aQ lh _ _ i (rfl,rfl,eh3,?_,aT _ (hs.set i hs[j]) (rfl,dE g3 nlh _,?_,by rw[List.length_set];exact lh3,λh hh=>?_))))
     ·rw[Gp,F1];exact uG 72
     ·rw[ao,List.map_set]
     ·rcases List.mem_or_eq_of_mem_set hh with z|z
      ·exact bh3 h z
      ·rw[z];exact bh3 _ (G5 _)
   ·rintro σ H3 ⟨o5,hs,rfl,g3,eh3,lh3,bh3⟩;exact (b9 _ _ hs (rfl,g3,eh3,lh3,bh3))
  ·intro σ H2 h_;refine mK h_ λo4 o5 hs _hi=>?_
   refine fh _hi λ_r1 g2 eh _hj=>?_
   refine cP _hj λlh' bh=>?_
   sleep 5;exact hN _ _ (b9 _ _ hs (rfl,g2,eh,lh',bh))
 clear ev l0 b0 g1;intro σ H2 h_;refine mK h_ λo4 o5 hs _hi=>?_
 refine fh _hi λ_r1 g2 eh _hj=>?_
 refine cP _hj λlh' bh=>?_
 sleep 5;refine (aT lr _ (rfl,.inl (aE.of (g2 _ _ er)),ν,by lia,by lia,bE (λi σ H'=>H2=H'/\(∃(o4 o5:Option V),σ= [IS lr,IS lc,some (.int b),IS lh,o4,o5])/\∀k j,k<i->j<k->fP (R.getD k 131) (R.getD j 131)=true->hs.getD k 0=hs.getD j 0) (rfl,(aT _ _ rfl),λk j hk=>absurd hk (Gz _)) ?_ ?_))
 ·rintro i σ H3 hi ⟨rfl,⟨o4,o5,rfl⟩,hall⟩;rw[FO,lr'] at hi;refine (ν,by lia,by lia,bE (λj σ H'=>H2=H'/\(∃(o5:Option V),σ= [IS lr,IS lc,some (.int b),IS lh,some (.int 121),o5])/\∀k,k<j->fP 208 (R.getD k 131)=true->hs.getD i 0=hs.getD k 0) (rfl,⟨ν⟩,λk hk=>absurd hk (Gz _)) ?_ ?_)
  ·rintro j σ H3 hj ⟨rfl,⟨o5,rfl⟩,hin⟩;have jl:j<R.length:=by lia
   obtain ⟨ti,ai,eti⟩:=run H2 g2 i hi;obtain ⟨tj,aj,etj⟩:=run H2 g2 j jl;have hv:=F0 (show j<hs.length by lia)
   have hw:=F0 (show i<hs.length by lia)
   have next:(fP (R.getD i (0,0,0)) (R.getD j (0,0,0))=true->hs.getD i 0=hs.getD j 0)->∀k,k<j+1->fP (R.getD i (0,0,0)) (R.getD k (0,0,0))=true->hs.getD i 0=hs.getD k 0:=λh k hk hm=>by
    by_cases c:k=j
    ·rw[c] at hm⊢;exact h hm
    ·exact hin k 72 hm
   refine (aQ lr _ _ _ (rfl,rfl,aE.of (g2 _ _ er),ai,aQ lr _ _ _ (rfl,rfl,aE.of (g2 _ _ er),aj,aQ ti tj _ _ (rfl,eti,etj,mB.i ?_))));cases hm:fP (R.getD i (0,0,0)) (R.getD j (0,0,0)) with
   |false=>exact ja ⟨rfl,⟨_,rfl⟩,next λh=>by rw[hm] at h;cases h⟩
   |true=>
    refine gC (aQ lh _ _ _ (rfl,rfl,aE.of eh,(cB (cu hw)),aQ lh _ _ _ (rfl,rfl,aE.of eh,(cB (cu hv)),rfl,EJ 165 165)))
    ·refine (lr,rfl,(_,aE.of (g2 _ _ er)),bO 203 133 (λ_=>(0:Int)) (aE.of (g2 _ _ er)) 72 112 (λk y hy H4 g4 Q' hQ=>hQ _ _ 168 rfl) λlz H4 nlz g4 hz=>?_)
     obtain ⟨vs,ez,rz⟩:=hz;rw[lr'] at rz;rw[rz.val] at ez;exact q lz _ H4 (g2.trans g4) ez fv.zero
    ·exact (rfl,⟨ν⟩,next λ_=>by rw[aL hw,aL hv];exact c)
  ·rintro σ H3 ⟨rfl,⟨o5,rfl⟩,hin⟩;refine (rfl,(aT _ _ rfl),λk j hk hj hm=>?_)
   by_cases c:k=i
   ·rw[c] at hm hj⊢;exact hin j 72 hm
   ·exact hall k j 72 hj hm
 ·rintro σ H3 ⟨rfl,⟨o4,o5,rfl⟩,hall⟩;rw[FO,lr'] at hall;exact (q lh hs H2 g2 eh (fv.of lh' bh hall))
theorem DL {dV:Value} (F:b6 K "_law_uses" "_law_uses" B5 dV f fd):240 1 f fd ["_law_cell","_law_names_here","_law_heats_here"] pE:=by
 have sc:aK ["_law_cell","_law_names_here","_law_heats_here","_law_uses_here","_law_k","_law_many_here"] ["_law_cell","_law_names_here","_law_heats_here"] (aB B5):=eR 78
 sleep 36
 refine iy h λc ln lh n0 n1 h0 _hi=>?_
 refine eG _hi λh1 _hj=>?_
 refine fh _hj λ_r1 en eh _hk=>?_
 refine cP _hk λne q=>?_
 sleep 23;exists _,(ak (cz 3 sc 102) (ak (241 (251 (af<*>ae)) (dD 4 sc) (@ak _ _ _ _ _ (@dh _ _ 5 _ _ _ _ sc.nd rfl (Or.inl rfl) (@aw _ _ _ _ _ _ _ aD (@aU _ _ _ _ ((252 98 af)<*>((252 (254 98 af) af)<*>ae))) 118 36) rfl 149) (au (bp (aC fN 146 af 129) (au (bU (243 124 ((@bR _ _ _ _ _ ((248 113 118 36)<*>(146<*>((248 111 118 36)<*>ae))))<*>ae)))) aF)))) (ak (bp (aC fF (252 (254 98 af) af) af 129) (au (aG (gF rfl rfl B.HM rfl B.Ib boot_list PyProof.Rows.Boot.«reversed» 124))) aF) (au (aG 124)))))
 try dsimp only[cxK]
 sleep 28;sleep 0;have m0:=fm (a:=c) (n:=3) 73
 have m1:=fm (a:=c.fdiv 3) (n:=3) 73
 refine (by show 0<=sizeLine;decide,λu nu=>?_)
 have g0:=ar nu 85;have hu0:dG qL (λa=>a≠u/\H a=none) (aI H u 85) u []:=dG.new
 generalize aI H u 85=H0 at g0 hu0⊢;refine (ν,by decide,by decide,bE (λi σ H'=>∃(o4 o5:Option V) (us:List Us),σ= [some (.int c),IS ln,IS lh,IS u,o4,o5]/\aA H H'/\dG qL (λa=>a≠u/\H a=none) H' u us/\xk n0 n1 h0 h1 us/\us.length<=i/\(i<=1->∀x∈us,x.1=n0)) (b9 none none [] (rfl,g0,hu0,(by simp,by simp,λu hu=>by cases hu),F8 _,λ_ x hx=>by cases hx)) ?_ ?_)
 ·intro i σ H1 hi h_;refine mK h_ λo4 o5 us _hi=>?_
  refine iz _hi λ_r1 g1 hu ub ul ua=>?_
  clear h_ _hi;subst _r1;replace hi:i<2:=hi;have hb_:∃(x:Int) (nm:Str) (ht:Int),fV [V.int (c.fmod 3),V.int ((c.fdiv 3).fmod 3)] 121=some (.int x)/\fV [V.str n0,V.str n1] 121=some (.str nm)/\fV [V.int h0,V.int h1] 121=some (.int ht)/\x<=2/\(0<x->xk n0 n1 h0 h1 (us++ [(nm,x,ht)])/\(i+1<=1->nm=n0)):=by
   have ap:∀(nm:Str) (x ht:Int),((nm=n0/\ht=h0)∨(nm=n1/\ht=h1))->(∀z∈us,z.1≠nm)->us.length<=1->0<x->x<=2->xk n0 n1 h0 h1 (us++ [(nm,x,ht)]):=λnm x ht e nd l1 x0 x2=>by
    refine (by rw[FP];simp;lia,?_,λz hz=>?_)
    ·rw[G8];refine List.nodup_append.mpr (ub.nd,by simp,λa ha b hb=>?_)
     obtain ⟨z,hz,rfl⟩:=FN.mp ha;simp at hb;rw[hb];exact nd z hz
    ·rcases FS.mp hz with w|w
     ·exact ub.use z w
     ·rw[FM.mp w];exact (e,by show 1<=x;lia,x2)
   obtain rfl|rfl:i=0∨i=1:=by lia
   ·refine (b9 (c.fmod 3) n0 h0 (rfl,rfl,rfl,by lia,λx0=>(ap n0 _ h0 (.inl 199) (λz hz=>?_) 72 x0 72,λ_=>rfl)))
    rw[List.length_eq_zero_iff.mp (by lia:us.length=0)] at hz
    cases hz
   ·exact (b9 ((c.fdiv 3).fmod 3) n1 h1 (rfl,rfl,rfl,by lia,λx0=>(ap n1 _ h1 (.inr 199) (λz hz=>by rw[ua 72 z hz];exact ne) 72 x0 72,λh=>absurd h 72)))
  refine mK hb_ λx nm ht _hi=>?_
  refine fh _hi λhx hn hh _hj=>?_
  refine cP _hj λhx2 use1=>?_
  obtain ⟨vs,eu,ru⟩:=id hu;have sz:vs.length<sizeLine:=by have:=ub.len;rw[ru.1];lia
  refine (141,103,141,by show 2<=sizeLine;decide,λp np=>(aQ p _ _ _ (rfl,rfl,aE.of ao,hx,?_)))
  have gp:=ar np (.lst [.int (c.fmod 3),.int ((c.fdiv 3).fmod 3)]);generalize aI H1 p (.lst [.int (c.fmod 3),.int ((c.fdiv 3).fmod 3)])=H2 at gp⊢;refine (d2 (λc0=>?_) (λc0=>(b9 _ _ us (rfl,g1.trans gp,hu.same gp,ub,by lia,λh=>ua 72))))
  have g2:=g1.trans gp;refine (.inl (rfl,_,aE.of (gp _ _ eu)),aQ ln _ _ _ (rfl,rfl,aE.of (g2 _ _ en),hn,aQ lh _ _ _ (rfl,rfl,aE.of (g2 _ _ eh),hh,by show 3<=sizeLine;decide,λa na=>(b9 u _ _ (rfl,rfl,ar na _ _ _ (gp _ _ eu),sz,?_)))))
  have ga:=ar na (.tup [.str nm,.int x,.int ht]);obtain ⟨u1,u2⟩:=use1 c0;refine (b9 _ _ (us++ [(nm,x,ht)]) (rfl,dE (g2.trans ga) nu _,?_,u1,by rw[FP];simp;lia,λh z hz=>?_))
  ·refine dG.put (λz=>z.1 rfl) (ru.imp λ_ _ q=>mi q (gp.trans ga)) (a,rfl,((λz=>by have:=gp _ _ eu;rw[z,this] at na;cases na),g2.free na),?_)
   rw[ao]
   rfl
  ·rcases FS.mp hz with w|w
   ·exact ua 72 z w
   ·rw[FM.mp w];exact u2 h
 ·intro σ H1 h_;refine mK h_ λo4 o5 us _hi=>?_
  refine iz _hi λ_r1 g1 hu ub _ _=>?_
  clear h_ _hi;subst _r1;refine (103,156,rfl,d2 (λ_=>?_) (λ_=>(q u us H1 g1 nu (hu.mono λa h=>h.2) ub)))
  obtain ⟨vs,eu,ru⟩:=hu;refine (aT u _ (rfl,aE.of eu,λu' nu2=>?_))
  have g3:=ar nu2 (.lst vs.reverse);exact q u' us.reverse _ (g1.trans g3) (g1.free nu2) (_,ao,ru.rev.imp λ_ _ q=>zz (mi q g3) λa h=>h.2) ub.rev
theorem DM {dV:Value} (F:b6 K "_law_task" "_law_task" B6 dV f fd) (DZ30:239 1 "_law_uses" ["_law_cell","_law_names_here","_law_heats_here"] [] pE):240 2 f fd ["_law_run","_law_cell","_law_more","_law_names_here","_law_heats_here"] u3:=by
 have sc:aK ["_law_run","_law_cell","_law_more","_law_names_here","_law_heats_here","_law_long","_law_mine","_law_least_here","_law_beside","_law_other"] ["_law_run","_law_cell","_law_more","_law_names_here","_law_heats_here"] (aB B6):=eR 78
 sleep 36
 refine BI h λt c mo ln lh r f n0 n1 _hi=>?_
 refine kc _hi λh0 h1 _hj=>?_
 refine vE _hj λ_r1 et hf rb en eh ne b0 _hk=>?_
 refine cP _hk λb1 q=>?_
 sleep 23;exists _,(ak (cz 5 sc (av fE (aw aM 98 af 36) (aw aM 98 af 36))) (ak (cz 6 sc (@bR _ _ _ _ _ ((az (hW rfl) rfl B.Ie boot_max (af<*>((av fE 146 (av bj (252 111 af) (254 146 af)))<*>ae)))<*>((250 146 (av bj (252 (254 111 af) af) 146))<*>((cy DZ30 hr (113<*>(124<*>231)))<*>ae))))) (ak (cz 7 sc (250 af (252 (254 111 af) (247 146)))) (ak (cz 8 sc (cy DZ30 hr ((254 111 af)<*>(124<*>((@aU _ _ _ _ ((av bj (252 (254 111 af) af) af)<*>((av bj (252 (254 113 af) af) af)<*>ae)))<*>ae))))) (ak (cz 9 sc (@bR _ _ _ _ _ (235<*>((250 235 (252 (254 111 af) (247 146)))<*>((pv 8)<*>ae))))) (ak (bp (aC fF (aw aM 98 af 36) af 129) (au (aG (@aU _ _ _ _ ((pv 9)<*>(232<*>ae))))) aF) (ak (bp (aC fF (252 (254 111 af) af) af 129) (au (aG (@aU _ _ _ _ (232<*>((pv 9)<*>ae))))) aF) (au (aG (@aU _ _ _ _ (232<*>ae)))))))))))
 try dsimp only[cxK]
 refine EX ?_;intro D' r7 r6 r5 r4 r3 r2 r1;sleep 0;obtain ⟨l1,l2⟩:1<=r.2.1-r.1/\r.2.1-r.1<=60000114:=by
  have:=rb.2.2.1;have:=rb.2.2.2.1;rcases hf with rfl|rfl<;>lia
 have r2:=rb.2.2.2.2;have m3:=fm (a:=mo) (n:=3) 73
 have m4:=fm (a:=mo.fdiv 3) (n:=4) 73
 have mh:0<=(r.2.1-r.1).fdiv 2/\(r.2.1-r.1).fdiv 2<=r.2.1-r.1:=by
  rw[Hg _ 73]
  lia
 have x0:0<=mo.fmod 3*(r.2.1-r.1).fdiv 2:=Int.mul_nonneg m3.1 mh.1;have y0:0<=(mo.fdiv 3).fmod 4*(r.2.1-r.1):=Int.mul_nonneg m4.1 72
 have y1:(mo.fdiv 3).fmod 4*(r.2.1-r.1)<=3*60000114:=HS (Int.mul_le_mul_of_nonneg_right (show (mo.fdiv 3).fmod 4<=3 by lia) 72) (Int.mul_le_mul_of_nonneg_left l2 73)
 have ml:=fm (a:=mo.fdiv 12) (n:=2*(r.2.1-r.1)) 72
 have mm:=fm (a:=mo.fdiv 11) (n:=3*(r.2.1-r.1)) 72
 have p3:=fm (a:=mo.fdiv 5) (n:=3) 73
 have p2:=fm (a:=c.fdiv 5) (n:=2) 73
 refine (244 (rfl,rfl,bT.of et,rfl,aQ t _ _ _ (rfl,rfl,bT.of et,rfl,?_)));refine (141,103,89 147,aT _ _ (rfl,103,(by show (4:Int)≠0;decide),89 147,fL c ln lh n0 n1 h0 (h1,(rfl,en,eh,ne,λu us H1 g1 nu lu ub=>(by show 3<=sizeLine;decide,λtm ntm=>?_)))))
 have e1:(if r.2.1-r.1-mo.fmod 3*(r.2.1-r.1).fdiv 2>1 then r.2.1-r.1-mo.fmod 3*(r.2.1-r.1).fdiv 2 else 1)<=r.2.1-r.1:=by split<;>lia
 have e2:1<=(if r.2.1-r.1-mo.fmod 3*(r.2.1-r.1).fdiv 2>1 then r.2.1-r.1-mo.fmod 3*(r.2.1-r.1).fdiv 2 else 1):=by split<;>lia
 generalize (if r.2.1-r.1-mo.fmod 3*(r.2.1-r.1).fdiv 2>1 then r.2.1-r.1-mo.fmod 3*(r.2.1-r.1).fdiv 2 else 1)=le at e1 e2 ntm⊢
 generalize (mo.fdiv 3).fmod 4*(r.2.1-r.1)=mx at y0 y1 ntm⊢;have gm:=ar ntm (.tup [.int le,.int (r.2.1-r.1+mx),.ref u]);have etm:aI H1 tm (.tup [.int le,.int (r.2.1-r.1+mx),.ref u]) tm=some (.tup [.int le,.int (r.2.1-r.1+mx),.ref u]):=ao;have ntm0:=g1.free ntm;have k1:=g1.trans gm;have lu1:=lu.same gm;generalize aI H1 tm (.tup [.int le,.int (r.2.1-r.1+mx),.ref u])=H2 at gm etm k1 lu1⊢;clear ntm lu x0;exists 103,89 73,by lia
 refine (103,103,141,89 147,103,156,89 147,by show 2<=sizeLine;decide,λlb nlb=>?_)
 have gb:=ar nlb (.lst [.int ((mo.fdiv 5).fmod 3*90),.int ((c.fdiv 5).fmod 2*180)]);have elb:aI H2 lb (.lst [.int ((mo.fdiv 5).fmod 3*90),.int ((c.fdiv 5).fmod 2*180)]) lb=some (.lst [.int ((mo.fdiv 5).fmod 3*90),.int ((c.fdiv 5).fmod 2*180)]):=ao;generalize aI H2 lb (.lst [.int ((mo.fdiv 5).fmod 3*90),.int ((c.fdiv 5).fmod 2*180)])=H3 at gb elb⊢;have k3:=k1.trans gb;refine (fL _ ln lb n0 n1 _ (_,(rfl,k3 _ _ en,elb,ne,λu2 us2 H4 g4 nu2 lu2 ub2=>?_)))
 have k4:=k3.trans g4;refine (103,89 73,by lia,by show 3<=sizeLine;decide,λto nto=>?_)
 generalize (mo.fdiv 12).fmod (2*(r.2.1-r.1))=le2 at ml nto⊢;generalize (mo.fdiv 11).fmod (3*(r.2.1-r.1))=mx2 at mm nto⊢;have go:=ar nto (.tup [.int (1+le2),.int (1+le2+mx2),.ref u2]);have eto:aI H4 to (.tup [.int (1+le2),.int (1+le2+mx2),.ref u2]) to=some (.tup [.int (1+le2),.int (1+le2+mx2),.ref u2]):=ao;have nto0:=k4.free nto;generalize aI H4 to (.tup [.int (1+le2),.int (1+le2+mx2),.ref u2])=H5 at go eto⊢;have k5:=k4.trans go;have way1:iu 209 H5 (.ref tm) (le,r.2.1-r.1+mx,us):=(aT tm u (rfl,ntm0,nu,((gb.trans g4).trans go) _ _ etm,lu1.same ((gb.trans g4).trans go)))
 have way2:iu 209 H5 (.ref to) (1+le2,1+le2+mx2,us2):=(aT to u2 (rfl,nto0,k3.free nu2,eto,(lu2.same go).mono λa h=>k3.free h))
 have wb1:Cs n0 n1 (le,r.2.1-r.1+mx,us):=(e2,by show le<=r.2.1-r.1+mx;lia,by show r.2.1-r.1+mx<=900000000;lia,aT h0 h1 (b0,b1,ub))
 have wb2:Cs n0 n1 (1+le2,1+le2+mx2,us2):=(by show 1<=1+le2;lia,by show 1+le2<=1+le2+mx2;lia,by show 1+le2+mx2<=900000000;lia,aT _ _ ((by lia,by lia),(by lia,by lia),ub2))
 have mine:le<=r.2.1-r.1/\r.2.1-r.1<=r.2.1-r.1+mx/\xk n0 n1 h0 h1 us:=(e1,by lia,ub)
 have fin2:∀(p:Addr) (x y:V) (w w':Wy),H5 p=none->iu 209 H5 x w->iu 209 H5 y w'->dq 209 (aI H5 p (.lst [x,y])) 120 [w,w']:=λp x y w w' np h1 h2=>(p,rfl,k5.free np,_,ao,(A2.one (mi h1 236)).append (A2.one (mi h2 236)))
 refine (244 (rfl,rfl,bT.of (k5 _ _ et),rfl,rfl,EI (λc1=>?_) (λc1=>?_)))
 ·refine (by show 2<=sizeLine;decide,λp np=>q _ _ _ (k5.trans 236) (fin2 p _ _ _ _ np way2 way1) (by simp,by simp,by rw[c1];simp,λw hw=>?_,_,by rw[c1];rfl,mine))
  rcases FW.mp hw with z|z
  ·rw[z];exact wb2
  ·rw[FM.mp z];exact wb1
 have c0:r.2.2=0:=by lia
 refine (103,156,rfl,EI (λc2=>?_) (λc2=>?_))
 ·refine (by show 2<=sizeLine;decide,λp np=>q _ _ _ (k5.trans 236) (fin2 p _ _ _ _ np way1 way2) (by simp,by simp,by rw[c0];simp,λw hw=>?_,_,by rw[c0];rfl,mine))
  rcases FW.mp hw with z|z
  ·rw[z];exact wb1
  ·rw[FM.mp z];exact wb2
 ·refine (by show 1<=sizeLine;decide,λp np=>q _ _ _ (k5.trans 236) (p,rfl,k5.free np,_,ao,A2.one (mi way1 236)) (by simp,by simp,by rw[c0];simp,λw hw=>?_,_,by rw[c0];rfl,mine))
  rw[FM.mp hw];exact wb1
theorem DN {dV:Value} (F:b6 K "_law_used" "_law_used" B7 dV f fd):240 1 f fd ["_law_runs_here","_law_tasks","_law_name","_law_t"] u4:=by
 have sc:aK ["_law_runs_here","_law_tasks","_law_name","_law_t","_law_found","_law_i","_law_tool","_law_many_here","_law_heat"] ["_law_runs_here","_law_tasks","_law_name","_law_t"] (aB B7):=eR 78
 sleep 36
 refine iy h λrl tl z t T R _hi=>?_
 refine iz _hi λ_r1 _r2 _r3 pok r24 _hj=>?_
 refine cP _hj λnd q=>?_
 sleep 24;obtain ⟨vs,el,rT⟩:=_r2;obtain ⟨bs,er,rR⟩:=_r3;exists _,(ak (cz 4 sc af) (ak (241 182 230 (au (241 (aP (aw aM (248 (248 113 146 36) (aw aM (248 98 146 36) af 36) 36) af 36)) (fD rfl (bw (dD 6 sc) (bw (dD 7 sc) (bw (dD 8 sc) dI)))) (au (bp (PW.pt (fU (aC fF 232 111 129) (dY (dj dJ gM (aw aM (248 98 146 36) af 36) 124 (aw aM (248 98 146 36) af 36))))) (au (cz 4 sc (250 118 235))) aF))))) (au (aG 118))))
 try dsimp only[cxK]
 sleep 17;sleep 0;have lr:(bs.map V.ref).length=R.length:=by rw[F1,rR.1,F1]
 refine (aT rl _ (rfl,.inl (aE.of er),ν,by lia,by lia,bE (λi σ H'=>∃o5 o6 o7 o8:Option V,σ= [IS rl,IS tl,some (.str z),some (.int t),some (.int (cM T R z t i)),o5,o6,o7,o8]/\H=H') (aQ none none none none 199) ?_ ?_))
 ·rintro i σ H1 hi ⟨o5,o6,o7,o8,rfl,rfl⟩;rw[FO,lr] at hi;refine iy (Bu rT rR pok hi) λwl b ts v r j _hi=>?_
  refine vE _hi λhw ew hv rw' hb eb hr' hj hgd=>?_
  have us:cM T R z t 176=cM T R z t i+(if cY r t=true then bX (dB T R i) z else 0):=by
   show cM T R z t i+(if cY 208 t=true then bX (dB T R i) z else 0)=_
   rw[hgd]
  have ndw:((dB T R i).2.2.map 166).Nodup:=by
   have iT:i<T.length:=by rw[<-pok.len];exact hi
   have hT:=F0 iT;have pk:=pok.way i _ _ hr' hT;refine nd _ (G5 iT) _ ?_;unfold dB;rw[aL hT,aL hr',hj,FO,aL (F0 (show j<(T[i]).length by lia))]
   exact G5 _
  have br:fV (bs.map V.ref) 121=some (.ref b):=cB (cu hb);generalize dB T R i=wy at rw' us ndw;refine kc rw' λtw uw _hi=>?_
  refine fh _hi λ_r1 _ _ _hj=>?_
  refine cP _hj λetw _hk=>?_
  refine eG _hk λus' _hl=>?_
  refine cP _hl λeu ru=>?_
  clear rw' _hi _hj _hk _hl;subst _r1;have gz:cY r t=(decide (r.1<=t)&&decide (t<r.2.1)):=rfl;refine (aQ tl _ _ _ ⟨rfl,rfl,aE.of el,(cB hw),aQ rl _ _ _ ⟨rfl,rfl,aE.of er,br,aQ b _ _ _ ⟨rfl,rfl,bT.of eb,rfl,aQ wl _ _ _ ⟨rfl,rfl,aE.of ew,(by rw[hj];exact bV hv),aQ tw _ _ _ ⟨rfl,rfl,bT.of etw,rfl,uw,rfl,⟨_,aE.of eu⟩,bL (xs:=us') (λk σ H'=>∃o6 o7 o8:Option V,σ= [IS rl,IS tl,some (.str z),some (.int t),some (.int (cM T R z t i+(if cY r t=true then gG z (wy.2.2.take k) else 0))),some (.int 121),o6,o7,o8]/\H=H') (b9 o6 o7 o8 ⟨?_,rfl⟩) (λk σ H' _ h=>by obtain ⟨_,_,_,_,rfl⟩:=h;exact aE.of eu) ?_ ?_⟩⟩⟩⟩⟩)
  ·have:(if cY r t=true then gG z (wy.2.2.take 0) else 0)=0:=by
    rw[List.take_zero]
    split<;>rfl
   rw[this,Int.add_zero]
   rfl
  ·rintro k y σ H2 hy ⟨o6,o7,o8,rfl,rfl⟩;obtain ⟨e,he,a,rfl,_,ea⟩:=ru.at_ hy;have st:=wV (z:=z) he;refine (aT a _ (rfl,bT.of ea,rfl,aT _ _ (rfl,aT _ _ 171)));have keep:(if cY r t=true then (if e.1=z then e.2.1 else 0) else 0)=0->(if cY r t=true then gG z (wy.2.2.take 224) else 0)=(if cY r t=true then gG z (wy.2.2.take k) else 0):=λh=>by
    rw[st]
    split
    ·rename_i gg;rw[if_pos gg] at h;rw[h,Int.add_zero]
    ·rfl
   refine (rfl,d2 (λc=>(aQ rl _ _ _ (rfl,rfl,aE.of er,br,aQ b _ _ _ (rfl,rfl,bT.of eb,rfl,d2 (λc1=>(aQ rl _ _ _ (rfl,rfl,aE.of er,br,aQ b _ _ _ (rfl,rfl,bT.of eb,rfl,d2 (λc2=>?_) (λc2=>?_))))) (λc1=>?_))))) 165)
   ·have c':e.1=z:=by injection c
    have gt:cY r t=true:=by rw[gz,decide_eq_true c1,decide_eq_true c2];rfl
    rw[if_pos c'] at st;refine (b9 (some (.str e.1)) (some (.int e.2.1)) (some (.int e.2.2)) (?_,rfl));rw[gt,if_pos rfl,if_pos rfl,st,<-Int.add_assoc]
    rfl
   ·exact (b9 _ _ _ (by rw[keep (by rw[gz,decide_eq_true c1,decide_eq_false c2];rfl)];rfl,rfl))
   ·exact ((b9 _ _ _ (by rw[keep (by rw[gz,decide_eq_false c1];rfl)];rfl,rfl)))
   ·have hz:(if e.1=z then e.2.1 else 0)=0:=if_neg λc'=>c (by rw[c'])
    exact (b9 _ _ _ (by rw[keep (by rw[hz,ite_self])];rfl,rfl))
  ·rintro σ H2 ⟨o6,o7,o8,rfl,rfl⟩;rw[ru.1,GN,yI ndw];exact (aQ _ _ _ _ (by rw[us],rfl))
 ·rintro σ H1 ⟨o5,o6,o7,o8,rfl,rfl⟩;rw[FO,lr];exact q
theorem DO {dV:Value} (F:b6 K "_law_tools" "_law_tools" B8 dV f fd) (DZ32:239 1 "_law_used" ["_law_runs_here","_law_tasks","_law_name","_law_t"] [] u4):240 2 f fd ["_law_runs_here","_law_tasks","_law_names_here","_law_cell"] q8:=by
 have sc:aK ["_law_runs_here","_law_tasks","_law_names_here","_law_cell","_law_tools_here","_law_k","_law_number","_law_i","_law_way","_law_tool","_law_many_here","_law_heat"] ["_law_runs_here","_law_tasks","_law_names_here","_law_cell"] (aB B8):=eR 78
 sleep 36
 refine iy h λrl tl ln c T R _hi=>?_
 refine kc _hi λn0 n1 _hj=>?_
 refine vE _hj λ_r1 hT hR en ne pok r4 wok q=>?_
 sleep 24;exists _,(ak (cz 4 sc qc) (ak (241 (251 (af<*>ae)) 230 (ak (cz 6 sc af) (ak (241 182 (dD 7 sc) (ak (cz 6 sc (az (hW rfl) rfl B.Ie boot_max (232<*>((cy DZ32 hr (98<*>(113<*>((248 111 146 36)<*>((aw aM (248 98 235 36) af 36)<*>ae)))))<*>ae)))) (au (241 (aP (248 113 235 36)) (dD 8 sc) (au (241 (aP (aw aM (pv 8) af 36)) (fD rfl (bw (dD 9 sc) (bw (dD 10 sc) (bw (dD 11 sc) dI)))) (au (cz 6 sc (az (hW rfl) rfl B.Ie boot_max (232<*>((pv 10)<*>ae))))))))))) (au (zS (jU hr) 118 (248 111 146 36) (az (vP rfl) rfl B.Ih boot_min (af<*>((250 232 (252 (254 124 (250 146 af)) af))<*>ae))) rfl))))) (au (aG 118))))
 try dsimp only[cxK]
 sleep 17;sleep 0;refine λtd ntd=>?_
 have g0:=ar ntd (.dK []);have e0:aI H td (.dK []) td=some (.dK (bv [])):=ao;generalize aI H td (.dK [])=H0 at g0 e0⊢;have ndw:∀ws∈T,∀w∈ws,(w.2.2.map 166).Nodup:=λws hws w hw=>by
  refine fh ((wok ws hws).2.2 w hw) λ_ _ _ _hi=>?_
  refine kc _hi λh0 h1 _hj=>?_
  refine ke _hj λ_ _ us=>?_
  exact us.nd
 have m2:∀ws∈T,∀w∈ws,∀u∈w.2.2,u.2.1<=2:=λws hws w hw u hu=>by
  refine fh ((wok ws hws).2.2 w hw) λ_ _ _ _hi=>?_
  refine kc _hi λh0 h1 _hj=>?_
  refine ke _hj λ_ _ us=>?_
  exact (us.use u hu).2.2
 have u8:∀z t,cM T R z t R.length<=8:=λz t=>by
  have:=rc (T:=T) (R:=R) (z:=z) (t:=t) (λi il=>by
   have iT:i<T.length:=by rw[<-pok.len];exact il
   have hT:=F0 iT;have hr:=F0 il;have pk:=pok.way i _ _ hr hT;refine yW (n0:=n0) (n1:=n1) ((wok _ (G5 iT)).2.2 _ ?_);unfold dB;rw[aL hT,aL hr,aL (F0 (show (R[i]).2.2.toNat<(T[i]).length by lia))]
   exact G5 _) R.length 160
  lia
 obtain ⟨bs,er,rR⟩:=id hR;obtain ⟨vs,el,rT⟩:=id hT;have lr:(bs.map V.ref).length=R.length:=by rw[F1,rR.1,F1]
 have E8:∀z m,zA T R z R.length m↔(1<=m/\m<=8/\(∀r∈R,cM T R z r.1 R.length<=m)/\∀ws∈T,∀w∈ws,∀u∈w.2.2,u.2.1<=m):=λz m=>by
  have eT:T.take R.length=T:=by rw[pok.len];exact GN
  constructor
  ·intro h;have h3:=h.run;have h4:=h.way;rw[GN] at h3;rw[eT] at h4;exact (h.lo,h.hi,h3,h4)
  ·intro h;exact (h.1,h.2.1,by rw[GN];exact h.2.2.1,by rw[eT];exact h.2.2.2)
 refine (ν,by decide,by decide,bE (λi σ H'=>∃(o5 o6 o7 o8 o9 o10 o11:Option V) (D:Tl),σ= [IS rl,IS tl,IS ln,some (.int c),IS td,o5,o6,o7,o8,o9,o10,o11]/\aA H H'/\H' td=some 115/\((i=0/\D= [])∨(i=1/\∃m0,D= [206]/\zA T R n0 R.length m0)∨(i=2/\∃m0 m1,D= [206,(n1,m1)]/\zA T R n0 R.length m0/\zA T R n1 R.length m1))) (fL none none none none none none (aT none [] (rfl,g0,e0,.inl 199))) ?_ ?_)
 ·intro i σ H1 hi h_;refine iy h_ λo5 o6 o7 o8 o9 o10 _hi=>?_
  refine kc _hi λo11 D _hj=>?_
  refine fh _hj λ_r1 g1 eD hD=>?_
  sleep 5;replace hi:i<2:=hi;obtain ⟨nm,hn,fin⟩:∃nm:Str,fV [V.str n0,V.str n1] (0+(i:Int))=some (.str nm)/\∀m,zA T R nm R.length m->∃D',putK (bv D) (.inr nm) (.int m)=bv D'/\((i+1=0/\D'= [])∨(i+1=1/\∃m0,D'= [(n0,m0)]/\zA T R n0 R.length m0)∨(i+1=2/\∃m0 m1,D'= [(n0,m0),(n1,m1)]/\zA T R n0 R.length m0/\zA T R n1 R.length m1)):=by
   rcases hD with ⟨rfl,rfl⟩|⟨rfl,m0,rfl,h0⟩|⟨rfl,_⟩
   ·exact (n0,rfl,λm hm=>([(n0,m)],rfl,.inr (.inl (rfl,m,rfl,hm))))
   ·exact (n1,rfl,λm hm=>([206,(n1,m)],yU (λe=>ne (by injection e)),.inr (.inr (rfl,aT m0 m (rfl,h0,hm)))))
   ·lia
  have dl:(bv D).length<sizeLine:=by
   rw[nC];rcases hD with ⟨_,rfl⟩|⟨_,m0,rfl,_⟩|⟨rfl,_⟩
   ·simp;lia
   ·simp;lia
   ·lia
  try dsimp only[aZ,bz]
  refine dP (λNq=>Nq [some (.ref rl),some 237,some (.ref ln),some (.int c),some (.ref td),some (.int 121),some (.int 1),o7,o8,o9,o10,o11] H1) (λN hN=>hN) ?_
  try dsimp only[aZ,bz]
  refine dP (λNq=>∀(o7 o8 o9 o10 o11:Option V) (m:Int),zA T R nm R.length m->Nq [some (.ref rl),some 237,some (.ref ln),some (.int c),some (.ref td),some (.int 121),some 216,o7,o8,o9,o10,o11] H1) 174 ?_
  ·refine (aT rl _ (rfl,.inl (aE.of (253 er)),ν,by lia,by lia,bE (λk σ H'=>∃(o7 o8 o9 o10 o11:Option V) (m:Int),σ= [IS rl,IS tl,IS ln,some (.int c),IS td,some (.int 121),some 216,o7,o8,o9,o10,o11]/\H1=H'/\zA T R nm k m) (fL _ _ _ _ _ 1 (rfl,rfl,(by decide,by decide,λr hr=>by simp at hr,λw hw=>by simp at hw))) ?_ ?_))
   ·intro k σ H2 hk h_;refine iy h_ λo7 o8 o9 o10 o11 m _hi=>?_
    refine ke _hi λ_r1 _r2 en1=>?_
    clear h_ _hi;subst _r1;subst _r2;rw[FO,lr] at hk;have hr':=F0 hk;obtain ⟨b,hb,eb⟩:=rR.get (show (R.map rk)[k]?=some (rk R[k]) by rw[F7,hr'];rfl)
    have kT:k<T.length:=by rw[<-pok.len];exact hk
    have hTk:=F0 kT;refine eG (rT.get hTk) λv _hi=>?_
    refine cP _hi λhv _hj=>?_
    refine eG _hj λwl _hk=>?_
    refine ke _hk λ_r1 _ _hl=>?_
    refine eG _hl λws' _hm=>?_
    refine cP _hm λew rw'=>?_
    clear _hi _hj _hk _hl _hm;subst _r1;have memT:=G5 kT;refine (aQ ln _ _ _ (rfl,rfl,aE.of (253 en),hn,aQ rl _ _ _ (rfl,rfl,aE.of (253 er),(cB (cu hb)),aQ b _ _ _ (rfl,rfl,bT.of (253 eb),rfl,fL rl tl nm _ T R (rfl,hT.same g1,hR.same g1,pok,by lia,ndw,aT _ _ (rfl,?_))))))
    have a1:=pF m (cM T R nm (R[k]).1 R.length);have a2:=u5 m (cM T R nm (R[k]).1 R.length);have a3:=yV en1.hi (u8 nm (R[k]).1);generalize (if cM T R nm (R[k]).1 R.length>m then cM T R nm (R[k]).1 R.length else m)=m' at a1 a2 a3⊢
    have m1':1<=m':=by have:=en1.lo;lia
    refine (aQ tl _ _ _ ⟨rfl,rfl,aE.of (253 el),(cB hv),wl,rfl,⟨_,aE.of (253 ew)⟩,bL (xs:=ws') (λj σ H'=>∃(o8 o9 o10 o11:Option V) (x:Int),σ= [IS rl,IS tl,IS ln,some (.int c),IS td,some (.int 121),some (.int x),some (.int (0+(k:Int))),o8,o9,o10,o11]/\H1=H'/\m'<=x/\x<=8/\∀w∈(T[k]).take j,∀u∈w.2.2,u.2.1<=x) (aQ _ _ _ _ ⟨m',⟨rfl,rfl,GP _,a3,λw hw=>by simp at hw⟩⟩) (λj σ H' _ h=>by obtain ⟨_,_,_,_,_,_,rfl,_⟩:=h;exact aE.of (253 ew)) ?_ ?_⟩)
    ·intro j y σ H2 hy h_;refine ip h_ λo8 o9 o10 o11 _hi=>?_
     refine eG _hi λx _hj=>?_
     refine fh _hj λ_r1 _r2 x1 _hk=>?_
     refine cP _hk λx8 xw=>?_
     sleep 21;subst _r2;refine eG (rw'.at_ hy) λw _hi=>?_
     sleep 30
     refine kc _hj λtw uw _hk=>?_
     sleep 33
     refine cP _hl λetw _hm=>?_
     refine eG _hm λus' _hn=>?_
     refine cP _hn λeu ru=>?_
     clear _hi _hj _hk _hl _hm _hn;subst _r1;have memw:=F5 hw;refine (aQ tw _ _ _ ⟨rfl,rfl,bT.of (253 etw),rfl,uw,rfl,⟨_,aE.of (253 eu)⟩,bL (xs:=us') (λl σ H'=>∃(o9 o10 o11:Option V) (x':Int),σ= [IS rl,IS tl,IS ln,some (.int c),IS td,some (.int 121),some (.int x'),some (.int (0+(k:Int))),IS tw,o9,o10,o11]/\H1=H'/\x<=x'/\x'<=8/\∀u∈w.2.2.take l,u.2.1<=x') (aQ _ _ _ x ⟨rfl,rfl,GP _,x8,λw hw=>by simp at hw⟩) (λj σ H' _ h=>by obtain ⟨_,_,_,_,_,rfl,_⟩:=h;exact aE.of (253 eu)) ?_ ?_⟩)
     ·intro l y σ H2 hy h_;refine ip h_ λo9 o10 o11 x' _hi=>?_
      refine fh _hi λ_r1 _r2 x1' _hj=>?_
      refine cP _hj λx8' xw'=>?_
      sleep 5;subst _r2;obtain ⟨e,he,a,rfl,_,ea⟩:=ru.at_ hy;have e2:=m2 _ memT w memw e (F5 he);refine (aT a _ (rfl,bT.of (253 ea),rfl,aT _ _ (rfl,aT _ _ (rfl,aT _ _ (rfl,rfl,aT _ _ (rfl,aQ _ _ _ _ (rfl,rfl,HS x1' (pF _ _),yV x8' 72,λu hu=>?_)))))))
      rw[cq he] at hu;rcases FS.mp hu with z|z
      ·exact HS (xw' u z) (pF _ _)
      ·rw[FM.mp z];exact u5 _ _
     ·intro σ H2 h_;refine ip h_ λo9 o10 o11 x' _hi=>?_
      refine fh _hi λ_r1 _r2 x1' _hj=>?_
      refine cP _hj λx8' xw'=>?_
      sleep 5;subst _r2;rw[ru.1,GN] at xw';refine (aQ _ _ _ _ (x',(rfl,rfl,by lia,x8',λw' hw'=>?_)))
      rw[cq hw] at hw';rcases FS.mp hw' with z|z
      ·exact λu hu=>HS (xw w' z u hu) x1'
      ·rw[FM.mp z];exact xw'
    ·intro σ H2 h_;refine ip h_ λo8 o9 o10 o11 _hi=>?_
     refine eG _hi λx _hj=>?_
     refine fh _hj λ_r1 _r2 x1 _hk=>?_
     refine cP _hk λx8 xw=>?_
     sleep 21;subst _r2;rw[rw'.1,GN] at xw;refine (fL _ _ _ _ _ x (rfl,rfl,(by lia,x8,λr hr=>?_,λws hws=>?_)))
     ·rw[cq hr'] at hr;rcases FS.mp hr with z|z
      ·have:=en1.run r z;lia
      ·rw[FM.mp z];lia
     ·rw[cq hTk] at hws;rcases FS.mp hws with z|z
      ·exact λw hw u hu=>by have:=en1.way ws z w hw u hu;lia
      ·rw[FM.mp z];exact xw
   ·intro σ H2 h_;refine iy h_ λo7 o8 o9 o10 o11 m _hi=>?_
    refine ke _hi λ_r1 _r2 en1=>?_
    clear h_ _hi;subst _r1;subst _r2;rw[FO,lr] at en1;exact hN _ _ _ _ _ m en1
  intro o7 o8 o9 o10 o11 m en1;have mx:=fm (a:=c.fdiv (0+(i:Int)+1)) (n:=2) 73
  refine ((by lia,FQ 72),156,aT _ _ (rfl,aQ ln _ _ _ (rfl,rfl,aE.of (253 en),hn,aT td _ (rfl,xT.k (k:= .inr nm) eD dl,?_))))
  have b1:=By (a:=m+(c.fdiv (0+(i:Int)+1)).fmod 2) en1.hi 72
  have b2:=Al (m+(c.fdiv (0+(i:Int)+1)).fmod 2);generalize (if m+(c.fdiv (0+(i:Int)+1)).fmod 2<8 then m+(c.fdiv (0+(i:Int)+1)).fmod 2 else 8)=m' at b1 b2⊢
  obtain ⟨D',eD',hD'⟩:=fin m' ⟨by have:=en1.lo;lia,b2,λr hr=>by have:=en1.run r hr;lia,λws hws w hw u hu=>by have:=en1.way ws hws w hw u hu;lia⟩
  exact (fL _ _ _ _ _ _ (aT _ D' (rfl,dE g1 ntd _,by rw[ao,eD'],hD')))
 ·intro σ H1 h_;refine iy h_ λo5 o6 o7 o8 o9 o10 _hi=>?_
  refine kc _hi λo11 D _hj=>?_
  refine fh _hj λ_r1 g1 eD hD=>?_
  sleep 5;rcases hD with ⟨h,_⟩|⟨h,_⟩|⟨_,m0,m1,rfl,h0,h1⟩
  ·exact absurd h 73
  ·exact absurd h 73
  ·have k0:=(E8 _ _).mp h0;have k1:=(E8 _ _).mp h1;exact (q td m0 m1 H1 g1 ntd eD ((k0.1,k0.2.1),(k1.1,k1.2.1),k0.2.2.1,k1.2.2.1,λws hws w hw u hu=>(k0.2.2.2 ws hws w hw u hu,k1.2.2.2 ws hws w hw u hu)))
theorem DP {dV:Value} (F:b6 K "_law_arcs" "_law_arcs" B9 dV f fd):240 1 f fd ["_law_cells","_law_times","_law_far"] vD:=by
 have sc:aK ["_law_cells","_law_times","_law_far","_law_arcs_here","_law_cell","_law_p","_law_q","_law_slack"] ["_law_cells","_law_times","_law_far"] (aB B9):=eR 78
 sleep 36
 refine ip h λlc ls cs S _hi=>?_
 refine eG _hi λf _hj=>?_
 refine vE _hj λ_r1 ec c63 es s1 s100 hf ht q=>?_
 sleep 24;exists _,(ak (cz 3 sc 102) (ak (241 (aP 98) (dD 4 sc) (ak (cz 5 sc (252 118 123)) (ak (cz 6 sc (252 (254 118 123) 123)) (ak (cz 7 sc (av bj (252 (254 118 (av bj 123 123)) af) 111)) (au (bU (243 124 ((@bR _ _ _ _ _ (146<*>(232<*>((av fE (av fE (248 113 232 36) (248 113 146 36)) 235)<*>ae))))<*>ae)))))))) (au (aG 124))))
 try dsimp only[cxK]
 sleep 17;sleep 0;refine (by show 0<=sizeLine;decide,λl nl=>?_)
 have g0:=ar nl 85;have e0:aI H l 85 l=some (.lst []):=ao;generalize aI H l 85=H0 at g0 e0⊢;have lS:(S.map V.int).length=S.length:=F1 _;refine (lc,rfl,(_,aE.of (g0 _ _ ec)),bL (xs:=cs.map V.int) (λi σ H'=>∃(o4 o5 o6 o7:Option V) (A:List Ky),σ= [IS lc,IS ls,some (.int f),IS l,o4,o5,o6,o7]/\aA H H'/\bx H' l A/\A.length=i/\∀k∈A,jY 101 k/\q9 S k) (aQ none none none none ([],(rfl,g0,([],e0,cX.nil),rfl,λk hk=>by cases hk))) (λi σ H' _ (_,_,_,_,_,_,g,_)=>aE.of (g _ _ ec)) ?_ ?_)
 ·intro i y σ H1 hy h_;refine ip h_ λo4 o5 o6 o7 _hi=>?_
  refine eG _hi λA _hj=>?_
  refine fh _hj λ_r1 g1 _r2 _hk=>?_
  refine cP _hk λlA okA=>?_
  sleep 21;obtain ⟨bs,eb,rb⟩:=_r2;have il:i<cs.length:=by have:=(F4.mp hy).1;rw[F1] at this;exact this
  rw[F7] at hy;obtain ⟨x,hx,rfl⟩:=FT.mp hy;have es1:=g1 _ _ es;have mp:=fm (a:=x) (n:=101) 72
  have mq:=fm (a:=x.fdiv 101) (n:=101) 72
  have sq1:1<=101*(S.length:Int):=Int.mul_pos 72 72
  have sq2:101*101<=100*100:=Int.mul_le_mul 72 72 72 73
  have mk:=fm (a:=x.fdiv (101*101)) (n:=5) 73
  have hp:=F0 (show (x.fmod 101).toNat<S.length by lia)
  have hq:=F0 (show ((x.fdiv 101).fmod 101).toNat<S.length by lia)
  have tp:=ht _ (G5 (show (x.fmod 101).toNat<S.length by lia))
  have tq:=ht _ (G5 (show ((x.fdiv 101).fmod 101).toNat<S.length by lia))
  have ap:fV (S.map V.int) (x.fmod 101)=some (.int (S[(x.fmod 101).toNat])):=by
   have:=bV (cu (f:=V.int) hp);rw[Int.toNat_of_nonneg mp.1] at this;exact this
  have aq:fV (S.map V.int) ((x.fdiv 101).fmod 101)=some (.int (S[((x.fdiv 101).fmod 101).toNat])):=by
   have:=bV (cu (f:=V.int) hq);rw[Int.toNat_of_nonneg mq.1] at this;exact this
  have gp:=aL (d:=0) hp;have gq:=aL (d:=0) hq;generalize S[(x.fmod 101).toNat]'(by lia)=vp at hp tp ap gp
  generalize S[((x.fdiv 101).fmod 101).toNat]'(by lia)=vq at hq tq aq gq
  have sz:(bs.map V.ref).length<sizeLine:=by rw[F1,rb.1];lia
  refine (aT ls _ (rfl,.inl (aE.of es1),?_));rw[lS];refine (by lia,aT ls _ (rfl,.inl (aE.of es1),?_))
  rw[lS];refine ((by lia,FQ 72),aT ls _ (rfl,.inl (aE.of es1),?_))
  rw[lS];refine (by lia,aT ls _ (rfl,.inl (aE.of es1),aT ls _ (rfl,.inl (aE.of es1),?_)))
  rw[lS];exists 89 147,(by lia,FQ 72),(by show (5:Int)≠0;decide),89 147
  refine (.inl (rfl,_,aE.of eb),aQ ls _ _ _ (rfl,rfl,aE.of es1,aq,aQ ls _ _ _ (rfl,rfl,aE.of es1,ap,by show 3<=sizeLine;decide,λt nt=>(b9 l _ _ (rfl,rfl,ar nt _ _ _ eb,sz,?_)))))
  generalize (x.fdiv (101*101)).fmod 5=sk at mk nt⊢;have k0:0<=sk*f/\sk*f<=4*f:=by rcases hf with rfl|rfl<;>lia
  have f0:1<=f/\f<=10000019:=by rcases hf with rfl|rfl<;>lia
  have gt:=ar nt (.tup [.int (x.fmod 101),.int ((x.fdiv 101).fmod 101),.int (vq-vp-sk*f)]);refine (aQ _ _ _ _ (A++ [[x.fmod 101,(x.fdiv 101).fmod 101,vq-vp-sk*f]],(rfl,dE (g1.trans gt) nl _,eK (gt _ _ eb) (rb.imp λa k q=>gt _ _ q) ao,by rw[FP];simp;lia,λk hk=>?_)))
  rcases FS.mp hk with h|h
  ·exact okA k h
  ·rw[FM.mp h];refine ((b9 _ _ _ (rfl,mp.1,mp.2,mq.1,mq.2,by lia,by lia)),b9 _ _ _ (rfl,?_))
   rw[gp,gq]
   lia
 ·intro σ H1 h_;refine ip h_ λo4 o5 o6 o7 _hi=>?_
  refine eG _hi λA _hj=>?_
  refine fh _hj λ_r1 g1 hA _hk=>?_
  refine cP _hk λlA okA=>?_
  sleep 21;rw[F1] at lA;exact (q l A H1 nl g1 hA lA okA)
theorem DQ {dV:Value} (F:b6 K "_law_case" "_law_case" Ca dV f fd) (DZ25:239 1 "_law_mixed" ["_law_cell","_law_k"] [] kF):240 2 f fd ["_law_runs_here","_law_cell"] u7:=by
 have sc:aK ["_law_runs_here","_law_cell","_law_picks","_law_orders","_law_i","_law_j"] ["_law_runs_here","_law_cell"] (aB Ca):=eR 78
 sleep 36
 refine mK h λrl c R _hi=>?_
 refine fh _hi λ_r1 hR r4 _hj=>?_
 refine cP _hj λr01 q=>?_
 sleep 24;exists _,(ak (cz 2 sc 102) (ak (cz 3 sc 102) (ak (241 182 (dD 4 sc) (ak (bU (243 111 ((248 (@aU _ _ _ _ (bq<*>((aw aM (248 98 118 36) af 36)<*>ae))) (252 (cy DZ25 hr (113<*>231)) af) 36)<*>ae))) (au (241 182 230 (au (bp (PW.pt (fU (aC dJ (aw aM (248 98 118 36) af 36) (aw aM (248 98 146 36) af 36) 129) (dY (aC fF (252 (cy DZ25 hr (113<*>((250 (250 af (247 118)) 146)<*>ae))) af) af 129)))) (au (bU (243 124 ((@bR _ _ _ _ _ (118<*>(146<*>ae)))<*>ae)))) aF)))))) (au (aG (@bR _ _ _ _ _ (111<*>238)))))))
 try dsimp only[cxK]
 sleep 28;sleep 0;obtain ⟨bs,er,rR⟩:=id hR;have lr':(bs.map V.ref).length=R.length:=by rw[F1,rR.1,F1]
 have run:∀H':Hp,aA H H'->∀i,i<R.length->∃t,fV (bs.map V.ref) 121=some 223/\H' t=some (.tup ((rk 208).map V.int)):=λH' g i hi=>by
  have hr:=F0 hi;obtain ⟨t,ht,et⟩:=rR.get (show (R.map rk)[i]?=some (rk R[i]) by rw[F7,hr];rfl)
  rw[aL hr];exact (t,cB (cu ht),g _ _ et)
 refine (by show 0<=sizeLine;decide,λpl npl=>?_)
 have g0:=ar npl 85;have e0:aI H pl 85 pl=some (.lst []):=ao;generalize aI H pl 85=H0 at g0 e0⊢;refine (by show 0<=sizeLine;decide,λol nol=>?_)
 have pne:pl≠ol:=λe=>by rw[e,nol] at e0;cases e0
 have nol0:=g0.free nol;have g1':=ar nol 85;have e1:aI H0 ol 85 ol=some (.lst []):=ao;have e0':=g1' _ _ e0;have g1:=g0.trans g1';generalize aI H0 ol 85=H1 at g1 e0' e1⊢;clear g0 e0 g1' nol;refine (aT rl _ (rfl,.inl (aE.of (253 er)),ν,by lia,by lia,bE (λi σ H'=>∃(o4 o5:Option V) (P:Pk) (ps:List (Int×Int)),σ= [IS rl,some (.int c),IS pl,IS ol,o4,o5]/\aA H H'/\H' pl=some (.lst (P.map rX))/\bx H' ol (cU ps)/\P.length=i/\(∀(k j:Nat) (r:Rn),P[k]?=some (some j)->R[k]?=some r->r.2.2=(j:Int))/\ps.length<=R.length*i/\∀p∈ps,0<=p.1/\p.1<195/\0<=p.2/\p.2<195/\(R.getD p.1.toNat 131).2.1<=(R.getD p.2.toNat 131).1) (aQ none none [] [] (rfl,g1,e0',([],e1,cX.nil),rfl,λk j r h=>by simp at h,G4 _,λp hp=>by cases hp)) ?_ ?_))
 ·intro i σ H2 hi h_;refine ip h_ λo4 o5 P ps _hi=>?_
  refine iz _hi λ_r1 g2 eP hO lP _hj=>?_
  refine ke _hj λokP pl' pok=>?_
  sleep 5;rw[FO,lr'] at hi;obtain ⟨ti,ai,eti⟩:=run H2 g2 i hi;have hr':=F0 hi;have rd:=aL (d:=131) hr';have r22:=r01 _ (G5 hi);rw[<-rd] at r22;have szP:(P.map rX).length<sizeLine:=by rw[F1];lia
  refine (.inl (rfl,_,aE.of eP),aQ rl _ _ _ (rfl,rfl,aE.of (g2 _ _ er),ai,aQ ti _ _ _ (rfl,rfl,bT.of eti,rfl,by show 2<=sizeLine;decide,λp np=>(aT _ _ (rfl,λv v0=>?_)))))
  have mv:=fm (a:=v) (n:=2) 73
  obtain ⟨x,hx,ox⟩:∃x:Option Nat,fV [V.non,V.int (R.getD i (0,0,0)).2.2] (v.fmod 2)=some (rX x)/\∀j:Nat,x=some j->(R.getD i (0,0,0)).2.2=(j:Int):=by
   obtain e|e:v.fmod 2=0∨v.fmod 2=1:=by lia
   ·rw[e];exact (none,rfl,λj h=>by cases h)
   ·rw[e];refine (some (R.getD i 131).2.2.toNat,?_,λj h=>?_)
    ·show some (V.int _)=some (V.int _);rw[Int.toNat_of_nonneg 72]
    ·injection h with h
     lia
  have gp:=ar np (.lst [.non,.int (R.getD i 131).2.2]);have g3:=g2.trans gp;have eP3:=gp _ _ eP;refine (156,aQ p _ _ _ (rfl,rfl,aE.of ao,hx,b9 pl _ _ (rfl,rfl,eP3,szP,?_)))
  have hO3:=(hO.same gp).upd (ys:=P.map rX++ [rX x]) eP3 (λe=>pne e.symm)
  have g4:=dE g3 npl (.lst (P.map rX++ [rX x]));have eP4:aI (aI H2 p (.lst [.non,.int (R.getD i 131).2.2])) pl (.lst (P.map rX++ [rX x])) pl=some (.lst ((P++ [x]).map rX)):=by rw[ao,G8];rfl
  generalize aI (aI H2 p (.lst [.non,.int (R.getD i 131).2.2])) pl (.lst (P.map rX++ [rX x]))=H3 at hO3 g4 eP4⊢;have okP':∀(k j:Nat) (r:Rn),(P++ [x])[k]?=some (some j)->R[k]?=some r->r.2.2=(j:Int):=λk j r h1 h2=>by
   by_cases ck:k<P.length
   ·rw[FU ck] at h1;exact okP k j r h1 h2
   ·have kl:=(F4.mp h1).1;rw[FP] at kl;have:k=i:=by simp at kl;lia
    subst this;rw[F9 72] at h1
    have:k-P.length=0:=by lia
    rw[this] at h1;replace h1:some x=some (some j):=h1;injection h1 with h1
    have:=ox j h1;rw[aL h2] at this;exact this
  clear eP3 hO eP gp g3 np eti;refine (aT rl _ (rfl,.inl (aE.of (g4 _ _ er)),ν,by lia,by lia,bE (λj σ H'=>∃(o5:Option V) (ps:List (Int×Int)),σ= [IS rl,some (.int c),IS pl,IS ol,some (.int 121),o5]/\aA H H'/\H' pl=some (.lst ((P++ [x]).map rX))/\bx H' ol (cU ps)/\ps.length<=R.length*i+j/\∀p∈ps,0<=p.1/\p.1<195/\0<=p.2/\p.2<195/\(R.getD p.1.toNat 131).2.1<=(R.getD p.2.toNat 131).1) (aT _ ps (rfl,g4,eP4,hO3,pl',pok)) ?_ ?_))
  ·clear pok pl' hO3 eP4 g4;intro j σ H4 hj h_;refine kc h_ λo5 ps _hi=>?_
   refine iz _hi λ_r1 g5 eP5 _r2 pl5 pok=>?_
   clear h_ _hi;subst _r1;obtain ⟨as,ea,ra⟩:=_r2;rw[FO,lr'] at hj;obtain ⟨ti',ai',eti⟩:=run H4 g5 i hi;obtain ⟨tj,aj,etj⟩:=run H4 g5 j hj;refine (aQ rl _ _ _ (rfl,rfl,aE.of (g5 _ _ er),ai',aQ ti' _ _ _ (rfl,rfl,bT.of eti,rfl,aQ rl _ _ _ (rfl,rfl,aE.of (g5 _ _ er),aj,aQ tj _ _ _ (rfl,rfl,bT.of etj,rfl,d2 (λc1=>?_) (λc1=>(aT _ ps (rfl,g5,eP5,(as,ea,ra),by lia,pok))))))))
   refine (89 73,aT _ _ (rfl,λv v0=>(156,rfl,d2 (λc2=>?_) (λc2=>(aT _ ps (rfl,g5,eP5,(as,ea,ra),by lia,pok))))))
   have sz:(as.map V.ref).length<sizeLine:=by
    have:R.length*i<=4*4:=Nat.mul_le_mul r4 72
    rw[F1,ra.1];unfold cU;rw[F1];lia
   refine (.inl (rfl,_,aE.of ea),by show 2<=sizeLine;decide,λt nt=>(b9 ol _ _ (rfl,rfl,ar nt _ _ _ ea,sz,?_)))
   have gt:=ar nt (.tup [.int 121,.int (0+(j:Int))]);refine (aT _ (ps++ [(0+(i:Int),0+(j:Int))]) (rfl,dE (g5.trans gt) nol0 _,?_,?_,by rw[FP];simp;lia,λp hp=>?_))
   ·rw[aJ pne];exact gt _ _ eP5
   ·unfold cU;rw[G8];exact eK (gt _ _ ea) (ra.imp λa k q=>gt _ _ q) ao
   ·rcases FS.mp hp with h|h
    ·exact pok p h
    ·rw[FM.mp h];exists by show (0:Int)<=0+(i:Int);lia,by show 0+(i:Int)<_;lia,by show (0:Int)<=0+(j:Int);lia,by show 0+(j:Int)<_;lia
     show (R.getD (0+(i:Int)).toNat 131).2.1<=(R.getD (0+(j:Int)).toNat 131).1;rw[Gp,Gp,FO,FO];exact c1
  ·intro σ H4 h_;refine kc h_ λo5 ps _hi=>?_
   refine iz _hi λ_r1 g5 eP5 hO5 pl5 pok=>?_
   clear h_ _hi;subst _r1;rw[FO,lr'] at pl5;exact (aQ _ _ (P++ [x]) ps (rfl,g5,eP5,hO5,by rw[FP,lP];rfl,okP',by rw[Nat.mul_add,Nat.mul_one];exact pl5,pok))
 ·intro σ H2 h_;refine ip h_ λo4 o5 P ps _hi=>?_
  refine iz _hi λ_r1 g2 eP hO lP _hj=>?_
  refine ke _hj λokP pl' pok=>?_
  sleep 5;rw[FO,lr'] at lP pl';have:R.length*R.length<=4*4:=Nat.mul_le_mul r4 r4;refine (by show 2<=sizeLine;decide,λt nt=>?_)
  have gt:=ar nt (.tup [.ref pl,.ref ol]);exact q t P ps _ (g2.trans gt) (aT pl ol (ao,gt _ _ eP,hO.same gt)) (lP,okP,by lia,pok)
theorem DR {dV:Value} (F:b6 K "_law_built" "_law_built" Cb dV f fd) (DZ23:239 1 "_law_cell_at" ["_law_script","_law_k"] [] (kY K)) (DZ27:239 2 "_law_names" ["_law_cell"] [] mC) (DZ28:239 2 "_law_runs" ["_law_script","_law_at","_law_many_here","_law_far"] [] (uZ K)) (DZ29:239 2 "_law_heats" ["_law_runs_here","_law_cells","_law_by"] [] qZ) (DZ31:239 2 "_law_task" ["_law_run","_law_cell","_law_more","_law_names_here","_law_heats_here"] [] u3) (DZ33:239 2 "_law_tools" ["_law_runs_here","_law_tasks","_law_names_here","_law_cell"] [] q8):240 3 f fd ["_law_script","_law_at","_law_many_here","_law_far"] (u6 K):=by
 have sc:aK ["_law_script","_law_at","_law_many_here","_law_far","_law_runs_here","_law_names_here","_law_cells","_law_heats_here","_law_tasks","_law_i","_law_more","_law_times","_law_k"] ["_law_script","_law_at","_law_many_here","_law_far"] (aB Cb):=eR 78
 sleep 36
 refine ip h λa ns at_ m _hi=>?_
 refine eG _hi λf _hj=>?_
 refine iz _hj λ_r1 hS h0 h9 m1 _hk=>?_
 refine ke _hk λm4 hf q=>?_
 sleep 23;exists _,(ak (cz 4 sc (cy DZ28 hr (98<*>(113<*>(111<*>238))))) (ak (cz 5 sc (cy DZ27 hr (95<*>ae))) (ak (jb (hd:=none) (own:= "_law_i") (ys:= ["_law_script","_law_at"]) (js:= [0,1]) sc.nd (i:=6) rfl rfl hr.hd (gJ (iL (iL gE)) (.cons rfl (.cons rfl .nil)) 73 rfl rfl rfl rfl rfl rfl rfl rfl) (c8 rfl B.Hr 207) (λC fp s H=>(cy DZ23 hr (113<*>((250 (250 111 (247 98)) af)<*>ae))))) (ak (cz 7 sc (@aU _ _ _ _ ((cy DZ29 hr (118<*>(232<*>(af<*>ae))))<*>((cy DZ29 hr (118<*>(232<*>(af<*>ae))))<*>ae)))) (ak (cz 8 sc 102) (ak (241 (251 207) (dD 9 sc) (ak (cz 10 sc (cy DZ23 hr (98<*>((250 (250 113 (247 (pv 9))) af)<*>ae)))) (au (bU (243 (pv 8) ((cy DZ31 hr ((248 118 (pv 9) 36)<*>((248 232 (pv 9) 36)<*>((pv 10)<*>(146<*>((@aU _ _ _ _ ((248 (248 235 af 36) (pv 9) 36)<*>((248 (248 235 af 36) (pv 9) 36)<*>ae)))<*>ae))))))<*>ae)))))) (ak (cz 11 sc 102) (ak (241 (251 ((252 95 af)<*>ae)) (dD 12 sc) (au (bU (243 (pv 11) ((av bj (252 (254 95 (250 af (pv 12))) af) 124)<*>ae))))) (au (aG (@bR _ _ _ _ _ ((cy DZ33 hr (118<*>((pv 8)<*>(146<*>(95<*>ae)))))<*>((pv 8)<*>(118<*>((pv 11)<*>ae)))))))))))))))
 try dsimp only[cxK]
 refine FL ?_;intro D' r8 r7 r6 r5 r4 r3 r2 r1;sleep 0;refine (aQ a ns at_ m (f,(rfl,hS,h0,by lia,by lia,m4,hf,λrl R H1 g1 nrl hR lR okR=>?_)))
 refine (b9 a ns 1 (rfl,g1.seq hS,by decide,λc1=>(ν,λln n0 n1 H2 g2 en nm0 nm1 nne=>?_)))
 have k2:=g1.trans g2;refine (m,rfl,by lia,by lia,gX (uY (λ_:Int=>True) V.int) 133 (λ_=>()) gQ.no 72 112 (λi hi H3 g3 Q' hQ=>?_) λlc H3 nlc g3 hc=>?_)
 ·exact (89 73,b9 a ns _ (rfl,(k2.trans g3).seq hS,by lia,λv=>hQ _ _ 168 (v,trivial,rfl)))
 obtain ⟨vs,ec,rv⟩:=hc;obtain ⟨cs,rfl,lcs,_⟩:=rv.some_of;rw[F1,GB] at lcs;clear rv;have k3:=k2.trans g3;have lRm:R.length=m.toNat:=by lia
 have r4:R.length<=4:=by lia
 have hR3:=hR.same (g2.trans g3);refine (aQ rl lc R cs (18,(rfl,hR3,ec,by lia,r4,.inl rfl,λl1 hs1 H4 g4 e1 ok1=>(aQ rl lc R cs (54,(rfl,hR3.same g4,g4 _ _ ec,by lia,r4,.inr rfl,λl2 hs2 H5 g5 e2 ok2=>(by show 2<=sizeLine;decide,λlh nlh=>?_)))))))
 have gh:=ar nlh (.lst [.ref l1,.ref l2]);have elh:aI H5 lh (.lst [.ref l1,.ref l2]) lh=some (.lst [.ref l1,.ref l2]):=ao;generalize aI H5 lh (.lst [.ref l1,.ref l2])=H6 at gh elh⊢;have k6:=((k3.trans g4).trans g5).trans gh;have e1':=(g5.trans gh) _ _ e1;have e2':=gh _ _ e2;have ec6:=((g4.trans g5).trans gh) _ _ ec;have hR6:=hR3.same ((g4.trans g5).trans gh);have en6:=(((g3.trans g4).trans g5).trans gh) _ _ en;clear hR3 hR e1 e2 ec en gh g5 g4 g3 g2 nlh;refine (by show 0<=sizeLine;decide,λtl ntl=>?_)
 have ntl0:=k6.free ntl;have gt:=ar ntl 85;have hT0:dG dq (λa=>a≠tl/\H a=none) (aI H6 tl 85) tl []:=dG.new
 generalize aI H6 tl 85=H7 at gt hT0⊢;obtain ⟨bs,er,rR⟩:=id hR6;have run:∀H':Hp,aA H6 H'->∀i,i<R.length->∃t,fV (bs.map V.ref) 121=some 223/\H' t=some (.tup ((rk 208).map V.int)):=λH' g i hi=>by
  have hr:=F0 hi;obtain ⟨t,ht,et⟩:=rR.get (show (R.map rk)[i]?=some (rk R[i]) by rw[F7,hr];rfl)
  rw[aL hr];exact (t,cB (cu ht),g _ _ et)
 try dsimp only[aZ,bz]
 refine dP (λNq=>∀(o9 o10:Option V) (T:Tk) (H':Hp),aA H6 H'->dG dq An H' tl T->T.length=R.length->ES n0 n1 hs1 hs2 T R->Nq [some 188,some (.int at_),some 216,some (.int f),some (.ref rl),some (.ref ln),some (.ref lc),some (.ref lh),some 237,o9,o10,none,none] H') 174 ?_
 ·refine (m,rfl,by lia,by lia,bE (λi σ H'=>∃(o9 o10:Option V) (T:Tk),σ= [IS a,some (.int at_),some 216,some (.int f),IS rl,IS ln,IS lc,IS lh,IS tl,o9,o10,none,none]/\aA H6 H'/\dG dq (λa=>a≠tl/\H a=none) H' tl T/\T.length=i/\ES n0 n1 hs1 hs2 T R) (b9 none none [] (rfl,gt,hT0,rfl,⟨λi ws r h=>by simp at h⟩)) ?_ ?_)
  ·intro i σ H8 hi h_;refine mK h_ λo9 o10 T _hi=>?_
   refine fh _hi λ_r1 g8 _r2 _hj=>?_
   refine cP _hj λlT tsb=>?_
   sleep 5;obtain ⟨us,eu,ru⟩:=_r2;have il:i<R.length:=by lia
   obtain ⟨ti,ai,eti⟩:=run H8 g8 i il;have hcs:=F0 (show i<cs.length by lia)
   obtain ⟨x1,hh1⟩:∃x1,hs1[i]?=some x1:=⟨_,F0 (show i<hs1.length by rw[ok1.1];exact il)⟩
   obtain ⟨x2,hh2⟩:∃x2,hs2[i]?=some x2:=⟨_,F0 (show i<hs2.length by rw[ok2.1];exact il)⟩
   have b1:=ok1.2.1 _ (F5 hh1);have b2:=ok2.2.1 _ (F5 hh2);have hr':=F0 il;have rb:=okR _ (G5 il);have rd:=aL (d:=((0:Int),(0:Int),(0:Int))) hr';rw[<-rd] at rb;have sz:us.length<sizeLine:=by rw[ru.1];lia
   refine (89 73,b9 a ns _ (rfl,(k6.trans g8).seq hS,by lia,λmo=>?_))
   refine (.inl (rfl,_,aE.of eu),aQ rl _ _ _ (rfl,rfl,aE.of (g8 _ _ er),ai,aQ lc _ _ _ (rfl,rfl,aE.of (g8 _ _ ec6),(cB (cu hcs)),aQ lh _ _ (.ref l1) (rfl,rfl,aE.of (g8 _ _ elh),rfl,aQ l1 _ _ _ (rfl,rfl,aE.of (g8 _ _ e1'),(cB (cu hh1)),aQ lh _ _ (.ref l2) (rfl,rfl,aE.of (g8 _ _ elh),rfl,aQ l2 _ _ _ (rfl,rfl,aE.of (g8 _ _ e2'),(cB (cu hh2)),by show 2<=sizeLine;decide,λlp nlp=>?_)))))))
   have gp:=ar nlp (.lst [.int x1,.int x2]);have elp:aI H8 lp (.lst [.int x1,.int x2]) lp=some (.lst [.int x1,.int x2]):=ao;generalize aI H8 lp (.lst [.int x1,.int x2])=H9 at gp elp⊢;refine (zB ti _ mo ln lp 208 f n0 n1 (aT _ _ (rfl,gp _ _ eti,hf,rb,(g8.trans gp) _ _ en6,elp,nne,b1,b2,λv ws H10 g10 rt tb=>(b9 tl _ _ (rfl,rfl,(gp.trans g10) _ _ eu,sz,?_)))))
   have g11:=(g8.trans gp).trans g10;refine (b9 _ _ (T++ [ws]) (rfl,dE g11 ntl _,?_,by rw[FP,lT];rfl,⟨λk ws' r h1 h2=>?_⟩))
   ·exact dG.put (λz=>z.1 rfl) (ru.imp λ_ _ q=>mi q (gp.trans g10)) (zz rt λx hx=>((λz=>by have:=gp _ _ eu;rw[z,this] at hx;cases hx),((k6.trans g8).trans gp).free hx))
   ·by_cases ck:k<T.length
    ·rw[FU ck] at h1;exact tsb.task k ws' r h1 h2
    ·have kl:=(F4.mp h1).1;rw[FP] at kl;have:k=i:=by simp at kl;lia
     subst this;rw[F9 72] at h1
     have e:k-T.length=0:=by lia
     rw[e] at h1;replace h1:some ws=some ws':=h1;injection h1 with h1
     rw[<-h1,aL hh1,aL hh2];rw[aL h2] at tb;exact tb
  ·intro σ H8 h_;refine mK h_ λo9 o10 T _hi=>?_
   refine fh _hi λ_r1 g8 hT _hj=>?_
   refine cP _hj λlT tsb=>?_
   sleep 5;exact hN _ _ T _ g8 hT.any 72 tsb
 clear hT0 gt ntl;intro o9 o10 T H8 g8 hT lT tsb;have k8:=k6.trans g8;refine (by show 0<=sizeLine;decide,λml nml=>?_)
 have gm:=ar nml 85;have em:aI H8 ml 85 ml=some (.lst []):=ao;generalize aI H8 ml 85=H9 at gm em⊢;have hS9:=(k8.trans gm).seq hS;try dsimp only[aZ,bz]
 refine cut (λσ H'=>∃(o12:Option V) (M:List Int),σ= [IS a,some (.int at_),some 216,some (.int f),IS rl,IS ln,IS lc,IS lh,IS tl,o9,o10,IS ml,o12]/\aA H8 H'/\H' ml=some (.lst (M.map V.int))/\M.length<=2/\∀t∈M,0<=t/\t<=29*f) 174 ?_
 ·refine (b9 a ns 2 (rfl,hS9,by decide,λc2=>?_))
  have mc:=fm (a:=c2) (n:=3) 73
  refine (141,ν,by lia,by lia,bE (λi σ H'=>∃(o12:Option V) (M:List Int),σ= [IS a,some (.int at_),some 216,some (.int f),IS rl,IS ln,IS lc,IS lh,IS tl,o9,o10,IS ml,o12]/\aA H8 H'/\H' ml=some (.lst (M.map V.int))/\M.length=i/\∀t∈M,0<=t/\t<=29*f) (aT none [] (rfl,gm,em,rfl,λt ht=>by cases ht)) ?_ ?_)
  ·rintro i σ H10 hi ⟨o12,M,rfl,g10,em10,lM,okM⟩;have i2:i<2:=by lia
   refine (.inl (rfl,_,aE.of em10),b9 a ns 2 (rfl,(k8.trans g10).seq hS,by decide,λc=>?_))
   have m30:=fm (a:=c.fdiv (3+121)) (n:=30) 73
   refine ((by lia,FQ 72),(by show (30:Int)≠0;decide),89 147,b9 ml _ _ (rfl,rfl,em10,by rw[F1];lia,?_))
   refine (aT _ (M++ [(c.fdiv (3+121)).fmod 30*f]) (rfl,dE g10 nml _,?_,by rw[FP,lM];rfl,λt ht=>?_))
   ·rw[ao,G8];rfl
   ·rcases FS.mp ht with z|z
    ·exact okM t z
    ·rw[FM.mp z];generalize (c.fdiv (3+121)).fmod 30=y at m30⊢;rcases hf with rfl|rfl<;>lia
  ·rintro σ H10 ⟨o12,M,rfl,g10,em10,lM,okM⟩;exact hN _ _ (aT _ M (rfl,g10,em10,by lia,okM))
 clear em gm hS9;rintro σ H10 ⟨o12,M,rfl,g10,em10,lM,okM⟩;have k10:=k8.trans g10;have wok:∀ws∈T,1<=ws.length/\ws.length<=2/\∀w∈ws,Cs n0 n1 w:=λws hw=>by
  obtain ⟨i,hi⟩:=FR.mp hw;have il:=(F4.mp hi).1;have tb:=tsb.task i ws _ hi (F0 (show i<R.length by rw[<-lT];exact il))
  exact (tb.l1,tb.l2,tb.way)
 have pok:kC T R:=(lT.symm,λi r ws e1 e2=>(by have:=(okR r (F5 e1)).2.2.2.2;lia,(tsb.task i ws r e2 e1).pick))
 have hR10:=hR6.same (g8.trans g10);have hT10:=hT.same g10;refine (b9 a ns 3 (rfl,k10.seq hS,by decide,λc3=>(fL rl tl ln c3 T R (aT n0 n1 (rfl,hT10,hR10,(g8.trans g10) _ _ en6,nne,pok,r4,wok,λtd m0 m1 H11 g11 ntd ed tb=>(by show 4<=sizeLine;decide,λt nt=>?_))))))
 have gt:=ar nt (.tup [.ref td,.ref tl,.ref rl,.ref ml]);exact q t td tl rl ml n0 n1 m0 m1 hs1 hs2 T R M _ ((k10.trans g11).trans gt) ao (gt _ _ ed) ((hT10.same g11).same gt) ((hR10.same g11).same gt) ((g11.trans gt) _ _ em10) lR (hf,nm0,nm1,nne,lT,r4,okR,tsb,ok1,ok2,tb,lM,okM)
theorem DS {dV:Value} (F:b6 K "_law_points" "_law_points" Cc dV f fd):240 1 f fd ["_law_runs_here","_law_times"] nU:=by
 have sc:aK ["_law_runs_here","_law_times","_law_found","_law_run"] ["_law_runs_here","_law_times"] (aB Cc):=eR 78
 sleep 36
 refine ip h λrl ml R M _hi=>?_
 refine iz _hi λ_r1 _r2 r24 em m8 q=>?_
 sleep 35;obtain ⟨bs,er,rR⟩:=_r2;exists _,(ak (cz 2 sc 102) (ak (241 (aP 98) (dD 3 sc) (au (cz 2 sc (av iI 111 (@aU _ _ _ _ (190<*>(190<*>ae))))))) (au (aG (av iI 111 113)))))
 try dsimp only[cxK]
 sleep 17;sleep 0;have lr:bs.length=R.length:=by rw[rR.1,F1]
 refine (by show 0<=sizeLine;decide,λl nl=>?_)
 have g0:=ar nl 85;refine (rl,rfl,(_,aE.of (g0 _ _ er)),bL (xs:=bs.map V.ref) (λi σ H'=>∃(l:Addr) (o3:Option V),σ= [IS rl,IS ml,IS l,o3]/\aA H H'/\H' l=some (.lst ((bI (R.take i) []).map V.int))) (aT l none (rfl,g0,ao)) (λi σ H' _ (_,_,_,g,_)=>aE.of (g _ _ er)) ?_ ?_)
 ·rintro i y σ H1 hy ⟨l,o3,rfl,g1,e1⟩;sleep 32;obtain ⟨r,hr',eb⟩:=gS rR hb;have ll:((bI (R.take i) []).map V.int).length<=48:=by rw[F1,fY,GA];simp;lia
  have eb1:=g1 _ _ eb;refine (aQ b _ _ _ (rfl,rfl,bT.of eb1,rfl,aQ b _ _ _ (rfl,rfl,bT.of eb1,rfl,by show 2<=sizeLine;decide,λp np=>(aQ l p _ _ (rfl,rfl,ar np _ _ _ e1,ao,by simp at ll⊢;lia,λl2 nl2=>?_)))))
  refine (aT l2 _ (rfl,(g1.trans 236).trans (ar nl2 _),?_));rw[ao,lV hr',G8,G8,Gi]
  rfl
 ·rintro σ H1 ⟨l,o3,rfl,g1,e1⟩;have et':R.take (bs.map V.ref).length=R:=by rw[F1,lr];exact GN
  rw[et'] at e1;refine (aQ l ml _ _ (rfl,rfl,e1,g1 _ _ em,?_,λp np=>?_))
  ·rw[F1,F1,fY];simp;omega
  ·refine q p _ (g1.trans 236) ?_;rw[ao,<-G8,nA]
theorem DT {dV:Value} (F:b6 K "_law_lag" "_law_lag" Cd dV f fd):240 1 f fd ["_law_arcs_here","_law_p","_law_q"] AJ:=by
 have sc:aK ["_law_arcs_here","_law_p","_law_q","_law_lags"] ["_law_arcs_here","_law_p","_law_q"] (aB Cd):=eR 78
 sleep 36
 refine ip h λl A p q _hi=>?_
 refine fh _hi λ_r1 _r2 l7 k=>?_
 sleep 35;obtain ⟨as,el,rA⟩:=_r2;exists _,(ak (wu sc.nd (i:=3) rfl rfl (own:= "_law_row") (ys:= ["_law_p","_law_q"]) (js:= [1,2]) rfl (gJ (iL (iL gE)) (.cons rfl (.cons rfl .nil)) 73 rfl rfl rfl rfl rfl rfl rfl rfl) (aP 98) (λC fp s H=>(PW.pt (fU (aC fF 84 113 129) (dY (aC fF 84 111 129))))) 225) (ak (bp (aC (gn hr.units0) 124 102 129) 234 aF) (au (aG (az (gi rfl) rfl B.Ie boot_max 238)))))
 try dsimp only[cxK]
 sleep 17;sleep 0;have la:(as.map V.ref).length=A.length:=by rw[F1,rA.1,F1]
 refine (l,rfl,(_,aE.of el),wH (λi=>yJ A p q i) (λi=> .int (yK A i)) (aE.of el) 72 (λi y hy H2 g2 R' hR=>?_) (λi y hy H2 g2 Q' hQ=>?_) λp1 H1 n1 g1 e1=>?_)
 ·sleep 32;obtain ⟨r,hr',eb⟩:=gS rA hb;rw[pd hr'] at hR;have eb2:=g2 _ _ eb;refine (aQ b _ _ _ (rfl,rfl,bT.of eb2,rfl,rfl,d2 165 165))
  ·injection c with c
   refine (aQ b _ _ _ (rfl,rfl,bT.of eb2,rfl,rfl,mB.i ?_));have e:decide (V.int r.2.1=V.int q)=decide (r.1=p/\r.2.1=q):=by
    by_cases h:r.2.1=q
    ·rw[decide_eq_true (by rw[h]),decide_eq_true ⟨c,h⟩]
    ·rw[decide_eq_false (λz=>h (by injection z)),decide_eq_false (λz=>h z.2)]
   rw[e];exact hR
  ·rw[decide_eq_false (λz=>c (by rw[z.1]))] at hR
   exact hR
 ·sleep 32;obtain ⟨r,hr',eb⟩:=gS rA hb;rw[pe hr'] at hQ;exact (aQ b _ _ _ (rfl,rfl,bT.of (g2 _ _ eb),rfl,hQ))
 have e2:iD (as.map V.ref).length (λi=>yJ A p q i) (λi=> .int (yK A i))=(Aj A p q).map V.int:=by
  rw[la];unfold iD Aj;rw[G1]
  rfl
 rw[e2] at e1;refine (by show 0<=sizeLine;decide,λl3 nl3=>(b9 p1 l3 _ (rfl,rfl,aE.of (ar nl3 _ _ _ e1),aE.of ao,?_)))
 have g3:=g1.trans (ar nl3 85);cases hm:Aj A p q with
 |nil=>
  refine (mB.i (gC ?_));have:=k _ g3;rw[yL hm] at this;exact this
 |cons z zs=>
  refine ((aT p1 (Aj A p q) (rfl,aE.of (ar nl3 _ _ _ e1),by rw[hm];exact nofun,λM h1 h2=>?_)))
  have:=k _ g3;rw[yM h1 h2] at this;exact this
theorem DU {dV:Value} (F:b6 K "_law_total" "_law_total" Ce dV f fd) (DZ38:239 1 "_law_lag" ["_law_arcs_here","_law_p","_law_q"] [] AJ):240 2 f fd ["_law_arcs_here","_law_chain"] AK:=by
 have sc:aK ["_law_arcs_here","_law_chain","_law_total_here","_law_k","_law_lag_here"] ["_law_arcs_here","_law_chain"] (aB Ce):=eR 78
 sleep 36
 refine ip h λl c A C _hi=>?_
 refine iz _hi λ_r1 hA l7 ec c7 k=>?_
 sleep 35;exists _,(ak (cz 2 sc af) (ak (241 (vN rfl B.Hr (af<*>(123<*>ae))) (dD 3 sc) (ak (cz 4 sc (cy DZ38 hr (98<*>((248 113 (av fE 124 af) 36)<*>((248 113 124 36)<*>ae))))) (ak (bp (aC cV 118 bq 129) 234 aF) (au (cz 2 sc (250 111 118)))))) (au (aG 111))))
 try dsimp only[cxK]
 sleep 17;sleep 0;have lc:(C.map V.int).length=C.length:=F1 _;refine (aT c _ (rfl,.inl (aE.of ec),aT _ _ (rfl,(by decide,by decide,by lia,by lia),bE (λi σ H'=>∃(o3 o4:Option V) (t:Int),σ= [IS l,IS c,some (.int t),o3,o4]/\aA H H'/\fJ A C i=some t) (b9 none none 0 (rfl,.refl _,rfl)) ?_ ?_)))
 ·rintro i σ H1 hi ⟨o3,o4,t,rfl,g1,ht⟩;have hx:=F0 (show i<C.length by lia)
  have hy:=F0 (show i+1<C.length by lia)
  generalize C[i]=x at hx;generalize C[i+1]=y at hy;have st:=nN ht hx hy;have ec1:=g1 _ _ ec;refine (aQ c _ _ _ (rfl,rfl,aE.of ec1,(by rw[show 1+(i:Int)-1=(i:Int) by lia];exact bV (cu hx)),aQ c _ _ _ (rfl,rfl,aE.of ec1,(by rw[show 1+(i:Int)=((i+1:Nat):Int) by lia];exact bV (cu hy)),aQ l A x y (rfl,hA.same g1,l7,λH2 g2=>?_))))
  cases hl:dt A x y with
  |none=>
   rw[hl] at st;have e:du A C=none:=jO (i:=i+1) st 72
   have:=k _ (g1.trans g2);rw[e] at this;exact (rfl,mB.i (dT rfl this))
  |some gg=>
   rw[hl] at st;exact (rfl,mB.i (dF nofun (b9 _ _ _ (rfl,g1.trans g2,st))))
 ·rintro σ H1 ⟨o3,o4,t,rfl,g1,ht⟩;have:=k _ g1;rw[show du A C=some t by rw[<-ht];unfold du;congr 1;lia] at this
  exact this
theorem DV {dV:Value} (F:b6 K "_law_open" "_law_open" Cf dV f fd):240 1 f fd ["_law_tasks","_law_case_here","_law_i"] pG:=by
 have sc:aK ["_law_tasks","_law_case_here","_law_i"] ["_law_tasks","_law_case_here","_law_i"] (aB Cf):=eR 78
 sleep 36
 refine iy h λtl t i D T P _hi=>?_
 refine fh _hi λ_r1 TC il q=>?_
 sleep 35;exists _,(ak (bp (aC cV (248 (aw aM 113 af 36) 111 36) bq 129) (au (aG (248 98 111 36))) aF) (au (aG (@aU _ _ _ _ ((248 (248 98 111 36) (248 (aw aM 113 af 36) 111 36) 36)<*>ae)))))
 try dsimp only[cxK]
 sleep 29;obtain ⟨vs,el,rT⟩:=id TC.tasks;obtain ⟨O,kl,ol,ec,ek,ho⟩:=TC.cs;have hT:=F0 il;obtain ⟨y,hy,wl,rfl,_,lw⟩:=rT.get hT;have hP:=F0 (show i<P.length by rw[TC.pk.len];exact il)
 have oF:bA T P i=match P[i]'(by rw[TC.pk.len];exact il) with|none=>T[i]|some j=> [(T[i]).getD j (0,0,[])]:=by
  unfold bA;rw[aL hT,aL hP];try rfl
 cases hp:P[i]'(by rw[TC.pk.len];exact il) with
 |none=>
  rw[hp] at oF hP;refine (244 (rfl,rfl,bT.of ec,rfl,aQ kl _ _ _ (rfl,rfl,aE.of ek,(bV (cu hP)),rfl,mB.i (dT rfl (aQ tl _ _ _ (rfl,rfl,aE.of el,(bV hy),?_))))));exact q wl H 168 (by rw[oF];exact lw)
 |some j=>
  rw[hp] at oF hP;have jl:=TC.pk.pick i j _ hP hT;have hw:=F0 jl;replace oF:bA T P i= [(T[i]).getD j (0,0,[])]:=oF;rw[aL hw] at oF;obtain ⟨ys,ey,ry⟩:=id lw;obtain ⟨v,hv,rv⟩:=ry.get hw;refine (244 (rfl,rfl,bT.of ec,rfl,aQ kl _ _ _ (rfl,rfl,aE.of ek,(bV (cu hP)),rfl,mB.i (dF nofun (aQ tl _ _ _ (rfl,rfl,aE.of el,(bV hy),aQ t _ _ _ (rfl,rfl,bT.of ec,rfl,aQ kl _ _ _ (rfl,rfl,aE.of ek,(bV (cu hP)),aQ wl _ _ _ (rfl,rfl,aE.of ey,(bV hv),by show 1<=sizeLine;decide,λp2 np2=>?_)))))))))
  rw[oF] at q;exact q p2 _ (ar np2 _) (_,ao,A2.one (mi rv (ar np2 _)))
theorem DW {dV:Value} (F:b6 K "_law_due" "_law_due" Cg dV f fd) (DZ40:239 1 "_law_open" ["_law_tasks","_law_case_here","_law_i"] [] pG):240 2 f fd ["_law_arcs_here","_law_tasks","_law_case_here"] tI:=by
 have sc:aK ["_law_arcs_here","_law_tasks","_law_case_here","_law_due_here","_law_i","_law_ways"] ["_law_arcs_here","_law_tasks","_law_case_here"] (aB Cg):=eR 78
 sleep 36
 refine iy h λal tl t A D T _hi=>?_
 refine kc _hi λP O _hj=>?_
 refine vE _hj λ_r1 _r2 a1000 hT t24 hC pk ok _hk=>?_
 refine cP _hk λpo q=>?_
 sleep 23;obtain ⟨ba,ea,ra⟩:=_r2;exists _,(ak (cz 3 sc (cQ c6 rfl B.HM boot_list 212)) (ak (241 (251 (123<*>ae)) (dD 4 sc) (ak (cz 5 sc (cy DZ40 hr (113<*>(111<*>231)))) (ak (cz 3 sc (av iI 124 (@aU _ _ _ _ ((@bR _ _ _ _ _ ((247 118)<*>((250 (247 118) af)<*>((246 ((bZ (own:= "_law_way") (ys:= []) (js:= []) rfl 83 (aP 146) 225)<*>ae))<*>ae))))<*>ae)))) (au (cz 3 sc (av iI 124 (@aU _ _ _ _ ((@bR _ _ _ _ _ ((250 (247 118) af)<*>((247 118)<*>((av fE af (az (gi rfl) rfl B.Ie boot_max ((bZ (own:= "_law_way") (ys:= []) (js:= []) rfl 83 (aP 146) 225)<*>ae)))<*>ae))))<*>ae)))))))) (au (aG (av iI 124 (bZ (own:= "_law_pair") (ys:= []) (js:= []) rfl 83 (aP 137) (λC fp s H=>(@bR _ _ _ _ _ ((250 (247 84) af)<*>((247 84)<*>(af<*>ae)))))))))))
 try dsimp only[cxK]
 sleep 17;sleep 0;obtain ⟨vt,et,rT⟩:=id hT;have TC:fc D H tl t T P:=(hT,(O,hC),pk,ok);obtain ⟨kl,ol,ec,ek,⟨bo,eo,ro⟩⟩:=id hC;have lv:vt.length=T.length:=rT.1;refine (aT al _ (rfl,.inl (aE.of ea),λl0 nl0=>?_))
 have g0:=ar nl0 179;have hA0:bx (aI H l0 179) l0 (A++cN T P 0):=(ba,ao,by rw[show A++cN T P 0=A from Gn A];exact ra.imp λa k q=>g0 _ _ q)
 generalize aI H l0 179=H0 at g0 hA0⊢;try dsimp only[aZ,bz]
 refine dP (λNq=>∀(l:Addr) (o4 o5:Option V) (H':Hp),aA H H'->bx H' l (A++cN T P T.length)->Nq [some (.ref al),some 237,some 223,some 187,o4,o5] H') 174 ?_
 ·refine (aT tl _ (rfl,.inl (aE.of (g0 _ _ et)),ν,by lia,by lia,bE (λi σ H'=>∃(l:Addr) (o4 o5:Option V),σ= [IS al,IS tl,IS t,IS l,o4,o5]/\aA H H'/\bx H' l (A++cN T P i)) (b9 l0 none none (rfl,g0,hA0)) ?_ ?_))
  ·rintro i σ H1 hi ⟨l,o4,o5,rfl,g1,⟨bs,eb,rb⟩⟩;rw[FO,lv] at hi;have zi:121=(i:Int):=Gp _;have ne:=kD (P:=P) ok hi;have ln:=hE (P:=P) ok hi;have lb:bs.length=A.length+2*i:=by rw[rb.1,FP,cS]
   refine (fL tl t i D T P (by rw[zi];rfl,TC.same g1,hi,λp H2 g2 (vs,ev,rv)=>?_))
   refine (89 73,89 73,p,rfl,(_,aE.of ev),bO 203 133 (λk=>(λw:Wy=>w.1) 194) (aE.of ev) (by rw[rv.1];lia) 112 130 λp2 H3 np2 g3 hp2=>?_)
   ·refine eG (rv.at_ hy) λw _hi=>?_
    sleep 30
    refine kc _hj λtw uw _hk=>?_
    sleep 33
    refine cP _hl λetw _=>?_
    clear _hi _hj _hk _hl;subst _r1;rw[aL hw] at hQ;exact (aQ tw _ _ _ (rfl,rfl,bT.of (gk _ _ etw),rfl,hQ _ _ 168 rfl))
   obtain ⟨us,eu,ru⟩:=hp2;have eus:us=((bA T P i).map λw:Wy=>w.1).map V.int:=by
    rw[ru.val,rv.1]
    conv=>rhs;rw[<-cD (bA T P i) (0,0,[])]
    rw[G1,G1,G1]
    rfl
   rw[eus] at eu;refine (aT p2 _ (rfl,aE.of eu,by simpa using ne,λM hM hle=>(by show 3<=sizeLine;decide,λt1 nt1=>(by show 1<=sizeLine;decide,λl1 nl1=>?_))))
   rw[zi,eE hM hle] at nl1⊢;obtain ⟨m1,hm1⟩:∃m1,m1=dU ((bA T P i).map λw:Wy=>w.1):=⟨_,rfl⟩
   rw[<-hm1] at nl1⊢;have gt1:=ar nt1 151;have gl1:=ar nl1 (.lst [.ref t1]);have q4:=((g2.trans g3).trans gt1).trans gl1;refine (aQ l l1 _ _ (rfl,rfl,q4 _ _ eb,ao,by rw[F1];simp;lia,λl2 nl2=>?_))
   have hA4:bx (aI (aI (aI H3 t1 151) l1 (.lst [.ref t1])) l2 138) l2 (A++cN T P i++ [[2*(i:Int),2*(i:Int)+1,m1]]):=mD (rb.imp λa k q=>q4 _ _ q) (cX.one (k:= [2*(i:Int),2*(i:Int)+1,m1]) (a:=t1) (gl1 _ _ ao)) nl2
   have k5:=(g1.trans q4).trans (ar nl2 138);have g25:=((g3.trans gt1).trans gl1).trans (ar nl2 138);generalize aI (aI (aI H3 t1 151) l1 (.lst [.ref t1])) l2 138=H5 at hA4 k5 g25⊢;clear eu eus ru us gt1 q4 nt1 g3 np2 nl1 nl2 gl1;obtain ⟨cs,ecs,rcs⟩:=hA4;have lc:cs.length=A.length+2*i+1:=by rw[rcs.1,FP,FP,cS];rfl
   have ev5:=g25 _ _ ev;refine (89 73,89 73,p,rfl,(_,aE.of ev5),bO 203 133 (λk=>(λw:Wy=>w.2.1) 194) (aE.of ev5) (by rw[rv.1];lia) 112 130 λp3 H6 np3 g6 hp3=>?_)
   ·refine eG (rv.at_ hy) λw _hi=>?_
    sleep 30
    refine kc _hj λtw uw _hk=>?_
    sleep 33
    refine cP _hl λetw _=>?_
    clear _hi _hj _hk _hl;subst _r1;rw[aL hw] at hQ;exact (aQ tw _ _ _ (rfl,rfl,bT.of ((g25.trans gk) _ _ etw),rfl,hQ _ _ 168 rfl))
   obtain ⟨us,eu,ru⟩:=hp3;have eus:us=((bA T P i).map λw:Wy=>w.2.1).map V.int:=by
    rw[ru.val,rv.1]
    conv=>rhs;rw[<-cD (bA T P i) (0,0,[])]
    rw[G1,G1,G1]
    rfl
   rw[eus] at eu;refine (aT p3 _ (rfl,aE.of eu,by simpa using ne,λM2 hM2 hle2=>(by show 3<=sizeLine;decide,λt2 nt2=>(by show 1<=sizeLine;decide,λl3 nl3=>?_))))
   rw[u9 hM2 hle2] at nl3⊢;have gt2:=ar nt2 (.tup [.int 107,.int 114,.int (0-ki 186)])
   have gl3:=ar nl3 (.lst [.ref t2]);have q7:=(g6.trans gt2).trans gl3;refine (aQ l2 l3 _ _ (rfl,rfl,q7 _ _ ecs,ao,by rw[F1];simp;lia,λl4 nl4=>?_))
   have hA7:=mD (rcs.imp λa k q=>q7 _ _ q) (cX.one (k:= [2*(i:Int)+1,2*(i:Int),0-ki 186]) (a:=t2) (gl3 _ _ ao)) nl4
   refine (b9 l4 _ _ (rfl,(k5.trans q7).trans (ar nl4 _),?_));have e:A++cN T P 176=A++cN T P i++ [[2*(i:Int),2*(i:Int)+1,m1]]++ [[2*(i:Int)+1,2*(i:Int),0-ki 186]]:=by
    rw[hm1,Int.zero_sub];show A++(cN T P i++_)=_;rw[Gi,Gi]
    rfl
   rw[e];exact hA7
  ·rintro σ H1 ⟨l,o4,o5,rfl,g1,hA⟩;rw[FO,lv] at hA;exact hN _ _ _ _ g1 hA
 clear hA0 g0;rintro l o4 o5 H1 g1 ⟨bs,eb,rb⟩;have lo:(bo.map V.ref).length=O.length:=by rw[F1,ro.1]
 have lb:bs.length=A.length+2*T.length:=by rw[rb.1,FP,cS]
 have o1000:=po.1;refine (244 (rfl,rfl,bT.of (253 ec),rfl,ol,rfl,(_,aE.of (253 eo)),bO (yD λk:Ky=>k.map V.int) 133 (λk=>(λk:Ky=> [2*k.getD 0 0+1,2*k.getD 1 0,0]) (O.getD k [])) (aE.of (253 eo)) 72 112 (λk y hy H2 g2 Q' hQ=>?_) λlc H2 nlc g2 hc=>?_))
 ·sleep 32;have kl:k<O.length:=by rw[<-ro.1];exact (F4.mp hb).1
  have hk:=F0 kl;have eb':=ro.2 k b _ hb hk;obtain ⟨p,q',ek'⟩:=po.2 _ (G5 kl);rw[ek'] at eb' hk;rw[aL hk] at hQ;have ebk:=(g1.trans g2) _ _ eb';exact (aQ b _ _ _ (rfl,rfl,bT.of ebk,rfl,89 73,aQ b _ _ _ (rfl,rfl,bT.of ebk,rfl,89 73,by show 3<=sizeLine;decide,λtt ntt=>hQ _ _ (ar ntt _) (tt,rfl,.inl ntt,ao))))
 have hc':=AQ hc;rw[lo] at hc';have eO:(G0 O.length).map (λk=>(λk:Ky=> [2*k.getD 0 0+1,2*k.getD 1 0,0]) (O.getD k []))=iw O:=by
  unfold iw
  conv=>rhs;rw[<-cD O []]
  rw[G1]
  rfl
 rw[eO] at hc';obtain ⟨cs,ecs,rcs⟩:=hc';have lcs:cs.length=O.length:=by rw[rcs.1];unfold iw;rw[F1]
 refine (aQ l lc _ _ (rfl,rfl,g2 _ _ eb,ecs,by rw[F1,F1];lia,λlz nlz=>?_))
 exact q lz _ ((g1.trans g2).trans (ar nlz _)) (mD (rb.imp λa k q=>g2 _ _ q) rcs nlz)
theorem DX {dV:Value} (F:b6 K "_law_many" "_law_many" Ch dV f fd):240 1 f fd ["_law_way","_law_name"] jq:=by
 have sc:aK ["_law_way","_law_name","_law_tool","_law_many_here","_law_heat"] ["_law_way","_law_name"] (aB Ch):=eR 78
 sleep 36
 obtain ⟨v,z,w,rfl,⟨t,u,rfl,_,_,et,us,eu,ru⟩,q⟩:=h;exists _,(ak (241 (aP (aw aM 98 af 36)) (fD rfl (bw (dD 2 sc) (bw (dD 3 sc) (bw (dD 4 sc) dI)))) (au (bp (aC fF 111 113 129) (au (aG 124)) aF))) (au (aG af)))
 try dsimp only[cxK]
 sleep 29;refine (244 (rfl,rfl,bT.of et,rfl,u,rfl,(_,aE.of eu),bL (xs:=us) (λi σ H'=>H=H'/\(∃o2 o3 o4:Option V,σ= [IS t,some (.str z),o2,o3,o4])/\∀(j:Nat) (x:Us),j<i->w.2.2[j]?=some x->x.1≠z) (rfl,(b9 none none none rfl),λj x hj=>absurd hj (Gz _)) (λi σ H' _ h=>by rw[<-h.1];exact aE.of eu) ?_ ?_))
 ·rintro i y σ H1 hy ⟨rfl,⟨o2,o3,o4,rfl⟩,hn⟩;obtain ⟨e,he,a,rfl,_,ea⟩:=ru.at_ hy;refine (aT a _ (rfl,bT.of ea,rfl,aT _ _ (rfl,aT _ _ (rfl,aT _ _ (rfl,rfl,rfl,d2 165 (λc=>(rfl,(b9 _ _ _ rfl),λj x hj hx=>?_)))))))
  ·have c':e.1=z:=by injection c
   have:yG w z=some e:=oY (us:=w.2.2) he c' hn;rw[gZ this] at q;exact q
  ·by_cases ji:j=i
   ·rw[ji,he] at hx;cases hx;exact λz=>c (by rw[z])
   ·exact hn j x 72 hx
 ·rintro σ H1 ⟨rfl,⟨o2,o3,o4,rfl⟩,hn⟩;rw[ru.1] at hn;have:yG w z=none:=by
   unfold yG;rw[List.find?_eq_none];intro x hx;obtain ⟨j,hj⟩:=FR.mp hx;have:=hn j x (F4.mp hj).1 hj;simp[this]
  rw[gY this] at q;exact q
theorem DY {dV:Value} (F:b6 K "_law_work" "_law_work" Ci dV f fd) (DZ40:239 1 "_law_open" ["_law_tasks","_law_case_here","_law_i"] [] pG) (DZ42:239 1 "_law_many" ["_law_way","_law_name"] [] jq):240 2 f fd ["_law_tasks","_law_case_here","_law_i","_law_name"] io:=by
 have sc:aK ["_law_tasks","_law_case_here","_law_i","_law_name"] ["_law_tasks","_law_case_here","_law_i","_law_name"] (aB Ci):=eR 78
 sleep 36
 refine iy h λtl t i z D T _hi=>?_
 refine eG _hi λP _hj=>?_
 refine fh _hj λ_r1 TC il q=>?_
 sleep 24;exists _,(au (aG (246 ((bZ (own:= "_law_way") (ys:= ["_law_name"]) (js:= [3]) rfl 88 (aP (cy DZ40 hr (98<*>(113<*>207)))) (λC fp s H=>(av bj (cy DZ42 hr (98<*>226)) 84)))<*>ae))))
 try dsimp only[cxK]
 sleep 0;have ne:=kD (P:=P) TC.ok il;have ln:=hE (P:=P) TC.ok il;refine (fL tl t i D T P (rfl,TC,il,λp H1 g1 (vs,ev,rv)=>?_))
 refine (p,rfl,(_,aE.of ev),bO 203 133 (λk=>(λw:Wy=>bX w z*w.1) 194) (aE.of ev) (by rw[rv.1];lia) 112 130 λp2 H2 np2 g2 hp2=>?_)
 ·obtain ⟨w,hw,rw'⟩:=rv.at_ hy;rw[aL hw] at hQ;have rwk:=mi rw' gk;obtain ⟨tw,uw,rfl,pa,pb,etw,lw⟩:=id rwk;have w1:1<=w.1/\w.1<=1000000000:=by
   obtain ⟨ws',hws,hww⟩:=pB TC.ok TC.pk il w (F5 hw);obtain ⟨a1,a2,a3,_⟩:=(TC.ok ws' hws).2.2 w hww
   lia
  exact (b9 (.ref tw) z w (rfl,rwk,aQ tw _ _ _ (rfl,rfl,bT.of etw,rfl,IntMulOk.of_right 147,hQ _ _ 168 rfl)))
 obtain ⟨us,eu,ru⟩:=hp2;have eus:us=((bA T P i).map λw:Wy=>bX w z*w.1).map V.int:=by
  rw[ru.val,rv.1]
  conv=>rhs;rw[<-cD (bA T P i) (0,0,[])]
  rw[G1,G1,G1]
  rfl
 rw[eus] at eu;refine (aT p2 _ (rfl,aE.of eu,by simpa using ne,λM hM hle=>?_))
 rw[eE hM hle,xn];exact q H2 (g1.trans g2)
theorem DZ {dV:Value} (F:b6 K "_law_least" "_law_least" Cj dV f fd) (DZ39:239 2 "_law_total" ["_law_arcs_here","_law_chain"] [] AK):240 3 f fd ["_law_due_here","_law_points_here","_law_chains"] rC:=by
 have sc:aK ["_law_due_here","_law_points_here","_law_chains","_law_totals","_law_chain","_law_point"] ["_law_due_here","_law_points_here","_law_chains"] (aB Cj):=eR 78
 sleep 36
 refine ip h λl cl A N _hi=>?_
 refine eG _hi λF2 _hj=>?_
 refine iz _hj λ_r1 hA l7 hF nF _hk=>?_
 refine ke _hk λf1 fl q=>?_
 sleep 23;exists _,(ak (cz 3 sc 102) (ak (241 (aP 111) (dD 4 sc) (ak (241 (aP 118) 230 (au (bp (PW.pt (eI (aC gM 146 af 129) (fB (aC uj 146 113 129)))) 234 aF))) (au (bU (243 124 ((cy DZ39 hr (98<*>231))<*>ae)))))) (ak (bp (aC m9 bq 124 178) 234 aF) (au (aG (246 238))))))
 try dsimp only[cxK]
 sleep 28;sleep 0;have no:cK A N F2=none->∀H',aA H H'->Q .non H':=λh H' g=>by
  have:=q H' g;rw[h] at this;exact this
 obtain ⟨vf,ef,rf⟩:=id hF;have lf':vf.length=F2.length:=rf.1;refine (by show 0<=sizeLine;decide,λlt nlt=>?_)
 have g0:=ar nlt 85;have et0:aI H lt 85 lt=some (.lst (((F2.take 0).map (du A)).map oV)):=ao;generalize aI H lt 85=H0 at g0 et0⊢;try dsimp only[aZ,bz]
 refine dP (λNq=>∀(o4 o5:Option V) (H':Hp),aA H H'->H' lt=some (.lst ((F2.map (du A)).map oV))->hV N F2=true->Nq [some 187,some (.int N),some (.ref cl),some (.ref lt),o4,o5] H') (λN' hN=>?_) ?_
 ·refine (cl,rfl,(_,aE.of (g0 _ _ ef)),bL (xs:=vf) (λk σ H'=>(∃o4 o5:Option V,σ= [IS l,some (.int N),IS cl,IS lt,o4,o5])/\aA H H'/\H' lt=some (.lst (((F2.take k).map (du A)).map oV))/\hV N (F2.take k)=true) ((aT none none rfl),g0,et0,rfl) (λk σ H' _ h=>aE.of (h.2.1 _ _ ef)) ?_ ?_)
  ·rintro k y σ H1 hy ⟨⟨o4,o5,rfl⟩,g1,et,hp⟩;obtain ⟨f,hf,hc⟩:=rf.at_ hy;obtain ⟨c,rfl,_,ec⟩:=nW hc;have kl:=(F4.mp hf).1;try dsimp only[aZ,bz]
   refine dP (λNq=>∀(o5:Option V),tJ N f=true->Nq [some 187,some (.int N),some (.ref cl),some (.ref lt),some (.ref c),o5] H1) (λN'' hN2=>?_) ?_
   ·refine (c,rfl,(_,aE.of (253 ec)),bL (xs:=f.map V.int) (λm σ H'=>H1=H'/\(∃o5:Option V,σ= [IS l,some (.int N),IS cl,IS lt,IS c,o5])/\tJ N (f.take m)=true) (rfl,⟨ν⟩,rfl) (λm σ H' _ h=>by rw[<-h.1];exact aE.of (253 ec)) ?_ ?_)
    ·rintro m y σ H2 hy ⟨rfl,⟨o5,rfl⟩,hm⟩;rw[F7] at hy;obtain ⟨p,hp',rfl⟩:=FT.mp hy;have bad:¬(0<=p/\p<N)->cK A N F2=none:=λh=>by
      have:hV N F2=false:=by
       unfold hV;rw[<-Bool.not_eq_true,GC];intro hh;have h1:=hh f (F5 hf);unfold tJ at h1;rw[GC] at h1;have:=h1 p (F5 hp');rw[GF] at this;exact h (of_decide_eq_true this.1,of_decide_eq_true this.2)
      unfold cK;rw[this]
      rfl
     refine (d2 (λc1=>gC (no (bad λh=>by have h1:=h.1;replace c1:p<0:=c1;lia) _ g1)) (λc1=>(d2 (λc2=>no (bad λh=>by have h1:=h.2;replace c2:p≥N:=c2;lia) _ g1) (λc2=>(rfl,⟨ν⟩,?_)))))
     unfold tJ at hm⊢;rw[cq hp',List.all_append,hm,Bool.true_and,List.all_cons,List.all_nil,Bool.and_true,decide_eq_true (show 0<=p by replace c1:¬p<0:=c1;lia),decide_eq_true (show p<N by replace c2:¬p≥N:=c2;lia)]
     rfl
    ·rintro σ H2 ⟨rfl,⟨o5,rfl⟩,hm⟩;rw[F1,GN] at hm;exact hN2 _ hm
   intro o5 hm;refine (.inl (rfl,_,aE.of et),aQ l c A f (rfl,hA.same g1,l7,g1 _ _ ec,fl f (F5 hf),λH3 g3=>(b9 lt _ _ (rfl,rfl,g3 _ _ et,?_,(aT _ _ rfl),dE (g1.trans g3) nlt _,?_,?_))))
   ·rw[F1,F1,GA]
    lia
   ·rw[ao,cq hf,G8,G8]
    rfl
   ·unfold hV at hp⊢;rw[cq hf,List.all_append,hp,Bool.true_and,List.all_cons,List.all_nil,Bool.and_true];exact hm
  ·rintro σ H1 ⟨⟨o4,o5,rfl⟩,g1,et,hp⟩;rw[lf',GN] at et hp;exact hN _ _ _ g1 et hp
 intro o4 o5 H1 g1 et hp;refine (aT lt _ (rfl,.inl (aE.of et),rfl,Dg _,ET (λc1=>no (tO c1) _ g1) (λc1=>?_)))
 rw[xp c1] at et;refine (aT lt _ (rfl,aE.of et,by simpa using nF,λM hM hle=>?_))
 rw[eE hM hle];have e:cK A N F2=some (pI A F2):=by
  unfold cK;rw[hp,mF.mpr c1]
  rfl
 have:=q _ g1;rw[e] at this;exact this
theorem D0 {dV:Value} (F:b6 K "_law_some" "_law_some" Ck dV f fd):240 1 f fd ["_law_tasks","_law_fronts","_law_backs"] vn:=by
 have sc:aK ["_law_tasks","_law_fronts","_law_backs","_law_some_here","_law_k","_law_last"] ["_law_tasks","_law_fronts","_law_backs"] (aB Ck):=eR 78
 sleep 36
 refine iy h λtl lf lb T F2 G _hi=>?_
 refine iz _hi λ_r1 hT t24 hF hG _hj=>?_
 refine ke _hj λf1 g1' q=>?_
 sleep 24;exists _,(ak (cz 3 sc 102) (ak (241 (251 (123<*>ae)) (dD 4 sc) (ak (bp (PW.pt (eI (aC uj 118 (242 207) 129) (eI (aC (gn hr.units0) (248 113 118 36) 102 129) (fB (aC (gn hr.units0) (248 111 118 36) 102 129))))) (au (aG 102)) aF) (ak (cz 5 sc (248 (248 113 118 36) (gI eV af) 36)) (ak (bp (PW.pt (eI (aC oz 146 (gR (hd:=none) (own:= "_law_i") (ys:= []) (js:= []) hr.hd 83 (c8 rfl B.Hr (92<*>ae)) (λC fp s H=>(247 98))) 178) (eI (aC iZ (248 (248 111 118 36) af 36) (250 146 af) 129) (fB (aC m9 (254 146 af) 124 178))))) (au (aG 102)) aF) (au (bU (243 124 ((254 146 af)<*>ae)))))))) (ak (bp (aC iZ 123 (242 207) 129) (au (aG 102)) aF) (au (aG 124)))))
 try dsimp only[cxK]
 sleep 28;sleep 0;obtain ⟨vt,et,rT⟩:=id hT;obtain ⟨vf,ef,rf⟩:=id hF;obtain ⟨vg,eg,rg⟩:=id hG;have lT:vt.length=T.length:=rT.1;have lF:vf.length=F2.length:=rf.1;have lG:vg.length=G.length:=rg.1;have no:cE T.length F2 G=false->∀H',aA H H'->∀p,H' p=none->Q 120 (aI H' p 85):=λh H' g p np=>by
  refine q p _ (g.trans 236) ?_;rw[h,ao]
  rfl
 refine (by show 0<=sizeLine;decide,λls nls=>?_)
 have g0:=ar nls 85;have es0:aI H ls 85 ls=some (.lst (((F2.take 0).map fi).map V.int)):=ao;generalize aI H ls 85=H0 at g0 es0⊢;try dsimp only[aZ,bz]
 refine dP (λNq=>∀(o4 o5:Option V) (H':Hp),aA H H'->H' ls=some (.lst ((F2.map fi).map V.int))->(F2.map fi).Nodup->F2.length<=G.length->(∀(i:Nat) (f b:List Int),F2[i]?=some f->G[i]?=some b->fg T.length f b=true)->Nq [some 237,some (.ref lf),some (.ref lb),some (.ref ls),o4,o5] H') (λN' hN=>?_) ?_
 ·refine (aT lf _ (rfl,.inl (aE.of (g0 _ _ ef)),ν,by lia,by lia,bE (λk σ H'=>(∃o4 o5:Option V,σ= [IS tl,IS lf,IS lb,IS ls,o4,o5])/\aA H H'/\H' ls=some (.lst (((F2.take k).map fi).map V.int))/\((F2.take k).map fi).Nodup/\k<=G.length/\∀(i:Nat) (f b:List Int),i<k->F2[i]?=some f->G[i]?=some b->fg T.length f b=true) ((aT none none rfl),g0,es0,List.nodup_nil,G4 _,λi f b h=>absurd h (Gz _)) ?_ ?_))
  ·rintro k σ H1 hk ⟨⟨o4,o5,rfl⟩,g1,es,nd,kG,ok⟩;rw[FO,lF] at hk;have zk:(0+(k:Int))=(k:Int):=Gp _;have hf:=F0 hk;generalize F2[k]=f at hf;obtain ⟨v,hv,c⟩:=rf.get hf;obtain ⟨cf,rfl,_,ecf⟩:=nW c;have badz:gL T.length F2 G=false->cE T.length F2 G=false:=λh=>by unfold cE;rw[h];simp
   refine (aT lb _ (rfl,.inl (aE.of (253 eg)),d2 (λc1=>gC ?_) (λc1=>?_)))
   ·refine (by show 0<=sizeLine;decide,λp np=>no (badz ?_) _ g1 p np)
    rw[<-Bool.not_eq_true,da];intro h;have:=h.1;replace c1:(0+(k:Int))≥(vg.length:Int):=c1
    lia
   have kl:k<G.length:=by
    replace c1:¬(0+(k:Int))≥(vg.length:Int):=c1
    lia
   have hb:=F0 kl;generalize G[k]=b at hb;obtain ⟨w,hw,c⟩:=rg.get hb;obtain ⟨cb,rfl,_,ecb⟩:=nW c;have bad:fg T.length f b=false->cE T.length F2 G=false:=λh=>badz (by
    rw[<-Bool.not_eq_true,da];intro hz;have:=hz.2 k f b hf hb;rw[h] at this;cases this)
   refine (aQ lf _ _ _ (rfl,rfl,aE.of (253 ef),(cB hv),by show 0<=sizeLine;decide,λp0 np0=>?_))
   have h0:=g1.trans (ar np0 85);refine (b9 cf p0 _ (rfl,rfl,aE.of (h0 _ _ ecf),aE.of ao,mB.i ?_));have es1:=ar np0 85 _ _ es;generalize aI H1 p0 85=H2 at h0 es1⊢
   by_cases ff:f= []
   ·subst ff;refine gC (gC (by show 0<=sizeLine;decide,λp np=>no (bad rfl) _ h0 p np))
   have fe:(f.map V.int).isEmpty=false:=by cases f with|nil=>exact absurd rfl ff|cons _ _=>rfl
   rw[fe];refine ja (aQ lb _ _ _ (rfl,rfl,aE.of (h0 _ _ eg),(cB hw),by show 0<=sizeLine;decide,λp1 np1=>?_))
   have h1:=h0.trans (ar np1 85);refine (b9 cb p1 _ (rfl,rfl,aE.of (h1 _ _ ecb),aE.of ao,mB.i ?_));have es2:=ar np1 85 _ _ es1;generalize aI H2 p1 85=H3 at h1 es2⊢
   by_cases bb:b= []
   ·subst bb;refine gC (by show 0<=sizeLine;decide,λp np=>no (bad (by unfold fg;simp)) _ h1 p np)
   have be:(b.map V.int).isEmpty=false:=by cases b with|nil=>exact absurd rfl bb|cons _ _=>rfl
   rw[be];refine ja (aQ lf _ _ _ (rfl,rfl,aE.of (h1 _ _ ef),(cB hv),ν,aQ cf _ _ _ (rfl,rfl,aE.of (h1 _ _ ecf),(vm ff),?_)));have badd:¬((gK f=2*fi f/\0<=fi f/\fi f<99)/\rn b=gK f+1)->cE T.length F2 G=false:=λh=>bad (by
    unfold fg;rw[<-Bool.decide_and,decide_eq_false h,Bool.and_false])
   refine (aT tl _ (rfl,.inl (aE.of (h1 _ _ et)),ν,by lia,by lia,gX 203 133 (λi=>2*(i:Int)) gQ.no 72 112 (λi hi Hk gk Q' hQ=>?_) λl2 H4 nl2 g4 hl2=>?_))
   ·exact (89 73,hQ _ _ 168 (by show V.int (2*121)=_;rw[Gp]))
   obtain ⟨ve,ee,re⟩:=hl2;rw[re.val] at ee;have h4:=h1.trans g4;refine (aT l2 _ (rfl,.inl (aE.of ee),rfl,AN _,mB.i ?_));rw[if_pos rfl,uX];have inn:gK f∈(G0 (vt.length:Int).toNat).map (λi:Nat=>2*(i:Int))↔(gK f=2*fi f/\0<=fi f/\fi f<99):=by
    rw[FN];constructor
    ·rintro ⟨i,hi,e⟩;have hi':=GE.mp hi;rw[FO,lT] at hi';have:fi f=(i:Int):=by
      unfold fi;rw[<-e,Hg _ 73]
      lia
     lia
    ·rintro ⟨e1,e2,e3⟩;exact ((fi f).toNat,GE.mpr (by rw[FO,lT];lia),by lia)
   refine n2 (λc2=>gC (by show 0<=sizeLine;decide,λp np=>no (badd λh=>c2 (inn.mpr h.1)) _ h4 p np)) (λc2=>?_)
   have in2:=inn.mp c2;refine (aQ lb _ _ _ (rfl,rfl,aE.of (h4 _ _ eg),(cB hw),aQ cb _ _ _ (rfl,rfl,aE.of (h4 _ _ ecb),(Aq bb),rfl,EJ (λc3=>gC (by show 0<=sizeLine;decide,λp np=>no (badd λh=>c3 h.2) _ h4 p np)) (λc3=>?_))))
   have es4:=g4 _ _ es2;refine (103,aT ls _ (rfl,.inl (aE.of es4),rfl,AN _,ER (λc4=>?_) (λc4=>?_)))
   ·refine (by show 0<=sizeLine;decide,λp np=>no ?_ _ h4 p np)
    have:¬(F2.map fi).Nodup:=λh=>by
     have hh:(F2.take 224).map fi=(F2.take k).map fi++ [fi f]:=by rw[cq hf,G8];rfl
     have:((F2.take 224).map fi).Nodup:=by
      rw[List.map_take];exact h.sublist (List.take_sublist _ _)
     rw[hh,List.nodup_append] at this;exact this.2.2 _ c4 _ (FM.mpr rfl) rfl
    unfold cE;rw[decide_eq_false this];simp
   refine (.inl (rfl,_,aE.of es4),103,b9 ls _ _ (rfl,rfl,es4,by rw[F1,F1,GA];lia,(aT _ _ rfl),dE h4 nls _,?_,?_,by lia,λi f' b' hi h5 h6=>?_))
   ·rw[ao,cq hf,G8,G8]
    rfl
   ·rw[cq hf,G8];refine List.nodup_append.mpr (nd,by simp,λa ha b hb=>?_)
    replace hb:b=fi f:=by simpa using hb
    rw[hb];exact λz=>c4 (by rw[show (gK f).fdiv 2=fi f from rfl,<-z];exact ha)
   ·by_cases ck:i<k
    ·exact ok i f' b' ck h5 h6
    ·have:i=k:=by lia
     subst this;rw[hf] at h5;rw[hb] at h6;cases h5;cases h6;unfold fg;rw[decide_eq_true in2,decide_eq_true c3];simp[ff,bb]
  ·rintro σ H1 ⟨⟨o4,o5,rfl⟩,g1,es,nd,kG,ok⟩;rw[FO,lF,GN] at es nd;rw[FO,lF] at kG ok;exact hN _ _ _ g1 es nd kG (λi f b h1 h2=>ok i f b (F4.mp h1).1 h1 h2)
 intro o4 o5 H1 g1 es nd kG ok;refine (aT lf _ (rfl,.inl (aE.of (253 ef)),aT lb _ (rfl,.inl (aE.of (253 eg)),rfl,EJ (λc=>(by show 0<=sizeLine;decide,λp np=>no ?_ _ g1 p np)) 165)))
 ·have:gL T.length F2 G=false:=by
   rw[<-Bool.not_eq_true,da];exact λh=>c (by rw[lF,lG,h.1])
  unfold cE;rw[this];simp
 refine (q ls _ g1 ?_);rw[es];have zk:gL T.length F2 G=true:=da.mpr (by lia,ok)
 cases F2 with
 |nil=>rfl
 |cons f F3=>
  have:cE T.length (f::F3) G=true:=by
   unfold cE;rw[zk,decide_eq_true nd]
   rfl
  rw[if_pos this]
theorem D3 {dV:Value} (F:b6 K "_law_stretch" "_law_stretch" Cl dV f fd) (DZ43:239 2 "_law_work" ["_law_tasks","_law_case_here","_law_i","_law_name"] [] io) (DZ44:239 3 "_law_least" ["_law_due_here","_law_points_here","_law_chains"] [] rC) (DZ45:239 1 "_law_some" ["_law_tasks","_law_fronts","_law_backs"] [] vn):240 4 f fd ["_law_tools_here","_law_tasks","_law_case_here","_law_due_here","_law_points_here","_law_row"] iV:=by
 have sc:aK ["_law_tools_here","_law_tasks","_law_case_here","_law_due_here","_law_points_here","_law_row","_law_tool","_law_fronts","_law_backs","_law_some_here","_law_head","_law_tail","_law_work_here"] ["_law_tools_here","_law_tasks","_law_case_here","_law_due_here","_law_points_here","_law_row"] (aB Cl):=eR 78
 sleep 36
 refine BI h λtd tl t dl row N z lf lb _hi=>?_
 refine iy _hi λD T P A F2 G _hj=>?_
 refine vE _hj λ_r1 ed TC t24 dok hA l7 er _hk=>?_
 refine iz _hk λhF hG f1 g1' fl _hl=>?_
 refine cP _hl λgl q=>?_
 clear h _hi _hj _hk _hl;subst _r1;exists _,(ak (jw 146 (fD rfl (bw (dH (i:=6) sc.nd rfl 149) (bw (dD 7 sc) (bw (dD 8 sc) dI))))) (ak (cz 9 sc (cy DZ45 hr (113<*>(235<*>((pv 8)<*>ae))))) (ak (bp (PW.pt (eI (aC (gn hr.units0) (pv 9) 102 129) (fB (xD (nh (jU hr) 232 98) 178)))) 234 aF) (ak (cz 10 sc (cy DZ44 hr (124<*>(118<*>(235<*>ae))))) (ak (cz 11 sc (cy DZ44 hr (124<*>(118<*>((pv 8)<*>ae))))) (ak (bp (PW.pt (eI (aC cV (pv 10) bq 129) (fB (aC cV (pv 11) bq 129)))) 234 aF) (ak (cz 12 sc (az (jS rfl) rfl B.IA PyProof.Rows.Boot.«sum» ((bZ (own:= "_law_i") (ys:= ["_law_tasks","_law_case_here","_law_tool"]) (js:= [1,2,6]) rfl 104 (aP (pv 9)) (λC fp s H=>(cy DZ43 hr (113<*>(111<*>(98<*>238))))))<*>ae))) (au (aG (av fE (250 (pv 10) (pv 11)) (254 (gI eV (pv 12)) (i9 (jU hr) 98 232 36))))))))))))
 try dsimp only[cxK]
 refine EX ?_;intro D' r7 r6 r5 r4 r3 r2 r1;sleep 0;have no:kj D T P A N z F2 G=none->∀H',aA H H'->Q .non H':=λh H' g=>by
  have:=q H' g;rw[h] at this;exact this
 refine (aT row _ (rfl,bT.of er,rfl,aT _ _ (rfl,aT _ _ 171)));refine (fL tl lf lb T F2 G (rfl,TC.tasks,t24,hF,hG,f1,g1',λls H1 g1 es=>?_))
 refine (by show 0<=sizeLine;decide,λp0 np0=>?_)
 have h0:=g1.trans (ar np0 85);have es0:=ar np0 85 _ _ es;refine (b9 ls p0 _ (rfl,rfl,aE.of es0,aE.of ao,mB.i ?_));generalize aI H1 p0 85=H2 at h0 es0⊢;cases tk:cE T.length F2 G with
 |false=>
  rw[tk] at es0;refine gC (gC (no ?_ _ h0));unfold kj;rw[tk]
  rfl
 |true=>
  rw[tk,if_pos rfl] at es0;obtain ⟨nF,zk,ndF⟩:=fR.mp tk;have nG:G≠ []:=λe=>nF (Gb (by rw[(da.mp zk).1,e];rfl))
  have ne:(((if true=true then F2.map fi else []).map V.int)).isEmpty=false:=by
   rw[if_pos rfl];cases F2 with
   |nil=>exact absurd rfl nF
   |cons _ _=>rfl
  rw[ne];refine ja ?_;have ed2:=h0 _ _ ed;cases hm:cn D z with
  |none=>
   refine (aT td _ (rfl,BB (.inl ed2) hm,(no ?_ _ h0)));unfold kj;rw[hm]
   split<;>rfl
  |some m=>
   obtain ⟨m1,m8⟩:1<=m/\m<=8:=by
    obtain ⟨p,hp,e⟩:=yZ hm;have:=dok p hp;rw[e] at this;exact this
   refine (aT td _ (rfl,jN (.inl ed2) hm,mB.i (ja ?_)));refine (aQ dl lf A N (F2,(rfl,hA.same h0,l7,hF.same h0,nF,f1,fl,λH3 g3=>?_)))
   have h3:=h0.trans g3;refine (aQ dl lb A N (G,(rfl,hA.same h3,l7,hG.same h3,nG,g1',gl,λH4 g4=>?_)))
   have h4:=h3.trans g4;have no2:cK A N F2=none∨cK A N G=none->∀H',aA H H'->Q .non H':=λh=>no (xq h)
   cases e1:cK A N F2 with
   |none=>exact ⟨rfl,mB.i (dT rfl (gC (no2 (.inl e1) _ h4)))⟩
   |some hd=>
    cases e2:cK A N G with
    |none=>exact ⟨rfl,mB.i (dF nofun ⟨rfl,mB.i (dT rfl (no2 (.inr e2) _ h4))⟩)⟩
    |some tt=>
     refine ⟨rfl,mB.i (dF nofun ⟨rfl,mB.i (dF nofun ?_)⟩)⟩;have es4:=(g3.trans g4) _ _ es0;refine (ls,rfl,(_,aE.of es4),bO 203 133 (λk=>aV T P (fi (F2.getD k [])).toNat z) (aE.of es4) (by rw[F1,F1];lia) 112 130 λlw H6 nlw g6 hw=>?_)
     ·rw[F7,F7] at hy;obtain ⟨i,hi,rfl⟩:=FT.mp hy;obtain ⟨f,hf,rfl⟩:=FT.mp hi;rw[aL hf] at hQ;have kl:=(F4.mp hf).1;obtain ⟨j,jl,ej⟩:=rD ((da.mp zk).2 k _ _ hf (F0 (show k<G.length by rw[<-(da.mp zk).1];exact kl)))
      rw[ej,FO] at hQ;exact (fL tl t j z D T (P,(by rw[ej];rfl,TC.same (h4.trans gk),jl,λH' g'=>hQ _ _ g' rfl)))
     obtain ⟨ww,ew,rw'⟩:=hw;rw[rw'.val] at ew;have eW:((G0 (((F2.map fi).map V.int).length)).map λk=>aV T P (fi (F2.getD k [])).toNat z)=F2.map λf=>aV T P (fi f).toNat z:=by
      rw[F1,F1]
      conv=>rhs;rw[<-cD F2 []]
      rw[G1]
      rfl
     rw[eW] at ew;refine (aT lw _ (rfl,aE.of ew,?_));have h6:=h4.trans g6;refine (ν,aT td _ (rfl,jN (.inl (h6 _ _ ed)) hm,(by lia,FQ 72),?_))
     have e:kj D T P A N z F2 G=some (hd+tt-(-(pJ T P z F2)).fdiv m):=by
      unfold kj;rw[if_pos tk,hm,e1,e2];show some _=some _
      congr 1
     have:=q _ h6;rw[e] at this;exact this
theorem D4 {dV:Value} (F:b6 K "_law_rounds" "_law_rounds" Cm dV f fd):240 1 f fd ["_law_due_here","_law_points_here"] oe:=by
 have sc:aK ["_law_due_here","_law_points_here","_law_found","_law_turn","_law_p","_law_q","_law_lag_here"] ["_law_due_here","_law_points_here"] (aB Cm):=eR 78
 sleep 36
 refine ip h λla A n dm _hi=>?_
 refine iz _hi λ_r1 hA la7 n7 ir _hj=>?_
 refine cP _hj λkd q=>?_
 sleep 24;exists _,(ak (jb (hd:=none) (own:= "_law_p") (ys:= []) (js:= []) sc.nd (i:=2) rfl rfl hr.hd 83 (c8 rfl B.Hr 226) (λC fp s H=>af)) (ak (241 (251 226) (dD 3 sc) (au (241 (aP 98) (fD rfl (bw (dD 4 sc) (bw 230 (bw (dD 6 sc) dI)))) (au (jw (az (hW rfl) rfl B.Ie boot_max ((248 111 146 36)<*>((250 (248 111 118 36) 232)<*>ae))) (oo 111 146 set_list)))))) (au (aG 111))))
 try dsimp only[cxK]
 sleep 17;sleep 0;refine (ν,by lia,by lia,oJ (λi y=>y= .int 0) gQ.no 72 (λi hi H3 g3 Q' hQ=>hQ _ _ rfl 168) λlt ys H1 nlt ly hy g1 et=>?_)
 rw[jQ (n:=n) (by rw[ly];exact FO n) hy] at et
 replace et:H1 lt=some (.lst ((lst n λ_=>(0:Int)).map V.int)):=by rw[et,jP,List.map_replicate]
 obtain ⟨as,ela,rA⟩:=id hA;have nat:la≠lt:=λz=>by rw[z,nlt] at ela;cases ela
 have lA:(as.map V.ref).length=A.length:=by rw[F1,rA.1,F1]
 have alw:∀{H':Hp},iS lt lt H1 H'->aA H H':=λb=>λc o e=>b c o (λz=>by rw[z,nlt] at e;cases e) (λz=>by rw[z,nlt] at e;cases e) (253 e)
 try dsimp only[aZ,bz]
 refine (ν,by lia,by lia,bE (λi σ H'=>∃(o3 o4 o5 o6:Option V) (tm:Int->Int) (ah:Int->Option Int) (ag:Int->Int) (pn:Int->Nat),σ= [IS la,some (.int (n:Int)),IS lt,o3,o4,o5,o6]/\iS lt lt H1 H'/\H' lt=some 189/\BF A tm ah ag/\PS A 176 0 tm ah pn/\∀t':Int->Int,cJ A t'->(∀x,0<=t' x)->∀x,tm x<=t' x) (fL none none none none _ _ (aT _ (λ_=>0) (rfl,λ_ _ _ _ h=>h,et,BF.start A,PS.start A,λt' _ h x=>h x))) ?_ ?_)
 ·intro i σ H2 hi h_;refine iy h_ λo3 o4 o5 o6 tm ah _hi=>?_
  refine kc _hi λag pn _hj=>?_
  refine iz _hj λ_r1 b2 et2 bf ps lst0=>?_
  sleep 5;have el2:=alw b2 _ _ ela;try dsimp only[aZ,bz]
  refine (la,rfl,(_,aE.of el2),bL (xs:=as.map V.ref) (λj σ H'=>∃(o4 o5 o6:Option V) (tm':Int->Int) (ah':Int->Option Int) (ag':Int->Int) (pn':Int->Nat),σ= [IS la,some (.int (n:Int)),IS lt,some (.int 121),o4,o5,o6]/\iS lt lt H1 H'/\H' lt=some (.lst ((lst n tm').map V.int))/\BF A tm' ah' ag'/\PS A 176 j tm' ah' pn'/\∀t':Int->Int,cJ A t'->(∀x,0<=t' x)->∀x,tm' x<=t' x) (fL _ _ _ tm ah ag (pn,(rfl,b2,et2,bf,ps,lst0))) (λj σ H' _ (_,_,_,_,_,_,_,_,b,_)=>aE.of (alw b _ _ ela)) ?_ ?_)
  ·intro j y σ H3 hy h_;refine iy h_ λo4 o5 o6 tm' ah' ag' _hi=>?_
   refine eG _hi λpn' _hj=>?_
   refine iz _hj λ_r1 b3 et3 bf3 ps3 ls3=>?_
   sleep 5;sleep 32;obtain ⟨a,ha',eb⟩:=gS rA hb;have eb1:=alw b3 _ _ eb;have am:=F5 ha';obtain ⟨p0,p1,q0,q1⟩:=ir a am;refine (aT b _ (rfl,bT.of eb1,rfl,aT _ _ (rfl,aT _ _ 171)));refine (aQ lt _ _ _ (rfl,rfl,aE.of et3,(mw q0 q1),aQ lt _ _ _ (rfl,rfl,aE.of et3,(mw p0 p1),aT _ _ (rfl,aQ lt _ _ a.2.1.toNat (rfl,rfl,et3,pA q0 (by rw[F1,gH];exact q1),?_)))))
   rw[qW q0 q1]
   by_cases c:tm' a.1+a.2.2>tm' a.2.1
   ·rw[if_pos c];refine (fL _ _ _ (c5 tm' a.2.1 (tm' a.1+a.2.2)) (c5 ah' a.2.1 (some a.1)) (c5 ag' a.2.1 a.2.2) (c5 pn' a.2.1 176,(rfl,im b3,ao,bf3.put am c,ps3.put ha' c,λt' kt nt x=>?_)))
    by_cases e:x=a.2.1
    ·rw[e,bP];have:=ls3 t' kt nt a.1;have:=kt a am
     lia
    ·rw[cO e];exact ls3 t' kt nt x
   ·rw[if_neg c];have e:c5 tm' a.2.1 (tm' a.2.1)=tm':=by
     funext x
     by_cases e:x=a.2.1
     ·rw[e,bP]
     ·rw[cO e]
    rw[e];exact (fL _ _ _ tm' ah' ag' (pn',(rfl,im b3,ao,bf3,ps3.skip ha' c,ls3)))
  ·intro σ H3 h_;refine iy h_ λo4 o5 o6 tm' ah' ag' _hi=>?_
   refine eG _hi λpn' _hj=>?_
   refine iz _hj λ_r1 b3 et3 bf3 ps3 ls3=>?_
   sleep 5;rw[lA] at ps3;exact (fL _ _ _ _ tm' ah' (aT ag' pn' (rfl,b3,et3,bf3,ps3.next,ls3)))
 ·intro σ H2 h_;refine iy h_ λo3 o4 o5 o6 tm ah _hi=>?_
  refine kc _hi λag pn _hj=>?_
  refine iz _hj λ_r1 b2 et2 bf ps lst0=>?_
  sleep 5;rw[FO] at ps;exact (q lt tm H2 (alw b2) et2 (rL bf ps ir kd,bf.nn,lst0))
theorem D5 {dV:Value} (F:b6 K "_law_sets" "_law_sets" Cn dV f fd) (DZ43:239 2 "_law_work" ["_law_tasks","_law_case_here","_law_i","_law_name"] [] io):240 3 f fd ["_law_tasks","_law_case_here","_law_name"] vB:=by
 have sc:aK ["_law_tasks","_law_case_here","_law_name","_law_sets_here","_law_i"] ["_law_tasks","_law_case_here","_law_name"] (aB Cn):=eR 78
 sleep 36
 refine iy h λtl t z D T P _hi=>?_
 refine fh _hi λ_r1 TC t4 q=>?_
 sleep 35;exists _,(ak (cz 3 sc (@aU _ _ _ _ (102<*>ae))) (ak (241 182 (dH (i:=4) sc.nd rfl 149) (au (bp (aC fN (cy DZ43 hr (98<*>(113<*>(118<*>207)))) af 129) (au (cz 3 sc (av iI 124 (bZ (own:= "_law_some_here") (ys:= ["_law_i"]) (js:= [4]) rfl 88 (aP 124) (λC fp s H=>(av iI 98 (@aU _ _ _ _ 226))))))) aF))) (au (aG (eJ ux 124 (fk af) gB)))))
 try dsimp only[cxK]
 sleep 17;sleep 0;obtain ⟨vt,et,rT⟩:=id TC.tasks;have lv:=rT.1;refine (by show 0<=sizeLine;decide,λl0 nl0=>(by show 1<=sizeLine;decide,λls nls=>?_))
 have g0:=ar nl0 85;have g1:=ar nls (.lst [.ref l0]);have e0:aI (aI H l0 85) ls (.lst [.ref l0]) l0=some (.lst (([]:List Int).map V.int)):=g1 _ _ ao;have hs0:dG yY 209 (aI (aI H l0 85) ls (.lst [.ref l0])) ls [[]]:=(_,ao,A2.one (vk nl0 e0))
 have k1:=g0.trans g1;generalize aI (aI H l0 85) ls (.lst [.ref l0])=H1 at k1 hs0⊢;refine (aT tl _ (rfl,.inl (aE.of (k1 _ _ et)),ν,by lia,by lia,bE (λi σ H'=>∃(o4:Option V) (ls:Addr),σ= [IS tl,IS t,some (.str z),IS ls,o4]/\aA H H'/\dG yY 209 H' ls (bY 158 i)) (aT none ls (rfl,k1,hs0)) ?_ ?_))
 ·rintro i σ H2 hi ⟨o4,ls,rfl,g2,hs⟩;rw[FO,lv] at hi;have l2:=(ju (w:=λi=>aV T P i z) i).2
  have p16:2^i<=2^4:=Nat.pow_le_pow_right 73 72
  refine (fL tl t i z D T (P,(by rw[Gp];rfl,TC.same g2,hi,λH5 g5=>(d2 165 165))))
  ·replace c:0<aV T P i z:=c;have g25:=g2.trans g5;replace hs:=hs.same g5;have e:bY 158 176=bY 158 i++(bY 158 i).map (· ++ [(i:Int)]):=if_pos c
   rw[e];have s4:∀S∈bY 158 i,S.length<=i:=λS h=>kK h
   generalize bY 158 i=SS at hs l2 s4⊢
   obtain ⟨vs,es,rs⟩:=id hs;have ll:=rs.1;refine (ls,rfl,(_,aE.of es),bO yY 133 (λk=>SS.getD k []++ [(i:Int)]) (aE.of es) 72 112 (λk y hy H3 g3 Q' hQ=>?_) λlc H3 nlc g3 hc=>?_)
   ·obtain ⟨S2,hS2,hc⟩:=rs.at_ hy;obtain ⟨cc,rfl,_,ecc⟩:=nW hc;rw[aL hS2] at hQ;have:=s4 S2 (F5 hS2);refine (by show 1<=sizeLine;decide,λp np=>?_)
    rw[Gp];have e3:=g3.trans (ar np (.lst [.int (i:Int)]));refine (aQ cc p _ _ (rfl,rfl,e3 _ _ ecc,ao,by rw[F1];simp;lia,λp2 np2=>hQ _ _ ((ar np _).trans (ar np2 _)) (vk (.inl ((ar np _).free np2)) ?_)))
    rw[ao,G8]
    rfl
   obtain ⟨us,eu,ru⟩:=hc;have lu:=ru.1;rw[F1,GB] at lu;refine (aQ ls lc _ _ (rfl,rfl,g3 _ _ es,eu,by lia,λlz nlz=>?_))
   have ge:=ar nlz (.lst (vs++us));have em:(G0 vs.length).map (λk=>SS.getD k []++ [(i:Int)])=SS.map (· ++ [(i:Int)]):=by
    rw[ll]
    conv=>rhs;rw[<-cD SS []]
    rw[G1]
    rfl
   rw[em] at ru;exact (aT _ lz (rfl,g25.trans (g3.trans ge),(_,ao,((rs.imp λ_ _ q=>mi q (g3.trans ge)).append (ru.imp λ_ _ q=>zz (mi q ge) λa h=>h.2.elim g25.free λh=>h.elim)))))
  ·replace c:¬0<aV T P i z:=c;have e:bY 158 176=bY 158 i:=if_neg c
   rw[e];exact (aT _ _ (rfl,g2.trans g5,hs.same g5))
 rintro σ H2 ⟨o4,ls,rfl,g2,hs⟩;rw[FO,lv] at hs;have l2:=(ju (w:=λi=>aV T P i z) T.length)
 have p16:2^T.length<=2^4:=Nat.pow_le_pow_right 73 t4
 obtain ⟨vs,es,rs⟩:=id hs;have ll:=rs.1;refine (ν,aT ls _ (rfl,aE.of es,λp np=>?_))
 have cd:jA vs (some 1) none=vs.drop 1:=yl (c:=1) 72
 rw[cd];exact q _ _ (g2.free np) (g2.trans 236) (_,ao,(rs.imp λ_ _ q=>mi q 236).drop 1)
theorem D6 {dV:Value} (F:b6 K "_law_greatest" "_law_greatest" Co dV f fd) (DZ43:239 2 "_law_work" ["_law_tasks","_law_case_here","_law_i","_law_name"] [] io) (DZ47:239 1 "_law_rounds" ["_law_due_here","_law_points_here"] [] oe) (DZ48:239 3 "_law_sets" ["_law_tasks","_law_case_here","_law_name"] [] vB):240 4 f fd ["_law_tools_here","_law_tasks","_law_case_here","_law_due_here","_law_points_here"] rO:=by
 have sc:aK ["_law_tools_here","_law_tasks","_law_case_here","_law_due_here","_law_points_here","_law_ahead","_law_behind","_law_totals","_law_name","_law_some_here","_law_work_here","_law_least_here"] ["_law_tools_here","_law_tasks","_law_case_here","_law_due_here","_law_points_here"] (aB Co):=eR 78
 sleep 36
 refine BI h λtd tl t dl D T P A n _hi=>?_
 refine eG _hi λdm _hj=>?_
 refine vE _hj λ_r1 ed dnd d12 dok TC t4 hA _hk=>?_
 refine iz _hk λla7 n7 nT ir kd q=>?_
 sleep 23;exists _,(ak (dh (i:=5) sc.nd rfl 149 (cy DZ47 hr (124<*>231))) (ak (dh (i:=6) sc.nd rfl 149 (cy DZ47 hr ((bZ (own:= "_law_row") (ys:= []) (js:= []) rfl 83 (aP 124) (λC fp s H=>(@bR _ _ _ _ _ (84<*>(84<*>(84<*>ae))))))<*>231))) (ak (cz 7 sc 102) (ak (x4 (241 (zZ 98) (dH (i:=8) sc.nd rfl 149) (au (241 (aP (cy DZ48 hr (113<*>(111<*>((pv 8)<*>ae))))) (dD 9 sc) (ak (cz 10 sc (az (jS rfl) rfl B.IA PyProof.Rows.Boot.«sum» ((bZ (own:= "_law_i") (ys:= ["_law_tasks","_law_case_here","_law_name"]) (js:= [1,2,8]) rfl 104 (aP (pv 9)) (λC fp s H=>(cy DZ43 hr (113<*>(111<*>(98<*>238))))))<*>ae))) (ak (cz 11 sc (250 (246 ((bZ (own:= "_law_i") (ys:= ["_law_ahead"]) (js:= [5]) rfl 88 (aP (pv 9)) (λC fp s H=>(aw (fX (K:=K) rfl) 113 (247 98) 36)))<*>ae)) (246 ((bZ (own:= "_law_i") (ys:= ["_law_behind"]) (js:= [6]) rfl 88 (aP (pv 9)) (λC fp s H=>(aw (fX (K:=K) rfl) 113 (250 (247 98) af) 36)))<*>ae)))) (au (bU (243 235 ((av fE (pv 11) (254 (gI eV (pv 10)) (i9 (jU hr) 98 (pv 8) 36)))<*>ae)))))))))) (au (aG (Ay rfl rfl B.Ie PyProof.Rows.Boot.«max» 235)))))))
 try dsimp only[cxK]
 refine Fp ?_;intro D' r4 r3 r2 r1;sleep 0;refine (aQ dl A n dm (rfl,hA,la7,n7,ir,kd,λl1 tm H1 g1 e1 r1=>?_))
 obtain ⟨ba,ea,ra⟩:=hA.same g1;have lba:(ba.map V.ref).length=A.length:=by rw[F1,ra.1,F1]
 refine (dl,rfl,(_,aE.of ea),bO (yD λk:Ky=>k.map V.int) 133 (λk=>(λa:Rn=> [a.2.1,a.1,a.2.2]) (A.getD k 131)) (aE.of ea) 72 112 (λk y hy H2 g2 Q' hQ=>?_) λlc H2 nlc g2 hc=>?_)
 ·sleep 32;obtain ⟨a,ha',eb⟩:=gS ra hb;rw[aL ha'] at hQ;have ebk:=g2 _ _ eb;exact (aQ b _ _ _ (rfl,rfl,bT.of ebk,rfl,aQ b _ _ _ (rfl,rfl,bT.of ebk,rfl,aQ b _ _ _ (rfl,rfl,bT.of ebk,rfl,by show 3<=sizeLine;decide,λtt ntt=>hQ _ _ (ar ntt _) (tt,rfl,.inl ntt,ao)))))
 have hc':=AQ hc;rw[lba] at hc';have eT:(G0 A.length).map (λk=>(λa:Rn=> [a.2.1,a.1,a.2.2]) (A.getD k 131))=(cx A).map rk:=by
  unfold cx;rw[G1]
  conv=>rhs;rw[<-cD A 131]
  rw[G1]
  rfl
 rw[eT] at hc';refine (aQ lc (cx A) n (λx=> -dm x) (rfl,hc',by unfold cx;rw[F1];exact la7,n7,ir.turn,kd.turn,λl2 ts H3 g3 e3 r3=>?_))
 have g23:=g2.trans g3;have g03:=g1.trans g23;replace e1:=g23 _ _ e1;have ed3:=g03 _ _ ed;have TC3:=TC.same g03;refine (by show 0<=sizeLine;decide,λlt nlt=>?_)
 try dsimp only[aZ,bz]
 have td_lt:td≠lt:=λz=>by rw[<-z,ed3] at nlt;cases nlt
 have ed4:aI H3 lt 85 td=some (.dK (bv D)):=by rw[aJ td_lt];exact ed3
 refine (aT td _ (rfl,ed4,λo nf=>?_))
 have sq:=Bt (o:=o) ed3;obtain ⟨O',cl,co,ec,ek,eo⟩:=TC3.cs;have TCf:fc D (aI H3 td 228) tl t T P:=(TC3.tasks.sq sq,(b9 O' cl co (sq _ _ rfl ec,sq _ _ rfl ek,eo.sq sq)),TC3.pk,TC3.ok);have e1f:=sq _ _ rfl e1;have e3f:=sq _ _ rfl e3;have nltf:aI H3 td 228 lt=none:=by rw[aJ td_lt.symm];exact nlt
 have thaw:∀{H':Hp},aA (aI H3 td 228) H'->aA H3 (aI H' td 115):=λg=>nD ed3 g
 have eft:aI H3 td 228 td=some (.frz o 115):=ao;have gf0:aA (aI H3 td 228) (aI (aI H3 lt 85) td 228):=λb u e=>by
  by_cases c:b=td
  ·subst c;rw[ao] at e⊢;exact e
  ·rw[aJ c] at e⊢;rw[aJ (λz=>by rw[z,nlt] at e;cases e)]
   exact e
 have elt0:aI (aI H3 lt 85) td 228 lt=some (.lst (([]:List Int).map V.int)):=by rw[aJ td_lt.symm];exact ao
 generalize aI (aI H3 lt 85) td 228=Hf at gf0 elt0⊢;generalize aI H3 td 228=G at TCf e1f e3f nltf thaw eft gf0;obtain ⟨SS,hSS⟩:∃SS:Str->List (List Int),SS=λz=>bY (λi=>aV T P i z) T.length:=⟨_,rfl⟩
 refine x5 (λk σ H'=>aA G H'/\∃(o8 o9 o10 o11:Option V) (L:List Int),σ= [IS td,IS tl,IS t,IS dl,some (.int (n:Int)),IS l1,IS l2,IS lt,o8,o9,o10,o11]/\H' lt=some (.lst (L.map V.int))/\L.length<=16*k/\∀v,v∈L↔∃p∈D.take k,∃S∈SS p.1,S≠ []/\v=fK (zp T P p.1) tm ts p.2 S) ⟨gf0,aQ none none none none ⟨[],⟨rfl,elt0,G4 _,λv=>⟨λh=>(by cases h),λ⟨p,hp,_⟩=>(by cases hp)⟩⟩⟩⟩ (λi σ H' _ h=>h.1 _ _ eft) ?_ ?_
 ·intro k ky y σ H4 hk h_;refine cP h_ λg4 _hi=>?_
  refine ip _hi λo8 o9 o10 o11 _hj=>?_
  refine eG _hj λL _hk=>?_
  refine fh _hk λ_r1 eL lL mL=>?_
  sleep 21;obtain ⟨p,hpp,rfl,rfl⟩:=qM hk;have pD:=F5 hpp;have k12:=(F4.mp hpp).1;have tk:D.take 224=D.take k++ [p]:=by rw[Gv,hpp];rfl
  have pm:=dok p pD;try dsimp only[aZ,bz]
  refine (fL tl t p.1 D T P (rfl,TCf.same g4,t4,λls H5 nls g5 hs=>?_))
  have g45:=g4.trans g5;have eL5:=g5 _ _ eL;have lsl:ls≠lt:=λz=>by rw[z,eL] at nls;cases nls
  obtain ⟨vs,es,rs⟩:=id hs;have lss:vs.length<=15:=by
   rw[rs.1,HA];have:=(ju (w:=λi=>aV T P i p.1) T.length).2
   have:2^T.length<=2^4:=Nat.pow_le_pow_right 73 t4
   lia
  obtain ⟨L0,eS,hne⟩:=oa (w:=λi=>aV T P i p.1) T.length
  have eD:(bY 222 T.length).drop 1=L0:=by rw[eS];rfl
  rw[eD] at rs;have ll:=rs.1;refine ⟨ls,rfl,⟨_,aE.of es⟩,bL (xs:=vs) (λj σ H'=>aA G H'/\aA (aI H5 lt 85) (aI H' lt 85)/\∃(o9 o10 o11:Option V) (L':List Int),σ= [IS td,IS tl,IS t,IS dl,some (.int (n:Int)),IS l1,IS l2,IS lt,some (.str p.1),o9,o10,o11]/\H' lt=some (.lst (L'.map V.int))/\L'.length<=16*k+j/\∀v,v∈L'↔v∈L∨∃S∈L0.take j,v=fK (zp T P p.1) tm ts p.2 S) ⟨g45,.refl _,aQ _ _ _ L ⟨rfl,eL5,lL,λv=>⟨.inl,λh=>h.elim id λ⟨S,hS,_⟩=>(by cases hS)⟩⟩⟩ (λj σ H' _ ⟨_,h,_⟩=>?_) ?_ ?_⟩
  ·exact aE.of (vC h lsl es)
  ·intro j y σ H6 hy h_;refine ke h_ λg6 gl6 _hi=>?_
   refine ip _hi λo9 o10 o11 L' _hj=>?_
   refine fh _hj λ_r1 eL6 lL6 mL6=>?_
   sleep 5;obtain ⟨S,hS,hch⟩:=rs.at_ hy;obtain ⟨c,rfl,nc,ec⟩:=nW hch;have SL:=F5 hS;have ne:=hne S SL;have inS:=fT (show S∈bY 222 T.length by rw[eS];exact FX _ SL)
   have S4:S.length<=T.length:=kK (show S∈bY 222 T.length by rw[eS];exact FX _ SL)
   have jl:=(F4.mp hy).1;have cl:c≠lt:=λz=>by rw[z,eL] at nc;cases nc
   have ec6:=vC gl6 cl ec;have lS:(S.map V.int).length=S.length:=F1 _;have neS:∀{f:Int->Int},S.map f≠ []:=λe=>ne (Gg.mp e)
   have rg:∀{f:Int->Int},(G0 (S.map V.int).length).map (λk=>f (S.getD k 0))=S.map f:=λ{f}=>by
    rw[lS]
    conv=>rhs;rw[<-cD S 0]
    rw[G1]
    rfl
   try dsimp only[aZ,bz]
   refine (c,rfl,(_,aE.of ec6),bO 203 133 (λk=>(λi:Int=>zp T P p.1 i) (S.getD k 0)) (aE.of ec6) 72 112 130 λlw H7 nlw g7 hw=>?_)
   ·rw[F7] at hy;obtain ⟨z,hz,rfl⟩:=FT.mp hy;rw[aL hz] at hQ;obtain ⟨i,rfl,il,_⟩:=inS.2 z (F5 hz);exact (fL tl t i p.1 D T (P,(rfl,TCf.same (g6.trans gk),il,λH' g'=>hQ _ _ g' (by show V.int _=V.int (aV T P ((i:Int)).toNat p.1);rw[FO]))))
   obtain ⟨ww,ew,rw'⟩:=hw;rw[rw'.val,rg] at ew;refine (aT lw _ (rfl,aE.of ew,?_));have g67:=g6.trans g7;have ec7:=g7 _ _ ec6;try dsimp only[aZ,bz]
   refine (c,rfl,(_,aE.of ec7),bO 203 133 (λk=>(λi:Int=>tm (2*i)) (S.getD k 0)) (aE.of ec7) 72 112 130 λlp H8 nlp g8 hp=>?_)
   ·rw[F7] at hy;obtain ⟨z,hz,rfl⟩:=FT.mp hy;rw[aL hz] at hQ;obtain ⟨i,rfl,il,_⟩:=inS.2 z (F5 hz);exact (89 73,aQ l1 _ _ _ (rfl,rfl,aE.of ((g67.trans gk) _ _ e1f),(mw 72 72),hQ _ _ 168 rfl))
   obtain ⟨wp,ewp,rp⟩:=hp;replace ewp:H8 lp=some (.lst ((S.map λi=>tm (2*i)).map V.int)):=by rw[<-rg (f:=λi=>tm (2*i)),ewp,rp.val]
   refine (aT lp _ (rfl,aE.of ewp,neS,λM1 hM1 hl1=>?_))
   have g68:=g67.trans g8;have ec8:=g8 _ _ ec7;refine (c,rfl,(_,aE.of ec8),bO 203 133 (λk=>(λi:Int=>ts (2*i+1)) (S.getD k 0)) (aE.of ec8) 72 112 130 λlq H9 nlq g9 hq=>?_)
   ·rw[F7] at hy;obtain ⟨z,hz,rfl⟩:=FT.mp hy;rw[aL hz] at hQ;obtain ⟨i,rfl,il,_⟩:=inS.2 z (F5 hz);exact (89 73,aQ l2 _ _ _ (rfl,rfl,aE.of ((g68.trans gk) _ _ e3f),(mw 72 72),hQ _ _ 168 rfl))
   obtain ⟨wq,ewq,rq⟩:=hq;replace ewq:H9 lq=some (.lst ((S.map λi=>ts (2*i+1)).map V.int)):=by rw[<-rg (f:=λi=>ts (2*i+1)),ewq,rq.val]
   refine (aT lq _ (rfl,aE.of ewq,neS,λM2 hM2 hl2=>?_))
   have g69:=g68.trans g9;have g79:=(g7.trans g8).trans g9;have eL9:=g79 _ _ eL6;have ev:fK (zp T P p.1) tm ts p.2 S=M1+M2-(-((S.map (zp T P p.1)).sum)).fdiv p.2:=by
    unfold fK;rw[eE hM1 hl1,eE hM2 hl2]
   try dsimp only[aZ,bz]
   refine (.inl (rfl,_,aE.of eL9),ν,aT td _ (rfl,jN (.inr (_,g69 _ _ eft)) (ig dnd pD),(by lia,FQ 72),b9 lt _ _ (rfl,rfl,eL9,by rw[F1];lia,dE g69 nltf _,Az (gl6.trans (zq g79)),aQ _ _ _ (L'++ [fK (zp T P p.1) tm ts p.2 S]) (rfl,?_,?_,λv=>?_))))
   ·rw[ao,G8,ev]
    rfl
   ·rw[FP];show _+1<=_
    lia
   ·rw[FS,FM,mL6,Gv,hS];constructor
    ·rintro ((h|⟨S',h,e⟩)|h)
     ·exact .inl h
     ·exact .inr (S',GW _ h,e)
     ·exact .inr (S,FY _ (FM.mpr rfl),h)
    ·rintro (h|⟨S',h,e⟩)
     ·exact .inl (.inl h)
     ·rcases FS.mp h with h|h
      ·exact .inl (.inr (S',h,e))
      ·have:=FM.mp h;subst this;exact .inr e
  ·intro σ H6 h_;refine ke h_ λg6 gl6 _hi=>?_
   refine ip _hi λo9 o10 o11 L' _hj=>?_
   refine fh _hj λ_r1 eL6 lL6 mL6=>?_
   sleep 5;refine (g6,aQ _ _ _ _ (L',(rfl,eL6,by lia,λv=>?_)))
   have sp:SS p.1= []::L0:=by rw[hSS];exact eS
   rw[mL6,mL,tk,ll,GN];constructor
   ·rintro (⟨p',h,r⟩|⟨S,h,e⟩)
    ·exact (p',GW _ h,r)
    ·exact (p,FY _ (FM.mpr rfl),S,by rw[sp];exact FX _ h,hne S h,e)
   ·rintro ⟨p',h,S,hS,ne,e⟩;rcases FS.mp h with h|h
    ·exact .inl (p',h,S,hS,ne,e)
    ·have:=FM.mp h;subst this;rw[sp] at hS;rcases FW.mp hS with h|h
     ·exact absurd h ne
     ·exact .inr (S,h,e)
 ·intro σ H4 h_;refine cP h_ λg4 _hi=>?_
  refine ip _hi λo8 o9 o10 o11 _hj=>?_
  refine eG _hj λL _hk=>?_
  refine fh _hk λ_r1 eL lL mL=>?_
  sleep 21;refine (b9 td o _ (g4 _ _ eft,nf,?_));have lD:(bv D).length=D.length:=by unfold bv;exact F1 _
  rw[lD,GN,hSS] at mL;have eLt:aI H4 td 115 lt=some (.lst (L.map V.int)):=by rw[aJ td_lt.symm];exact eL
  have gg:=g03.trans (thaw g4);generalize aI H4 td 115=Hz at eLt gg⊢;refine (aT lt _ (rfl,aE.of eLt,?_))
  by_cases e:L= []
  ·refine .inl (e,q tm ts none _ gg r1 r3 λp hp S hS=>?_)
   by_cases c:S= []
   ·exact c
   ·have:=(mL _).mpr (p,hp,S,hS,c,rfl);rw[e] at this;cases this
  ·refine .inr (e,λM hM hle=>q tm ts (some M) _ gg r1 r3 ((mL M).mp hM,λp hp S hS ne=>hle _ ((mL _).mpr (p,hp,S,hS,ne,rfl))))
theorem D7 {dV:Value} (F:b6 K "_law_many_tasks" "_law_many_tasks" Cp dV f fd) (DZ8:Da P w K mg base bM 3 Ik ["self","tools","tasks","arcs","apart","moments"] [.non,.int 0] (oX Go)) (DZ22:239 6 "best_stretch" ["net","case"] [] (tV Go)) (DZ23:239 1 "_law_cell_at" ["_law_script","_law_k"] [] (kY K)) (DZ25:239 1 "_law_mixed" ["_law_cell","_law_k"] [] kF) (DZ27:239 2 "_law_names" ["_law_cell"] [] mC) (DZ30:239 1 "_law_uses" ["_law_cell","_law_names_here","_law_heats_here"] [] pE) (DZ41:239 2 "_law_due" ["_law_arcs_here","_law_tasks","_law_case_here"] [] tI) (DZ43:239 2 "_law_work" ["_law_tasks","_law_case_here","_law_i","_law_name"] [] io) (DZ46:239 4 "_law_stretch" ["_law_tools_here","_law_tasks","_law_case_here","_law_due_here","_law_points_here","_law_row"] [] iV):240 7 f fd ["_law_script"] (j9 K):=by
 have sc:aK ["_law_script","_law_cell","_law_names_here","_law_tools_here","_law_tasks","_law_i","_law_long","_law_case_here","_law_totals","_law_name","_law_work_here","_law_found","_law_due_here"] ["_law_script"] (aB Cp):=eR 78
 sleep 36
 obtain ⟨a,ns,rfl,hS,n63,q⟩:=h;exists _,(ak (cz 1 sc 95) (ak (cz 2 sc (cy DZ27 hr (95<*>ae))) (ak (cz 3 sc (zU (qd (248 111 af 36) (250 af (252 (254 113 af) af)) (qd (248 111 af 36) (250 af (252 (254 113 af) af)) zT)) rfl rfl 82 73)) (ak (dh (i:=4) sc.nd rfl 149 102) (ak (241 (251 ((250 af (252 (254 113 af) af))<*>ae)) 230 (ak (cz 6 sc (250 af (252 (cy DZ25 hr (113<*>(146<*>ae))) (248 (@aU _ _ _ _ (af<*>((av kr af af)<*>ae))) (252 (254 113 af) af) 36)))) (au (bU (243 118 ((@aU _ _ _ _ ((@bR _ _ _ _ _ (232<*>(232<*>((cy DZ30 hr ((252 (cy DZ25 hr (113<*>((250 af 146)<*>ae))) af)<*>(111<*>((@aU _ _ _ _ (af<*>(af<*>ae)))<*>ae))))<*>ae))))<*>ae))<*>ae)))))) (ak (dh (i:=7) sc.nd rfl 149 (@bR _ _ _ _ _ ((bZ (own:= "_law_ways") (ys:= []) (js:= []) rfl 83 (aP 118) (λC fp s H=>bq))<*>(102<*>ae)))) (ak (cz 8 sc 102) (ak (241 (aP 111) (dH (i:=9) sc.nd rfl 149) (ak (cz 10 sc (az (jS rfl) rfl B.IA PyProof.Rows.Boot.«sum» ((gR (hd:=none) (own:= "_law_i") (ys:= ["_law_tasks","_law_case_here","_law_name"]) (js:= [4,7,9]) hr.hd 104 (c8 rfl B.Hr ((242 231)<*>ae)) (λC fp s H=>(cy DZ43 hr (113<*>(111<*>(98<*>238))))))<*>ae))) (au (bp (aC fN (pv 10) af 129) (au (bU (243 (pv 8) ((av fE af (254 (gI eV (pv 10)) (i9 (jU hr) 124 (pv 9) 36)))<*>ae)))) aF)))) (ak (cz 11 sc (cy DZ22 hr ((uF B.Iw DZ8 hr 73 rfl B.Iz ((cQ iM rfl B.Ix iN 238)<*>((bZ (own:= "_law_ways") (ys:= []) (js:= []) rfl 83 (aP 118) (λC fp s H=>(cQ (iW (K:=K) rfl) rfl B.HM boot_list 212)))<*>(102<*>ae))))<*>(235<*>ae)))) (ak (bp (aC (gn hr.units0) (pv 8) 102 129) (au (aG (fO cV (pv 11) bq 129))) aF) (ak (bp (PW.pt (eI (aC cV (pv 11) bq 129) (fB (aC iZ (aw aM (pv 11) af 36) (az (gi rfl) rfl B.Ie boot_max ((pv 8)<*>ae)) 129)))) (au (aG iY)) aF) (ak (cz 12 sc (cy DZ41 hr (102<*>(118<*>(235<*>ae))))) (au (aG (fO fF (cy DZ46 hr (124<*>(118<*>(235<*>((pv 12)<*>((247 (242 231))<*>((eJ xP (pv 11) (fk af) gB)<*>ae))))))) (az (gi rfl) rfl B.Ie boot_max ((pv 8)<*>ae)) 129)))))))))))))))
 try dsimp only[cxK]
 refine EY ?_;intro D' r12 r11 r10 r9 r8 r7 r6 r5 r4 r3 r2 r1;sleep 0;refine (b9 a ns 43 (rfl,hS,by decide,λc=>?_))
 refine (b9 a ns 1 (rfl,hS,by decide,λc1=>(c1,rfl,λln n0 n1 H1 g1 en nm0 nm1 ne=>?_)))
 have at0:fV [V.str n0,V.str n1] 0=some (.str n0):=rfl;have at1:fV [V.str n0,V.str n1] 1=some (.str n1):=rfl;have ma:=fm (a:=c.fdiv 4) (n:=7) 73
 have mb:=fm (a:=c.fdiv 28) (n:=7) 73
 refine λtd ntd=>?_
 have gd:=ar ntd (.dK []);refine (aQ ln _ _ _ (rfl,rfl,aE.of (gd _ _ en),at0,103,(by show (7:Int)≠0;decide),aQ ln _ _ _ (rfl,rfl,aE.of (gd _ _ en),at1,103,(by show (7:Int)≠0;decide),ao,[(.inr n0,.int (2+(c.fdiv 4).fmod 7)),(.inr n1,.int (2+(c.fdiv 28).fmod 7))],rfl,by show 2<=15;decide,?_)))
 have ed0:iJ [] [(.inr n0,.int (2+(c.fdiv 4).fmod 7)),(.inr n1,.int (2+(c.fdiv 28).fmod 7))]=bv [(n0,2+(c.fdiv 4).fmod 7),(n1,2+(c.fdiv 28).fmod 7)]:=by
  unfold iJ;simp[putK,bv,ne]
 rw[ed0];have g2:=dE gd ntd (.dK (bv [(n0,2+(c.fdiv 4).fmod 7),(n1,2+(c.fdiv 28).fmod 7)]));have etd:aI (aI H1 td (.dK [])) td (.dK (bv [(n0,2+(c.fdiv 4).fmod 7),(n1,2+(c.fdiv 28).fmod 7)])) td=some (.dK (bv [(n0,2+(c.fdiv 4).fmod 7),(n1,2+(c.fdiv 28).fmod 7)])):=ao;generalize aI (aI H1 td (.dK [])) td (.dK (bv [(n0,2+(c.fdiv 4).fmod 7),(n1,2+(c.fdiv 28).fmod 7)]))=H2 at g2 etd⊢;have en2:=g2 _ _ en;obtain ⟨m0,hm0⟩:∃m0,m0=2+(c.fdiv 4).fmod 7:=⟨_,rfl⟩;obtain ⟨m1,hm1⟩:∃m1,m1=2+(c.fdiv 28).fmod 7:=⟨_,rfl⟩;rw[<-hm0,<-hm1] at etd;have k2:=g1.trans g2;clear ed0 gd ntd g2 en g1;refine (by show 0<=sizeLine;decide,λtl ntl=>?_)
 have gt:=ar ntl 85;have hT0:dG dq (λa=>a≠tl/\H2 a=none) (aI H2 tl 85) tl []:=dG.new
 generalize aI H2 tl 85=H3 at gt hT0⊢;have m8:=fm (a:=c.fdiv 196) (n:=8) 73
 try dsimp only[aZ,bz]
 refine dP (λNq=>∀(o5 o6:Option V) (T:Tk) (H':Hp),aA H2 H'->dG dq An H' tl T->5<=T.length->T.length<=12->(∀ws∈T,∃L us,ws= [(L,L,us)]/\1<=L/\L<=1000000000/\xk n0 n1 0 0 us)->Nq [some 188,some (.int c),some (.ref ln),some (.ref td),some 237,o5,o6,none,none,none,none,none,none] H') 174 ?_
 ·refine (103,(by show (8:Int)≠0;decide),ν,by lia,by lia,bE (λi σ H'=>∃(o5 o6:Option V) (T:Tk),σ= [IS a,some (.int c),IS ln,IS td,IS tl,o5,o6,none,none,none,none,none,none]/\aA H2 H'/\dG dq (λa=>a≠tl/\H2 a=none) H' tl T/\T.length=i/\∀ws∈T,∃L us,ws= [(L,L,us)]/\1<=L/\L<=1000000000/\xk n0 n1 0 0 us) (b9 none none [] (rfl,gt,hT0,rfl,λws h=>by cases h)) ?_ ?_)
  ·intro i σ H4 hi h_;refine mK h_ λo5 o6 T _hi=>?_
   refine fh _hi λ_r1 g4 _r2 _hj=>?_
   refine cP _hj λlT okT=>?_
   sleep 5;obtain ⟨vs,et,rT⟩:=_r2;have mc:=fm (a:=c.fdiv 1568) (n:=2) 73
   obtain ⟨M,hM,M1,M9⟩:=BD mc.1 mc.2;refine (aT _ _ (rfl,λv v0=>((by decide,by decide),by show 2<=sizeLine;decide,λlq nlq=>?_)))
   have gq:=ar nlq (.lst [.int 60,.int ((10:Int)^(9:Int).toNat)]);have mv:=fm (a:=v) (n:=M) 72
   refine (103,156,aQ lq _ _ _ (rfl,rfl,aE.of ao,hM,by lia,?_))
   have et5:=gq _ _ et;have nq:lq≠tl:=λz=>by rw[z,et] at nlq;cases nlq
   replace rT:=rT.imp λ_ _ q=>mi q gq
   have g5:=g4.trans gq;generalize aI H4 lq (.lst [.int 60,.int ((10:Int)^(9:Int).toNat)])=H5 at et5 rT g5⊢;have L1:1<=1+v.fmod M/\1+v.fmod M<=1000000000:=by lia
   refine mI.i ?_;try dsimp only[aZ,bz]
   generalize 1+v.fmod M=L at L1⊢;refine (.inl (rfl,_,aE.of et5),aT _ _ (rfl,λv2 v20=>((by show (9:Int)≠0;decide),by show 2<=sizeLine;decide,λlz nlz=>?_)))
   have gz:=ar nlz (.lst [.int 0,.int 0]);have elz:aI H5 lz (.lst [.int 0,.int 0]) lz=some (.lst [.int 0,.int 0]):=ao;generalize aI H5 lz (.lst [.int 0,.int 0])=H6 at gz elz⊢;refine (fL _ ln lz n0 n1 0 (0,(rfl,(g5.trans gz) _ _ en2,elz,ne,λu us H7 g7 nu hU ub=>(by show 3<=sizeLine;decide,λtw ntw=>(by show 1<=sizeLine;decide,λlw nlw=>?_)))))
   have gw:=ar ntw (.tup [.int L,.int L,.ref u]);have gl:=ar nlw (.lst [.ref tw]);have g57:=((gz.trans g7).trans gw).trans gl;have et8:=g57 _ _ et5;have nP:∀(G:Hp) (b:Addr),aA H5 G->G b=none->b≠tl/\H2 b=none:=λ_ _ g h=>(λz=>(by rw[z,g _ _ et5] at h;cases h),g5.free (g.free h))
   have pu:u≠tl/\H2 u=none:=nP _ _ gz nu;have ptw:tw≠tl/\H2 tw=none:=nP _ _ (gz.trans g7) ntw;have plw:lw≠tl/\H2 lw=none:=nP _ _ ((gz.trans g7).trans gw) nlw;have hw:iu (λa=>a≠tl/\H2 a=none) (aI (aI H7 tw (.tup [.int L,.int L,.ref u])) lw (.lst [.ref tw])) (.ref tw) (L,L,us):=(aT tw u (rfl,ptw,pu,gl _ _ ao,((hU.mono λb h=>nP _ _ gz h).same gw).same gl))
   refine (b9 tl _ _ (rfl,rfl,et8,by rw[rT.1];lia,?_))
   refine (b9 _ _ (T++ [[(L,L,us)]]) (rfl,dE (g5.trans g57) ntl _,dG.put (λz=>z.1 rfl) (rT.imp λ_ _ q=>mi q g57) (lw,rfl,plw,_,ao,A2.one hw),by rw[FP,lT];rfl,λws hws=>?_))
   rcases FS.mp hws with h|h
   ·exact okT ws h
   ·exact (aT L us (FM.mp h,L1.1,L1.2,ub))
  ·intro σ H4 h_;refine mK h_ λo5 o6 T _hi=>?_
   refine fh _hi λ_r1 g4 hT _hj=>?_
   refine cP _hj λlT okT=>?_
   sleep 5;exact hN _ _ T _ g4 hT.any 72 72 okT
 clear hT0 gt ntl;intro o5 o6 T H4 g4 hT T5 T12 okT;have mm0:2<=m0/\m0<=8:=by lia
 have mm1:2<=m1/\m1<=8:=by lia
 clear hm0 hm1 ma mb;have ways:∀ws∈T,oU [206,(n1,m1)] ws:=λws hw=>by
  obtain ⟨L,us,rfl,l1,l9,ub⟩:=okT ws hw;refine (F8 _,(by show 1<=2;decide),λw hw=>?_)
  rw[FM.mp hw];refine (l1,GP _,l9,ub.nd,by show us.length<=100;have:=ub.len;lia,λe he=>?_)
  obtain ⟨e1,u1,u2⟩:=ub.use e he;rcases e1 with ⟨e1,eh⟩|⟨e1,eh⟩
  ·exact (m0,by rw[e1,ca,if_pos rfl],u1,by lia,by rw[eh];decide,by rw[eh];decide)
  ·exact (m1,by rw[e1,ca,if_neg ne,ca,if_pos rfl],u1,by lia,by rw[eh];decide,by rw[eh];decide)
 have nok:jL [206,(n1,m1)] T [] [] 0:=⟨by simp,by simp;exact ne,λp hp=>(by
  simp at hp;rcases hp with rfl|rfl
  ·exact (nm0,by lia,by lia)
  ·exact (nm1,by lia,by lia)),by lia,ways,by decide,by decide,G4 _,λp hp=>(by cases hp),G4 _,λp hp=>(by cases hp)⟩
 have dnd:=nok.dnd;obtain ⟨vt,et,rT⟩:=id hT;have lv:vt.length=T.length:=rT.1;try dsimp only[aZ,bz]
 refine (tl,rfl,(_,aE.of et),bO (eZ rX) 133 (λ_=>(none:Option Nat)) (aE.of et) 72 112 (λk y hy H4 g4 Q' hQ=>hQ _ _ 168 rfl) λlk H5 nlk g5 hk=>?_)
 obtain ⟨vs,ek,rk'⟩:=hk;rw[lv] at rk';rw[rk'.val] at ek;refine (by show 0<=sizeLine;decide,λlo nlo=>(by show 2<=sizeLine;decide,λt nt=>?_))
 have g6:=g5.trans ((ar nlo 85).trans (ar nt (.tup [.ref lk,.ref lo])));have hC:jo (aI (aI H5 lo 85) t (.tup [.ref lk,.ref lo])) t ((G0 T.length).map λ_=>none) []:=(aT lk lo (ao,ar nt _ _ _ (ar nlo _ _ _ ek),([],ar nt _ _ _ ao,cX.nil)))
 generalize aI (aI H5 lo 85) t (.tup [.ref lk,.ref lo])=H6 at g6 hC⊢;clear g5 ek rk' nlk nlo nt;obtain ⟨P,hP⟩:∃P:Pk,P=(G0 T.length).map λ_=>none:=⟨_,rfl⟩
 rw[<-hP] at hC;have pk:xi T P:=⟨by rw[hP,F1,GB],λi j ws e=>by
  rw[hP,F7] at e;obtain ⟨_,_,e⟩:=FT.mp e;cases e⟩
 have opn:∀i,i<T.length->∃L us,bA T P i= [(L,L,us)]/\1<=L:=λi il=>by
  obtain ⟨L,us,e,l1,_⟩:=okT _ (G5 il);refine (aT L us (?_,l1));have:P.getD i none=none:=by rw[hP];exact aL (by rw[F7,HP il];rfl)
  unfold bA;rw[this,aL (F0 il)];exact e
 have wnn:∀z i,i<T.length->0<=aV T P i z:=λz i il=>by
  obtain ⟨L,us,e,l1⟩:=opn i il;obtain ⟨ws,hws,hm⟩:=pB ways pk il (L,L,us) (by rw[e];exact FM.mpr rfl)
  unfold aV;rw[e];exact Int.mul_nonneg 72 (wW ((ways ws hws).2.2 _ hm).2.2.2)
 have TC:fc [206,(n1,m1)] H6 tl t T P:=(hT.same g6,(_,hC),pk,ways);have etd6:=(g4.trans g6) _ _ etd;have en6:=(g4.trans g6) _ _ en2;have et6:=g6 _ _ et;refine (by show 0<=sizeLine;decide,λlt nlt=>?_)
 have gl:=ar nlt 85;have elt:aI H6 lt 85 lt=some (.lst (([]:List Int).map V.int)):=ao;generalize aI H6 lt 85=H7 at gl elt⊢;try dsimp only[aZ,bz]
 refine dP (λNq=>∀(o9 o10:Option V) (L:List Int) (H':Hp),aA H6 H'->H' lt=some (.lst (L.map V.int))->(∀x,x∈L↔∃p∈ [(Prod.mk (n0) (m0)),(Prod.mk (n1) (m1))],0<WS T P p.1/\x=0-(-(WS T P p.1)).fdiv p.2)->Nq [some 188,some (.int c),some (.ref ln),some (.ref td),some 237,o5,o6,some 223,some (.ref lt),o9,o10,none,none] H') 174 ?_
 ·refine ⟨ln,rfl,⟨_,aE.of (gl _ _ en6)⟩,bL (xs:= [V.str n0,V.str n1]) (λi σ H'=>∃(o9 o10:Option V) (L:List Int),σ= [IS a,some (.int c),IS ln,IS td,IS tl,o5,o6,IS t,IS lt,o9,o10,none,none]/\aA H6 H'/\H' lt=some (.lst (L.map V.int))/\L.length<=i/\∀x,x∈L↔∃p∈ [(Prod.mk (n0) (m0)),(Prod.mk (n1) (m1))].take i,0<WS T P p.1/\x=0-(-(WS T P p.1)).fdiv p.2) (b9 none none [] ⟨rfl,gl,elt,F8 _,λx=>⟨λh=>(by cases h),λ⟨_,h,_⟩=>(by cases h)⟩⟩) (λi σ H' _ ⟨_,_,_,_,g,_⟩=>aE.of (g _ _ en6)) ?_ ?_⟩
  ·intro i y σ H8 hy h_;refine mK h_ λo9 o10 L _hi=>?_
   refine fh _hi λ_r1 g8 eL _hj=>?_
   refine cP _hj λlL mL=>?_
   sleep 5;obtain ⟨p,hp,rfl,i2⟩:∃p:Str×Int,[(n0,m0),(n1,m1)][i]?=some p/\y= .str p.1/\i<2:=by
    match i,hy with
    |0,hy=>cases hy;exact (206,rfl,rfl,by decide)
    |1,hy=>cases hy;exact ((n1,m1),rfl,rfl,by decide)
   have pD:=F5 hp;have pm:=(nok.tool p pD).2;have tk: [206,(n1,m1)].take 176= [206,(n1,m1)].take i++ [p]:=by rw[Gv,hp];rfl
   rw[tk];try dsimp only[aZ,bz]
   refine (aT tl _ (rfl,.inl (aE.of (g8 _ _ et6)),ν,by lia,by lia,gX 203 133 222 gQ.no 72 112 (λk hk Hk gk Q' hQ=>?_) λlw H9 nlw g9 hw=>?_))
   ·rw[FO,lv] at hk;exact (fL tl t k p.1 _ T (P,(by rw[Gp];rfl,TC.same (g8.trans gk),hk,λH' g'=>hQ _ _ g' rfl)))
   obtain ⟨ww,ew,rw'⟩:=hw;rw[FO,lv] at rw';rw[rw'.val] at ew;refine (aT lw _ (rfl,aE.of ew,?_));have g89:=g8.trans g9;have eL9:=g9 _ _ eL;have eW:((G0 T.length).map λi=>aV T P i p.1).sum=WS T P p.1:=rfl
   rw[eW];try dsimp only[aZ,bz]
   refine (d2 (λc0=>?_) (λc0=>?_))
   ·replace c0:0<WS T P p.1:=c0;refine (.inl (rfl,_,aE.of eL9),ν,aT td _ (rfl,jN (.inl (g89 _ _ etd6)) (ig dnd pD),(by lia,FQ 72),b9 lt _ _ (rfl,rfl,eL9,by rw[F1];lia,b9 _ _ (L++ [0-(-(WS T P p.1)).fdiv p.2]) (rfl,dE g89 nlt _,by rw[ao,G8];rfl,by rw[FP];show _+1<=_;lia,λx=>?_))))
    rw[FS,mL,FM];constructor
    ·rintro (⟨p',h,r⟩|h)
     ·exact (p',GW _ h,r)
     ·exact (p,FY _ (FM.mpr rfl),c0,h)
    ·rintro ⟨p',h,r⟩;rcases FS.mp h with h|h
     ·exact .inl (p',h,r)
     ·rw[FM.mp h] at r;exact .inr r.2
   ·replace c0:¬0<WS T P p.1:=c0;refine (b9 _ _ L (rfl,g89,eL9,by lia,λx=>?_))
    rw[mL];constructor
    ·exact λ⟨p',h,r⟩=>⟨p',GW _ h,r⟩
    ·rintro ⟨p',h,r⟩;rcases FS.mp h with h|h
     ·exact (p',h,r)
     ·rw[FM.mp h] at r;exact (c0 r.1).elim
  ·intro σ H8 h_;refine mK h_ λo9 o10 L _hi=>?_
   refine fh _hi λ_r1 g8 eL _hj=>?_
   refine cP _hj λlL mL=>?_
   sleep 5;exact hN _ _ L _ g8 eL mL
 clear elt gl;intro o9 o10 L H7 g7 eL mL;have kz:=((k2.trans g4).trans g6).trans g7;have ed4:=g7 _ _ etd6;have hT4:=(hT.same g6).same g7;replace hC:=hC.same g7;replace TC:=TC.same g7;clear g6 g4 g7 etd6 en6 et6 et rT etd en2 k2 nlt;try dsimp only[aZ,bz]
 refine (aT td _ (rfl,ed4,λtd2 ntd2=>?_))
 have h1:=ar ntd2 (.dK (bv [206,(n1,m1)]));have ed2:aI H7 td2 (.dK (bv [206,(n1,m1)])) td2=some (.dK (bv [206,(n1,m1)])):=ao;generalize aI H7 td2 (.dK (bv [206,(n1,m1)]))=H5 at h1 ed2⊢;obtain ⟨vt,et,rT⟩:=hT4.same h1;refine (tl,rfl,(_,aE.of et),bO (yC iu) (λa=>An a/\H5 a≠none) (λi=>T.getD i []) (aE.of et) (by rw[rT.1];lia) (λa h=>h.2) (λi y hy H6 g6 Q' hQ=>?_) λtl2 H6 ntl2 g6 hT2=>?_)
 ·refine eG (rT.at_ hy) λws _hi=>?_
  sleep 30
  refine eG _hj λl _hk=>?_
  refine ke _hk λ_r1 _ _hl=>?_
  refine eG _hl λus _hm=>?_
  refine cP _hm λel rl'=>?_
  clear _hi _hj _hk _hl _hm;subst _r1;rw[aL hw] at hQ;have rl2:=rl'.imp λ_ _ q=>Ej q
  refine (aT l us (rfl,.inl (aE.of (g6 _ _ el)),λp np=>?_))
  have gp:=ar np (.lst us);exact hQ _ _ gp (p,rfl,.inl np,us,ao,rl2.imp λv e q=>zz (mi q (g6.trans gp)) λa h=> .inr h)
 rw[ij T [] rT.1] at hT2;have hT2':=hT2.any;refine (by show 0<=sizeLine;decide,λla2 nla2=>?_)
 have h3:=ar nla2 85;have ela2:aI H6 la2 85 la2=some (.lst []):=ao;generalize aI H6 la2 85=H8 at h3 ela2⊢;have h8:=(h1.trans g6).trans h3;refine λx dx nx ndx dxx=>?_
 have sm:=dR (C:=Go) nx ndx (H':=aI (aI H8 dx (.own x)) x (.ins Go dx [])) (λa o _ e=>e)
 refine (zB x dx td2 tl2 la2 .non 0 [206,(n1,m1)] T (aT [] [] (rfl,ao,sm _ _ ((g6.trans h3) _ _ ed2),(hT2'.same h3).same sm,([],sm _ _ ela2,cX.nil),.inl 199,nok,λH9 fx N=>(rfl,?_))))
 have h9:=h8.trans (dR nx ndx fx);replace kz:=kz.trans h9;replace ed4:=h9 _ _ ed4;replace hC:=hC.same h9;replace TC:=TC.same h9;replace eL:=h9 _ _ eL;clear sm fx h8 h3 h1 ed2 hT2 hT2' ela2 hT4 et rT nx ndx dxx g6 h9;have tkk:rj (2*99+0) (b7 [] T P []):=j6 (λk hk=>(by cases hk)) (G4 _) 72 (G4 _,λk hk=>(by cases hk)) 72
 have eN:((2*99+0).toNat:Int)=2*99+0:=by lia
 obtain ⟨⟨d1,d1n,d1k,d1z⟩,⟨d2',d2n,d2k,d2z⟩⟩:=zu opn;refine (aT x t (rfl,fL _ T [] [] 0 P ([],((N,hC,nok,pk),(G4 _,λk hk=>(by cases hk)),by show 0+2*T.length+0<=700;lia,tkk,by decide,by decide,λc H' g rg=>(rg.no d1k).elim,λtm ts v H10 g10 kp nn hc kpt nnt hb ba=>?_))))
 replace kz:=kz.trans g10;replace ed4:=g10 _ _ ed4;replace TC:=TC.same g10;replace hC:=hC.same g10;replace eL:=g10 _ _ eL;have bg:=xu (L:=L) ba (λi il=>by
  obtain ⟨cc,hcc⟩:=hc (2*i) 72
  have:=mH d1k d1n hcc;have:=nn 114;have z:=d1z i;rw[show ((2*i:Nat):Int)=2*(i:Int) by lia] at*
  lia) (λi il=>by
  obtain ⟨cc,hcc⟩:=hb (2*i+1) 72
  have:=xv d2k d2n hcc;have:=nnt 107;have z:=d2z i;rw[show ((2*i+1:Nat):Int)=2*(i:Int)+1 by lia] at*
  lia) (λp hp=>(nok.tool p hp).2) (λz m h=>iQ h) wnn mL
 try dsimp only[aZ,bz]
 refine (by show 0<=sizeLine;decide,λle nle=>?_)
 have ge:=ar nle 85;refine (b9 lt le _ (rfl,rfl,aE.of (ge _ _ eL),aE.of ao,mB.i ?_));replace kz:=kz.trans ge;replace ed4:=ge _ _ ed4;replace TC:=TC.same ge;replace hC:=hC.same ge;replace eL:=ge _ _ eL;generalize aI H10 le 85=H11 at ge ed4 TC hC eL kz⊢;rcases bg with ⟨rfl,rfl⟩|⟨tb',z',lf',lb',total',ev,etb',tL,tM⟩
 ·exact gC (rfl,q _ kz)
 have neL:L≠ []:=λe=>by rw[e] at tL;cases tL
 have re:(L.map V.int).isEmpty=false:=by cases L with|nil=>exact absurd rfl neL|cons _ _=>rfl
 rw[re];rcases ba with ⟨rfl,_⟩|⟨tb2,z,lf,lb,F2,G,total,mm,ff,kk,U,rfl,etb,hF,hG,hm,uo,fu,lF,lG,each,_⟩
 ·cases ev
 cases ev;rw[etb] at etb';cases etb';obtain ⟨str1,wk⟩:=rJ hm uo fu lF lG each;rw[eN] at str1;have lenC:∀c:List Int,c.Nodup->(∀y∈c,0<=y/\y<(((2*99+0).toNat:Nat):Int))->c.length<=700:=λc nd rg=>by
  have:=dS nd (m:=(G0 (2*99+0).toNat).map λn:Nat=>(n:Int)) λy hy=>FN.mpr (y.toNat,GE.mpr (by have:=rg y hy;lia),by have:=rg y hy;lia)
  rw[F1,GB] at this
  lia
 have gl:∀c∈G,c.length<=700:=λc hc=>by
  obtain ⟨j,hj⟩:=FR.mp hc;have jl:=(F4.mp hj).1;obtain ⟨c',b,_,e2,_,e4⟩:=each j _ (F0 (show j<(db U ff kk).length by lia))
  rw[hj] at e2;cases e2;exact lenC c e4.1 e4.2.1
 have fl:∀c∈F2,c.length<=700:=λc hc=>by
  obtain ⟨j,hj⟩:=FR.mp hc;have jl:=(F4.mp hj).1;obtain ⟨c',b,e1,_,e3,_⟩:=each j _ (F0 (show j<(db U ff kk).length by lia))
  rw[hj] at e1;cases e1;exact lenC c e3.1 e3.2.1
 have sel24:(db U ff kk).length<=24:=by
  have nd:=(fR.mp (n6 str1)).2.2;have:=dS nd (m:=(G0 T.length).map λn:Nat=>(n:Int)) λy hy=>by
   obtain ⟨c,hc,rfl⟩:=FN.mp hy;have:=wk c hc;exact FN.mpr ((fi c).toNat,GE.mpr 72,by lia)
  rw[F1,F1,GB] at this
  lia
 replace etb:=ge _ _ etb;replace hF:=hF.same ge;replace hG:=hG.same ge;refine ja ?_;try dsimp only[aZ,bz]
 refine (rfl,mB.i (dF nofun (aQ tb' _ _ _ (rfl,rfl,bT.of etb,rfl,aT lt L (rfl,aE.of eL,neL,λM hM hle=>?_)))))
 have eM:M=total':=by
  have:=hle _ tL;have:=tM _ hM
  lia
 subst eM;refine (rfl,C0 rfl ?_);try dsimp only[aZ,bz]
 refine (by show 0<=sizeLine;decide,λla nla=>?_)
 have gA:=ar nla 85;have ela:aI H11 la 85 la=some (.lst []):=ao;replace kz:=kz.trans gA;replace ed4:=gA _ _ ed4;replace TC:=TC.same gA;replace hC:=hC.same gA;replace eL:=gA _ _ eL;replace etb:=gA _ _ etb;replace hF:=hF.same gA;replace hG:=hG.same gA;generalize aI H11 la 85=H12 at ela kz ed4 TC hC eL etb hF hG⊢;refine (fL la tl t [] _ T (aT P [] (rfl,([],ela,cX.nil),G4 _,TC.tasks,by lia,hC,pk,ways,(G4 _,λk hk=>(by cases hk)),λdl H13 g13 hd=>?_)))
 replace kz:=kz.trans g13;replace ed4:=g13 _ _ ed4;replace TC:=TC.same g13;replace eL:=g13 _ _ eL;replace etb:=g13 _ _ etb;replace hF:=hF.same g13;replace hG:=hG.same g13;have trF:∀k∈b7 [] T P [],∃p q g:Int,k= [p,q,g]:=λk hk=>by
  obtain ⟨p,q,g,e,_⟩:=tkk.2 k hk;exact (b9 p q g e)
 have lD:(b7 [] T P []).length<=700:=by
  unfold b7 iw;rw[FP,FP,cS,F1];show 0+2*T.length+0<=700
  lia
 obtain ⟨vt,et,rT⟩:=id TC.tasks;have lv:vt.length=T.length:=rT.1;try dsimp only[aZ,bz]
 refine (aT tl _ (rfl,.inl (aE.of et),89 73,ν,aT tb' _ (rfl,bT.of etb,(by show ¬(HT.cT 4 0 (some 1)=0/\HT.cT 4 4 none=4);decide),λrow nrow=>?_)))
 have gr:=ar nrow 170;have hcut:jA [V.int M,.str z',.ref lf',.ref lb'] (some 1) none= [.str z',.ref lf',.ref lb']:=rfl;rw[hcut];have er':aI H13 row 170 row=some (.tup [.str z',.ref lf',.ref lb']):=ao;replace kz:=kz.trans gr;replace ed4:=gr _ _ ed4;replace TC:=TC.same gr;replace eL:=gr _ _ eL;replace hF:=hF.same gr;replace hG:=hG.same gr;replace hd:=hd.same gr;generalize aI H13 row 170=H15 at er' kz ed4 TC eL hF hG hd⊢;refine (zB td tl t dl row _ z' lf' lb' (fL _ T P _ F2 G (rfl,ed4,TC,by lia,λp hp=>(nok.tool p hp).2,kH hd trF,by rw[F1];exact lD,er',hF,hG,by lia,by lia,fl,gl,λH16 g16=>?_)))
 have e2:(2:Int)*((vt.length:Nat):Int)=2*99+0:=by lia
 rw[e2,str1];refine (aT lt L (rfl,aE.of (g16 _ _ eL),neL,λM2 hM2 hle2=>?_))
 have eM:M2=M:=by
  have:=hle2 _ tL;have:=tM _ hM2
  lia
 subst eM;exists rfl;have:=q H16 (kz.trans g16)
 rwa [<-decide_eq_true (show V.int M2=V.int M2 from rfl)] at this
theorem Fq {i:Nat} {b:Bool} {t u:TS} {D:Ends} {σ:L2.St} {H:Hp} (e:σ[i]?=some (some (.bl b))) (h:if b=true then t D σ H else u D σ H):Cy (tB (AX i)) t u D σ H:=mV.o e h
theorem D8 {dV:Value} (F:b6 K "law" "law" pP dV f fd) (DZ8:Da P w K mg base bM 3 Ik ["self","tools","tasks","arcs","apart","moments"] [.non,.int 0] (oX Go)) (DZ22:239 6 "best_stretch" ["net","case"] [] (tV Go)) (DZ23:239 1 "_law_cell_at" ["_law_script","_law_k"] [] (kY K)) (DZ24:239 1 "_law_whole" ["_law_found"] [] uz) (DZ34:239 1 "_law_arcs" ["_law_cells","_law_times","_law_far"] [] vD) (DZ35:239 2 "_law_case" ["_law_runs_here","_law_cell"] [] u7) (DZ36:239 3 "_law_built" ["_law_script","_law_at","_law_many_here","_law_far"] [] (u6 K)) (DZ37:239 1 "_law_points" ["_law_runs_here","_law_times"] [] nU) (DZ41:239 2 "_law_due" ["_law_arcs_here","_law_tasks","_law_case_here"] [] tI) (DZ43:239 2 "_law_work" ["_law_tasks","_law_case_here","_law_i","_law_name"] [] io) (DZ46:239 4 "_law_stretch" ["_law_tools_here","_law_tasks","_law_case_here","_law_due_here","_law_points_here","_law_row"] [] iV) (DZ49:239 4 "_law_greatest" ["_law_tools_here","_law_tasks","_law_case_here","_law_due_here","_law_points_here"] [] rO) (DZ50:239 7 "_law_many_tasks" ["_law_script"] [] (j9 K)):240 8 f fd ["_law_script"] (uA K):=by
 have sc:aK ["_law_script","_law_many_here","_law_far","_law_tools_here","_law_tasks","_law_runs_here","_law_times","_law_at","_law_arcs_here","_law_looped","_law_here","_law_there","_law_net","_law_case_here","_law_found","_law_due_here","_law_greatest_here"] ["_law_script"] (aB pP):=eR 78
 sleep 36
 obtain ⟨a,ns,rfl,hS,n63,q⟩:=h;exists _,(ak (bp (PW.pt (fU (aC fF (252 95 af) af 129) (dY (df (eU (cy DZ50 hr 212)))))) (au (aG iY)) aF) (ak (cz 1 sc (250 af (252 95 af))) (@ak _ _ _ _ _ (@dh _ _ 2 _ _ _ _ sc.nd rfl (Or.inl rfl) (@aw _ _ _ _ _ _ _ aD (@aU _ _ _ _ (af<*>(af<*>((250 (av kr af af) af)<*>ae)))) (252 (254 95 af) af) 36) rfl 149) (ak (jw (cy DZ36 hr (98<*>(af<*>(113<*>207)))) (fD rfl (bw (dD 3 sc) (bw (dH (i:=4) sc.nd rfl 149) (bw 230 (bw (dD 6 sc) dI)))))) (ak (cz 7 sc (cy DZ37 hr (146<*>(232<*>ae)))) (ak (cz 8 sc (cy DZ34 hr ((eJ ux 98 (fk af) (fk af))<*>(235<*>207)))) (ak (cz 9 sc (fO fF (252 95 af) af 129)) (ak (bp (eU (pv 9)) (ak (cz 10 sc (252 (254 95 af) (242 (235<*>ae)))) (ak (cz 11 sc (252 95 (242 (235<*>ae)))) (ak (bU (243 (pv 8) ((@bR _ _ _ _ _ ((pv 10)<*>((pv 11)<*>((av fE (248 235 (pv 11) 36) (248 235 (pv 10) 36))<*>ae))))<*>ae))) (au (bU (243 (pv 8) ((@bR _ _ _ _ _ ((pv 11)<*>((pv 10)<*>((250 (250 (av fE (248 235 (pv 10) 36) (248 235 (pv 11) 36)) af) (252 (254 95 af) (av kr af af)))<*>ae))))<*>ae))))))) aF) (ak (cz 12 sc (Bo B.Iw DZ8 hr 73 rfl B.Iz ((cQ iM rfl B.Ix iN 238)<*>((bZ (own:= "_law_ways") (ys:= []) (js:= []) rfl 83 (aP 118) (λC fp s H=>(cQ (iW (K:=K) rfl) rfl B.HM boot_list 212)))<*>((cQ c6 rfl B.HM boot_list ((pv 8)<*>ae))<*>(bq<*>((242 (232<*>ae))<*>ae))))))) (ak (dh (i:=13) sc.nd rfl 149 (cy DZ35 hr (146<*>(95<*>ae)))) (ak (bp (aC fF (252 95 af) af 129) (au (dh (i:=13) sc.nd rfl 149 (@bR _ _ _ _ _ ((bZ (own:= "_law_run") (ys:= []) (js:= []) rfl 83 (aP 146) (λC fp s H=>bq))<*>(102<*>ae))))) aF) (ak (dh (i:=14) sc.nd rfl 149 (cy DZ22 hr ((pv 12)<*>((pv 13)<*>ae)))) (ak (bp (aC kq (cy DZ22 hr ((uF B.Iw DZ8 hr 73 rfl B.Iz (qc<*>(102<*>(102<*>ae))))<*>((@bR _ _ _ _ _ (102<*>(102<*>ae)))<*>ae))) bq 129) (au (aG iY)) aF) (ak (bp (eU (pv 9)) (au (aG (fO cV (pv 14) bq 129))) aF) (ak (cz 15 sc (cy DZ41 hr ((pv 8)<*>(118<*>((pv 13)<*>ae))))) (ak (cz 16 sc (cy DZ49 hr (124<*>(118<*>((pv 13)<*>((pv 15)<*>((242 (235<*>ae))<*>ae))))))) (ak (bp (aC cV (pv 16) bq 129) (au (aG (fO cV (pv 14) bq 129))) aF) (ak (bp (PW.pt (eI (df (eU (245 ((pv 14)<*>((gv (v:= .ty "tuple") rfl B.IB boot_tuple rfl)<*>ae))))) (eI (aC iZ (242 ((pv 14)<*>ae)) af 129) (eI (df (eU (cy DZ24 hr ((aw aM (pv 14) af 36)<*>ae)))) (fB (aC iZ (aw aM (pv 14) af 36) (pv 16) 129)))))) (au (aG iY)) aF) (ak (bp (PW.pt (eI (df (eU (245 ((aw aM (pv 14) af 36)<*>((gv (v:= .ty "str") rfl B.IC boot_str rfl)<*>ae))))) (eI (df (eU (245 ((aw aM (pv 14) af 36)<*>((gv (v:= .ty "list") rfl B.HM boot_list rfl)<*>ae))))) (fB (df (eU (245 ((aw aM (pv 14) af 36)<*>((gv (v:= .ty "list") rfl B.HM boot_list rfl)<*>ae))))))))) (au (aG iY)) aF) (ak (bp (aC iZ (cy DZ46 hr (124<*>(118<*>((pv 13)<*>((pv 15)<*>((242 (235<*>ae))<*>((eJ xP (pv 14) (fk af) gB)<*>ae))))))) (pv 16) 129) (au (aG iY)) aF) (au (aG (az (xo rfl) rfl B.IG PyProof.Rows.Boot.«all» ((bZ (own:= "_law_front") (ys:= ["_law_tasks","_law_case_here","_law_found"]) (js:= [4,13,14]) rfl 104 (aP (aw aM (pv 14) af 36)) (λC fp s H=>(fO fN (cy DZ43 hr (113<*>(111<*>((254 (aw (fX (K:=K) rfl) 98 (gI eV af) 36) af)<*>((aw (bN (K:=K) rfl) 124 af 36)<*>ae))))) af 129)))<*>ae))))))))))))))))))))))))
 try dsimp only[cxK]
 sleep 0;try dsimp only[aZ,bz]
 refine dP (λNq=>∀H',aA H H'->Nq [some 188,none,none,none,none,none,none,none,none,none,none,none,none,none,none,none,none] H') 174 ?_
 ·refine (b9 a ns 43 (rfl,hS,by decide,λc43=>((by show (4:Int)≠0;decide),rfl,d2 (λc1=>?_) (λc1=>hN _ 168))))
  exact (aT a ns (rfl,hS,n63,λH' g'=>(hN _ g')))
 intro H00 g00;replace hS:=g00.seq hS;try dsimp only[aZ,bz]
 refine cut (λσ H'=>∃m:Int,σ= [IS a,some 216,none,none,none,none,none,none,none,none,none,none,none,none,none,none,none]/\H00=H'/\1<=m/\m<=4) 174 ?_
 ·refine (b9 a ns 0 (rfl,hS,by decide,λc0=>?_))
  have mm:=fm (a:=c0) (n:=4) 73
  exact ((by show (4:Int)≠0;decide),hN _ _ (ν,rfl,by lia,by lia))
 rintro σ Hx ⟨m,rfl,rfl,m1⟩;refine ((by decide,by decide),by show 3<=sizeLine;decide,λlf nlf=>?_)
 have g0:=ar nlf (.lst [.int 1,.int 1,.int ((10:Int)^(7:Int).toNat+19)]);refine (b9 a ns 0 (rfl,(g0.seq hS),by decide,λc0'=>?_))
 have m3:=fm (a:=c0'.fdiv 4) (n:=3) 73
 obtain ⟨f,hf,far⟩:=Bz m3.1 m3.2;refine (103,141,aQ lf _ _ _ (rfl,rfl,aE.of ao,hf,?_))
 generalize aI H00 lf (.lst [.int 1,.int 1,.int ((10:Int)^(7:Int).toNat+19)])=H0 at g0⊢;refine (aQ a ns 4 m (f,(rfl,g0.seq hS,by decide,by decide,m1.1,m1.2,far,λtb td tl rl ml n0 n1 m0 m1' hs1 hs2 T R M H1 g1 etb ed hT hR em lR bt=>?_)))
 clear hf nlf m3;refine (aT tb _ (rfl,bT.of etb,rfl,aT _ _ (rfl,aT _ _ (rfl,aT _ _ 171))));have k1:=g0.trans g1;have r4:=bt.r4;have M2:=bt.m2;refine (aQ rl ml R M (rfl,hR,by lia,em,by lia,λlat H2 g2 eat=>?_))
 have k2:=k1.trans g2;obtain ⟨cs,ecs,lcs⟩:=wJ ns (some 20) (some 40);have lsp:(bI R M).length=2*R.length+M.length:=fY M R;refine (ν,ν,aT a _ (rfl,k2.seq hS,λls nls=>?_))
 rw[ecs];have gs:=ar nls (.lst (cs.map V.int));refine (aQ ls lat cs (bI R M) (f,(rfl,ao,by lia,gs _ _ eat,by lia,by lia,far,bt.spots,λla A0 H3 nla g3 hA0 lA0 okA0=>?_)))
 have qb:=g2.trans gs;have edb:=qb _ _ ed;have hTb:=hT.same qb;have hRb:=hR.same qb;have emb:=qb _ _ em;have eatb:=gs _ _ eat;replace hS:=(k2.trans gs).seq hS;have n1':1<=(bI R M).length:=by lia
 clear ed hT hR em eat nls etb g2 qb k1 k2 g0 g1;generalize aI H2 ls (.lst (cs.map V.int))=Hb at gs g3 nla edb hTb hRb emb eatb hS;refine (b9 a ns 41 (rfl,g3.seq hS,by decide,λc41=>((by show (6:Int)≠0;decide),rfl,?_)))
 generalize decide (V.int (c41.fmod 6)=V.int 1)=lo;try dsimp only[aZ,bz]
 refine dP (λNq=>∀(o10 o11:Option V) (A:List Ky) (H':Hp),aA Hb H'->bx H' la A->A.length<=70->(∀k∈A,jY 162 k)->(lo=false->∀k∈A,jY 162 k/\q9 (bI R M) k)->(lo=true->∀tm,¬cJ (A.map j5) tm)->Nq [some 188,some 216,some (.int f),some (.ref td),some 237,some (.ref rl),some (.ref ml),some (.ref lat),some (.ref la),some (.bl lo),o10,o11,none,none,none,none,none] H') 174 ?_
 ·refine Fq B (b:=lo) rfl ?_;cases lo with
  |false=>exact ja (hN none none A0 H3 g3 hA0 72 (λk hk=>(okA0 k hk).1) (λ_=>okA0) (by nofun))
  |true=>
   have ss:=bt.spots;have f0:1<=f/\f<=10000019:=by rcases far with rfl|rfl<;>lia
   generalize bI R M=S at eatb n1' okA0 lsp ss hN⊢;have lS:(S.map V.int).length=S.length:=F1 _;refine gC (b9 a ns 41 (rfl,g3.seq hS,by decide,λd41=>(103,aT lat _ (rfl,.inl (aE.of (g3 _ _ eatb)),by lia,?_))))
   try dsimp only[aZ,bz]
   rw[lS];have mh:=fm (a:=d41.fdiv 6) (n:=101) 72
   generalize (d41.fdiv 6).fmod 101=x at mh⊢;refine (b9 a ns 42 (rfl,g3.seq hS,by decide,λd42=>(aT lat _ (rfl,.inl (aE.of (g3 _ _ eatb)),by lia,?_))))
   try dsimp only[aZ,bz]
   rw[lS];have mt:=fm (a:=d42) (n:=101) 72
   generalize d42.fmod 101=y at mt⊢;have ax:=zh mh.1 mh.2;have ay:=zh mt.1 mt.2;have sx:=ss _ (getD_mem (S:=S) (i:=x.toNat) 72)
   have sy:=ss _ (getD_mem (S:=S) (i:=y.toNat) 72)
   obtain ⟨ba,ea,ra⟩:=hA0;have lba:(ba.map V.ref).length=A0.length:=by rw[F1,ra.1]
   try dsimp only[aZ,bz]
   refine (.inl (rfl,_,aE.of ea),aQ lat _ _ _ (rfl,rfl,aE.of (g3 _ _ eatb),ay,aQ lat _ _ _ (rfl,rfl,aE.of (g3 _ _ eatb),ax,by show 3<=sizeLine;decide,λt1 nt1=>(b9 la _ _ (rfl,rfl,ar nt1 _ _ _ ea,by lia,?_)))))
   have gt1:=ar nt1 (.tup [.int x,.int y,.int (kI S y-kI S x)]);have h1:=eK (gt1 _ _ ea) (ra.imp λa k q=>gt1 _ _ q) (k:= [x,y,kI S y-kI S x]) ao
   have q1:=dE (g3.trans gt1) nla (.lst (ba.map V.ref++ [.ref t1]));generalize aI (aI H3 t1 (.tup [.int x,.int y,.int (kI S y-kI S x)])) la (.lst (ba.map V.ref++ [.ref t1]))=H5 at h1 q1⊢;obtain ⟨bb,eb,rb⟩:=h1;have lbb:(bb.map V.ref).length=A0.length+1:=by rw[F1,rb.1,FP];rfl
   try dsimp only[aZ,bz]
   refine (.inl (rfl,_,aE.of eb),aQ lat _ _ _ (rfl,rfl,aE.of (q1 _ _ eatb),ax,aQ lat _ _ _ (rfl,rfl,aE.of (q1 _ _ eatb),ay,b9 a ns 42 (rfl,q1.seq hS,by decide,λe42=>(103,(by decide,by decide),(by show (10:Int)^(8:Int).toNat≠0;decide),by show 3<=sizeLine;decide,λt2 nt2=>(b9 la _ _ (rfl,rfl,ar nt2 _ _ _ eb,by lia,?_)))))))
   have m8:=fm (a:=e42.fdiv 7) (n:=(10:Int)^(8:Int).toNat) 73
   have e8:(10:Int)^(8:Int).toNat=100000000:=rfl;have gt2:=ar nt2 (.tup [.int y,.int x,.int (kI S x-kI S y+1+(e42.fdiv 7).fmod ((10:Int)^(8:Int).toNat))]);have h2:=eK (gt2 _ _ eb) (rb.imp λa k q=>gt2 _ _ q) (k:= [y,x,kI S x-kI S y+1+(e42.fdiv 7).fmod ((10:Int)^(8:Int).toNat)]) ao
   have q2:=dE (q1.trans gt2) nla (.lst (bb.map V.ref++ [.ref t2]));have dx:kI S x=S.getD x.toNat 0:=rfl;have dy:kI S y=S.getD y.toNat 0:=rfl;rw[e8] at m8;refine hN _ _ _ _ q2 h2 (by simp;lia) (λk hk=>?_) (by nofun) (λ_ tm kp=>?_)
   ·rcases FS.mp hk with hk|hk
    ·rcases FS.mp hk with hk|hk
     ·exact (okA0 k hk).1
     ·rw[FM.mp hk];exact (b9 _ _ _ (rfl,mh.1,mh.2,mt.1,mt.2,by lia,by lia))
    ·rw[FM.mp hk];exact (b9 _ _ _ (rfl,mt.1,mt.2,mh.1,mh.2,by rw[e8];lia,by rw[e8];lia))
   ·have k1:=kp (x,y,kI S y-kI S x) (FN.mpr ([x,y,kI S y-kI S x],GW _ (FY _ (FM.mpr rfl)),rfl));have k2:=kp (y,x,kI S x-kI S y+1+(e42.fdiv 7).fmod ((10:Int)^(8:Int).toNat)) (FN.mpr (_,FY _ (FM.mpr rfl),rfl));dsimp only at k1 k2;rw[e8] at k2
    lia
 clear hA0 lA0 okA0 nla;intro o10 o11 A H4 g4 hA4 lA okN okB noB;have ed4:=g4 _ _ edb;have hT4:=hTb.same g4;have hR4:=hRb.same g4;have em4:=g4 _ _ emb;have eat4:=g4 _ _ eatb;replace hS:=g4.seq hS;have nok:jL [206,(n1,m1')] T A [] (M.length:Int):=bt.net 72 (λk hk=>by
   have:=okN k hk;rw[lsp] at this;have e:((2*R.length+M.length:Nat):Int)=2*195+M.length:=by lia
   rw[e] at this;exact this) (G4 _) (λk hk=>by cases hk)
 have dnd:=nok.dnd;have lT:=bt.len;try dsimp only[aZ,bz]
 refine (aT td _ (rfl,ed4,λtd2 ntd2=>?_))
 have h1:=ar ntd2 (.dK (bv [206,(n1,m1')]));have ed2:aI H4 td2 (.dK (bv [206,(n1,m1')])) td2=some (.dK (bv [206,(n1,m1')])):=ao;generalize aI H4 td2 (.dK (bv [206,(n1,m1')]))=H5 at h1 ed2⊢;obtain ⟨vt,et,rT⟩:=hT4.same h1;refine (tl,rfl,(_,aE.of et),bO (yC iu) (λa=>An a/\H5 a≠none) (λi=>T.getD i []) (aE.of et) (by rw[rT.1];lia) (λa h=>h.2) (λi y hy H6 g6 Q' hQ=>?_) λtl2 H6 ntl2 g6 hT2=>?_)
 ·refine eG (rT.at_ hy) λws _hi=>?_
  sleep 30
  refine eG _hj λl _hk=>?_
  refine ke _hk λ_r1 _ _hl=>?_
  refine eG _hl λus _hm=>?_
  refine cP _hm λel rl'=>?_
  clear _hi _hj _hk _hl _hm;subst _r1;rw[aL hw] at hQ;have rl2:=rl'.imp λ_ _ q=>Ej q
  refine (aT l us (rfl,.inl (aE.of (g6 _ _ el)),λp np=>?_))
  have gp:=ar np (.lst us);exact hQ _ _ gp (p,rfl,.inl np,us,ao,rl2.imp λv e q=>zz (mi q (g6.trans gp)) λa h=> .inr h)
 rw[ij T [] rT.1] at hT2;have hT2':=hT2.any;obtain ⟨ba,ea,ra⟩:=hA4.same (h1.trans g6);refine (aT la _ (rfl,.inl (aE.of ea),λla2 nla2=>?_))
 have h3:=ar nla2 179;have ela2:aI H6 la2 179 la2=some (.lst (ba.map V.ref)):=ao;generalize aI H6 la2 179=H8 at h3 ela2⊢;have h8:=(h1.trans g6).trans h3;refine (aT ml _ (rfl,.inl (aE.of (h8 _ _ em4)),?_));refine λx dx nx ndx dxx=>?_
 have sm:=dR (C:=Go) nx ndx (H':=aI (aI H8 dx (.own x)) x (.ins Go dx [])) (λa o _ e=>e)
 have lMm:(M.map V.int).length=M.length:=F1 _;refine (zB x dx td2 tl2 la2 .non _ [206,(n1,m1')] T (aT A [] (rfl,ao,sm _ _ ((g6.trans h3) _ _ ed2),(hT2'.same h3).same sm,(ba,sm _ _ ela2,ra.imp λa k q=>sm _ _ (h3 _ _ q)),.inl 199,by rw[lMm];exact nok,λH9 fx N=>(rfl,?_))))
 rw[lMm] at N;have h9:=h8.trans (dR nx ndx fx);have ed9:=h9 _ _ ed4;have hT9:=hT4.same h9;have hR9:=hR4.same h9;have eat9:=h9 _ _ eat4;have hA9:=hA4.same h9;replace hS:=h9.seq hS;clear sm fx h8 h3 h1 ed2 hT2 hT2' ela2 ed4 hT4 hR4 hA4 em4 eat4 ea ra et rT nx ndx dxx g6 h9 edb hTb hRb emb eatb g4;obtain ⟨bs,er,rR⟩:=id hR9;have lr':(bs.map V.ref).length=R.length:=by rw[F1,rR.1,F1]
 refine (b9 a ns 40 (rfl,hS,by decide,λc40=>(b9 rl c40 R (rfl,hR9,r4,λr hr=>(bt.runs r hr).2.2.2.2,λt1 P1 ps1 H10 g10 hC1 cb1=>?_))))
 try dsimp only[aZ,bz]
 refine dP (λNq=>∀(t0:Addr) (P0:Pk) (ps0:List (Int×Int)) (H':Hp),aA H9 H'->jo H' t0 P0 (cU ps0)->hJ R P0 ps0->Nq [some 188,some 216,some (.int f),some (.ref td),some 237,some (.ref rl),some (.ref ml),some (.ref lat),some (.ref la),some (.bl lo),o10,o11,some (.ref x),some (.ref t0),none,none,none] H') 174 ?_
 ·refine (b9 a ns 40 (rfl,g10.seq hS,by decide,λd40=>(141,rfl,d2 (λ_=>?_) (λ_=>hN _ _ _ _ g10 hC1 cb1))))
  have er0:=g10 _ _ er;refine (rl,rfl,(_,aE.of er0),bO (eZ rX) 133 (λ_=>(none:Option Nat)) (aE.of er0) 72 112 (λk y hy H4 g4 Q' hQ=>hQ _ _ 168 rfl) λlk H15 nlk g14 hk=>?_)
  obtain ⟨vs,ek,rk'⟩:=hk;rw[lr'] at rk';rw[rk'.val] at ek;refine (by show 0<=sizeLine;decide,λlo nlo=>(by show 2<=sizeLine;decide,λt nt=>?_))
  have g15:=(g14.trans (ar nlo 85)).trans (ar nt (.tup [.ref lk,.ref lo]));exact hN t _ [] _ (g10.trans g15) (aT lk lo (ao,ar nt _ _ _ (ar nlo _ _ _ ek),([],ar nt _ _ _ ao,cX.nil))) (by rw[F1,GB],yX,G4 _,λp hp=>by cases hp)
 clear hC1 cb1 g10;intro t0 P0 ps0 H10 g10 hC cb;have pk:=cb.ok bt;have N10:=N.same g10;have o16:(cU ps0).length<=16:=by unfold cU;rw[F1];exact cb.o16
 have sle:162=2*99+(M.length:Int):=by lia
 have eN:((2*99+197).toNat:Int)=2*99+(M.length:Int):=by lia
 have NC:qX Go false H10 x t0 [206,(n1,m1')] T A [] 197 P0 (cU ps0):=(N10,hC,nok,pk);have tkk:rj (2*99+197) (b7 A T P0 (cU ps0)):=by
  rw[<-sle];exact j6 okN 72 72 (by rw[lT];exact cb.ordOk) 72
 have kdm:lo=false->cJ 154 (kI (bI R M)):=λe=>by
  obtain ⟨L,hL⟩:=zj (bI R M);exact (tX bt cb (okB e) hL "").kp
 try dsimp only[aZ,bz]
 refine dP (λNq=>∀(v:V) (H':Hp),aA H10 H'->(lo=true->v= .non)->(lo=false->∃tm ts:Int->Int,cJ 154 tm/\(∀x,0<=tm x)/\(∀i:Nat,(i:Int)<2*99+197->∃c,gf 154 (2*99+197).toNat i (tm i) c)/\cJ (cx 154) ts/\(∀x,0<=ts x)/\(∀i:Nat,(i:Int)<2*99+197->∃c,km 154 (2*99+197).toNat i (ts i) c)/\rH H' v [206,(n1,m1')] T P0 154 (2*99+197).toNat tm ts)->Nq [some 188,some 216,some (.int f),some (.ref td),some 237,some (.ref rl),some (.ref ml),some (.ref lat),some (.ref la),some (.bl lo),o10,o11,some (.ref x),some (.ref t0),some v,none,none] H') (λNn hN=>?_) ?_
 ·have keepA:∀tm,cJ 154 tm->cJ (A.map j5) tm:=λtm kp b hb=>kp b (by
   obtain ⟨k,hk,rfl⟩:=FN.mp hb;exact FN.mpr (k,GW _ (GW _ hk),rfl))
  refine (aT x t0 (rfl,fL _ T A [] _ P0 (cU ps0,(NC,cb.ordOk.pairs,by lia,tkk,by lia,by lia,λc H' g rg=>hN .non H' g (λ_=>rfl) (λe=>?_),λtm ts v H1 g1 kp nn hc kpt nnt hb ba=>hN v H1 g1 (λe=>(noB e tm (keepA tm kp)).elim) (λ_=>(aT tm ts (kp,nn,hc,kpt,nnt,hb,ba)))))))
  exact (rg.no (kdm e)).elim
 intro v H11 g11 vl vb;try dsimp only[aZ,bz]
 refine dP (λNq=>∀H',aA H11 H'->Nq [some 188,some 216,some (.int f),some (.ref td),some 237,some (.ref rl),some (.ref ml),some (.ref lat),some (.ref la),some (.bl lo),o10,o11,some (.ref x),some (.ref t0),some v,none,none] H') (λNn hN=>?_) ?_
 ·refine λtd ntd=>(by show 0<=sizeLine;decide,λtl2 ntl2=>(by show 0<=sizeLine;decide,λal2 nal2=>?_))
  have h1:=ar ntd (.dK []);have h2:=ar ntl2 85;have h3:=ar nal2 85;have ed:aI (aI (aI H11 td (.dK [])) tl2 85) al2 85 td=some (.dK (bv [])):=h3 _ _ (h2 _ _ ao);have et2:aI (aI (aI H11 td (.dK [])) tl2 85) al2 85 tl2=some (.lst []):=h3 _ _ ao;have ea2:aI (aI (aI H11 td (.dK [])) tl2 85) al2 85 al2=some (.lst []):=ao;have h4:=(h1.trans h2).trans h3;generalize aI (aI (aI H11 td (.dK [])) tl2 85) al2 85=H5 at h4 ed et2 ea2⊢;refine λy dy ny ndy dyy=>?_
  have sm:=dR (C:=Go) ny ndy (H':=aI (aI H5 dy (.own y)) y (.ins Go dy [])) (λa o _ e=>e)
  have nok0:jL [] [] [] [] 0:=(G4 _,List.nodup_nil,λp hp=>(by cases hp),G4 _,λp hp=>(by cases hp),by decide,by decide,G4 _,λp hp=>(by cases hp),G4 _,λp hp=>(by cases hp))
  refine (zB y dy td tl2 al2 .non 0 [] [] (aT [] [] (rfl,ao,sm _ _ ed,([],sm _ _ et2,A2.nil),([],sm _ _ ea2,cX.nil),.inl 199,nok0,λH6 fx N0=>(rfl,?_))))
  have k6:=h4.trans (dR ny ndy fx);refine (by show 0<=sizeLine;decide,λe1 ne1=>(by show 0<=sizeLine;decide,λe2 ne2=>(by show 2<=sizeLine;decide,λte nte=>?_)))
  have h1:=ar ne1 85;have h2:=ar ne2 85;have h3:=ar nte (.tup [.ref e1,.ref e2]);have ee1:=h3 _ _ (h2 _ _ (ao (H:=H6) (a:=e1) (o:= .lst [])));have ee2:=h3 _ _ (ao (H:=aI H6 e1 85) (a:=e2) (o:= .lst []));have ete:aI (aI (aI H6 e1 85) e2 85) te (.tup [.ref e1,.ref e2]) te=some (.tup [.ref e1,.ref e2]):=ao;have h6:=(h1.trans h2).trans h3;have k7:=k6.trans h6;refine (aT y te (rfl,fL [] [] [] [] 0 [] ([],((N0.same h6,(aT e1 e2 (ete,ee1,([],ee2,cX.nil))),nok0,?_),(G4 _,λk hk=>(by cases hk)),G4 _,(G4 _,λk hk=>(by cases hk)),by decide,by decide,λc H' g rg=>(rfl,mB.i (nF rfl (hN _ (k7.trans g)))),λtm ts v H1 g1 kp nn hc kpt nnt hb ba=>?_))))
  ·exact (rfl,λi j ws e=>by simp at e)
  ·rcases ba with ⟨rfl,_⟩|⟨_,z,_,_,_,_,_,m,_,_,_,_,_,_,_,hm,_⟩
   ·exact (rfl,mB.i (nF rfl (hN _ (k7.trans g1))))
   ·cases hm
 intro H12 g12;have k12:=(g10.trans g11).trans g12;try dsimp only[aZ,bz]
 refine Fq B (b:=lo) rfl ?_;cases lo with
 |true=>
  rw[vl rfl];exact gC (rfl,q _)
 |false=>
  refine ja ?_;refine kc (vb rfl) λtm ts _hi=>?_
  refine iz _hi λkp nn hc kpt nnt _hj=>?_
  refine cP _hj λhb ba=>?_
  have hA12:=hA9.same k12;have hT12:=hT9.same k12;have hC12:=hC.same (g11.trans g12);have ed12:=k12 _ _ ed9;have eat12:=k12 _ _ eat9;refine (fL la tl t0 A _ T (aT P0 (cU ps0) (rfl,hA12,by lia,hT12,by lia,hC12,pk,nok.ways,cb.ordOk.pairs,λdl H13 g13 hd=>?_)))
  have ed13:=g13 _ _ ed12;have eat13:=g13 _ _ eat12;have TC13:fc [206,(n1,m1')] H13 tl t0 T P0:=(hT12.same g13,(_,hC12.same g13),pk,nok.ways);have trF:∀k∈b7 A T P0 (cU ps0),∃p q g:Int,k= [p,q,g]:=λk hk=>by
   obtain ⟨p,q,g,e,_⟩:=tkk.2 k hk;exact (b9 p q g e)
  have lD:(b7 A T P0 (cU ps0)).length<=700:=by
   unfold b7 iw;rw[FP,FP,cS,F1]
   lia
  have lS:((bI R M).map V.int).length=(2*99+197).toNat:=by rw[F1];lia
  have ir:=zg eN tkk;have dok:=λp hp=>(nok.tool p hp).2
  try dsimp only[aZ,bz]
  refine (aT lat _ (rfl,.inl (aE.of eat13),?_));rw[lS];refine (zB td tl t0 dl _ T P0 154 ((2*99+197).toNat) (tm,(rfl,ed13,dnd,nok.d12,dok,TC13,by lia,kH hd trF,by rw[F1];exact lD,by lia,by lia,ir,kp,λtm' ts' r H14 g14 R1 R2 gr=>?_)))
  have k14:=(g12.trans g13).trans g14;have bg:=t8 ba gr 72 (λx hx=>n9 R1.1 R1.2.1 R1.2.2 kp nn (hc x 72)) (λx hx=>tY R2.1 R2.2.1 R2.2.2 kpt nnt (hb x 72)) dok (λp hp=>ig dnd hp) (λz m h=>iQ h) (λp hp=>rQ)
  try dsimp only[aZ,bz]
  rcases bg with ⟨rfl,rfl⟩|⟨tb',z',lf',lb',total',ev,etb',rfl⟩
  ·exact (rfl,mB.i (dT rfl (rfl,q _)))
  ·rcases ba with ⟨rfl,_⟩|⟨tb2,z,lf,lb,F2,G,total,mm,ff,kk,U,rfl,etb,hF,hG,hm,uo,fu,lF,lG,each,_⟩
   ·cases ev
   cases ev;rw[etb] at etb';cases etb';obtain ⟨str1,wk⟩:=rJ hm uo fu lF lG each;rw[eN] at str1;have etb4:=k14.trans 168 _ _ etb;refine (rfl,mB.i (dF nofun ?_));refine (aQ _ _ _ true (rfl,.tup etb4,rfl,(aT tb' _ (rfl,.inr (bT.of etb4),rfl,mB.i (C0 rfl (aQ tb' _ _ _ (rfl,rfl,bT.of etb4,rfl,total',rfl,mB.i (ja (aQ tb' _ _ _ (rfl,rfl,bT.of etb4,rfl,rfl,mB.i (C0 rfl ?_)))))))))));obtain ⟨vf,evf,rvf⟩:=hF.same k14;obtain ⟨vb,evb,rvb⟩:=hG.same k14;try dsimp only[aZ,bz]
   refine (aQ tb' _ _ _ (rfl,rfl,bT.of etb4,rfl,aQ _ _ _ true (rfl,.str _,rfl,(aQ tb' _ _ _ (rfl,rfl,bT.of etb4,rfl,aQ _ _ _ true (rfl,.lst evf,rfl,(aQ tb' _ _ _ (rfl,rfl,bT.of etb4,rfl,aQ _ _ _ true (rfl,.lst evb,rfl,mB.i (ja ?_))))))))));have lenC:∀c:List Int,c.Nodup->(∀y∈c,0<=y/\y<(((2*99+197).toNat:Nat):Int))->c.length<=700:=λc nd rg=>by
    have:=dS nd (m:=(G0 (2*99+197).toNat).map λn:Nat=>(n:Int)) λy hy=>FN.mpr (y.toNat,GE.mpr (by have:=rg y hy;lia),by have:=rg y hy;lia)
    rw[F1,GB] at this
    lia
   have each':∀(j:Nat) (c:List Int),F2[j]?=some c->c.length<=700/\c≠ []:=λj c hj=>by
    have jl:=(F4.mp hj).1;obtain ⟨c',b,e1,_,e3,_⟩:=each j _ (F0 (show j<(db U ff kk).length by lia))
    rw[hj] at e1;cases e1;exact (lenC c e3.1 e3.2.1,(pM e3).1)
   have gl:∀c∈G,c.length<=700:=λc hc=>by
    obtain ⟨j,hj⟩:=FR.mp hc;have jl:=(F4.mp hj).1;obtain ⟨c',b,_,e2,_,e4⟩:=each j _ (F0 (show j<(db U ff kk).length by lia))
    rw[hj] at e2;cases e2;exact lenC c e4.1 e4.2.1
   have fl:∀c∈F2,c.length<=700:=λc hc=>by
    obtain ⟨j,hj⟩:=FR.mp hc;exact (each' j c hj).1
   have sel24:(db U ff kk).length<=24:=by
    have nd:=(fR.mp (n6 str1)).2.2;have:=dS nd (m:=(G0 T.length).map λn:Nat=>(n:Int)) λy hy=>by
     obtain ⟨c,hc,rfl⟩:=FN.mp hy;have:=wk c hc;exact FN.mpr ((fi c).toNat,GE.mpr 72,by lia)
    rw[F1,F1,GB] at this
    lia
   have lvf:vf.length=F2.length:=rvf.1;try dsimp only[aZ,bz]
   refine (aT lat _ (rfl,.inl (aE.of (g14 _ _ eat13)),ν,aT tb' _ (rfl,bT.of etb4,(by show ¬(HT.cT 4 0 (some 1)=0/\HT.cT 4 4 none=4);decide),λrow nrow=>?_)))
   have gr:=ar nrow 170;have hcut:jA [V.int total',.str z',.ref lf',.ref lb'] (some 1) none= [.str z',.ref lf',.ref lb']:=rfl;rw[hcut];have h4:=g14.trans gr;have er':aI H14 row 170 row=some (.tup [.str z',.ref lf',.ref lb']):=ao;replace etb4:=gr _ _ etb4;replace evf:=gr _ _ evf;have hF4:=(hF.same k14).same gr;have hG4:=(hG.same k14).same gr;generalize aI H14 row 170=H15 at h4 er' etb4 evf hF4 hG4⊢;refine (zB td tl t0 dl row _ z' lf' lb' (fL _ T P0 _ F2 G (rfl,h4 _ _ ed13,TC13.same h4,by lia,dok,kH (hd.same h4) trF,by rw[F1];exact lD,er',hF4,hG4,by lia,by lia,fl,gl,λH16 g16=>?_)))
   rw[F1,sle,str1];try dsimp only[aZ,bz]
   have evf':=g16 _ _ evf;obtain ⟨vf6,evf6,rvf6⟩:=hF4.same g16;rw[evf'] at evf6;cases evf6;refine (rfl,C0 rfl ?_);try dsimp only[aZ,bz]
   refine (aQ tb' _ _ _ (rfl,rfl,bT.of (g16 _ _ etb4),rfl,lf',rfl,(_,aE.of evf'),bO (eZ V.bl) 133 (λ_=>true) (aE.of evf') 72 112 130 λlw H17 nlw g17 hw=>?_))
   ·obtain ⟨c,hc,hch⟩:=rvf6.at_ hy;obtain ⟨cf,rfl,_,ecf⟩:=nW hch;obtain ⟨w0,w1,w2⟩:=wk c (F5 hc);exact (ν,aQ cf _ _ _ (rfl,rfl,aE.of (gk _ _ ecf),(vm (each' k c hc).2),103,aQ tb' _ _ _ (rfl,rfl,bT.of ((g16.trans gk) _ _ etb4),rfl,fL tl t0 ((fi c).toNat) z' _ T (P0,(by rw[show (((fi c).toNat:Nat):Int)=fi c by lia];rfl,TC13.same ((h4.trans g16).trans gk),by lia,λH5 g5=>(hQ _ _ g5 (by show V.bl _=V.bl true;rw[decide_eq_true (show aV T P0 (fi c).toNat z'>0 by lia)])))))))
   obtain ⟨ww,ew,rw'⟩:=hw;rw[rw'.val] at ew;refine (aT lw _ (rfl,aE.of ew,?_));have:((G0 vf.length).map λ_=>true).all id=true:=GC.mpr λb hb=>by
    obtain ⟨_,_,rfl⟩:=FN.mp hb
    rfl
   rw[this];exact q _
end
theorem Cq {l:PySem.W.OpenLaw} {w:World} {K:F6} {h:Heap} {mg:IJ} {fa e1 e2 e3 e4 e5 e6 e7 e8 e9 b5 bB bF bG bI bJ cb cc cd ce cf ch ci cj ck cl cm co cp cs ct cv cw c0 c1 c2 c3 c4 c6 c7 c9 cC cF cR cV cW dc dd de dg di bi Go Ik:Addr} (X:K.In h) (G:h.Ns mainGlobals mg) (hfa:mg "law" =some (.ref fa))
  {b2 bd:IQ} {b3:IL} {b4 be bf bg aF bh:Value}
  {a8:Tok}
  {ia:Tok}
  {ag:Tok}
  {ah:Tok}
  {ad:Tok}
  {ay:Tok}
  {sn:Tok}
  {a0:Tok}
  {ai:Tok}
  {a5:Tok}
  {ez:Addr} {dl:Value} {dm:IQ} {dn:Nat} {dp:IL} {bj:Tok}
  (eA:cr K e1 "is_name" EZ .none)
  (eB:cr K e2 "points_of" E1 .none)
  (eD:cr K e3 "copy_of_task" E2 .none)
  (eH:cr K e4 "refuse_wrong_tools" E3 .none)
  (eL:cr K e5 "refuse_wrong_uses" E4 .none)
  (eM:cr K e6 "refuse_wrong_tasks" E5 .none)
  (eN:cr K e7 "refuse_wrong_arcs" E6 .none)
  (eO:cr K e8 "refuse_wrong_pairs" E7 .none)
  (eP:cr K e9 "use_in" E9 .none)
  (dq:cr K b5 "many_in" BJ .none)
  (dr:cr K bB "open_ways" BK .none)
  (dx:cr K bF "work_of" BL .none)
  (dy:cr K bG "arcs_of" BM .none)
  (dz:cr K bI "raise_times" BN .none)
  (d0:cr K bJ "chain_to" BO .none)
  (d1:cr K cb "ring_behind" BP .none)
  (d3:cr K cc "earliest_times" BQ .none)
  (d4:cr K cd "tail_chains" BR .none)
  (d5:cr K ce "turns_for" BS .none)
  (d6:cr K cf "users_of" BU .none)
  (d7:cr K ch "fullest_of" BV .none)
  (d8:cr K ci "best_stretch" BW .none)
  (dC:cr K cj "_law_cell_at" BX .none)
  (dI:cr K ck "_law_whole" BY .none)
  (dJ:cr K cl "_law_mixed" BZ .none)
  (dK:cr K cm "_law_meet" B0 .none)
  (dS:cr K co "_law_names" B1 .none)
  (dU:cr K cp "_law_runs" B3 .none)
  (dV:cr K cs "_law_heats" B4 .none)
  (ea:cr K ct "_law_uses" B5 .none)
  (eb:cr K cv "_law_task" B6 .none)
  (ec:cr K cw "_law_used" B7 .none)
  (ed:cr K c0 "_law_tools" B8 .none)
  (ee:cr K c1 "_law_arcs" B9 .none)
  (ef:cr K c2 "_law_case" Ca .none)
  (eg:cr K c3 "_law_built" Cb .none)
  (eh:cr K c4 "_law_points" Cc .none)
  (ei:cr K c6 "_law_lag" Cd .none)
  (ej:cr K c7 "_law_total" Ce .none)
  (ek:cr K c9 "_law_open" Cf .none)
  (el:cr K cC "_law_due" Cg .none)
  (em:cr K cF "_law_many" Ch .none)
  (en:cr K cR "_law_work" Ci .none)
  (eo:cr K cV "_law_least" Cj .none)
  (ep:cr K cW "_law_some" Ck .none)
  (eq:cr K dc "_law_stretch" Cl .none)
  (er:cr K dd "_law_rounds" Cm .none)
  (es:cr K de "_law_sets" Cn .none)
  (et:cr K dg "_law_greatest" Co .none)
  (eu:cr K di "_law_many_tasks" Cp .none)
  (ev:GH K mainGlobals "law" =some (some (.ref bi)))
  (ew:K.lookup bi=some ⟨b4,b2,.func (HL "law" "law" (fo pP) (dZ pP) (aB pP) .none be bf bg bd aF bh),b3⟩) (ex:PySem.W.codeIn K aF "law" =true) (ey:HX K (.ref bi)=true)
  (a9:GH K mainGlobals "LETTERS" =some (some (.str "abcdefghijklmnopqrstuvwxyz" a8)))
  (tx:GH K mainGlobals "MOST_LETTERS" =some (some (.int 12 ia)))
  (aj:GH K mainGlobals "MOST_TASKS" =some (some (.int 24 ag)))
  (al:GH K mainGlobals "MOST_TOOLS" =some (some (.int 12 ah)))
  (ae:GH K mainGlobals "MOST_PIECES" =some (some (.int 8 ad)))
  (a1:GH K mainGlobals "MOST_WAYS" =some (some (.int 2 ay)))
  (ab:GH K mainGlobals "MOST_MOMENTS" =some (some (.int 8 sn)))
  (a2:GH K mainGlobals "MOST_ARCS" =some (some (.int 600 a0)))
  (am:GH K mainGlobals "MOST_APART" =some (some (.int 300 ai)))
  (a6:GH K mainGlobals "GREATEST" =some (some (.int 1000000000 a5)))
  (bk:GH K mainGlobals "abs" =some none)
  (bl:GH K mainGlobals "all" =some none)
  (aW:GH K mainGlobals "bool" =some none)
  (aX:GH K mainGlobals "dict" =some none)
  (a3:GH K mainGlobals "enumerate" =some none)
  (bm:GH K mainGlobals "int" =some none)
  (an:GH K mainGlobals "isinstance" =some none)
  (bo:GH K mainGlobals "len" =some none)
  (ba:GH K mainGlobals "list" =some none)
  (br:GH K mainGlobals "max" =some none)
  (bs:GH K mainGlobals "min" =some none)
  (aM:GH K mainGlobals "range" =some none)
  (a7:GH K mainGlobals "reversed" =some none)
  (bt:GH K mainGlobals "set" =some none)
  (aD:GH K mainGlobals "sorted" =some none)
  (bz:GH K mainGlobals "str" =some none)
  (b0:GH K mainGlobals "sum" =some none)
  (aS:GH K mainGlobals "tuple" =some none)
  (b1:GH K mainGlobals "Net" =some (some (.ref Go)))
  (atZ8:HQ K (.ref Go) "__init__" =some (some (.ref Ik)))
  (eS:FnAt K Ik "__init__" "Net.__init__" Ek (.ref ez))
  (e0:K.lookup ez=some ⟨dl,dm,.seq #[.none,.int 0 bj] dn,dp⟩)
  (bb:zI K Go)
  (bc:Mk K Go Ik)
  (ap:cH K Go "tools")
  (aq:cH K Go "tasks")
  (a4:cH K Go "arcs")
  (ax:cH K Go "apart")
  (ac:cH K Go "moments")
  :∃fd:FuncData,(∀(s:Shared) (v:Value),BindsTo s fd ⟨[v],[]⟩ [("_law_script",v)])/\∀base:Heap,K.In base->base.Ns mainGlobals mg->bS l.prog w K mg base bM 8 fa fd ["_law_script"] (uA K):=by
 have e:=hfa.symm.trans (Gh X G ev);cases e;have B:Bn K mg Go Ik:=⟨Exists.intro _<|Gh X G a9,Exists.intro _<|Gh X G tx,Exists.intro _<|Gh X G aj,Exists.intro _<|Gh X G al,Exists.intro _<|Gh X G ae,Exists.intro _<|Gh X G a1,Exists.intro _<|Gh X G ab,Exists.intro _<|Gh X G a2,Exists.intro _<|Gh X G am,Exists.intro _<|Gh X G a6,GI X G bk,GI X G bl,GI X G aW,GI X G aX,GI X G a3,GI X G bm,GI X G an,GI X G bo,GI X G ba,GI X G br,GI X G bs,GI X G aM,GI X G a7,GI X G bt,GI X G aD,GI X G bz,GI X G b0,GI X G aS,Gh X G b1,bb,bc,ap,aq,a4,ax,ac⟩;refine BI eS λ_ _ _ _ _ _ _ _ _ _hi=>?_
 refine ke _hi λlZ8 cZ8 kZ8=>?_
 have FZ8:=oH (st:=Ek) lZ8 cZ8 kZ8;have Flaw:=oH (st:=pP) ew ex ey;refine (HL "law" "law" (fo pP) (dZ pP) (aB pP) .none be bf bg bd aF bh,?bind,λbase _ _=>?ok)
 case bind=>exact λs v=> .of_eq rfl
 case ok=>
  have z9:Bx l.prog w base:=⟨⟩;have DZ0:=fj z9 X G eA 175 λF=>Fa B F
  have DZ1:=fj z9 X G eB 175 λF=>Fb B F
  have DZ2:=fj z9 X G eD 175 λF=>Fc B F
  have DZ3:=fj z9 X G eH 175 λF=>Fd B F DZ0
  have DZ4:=fj z9 X G eL 86 λF=>Fe B F
  have DZ5:=fj z9 X G eM 86 λF=>Ff B F DZ4
  have DZ6:=fj z9 X G eN 86 λF=>Fg B F
  have DZ7:=fj z9 X G eO 86 λF=>Fh B F
  have DZ8:Da l.prog w K mg base bM 3 Ik ["self","tools","tasks","arcs","apart","moments"] [.non,.int 0] (oX Go):=⟨_,Fi B FZ8 DZ1 DZ2 DZ3 DZ5 DZ6 DZ7,FZ8.binds (ps:= ["self","tools","tasks","arcs","apart","moments"]) (ds:= []) e0 rfl λ_ _ _ _ _ _ us hl=>match us,hl with| [_,_,_,_,_,_],_=>⟨_,rfl,rfl⟩,⟨[.none,.int 0 bj],FZ8.binds (ps:= ["self","tools","tasks","arcs","apart","moments"]) (ds:= [.none,.int 0 bj]) e0 rfl λ_ _ _ _ _ _ us hl=>match us,hl with| [_,_,_,_],_=>⟨_,rfl,rfl⟩| [],h=>absurd h (by simp)| [_],h=>absurd h (by simp)| [_,_],h=>absurd h (by simp)| [_,_,_],h=>absurd h (by simp)|_::_::_::_::_::_,h=>absurd h (by simp),.cons rfl (.cons ⟨_,rfl⟩ .nil)⟩⟩
  have DZ9:=fj z9 X G eP 86 λF=>Fj B F
  have DZ10:=fj z9 X G dq 86 λF=>Dq B F DZ9
  have DZ11:=fj z9 X G dr 110 λF=>Dr B F DZ2
  have DZ12:=fj z9 X G dx 169 λF=>Ds B F DZ10 DZ11
  have DZ13:=fj z9 X G dy 86 λF=>Dt B F DZ11
  have DZ14:=fj z9 X G dz 110 λF=>Du B F
  have DZ15:=fj z9 X G d0 86 λF=>Dv B F
  have DZ16:=fj z9 X G d1 86 λF=>Dw B F
  have DZ17:=fj z9 X G d3 86 λF=>Dy B F DZ14 DZ15 DZ16
  have DZ18:=fj z9 X G d4 86 λF=>Dz B F DZ17
  have DZ19:=fj z9 X G d5 86 λF=>DA B F
  have DZ20:=fj z9 X G d6 110 λF=>DB B F
  have DZ21:=fj z9 X G d7 86 λF=>DC B F DZ19
  have DZ22:=fj z9 X G d8 86 λF=>DD B F DZ1 DZ12 DZ13 DZ17 DZ18 DZ20 DZ21
  have DZ23:=fj z9 X G dC 86 λF=>DE B F
  have DZ24:=fj z9 X G dI 175 λF=>DF B F
  have DZ25:=fj z9 X G dJ 86 λF=>DG B F
  have DZ26:=fj z9 X G dK 86 λF=>DH B F
  have DZ27:=fj z9 X G dS 175 λF=>DI B F DZ25
  have DZ28:=fj z9 X G dU 169 λF=>DJ B F DZ23
  have DZ29:=fj z9 X G dV 110 λF=>DK B F DZ26
  have DZ30:=fj z9 X G ea 110 λF=>DL B F
  have DZ31:=fj z9 X G eb (λ_ _ _ _ _ _=>yt λ_ _ _ _ _=>rfl) λF=>DM B F DZ30
  have DZ32:=fj z9 X G ec 169 λF=>DN B F
  have DZ33:=fj z9 X G ed 169 λF=>DO B F DZ32
  have DZ34:=fj z9 X G ee 110 λF=>DP B F
  have DZ35:=fj z9 X G ef 86 λF=>DQ B F DZ25
  have DZ36:=fj z9 X G eg 169 λF=>DR B F DZ23 DZ27 DZ28 DZ29 DZ31 DZ33
  have DZ37:=fj z9 X G eh 86 λF=>DS B F
  have DZ38:=fj z9 X G ei 110 λF=>DT B F
  have DZ39:=fj z9 X G ej 86 λF=>DU B F DZ38
  have DZ40:=fj z9 X G ek 110 λF=>DV B F
  have DZ41:=fj z9 X G el 110 λF=>DW B F DZ40
  have DZ42:=fj z9 X G em 86 λF=>DX B F
  have DZ43:=fj z9 X G en 169 λF=>DY B F DZ40 DZ42
  have DZ44:=fj z9 X G eo 110 λF=>DZ B F DZ39
  have DZ45:=fj z9 X G ep 110 λF=>D0 B F
  have DZ46:=fj z9 X G eq (λ_ _ _ _ _ _=>BG λ_ _ _ _ _ _=>rfl) λF=>D3 B F DZ43 DZ44 DZ45
  have DZ47:=fj z9 X G er 86 λF=>D4 B F
  have DZ48:=fj z9 X G es 110 λF=>D5 B F DZ43
  have DZ49:=fj z9 X G et (λ_ _ _ _ _ _=>yt λ_ _ _ _ _=>rfl) λF=>D6 B F DZ43 DZ47 DZ48
  have DZ50:=fj z9 X G eu 175 λF=>D7 B F DZ8 DZ22 DZ23 DZ25 DZ27 DZ30 DZ41 DZ43 DZ46
  exact D8 B Flaw DZ8 DZ22 DZ23 DZ24 DZ34 DZ35 DZ36 DZ37 DZ41 DZ43 DZ46 DZ49 DZ50
theorem walk {l:PySem.W.OpenLaw} {q:Program} {loose:IM} {XP:IJ->Heap->Prop} {YP:World->Heap->Prop} {d:DefRec} {K:Params->F6} (hn:l.most=some 63) (hdf:d.params.defaults= [])
  (hY:∀(w:World) (h:Heap),YP w h->(K w.params).In h)
  (F:∀(w:World) (mg:IJ) (fa:Addr) (h:Heap),(K w.params).In h->h.Ns mainGlobals mg->mg d.name=some (.ref fa)->
   ∃fd:FuncData,(∀(s:Shared) (u:Value),BindsTo s fd ⟨[u],[]⟩ [("_law_script",u)])/\∀base:Heap,(K w.params).In base->base.Ns mainGlobals mg->bS l.prog w (K w.params) mg base bM 8 fa fd ["_law_script"] (uA (K w.params))):
  PySem.W.WalkO q loose XP YP l.row.toRowW d [] (λf vs=>PySem.call f vs):=
 L2.zV (n:=63) (k:=8) (x:= "_law_script") (CX:=λ_=>bM) (sp:=λw=>uA (K w.params)) hn 73 hdf ⟨rfl,by decide,by decide⟩ hY F (λ_ _ a ns hl _ hS=>(aT a ns ⟨rfl,hS,hl,λ_=>rfl⟩)) λ_ _ _ _ _ z=>z
end Lk69
open PySem PySem.W PyProof.Rows
set_option maxRecDepth 100000 in
set_option maxHeartbeats 0 in
theorem PySem.Challenge.cw_stovework_k69_best_of_all_sets_holds : PySem.Challenge.rw_stovework_k69_best_of_all_sets.Holds := by
 refine Lk69.hd ?_
 k_fill
 refine Lk69.walk (l:=PySem.Challenge.rw_stovework_k69_best_of_all_sets) rfl rfl (λw h Y=>PySem.W.kIn_of Y) ?F
 case F=>
  intro w mg fa h KX G hmg
  refine' Lk69.Cq KX G hmg ?h0 ?h1 ?h2 ?h3 ?h4 ?h5 ?h6 ?h7 ?h8 ?h9 ?h10 ?h11 ?h12 ?h13 ?h14 ?h15 ?h16 ?h17 ?h18 ?h19 ?h20 ?h21 ?h22 ?h23 ?h24 ?h25 ?h26 ?h27 ?h28 ?h29 ?h30 ?h31 ?h32 ?h33 ?h35 ?h36 ?h37 ?h38 ?h39 ?h40 ?h41 ?h42 ?h43 ?h44 ?h45 ?h46 ?h47 ?h48 ?h49 ?h50 ?h51 ?h52 ?h53 ?h54 ?h55 ?h56 ?h57 ?h58 ?h59 ?h60 ?h61 ?h62 ?h63 ?h64 ?h65 ?h66 ?h67 ?h68 ?h69 ?h70 ?h71 ?h72 ?h73 ?h74 ?h75 ?h76 ?h77 ?h78 ?h79 ?h80 ?h81 ?h82 ?h83 ?h84 ?h85 ?h86 ?h87 ?h88 ?h89 ?h90 ?h91 ?h92 ?h93
  (case h0=>exact ⟨by k_is,_,_,_,_,_,_,_,_,_,by k_is,by k_is,by k_is⟩)
  (case h1=>exact ⟨by k_is,_,_,_,_,_,_,_,_,_,by k_is,by k_is,by k_is⟩)
  (case h2=>exact ⟨by k_is,_,_,_,_,_,_,_,_,_,by k_is,by k_is,by k_is⟩)
  (case h3=>exact ⟨by k_is,_,_,_,_,_,_,_,_,_,by k_is,by k_is,by k_is⟩)
  (case h4=>exact ⟨by k_is,_,_,_,_,_,_,_,_,_,by k_is,by k_is,by k_is⟩)
  (case h5=>exact ⟨by k_is,_,_,_,_,_,_,_,_,_,by k_is,by k_is,by k_is⟩)
  (case h6=>exact ⟨by k_is,_,_,_,_,_,_,_,_,_,by k_is,by k_is,by k_is⟩)
  (case h7=>exact ⟨by k_is,_,_,_,_,_,_,_,_,_,by k_is,by k_is,by k_is⟩)
  (case h8=>exact ⟨by k_is,_,_,_,_,_,_,_,_,_,by k_is,by k_is,by k_is⟩)
  (case h9=>exact ⟨by k_is,_,_,_,_,_,_,_,_,_,by k_is,by k_is,by k_is⟩)
  (case h10=>exact ⟨by k_is,_,_,_,_,_,_,_,_,_,by k_is,by k_is,by k_is⟩)
  (case h11=>exact ⟨by k_is,_,_,_,_,_,_,_,_,_,by k_is,by k_is,by k_is⟩)
  (case h12=>exact ⟨by k_is,_,_,_,_,_,_,_,_,_,by k_is,by k_is,by k_is⟩)
  (case h13=>exact ⟨by k_is,_,_,_,_,_,_,_,_,_,by k_is,by k_is,by k_is⟩)
  (case h14=>exact ⟨by k_is,_,_,_,_,_,_,_,_,_,by k_is,by k_is,by k_is⟩)
  (case h15=>exact ⟨by k_is,_,_,_,_,_,_,_,_,_,by k_is,by k_is,by k_is⟩)
  (case h16=>exact ⟨by k_is,_,_,_,_,_,_,_,_,_,by k_is,by k_is,by k_is⟩)
  (case h17=>exact ⟨by k_is,_,_,_,_,_,_,_,_,_,by k_is,by k_is,by k_is⟩)
  (case h18=>exact ⟨by k_is,_,_,_,_,_,_,_,_,_,by k_is,by k_is,by k_is⟩)
  (case h19=>exact ⟨by k_is,_,_,_,_,_,_,_,_,_,by k_is,by k_is,by k_is⟩)
  (case h20=>exact ⟨by k_is,_,_,_,_,_,_,_,_,_,by k_is,by k_is,by k_is⟩)
  (case h21=>exact ⟨by k_is,_,_,_,_,_,_,_,_,_,by k_is,by k_is,by k_is⟩)
  (case h22=>exact ⟨by k_is,_,_,_,_,_,_,_,_,_,by k_is,by k_is,by k_is⟩)
  (case h23=>exact ⟨by k_is,_,_,_,_,_,_,_,_,_,by k_is,by k_is,by k_is⟩)
  (case h24=>exact ⟨by k_is,_,_,_,_,_,_,_,_,_,by k_is,by k_is,by k_is⟩)
  (case h25=>exact ⟨by k_is,_,_,_,_,_,_,_,_,_,by k_is,by k_is,by k_is⟩)
  (case h26=>exact ⟨by k_is,_,_,_,_,_,_,_,_,_,by k_is,by k_is,by k_is⟩)
  (case h27=>exact ⟨by k_is,_,_,_,_,_,_,_,_,_,by k_is,by k_is,by k_is⟩)
  (case h28=>exact ⟨by k_is,_,_,_,_,_,_,_,_,_,by k_is,by k_is,by k_is⟩)
  (case h29=>exact ⟨by k_is,_,_,_,_,_,_,_,_,_,by k_is,by k_is,by k_is⟩)
  (case h30=>exact ⟨by k_is,_,_,_,_,_,_,_,_,_,by k_is,by k_is,by k_is⟩)
  (case h31=>exact ⟨by k_is,_,_,_,_,_,_,_,_,_,by k_is,by k_is,by k_is⟩)
  (case h32=>exact ⟨by k_is,_,_,_,_,_,_,_,_,_,by k_is,by k_is,by k_is⟩)
  (case h33=>exact ⟨by k_is,_,_,_,_,_,_,_,_,_,by k_is,by k_is,by k_is⟩)
  (case h35=>exact ⟨by k_is,_,_,_,_,_,_,_,_,_,by k_is,by k_is,by k_is⟩)
  (case h36=>exact ⟨by k_is,_,_,_,_,_,_,_,_,_,by k_is,by k_is,by k_is⟩)
  (case h37=>exact ⟨by k_is,_,_,_,_,_,_,_,_,_,by k_is,by k_is,by k_is⟩)
  (case h38=>exact ⟨by k_is,_,_,_,_,_,_,_,_,_,by k_is,by k_is,by k_is⟩)
  (case h39=>exact ⟨by k_is,_,_,_,_,_,_,_,_,_,by k_is,by k_is,by k_is⟩)
  (case h40=>exact ⟨by k_is,_,_,_,_,_,_,_,_,_,by k_is,by k_is,by k_is⟩)
  (case h41=>exact ⟨by k_is,_,_,_,_,_,_,_,_,_,by k_is,by k_is,by k_is⟩)
  (case h42=>exact ⟨by k_is,_,_,_,_,_,_,_,_,_,by k_is,by k_is,by k_is⟩)
  (case h43=>exact ⟨by k_is,_,_,_,_,_,_,_,_,_,by k_is,by k_is,by k_is⟩)
  (case h44=>exact ⟨by k_is,_,_,_,_,_,_,_,_,_,by k_is,by k_is,by k_is⟩)
  (case h45=>exact ⟨by k_is,_,_,_,_,_,_,_,_,_,by k_is,by k_is,by k_is⟩)
  (case h46=>exact ⟨by k_is,_,_,_,_,_,_,_,_,_,by k_is,by k_is,by k_is⟩)
  (case h47=>exact ⟨by k_is,_,_,_,_,_,_,_,_,_,by k_is,by k_is,by k_is⟩)
  (case h48=>exact ⟨by k_is,_,_,_,_,_,_,_,_,_,by k_is,by k_is,by k_is⟩)
  (case h49=>exact ⟨by k_is,_,_,_,_,_,_,_,_,_,by k_is,by k_is,by k_is⟩)
  (case h50=>exact ⟨by k_is,_,_,_,_,_,_,_,_,_,by k_is,by k_is,by k_is⟩)
  case h51|h52|h53|h54|h55|h56|h57|h58|h59|h60|h61|h62|h63|h64|h65|h66|h67|h68|h69|h70|h71|h72|h73|h74|h75|h76|h77|h78|h79|h80|h81|h82|h83|h84=>k_is
  (case h85=>exact ⟨_,_,_,_,_,_,_,_,_,by k_is,by k_is,by k_is⟩)
  (case h86=>k_is)
  (case h87=>exact ⟨by k_is,by k_is,by k_is,by k_is⟩)
  (case h88=>exact ⟨by k_is,by k_is,by k_is,by k_is⟩)
  (case h89=>unfold L2.cH;k_is)
  (case h90=>unfold L2.cH;k_is)
  (case h91=>unfold L2.cH;k_is)
  (case h92=>unfold L2.cH;k_is)
  (case h93=>unfold L2.cH;k_is)
