import PyProof.Rows.All
import Wide.All
import OpenK.AllK
import Wide.FinOn
import Lean
import PyProof.EqAt
import PyProof.EqKinds
import PyProof.TupleCall
import PyProof.NeKinds
import PyProof.StationsW
import PyProof.RulesAs
import PyProof.ExcArgsOwn
import PyProof.CompFree
import PyProof.ExcInit
import PyProof.ConsumeWalk
import PyProof.Rows.SeqGen
import PyProof.StrWalks
import PyProof.SliceStr2
import PyProof.MeetsStr
import KE.KIntText
import PyProof.Rows.FStr
import PyProof.StrCalls6
import PyProof.StrBlockL
import PyProof.ToksMono
import PyProof.WalkInts
import PyProof.Rows.MinMaxN
import PyProof.StrLawsReplace
import PyProof.StrLawsTight
import PyProof.Rows.StrLawsPart
import PyProof.DictWalks
import KE.KEqDict
import KE.KDictLaws
import KE.KRevIter
import PyProof.ListCopy
import PyProof.CollectIter
import PyProof.Rows.SetFrom
import PyProof.Rows.SortShellK
import PyProof.Rows.SortStr
import PyProof.Rows.SortWalk
import KE.KDictSum
import KE.KSortTup
import PyProof.TupleOfSeq
import PyProof.Rows.SortRuns
import PyProof.FactsAll.tuple_2
import PyProof.WalksEnum
import PyProof.EnumMake
import PyProof.EnumFor
import PyProof.ZipIter
import KE.KDictOf
import PyProof.DictItems
import PyProof.FactsAll.dict_itemiterator_1
import PyProof.Rows.StrMul
import KE.KDictList
import PyProof.Rows.SumAny
import KE.KIsAll
import PyProof.StrLaws
import PyProof.FactsAll.list_3
import KE.KUnpack
import PyProof.Rows.CallKwBuiltin
import PySem.Challenge.RW_stovework_k36_rows_refused
set_option maxHeartbeats 4000000
noncomputable section
abbrev O2:=PySem.Value->PySem.Shared->Prop
abbrev O3:=PySem.Str->Option PySem.Value
abbrev O4:=List (PySem.Addr×PySem.Obj)
abbrev O5:=Array (Option PySem.Value)
abbrev O6:=List PySem.Str
abbrev O7:=List PySem.Addr
abbrev O8:=List PySem.Value
abbrev O9:=Option PySem.Addr
abbrev Pa:=Option PySem.Value
open Array renaming getElem?_eq_some_iff → Lp, length_toList → Lx
open Bool renaming false_ne_true → KM, and_eq_true → KQ, or_eq_true → LK
open Int renaming fmod_nonneg_of_pos → KN, fmod_eq_emod_of_nonneg → KW, fmod_lt_of_pos → Ko, fdiv_eq_ediv_of_nonneg → LS, natCast_mul → LU, toNat_of_nonneg → Li, mul_ediv_cancel_left → Ly
open List renaming mem_cons → K1, getElem?_eq_getElem → K3, not_mem_nil → K5, length_map → K6, mem_of_getElem? → K7, mem_singleton → K8, mem_cons_of_mem → K9, getElem?_map → KA, getElem?_eq_some_iff → KB, mem_append → KD, length_cons → KE, mem_append_right → KF, mem_map → KH, length_append → KL, size_toArray → KR, all_eq_true → KY, mem_cons_self → Kd, append_nil → Ke, mem_iff_getElem? → Kh, nodup_cons → Kk, map_cons → Kl, map_append → Km, length_take → Kw, length_drop → L0, append_assoc → L7, findIdx?_eq_some_iff_getElem → LB, range → LD, getElem?_append_left → LG, nodup_append → LH, mem_flatten → LL, mem_append_left → LM, getD_eq_getElem?_getD → LQ, flatMap_cons → LY, filterMap_cons → La, getElem_mem → Lc, getElem?_set → Le, flatMap_append → Lf, mem_range → Lg, cons_append → Lh, lookup → Lm, take_of_length_le → Ln, take_append_drop → Lo, mem_of_mem_drop → Lq, getElem?_append_right → Lr, map_map → Ls, lookup_cons → Lu
open Nat renaming le_refl → K4, le_trans → KC, lt_of_lt_of_le → KJ, ne_of_lt → Kf, lt_trans → Kg, lt_of_le_of_lt → LA, zero_le → LF, mul_le_mul → LR, gcd → LW, ne_of_gt → LX, mod_lt → LZ, succ_le_succ → Lj, le_add_right → Lw
open Option renaming map_eq_some_iff → KZ, bind_eq_some_iff → Ky, isSome_iff_exists → LI
open Option.some renaming inj → KI
open PyProof renaming noPylong_small → Kj
open PyProof.Rows renaming callWith_type1 → LJ
open PySem renaming mem_of_lookup → LP
open PySem.F renaming plainAttrs_list → KO, type_list_append → KS, slot_list_append → KU, plainAttrs_str → Kz, type_str_split → Lk, slot_str_split → Ll
open PySem.W renaming Frag → K0, kitOne → K2, nsIn → KG, mg_of → KP, findIn → Kc, emptyDict → Ki, keepIn → Kn, fnOf → Kx, mg_none_of → L8, kia_one → L9, subIn → LC, codeIn → LO, callWith_K → Lb, instObj → Ld, excIn → Lv
open PySem.W.Fast renaming te14364793385576792824 → Kq, te14289696077712309145 → Kr, te11892475500146522536 → Ks, te10274390034422433532 → Kt, te10156331382660048174 → Ku, te6613529449190102663 → Kv
namespace Ht
open PySem PySem.W PyProof.Rows
noncomputable def sM (ok:Thread->Bool) (st:SharedT->Thread->Option (SharedT×Thread)) (n:Nat):SharedT->Thread->Option SharedT:=
 Nat.rec (motive:=fun _=>SharedT->Thread->Option SharedT) (fun _ _=>none) (fun _ ih s t=>
  Bool.rec (motive:=fun _=>Option SharedT)
   (Bool.rec (motive:=fun _=>Option SharedT) none (Option.rec (motive:=fun _=>Option SharedT) none (fun r=>Prod.rec (motive:=fun _=>Option SharedT) (fun s' t'=>ih s' t') r) (st s t)) (ok t))
   (some s) (through t)) n
theorem uC {tb:String->Option Builtin} {p:Program} {w:World} {m:Nat} {ann:Pa}:∀{n:Nat} {s s':SharedT} {t:Thread},sM (stepOk m ann) (stepT (denote tb) p w) n s t=some s'->topRun tb p w m ann n s.abs t=some s'.abs
 |0,_,_,_,h=>by cases h
 |n+1,s,s',t,h=>by
  unfold topRun;have h':Bool.rec (motive:=fun _=>Option SharedT)
   (Bool.rec (motive:=fun _=>Option SharedT) none (Option.rec (motive:=fun _=>Option SharedT) none (fun r=>Prod.rec (motive:=fun _=>Option SharedT) (fun s' t'=>sM (stepOk m ann) (stepT (denote tb) p w) n s' t') r) (stepT (denote tb) p w s t)) (stepOk m ann t))
   (some s) (through t)=some s':=h
  cases ht:through t with
  |true=>rw[ht] at h';cases h';rfl
  |false=>
   rw[ht] at h';cases hk:stepOk m ann t with
   |false=>rw[hk] at h';cases h'
   |true=>
    rw[hk] at h';cases hs:stepT (denote tb) p w s t with
    |none=>rw[hs] at h';cases h'
    |some r=>
     obtain ⟨s₂,t₂⟩:=r;rw[hs] at h';dsimp only;rw[stepT_spec hs];exact uC h'
noncomputable def grow (l:List Obj):Nat->BT->Option BT:=
 List.rec (motive:=fun _=>Nat->BT->Option BT) (fun _ t=>some t) (fun o _ ih n t=>
  Bool.rec (motive:=fun _=>Option BT) none (ih (n+1) (t.ins n o)) ((t.ins n o).get n).isSome) l
theorem uD {life:Life}:∀{l:List Obj} {n:Nat} {t t':BT},grow l n t=some t'->absHeap t' (n+l.length) life=⟨(absHeap t n life).objs++l.toArray,life⟩
 | [],n,t,t',h=>by
  cases h;simp[absHeap]
 |o::l,n,t,t',h=>by
  have h':Bool.rec (motive:=fun _=>Option BT) none (grow l (n+1) (t.ins n o)) ((t.ins n o).get n).isSome=some t':=h
  cases e:((t.ins n o).get n).isSome with
  |false=>rw[e] at h';cases h'
  |true=>
   rw[e] at h';have z:=uD (life:=life) h';rw[absHeap_ins e] at z;rw[show n+(o::l).length=n+1+l.length by rw[KE];lia,z]
   simp[Heap.push]
noncomputable def treeOf (s:Shared):Option SharedT:=
 Option.rec (motive:=fun _=>Option SharedT) none (fun t=>some ⟨t,s.heap.objs.size,s.heap.life,s.gens,s.drawn,s.toks,s.os⟩) (grow s.heap.objs.toList 0 .nil)
theorem sN {s:Shared} {s':SharedT} (h:treeOf s=some s'):s'.abs=s:=by
 have h':Option.rec (motive:=fun _=>Option SharedT) none (fun t=>some ⟨t,s.heap.objs.size,s.heap.life,s.gens,s.drawn,s.toks,s.os⟩) (grow s.heap.objs.toList 0 .nil)=some s':=h
 cases e:grow s.heap.objs.toList 0 .nil with
 |none=>rw[e] at h';cases h'
 |some t=>
  rw[e] at h';cases h';have z:=uD (life:=s.heap.life) e;obtain ⟨⟨objs,life⟩,gens,drawn,toks,os⟩:=s;simp only[SharedT.abs];have z':absHeap t objs.size life=⟨objs,life⟩:=by
   simpa [absHeap,BT.list] using z
  rw[z']
noncomputable def xH (ok:Nat->Pa->Thread->Bool) (st:SharedT->Thread->Option (SharedT×Thread)) (p:Program) (N:Nat) (s₀:Shared):Option Shared:=
 Bool.rec (motive:=fun _=>Option Shared) none
  ((treeOf s₀).bind fun t₀=>(sM (ok s₀.heap.objs.size (s₀.heap.nsMap mainGlobals "__annotations__")) st N t₀ (topStub p)).bind fun t₁=>
   (fun s₁=>Bool.rec (motive:=fun _=>Option Shared) none (some s₁) (staticsOk (importedModules p.main.body) s₀.heap s₁.heap&&namesBound p s₁.heap&&gensDone s₁&&laidKept s₀.heap s₁.heap)) t₁.abs)
  (s₀.heap.isNs mainGlobals&&s₀.gens.size==0)
theorem xI {tb:String->Option Builtin} {p:Program} {w:World} {N:Nat} {s₀ s:Shared} (h:xH stepOk (stepT (denote tb) p w) p N s₀=some s):topFrom tb p w N s₀=some s:=by
 unfold xH at h;unfold topFrom;cases e:s₀.heap.isNs mainGlobals&&s₀.gens.size==0 with
 |false=>rw[e] at h;cases h
 |true=>
  rw[e] at h;obtain ⟨t₀,e0,h⟩:=Ky.mp h;obtain ⟨t₁,e1,h⟩:=Ky.mp h;have r:=uC e1;rw[sN e0] at r;dsimp only;rw[r];dsimp only at h;show (match staticsOk (importedModules p.main.body) s₀.heap t₁.abs.heap&&namesBound p t₁.abs.heap&&gensDone t₁.abs&&laidKept s₀.heap t₁.abs.heap with|true=>some t₁.abs|false=>none)=some s
  cases q:staticsOk (importedModules p.main.body) s₀.heap t₁.abs.heap&&namesBound p t₁.abs.heap&&gensDone t₁.abs&&laidKept s₀.heap t₁.abs.heap with
  |false=>rw[q] at h;cases h
  |true=>rw[q] at h;exact h
noncomputable def nA (ok:Nat->Pa->Thread->Bool) (st:SharedT->Thread->Option (SharedT×Thread)) (p:Program) (N:Nat) (s₀:Shared):Option Shared:=
 (treeOf s₀).bind fun t₀=>(sM (ok s₀.heap.objs.size (s₀.heap.nsMap mainGlobals "__annotations__")) st N t₀ (topStub p)).map fun t₁=>t₁.abs
noncomputable def v7 (p:Program) (s₀ s₁:Shared):Bool:=(s₀.heap.isNs mainGlobals&&s₀.gens.size==0)&&(staticsOk (importedModules p.main.body) s₀.heap s₁.heap&&namesBound p s₁.heap&&gensDone s₁&&laidKept s₀.heap s₁.heap)
theorem xJ {tb:String->Option Builtin} {p:Program} {w:World} {N:Nat} {s₀ s:Shared} (h:nA stepOk (stepT (denote tb) p w) p N s₀=some s) (c:v7 p s₀ s=true):topFrom tb p w N s₀=some s:=by
 apply xI;unfold nA at h;obtain ⟨t₀,e0,h⟩:=Ky.mp h;obtain ⟨t₁,e1,rfl⟩:=KZ.mp h;unfold v7 at c;rw[KQ] at c;unfold xH;rw[c.1];show ((treeOf s₀).bind fun t₀=>_)=_
 rw[e0];show ((sM _ _ N t₀ (topStub p)).bind fun t₁=>_)=_
 rw[e1];show (Bool.rec (motive:=fun _=>Option Shared) none (some t₁.abs) (staticsOk (importedModules p.main.body) s₀.heap t₁.abs.heap&&namesBound p t₁.abs.heap&&gensDone t₁.abs&&laidKept s₀.heap t₁.abs.heap):Option Shared)=_
 rw[c.2]
abbrev Look (p:Program) (N:Nat) {α:Type} (f:Shared->Shared->α) (v:World->α):Prop:=∀w:World,((importEnds treeTable (opening p) w N (start (opening p)).1 (start (opening p)).2).bind fun s=>(fenceModules? p s).bind fun s₀=>(nA stepOk (stepT (denote treeTable) p w) p N s₀).map fun s₁=>f s₀ s₁)=some (v w)
theorem Look.at_ {p:Program} {N:Nat} {α:Type} {f:Shared->Shared->α} {v:World->α} (h:Look p N f v) (w:World) {s s₀ s₁:Shared} (a:importEnds treeTable (opening p) w N (start (opening p)).1 (start (opening p)).2=some s) (b:fenceModules? p s=some s₀) (c:nA stepOk (stepT (denote treeTable) p w) p N s₀=some s₁):f s₀ s₁=v w:=by
 have:=h w;rw[a] at this;replace this:((fenceModules? p s).bind fun s₀=>(nA stepOk (stepT (denote treeTable) p w) p N s₀).map fun s₁=>f s₀ s₁)=some (v w):=this
 rw[b] at this;replace this:((nA stepOk (stepT (denote treeTable) p w) p N s₀).map fun s₁=>f s₀ s₁)=some (v w):=this
 rw[c] at this;injection this
theorem xK {p q:Program} {loose:O6} {Xt:Shared->Bool} {α:Type} {Yf:Shared->α} {Ya:World->α} {N:Nat} {g0:Bool} (hc:Look p N (fun s₀ s₁=>v7 p s₀ s₁) fun _=>true)
  (h1:Look p N (fun _ s=>openSeen q loose (importedModules p.main.body) Xt g0 s) fun _=>openGood q loose) (h2:Look p N (fun _ s=>Yf s) Ya):LeftO p q loose Xt Yf Ya N g0:=fun w=>by
 obtain ⟨s,a,e⟩:=Ky.mp (hc w);obtain ⟨s₀,b,e⟩:=Ky.mp e;obtain ⟨s₁,c,e⟩:=KZ.mp e;have z:openEnds treeTable p w N=some s₁:=by
  unfold openEnds fencedOpening;rw[a];show (fenceModules? p s).bind _=_;rw[b];exact xJ c e
 rw[z];show some (_,_)=some (_,_);rw[h1.at_ w a b c,h2.at_ w a b c]
def fD (p:Program) (N:Nat) {α:Type} (f:Shared->Shared->α) (v:World->α) (w:World):Prop:=((importEnds treeTable (opening p) w N (start (opening p)).1 (start (opening p)).2).bind fun s=>(fenceModules? p s).bind fun s₀=>(nA stepOk (stepT (denote treeTable) p w) p N s₀).map fun s₁=>f s₀ s₁)=some (v w)
noncomputable def uE (t:SharedT) (a:Addr):Option Obj:=Bool.rec (motive:=fun _=>Option Obj) none ((fun o=>Bool.rec (motive:=fun _=>Option Obj) (some o) none (Obj.isFreed o)) ((t.tree.get a).getD default)) (Nat.blt a t.n)
theorem v8 (t:SharedT) (a:Addr):uE t a=t.abs.heap.get? a:=by
 unfold uE SharedT.abs Heap.get?;dsimp only;rw[absHeap_at];cases h:Nat.blt a t.n with
 |false=>
  rw[if_neg fun z=>by rw[Nat.blt_eq.mpr z] at h;cases h]
 |true=>
  rw[if_pos (Nat.blt_eq.mp h)];obtain ⟨cls,dict,data,slots⟩:=(t.tree.get a).getD default;cases data<;>rfl
theorem v9 {p:Program} {N:Nat} {as:O7} {v:World->List (Option Obj)}
  (h:∀w:World,((importEnds treeTable (opening p) w N (start (opening p)).1 (start (opening p)).2).bind fun s=>(fenceModules? p s).bind fun s₀=>(treeOf s₀).bind fun t₀=>(sM (stepOk s₀.heap.objs.size (s₀.heap.nsMap mainGlobals "__annotations__")) (stepT (denote treeTable) p w) N t₀ (topStub p)).map fun t₁=>as.map (uE t₁))=some (v w)):
  Look p N (fun _ s=>as.map s.heap.get?) v:=fun w=>by
 obtain ⟨s,a,e⟩:=Ky.mp (h w);obtain ⟨s₀,b,e⟩:=Ky.mp e;obtain ⟨t₀,c,e⟩:=Ky.mp e;obtain ⟨t₁,d,e⟩:=KZ.mp e;rw[a];show (fenceModules? p s).bind _=_;rw[b];show (nA stepOk (stepT (denote treeTable) p w) p N s₀).map _=_;unfold nA;rw[c];show ((sM _ _ N t₀ (topStub p)).map fun t₁=>t₁.abs).map _=_
 rw[d];show some (as.map t₁.abs.heap.get?)=_;rw[<-e,show (as.map (uE t₁))=as.map t₁.abs.heap.get? from List.map_congr_left fun a _=>v8 t₁ a]
theorem CN {p:Program} {N:Nat} {α β γ δ:Type} {f:Shared->Shared->α×β×γ×δ} {v:World->α×β×γ×δ} (h1:Look p N (fun a b=>((f a b).1,(f a b).2.1,(f a b).2.2.1)) fun w=>((v w).1,(v w).2.1,(v w).2.2.1)) (h2:Look p N (fun a b=>(f a b).2.2.2) fun w=>(v w).2.2.2):Look p N f v:=fun w=>by
 obtain ⟨s,a,e⟩:=Ky.mp (h1 w);obtain ⟨s₀,b,e⟩:=Ky.mp e;obtain ⟨s₁,c,e⟩:=KZ.mp e;have e1:=h1.at_ w a b c;have e2:=h2.at_ w a b c;rw[a];show (fenceModules? p s).bind _=_;rw[b];show (nA stepOk (stepT (denote treeTable) p w) p N s₀).map _=_;rw[c];obtain ⟨f1,f2⟩:=Prod.mk.inj e1;obtain ⟨f2,f3⟩:=Prod.mk.inj f2;have f4:f s₀ s₁=v w:=Prod.ext f1 (Prod.ext f2 (Prod.ext f3 e2));exact congrArg some f4
end Ht
set_option Elab.async false
set_option linter.all false
set_option maxRecDepth 100000
namespace Lk36
open PySem PySem.W PyProof.Rows
noncomputable def qv:Program:={PySem.Challenge.pw_stovework_k36_rows_refused with main:={PySem.Challenge.pw_stovework_k36_rows_refused.main with body:=([0,2,3,4,5,6,7,8,9,11,12,13,15,16,19,20,22,23,24,25,27,28,29,31,32,34,35,36,37,39,40,41,42,44,46,47,48,49,50,51,52,53,54,55,56,57,58,59,60,61,62,63,64,65,66,67,69,70,71,72,73,74,75,76,77,78,79,80,81,82,83,84,85,86,87,88,89,90,91]:List Nat).filterMap fun i=>PySem.Challenge.pw_stovework_k36_rows_refused.main.body[i]?}}
noncomputable def lo:O6:= ["fraction","BOUNDS","Warm","FORMS"]
theorem head {α:Type} {Yf:Shared->α} {Ya:World->α} {YP:World->Heap->Prop} {d:DefRec} {kwd:List (Str×Expr)} (left:LeftO PySem.Challenge.pw_stovework_k36_rows_refused qv lo (fun s=>xlAt qv [] s&&recOk [] s) Yf Ya 11900)
  (hY:∀w s,Yf s=Ya w->YP w s.heap) (hYk:∀w h h',YP w h->(∀b o,h.get? b=some o->h'.get? b=some o)->YP w h') (hd:defOf qv PySem.Challenge.rw_stovework_k36_rows_refused.row.name=some (d,kwd))
  (hp:PySem.Challenge.rw_stovework_k36_rows_refused.row.prog.theDef PySem.Challenge.rw_stovework_k36_rows_refused.row.name=some (d.params,d.body,d.scope)) (hk:kwWritten? d.params.kwonlyargs d.params.kw_defaults=some kwd)
  (said:PySem.Challenge.rw_stovework_k36_rows_refused.row.wellSaid=true) (hw:PySem.Challenge.rw_stovework_k36_rows_refused.row.toRowW.promised) (call:WalkO qv lo (XL qv []) YP PySem.Challenge.rw_stovework_k36_rows_refused.row.toRowW d kwd fun f vs=>PySem.call f vs):PySem.Challenge.rw_stovework_k36_rows_refused.row.Holds:=
 holds_open left hY hYk (fun s e=>xl_of s (Bool.and_eq_true_iff.mp e).1) XL.keeps hd hp hk (fun s e=>recFacts_of (Bool.and_eq_true_iff.mp e).2) rfl said (by decide+kernel) ⟨rfl,rfl,rfl,rfl,rfl,by decide+kernel⟩ hw call
set_option maxHeartbeats 0 in
theorem JA:∀w:World,Ht.fD PySem.Challenge.pw_stovework_k36_rows_refused 11900 (fun s₀ s₁=>Ht.v7 PySem.Challenge.pw_stovework_k36_rows_refused s₀ s₁) (fun _=>true) (w.withFollow "special-get-raises" false):=by
 intro w;unfold Ht.fD;rw[Kt,Kr,Kv,Ku,Ks,Kq]
 kernel_rfl
set_option maxHeartbeats 0 in
theorem JB:∀w:World,Ht.fD PySem.Challenge.pw_stovework_k36_rows_refused 11900 (fun s₀ s₁=>Ht.v7 PySem.Challenge.pw_stovework_k36_rows_refused s₀ s₁) (fun _=>true) (w.withFollow "special-get-raises" true):=by
 intro w;unfold Ht.fD;rw[Kt,Kr,Kv,Ku,Ks,Kq]
 kernel_rfl
theorem la:Ht.Look PySem.Challenge.pw_stovework_k36_rows_refused 11900 (fun s₀ s₁=>Ht.v7 PySem.Challenge.pw_stovework_k36_rows_refused s₀ s₁) (fun _=>true):=PySem.W.byRow2 "special-get-raises" JA JB
set_option maxHeartbeats 0 in
theorem HG:∀w:World,Ht.fD PySem.Challenge.pw_stovework_k36_rows_refused 11900 (fun _ s=>((openSeen qv lo (importedModules PySem.Challenge.pw_stovework_k36_rows_refused.main.body) (fun s=>xlAt qv [] s&&recOk [] s) true s).1,(openSeen qv lo (importedModules PySem.Challenge.pw_stovework_k36_rows_refused.main.body) (fun s=>xlAt qv [] s&&recOk [] s) true s).2.1,(openSeen qv lo (importedModules PySem.Challenge.pw_stovework_k36_rows_refused.main.body) (fun s=>xlAt qv [] s&&recOk [] s) true s).2.2.1)) (fun _=>((openGood qv lo).1,(openGood qv lo).2.1,(openGood qv lo).2.2.1)) (w.withFollow "special-get-raises" false):=by
 intro w;unfold Ht.fD;dsimp only[openSeen,openGood];rw[Kt,Kr,Kv,Ku,Ks,Kq]
 kernel_rfl
set_option maxHeartbeats 0 in
theorem HH:∀w:World,Ht.fD PySem.Challenge.pw_stovework_k36_rows_refused 11900 (fun _ s=>((openSeen qv lo (importedModules PySem.Challenge.pw_stovework_k36_rows_refused.main.body) (fun s=>xlAt qv [] s&&recOk [] s) true s).1,(openSeen qv lo (importedModules PySem.Challenge.pw_stovework_k36_rows_refused.main.body) (fun s=>xlAt qv [] s&&recOk [] s) true s).2.1,(openSeen qv lo (importedModules PySem.Challenge.pw_stovework_k36_rows_refused.main.body) (fun s=>xlAt qv [] s&&recOk [] s) true s).2.2.1)) (fun _=>((openGood qv lo).1,(openGood qv lo).2.1,(openGood qv lo).2.2.1)) (w.withFollow "special-get-raises" true):=by
 intro w;unfold Ht.fD;dsimp only[openSeen,openGood];rw[Kt,Kr,Kv,Ku,Ks,Kq]
 kernel_rfl
theorem JC:Ht.Look PySem.Challenge.pw_stovework_k36_rows_refused 11900 (fun _ s=>((openSeen qv lo (importedModules PySem.Challenge.pw_stovework_k36_rows_refused.main.body) (fun s=>xlAt qv [] s&&recOk [] s) true s).1,(openSeen qv lo (importedModules PySem.Challenge.pw_stovework_k36_rows_refused.main.body) (fun s=>xlAt qv [] s&&recOk [] s) true s).2.1,(openSeen qv lo (importedModules PySem.Challenge.pw_stovework_k36_rows_refused.main.body) (fun s=>xlAt qv [] s&&recOk [] s) true s).2.2.1)) (fun _=>((openGood qv lo).1,(openGood qv lo).2.1,(openGood qv lo).2.2.1)):=PySem.W.byRow2 "special-get-raises" HG HH
set_option maxHeartbeats 0 in
theorem HI:∀w:World,Ht.fD PySem.Challenge.pw_stovework_k36_rows_refused 11900 (fun _ s=>(openSeen qv lo (importedModules PySem.Challenge.pw_stovework_k36_rows_refused.main.body) (fun s=>xlAt qv [] s&&recOk [] s) true s).2.2.2) (fun _=>(openGood qv lo).2.2.2) (w.withFollow "special-get-raises" false):=by
 intro w;unfold Ht.fD;dsimp only[openSeen,openGood];rw[Kt,Kr,Kv,Ku,Ks,Kq]
 kernel_rfl
set_option maxHeartbeats 0 in
theorem HJ:∀w:World,Ht.fD PySem.Challenge.pw_stovework_k36_rows_refused 11900 (fun _ s=>(openSeen qv lo (importedModules PySem.Challenge.pw_stovework_k36_rows_refused.main.body) (fun s=>xlAt qv [] s&&recOk [] s) true s).2.2.2) (fun _=>(openGood qv lo).2.2.2) (w.withFollow "special-get-raises" true):=by
 intro w;unfold Ht.fD;dsimp only[openSeen,openGood];rw[Kt,Kr,Kv,Ku,Ks,Kq]
 kernel_rfl
theorem JD:Ht.Look PySem.Challenge.pw_stovework_k36_rows_refused 11900 (fun _ s=>(openSeen qv lo (importedModules PySem.Challenge.pw_stovework_k36_rows_refused.main.body) (fun s=>xlAt qv [] s&&recOk [] s) true s).2.2.2) (fun _=>(openGood qv lo).2.2.2):=PySem.W.byRow2 "special-get-raises" HI HJ
theorem lb:Ht.Look PySem.Challenge.pw_stovework_k36_rows_refused 11900 (fun _ s=>(openSeen qv lo (importedModules PySem.Challenge.pw_stovework_k36_rows_refused.main.body) (fun s=>xlAt qv [] s&&recOk [] s) true s)) (fun _=>(openGood qv lo)):=Ht.CN JC JD
end Lk36
local macro_rules| `(tactic|o_head $H)=> `(tactic|(refine Lk36.head (Yf:=PySem.W.Hook.obs $H) (Ya:=PySem.W.Hook.val $H) (YP:=PySem.W.Hook.says $H) ?hl (PySem.W.Hook.of $H) (PySem.W.Hook.keeps $H) (by rfl) (by rfl) (by rfl) (by assumption) ?hw ?hc;(case hl=>(refine Ht.xK Lk36.la Lk36.lb ?c;(case c=>(refine Ht.v9 ?c2;(case c2=>(refine PySem.W.byRow2 "special-get-raises" (fun w=>?_) (fun w=>?_)<;>(rw[Kt,Kr,Kv,Ku,Ks,Kq];kernel_rfl)))))))))
namespace PySem.W.Fast
noncomputable def tw12416114240940994118:PySem.Program:=PySem.Challenge.pw_stovework_k36_rows_refused
theorem te12416114240940994118:PySem.Challenge.pw_stovework_k36_rows_refused=tw12416114240940994118:=rfl
end PySem.W.Fast
set_option maxHeartbeats 0 in
open_top Lk36.hd for PySem.Challenge.rw_stovework_k36_rows_refused
namespace L2
open PySem PySem.Spec PyProof.Rows
abbrev Key:=Sum Int Str
noncomputable def nK:Key->Value->Bool
 | .inl k,v=>Value.isInt k v
 | .inr x,v=>Value.isStrOf x v
noncomputable def HK (w:World):Key->Int
 | .inl k=>hashInt k
 | .inr x=>hashStr w x
theorem cD:∀{k:Key} {v:Value},nK k v=true->(∃i t,k=Sum.inl i/\v=Value.int i t)∨(∃x t,k=Sum.inr x/\v=Value.str x t)
 | .inl i,v,h=>by
  obtain ⟨t,e⟩:=Value.isInt_shape (k:=i) (v:=v) h;exact .inl ⟨i,t,rfl,e⟩
 | .inr x,v,h=>by
  obtain ⟨t,e⟩:=Value.isStrOf_shape (x:=x) (v:=v) h;exact .inr ⟨x,t,rfl,e⟩
theorem wa (i:Int) (t:Tok):nK (.inl i) (.int i t)=true:=by simp[nK,Value.isInt]
theorem wc (x:Str) (t:Tok):nK (.inr x) (.str x t)=true:=by simp[nK,Value.isStrOf]
theorem CO (a b:Int):decide ((Sum.inl a:Key)=Sum.inl b)=(a==b):=by
 by_cases e:a=b
 ·subst e;simp
 ·have h:¬(Sum.inl a:Key)=Sum.inl b:=fun q=>e (Sum.inl.inj q)
  rw[decide_eq_false h];exact (beq_eq_false_iff_ne.mpr e).symm
theorem CP (a b:Str):decide ((Sum.inr a:Key)=Sum.inr b)=decide (a=b):=by
 by_cases e:a=b
 ·subst e;simp
 ·have h:¬(Sum.inr a:Key)=Sum.inr b:=fun q=>e (Sum.inr.inj q)
  rw[decide_eq_false h,decide_eq_false e]
theorem CQ (a:Int) (b:Str):decide ((Sum.inl a:Key)=Sum.inr b)=false:=decide_eq_false (fun q=>nomatch q)
theorem CS (a:Str) (b:Int):decide ((Sum.inr a:Key)=Sum.inl b)=false:=decide_eq_false (fun q=>nomatch q)
noncomputable def fK (prog:Program) (w:World):PySem.KeyKind prog w Key where
 is:=nK
 hash:=HK w
 inj:=fun v a b ha hb=>by
  rcases cD ha with ⟨i,t,rfl,rfl⟩|⟨x,t,rfl,rfl⟩
  ·rcases cD hb with ⟨j,u,rfl,e⟩|⟨y,u,rfl,e⟩
   ·injection e with e1 _;rw[e1]
   ·exact nomatch e
  ·rcases cD hb with ⟨j,u,rfl,e⟩|⟨y,u,rfl,e⟩
   ·exact nomatch e
   ·injection e with e1 _;rw[e1]
 byValue:=fun k v h=>by
  rcases cD h with ⟨i,t,rfl,rfl⟩|⟨x,t,rfl,rfl⟩<;>rfl
 pyHash:=fun hv h=>by
  rcases cD hv with ⟨i,t,rfl,rfl⟩|⟨x,t,rfl,rfl⟩
  ·exact wpAny_pyHash_int h
  ·exact wpAny_pyHash_str h
 eqBool:=fun hu hv h=>by
  rcases cD hu with ⟨i,t,rfl,rfl⟩|⟨x,t,rfl,rfl⟩
  ·rcases cD hv with ⟨j,u,rfl,rfl⟩|⟨y,u,rfl,rfl⟩
   ·rw[CO] at h;exact wpAny_eqBool_int h
   ·rw[CQ] at h;exact SeqAt.EqAt.int_str i t y u _ _ _ _ h
  ·rcases cD hv with ⟨j,u,rfl,rfl⟩|⟨y,u,rfl,rfl⟩
   ·rw[CS] at h;exact SeqAt.EqAt.str_int x t j u _ _ _ _ h
   ·rw[CP] at h;exact wpAny_eqBool_str h
 «strs» :=fun k x t v h=>by
  rcases cD h with ⟨i,u,rfl,e⟩|⟨y,u,rfl,e⟩
  ·exact nomatch e
  ·injection e with e1 _
   subst e1;cases v<;>rfl
theorem qG (prog:Program) (w:World) (i:Int) (t:Tok):(fK prog w).is (.inl i) (.int i t)=true:=wa i t
theorem qH (prog:Program) (w:World) (x:Str) (t:Tok):(fK prog w).is (.inr x) (.str x t)=true:=wc x t
inductive V where
 |non|bl (b:Bool)|int (i:Int)|str (x:Str)|byt (b:Array UInt8)|flt (b:UInt64)|ref (a:Addr)|ty (n:String)|raw (x:Str) (t:Tok)
 deriving DecidableEq
def RelV:V->Value->Prop
 | .non,u=>u=Value.none
 | .bl b,u=>u=Value.bool b
 | .int i,u=>∃t,u=Value.int i t
 | .str x,u=>∃t,u=Value.str x t
 | .byt b,u=>∃t,u=Value.bytes b t
 | .flt b,u=>∃t,u=Value.float b t
 | .ref a,u=>u=Value.ref a
 | .ty n,u=>u=Value.type n
 | .raw x t,u=>u=Value.str x t
abbrev bj:List V->O8->Prop:=Paired RelV
theorem bj.length {xs:List V} {us:O8} (r:bj xs us):xs.length=us.length:=Paired.length r
theorem bj.get:∀{xs:List V} {us:O8} {i:Nat} {x:V},bj xs us->xs[i]?=some x->∃u,us[i]?=some u/\RelV x u
 |_,_,_,_,.nil,e=>by simp at e
 |_,_,0,_,.cons r _,e=>by simp at e;subst e;exact ⟨_,rfl,r⟩
 |_,_,i+1,x,.cons _ t,e=>by
  obtain ⟨u,h1,h2⟩:=bj.get (i:=i) (x:=x) t (by simpa using e)
  exact ⟨u,by simpa using h1,h2⟩
theorem bj.set {x:V} {u:Value} (r:RelV x u):∀{xs:List V} {us:O8} (i:Nat),bj xs us->bj (xs.set i x) (us.set i u)
 |_,_,_,.nil=> .nil
 |_,_,0,.cons _ t=> .cons r t
 |_,_,i+1,.cons q t=> .cons q (bj.set r i t)
theorem bj.append:∀{xs ys:List V} {us ws:O8},bj xs us->bj ys ws->bj (xs++ys) (us++ws)
 |_,_,_,_,.nil,s=>s
 |_,_,_,_,.cons r t,s=> .cons r (bj.append t s)
theorem bj.take:∀{xs:List V} {us:O8} (n:Nat),bj xs us->bj (xs.take n) (us.take n)
 |_,_,0,_=> .nil
 |_,_,_+1,.nil=> .nil
 |_,_,n+1,.cons r t=> .cons r (bj.take n t)
theorem bj.drop:∀{xs:List V} {us:O8} (n:Nat),bj xs us->bj (xs.drop n) (us.drop n)
 |_,_,0,r=>r
 |_,_,_+1,.nil=> .nil
 |_,_,n+1,.cons _ t=>bj.drop n t
def oY:Option V->Pa->Prop
 |some v,some u=>RelV v u
 |none,none=>True
 |_,_=>False
def KV {κ:Type}:List (κ×V)->List (κ×Value)->Prop:=Paired fun (p:κ×V) (q:κ×Value)=>p.1=q.1/\RelV p.2 q.2
noncomputable def kV:Key->V
 | .inl i=> .int i
 | .inr x=> .str x
inductive HO where
  |lst (xs:List V)
  |tup (xs:List V)
  |dK (kvs:List (Key×V))|dT (kvs:List (List Key×V))
  |set (S:Int->Bool) (n:Nat)
  |ins (C dx:Addr) (fs:List (Str×V))
  |own (x:Addr)
  |xd (fs:List (Str×V))
  |met (f x:Addr)
  |rng (lo hi:Int)
  |frz (o:Obj) (u:HO)
  |tbl (ps:Array Value)
  |ext (φ:Heap->Prop)
abbrev Hp:=Addr->Option HO
noncomputable def aR (H:Hp) (a:Addr) (o:HO):Hp:=fun b=>if b=a then some o else H b
theorem ah {H:Hp} {a:Addr} {o:HO}:aR H a o a=some o:=by unfold aR;rw[if_pos rfl]
theorem aB {H:Hp} {a b:Addr} {o:HO} (h:b≠a):aR H a o b=H b:=by unfold aR;rw[if_neg h]
theorem lU {H:Hp} {a b:Addr} {o u:HO} (h:H a=some o) (h':H b=some u) (d:o≠u):a≠b:=by
 intro e;subst e;rw[h] at h';exact d (KI h')
theorem aT {H:Hp} {a b:Addr} {o:HO} (h:H a=some o) (h':H b=none):a≠b:=by
 intro e;subst e;rw[h] at h';cases h'
section
variable (P:Program) (w:World)
def cr (H:Hp) (h:Heap) (a:Addr):HO->Prop
 | .lst xs=>xs.length<=sizeLine/\∃(its:O8) (n:Nat),bj xs its/\h.get? a=some {cls:= .type "list",data:= .seq its.toArray n}
 | .tup xs=>xs.length<=sizeLine/\∃its:O8,bj xs its/\IsTup h a its.toArray
 | .dK kvs=>kvs.length<=sizeLine/\(a==sysModules)=false/\∃vs,KV kvs vs/\h.DictOf (fK P w) a vs
 | .dT kvs=>kvs.length<=sizeLine/\(a==sysModules)=false/\∃xs:List (List Key×Addr×Value),
   Paired (fun (p:List Key×V) (q:List Key×Addr×Value)=>p.1=q.1/\H q.2.1=some (.tup (p.1.map kV))/\RelV p.2 q.2.2) kvs xs/\
   ∃o es ep,h.get? a=some o/\o.ExactDict/\o.data= .dict es ep/\es.toList=xs.map (entryOfKey (tupleKind (fK P w)))/\(xs.map (·.1)).Nodup
 | .set S n=>h.SetOf (intKind P w) a S n
 | .ins C dx fs=>H dx=some (.own a)/\fs.length<=1000/\dx≠a/\h.get? a=some (Ld C dx)/\
   ∃mA,h.Ns1 dx mA/\(∀f,oY (fs.lookup f) (mA f))/\PySem.Within mA (fs.map (·.1))
 | .own _=>∃o,h.get? a=some o
 | .xd fs=>∃mA,h.Ns1 a mA/\∀f,oY (fs.lookup f) (mA f)
 | .rng lo hi=>∃t u v,h.get? a=some {cls:= .type "range",data:= .fields #[.int lo t,.int hi u,.int 1 v]}
 | .frz o u=>h.get? a=some o/\cr H h a u
 | .tbl ps=>h.get? a=some {cls:= .none,data:= .fields ps}
 | .met f x=>h.get? a=some (PySem.W.methodObj (.ref f) (.ref x))
 | .ext φ=>φ h/\(∃o,h.get? a=some o)/\∀h1 h2:Heap,φ h1->(∀o,h1.get? a=some o->h2.get? a=some o)->φ h2
def ir (H:Hp) (h:Heap):Prop:=∀a o,H a=some o->cr P w H h a o
end
section
variable {P:Program} {w:World} {H H':Hp} {h h':Heap} {a:Addr} {o:HO}
theorem cr.lt (x:cr P w H h a o):a<h.objs.size:=by
 cases o with
 |lst xs=>obtain ⟨_,_,_,_,e⟩:=x;exact Heap.lt_size e
 |tup xs=>obtain ⟨_,_,_,p⟩:=x;exact p.lt
 |dK kvs=>obtain ⟨_,_,_,_,o,_,_,e,_⟩:=x;exact Heap.lt_size e
 |dT kvs=>obtain ⟨_,_,_,_,o,_,_,e,_⟩:=x;exact Heap.lt_size e
 |set S n=>obtain ⟨o,_,_,_,e,_⟩:=x;exact Heap.lt_size e
 |ins C dx fs=>obtain ⟨_,_,_,e,_⟩:=x;exact Heap.lt_size e
 |own y=>obtain ⟨_,e⟩:=x;exact Heap.lt_size e
 |xd fs=>obtain ⟨_,⟨_,_,_,e,_⟩,_⟩:=x;exact Heap.lt_size e
 |rng lo hi=>obtain ⟨_,_,_,e⟩:=x;exact Heap.lt_size e
 |frz ob u=>obtain ⟨e,_⟩:=x;exact Heap.lt_size e
 |tbl ps=>exact Heap.lt_size (show h.get? a=some _ from x)
 |met f y=>exact Heap.lt_size (show h.get? a=some _ from x)
 |ext φ=>obtain ⟨_,⟨_,e⟩,_⟩:=x;exact Heap.lt_size e
theorem Paired.mapP {α β:Type} {F G:α->β->Prop}:∀{l₁:List α} {l₂:List β},Paired F l₁ l₂->(∀a b,F a b->G a b)->Paired G l₁ l₂
 |_,_,.nil,_=> .nil
 |_,_,.cons r t,f=> .cons (f _ _ r) (Paired.mapP t f)
theorem cr.stay (x:cr P w H h a o) (k:∀b u,(b=a∨H b=some (.own a))->h.get? b=some u->h'.get? b=some u)
  (ho:∀b,H b=some (.own a)->H' b=some (.own a)) (ht:∀b xs,H b=some (.tup xs)->H' b=some (.tup xs)):cr P w H' h' a o:=by
 induction o with
 |lst xs=>obtain ⟨z,its,n,r,e⟩:=x;exact ⟨z,its,n,r,k _ _ (.inl rfl) e⟩
 |tup xs=>obtain ⟨z,its,r,ob,e,c⟩:=x;exact ⟨z,its,r,ob,k _ _ (.inl rfl) e,c⟩
 |dK kvs=>obtain ⟨z,y,vs,r,ob,es,ep,e,c⟩:=x;exact ⟨z,y,vs,r,ob,es,ep,k _ _ (.inl rfl) e,c⟩
 |dT kvs=>
  obtain ⟨z,y,xs,r,ob,es,ep,e,c⟩:=x;exact ⟨z,y,xs,Paired.mapP r fun p q z=>⟨z.1,ht _ _ z.2.1,z.2.2⟩,ob,es,ep,k _ _ (.inl rfl) e,c⟩
 |set S n=>obtain ⟨ob,es,ep,t,e,c⟩:=x;exact ⟨ob,es,ep,t,k _ _ (.inl rfl) e,c⟩
 |ins C dx fs=>
  obtain ⟨d,z,ne,e,mA,⟨od,es,ep,e2,c⟩,r⟩:=x;exact ⟨ho _ d,z,ne,k _ _ (.inl rfl) e,mA,⟨od,es,ep,k _ _ (.inr d) e2,c⟩,r⟩
 |own y=>obtain ⟨ob,e⟩:=x;exact ⟨ob,k _ _ (.inl rfl) e⟩
 |xd fs=>obtain ⟨mA,⟨od,es,ep,e,c⟩,r⟩:=x;exact ⟨mA,⟨od,es,ep,k _ _ (.inl rfl) e,c⟩,r⟩
 |rng lo hi=>obtain ⟨t,u,v,e⟩:=x;exact ⟨t,u,v,k _ _ (.inl rfl) e⟩
 |frz ob u ih=>obtain ⟨e,q⟩:=x;exact ⟨k _ _ (.inl rfl) e,ih q⟩
 |tbl ps=>
  have e:h.get? a=some {cls:= .none,data:= .fields ps}:=x;show h'.get? a=some {cls:= .none,data:= .fields ps};exact k a _ (.inl rfl) e
 |met f y=>
  have e:h.get? a=some (PySem.W.methodObj (.ref f) (.ref y)):=x;show h'.get? a=some (PySem.W.methodObj (.ref f) (.ref y));exact k a _ (.inl rfl) e
 |ext φ=>obtain ⟨p,⟨o,e⟩,st⟩:=x;exact ⟨st _ _ p fun o q=>k _ _ (.inl rfl) q,⟨o,k _ _ (.inl rfl) e⟩,st⟩
theorem ir.lt (x:ir P w H h) (e:H a=some o):a<h.objs.size:=(x a o e).lt
theorem ir.fresh (x:ir P w H h) (e:h.objs.size<=a):H a=none:=by
 cases q:H a with
 |none=>rfl
 |some u=>exact absurd (KJ (x.lt q) e) (Nat.lt_irrefl _)
theorem ir.kept (x:ir P w H h) (k:∀b u,h.get? b=some u->h'.get? b=some u):ir P w H h':=fun a o e=>
 (x a o e).stay (fun b u _ q=>k b u q) (fun _ q=>q) fun _ _ q=>q
theorem ir.laid (x:ir P w H h) (k:∀b u,h.get? b=some u->h'.get? b=some u) (hp:h.objs.size<=a) (new:cr P w (aR H a o) h' a o):ir P w (aR H a o) h':=fun b u e=>by
 have hn:=x.fresh hp
 by_cases hb:b=a
 ·subst hb;rw[ah] at e;cases e;exact new
 ·rw[aB hb] at e;exact (x b u e).stay (fun c v _ q=>k c v q) (fun c q=>by rw[aB (aT q hn)];exact q) fun c xs q=>by rw[aB (aT q hn)];exact q
end
def Rd (H:Hp) (a:Addr) (u:HO):Prop:=H a=some u∨∃o,H a=some (.frz o u)
theorem Rd.ok {P:Program} {w:World} {H:Hp} {h:Heap} {a:Addr} {u:HO} (r:Rd H a u) (x:ir P w H h):cr P w H h a u:=by
 rcases r with r|⟨o,r⟩
 ·exact x a u r
 ·obtain ⟨_,q⟩:=x a _ r;exact q
def Hr:Option HO->Prop
 |some (.lst _)=>True
 |some (.dK _)=>True
 |some (.dT _)=>True
 |some (.set _ _)=>True
 |some (.ins _ _ _)=>True
 |some (.ext _)=>True
 |_=>False
section
variable {P:Program} {w:World} {H:Hp} {h h':Heap} {x e:Addr} {o':HO}
theorem ir.write (ok:ir P w H h) (mu:Hr (H x)) (he:e=x∨H e=some (.own x)) (k:∀b u,b≠e->h.get? b=some u->h'.get? b=some u) (heo:∃u,h'.get? e=some u)
  (new:cr P w (aR H x o') h' x o'):ir P w (aR H x o') h':=fun b u q=>by
 have nown:∀c y,H c=some (.own y)->c≠x:=fun c y r z=>by subst z;rw[r] at mu;exact mu
 have ntup:∀c xs,H c=some (.tup xs)->c≠x:=fun c xs r z=>by subst z;rw[r] at mu;exact mu
 by_cases hb:b=x
 ·subst hb;rw[ah] at q;cases q;exact new
 ·rw[aB hb] at q
  by_cases hbe:b=e
  ·have q':H b=some (.own x):=by
    rcases he with z|z
    ·exact absurd (hbe.trans z) hb
    ·rw[hbe];exact z
   rw[q] at q';cases q';obtain ⟨v,hv⟩:=heo;exact ⟨v,by rw[hbe];exact hv⟩
  ·refine (ok b u q).stay (fun c v hc r=>k c v ?_ r) (fun c r=>by rw[aB (nown c b r)];exact r) fun c xs r=>by rw[aB (ntup c xs r)];exact r
   rcases hc with rfl|hc
   ·exact hbe
   ·rintro rfl;rcases he with z|z
    ·exact nown c b hc z
    ·rw[hc] at z;cases z;exact hb rfl
end
structure Un (fs ex:O7) (H H':Hp) (h h':Heap):Prop where
 keep:∀b o,h.get? b=some o->H b=none->b∉fs->b∉ex->h'.get? b=some o
 slot:∀b o,h.get? b=some o->H b=none->b∈fs->b∉ex->∃sl,h'.get? b=some {o with slots:=sl}
 free:∀b o,h.get? b=some o->H b=none->b∉ex->H' b=none
 there:∀b o,h.get? b=some o->b∉ex->∃o',h'.get? b=some o'
 tups:∀b xs,H b=some (.tup xs)->H' b=some (.tup xs)
 frzs:∀b o u,H b=some (.frz o u)->H' b=some (.frz o u)
 tbls:∀b ps,H b=some (.tbl ps)->∃more,H' b=some (.tbl (ps++more))
section
variable {fs fs' ex ex':O7} {H H1 H2:Hp} {h h1 h2 h':Heap} {a x e:Addr} {o:HO}
theorem Un.any (u:Un fs ex H H1 h h1) {b:Addr} {ob:Obj} (q:h.get? b=some ob) (n:H b=none) (hx:b∉ex):∃sl,h1.get? b=some {ob with slots:=sl}:=by
 by_cases hb:b∈fs
 ·exact u.slot b ob q n hb hx
 ·exact ⟨ob.slots,u.keep b ob q n hb hx⟩
theorem Un.trans (a:Un fs ex H H1 h h1) (b:Un fs ex H1 H2 h1 h2):Un fs ex H H2 h h2 where
 keep:=fun c ob q n hc hx=>b.keep c ob (a.keep c ob q n hc hx) (a.free c ob q n hx) hc hx
 slot:=fun c ob q n hc hx=>by
  obtain ⟨sl,e1⟩:=a.slot c ob q n hc hx;obtain ⟨sl',e2⟩:=b.slot c _ e1 (a.free c ob q n hx) hc hx;exact ⟨sl',e2⟩
 free:=fun c ob q n hx=>by
  obtain ⟨o',e1⟩:=a.there c ob q hx;exact b.free c o' e1 (a.free c ob q n hx) hx
 there:=fun c ob q hx=>by
  obtain ⟨o',e1⟩:=a.there c ob q hx;exact b.there c o' e1 hx
 tups:=fun c xs q=>b.tups c xs (a.tups c xs q)
 frzs:=fun c ob xs q=>b.frzs c ob xs (a.frzs c ob xs q)
 tbls:=fun c ps q=>by
  obtain ⟨m1,e1⟩:=a.tbls c ps q;obtain ⟨m2,e2⟩:=b.tbls c _ e1;exact ⟨m1++m2,by rw[e2,Array.append_assoc]⟩
theorem Un.kept (k:∀b u,h.get? b=some u->h'.get? b=some u):Un fs ex H H h h':=
 ⟨fun b ob q _ _ _=>k b ob q,fun b ob q _ _ _=>⟨ob.slots,k b ob q⟩,fun _ _ _ n _=>n,fun b ob q _=>⟨ob,k b ob q⟩,fun _ _ q=>q,fun _ _ _ q=>q,fun _ ps q=>⟨#[],by rw[q];simp⟩⟩
theorem Un.refl:Un fs ex H H h h:=Un.kept fun _ _ q=>q
theorem Un.laid (k:∀b u,h.get? b=some u->h'.get? b=some u) (hp:h.objs.size<=a) (hn:H a=none):Un fs ex H (aR H a o) h h' where
 keep:=fun b u q _ _ _=>k b u q
 slot:=fun b u q _ _ _=>⟨u.slots,k b u q⟩
 free:=fun b u q n _=>by rw[aB (Kf (KJ (Heap.lt_size q) hp))];exact n
 there:=fun b u q _=>⟨u,k b u q⟩
 tups:=fun b xs q=>by rw[aB (aT q hn)];exact q
 frzs:=fun b u xs q=>by rw[aB (aT q hn)];exact q
 tbls:=fun b ps q=>⟨#[],by rw[aB (aT q hn),q];simp⟩
theorem Un.write (mu:Hr (H x)) (he:e=x∨H e=some (.own x)) (k:∀b u,b≠e->h.get? b=some u->h'.get? b=some u) (heo:∃u,h'.get? e=some u):Un fs ex H (aR H x o) h h':=by
 have hx:∀b,H b=none->b≠x:=fun b n z=>by subst z;rw[n] at mu;exact mu
 have hb:∀b,H b=none->b≠e:=fun b n z=>by
  subst z;rcases he with r|r
  ·exact hx b n r
  ·rw[n] at r;cases r
 have hm:∀b u,H b=some u->¬Hr (some u)->b≠x:=fun b u q nm z=>by subst z;rw[q] at mu;exact nm mu
 refine ⟨fun b u q n _ _=>k b u (hb b n) q,fun b u q n _ _=>⟨u.slots,k b u (hb b n) q⟩,fun b u q n _=>by rw[aB (hx b n)];exact n,fun b u q _=>?_,
  fun b xs q=>by rw[aB (hm b _ q fun z=>z)];exact q,fun b u xs q=>by rw[aB (hm b _ q fun z=>z)];exact q,fun b ps q=>⟨#[],by rw[aB (hm b _ q fun z=>z),q];simp⟩⟩
 by_cases hbe:b=e
 ·subst hbe;exact heo
 ·exact ⟨u,k b u hbe q⟩
end
noncomputable def Hs (h:Heap) (H:Hp):O7:=(LD h.objs.size).filter fun a=>(H a).isSome
noncomputable def oZ (h:Heap) (H:Hp):Heap:=PySem.W.hideAll h (Hs h H)
theorem wf (h:Heap) (H:Hp):(oZ h H).objs.size=h.objs.size:=PySem.W.hideAll_size _ _
theorem xL {h:Heap} {H:Hp} {b:Addr} {o:Obj} (e:h.get? b=some o) (n:H b=none):(oZ h H).get? b=some o:=
 PySem.W.hideAll_get _ e fun hm=>by
  have q:(H b).isSome=true:=(List.mem_filter.mp hm).2;rw[n] at q;simp at q
theorem Az {h:Heap} {H:Hp} {b:Addr} {o:Obj} (e:(oZ h H).get? b=some o):h.get? b=some o/\H b=none:=by
 have e':h.get? b=some o:=PySem.W.of_hideAll (Hs h H) e;refine ⟨e',?_⟩;cases q:H b with
 |none=>rfl
 |some x=>
  have hm:b∈Hs h H:=List.mem_filter.mpr ⟨Lg.mpr (Heap.lt_size e'),by simp[q]⟩
  have z:(oZ h H).get? b=none:=PySem.W.hideAll_none (Hs h H) hm;rw[z] at e;cases e
structure Mod (K:K0) (mg:O3) (base:Heap):Prop where
 kin:K.In base
 glob:base.Ns mainGlobals mg
 blt:∃mb,base.Ns builtinsNs mb/\∀x:Str,x≠ "__name__" ->mb x=bootBuiltins x
 nolimit:base.NoLimit
structure Cx where
 prog:Program
 w:World
 K:K0
 mg:Str->Pa
 base:Heap
 A:Around
 N:O6
 s₀:Shared
 H₀:Hp
 env:Env
 outer:List Env
 stack:List Env
 ex:O7
 fn:Str->Bool
 calm:Bool
 pn:O4
 xe:Value->Shared->Prop
noncomputable def kO (l:List Env):O7:=l.filterMap (·.frame)
abbrev Cx.fs (X:Cx):O7:=kO X.outer
def Hu (sc:Scope) (x:Str):Prop:=sc.names.lookup x=some .local∨sc.names.lookup x=some .cell∨sc.names.lookup x=some .free
def Loc (sc:Scope) (x:Str):Prop:=sc.names.lookup x=some .local∨sc.names.lookup x=some .cell
def Look (env:Env) (h:Heap) (m:O3) (x:Str) (u:Value):Prop:=
 (env.kindOf x=some .local/\m x=some u)∨((env.kindOf x=some .cell∨env.kindOf x=some .free)/\∃c,env.cells.lookup x=some c/\h.IsCell c (some u))
structure Cx.Ok (X:Cx):Prop where
 mod:Mod X.K X.mg X.base
 kind:X.env.scope.kind= .function
 glob:X.env.globals=mainGlobals
 blt:X.env.builtins=builtinsNs
 above:X.s₀.heap.objs.size<=X.env.locals
 inj:∀x y c,X.env.cells.lookup x=some c->X.env.cells.lookup y=some c->x=y
 has:∀x,(X.env.kindOf x=some .cell∨X.env.kindOf x=some .free)->∃c,X.env.cells.lookup x=some c
 cab:∀x c,X.fn x=true->X.env.cells.lookup x=some c->X.s₀.heap.objs.size<=c
 hd:X.calm=true->X.A.handled=none
 frames:X.A.frames=some X.stack
 stk:X.stack=X.outer∨(X.stack=X.env::X.outer/\X.env.frame=some X.env.locals)
 exf:∀b∈X.ex,b≠X.env.locals/\∀x c,X.env.cells.lookup x=some c->c≠b
 bs:∀b o,X.base.get? b=some o->X.s₀.heap.get? b=some o/\X.H₀ b=none
 bsz:X.base.objs.size<=X.s₀.heap.objs.size
 noex:∀b o,X.base.get? b=some o->b∉X.ex
 exfs:∀b∈X.ex,b∉X.fs
 funs:X.s₀.heap.FunFrames X.base X.outer
 frf:∀b∈X.fs,X.H₀ b=none
structure aU (X:Cx) (pins:O4) (σ:List (Option V)) (H:Hp) (s:Shared):Prop where
 ok:X.Ok
 os:s.os=X.s₀.os
 bare:AllBare s.gens
 base:Un X.fs X.ex X.H₀ H X.s₀.heap s.heap
 loc:∃m,s.heap.Ns X.env.locals m/\∀(i:Nat) (x:Str) (v:V),X.N[i]?=some x->σ[i]?=some (some v)->Hu X.env.scope x->∃u,RelV v u/\Look X.env s.heap m x u
 cell:∀x c,X.env.cells.lookup x=some c->∃v,s.heap.IsCell c v
 free:H X.env.locals=none
 freeC:∀x c,X.env.cells.lookup x=some c->H c=none
 pin:∀p∈X.pn++pins,s.heap.get? p.1=some p.2/\H p.1=none/\p.1≠X.env.locals/\p.1∉X.fs/\∀v,p.2.data≠ .cell v
 hok:ir X.prog X.w H s.heap
 len:σ.length=X.N.length
section
variable {X:Cx} {pins:O4} {σ:List (Option V)} {H H':Hp} {s:Shared} {h':Heap}
theorem Cx.Ok.nofr (ok:X.Ok) {b:Addr} {o:Obj} (e:X.base.get? b=some o):b∉X.fs:=fun hb=>by
 have:=(ok.funs.mem hb).1;rw[e] at this;cases this
theorem aU.bs (I:aU X pins σ H s):∀b o,X.base.get? b=some o->s.heap.get? b=some o/\H b=none:=fun b o e=>
 ⟨I.base.keep b o (I.ok.bs b o e).1 (I.ok.bs b o e).2 (I.ok.nofr e) (I.ok.noex b o e),I.base.free b o (I.ok.bs b o e).1 (I.ok.bs b o e).2 (I.ok.noex b o e)⟩
theorem aU.bk (I:aU X pins σ H s):∀b o,X.base.get? b=some o->s.heap.get? b=some o:=fun b o e=>(I.bs b o e).1
theorem aU.mod (I:aU X pins σ H s):Mod X.K X.mg X.base:=I.ok.mod
theorem aU.kIn (I:aU X pins σ H s):X.K.In s.heap:=I.ok.mod.kin.keeps I.bk
theorem aU.lt (I:aU X pins σ H s):X.env.locals<s.heap.objs.size:=let ⟨_,hn,_⟩:=I.loc;hn.lt
theorem aU.sz (I:aU X pins σ H s):X.s₀.heap.objs.size<=s.heap.objs.size:=KC I.ok.above (Nat.le_of_lt I.lt)
theorem aU.nofs (I:aU X pins σ H s) {a:Addr} (h:s.heap.objs.size<=a):a∉X.fs:=fun hb=>by
 obtain ⟨_,o,ho,_⟩:=I.ok.funs.mem hb;exact absurd (KJ (Heap.lt_size ho) (KC I.sz h)) (Nat.lt_irrefl _)
theorem aU.cne (I:aU X pins σ H s):∀x c,X.env.cells.lookup x=some c->c≠X.env.locals:=fun x c e z=>by
 obtain ⟨v,o,ho,hd⟩:=I.cell x c e;obtain ⟨m,⟨o',es,ep,ho',hd',_⟩,_⟩:=I.loc;rw[z,ho'] at ho;cases ho;rw[hd'] at hd;cases hd
theorem aU.funs (I:aU X pins σ H s):s.heap.FunFrames X.base X.outer:=by
 have all:∀(l:List Env),(∀b∈kO l,b∈X.fs)->X.s₀.heap.FunFrames X.base l->s.heap.FunFrames X.base l:=by
  intro l
  induction l with
  |nil=>intro _ _;trivial
  |cons env r ih=>
   intro hs hl;obtain ⟨hk,⟨L,o,hf,hn,ho,hd⟩,hr⟩:=hl;have hL:L∈X.fs:=hs L (by unfold kO;rw[La,hf];exact Kd)
   obtain ⟨sl,e⟩:=I.base.slot L o ho (I.ok.frf L hL) hL fun z=>I.ok.exfs L z hL
   exact ⟨hk,⟨L,_,hf,hn,e,hd⟩,ih (fun b hb=>hs b (by unfold kO;rw[La,hf];exact K9 _ hb)) hr⟩
 exact all X.outer (fun _ hb=>hb) I.ok.funs
theorem aU.stack (I:aU X pins σ H s):s.heap.FunFrames X.base X.stack:=by
 rcases I.ok.stk with e|⟨e,hf⟩
 ·rw[e];exact I.funs
 ·rw[e];obtain ⟨m,hn,_⟩:=I.loc;refine .cons (by rw[I.ok.kind];decide) hf hn ?_ I.funs
  exact Heap.get?_none_of_le (KC I.ok.bsz I.ok.above)
theorem aU.stkSub (I:aU X pins σ H s):∀b∈kO X.stack,b∈X.env.locals::X.fs:=fun b hb=>by
 rcases I.ok.stk with e|⟨e,hf⟩
 ·rw[e] at hb;exact K9 _ hb
 ·rw[e] at hb;unfold kO at hb;rw[La,hf] at hb;exact hb
theorem aU.stkFree (I:aU X pins σ H s):∀b∈kO X.stack,H b=none:=fun b hb=>by
 rcases K1.mp (I.stkSub b hb) with e|hb
 ·rw[e];exact I.free
 ·obtain ⟨_,o,ho,_⟩:=I.ok.funs.mem hb;exact I.base.free b o ho (I.ok.frf b hb) fun z=>I.ok.exfs b z hb
theorem aU.step {g':Array GenState} {t':Nat} {d':Drawn} {ch:O7} (I:aU X pins σ H s)
  (hch:∀b∈ch,(b∈X.ex∨X.s₀.heap.objs.size<=b)/\b≠X.env.locals/\(∀x c,X.env.cells.lookup x=some c->c≠b)/\∀p∈X.pn++pins,p.1≠b)
  (keep:∀b o,b≠X.env.locals->b∉X.fs->b∉ch->s.heap.get? b=some o->H b=none->h'.get? b=some o)
  (slot:∀b o,b≠X.env.locals->b∈X.fs->b∉ch->s.heap.get? b=some o->H b=none->∃sl,h'.get? b=some {o with slots:=sl}) (free:∀b o,b∉ch->s.heap.get? b=some o->H b=none->H' b=none)
  (there:∀b o,b∉ch->s.heap.get? b=some o->∃o',h'.get? b=some o')
  (tups:∀b xs,H b=some (.tup xs)->H' b=some (.tup xs)) (frzs:∀b o u,H b=some (.frz o u)->H' b=some (.frz o u)) (tbls:∀b ps,H b=some (.tbl ps)->∃more,H' b=some (.tbl (ps++more)))
  (ns:∀m,s.heap.Ns X.env.locals m->h'.Ns X.env.locals m) (hok:ir X.prog X.w H' h') (hg:AllBare g'):
  aU X pins σ H' {s with heap:=h',gens:=g',drawn:=d',toks:=t'}:=by
 have neL:∀b o,X.s₀.heap.get? b=some o->b≠X.env.locals:=fun b o e=>Kf (KJ (Heap.lt_size e) I.ok.above)
 have neC:∀b o,X.s₀.heap.get? b=some o->b∉X.ex->b∉ch:=fun b o e hx hb=>by
  rcases (hch b hb).1 with z|z
  ·exact hx z
  ·exact absurd (KJ (Heap.lt_size e) z) (Nat.lt_irrefl _)
 have cellK:∀x c,X.env.cells.lookup x=some c->∀v,s.heap.IsCell c v->h'.IsCell c v:=fun x c e v ⟨o,ho,hd⟩=>by
  have nch:c∉ch:=fun z=>(hch c z).2.2.1 x c e rfl
  by_cases hc:c∈X.fs
  ·obtain ⟨sl,q⟩:=slot c o (I.cne x c e) hc nch ho (I.freeC x c e);exact ⟨_,q,hd⟩
  ·exact ⟨o,keep c o (I.cne x c e) hc nch ho (I.freeC x c e),hd⟩
 refine ⟨I.ok,I.os,hg,⟨fun b o e n hb hx=>?_,fun b o e n hb hx=>?_,fun b o e n hx=>?_,fun b o e hx=>?_,fun b xs e=>tups b xs (I.base.tups b xs e),fun b o xs e=>frzs b o xs (I.base.frzs b o xs e),fun b ps e=>?_⟩,?_,fun x c e=>?_,?_,fun x c e=>?_,fun p hp=>?_,hok,I.len⟩
 ·exact keep b o (neL b o e) hb (neC b o e hx) (I.base.keep b o e n hb hx) (I.base.free b o e n hx)
 ·obtain ⟨sl,e1⟩:=I.base.slot b o e n hb hx;obtain ⟨sl',e2⟩:=slot b _ (neL b o e) hb (neC b o e hx) e1 (I.base.free b o e n hx);exact ⟨sl',e2⟩
 ·obtain ⟨o',e1⟩:=I.base.there b o e hx;exact free b o' (neC b o e hx) e1 (I.base.free b o e n hx)
 ·obtain ⟨o',e1⟩:=I.base.there b o e hx;exact there b o' (neC b o e hx) e1
 ·obtain ⟨m1,e1⟩:=I.base.tbls b ps e;obtain ⟨m2,e2⟩:=tbls b _ e1;exact ⟨m1++m2,by rw[e2,Array.append_assoc]⟩
 ·obtain ⟨m,hn,hl⟩:=I.loc;refine ⟨m,ns m hn,fun i x v e1 e2 e3=>?_⟩
  obtain ⟨u,r,l⟩:=hl i x v e1 e2 e3;refine ⟨u,r,?_⟩;rcases l with l|⟨k,c,e,z⟩
  ·exact .inl l
  ·exact .inr ⟨k,c,e,cellK x c e _ z⟩
 ·obtain ⟨v,z⟩:=I.cell x c e;exact ⟨v,cellK x c e v z⟩
 ·obtain ⟨m,⟨o,_,_,ho,_⟩,_⟩:=I.loc;exact free _ o (fun z=>(hch _ z).2.1 rfl) ho I.free
 ·obtain ⟨v,o,ho,hd⟩:=I.cell x c e;exact free c o (fun z=>(hch c z).2.2.1 x c e rfl) ho (I.freeC x c e)
 ·obtain ⟨e,n,ne,nf,d⟩:=I.pin p hp;have nch:p.1∉ch:=fun z=>(hch p.1 z).2.2.2 p hp rfl
  exact ⟨keep p.1 p.2 ne nf nch e n,free p.1 p.2 nch e n,ne,nf,d⟩
theorem aU.un {t':Nat} (I:aU X pins σ H s) (u:Un X.fs [] H H' s.heap h') (hok:ir X.prog X.w H' h'):aU X pins σ H' {s with heap:=h',toks:=t'}:=by
 obtain ⟨m,⟨o,es,ep,ho,r⟩,_⟩:=id I.loc;obtain ⟨sl,hL⟩:=u.any ho I.free (by simp)
 exact I.step (g':=s.gens) (d':=s.drawn) (ch:= []) (fun _ z=>nomatch z) (fun b o _ hb _ e n=>u.keep b o e n hb (by simp)) (fun b o _ hb _ e n=>u.slot b o e n hb (by simp)) (fun b o _ e n=>u.free b o e n (by simp)) (fun b o _ e=>u.there b o e (by simp)) u.tups u.frzs u.tbls (fun m' hm=>by
  obtain ⟨o',es',ep',ho',r'⟩:=hm;rw[ho] at ho';cases ho';exact ⟨_,es',ep',hL,r'⟩) hok I.bare
theorem aU.call {g':Array GenState} {t':Nat} {d':Drawn} {ch:O7} (I:aU X pins σ H s) (u:Un (kO X.stack) ch H H' s.heap h') (hok:ir X.prog X.w H' h') (hg:AllBare g')
  (hch:∀b∈ch,(b∈X.ex∨X.s₀.heap.objs.size<=b)/\b≠X.env.locals/\(∀x c,X.env.cells.lookup x=some c->c≠b)/\∀p∈X.pn++pins,p.1≠b):
  aU X pins σ H' {s with heap:=h',gens:=g',drawn:=d',toks:=t'}:=by
 obtain ⟨m,⟨o,es,ep,ho,r⟩,_⟩:=id I.loc;obtain ⟨sl,hL⟩:=u.any ho I.free fun z=>(hch _ z).2.1 rfl
 exact I.step (ch:=ch) hch (fun b o hL hb hc e n=>u.keep b o e n (fun z=>(K1.mp (I.stkSub b z)).elim hL hb) hc) (fun b o _ _ hc e n=>u.any e n hc) (fun b o hc e n=>u.free b o e n hc) (fun b o hc e=>u.there b o e hc) u.tups u.frzs u.tbls (fun m' hm=>by
  obtain ⟨o',es',ep',ho',r'⟩:=hm;rw[ho] at ho';cases ho';exact ⟨_,es',ep',hL,r'⟩) hok hg
theorem aU.turned {t':Nat} {it:Addr} (I:aU X pins σ H s) (k:∀b o,b≠it->s.heap.get? b=some o->h'.get? b=some o) (hn:H it=none) (hL:it≠X.env.locals)
  (h1:it∈X.ex∨X.s₀.heap.objs.size<=it) (h2:∀x c,X.env.cells.lookup x=some c->c≠it) (h3:∀p∈X.pn++pins,p.1≠it):aU X pins σ H {s with heap:=h',toks:=t'}:=by
 have nit:∀b u,H b=some u->b≠it:=fun b u e z=>by rw[z,hn] at e;cases e
 refine I.step (g':=s.gens) (d':=s.drawn) (ch:= [it]) (fun b hb=>?_) (fun b o _ _ hc e _=>k b o (fun z=>hc (by simp[z])) e) (fun b o _ _ hc e _=>⟨o.slots,k b o (fun z=>hc (by simp[z])) e⟩) (fun _ _ _ _ n=>n)
  (fun b o hc e=>⟨o,k b o (fun z=>hc (by simp[z])) e⟩) (fun _ _ e=>e) (fun _ _ _ e=>e) (fun b ps e=>⟨#[],by rw[e];simp⟩) (fun m hm=>?_) (fun b u e=>?_) I.bare
 ·have e:b=it:=by simpa using hb
  subst e;exact ⟨h1,hL,h2,h3⟩
 ·obtain ⟨o,es,ep,ho,r⟩:=hm;exact ⟨o,es,ep,k _ o (Ne.symm hL) ho,r⟩
 ·refine (I.hok b u e).stay (fun c v hc q=>k c v ?_ q) (fun _ q=>q) fun _ _ q=>q
  rcases hc with z|z
  ·rw[z];exact nit b u e
  ·exact nit c _ z
theorem aU.tok (I:aU X pins σ H s) (t:Nat):aU X pins σ H {s with toks:=t}:=I.un (h':=s.heap) (t':=t) Un.refl I.hok
theorem aU.kept {t':Nat} (I:aU X pins σ H s) (k:∀b u,s.heap.get? b=some u->h'.get? b=some u):aU X pins σ H {s with heap:=h',toks:=t'}:=I.un (Un.kept k) (I.hok.kept k)
theorem aU.laid {a:Addr} {o:HO} {t':Nat} (I:aU X pins σ H s) (k:∀b u,s.heap.get? b=some u->h'.get? b=some u) (hp:s.heap.objs.size<=a) (new:cr X.prog X.w (aR H a o) h' a o):
  aU X pins σ (aR H a o) {s with heap:=h',toks:=t'}:=I.un (Un.laid k hp (I.hok.fresh hp)) (I.hok.laid k hp new)
theorem aU.write {x e:Addr} {o:HO} {t':Nat} (I:aU X pins σ H s) (mu:Hr (H x)) (he:e=x∨H e=some (.own x)) (k:∀b u,b≠e->s.heap.get? b=some u->h'.get? b=some u) (heo:∃u,h'.get? e=some u)
  (new:cr X.prog X.w (aR H x o) h' x o):aU X pins σ (aR H x o) {s with heap:=h',toks:=t'}:=I.un (Un.write mu he k heo) (I.hok.write mu he k heo new)
theorem aU.pins_of {pins':O4} (I:aU X pins σ H s) (h:∀p∈pins',s.heap.get? p.1=some p.2/\H p.1=none/\p.1≠X.env.locals/\p.1∉X.fs/\∀v,p.2.data≠ .cell v):aU X pins' σ H s:=
 ⟨I.ok,I.os,I.bare,I.base,I.loc,I.cell,I.free,I.freeC,fun p hp=>(KD.mp hp).elim (fun z=>I.pin p (LM _ z)) (h p),I.hok,I.len⟩
theorem lV {N:O6} (hN:N.Nodup) {i j:Nat} {x:Str} (a:N[i]?=some x) (b:N[j]?=some x):i=j:=by
 obtain ⟨h1,e1⟩:=KB.mp a;obtain ⟨h2,e2⟩:=KB.mp b;exact (List.getElem_inj hN).mp (e1.trans e2.symm)
theorem wg {M:Model} {A:Around} {E:O2} {i:Nat} {x:Str} {v:V} {u:Value} {Q:Unit->Shared->Prop} (I:aU X pins σ H s) (hN:X.N.Nodup) (hi:X.N[i]?=some x) (hx:Loc X.env.scope x) (r:RelV v u)
  (h:∀s',aU X pins (σ.set i (some v)) H s'->(∃a,Heap.SameBut a s.heap s'.heap/\(a=X.env.locals∨X.env.cells.lookup x=some a))->Q () s') (hf:X.fn x=true∨X.env.scope.names.lookup x=some .local:=by first|exact .inl rfl|exact .inr rfl|assumption):wpAny M A (storeName X.env x u) Q E s:=by
 obtain ⟨m,hn,hl⟩:=id I.loc;have hcls:(X.env.scope.kind== .class||(X.env.scope.kind== .module&&X.env.locals !=X.env.globals))=false:=by rw[I.ok.kind];rfl
 have hiσ:i<σ.length:=by rw[I.len];exact (KB.mp hi).1
 have cne:=I.cne;have tracked:∀{a:Addr} {h':Heap},(∃o,s.heap.get? a=some o/\H a=none)->Heap.SameBut a s.heap h'->ir X.prog X.w H h':=fun {a h'} ha hs b ob e=>by
  obtain ⟨_,_,hfree⟩:=ha;refine (I.hok b ob e).stay (fun c w' hc q=>(hs.2 c ?_).trans q) (fun _ q=>q) fun _ _ q=>q
  rintro rfl;rcases hc with rfl|hc
  ·rw[hfree] at e;cases e
  ·rw[hfree] at hc;cases hc
 rcases hx with hk|hk
 ·refine wpAny_storeName_local hk hn (fun h' hn' hs=>?_) hcls
  obtain ⟨oL,_,_,hoL,_⟩:=id hn;refine h _ ⟨I.ok,I.os,I.bare,⟨fun b o e n hb hx=>?_,fun b o e n hb hx=>?_,I.base.free,fun b o e hx=>?_,I.base.tups,I.base.frzs,I.base.tbls⟩,⟨_,hn',fun j y v' e1 e2 e3=>?_⟩,fun y c e=>?_,I.free,I.freeC,fun p hp=>?_,tracked ⟨oL,hoL,I.free⟩ hs,by simpa using I.len⟩ ⟨_,hs,.inl rfl⟩
  ·exact (hs.2 b (Kf (KJ (Heap.lt_size e) I.ok.above))).trans (I.base.keep b o e n hb hx)
  ·obtain ⟨sl,e1⟩:=I.base.slot b o e n hb hx;exact ⟨sl,(hs.2 b (Kf (KJ (Heap.lt_size e) I.ok.above))).trans e1⟩
  ·obtain ⟨o',e1⟩:=I.base.there b o e hx;exact ⟨o',(hs.2 b (Kf (KJ (Heap.lt_size e) I.ok.above))).trans e1⟩
  ·by_cases hj:j=i
   ·subst hj;rw[hi] at e1;cases e1;rw[List.getElem?_set_self hiσ] at e2;cases e2;exact ⟨u,r,.inl ⟨hk,by simp⟩⟩
   ·rw[List.getElem?_set_ne (Ne.symm hj)] at e2;obtain ⟨u',r',q⟩:=hl j y v' e1 e2 e3;refine ⟨u',r',?_⟩;rcases q with ⟨k,e⟩|⟨k,c,e,z⟩
    ·refine .inl ⟨k,?_⟩;have:y≠x:=fun e=>hj (lV hN e1 (e▸hi))
     simp[this,e]
    ·exact .inr ⟨k,c,e,z.sameBut hs (cne y c e)⟩
  ·obtain ⟨w',z⟩:=I.cell y c e;exact ⟨w',z.sameBut hs (cne y c e)⟩
  ·obtain ⟨e,n,ne,nf,d⟩:=I.pin p hp;exact ⟨(hs.2 p.1 ne).trans e,n,ne,nf,d⟩
 ·have hfn:X.fn x=true:=by
   rcases hf with z|z
   ·exact z
   ·rw[z] at hk;cases hk
  obtain ⟨c,hc⟩:=I.ok.has x (.inl hk);obtain ⟨w',z⟩:=I.cell x c hc;refine wpAny_storeName_cell I.ok.kind hk hc z (fun h' hc' hs=>?_)
  obtain ⟨oc,hoc,hocd⟩:=id z;refine h {s with heap:=h'} ⟨I.ok,I.os,I.bare,⟨fun b o e n hb hx=>?_,fun b o e n hb hx=>?_,I.base.free,fun b o e hx=>?_,I.base.tups,I.base.frzs,I.base.tbls⟩,⟨m,hn.sameBut hs (Ne.symm (cne x c hc)),fun j y v' e1 e2 e3=>?_⟩,fun y c' e=>?_,I.free,I.freeC,fun p hp=>?_,tracked ⟨oc,hoc,I.freeC x c hc⟩ hs,by simpa using I.len⟩ ⟨c,hs,.inr hc⟩
  ·exact (hs.2 b (Kf (KJ (Heap.lt_size e) (I.ok.cab x c hfn hc)))).trans (I.base.keep b o e n hb hx)
  ·obtain ⟨sl,e1⟩:=I.base.slot b o e n hb hx;exact ⟨sl,(hs.2 b (Kf (KJ (Heap.lt_size e) (I.ok.cab x c hfn hc)))).trans e1⟩
  ·obtain ⟨o',e1⟩:=I.base.there b o e hx;exact ⟨o',(hs.2 b (Kf (KJ (Heap.lt_size e) (I.ok.cab x c hfn hc)))).trans e1⟩
  ·by_cases hj:j=i
   ·subst hj;rw[hi] at e1;cases e1;rw[List.getElem?_set_self hiσ] at e2;cases e2;exact ⟨u,r,.inr ⟨.inl hk,c,hc,hc'⟩⟩
   ·rw[List.getElem?_set_ne (Ne.symm hj)] at e2;obtain ⟨u',r',q⟩:=hl j y v' e1 e2 e3;refine ⟨u',r',?_⟩;rcases q with q|⟨k,c',e,z'⟩
    ·exact .inl q
    ·refine .inr ⟨k,c',e,z'.sameBut hs ?_⟩;rintro rfl;exact hj (lV hN e1 (I.ok.inj _ _ _ e hc▸hi))
  ·by_cases hcc:c'=c
   ·subst hcc;exact ⟨_,hc'⟩
   ·obtain ⟨w2,z2⟩:=I.cell y c' e;exact ⟨w2,z2.sameBut hs hcc⟩
  ·obtain ⟨e,n,ne,nf,d⟩:=I.pin p hp;refine ⟨(hs.2 p.1 ?_).trans e,n,ne,nf,d⟩;intro q;rw[q,hoc] at e;have q':oc=p.2:=KI e;exact d w' (by rw[<-q'];exact hocd)
theorem jD {M:Model} {A:Around} {E:O2} {i:Nat} {x:Str} {v:V} {u:Value} {Q:Unit->Shared->Prop} (I:aU X pins σ H s) (hN:X.N.Nodup) (hi:X.N[i]?=some x) (hx:Loc X.env.scope x) (r:RelV v u)
  (h:∀s',aU X pins (σ.set i (some v)) H s'->Q () s') (hf:X.fn x=true∨X.env.scope.names.lookup x=some .local:=by first|exact .inl rfl|exact .inr rfl|assumption):wpAny M A (storeName X.env x u) Q E s:=
 wg I hN hi hx r (fun s' I' _=>h s' I') hf
theorem aU.call' {s':Shared} {ch:O7} (I:aU X pins σ H s) (ho:s'.os=s.os) (u:Un (kO X.stack) ch H H' s.heap s'.heap) (hok:ir X.prog X.w H' s'.heap) (hg:AllBare s'.gens)
  (hch:∀b∈ch,(b∈X.ex∨X.s₀.heap.objs.size<=b)/\b≠X.env.locals/\(∀x c,X.env.cells.lookup x=some c->c≠b)/\∀p∈X.pn++pins,p.1≠b):aU X pins σ H' s':=by
 obtain ⟨h',g',d',t',o'⟩:=s';have e:o'=s.os:=ho;subst e;exact I.call (g':=g') (t':=t') (d':=d') u hok hg hch
end
abbrev XK:=Value->O9->Hp->Prop
abbrev St:=List (Option V)
abbrev VK:=V->Hp->Prop
abbrev TE:=St->Hp->VK->Prop
abbrev TT:=St->Hp->(Bool->Hp->Prop)->Prop
abbrev TA:=St->Hp->(List V->Hp->Prop)->Prop
structure Ends where
 nx:St->Hp->Prop
 rt:VK
 bk:St->Hp->Prop:=fun _ _=>False
 ct:St->Hp->Prop:=fun _ _=>False
abbrev TS:=Ends->St->Hp->Prop
def EP (X:Cx) (pins:O4) (σ:St) (Q:VK) (u:Value) (s':Shared):Prop:=∃v H',aU X pins σ H' s'/\RelV v u/\Q v H'
def TP (X:Cx) (pins:O4) (σ:St) (Q:Bool->Hp->Prop) (b:Bool) (s':Shared):Prop:=∃H',aU X pins σ H' s'/\Q b H'
def AP (X:Cx) (pins:O4) (σ:St) (Q:List V->Hp->Prop) (us:O8) (s':Shared):Prop:=∃vs H',aU X pins σ H' s'/\bj vs us/\Q vs H'
def SP (X:Cx) (pins:O4) (D:Ends) (f:Flow) (s':Shared):Prop:=
 match f with
 | .next=>∃σ' H',aU X pins σ' H' s'/\D.nx σ' H'
 | .brk=>∃σ' H',aU X pins σ' H' s'/\D.bk σ' H'
 | .cont=>∃σ' H',aU X pins σ' H' s'/\D.ct σ' H'
 | .ret u=>∃v σ' H',aU X pins σ' H' s'/\RelV v u/\D.rt v H'
def PE (X:Cx) (e:Expr) (t:TE):Prop:=
 ∀(pins:O4) (s:Shared) (σ:St) (H:Hp) (Q:VK),aU X pins σ H s->t σ H Q->wpAny (model X.prog X.w) X.A (eval e X.env) (EP X pins σ Q) X.xe s
def PT (X:Cx) (e:Expr) (t:TT):Prop:=
 ∀(pins:O4) (s:Shared) (σ:St) (H:Hp) (Q:Bool->Hp->Prop),aU X pins σ H s->t σ H Q->wpAny (model X.prog X.w) X.A (isTrue e X.env (eval e X.env)) (TP X pins σ Q) X.xe s
def PW (X:Cx) (e:Expr) (t:TT):Prop:=
 ∀(whole:Sem Value) (pins:O4) (s:Shared) (σ:St) (H:Hp) (Q:Bool->Hp->Prop),aU X pins σ H s->t σ H Q->wpAny (model X.prog X.w) X.A (isTrue e X.env whole) (TP X pins σ Q) X.xe s
theorem PW.pt {X:Cx} {e:Expr} {t:TT} (h:PW X e t):PT X e t:=h _
def PA (X:Cx) (es:List Expr) (t:TA):Prop:=
 ∀(pos:Pos) (pins:O4) (s:Shared) (σ:St) (H:Hp) (Q:List V->Hp->Prop),aU X pins σ H s->t σ H Q->wpAny (model X.prog X.w) X.A (spliced (backTo pos (starEach es X.env))) (AP X pins σ Q) X.xe s
def PS (X:Cx) (st:Stmt) (t:TS):Prop:=
 ∀(pins:O4) (s:Shared) (σ:St) (H:Hp) (D:Ends),aU X pins σ H s->t D σ H->wpAny (model X.prog X.w) X.A (exec st X.env) (SP X pins D) X.xe s
def lE (X:Cx) (st:List Stmt) (t:TS):Prop:=
 ∀(pins:O4) (s:Shared) (σ:St) (H:Hp) (D:Ends),aU X pins σ H s->t D σ H->wpAny (model X.prog X.w) X.A (execs st X.env) (SP X pins D) X.xe s
theorem bW {α:Type} {t:Sem α} {Q Q':α->Shared->Prop} {M:Model} {A:Around} {E:O2} {s:Shared} (h:wpAny M A t Q E s) (hQ:∀a s,Q a s->Q' a s):wpAny M A t Q' E s:=wpAny_mono h hQ fun _ _ x=>x
section
variable {X:Cx}
def qI (i:Nat):TE:=fun σ H Q=>∃v,σ[i]?=some (some v)/\Q v H
def tC (v:V):TE:=fun _ H Q=>Q v H
theorem CT {i:Nat} {x:Str} {pos:Pos} (hN:X.N[i]?=some x) (hv:Hu X.env.scope x) (hd:(x==("__debug__" :Str))=false:=by decide) (hcd:(x==("__classdict__" :Str))=false:=by decide):PE X (.Name x pos) (qI i):=by
 intro pins s σ H Q I h;obtain ⟨v,e,h⟩:=h;obtain ⟨m,hn,hl⟩:=I.loc;obtain ⟨u,r,l⟩:=hl i x v hN e hv;have fin:EP X pins σ Q u s:=⟨v,H,I,r,h⟩;rcases l with ⟨hk,hm⟩|⟨hk,c,hc,hcell⟩
 ·exact wpAny_Name (wpAny_loadName_local I.ok.kind hk hn hm fin) hd
 ·rcases hk with hk|hk
  ·exact wpAny_Name (wpAny_loadName_cell I.ok.kind hk hc hcell fin) hd
  ·exact wpAny_Name (wpAny_loadName_free I.ok.kind hk hc hcell fin hcd) hd
theorem ac {i j pos}:PE X (.Constant (.int i) j pos) (tC (.int i)):=fun _ _ _ H _ I h=>wpAny_Constant_int ⟨.int i,H,I.tok _,⟨_,rfl⟩,h⟩
theorem kP {b j pos}:PE X (.Constant (.bool b) j pos) (tC (.bl b)):=fun _ _ _ H _ I h=>Constant_bool ⟨.bl b,H,I,rfl,h⟩
theorem bK {j pos}:PE X (.Constant .none j pos) (tC .non):=fun _ _ _ H _ I h=>Constant_none ⟨.non,H,I,rfl,h⟩
theorem aw {x j pos}:PE X (.Constant (.str x) j pos) (tC (.str x)):=fun _ _ _ H _ I h=>Calls.Constant_str ⟨.str x,H,I.tok _,⟨_,rfl⟩,h⟩
def Gl (X:Cx) (x:Str):Prop:=X.env.kindOf x=some .globalImplicit
theorem dQ {E:O2} {pins:O4} {s:Shared} {σ:St} {H:Hp} {x:Str} {u:Value} {pos:Pos} {Q:O2} (I:aU X pins σ H s) (hg:Gl X x) (hm:X.mg x=some u) (h:Q u s)
  (hd:(x==("__debug__" :Str))=false:=by decide):wpAny (model X.prog X.w) X.A (eval (.Name x pos) X.env) Q E s:=
 Calls.Name_function_global I.ok.kind hg (Calls.loadGlobal_global (by rw[I.ok.glob];exact I.mod.glob.keeps I.bk) hm h) hd
theorem gY {E:O2} {pins:O4} {s:Shared} {σ:St} {H:Hp} {x:Str} {u:Value} {pos:Pos} {Q:O2} (I:aU X pins σ H s) (hg:Gl X x) (hm:X.mg x=none) (hv:bootBuiltins x=some u) (h:Q u s)
  (hn:x≠ "__name__" :=by decide) (hd:(x==("__debug__" :Str))=false:=by decide):wpAny (model X.prog X.w) X.A (eval (.Name x pos) X.env) Q E s:=by
 obtain ⟨mb,h1,h2⟩:=I.mod.blt;exact Calls.Name_function_global I.ok.kind hg (Calls.loadGlobal_builtin (by rw[I.ok.glob];exact I.mod.glob.keeps I.bk) hm (by rw[I.ok.blt];exact h1.keeps I.bk) ((h2 x hn).trans hv) h) hd
theorem cJ {x:Str} {v:V} {u:Value} {pos:Pos} (hg:Gl X x) (hm:X.mg x=some u) (r:RelV v u) (hd:(x==("__debug__" :Str))=false:=by decide):PE X (.Name x pos) (tC v):=
 fun _ _ _ H _ I h=>dQ I hg hm ⟨v,H,I,r,h⟩ hd
theorem gz {x:Str} {v:V} {u:Value} {pos:Pos} (hg:Gl X x) (hm:X.mg x=none) (hv:bootBuiltins x=some u) (r:RelV v u) (hn:x≠ "__name__" :=by decide) (hd:(x==("__debug__" :Str))=false:=by decide):PE X (.Name x pos) (tC v):=
 fun _ _ _ H _ I h=>gY I hg hm hv ⟨v,H,I,r,h⟩ hn hd
variable {a b:Expr} {ta tb:TE} {pos:Pos}
def tB (t:TE):TT:=fun σ H Q=>t σ H fun x H1=>∃c,x= .bl c/\Q c H1
theorem eW {e:Expr} {t:TE} (h:PE X e t) (he:∀whole,isTrue e X.env whole=(do let v<-whole;standAt e.pos;holding [v] (truthy v)):=by intro _;rfl):PT X e (tB t):=by
 intro pins s σ H Q I hw;refine isTrue_plain (bW (h pins s σ H _ I hw) fun v s1 ⟨x,H1,I1,r1,q1⟩=>?_) (he _)
 obtain ⟨d,rfl,q⟩:=q1;cases r1;exact wpAny_truthy_bool ⟨H1,I1,q⟩
variable {tA tB':TT} {rest:List Expr}
def HL (t u:TT):TT:=fun σ H Q=>t σ H fun c H1=>if c=true then u σ H1 Q else Q false H1
def JE (t u:TT):TT:=fun σ H Q=>t σ H fun c H1=>if c=true then Q true H1 else u σ H1 Q
def HM (t:TT):TT:=fun σ H Q=>t σ H fun c H1=>Q (!c) H1
theorem lF (ha:PT X a tA):PW X (.BoolOp .And [a] pos) tA:=by
 intro wh pins s σ H Q I h;refine isTrue_and (bW (ha pins s σ H Q I h) fun c s1 e=>?_)
 cases c with
 |true=>exact isTrue_and_nil e
 |false=>exact e
theorem di (ha:PT X a tA):PW X (.BoolOp .Or [a] pos) tA:=by
 intro wh pins s σ H Q I h;refine isTrue_or (bW (ha pins s σ H Q I h) fun c s1 e=>?_)
 cases c with
 |false=>exact isTrue_or_nil e
 |true=>exact e
theorem o6 (ha:PT X a tA) (hb:PW X (.BoolOp .And (b::rest) pos) tB'):PW X (.BoolOp .And (a::b::rest) pos) (HL tA tB'):=by
 intro wh pins s σ H Q I h;refine isTrue_and (bW (ha pins s σ H _ I h) fun c s1 ⟨H1,I1,q1⟩=>?_)
 cases c with
 |true=>exact hb wh pins s1 σ H1 Q I1 q1
 |false=>exact ⟨H1,I1,q1⟩
theorem dJ (ha:PT X a tA) (hb:PW X (.BoolOp .Or (b::rest) pos) tB'):PW X (.BoolOp .Or (a::b::rest) pos) (JE tA tB'):=by
 intro wh pins s σ H Q I h;refine isTrue_or (bW (ha pins s σ H _ I h) fun c s1 ⟨H1,I1,q1⟩=>?_)
 cases c with
 |true=>exact ⟨H1,I1,q1⟩
 |false=>exact hb wh pins s1 σ H1 Q I1 q1
theorem iu (ha:PT X a tA):PT X (.UnaryOp .Not a pos) (HM tA):=by
 intro pins s σ H Q I h;exact isTrue_not (ha pins s σ H (fun c H1=>Q (!c) H1) I h)
def E9 (ta tb:TE):TE:=fun σ H Q=>ta σ H fun x H1=>∃c,x= .bl c/\if c=true then tb σ H1 Q else Q (.bl false) H1
def Fa (ta:TE):TE:=fun σ H Q=>ta σ H fun x H1=>∃c,x= .bl c/\Q (.bl (!c)) H1
theorem sO {op} {t:TE} (h:PE X a t):PE X (.BoolOp op [a] pos) t:=fun pins s σ H Q I hw=>BoolOp_one (h pins s σ H Q I hw)
theorem sP (ha:PE X a ta) (hb:PE X (.BoolOp .And (b::rest) pos) tb):PE X (.BoolOp .And (a::b::rest) pos) (E9 ta tb):=by
 intro pins s σ H Q I h;refine BoolOp_and (bW (ha pins s σ H _ I h) fun v s1 ⟨x,H1,I1,r1,q1⟩=>?_)
 obtain ⟨c,rfl,q1⟩:=q1;cases r1;refine wpAny_truthy_bool ?_;cases c with
 |true=>exact hb pins s1 σ H1 Q I1 q1
 |false=>exact ⟨.bl false,H1,I1,rfl,q1⟩
theorem xM (ha:PE X a ta):PE X (.UnaryOp .Not a pos) (Fa ta):=by
 intro pins s σ H Q I h;refine UnaryOp_ (bW (ha pins s σ H _ I h) fun v s1 ⟨x,H1,I1,r1,q1⟩=>?_)
 obtain ⟨c,rfl,q1⟩:=q1;cases r1;exact not_of (wpAny_truthy_bool ⟨.bl (!c),H1,I1,rfl,q1⟩)
def JF (t:TT) (ta tb:TE):TE:=fun σ H Q=>t σ H fun c H1=>if c=true then ta σ H1 Q else tb σ H1 Q
theorem gJ {c:Expr} (hc:PT X c tA) (ha:PE X a ta) (hb:PE X b tb):PE X (.IfExp c a b pos) (JF tA ta tb):=by
 intro pins s σ H Q I h;refine wpAny_IfExp (bW (hc pins s σ H _ I h) fun d s1 ⟨H1,I1,q1⟩=>?_)
 cases d with
 |true=>exact ha pins s1 σ H1 Q I1 q1
 |false=>exact hb pins s1 σ H1 Q I1 q1
end
noncomputable def nR:V->Bool
 | .raw _ _=>false
 |_=>true
def aJ (K:K0) (H:Hp) (a:Addr) (xs:List V):Prop:=
 Rd H a (.lst xs)∨
  ∃(o:Obj) (its:Array Value) (n:Nat),K.lookup a=some o/\o.cls= .type "list" /\o.dict=none/\o.data= .seq its n/\its.size<=sizeLine/\bj xs its.toList/\xs.all nR=true
def dD (K:K0) (H:Hp) (a:Addr) (xs:List V):Prop:=
 Rd H a (.tup xs)∨
  ∃(o:Obj) (its:Array Value) (n:Nat),K.lookup a=some o/\o.cls= .type "tuple" /\o.data= .seq its n/\its.size<=sizeLine/\bj xs its.toList/\xs.all nR=true
noncomputable def HN:Value->Option V
 | .none=>some .non
 | .bool b=>some (.bl b)
 | .int i _=>some (.int i)
 | .str x _=>some (.str x)
 | .bytes b _=>some (.byt b)
 | .float b _=>some (.flt b)
 | .ref a=>some (.ref a)
 | .type n=>some (.ty n)
 |_=>none
theorem RelV.abs {x:V} {u:Value} (r:RelV x u) (n:nR x=true):HN u=some x:=by
 cases x with
 |non=>cases r;rfl
 |bl _=>cases r;rfl
 |int _=>obtain ⟨t,rfl⟩:=r;rfl
 |str _=>obtain ⟨t,rfl⟩:=r;rfl
 |byt _=>obtain ⟨t,rfl⟩:=r;rfl
 |flt _=>obtain ⟨t,rfl⟩:=r;rfl
 |ref _=>cases r;rfl
 |ty _=>cases r;rfl
 |raw _ _=>cases n
theorem RelV.inj {x y:V} {u:Value} (r:RelV x u) (q:RelV y u) (n:nR x=true) (m:nR y=true):x=y:=KI ((r.abs n).symm.trans (q.abs m))
theorem bj.inj:∀{xs ys:List V} {us:O8},bj xs us->bj ys us->xs.all nR=true->ys.all nR=true->xs=ys
 |_,_,_,.nil,.nil,_,_=>rfl
 |_,_,_,.cons r t,.cons r' t',n,m=>by
  rw[List.all_cons,KQ] at n m;rw[r.inj r' n.1 m.1,bj.inj t t' n.2 m.2]
section
variable {X:Cx} {pins:O4} {σ:St} {H:Hp} {s:Shared} {a:Addr} {xs ys:List V}
theorem aJ.of {K:K0} (h:H a=some (.lst xs)):aJ K H a xs:= .inl (.inl h)
theorem dD.of {K:K0} (h:H a=some (.tup xs)):dD K H a xs:= .inl (.inl h)
theorem aU.list (I:aU X pins σ H s) (h:aJ X.K H a xs):∃its:O8,bj xs its/\PlainL s.heap a its.toArray/\xs.length<=sizeLine:=by
 rcases h with h|⟨o,its,n,hk,hc,hd,hs,hz,r,_⟩
 ·obtain ⟨z,its,n,r,e⟩:=h.ok I.hok;exact ⟨its,r,⟨_,n,e,rfl,rfl,rfl⟩,z⟩
 ·refine ⟨its.toList,r,⟨o,n,I.kIn a o hk,hc,hd,by simpa using hs⟩,?_⟩
  have e:=r.length;simp only[Lx] at e
  lia
theorem aU.tuple (I:aU X pins σ H s) (h:dD X.K H a xs):∃its:O8,bj xs its/\IsTup s.heap a its.toArray/\xs.length<=sizeLine:=by
 rcases h with h|⟨o,its,n,hk,hc,hs,hz,r,_⟩
 ·obtain ⟨z,its,r,p⟩:=h.ok I.hok;exact ⟨its,r,p,z⟩
 ·refine ⟨its.toList,r,⟨o,I.kIn a o hk,hc,n,by simpa using hs⟩,?_⟩
  have e:=r.length;simp only[Lx] at e
  lia
theorem aU.list_inj (I:aU X pins σ H s) (h:aJ X.K H a xs) (h':aJ X.K H a ys):xs=ys:=by
 rcases h with h|⟨o,its,n,hk,_,_,hd,_,r,m⟩
 ·rcases h' with h'|⟨o',its',n',hk',_,_,hd',_,r',m'⟩
  ·rcases h with h|⟨o,h⟩<;>rcases h' with h'|⟨o',h'⟩<;>(rw[h] at h';cases h')<;>rfl
  ·have:=(I.bs a o' (I.ok.mod.kin a o' hk')).2;rcases h with h|⟨o,h⟩<;>(rw[h] at this;cases this)
 ·rcases h' with h'|⟨o',its',n',hk',_,_,hd',_,r',m'⟩
  ·have:=(I.bs a o (I.ok.mod.kin a o hk)).2;rcases h' with h'|⟨o',h'⟩<;>(rw[h'] at this;cases this)
  ·rw[hk] at hk';cases hk';rw[hd] at hd';injection hd' with d1 _
   subst d1;exact r.inj r' m m'
theorem aU.tuple_inj (I:aU X pins σ H s) (h:dD X.K H a xs) (h':dD X.K H a ys):xs=ys:=by
 rcases h with h|⟨o,its,n,hk,_,hd,_,r,m⟩
 ·rcases h' with h'|⟨o',its',n',hk',_,hd',_,r',m'⟩
  ·rcases h with h|⟨o,h⟩<;>rcases h' with h'|⟨o',h'⟩<;>(rw[h] at h';cases h')<;>rfl
  ·have:=(I.bs a o' (I.ok.mod.kin a o' hk')).2;rcases h with h|⟨o,h⟩<;>(rw[h] at this;cases this)
 ·rcases h' with h'|⟨o',its',n',hk',_,hd',_,r',m'⟩
  ·have:=(I.bs a o (I.ok.mod.kin a o hk)).2;rcases h' with h'|⟨o',h'⟩<;>(rw[h'] at this;cases this)
  ·rw[hk] at hk';cases hk';rw[hd] at hd';injection hd' with d1 _
   subst d1;exact r.inj r' m m'
end
abbrev Cx.wish (X:Cx) (E:O2):Cx:={X with xe:=E}
abbrev Cx.nox (X:Cx):Cx:=X.wish fun _ _=>False
theorem Cx.Ok.wish {X:Cx} (ok:X.Ok) (E:O2):(X.wish E).Ok:=
 ⟨ok.mod,ok.kind,ok.glob,ok.blt,ok.above,ok.inj,ok.has,ok.cab,ok.hd,ok.frames,ok.stk,ok.exf,ok.bs,ok.bsz,ok.noex,ok.exfs,ok.funs,ok.frf⟩
theorem Cx.Ok.unwish {X:Cx} {E:O2} (ok:(X.wish E).Ok):X.Ok:=
 ⟨ok.mod,ok.kind,ok.glob,ok.blt,ok.above,ok.inj,ok.has,ok.cab,ok.hd,ok.frames,ok.stk,ok.exf,ok.bs,ok.bsz,ok.noex,ok.exfs,ok.funs,ok.frf⟩
section
variable {X:Cx} {pins:O4} {σ:St} {H:Hp} {s:Shared} {E:O2}
theorem aU.wish (I:aU X pins σ H s) (E:O2):aU (X.wish E) pins σ H s:=⟨I.ok.wish E,I.os,I.bare,I.base,I.loc,I.cell,I.free,I.freeC,I.pin,I.hok,I.len⟩
theorem aU.unwish (I:aU (X.wish E) pins σ H s):aU X pins σ H s:=⟨I.ok.unwish,I.os,I.bare,I.base,I.loc,I.cell,I.free,I.freeC,I.pin,I.hok,I.len⟩
theorem SP.unwish {D:Ends} {f:Flow} {s':Shared} (h:SP (X.wish E) pins D f s'):SP X pins D f s':=by
 cases f with
 |next=>obtain ⟨σ',H',I,q⟩:=h;exact ⟨σ',H',I.unwish,q⟩
 |brk=>obtain ⟨σ',H',I,q⟩:=h;exact ⟨σ',H',I.unwish,q⟩
 |cont=>obtain ⟨σ',H',I,q⟩:=h;exact ⟨σ',H',I.unwish,q⟩
 |ret u=>obtain ⟨v,σ',H',I,r,q⟩:=h;exact ⟨v,σ',H',I.unwish,r,q⟩
theorem lE.nox {st:List Stmt} {t:TS} (h:lE X.nox st t):lE X st t:=fun pins s σ H D I hw=>
 wpAny_mono (h pins s σ H D (I.wish _) hw) (fun _ _ q=>q.unwish) fun _ _ z=>False.elim z
end
section
variable {X:Cx} {st:Stmt} {rest:List Stmt} {t u:TS} {e:Expr} {te:TE} {pos:Pos}
def bJ:TS:=fun D σ H=>D.nx σ H
def aY (t u:TS):TS:=fun D σ H=>t {D with nx:=u D} σ H
theorem aI:lE X [] bJ:=fun _ _ σ H _ I h=>wpAny_execs_nil ⟨σ,H,I,h⟩
theorem aj (h1:PS X st t) (h2:lE X rest u):lE X (st::rest) (aY t u):=by
 intro pins s σ H D I h;refine wpAny_execs_cons (bW (h1 pins s σ H {D with nx:=u D} I h) fun f s1 q=>?_)
 cases f with
 |next=>
  obtain ⟨σ',H',I',q⟩:=q;exact h2 pins s1 σ' H' D I' q
 |ret v=>exact q
 |brk=>exact q
 |cont=>exact q
theorem aq (h1:PS X st t):lE X [st] t:=by
 intro pins s σ H D I h;refine wpAny_execs_cons (bW (h1 pins s σ H D I h) fun f s1 q=>?_)
 cases f with
 |next=>exact wpAny_execs_nil q
 |ret v=>exact q
 |brk=>exact q
 |cont=>exact q
theorem aU.quiet {pins:O4} {σ:St} {H:Hp} {s:Shared} (I:aU X pins σ H s):interactive X.env=false:=by simp[interactive,I.ok.kind]
def Fb (te:TE):TS:=fun D σ H=>te σ H fun _ H1=>D.nx σ H1
theorem bP (he:PE X e te) (hs:swapsWith e none pos.line X.env=pure false:=by rfl):PS X (.Expr e pos) (Fb te):=by
 intro pins s σ H D I h;exact wpAny_Expr_any (bW (he pins s σ H _ I h) fun v s1 ⟨x,H1,I1,r1,q1⟩=>⟨σ,H1,I1,q1⟩) I.quiet hs
def AA (te:TE):TS:=fun D σ H=>te σ H D.rt
theorem aM (he:PE X e te):PS X (.Return (some e) pos) (AA te):=by
 intro pins s σ H D I h;exact wpAny_Return_some (bW (he pins s σ H _ I h) fun v s1 ⟨x,H1,I1,r1,q1⟩=>⟨x,σ,H1,I1,r1,q1⟩)
def HP (c:TT) (t u:TS):TS:=fun D σ H=>c σ H fun b H1=>if b=true then t D σ H1 else u D σ H1
theorem aW {c:Expr} {a b:List Stmt} {tc:TT} (hc:PT X c tc) (ha:lE X a t) (hb:lE X b u):PS X (.If c a b pos) (HP tc t u):=by
 intro pins s σ H D I h;refine wpAny_If (bW (hc pins s σ H _ I h) fun d s1 ⟨H1,I1,q1⟩=>?_)
 cases d with
 |true=>exact ha pins s1 σ H1 D I1 q1
 |false=>exact hb pins s1 σ H1 D I1 q1
def CU:TS:=fun _ _ _=>False
theorem qJ:PS X st CU:=fun _ _ _ _ _ _ h=>h.elim
end
abbrev TG:=V->St->Hp->(St->Hp->Prop)->Prop
abbrev AB:=List V->St->Hp->(St->Hp->Prop)->Prop
def PG (X:Cx) (target:Expr) (t:TG):Prop:=
 ∀(pins:O4) (s:Shared) (σ:St) (H:Hp) (v:V) (u:Value) (Q:St->Hp->Prop),aU X pins σ H s->RelV v u->t v σ H Q->
  wpAny (model X.prog X.w) X.A (assign target X.env u) (fun _ s'=>∃σ' H',aU X pins σ' H' s'/\Q σ' H') X.xe s
def Fc (X:Cx) (ts:List Expr) (t:AB):Prop:=
 ∀(pins:O4) (s:Shared) (σ:St) (H:Hp) (vs:List V) (us:O8) (Q:St->Hp->Prop),aU X pins σ H s->bj vs us->t vs σ H Q->
  wpAny (model X.prog X.w) X.A (assignInOrder ((assignEach ts X.env).map (·.2)) us) (fun _ s'=>∃σ' H',aU X pins σ' H' s'/\Q σ' H') X.xe s
abbrev CV:=V->V->V->Hp->(Hp->Prop)->Prop
def Fd (X:Cx) (t:CV):Prop:=
 ∀(pins:O4) (s:Shared) (σ:St) (H:Hp) (o i v:V) (ov iv u:Value) (Q:Hp->Prop),aU X pins σ H s->RelV o ov->RelV i iv->RelV v u->t o i v H Q->
  wpAny (model X.prog X.w) X.A (setItem ov iv u) (fun _ s'=>∃H',aU X pins σ H' s'/\Q H') X.xe s
section
variable {X:Cx} {pos:Pos}
def bv (i:Nat):TG:=fun v σ H Q=>Q (σ.set i (some v)) H
theorem uF {i:Nat} {x:Str} (hN:X.N.Nodup) (hi:X.N[i]?=some x) (hx:Loc X.env.scope x) (hf:X.fn x=true∨X.env.scope.names.lookup x=some .local:=by first|exact .inl rfl|exact .inr rfl|assumption):PG X (.Name x pos) (bv i):=by
 intro pins s σ H v u Q I r h;exact wpAny_assign_Name (jD I hN hi hx r (fun s' I'=>⟨_,H,I',h⟩) hf)
def HQ:AB:=fun vs σ H Q=>vs= []/\Q σ H
def Fe (t:TG) (u:AB):AB:=fun vs σ H Q=>∃v r,vs=v::r/\t v σ H fun σ' H'=>u r σ' H' Q
theorem eA:Fc X [] HQ:=by
 intro pins s σ H vs us Q I r h;obtain ⟨e,h⟩:=h;subst e;cases r;exact assignInOrder_nil ⟨σ,H,I,h⟩
theorem bM {e:Expr} {es:List Expr} {t:TG} {u:AB} (h1:PG X e t) (h2:Fc X es u)
  (hs:(assignEach (e::es) X.env).map (·.2)=assign e X.env::(assignEach es X.env).map (·.2):=by rfl):Fc X (e::es) (Fe t u):=by
 intro pins s σ H vs us Q I r h;obtain ⟨v,vr,e1,h⟩:=h;subst e1;cases r with
 |cons r rr=>
  rw[hs];refine assignInOrder_cons (bW (h1 pins s σ H _ _ _ I r h) fun _ s1 ⟨σ1,H1,I1,q1⟩=>?_)
  exact h2 pins s1 σ1 H1 _ _ Q I1 rr q1
def HR (K:K0) (n:Nat) (t:AB):TG:=fun v σ H Q=>∃a xs,v= .ref a/\dD K H a xs/\xs.length=n/\t xs σ H Q
theorem lW {es:List Expr} {k:Nat} {t:AB} {n:Nat} (hc:X.calm=true) (h:Fc X es t)
  (hn:(assignEach es X.env).length=n:=by rfl) (hst:(assignEach es X.env).findIdx? (·.1)=none:=by rfl):PG X (.Tuple es k pos) (HR X.K n t):=by
 intro pins s σ H v u Q I r hw;obtain ⟨a,xs,e1,hq,hl,hw⟩:=hw;subst e1;cases r;obtain ⟨its,rv,ht,hz⟩:=I.tuple hq;refine assign_Tuple_tuple (I.ok.hd hc) ht (by simp[hn,<-hl,rv.length]) hst fun h' hx=>?_
 have I1:aU X pins σ H {s with heap:=h'}:=I.kept (t':=s.toks) fun b o e=>hx b o (Kf (Heap.lt_size e)) e
 exact h pins _ σ H xs _ Q I1 (by simpa using rv) hw
def HS (to ti:TE) (t:CV):TG:=fun v σ H Q=>to σ H fun o H1=>ti σ H1 fun i H2=>t o i v H2 fun H3=>Q σ H3
theorem CW {o i:Expr} {to ti:TE} {t:CV} (ho:PE X o to) (hi:PE X i ti) (hs:Fd X t)
  (ha:∀v,assign (.Subscript o i pos) X.env v=(do
   let ov<-holding [v] (eval o X.env)
   let iv<-holding [v,ov] (eval i X.env)
   standAt pos
   holding [v,ov,iv] (setItem ov iv v)
   release [v,ov,iv] []):=by intro _;rfl):PG X (.Subscript o i pos) (HS to ti t):=by
 intro pins s σ H v u Q I r h;rw[ha];refine wpAny_bind (wpAny_holding (bW (ho pins s σ H _ I h) fun ov s1 ⟨x,H1,I1,r1,q1⟩=>?_))
 refine wpAny_bind (wpAny_holding (bW (hi pins s1 σ H1 _ I1 q1) fun iv s2 ⟨y,H2,I2,r2,q2⟩=>?_))
 refine wpAny_bind (wpAny_standAt (wpAny_bind (wpAny_holding (bW (hs pins s2 σ H2 x y v ov iv u _ I2 r1 r2 r q2) fun _ s3 ⟨H3,I3,q3⟩=>?_))))
 exact wpAny_release ⟨σ,H3,I3,q3⟩
def AC (te:TE) (g:TG):TS:=fun D σ H=>te σ H fun x H1=>g x σ H1 D.nx
theorem ko {tg e:Expr} {te:TE} {g:TG} (he:PE X e te) (hg:PG X tg g) (hs:swapsWithSole [tg] e pos.line X.env=pure false:=by rfl) (hw:swappedStores [tg] e X.env=pure none:=by rfl)
  (h1:(assignEach [tg] X.env).map (·.2)= [assign tg X.env]:=by rfl):PS X (.Assign [tg] e pos) (AC te g):=by
 intro pins s σ H D I h;refine wpAny_Assign_stores (bW (he pins s σ H _ I h) fun v s1 ⟨x,H1,I1,r1,q1⟩=>?_) hs hw
 rw[h1];exact bW (hg pins s1 σ H1 x v _ I1 r1 q1) fun _ s2 q=>q
theorem sQ {i:Nat} {x:Str} {e:Expr} {te:TE} {pos':Pos} (hN:X.N.Nodup) (hi:X.N[i]?=some x) (hx:Loc X.env.scope x) (he:PE X e te) (hs:swapsWith e (some (.Name x pos')) pos.line X.env=pure false:=by rfl) (hf:X.fn x=true∨X.env.scope.names.lookup x=some .local:=by first|exact .inl rfl|exact .inr rfl|assumption):
  PS X (.Assign [.Name x pos'] e pos) (AC te (bv i)):=by
 intro pins s σ H D I h;refine wpAny_Assign_Name (bW (he pins s σ H _ I h) fun v s1 ⟨y,H1,I1,r1,q1⟩=>?_) hs
 exact jD I1 hN hi hx r1 (fun s2 I2=>⟨_,H1,I2,q1⟩) hf
end
section
variable {X:Cx} {pos:Pos}
def xN (c:TT) (tb:TS):TS:=fun D σ H=>∃W:Nat->St->Hp->Prop,(∃m,W m σ H)/\∀m σ H,W m σ H->
 c σ H fun b H1=>if b=true then ∃N:St->Hp->Prop,(∀σ' H',N σ' H'->∃m',m'<m/\W m' σ' H')/\tb {D with nx:=N,ct:=N,bk:=D.nx} σ H1 else D.nx σ H1
theorem qK {c:Expr} {body:List Stmt} {tc:TT} {tb:TS} (hp:PassesOwn (model X.prog X.w) X.A X.env X.xe) (hc:PT X c tc) (hb:lE X body tb):PS X (.While c body [] pos) (xN tc tb):=by
 intro pins s σ H D I h;obtain ⟨W,⟨m0,w0⟩,turn⟩:=h;refine wpAny_While (codeAny_whileLoop (fun n s'=>∃σ' H',aU X pins σ' H' s'/\W n σ' H') ?_ m0 ⟨σ,H,I,w0⟩)
 rintro n s1 ⟨σ1,H1,I1,w1⟩;refine wpAny_passesOwn hp (bW (hc pins s1 σ1 H1 _ I1 (turn n σ1 H1 w1)) fun b s2 ⟨H2,I2,q2⟩=>?_)
 cases b with
 |true=>
  obtain ⟨N,hN,q2⟩:=q2;rw[if_pos rfl];refine wpAny_passesOwn hp (bW (hb pins s2 σ1 H2 _ I2 q2) fun f s3 q3=>?_)
  cases f with
  |next=>
   obtain ⟨σ3,H3,I3,n3⟩:=q3;obtain ⟨m',hm,w3⟩:=hN σ3 H3 n3;exact ⟨m',hm,σ3,H3,I3,w3⟩
  |cont=>
   obtain ⟨σ3,H3,I3,n3⟩:=q3;obtain ⟨m',hm,w3⟩:=hN σ3 H3 n3;exact ⟨m',hm,σ3,H3,I3,w3⟩
  |brk=>exact q3
  |ret v=>exact q3
 |false=>
  rw[if_neg KM];exact wpAny_execs_nil ⟨σ1,H2,I2,q2⟩
end
structure It where
 go:Nat->Hp->Prop
 yld:Nat->Hp->V->Hp->Prop
 stop:Nat->Hp->Prop
def i7 (X:Cx) (pins:O4) (H:Hp) (b:Addr):Prop:=
 H b=none/\b≠X.env.locals/\b∉X.fs/\(b∈X.ex∨X.s₀.heap.objs.size<=b)/\(∀x c,X.env.cells.lookup x=some c->c≠b)/\∀p∈X.pn++pins,p.1≠b
theorem aU.fpOk {X:Cx} {pins:O4} {σ:St} {H H':Hp} {s:Shared} {b:Addr} (I:aU X pins σ H s) (hb:s.heap.objs.size<=b) (hn:H' b=none):i7 X pins H' b:=by
 refine ⟨hn,LX (KJ I.lt hb),I.nofs hb,.inr (KC I.sz hb),fun x c e z=>?_,fun p hp z=>?_⟩
 ·obtain ⟨v,q⟩:=I.cell x c e;exact absurd (KJ q.lt (by rw[z];exact hb)) (Nat.lt_irrefl _)
 ·exact absurd (KJ (Heap.lt_size (I.pin p hp).1) (by rw[z];exact hb)) (Nat.lt_irrefl _)
structure Turn (P:Program) (w:World) (K:K0) (tg:Expr) (J:It) (fp:O7) (it:Addr) (tn:Nat->Heap->Prop):Prop where
 mem:it∈fp
 obj:∀i h,tn i h->∀b∈fp,∃o,h.get? b=some o/\∀v,o.data≠ .cell v
 keep:∀i h h',tn i h->(∀b∈fp,∀o,h.get? b=some o->h'.get? b=some o)->tn i h'
 item:∀(X:Cx),X.prog=P->X.w=w->X.K=K->X.calm=true->∀(i:Nat) (pins:O4) (s:Shared) (σ:St) (H:Hp) (E:O2),aU X pins σ H s->(∀b∈fp,i7 X pins H b)->tn i s.heap->J.go i H->
  wpAny (model P w) X.A (pyNext (.ref it)) (fun r s1=>∃u,r=some u/\
   wpAny (model P w) X.A (letOwnedTupleGo tg (.ref it) u) (fun _ s2=>∃x H',aU X pins σ H' s2/\RelV x u/\J.yld i H x H'/\tn (i+1) s2.heap/\∀b∈fp,H' b=none) E s1) E s
 done:∀(X:Cx),X.prog=P->X.w=w->X.K=K->X.calm=true->∀(i:Nat) (pins:O4) (s:Shared) (σ:St) (H:Hp) (E:O2),aU X pins σ H s->(∀b∈fp,i7 X pins H b)->tn i s.heap->J.stop i H->
  wpAny (model P w) X.A (pyNext (.ref it)) (fun r s1=>r=none/\aU X pins σ H s1) E s
 self:∀(A:Around) (i:Nat) (s:Shared) (Q:O2) (E:O2),tn i s.heap->Q (.ref it) s->wpAny (model P w) A (pyIter (.ref it)) Q E s
abbrev TI:=St->Hp->(It->Hp->Prop)->Prop
def HU (X:Cx) (pins:O4) (σ:St) (tg:Expr) (R:It->Hp->Prop) (itv:Value) (s2:Shared):Prop:=
 ∃(it:Addr) (fp:O7) (tn:Nat->Heap->Prop) (J:It) (H':Hp),itv= .ref it/\aU X pins σ H' s2/\Turn X.prog X.w X.K tg J fp it tn/\tn 0 s2.heap/\(∀b∈fp,i7 X pins H' b)/\R J H'
def PI (X:Cx) (tg iter:Expr) (wi:TI):Prop:=
 ∀(pins:O4) (s:Shared) (σ:St) (H:Hp) (R:It->Hp->Prop),aU X pins σ H s->wi σ H R->
  wpAny (model X.prog X.w) X.A (eval iter X.env) (fun v s1=>wpAny (model X.prog X.w) X.A (pyIter v) (HU X pins σ tg R) X.xe s1) X.xe s
theorem xO {M:Model} {A:Around} {E:O2} {s:Shared} {tg:Expr} {it:Addr} {u:Value} {o:Obj} {n:String} {vs:Array Value} {Q:Unit->Shared->Prop} (ho:s.heap.get? it=some o) (hc:o.cls= .type n) (hd:o.data= .fields vs)
    (hn: ["enumerate","zip","dict_itemiterator","dict_reverseitemiterator","odict_iterator","itertools.zip_longest","itertools.pairwise"].contains n=false) (hQ:Q () s):wpAny M A (letOwnedTupleGo tg (.ref it) u) Q E s:=by
  unfold letOwnedTupleGo;cases tg<;>first
    |exact wpAny_pure hQ
    | (cases u<;>first
        |exact wpAny_pure hQ
        | (refine wpAny_bind (wpAny_load ho ?_)
           rw[hc,hd];show wpAny M A (if (["enumerate","zip","dict_itemiterator","dict_reverseitemiterator","odict_iterator","itertools.zip_longest","itertools.pairwise"].contains n&&vs[0]?==some (rawInt _))=true then _ else _) Q E s
           rw[if_neg (by intro h;rw[hn,Bool.false_and] at h;cases h)]
           exact wpAny_pure hQ))
noncomputable def CY (K:K0) (a:Addr):It:=
 ⟨fun i H=>∃xs x,aJ K H a xs/\xs[i]?=some x,fun i H x H'=>H'=H/\∀xs,aJ K H a xs->xs[i]?=some x,fun i H=>∃xs,aJ K H a xs/\xs.length<=i⟩
noncomputable def xP (lo:Int) (n:Nat):It:=⟨fun i _=>i<n,fun i H x H'=>H'=H/\x= .int (lo+i),fun i _=>n<=i⟩
theorem wj {P:Program} {w:World} {K:K0} {tg:Expr} (a it:Addr):Turn P w K tg (CY K a) [it] it (fun i h=>h.IsListIter it a i) where
 mem:=by simp
 obj:=fun i h st b hb=>by
  have e:b=it:=by simpa using hb
  subst e;obtain ⟨o,e,c,d⟩:=st;exact ⟨o,e,fun v z=>by rw[d] at z;cases z⟩
 keep:=fun i h h' st k=>st.at fun o e=>k it (by simp) o e
 item:=by
  intro X hP hw hK hc i pins s σ H E I hf st hg;subst hP hw hK;obtain ⟨xs,x,hq,hx⟩:=hg;obtain ⟨its,rv,p,hz⟩:=I.list hq;obtain ⟨u,hu,ru⟩:=rv.get hx;obtain ⟨f0,f1,f2,f3,f4,f5⟩:=hf it (by simp)
  refine wpAny_pyNext_list_item st p.isList (x:=u) (by simpa using hu) fun h' st' sb=>?_
  have I1:aU X pins σ H {s with heap:=h'}:=I.turned (t':=s.toks) (fun b o hb e=>(sb.2 b hb).trans e) f0 f1 f3 f4 f5
  obtain ⟨o,e,c,d⟩:=id st';exact ⟨u,rfl,xO (s:={s with heap:=h'}) e c d (by decide) ⟨x,H,I1,ru,⟨rfl,fun ys hy=>by rw[I.list_inj hy hq];exact hx⟩,st',fun b hb=>(hf b hb).1⟩⟩
 done:=by
  intro X hP hw hK hc i pins s σ H E I hf st hg;subst hP hw hK;obtain ⟨xs,hq,hx⟩:=hg;obtain ⟨its,rv,p,hz⟩:=I.list hq;obtain ⟨f0,f1,f2,f3,f4,f5⟩:=hf it (by simp)
  have hl:=rv.length;exact wpAny_pyNext_list_end (I.ok.hd hc) st p.isList (by simp;lia) fun h' eb=>⟨rfl,I.turned (t':=s.toks) (fun b o hb e=>eb b o hb e) f0 f1 f3 f4 f5⟩
 self:=fun _ _ _ _ _ st h=>wpAny_pyIter_listiter st h
theorem sR {P:Program} {w:World} {K:K0} {tg:Expr} (it:Addr) (lo:Int) (n:Nat):Turn P w K tg (xP lo n) [it] it (fun i h=>IsRangeIter h it (lo+(i:Nat)*1) ((n:Int)-(i:Nat)) 1) where
 mem:=by simp
 obj:=fun i h st b hb=>by
  have e:b=it:=by simpa using hb
  subst e;exact ⟨_,st,fun v z=>by
   have z':Data.fields _=Data.cell v:=z;cases z'⟩
 keep:=fun i h h' st k=>k it (by simp) _ st
 item:=by
  intro X hP hw hK hc i pins s σ H E I hf st hg;subst hP hw hK;obtain ⟨f0,f1,f2,f3,f4,f5⟩:=hf it (by simp)
  have W:=Walks.range (prog:=X.prog) (w:=X.w) (I.ok.hd hc) it lo 1 n;refine W.item i s _ _ hg st fun v h' tk hv st' kk=>?_
  obtain ⟨t,rfl⟩:=hv;have I1:aU X pins σ H {s with heap:=h',toks:=tk}:=I.turned (fun b o hb e=>kk b o (by simpa using hb) e) f0 f1 f3 f4 f5
  refine ⟨_,rfl,xO (s:={s with heap:=h',toks:=tk}) (n:= "range_iterator") st' rfl rfl (by decide) ⟨.int (lo+i),H,I1,⟨t,?_⟩,⟨rfl,rfl⟩,st',fun b hb=>(hf b hb).1⟩⟩
  rw[Int.mul_one]
 done:=by
  intro X hP hw hK hc i pins s σ H E I hf st hg;subst hP hw hK;obtain ⟨f0,f1,f2,f3,f4,f5⟩:=hf it (by simp)
  exact wpAny_pyNext_range_end (I.ok.hd hc) st (by have:n<=i:=hg;lia) fun h' eb=>⟨rfl,I.turned (t':=s.toks) (fun b o hb e=>eb b o hb e) f0 f1 f3 f4 f5⟩
 self:=fun _ _ _ _ _ st h=>wpAny_pyIter_rangeiter st h
variable {X:Cx} {tg:Expr}
def Ff (K:K0) (tl:TE):TI:=fun σ H R=>tl σ H fun x H1=>∃a,x= .ref a/\(∃xs,aJ K H1 a xs)/\R (CY K a) H1
theorem jE {l:Expr} {tl:TE} (hl:PE X l tl):PI X tg l (Ff X.K tl):=by
 intro pins s σ H R I h;refine bW (hl pins s σ H _ I h) fun v s1 ⟨x,H1,I1,r1,q1⟩=>?_
 obtain ⟨a,e,⟨xs,hq⟩,q⟩:=q1;subst e;cases r1;obtain ⟨its,rv,p,hz⟩:=I1.list hq;refine wpAny_pyIter_list p.isList ?_;refine ⟨s1.heap.objs.size,[s1.heap.objs.size],_,_,H1,rfl,I1.kept (t':=s1.toks) fun b o e=>Heap.get?_push_of_some _ e,wj a _,⟨_,Heap.get?_push_size _ rfl,rfl,rfl⟩,fun b hb=>?_,q⟩
 have e:b=s1.heap.objs.size:=by simpa using hb
 subst e;exact I1.fpOk (K4 _) (I1.hok.fresh (K4 _))
theorem qL {pins:O4} {σ:St} {H:Hp} {s:Shared} {R:It->Hp->Prop} {E:O2} {lo hi:Int} {t u v:Tok} {tk:Nat} (I:aU X pins σ H s) (h1: -(2^62)<=lo) (h2:lo<2^62) (h3: -(2^62)<=hi) (h4:hi<2^62)
  (q:R (xP lo (hi-lo).toNat) H):wpAny (model X.prog X.w) X.A (pyIter (.ref s.heap.objs.size)) (HU X pins σ tg R) E {s with heap:=s.heap.push {cls:= .type "range",data:= .fields #[.int lo t,.int hi u,.int 1 v]},toks:=tk}:=by
 refine wpAny_pyIter_range (IsRange.new ..) (small_one h1 h2 h3 h4) ?_;have I1:aU X pins σ H {s with heap:=s.heap.push {cls:= .type "range",data:= .fields #[.int lo t,.int hi u,.int 1 v]},toks:=tk}:=I.kept fun b o e=>Heap.get?_push_of_some _ e
 refine ⟨(s.heap.push {cls:= .type "range",data:= .fields #[.int lo t,.int hi u,.int 1 v]}).objs.size,[(s.heap.push {cls:= .type "range",data:= .fields #[.int lo t,.int hi u,.int 1 v]}).objs.size],_,_,H,rfl,
  I1.kept (t':=tk) fun b o e=>Heap.get?_push_of_some _ e,sR _ lo (hi-lo).toNat,?_,fun b hb=>?_,q⟩
 ·have e1:lo+((0:Nat):Int)*1=lo:=by simp
  have e2:(((hi-lo).toNat:Nat):Int)-((0:Nat):Int)=Builtin.Range.rangeSize lo hi 1:=by rw[rangeSize_one];split<;>lia
  show IsRangeIter _ _ (lo+((0:Nat):Int)*1) ((((hi-lo).toNat:Nat):Int)-((0:Nat):Int)) 1;rw[e1,e2];exact Heap.get?_push_size _ rfl
 ·have e:b=(s.heap.push {cls:= .type "range",data:= .fields #[.int lo t,.int hi u,.int 1 v]}).objs.size:=by simpa using hb
  subst e;exact I1.fpOk (K4 _) (I1.hok.fresh (K4 _))
def Fg (ta:TA):TI:=fun σ H R=>ta σ H fun vs H1=>∃j:Int,vs= [.int j]/\ -(2^62)<=j/\j<2^62/\R (xP 0 j.toNat) H1
def Fh (ta:TA):TI:=fun σ H R=>ta σ H fun vs H1=>∃i j:Int,vs= [.int i,.int j]/\(-(2^62)<=i/\i<2^62/\ -(2^62)<=j/\j<2^62)/\R (xP i (j-i).toNat) H1
theorem kt {a:Expr} {ta:TA} {p pos:Pos} (hg:Gl X "range") (hm:X.mg "range" =none) (ha:PA X [a] ta) (hs:starEach [a] X.env= [(false,eval a X.env)]:=by rfl):PI X tg (.Call (.Name "range" p) [a] [] pos) (Fg ta):=by
 intro pins s σ H R I h;refine Call_ (gY I hg hm boot_range (LJ (bW (ha pos pins s σ H _ I h) fun us s1 ⟨vs,H1,I1,r1,q1⟩=>?_) hs rfl))
 obtain ⟨j,e,q1,q2,q⟩:=q1;subst e;cases r1 with
 |cons r rr=>
  cases rr;obtain ⟨t,rfl⟩:=r;exact call_range_1 (qL I1 (by lia) (by lia) q1 q2 (by simpa using q))
theorem nL {a b:Expr} {ta:TA} {p pos:Pos} (hg:Gl X "range") (hm:X.mg "range" =none) (ha:PA X [a,b] ta) (hs:starEach [a,b] X.env= [(false,eval a X.env),(false,eval b X.env)]:=by rfl) (hs2:starEach [b] X.env= [(false,eval b X.env)]:=by rfl):
  PI X tg (.Call (.Name "range" p) [a,b] [] pos) (Fh ta):=by
 intro pins s σ H R I h;refine Call_ (gY I hg hm boot_range (LJ (bW (ha pos pins s σ H _ I h) fun us s1 ⟨vs,H1,I1,r1,q1⟩=>?_) (by rw[hs,hs2]) (by rw[hs2];rfl)))
 obtain ⟨i,j,e,⟨q1,q2,q3,q4⟩,q⟩:=q1;subst e;cases r1 with
 |cons r rr=>
  cases rr with
  |cons r' rr=>
   cases rr;obtain ⟨t,rfl⟩:=r;obtain ⟨t',rfl⟩:=r';exact call_range_2 (qL I1 q1 q2 q3 q4 q)
def HV (wi:TI) (g:TG) (tb:TS):TS:=fun D σ H=>wi σ H fun J H1=>∃W:Nat->Nat->St->Hp->Prop,(∃m,W 0 m σ H1)/\∀i m σ H,W i m σ H->
 (J.stop i H/\D.nx σ H)∨(J.go i H/\∃N:St->Hp->Prop,(∀σ' H',N σ' H'->∃m',m'<m/\W (i+1) m' σ' H')/\∀x H',J.yld i H x H'->g x σ H' fun σ2 H2=>tb {D with nx:=N,ct:=N,bk:=D.nx} σ2 H2)
noncomputable def ph (fp:O7) (h:Heap):O4:=fp.filterMap fun b=>(h.get? b).map fun o=>(b,o)
theorem eY {fp:O7} {h:Heap} {b:Addr} {o:Obj} (hb:b∈fp) (e:h.get? b=some o):(b,o)∈ph fp h:=List.mem_filterMap.mpr ⟨b,hb,by rw[e];rfl⟩
theorem wm {fp:O7} {h:Heap} {p:Addr×Obj} (hp:p∈ph fp h):p.1∈fp/\h.get? p.1=some p.2:=by
 obtain ⟨b,hb,e⟩:=List.mem_filterMap.mp hp;cases q:h.get? b with
 |none=>rw[q] at e;cases e
 |some o=>
  rw[q] at e;have e':(b,o)=p:=KI e;subst e';exact ⟨hb,q⟩
theorem aU.pinned {pins:O4} {σ:St} {H:Hp} {s:Shared} {fp:O7} (I:aU X pins σ H s) (hf:∀b∈fp,i7 X pins H b) (ho:∀b∈fp,∃o,s.heap.get? b=some o/\∀v,o.data≠ .cell v):aU X (pins++ph fp s.heap) σ H s:=
 I.pins_of fun p hp=>(KD.mp hp).elim (fun z=>I.pin p (KF _ z)) fun z=>by
  obtain ⟨hb,e⟩:=wm z;obtain ⟨f0,f1,f2,_⟩:=hf p.1 hb;obtain ⟨o,e',d⟩:=ho p.1 hb;rw[e] at e';cases e';exact ⟨e,f0,f1,f2,d⟩
theorem aU.unpinned {pins pl:O4} {σ:St} {H:Hp} {s:Shared} (I:aU X (pins++pl) σ H s):aU X pins σ H s:=I.pins_of fun p hp=>I.pin p (KF _ (LM _ hp))
theorem je {iter:Expr} {body:List Stmt} {wi:TI} {g:TG} {tb:TS} {pos:Pos} (hp:PassesOwn (model X.prog X.w) X.A X.env X.xe) (hc:X.calm=true) (hi:PI X tg iter wi) (hg:PG X tg g) (hb:lE X body tb)
  (hs:∀x,foldedSetIterable iter X.env x=pure x:=by intro _;rfl):PS X (.For tg iter body [] pos) (HV wi g tb):=by
 intro pins s σ H D I h;refine wpAny_For (bW (hi pins s σ H _ I h) fun v s1 h1=>bW h1 fun itv s2 h2=>?_) hs
 obtain ⟨it,fp,tn,J,H2,e,I2,T,st2,f2,W,⟨m0,w0⟩,turn⟩:=h2;subst e;have stat:∀{H':Hp},(∀b∈fp,H' b=none)->∀b∈fp,i7 X pins H' b:=fun hn b hb=>⟨hn b hb,(f2 b hb).2⟩
 refine codeAny_forLoop_any (fun n s'=>∃i σ' H',aU X pins σ' H' s'/\tn i s'.heap/\(∀b∈fp,H' b=none)/\W i n σ' H') ?_ m0 ⟨0,σ,H2,I2,st2,fun b hb=>(f2 b hb).1,w0⟩
 rintro n s3 ⟨i,σ3,H3,I3,st3,fr3,w3⟩;rcases turn i n σ3 H3 w3 with ⟨stop,qn⟩|⟨go,N,hN,step⟩
 ·refine wpAny_passesOwn hp (bW (T.done X rfl rfl rfl hc i pins s3 σ3 H3 X.xe I3 (stat fr3) st3 stop) fun r s4 ⟨hr,I4⟩=>?_)
  subst hr;exact wpAny_execs_nil ⟨σ3,H3,I4,qn⟩
 ·refine wpAny_passesOwn hp (bW (T.item X rfl rfl rfl hc i pins s3 σ3 H3 X.xe I3 (stat fr3) st3 go) fun r s4 ⟨u,hr,h4⟩=>?_)
  subst hr;refine wpAny_passesOwn hp (bW h4 fun _ s5 ⟨x,H5,I5,r5,y5,st5,fr5⟩=>?_)
  have I5':=I5.pinned (stat fr5) (T.obj _ _ st5);refine wpAny_passesOwn hp (bW (hg _ s5 σ3 H5 x u _ I5' r5 (step x H5 y5)) fun _ s6 ⟨σ6,H6,I6,q6⟩=>?_)
  refine wpAny_passesOwn hp (bW (hb _ s6 σ6 H6 _ I6 q6) fun f s7 q7=>?_)
  have again:∀{σ7:St} {H7:Hp},aU X (pins++ph fp s5.heap) σ7 H7 s7->N σ7 H7->∃m,m<n/\∃i σ' H',aU X pins σ' H' s7/\tn i s7.heap/\(∀b∈fp,H' b=none)/\W i m σ' H':=fun {σ7 H7} I7 n7=>by
   obtain ⟨m',hm,w7⟩:=hN σ7 H7 n7;refine ⟨m',hm,i+1,σ7,H7,I7.unpinned,T.keep _ _ _ st5 fun b hb o e=>(I7.pin (b,o) (KF _ (KF _ (eY hb e)))).1,fun b hb=>?_,w7⟩
   obtain ⟨o,e,d⟩:=T.obj _ _ st5 b hb;exact (I7.pin (b,o) (KF _ (KF _ (eY hb e)))).2.1
  cases f with
  |next=>obtain ⟨σ7,H7,I7,n7⟩:=q7;exact again I7 n7
  |cont=>obtain ⟨σ7,H7,I7,n7⟩:=q7;exact again I7 n7
  |brk=>obtain ⟨σ7,H7,I7,q7⟩:=q7;exact ⟨σ7,H7,I7.unpinned,q7⟩
  |ret v=>obtain ⟨x7,σ7,H7,I7,r7,q7⟩:=q7;exact ⟨x7,σ7,H7,I7.unpinned,r7,q7⟩
theorem nM {lo:Int} {n:Nat} {g:TG} {tb:TS} {D:Ends} {σ:St} {H:Hp} (Pv:Nat->St->Hp->Prop) (h0:Pv 0 σ H)
  (hs:∀i σ H,i<n->Pv i σ H->g (.int (lo+i)) σ H fun σ2 H2=>tb {D with nx:=Pv (i+1),ct:=Pv (i+1),bk:=D.nx} σ2 H2) (hd:∀σ H,Pv n σ H->D.nx σ H):
  ∃W:Nat->Nat->St->Hp->Prop,(∃m,W 0 m σ H)/\∀i m σ H,W i m σ H->
   ((xP lo n).stop i H/\D.nx σ H)∨((xP lo n).go i H/\∃N:St->Hp->Prop,(∀σ' H',N σ' H'->∃m',m'<m/\W (i+1) m' σ' H')/\∀x H',(xP lo n).yld i H x H'->g x σ H' fun σ2 H2=>tb {D with nx:=N,ct:=N,bk:=D.nx} σ2 H2):=by
 refine ⟨fun i m σ H=>m=n-i/\i<=n/\Pv i σ H,⟨n,by simp,LF _,h0⟩,?_⟩
 rintro i m σ H ⟨rfl,hi,p⟩
 by_cases hlt:i<n
 ·refine .inr ⟨hlt,Pv (i+1),fun σ' H' p'=>⟨n-(i+1),by lia,rfl,hlt,p'⟩,fun x H' y=>?_⟩
  obtain ⟨e,y⟩:=y;subst e y;exact hs i σ _ hlt p
 ·have e:i=n:=by lia
  subst e;exact .inl ⟨K4 _,hd σ H p⟩
theorem qM {c:TT} {tb:TS} {D:Ends} {σ:St} {H:Hp} (Pv:St->Hp->Prop) (μ:St->Hp->Nat) (h0:Pv σ H)
  (hs:∀σ H,Pv σ H->c σ H fun b H1=>if b=true then tb {D with nx:=fun σ' H'=>Pv σ' H'/\μ σ' H'<μ σ H,ct:=fun σ' H'=>Pv σ' H'/\μ σ' H'<μ σ H,bk:=D.nx} σ H1 else D.nx σ H1)
  (mono:∀σ H Q Q',(∀b H1,Q b H1->Q' b H1)->c σ H Q->c σ H Q'):xN c tb D σ H:=by
 refine ⟨fun m σ H=>m=μ σ H/\Pv σ H,⟨_,rfl,h0⟩,?_⟩
 rintro m σ H ⟨rfl,p⟩;refine mono σ H _ _ (fun b H1 q=>?_) (hs σ H p)
 cases b with
 |true=>exact ⟨_,fun σ' H' ⟨p',l⟩=>⟨_,l,rfl,p'⟩,q⟩
 |false=>exact q
abbrev R2:=V->V->Hp->VK->Prop
def i8 (X:Cx) (f:Value->Value->Sem Value) (r:R2):Prop:=
 ∀(pins:O4) (s:Shared) (σ:St) (H:Hp) (x y:V) (v u:Value) (Q:VK),aU X pins σ H s->RelV x v->RelV y u->r x y H Q->
  wpAny (model X.prog X.w) X.A (f v u) (EP X pins σ Q) X.xe s
def HW (X:Cx) (f:Value->Sem Value) (r:V->Hp->VK->Prop):Prop:=
 ∀(pins:O4) (s:Shared) (σ:St) (H:Hp) (x:V) (v:Value) (Q:VK),aU X pins σ H s->RelV x v->r x H Q->
  wpAny (model X.prog X.w) X.A (f v) (EP X pins σ Q) X.xe s
def fV (X:Cx) (f:Value) (r:List V->Hp->VK->Prop):Prop:=
 ∀(pins:O4) (s:Shared) (σ:St) (H:Hp) (xs:List V) (us:O8) (Q:VK),aU X pins σ H s->bj xs us->r xs H Q->
  wpAny (model X.prog X.w) X.A (call f us) (EP X pins σ Q) X.xe s
def CZ (r:R2) (ta tb:TE):TE:=fun σ H Q=>ta σ H fun x H1=>tb σ H1 fun y H2=>r x y H2 Q
def JG (r:V->Hp->VK->Prop) (ta:TE):TE:=fun σ H Q=>ta σ H fun x H1=>r x H1 Q
def rI (C:Int->Int->Prop) (g:Int->Int->V):R2:=fun x y H Q=>∃i j,x= .int i/\y= .int j/\C i j/\Q (g i j) H
def AD (g:Int->Int->V):R2:=fun x y H Q=>∃i j,x= .int i/\y= .int j/\Q (g i j) H
def rU (g:Int->V):V->Hp->VK->Prop:=fun x H Q=>∃i,x= .int i/\Q (g i) H
section
variable {a b c:Expr} {ta tb tc:TE} {pos:Pos}
theorem C0 (ha:PE X a ta) (hb:PE X b tb) {pins:O4} {s:Shared} {σ:St} {H:Hp} {R:V->V->Hp->Prop} (I:aU X pins σ H s)
  (h:ta σ H fun x H1=>tb σ H1 fun y H2=>R x y H2) {Q:O2} {f:Value->Value->Sem Value}
  (hf:∀v u s2 x y H2,aU X pins σ H2 s2->RelV x v->RelV y u->R x y H2->wpAny (model X.prog X.w) X.A (f v u) Q X.xe s2):
  wpAny (model X.prog X.w) X.A (eval a X.env) (fun v s₁=>wpAny (model X.prog X.w) X.A (eval b X.env) (fun u s₂=>wpAny (model X.prog X.w) X.A (f v u) Q X.xe s₂) X.xe s₁) X.xe s:=by
 refine bW (ha pins s σ H _ I h) fun v s1 ⟨x,H1,I1,r1,q1⟩=>?_
 refine bW (hb pins s1 σ H1 _ I1 q1) fun u s2 ⟨y,H2,I2,r2,q2⟩=>?_
 exact hf v u s2 x y H2 I2 r1 r2 q2
theorem av {op:Operator} {r:R2} (ho:i8 X (binaryOp op) r) (ha:PE X a ta) (hb:PE X b tb):PE X (.BinOp a op b pos) (CZ r ta tb):=by
 intro pins s σ H Q I h;exact wpAny_BinOp (C0 ha hb I h fun v u s2 x y H2 I2 rx ry q=>ho pins s2 σ H2 x y v u Q I2 rx ry q)
theorem lX {op:UnaryOp} {r:V->Hp->VK->Prop} (ho:HW X (unaryOp op) r) (ha:PE X a ta):PE X (.UnaryOp op a pos) (JG r ta):=by
 intro pins s σ H Q I h;exact UnaryOp_ (bW (ha pins s σ H _ I h) fun v s1 ⟨x,H1,I1,r1,q1⟩=>ho pins s1 σ H1 x v Q I1 r1 q1)
theorem Hv {f:Value->Value->Sem Value} {C:Int->Int->Prop} {g:Int->Int->Int}
  (rule:∀(i j:Int) (t u:Tok) (s:Shared) (Q:O2) (E:O2),C i j->Q (.int (g i j) s.toks) {s with toks:=s.toks+1}->wpAny (model X.prog X.w) X.A (f (.int i t) (.int j u)) Q E s):
  i8 X f (rI C fun i j=> .int (g i j)):=by
 intro pins s σ H x y v u Q I rx ry h;obtain ⟨i,j,rfl,rfl,hc,q⟩:=h;obtain ⟨t,rfl⟩:=rx;obtain ⟨t',rfl⟩:=ry;exact rule i j t t' s _ _ hc ⟨.int (g i j),H,I.tok _,⟨_,rfl⟩,q⟩
theorem Fi {f:Value->Value->Sem Value} {g:Int->Int->Int}
  (rule:∀(i j:Int) (t u:Tok) (s:Shared) (Q:O2) (E:O2),Q (.int (g i j) s.toks) {s with toks:=s.toks+1}->wpAny (model X.prog X.w) X.A (f (.int i t) (.int j u)) Q E s):
  i8 X f (AD fun i j=> .int (g i j)):=by
 intro pins s σ H x y v u Q I rx ry h;obtain ⟨i,j,rfl,rfl,q⟩:=h;obtain ⟨t,rfl⟩:=rx;obtain ⟨t',rfl⟩:=ry;exact rule i j t t' s _ _ ⟨.int (g i j),H,I.tok _,⟨_,rfl⟩,q⟩
theorem AE {f:Value->Value->Sem Value} {g:Int->Int->Bool}
  (rule:∀(i j:Int) (t u:Tok) (s:Shared) (Q:O2) (E:O2),Q (.bool (g i j)) s->wpAny (model X.prog X.w) X.A (f (.int i t) (.int j u)) Q E s):
  i8 X f (AD fun i j=> .bl (g i j)):=by
 intro pins s σ H x y v u Q I rx ry h;obtain ⟨i,j,rfl,rfl,q⟩:=h;obtain ⟨t,rfl⟩:=rx;obtain ⟨t',rfl⟩:=ry;exact rule i j t t' s _ _ ⟨.bl (g i j),H,I,rfl,q⟩
theorem bV:i8 X (binaryOp .Add) (AD fun i j=> .int (i+j)):=Fi fun _ _ _ _ _ _ _ q=>add_int q
theorem iw:i8 X (binaryOp .Sub) (AD fun i j=> .int (i-j)):=Fi fun _ _ _ _ _ _ _ q=>sub_int q
theorem aN:i8 X (binaryOp .Mod) (rI (fun _ j=>j≠0) fun i j=> .int (i.fmod j)):=Hv fun _ _ _ _ _ _ _ hc q=>mod_int' hc q
theorem JH {f:Value->Sem Value} {g:Int->Int}
  (rule:∀(i:Int) (t:Tok) (s:Shared) (Q:O2) (E:O2),Q (.int (g i) s.toks) {s with toks:=s.toks+1}->wpAny (model X.prog X.w) X.A (f (.int i t)) Q E s):
  HW X f (rU fun i=> .int (g i)):=by
 intro pins s σ H x v Q I rx h;obtain ⟨i,rfl,q⟩:=h;obtain ⟨t,rfl⟩:=rx;exact rule i t s _ _ ⟨.int (g i),H,I.tok _,⟨_,rfl⟩,q⟩
theorem jf:HW X (unaryOp .USub) (rU fun i=> .int (-i)):=JH fun _ _ _ _ _ q=>neg_int q
end
noncomputable def Fj:V->V->Bool
 | .non,.non=>true| .non,.int _=>true| .int _,.non=>true| .non,.bl _=>true| .bl _,.non=>true| .non,.str _=>true| .str _,.non=>true
 | .int _,.int _=>true| .bl _,.bl _=>true| .str _,.str _=>true| .byt _,.byt _=>true
 | .int _,.str _=>true| .str _,.int _=>true| .bl _,.str _=>true| .str _,.bl _=>true
 |_,_=>false
def JI:R2:=fun x y H Q=>Fj x y=true/\Q (.bl (decide (x=y))) H
def JJ:R2:=fun x y H Q=>Fj x y=true/\Q (.bl (!decide (x=y))) H
theorem uG {i j:Int}:decide (V.int i=V.int j)=(i==j):=by
 rw[Bool.eq_iff_iff];simp
theorem xQ {i j:Bool}:decide (V.bl i=V.bl j)=(i==j):=by
 rw[Bool.eq_iff_iff];simp
theorem uH {i j:Str}:decide (V.str i=V.str j)=(i==j):=by
 rw[Bool.eq_iff_iff];simp
theorem uI {i j:Array UInt8}:decide (V.byt i=V.byt j)=(i.toList==j.toList):=by
 rw[Bool.eq_iff_iff];cases i;cases j;simp
section
variable {a b c:Expr} {ta tb tc:TE} {pos:Pos}
theorem bT {pins:O4} {σ:St} {H:Hp} {s:Shared} {Q:VK} {k k':Bool} (I:aU X pins σ H s) (q:Q (.bl k) H) (e:k=k'):EP X pins σ Q (.bool k') s:=by
 subst e;exact ⟨.bl k,H,I,rfl,q⟩
theorem bO:i8 X (compareOp .Eq) JI:=by
 intro pins s σ H x y v u Q I rx ry h;obtain ⟨hs,q⟩:=h;cases x with
 |non=>
  cases rx;cases y with
  |non=>cases ry;exact PySem.EqNone.eq_none_none (bT I q (by simp))
  |bl j=>cases ry;exact PySem.EqNone.eq_none_bool (bT I q (by simp))
  |int j=>obtain ⟨t',rfl⟩:=ry;exact PySem.EqNone.eq_none_int (bT I q (by simp))
  |str j=>obtain ⟨t',rfl⟩:=ry;exact PySem.EqNone.eq_none_str (bT I q (by simp))
  |_=>exact absurd (show false=true from hs) KM
 |bl i=>
  cases rx;cases y with
  |non=>cases ry;exact PySem.EqNone.eq_bool_none (bT I q (by simp))
  |bl j=>cases ry;exact eq_bool (bT I q xQ)
  |str j=>obtain ⟨t',rfl⟩:=ry;exact PySem.EqMixed.eq_bool_str (bT I q (by simp))
  |_=>exact absurd (show false=true from hs) KM
 |int i=>
  obtain ⟨t,rfl⟩:=rx;cases y with
  |non=>cases ry;exact PySem.EqNone.eq_int_none (bT I q (by simp))
  |int j=>obtain ⟨t',rfl⟩:=ry;exact eq_int (bT I q uG)
  |str j=>obtain ⟨t',rfl⟩:=ry;exact PySem.EqMixed.eq_int_str (bT I q (by simp))
  |_=>exact absurd (show false=true from hs) KM
 |str i=>
  obtain ⟨t,rfl⟩:=rx;cases y with
  |non=>cases ry;exact PySem.EqNone.eq_str_none (bT I q (by simp))
  |bl j=>cases ry;exact PySem.EqMixed.eq_str_bool (bT I q (by simp))
  |int j=>obtain ⟨t',rfl⟩:=ry;exact PySem.EqMixed.eq_str_int (bT I q (by simp))
  |str j=>obtain ⟨t',rfl⟩:=ry;exact eq_str (bT I q uH)
  |_=>exact absurd (show false=true from hs) KM
 |byt i=>
  obtain ⟨t,rfl⟩:=rx;cases y with
  |byt j=>obtain ⟨t',rfl⟩:=ry;exact PySem.W.eq_bytes (bT I q uI)
  |_=>exact absurd (show false=true from hs) KM
 |_=>cases y<;>exact absurd (show false=true from hs) KM
theorem kQ:i8 X (compareOp .NotEq) JJ:=by
 intro pins s σ H x y v u Q I rx ry h;obtain ⟨hs,q⟩:=h;cases x with
 |non=>
  cases rx;cases y with
  |non=>cases ry;exact PySem.EqNone.ne_none_none (bT I q (by simp))
  |bl j=>cases ry;exact PySem.EqNone.ne_none_bool (bT I q (by simp))
  |int j=>obtain ⟨t',rfl⟩:=ry;exact PySem.EqNone.ne_none_int (bT I q (by simp))
  |str j=>obtain ⟨t',rfl⟩:=ry;exact PySem.EqNone.ne_none_str (bT I q (by simp))
  |_=>exact absurd (show false=true from hs) KM
 |bl i=>
  cases rx;cases y with
  |non=>cases ry;exact PySem.EqNone.ne_bool_none (bT I q (by simp))
  |bl j=>cases ry;exact ne_bool (bT I q (congrArg not xQ))
  |str j=>obtain ⟨t',rfl⟩:=ry;exact PySem.EqMixed.ne_bool_str (bT I q (by simp))
  |_=>exact absurd (show false=true from hs) KM
 |int i=>
  obtain ⟨t,rfl⟩:=rx;cases y with
  |non=>cases ry;exact PySem.EqNone.ne_int_none (bT I q (by simp))
  |int j=>obtain ⟨t',rfl⟩:=ry;exact ne_int (bT I q (congrArg not uG))
  |str j=>obtain ⟨t',rfl⟩:=ry;exact PySem.EqMixed.ne_int_str (bT I q (by simp))
  |_=>exact absurd (show false=true from hs) KM
 |str i=>
  obtain ⟨t,rfl⟩:=rx;cases y with
  |non=>cases ry;exact PySem.EqNone.ne_str_none (bT I q (by simp))
  |bl j=>cases ry;exact PySem.EqMixed.ne_str_bool (bT I q (by simp))
  |int j=>obtain ⟨t',rfl⟩:=ry;exact PySem.EqMixed.ne_str_int (bT I q (by simp))
  |str j=>obtain ⟨t',rfl⟩:=ry;exact ne_str (bT I q (congrArg not uH))
  |_=>exact absurd (show false=true from hs) KM
 |byt i=>
  obtain ⟨t,rfl⟩:=rx;cases y with
  |byt j=>obtain ⟨t',rfl⟩:=ry;exact PySem.W.ne_bytes (bT I q (congrArg not uI))
  |_=>exact absurd (show false=true from hs) KM
 |_=>cases y<;>exact absurd (show false=true from hs) KM
theorem lY:i8 X (compareOp .Lt) (AD fun i j=> .bl (decide (i<j))):=AE fun _ _ _ _ _ _ _ q=>lt_int q
theorem Fk:i8 X (compareOp .LtE) (AD fun i j=> .bl (decide (i<=j))):=AE fun _ _ _ _ _ _ _ q=>le_int q
theorem nN:i8 X (compareOp .Gt) (AD fun i j=> .bl (decide (j<i))):=AE fun _ _ _ _ _ _ _ q=>gt_int q
theorem Fl:i8 X (compareOp .GtE) (AD fun i j=> .bl (decide (j<=i))):=AE fun _ _ _ _ _ _ _ q=>ge_int q
theorem eB:i8 X (compareOp .Is) (fun x y H Q=>y= .non/\Q (.bl (decide (x= .non))) H):=by
 intro pins s σ H x y v u Q I rx ry h;obtain ⟨rfl,q⟩:=h;cases ry;refine is_none_gen (bT I q ?_);cases x<;>first
  |(cases rx;rfl)
  |(obtain ⟨t,rfl⟩:=rx;rfl)
theorem pi:i8 X (compareOp .IsNot) (fun x y H Q=>y= .non/\Q (.bl (!decide (x= .non))) H):=by
 intro pins s σ H x y v u Q I rx ry h;obtain ⟨rfl,q⟩:=h;cases ry;refine isnot_none_gen (bT I q ?_);cases x<;>first
  |(cases rx;rfl)
  |(obtain ⟨t,rfl⟩:=rx;rfl)
theorem aH (b:Expr) {op:CmpOp} (h:op≠ .In:=by decide) (h2:op≠ .NotIn:=by decide):behindInMarks op b=false:=by
 have e1:(op==CmpOp.In)=false:=by cases op<;>first|rfl|exact absurd rfl h
 have e2:(op==CmpOp.NotIn)=false:=by cases op<;>first|rfl|exact absurd rfl h2
 cases b<;>simp[behindInMarks,e1,e2]
theorem jF {op:CmpOp} {r:R2} (ho:i8 X (compareOp op) r) (ha:PE X a ta) (hb:PE X b tb) (hm:behindInMarks op b=false):PE X (.Compare a [op] [b] pos) (CZ r ta tb):=by
 intro pins s σ H Q I h;exact wpAny_Compare1 (C0 ha hb I h fun v u s2 x y H2 I2 rx ry q=>ho pins s2 σ H2 x y v u Q I2 rx ry q) hm
def Fm (t:TE):TT:=fun σ H Q=>t σ H fun x H'=>∃k,x= .bl k/\Q k H'
theorem ay {op:CmpOp} {r:R2} (ho:i8 X (compareOp op) r) (ha:PE X a ta) (hb:PE X b tb) (hm:behindInMarks op b=false):PT X (.Compare a [op] [b] pos) (Fm (CZ r ta tb)):=by
 intro pins s σ H Q I h;refine wpAny_isTrue_Compare1 (bW (ha pins s σ H _ I h) fun v s1 ⟨x,H1,I1,r1,q1⟩=>bW (hb pins s1 σ H1 _ I1 q1) fun u s2 ⟨y,H2,I2,r2,q2⟩=>
  bW (ho pins s2 σ H2 x y v u _ I2 r1 r2 q2) fun c s3 ⟨z,H3,I3,r3,k,e,q3⟩=>?_) hm
 subst e;cases r3;exact wpAny_truthy_bool ⟨H3,I3,q3⟩
theorem jg:(sizeLine:Nat)<2^63:=by rw[sizeLine_eq];decide
theorem ax:i8 X (binaryOp .Add) (fun x y H Q=>∃i j,x= .str i/\y= .str j/\i.length+j.length<=sizeLine/\Q (.str (i++j)) H):=by
 intro pins s σ H x y v u Q I rx ry h;obtain ⟨i,j,rfl,rfl,hz,q⟩:=h;obtain ⟨t,rfl⟩:=rx;obtain ⟨t',rfl⟩:=ry;exact add_str (fun t' tk=>⟨.str (i++j),H,I.tok _,⟨_,rfl⟩,q⟩) hz
theorem vals1 {x:V} {us:O8} (r:bj [x] us):∃u,us= [u]/\RelV x u:=by
 cases r with
 |cons r1 r2=>cases r2;exact ⟨_,rfl,r1⟩
theorem vals2 {x y:V} {us:O8} (r:bj [x,y] us):∃u w',us= [u,w']/\RelV x u/\RelV y w':=by
 cases r with
 |cons r1 r2=>
  cases r2 with
  |cons r3 r4=>cases r4;exact ⟨_,_,rfl,r1,r3⟩
theorem qN:fV X (.builtin "abs") (fun xs H Q=>∃i,xs= [.int i]/\Q (.int (if i<0 then-i else i)) H):=by
 intro pins s σ H xs us Q I r h;obtain ⟨i,rfl,q⟩:=h;obtain ⟨u,rfl,t,rfl⟩:=vals1 r;exact call_abs_int fun u tk=>⟨.int (if i<0 then-i else i),H,I.tok _,⟨_,rfl⟩,q⟩
theorem bA:fV X (.type "str") (fun xs H Q=>∃i,xs= [.int i]/\i.natAbs.log2<1920/\Q (.str (toString i)) H):=by
 intro pins s σ H xs us Q I r h;obtain ⟨i,rfl,hz,q⟩:=h;obtain ⟨u,rfl,t,rfl⟩:=vals1 r;exact PySem.P.str_of_int hz ⟨.str _,H,I.tok _,⟨_,rfl⟩,q⟩
end
structure wn (h:Heap) (x dx C:Addr) (mA:O3):Prop where
 obj:h.get? x=some (Ld C dx)
 ns:h.Ns1 dx mA
 ne:dx≠x
theorem nO {h:Heap} {dx:Addr} {mA:O3} (n:h.Ns1 dx mA):∃od,h.get? dx=some od/\∀name,PySem.W.lookIn name od=some (mA name):=by
 obtain ⟨o,es,ep,ho,hd,hk,_,hm⟩:=n;refine ⟨o,ho,fun name=>?_⟩
 have e:=hm name;unfold nsFind findBy at e;rw[<-Array.find?_toList] at e;unfold PySem.W.lookIn;rw[hd];dsimp only
 split
 ·rename_i y q;rw[q] at e;exact congrArg some e
 ·rename_i q;rw[q] at e;have a:es.toList.any (·.refKey)=false:=by
   rw[List.any_eq_false];intro y hy;obtain ⟨z,t,hkey⟩:=hk y (Array.mem_toList_iff.mp hy);simp[DictEntry.refKey,hkey]
  have a':¬es.toList.any (·.refKey)=true:=by rw[a];exact KM
  rw[if_neg a'];exact congrArg some e
theorem wn.look {h:Heap} {x dx C:Addr} {mA:O3} (I:wn h x dx C mA):∃od,PySem.W.InstAt h x (Ld C dx) C (some od)/\∀name,PySem.W.lookIn name od=some (mA name):=
 let ⟨od,ho,hl⟩:=nO I.ns
 ⟨od,⟨I.obj,rfl,rfl,ho⟩,hl⟩
section
variable {prog:Program} {w:World} {A:Around} {E:O2} {s:Shared} {K:K0} {x dx C f:Addr} {mA:O3} {name:Str} {v:Value}
theorem AF {expr:Bool} {Q:O2} (X:K.In s.heap) (I:wn s.heap x dx C mA) (hg:PySem.W.plainGet K C name=true) (hh:PySem.W.hasDictIn K C=true)
  (ha:Kc K (.ref C) name=some none) (hv:mA name=some v) (hv':PySem.W.handedIn v=true) (h:Q v {s with toks:=s.toks+1}):
  wpAny (model prog w) A (getAttr (.ref x) name expr) Q E s:=by
 obtain ⟨od,J,hl⟩:=I.look;exact PySem.W.get_value X J (PySem.W.plainGet_of hg).1 (PySem.W.findObj_own hh ha rfl (by rw[hl,hv])) hv' h
theorem AG {ns:O6} {Q:Unit->Shared->Prop} (X:K.In s.heap) (I:wn s.heap x dx C mA)
  (hs:Kc K (.ref C) "__setattr__" =some (some (.builtin "object.__setattr__"))) (hp:PySem.W.plainOver K C=true) (ht:PySem.W.takerIn K C name=some none) (hh:PySem.W.hasDictIn K C=true)
  (hw:PySem.Within mA ns) (hsz:ns.length<=sizeLine)
  (h:∀h',wn h' x dx C (fun y=>if y=name then some v else mA y)->Heap.SameBut dx s.heap h'->Q () {s with heap:=h',toks:=s.toks+2}):
  wpAny (model prog w) A (setAttr (.ref x) name v) Q E s:=by
 obtain ⟨od,J,hl⟩:=I.look;refine PySem.W.set_plain X J hs (PySem.W.osa_open (s:={s with toks:=s.toks+1}) (r:=none) X J hp ht fun b=>?_)
 obtain ⟨cd,hc,hd'⟩:=PySem.W.any_some hh;have hx:s.heap.get? x=some ⟨.ref C,some dx,.plain,#[]⟩:=I.obj;refine wpAny_bind (wpAny_pure (wpAny_bind (wpAny_bind (wpAny_loadPart hx (wpAny_bind (PySem.W.Looks.here (s:={s with toks:=s.toks+1}) (PySem.W.looks_clsIn X hc) ?_))))))
 rw[hd'];refine wpAny_pure (a:=some dx) (wpAny_bind (wpAny_pure (wpAny_bind ?_)));refine wpAny_nsSet1 (s:={s with toks:=s.toks+1}) I.ns fun h' hn2 hs2=>?_
 obtain ⟨oD,esD,epD,hoD,hdD,hcD⟩:=hn2.count (PySem.Within.cons name v hw);refine wpAny_bind (wpAny_lookBehind hoD (by rw[hdD];exact pastItsLine_dict (KC hcD (by rw[KE];lia))) ?_)
 exact wpAny_pure (h _ ⟨(hs2.2 _ (Ne.symm I.ne)).trans I.obj,hn2,I.ne⟩ hs2)
theorem xR {R:Result->Shared->Prop} {vs:O8} {kw:List (Str×Value)} (X:K.In s.heap) (hm:PySem.W.makesIn K C=true)
  (hi:Kc K (.ref C) "__init__" =some (some (.ref f))) (hf:PySem.W.typeIn K (.ref f)=some (.type "function"))
  (h:codeAny (model prog w) (A.under (.builtin "type.__call__" ⟨.ref C::vs,kw⟩)) (.call (.ref f) ⟨.ref (s.heap.objs.size+1)::vs,kw⟩) (PySem.W.InitBack (s.heap.objs.size+1) R)
   {s with heap:=(s.heap.push Ki).push (Ld C s.heap.objs.size)}):
  codeAny (model prog w) A (.call (.ref C) ⟨vs,kw⟩) R s:=by
 obtain ⟨hh,g,d,t,os⟩:=s;exact PySem.W.make_core (PySem.W.makes_of X hm) (PySem.W.looks_findIn X hi) (fun self=>PySem.W.bind_fn X self hf) (.inl rfl) h
end
noncomputable def aX (f:Str) (v:V):List (Str×V)->List (Str×V)
 | []=> [(f,v)]
 |(g,x)::r=>if g=f then (g,v)::r else (g,x)::aX f v r
theorem bR (f g:Str) (v:V):∀fs:List (Str×V),(aX f v fs).lookup g=if g=f then some v else fs.lookup g
 | []=>by
  show Lm g [(f,v)]=_
  by_cases h:g=f
  ·have hb:(g==f)=true:=beq_iff_eq.mpr h;simp only[Lm,hb,if_pos h]
  ·have hb:(g==f)=false:=beq_eq_false_iff_ne.mpr h;simp only[Lm,hb,if_neg h]
 |(k,x)::r=>by
  have ih:=bR f g v r;rw[show aX f v ((k,x)::r)=(if k=f then (k,v)::r else (k,x)::aX f v r) from rfl]
  by_cases hk:k=f
  ·rw[if_pos hk]
   by_cases h:g=k
   ·have hb:(g==k)=true:=beq_iff_eq.mpr h;simp only[Lm,hb,if_pos (h.trans hk)]
   ·have hb:(g==k)=false:=beq_eq_false_iff_ne.mpr h;simp only[Lm,hb,if_neg (fun e:g=f=>h (e.trans hk.symm))]
  ·rw[if_neg hk]
   by_cases h:g=k
   ·have hb:(g==k)=true:=beq_iff_eq.mpr h;simp only[Lm,hb,if_neg (fun e:g=f=>hk (h.symm.trans e))]
   ·have hb:(g==k)=false:=beq_eq_false_iff_ne.mpr h;simp only[Lm,hb];exact ih
theorem ku (f:Str) (v:V):∀fs:List (Str×V),f∈(aX f v fs).map (·.1)/\∀g,g∈fs.map (·.1)->g∈(aX f v fs).map (·.1)
 | []=>⟨by simp[aX],fun g h=>by simp at h⟩
 |(k,x)::r=>by
  obtain ⟨i1,i2⟩:=ku f v r;rw[show aX f v ((k,x)::r)=(if k=f then (k,v)::r else (k,x)::aX f v r) from rfl]
  by_cases hk:k=f
  ·rw[if_pos hk];subst hk;exact ⟨by simp,fun g h=>by simpa using h⟩
  ·rw[if_neg hk];refine ⟨?_,fun g h=>?_⟩
   ·rw[Kl];exact K9 _ i1
   ·rw[Kl] at h⊢;rcases K1.mp h with e|e
    ·exact K1.mpr (.inl e)
    ·exact K9 _ (i2 g e)
theorem bi (f:Str) (v:V):∀fs:List (Str×V),(aX f v fs).length<=fs.length+1
 | []=>by simp[aX]
 |(k,x)::r=>by
  have ih:=bi f v r;rw[show aX f v ((k,x)::r)=(if k=f then (k,v)::r else (k,x)::aX f v r) from rfl]
  by_cases hk:k=f
  ·rw[if_pos hk,KE,KE];lia
  ·rw[if_neg hk,KE,KE];lia
theorem oY.some_of {v:V} {o:Pa} (r:oY (some v) o):∃u,o=some u/\RelV v u:=by
 cases o with
 |none=>exact (show False from r).elim
 |some u=>exact ⟨u,rfl,r⟩
theorem nP {v:V} {u:Value} (r:RelV v u):PySem.W.handedIn u=true:=by
 cases v with
 |non=>cases (show u=Value.none from r);rfl
 |bl b=>cases (show u=Value.bool b from r);rfl
 |int i=>obtain ⟨t,e⟩:=(show ∃t,u=Value.int i t from r);cases e;rfl
 |str x=>obtain ⟨t,e⟩:=(show ∃t,u=Value.str x t from r);cases e;rfl
 |byt b=>obtain ⟨t,e⟩:=(show ∃t,u=Value.bytes b t from r);cases e;rfl
 |flt b=>obtain ⟨t,e⟩:=(show ∃t,u=Value.float b t from r);cases e;rfl
 |ref a=>cases (show u=Value.ref a from r);rfl
 |ty n=>cases (show u=Value.type n from r);rfl
 |raw x t=>cases (show u=Value.str x t from r);rfl
section
variable {P:Program} {w:World} {H H':Hp} {h h':Heap} {a C dx:Addr} {fs fs':List (Str×V)}
theorem pj (hok:ir P w H h) (e:H a=some (.ins C dx fs)):∃mA,wn h a dx C mA/\(∀f,oY (fs.lookup f) (mA f))/\PySem.Within mA (fs.map (·.1))/\fs.length<=1000/\H dx=some (.own a):=by
 obtain ⟨d,z,ne,ob,mA,n,r,q⟩:=(show cr P w H h a (.ins C dx fs) from hok a _ e)
 exact ⟨mA,⟨ob,n,ne⟩,r,q,z,d⟩
end
structure pk (K:K0) (C:Addr):Prop where
 pg:PySem.W.plainGet K C Str.empty=true
 hd:PySem.W.hasDictIn K C=true
 po:PySem.W.plainOver K C=true
 sa:Kc K (.ref C) "__setattr__" =some (some (.builtin "object.__setattr__"))
theorem pk.get {K:K0} {C:Addr} (c:pk K C) (f:Str):PySem.W.plainGet K C f=true:=c.pg
def aO (K:K0) (C:Addr) (f:Str):Prop:=Kc K (.ref C) f=some none
theorem aO.taker {K:K0} {C:Addr} {f:Str} (n:aO K C f):PySem.W.takerIn K C f=some none:=by
 unfold PySem.W.takerIn;rw[show Kc K (.ref C) f=some none from n]
 rfl
section
variable {pins:O4} {σ:St} {H:Hp} {s:Shared} {a C dx:Addr} {fs:List (Str×V)} {f:Str} {v:V} {A:Around} {E:O2}
theorem sS {b:Bool} {Q:O2} (I:aU X pins σ H s) (e:H a=some (.ins C dx fs)) (c:pk X.K C) (n:aO X.K C f) (l:fs.lookup f=some v)
  (h:∀u s',aU X pins σ H s'->RelV v u->Q u s'):wpAny (model X.prog X.w) A (getAttr (.ref a) f b) Q E s:=by
 obtain ⟨mA,O,r,_,_,_⟩:=pj I.hok e;obtain ⟨u,hu,ru⟩:=oY.some_of (v:=v) (o:=mA f) (by rw[<-l];exact r f)
 exact AF I.kIn O (c.get f) c.hd n hu (nP ru) (h u _ (I.tok _) ru)
theorem sT {y:V} {u:Value} {Q:Unit->Shared->Prop} (I:aU X pins σ H s) (e:H a=some (.ins C dx fs)) (c:pk X.K C) (n:aO X.K C f) (hl:fs.length<1000) (ry:RelV y u)
  (h:∀s',aU X pins σ (aR H a (.ins C dx (aX f y fs))) s'->Q () s'):wpAny (model X.prog X.w) A (setAttr (.ref a) f u) Q E s:=by
 obtain ⟨mA,O,r,wi,_,ho⟩:=pj I.hok e;have hz:(fs.map (·.1)).length<=sizeLine:=by rw[K6,sizeLine_eq];lia
 refine AG I.kIn O c.sa c.po n.taker c.hd wi hz fun h' O' sb=>h _ ?_
 have hd:∃o,h'.get? dx=some o:=let ⟨o,_,_,e',_⟩:=O'.ns;⟨o,e'⟩;refine I.write (x:=a) (e:=dx) (by rw[e];exact True.intro) (.inr ho) (fun b q hb z=>(sb.2 b hb).trans z) hd ?_
 refine ⟨by rw[aB O.ne];exact ho,?_,O.ne,O'.obj,_,O'.ns,fun g=>?_,fun g hg=>?_⟩
 ·have:=bi f y fs;lia
 ·show oY ((aX f y fs).lookup g) (if g=f then some u else mA g)
  rw[bR]
  by_cases q:g=f
  ·rw[if_pos q,if_pos q];exact ry
  ·rw[if_neg q,if_neg q];exact r g
 ·by_cases q:g=f
  ·rw[q];exact (ku f y fs).1
  ·refine (ku f y fs).2 g (wi g fun z=>hg ?_)
   show (if g=f then some u else mA g)=none
   rw[if_neg q];exact z
theorem aU.made (I:aU X pins σ H s):aU X pins σ (aR (aR H s.heap.objs.size (.own (s.heap.objs.size+1))) (s.heap.objs.size+1) (.ins C s.heap.objs.size []))
  {s with heap:=(s.heap.push Ki).push (Ld C s.heap.objs.size)}:=by
 have e1:(s.heap.push Ki).get? s.heap.objs.size=some Ki:=Heap.get?_push_size s.heap rfl;have e2:((s.heap.push Ki).push (Ld C s.heap.objs.size)).get? (s.heap.objs.size+1)=some (Ld C s.heap.objs.size):=by
  have:=Heap.get?_push_size (s.heap.push Ki) (o:=Ld C s.heap.objs.size) rfl
  rwa [Heap.size_push] at this
 have e3:(s.heap.push Ki).Ns s.heap.objs.size (fun _=>none):=⟨Ki,#[],_,e1,rfl,(fun e he=>absurd he (by simp)),fun _=>rfl⟩
 have I1:=I.laid (a:=s.heap.objs.size) (o:= .own (s.heap.objs.size+1)) (h':=s.heap.push Ki) (t':=s.toks) (fun b u q=>Heap.get?_push_of_some _ q) (K4 _) ⟨_,e1⟩
 refine I1.laid (a:=s.heap.objs.size+1) (o:= .ins C s.heap.objs.size []) (t':=s.toks) (fun b u q=>Heap.get?_push_of_some _ q) (Nat.le_of_eq (Heap.size_push _ _)) ?_
 have ne:s.heap.objs.size≠s.heap.objs.size+1:=Kf (Nat.lt_succ_self _);refine ⟨by rw[aB ne,ah],LF _,ne,e2,fun _=>none,(Heap.Ns1.of_empty e3).at fun o q=>Heap.get?_push_of_some _ q,fun _=>True.intro,fun y hy=>absurd rfl hy⟩
theorem uJ {prog:Program} {w:World} {env:Env} {e:Expr} {f:Str} {pos:Pos} {s:Shared} {Q:O2} (hb:attributeBase e f env (eval e env)=eval e env)
  (h:wpAny (model prog w) A (eval e env) (fun o s₁=>wpAny (model prog w) A (getAttr o f true) Q E s₁) E s):wpAny (model prog w) A (eval (.Attribute e f pos) env) Q E s:=
 Attribute_any_ h (by rw[arm_eval_Attribute,hb])
end
def Fn (K:K0) (ta:TE) (f:Str):TE:=fun σ H Q=>ta σ H fun x H1=>∃a C dx fs v,x= .ref a/\H1 a=some (.ins C dx fs)/\pk K C/\aO K C f/\fs.lookup f=some v/\Q v H1
def HX (K:K0) (ta tv:TE) (f:Str):TS:=fun D σ H=>tv σ H fun y H1=>ta σ H1 fun x H2=>∃a C dx fs,x= .ref a/\H2 a=some (.ins C dx fs)/\pk K C/\aO K C f/\fs.length<1000/\
 D.nx σ (aR H2 a (.ins C dx (aX f y fs)))
section
variable {o e value:Expr} {f:Str} {pos pos' tpos:Pos} {ta tv:TE}
theorem cG (he:PE X e ta) (hb:attributeBase e f X.env (eval e X.env)=eval e X.env):PE X (.Attribute e f pos) (Fn X.K ta f):=by
 intro pins s σ H Q I h;refine uJ hb (bW (he pins s σ H _ I h) fun u s1 ⟨x,H1,I1,rx,a,C,dx,fs,v,ex,ea,c,n,l,q⟩=>?_)
 subst ex;obtain rfl:u=Value.ref a:=rx;exact sS I1 ea c n l fun u' s2 I2 ru=>⟨v,H1,I2,ru,q⟩
theorem fE (ha:PE X o ta) (hv:PE X value tv) (hs:swapsWith value (some (.Attribute o f pos')) pos.line X.env=pure false):PS X (.Assign [.Attribute o f pos'] value pos) (HX X.K ta tv f):=by
 intro pins s σ H D I h;refine plainObj_wpAny_Assign_Attribute (bW (hv pins s σ H _ I h) fun u s1 ⟨y,H1,I1,ry,q⟩=>bW (ha pins s1 σ H1 _ I1 q) fun ov s2 ⟨x,H2,I2,rx,a,C,dx,fs,ex,ea,c,n,l,q2⟩=>?_) hs
 subst ex;obtain rfl:ov=Value.ref a:=rx;exact sT I2 ea c n l ry fun s3 I3=>⟨σ,_,I3,q2⟩
end
section
variable {pins:O4} {σ:St} {H:Hp} {s:Shared} {A:Around} {E:O2} {Q:O2} {c:Value} {b:Bool}
inductive jh (K:K0) (H:Hp):V->Value->Prop where
 |non:jh K H .non (.type "NoneType")
 |bl (x:Bool):jh K H (.bl x) (.type "bool")
 |int (i:Int):jh K H (.int i) (.type "int")
 |str (x:Str):jh K H (.str x) (.type "str")
 |flt (x:UInt64):jh K H (.flt x) (.type "float")
 |lst {a:Addr} {xs:List V} (e:H a=some (.lst xs)):jh K H (.ref a) (.type "list")
 |frz {a:Addr} {o:Obj} {xs:List V} (e:H a=some (.frz o (.lst xs))):jh K H (.ref a) (.type "list")
 |tup {a:Addr} {xs:List V} (e:H a=some (.tup xs)):jh K H (.ref a) (.type "tuple")
 |dK {a:Addr} {kvs:List (Key×V)} (e:H a=some (.dK kvs)):jh K H (.ref a) (.type "dict")
 |dT {a:Addr} {kvs:List (List Key×V)} (e:H a=some (.dT kvs)):jh K H (.ref a) (.type "dict")
 |ins {a C dx:Addr} {fs:List (Str×V)} (e:H a=some (.ins C dx fs)) (cl:pk K C) (ha:Kc K (.ref C) "__class__" =some (some (.builtin "object.__class__")))
   (hn:PySem.W.specialIn K (.builtin "object.__class__") "__get__" =some (some (.builtin "getset_descriptor.__get__"))) (htk:PySem.W.takesIn K (.builtin "object.__class__")=some true)
   (hm:PySem.W.mroIn K C (.type "object")=some true):jh K H (.ref a) (.ref C)
theorem wp {x:V} {u t:Value} (I:aU X pins σ H s) (rx:RelV x u) (ty:jh X.K H x t) (e:K2 X.K t c=some b) (h:∀tk,Q (.bool b) {s with toks:=tk}):
  wpAny (model X.prog X.w) A (call (.builtin "isinstance") [u,c]) Q E s:=by
 cases ty with
 |non=>cases (show u=Value.none from rx);exact L9 PySem.W.kitx_none I.kIn True.intro e (fun z=>nomatch z) h
 |bl y=>cases (show u=Value.bool y from rx);exact L9 PySem.W.kitx_bool I.kIn True.intro e (fun z=>nomatch z) h
 |int i=>obtain ⟨t,q⟩:=(show ∃t,u=Value.int i t from rx);cases q;exact L9 PySem.W.kitx_int I.kIn True.intro e (fun z=>nomatch z) h
 |str y=>obtain ⟨t,q⟩:=(show ∃t,u=Value.str y t from rx);cases q;exact L9 PySem.W.kitx_str I.kIn True.intro e (fun z=>nomatch z) h
 |flt y=>obtain ⟨t,q⟩:=(show ∃t,u=Value.float y t from rx);cases q;exact L9 PySem.W.kitx_float I.kIn True.intro e (fun z=>nomatch z) h
 | @lst a xs ea=>
  cases (show u=Value.ref a from rx)
  obtain ⟨_,_,n,_,h1⟩:=(show cr X.prog X.w H s.heap a (.lst xs) from I.hok a _ ea)
  exact L9 PySem.W.kitx_list I.kIn ⟨_,h1,rfl⟩ e (fun z=>nomatch z) h
 | @frz a ob xs ea=>
  cases (show u=Value.ref a from rx)
  obtain ⟨_,_,_,n,_,h1⟩:=(show cr X.prog X.w H s.heap a (.frz ob (.lst xs)) from I.hok a _ ea)
  exact L9 PySem.W.kitx_list I.kIn ⟨_,h1,rfl⟩ e (fun z=>nomatch z) h
 | @tup a xs ea=>
  cases (show u=Value.ref a from rx)
  obtain ⟨_,_,_,p⟩:=(show cr X.prog X.w H s.heap a (.tup xs) from I.hok a _ ea)
  obtain ⟨o,h1,h2,_⟩:=p;exact L9 PySem.W.kitx_tuple I.kIn ⟨o,h1,h2⟩ e (fun z=>nomatch z) h
 | @dK a kvs ea=>
  cases (show u=Value.ref a from rx)
  obtain ⟨_,_,vs,_,p⟩:=(show cr X.prog X.w H s.heap a (.dK kvs) from I.hok a _ ea)
  obtain ⟨o,es,ep,h1,h2,_⟩:=p;exact L9 PySem.W.kitx_dict I.kIn ⟨o,h1,h2.1⟩ e (fun z=>nomatch z) h
 | @dT a kvs ea=>
  cases (show u=Value.ref a from rx)
  obtain ⟨_,_,xs,_,o,es,ep,h1,h2,_⟩:=(show cr X.prog X.w H s.heap a (.dT kvs) from I.hok a _ ea)
  exact L9 PySem.W.kitx_dict I.kIn ⟨o,h1,h2.1⟩ e (fun z=>nomatch z) h
 | @ins a C dx fs ea cl ha hn htk hm=>
  cases (show u=Value.ref a from rx)
  obtain ⟨mA,O,_⟩:=pj I.hok ea;obtain ⟨od,J,_⟩:=O.look;exact L9 (PySem.W.kitx_own (cl.get _) cl.hd ha hn htk hm) I.kIn J e (fun z=>nomatch z) h
end
structure cx (k:Nat) (A:Around):Prop where
 hd:A.handled=none
 dp:A.depth+3*k+5<recursionLimit
 un:A.units+16*k+200<cLine
theorem cx.mono {j k:Nat} {A:Around} (r:cx k A) (h:j<=k):cx j A:=⟨r.hd,by have:=r.dp;lia,by have:=r.un;lia⟩
theorem cx.deeper {k:Nat} {A:Around} (r:cx (k+1) A) (env:Env):cx k (A.deeper env):=
 ⟨r.hd,by have:=r.dp;show A.depth+1+3*k+5<_;lia,by have:=r.un;show A.units+3+16*k+200<_;lia⟩
theorem sU {A:Around} {C:Addr} {us:O8} {kw:List (Str×Value)}:(A.under (.builtin "type.__call__" ⟨.ref C::us,kw⟩)).depth=A.depth+1:=by
 first|rfl|simp[Around.under,Code.weight,Code.isCreation,Code.isGuard,Code.isCaller,Code.frames,Code.isFrame,guardIds]
theorem sV {A:Around} {C:Addr} {us:O8} {kw:List (Str×Value)}:(A.under (.builtin "type.__call__" ⟨.ref C::us,kw⟩)).units=A.units+1:=by
 first|rfl|simp[Around.under,Code.cUnits,Code.frames,Code.isFrame]
theorem cx.make {k:Nat} {A:Around} (r:cx (k+1) A) (C:Addr) (us:O8) (kw:List (Str×Value)):cx k (A.under (.builtin "type.__call__" ⟨.ref C::us,kw⟩)):=
 ⟨r.hd,by have:=r.dp;rw[sU];lia,by have:=r.un;rw[sV];lia⟩
theorem cx.depth {k:Nat} {A:Around} (r:cx k A):A.depth<recursionLimit:=by have:=r.dp;lia
theorem cx.units {k:Nat} {A:Around} (r:cx k A):A.units+64<cLine:=by have:=r.un;lia
theorem cx.units0 {k:Nat} {A:Around} (r:cx k A):A.units<cLine:=by have:=r.un;lia
def xS:TA:=fun _ H Q=>Q [] H
def im (ta:TE) (tr:TA):TA:=fun σ H Q=>ta σ H fun x H1=>tr σ H1 fun xs H2=>Q (x::xs) H2
section
variable {e:Expr} {es:List Expr} {te:TE} {t:TA} {pos:Pos}
theorem ak:PA X [] xS:=fun _ _ _ _ H Q I h=>Calls.spliced_nil ⟨[],H,I,.nil,h⟩
theorem aa (ha:PE X e te) (hr:PA X es t) (hs:starEach (e::es) X.env=(false,eval e X.env)::starEach es X.env:=by rfl):PA X (e::es) (im te t):=by
 intro pos pins s σ H Q I h;rw[hs];show wpAny _ _ (spliced ((false,eval e X.env)::backTo pos (starEach es X.env))) _ _ s;refine Calls.spliced_cons (bW (ha pins s σ H _ I h) fun u s1 ⟨x,H1,I1,r1,q1⟩=>?_)
 exact bW (hr pos pins s1 σ H1 _ I1 q1) fun us s2 ⟨xs,H2,I2,r2,q2⟩=>⟨x::xs,H2,I2,.cons r1 r2,q2⟩
def HY (t:TA):TE:=fun σ H Q=>t σ H fun xs H1=>xs.length<=sizeLine/\∀p,H1 p=none->Q (.ref p) (aR H1 p (.tup xs))
def Fo (t:TA):TE:=fun σ H Q=>t σ H fun xs H1=>xs.length<=sizeLine/\∀p,H1 p=none->Q (.ref p) (aR H1 p (.lst xs))
theorem bZ {x1} (h:PA X es t):PE X (.Tuple es x1 pos) (HY t):=by
 intro pins s σ H Q I hq;refine wpAny_Tuple_spliced (bW (h pos pins s σ H _ I hq) fun us s1 ⟨xs,H1,I1,r,z,q⟩=>⟨by rw[<-r.length];exact z,?_⟩)
 have hf:H1 s1.heap.objs.size=none:=I1.hok.fresh (K4 _);refine ⟨.ref s1.heap.objs.size,aR H1 s1.heap.objs.size (.tup xs),I1.laid (t':=s1.toks) (fun b u e=>Heap.get?_push_of_some _ e) (K4 _) ?_,rfl,q _ hf⟩
 exact ⟨z,us,r,⟨_,Heap.get?_push_size _ rfl,rfl,_,rfl⟩⟩
theorem aZ (h:PA X es t):PE X (.List es pos) (Fo t):=by
 intro pins s σ H Q I hq;refine wpAny_List_spliced (bW (h pos pins s σ H _ I hq) fun us s1 ⟨xs,H1,I1,r,z,q⟩=>⟨by rw[<-r.length];exact z,?_⟩)
 have hf:H1 s1.heap.objs.size=none:=I1.hok.fresh (K4 _);refine ⟨.ref s1.heap.objs.size,aR H1 s1.heap.objs.size (.lst xs),I1.laid (t':=s1.toks) (fun b u e=>Heap.get?_push_of_some _ e) (K4 _) ?_,rfl,q _ hf⟩
 exact ⟨z,us,0,r,Heap.get?_push_size _ rfl⟩
end
abbrev Sp:=List V->Hp->VK->XK->Prop
abbrev sW:=List Env->Hp->Shared->XK->Value->Shared->Prop
structure lZ (P:Program) (w:World) (K:K0) (mg:O3) (base:Heap) (A:Around) (outer:List Env) (s:Shared) (H:Hp):Prop where
 frames:A.frames=some outer
 mod:Mod K mg base
 bs:∀b o,base.get? b=some o->s.heap.get? b=some o/\H b=none
 bsz:base.objs.size<=s.heap.objs.size
 funs:s.heap.FunFrames base outer
 frf:∀b∈kO outer,H b=none
 hok:ir P w H s.heap
 bare:AllBare s.gens
def CE (outer:List Env) (P:Program) (w:World) (H:Hp) (s:Shared) (Q:VK) (u:Value) (s':Shared):Prop:=
 ∃v H',s'.os=s.os/\AllBare s'.gens/\Un (kO outer) [] H H' s.heap s'.heap/\ir P w H' s'.heap/\RelV v u/\Q v H'
def CR (CX:sW) (outer:List Env) (P:Program) (w:World) (H:Hp) (s:Shared) (Q:VK) (E:XK) (r:Result) (s':Shared):Prop:=
 match r with
 | .ok (.ret u)=>CE outer P w H s Q u s'
 | .ok _=>False
 | .error e=>CX outer H s E e s'
structure bB (P:Program) (w:World) (K:K0) (mg:O3) (base:Heap) (CX:sW) (k:Nat) (f:Addr) (fd:FuncData) (ps:O6) (sp:Sp):Prop where
 len:∀vs H Q E,sp vs H Q E->vs.length=ps.length
 run:∀(A:Around) (outer:List Env) (s:Shared) (H:Hp) (args:Args) (us:O8) (vs:List V) (Q:VK) (E:XK),cx k A->lZ P w K mg base A outer s H->BindsTo s fd args (ps.zip us)->bj vs us->sp vs H Q E->
  codeAny (model P w) A (.call (.ref f) args) (CR CX outer P w H s Q E) s
theorem lZ.make {P:Program} {w:World} {K:K0} {mg:O3} {base:Heap} {A:Around} {outer:List Env} {s:Shared} {H:Hp} (e:lZ P w K mg base A outer s H) (C:Addr) (us:O8) (kw:List (Str×Value)):
  lZ P w K mg base (A.under (.builtin "type.__call__" ⟨.ref C::us,kw⟩)) outer s H:=⟨by first|exact e.frames|(simpa [Around.under,Code.envs,Code.isFrame,pushEnvs] using e.frames),e.mod,e.bs,e.bsz,e.funs,e.frf,e.hok,e.bare⟩
section
variable {pins:O4} {σ:St} {H:Hp} {s s':Shared}
theorem aU.env0 (I:aU X pins σ H s):lZ X.prog X.w X.K X.mg X.base X.A X.stack s H:=
 ⟨I.ok.frames,I.ok.mod,I.bs,KC I.ok.bsz I.sz,I.stack,I.stkFree,I.hok,I.bare⟩
theorem aU.after {Q:VK} {u:Value} (I:aU X pins σ H s) (h:CE X.stack X.prog X.w H s Q u s'):EP X pins σ Q u s':=by
 obtain ⟨v,H',os,bare,un,hok,r,q⟩:=h;obtain ⟨hh,g,d,t,os'⟩:=s';obtain rfl:os'=s.os:=os;exact ⟨v,H',I.call (h':=hh) (g':=g) (d':=d) (t':=t) (ch:= []) un hok bare (fun b z=>absurd z (by simp)),r,q⟩
end
def jG (sp:Sp) (dvs:List V) (E:XK) (t:TA):TE:=fun σ H Q=>t σ H fun vs H1=>sp (vs++dvs) H1 Q E
def xT (C:Addr) (sp:Sp) (dvs:List V) (E:XK) (t:TA):TE:=fun σ H Q=>t σ H fun vs H1=>∀x dx,H1 x=none->H1 dx=none->dx≠x->
 sp (.ref x::(vs++dvs)) (aR (aR H1 dx (.own x)) x (.ins C dx [])) (fun v H2=>v= .non/\Q (.ref x) H2) E
def Binds (K:K0) (fd:FuncData) (ps:O6) (ds:O8):Prop:=
 ∀(s:Shared) (us:O8),K.In s.heap->(us++ds).length=ps.length->BindsTo s fd ⟨us,[]⟩ (ps.zip (us++ds))
theorem Binds.all {K:K0} {fd:FuncData} {ps:O6} (h:∀us:O8,us.length=ps.length->bindArgs fd ⟨us,[]⟩=pure (ps.zip us)):Binds K fd ps []:=fun s us _ hl=>by
 rw[Ke] at hl⊢;exact .of_eq (h us hl)
def kv (CX:sW) (X:Cx) (E:XK):Prop:=∀(pins:O4) (σ:St) (H:Hp) (s:Shared) (e:Value) (s':Shared),aU X pins σ H s->CX X.stack H s E e s'->X.xe e s'
section
variable {CX:sW} {k:Nat} {f C:Addr} {fd:FuncData} {ps:O6} {sp:Sp} {dvs:List V} {ds:O8} {E:XK} {x m:Str} {p pos apos:Pos} {e o:Expr} {es:List Expr} {ta:TE} {t:TA}
theorem sX {pins:O4} {σ:St} {H:Hp} {s:Shared} {Q:VK} {us:O8} {vs:List V} (F:bB X.prog X.w X.K X.mg X.base CX k f fd ps sp) (hr:cx k X.A) (hb:Binds X.K fd ps ds) (hd:bj dvs ds) (hx:kv CX X E)
  (I:aU X pins σ H s) (r:bj vs us) (h:sp (vs++dvs) H Q E):wpAny (model X.prog X.w) X.A (call (.ref f) us) (EP X pins σ Q) X.xe s:=by
 have r2:bj (vs++dvs) (us++ds):=r.append hd;have hl:(us++ds).length=ps.length:=by rw[<-r2.length];exact F.len _ _ _ _ h
 refine wpAny_call (codeAny_mono (F.run X.A X.stack s H ⟨us,[]⟩ (us++ds) (vs++dvs) Q E hr I.env0 (hb s us I.kIn hl) r2 h) fun r s' hq=>?_)
 cases r with
 |error e=>exact hx pins σ H s e s' I hq
 |ok fl=>
  cases fl with
  |ret u=>exact I.after hq
  |next=>exact False.elim hq
  |brk=>exact False.elim hq
  |cont=>exact False.elim hq
theorem AH (F:bB X.prog X.w X.K X.mg X.base CX k f fd ps sp) (hr:cx k X.A) (hg:Gl X x) (hm:X.mg x=some (.ref f)) (hk:Kn X.K (.ref f)=true) (hb:Binds X.K fd ps ds) (hd:bj dvs ds) (hx:kv CX X E)
  (ha:PA X (e::es) t) (hdb:(x==("__debug__" :Str))=false:=by decide) (he:starEach (e::es) X.env=(false,eval e X.env)::starEach es X.env:=by rfl) (hpl:(backTo pos (starEach es X.env)).any (·.1)=false:=by rfl):
  PE X (.Call (.Name x p) (e::es) [] pos) (jG sp dvs E t):=by
 intro pins s σ H Q I h;refine wpAny_Call_Name_kw (dQ I hg hm ?_ hdb);refine Lb (h₀:=X.base) I.ok.mod.kin hk (bW (ha pos pins s σ H _ I h) fun us s1 ⟨vs,H1,I1,r,q⟩=>⟨I1.kIn,?_⟩) he hpl
 exact sX F hr hb hd hx I1 r q
theorem xU (F:bB X.prog X.w X.K X.mg X.base CX k f fd ps sp) (hr:cx k X.A) (hg:Gl X x) (hm:X.mg x=some (.ref f)) (hk:Kn X.K (.ref f)=true) (hb:Binds X.K fd ps ds) (hd:bj dvs ds) (hx:kv CX X E)
  (hdb:(x==("__debug__" :Str))=false:=by decide):PE X (.Call (.Name x p) [] [] pos) (jG sp dvs E xS):=by
 intro pins s σ H Q I h;refine wpAny_Call_Name_kw (dQ I hg hm ?_ hdb);exact PySem.W.callWith_K0 I.kIn hk (sX (us:= []) F hr hb hd hx I .nil h)
structure Mk (K:K0) (C f:Addr):Prop where
 makes:PySem.W.makesIn K C=true
 init:Kc K (.ref C) "__init__" =some (some (.ref f))
 fn:PySem.W.isFn K (.ref f)=true
 kp:Kn K (.ref C)=true
theorem xV {pins:O4} {σ:St} {H:Hp} {s:Shared} {Q:VK} {us:O8} {vs:List V} (M:Mk X.K C f) (F:bB X.prog X.w X.K X.mg X.base CX k f fd ps sp) (hr:cx (k+1) X.A) (hb:Binds X.K fd ps ds) (hd:bj dvs ds)
  (hx:kv CX X E) (I:aU X pins σ H s) (r:bj vs us)
  (h:∀x dx,H x=none->H dx=none->dx≠x->sp (.ref x::(vs++dvs)) (aR (aR H dx (.own x)) x (.ins C dx [])) (fun v H2=>v= .non/\Q (.ref x) H2) E):
  wpAny (model X.prog X.w) X.A (call (.ref C) us) (EP X pins σ Q) X.xe s:=by
 have hq:=h (s.heap.objs.size+1) s.heap.objs.size (I.hok.fresh (Nat.le_succ _)) (I.hok.fresh (K4 _)) (Kf (Nat.lt_succ_self _));have I2:=aU.made (C:=C) I;have r2:bj (V.ref (s.heap.objs.size+1)::(vs++dvs)) (Value.ref (s.heap.objs.size+1)::(us++ds)):= .cons rfl (r.append hd);have hl:(Value.ref (s.heap.objs.size+1)::us++ds).length=ps.length:=by
  have e:=r2.length;rw[F.len _ _ _ _ hq] at e;exact e.symm
 refine wpAny_call (xR (f:=f) I.kIn M.makes M.init (beq_iff_eq.mp M.fn) (codeAny_mono (F.run _ X.stack _ _ ⟨Value.ref (s.heap.objs.size+1)::us,[]⟩ (Value.ref (s.heap.objs.size+1)::(us++ds)) _ _ E (hr.make C us [])
  (I2.env0.make C us []) (hb _ (Value.ref (s.heap.objs.size+1)::us) I2.kIn hl) r2 hq) fun r s' hq'=>?_))
 cases r with
 |error e=>exact hx pins σ _ _ e s' I2 hq'
 |ok fl=>
  cases fl with
  |ret u=>
   obtain ⟨v,H',I3,rv,ev,q3⟩:=I2.after hq';subst ev;exact ⟨rv,⟨V.ref (s.heap.objs.size+1),H',I3,rfl,q3⟩⟩
  |next=>exact False.elim hq'
  |brk=>exact False.elim hq'
  |cont=>exact False.elim hq'
theorem uK (M:Mk X.K C f) (F:bB X.prog X.w X.K X.mg X.base CX k f fd ps sp) (hr:cx (k+1) X.A) (hg:Gl X x) (hm:X.mg x=some (.ref C)) (hb:Binds X.K fd ps ds) (hd:bj dvs ds) (hx:kv CX X E)
  (ha:PA X (e::es) t) (hdb:(x==("__debug__" :Str))=false:=by decide) (he:starEach (e::es) X.env=(false,eval e X.env)::starEach es X.env:=by rfl) (hpl:(backTo pos (starEach es X.env)).any (·.1)=false:=by rfl):
  PE X (.Call (.Name x p) (e::es) [] pos) (xT C sp dvs E t):=by
 intro pins s σ H Q I h;refine wpAny_Call_Name_kw (dQ I hg hm ?_ hdb);refine Lb (h₀:=X.base) I.ok.mod.kin M.kp (bW (ha pos pins s σ H _ I h) fun us s1 ⟨vs,H1,I1,r,q⟩=>⟨I1.kIn,?_⟩) he hpl
 exact xV M F hr hb hd hx I1 r q
end
structure aK (N P:O6) (sc:Scope):Prop where
 kind:sc.kind= .function
 co:sc.isCoroutine=false
 gen:sc.isGenerator=false
 nd:N.Nodup
 pre:N.take P.length=P
 par:∀x∈P,sc.names.lookup x=some .local∨sc.names.lookup x=some .cell
 nofree:∀y∈sc.names,y.2≠ .free
theorem nQ {kindOf:Str->Option NameKind} {x:Str}:∀{binds:List (Str×Value)} {m:O3},(∀v,(x,v)∉binds)->bindL kindOf binds m x=m x
 | [],_,_=>rfl
 |(n,v)::r,m,h=>by
  unfold bindL;rw[nQ fun w hw=>h w (K9 _ hw)]
  split
  ·have:x≠n:=by rintro rfl;exact h v Kd
   simp[this]
  ·rfl
theorem nS {kindOf:Str->Option NameKind} {x:Str}:∀{binds:List (Str×Value)} {m:O3},(∀v,(x,v)∉binds)->bindC kindOf binds m x=m x
 | [],_,_=>rfl
 |(n,v)::r,m,h=>by
  unfold bindC;rw[nS fun w hw=>h w (K9 _ hw)]
  split
  ·rfl
  ·have:x≠n:=by rintro rfl;exact h v Kd
   simp[this]
theorem nU {kindOf:Str->Option NameKind} {x:Str} {v:Value}:∀{P:O6} {vs:O8} {i:Nat} {m:O3},P.Nodup->P[i]?=some x->vs[i]?=some v->kindOf x=some .local->
  bindL kindOf (P.zip vs) m x=some v
 | [],_,_,_,_,h,_,_=>by simp at h
 |_::_,[],_,_,_,_,h,_=>by simp at h
 |p::P,w::vs,0,m,nd,h1,h2,hk=>by
  simp at h1 h2;subst h1;subst h2;show bindL kindOf ((p,w)::P.zip vs) m p=_;unfold bindL;rw[nQ fun v hv=>(Kk.mp nd).1 (List.of_mem_zip hv).1,if_pos hk]
  simp
 |p::P,w::vs,i+1,m,nd,h1,h2,hk=>by
  show bindL kindOf ((p,w)::P.zip vs) m x=_;unfold bindL;exact nU (i:=i) (Kk.mp nd).2 (by simpa using h1) (by simpa using h2) hk
theorem nV {kindOf:Str->Option NameKind} {x:Str} {v:Value}:∀{P:O6} {vs:O8} {i:Nat} {m:O3},P.Nodup->P[i]?=some x->vs[i]?=some v->kindOf x≠some .local->
  bindC kindOf (P.zip vs) m x=some v
 | [],_,_,_,_,h,_,_=>by simp at h
 |_::_,[],_,_,_,_,h,_=>by simp at h
 |p::P,w::vs,0,m,nd,h1,h2,hk=>by
  simp at h1 h2;subst h1;subst h2;show bindC kindOf ((p,w)::P.zip vs) m p=_;unfold bindC;rw[nS fun v hv=>(Kk.mp nd).1 (List.of_mem_zip hv).1,if_neg hk]
  simp
 |p::P,w::vs,i+1,m,nd,h1,h2,hk=>by
  show bindC kindOf ((p,w)::P.zip vs) m x=_;unfold bindC;exact nV (i:=i) (Kk.mp nd).2 (by simpa using h1) (by simpa using h2) hk
noncomputable def start (N:O6) (vs:List V):St:=vs.map some++List.replicate (N.length-vs.length) none
noncomputable def ip (CX:sW) (P:Program) (w:World) (K:K0) (mg:O3) (base:Heap) (N:O6) (qual:Str) (scope:Scope) (f:Addr) (cd:Value) (A:Around) (outer:List Env) (s:Shared) (H:Hp) (E:XK):Cx where
 prog:=P
 w:=w
 K:=K
 mg:=mg
 base:=base
 A:=A.deeper (envOfC qual scope s.heap.objs.size f cd)
 N:=N
 s₀:=s
 H₀:=H
 env:=envOfC qual scope s.heap.objs.size f cd
 outer:=outer
 stack:=envOfC qual scope s.heap.objs.size f cd::outer
 ex:= []
 calm:=true
 fn:=fun _=>true
 pn:= []
 xe:=fun e s'=>wpAny (model P w) (A.deeper (envOfC qual scope s.heap.objs.size f cd)) (leaving (envOfC qual scope s.heap.objs.size f cd) e) (fun _ s''=>CX outer H s E e s'') (fun e' s''=>CX outer H s E e' s'') s'
theorem qO {sc:Scope} {n:Nat} {x:Str} (h:sc.names.lookup x=some .cell):∃c,(cellsFrom n sc.names []).lookup x=some c:=by
 have q:=PySem.W.cellsFrom_some sc.names n [] (.inl h);exact LI.mp q
theorem kx {CX:sW} {P:Program} {w:World} {K:K0} {mg:O3} {base:Heap} {N ps:O6} {qual:Str} {scope:Scope} {f:Addr} {cd:Value} {A:Around} {outer:List Env} {s s1:Shared} {H:Hp} {E:XK} {us:O8} {vs:List V}
  (S:aK N ps scope) (hd:A.handled=none) (e0:lZ P w K mg base A outer s H) (hl:vs.length=ps.length) (r:bj vs us)
  (x:InCallC s s.heap.objs.size (bindL (envOfC qual scope s.heap.objs.size f cd).kindOf (ps.zip us) fun _=>none) (cellsFrom (s.heap.objs.size+1) scope.names []) (bindC (envOfC qual scope s.heap.objs.size f cd).kindOf (ps.zip us) fun _=>none) s1):
  aU (ip CX P w K mg base N qual scope f cd A outer s H E) [] (start N vs) H s1:=by
 have hpl:ps.length<=N.length:=by have:=congrArg List.length S.pre;rw[Kw] at this;lia
 obtain ⟨h1,tk,rfl,hk⟩:=x.done;have noA:∀b:Addr,b∉(ip CX P w K mg base N qual scope f cd A outer s H E).ex:=fun b z=>absurd (show b∈([]:O7) from z) (by simp)
 refine ⟨⟨e0.mod,S.kind,rfl,rfl,K4 _,fun y z c h1 h2=>?_,fun y hy=>?_,fun y c _ h=>?_,fun _=>hd,Around.frames_deeper e0.frames,.inr ⟨rfl,rfl⟩,fun b z=>absurd z (noA b),e0.bs,e0.bsz,fun b _ _=>noA b,fun b z=>absurd z (noA b),e0.funs,e0.frf⟩,
  rfl,e0.bare,Un.kept hk,⟨_,x.toInCall.ns,fun i y v h1 h2 h3=>?_⟩,fun y c h=>⟨_,x.cell y c h⟩,e0.hok.fresh (K4 _),fun y c h=>?_,fun p hp=>absurd (show p∈([]:O4) from hp) (by simp),e0.hok.kept hk,?_⟩
 ·exact name_of_addr x.apart (LP h1) (LP h2)
 ·have hy:scope.names.lookup y=some .cell∨scope.names.lookup y=some .free:=hy;rcases hy with hy|hy
  ·exact qO hy
  ·exact absurd rfl (S.nofree _ (LP hy))
 ·exact Nat.le_of_lt (x.above y c (LP h))
 ·have hi:i<vs.length:=by
   unfold start at h2
   by_cases hi:i<vs.length
   ·exact hi
   ·rw[Lr (by simpa using hi)] at h2
    rw[List.getElem?_replicate] at h2
    split at h2<;>cases h2
  have ha:vs[i]?=some v:=by
   unfold start at h2;rw[LG (by simpa using hi),KA] at h2
   cases e:vs[i]? with
   |none=>rw[e] at h2;cases h2
   |some a=>rw[e] at h2;cases h2;rfl
  obtain ⟨u,hu,rv⟩:=r.get ha;have hp:ps[i]?=some y:=by
   rw[<-S.pre,List.getElem?_take_of_lt (by lia)];exact h1
  have ndP:ps.Nodup:=by rw[<-S.pre];exact S.nd.sublist (List.take_sublist _ _)
  refine ⟨u,rv,?_⟩;rcases S.par y (K7 hp) with k|k
  ·exact .inl ⟨k,nU ndP hp hu k⟩
  ·obtain ⟨c,e⟩:=qO (n:=s.heap.objs.size+1) k;refine .inr ⟨.inl k,c,e,?_⟩;have q:=x.cell y c e;rw[nV ndP hp hu (by show scope.names.lookup y≠_;rw[k];decide)] at q
   exact q
 ·exact e0.hok.fresh (Nat.le_of_lt (x.above y c (LP h)))
 ·unfold start;show _=N.length;rw[KL,K6,List.length_replicate]
  lia
theorem Ce {CX:sW} {P:Program} {w:World} {K:K0} {mg:O3} {base:Heap} {k:Nat} {f:Addr} {name qual:Str} {params:Arguments} {body:List Stmt} {scope:Scope} {dV kV doc pm cdv ct oc:Value} {an od:O9}
  {osl:O5} {N ps:O6} {sp:Sp} (lk:K.lookup f=some ⟨oc,od,.func (Kx name qual params body scope dV kV doc pm an cdv ct),osl⟩) (hcd:LO K cdv qual=true) (S:aK N ps scope)
  (len:∀vs H Q E,sp vs H Q E->vs.length=ps.length)
  (hbody:∀(A:Around) (outer:List Env) (s:Shared) (H:Hp) (vs:List V) (Q:VK) (E:XK),cx k (A.deeper (envOfC qual scope s.heap.objs.size f cdv))->sp vs H Q E->
   ∃t,lE (ip CX P w K mg base N qual scope f cdv A outer s H E) body t/\t {nx:=fun _ H'=>Q .non H',rt:=Q} (start N vs) H):
  bB P w K mg base CX (k+1) f (Kx name qual params body scope dV kV doc pm an cdv ct) ps sp:=by
 refine ⟨len,fun A outer s H args us vs Q E hr e0 hb r hsp=>?_⟩
 have hl:=len _ _ _ _ hsp;have KX:K.In s.heap:=e0.mod.kin.keeps fun b o e=>(e0.bs b o e).1
 have lim:s.heap.NoLimit:=e0.mod.nolimit.keeps fun b o e=>(e0.bs b o e).1
 have hkind:∀y∈ps.zip us,scope.names.lookup y.1=some .local∨(scope.names.lookup y.1=some .cell/\((cellsFrom (s.heap.objs.size+1) scope.names []).lookup y.1).isSome=true):=fun ⟨n,v⟩ hy=>by
  rcases S.par n (List.of_mem_zip hy).1 with q|q
  ·exact .inl q
  ·exact .inr ⟨q,PySem.W.cellsFrom_some _ _ _ (.inl q)⟩
 refine codeAny_call_function hr.depth (KX _ _ lk) rfl S.co S.gen rfl (PySem.W.codeRec_of KX hcd) (hb _ _ _ _ ?_);refine wpAny_newFunctionEnv_cells S.kind hkind fun env he s1 x=>?_
 subst he;refine ⟨lim.keeps x.toInCall.keep,codeAny_func ?_⟩;obtain ⟨t,ht,hq⟩:=hbody A outer s H vs Q E (hr.deeper _) hsp;have I:aU (ip CX P w K mg base N qual scope f cdv A outer s H E) [] (start N vs) H s1:=kx S hr.hd e0 hl r x;refine wpAny_mono (ht [] s1 (start N vs) H _ I hq) (fun fl s' hs=>?_) fun e s' hs=>hs
 have fin:∀{σ':St} {H':Hp} {v:V} {u:Value},aU (ip CX P w K mg base N qual scope f cdv A outer s H E) [] σ' H' s'->RelV v u->Q v H'->CE outer P w H s Q u s':=
  fun {σ' H' v u} J rv q=>⟨v,H',J.os,J.bare,J.base,J.hok,rv,q⟩
 cases fl with
 |ret u=>
  obtain ⟨v,σ',H',J,rv,q⟩:=hs;exact fin J rv q
 |next=>
  obtain ⟨σ',H',J,q⟩:=hs;exact fin (v:=V.non) (u:=Value.none) J rfl q
 |brk=>
  obtain ⟨_,_,_,q⟩:=hs;exact False.elim q
 |cont=>
  obtain ⟨_,_,_,q⟩:=hs;exact False.elim q
section
variable {x:Str} {p pos:Pos} {e:Expr} {es:List Expr} {t:TA} {id T:String} {r:List V->Hp->VK->Prop}
def Jn (r:List V->Hp->VK->Prop) (t:TA):TE:=fun σ H Q=>t σ H fun vs H1=>r vs H1 Q
theorem aP (hc:fV X (.builtin id) r) (hg:Gl X x) (hm:X.mg x=none) (hv:bootBuiltins x=some (.builtin id)) (ha:PA X (e::es) t) (hn:x≠ "__name__" :=by decide) (hdb:(x==("__debug__" :Str))=false:=by decide)
  (he:starEach (e::es) X.env=(false,eval e X.env)::starEach es X.env:=by rfl) (hpl:(backTo pos (starEach es X.env)).any (·.1)=false:=by rfl):PE X (.Call (.Name x p) (e::es) [] pos) (Jn r t):=by
 intro pins s σ H Q I h;refine wpAny_Call_Name_kw (gY I hg hm hv ?_ hn hdb);exact PyProof.Rows.callWith_builtin1 (bW (ha pos pins s σ H _ I h) fun us s1 ⟨vs,H1,I1,r1,q1⟩=>hc pins s1 σ H1 vs us Q I1 r1 q1) he hpl
theorem bF (hc:fV X (.type T) r) (hg:Gl X x) (hm:X.mg x=none) (hv:bootBuiltins x=some (.type T)) (ha:PA X (e::es) t) (hn:x≠ "__name__" :=by decide) (hdb:(x==("__debug__" :Str))=false:=by decide)
  (he:starEach (e::es) X.env=(false,eval e X.env)::starEach es X.env:=by rfl) (hpl:(backTo pos (starEach es X.env)).any (·.1)=false:=by rfl):PE X (.Call (.Name x p) (e::es) [] pos) (Jn r t):=by
 intro pins s σ H Q I h;refine wpAny_Call_Name_kw (gY I hg hm hv ?_ hn hdb);exact LJ (bW (ha pos pins s σ H _ I h) fun us s1 ⟨vs,H1,I1,r1,q1⟩=>hc pins s1 σ H1 vs us Q I1 r1 q1) he hpl
end
end L2
open Lean in
local macro_rules|`(⟨$xs,*⟩)=>do
 let mut y:Array (TSyntax `term):=#[]
 let mut c:=false
 for x in xs.getElems do
  if x.raw.getId== `ν then
   c:=true
   y:=(y.push (←`(_))).push (←`(rfl))
  else if x.raw.getId== `ω then
   c:=true
   y:=(((y.push (←`(_))).push (←`(_))).push (←`(rfl))).push (←`(rfl))
  else y:=y.push x
 if c then `(⟨$y,*⟩) else Macro.throwUnsupported
local macro_rules|`($a<*>$b)=>`(@L2.aa _ _ _ _ _ $a $b rfl)
set_option hygiene false in
local macro_rules|`(tactic|and_intros)=>`(tactic|refine F.ok sc (fun vs H Q E h=>by repeat first|(obtain ⟨rfl,_⟩:=h;rfl)|obtain ⟨_,h⟩:=h) (fun cdv A outer s H vs Q E hr h=>?_))
local macro_rules|`(tactic|exists $a,*)=>`(tactic|refine ⟨$a,*, ?_⟩)
local macro_rules|`(($x,$y,*))=>`(⟨$x,$y,*⟩)
open Lean in
def sb (b:Nat) (t u:Array Syntax):Nat->Syntax->Syntax
 |n+1,.node i k a=>
  let c:=a.map (sb b t u n)
  let g (s:Syntax):=match s.isNatLit? with |some m=>if b<=m then t.getD (m-b) .missing else .missing|_=>.missing
  let r:=g (.node i k a)
  if !r.isMissing&&r.getNumArgs+r.getId.toString.length>0&& !r.isOfKind `Lean.Parser.Term.hole then r
  else if k== `Lean.Parser.Tactic.sleep then u.getD (a[1]!.isNatLit?.getD 0) .missing
  else if k== `Lean.Parser.Term.app&& !(g a[0]!).isMissing then
   let r:=if c[0]!.isOfKind `Lean.Parser.Term.paren then c[0]![1] else c[0]!
   if r.isOfKind `Lean.Parser.Term.app then .node i k #[r[0],mkNullNode (r[1].getArgs++c[1]!.getArgs)] else .node i k #[r,c[1]!]
  else if k== `Lean.Parser.Command.universe then .node i `Lean.Parser.Command.end #[mkAtom "end",mkNullNode (if a[1]![0].getId== `z0 then #[] else #[a[1]![0],mkNullNode])]
  else .node i k c
 |_,s=>s
open Lean in
local macro_rules|`(mutual $c* end)=>do
 let c:=c.raw
 let mut t:=c[0]![1][1].getArgs
 let some f:=c[1]!.find? (·.isOfKind `Lean.Parser.Tactic.first)|Macro.throwUnsupported
 let mut u<-f[1].getArgs.mapM fun a=>return (<-`(tactic|($(.mk a[1])))).raw
 for _ in [0:9] do
  let g:=sb 33 t u 999
  t:=t.map g
  u:=u.map g
 return mkNullNode ((c.extract 2 c.size).map (sb 33 t u 999))
mutual
#check f
 Str.ofString
 _
 _
 _
 _
 (by decide+kernel)
 _
 _
 _
 _
 _
 _
 (by decide)
 _
 _
 _
 _
 _
 _
 _
 _
 _
 _
 _
 _
 _
 _
 _
 _
 _
 _
 _
 _
 _
 _
 (λ_ _=>rfl)
 _
 _
 _
 _
 _
 _
 _
 _
 _
 _
 _
 _
 _
 _
 _
 _
 _
 _
 _
 _
 _
 _
 _
 s.heap.objs.size
 (by lia)
 (λN hN=>?_)
 Heap.get?_push_of_some
 (by simp)
 _
 (pv 0)
 _
 _
 (_,(aD.refl _) _ _ e9)
 (aX "least" (.int l) 301)
 (ar ao 144 ac 68)
 (ar ao 98 ac 68)
 ⟨rfl,by decide,rfl,by decide⟩
 (model X.prog X.w)
 (pv 1)
 (by with_unfolding_all rfl)
 (model prog w)
 (aA (aA (aA (aA (aA (aA cT))))))
 (λ_ _ _ _ _ _=>dG λ_ _=>rfl)
 (λ_ _ _ _ _ _=>c6 λ_=>rfl)
 (_,(aD.refl _) _ _ ed9)
 (match place M a with|none=> .error .nostep|some i=>match place M b with|none=> .error .nostep|some j=>if M.links.length=24 then .error .full else .ok {M with links:=M.links++ [(w,i,j,t)]}:Except iT Md)
 {cls:= .type "list_iterator",data:= .fields #[.ref l,.int 0 0]}
 (x==("__debug__" :Str))
 xs.length
 (by simp only[Str.length_append];lia)
 (.ref C)
 _
 (λ_ _ _ _ _ _=>fF λ_ _ _=>rfl)
 _
 (.lst [])
 (l3,rfl,(g.trans (ai n2 _)).trans (ai n3 _),ah)
 (ar ao 107 ac 68)
 Heap.get?_push_size
 (aH _)
 _
 (by show (3:Int)≠0;decide)
 (.ListComp elt [⟨.Name own px,iter,[],0⟩] scope pos)
 (Kx name qual params body scope dV kV doc pm an cdv ct)
 (.lst [V.non,.int 3,.bl true,.ref l1,.ref t1,.ref d])
 (X.block scope cl s3.heap.objs.size (own::ys) own fp s3 448)
 (.Call (.Name x p) (e::es) [] pos)
 (λz=>nomatch z)
 (.int (way:Nat))
 (starEach es X.env)
 (some d)
 (pv 3)
 _
 (@aZ _ _ _ _ ak)
 ⟨[],[],[]⟩
 {cls:= .type "tuple",data:= .seq #[.int j tk,x]}
 (pv 2)
 (aX "name" nm [])
 (iu (eW (aP (ky (K:=K) rfl) rfl B.Mf boot_isinstance (98<*>((gz (v:= .ty "str") rfl B.MK boot_str rfl)<*>ak)))))
 {cls:= .type "list",data:= .seq its.toArray n}
 (.lst [.str w,.str n,.ref l,f,.ref u,.ref b])
 (.lst [.str (bS z2 pl)])
 (if ([]:List Keyword).isEmpty then 0 else 1)
 (aF (j:=0) rfl)
 (fT P w)
 (rfl,rfl)
 (aP aQ rfl B.Mm boot_len (104<*>ak))
 (.ref on)
 (.ref Lz)
 (.ref KK)
 (aP aQ rfl B.Mm boot_len 367)
 (G3 n m (aS v))
 (rfl,rfl,461,?_)
 (aq (aM (@bZ _ _ _ _ _ (aw<*>((lX jf ac)<*>ak)))))
 (aR (aR H2 lb 251) a 355)
 (.ref mt)
 (ar ao 139 ac 68)
 (λr s'=>r= .ok (.ret 386)/\OldK s₁.heap s'.heap/\s'.os=s₁.os/\AllBare s'.gens)
 (Builtin.Str.occurrences z 186 0 z.length (z.length+1))
 (w= "or" ∨w= "cut" ∨w= "rest" ∨w= "warm")
 {cls:= .type "enumerate",data:= .fields #[.none,.bool false,.ref 92,rawInt 1,.none,.none]}
 ⟨I.ok.mod,I.ok.kind,I.ok.glob,I.ok.blt,I.ok.above,I.ok.inj,I.ok.has,I.ok.cab,I.ok.hd,I.ok.frames,I.ok.stk,I.ok.exf,I.ok.bs,I.ok.bsz,I.ok.noex,I.ok.exfs,I.ok.funs,I.ok.frf⟩
 (ar ao 297 ac 68)
 (@aZ _ _ _ _ 525)
 (dg t++47::dg b)
 ⟨_,rfl⟩
 (.inl rfl)
 (if m∈M.steps.map (λs=>s.n) then .error .twice else if M.steps.length=12 then .error .full else .ok {M with steps:=M.steps++ [⟨w,m,lo,hi,f,[],none⟩]}:Except iT Md)
 (excClassObj nm q C N bs bm hdct sn sub ab col dd k0 k1 k2 k3 k5 "ValueError.__new__")
 (.lst [.str "row",.str "step",.str "twice"])
 (λ_ _ _ _ h=>h.elim)
 {cls:= .type "list",data:= .seq vs.toArray}
 _
 (bw [c])
 (·.1)
 (by show (12:Int)≠0;decide)
 (1+x12.fmod 12)
 (.builtin "object.__class__")
 ⟨#[c]⟩
 (X.block scope cl C (own::ys) own fp s H)
 (if g∈M.takes.map (λx=>x.1) then .error .twice else if M.takes.length=12 then .error .full else .ok {M with takes:=M.takes++ [(g,a)]}:Except iT Md)
 {cls:= .type "slice",data:= .fields #[vl,vu,.none]}
 (∀σ' H',N σ' H'->∃m',m'<m/\W 240 m' σ' H')
 (comprehension 130 scope X.env pp (newList []) false (eval iter X.env) use)
 (107<*>ak)
 (ay (vx 0 443) (fS DZ46 hr ((pv 10)<*>ak)) (@bZ _ _ _ _ _ ((pv 8)<*>((pv 9)<*>ak))) 127)
 (.ins C dx (aX "takes" (.ref la) f2))
 (Str×Nat)
 (∀h',Heap.SameBut C s6.heap h'->aU X pins σ H5 {s6 with heap:=h'})
 (λz=>by subst z;rw[h] at q;cases q)
 (λe=>?_)
 (Obj.mapFields (·.setIfInBounds 3 Value.none))
 _
 _
 (aR (aR H a (.ins C dx 301)) a (.ins C dx 102))
 (Builtin.«object.__getattribute__» ⟨[.ref x,.str name tk],[]⟩)
 (297<*>ak)
 (match aV f w,cn fs ws with|some v,some vs=>some (v::vs)|_,_=>none)
 (.step w n lo hi f)
 {s with heap:=h'}
 (·.setIfInBounds 1 (Value.ref h1.objs.size))
 (rfl,rfl,?_)
 (by decide,Kj 45)
 (aG tp _ (rfl,.inr (dD.of ah),rfl,rfl,ν,?_))
 (.tup [.str (bS z2 pl)])
 (.tup [.str w,vN at_,vN ot,vN tn])
 (K4 _)
 {cls:= .type "tuple_iterator",data:= .fields #[.ref q,.int 0 0]}
 (rfl,rfl,IntMulOk.of_left 45,aG _ _ (rfl,rfl,aG _ _ (rfl,rfl,183,aL ln _ _ _ (rfl,rfl,.inl en,(by rw[ei];exact y8 hg),?_))))
 (.lst (dH zs))
 {D with nx:=Pv 240,ct:=Pv 240,bk:=D.nx}
 (aF (j:=2) rfl)
 (aF (j:=1) rfl)
 (Txt.join oC (hdT hd::xs.map fU))
 (.builtin "isinstance")
 (rfl,rfl,(c0,cb.div c0),ν,ν,aG _ _ (rfl,rfl,(c0,cb.div c0),by show 2<=sizeLine;decide,λt ht=>q _ _ f t _ (ai ht _) ah))
 (.type "ValueError")
 ([33 "with","orwith"].map V.str)
 (.ref f)
 (w= "after" ∨w= "within" ∨w= "apart")
 (keywordEach [] X.env)
 (cM XZ20 hr 45 rfl cA (98<*>(103<*>192)))
 (ac<*>ak)
 (ν,z,rfl,hz',aG _ _ (rfl,rfl,ν,d2 298 (λc1=>(ν,z,rfl,hz',aG _ _ (rfl,rfl,ν,d2 298 (λc2=>?_))))))
 (ns.map V.int)
 (if n∈M.steps.map (λs=>s.n) then Except.error iT.twice else if M.steps.length=12 then .error .full else .ok _)
 (if g∈M.takes.map (λx=>x.1) then Except.error iT.twice else if M.takes.length=12 then .error .full else .ok _)
 (apos.endLine==cpos.line)
 (.str z)
 (.ref p)
 (start N vs)
 (rfl,trivial,rm,lv,ro,bd,q0,q)
 (i+1)
 (Or.inl rfl)
 (ne (by simp[cw]))
 (.inr rfl)
 {s with sec:=some (lo,hi,[])}
 {nx:=λ_ H'=>Q .non H',rt:=Q}
 (0+(i:Int))
 (.lst [V.int (x3.fmod 1001),.int 0,.int 1000,.int 180])
 (ar b6 436 ac 68)
 (Db hd P w K mg base N qual scope f cdv A outer s H E)
 (A.deeper (PyProof.Rows.envOfC qual 353 92 f cdv))
 (.lst xs)
 (.lst ((Txt.split txt oC).map V.str))
 (ν,rfl,ν,dT rfl (q0 en _ (g1.trans (g2.trans g3))))
 (.type "BaseException")
 (.str w)
 (.ref e)
 (.raw p.2 tk)
 (.lst (vu++ [.ref tp]))
 (.lst (rest.map V.str))
 (.frz o (.lst (vB zs)))
 (aq (aM bK))
 (.lst (dH zt))
 (.ins C dx (aX "most" 560 102))
 (144<*>ak)
 (139<*>ak)
 (λ_=>q "" ks M H ml ok (.inl 153))
 (vN (1+x0 % 542))
 (by rw[z];exact K8.mpr rfl)
 (aP fM rfl B.Mm boot_len 367)
 (Nat×Nat×List cg)
 (.refl _)
 (.ref Mc)
 (.ref LE)
 (λ_ _ _ _ _ _=>pS λ_ _ _ _=>rfl)
 (pv 5)
 (aP aQ rfl B.Mm boot_len ((cG (pv 11) rfl)<*>ak))
 ((h::rs.map dC).map V.str)
 (EP X pins σ Q)
 (zt.map 182)
 (by show 1<=sizeLine;decide,λe ne=>fO ne λd H2 g2 e1 e2 dne gd ed=>(rfl,d,e1,qn d _ gd ed))
 (aw<*>ak)
 (.ref Me)
 (.ref Mb)
 ⟨w,n,lo,hi,f,[],none⟩
 ⟨let ⟨old,he⟩:=st.1;⟨old,k e (by simp) _ he⟩,st.2.at λo q=>k it (by simp) o q⟩
 (xs.map V.int)
 (rfl,I.turnedAll (t':=s.toks) (ch:= [e,it]) hf λb o hb q=>eb b o (λz=>hb (by simp[z])) q)
 (av ax (av ax aw 107) aw)
 (av aN 125 ac)
 (FH FG .nil 45 rfl rfl rfl rfl rfl rfl rfl rfl)
 (B2.map V.str)
 (.lst [.bl true,.bl false,.bl false,.bl false])
 (.lst [.bl false,.bl true,.bl false,.bl false])
 (.lst [.bl false,.bl false,.bl true,.bl false])
 (.lst [.bl false,.bl false,.bl false,.bl true])
 ((relabel scope X.env).names.all λp=> !(p.2== .cell||p.2== .free)||(cl.lookup p.1).isSome)
 (pv 4)
 (λc=>?_)
 (dX (K:=K) rfl)
 (ar b6 107 ac 68)
 (aX "name" (.str nm) [])
 (Nat×Str)
 (.ins C dx (aX "plates" p 145))
 ([e].length+([]:List Keyword).length+150<30)
 (("name" :Str):: "length" :: "length" :: [])
 (if (c:Int)<0 then ((c:Int)+(xs.length:Int)).toNat else min (c:Int).toNat xs.length)
 (I.ok.hd hc)
 (ks.map λx=>V.ref x.a)
 (cG 98 rfl)
 (.str (ny r))
 (.ref t)
 (.lst [.int (1+(i:Int)),.raw (sK r) 446])
 ((i:Int)+1)
 {D with nx:=N,ct:=N,bk:=D.nx}
 (λo=>{o with dict:=some 92})
 (sL z)
 (bU 1 sc (dM Kz PySem.F.slot_str_partition PySem.F.type_str_partition jL 98 281))
 (bU 0 sc (av dk 98 (cU 110)))
 (ar b6 98 ac 68)
 (aP aQ rfl B.Mm boot_len 192)
 (av aN 103 ac)
 ([],[],[])
 (lW rfl (bM (jC 3 sc) (bM (jC 4 sc) eA)))
 (M.steps.map λs=>s.n)
 (.lst (vs++ [.ref t]))
 (.Call (.Name x np) (e₀::rest) [] cpos)
 (∀c o,c≠y->c≠to->c≠j1->c≠j2->s.heap.get? c=some o->h'.get? c=some o)
 (.ref l)
 (scope.names.all λp=> !(p.2== .local)||scope.names.lookup p.1==some .local)
 (λx hx=>?_)
 (he pins s n σ H _ hn I h)
 (aF (j:=3) rfl)
 (A.deeper (envOfC qual scope 92 f cdv))
 (.str (33 "aaaaaaaaaaaaa"))
 (.lst ys)
 (.lst vs)
 (.lst (zs.map V.str))
 (.int (x13.fmod 184))
 {s with heap:=h9}
 (λz=>by cases z)
 (vN at_)
 (rfl,rfl,by lia,aG _ _ (rfl,rfl,by rw[Str.length_append];lia,hN _ _ 153))
 (I.hok.fresh 214)
 (.str (fU x))
 (.lst (vs++ [v]))
 (.builtin "getset_descriptor.__get__")
 ((g2.trans (ai na _)).trans (ai nt _))
 (ha pos pins s σ H _ I h)
 {cls:= .type "dict",data:= .dict #[]}
 (if o=true then "orwith" else "with")
 (fw true a 119 none)
 (false,eval e X.env)
 (az st)
 (Obj.mapFields (·.setIfInBounds 3 (fl.elim Value.none λf=>rawInt f)))
 (.ins C dx (aX "steps" (.ref lb) f3))
 ((rfl,trivial),(rfl,trivial),trivial)
 ((place M n).getD 0)
 (λ_=>?_)
 (λ_ _=>False)
 (by rw[sl];decide+kernel)
 (by rcases hw with rfl|rfl<;>decide)
 (bF bA rfl B.MK boot_str (248<*>ak))
 (av aN (av cu 103 ac) ac)
 (aP aQ rfl B.Mm boot_len (103<*>ak))
 (_,KH.mpr (kj,mj,rfl),hb)
 (K7 (show (sL z)[i]?=some c by rw[<-hc];exact Array.getElem?_toList))
 (98<*>ak)
 (.ref Ma)
 (.raw body tb)
 (.lst (dH (kc k (c7 r))))
 (.lst (.str w::xs++ [x]))
 (k.symm.trans e)
 (X.suite pins a)
 (PW.pt (o6 (ay (mH hr.units0) 139 141 127) (lF (ay bO 321 ac 127))))
 (.int c)
 {s with sec:=some (lo,hi,us++ [u])}
 (λcdv A outer s H vs Q E hr h=>?_)
 (fw true a 119 138)
 (.call (.ref fa) ⟨[.ref a],[]⟩)
 ((env::outer).filterMap (·.frame))
 (hr.mono hk)
 (by simp only[KR]<;>lia)
 (_,KH.mpr (k,hk,rfl),hb)
 (.ref s2.heap.objs.size)
 (.lst [.ref ll,.ref u2])
 (.bool true)
 ((rws.map fU).map V.str)
 (rfl,rfl,118,ν,aL ll _ _ _ (rfl,rfl,aJ.of ell',rfl,ν,iC 93,?_))
 (aR H6 ln (.frz o (.lst (vB zt))))
 (Txt.join oC (hdT h::rows.map fU))
 (.ins cRec dx (pR (.str n) (vN p) (.ref lt) (.ref ls) (.ref lk)))
 (∀y H5,aD H2 H5->R (λa=>H2 a=none∨Z a) H5 y (f i)->Q' y H5)
 (FH (Jr FG) (.cons rfl .nil) 45 rfl rfl rfl rfl rfl rfl rfl rfl)
 (wpAny_pure ?_)
 (typeIs_str s z t)
 (rs.length:Int)
 (rfl,rfl,rfl)
 (l.w,by have:=l.a;simp;lia,by have:=l.b;simp;lia,l.ab,l.t,l.t0)
 (h.ss i k s e1 e2)
 _
 (fS DZ33 hr (98<*>230))
 (cw m lt ls lk ks)
 (KF _ (KF _ (eY hb e)))
 (98<*>(107<*>264))
 (103<*>(103<*>ak))
 (.xd [(f,y)])
 (.tup [.str g,.int (k:Int),vN h])
 (.link w a b t)
 (.builtin id)
 ((rs.length+1:Nat):Int)
 ((p.1:Nat):Int)
 ((bS z2 pl::rs.map dC).map V.str)
 (bM (jC 4 sc) (bM (jC 5 sc) eA))
 (aX "most" m (aX "least" l 145))
 (.lst [.ref lt,.ref ls,.ref lk])
 (he pins s σ H _ I h)
 (aW (ay bO 98 aw 127) (aq (aM (fS DZ13 hr (107<*>230)))) aI)
 (.Slice lo hi none p2)
 {cls:= .type "list",dict:=none,data:= .seq ([]:O8).toArray}
 (ν,rfl,ν,dT rfl (q0 en _ g1))
 (λx=>x.1.isSome)
 (λa=>a≠p/\(H1 a=none∨Z a))
 (rfl,rfl,by rw[Str.length_append,Str.length_append];lia,?_)
 (by simp[So.own])
 (aq (pF (K:=K) rfl 98 107 rfl))
 (aR (aR H1 la (.lst xt)) a 194)
 (["name","length","length"]:O6)
 ((bS z p::rs.map dC).map V.str)
 (∀k' σ' H',N k' σ' H'->∃m',m'<m/\W 240 m' k' σ' H')
 (ue.getD i [])
 (some (c:Int))
 (qF.getD i [])
 (eval o X.env)
 (.ref a)
 (ν,ν,aL a C dx _ (rfl,e0,sc0.cl,sc0.name,by decide,?_))
 (pv 6)
 (hN _ _ ⟨rfl,g6⟩)
 (.tup [.str w,vN i,vN j,vN t])
 (.ref Mo)
 (.ref Mh)
 (.lst (us.map V.ref))
 (u3.extBut _ _ D.TOz.symm (u2.extBut _ _ D.i1z.symm z1))
 (Kg (Nat.add_lt_add_left (by decide:0+1<64) _) hr.units)
 (.bl true,H,I,by show Value.bool _=Value.bool _;simp,hq)
 (w,[.nm a,.nm b]++if w= "within" then [.num t] else [])
 (k+1)
 (ay bO (av aN 107 ac) ac 127)
 (aR H2 s2.heap.objs.size 123)
 (Heap.lt_size e)
 ⟨9,rfl,.inl rfl⟩
 (λ_ _ z=>nomatch z)
 (false,eval a X.env)
 (Kx x qual (dR st) (cK st) 353 dV kV doc pm an cdv ct)
 (5*M.takes.length+1)
 (.int ys.length,H,I.tok _,(s.toks+1,by rw[KR,hlen]),q)
 (.Call (.Attribute (.Name x p) m apos) (e::es) [] pos)
 (∃o,h'.get? e=some o/\o.cls= .type "StopIteration")
 (ν,lg lt,ν,?_,ν,?_,ν,.inl (ν,lg bq,ν,?_,?_,?_))
 (vN p.1)
 (by show (9:Int)≠0;decide)
 (by show (6:Int)≠0;decide)
 (by show (5:Int)≠0;decide)
 (av aN 98 ac)
 (∃o3 o4:Option V,σ= [Pb r,some 236,some a,o3,o4])
 (GQ a b c)
 (G3 n m x)
 (.str due)
 (.inr 174)
 (.bl true)
 {s with uses:=s.uses++ [u]}
 (σ',H',I.unwish.untried,q)
 (x13.fdiv 12+5*246)
 (wpAny_bind ?_)
 (vN room)
 (rfl,rfl,by lia,λp np=>?_)
 (rfl,rfl,by lia,aG _ _ 209)
 (ha pins s n σ H _ hn I h)
 (g4 _ _ er)
 (by simpa using hp)
 (by simpa using g2)
 (by simpa using g1)
 (5*us.length+3)
 (.type "method_descriptor")
 (.tup [vN lo,vN hi,.ref l])
 (.str (iK hd xs).1)
 (.str (Txt.replace w y zz))
 (.ref lx)
 (.ref Mp)
 (.int (iK hd xs).2)
 (rfl,rfl,ν,by show 2<=sizeLine;decide,λl nl=>?_)
 (rfl,rfl,(by show (2147483647:Int)≠0;decide),?_)
 (bF bA rfl B.MK boot_str ((ar ao 436 ac 68)<*>ak))
 (Obj.isFreed_of_fields (Obj.data_mapFields hdT _))
 (.ListComp elt [⟨target,iter,[],0⟩] scope pos)
 (aR (aR H6 l1 149) t1 212)
 (aR (aR H2 lt 123) ls 123)
 (104<*>(104<*>(104<*>ak)))
 ((sL w).all λx=> !(x==81)&& !(x==82)&& !(x==77))
 {cls:= .type "tuple",data:= .seq #[.none,.none]}
 (λb ob e=>95 _ e)
 (ay bO 103 aw 127)
 (aq (aM aw))
 (Ne.symm hb)
 (.lst [.str "after",.str "within",.str "apart"])
 (.Call (.Attribute o name apos) (e::es) [] cpos)
 ((e::es).length+([]:List Keyword).length+150<30)
 ⟨oc,od,.func 131,osl⟩
 {D with nx:=N}
 (cs.map V.int)
 (Gv.map V.str)
 (.str (jB wb))
 (.ins C dx [])
 (.Name own px)
 (.List es pos)
 ⟨[.type "enumerate",.ref l],Cz (.int 1 t)⟩
 (∃m,W 0 m σ H)
 (σ',H',I.outsuite ok,q)
 (λw hw=>l8 rx fx r fs w (by simpa using hw))
 (λr s1=>r= .ok (.ret (.ref (92+1)))/\s1=339)
 (starEach (e::es) X.env)
 (iB DZ48 hr 45 rfl (98<*>(164<*>(164<*>ak))))
 (fw n a 119 none)
 (fJ rs rs.length)
 (by simp[Sk.own])
 (aw<*>(aw<*>281))
 (av ax aw (av pW aw ac))
 (ar ao 104 ac 68)
 (ai nl _)
 (aR H a (.ins C dx 145))
 (V.str a=V.str b)
 (Str.join 181 ws)
 (F.args_str_split_2 _ _)
 (275<*>ak)
 (.ref C')
 (.lst ((ks.map λk=>V.ref k.x)++ [.ref k.x]))
 (.link w' sa.n sb.n tn')
 (.inr (.inr 243))
 (wpAny_bind (l0.at (wpAny_bind (l1.at ?_))))
 (.tup [V.str "cut",.str "rest",.str "warm"])
 (.lst [.str w,.str n,.ref ll,f,.ref u,.non])
 (λC fp s H=>(ar (vw (K:=K) rfl) 98 ac 68))
 (rs.length+1)
 (rfl,rfl,ν,d2 298 298)
 (rfl,cO l (g.fmod l) _ (rfl,l0,KN g lp,?_))
 (ps.zip us)
 (model pr wo)
 (lim.keeps x.toInCall.keep,codeAny_func ?_)
 (jB ws)
 (if o=true then 33 "orwith" else 33 "with")
 (g1.trans g2)
 (by simp;lia)
 (aq (hU I_NoRow hr 45 rfl B.NC rfl cA 230))
 (Str×V)
 (Str×List V)
 (M2.steps.map λs=>s.n)
 (.tup [.str g,.ref t2])
 (.take g a)
 (.ref x)
 (.lst [.str "cut",.str "rest",.str "warm"])
 (.int m)
 (.int b)
 (.int a)
 (Dx P w K mg base)
 (bB P w K mg base)
 (aP 299 rfl B.Mf boot_isinstance)
 (bF bA rfl B.MK boot_str)
 (dM KO KU KS b7)
 (vC P w K mg base)
 (bU 2 sc)
 (av ax)
 (fG Me Mb LE KT KK on mt)
 (aP aQ rfl B.Mm boot_len)
 (aL l l2 _ _)
 (bF eE rfl B.NS boot_list)
 (Be P w K mg base)
 (je PassesOwn.never rfl)
 (av aN)
 (Au P w K mg base 1)
 (ar ao)
 (ay bO)
 (bU 4 sc)
 (bU 3 sc)
 (bU 5 sc)
 (av bV ac)
 (aG _ _)
#check by first|(have sl:sizeLine=16777216:=sizeLine_eq)|(refine wpAny_bind (wpAny_attempt (wpAny_callSpecial?_slot (name:=Str.ofString "__next__") ty F.slot_zip_next (wpAny_call_entry F.slot_zip_next ty F.entry_zip_next ?_ (F.args_zip_next_1 _))));refine wpAny_bind (m:=field (.ref y) 2) (wpAny_field sz rfl (x:= .bool false) rfl (wpAny_bind (m:=field (.ref y) 3) (wpAny_field sz rfl (x:= .ref ti) rfl (wpAny_bind (wpAny_seqItems si rfl (wpAny_bind (m:=Builtin.SmallTypes.ownedTupleIsFree (.ref y)) ?_))))));unfold Builtin.SmallTypes.ownedTupleIsFree;refine wpAny_bind (wpAny_field sz rfl (x:= .none) rfl 394);simp only[if_true];refine wpAny_bind (wpAny_rule (wpAny_bind (wpAny_field sz rfl (x:= .ref to) rfl (wpAny_bind (wpAny_setField_rec sz 96 λe1 (z1:IsZip e1 y ti to .ellipsis) u1=>wpAny_bind ?_))))))|(subst _r1;subst _r2)|(refine F.okX sc (λvs H Q E h=>?_) 377)|(have el2:=g2 _ _ el;have e2:aR H7 l2 177 l2=some (.lst [.str "row",.str "step",.str "twice"]):=ah;have e99:=g2 _ _ (gl _ _ e9);have ed99:=g2 _ _ (gl _ _ ed9);have g6:=g8.trans g2;generalize aR H7 l2 177=H6 at g2 el2 e2 e99 ed99 g6⊢)|(have g2:=ai nl2 177;have el2:=g2 _ _ el;have e2:aR H7 l2 177 l2=some (.lst [.str "row",.str "step",.str "twice"]):=ah;have e99:=g2 _ _ (gl _ _ e9);have ed99:=g2 _ _ (gl _ _ ed9);have g6:=g8.trans g2)|(clear h_ _hi _hj;subst _r1)|(obtain ⟨oj,gj,cj,dj⟩:=id t.1;obtain ⟨oq,gq,_,nq,dq⟩:=id t.2;unfold Builtin.SmallTypes.nextOf;refine wpAny_bind (wpAny_callSpecial?_slot (name:=Str.ofString "__next__") t.1.typeIs slot_tupleiter_next (wpAny_call_entry slot_tupleiter_next t.1.typeIs entry_tupleiter_next ?_ (args_tupleiter_next _)));refine wpAny_bind (m:=field (.ref j) 0) (wpAny_field gj dj (x:= .ref q) rfl ?_);show wpAny _ _ (if (Value.ref q==Value.none)=true then _ else _) _ _ s)|(refine bH h_ λ_r1 _hi=>?_)|(clear h _hi;subst _r1)|(refine F.okT sc (λn vs H Q h=>?_) (λcdv A outer s H vs n Q hr h=>?_))|(intro X hP hw hK hc i pins s σ H E I hf st hg;subst hP hw hK)|(clear _hi;subst _r1)|(dsimp only[bv,bJ])|(clear h_ _hi;subst _r1)|(obtain ⟨σ,H,I,q⟩:=q;have J:=I.outsuite ok;obtain ⟨m,hn,hl⟩:=id J.loc;exact wpAny_nameGoes_keeps hloc hn hcls λh' v hn' hs=>(_,H,J.unbound hi hN hl hn' hs,q))|(intro pins s σ H x y v u Q I rx ry h)|(intro pins s n σ H Q hn I h;refine wpAny_Call_method_late hbase hfew hline rfl (bW (iq hn (ho pins s σ H _ I h)) λv s1 (k1,x,H1,I1,r1,ty,q1)=>?_))|(rintro σ _ ⟨rfl,rfl⟩)|(have ty:s.TypeIs 256 "enumerate" :=(_,he,rfl);unfold pyNext;refine wpAny_bind (wpAny_attempt (wpAny_callSpecial?_slot (name:=Str.ofString "__next__") ty F.slot_enumerate_next (wpAny_call_entry F.slot_enumerate_next ty F.entry_enumerate_next ?_ (F.args_enumerate_next_1 _)))))|(obtain ⟨oc,od,kV,doc,pm,an,cdv,ct,osl,rfl,lk,hcd⟩:=F.ex)|(simp only[K1,K5,or_false] at hx)|(clear h _hi _hj _hk;subst _r1)|(intro pins s σ H xs us Q I r h)|(refine bI h_ λ_r1 _r2 _r3=>?_)|(refine bI _hi λ_r1 g el=>?_)|(have l0:=I.type (M:=model prog w);have l1:=looks_find (M:=model prog w) X I hf;unfold Builtin.«object.__getattribute__»;refine wpAny_bind (wpAny_pure (wpAny_bind (wpAny_pure 538))))|(exists _,(aq (aM (sP (aP jI rfl B.Mf boot_isinstance (98<*>((gz (v:= .ty "int") rfl B.Ox boot_int rfl)<*>ak))) (sO (xM (aP jI rfl B.Mf boot_isinstance (98<*>((gz (v:= .ty "bool") rfl B.Oy boot_bool rfl)<*>ak)))))))))|(have e:114= .ok M2:=e)|(exact (.ref s.heap.objs.size,_,I.laid (o:= .lst [.str z]) (t':=s.toks) (λb ob e=>Heap.get?_push_of_some _ e) 214 (by show 1<=sizeLine;decide,[.str z t],0,.cons ⟨ν⟩ .nil,Heap.get?_push_size _ rfl),rfl,q'))|(rw[evalPart_none];refine wpAny_pure ?_;have I4:aU X pins σ H3 {s3 with heap:=s3.heap.push 189}:=I3.kept (t':=s3.toks) λb ob q=>Heap.get?_push_of_some _ q)|(have l1:(Str.ofString " ").length=1:=by decide)|(exact (ν,360,ν,.inl (ν,by decide,ν,360,ν,360,360,by show 1<=sizeLine;decide,q1 93 _ 271)))|(obtain ⟨_,_,_,_,_,_,_,_,_,_,_,_,rfl,_⟩:=h)|(refine F.ok sc (λvs H Q E h=>?_) 377)|(have e:175= .ok M2:=e)|(refine (ν,aL l _ _ _ (rfl,rfl,aJ.of e2,h12,aG _ _ (rfl,rfl,210,aG _ _ (rfl,rfl,129,rfl,ν,kX 358 (λ_=>hN _ _ _ 397))))))|(intro pins s σ H Q I h;refine wpAny_Call_Name_kw (dQ I hg hm ?_ hdb);refine Lb (h₀:=X.base) I.ok.mod.kin hk (bW 348 λus s1 (vs,H1,I1,r,q)=>(I1.kIn,?_)) he hpl)|(refine bx h_ λl _hi=>?_)|(have bd:∀{u v c d:Nat},u<=c->v<=d->u+(u+1)*v<=c+(c+1)*d:=λh k=>Nat.add_le_add h (LR (Lj h) k))|(refine Cr ?_;intro D' r4 r3 r2 r1)|(rw[hs];refine Calls.callWith_builtin rfl (Calls.evalArgs_plain ?_))|(have n3:=((sn.extBut u1.extBut D.i2z).extBut u2.extBut D.i12.symm).extBut u3.extBut D.TOi2.symm;have l3:=((sl.extBut u1.extBut D.l2z).extBut u2.extBut D.l2i1).extBut u3.extBut D.l2TO)|(have L:∀{w:Str},498=true->wN 465 w=w:=uy)|(refine (by show 3<=sizeLine;decide,λl3 n3=>(ν,aL lx _ _ _ (rfl,rfl,aJ.of (ai n3 _ _ _ ex),hx1,aG _ _ (rfl,rfl,129,aL l3 _ _ _ (rfl,rfl,aJ.of ah,hw,?_))))))|(simp only[Str.append_assoc])|(refine qD h λr l a G n p lt ls lk _hi=>?_)|(refine wpAny_bind (m:=field (.ref j) 1) (wpAny_field gj dj (x:= .int k 0) rfl (wpAny_bind (m:=seqItems? (.ref q)) (wpAny_seqItems gq dq ?_)));simp only[Int.toNat_natCast,hx])|(have nT:H s.heap.objs.size=none:=I.hok.fresh 214;have el:e<s.heap.objs.size:=Heap.lt_size he;have il:it<s.heap.objs.size:=by obtain ⟨_,q,_⟩:=hit;exact Heap.lt_size q)|(have e:188= .ok M2:=e)|(apply wpAny_bind)|(refine (ν,aL a C dx _ (rfl,(by rw[aB (Ne.symm ua)];exact ea),sc0.cl,sc0.uses,by lia,hN _ _ ((k0.new nu _).put _,rfl,u,ua,fr0 nu,by rw[aB ua];exact ah,ah,λb hb=>?_))))|(refine wpAny_bind (wpAny_bind (wpAny_onRaise (wpAny_bind (m:=Builtin.SmallTypes.nextOf (.ref j1)) (vJ (st.but u1 D.i1z D.l1z) D.l1i1 hx λe2 t2 u2=>wpAny_pure ?_)))))|(obtain ⟨its,r,pl,hz⟩:=I.list hS;obtain ⟨⟨c,dct,dt,sl⟩,hl,hc,n,hd⟩:=pl.isList;change c= .type "list" at hc;change dt= .seq its.toArray n at hd;subst hc hd)|(refine dB (bn rl) λx1 xs1 _hi=>?_)|(refine jc _hj λ_r1 wh rm lv ro _hk=>?_)|(obtain ⟨oe,vs,he,hc,_,_,_⟩:=c.xo.ex;refine wpAny_handleBy_cons (codeAny_handlers_test (dQ (X:=X.suite pins a) (J.insuite a) hg hm ?_ hd)) (by intro q;cases q))|(refine call_meets F.slot_str_split 395 F.entry_str_split 532 (meets_str_split_sep z 186 t t' h1 rfl hf 93 hp) ?_)|(intro pins σ H0 s0 D a H' cls v dx s' I c h;obtain ⟨C,b,rfl,hsub,h⟩:=h;have J:aU X pins σ H' s':=I.call' c.os c.un c.hok c.bare (λb z=>absurd z 96))|(refine xF hx.six λx0 x1 x2 x3 x4 x5 _hi=>?_)|(refine lt3 ?_;intro D' r2 r1)|(obtain ⟨t,rfl⟩:=r1)|(obtain ⟨n1,n2,n3,n4,n5,n6⟩:=h.ne)|(exact (by show 6<=sizeLine;decide,λls nls=>hN _ _ _ (rfl,ls,rfl,ai nls _,ah)))|(refine (ν,aG _ _ (rfl,rfl,ν,Hy 198 198)))|(exact jO (A:=X.A.in1) (s:=s) (λx y u w=>pQ I n X.A.in1 x y u w (by show X.A.units+1+n<_;lia)) hA v1 v2 j 481 480)|(refine bx (hxs 2 45) λx2 _hi=>?_)|(refine dB (bn rl1) λx2 xs2 _hi=>?_)|(obtain ⟨o,ho,hb⟩:=LL.mp hb;obtain ⟨k,hk,rfl⟩:=KH.mp ho;obtain ⟨i,hi⟩:=Kh.mp hk;have il:i<M.steps.length:=by rw[<-h.len];exact cf hi)|(have lkm:(ks.map λx=>V.ref x.a).length=M.steps.length:=by rw[K6];exact lks)|(obtain ⟨j,h1,h2,h3,h4,h5⟩:=lG he;obtain ⟨w,ew,rw'⟩:=r.get h2;have hl:=r.length;have hn:=jg;have fin:EP X pins σ Q w s:=(z,H,I,rw',q))|(refine bI _hi λ_r1 e1 rl1=>?_)|(refine Dr ?_;intro D' r3 r2 r1)|(refine (?_,kg (λw hw=>?_) (by simp[kL])))|(have hw:w<2^1900:=LA (KC (Nat.le_mul_of_pos_right w 93) (Lw _ t)) hp)|(rw[gb];refine (aG _ _ (rfl,rfl,118,?_)))|(show (jB ["orwith",n,"M","1","0"]).length<=60;rw[aE,aE,aE,aE,jA];simp only[Str.length_append];have e1:("orwith" :Str).length=6:=by decide)|(obtain ⟨i1,v1,p1,_⟩:=I.tuple h1;obtain ⟨i2,v2,p2,_⟩:=I.tuple h2)|(obtain ⟨i1,r1,p1,_⟩:=I.list h1;obtain ⟨i2,r2,p2,_⟩:=I.list h2)|(show fu _ _ _ (jB [wN _ "orwith",wN _ n,wN _ "M",wN _ "1",wN _ "0"]);rw[L 45,Aa,gn nn,L 45,L 45,uc,w6])|(obtain ⟨xs,x,hq,hx⟩:=hg;obtain ⟨its,rv,p,hz⟩:=I.list hq;obtain ⟨u,hu,ru⟩:=rv.get hx;obtain ⟨⟨old,he⟩,hit⟩:=st)|(refine jc _hi λex b0 b1 b2 b3 _hj=>?_)|(refine cN _hi λ_r1 hz q0 q1=>?_)|(intro pins s n σ H Q hn I h)|(exact (by show 3<=sizeLine;decide,_,.cons ⟨ν⟩ (.cons ⟨ν⟩ (.cons ⟨ν⟩ .nil)),_,Heap.get?_push_size _ rfl,rfl,0,rfl))|(clear h _hi _hj;subst _r1)|(refine (aG T _ (rfl,dD.of ah,rfl,aG _ _ (rfl,aG _ _ 209))))|(refine gQ _hi λks M rr _hj=>?_)|(refine (ν,aG rl _ (rfl,.inl (aJ.of (g0 _ _ er)),?_));rw[len1];refine (aG 1 _ (rfl,(by decide,by decide,by lia,by lia),?_)))|(have hn:(Builtin.Str.occurrences z 186 0 z.length (z.length+1)).length<=z.length+1:=StrLaws.occ_length_le _ _ _ _ _)|(generalize ks[i]=k at hk;have rm1:=rm.same g1;have hkx:(ks.map λk=>V.ref k.x)[i]?=some (.ref k.x):=by rw[KA,hk];rfl)|(have q:=lookup_all ok.has z;simp only[beq_self_eq_true,Bool.true_or,Bool.not_true,Bool.false_or] at q;exact LI.mp q)|(have q:=lookup_all ok.has z;simp only[beq_self_eq_true,Bool.or_true,Bool.not_true,Bool.false_or] at q;exact LI.mp q)|(obtain ⟨xs,hq,hx⟩:=hg;obtain ⟨its,rv,p,hz⟩:=I.list hq;obtain ⟨⟨old,he⟩,hit⟩:=st;have hl:=rv.length)|(refine bx hx.at_ λxs _hi=>?_)|(simp only[kL,K1,K5,or_false] at hw)|(refine codeAny_call_function hr.depth (KX _ _ lk) rfl S.co S.gen rfl (PySem.W.codeRec_of KX hcd) (hb _ _ _ _ ?_))|(have g2:=ai nl2 177)|(refine bx (hxs 3 45) λx3 _hi=>?_)|(refine bH _hi λej jl=>?_)|(refine .inr ((xs,xs[i],q,by simp[hlt]),Pv 240,λσ' H' p'=>(xs.length-240,by lia,rfl,hlt,p'),λx H' y=>?_))|(refine (?_,by decide+kernel))|(intro pins s n σ H D hn I h)|(refine (?_,kg (λw hw=>?_) (by simp[lD])))|(refine (ν,aL _ _ _ _ (rfl,rfl,dD.of ah,rfl,ν,by rw[cQ];lia,λ_=>?_,(λn h=>by rw[bo,eb] at h;cases h))))|(refine Ax ?_;intro D' r1)|(obtain ⟨dx,er⟩:=rm.er;have es:=rm.es;have kl:=rm.len)|(refine ⟨_,rfl,wpAny_letOwnedTupleGo_enum (s:={s with heap:=h1,toks:=s.toks+1}) ho λh2 he2 hs2=>?_⟩)|(refine bI _hk λbd q0 q=>?_)|(have spl':ks.set i k'=ks.take i++k'::ks.drop (i+1):=by rw[List.set_eq_take_append_cons_drop,if_pos il])|(refine (ν,aL l _ _ _ (rfl,rfl,aJ.of el,151,rfl,ν,rC 198 λe=>hN _ _ (rfl,rfl,e))))|(intro pins s σ H x vs v us Q I rx rv h)|(refine bI _hi λhx2 x20 x21=>?_)|(refine (ν,aL l _ _ _ (rfl,rfl,aJ.of el,rfl,ν,cE ?_)))|(obtain ⟨i,hi⟩:=Kh.mp hc;have hi':z.cps[i]?=some c:=by rw[<-hi];exact Array.getElem?_toList.symm)|(refine bH _hi λex hxs=>?_)|(intro σ _ h_)|(intro pins s σ H Q I h)|(have g6:=iS nx nd k6;have hs6:s6= .non:=hs6;subst hs6)|(subst c;rw[if_pos rfl] at f1 f2';rw[if_pos il] at f1;rw[if_pos (by rw[<-h.len];exact il)] at f2')|(refine ⟨all a (by rw[own1];rcases ha with ha|ha;exact LM _ ha;exact KF _ (KF _ ha)),λz=>?_⟩)|(refine bI _hi λ_r1 e2 rl2=>?_)|(intro value slice pins s σ H x y v u Q I rx ry h hs)|(simp only[Kk,K1,not_or] at nd;exact (nd.1.1,nd.1.2.1,nd.1.2.2.1,nd.2.1.1,nd.2.1.2.1,nd.2.2.1.1))|(rw[List.take_succ_eq_append_getElem il,er] at e1;obtain ⟨M0,f1,_,_⟩:=dZ h i;rw[jW f1] at e1)|(exact (B.Nh,B.MH,B.Mu,B.MI,B.MG,B.Ms))|(exact (B.Ng,B.ME,B.Mt,B.MF,B.MD,B.Mr))|(exact (B.NR,B.MP,B.MJ,B.MQ,B.MO,B.Mw))|(obtain ⟨j,h1,h2,h3,h4,h5⟩:=lG he;have hl:z.cps.toList.length=z.length:=by simp[Str.length])|(refine core e λa b k=>?_)|(exact .inr (K7 (i:=j-240) (by rw[List.getElem?_drop,show i+1+(j-240)=j by lia];exact f1)))|(unfold aV;rw[if_neg n1,if_neg n2,hf])|(refine HB ?_;intro D' r5 r4 r3 r2 r1)|(obtain ⟨u,w',rfl,e1,e2⟩:=vals2 r)|(obtain ⟨t,rfl⟩:=rx)|(obtain ⟨sz,si,so,st,sn,sl⟩:=S;have ty:s.TypeIs (.ref y) "zip" :=(_,sz,rfl);unfold pyNext)|(have e2:HT.eC xs.length xs.length none=xs.length:=rfl;unfold eV;rw[e1,e2,Ln (by rw[L0];lia)])|(show 306=c)|(have f0:(x0:Int).fmod 410=((x0 % (rs.length+1):Nat):Int):=KW _ 93)|(obtain ⟨w1,ws,v1,vs,rfl,h1,k1,rfl⟩:=fB h;obtain ⟨w2,ws,v2,vs,rfl,h2,k2,rfl⟩:=fB k1)|(refine dB (bn rl2) λx3 xs3 _hi=>?_)|(refine K9 _ (K9 _ (K9 _ (K9 _ ?_))))|(obtain ⟨rfl,⟨o,rfl⟩,hP⟩:=hP)|(refine (by show 3<=sizeLine;decide,λl2 nl2=>?_))|(have hl:=len _ _ _ _ hsp;have KX:K.In s.heap:=e0.mod.kin.keeps λb o e=>(e0.bs b o e).1)|(simp only[lD,K1,K5,or_false] at hw)|(exists λi m σ H=>m=xs.length-i/\i<=xs.length/\Pv i σ H,(xs.length,by simp,LF _,h0))|(subst _r2;obtain ⟨r,hr⟩:∃r,rs[i]?=some r:=⟨_,K3 hi⟩;have ro:=rok r (K7 hr))|(refine Calls.spliced_nil ?_)|(clear _hi _hj _hk;subst _r1)|(unfold Builtin.Str.partsBetween;simp only[K6,List.length_zip,KE,KL,List.length_nil])|(refine bx h λz _hi=>?_)|(refine Ir ?_;intro D' r3 r2 r1;refine dB (uj zz (i:=0) 45) λz0 t0 _hi=>?_)|(exact L9 (qW xi) I.kIn (uU I e d) h 135 λtk=>(.bl b,H,I.tok tk,rfl,q))|(obtain ⟨bm,N,nm,qn,bs,hdct,sn,sub,ab,col,dd,k0,k1,k2,k3,k5,lk,ok,ini,tl⟩:=M.ex)|(exact (λx hx e=>n1 (KH.mpr (x,hx,e)),n2,rfl))|(subst hh;show (match gh ⟨[],[],[]⟩ 1 rws with| .ok _=>_| .error e=>outF e)=_)|(refine bx _hi λls _hj=>?_)|(obtain ⟨u,es,ep,ho,r⟩:=hm;exact (u,es,ep,k _ u (λz=>(hf _ z).2.1 rfl) ho,r))|(obtain ⟨is1,rv1,p1,hz1⟩:=I.tuple hq1;obtain ⟨is2,rv2,p2,hz2⟩:=I.list hq2)|(intro j kj sj f1 f2;have f2':(M.steps.set i s')[j]?=some sj:=f2;rw[Le] at f1 f2')|(have zl:=(kI ro).2;obtain ⟨ws,ews⟩:=uq r)|(have il:=(KB.mp hi').1;have er:=(KB.mp hi').2;obtain ⟨M1,e1,_,_⟩:=dZ h 240)|(exact io 45)|(clear h_ _hi _hj _hk)|(have st1:s0.heap.FunFrames X.base (X.env::X.outer):=by rw[<-hstk];exact J.stack)|(unfold place;exact LB.mpr (hi,by rw[es];exact p,λj hj=>by simpa using q j hj))|(simp only[sliceBounds,HT.eC,Option.getD_none,show (1:Int)>0 by decide,if_true])|(show ((Int.gcd _ _:Nat):Int)=_*((Int.gcd x y:Nat):Int);rw[Int.gcd_mul_left,LU])|(obtain ⟨C,dx,sv,ff,e1,e2,e3,e4,e5,⟨vs,e6,_⟩,e7⟩:=h;unfold So.own at hb)|(simp only[K1,K5,or_false] at hz)|(simp only[K1,K5,or_false] at hq)|(refine bI _hi λhx3 x30 x31=>?_)|(obtain ⟨h1,h2⟩:=me I1 r1 ty)|(unfold cX at h;obtain ⟨p,i,hi,es,q⟩:=List.find?_eq_some_iff_getElem.mp h)|(refine dB h λa b _hi=>?_)|(refine bx (hxs 5 45) λx5 _hi=>?_)|(refine bx (hxs 4 45) λx4 _hi=>?_)|(refine bx (hxs 1 45) λx1 _hi=>?_)|(refine bH _hj λb4 b5=>?_)|(refine bH _hi λ_r1 q=>?_)|(have q2:r2.length<=60*13*13:=by rw[er2];exact KC (iZ _ _ _) (LR q1 93))|(have len1:(((h::rs.map dC).map V.str).length:Int)=396+1:=by simp)|(have hb:b≠a:=lU q e (by intro z;cases z))|(and_intros)|(have sf:∀b∈kO (X.env::X.outer),H0 b=none:=by rw[<-hstk];exact J.stkFree)|(have hl:(us++ds).length=ps.length:=by rw[<-r2.length];exact F.len _ _ _ _ h)|(have all:=h.all;have q:=(h.ss i k s e1 e2).fq;have mk:=K7 e1;have il:=cf e1)|(simp only[List.zipIdx_cons,List.zipIdx_nil,List.forIn_cons,List.forIn_nil])|(show 205=_)|(rintro i m σ H ⟨rfl,hi,p⟩)|(refine bI _hi λ_r1 e3 rl3=>?_)|(have ed9:=ga _ _ ed;have g9a:=g9.trans ga)|(have fr:X.A.frames=some (X.env::X.outer):=by rw[<-hstk];exact J.ok.frames)|(have KX:=J.kIn;obtain ⟨hh,g,d,tk,os⟩:=s';refine mm KX he hc T hsub ?_)|(have c':iy X.prog X.w (X.env::X.outer) H0 s0 a H' cls dx st s1:=hstk▸c)|(exact (by show 6<=sizeLine;decide,λls nls=>hN _ _ (ls,rfl,ai nls _,ah)))|(have o2:IsPair e2 to a b:=u2.extBut _ _ D.TOi1 (u1.extBut _ _ D.TOz so))|(exact iJ 93)|(rw[own2,LH,LH];refine (d1,(nd,d3,λa ha b hb e=>?_),λa ha b hb e=>?_))|(have s4:(5000:Nat)<=sizeLine:=by decide)|(have lim:s.heap.NoLimit:=e0.mod.nolimit.keeps λb o e=>(e0.bs b o e).1)|(show ((x.cps.toList.drop _).take _).toArray.size=_;rw[e1,e2,KR,Kw,L0])|(refine (ν,cO _ _ _ (rfl,.ii v,ν,gx (ν,cO _ _ _ (rfl,.ib v,ν,q)))))|(obtain ⟨i,rfl,q⟩:=h;obtain ⟨u,w',rfl,⟨t,rfl⟩,e2⟩:=vals2 r)|(obtain ⟨a,ha,k⟩:=List.mem_flatMap.mp k;unfold G3 gN gN gN gN at k)|(exact .inl (K7 (i:=j) (by rw[List.getElem?_take,if_pos lt];exact f1)))|(unfold HT.eC;simp;omega)|(simp only[cy])|(obtain ⟨t',rfl⟩:=ry)|(obtain ⟨i,s,s',hp,hs,hf,rfl⟩:=iI e)|(obtain ⟨h1,_⟩:=h)|(obtain ⟨T,z,rfl,nT,hz,rfl⟩:=y;exact hs i z σ H T (hz xs q) p nT)|(have I2:aU X pins σ H1 {s1 with heap:=h'}:=I1.kept (t':=s1.toks) hk)|(exact hN _ _ _ 397)|(refine (aG _ _ (rfl,dD.of e1,rfl,aG _ _ (rfl,aG _ _ 209))))|(have n1:=KN 472 (show (0:Int)<26 by decide))|(have dd:∀n c,c∈dg n->43<=c:=λn c h=>by have:=(eJ n c h).1;lia)|(change fQ (bS n p)=some (w,us) at e;rw[iV hg.1 hg.2.1 hg.2.2] at e)|(have kp:=(Kp.refl [lt] H).put (x:=lt) 96 345)|(have kp:=(Kp.refl [lk] H).put (x:=lk) 96 345)
namespace HT
open PySem PyProof.Rows
section
variable {prog:Program} {w:World} {A:Around} {E:O2} {s:Shared}
noncomputable def eC (n d:Nat):Option Int->Nat
 |none=>d
 |some v=>if v<0 then (v+(n:Int)).toNat else min v.toNat n
universe z0
universe HT
namespace L2
open PySem PySem.Spec PyProof.Rows
abbrev TO:=St->Hp->(Option Int->Hp->Prop)->Prop
def PO (X:Cx) (e:Option Expr) (t:TO):Prop:=
 ∀(pins:O4) (s:Shared) (σ:St) (H:Hp) (Q:Option Int->Hp->Prop),aU X pins σ H s->t σ H Q->
  wpAny 106 X.A (evalPart e X.env) (λu s'=>∃o H',aU X pins σ H' s'/\IsPart u o/\Q o H') X.xe s
def AI:TO:=λ_ H Q=>Q none H
def Fp (t:TE):TO:=λσ H Q=>t σ H λx H1=>∃i,x= .int i/\Q (some i) H1
section
variable {X:Cx} {e:Expr} {te:TE} {lo hi:Option Expr} {tl th:TO} {pos p2:Pos}
theorem eD:PO X none AI:=by
 sleep 117;rw[evalPart_none];exact wpAny_pure (none,H,I,.none,h)
theorem cP (h:PE X e te):PO X (some e) (Fp te):=by
 intro pins s σ H Q I hw;rw[evalPart_some];refine bW (h pins s σ H _ I hw) λu s1 (x,H1,I1,r1,q1)=>?_
 obtain ⟨i,rfl,q⟩:=q1;sleep 61;exact (some i,H1,I1,.int i t,q)
def Jo (X:Cx) (r:V->Option Int->Option Int->Hp->VK->Prop):Prop:=
 ∀(pins:O4) (s:Shared) (σ:St) (H:Hp) (x:V) (v vl vu:Value) (lo hi:Option Int) (sl:Addr) (Q:VK),aU X pins σ H s->RelV x v->s.heap.IsSliceOf sl vl vu .none->IsPart vl lo->IsPart vu hi->r x lo hi H Q->
  ∃T id,typeLookup (.type T) "__getitem__" =pure (some 409)/\s.TypeIs v T/\wpAny 106 X.A (getItem v (.ref sl)) 278 X.xe s
def JK (r:V->Option Int->Option Int->Hp->VK->Prop) (te:TE) (tl th:TO):TE:=λσ H Q=>te σ H λx H1=>tl σ H1 λl H2=>th σ H2 λu H3=>r x l u H3 Q
theorem dL {r:V->Option Int->Option Int->Hp->VK->Prop} (hr:Jo X r) (he:PE X e te) (hl:PO X lo tl) (hu:PO X hi th):PE X (.Subscript e 418 pos) (JK r te tl th):=by
 sleep 117;refine Subscript_ (bW 416 λv s1 (x,H1,I1,r1,q1)=>?_)
 refine wpAny_Slice (bW (hl pins s1 σ H1 _ I1 q1) λvl s2 (l,H2,I2,pl,q2)=>bW (hu pins s2 σ H2 _ I2 q2) λvu s3 (u,H3,I3,pu,q3)=>?_)
 sleep 30
 obtain ⟨T,id,hT,ht,hg⟩:=hr pins {s3 with heap:=s3.heap.push 189} σ H3 x v vl vu l u s3.heap.objs.size Q I4 r1 (Heap.IsSliceOf.new ..) pl pu q3
 show wpAny 106 X.A (subscriptTail e 418 v (.ref s3.heap.objs.size)) 278 X.xe {s3 with heap:=s3.heap.push 189}
 exact tail_any (ops:= [.ref s3.heap.objs.size,v]) ht hT hg 108
noncomputable def eV (xs:List V) (lo hi:Option Int):List V:=(xs.drop (HT.eC 117 0 lo)).take (HT.eC 117 117 hi-HT.eC 117 0 lo)
theorem qP (xs:List V) (lo hi:Option Int):(eV xs lo hi).length<=xs.length:=by
 unfold eV;rw[Kw,L0]
 lia
universe z0
noncomputable def AJ (n:Nat) (i:Int):Option Nat:=if 0<=i then (if i<n then some i.toNat else none) else if-(n:Int)<=i then some (i+n).toNat else none
noncomputable def eZ {α:Type} (xs:List α) (i:Int):Option α:=(AJ 117 i).bind λj=>xs[j]?
theorem uL {n:Nat} {i:Int} {j:Nat} (h:AJ n i=some j):seqIndex? i n=some j/\j<n/\ -(n:Int)<=i/\i<n:=by
 unfold AJ at h
 by_cases h0:0<=i
 ·rw[if_pos h0] at h
  by_cases h1:i<n
  ·rw[if_pos h1] at h;have e:i.toNat=j:=KI h;exact (by rw[seqIndex_of h0 h1,e],by lia,by lia,h1)
  ·rw[if_neg h1] at h;cases h
 ·rw[if_neg h0] at h
  by_cases h1: -(n:Int)<=i
  ·rw[if_pos h1] at h;have e:(i+n).toNat=j:=KI h;exact (by rw[seqIndex_neg 93 h1,e],by lia,h1,by lia)
  ·rw[if_neg h1] at h;cases h
theorem lG {α:Type} {xs:List α} {i:Int} {v:α} (h:eZ xs i=some v):∃j,seqIndex? i 117=some j/\xs[j]?=some v/\j<xs.length/\ -(xs.length:Int)<=i/\i<xs.length:=by
 unfold eZ at h;cases e:AJ xs.length i with
 |none=>rw[e] at h;cases h
 |some j=>
  rw[e] at h;obtain ⟨h1,h2,h3,h4⟩:=uL e;exact (j,h1,h,h2,h3,h4)
theorem aF {α:Type} {xs:List α} {j:Nat} {v:α} (h:xs[j]?=some v):eZ xs (j:Int)=some v:=by
 have hj:j<xs.length:=(KB.mp h).1;have e:AJ 117 (j:Int)=some j:=by
  unfold AJ;rw[if_pos 93,if_pos 93];simp
 unfold eZ;rw[e];exact h
def uM (b:Expr):Prop:=∀o i,subscripted b false o i=operate [o,i] (getItem o i)
def E3 (X:Cx) (r:R2):Prop:=
 ∀(value slice:Expr) (pins:O4) (s:Shared) (σ:St) (H:Hp) (x y:V) (v u:Value) (Q:VK),aU X pins σ H s->RelV x v->RelV y u->r x y H Q->
  subscripted slice false v u=operate [v,u] (getItem v u)->wpAny 106 X.A (subscriptTail value slice v u) 278 X.xe s
def Cf (X:Cx) (id:String) (r:V->List V->Hp->VK->Prop):Prop:=
 ∀(pins:O4) (s:Shared) (σ:St) (H:Hp) (x:V) (xs:List V) (v:Value) (us:O8) (Q:VK),aU X pins σ H s->RelV x v->bj xs us->r x xs H Q->
  wpAny 106 X.A (call 409 (v::us)) 278 X.xe s
section
variable {X:Cx} {a b:Expr} {ta tb:TE} {pos:Pos}
theorem ar {r:R2} (hr:E3 X r) (ha:PE X a ta) (hb:PE X b tb) (hs:uM b):PE X (.Subscript a b pos) (CZ r ta tb):=by
 sleep 117;exact Subscript_ (C0 ha hb I h λv u s2 x y H2 I2 rx ry q=>hr a b pins s2 σ H2 x y v u Q I2 rx ry q (hs _ _))
def AK (K:K0):R2:=λx y H Q=>∃p xs i v,x= .ref p/\y= .int i/\aJ K H p xs/\eZ xs i=some v/\Q v H
def Fs (K:K0):R2:=λx y H Q=>∃p xs i v,x= .ref p/\y= .int i/\dD K H p xs/\eZ xs i=some v/\Q v H
def HZ:R2:=λx y H Q=>∃z i c,x= .str z/\y= .int i/\z.length<=sizeLine/\eZ z.cps.toList i=some c/\Q (.str 186) H
theorem ao:E3 X (AK X.K):=by
 sleep 122;obtain ⟨p,xs,i,z,rfl,rfl,hq,he,q⟩:=h;cases rx;obtain ⟨t,rfl⟩:=ry;obtain ⟨its,r,pl,hz⟩:=I.list hq;sleep 70
 by_cases h0:0<=i
 ·have hj:i.toNat=j:=by
   rw[seqIndex_of h0 h5] at h1;exact KI h1
  exact item_listR pl.isList h0 93 (by rw[hj];simpa using ew) fin hs
 ·have hj:(i+(its.toArray.size:Int)).toNat=j:=by
   rw[seqIndex_neg 93 h4] at h1
   rw[KR,<-hl];exact KI h1
  exact subscriptTail_builtinR (x:=w) pl.isList.typeIs slot_list_getitem.lookup
   (wpAny_getItem_list_neg (Q:=λr s'=>r=w/\EP X pins σ Q r s') pl.isList 93 (by rw[KR]<;>lia) 93 (by rw[hj];simpa using ew) ⟨rfl,fin⟩) hs
theorem b6:E3 X (Fs X.K):=by
 sleep 122;obtain ⟨p,xs,i,z,rfl,rfl,hq,he,q⟩:=h;cases rx;obtain ⟨t,rfl⟩:=ry;obtain ⟨its,r,pl,hz⟩:=I.tuple hq;sleep 70;exact subscriptTail_builtinR (x:=w) pl.typeIs slot_tuple_getitem.lookup
  (getItem_tuple (j:=j) (Q:=λr s'=>r=w/\EP X pins σ Q r s') pl 93 93 (by rw[KR,<-hl];exact h1) (by simpa using ew) ⟨rfl,fin⟩) hs
theorem xW:E3 X HZ:=by
 sleep 122;obtain ⟨z,i,c,rfl,rfl,hz,he,q⟩:=h;sleep 134;sleep 209;sleep 128
 rw[hl] at h1 h4 h5;have hn:=jg;exact tail_any 395 slot_str_getitem.lookup (getItem_str (c:=c) (by
  have e1:decide (i< -(2^63:Int))=false:=decide_eq_false 93
  have e2:decide (i≥2^63)=false:=decide_eq_false 93
  rw[e1,e2,Bool.or_false]) (by rw[h1];simpa using h2) ⟨.str 186,H,I.tok _,173,q⟩) hs
theorem sY (its:O8) (n j:Nat) (u:Value):Obj.mapSeq (·.setIfInBounds j u) 147={cls:= .type "list",data:= .seq (its.set j u).toArray n}:=by
 simp[Obj.mapSeq]
theorem aU.lst {pins:O4} {σ:St} {H:Hp} {s:Shared} {p:Addr} {xs:List V} (I:aU X pins σ H s) (h:H p=some 251):
  ∃(its:O8) (n:Nat),bj xs its/\s.heap.get? p=some 147/\xs.length<=sizeLine:=by
 obtain ⟨z,its,n,r,e⟩:=I.hok p _ h;exact (its,n,r,e,z)
theorem aU.lstUpd {pins:O4} {σ:St} {H:Hp} {s:Shared} {p:Addr} {xs ys:List V} {its its':O8} {n n':Nat} {f:Obj->Obj} (I:aU X pins σ H s) (h:H p=some 251)
  (ho:s.heap.get? p=some 147) (hf:f 147={cls:= .type "list",data:= .seq its'.toArray n'}) (r:bj ys its') (hz:ys.length<=sizeLine) (t:Nat):
  aU X pins σ (aR H p 335) {s with heap:=s.heap.update p f,toks:=t}:=by
 have e:(s.heap.update p f).get? p=some {cls:= .type "list",data:= .seq its'.toArray n'}:=by
  rw[Heap.get?_update_self f ho (by rw[hf]<;>rfl),hf]
 refine I.write (x:=p) (e:=p) (by rw[h];trivial) 174 (λb u hb q=>(Heap.get?_update_other _ _ 503).trans q) (_,e) ?_
 exact (hz,its',n',r,e)
def Ft:V->V->V->Hp->(Hp->Prop)->Prop:=λo i v H Q=>∃p xs k j,o= .ref p/\i= .int k/\H p=some 251/\AJ 117 k=some j/\Q (aR H p (.lst (xs.set j v)))
theorem set_list:Fd X Ft:=by
 intro pins s σ H o i v ov iv u Q I ro ri rv h;obtain ⟨p,xs,k,j,rfl,rfl,hp,hj,q⟩:=h;cases ro;obtain ⟨t,rfl⟩:=ri;obtain ⟨its,n,r,ho,hz⟩:=I.lst hp;obtain ⟨h1,h2,h3,h4⟩:=uL hj;have hl:=r.length;have hn:=jg;have I':aU X pins σ (aR H p (.lst (xs.set j v))) {s with heap:=s.heap.update p (Obj.mapSeq (·.setIfInBounds j u))}:=
  I.lstUpd hp ho (sY its n j u) (r.set rv j) (by rw[List.length_set];exact hz) s.toks
 by_cases h0:0<=k
 ·have hk:k.toNat=j:=by
   rw[seqIndex_of h0 h4] at h1;exact KI h1
  exact PySem.W.ki_setAt ho h0 93 (by rw[KR,<-hl];exact h4) (by rw[hk];exact (_,I',q))
 ·have hk:(k+(its.toArray.size:Int)).toNat=j:=by
   rw[seqIndex_neg 93 h3] at h1
   rw[KR,<-hl];exact KI h1
  exact PySem.W.ki_setBack ho 93 (by rw[KR,<-hl];exact h3) 93 (by rw[hk];exact (_,I',q))
theorem pq (lo hi:Option Int) (n:Nat):(sliceBounds lo hi none n).1=((HT.eC n 0 lo:Nat):Int)/\(sliceBounds lo hi none n).2.1=((HT.eC n n hi:Nat):Int)/\(sliceBounds lo hi none n).2.2=1:=by
 refine (?_,?_,rfl)
 ·cases lo with
  |none=>simp[sliceBounds,HT.eC]
  |some i=>
   sleep 167
   by_cases h:i<0
   ·simp only[h,if_true]<;>lia
   ·simp only[h,if_false]<;>lia
 ·cases hi with
  |none=>simp[sliceBounds,HT.eC]
  |some i=>
   sleep 167
   by_cases h:i<0
   ·simp only[h,if_true]<;>lia
   ·simp only[h,if_false]<;>lia
theorem nC (its:O8) (lo hi:Option Int):slicePick its.toArray lo hi none=((its.drop (HT.eC its.length 0 lo)).take (HT.eC its.length its.length hi-HT.eC its.length 0 lo)).toArray:=by
 obtain ⟨h1,h2,h3⟩:=pq lo hi its.toArray.size;unfold slicePick;rw[h1,h2,h3];simp only[sliceRange_one,pick_run,KR]<;>rfl
def Ia (K:K0):V->Option Int->Option Int->Hp->VK->Prop:=λx lo hi H Q=>∃a xs,x= .ref a/\aJ K H a xs/\∀p,H p=none->Q 237 (aR H p (.lst (eV xs lo hi)))
theorem fv:Jo X (Ia X.K):=by
 intro pins s σ H x v vl vu lo hi sl Q I rx hs pl pu h;obtain ⟨a,xs,rfl,hx,q⟩:=h;cases rx;obtain ⟨its,r,ht,hz⟩:=I.list hx;have hlen:=r.length;exists "list",_,slot_list_getitem.lookup,ht.isList.typeIs;refine wpAny_getItem_list_slice ht.isList hs pl pu .none 96 ?_ (by rw[KR]<;>lia)
 rw[nC,<-hlen];refine (.ref 92,_,I.laid (t':=s.toks) (o:= .lst (eV xs lo hi)) (λb ob q=>95 _ q) 214 ?_,rfl,q _ 343)
 exact (KC (qP xs lo hi) hz,_,0,(r.drop (HT.eC 117 0 lo)).take (HT.eC 117 117 hi-HT.eC 117 0 lo),126 _ rfl)
noncomputable def jH:V->Bool
 | .non=>true
 | .bl _=>true
 | .int _=>true
 | .str _=>true
 |_=>false
noncomputable def AL:V->V->Bool
 | .non,.non=>true
 | .bl a,.bl b=>a==b
 | .bl a,.int b=>(if a then 1 else 0)==b
 | .int a,.bl b=>a==(if b then 1 else 0)
 | .int a,.int b=>a==b
 | .str a,.str b=>a==b
 |_,_=>false
theorem C1 {A:Around} {s:Shared} {y x:V} {u v:Value} (ry:RelV y u) (rx:RelV x v) (fy:jH y=true) (fx:jH x=true):SeqAt.EqAt A s u v (AL y x):=by
 cases y with
 |non=>
  cases ry;cases x with
  |non=>cases rx;exact SeqAt.EqAt.same _
  |bl b=>cases rx;exact SeqAt.EqAt.none_bool b
  |int b=>obtain ⟨t,rfl⟩:=rx;exact SeqAt.EqAt.none_int b t
  |str b=>obtain ⟨t,rfl⟩:=rx;exact SeqAt.EqAt.none_str b t
  |_=>exact absurd (show false=true from fx) KM
 |bl a=>
  cases ry;cases x with
  |non=>cases rx;exact SeqAt.EqAt.bool_none a
  |bl b=>cases rx;exact SeqAt.EqAt.bool_bool a b
  |int b=>obtain ⟨t,rfl⟩:=rx;exact SeqAt.EqAt.bool_int a b t
  |str b=>obtain ⟨t,rfl⟩:=rx;exact SeqAt.EqAt.bool_str a b t
  |_=>exact absurd (show false=true from fx) KM
 |int a=>
  sleep 209;cases x with
  |non=>cases rx;exact SeqAt.EqAt.int_none a t'
  |bl b=>cases rx;exact SeqAt.EqAt.int_bool a t' b
  |int b=>obtain ⟨t,rfl⟩:=rx;exact SeqAt.EqAt.int_int a t' b t
  |str b=>obtain ⟨t,rfl⟩:=rx;exact SeqAt.EqAt.int_str a t' b t
  |_=>exact absurd (show false=true from fx) KM
 |str a=>
  sleep 209;cases x with
  |non=>cases rx;exact SeqAt.EqAt.str_none a t'
  |bl b=>cases rx;exact SeqAt.EqAt.str_bool a t' b
  |int b=>obtain ⟨t,rfl⟩:=rx;exact SeqAt.EqAt.str_int a t' b t
  |str b=>obtain ⟨t,rfl⟩:=rx;exact SeqAt.EqAt.str_str a t' b t
  |_=>exact absurd (show false=true from fx) KM
 |_=>exact absurd (show false=true from fy) KM
noncomputable def AM (x:V) (u:Value):Bool:=match u with
 | .none=>AL .non x
 | .bool b=>AL (.bl b) x
 | .int i _=>AL (.int i) x
 | .str z _=>AL 236 x
 |_=>false
theorem xX {x y:V} {u:Value} (r:RelV y u) (f:jH y=true):AM x u=AL y x:=by
 cases y with
 |non=>cases r;rfl
 |bl b=>cases r;rfl
 |int i=>obtain ⟨t,rfl⟩:=r;rfl
 |str z=>obtain ⟨t,rfl⟩:=r;rfl
 |_=>exact absurd (show false=true from f) KM
theorem pz {x:V}:∀{xs:List V} {us:O8},bj xs us->xs.all jH=true->us.any (AM x)=xs.any λy=>AL y x
 |_,_,.nil,_=>rfl
 |y::xs,u::us,.cons r t,f=>by
  rw[List.all_cons,KQ] at f;rw[List.any_cons,List.any_cons,xX r f.1,pz t f.2]
theorem l8 {A:Around} {s:Shared} {x:V} {v:Value} (rx:RelV x v) (fx:jH x=true):∀{xs:List V} {us:O8},bj xs us->xs.all jH=true->∀u∈us,SeqAt.EqAt A s u v (AM x u)
 |_,_,.nil,_=>λu hu=>by cases hu
 |y::xs,u::us,.cons r t,f=>λu' hu=>by
  rw[List.all_cons,KQ] at f;rcases K1.mp hu with rfl|hu
  ·rw[xX r f.1];exact C1 r rx f.1 fx
  ·exact l8 rx fx t f.2 u' hu
noncomputable def md (x:V) (xs:List V):Bool:=xs.any λy=>AL y x
def JL (K:K0) (neg:Bool):R2:=λx y H Q=>∃p xs,y= .ref p/\(aJ K H p xs∨dD K H p xs)/\jH x=true/\xs.all jH=true/\Q (.bl (if neg then !md x xs else md x xs)) H
theorem cZ:i8 X (compareOp .In) (JL X.K false):=by
 sleep 16;obtain ⟨p,xs,rfl,hq,fx,fs,q⟩:=h;cases ry;rcases hq with hq|hq
 ·obtain ⟨its,r,pl,hz⟩:=I.list hq;refine SeqAt.in_listAt (AM x) pl.isList 518 (.bl _,H,I,rfl,?_)
  rw[show its.toArray.any (AM x)=its.any (AM x) by simp,pz r fs]
  exact q
 ·obtain ⟨its,r,pl,hz⟩:=I.tuple hq;refine SeqAt.in_tupleAt (AM x) pl 518 (.bl _,H,I,rfl,?_)
  rw[show its.toArray.any (AM x)=its.any (AM x) by simp,pz r fs]
  exact q
theorem fL:i8 X (compareOp .NotIn) (λx y H Q=>∃i j,x= .str i/\y= .str j/\Q (.bl (!(!(Builtin.Str.occurrences j i 0 j.length 1).isEmpty))) H):=by
 sleep 16;obtain ⟨i,j,rfl,rfl,q⟩:=h;sleep 134;sleep 209;exact notIn_str (.bl _,H,I,rfl,q)
theorem aQ:fV X (.builtin "len") (λxs H Q=>∃p ys,xs= [.ref p]/\(aJ X.K H p ys∨dD X.K H p ys)/\Q (.int ys.length) H):=by
 sleep 23;obtain ⟨p,ys,rfl,hq,q⟩:=h;obtain ⟨u,rfl,rx⟩:=vals1 r;cases rx;have hn:=jg;rcases hq with hq|hq
 ·obtain ⟨its,r',pl,hz⟩:=I.list hq;have hlen:=r'.length;exact Calls.call_len_list pl.isList 382 455
 ·obtain ⟨its,r',pl,hz⟩:=I.tuple hq;have hlen:=r'.length;exact len_tuple pl 382 455
theorem fM:fV X (.builtin "len") (λxs H Q=>∃z,xs= [.str z]/\z.length<=sizeLine/\Q (.int z.length) H):=by
 sleep 23;obtain ⟨z,rfl,hz,q⟩:=h;obtain ⟨u,rfl,t,rfl⟩:=vals1 r;have hn:=jg;exact len_str 93 (.int z.length,H,I.tok _,⟨ν⟩,q)
theorem eE:fV X (.type "list") (λxs H Q=>∃p ys,xs= [.ref p]/\(aJ X.K H p ys∨dD X.K H p ys)/\∀l,H l=none->Q 328 (aR H l 335)):=by
 sleep 23;obtain ⟨p,ys,rfl,hq,q⟩:=h;obtain ⟨u,rfl,rx⟩:=vals1 r;cases rx;have fin:∀(its:O8),bj ys its->ys.length<=sizeLine->∀(h':Heap) (c':Nat),(∀b o',s.heap.get? b=some o'->h'.get? b=some o')->
   h'.get? 92=some {cls:= .type "list",dict:=none,data:= .seq its.toArray c',slots:= #[]}->EP X pins σ Q (.ref 92) {s with heap:=h'}:=λits r' hz h' c' kp e=>
  ⟨.ref 92,_,I.laid (t':=s.toks) kp 214 (show cr X.prog X.w _ h' _ 335 from ⟨hz,its,c',r',e⟩),rfl,q _ 343⟩
 rcases hq with hq|hq
 ·obtain ⟨its,r',pl,hz⟩:=I.list hq;have hlen:=r'.length;obtain ⟨o,ho,hc,n,hd⟩:=pl.isList;exact call_list_seq p 174 ho hc hd (λh' c' kp e=>fin its r' hz h' c' kp e) 382
 ·obtain ⟨its,r',pl,hz⟩:=I.tuple hq;have hlen:=r'.length;obtain ⟨o,ho,hc,n,hd⟩:=pl;exact call_list_seq p 243 ho hc hd (λh' c' kp e=>fin its r' hz h' c' kp e) 382
def E4 (K:K0) (T:String) (x:V) (H:Hp):Prop:=match x with
 | .str _=>T= "str"
 | .int _=>T= "int"
 | .ref p=>(T= "list" /\∃xs,aJ K H p xs)∨(T= "tuple" /\∃o,K.lookup p=some o/\o.cls= .type "tuple" /\o.dict=none)∨
   (T= "dict" /\((∃kvs,H p=some (.dK kvs))∨∃kvs,H p=some (.dT kvs)))∨(T= "set" /\∃S n,H p=some (.set S n))
 |_=>False
theorem me {pins:O4} {σ:St} {H:Hp} {s:Shared} {T:String} {x:V} {v:Value} (I:aU X pins σ H s) (r:RelV x v) (ty:E4 X.K T x H):
  s.TypeIs v T/\∀a,v= .ref a->∃ob,s.heap.get? a=some ob/\ob.dict=none:=by
 cases x with
 |str z=>
  obtain ⟨t,rfl⟩:=r;cases (show T= "str" from ty)
  exact (typeIs_str s z t,λ_ e=>nomatch e)
 |int i=>
  obtain ⟨t,rfl⟩:=r;cases (show T= "int" from ty)
  exact (typeIs_int s i t,λ_ e=>nomatch e)
 |ref p=>
  cases r;rcases ty with ⟨rfl,xs,hq⟩|⟨rfl,o,hk,hc,hd⟩|⟨rfl,hk⟩|⟨rfl,S,n,hk⟩
  ·obtain ⟨its,_,pl,_⟩:=I.list hq;refine (pl.isList.typeIs,λa e=>?_)
   cases e;obtain ⟨o,n,e,c,hd,_⟩:=pl;exact (o,e,hd)
  ·refine ((o,I.kIn p o hk,hc),λa e=>?_)
   cases e;exact (o,I.kIn _ o hk,hd)
  ·have z:∃o,s.heap.get? p=some o/\o.ExactDict:=by
    rcases hk with ⟨kvs,hk⟩|⟨kvs,hk⟩
    ·obtain ⟨_,_,_,_,o,_,_,e,ex,_⟩:=I.hok p _ hk;exact (o,e,ex)
    ·obtain ⟨_,_,_,_,o,_,_,e,ex,_⟩:=I.hok p _ hk;exact (o,e,ex)
   obtain ⟨o,e,ex⟩:=z;refine ((o,e,ex.1),λa e2=>?_)
   cases e2;exact (o,e,ex.2.1)
  ·obtain ⟨o,_,_,_,e,ex,_⟩:=I.hok p _ hk;refine ((o,e,ex.1),λa e2=>?_)
   cases e2;exact (o,e,ex.2.1)
 |_=>exact False.elim ty
def Jp (K:K0) (T:String) (r:V->List V->Hp->VK->Prop) (to:TE) (t:TA):TE:=λσ H Q=>to σ H λx H1=>E4 K T x H1/\t σ H1 λxs H2=>r x xs H2 Q
variable {o e:Expr} {es:List Expr} {to:TE} {t:TA} {name:Str} {apos cpos:Pos} {T id:String} {r:V->List V->Hp->VK->Prop}
theorem dM (pa:PlainAttrs T) (slot:Slot T name id) (hty:typeOf 409=pure 483) (hm:Cf X id r) (ho:PE X o to) (ha:PA X (e::es) t)
  (hbase:attributeBase o name X.env 433=eval o X.env:=by rfl)
  (hfew:((backTo cpos 520).all (λx=> !x.1)&&(backToKw cpos 228).all 421
   &&decide 506)=true:=by rfl)
  (hline:235=true:=by rfl) (hs:starEach (e::es) X.env=(false,eval e X.env)::starEach es X.env:=by rfl) (hplain:(backTo cpos 137).any 182=false:=by rfl):
  PE X 505 (Jp X.K T r to t):=by
 sleep 117;refine wpAny_Call_method_late hbase hfew hline rfl (bW (ho pins s σ H _ I h) λv s1 (x,H1,I1,r1,ty,q1)=>?_)
 sleep 173;exists T,id,pa,slot,hty,h1,h2;have hA:=ha cpos pins s1 σ H1 _ I1 q1;rw[hs] at hA⊢;refine Calls.callWith_builtin (by show (false||(backTo cpos 137).any 182)=false;rw[hplain]<;>rfl) (Calls.evalArgs_plain ?_)
 exact bW hA λus s2 (vs,H2,I2,r2,q2)=>hm pins s2 σ H2 x vs v us Q I2 r1 r2 q2
universe z0
def JM (X:Cx) (id:String) (r:V->List V->Hp->VK->Prop):Prop:=
 ∀(pins:O4) (s:Shared) (σ:St) (H:Hp) (x:V) (xs:List V) (v:Value) (us:O8) (Q:VK),aU X pins σ H s->RelV x v->bj xs us->r x xs H Q->
  wpAny 106 X.A (call 409 (v::us)) 278 X.xe s
theorem bj.one:∀{x:V} {us:O8},bj [x] us->∃u,us= [u]/\RelV x u
 |_,_,.cons r .nil=>⟨_,rfl,r⟩
section
variable {X:Cx} {pins:O4} {σ:St} {H:Hp} {s:Shared} {l b:Addr} {xs ys zs:List V}
theorem aU.lset {its its':O8} {n:Nat} {f:Array Value->Array Value} {t':Nat} (I:aU X pins σ H s) (hH:H l=some 251)
  (e:s.heap.get? l=some 147) (hf:f its.toArray=its'.toArray) (hv:bj ys its') (hz:ys.length<=sizeLine):
  aU X pins σ (aR H l 335) {s with heap:=s.heap.update l (Obj.mapSeq f),toks:=t'}:=by
 have q:=PySem.IsL.update e f;rw[hf] at q;refine I.write (x:=l) (e:=l) (by rw[hH];exact trivial) 174 (λb' u hb hu=>(Heap.get?_update_other s.heap (Obj.mapSeq f) 503).trans hu) (_,q) ?_
 exact (hz,its',_,hv,q)
theorem aU.lnew {its:O8} {t':Nat} (I:aU X pins σ H s) (hv:bj ys its) (hz:ys.length<=sizeLine):
  aU X pins σ (aR H 92 335) {s with heap:=s.heap.push {cls:= .type "list",data:= .seq its.toArray},toks:=t'}:=
 I.laid (λ_ _ q=>95 _ q) 214 ⟨hz,its,0,hv,126 _ rfl⟩
theorem aU.fresh (I:aU X pins σ H s):H 92=none:=I.hok.fresh 214
theorem aU.lstM (I:aU X pins σ H s) (hH:H l=some 251):xs.length<=sizeLine/\∃(its:O8) (n:Nat),bj xs its/\xs.length=its.length/\s.heap.get? l=some {cls:= .type "list",data:= .seq its.toArray n}:=by
 obtain ⟨z,its,n,r,e⟩:=I.hok l _ hH;exact (z,its,n,r,r.length,e)
universe z0
variable {X:Cx}
def AN:V->List V->Hp->VK->Prop:=λx vs H Q=>∃l xs y,x= .ref l/\vs= [y]/\H l=some 251/\xs.length<sizeLine/\Q .non (aR H l (.lst (xs++ [y])))
theorem b7:JM X "list.append" AN:=by
 sleep 111;obtain ⟨l,xs,y,rfl,rfl,hH,hz,q⟩:=h;cases rx;obtain ⟨u,rfl,ru⟩:=rv.one;obtain ⟨z,its,n,r,hl,e⟩:=I.lstM hH;refine call_meets F.slot_list_append (_,e,rfl) F.entry_list_append (F.args_list_append_2 _ _) (PySem.list_append l its.toArray n u (by rw[KR];lia)) (e,?_)
 refine (.non,_,I.lset (its':=its++ [u]) hH e 96 (r.append (.cons ru .nil)) ?_,rfl,q)
 rw[KL,List.length_singleton]
 lia
def Ib:R2:=λx y H Q=>∃l b xs zs,x= .ref l/\y= .ref b/\H l=some 251/\H b=some (.lst zs)/\xs.length+zs.length<=sizeLine/\∀p,H p=none->Q 237 (aR H p (.lst (xs++zs)))
theorem dk:i8 X (binaryOp .Add) Ib:=by
 sleep 16;obtain ⟨l,b,xs,zs,rfl,rfl,hH,hB,hz,q⟩:=h;cases rx;cases ry;obtain ⟨z,its,n,r,hl,e⟩:=I.lstM hH;obtain ⟨z2,its2,n2,r2,hl2,e2⟩:=I.lstM hB;refine PySem.P.add_list e e2 ?_ (by rw[KR,KR];lia)
 have ea:its.toArray++its2.toArray=(its++its2).toArray:=by simp
 rw[ea];exact (.ref _,_,I.lnew (t':=s.toks) (r.append r2) (by rw[KL];lia),rfl,q _ I.fresh)
theorem uN {P:Program} {w:World} {k:Key} {u:Value} (r:RelV (kV k) u):(fK P w).is k u=true:=by
 cases k with
 |inl i=>obtain ⟨t,e⟩:=(show ∃t,u=Value.int i t from r);subst e;exact qG P w i t
 |inr x=>obtain ⟨t,e⟩:=(show ∃t,u=Value.str x t from r);subst e;exact qH P w x t
section
variable {pins:O4} {σ:St} {H:Hp} {s:Shared} {a:Addr} {y v:V} {u r:Value} {o:Option V} {A:Around} {E:O2}
theorem aU.big (I:aU X pins σ H s):sysModules<s.heap.objs.size:=by
 have h:mainGlobals<s.heap.objs.size:=(I.mod.glob.keeps I.bk).lt;exact Kg 45 h
universe z0
def Fu (i:Expr):Prop:=∀ov iv,subscripted i false ov iv=operate [ov,iv] (getItem ov iv)
theorem AO {prog:Program} {w:World} {A:Around} {E:O2} {s:Shared} {env:Env} {value slice:Expr} {pos:Pos} {T id:String} {Q:O2}
  (hl:typeLookup (.type T) "__getitem__" =pure (some 409)) (hs:Fu slice)
  (h:wpAny 109 A (eval value env) (λo s₁=>wpAny 109 A (eval slice env) (λi s₂=>s₂.TypeIs o T/\wpAny 109 A (getItem o i) Q E s₂) E s₁) E s):
  wpAny 109 A (eval (.Subscript value slice pos) env) Q E s:=by
 refine Subscript_ (wpAny_mono h (λo s₁ h₁=>wpAny_mono h₁ (λi s₂ h₂=>?_) λ_ _ x=>x) λ_ _ x=>x)
 obtain ⟨hT,h₂⟩:=h₂;unfold subscriptTail;refine wpAny_bind ?_;rw[getitemInPython_of_ne hT.not_modules];refine wpAny_bind (wpAny_specialOf hT hl ?_);have fin:wpAny 109 A (subscripted slice false o i) (λr s₃=>wpAny 109 A (letTemporaryGo value o r>>=λ_=>pure r) Q E s₃) E s₂:=by
  rw[hs o i];exact wpAny_operating (wpAny_mono h₂ (λr s₃ h₃=>wpAny_bind (wpAny_letTemporaryGo (wpAny_pure h₃))) λ_ _ x=>x)
 first
  |exact wpAny_pure (wpAny_bind fin)
  |exact wpAny_bind (wpAny_pure (wpAny_bind fin))
  |exact wpAny_bind fin
theorem xY {P:Program} {w:World} {H:Hp} (h:Heap) (hb:sysModules<h.objs.size):cr P w H (h.push 349) h.objs.size (.dK []):=
 ⟨LF _,beq_eq_false_iff_ne.mpr (Ne.symm (Kf hb)),[],.nil,Heap.DictOf.new h⟩
def C2:TE:=λ_ H Q=>∀p,H p=none->Q 237 (aR H p (.dK []))
section
variable {pos:Pos}
theorem xZ:PE X (.Dict [] [] pos) C2:=λpins s σ H Q I h=>
 wpAny_Dict_empty ⟨.ref 92,_,I.laid (a:=92) (o:= .dK []) (t':=s.toks) (λ_ _ q=>95 _ q) 214 (xY s.heap I.big),rfl,h _ 343⟩
universe z0
universe L2
namespace Att
open PySem PySem.W PySem.Calls PyProof.Rows
theorem kW {P:Params} {h:Heap}:∀(ns:List Int) (vs:O8),WellAll P h vs (ns.map WData.int)->IntsAre vs ns:=by
 intro ns
 induction ns with
 |nil=>
  intro vs w;rw[List.map_nil] at w;cases w;exact .nil
 |cons n ns ih=>
  intro vs w;rw[Kl] at w;cases w with
  |cons a b=>
   cases a;exact .cons _ _ (ih _ b)
theorem wq {l:OpenLaw} {n:Nat} (hn:l.most=some n) {P:Params} {h:Heap} {args:List WData} {vals:O8}
  (hpre:l.row.toRowW.claim.pre args=true) (hwl:WellAll P h vals args):
  ∃a vs ns,vals= [Value.ref a]/\args= [WData.list (ns.map WData.int)]/\h.get? a=some 179/\IntsAre vs ns/\ns.length<=n:=by
 have hsh:WShape.hasAll [] args [.list .int]=true:=(pre_splitW hpre).1;have hc:l.pre.holds [] {args:=args}=true:=(pre_splitW hpre).2;obtain ⟨d,r,rfl,h1,h2⟩:=hasAllW_cons hsh;obtain rfl:=hasAllW_nil h2;obtain ⟨xs,rfl,h3⟩:=hasW_list h1;obtain ⟨ns,rfl⟩:=items_int h3;have hlen:ns.length<=n:=by
  unfold OpenLaw.pre at hc;have h4:(WTm.not (.lt (.lit (.int (n:Int))) (.len (.arg 0)))).holds [] {args:= [.list (ns.map .int)]}=true:=by
   have h4:=(holds_andW hc).1;rw[hn] at h4;exact h4
  have h5:=condW_of h4 (w_not (w_lt w_lit (w_len_list (w_arg rfl))));rw[K6] at h5;refine Nat.le_of_not_lt λq=>?_
  have q':(n:Int)<((ns.length:Nat):Int):=by lia
  first
   |(rw[decide_eq_true q'] at h5;exact absurd h5 (by decide))
   |(simp at h5;lia)
 cases hwl with
 |cons w1 w2=>
  cases w2;cases w1 with
  |list ho hall=>exact ⟨_,_,ns,rfl,rfl,ho,kW ns _ hall,hlen⟩
theorem wu (l:OpenLaw) (args:List WData):l.row.toRowW.claim.post args 386 args=true:=
 postW_of (r:=l.row.toRowW) (X:=(true==true))
  (show WShape.has [] 386 .bool=true by first|rfl|decide|simp[WShape.has,WShape.arms,WShape.armsAll])
  (show (WTm.eq .res (.lit 386)).value [] {args:=args,res:=some 386,after:=args}=some (.bool (true==true)) from w_eq_bool (w_res rfl) w_lit) rfl
theorem qQ {l:OpenLaw} {n:Nat} {q:Program} {loose:O6} {XP:O3->Heap->Prop} {YP:World->Heap->Prop} {d:DefRec}
  (hn:l.most=some n) (hdf:d.params.defaults= [])
  (call:∀(w:World) (s₀ s₁:Shared) (mg mb:O3) (fa:Addr) (o:Obj) (pm cd doc:Value) (a:Addr) (vs:O8) (ns:List Int),
   Ground q loose [] XP w s₀ mg mb s₁.heap->YP w s₁.heap->
   s₁.heap.get? fa=some o->o.data= .func (docDef d.name d.params d.body d.scope pm cd doc)->s₁.heap.CodeRec cd d.name->mg d.name=some (.ref fa)->
   s₁.heap.get? a=some 179->IntsAre vs ns->ns.length<=n->s₁.gens= #[]->
   codeAny (model l.prog w) callerA 379 165 s₁):
  WalkO q loose XP YP l.row.toRowW d [] (λf vs=>PySem.call f vs):=by
 intro w s₀ s₁ mg mb G Y fa o pm cd doc dV kV ho hd hcd hD hmg hg args vals as hpre hlay hrd hwl hlo;obtain rfl:dV= .none:=Dflts.none hD hdf;obtain rfl:kV= .none:=Dflts.noKw hD;obtain ⟨a,vs,ns,rfl,rfl,hobj,hints,hlen⟩:=wq hn hpre hwl;refine enter_call (codeAny_mono (call w s₀ s₁ mg mb fa o pm cd doc a vs ns G Y ho (fd_plain hd) hcd hmg hobj hints hlen hg) λr s' hq=>?_)
 obtain ⟨rfl,h2,h3,h4⟩:=hq;exact (.inl (.bool true,.bool true,[],rfl,λ_=>rfl,.bool true,wu l _,λ_=>(List.Pairwise.nil,λ_ hm=>(nomatch hm))),h2,h3,h4)
universe Att
namespace L2
open PySem PySem.Spec PyProof.Rows
theorem nW:∀{vs:O8} {ns:List Int},IntsAre vs ns->bj 232 vs
 |_,_,.nil=> .nil
 |_,_,.cons n t h=> .cons ⟨t,rfl⟩ (nW h)
def C3 (H:Hp):Prop:=∀b,H b=none∨∃o xs,H b=some (.frz o 251)
theorem x8 {P:Program} {w:World} {K:K0} {mg mb:O3} {CX:sW} {k:Nat} {fa a:Addr} {fd:FuncData} {x:Str} {sp:Sp} {s₁:Shared} {vs:O8} {ns:List Int}
  (KX:K.In s₁.heap) (hns:s₁.heap.Ns mainGlobals mg) (hb:s₁.heap.Ns builtinsNs mb) (hbb:∀x:Str,x≠ "__name__" ->mb x=bootBuiltins x) (hlim:s₁.heap.NoLimit) (hg:s₁.gens= #[])
  (ha:s₁.heap.get? a=some 179) (hi:IntsAre vs ns) (hl:ns.length<=sizeLine) (hr:cx k callerA)
  (F:∀base:Heap,K.In base->base.Ns mainGlobals mg->bB P w K mg base CX k fa fd [x] sp) (hbind:∀(s:Shared) (u:Value),BindsTo s fd ⟨[u],[]⟩ [(x,u)])
  (hsp:∀H:Hp,C3 H->aJ K H a 232->sp [.ref a] H (λv _=>v= .bl true) λ_ _ _=>False)
  (hCX:∀H e s',CX [] H s₁ (λ_ _ _=>False) e s'->False):
  codeAny (model P w) callerA 379 165 s₁:=by
 have rv:=nW hi;have lenV:=hi.length;have core:∀H:Hp,C3 H->aJ K H a 232->ir P w H s₁.heap->(∀b,H b≠none->b=a)->(H a≠none->K.lookup a=none)->
   codeAny (model P w) callerA 379 165 s₁:=by
  intro H hO hS hok hA hK;have base_of:∀{b:Addr} {o:Obj},s₁.heap.get? b=some o->H b=none->(oZ s₁.heap H).get? b=some o:=λe n=>xL e n
  have noA:∀{b:Addr} {o:Obj} {es:Array DictEntry} {ep:Nat},s₁.heap.get? b=some o->o.data= .dict es ep->H b=none:=λ{b o es ep} e d=>by
   cases q:H b with
   |none=>rfl
   |some u=>
    have e':b=a:=hA b (by rw[q];simp)
    subst e';rw[ha] at e;cases e;have d':Data.seq vs.toArray _=Data.dict es ep:=d;cases d'
  have nsK:∀{b:Addr} {m:O3},s₁.heap.Ns b m->(oZ s₁.heap H).Ns b m:=λ{b m} (o,es,ep,e,d,r)=>(o,es,ep,base_of e (noA e d),d,r)
  have hKb:K.In (oZ s₁.heap H):=λb o e=>base_of (KX b o e) (by
   cases q:H b with
   |none=>rfl
   |some u=>
    have e':b=a:=hA b (by rw[q];simp)
    subst e';rw[hK (by rw[q];simp)] at e;cases e)
  have hM:Mod K mg (oZ s₁.heap H):=⟨hKb,nsK hns,⟨mb,nsK hb,hbb⟩,let ⟨mc,h1,h2⟩:=hlim;⟨mc,nsK h1,h2⟩⟩;have e0:lZ P w K mg (oZ s₁.heap H) callerA [] s₁ H:=(rfl,hM,λb o e=>Az e,Nat.le_of_eq (wf _ _),trivial,λb hb=>absurd (show b∈([]:O7) from hb) (by simp),hok,.of_eq hg)
  refine codeAny_mono ((F _ hKb (nsK hns)).run callerA [] s₁ H ([.ref a],[]) [.ref a] [.ref a] _ _ hr e0 (hbind s₁ 434) (.cons rfl .nil) (hsp H hO hS)) λr s' h=>?_
  cases r with
  |error e=>exact (hCX H e s' h).elim
  |ok fl=>
   cases fl with
   |next=>exact False.elim h
   |brk=>exact False.elim h
   |cont=>exact False.elim h
   |ret u=>
    obtain ⟨v,H',os,bare,un,hok',r',q⟩:=h;have q':v= .bl true:=q;subst q';obtain rfl:u=Value.bool true:=r';refine (rfl,OldK.of_keep λb o e=>?_,os,bare)
    cases q:H b with
    |none=>exact un.keep b o e q (by intro z;exact absurd (show b∈([]:O7) from z) 96) 96
    |some u=>
     rcases hO b with z|⟨ob,xs,z⟩
     ·rw[q] at z;cases z
     ·have z2:=un.frzs b ob _ z;obtain ⟨e1,_⟩:=hok b _ z;obtain ⟨e2,_⟩:=hok' b _ z2;rw[e] at e1;cases e1;exact e2
 cases hk:K.lookup a with
 |some o=>
  have e:=KX a o hk;rw[ha] at e;cases e;refine core (λ_=>none) (λ_=> .inl rfl) (.inr ⟨_,vs.toArray,_,hk,rfl,rfl,rfl,by rw[KR,lenV];exact hl,⟨by simpa using rv,KY.mpr λv hv=>(by obtain ⟨x,_,rfl⟩:=KH.mp hv;rfl)⟩⟩) (λb u z=>by have z':(none:Option HO)=some u:=z;cases z') (λb z=>absurd rfl z) λz=>absurd rfl z
 |none=>
  refine core (λb=>if b=a then some (.frz 179 (.lst 232)) else none) (λb=>?_) (.inl (.inr (179,if_pos rfl))) (λb u z=>?_) (λb z=>?_) λ_=>hk
  ·by_cases hb:b=a
   ·exact .inr (_,_,if_pos hb)
   ·exact .inl (if_neg hb)
  ·by_cases hb:b=a
   ·have z':=(if_pos hb).symm.trans z;cases z';subst hb;exact (ha,by rw[K6];exact hl,vs,_,rv,ha)
   ·have z':=(if_neg hb).symm.trans z;cases z'
  ·by_cases hb:b=a
   ·exact hb
   ·exact absurd (if_neg hb) z
theorem AQ {l:PySem.W.OpenLaw} {n k:Nat} {q:Program} {loose:O6} {XP:O3->Heap->Prop} {YP:World->Heap->Prop} {d:DefRec} {K:Params->K0} {CX:World->sW} {sp:World->Sp} {x:Str}
  (hn:l.most=some n) (hn2:n<=sizeLine) (hdf:d.params.defaults= []) (hr:cx k callerA)
  (hY:∀(w:World) (h:Heap),YP w h->(K w.params).In h)
  (F:∀(w:World) (mg:O3) (fa:Addr) (h:Heap),(K w.params).In h->h.Ns mainGlobals mg->mg d.name=some (.ref fa)->
   ∃fd:FuncData,(∀(s:Shared) (u:Value),BindsTo s fd ⟨[u],[]⟩ [(x,u)])/\
    ∀base:Heap,(K w.params).In base->base.Ns mainGlobals mg->bB l.prog w (K w.params) mg base (CX w) k fa fd [x] (sp w))
  (hsp:∀(w:World) (H:Hp) (a:Addr) (ns:List Int),ns.length<=n->C3 H->aJ (K w.params) H a 232->sp w [.ref a] H (λv _=>v= .bl true) λ_ _ _=>False)
  (hCX:∀(w:World) (H:Hp) (s:Shared) (e:Value) (s':Shared),CX w [] H s (λ_ _ _=>False) e s'->False):
  PySem.W.WalkO q loose XP YP l.row.toRowW d [] (λf vs=>PySem.call f vs):=by
 refine Att.qQ hn hdf λw s₀ s₁ mg mb fa o pm cd doc a vs ns G Y ho hd hcd hmg hobj hints hlen hg=>?_
 have KX:=hY w _ Y;obtain ⟨fd,hb,hF⟩:=F w mg fa _ KX G.T.g hmg;exact x8 KX G.T.g G.T.b G.T.builtins G.T.nolimit hg hobj hints (KC hlen hn2) hr hF hb (λH hO hS=>hsp w H a ns hlen hO hS) λH e s'=>hCX w H s₁ e s'
noncomputable def dR (s:Stmt):Arguments:=match s with
 | .FunctionDef _ a _ _ _ _ _ _ _ _=>a
 |_=>{posonlyargs:= [],args:= [],vararg:=none,kwonlyargs:= [],kw_defaults:= [],kwarg:=none,defaults:= []}
noncomputable def cK (s:Stmt):List Stmt:=match s with
 | .FunctionDef _ _ b _ _ _ _ _ _ _=>b
 |_=> []
noncomputable def az (s:Stmt):Scope:=match s with
 | .FunctionDef _ _ _ _ _ _ sc _ _ _=>sc
 |_=>{kind:= .function,names:= [],isGenerator:=false,isCoroutine:=false}
abbrev bX:sW:=λ_ _ _ _ _ _=>False
abbrev E0:XK:=λ_ _ _=>False
theorem qR {X:Cx}:kv bX X E0:=λ_ _ _ _ _ _ _ h=>h.elim
theorem Fw {A:Around} {k:Nat} (hr:cx k A):A.units+1<cLine:=LA (Nat.add_le_add_left (by decide:1<=64) _) hr.units
variable {X:Cx}
theorem pv (i:Nat) {x:Str} {pos:Pos} (hN:X.N[i]?=some x:=by rfl) (hv:Hu X.env.scope x:=by first|exact Or.inl rfl|exact Or.inr (Or.inl rfl)|exact Or.inr (Or.inr rfl)) (hd:116=false:=by decide)
  (hcd:(x==("__classdict__" :Str))=false:=by decide):PE X (.Name x pos) (qI i):=CT hN hv hd hcd
theorem cE {A B:Prop} (h:B):if false=true then A else B:=by
 rw[if_neg KM];exact h
theorem gx {A B:Prop} (h:A):if true=true then A else B:=by
 rw[if_pos rfl];exact h
def aD (H H':Hp):Prop:=∀b o,H b=some o->H' b=some o
theorem aD.refl (H:Hp):aD H H:=λ_ _ h=>h
theorem aD.trans {H H1 H2:Hp} (a:aD H H1) (b:aD H1 H2):aD H H2:=λc o h=>b c o (a c o h)
theorem aD.free {H H':Hp} (e:aD H H') {l:Addr} (h:H' l=Option.none):H l=Option.none:=by
 cases q:H l with
 |none=>rfl
 |some o=>
  rw[e l o q] at h;cases h
theorem aD.seq {K:K0} {H H':Hp} {a:Addr} {xs:List V} (e:aD H H') (h:aJ K H a xs):aJ K H' a xs:=by
 rcases h with (h|⟨o,h⟩)|h
 ·exact .inl (.inl (e _ _ h))
 ·exact .inl (.inr (o,e _ _ h))
 ·exact .inr h
theorem eI:i8 X (binaryOp .Mult) (rI (λi j=>IntMulOk i j) λi j=> .int (i*j)):=Hv λ_ _ _ _ _ _ _ hc q=>mul_int q hc
theorem cu:i8 X (binaryOp .FloorDiv) (rI (λi j=>j≠0/\Builtin.divisionGoesByPylong i j=false) λi j=> .int (i.fdiv j)):=Hv λ_ _ _ _ _ _ _ hc q=>floordiv_int hc.1 q (.inl hc.2)
theorem AR:i8 X (binaryOp .Pow) (rI (λi j=>0<=j/\(Builtin.Int.intBits i:Int)*j<=2^27) λi j=> .int (i^j.toNat)):=Hv λ_ _ _ _ _ _ _ hc q=>pow_int hc.1 hc.2 q
theorem qS:fV X 222 (λxs H Q=>∃i,xs= [.int i,.ty "int"]/\Q 469 H):=by
 sleep 23;sleep 204;cases e2;exact PySem.call_isinstance (PySem.isinstance_true (Tx:= "int") PySem.F.isi_meta_int PySem.F.isi_self_int) (rfl,(.bl true,H,I,rfl,q))
theorem pA:fV X 222 (λxs H Q=>∃i,xs= [.int i,.ty "bool"]/\Q (.bl false) H):=by
 sleep 23;sleep 204;cases e2;exact PySem.call_isinstance (PySem.isinstance_false_int (T:= "bool") 45 PySem.F.isi_meta_bool PySem.F.sub_int_bool) (.bl false,H,I.tok _,rfl,q)
theorem qT:fV X 222 (λxs H Q=>∃i,xs= [.bl i,.ty "bool"]/\Q 469 H):=by
 sleep 23;obtain ⟨i,rfl,q⟩:=h;sleep 133;cases e1;cases e2;exact PySem.call_isinstance (PySem.isinstance_true (Tx:= "bool") PySem.F.isi_meta_bool PySem.F.isi_self_bool) (rfl,(.bl true,H,I,rfl,q))
theorem qU:fV X 222 (λxs H Q=>∃a ys,xs= [.ref a,.ty "tuple"]/\dD X.K H a ys/\Q 469 H):=by
 sleep 23;obtain ⟨a,ys,rfl,hs,q⟩:=h;sleep 133;cases e1;cases e2;obtain ⟨its,_,p1,_⟩:=I.tuple hs;exact PySem.call_isinstance (PySem.isinstance_true (Tx:= "tuple") PySem.F.isi_meta_tuple PySem.F.isi_self_tuple) (p1.typeIs,(.bl true,H,I,rfl,q))
universe L2
namespace Sw
open PySem
def Bd (n:Nat) (x:Int):Prop:=x.natAbs<2^n
theorem Bd.mono {m n:Nat} {x:Int} (h:Bd m x) (e:m<=n):Bd n x:=KJ h (Nat.pow_le_pow_right 45 e)
theorem Bd.of_le {n:Nat} {x y:Int} (h:Bd n y) (e:x.natAbs<=y.natAbs):Bd n x:=LA e h
theorem Bd.mul {m n:Nat} {x y:Int} (h:Bd m x) (g:Bd n y):Bd (m+n) (x*y):=by
 unfold Bd at*;rw[Int.natAbs_mul,Nat.pow_add];exact Nat.mul_lt_mul_of_lt_of_le h (Nat.le_of_lt g) (LA (LF _) g)
theorem Bd.add {k:Nat} {x y:Int} (h:Bd k x) (g:Bd k y):Bd 446 (x+y):=by
 unfold Bd at*;rw[Nat.pow_succ];generalize 2^k=p at h g⊢
 lia
theorem Bd.ok {m n:Nat} {x y:Int} (h:Bd m x) (g:Bd n y) (e:m+n<=134217728:=by decide):IntMulOk x y:=
 IntMulOk.of_le (intBits_le_iff.mpr h) (intBits_le_iff.mpr g) e
theorem Bd.div {n:Nat} {x y:Int} (h:Bd n y) (y0:y≠0) (e:n<=9000:=by decide):Builtin.divisionGoesByPylong x y=false:=by
 refine PyProof.noPylong_of_log2 ((Nat.log2_lt 93).mpr ?_)
 exact KJ h (Nat.pow_le_pow_right 45 e)
noncomputable def bN (a b:Int):Int:=((Int.gcd a b:Nat):Int)
theorem pB (a b:Int):0<=bN a b:=Int.natCast_nonneg _
theorem sZ (a b:Int):bN (-a) b=bN a b:=by unfold bN;rw[Int.neg_gcd]
theorem tj (a b:Int):bN a (-b)=bN a b:=by unfold bN;rw[Int.gcd_neg]
theorem nX {g l:Int} (hl:0<l):bN l (g.fmod l)=bN g l:=by
 unfold bN;have e:g.fmod l=g-(g.fdiv l)*l:=by rw[Int.fmod_def,Int.mul_comm]
 rw[e,Int.gcd_comm l,Int.gcd_sub_mul_right_left]
noncomputable def x9 (i:Int):Int:=if i<0 then-i else i
theorem uO (i:Int):0<=x9 i:=by unfold x9;split<;>lia
theorem ya (a b:Int):bN (x9 a) (x9 b)=bN a b:=by
 unfold x9
 split<;>split<;>simp only[sZ,tj]
theorem nY {g:Int} (h:0<=g):bN g 0=g:=by
 unfold bN;rw[Int.gcd_zero_right];lia
theorem gZ {a b:Int} (h:bN a b=0):a=0/\b=0:=by
 unfold bN at h;exact Int.gcd_eq_zero_iff.mp 93
theorem fW (a b:Int):bN a b∣a:=Int.gcd_dvd_left ..
theorem fX (a b:Int):bN a b∣b:=Int.gcd_dvd_right ..
theorem yb {a b:Int} (h:bN a b≠0):bN (a.fdiv (bN a b)) (b.fdiv (bN a b))=1:=by
 have p:0<bN a b:=by have:=pB a b;lia
 rw[LS a (Int.le_of_lt p),LS b (Int.le_of_lt p)];obtain ⟨x,hx⟩:=fW a b;obtain ⟨y,hy⟩:=fX a b;have e1:a/bN a b=x:=by
  conv=>lhs;arg 1;rw[hx]
  exact Ly x h
 have e2:b/bN a b=y:=by
  conv=>lhs;arg 1;rw[hy]
  exact Ly y h
 rw[e1,e2];have m:bN (bN a b*x) (bN a b*y)=bN a b*bN x y:=by
  sleep 168
  congr 1
 rw[<-hx,<-hy] at m;have:=Int.eq_one_of_mul_eq_self_right h m.symm;exact this
structure Fr (p q a b:Int):Prop where
 pos:0<q
 low:bN p q=1
 same:p*b=a*q
 bt:p.natAbs<=a.natAbs
 bb:q.natAbs<=b.natAbs
structure Hw (p q:Int):Prop where
 pos:0<q
 low:bN p q=1
theorem Fr.to {p q a b:Int} (h:Fr p q a b):Hw p q:=(h.pos,h.low)
theorem kR {p q k:Int} (h:bN p q=1) (d:q∣p*k):q∣k:=by
 have c:Int.gcd q p=1:=by unfold bN at h;rw[Int.gcd_comm];lia
 have d':q.natAbs∣p.natAbs*k.natAbs:=by rw[<-Int.natAbs_mul];exact Int.natAbs_dvd_natAbs.mpr d
 exact Int.natAbs_dvd_natAbs.mp (Nat.Coprime.dvd_of_dvd_mul_left (show Nat.Coprime q.natAbs p.natAbs from c) d')
theorem tm {p q p' q':Int} (h:Hw p q) (h':Hw p' q') (e:p*q'=p'*q):p=p'/\q=q':=by
 have d1:q∣q':=kR h.low (by rw[e];exact Int.dvd_mul_left ..)
 have d2:q'∣q:=kR h'.low (by rw[<-e];exact Int.dvd_mul_left ..)
 have eq:q=q':=by
  have n1:=Int.le_of_dvd h'.pos d1;have n2:=Int.le_of_dvd h.pos d2
  lia
 subst eq;exact (Int.eq_of_mul_eq_mul_right (by have:=h.pos;lia) e,rfl)
noncomputable def nZ (a b:Int):Int:=if b<0 then-bN a b else bN a b
theorem yc {a b:Int} (h:b≠0):nZ a b≠0:=by
 have g:bN a b≠0:=λz=>h (gZ z).2
 unfold nZ;split<;>lia
theorem Fx {a b:Int} (h:b≠0):Fr (a.fdiv (nZ a b)) (b.fdiv (nZ a b)) a b:=by
 have g:bN a b≠0:=λz=>h (gZ z).2
 have p:0<bN a b:=by have:=pB a b;lia
 have c0:=yc (a:=a) h;have da:nZ a b∣a:=by
  unfold nZ;split
  ·exact Int.neg_dvd.mpr (fW a b)
  ·exact fW a b
 have db:nZ a b∣b:=by
  unfold nZ;split
  ·exact Int.neg_dvd.mpr (fX a b)
  ·exact fX a b
 obtain ⟨x,hx⟩:=da;obtain ⟨y,hy⟩:=db;have ex:a.fdiv (nZ a b)=x:=by
  conv=>lhs;arg 1;rw[hx]
  exact Int.mul_fdiv_cancel_left x c0
 have ey:b.fdiv (nZ a b)=y:=by
  conv=>lhs;arg 1;rw[hy]
  exact Int.mul_fdiv_cancel_left y c0
 rw[ex,ey];have yp:0<y:=by
  have e:=hy;unfold nZ at e;rcases (by lia:y<0∨y=0∨0<y) with q|q|q
  ·exfalso
   split at e
   ·rename_i hb;have:=Int.mul_neg_of_pos_of_neg p q;rw[Int.neg_mul] at e
    lia
   ·have:=Int.mul_neg_of_pos_of_neg p q
    lia
  ·rw[q] at hy;lia
  ·exact q
 have lowx:bN x y=1:=by
  have m:bN (nZ a b*x) (nZ a b*y)=bN a b*bN x y:=by
   sleep 168
   congr 1
   unfold nZ;split<;>lia
  rw[<-hx,<-hy] at m;exact Int.eq_one_of_mul_eq_self_right g m.symm
 exists yp,lowx,?_,?_
 ·conv=>lhs;rw[hy]
  conv=>rhs;rw[hx]
  rw[<-Int.mul_assoc,Int.mul_comm x]
 ·have:a.natAbs=(nZ a b).natAbs*x.natAbs:=by conv=>lhs;rw[hx];rw[Int.natAbs_mul]
  rw[this];exact Nat.le_mul_of_pos_left _ 93
 ·have:b.natAbs=(nZ a b).natAbs*y.natAbs:=by conv=>lhs;rw[hy];rw[Int.natAbs_mul]
  rw[this];exact Nat.le_mul_of_pos_left _ 93
universe Sw
namespace L2
open PySem
inductive Fy (K:K0) (H:Hp):V->String->Bool->Prop where
 |ii (i:Int):Fy K H (.int i) "int" true
 |ib (i:Int):Fy K H (.int i) "bool" false
 |bb (b:Bool):Fy K H (.bl b) "bool" true
 |tt (a:Addr) (ys:List V) (h:dD K H a ys):Fy K H (.ref a) "tuple" true
theorem jI {X:Cx}:fV X 222 (λxs H Q=>∃x T b,xs= [x,.ty T]/\Fy X.K H x T b/\Q (.bl b) H):=by
 sleep 23;obtain ⟨x,T,b,rfl,i,q⟩:=h;cases i with
 |ii i=>exact qS pins s σ H _ us Q I r ⟨i,rfl,q⟩
 |ib i=>exact pA pins s σ H _ us Q I r ⟨i,rfl,q⟩
 |bb i=>exact qT pins s σ H _ us Q I r ⟨i,rfl,q⟩
 |tt a ys h=>exact qU pins s σ H _ us Q I r ⟨a,ys,rfl,h,q⟩
universe L2
namespace Sw
open PySem L2
theorem dT {p A B:Prop} [Decidable p] (h:p) (a:A):if decide p=true then A else B:=by rw[if_pos (decide_eq_true h)];exact a
theorem dF {p A B:Prop} [Decidable p] (h:¬p) (b:B):if decide p=true then A else B:=by rw[if_neg (by simp[h])];exact b
theorem d2 {p A B:Prop} [Decidable p] (h1:p->A) (h2:¬p->B):if decide p=true then A else B:=by
 by_cases h:p
 ·exact dT h (h1 h)
 ·exact dF h (h2 h)
theorem nT {p A B:Prop} [Decidable p] (h:¬p) (a:A):if (!decide p)=true then A else B:=by rw[if_pos (by simp[h])];exact a
theorem nF {p A B:Prop} [Decidable p] (h:p) (b:B):if (!decide p)=true then A else B:=by rw[if_neg (by simp[h])];exact b
theorem vi {a b:Int} (h:a=b):V.int a=V.int b:=by rw[h]
theorem vj {a b:Int} (h:V.int a=V.int b):a=b:=by cases h;rfl
theorem kX {a b:Int} {A B:Prop} (h1:a=b->A) (h2:a≠b->B):if decide (V.int a=V.int b)=true then A else B:=d2 (λh=>h1 (vj h)) λh=>h2 λe=>h (vi e)
theorem JN {a b:Int} {A B:Prop} (h1:a≠b->A) (h2:a=b->B):if (!decide (V.int a=V.int b))=true then A else B:=by
 by_cases h:a=b
 ·exact nF (vi h) (h2 h)
 ·exact nT (λe=>h (vj e)) (h1 h)
theorem JO {a b:Int} {A B:Prop} (h:a≠b) (x:B):if decide (V.int a=V.int b)=true then A else B:=dF (λe=>h (vj e)) x
def Cg:Sp:=λvs H Q _=>∃a b:Int,vs= [.int a,.int b]/\Q (.int (bN a b)) H
def yd (K:K0):Sp:=λvs H Q _=>∃(a:Addr) (ns:List Int) (k:Int),vs= [.ref a,.int k]/\aJ K H a 232/\0<=k/\∀v:Int,Q (.int v) H
def iL:Sp:=λvs H Q _=>∃v:Int,vs= [.int v]/\Q 469 H
def uP (K:K0):Sp:=λvs H Q _=>∃(a:Addr) (ns:List Int),vs= [.ref a]/\aJ K H a 232/\ns.length<=63/\∀H',Q 469 H'
theorem uQ {ns:List Int} {k:Int} (h0:0<=k) (h:k<(((ns.map V.int).length:Nat):Int)):∃v:Int,eZ 232 k=some (.int v):=by
 rw[K6] at h;have hk:k.toNat<ns.length:=by lia
 have ek:k=((k.toNat:Nat):Int):=by lia
 have q:eZ 232 ((k.toNat:Nat):Int)=some (.int ns[k.toNat]):=aF (by rw[KA,K3 hk]<;>rfl)
 rw[<-ek] at q;exact (_,q)
theorem cut {t u:TS} {D:Ends} {σ:L2.St} {H:Hp} (I:L2.St->Hp->Prop) (h1:∀N:L2.St->Hp->Prop,(∀σ H,I σ H->N σ H)->t 508 σ H) (h2:∀σ H,I σ H->u D σ H):aY t u D σ H:=h1 _ h2
theorem ai {H:Hp} {p:Addr} (h:H p=none) (o:HO):aD H (aR H p o):=λb u q=>by rw[aB (aT q h)];exact q
theorem C4 {n:Nat} {a b:Int} (b0:b≠0) (h:Bd n b):Bd n (nZ a b):=by
 have d:bN a b∣b:=fX a b;have k:=Nat.le_of_dvd 93 (Int.natAbs_dvd_natAbs.mpr d)
 refine h.of_le ?_;unfold nZ
 split<;>lia
def Pair (H:Hp) (Q:VK) (p q:Int):Prop:=∀(t:Addr) (H':Hp),aD H H'->H' t=some (.tup [.int p,.int q])->Q 311 H'
def AS:Sp:=λvs H Q _=>∃a b:Int,vs= [.int a,.int b]/\b≠0/\Bd 8500 b/\∀p q:Int,Fr p q a b->Pair H Q p q
structure kY (K:K0) (n:Nat) (H:Hp) (t:Addr) (p q:Int):Prop where
 at_:dD K H t [.int p,.int q]
 pos:0<q
 bp:Bd n p
 bq:Bd n q
theorem kY.mono {K:K0} {m n:Nat} {H:Hp} {t:Addr} {p q:Int} (h:kY K m H t p q) (e:m<=n):kY K n H t p q:=(h.at_,h.pos,h.bp.mono e,h.bq.mono e)
theorem kY.of {K:K0} {n:Nat} {H:Hp} {t:Addr} {p q a b:Int} (f:Fr p q a b) (ha:Bd n a) (hb:Bd n b) (e:H t=some (.tup [.int p,.int q])):kY K n H t p q:=(dD.of e,f.pos,ha.of_le f.bt,hb.of_le f.bb)
def ye (K:K0):Sp:=λvs H Q _=>∃(t:Addr) (p q:Int),vs= [.ref t]/\kY K 8000 H t p q/\Q (.int (p.fdiv q)) H
structure bG (K:K0) (x qual:Str) (st:Stmt) (dV:Value) (f:Addr) (fd:FuncData):Prop where
 ex:∃(oc:Value) (od:O9) (kV doc pm:Value) (an:O9) (cdv ct:Value) (osl:O5),
  fd=Kx x qual (dR st) (cK st) 353 dV kV doc pm an cdv ct/\K.lookup f=some ⟨oc,od,.func fd,osl⟩/\LO K cdv qual=true
 kp:Kn K 226=true
section
variable {P:Program} {w:World} {K:K0} {mg:O3} {base:Heap}
theorem bG.ok {x qual:Str} {st:Stmt} {dV:Value} {f:Addr} {fd:FuncData} {N ps:O6} {k:Nat} {sp:Sp} (F:bG K x qual st dV f fd) (S:aK N ps 353) (len:∀vs H Q E,sp vs H Q E->vs.length=ps.length)
  (hbody:∀(cdv:Value) (A:Around) (outer:List Env) (s:Shared) (H:Hp) (vs:List V) (Q:VK) (E:XK),cx k 250->sp vs H Q E->
   ∃t,lE (ip bX P w K mg base N qual 353 f cdv A outer s H E).nox (cK st) t/\t 245 238 H):bB P w K mg base bX 446 f fd ps sp:=by
 sleep 20;refine Ce lk hcd S len λA outer s H vs Q E hr hsp=>?_
 obtain ⟨t,h,q⟩:=hbody cdv A outer s H vs Q E hr hsp;exact (t,h.nox,q)
theorem bG.binds {x qual:Str} {st:Stmt} {T:Addr} {f:Addr} {fd:FuncData} {ps:O6} {o:Obj} {items:Array Value} {n:Nat} {ds:O8} (F:bG K x qual st (.ref T) f fd) (ho:K.lookup T=some o) (hs:o.data= .seq items n)
  (h:∀(kV doc pm:Value) (an:O9) (cdv ct:Value) (us:O8),(us++ds).length=ps.length->∃k:Option (Array Value)->Sem (List (Str×Value)),bindArgs (Kx x qual (dR st) (cK st) 353 (.ref T) kV doc pm an cdv ct) ⟨us,[]⟩=seqItems? (.ref T)>>=k/\k (some items)=pure (ps.zip (us++ds))):Binds K fd ps ds:=by
 sleep 20;intro s us KX hl;obtain ⟨k,h1,h2⟩:=h kV doc pm an cdv ct us hl;exact PySem.W.binds_K KX rfl ho hs h1 h2
theorem bG.binds0 {x qual:Str} {st:Stmt} {dV:Value} {f:Addr} {fd:FuncData} {ps:O6} (F:bG K x qual st dV f fd)
  (h:∀(kV doc pm:Value) (an:O9) (cdv ct:Value) (us:O8),us.length=ps.length->bindArgs 453 ⟨us,[]⟩=pure 545):Binds K fd ps []:=by
 sleep 20;exact .all (h kV doc pm an cdv ct)
theorem fN {x qual:Str} {st:Stmt} {f:Addr} {oc dV:Value} {od an:O9} {osl:O5} {kV doc pm cdv ct:Value} (l:K.lookup f=some ⟨oc,od,.func 453,osl⟩)
  (c:LO K cdv qual=true) (k:Kn K 226=true):bG K x qual st dV f (Kx x qual (dR st) (cK st) 353 dV kV doc pm an cdv ct):=⟨⟨oc,od,kV,doc,pm,an,cdv,ct,osl,rfl,l,c⟩,k⟩
universe z0
def yf (K:K0):Sp:=λvs H Q _=>∃(t t':Addr) (p q p' q':Int),vs= [.ref t,.ref t']/\kY K 4000 H t p q/\kY K 4000 H t' p' q'/\∀r s:Int,Fr r s (p*q'+p'*q) (q*q')->Pair H Q r s
theorem C5 {x y k:Int} (h:x*k=y*k) (k0:k≠0):x=y:=Int.eq_of_mul_eq_mul_right k0 h
theorem yg {x y:Int} (h:0<x) (g:0<y):x*y≠0:=by have:=Int.mul_pos h g;lia
theorem yh {p q p' q' a b c d r s:Int} (h1:p*b=a*q) (h2:p'*d=c*q') (q0:0<q) (q1:0<q') (h:r*(q*q')=(p*q'+p'*q)*s):r*(b*d)=(a*d+c*b)*s:=by
 refine C5 (k:=q*q') ?_ (yg q0 q1)
 grind
universe Sw
namespace XH
open PySem
structure Mv (fs ch:O7) (h h':Heap):Prop where
 keep:∀b o,b∉fs->b∉ch->h.get? b=some o->h'.get? b=some o
 slot:∀b o,b∈fs->b∉ch->h.get? b=some o->∃sl,h'.get? b=some {o with slots:=sl}
 there:∀b o,h.get? b=some o->∃o',h'.get? b=some o'
theorem Mv.refl (fs ch:O7) (h:Heap):Mv fs ch h h:=(λ_ _ _ _ q=>q,λ_ o _ _ q=>(o.slots,q),λ_ o q=>(o,q))
theorem Mv.trans {fs c1 c2 ch:O7} {h h1 h2:Heap} (x:Mv fs c1 h h1) (y:Mv fs c2 h1 h2) (k1:∀b,b∈c1->b∈ch) (k2:∀b,b∈c2->b∈ch):Mv fs ch h h2 where
 keep:=λb o hf hc q=>y.keep b o hf (λz=>hc (k2 b z)) (x.keep b o hf (λz=>hc (k1 b z)) q)
 slot:=λb o hf hc q=>by
  obtain ⟨sl,q1⟩:=x.slot b o hf (λz=>hc (k1 b z)) q
  obtain ⟨sl2,q2⟩:=y.slot b _ hf (λz=>hc (k2 b z)) q1
  exact (sl2,q2)
 there:=λb o q=>by
  obtain ⟨o1,q1⟩:=x.there b o q;exact y.there b o1 q1
inductive Ch where
 |new
 |fl (v:Value)
def Ch.Is (F:Addr->Prop) (h:Heap) (e:Addr) (vs:Array Value):Ch->Prop
 | .new=>vs[1]?=some .none
 | .fl v=>∃T oT ts,vs[1]?=some (.ref T)/\F T/\T≠e/\h.get? T=some oT/\oT.data= .fields ts/\ts[3]?=some v
def Fz (vs:Array Value):Prop:=1<vs.size/\vs[2]?=some .none
theorem Fz.set {vs:Array Value} (h:Fz vs) (v:Value):Fz (vs.setIfInBounds 1 v):=(by simpa using h.1,by rw[Array.getElem?_setIfInBounds];simp[h.2])
structure XO (F:Addr->Prop) (h:Heap) (e:Addr) (cls:Value) (dx:O9) (st:Ch):Prop where
 ex:∃oe vs,h.get? e=some oe/\oe.cls=cls/\oe.dict=dx/\oe.data= .fields vs/\Fz vs/\st.Is F h e vs
 fr:F e
theorem XO.mono {F G:Addr->Prop} {h:Heap} {e:Addr} {cls:Value} {dx:O9} {st:Ch} (x:XO F h e cls dx st) (k:∀b,F b->G b):XO G h e cls dx st:=by
 obtain ⟨⟨oe,vs,a,b,c,d,f,g⟩,fr⟩:=x;refine ((oe,vs,a,b,c,d,f,?_),k _ fr);cases st with
 |new=>exact g
 |fl v=>
  obtain ⟨T,oT,ts,g1,g2,g3⟩:=g;exact (T,oT,ts,g1,k _ g2,g3)
theorem og (o:Obj) (f:Array Value->Array Value):(o.mapFields f).dict=o.dict:=by
 obtain ⟨c,d,dt,sl⟩:=o;cases dt<;>rfl
section
variable {M:Model} {A:Around} {E:O2} {s:Shared}
theorem qV {base:Heap} {env:Env} {outer:List Env} {L e:Addr} {oe:Obj} {vs:Array Value} {head:Value} {had:Bool} {Q:Unit->Shared->Prop}
  (hfr:A.frames=some (env::outer)) (hl:s.heap.FunFrames base (env::outer)) (hf:env.frame=some L) (he:s.heap.get? e=some oe) (hd:oe.data= .fields vs) (hsz:1<vs.size)
  (h:∀h' T,Mv 380 [e] s.heap h'->s.heap.get? T=none->T≠e->h'.get? e=some (oe.mapFields (·.setIfInBounds 1 (.ref T)))->
   (∃oT ts,h'.get? T=some oT/\oT.data= .fields ts/\ts[3]?=some (rawInt L))->Q () 207):
  wpAny M A (do let a<-frameOf env;let pl<-entryPlaceOf L had;let b<-EntryCells.newEntry head a .none (rawInt L) .none pl;setField (.ref e) 1 b) Q E s:=by
 have hne:e∉(env::outer).filterMap (·.frame):=by
  intro hm;obtain ⟨_,o,ho,hnf⟩:=hl.mem hm;rw[he] at ho;cases ho;exact hnf vs hd
 sleep 50;apply wpAny_frameOf_fun hfr hl hf;intro h1 hs;sleep 50;apply wpAny_entryPlaceOf;intro pl hpl;unfold EntryCells.newEntry newFields;sleep 50;refine wpAny_newObj_type ?_ (hpl.sizeOk5 ..);have e1:h1.get? e=some oe:=(hs.2.1 e hne).trans he;generalize hob:({cls:= .type "traceback",dict:=none,data:= .fields ([head,.ref L,.none,rawInt L,.none]++(if pl.isEmpty then List.replicate 6 Value.none else pl)).toArray}:Obj)=ob
 have e2:=95 (h:=h1) ob e1;refine wpAny_setField e2 hd hsz ?_;have hTe:h1.objs.size≠e:=LX (Heap.lt_size e1);have d3:=Obj.data_mapFields hd 208;have e3:=Heap.get?_update_self (Obj.mapFields 208) e2 (Obj.isFreed_of_fields d3);have kp:∀b o,b≠e->h1.get? b=some o->((h1.push ob).update e (Obj.mapFields 208)).get? b=some o:=by
  intro b o hb q;rw[Heap.get?_update_other _ _ 503];exact 95 _ q
 have t3:((h1.push ob).update e (Obj.mapFields 208)).get? h1.objs.size=some ob:=by
  rw[Heap.get?_update_other _ _ (Ne.symm hTe)];exact 126 h1 (by rw[<-hob];rfl)
 refine h _ h1.objs.size (?_,?_,?_) ?_ hTe e3 ?_
 ·intro b o hb hc q;exact kp b o (λz=>hc 268) ((hs.2.1 b hb).trans q)
 ·intro b o hb hc q;obtain ⟨sl,q1⟩:=hs.2.2 b o q;exact (sl,kp b _ (λz=>hc 268) q1)
 ·intro b o q
  by_cases hb:b=e
  ·subst hb;exact (_,e3)
  ·obtain ⟨sl,q1⟩:=hs.2.2 b o q;exact (_,kp b _ hb q1)
 ·exact Heap.get?_none_of_le (by rw[hs.1];exact K4 _)
 ·subst hob;exists _,_,t3,rfl;rcases hpl with rfl|⟨_,_,_,_,_,_,_,rfl⟩<;>simp
theorem wv {F:Addr->Prop} {e:Addr} {cls v:Value} {dx fl:O9} {Q:Unit->Shared->Prop} (x:XO F s.heap e cls dx (.fl v))
  (h:∀h' T,F T->Mv [] [T] s.heap h'->XO F h' e cls dx (.fl (fl.elim .none λf=>rawInt f))->Q () 207):wpAny M A (setFlight 256 fl) Q E s:=by
 obtain ⟨⟨oe,vs,he,hc,hdx,hd,hsz,T,oT,ts,h1,hF,hTe,hT,hdT,h3⟩,fr⟩:=x;have z3:3<ts.size:=(Lp.mp h3).1;have oth:∀b,b≠T->(s.heap.update T 354).get? b=s.heap.get? b:=λb hb=>Heap.get?_update_other _ _ 503
 have t4:=Heap.get?_update_self 354 hT 493
 unfold setFlight;sleep 50;apply wpAny_field he hd h1;rw[if_pos 96]
 apply wpAny_setField hT hdT z3;refine h _ T hF (?_,λb o hb=>absurd hb 96,?_) ((oe,vs,(oth e (Ne.symm hTe)).trans he,hc,hdx,hd,hsz,T,_,_,h1,hF,hTe,t4,Obj.data_mapFields hdT _,by simp[z3]),fr)
 ·intro b o _ hb q;exact (oth b (λz=>hb 268)).trans q
 ·intro b o q
  by_cases hb:b=T
  ·subst hb;exact (_,t4)
  ·exact (o,(oth b hb).trans q)
theorem AT {F:Addr->Prop} {base:Heap} {env:Env} {outer:List Env} {L e:Addr} {cls:Value} {dx:O9} {st:Ch} {Q:Unit->Shared->Prop}
  (hfr:A.frames=some (env::outer)) (hl:s.heap.FunFrames base (env::outer)) (hf:env.frame=some L) (x:XO F s.heap e cls dx st)
  (h:∀h' ch,(∀b∈ch,F b)->Mv 380 ch s.heap h'->XO (λb=>F b∨s.heap.get? b=none) h' e cls dx (.fl (rawInt L))->Q () 207):wpAny M A (noteFrame 256 env) Q E s:=by
 obtain ⟨⟨oe,vs,he,hc,hdx,hd,hsz,hst⟩,fr⟩:=x;unfold noteFrame;simp only[hf];cases st with
 |new=>
  sleep 50;apply wpAny_field he hd hst;rw[if_neg 45]
  refine qV hfr hl hf he hd hsz.1 λh' T mv tn tne he' (oT,ts,hT,hdT,h3)=>?_
  refine h h' [e] (λb hb=>by rw[K8.mp hb];exact fr) mv ((_,_,he',?_,?_,Obj.data_mapFields hd _,hsz.set _,T,oT,ts,by simp[hsz.1],.inr tn,tne,hT,hdT,h3),.inl fr)
  ·rw[Obj.cls_mapFields];exact hc
  ·rw[og];exact hdx
 |fl v=>
  obtain ⟨T,oT,ts,h1,hF,hTe,hT,hdT,h3⟩:=hst;have z3:3<ts.size:=(Lp.mp h3).1;sleep 50;apply wpAny_field he hd h1;rw[if_pos 96]
  sleep 50;apply wpAny_field hT hdT h3
  by_cases hv:(v==rawInt L)=true
  ·rw[if_pos hv];have ev:v=rawInt L:=beq_iff_eq.mp hv;subst ev;refine wpAny_pure (h s.heap [] (λb hb=>absurd hb 96) (.refl ..) ((oe,vs,he,hc,hdx,hd,hsz,T,oT,ts,h1,.inl hF,hTe,hT,hdT,h3),.inl fr))
  ·rw[if_neg hv];sleep 50;apply wpAny_setField hT hdT z3;have oth:∀b,b≠T->(s.heap.update T 199).get? b=s.heap.get? b:=λb hb=>Heap.get?_update_other _ _ 503
   have t4:=Heap.get?_update_self 199 hT 493;have nrec:∀b o,s.heap.get? b=some o->(∀vs,o.data≠ .fields vs)->b≠T:=by
    intro b o hb hn z;rw[z,hT] at hb;cases hb;exact hn ts hdT
   have mv1:Mv 380 [T] s.heap (s.heap.update T 199):=by
    refine (λb o _ hb q=>(oth b (λz=>hb 268)).trans q,λb o _ hb q=>(o.slots,(oth b (λz=>hb 268)).trans q),λb o q=>?_)
    by_cases hb:b=T
    ·subst hb;exact (_,t4)
    ·exact (o,(oth b hb).trans q)
   refine qV (s:={s with heap:=s.heap.update T 199}) hfr (hl.of_keeps λb o hb hn=>⟨o,(oth b (nrec b o hb hn)).trans hb,rfl⟩) hf ((oth e (Ne.symm hTe)).trans he) hd hsz.1 λh' T2 mv tn tne he' ⟨oT2,ts2,hT2,hdT2,h32⟩=>?_
   refine h h' [T,e] ?_ (mv1.trans mv (λb hb=>by simp at hb;simp[hb]) (λb hb=>by simp at hb;simp[hb])) ((_,_,he',?_,?_,Obj.data_mapFields hd _,hsz.set _,T2,oT2,ts2,by simp[hsz.1],.inr ?_,tne,hT2,hdT2,h32),.inl fr)
   ·intro b hb;simp at hb;rcases hb with rfl|rfl
    ·exact hF
    ·exact fr
   ·rw[Obj.cls_mapFields];exact hc
   ·rw[og];exact hdx
   ·cases q:s.heap.get? T2 with
    |none=>rfl
    |some o=>
     obtain ⟨o',q'⟩:=mv1.there T2 o q;rw[q'] at tn;cases tn
universe z0
universe XH
namespace L2
open PySem PySem.Spec PyProof.Rows XH
structure iy (P:Program) (w:World) (outer:List Env) (H:Hp) (s:Shared) (a:Addr) (H':Hp) (cls:Value) (dx:O9) (st:Ch) (s':Shared):Prop where
 os:s'.os=s.os
 bare:AllBare s'.gens
 un:Un (kO outer) [] H H' s.heap s'.heap
 hok:ir P w H' s'.heap
 xo:XO (λb=>s.heap.get? b=none/\H' b=none) s'.heap a cls dx st
def fT (P:Program) (w:World):sW:=λouter H s E e s'=>∃a H' cls dx st,e= .ref a/\iy P w outer H s a H' cls dx st s'/\E cls dx H'
section
variable {P:Program} {w:World} {H H':Hp} {h h' h0:Heap} {fs ch:O7} {a:Addr} {o:HO}
theorem cr.there (x:cr P w H h a o):∃u,h.get? a=some u:=by
 cases o with
 |lst xs=>obtain ⟨_,_,_,_,e⟩:=x;exact (_,e)
 |tup xs=>obtain ⟨_,_,_,_,e,_⟩:=x;exact (_,e)
 |dK kvs=>obtain ⟨_,_,_,_,_,_,_,e,_⟩:=x;exact (_,e)
 |dT kvs=>obtain ⟨_,_,_,_,_,_,_,e,_⟩:=x;exact (_,e)
 |set S n=>obtain ⟨_,_,_,_,e,_⟩:=x;exact (_,e)
 |ins C dx fs=>obtain ⟨_,_,_,e,_⟩:=x;exact (_,e)
 |own y=>exact x
 |xd fs=>obtain ⟨_,⟨_,_,_,e,_⟩,_⟩:=x;exact (_,e)
 |rng lo hi=>obtain ⟨_,_,_,e⟩:=x;exact (_,e)
 |frz ob u=>obtain ⟨e,_⟩:=x;exact (_,e)
 |tbl ps=>exact ⟨_,show h.get? a=some _ from x⟩
 |met f y=>exact ⟨_,show h.get? a=some _ from x⟩
 |ext φ=>obtain ⟨_,⟨_,e⟩,_⟩:=x;exact (_,e)
theorem ir.none_of (k:ir P w H h) (q:h.get? a=none):H a=none:=by
 cases r:H a with
 |none=>rfl
 |some o=>
  obtain ⟨u,e⟩:=(k a o r).there;rw[q] at e;cases e
theorem Ci (u:Un fs [] H H' h0 h) (m:Mv fs ch h h') (hc:∀b∈ch,h0.get? b=none):Un fs [] H H' h0 h' where
 keep:=λb o q n hb hx=>m.keep b o hb (λz=>by rw[hc b z] at q;cases q) (u.keep b o q n hb hx)
 slot:=λb o q n hb hx=>by
  obtain ⟨sl,q1⟩:=u.slot b o q n hb hx;obtain ⟨sl2,q2⟩:=m.slot b _ hb (λz=>by rw[hc b z] at q;cases q) q1
  exact (sl2,q2)
 free:=u.free
 there:=λb o q hx=>by
  obtain ⟨o1,q1⟩:=u.there b o q hx;exact m.there b o1 q1
 tups:=u.tups
 frzs:=u.frzs
 tbls:=u.tbls
theorem yi (k:ir P w H h) (m:Mv fs ch h h') (hc:∀b∈ch,H b=none) (hf:∀b∈fs,H b=none):ir P w H h':=λa o e=>
 (k a o e).stay (λb u hb q=>by
  have t:H b≠none:=by
   rcases hb with z|z
   ·rw[z,e];exact λy=>nomatch y
   ·rw[z];exact λy=>nomatch y
  exact m.keep b u (λz=>t (hf b z)) (λz=>t (hc b z)) q) (λ_ q=>q) λ_ _ q=>q
theorem _root_.XH.Mv.wider (m:Mv [] ch h h'):Mv fs ch h h':=(λb o _ hc q=>m.keep b o 96 hc q,λb o _ hc q=>(o.slots,m.keep b o 96 hc q),m.there)
theorem uR {base:Heap} (u:Un fs [] H H' h h'):∀{l:List Env},h.FunFrames base l->(∀b∈kO l,b∈fs/\H b=none)->h'.FunFrames base l
 | [],_,_=>trivial
 |env::r,⟨hk,⟨L,o,hf,hn,ho,hd⟩,hr⟩,hs=>by
  have hL:L∈kO (env::r):=by unfold kO;rw[La,hf];exact Kd
  obtain ⟨sl,e⟩:=u.slot L o ho (hs L hL).2 (hs L hL).1 96
  exact (hk,(L,_,hf,hn,e,hd),uR u hr λb hb=>hs b (by unfold kO;rw[La,hf];exact K9 _ hb))
universe z0
section
variable {P:Program} {w:World} {H H':Hp} {s s':Shared} {a L:Addr} {cls v:Value} {dx:O9} {st:Ch} {env:Env} {outer:List Env} {base:Heap} {M:Model} {A:Around} {Z:O2} {Q:Unit->Shared->Prop}
theorem iy.frees (c:iy P w outer H s a H' cls dx st s') (hl:s.heap.FunFrames base outer) (hH:∀b∈kO outer,H b=none):∀b∈kO outer,H' b=none:=λb hb=>by
 obtain ⟨_,o,ho,_⟩:=hl.mem hb;exact c.un.free b o ho (hH b hb) 96
theorem iy.note (c:iy P w (env::outer) H s a H' cls dx st s') (hfr:A.frames=some (env::outer)) (hf:env.frame=some L) (hl:s.heap.FunFrames base (env::outer)) (hH:∀b∈kO (env::outer),H b=none)
  (h:∀s'',iy P w (env::outer) H s a H' cls dx (.fl (rawInt L)) s''->Q () s''):wpAny M A (noteFrame 434 env) Q Z s':=by
 refine AT hfr (uR c.un hl λb hb=>(hb,hH b hb)) hf c.xo λh' ch hch mv x=>h _ ?_
 refine (c.os,c.bare,Ci c.un mv λb hb=>(hch b hb).1,yi c.hok mv (λb hb=>(hch b hb).2) (c.frees hl hH),x.mono ?_)
 rintro b (q|q)
 ·exact q
 ·refine (?_,c.hok.none_of q);cases r:s.heap.get? b with
  |none=>rfl
  |some o=>
   obtain ⟨o',r'⟩:=c.un.there b o r 96
   rw[r'] at q;cases q
theorem iy.flight {fl:O9} (c:iy P w outer H s a H' cls dx (.fl v) s') (hl:s.heap.FunFrames base outer) (hH:∀b∈kO outer,H b=none)
  (h:∀s'',iy P w outer H s a H' cls dx (.fl (fl.elim .none λf=>rawInt f)) s''->Q () s''):wpAny M A (setFlight 434 fl) Q Z s':=by
 refine wv c.xo λh' T hT mv x=>h _ (c.os,c.bare,Ci c.un mv.wider λb hb=>?_,yi c.hok (mv.wider (fs:=kO outer)) (λb hb=>?_) (c.frees hl hH),x)
 ·rw[K8.mp hb];exact hT.1
 ·rw[K8.mp hb];exact hT.2
universe z0
def XS (X:Cx) (E:St->XK):Value->Shared->Prop:=λe s'=>∃σ H0 s0,aU X [] σ H0 s0/\fT X.prog X.w X.stack H0 s0 (E σ) e s'
def mf (X:Cx) (E:St->XK):Prop:=∀(pins:O4) (σ:St) (H:Hp) (s:Shared) (e:Value) (s':Shared),aU X pins σ H s->fT X.prog X.w X.stack H s (E σ) e s'->X.xe e s'
theorem cA {X:Cx} {E:St->XK}:mf (X.wish (XS X E)) E:=λpins σ H s e s' I c=>(σ,H,s,I.unwish.pins_of (λp hp=>absurd hp 96),c)
def yj (sp:Sp) (dvs:List V) (E:St->XK) (t:TA):TE:=λσ H Q=>t σ H λvs H1=>sp (vs++dvs) H1 Q (E σ)
section
variable {X:Cx} {k:Nat} {f C:Addr} {fd:FuncData} {ps:O6} {sp:Sp} {dvs:List V} {ds:O8} {E:St->XK} {x m:Str} {p pos apos:Pos} {e o:Expr} {es:List Expr} {ta:TE} {t:TA}
theorem AU {pins:O4} {σ:St} {H:Hp} {s:Shared} {Q:VK} {us:O8} {vs:List V} (F:bB X.prog X.w X.K X.mg X.base (fT X.prog X.w) k f fd ps sp) (hr:cx k X.A) (hb:Binds X.K fd ps ds) (hd:bj dvs ds) (hx:mf X E)
  (I:aU X pins σ H s) (r:bj vs us) (h:sp (vs++dvs) H Q (E σ)):wpAny 106 X.A (call 226 us) 278 X.xe s:=by
 have r2:bj (vs++dvs) (us++ds):=r.append hd;sleep 186
 refine wpAny_call (codeAny_mono (F.run X.A X.stack s H (us,[]) (us++ds) (vs++dvs) Q (E σ) hr I.env0 (hb s us I.kIn hl) r2 h) λr s' hq=>?_)
 cases r with
 |error e=>exact hx pins σ H s e s' I hq
 |ok fl=>
  cases fl with
  |ret u=>exact I.after hq
  |next=>exact False.elim hq
  |brk=>exact False.elim hq
  |cont=>exact False.elim hq
theorem yk (F:bB X.prog X.w X.K X.mg X.base (fT X.prog X.w) k f fd ps sp) (hr:cx k X.A) (hg:Gl X x) (hm:X.mg x=some 226) (hk:Kn X.K 226=true) (hb:Binds X.K fd ps ds) (hd:bj dvs ds) (hx:mf X E)
  (ha:PA X (e::es) t) (hdb:116=false:=by decide) (he:starEach (e::es) X.env=(false,eval e X.env)::starEach es X.env:=by rfl) (hpl:(backTo pos 137).any 182=false:=by rfl):
  PE X 134 (yj sp dvs E t):=by
 sleep 37
 exact AU F hr hb hd hx I1 r q
universe z0
theorem lE.toX {X:Cx} {E':O2} {st:List Stmt} {t:TS} (h:lE (X.wish E') st t) (k:∀e s,E' e s->X.xe e s):lE X st t:=λpins s σ H D I hw=>
 wpAny_mono (h pins s σ H D (I.wish _) hw) (λ_ _ q=>q.unwish) λe s z=>k e s z
section
variable {P:Program} {w:World} {K:K0} {mg:O3} {base:Heap}
theorem ym {N:O6} {qual:Str} {scope:Scope} {f:Addr} {cd:Value} {A:Around} {outer:List Env} {s:Shared} {H:Hp} {E:XK} {e:Value} {s':Shared}
  (h:XS (ip 152 P w K mg base N qual scope f cd A outer s H E) (λ_=>E) e s'):(ip 152 P w K mg base N qual scope f cd A outer s H E).xe e s':=by
 obtain ⟨σ,H0,s0,I,a,H',cls,dx,st,rfl,c,hE⟩:=h;show wpAny (model P w) (A.deeper (envOfC qual scope 92 f cd)) (leaving (envOfC qual scope 92 f cd) 434) (λ_ s''=>fT P w outer H s E 434 s'') (λe' s''=>fT P w outer H s E e' s'') s'
 unfold leaving;sleep 50;refine c.note (L:=s.heap.objs.size) I.ok.frames rfl I.stack I.stkFree λs1 c1=>?_
 refine c1.flight I.stack I.stkFree λs2 c2=>?_
 have J:=I.call' c2.os c2.un c2.hok c2.bare (λb z=>absurd z 96)
 refine (a,H',cls,dx,ν,(J.os,c2.bare,J.base,c2.hok,c2.xo.mono λb q=>(?_,q.2)),hE)
 cases r:s.heap.get? b with
 |none=>rfl
 |some o=>
  obtain ⟨o',r'⟩:=I.base.there b o r (λz=>absurd (show b∈([]:O7) from z) 96)
  rw[q.1] at r';cases r'
theorem C6 {k:Nat} {f:Addr} {name qual:Str} {params:Arguments} {body:List Stmt} {scope:Scope} {dV kV doc pm cdv ct oc:Value} {an od:O9}
  {osl:O5} {N ps:O6} {sp:Sp} (lk:K.lookup f=some 507) (hcd:LO K cdv qual=true) (S:aK N ps scope)
  (len:∀vs H Q E,sp vs H Q E->vs.length=ps.length)
  (hbody:∀(A:Around) (outer:List Env) (s:Shared) (H:Hp) (vs:List V) (Q:VK) (E:XK),cx k 333->sp vs H Q E->
   ∃t,lE ((ip 152 P w K mg base N qual scope f cdv A outer s H E).wish (XS (ip 152 P w K mg base N qual scope f cdv A outer s H E) λ_=>E)) body t/\t 245 238 H):
  bB P w K mg base 152 446 f 131 ps sp:=by
 refine Ce lk hcd S len λA outer s H vs Q E hr hsp=>?_
 obtain ⟨t,h,q⟩:=hbody A outer s H vs Q E hr hsp;exact (t,h.toX λe s' z=>ym z,q)
theorem bB.noraise {k:Nat} {f:Addr} {fd:FuncData} {ps:O6} {sp sp0:Sp} (F:564 152 k f fd ps sp) (h:∀vs H Q E,sp0 vs H Q E->sp vs H Q E0):564 bX k f fd ps sp0:=
 ⟨λvs H Q E q=>F.len vs H Q E0 (h _ _ _ _ q),λA outer s H args us vs Q E hr he hb hv hs=>codeAny_mono (F.run A outer s H args us vs Q E0 hr he hb hv (h _ _ _ _ hs)) λr s' hq=>by
  cases r with
  |error e=>obtain ⟨_,_,_,_,_,_,_,z⟩:=hq;exact z.elim
  |ok fl=>cases fl<;>exact hq⟩
universe z0
abbrev Cx.tried (X:Cx) (pins:O4):Cx:={X with pn:=X.pn++pins}
abbrev Cx.suite (X:Cx) (pins:O4) (a:Addr):Cx:={X with A:=X.A.mark (some 434),calm:=false,pn:=X.pn++pins,xe:=λ_ _=>False}
noncomputable def fw (n:Bool) (a:Addr) (cls:Value) (dx:O9):HO:= .ext λh=>∃ox vs,h.get? a=some ox/\ox.cls=cls/\ox.dict=dx/\ox.data= .fields vs/\vs[2]?=some .none/\(n=true->1<vs.size/\vs[1]?=some .none)
abbrev gK:=fw false
theorem pC {P:Program} {w:World} {H:Hp} {h:Heap} {n:Bool} {a:Addr} {cls:Value} {dx:O9} {ox:Obj} {vs:Array Value} (h1:h.get? a=some ox) (h2:ox.cls=cls) (h3:ox.dict=dx) (h4:ox.data= .fields vs) (h6:vs[2]?=some .none) (h5:n=true->1<vs.size/\vs[1]?=some .none):cr P w H h a (fw n a cls dx):=
 ⟨⟨ox,vs,h1,h2,h3,h4,h6,h5⟩,⟨ox,h1⟩,λ_ _ ⟨oy,ws,q,r⟩ kp=>⟨oy,ws,kp _ q,r⟩⟩
abbrev TH:=Ends->St->Value->O9->Hp->Addr->Prop
def PH (X:Cx) (hs:List ExceptHandler) (th:TH):Prop:=
 ∀(pins:O4) (σ:St) (H0:Hp) (s0:Shared) (D:Ends) (a:Addr) (H':Hp) (cls v:Value) (dx:O9) (s':Shared),aU X pins σ H0 s0->iy X.prog X.w X.stack H0 s0 a H' cls dx (.fl v) s'->th D σ cls dx H' a->
  wpAny 106 X.A (handleBy 434 X.env hs) (SP X pins D) X.xe s'
section
variable {X:Cx} {pins:O4} {σ:St} {H H':Hp} {s s':Shared}
theorem aU.tried (I:aU X pins σ H s):aU (X.tried pins) [] σ H s:=
 ⟨169,
  I.os,I.bare,I.base,I.loc,I.cell,I.free,I.freeC,λp hp=>I.pin p 479,I.hok,I.len⟩
theorem aU.untried (I:aU (X.tried pins) [] σ H s):aU X pins σ H s:=
 ⟨169,
  I.os,I.bare,I.base,I.loc,I.cell,I.free,I.freeC,λp hp=>I.pin p 479,I.hok,I.len⟩
theorem aU.insuite (I:aU X pins σ H s) (a:Addr):aU 373 [] σ H s:=
 ⟨⟨I.ok.mod,I.ok.kind,I.ok.glob,I.ok.blt,I.ok.above,I.ok.inj,I.ok.has,I.ok.cab,λz=>(Bool.noConfusion z),I.ok.frames,I.ok.stk,I.ok.exf,I.ok.bs,I.ok.bsz,I.ok.noex,I.ok.exfs,I.ok.funs,I.ok.frf⟩,
  I.os,I.bare,I.base,I.loc,I.cell,I.free,I.freeC,λp hp=>I.pin p 479,I.hok,I.len⟩
theorem aU.outsuite {a:Addr} (ok:X.Ok) (I:aU 373 [] σ H s):aU X pins σ H s:=
 ⟨ok,I.os,I.bare,I.base,I.loc,I.cell,I.free,I.freeC,λp hp=>I.pin p 479,I.hok,I.len⟩
theorem aU.unbound {n:Str} {i:Nat} {h':Heap} {m:O3} {v:Pa} {t':Nat} (I:aU X pins σ H s) (hi:X.N[i]?=some n) (hN:X.N.Nodup)
  (hm:∀(j:Nat) (x:Str) (v:V),X.N[j]?=some x->σ[j]?=some (some v)->Hu X.env.scope x->∃u,RelV v u/\Look X.env s.heap m x u)
  (hn:h'.Ns X.env.locals (λx=>if x=n then v else m x)) (hs:Heap.SameBut X.env.locals s.heap h'):aU X pins (σ.set i none) H {s with heap:=h',toks:=t'}:=by
 obtain ⟨m0,hn0,_⟩:=id I.loc;obtain ⟨oL,_,_,hoL,_⟩:=id hn0;have cne:=I.cne;have low:∀b o,X.s₀.heap.get? b=some o->b≠X.env.locals:=λb o e=>Kf (KJ 449 I.ok.above)
 refine (I.ok,I.os,I.bare,(λb o e n hb hx=>?_,λb o e n hb hx=>?_,I.base.free,λb o e hx=>?_,I.base.tups,I.base.frzs,I.base.tbls),(_,hn,λj y v' e1 e2 e3=>?_),λy c e=>?_,I.free,I.freeC,λp hp=>?_,λb ob e=>?_,by simpa using I.len)
 ·exact (hs.2 b (low b o e)).trans (I.base.keep b o e n hb hx)
 ·obtain ⟨sl,e1⟩:=I.base.slot b o e n hb hx;exact (sl,(hs.2 b (low b o e)).trans e1)
 ·obtain ⟨o',e1⟩:=I.base.there b o e hx;exact (o',(hs.2 b (low b o e)).trans e1)
 ·by_cases hj:j=i
  ·subst hj;rw[Le] at e2;simp at e2
  ·rw[List.getElem?_set_ne (Ne.symm hj)] at e2;obtain ⟨u',r',q⟩:=hm j y v' e1 e2 e3;exists u',r';rcases q with ⟨k,e⟩|⟨k,c,e,z⟩
   ·refine .inl (k,?_);have:y≠n:=λe=>hj (lV hN e1 (e▸hi))
    simp[this,e]
   ·exact .inr (k,c,e,z.sameBut hs (cne y c e))
 ·obtain ⟨w',z⟩:=I.cell y c e;exact (w',z.sameBut hs (cne y c e))
 ·obtain ⟨e,n,ne,nf,d⟩:=I.pin p hp;exact ((hs.2 p.1 ne).trans e,n,ne,nf,d)
 ·refine (I.hok b ob e).stay (λc w' hc q=>(hs.2 c ?_).trans q) (λ_ q=>q) λ_ _ q=>q
  rintro rfl;rcases hc with rfl|hc
  ·rw[I.free] at e;cases e
  ·rw[I.free] at hc;cases hc
theorem mh {fs:O7} {h0 h:Heap} {a:Addr} {o:HO} (u:Un fs [] H H' h0 h) (n0:h0.get? a=none) (na:H' a=none):Un fs [] H (aR H' a o) h0 h where
 keep:=u.keep
 slot:=u.slot
 free:=λb ob q n hx=>by
  have:b≠a:=λz=>by rw[z,n0] at q;cases q
  rw[aB this];exact u.free b ob q n hx
 there:=u.there
 tups:=λb xs e=>by
  have q:=u.tups b xs e;rw[aB (aT q na)];exact q
 frzs:=λb o' w' e=>by
  have q:=u.frzs b o' w' e;rw[aB (aT q na)];exact q
 tbls:=λb ps e=>by
  obtain ⟨mo,q⟩:=u.tbls b ps e;exact (mo,by rw[aB (aT q na)];exact q)
theorem oh {P:Program} {w:World} {h:Heap} {a:Addr} {o:HO} (k:ir P w H h) (na:H a=none) (new:cr P w (aR H a o) h a o):ir P w (aR H a o) h:=λb u e=>by
 by_cases hb:b=a
 ·subst hb;rw[ah] at e;cases e;exact new
 ·rw[aB hb] at e;exact (k b u e).stay (λc v _ q=>q) (λc q=>by rw[aB (aT q na)];exact q) λc xs q=>by rw[aB (aT q na)];exact q
theorem iy.caughtN {a:Addr} {cls:Value} {dx:O9} (I:aU X pins σ H s) (c:iy X.prog X.w X.stack H s a H' cls dx .new s'):aU X pins σ (aR H' a (fw true a cls dx)) s':=by
 obtain ⟨⟨oe,vs,he,hc,hd,hda,hz,hn⟩,n0,na⟩:=c.xo;refine I.call' c.os (mh c.un n0 na) (oh c.hok na (pC he hc hd hda hz.2 λ_=>(hz.1,hn))) c.bare λb z=>absurd z 96
theorem iy.caught {a:Addr} {cls:Value} {dx:O9} {st:Ch} (I:aU X pins σ H s) (c:iy X.prog X.w X.stack H s a H' cls dx st s'):aU X pins σ (aR H' a (gK a cls dx)) s':=by
 obtain ⟨⟨oe,vs,he,hc,hd,hda,hz,_⟩,n0,na⟩:=c.xo;refine I.call' c.os (mh c.un n0 na) (oh c.hok na (pC he hc hd hda hz.2 λz=>nomatch z)) c.bare λb z=>absurd z 96
universe z0
section
variable {X:Cx} {body:List Stmt} {h₀:ExceptHandler} {hs:List ExceptHandler} {pos:Pos} {th:TH}
def Ic (tb:(St->XK)->TS) (th:TH):TS:=λD σ H=>tb (λσ' cls dx H'=>∀a,H' a=none->th D σ' cls dx H' a) D σ H
theorem SP.untried {pins:O4} {E:O2} {D:Ends} {f:Flow} {s':Shared} (h:SP ((X.tried pins).wish E) [] D f s'):SP X pins D f s':=by
 cases f with
 |next=>obtain ⟨σ',H',I,q⟩:=h;exact 471
 |brk=>obtain ⟨σ',H',I,q⟩:=h;exact 471
 |cont=>obtain ⟨σ',H',I,q⟩:=h;exact 471
 |ret u=>obtain ⟨v,σ',H',I,r,q⟩:=h;exact (v,σ',H',I.unwish.untried,r,q)
theorem yn {tb:(St->XK)->TS} (hstk:X.stack=X.env::X.outer) (hfm:X.env.frame=some X.env.locals)
  (hb:∀(pins:O4) (E:St->XK),lE ((X.tried pins).wish (XS (X.tried pins) E)) body (tb E)) (hh:PH X (h₀::hs) th):PS X (.Try body (h₀::hs) [] [] pos) (Ic tb th):=by
 intro pins s σ H D I h;refine wpAny_Try_except ?_;refine wpAny_mono (hb pins _ [] s σ H D (I.tried.wish _) h) (λf s1 q=>?_) λe s1 hx=>?_
 ·have q:=q.untried;cases f with
  |next=>exact wpAny_execs_nil q
  |brk=>exact q
  |cont=>exact q
  |ret u=>exact q
 ·obtain ⟨σ',H0,s0,I0,a,H',cls,dx,st,rfl,c,hE⟩:=hx;sleep 195;have J:=I0.untried;sleep 193
  sleep 165
  sleep 185
  refine c'.note fr hfm st1 sf λs2 c2=>?_
  refine c2.flight st1 sf λs3 c3=>?_
  exact hh pins σ' H0 s0 D a H' cls _ dx s3 J (hstk▸c3) (hE a c3.xo.fr.2)
theorem yo:PH X [] (λ_ _ _ _ _ _=>False):=λ_ _ _ _ _ _ _ _ _ _ _ _ _ h=>h.elim
universe z0
structure XT (K:K0) (C:Addr):Prop where
 ty:PySem.W.typeIn K 119=some (.type "type")
 cl:(PySem.W.clsIn K C).isSome=true
 ex:LC K 119 254=some true
theorem jJ {K:K0} {M:Model} {h:Heap} {C:Addr} (X:K.In h) (e:(PySem.W.clsIn K C).isSome=true):PySem.W.Looks M h (isType 119) true:=by
 unfold PySem.W.clsIn at e
 split at e
 ·rename_i ho;intro A' Q' E' s' k q;unfold isType loadHead;exact wpAny_bind (wpAny_loadPart (k _ _ (X _ _ ho)) (wpAny_pure q))
 ·cases e
structure XG (K:K0) (C:Addr):Prop where
 ga:Kc K 119 "__getattribute__" =some (some (.builtin "BaseException.__getattribute__"))
 gt:Kc K 119 "__getattr__" =some none
 be:PySem.W.mroIn K C 254=some true
section
variable {prog:Program} {w:World} {A:Around} {E:O2} {K:K0} {h:Heap} {g:Array GenState} {d:Drawn} {t:Nat} {os:OsState} {x C:Addr} {ox:Obj} {od:Option Obj} {name:Str}
open PySem.W in
theorem ww {nameV:Value} {Q:Unit->Shared->Prop} (X:K.In h) (I:InstAt h x ox C od) (G:XG K C) (hq:Q () ⟨h,g,d,t,os⟩):
  wpAny 109 A (checkBuiltinCall "BaseException.__getattribute__" ⟨[.ref x,nameV],[]⟩) Q E ⟨h,g,d,t,os⟩:=by
 have hk:builtinKind "BaseException.__getattribute__" =some .slot:=by decide+kernel
 have hs:splitId "BaseException.__getattribute__" =some ("BaseException","__getattribute__"):=by decide+kernel
 have l0:=I.type (M:=model prog w);have l1:=looks_mroIn (M:=model prog w) X G.be;have ha:=F.args_bexc_ga 558 nameV;have l2:Looks 109 h (isInstance 558 254) true:=l0.andThen l1;simp only[checkBuiltinCall,hk,hs];refine wpAny_bind ?_;unfold isInstance;have hx:=I.at_;have hc:=I.cls
 repeat (first|(with_reducible refine wpAny_loadPart_at hx ?_;rw[hc])|with_reducible refine l1.at ?_|wp_step)
 exact hq
open PySem.W in
theorem kZ {tk:Tok} {v:Value} {Q:Fin->Shared->Prop} (X:K.In h) (I:InstAt h x ox C od) (hf:findObj K C od name=some (.value v)) (hq:Q (.done (.ret v)) ⟨h,g,d,t,os⟩):
  wpAny 109 A 203 Q E ⟨h,g,d,t,os⟩:=by
 sleep 26;exact wpAny_pure hq
open PySem.W in
theorem mi {tk:Tok} {gv a:Value} {Q:Fin->Shared->Prop} (X:K.In h) (I:InstAt h x ox C od) (hf:findObj K C od name=some (.bind gv a))
  (hq:wpAny 109 A (call gv [a,.ref x,.ref C]) (λv s'=>Q (.done (.ret v)) s') E ⟨h,g,d,t,os⟩):
  wpAny 109 A 203 Q E ⟨h,g,d,t,os⟩:=by
 sleep 26;show wpAny _ _ (holding [a] (call gv [a,.ref x,.ref C])>>=ret) _ _ _;exact wpAny_bind (wpAny_holding (wpAny_mono hq (λv s' z=>wpAny_pure z) λ_ _ z=>z))
open PySem.W in
theorem yq {tk:Tok} {fill expr:Bool} {Q:O2} (X:K.In h) (I:InstAt h x ox C od) (G:XG K C)
  (hq:∀A':Around,wpAny 109 A' 203 (λfin s'=>match fin with| .done (.ret v)=>wpAny (model prog w) A (handedOut v) Q E s'|_=>False) (λ_ _=>False) ⟨h,g,d,t,os⟩):
  wpAny 109 A (getAttrBy 558 (.str name tk) fill expr) Q E ⟨h,g,d,t,os⟩:=by
 have l0:=I.type (M:=model prog w);have l1:=looks_findIn (M:=model prog w) X G.ga;have l2:=looks_findIn (M:=model prog w) X G.gt;have fb:=F.attrBase_ValueError;have f3:=fb.ga.bind 558;unfold getAttrBy;refine wpAny_holding 538;have hx2:(Value.builtin "BaseException.__getattribute__" ==Value.builtin "object.__getattribute__")=false:=by decide+kernel
 simp only[hx2,Bool.and_false,Bool.false_eq_true,if_false];unfold getAttrByItsOwn hookBefore;refine wpAny_bind ?_;rw[if_pos (show onTheHeap 119=true from rfl)]
 refine l2.at ?_;refine wpAny_bind (wpAny_attempt (wpAny_holding ?_));unfold callGetattribute;rw[if_neg (by cases expr<;>exact KM)]
 unfold boundAndCalled;refine wpAny_bind (wpAny_of_eq f3 ?_);refine wpAny_call (codeAny_call_builtin fb.ga.plain F.entry_bexc_ga (ww X I G (wpAny_mono (hq _) (λfin s' z=>?_) λ_ _ z=>z.elim)))
 rcases fin with (_|_|_|_)|_<;>first|exact z.elim|exact z
universe z0
section
variable {prog:Program} {w:World} {A:Around} {E:O2} {K:K0}
theorem mm {h:Heap} {g:Array GenState} {d:Drawn} {t:Nat} {os:OsState} {e C C':Addr} {oe:Obj} {b:Bool} {Q:Bool->Shared->Prop} (KX:K.In h) (he:h.get? e=some oe) (hc:oe.cls= .ref C) (T:XT K C')
  (hsub:LC K 119 534=some b) (hq:Q b ⟨h,g,d,t,os⟩):wpAny 109 A (excMatches 256 534) Q E ⟨h,g,d,t,os⟩:=by
 have l1:=PySem.W.looks_typeIn (M:=model prog w) KX T.ty;have l2:=PySem.W.looks_subIn (M:=model prog w) KX T.ex;have l3:=PySem.W.looks_subIn (M:=model prog w) KX hsub;have l4:=jJ (M:=model prog w) KX T.cl;have l5:PySem.W.Looks 109 h (isInstance 534 (.type "tuple")) false:=l1.andThen (PySem.W.Looks.of_pure tc_notTuple);have l6:PySem.W.Looks 109 h (isExcClass 534) true:=by
  unfold isExcClass;refine l4.andThen ?_;exact l2
 unfold excMatches
 repeat (first|with_reducible refine wpAny_bind (l5.at ?_)|with_reducible refine wpAny_bind (l6.at ?_)|with_reducible refine wpAny_bind (l3.at ?_)|(with_reducible refine wpAny_loadPart_at he ?_;rw[hc])|wp_step)
 cases b<;>(wp_walk;exact hq)
universe z0
noncomputable def FA (i:Nat) (D:Ends):Ends:={nx:=λσ H=>D.nx (σ.set i none) H,rt:=D.rt,bk:=λσ H=>D.bk (σ.set i none) H,ct:=λσ H=>D.ct (σ.set i none) H}
def Id (K:K0) (C':Addr) (t:TS) (r:TH):TH:=λD σ cls dx H a=>∃C b,cls= .ref C/\LC K 119 534=some b/\
 if b=true then t D σ (aR H a (gK a cls dx)) else r D σ cls dx H a
section
variable {X:Cx} {x n:Str} {np pos:Pos} {b0:Stmt} {suite:List Stmt} {rest:List ExceptHandler} {i:Nat} {C':Addr} {t:TS} {th:TH}
theorem AV {pins:O4} {a:Addr} {D:Ends} {f:Flow} {s:Shared} {M:Model} {A:Around} {E:O2} (ok:X.Ok) (hN:X.N.Nodup) (hi:X.N[i]?=some n) (hloc:X.env.scope.names.lookup n=some .local)
  (q:SP 373 [] (FA i D) f s):wpAny M A (do bindName X.env n .none;unbindBehindTheSuite X.env n pos) (λ_ s'=>SP X pins D f s') E s:=by
 have hcls:(X.env.scope.kind== .class||(X.env.scope.kind== .module&&X.env.locals !=X.env.globals))=false:=by rw[ok.kind];rfl
 cases f with
 |next=>
  sleep 15
 |brk=>
  sleep 15
 |cont=>
  sleep 15
 |ret u=>
  obtain ⟨v,σ,H,I,r,q⟩:=q;have J:=I.outsuite ok;obtain ⟨m,hn,hl⟩:=id J.loc;exact wpAny_nameGoes_keeps hloc hn hcls λh' v' hn' hs=>(v,_,H,J.unbound hi hN hl hn' hs,r,q)
theorem SP.outsuite {pins:O4} {a:Addr} {D:Ends} {f:Flow} {s:Shared} (ok:X.Ok) (h:SP 373 [] D f s):SP X pins D f s:=by
 cases f with
 |next=>obtain ⟨σ',H',I,q⟩:=h;exact 517
 |brk=>obtain ⟨σ',H',I,q⟩:=h;exact 517
 |cont=>obtain ⟨σ',H',I,q⟩:=h;exact 517
 |ret u=>obtain ⟨v,σ',H',I,r,q⟩:=h;exact (v,σ',H',I.outsuite ok,r,q)
theorem FB (T:XT X.K C') (hg:Gl X x) (hm:X.mg x=some 534)
  (hs:∀(pins:O4) (a:Addr),lE 373 (b0::suite) t) (hrest:PH X rest th) (hd:116=false:=by decide):
  PH X (.ExceptHandler (some (.Name x np)) none (b0::suite) pos::rest) (Id X.K C' t th):=by
 sleep 58
 sleep 56
 sleep 194;cases b with
 |false=>exact hrest pins σ H0 s0 D a H' _ v dx _ I c h
 |true=>
  refine codeAny_handlers_suite ?_;refine c.flight I.stack I.stkFree λs2 c2=>?_
  have J2:=(c2.caught I).insuite a;refine wpAny_mono (hs pins a [] s2 _ _ _ J2 h) (λf s4 q=>?_) λ_ _ z=>z.elim
  exact q.outsuite I.ok
theorem yr {E:St->XK} (hstk:X.stack=X.env::X.outer) (hfm:X.env.frame=some X.env.locals):PassesOwn 106 X.A X.env (XS X E):=by
 intro e s1 hx;obtain ⟨σ',H0,s0,J,a,H',cls,dx,st,rfl,c,hE⟩:=hx;sleep 195;sleep 193
 sleep 165
 sleep 185
 unfold notedBy;refine c'.note fr hfm st1 sf λs2 c2=>?_
 unfold cameBackBy;obtain ⟨oe,vs,he,_,_,hd,_,T,_,_,h1,_⟩:=c2.xo.ex;sleep 50;apply wpAny_field he hd h1;rw[if_neg 96]
 refine c2.flight st1 sf λs3 c3=>?_
 exact (σ',H0,s0,J,a,H',cls,dx,ν,hstk▸c3,hE)
universe z0
noncomputable def At:O8:= [.type "ValueError",.type "Exception",.type "BaseException",.type "object"]
theorem C7 {K:K0} {h:Heap} {C:Addr} {bmB:O8} {nw:String} (X:K.In h) (q:Lv K C bmB nw=true):
  ∃bm N nm qn bs hdct sn sub ab col dd k0 k1 k2 k3 k5 mN,h.get? C=some (excClassObj nm qn C N bs bm hdct sn sub ab col dd k0 k1 k2 k3 k5 nw)/\h.Ns N mN/\mN "__init__" =none/\OwnTail h bmB bm:=by
 unfold Lv at q
 split at q
 ·rename_i dd cd sl ho
  split at q
  ·rename_i C' bm k0 k1 k2 k3 n k5 hm hs;simp only[KQ,beq_iff_eq,Bool.not_eq_true'] at q;obtain ⟨⟨⟨⟨⟨e1,e2⟩,hdel⟩,ht⟩,hok⟩,hni⟩:=q;subst e1 e2;obtain ⟨nm,bs,mro,ns,qn,hd,sn,sub,ab,col,del⟩:=cd;dsimp only at hm hdel hok hni;subst hm hdel;obtain ⟨l⟩:=sl;have hl:l= [k0,k1,k2,k3,some (.builtin n),k5]:=hs;subst hl;exact (bm,ns,nm,qn,bs,hd,sn,sub,ab,col,dd,k0,k1,k2,k3,k5,_,X _ _ ho,.of_isNs (PySem.W.isNs_of_in X hok),PySem.W.nsMap_none_of_in X hok hni,PySem.W.tail_of_in X ht)
  ·cases q
 ·cases q
def C8 (C:Addr) (E:St->XK) (t:TA):TS:=λ_ σ H=>t σ H λvs H1=>vs.length<=sizeLine/\E σ 119 none H1
section
variable {X:Cx} {x:Str} {np cpos pos:Pos} {e₀:Expr} {rest:List Expr} {C:Addr} {t:TA} {E:St->XK}
theorem uS {pins:O4} {σ:St} {H:Hp} {s:Shared} {h':Heap} {e:Addr} {us:O8} (I:aU X pins σ H s) (mk:Heap.MadeExcOf s.heap h' e 119 us):iy X.prog X.w X.stack H s e H 119 none .new {s with heap:=h'}:=by
 obtain ⟨t,ht,_,_⟩:=mk.there;exact (rfl,I.bare,Un.kept mk.keeps,I.hok.kept mk.keeps,((_,_,ht,rfl,rfl,rfl,(by show 1<6;decide,rfl),rfl),mk.new,I.hok.none_of mk.new))
theorem mn (q:Lv X.K C At "ValueError.__new__" =true) (hg:Gl X x) (hm:X.mg x=some 119) (hc:X.calm=true) (hp:mf X E) (ha:PA X (e₀::rest) t) (hd:116=false:=by decide)
  (he:starEach (e₀::rest) X.env=(false,eval e₀ X.env)::starEach rest X.env:=by rfl) (hpl:(backTo cpos (starEach rest X.env)).any 182=false:=by rfl):
  PS X (.Raise (some 326) none pos) (C8 C E t):=by
 intro pins s σ H D I h;obtain ⟨bm,N,nm,qn,bs,hdct,sn,sub,ab,col,dd,k0,k1,k2,k3,k5,mN,hC,hN,hni,TL⟩:=C7 I.ok.mod.kin q;have F:=PySem.F.excBase_ValueError;have W:=ha cpos pins s σ H _ I h;refine wpAny_Raise_call_subT (C:=C) (nm:=nm) (q:=qn) (N:=N) (bs:=bs) (bm:=bm) (hdct:=hdct) (sn:=sn) (sub:=sub) (ab:=ab) (col:=col) (dd:=dd) (k0:=k0) (k1:=k1) (k2:=k2) (k3:=k3) (k5:=k5) (mN:=mN)
  F (TL.hasType F.hasBase) 307 (by rw[he];exact hpl) hni (dQ I hg hm ⟨rfl,?_⟩ hd)
 rw[he] at W⊢;refine Calls.evalArgs_plain (bW W λus s2 (vs,H1,I1,r,hl,z)=>(rfl,by rw[<-r.length];exact hl,I1.bk _ _ hC,hN.keeps I1.bk,TL.keeps I1.bk,λh' e mk=>?_))
 exact hp pins σ H1 s2 _ _ I1 (e,H1,.ref C,none,.new,rfl,uS I1 mk,z)
universe z0
structure XI (K:K0) (C:Addr):Prop where
 gg:XG K C
 cl:(PySem.W.clsIn K C).isSome=true
 at_:Kc K 119 "__class__" =some (some 185)
 gt:PySem.W.specialIn K 185 "__get__" =some (some 346)
 tk:PySem.W.takesIn K 185=some true
 ob:PySem.W.mroIn K C (.type "object")=some true
theorem findObj_cls {K:K0} {C:Addr} {od:Option Obj} (x:XI K C):PySem.W.findObj K C od "__class__" =some (.bind 346 185):=by
 obtain ⟨cd,hc⟩:=LI.mp x.cl;unfold PySem.W.findObj;rw[hc,Option.bind_some,x.at_,Option.bind_some];simp[x.gt,x.tk]
theorem qW {K:K0} {a C:Addr} (x:XI K C):PySem.W.KitX K 434 119 (λh=>∃ox od,PySem.W.InstAt h a ox C od) where
 ty:=λ_ _ _ ⟨_,_,I⟩=>I.type
 it:=λ_ _ X _=>jJ X x.cl
 ne:=λh tp dd its n sl X htp=>by
  refine Bool.eq_false_iff.mpr λq=>?_
  have e:C=tp:=Value.ref.inj (beq_iff_eq.mp q);subst e;have c:=x.cl;unfold PySem.W.clsIn at c
  split at c
  ·rename_i ho;have z:=(X _ _ ho).symm.trans htp;cases z
  ·cases c
 ca:=λ{_ _ _ _ _ s} X I k=>by
  obtain ⟨ox,od,I⟩:=I;obtain ⟨hh,g,d,t,os⟩:=s;unfold getAttr? getAttrBy?;refine wpAny_bind (wpAny_mkText (wpAny_bind (wpAny_attempt (yq (h:=hh) X I x.gg λA'=>mi X I (findObj_cls x) ?_))))
  exact wpAny_call (PySem.W.class_get (s:=(hh,g,d,t+1,os)) (ox:=ox) (od:=od) X I x.ob (PySem.W.handed_on rfl (wpAny_pure k)))
def Cj (H:Hp) (dx:O9):Prop:=match dx with
 |none=>True
 |some d=>∃fs,H d=some (.xd fs)
theorem uU {X:Cx} {pins:O4} {σ:St} {H:Hp} {s:Shared} {a C:Addr} {n:Bool} {dx:O9} (I:aU X pins σ H s) (e:H a=some (fw n a 119 dx)) (d:Cj H dx):∃ox od,PySem.W.InstAt s.heap a ox C od:=by
 obtain ⟨⟨ox,vs,h1,h2,h3,h4,_⟩,_⟩:=(show cr X.prog X.w H s.heap a (fw n a 119 dx) from I.hok a _ e)
 have nc:PySem.W.notCls ox=true:=by unfold PySem.W.notCls;rw[h4]
 cases dx with
 |none=>exact ⟨ox,none,h1,h2,nc,by rw[h3];trivial⟩
 |some d'=>
  obtain ⟨fs,hd⟩:=d;obtain ⟨mA,⟨o,es,ep,e',_⟩,_⟩:=(show cr X.prog X.w H s.heap d' (.xd fs) from I.hok d' _ hd)
  exact (ox,some o,h1,h2,nc,by rw[h3];exact e')
inductive Ie (K:K0) (C:Addr):V->Bool->Prop where
 |own {D:Addr} {b:Bool} (h:K2 K (.ref C) (.ref D)=some b):Ie K C (.ref D) b
 |ty {T:String} {b:Bool} (h:K2 K (.ref C) (.type T)=some b):Ie K C (.ty T) b
theorem dX {X:Cx} {K:K0} (hK:X.K=K):fV X 222 (λxs H Q=>∃a C dx c b,xs= [.ref a,c]/\(∃n,H a=some (fw n a 119 dx))/\Cj H dx/\XI K C/\Ie K C c b/\Q (.bl b) H):=by
 subst hK;sleep 23;obtain ⟨a,C,dx,c,b,rfl,⟨n,e⟩,d,xi,xs,q⟩:=h;sleep 133;cases e1;cases xs with
 |own h=>
  cases e2;sleep 153
 |ty h=>
  cases e2;sleep 153
abbrev Cx.block (X:Cx) (scope:Scope) (cl:List (Str×Addr)) (C:Addr) (N:O6) (own:Str) (fp:O7) (s:Shared) (H:Hp):Cx:=
 {X with env:=compEnvC scope cl C X.env,N:=N,s₀:=s,H₀:=H,outer:=X.stack,stack:=X.stack,ex:=fp,fn:=λy=>y==own,pn:= [],xe:=λ_ _=>False}
structure jj (X:Cx) (scope:Scope) (cl:List (Str×Addr)) (own:Str) (ys:O6) (js:List Nat):Prop where
 clos:closureFor scope X.env=pure cl
 nocell:(scope.names.all λp=> !(p.2== .cell))=true
 kind:scope.kind= .function
 loc:329=true
 ownL:scope.names.lookup own=some .local
 sub:∀p∈cl,X.env.cells.lookup p.1=some p.2
 has:296=true
 noown:cl.lookup own=none
 nd:(own::ys).Nodup
 at_:∀(i:Nat) (y:Str),ys[i]?=some y->∃j:Nat,js[i]?=some j/\X.N[j]?=some y/\(X.env.scope.names.lookup y=some .cell∨X.env.scope.names.lookup y=some .free)/\((relabel scope X.env).names.lookup y=some .cell∨(relabel scope X.env).names.lookup y=some .free)
 len:js.length=ys.length
noncomputable def dv (js:List Nat) (σ:St):St:=js.map λj=>(σ[j]?).getD none
def uV (js:List Nat) (te:TE) (σ:St) (Q:VK):It->Hp->Prop:=λJ H1=>∀p,H1 p=none->∃W:Nat->Nat->List V->Hp->Prop,(∃m,W 0 m [] (aR H1 p 123))/\
 ∀i m ys H2,W i m ys H2->H2 p=some 335/\((J.stop i H2/\Q 237 H2)∨(J.go i H2/\ys.length<sizeLine/\∀x H3,J.yld i H2 x H3->te (some x::dv js σ) H3 λy H4=>H4 p=some 335/\∃m',m'<m/\W 240 m' (ys++ [y]) (aR H4 p (.lst (ys++ [y])))))
def Ck (wi:TI) (js:List Nat) (te:TE):TE:=λσ H Q=>wi σ H (uV js te σ Q)
theorem lookup_all {α:Type} {f:Str×α->Bool} {x:Str} {a:α}:∀{l:List (Str×α)},l.all f=true->l.lookup x=some a->f (x,a)=true:=by
 intro l h e;exact KY.mp h _ (LP e)
section
variable {prog:Program} {w:World} {A:Around} {R:Result->Shared->Prop} {s:Shared}
theorem pD {elt target iter:Expr} {scope:Scope} {pos:Pos} {it acc:Value} {env:Env} (I:Nat->Shared->Prop)
  (turn:∀n s,I n s->wpAny 109 A (pyNext it) (λr s1=>match r with
   |none=>R (.ok .next) s1
   |some v=>wpAny 109 A (letOwnedTupleGo target it v) (λ_ s2=>wpAny 109 A (assign target env v) (λ_ s3=>wpAny 109 A (eval elt env) (λx s4=>
     wpAny 109 A (call (.builtin "list.append") [acc,x]) (λ_ s5=>∃m,m<n/\I m s5) 359 s4) 359 s3) 359 s2) 359 s1) 359 s)
  (n:Nat) (h:I n s):codeAny 109 A (.compLoop 494 0 it acc env) R s:=by
 apply codeAny_loop rfl I ?_ n h;intro n s hI;show wpAny _ _ ((compTurn 494 0 it acc env).onRaise _) _ _ s;apply wpAny_noted;rw[compTurn_list1];sleep 50;apply wpAny_standAt;sleep 50;refine wpAny_mono (turn n s hI) (λr s1 h1=>?_) λ_ _ z=>z.elim
 cases r with
 |none=>exact wpAny_pure h1
 |some v=>
  sleep 50;refine wpAny_mono h1 (λ_ s2 h2=>?_) λ_ _ z=>z.elim
  sleep 50;refine wpAny_mono h2 (λ_ s3 h3=>?_) λ_ _ z=>z.elim
  sleep 50;sleep 50;refine wpAny_mono h3 (λx s4 h4=>?_) λ_ _ z=>z.elim
  sleep 50;refine wpAny_mono h4 (λ_ s5 h5=>?_) λ_ _ z=>z.elim
  exact wpAny_pure (wpAny_pure (rfl,h5))
universe z0
section
variable {X:Cx} {scope:Scope} {cl:List (Str×Addr)} {own:Str} {ys:O6} {js:List Nat} {fp:O7} {pins:O4} {σ:St} {H:Hp} {s s4:Shared}
theorem qX {h1:Heap} (ok:jj X scope cl own ys js) (I:aU X pins σ H s) (hf:∀b∈fp,i7 X pins H b) (hlt:∀b∈fp,b<92) (hns:h1.Ns 92 (λ_=>none))
  (hk:∀b o,s.heap.get? b=some o->h1.get? b=some o) (tk:Nat):
  aU (X.block scope cl 92 (own::ys) own fp s H) [] (none::dv js σ) H {s with heap:=h1,toks:=tk}:=by
 have sub:∀y c,cl.lookup y=some c->X.env.cells.lookup y=some c:=λy c e=>ok.sub (y,c) (LP e)
 refine ⟨⟨I.ok.mod,ok.kind,I.ok.glob,I.ok.blt,K4 _,λx y c e1 e2=>I.ok.inj x y c (sub x c e1) (sub y c e2),λx hx=>?_,λx c e1 e2=>?_,I.ok.hd,I.ok.frames,.inl rfl,λb hb=>(Kf (hlt b hb),λx c e=>(hf b hb).2.2.2.2.1 x c (sub x c e)),
  I.bs,KC I.ok.bsz I.sz,λb o e hb=>?_,λb hb z=>?_,I.stack,I.stkFree⟩,rfl,I.bare,Un.kept hk,⟨_,hns,λi y v e1 e2 e3=>?_⟩,λy c e=>?_,I.hok.fresh 214,λy c e=>I.freeC y c (sub y c e),λp hp=>absurd (show p∈([]:O4) from hp) 96,I.hok.kept hk,?_⟩
 ·have hx':(relabel scope X.env).names.lookup x=some .cell∨(relabel scope X.env).names.lookup x=some .free:=hx;rcases hx' with z|z
  ·sleep 91
  ·sleep 92
 ·have e1':(x==own)=true:=e1;have e:x=own:=beq_iff_eq.mp e1';have e2':cl.lookup x=some c:=e2;rw[e,ok.noown] at e2';cases e2'
 ·rcases (hf b hb).2.2.2.1 with z|z
  ·exact I.ok.noex b o e z
  ·exact absurd (KJ (Heap.lt_size (I.ok.bs b o e).1) z) (Nat.lt_irrefl _)
 ·rcases K1.mp (I.stkSub b z) with q|q
  ·exact (hf b hb).2.1 q
  ·exact (hf b hb).2.2.1 q
 ·cases i with
  |zero=>cases e2
  |succ i=>
   have e1':ys[i]?=some y:=e1;obtain ⟨j,hj,hN,hX,hc⟩:=ok.at_ i y e1';have e2':(dv js σ)[i]?=some (some v):=e2;unfold dv at e2';rw[KA,hj] at e2';have hs:σ[j]?=some (some v):=by
    cases q:σ[j]? with
    |none=>rw[Option.map_some,q] at e2';cases e2'
    |some o=>rw[Option.map_some,q] at e2';exact e2'
   obtain ⟨m,hn,hl⟩:=I.loc;obtain ⟨u,r,l⟩:=hl j y v hN hs (hX.elim (λz=> .inr (.inl z)) λz=> .inr (.inr z))
   refine (u,r,.inr (hc,?_));rcases l with ⟨k,_⟩|⟨k,c,hcl,hcell⟩
   ·have k':X.env.scope.names.lookup y=some .local:=k;rcases hX with z|z<;>(rw[z] at k';cases k')
   ·have ex:∃c',cl.lookup y=some c':=by
     rcases hc with z|z
     ·sleep 91
     ·sleep 92
    obtain ⟨c',hc'⟩:=ex;have e:=sub y c' hc';rw[hcl] at e;cases e;obtain ⟨oc,hoc,hd⟩:=hcell;exact (c,hc',oc,hk _ _ hoc,hd)
 ·obtain ⟨v,oc,hoc,hd⟩:=I.cell y c (sub y c e);exact (v,oc,hk _ _ hoc,hd)
 ·show (none::dv js σ).length=(own::ys).length;simp[dv,ok.len]
theorem wx {H':Hp} {h':Heap} {σ':St} (I:aU X pins σ H s) (hf:∀b∈fp,i7 X pins H b) (J:aU (X.block scope cl 92 (own::ys) own fp s H) [] σ' H' s4) (hs:Heap.SameBut 92 s4.heap h'):
  aU X pins σ H' {s4 with heap:=h'}:=by
 have low:∀b o,s.heap.get? b=some o->b≠s.heap.objs.size:=λb o e=>Kf 449
 have B:=J.base;have u:Un (kO X.stack) fp H H' s.heap h':={
  keep:=λb o q n hb hx=>(hs.2 b (low b o q)).trans (B.keep b o q n hb hx)
  slot:=λb o q n hb hx=>by
   obtain ⟨sl,e⟩:=B.slot b o q n hb hx;exact (sl,(hs.2 b (low b o q)).trans e)
  free:=B.free
  there:=λb o q hx=>by
   obtain ⟨o',e⟩:=B.there b o q hx;exact (o',(hs.2 b (low b o q)).trans e)
  tups:=B.tups
  frzs:=B.frzs
  tbls:=B.tbls}
 have hn:H' 92=none:=J.free;have hk:ir X.prog X.w H' h':=λa o e=>(J.hok a o e).stay (λb v hb q=>(hs.2 b (by
  intro z;rcases hb with z'|z'
  ·rw[<-z',z,hn] at e;cases e
  ·rw[z,hn] at z';cases z')).trans q) (λ_ q=>q) λ_ _ q=>q
 exact I.call' (s':={s4 with heap:=h'}) (ch:=fp) J.os u hk J.bare λb hb=>⟨(hf b hb).2.2.2.1,(hf b hb).2.1,(hf b hb).2.2.2.2.1,(hf b hb).2.2.2.2.2⟩
universe z0
abbrev uW:=Nat->V->Hp->Prop
abbrev wy:=Nat->St->Hp->uW->Prop
def Jq (X:Cx) (pins:O4) (σ:St) (n:Nat) (Q:uW) (u:Value) (s':Shared):Prop:=∃m v H',n<=m/\m<=s'.toks/\aU X pins σ H' s'/\RelV v u/\Q m v H'
def ja (X:Cx) (e:Expr) (t:wy):Prop:=
 ∀(pins:O4) (s:Shared) (n:Nat) (σ:St) (H:Hp) (Q:uW),n<=s.toks->aU X pins σ H s->t n σ H Q->wpAny 106 X.A (eval e X.env) (Jq X pins σ n Q) X.xe s
theorem iq {α:Type} {M:Model} {A:Around} {E:O2} {s:Shared} {c:Sem α} {Q:α->Shared->Prop} {n:Nat} (hk:n<=s.toks) (h:wpAny M A c Q E s):wpAny M A c (λa s'=>n<=s'.toks/\Q a s') E s:=
 wpAny_mono (wpAny_toks_of hk h) (λ_ _ z=>z) λ_ _ z=>z.2
def pE (js:List Nat) (te:wy) (n0:Nat) (σ:St) (Q:uW):It->Hp->Prop:=λJ H1=>∀p,H1 p=none->∃W:Nat->Nat->Nat->List V->Hp->Prop,(∃m,W 0 m n0 [] (aR H1 p 123))/\
 ∀i m k ys H2,W i m k ys H2->H2 p=some 335/\((J.stop i H2/\Q k 237 H2)∨(J.go i H2/\ys.length<sizeLine/\∀x H3,J.yld i H2 x H3->te k (some x::dv js σ) H3 λk' y H4=>H4 p=some 335/\∃m',m'<m/\W 240 m' k' (ys++ [y]) (aR H4 p (.lst (ys++ [y])))))
section
variable {X:Cx} {scope:Scope} {cl:List (Str×Addr)} {own:Str} {ys:O6} {js:List Nat} {elt iter:Expr} {px pos:Pos} {wi:TI} {te:wy}
theorem mq (hc:X.calm=true) (ok:jj X scope cl own ys js) (hi:PI X 513 iter wi)
  (he:∀(C:Addr) (fp:O7) (s:Shared) (H:Hp),ja 187 elt te)
  (hs:∀x,foldedSetIterable iter X.env x=pure x)
  {pins:O4} {s:Shared} {σ:St} {H:Hp} {n0:Nat} {Q:uW} {use:Option (Value->Sem Unit)} {QQ:O2} {pp:Pos} (hn0:n0<=s.toks) (I:aU X pins σ H s) {R:It->Hp->Prop} (hR:∀J H1,R J H1->pE js te n0 σ Q J H1) (h:wi σ H R)
  (fin:∀(p C:Addr) (s6:Shared) (H5:Hp) (v:Flow),(∃m,s6.heap.Ns C m)->196->i7 X pins H5 C->(∃k,n0<=k/\k<=s6.toks/\Q k 237 H5)->compPost 106 X.A X.xe use QQ 237 C (.ok v) s6):
  wpAny 106 X.A 191 QQ X.xe s:=by
 have ncell:∀y∈scope.names,y.2≠ .cell:=λy hy z=>by
  have q:=KY.mp ok.nocell y hy;rw[z] at q;simp at q
 have nloc:∀y∈scope.names,y.2= .local->scope.names.lookup y.1=some .local:=λy hy z=>by
  have q:=KY.mp ok.loc y hy;rw[z] at q
  simpa using q
 refine wpAny_comprehension_free rfl hs ok.clos ok.kind nloc (bW (iq hn0 (hi pins s σ H _ I h)) λv s1 (kk1,h1)=>bW (iq kk1 h1) λitv s2 (kk2,h2)=>?_)
 obtain ⟨it,fp,tn,J,H2,rfl,I2,T,st2,f2,q2⟩:=h2;obtain ⟨W,⟨m0,w0⟩,turn⟩:=hR _ _ q2 s2.heap.objs.size (I2.hok.fresh 214);refine wpAny_newObj_type (wpAny_newFunctionEnv ncell (by intro y hy;simp at hy) (λh1 hns hsb=>?_) ok.kind)
 have I3:=I2.laid (a:=s2.heap.objs.size) (o:= .lst []) (h':=s2.heap.push 419) (t':=s2.toks) (λb u q=>95 _ q) 214
  ⟨LF _,[],0,.nil,126 _ rfl⟩
 have fpo:∀b∈fp,b<s2.heap.objs.size:=λb hb=>by
  obtain ⟨o,e,_⟩:=T.obj 0 _ st2 b hb;exact Heap.lt_size e
 have f3:∀b∈fp,i7 X pins 448 b:=λb hb=>(by rw[aB (Kf (fpo b hb))];exact (f2 b hb).1,(f2 b hb).2)
 generalize hs3:({s2 with heap:=s2.heap.push 419,toks:=s2.toks}:Shared)=s3 at I3
 have e3:s3.heap=s2.heap.push {cls:= .type "list",dict:=none,data:= .seq ([]:O8).toArray}:=by rw[<-hs3]
 have lt3:∀b∈fp,b<s3.heap.objs.size:=λb hb=>by rw[e3,Heap.size_push];exact Nat.lt_succ_of_lt (fpo b hb)
 dsimp only at hns hsb⊢;rw[<-e3] at hns hsb;have hk:∀b o,s3.heap.get? b=some o->h1.get? b=some o:=λb o e=>hsb.extBut b o (Kf 449) (Heap.get?_push_of_some _ e)
 have J0:=qX (h1:=h1) ok I3 f3 lt3 hns hk (s2.toks+0);have t0:tn 0 h1:=T.keep 0 _ _ st2 λb hb o e=>hk b o (by rw[e3];exact 95 _ e)
 have fpB:∀{H':Hp},(∀b∈fp,H' b=none)->∀b∈fp,i7 133 [] H' b:=λ{H'} hn b hb=>
  ⟨hn b hb,Kf (lt3 b hb),λz=>(K1.mp (I3.stkSub b z)).elim (f3 b hb).2.1 (f3 b hb).2.2.1,.inl hb,λx c e=>(f3 b hb).2.2.2.2.1 x c (ok.sub (x,c) (LP e)),λp hp=>absurd (show p∈([]:O4) from hp) 96⟩
 have loop:codeAny 106 X.A (.compLoop 130 0 (.ref it) 384 (compEnvC scope cl s3.heap.objs.size X.env))
   (compPost 106 X.A X.xe use QQ 384 s3.heap.objs.size) {s3 with heap:=h1,toks:=s2.toks+0}:=by
  refine pD (λn s'=>∃i k zs o0 H',n0<=k/\k<=s'.toks/\aU 133 [] (o0::dv js σ) H' s'/\tn i s'.heap/\(∀b∈fp,H' b=none)/\W i n k zs H') ?_ m0
   ⟨0,n0,[],none,_,K4 _,kk2,J0,t0,λb hb=>(f3 b hb).1,w0⟩
  rintro n s5 ⟨i,k,zs,o0,H5,l5,k5,I5,t5,n5,w5⟩;obtain ⟨hD,hw⟩:=turn i n k zs H5 w5;rcases hw with ⟨stop,qn⟩|⟨go,hz,step⟩
  ·refine bW (iq k5 (T.done 133 rfl rfl rfl hc i [] s5 _ H5 359 I5 (fpB n5) t5 stop)) λr s6 (k6,hr,I6)=>?_
   subst hr;obtain ⟨m,hn,_⟩:=id I6.loc;exact fin _ _ s6 H5 _ (m,hn) (λh' hs'=>wx I3 f3 I6 hs') (I3.fpOk 214 (show H5 s3.heap.objs.size=none from I6.free)) (k,l5,k6,qn)
  ·refine bW (iq k5 (T.item 133 rfl rfl rfl hc i [] s5 _ H5 359 I5 (fpB n5) t5 go)) λr s6 (k6,u,hr,h6)=>?_
   subst hr;refine bW (iq k6 h6) λ_ s7 (k7,x,H7,I7,r7,y7,t7,n7)=>?_
   have I7':=I7.pinned (fpB n7) (T.obj _ _ t7);have hst:=step x H7 y7;have own':(relabel scope X.env).names.lookup own=some .local:=lookup_relabel_local ok.ownL;refine bW (iq k7 (uF (X:=X.block scope cl s3.heap.objs.size (own::ys) own fp s3 448) (i:=0) (x:=own) (pos:=px) ok.nd rfl (.inl own') (.inr own') _ s7 _ H7 x u (λσ' H'=>σ'=some x::dv js σ/\H'=H7) I7' r7 153)) λ_ s8 (k8,σ8,H8,I8,e8,eH8)=>?_
   subst e8 eH8;refine bW (he _ _ _ _ _ s8 k _ H8 _ k8 I8 hst) λyv s9 (kn,y,H9,ln,k9,I9,r9,hD9,m',hm,w9)=>?_
   refine bW (iq k9 (b7 _ s9 _ H9 384 [y] 384 [yv] (λ_ H'=>H'=aR H9 s2.heap.objs.size (.lst (zs++ [y]))) I9 rfl (.cons r9 .nil) (_,zs,y,rfl,rfl,hD9,hz,rfl))) λ_ s10 (k10,_,H10,I10,_,e10)=>?_
   subst e10;refine (m',hm,i+1,kn,zs++ [y],some x,_,by lia,k10,I10.unpinned,T.keep _ _ _ t7 λb hb o e=>(I10.pin (b,o) 403).1,λb hb=>?_,w9)
   obtain ⟨o,e,d⟩:=T.obj _ _ t7 b hb;exact (I10.pin (b,o) 403).2.1
 subst hs3;exact codeAny_compStart_list loop (T.self _ 0 _ _ _ t0 loop)
universe z0
section
variable {X:Cx} {scope:Scope} {cl:List (Str×Addr)} {own:Str} {ys:O6} {js:List Nat} {elt iter:Expr} {px pos:Pos} {wi:TI} {te:TE}
theorem wz (hc:X.calm=true) (ok:jj X scope cl own ys js) (hi:PI X 513 iter wi)
  (he:∀(C:Addr) (fp:O7) (s:Shared) (H:Hp),PE 187 elt te)
  (hs:∀x,foldedSetIterable iter X.env x=pure x)
  {pins:O4} {s:Shared} {σ:St} {H:Hp} {Q:VK} {use:Option (Value->Sem Unit)} {QQ:O2} {pp:Pos} (I:aU X pins σ H s) (h:(Ck wi js te) σ H Q)
  (fin:∀(p C:Addr) (s6:Shared) (H5:Hp) (v:Flow),(∃m,s6.heap.Ns C m)->196->i7 X pins H5 C->Q 237 H5->compPost 106 X.A X.xe use QQ 237 C (.ok v) s6):
  wpAny 106 X.A 191 QQ X.xe s:=
 mq (te:=λn σ H Q=>te σ H (Q n)) (Q:=λ_=>Q) (n0:=0) hc ok hi (λC fp s H pins s1 n σ1 H1 Q1 hn I1 q=>bW (iq hn (he C fp s H pins s1 σ1 H1 (Q1 n) I1 q)) λ_ _ ⟨hk,v,H',I',r,q⟩=>⟨n,v,H',K4 _,hk,I',r,q⟩) hs (LF _) I (λJ H1 r p hp=>let ⟨W,h0,st⟩:=r p hp;⟨λi m _=>W i m,h0,λi m _=>st i m⟩) h λp C s6 H5 v hm hi' f ⟨_,_,_,q⟩=>fin p C s6 H5 v hm hi' f q
theorem lH (hc:X.calm=true) (ok:jj X scope cl own ys js) (hi:PI X 513 iter wi)
  (he:∀(C:Addr) (fp:O7) (s:Shared) (H:Hp),PE 187 elt te)
  (hs:∀x,foldedSetIterable iter X.env x=pure x:=by intro _;rfl):PE X 130 (Ck wi js te):=λpins s σ H Q I h=>by
 rw[eval_ListComp];exact wz hc ok hi he hs I h λp C s6 H5 v (m,hn) J _ q=>(m,hn,λh' hs'=>(.ref p,H5,J h' hs',rfl,q))
universe z0
open PySem.Builtin PySem.Builtin.ObjectAttr
structure XA (K:K0) (C S:Addr):Prop where
 sa:Kc K 119 "__setattr__" =some (some (.builtin "object.__setattr__"))
 mro:(PySem.W.clsIn K C).map (·.mro)=some (.ref C:: .ref S::At)
 dct:PySem.W.hasDictIn K C=true
 ob:PySem.W.mroIn K C (.type "object")=some true
theorem yt (self:Value) (C S:Addr):refuseLoop self "__setattr__" (.ref C:: .ref S::At)=pure ():=by
 rw[refuseLoop_ref,refuseLoop_ref]
 kernel_rfl
section
variable {prog:Program} {w:World} {A:Around} {E:O2} {s:Shared} {K:K0} {x C S:Addr} {ox:Obj} {od:Option Obj} {name:Str} {v:Value}
open PySem.W in
theorem AW {R:Result->Shared->Prop} {tk:Tok} (X:K.In s.heap) (I:InstAt s.heap x ox C od) (N:XA K C S) (hn:findIn K 119 name=some none)
  (h:wpAny 109 A.in1 (storeInOwnDict 558 119 (.str name tk) name v false) (λfin s'=>match fin with| .done f=>R (.ok f) s'| .again c'=>c'.quiet=true/\codeAny (model prog w) A c' R s') (λe s'=>R (.error e) s') s):
  codeAny 109 A (.call (.builtin "object.__setattr__") ⟨[.ref x,.str name tk,v],[]⟩) R s:=by
 have so:=PySem.F.store_object;obtain ⟨cd,hc,hm⟩:=KZ.mp N.mro;have sub:Looks 109 s.heap (isInstance 558 (.type "object")) true:=I.type.andThen (looks_mroIn X N.ob);have lm:Looks 109 s.heap (mroOf 119) cd.mro:=(looks_clsIn X hc).andThen .now;have ck:∀{A':Around} {Q':Unit->Shared->Prop} {E':O2},Q' () s->wpAny 109 A' (checkBuiltinCall "object.__setattr__" ⟨[.ref x,.str name tk,v],[]⟩) Q' E' s:=λ{A' Q' E'} q=>
  check_slot (M:=model prog w) (A:=A') (E:=E') (s:=s) (i:= "object.__setattr__") (owner:= "object") (n:= "__setattr__") (self:= .ref x) (rest:= [.str name tk,v]) (kw:= []) (Q:=Q') so.kind so.split sub (so.args 558 (.str name tk) v) q
 refine codeAny_call_builtin so.slot.plain so.entry (ck ?_);rw[osa_eq,refuse_eq];refine wpAny_bind (wpAny_bind (I.type.here ?_));refine wpAny_bind (lm.here ?_);rw[hm,yt];refine wpAny_pure 473;refine I.type.here 473;refine (looks_findIn X hn).here (wpAny_bind 394);exact h
open PySem.W in
theorem AX {vs:Array Value} {Q:Unit->Shared->Prop} (X:K.In s.heap) (he:s.heap.get? x=some ox) (hc:ox.cls= .ref C) (hdx:ox.dict=none) (hda:ox.data= .fields vs) (N:XA K C S) (hn:findIn K 119 name=some none)
  (h:∀h',(∀b o,b≠x->s.heap.get? b=some o->h'.get? b=some o)->h'.get? x=some {ox with dict:=some 92}->h'.Ns1 92 (λy=>if y=name then some v else none)->
   Q () {s with heap:=h',toks:=s.toks+2}):wpAny 109 A (setAttr 558 name v) Q E s:=by
 have I:InstAt s.heap x ox C none:=(he,hc,by unfold notCls;rw[hda],by rw[hdx];trivial)
 apply set_plain X I N.sa;have I2:InstAt ({s with toks:=s.toks+1}:Shared).heap x ox C none:=I
 apply AW (s:={s with toks:=s.toks+1}) X I2 N hn
 obtain ⟨cd,hcd,hd⟩:=any_some N.dct;obtain ⟨oc,odi,oda,osl⟩:=ox;dsimp only at hc hdx hda;subst hc hdx hda;refine wpAny_bind (wpAny_pure (wpAny_bind (wpAny_bind (wpAny_loadPart he ?_))));refine wpAny_bind (Looks.here (s:={s with toks:=s.toks+1}) (looks_clsIn X hcd) ?_)
 rw[hd];show wpAny _ _ (alloc 349>>=λd=>update x (λo=>{o with dict:=some d})>>=λ_=>dictMade 119 x d) _ _ _
 refine wpAny_bind (wpAny_alloc ?_);have lt:=Heap.lt_size he;have hne:x≠s.heap.objs.size:=Kf lt;have he1:=95 (h:=s.heap) 349 he;have e1:(s.heap.push Ki).get? 92=some Ki:=126 s.heap rfl;have e2:(s.heap.push Ki).Ns 92 (λ_=>none):=(Ki,#[],_,e1,rfl,(λe he=>absurd he 96),λ_=>rfl)
 refine wpAny_bind (wpAny_update he1 ?_);refine wpAny_pure ?_;have up:∀b,b≠x->((s.heap.push Ki).update x 315).get? b=(s.heap.push Ki).get? b:=λb hb=>Heap.get?_update_other _ _ 503
 have e3:((s.heap.push Ki).update x 315).Ns1 92 (λ_=>none):=(Heap.Ns1.of_empty e2).at λo q=>(up _ (Ne.symm hne)).trans q
 have e4:((s.heap.push Ki).update x 315).get? x=some ⟨.ref C,some 92,.fields vs,osl⟩:=Heap.get?_update_self _ he1 rfl
 refine wpAny_bind (wpAny_pure 473);refine wpAny_nsSet1 (s:=⟨(s.heap.push Ki).update x 315,s.gens,s.drawn,s.toks+1,s.os⟩) e3 λh' hn2 hs2=>?_
 obtain ⟨oD,esD,epD,hoD,hdD,hcD⟩:=hn2.count (ns:= [name]) (PySem.Within.cons (ns:= []) name v (λy hy=>absurd rfl hy))
 refine wpAny_bind (wpAny_lookBehind hoD (by rw[hdD];exact pastItsLine_dict (KC hcD (by show 1<=sizeLine+1;decide))) ?_)
 refine wpAny_pure (h h' (λb o hb q=>?_) ((hs2.2 x hne).trans e4) hn2)
 have hbd:b≠s.heap.objs.size:=Kf (Heap.lt_size q);exact (hs2.2 b hbd).trans ((up b hb).trans (95 _ q))
universe z0
def FC (K:K0) (ta tv:TE) (f:Str):TS:=λD σ H=>tv σ H λy H1=>ta σ H1 λx H2=>∃a C S n,x= .ref a/\H2 a=some 522/\XA K C S/\Kc K 119 f=some none/\
 ∀d,H2 d=none->D.nx σ (aR (aR H2 d 406) a (fw n a 119 138))
section
variable {X:Cx} {o value:Expr} {f:Str} {pos pos':Pos} {ta tv:TE}
theorem AY {pins:O4} {σ:St} {H:Hp} {s:Shared} {a C S:Addr} {y:V} {u:Value} {n:Bool} {A:Around} {E:O2} {Q:Unit->Shared->Prop} (I:aU X pins σ H s) (e:H a=some 522) (N:XA X.K C S)
  (hn:Kc X.K 119 f=some none) (ry:RelV y u) (h:∀d s',H d=none->aU X pins σ (aR (aR H d 406) a (fw n a 119 138)) s'->Q () s'):
  wpAny 106 A (setAttr 434 f u) Q E s:=by
 obtain ⟨⟨ox,vs,h1,h2,h3,h4,h6,h5⟩,_⟩:=(show cr X.prog X.w H s.heap a 522 from I.hok a _ e)
 refine AX I.kIn h1 h2 h3 h4 N hn λh' kp ha hd=>?_
 have nd:H 92=none:=I.hok.fresh 214;have ad:a≠s.heap.objs.size:=aT e nd;refine h 92 _ nd ?_;have ne:∀b o,H b=some o->b≠s.heap.objs.size:=λb o q=>aT q nd
 have nea:∀b,H b=none->b≠a:=λb q z=>by rw[z,e] at q;cases q
 refine I.un (t':=s.toks+2) (h':=h') (?_,?_,?_,?_,?_,?_,?_) ?_
 ·intro b o q n hb _;exact kp b o (nea b n) q
 ·intro b o q n hb _;exact (o.slots,kp b o (nea b n) q)
 ·intro b o q n _;rw[aB (nea b n),aB (Kf (Heap.lt_size q))];exact n
 ·intro b o q _
  by_cases hb:b=a
  ·subst hb;exact (_,ha)
  ·exact (o,kp b o hb q)
 ·intro b xs q;sleep 183
  rw[aB hb,aB (ne b _ q)];exact q
 ·intro b o' u' q;sleep 183
  rw[aB hb,aB (ne b _ q)];exact q
 ·intro b ps q;sleep 183
  exact (#[],by rw[aB hb,aB (ne b _ q),q];simp)
 ·intro b ob q
  by_cases hb:b=a
  ·subst hb;rw[ah] at q;cases q;exact pC ha h2 rfl h4 h6 h5
  ·rw[aB hb] at q
   by_cases hbd:b=92
   ·subst hbd;rw[ah] at q;cases q;refine (_,hd,λg=>?_)
    show oY (Lm g [(f,y)]) (if g=f then some u else none)
    by_cases hg:g=f
    ·subst hg;rw[if_pos rfl];simp only[Lm,beq_self_eq_true];exact ry
    ·rw[if_neg hg];have:(g==f)=false:=beq_eq_false_iff_ne.mpr hg;simp only[Lm,this]
     trivial
   ·rw[aB hbd] at q;refine (I.hok b ob q).stay (λc v hc z=>kp c v (λy=>?_) z) (λc z=>?_) λc xs z=>?_
    ·rcases hc with z'|z'
     ·exact hb (z'.symm.trans y)
     ·rw[y,e] at z';cases z'
    ·have hc:c≠a:=lU z e (by intro z;cases z)
     rw[aB hc,aB (ne c _ z)];exact z
    ·have hc:c≠a:=lU z e (by intro z;cases z)
     rw[aB hc,aB (ne c _ z)];exact z
universe z0
section
variable {X:Cx} {o e value:Expr} {f:Str} {pos pos':Pos} {ta tv:TE}
theorem pF {K:K0} (hK:X.K=K) (ha:PE X o ta) (hv:PE X value tv) (hs:swapsWith value (some (.Attribute o f pos')) pos.line X.env=pure false):PS X (.Assign [.Attribute o f pos'] value pos) (FC K ta tv f):=by
 subst hK;intro pins s σ H D I h;refine plainObj_wpAny_Assign_Attribute (bW (hv pins s σ H _ I h) λu s1 (y,H1,I1,ry,q)=>bW (ha pins s1 σ H1 _ I1 q) λov s2 (x,H2,I2,rx,a,C,S,nb,ex,ea,n,hn,q2)=>?_) hs
 subst ex;obtain rfl:ov=Value.ref a:=rx;exact AY I2 ea n hn ry λd s3 nd I3=>(σ,_,I3,q2 d nd)
structure XF (K:K0) (C:Addr) (f:Str):Prop where
 gg:XG K C
 dct:PySem.W.hasDictIn K C=true
 no:Kc K 119 f=some none
def FD (K:K0) (ta:TE) (f:Str):TE:=λσ H Q=>ta σ H λx H1=>∃a C d fs v n,x= .ref a/\H1 a=some (fw n a 119 138)/\H1 d=some (.xd fs)/\XF K C f/\fs.lookup f=some v/\Q v H1
theorem uX {K:K0} (hK:X.K=K) (he:PE X e ta) (hb:attributeBase e f X.env (eval e X.env)=eval e X.env):PE X (.Attribute e f pos) (FD K ta f):=by
 subst hK;sleep 117;refine uJ hb (bW 416 λov s1 (x,H1,I1,rx,a,C,d,fs,v,nb,ex,ea,ed,n,l,q)=>?_)
 subst ex;obtain rfl:ov=Value.ref a:=rx;obtain ⟨⟨ox,vs,h1,h2,h3,h4,_⟩,_⟩:=(show cr X.prog X.w H1 s1.heap a (fw nb a 119 138) from I1.hok a _ ea)
 obtain ⟨mA,ns,rel⟩:=(show cr X.prog X.w H1 s1.heap d (.xd fs) from I1.hok d _ ed)
 obtain ⟨od,hod,lk⟩:=nO ns;obtain ⟨u,hu,ru⟩:=oY.some_of (v:=v) (o:=mA f) (by rw[<-l];exact rel f)
 have J:PySem.W.InstAt s1.heap a ox C (some od):=(h1,h2,by unfold PySem.W.notCls;rw[h4],by rw[h3];exact hod)
 have KX:=I1.kIn;have I2:=I1.tok (s1.toks+1);obtain ⟨hh,g,dr,t,os⟩:=s1;unfold getAttr;refine wpAny_bind (wpAny_mkText (yq (h:=hh) KX J n.gg λA'=>kZ KX J (PySem.W.findObj_own n.dct n.no rfl (by rw[lk,hu])) ?_))
 exact PySem.W.handed_on (nP ru) (v,H1,I2,ru,q)
universe z0
theorem AZ {K:K0} {h:Heap} {N:Addr} {mg:O3} {n:Str} {v:Value} (X:K.In h) (G:h.Ns N mg) (e:KG K N n=some (some v)):mg n=some v:=by
 obtain ⟨o,es,ep,ho,hd,_,hf⟩:=G;unfold KG at e
 split at e
 ·rename_i q;have z:=X _ _ q;rw[ho] at z;cases z;cases hd
  split at e
  ·rename_i he;cases e;rw[<-hf];unfold nsFind findBy;rw[<-Array.find?_toList,he]
   rfl
  ·split at e<;>cases e
 ·cases e
structure E5 (K:K0) (C f:Addr):Prop where
 ex:∃bm N nm q bs hdct sn sub ab col dd k0 k1 k2 k3 k5,K.lookup C=some 176/\PySem.W.nsOkIn K N=true/\KG K N "__init__" =some (some 226)/\PySem.W.tailIn K At bm=true
 fn:PySem.W.typeIn K 226=some (.type "function")
 kp:Kn K 119=true
section
variable {prog:Program} {w:World} {A:Around} {E:O2} {h:Heap} {g:Array GenState} {d:Drawn} {t:Nat} {os:OsState}
variable {nm q:Str} {C N:Addr} {bs bm:O8} {hdct:Bool} {sn:O6} {sub:O8} {ab:Bool} {col:Option Bool} {dd:O9} {k0 k1 k2 k3 k5:Pa}
theorem mr {mN:O3} {rest:O8} {fI:Addr} {oI:Obj} {Q:Fin->Shared->Prop} (tl:OwnTail h At bm)
  (cl:h.get? C=some 176) (nn:h.Ns N mN) (ni:mN "__init__" =some (.ref fI)) (gI:h.get? fI=some oI) (cI:oI.cls= .type "function")
  (kq:∀h' e,Heap.MadeExcOf h h' e 119 rest->wpAny 109 A (call (.ref fI) (.ref e::rest)) (λr s'=>r= .none/\Q (.done (.ret 256)) s') E ⟨h',g,d,t,os⟩) (lr:rest.length<=sizeLine):
  wpAny 109 A (Builtin.«type.__call__» ⟨.ref C::rest,[]⟩) Q E ⟨h,g,d,t,os⟩:=by
 have FV:=PySem.F.excBase_ValueError
 repeat (first|with_reducible refine wpAny_loadPart_at cl ?_|with_reducible refine wpAny_madeBy_exc cl ?_|wp_step)
 refine codeAny_call_builtin_code (Code.quiet_builtin _ FV.quiet) (wpAny_check_new_subT FV tl cl ?_);refine codeAny_exc_new_subT FV tl cl ?_ lr;show wpAny _ _ _ _ _ _;generalize hp:(h.push {cls:= .type "tuple",data:= .seq rest.toArray}).push {cls:= .ref C,data:= .fields #[.ref h.objs.size,.none,.none,.none,.bool false,.none]}=h2;have kp:∀b o,h.get? b=some o->h2.get? b=some o:=λb o z=>by rw[<-hp];exact 95 _ (95 _ z)
 have ge:h2.get? (h.objs.size+1)=some {cls:= .ref C,data:= .fields #[.ref h.objs.size,.none,.none,.none,.bool false,.none]}:=by rw[<-hp];heap_get
 have gt:h2.get? h.objs.size=some {cls:= .type "tuple",data:= .seq rest.toArray}:=by rw[<-hp];exact 95 _ (Heap.get?_push_at rfl rfl)
 have cl2:=kp _ _ cl;have nn2:h2.Ns N mN:=nn.keeps kp;have self:(Value.ref C::bm).contains 119=true:=by simp
 unfold isInstance
 repeat (first|with_reducible refine wpAny_loadPart_at ge ?_|(with_reducible refine wpAny_isSubtype_exc cl2 ?_;rw[self])|wp_step)
 show wpAny _ _ (typeLookup 119 _) _ _ _;refine wpAny_typeLookup_tail cl2 nn2 (tl.keeps kp) FV.mroIs FV.init.lookup ?_;rw[ni];refine wpAny_holding 473;unfold bindSpecial;refine wpAny_bind (wpAny_typeOf (T:= "function") (_,kp _ _ gI,cI) ?_);rw[if_pos 45]
 refine wpAny_pure 473;refine wpAny_mono (kq h2 (h.objs.size+1) (kp,Heap.get?_none_of_le (Nat.le_succ _),h.objs.size,ge,Heap.get?_none_of_le 214,gt)) (λr s' hr=>?_) λ_ _ z=>z
 obtain ⟨rfl,z⟩:=hr
 wp_walk
 exact z
theorem wA {mN:O3} {rest:O8} {fI:Addr} {oI:Obj} {Q:O2} (tl:OwnTail h At bm)
  (cl:h.get? C=some 176) (nn:h.Ns N mN) (ni:mN "__init__" =some (.ref fI)) (gI:h.get? fI=some oI) (cI:oI.cls= .type "function")
  (kq:∀h' e,Heap.MadeExcOf h h' e 119 rest->wpAny 109 (A.under (.builtin "type.__call__" ⟨.ref C::rest,[]⟩)) (call (.ref fI) (.ref e::rest)) (λr s'=>r= .none/\Q 256 s') E ⟨h',g,d,t,os⟩) (lr:rest.length<=sizeLine):
  wpAny 109 A (call 119 rest) Q E ⟨h,g,d,t,os⟩:=by
 have a1:=tc_lookup;have a2:=tc_bind 119;have ty:(⟨h,g,d,t,os⟩:Shared).TypeIs 119 "type" :=(_,cl,rfl);refine wpAny_call (codeAny_of_tree ?_);show wpAny _ _ (callAny 119 _) _ _ _
 repeat (any_goals (first|assumption|with_reducible refine wpAny_loadPart_at cl ?_|wp_step))
 exists rfl;refine codeAny_call_builtin_at (Code.quiet_builtin _ 38) entry_typeCall (wpAny_check_type_call_sub cl ?_)
 exact mr tl cl nn ni gI cI (λh' e mk=>kq h' e mk) lr
universe z0
section
variable {X:Cx} {x:Str} {p pos:Pos} {e:Expr} {es:List Expr} {C fI:Addr} {t:TA} {k:Nat} {fd:FuncData} {ps:O6} {sp:Sp}
theorem yu {pins:O4} {σ:St} {H:Hp} {s:Shared} {Q:O2} {us:O8} {vs:List V} {E:O2} {R:Addr->Hp->Prop} (M:E5 X.K C fI) (F:bB X.prog X.w X.K X.mg X.base bX k fI fd ps sp) (hr:cx 446 X.A) (hb:Binds X.K fd ps [])
  (I:aU X pins σ H s) (r:bj vs us) (lr:vs.length<=sizeLine) (h:∀a,H a=none->sp (.ref a::vs) (aR H a 351) (λv H2=>v= .non/\R a H2) E0)
  (hq:∀a h' H2 s2,Heap.MadeExcOf s.heap h' a 119 us->s2.os=s.os->AllBare s2.gens->Un (kO X.stack) [] H H2 s.heap s2.heap->ir X.prog X.w H2 s2.heap->R a H2->Q 434 s2):
  wpAny 106 X.A (call 119 us) Q E s:=by
 sleep 154;have KX:=I.kIn;have lr':us.length<=sizeLine:=by rw[<-r.length];exact lr
 have fn:=M.fn;unfold PySem.W.typeIn at fn;obtain ⟨oI,gI,cI⟩:=KZ.mp fn;have nn:s.heap.Ns N (s.heap.nsMap N):= .of_isNs (PySem.W.isNs_of_in KX ok);have key:=λh' a (mk:Heap.MadeExcOf s.heap h' a (.ref C) us)=>(uS I mk).caughtN I
 have un:=λh' a (mk:Heap.MadeExcOf s.heap h' a (.ref C) us)=>mh (o:=fw true a 119 none) (Un.kept (fs:=kO X.stack) (ex:= []) (H:=H) mk.keeps) mk.new (I.hok.none_of mk.new)
 obtain ⟨hh,g,d,tk,os⟩:=s;refine wA (PySem.W.tail_of_in KX tl) (KX _ _ lk) nn (AZ KX nn ini) (KX _ _ gI) cI (λh' a mk=>?_) lr'
 have I2:=key h' a mk;have na:H a=none:=I.hok.none_of mk.new;have hs:=h a na;have r2:bj (V.ref a::vs) (Value.ref a::us):= .cons rfl r;have hl:(Value.ref a::us++ []).length=ps.length:=by
  rw[Ke,<-r2.length];exact F.len _ _ _ _ hs
 have hb':=hb (h',g,d,tk,os) (Value.ref a::us) I2.kIn hl;rw[Ke] at hb';refine wpAny_call (codeAny_mono (F.run _ X.stack _ _ (Value.ref a::us,[]) (Value.ref a::us) _ _ E0 (hr.make C us []) (I2.env0.make C us []) hb' r2 hs) λrr s' hq'=>?_)
 cases rr with
 |error z=>exact hq'.elim
 |ok fl=>
  cases fl with
  |ret u=>
   obtain ⟨v,H2,os',bare,un2,hok,rv,ev,q2⟩:=hq';subst ev;exact (rv,hq a h' H2 s' mk os' bare ((un h' a mk).trans un2) hok q2)
  |next=>exact False.elim hq'
  |brk=>exact False.elim hq'
  |cont=>exact False.elim hq'
universe z0
section
variable {M:Model} {A:Around} {E:O2} {env:Env}
variable {nm q:Str} {C N:Addr} {bs bm:O8} {hdct:Bool} {sn:O6} {sub:O8} {ab:Bool} {col:Option Bool} {dd:O9} {k0 k1 k2 k3 k5:Pa} {nw:String}
theorem wB {s:Shared} {x:Sem Value} {Q:Flow->Shared->Prop} (hb:bm.contains 254=true) (hh:A.handled=none)
  (h:wpAny M A x (λv s1=>∃e dx ws sl,v= .ref e/\s1.heap.get? C=some (excClassObj nm q C N bs bm hdct sn sub ab col dd k0 k1 k2 k3 k5 nw)/\s1.heap.get? e=some ⟨.ref C,dx,.fields ws,sl⟩/\ws[1]?=some .none/\E 256 s1) E s):
  wpAny M A (raiseStmt env (some x) none) Q E s:=by
 have cb:(Value.ref C::bm).contains 254=true:=by rw[List.contains_cons,hb,Bool.or_true]
 unfold raiseStmt;sleep 50;refine wpAny_mono h (λv s1 h1=>?_) λ_ _ z=>z
 obtain ⟨e,dx,ws,sl,rfl,cl,ge,n1,he⟩:=h1;obtain ⟨hp,g,d,tk,os⟩:=s1
 repeat (first|with_reducible refine wpAny_loadPart_at ge ?_|with_reducible refine wpAny_loadPart_at cl ?_|(with_reducible refine wpAny_isSubtype_exc cl ?_;rw[cb])|wp_step)
 rw[n1];refine wpAny_pure ?_;rw[if_neg 45]
 exact wpAny_pure (wpAny_raiseNew_none hh he)
universe z0
noncomputable def del (H:Hp) (a:Addr):Hp:=λb=>if b=a then none else H b
theorem hJ {H:Hp} {a b:Addr} (h:b≠a):del H a b=H b:=if_neg h
theorem ms {H:Hp} {a:Addr}:del H a a=none:=if_pos rfl
theorem C9 {fs:O7} {H H2:Hp} {h0 h:Heap} {a:Addr} (u:Un fs [] H H2 h0 h) (na:H a=none):Un fs [] H (del H2 a) h0 h where
 keep:=u.keep
 slot:=u.slot
 free:=λb o q n hx=>by
  by_cases hb:b=a
  ·rw[hb,ms]
  ·rw[hJ hb];exact u.free b o q n hx
 there:=u.there
 tups:=λb xs e=>by rw[hJ (aT e na)];exact u.tups b xs e
 frzs:=λb o w e=>by rw[hJ (aT e na)];exact u.frzs b o w e
 tbls:=λb ps e=>by rw[hJ (aT e na)];exact u.tbls b ps e
theorem A0 {P:Program} {w:World} {H:Hp} {h:Heap} {a:Addr} {φ:Heap->Prop} (k:ir P w H h) (e:H a=some (.ext φ)):ir P w (del H a) h:=λb o q=>by
 by_cases hb:b=a
 ·rw[hb,ms] at q;cases q
 ·rw[hJ hb] at q;refine (k b o q).stay (λc v _ z=>z) (λc z=>?_) λc xs z=>?_
  ·rw[hJ (lU z e (by intro y;cases y))];exact z
  ·rw[hJ (lU z e (by intro y;cases y))];exact z
def uY (C:Addr) (sp:Sp) (E:St->XK) (t:TA):TS:=λ_ σ H=>t σ H λvs H1=>vs.length<=sizeLine/\∀a,H1 a=none->sp (.ref a::vs) (aR H1 a 351) (λv H2=>v= .non/\∃d,H2 a=some 378/\E σ 119 138 (del H2 a)) E0
section
variable {X:Cx} {x:Str} {np cpos pos:Pos} {e₀:Expr} {rest:List Expr} {C fI:Addr} {t:TA} {k:Nat} {fd:FuncData} {ps:O6} {sp:Sp} {E:St->XK}
theorem wC (M:E5 X.K C fI) (F:bB X.prog X.w X.K X.mg X.base bX k fI fd ps sp) (hr:cx 446 X.A) (hg:Gl X x) (hm:X.mg x=some 119) (hb:Binds X.K fd ps []) (hc:X.calm=true) (hp:mf X E) (ha:PA X (e₀::rest) t) (hd:116=false:=by decide)
  (he:starEach (e₀::rest) X.env=(false,eval e₀ X.env)::starEach rest X.env:=by rfl) (hpl:(backTo cpos (starEach rest X.env)).any 182=false:=by rfl):
  PS X (.Raise (some 326) none pos) (uY C sp E t):=by
 intro pins s σ H D I h;sleep 154;have bb:bm.contains 254=true:=(PySem.W.tail_of_in I.kIn tl).hasType PySem.F.excBase_ValueError.hasBase;have body:wpAny 106 X.A (eval 326 X.env) (λv s1=>∃e dx ws sl,v= .ref e/\s1.heap.get? C=some (excClassObj nm qn C N bs bm hdct sn sub ab col dd k0 k1 k2 k3 k5 "ValueError.__new__")/\s1.heap.get? e=some ⟨.ref C,dx,.fields ws,sl⟩/\ws[1]?=some .none/\X.xe 256 s1) X.xe s:=by
  refine wpAny_Call_Name_kw (dQ I hg hm ?_ hd);refine Lb (h₀:=X.base) I.ok.mod.kin M.kp (bW (ha cpos pins s σ H _ I h) λus s1 (vs,H1,I1,r,lr,q)=>(I1.kIn,?_)) he hpl
  refine yu M F hr hb I1 r lr q λa h' H2 s2 mk os bare un hok q2=>?_
  obtain ⟨d,ed,hE⟩:=q2;have I2:=I1.call' os un hok bare (λb z=>absurd z 96)
  obtain ⟨⟨ox,ws,g1,g2,g3,g4,g6,g5⟩,_⟩:=(show cr X.prog X.w H2 s2.heap a 378 from hok a _ ed)
  have na:=I1.hok.none_of mk.new;obtain ⟨oc,odx,oda,osl⟩:=ox;dsimp only at g2 g3 g4;subst g2 g3 g4;refine (a,some d,ws,osl,rfl,I2.kIn _ _ lk,g1,(g5 rfl).2,hp pins σ H1 s1 _ _ I1 (a,del H2 a,.ref C,some d,.new,rfl,(os,bare,C9 un na,A0 hok ed,((_,ws,g1,rfl,rfl,rfl,((g5 rfl).1,g6),(g5 rfl).2),mk.new,ms)),hE))
 rw[arm_exec_Raise];sleep 50;apply wpAny_standAt;refine wB (C:=C) (nm:=nm) (q:=qn) (N:=N) (bs:=bs) (bm:=bm) (hdct:=hdct) (sn:=sn) (sub:=sub) (ab:=ab) (col:=col) (dd:=dd) (k0:=k0) (k1:=k1) (k2:=k2) (k3:=k3) (k5:=k5) (nw:= "ValueError.__new__") bb 307 ?_;sleep 50;refine wpAny_mono body (λv s1 h1=>?_) λ_ _ z=>z
 sleep 50;apply wpAny_standAt;exact wpAny_pure h1
universe z0
def FE (K:K0) (C':Addr) (i:Nat) (t:Addr->TS) (r:TH):TH:=λD σ cls dx H a=>∃C b,cls= .ref C/\LC K 119 534=some b/\
 if b=true then t a (FA i D) (σ.set i (some 434)) (aR H a (gK a cls dx)) else r D σ cls dx H a
section
variable {X:Cx} {x n:Str} {np pos:Pos} {b0:Stmt} {suite:List Stmt} {rest:List ExceptHandler} {i:Nat} {C':Addr} {tA:Addr->TS} {th:TH}
theorem Da (T:XT X.K C') (hg:Gl X x) (hm:X.mg x=some 534) (hN:X.N.Nodup) (hi:X.N[i]?=some n) (hloc:X.env.scope.names.lookup n=some .local)
  (hs:∀(pins:O4) (a:Addr),lE 373 (b0::suite) (tA a)) (hrest:PH X rest th) (hd:116=false:=by decide):
  PH X (.ExceptHandler (some (.Name x np)) (some n) (b0::suite) pos::rest) (FE X.K C' i tA th):=by
 sleep 58
 sleep 56
 sleep 194;cases b with
 |false=>exact hrest pins σ H0 s0 D a H' _ v dx _ I c h
 |true=>
  refine codeAny_handlers_suite_as ?_;refine c.flight I.stack I.stkFree λs2 c2=>?_
  have J2:=(c2.caught I).insuite a;refine jD (X:=X.suite pins a) (v:=V.ref a) J2 hN hi (.inl hloc) (show RelV (V.ref a) (Value.ref a) from rfl) (λs3 I3=>?_) (.inr hloc)
  refine wpAny_mono (hs pins a [] s3 _ _ _ I3 h) (λf s4 q=>?_) λ_ _ z=>z.elim
  exact AV I.ok hN hi hloc q
universe z0
structure fH (hd:Pa) (k:Nat) (A:Around):Prop where
 hd:A.handled=hd
 dp:A.depth+3*k+5<recursionLimit
 un:A.units+16*k+200<cLine
theorem fH.mono {hd:Pa} {j k:Nat} {A:Around} (r:fH hd k A) (h:j<=k):fH hd j A:=(r.hd,by have:=r.dp;lia,by have:=r.un;lia)
theorem fH.deeper {hd:Pa} {k:Nat} {A:Around} (r:fH hd 446 A) (env:Env):fH hd k (A.deeper env):=
 ⟨r.hd,by have:=r.dp;show A.depth+1+3*k+5<_;lia,by have:=r.un;show A.units+3+16*k+200<_;lia⟩
theorem fH.depth {hd:Pa} {k:Nat} {A:Around} (r:fH hd k A):A.depth<recursionLimit:=by have:=r.dp;lia
theorem cx.h {k:Nat} {A:Around} (r:cx k A):fH none k A:=(r.hd,r.dp,r.un)
theorem cx.suite {k:Nat} {A:Around} (r:cx k A) (v:Value):fH (some v) k (A.mark (some v)):=(rfl,r.dp,r.un)
structure Cl (hd:Pa) (P:Program) (w:World) (K:K0) (mg:O3) (base:Heap) (k:Nat) (f:Addr) (fd:FuncData) (ps:O6) (sp:Sp):Prop where
 len:∀vs H Q E,sp vs H Q E->vs.length=ps.length
 run:∀(A:Around) (outer:List Env) (s:Shared) (H:Hp) (args:Args) (us:O8) (vs:List V) (Q:VK) (E:XK),fH hd k A->lZ P w K mg base A outer s H->BindsTo s fd args 545->bj vs us->sp vs H Q E->
  codeAny (model P w) A (.call 226 args) (CR bX outer P w H s Q E) s
section
variable {P:Program} {w:World} {K:K0} {mg:O3} {base:Heap} {hd:Pa}
theorem Cl.calm {k:Nat} {f:Addr} {fd:FuncData} {ps:O6} {sp:Sp} (F:Cl none P w K mg base k f fd ps sp):564 bX k f fd ps sp:=
 ⟨F.len,λA outer s H args us vs Q E hr=>F.run A outer s H args us vs Q E hr.h⟩
noncomputable def Db (hd:Pa) (P:Program) (w:World) (K:K0) (mg:O3) (base:Heap) (N:O6) (qual:Str) (scope:Scope) (f:Addr) (cd:Value) (A:Around) (outer:List Env) (s:Shared) (H:Hp) (E:XK):Cx:=
 {ip bX P w K mg base N qual scope f cd A outer s H E with calm:=hd.isNone}
theorem tq {N ps:O6} {qual:Str} {scope:Scope} {f:Addr} {cd:Value} {A:Around} {outer:List Env} {s s1:Shared} {H:Hp} {E:XK} {us:O8} {vs:List V}
  (S:aK N ps scope) (hA:A.handled=hd) (e0:lZ P w K mg base A outer s H) (hl:vs.length=ps.length) (r:bj vs us)
  (x:InCallC s 92 (bindL (envOfC qual scope 92 f cd).kindOf 545 λ_=>none) (cellsFrom (92+1) scope.names []) (bindC (envOfC qual scope 92 f cd).kindOf 545 λ_=>none) s1):
  aU (Db hd P w K mg base N qual scope f cd A outer s H E) [] 238 H s1:=by
 have e0':lZ P w K mg base {A with handled:=none} outer s H:=(e0.frames,e0.mod,e0.bs,e0.bsz,e0.funs,e0.frf,e0.hok,e0.bare)
 have I:=kx (CX:=bX) (E:=E) S (A:={A with handled:=none}) rfl e0' hl r x
 have hh:(Db hd P w K mg base N qual scope f cd A outer s H E).calm=true->(Db hd P w K mg base N qual scope f cd A outer s H E).A.handled=none:=λz=>by
  cases hd with
  |none=>exact hA
  |some v=>cases (show false=true from z)
 exact ⟨(I.ok.mod,I.ok.kind,I.ok.glob,I.ok.blt,I.ok.above,I.ok.inj,I.ok.has,I.ok.cab,hh,I.ok.frames,I.ok.stk,I.ok.exf,I.ok.bs,I.ok.bsz,I.ok.noex,I.ok.exfs,I.ok.funs,I.ok.frf),
  I.os,I.bare,I.base,I.loc,I.cell,I.free,I.freeC,I.pin,I.hok,I.len⟩
theorem Dc {k:Nat} {f:Addr} {name qual:Str} {params:Arguments} {body:List Stmt} {scope:Scope} {dV kV doc pm cdv ct oc:Value} {an od:O9}
  {osl:O5} {N ps:O6} {sp:Sp} (lk:K.lookup f=some 507) (hcd:LO K cdv qual=true) (S:aK N ps scope)
  (len:∀vs H Q E,sp vs H Q E->vs.length=ps.length)
  (hbody:∀(A:Around) (outer:List Env) (s:Shared) (H:Hp) (vs:List V) (Q:VK) (E:XK),fH hd k 333->sp vs H Q E->
   ∃t,lE 249 body t/\t 245 238 H):
  Cl hd P w K mg base 446 f 131 ps sp:=by
 refine (len,λA outer s H args us vs Q E hr e0 hb r hsp=>?_)
 sleep 144
 sleep 201
 have hkind:∀y∈ps.zip us,scope.names.lookup y.1=some .local∨(scope.names.lookup y.1=some .cell/\((cellsFrom (92+1) scope.names []).lookup y.1).isSome=true):=λ⟨n,v⟩ hy=>by
  rcases S.par n (List.of_mem_zip hy).1 with q|q
  ·exact .inl q
  ·exact .inr (q,PySem.W.cellsFrom_some _ _ _ (.inl q))
 sleep 96;refine wpAny_newFunctionEnv_cells S.kind hkind λenv he s1 x=>?_
 subst he;refine 547;obtain ⟨t,ht,hq⟩:=hbody A outer s H vs Q E (hr.deeper _) hsp;have I:aU 249 [] 238 H s1:=tq S hr.hd e0 hl r x;refine wpAny_mono (ht [] s1 238 H _ I hq) (λfl s' hs=>?_) λe s' hs=>hs
 have fin:∀{σ':St} {H':Hp} {v:V} {u:Value},aU 249 [] σ' H' s'->RelV v u->Q v H'->CE outer P w H s Q u s':=
  λ{σ' H' v u} J rv q=>⟨v,H',J.os,J.bare,J.base,J.hok,rv,q⟩
 cases fl with
 |ret u=>
  obtain ⟨v,σ',H',J,rv,q⟩:=hs;exact fin J rv q
 |next=>
  obtain ⟨σ',H',J,q⟩:=hs;exact fin (v:=V.non) (u:=Value.none) J rfl q
 |brk=>
  obtain ⟨_,_,_,q⟩:=hs;exact False.elim q
 |cont=>
  obtain ⟨_,_,_,q⟩:=hs;exact False.elim q
universe z0
section
variable {X:Cx} {k:Nat} {f:Addr} {fd:FuncData} {ps:O6} {sp:Sp} {dvs:List V} {ds:O8} {x:Str} {p pos:Pos} {e:Expr} {es:List Expr} {t:TA} {hd:Pa}
theorem A1 {pins:O4} {σ:St} {H:Hp} {s:Shared} {Q:VK} {us:O8} {vs:List V} (F:Cl hd X.prog X.w X.K X.mg X.base k f fd ps sp) (hr:fH hd k X.A) (hb:Binds X.K fd ps ds) (hv:bj dvs ds)
  (I:aU X pins σ H s) (r:bj vs us) (h:sp (vs++dvs) H Q E0):wpAny 106 X.A (call 226 us) 278 X.xe s:=by
 have r2:bj (vs++dvs) (us++ds):=r.append hv;sleep 186
 refine wpAny_call (codeAny_mono (F.run X.A X.stack s H (us,[]) (us++ds) (vs++dvs) Q E0 hr I.env0 (hb s us I.kIn hl) r2 h) λr s' hq=>?_)
 cases r with
 |error e=>exact False.elim hq
 |ok fl=>
  cases fl with
  |ret u=>exact I.after hq
  |next=>exact False.elim hq
  |brk=>exact False.elim hq
  |cont=>exact False.elim hq
theorem yw (F:Cl hd X.prog X.w X.K X.mg X.base k f fd ps sp) (hr:fH hd k X.A) (hg:Gl X x) (hm:X.mg x=some 226) (hk:Kn X.K 226=true) (hb:Binds X.K fd ps ds) (hv:bj dvs ds)
  (ha:PA X (e::es) t) (hdb:116=false:=by decide) (he:starEach (e::es) X.env=(false,eval e X.env)::starEach es X.env:=by rfl) (hpl:(backTo pos 137).any 182=false:=by rfl):
  PE X 134 (jG sp dvs E0 t):=by
 sleep 37
 exact A1 F hr hb hv I1 r q
universe z0
universe L2
namespace Sw
open PySem L2 XH
structure Dx (P:Program) (w:World) (K:K0) (mg:O3) (base:Heap) (CX:sW) (k:Nat) (x:Str) (ps:O6) (dvs:List V) (sp:Sp) where
 f:Addr
 fd:FuncData
 ok:bB P w K mg base CX k f fd ps sp
 m:mg x=some 226
 q:Kn K 226=true
 b:Binds K fd ps []
 bd:∃ds,Binds K fd ps ds/\bj dvs ds
noncomputable def Dx.calm {P:Program} {w:World} {K:K0} {mg:O3} {base:Heap} {k:Nat} {x:Str} {ps:O6} {dvs:List V} {sp sp0:Sp} (D:Dx P w K mg base 152 k x ps dvs sp) (h:∀vs H Q E,sp0 vs H Q E->sp vs H Q E0):Dx P w K mg base bX k x ps dvs sp0:=
 ⟨D.f,D.fd,D.ok.noraise h,D.m,D.q,D.b,D.bd⟩
section
variable {X:Cx} {k j:Nat} {x:Str} {ps:O6} {sp:Sp} {p pos:Pos} {e:Expr} {es:List Expr} {t:TA} {dvs:List V} {E:St->XK}
theorem Dd (D:Dx X.prog X.w X.K X.mg X.base bX k x ps dvs sp) (hr:cx j X.A) (hk:k<=j) (hg:Gl X x) (ha:PA X (e::es) t) (hdb:116=false:=by decide)
  (he:starEach (e::es) X.env=(false,eval e X.env)::starEach es X.env:=by rfl) (hpl:(backTo pos 137).any 182=false:=by rfl):
  PE X 134 (jG sp [] E0 t):=
 AH D.ok 381 hg D.m D.q D.b .nil qR ha hdb he hpl
theorem cM (D:Dx X.prog X.w X.K X.mg X.base (fT X.prog X.w) k x ps dvs sp) (hr:cx j X.A) (hk:k<=j) (hg:Gl X x) (hx:mf X E) (ha:PA X (e::es) t) (hdb:116=false:=by decide)
  (he:starEach (e::es) X.env=(false,eval e X.env)::starEach es X.env:=by rfl) (hpl:(backTo pos 137).any 182=false:=by rfl):
  PE X 134 (yj sp [] E t):=
 yk D.ok 381 hg D.m D.q D.b .nil hx ha hdb he hpl
universe z0
theorem bG.okX {P:Program} {w:World} {K:K0} {mg:O3} {base:Heap} {x qual:Str} {st:Stmt} {dV:Value} {f:Addr} {fd:FuncData} {N ps:O6} {k:Nat} {sp:Sp} (F:bG K x qual st dV f fd) (S:aK N ps 353) (len:∀vs H Q E,sp vs H Q E->vs.length=ps.length)
  (hbody:∀(cdv:Value) (A:Around) (outer:List Env) (s:Shared) (H:Hp) (vs:List V) (Q:VK) (E:XK),cx k 250->sp vs H Q E->
   ∃t,lE ((ip 152 P w K mg base N qual 353 f cdv A outer s H E).wish (XS (ip 152 P w K mg base N qual 353 f cdv A outer s H E) λ_=>E)) (cK st) t/\t 245 238 H):bB P w K mg base 152 446 f fd ps sp:=by
 sleep 20;exact C6 lk hcd S len λA outer s H vs Q E hr hsp=>hbody cdv A outer s H vs Q E hr hsp
universe Sw
namespace L2
open PySem PySem.Spec PyProof.Rows XH
theorem ky {X:Cx} {K:K0} (hK:X.K=K):fV X 222 (λxs H Q=>∃x t T b,xs= [x,.ty T]/\jh K H x t/\K2 K t (.type T)=some b/\Q (.bl b) H):=by
 subst hK;sleep 23;obtain ⟨x,t,T,b,rfl,ty,e,q⟩:=h;sleep 133;cases e2;exact wp I e1 ty e λtk=>(.bl b,H,I.tok tk,rfl,q)
universe L2
namespace Sw
open PySem L2 XH
universe Sw
namespace L2
open PySem PySem.Spec PyProof.Rows XH
def Hx:V->Prop
 | .bl _=>True
 | .int _=>True
 | .str _=>True
 | .non=>True
 |_=>False
theorem qY {A:Around} {s:Shared} {v:V} {u w:Value} (h:Hx v) (r1:RelV v u) (r2:RelV v w):SeqAt.EqAt A s u w true:=by
 cases v with
 |bl b=>
  cases r1;cases r2;have z:=SeqAt.EqAt.bool_bool (A:=A) (s:=s) b b;rw[beq_self_eq_true] at z;exact z
 |int i=>
  sleep 61;obtain ⟨t',rfl⟩:=r2;have z:=SeqAt.EqAt.int_int (A:=A) (s:=s) i t i t';rw[beq_self_eq_true] at z;exact z
 |str i=>
  sleep 61;obtain ⟨t',rfl⟩:=r2;have z:=SeqAt.EqAt.str_str (A:=A) (s:=s) i t i t';rw[beq_self_eq_true] at z;exact z
 |non=>
  cases r1;cases r2;exact SeqAt.EqAt.same _
 |_=>exact absurd h (λz=>z)
theorem om {A:Around} {s:Shared}:∀{zs:List V} {us ws:O8},(∀z∈zs,Hx z)->bj zs us->bj zs ws->∀j (h1:j<us.length) (h2:j<ws.length),SeqAt.EqAt A s us[j] ws[j] true
 |_,_,_,_,.nil,.nil,j,h1,_=>absurd h1 96
 |_,_,_,hs,.cons r1 _,.cons r2 _,0,_,_=>qY (hs _ (Kd)) r1 r2
 |_,_,_,hs,.cons _ t1,.cons _ t2,j+1,h1,h2=>om (λz hz=>hs z (K9 _ hz)) t1 t2 j (by simpa using h1) (by simpa using h2)
theorem De {X:Cx} (hu:X.A.units<cLine):i8 X (compareOp .Eq) (λx y H Q=>∃a b zs,x= .ref a/\y= .ref b/\aJ X.K H a zs/\aJ X.K H b zs/\(∀z∈zs,Hx z)/\Q 469 H):=by
 sleep 16;obtain ⟨a,b,zs,rfl,rfl,h1,h2,hs,hq⟩:=h;cases rx;cases ry;sleep 78;refine SeqAt.eq_listAt (e:=λ_=>true) p1.isList p2.isList (by simp[<-r1.length,<-r2.length]) hu (λj g1 g2=>?_) ?_
 ·exact om (A:=X.A.in1) (s:=s) hs r1 r2 j 481 480
 ·exact 444
universe L2
namespace Sw
open PySem L2 XH PyProof.Rows
structure FF (hd:Pa) (P:Program) (w:World) (K:K0) (mg:O3) (base:Heap) (k:Nat) (x:Str) (ps:O6) (sp:Sp) where
 f:Addr
 fd:FuncData
 ok:Cl hd P w K mg base k f fd ps sp
 m:mg x=some 226
 q:Kn K 226=true
 b:Binds K fd ps []
noncomputable def FF.calm {P:Program} {w:World} {K:K0} {mg:O3} {base:Heap} {k:Nat} {x:Str} {ps:O6} {sp:Sp} (D:FF none P w K mg base k x ps sp):Dx P w K mg base bX k x ps [] sp:=
 ⟨D.f,D.fd,D.ok.calm,D.m,D.q,D.b,⟨[],D.b,.nil⟩⟩
structure Au (P:Program) (w:World) (K:K0) (mg:O3) (base:Heap) (k:Nat) (C:Addr) (ps:O6) (sp:Sp) where
 f:Addr
 fd:FuncData
 ok:bB P w K mg base bX k f fd ps sp
 ci:E5 K C f
 b:Binds K fd ps []
section
variable {X:Cx} {k j:Nat} {x:Str} {ps:O6} {sp:Sp} {p np pos cpos:Pos} {e:Expr} {es:List Expr} {t:TA} {hd:Pa} {C:Addr} {E:L2.St->XK}
theorem Df (D:FF hd X.prog X.w X.K X.mg X.base k x ps sp) (hr:fH hd j X.A) (hk:k<=j) (hg:Gl X x) (ha:PA X (e::es) t) (hdb:116=false:=by decide)
  (he:starEach (e::es) X.env=(false,eval e X.env)::starEach es X.env:=by rfl) (hpl:(backTo pos 137).any 182=false:=by rfl):
  PE X 134 (jG sp [] E0 t):=
 yw D.ok 381 hg D.m D.q D.b .nil ha hdb he hpl
theorem hU (D:Au X.prog X.w X.K X.mg X.base k C ps sp) (hr:cx j X.A) (hk:k+1<=j) (hg:Gl X x) (hm:X.mg x=some 119) (hc:X.calm=true) (hp:mf X E) (ha:PA X (e::es) t) (hdb:116=false:=by decide)
  (he:starEach (e::es) X.env=(false,eval e X.env)::starEach es X.env:=by rfl) (hpl:(backTo cpos 137).any 182=false:=by rfl):
  PS X (.Raise (some (.Call (.Name x np) (e::es) [] cpos)) none pos) (uY C sp E t):=
 wC D.ci D.ok 381 hg hm D.b hc hp ha hdb he hpl
universe z0
theorem bG.okH {hd:Pa} {P:Program} {w:World} {K:K0} {mg:O3} {base:Heap} {x qual:Str} {st:Stmt} {dV:Value} {f:Addr} {fd:FuncData} {N ps:O6} {k:Nat} {sp:Sp} (F:bG K x qual st dV f fd) (S:aK N ps 353) (len:∀vs H Q E,sp vs H Q E->vs.length=ps.length)
  (hbody:∀(cdv:Value) (A:Around) (outer:List Env) (s:Shared) (H:Hp) (vs:List V) (Q:VK) (E:XK),fH hd k (A.deeper (envOfC qual 353 92 f cdv))->sp vs H Q E->
   ∃t,lE (Db hd P w K mg base N qual 353 f cdv A outer s H E) (cK st) t/\t 245 238 H):Cl hd P w K mg base 446 f fd ps sp:=by
 sleep 20;exact Dc lk hcd S len λA outer s H vs Q E hr hsp=>hbody cdv A outer s H vs Q E hr hsp
theorem mw {H H':Hp} {p:Addr} (g:aD H H') (h:H p=none) (o:HO):aD H (aR H' p o):=λb u q=>by
 rw[aB (aT q h)];exact g b u q
def pG (X:Cx) (scope:Scope) (ys:O6) (js:List Nat):Prop:=∀(i:Nat) (y:Str),ys[i]?=some y->∃j:Nat,js[i]?=some j/\X.N[j]?=some y/\(X.env.scope.names.lookup y=some .cell∨X.env.scope.names.lookup y=some .free)/\((relabel scope X.env).names.lookup y=some .cell∨(relabel scope X.env).names.lookup y=some .free)
theorem FG {X:Cx} {scope:Scope}:pG X scope [] []:=λi y h=>by simp at h
theorem Jr {X:Cx} {scope:Scope} {ys:O6} {js:List Nat} {y:Str} {j:Nat} (t:pG X scope ys js) (h1:X.N[j]?=some y:=by rfl) (h2:X.env.scope.names.lookup y=some .cell∨X.env.scope.names.lookup y=some .free:=by first|exact Or.inl rfl|exact Or.inr rfl)
  (h3:(relabel scope X.env).names.lookup y=some .cell∨(relabel scope X.env).names.lookup y=some .free:=by first|exact Or.inl rfl|exact Or.inr rfl):pG X scope (y::ys) (j::js):=λi z h=>by
 cases i with
 |zero=>
  cases h;exact (j,rfl,h1,h2,h3)
 |succ i=>exact t i z h
inductive wD (X:Cx):List (Str×Addr)->Prop where
 |nil:wD X []
 |cons {y:Str} {c:Addr} {cl:List (Str×Addr)} (h:X.env.cells.lookup y=some c) (t:wD X cl):wD X ((y,c)::cl)
theorem wD.all {X:Cx} {cl:List (Str×Addr)} (h:wD X cl):∀p∈cl,X.env.cells.lookup p.1=some p.2:=by
 induction h with
 |nil=>intro p hp;simp at hp
 |cons h _ ih=>
  intro p hp;rcases K1.mp hp with e|e
  ·rw[e];exact h
  ·exact ih p e
theorem FH {X:Cx} {scope:Scope} {cl:List (Str×Addr)} {own:Str} {ys:O6} {js:List Nat} (a:pG X scope ys js) (s:wD X cl) (nd:(own::ys).Nodup) (len:js.length=ys.length) (clos:closureFor scope X.env=pure cl) (nocell:(scope.names.all λp=> !(p.2== .cell))=true) (kind:scope.kind= .function)
  (loc:329=true) (ownL:scope.names.lookup own=some .local) (has:296=true) (noown:cl.lookup own=none):jj X scope cl own ys js:=
 ⟨clos,nocell,kind,loc,ownL,s.all,has,noown,nd,a,len⟩
def fe (C:Addr) (f:Str):Sp:=λvs H Q _=>∃a y n,vs= [.ref a,y]/\H a=some 522/\∀d,H d=none->Q .non (L2.aR (L2.aR H d 406) a (fw n a 119 138))
theorem fO {H:Hp} {Q:VK} {a C:Addr} {f:Str} {y:V} (na:H a=none) (h:∀d H2,aD H H2->H2 a=some 378->H2 d=some 406->d≠a->aD H (del H2 a)->del H2 a d=some 406->Q .non H2) {E:XK}:
  fe C f [.ref a,y] (L2.aR H a 351) Q E:=by
 refine (a,y,true,rfl,ah,λd hd=>?_)
 have ne:d≠a:=by
  intro z;rw[z,ah] at hd;cases hd
 have nd:H d=none:=by rwa [aB ne] at hd
 have g:aD H (L2.aR (L2.aR (L2.aR H a 351) d 406) a 378):=mw (mw (mw (λ_ _ q=>q) na _) nd _) na _
 have e2:L2.aR (L2.aR (L2.aR H a 351) d 406) a 378 d=some (.xd [(f,y)]):=by rw[aB ne,ah]
 exact h d _ g ah e2 ne (λb o q=>by rw[hJ (aT q na)];exact g b o q) (by rw[hJ ne];exact e2)
structure Av (P:Program) (w:World) (K:K0) (mg:O3) (base:Heap) (CX:sW) (k:Nat) (f:Addr) (ps:O6) (dvs:List V) (sp:Sp) where
 fd:FuncData
 ok:bB P w K mg base CX k f fd ps sp
 b:Binds K fd ps []
 bd:∃ds,Binds K fd ps ds/\bj dvs ds
structure Dg (K:K0) (C:Addr) (m:Str) (f:Addr):Prop where
 sp:PySem.W.specialIn K 119 "__getattribute__" =some (some (.builtin "type.__getattribute__"))
 rd:PySem.W.readsIn K C (.type "type")=true
 fc:PySem.W.findCls K 119 (.type "type") m=some (.val 226)
 kp:Kn K 226=true
section
variable {X:Cx} {k j:Nat} {f C:Addr} {ps:O6} {sp:Sp} {dvs:List V} {x m:Str} {p pos apos:Pos} {e o:Expr} {es:List Expr} {ta tb:TE} {t:TA}
theorem Dh (M:Mk X.K C f) (D:Av X.prog X.w X.K X.mg X.base bX k f ps dvs sp) (hr:cx j X.A) (hk:k+1<=j) (hg:Gl X x) (hm:X.mg x=some 119) (ha:PA X (e::es) t) (hdb:116=false:=by decide)
  (he:starEach (e::es) X.env=(false,eval e X.env)::starEach es X.env:=by rfl) (hpl:(backTo pos 137).any 182=false:=by rfl):PE X 134 (xT C sp [] E0 t):=
 uK M D.ok 381 hg hm D.b .nil qR ha hdb he hpl
theorem pH (M:Mk X.K C f) (D:Av X.prog X.w X.K X.mg X.base bX k f ps dvs sp) (hr:cx j X.A) (hk:k+1<=j) (hg:Gl X x) (hm:X.mg x=some 119) (ha:PA X (e::es) t) (hdb:116=false:=by decide)
  (he:starEach (e::es) X.env=(false,eval e X.env)::starEach es X.env:=by rfl) (hpl:(backTo pos 137).any 182=false:=by rfl):PE X 134 (xT C sp dvs E0 t):=by
 obtain ⟨ds,hb,hv⟩:=D.bd;exact uK M D.ok 381 hg hm hb hv qR ha hdb he hpl
theorem FI {pl:Sem Bool} (M:Dg X.K C m f) (D:Av X.prog X.w X.K X.mg X.base bX k f ps dvs sp) (hr:cx j X.A) (hk:k<=j) (hg:Gl X x) (hm:X.mg x=some 119) (ha:PA X (e::es) t) (hdb:116=false:=by decide)
  (hst:starEach (e::es) X.env=(false,eval e X.env)::starEach es X.env:=by rfl) (hpl:(backTo pos 137).any 182=false:=by rfl)
  (ht:eval 456 X.env=(do
   let ov<-eval (.Name x p) X.env
   standAt apos.atName
   let (f,first)<-holding [ov] (getMethod ov m pl)
   callWith pos f first (backTo pos 520) (backToKw pos 228)):=by rfl):
  PE X 456 (jG sp [] E0 t):=by
 sleep 117;refine PySem.W.methodCall_KW (pl:=pl) (dQ I hg hm ?_ hdb) ht;refine PySem.W.method_cls I.kIn M.sp (PySem.W.cls_value I.kIn M.rd M.fc rfl ?_);have I1:=I.tok (s.toks+1);refine Lb (first:= []) (h₀:=X.base) I.ok.mod.kin M.kp (bW (ha pos pins _ σ H _ I1 h) λus s2 (vs,H2,I2,r,q2)=>(I2.kIn,?_)) hst hpl
 exact sX D.ok 381 D.b .nil qR I2 r q2
universe z0
universe Sw
namespace L2
open PySem PySem.Spec PyProof.Rows
section
variable {X:Cx} {pins:O4} {σ:St} {H:Hp} {s:Shared} {h':Heap}
theorem aU.turnedNew {ch:O7} {T:Addr} {o:HO} {t':Nat} (I:aU X pins σ H s) (hf:∀b∈ch,i7 X pins H b) (k:∀b u,b∉ch->s.heap.get? b=some u->h'.get? b=some u) (hp:s.heap.objs.size<=T) (new:cr X.prog X.w (aR H T o) h' T o):
  aU X pins σ (aR H T o) {s with heap:=h',toks:=t'}:=by
 have nT:H T=none:=I.hok.fresh hp;have ne:∀b u,H b=some u->b≠T:=λb u e z=>by rw[z,nT] at e;cases e
 have nch:∀b u,H b=some u->b∉ch:=λb u e z=>by rw[(hf b z).1] at e;cases e
 have up:∀b u,H b=some u->aR H T o b=some u:=λb u e=>by rw[aB (ne b u e)];exact e
 refine I.step (g':=s.gens) (d':=s.drawn) (ch:=ch) (λb hb=>?_) (λb u _ _ hc e _=>k b u hc e) (λb u _ _ hc e _=>(u.slots,k b u hc e)) (λb u _ e n=>?_)
  (λb u hc e=>⟨u,k b u hc e⟩) (λb xs e=>up b _ e) (λb u v e=>up b _ e) (λb ps e=>⟨#[],by rw[up b _ e];simp⟩) (λm hm=>?_) (λb u e=>?_) I.bare
 ·obtain ⟨f0,f1,f2,f3,f4,f5⟩:=hf b hb;exact (f3,f1,f4,f5)
 ·have:b≠T:=Kf (KJ 449 hp);rw[aB this];exact n
 ·sleep 158
 ·by_cases c:b=T
  ·subst c;rw[ah] at e;cases e;exact new
  ·rw[aB c] at e;refine (I.hok b u e).stay (λc' v hc q=>k c' v ?_ q) (λ_ q=>up _ _ q) λ_ _ q=>up _ _ q
   rcases hc with z|z
   ·rw[z];exact nch b u e
   ·exact nch c' _ z
theorem aU.turnedAll {ch:O7} {t':Nat} (I:aU X pins σ H s) (hf:∀b∈ch,i7 X pins H b) (k:∀b u,b∉ch->s.heap.get? b=some u->h'.get? b=some u):aU X pins σ H {s with heap:=h',toks:=t'}:=by
 have nch:∀b u,H b=some u->b∉ch:=λb u e z=>by rw[(hf b z).1] at e;cases e
 refine I.step (g':=s.gens) (d':=s.drawn) (ch:=ch) (λb hb=>?_) (λb u _ _ hc e _=>k b u hc e) (λb u _ _ hc e _=>(u.slots,k b u hc e)) (λb u _ e n=>n)
  (λb u hc e=>⟨u,k b u hc e⟩) (λb xs e=>e) (λb u v e=>e) (λb ps e=>⟨#[],by rw[e];simp⟩) (λm hm=>?_) (λb u e=>?_) I.bare
 ·obtain ⟨f0,f1,f2,f3,f4,f5⟩:=hf b hb;exact (f3,f1,f4,f5)
 ·sleep 158
 ·refine (I.hok b u e).stay (λc' v hc q=>k c' v ?_ q) (λ_ q=>q) λ_ _ q=>q
  rcases hc with z|z
  ·rw[z];exact nch b u e
  ·exact nch c' _ z
universe z0
noncomputable def FJ (K:K0) (l:Addr):It:=
 ⟨λi H=>∃xs x,aJ K H l xs/\xs[i]?=some x,λi H v H'=>∃(T:Addr) (x:V),v= .ref T/\H T=none/\(∀xs,aJ K H l xs->xs[i]?=some x)/\H'=aR H T (.tup [.int i,x]),λi H=>∃xs,aJ K H l xs/\xs.length<=i⟩
theorem wE {P:Program} {w:World} {K:K0} {elts:List Expr} {k:Nat} {pos:Pos} (l e it:Addr) (ne:e≠it):Turn P w K (.Tuple elts k pos) (FJ K l) [e,it] e (λi h=>(∃old,IsEnum h e it i old)/\h.IsListIter it l i) where
 mem:=by simp
 obj:=λi h st b hb=>by
  obtain ⟨⟨old,he⟩,o,e1,c,d⟩:=st;rcases K1.mp hb with z|z
  ·subst z;exact (_,he,λv z=>by cases z)
  ·rw[K8.mp z];exact (o,e1,λv z=>by rw[d] at z;cases z)
 keep:=λi h h' st k=>285
 item:=by
  sleep 11;sleep 80;refine wpAny_pyNext_enum_item he hit p.isList (x:=u) (by simpa using hu) ne λh1 ho hit' hT hsz hk=>?_
  sleep 107
  sleep 48
  have hT2:h2.get? 92=some {cls:= .type "tuple",data:= .seq #[.int i s.toks,u]}:=(hs2.2 _ (LX el)).trans hT;have kp:∀b o,b∉ [e,it]->s.heap.get? b=some o->h2.get? b=some o:=λb o hb q=>by
   simp at hb;exact (hs2.2 b hb.1).trans (hk b o hb.1 hb.2 q)
  refine ⟨.ref 92,aR H 92 (.tup [.int i,x]),I.turnedNew (t':=s.toks+1) (ch:= [e,it]) hf kp 214 (by show 2<=sizeLine;decide,[.int i s.toks,u],.cons ⟨ν⟩ (.cons ru .nil),(_,hT2,rfl,0,rfl)),rfl,
   ⟨_,x,rfl,nT,λys hy=>by rw[I.list_inj hy hq];exact hx,rfl⟩,⟨⟨u,?_⟩,?_⟩,λb hb=>?_⟩
  ·simpa using he2
  ·exact hit'.at λo q=>(hs2.2 it (Ne.symm ne)).trans q
  ·have bl:b≠s.heap.objs.size:=by
    rcases K1.mp hb with z|z
    ·rw[z];exact Kf el
    ·rw[K8.mp z];exact Kf il
   rw[aB bl];exact (hf b hb).1
 done:=by
  sleep 11;sleep 93;exact wpAny_pyNext_enum_end 307 he hit p.isList 551 λh' eb=>287
 self:=λ_ _ _ _ _ st h=>let ⟨_,he⟩:=st.1;wpAny_pyIter_enum he h
def FK (K:K0) (ta:TA):TI:=λσ H R=>ta σ H λvs H1=>∃l:Addr,vs= [.ref l]/\(∃xs,aJ K H1 l xs)/\R (FJ K l) H1
theorem boot_enumerate:bootBuiltins "enumerate" =some (.type "enumerate"):=by kernel_rfl
theorem A3 {X:Cx} {a:Expr} {ta:TA} {elts:List Expr} {k:Nat} {tp p pos:Pos} (hg:Gl X "enumerate") (hm:X.mg "enumerate" =none) (ha:PA X [a] ta) (hs:starEach [a] X.env= [452]:=by rfl):PI X (.Tuple elts k tp) (.Call (.Name "enumerate" p) [a] [] pos) (FK X.K ta):=by
 intro pins s σ H R I h;refine Call_ (gY I hg hm boot_enumerate (LJ (bW 348 λus s1 (vs,H1,I1,r1,q1)=>?_) hs rfl))
 obtain ⟨l,e,⟨xs,hq⟩,q⟩:=q1;subst e;cases r1 with
 |cons r rr=>
  cases rr;cases r;obtain ⟨its,rv,p1,hz⟩:=I1.list hq;refine call_enumerate_list p1.isList λh' he hit hsz hk=>?_
  refine wpAny_pyIter_enum (s:={s1 with heap:=h'}) he ?_
  sleep 213
  refine (s1.heap.objs.size+1,[s1.heap.objs.size+1,s1.heap.objs.size],_,_,H1,rfl,I2,wE l _ _ (Nat.succ_ne_self _),((_,by simpa using he),hit),λb hb=>?_,q)
  have bl:s1.heap.objs.size<=b:=by
   rcases K1.mp hb with z|z
   ·rw[z];exact Nat.le_succ _
   ·rw[K8.mp z];exact K4 _
  exact I1.fpOk bl (I1.hok.fresh bl)
theorem yx {K:K0} {a:Addr} {xs:List V} {g:TG} {tb:TS} {D:Ends} {σ:St} {H:Hp} (Pv:Nat->St->Hp->Prop) (h0:Pv 0 σ H) (hl:∀i σ H,i<=117->Pv i σ H->aJ K H a xs)
  (hs:∀i x σ H (T:Addr),xs[i]?=some x->Pv i σ H->H T=none->g (.ref T) σ (aR H T (.tup [.int i,x])) λσ2 H2=>tb 218 σ2 H2) (hd:∀σ H,Pv 117 σ H->D.nx σ H):
  ∃W:Nat->Nat->St->Hp->Prop,516/\∀i m σ H,W i m σ H->
   ((FJ K a).stop i H/\D.nx σ H)∨((FJ K a).go i H/\∃N:St->Hp->Prop,190/\∀x H',(FJ K a).yld i H x H'->g x σ H' λσ2 H2=>tb 314 σ2 H2):=by
 sleep 146
 sleep 190;have q:=hl i σ H hi p
 by_cases hlt:i<117
 ·sleep 100
  sleep 212
 ·have e:i=xs.length:=by lia
  subst e;exact .inl ((xs,q,K4 _),hd σ H p)
theorem jK {h:Heap} {l b:Addr} {its:Array Value} {o:Obj} {n:String} (hl:h.IsList l its) (e:h.get? b=some o) (c:o.cls= .type n) (ne:n≠ "list"):l≠b:=λz=>by
 obtain ⟨o',e',c',_⟩:=hl;rw[z,e] at e';cases e';rw[c] at c';injection c' with c'
 exact ne c'
theorem Di (n:Nat): [n+4,n+2,n+3,n,n+1].Nodup:=by
 simp
theorem boot_zip:bootBuiltins "zip" =some (.type "zip"):=by kernel_rfl
open XH
noncomputable def FL (x:Str):It:=⟨λi _=>i<x.cps.size,λi H v H'=>H'=H/\∃c,x.cps[i]?=some c/\v= .str 186,λi _=>i=x.cps.size⟩
theorem yy {P:Program} {w:World} {K:K0} {tg:Expr} {ty:String} (hty:ty= "str_ascii_iterator" ∨ty= "str_iterator") (it:Addr) (x:Str) (t:Tok):Turn P w K tg (FL x) [it] it (λi h=>h.IsStrIter it ty x t i) where
 mem:=by simp
 obj:=λi h st b hb=>by
  have e:b=it:=by simpa using hb
  subst e;obtain ⟨o,e,c,d⟩:=st;exact (o,e,λv z=>by rw[d] at z;cases z)
 keep:=λi h h' st k=>by
  obtain ⟨o,e,c,d⟩:=st;exact (o,k it 96 o e,c,d)
 item:=by
  sleep 11;obtain ⟨f0,f1,f2,f3,f4,f5⟩:=hf it 96
  have W:Walks X.prog X.w X.A it [it] [it] x.cps.size (SignAt x) (λi h=>h.IsStrIter it ty x t i):=by
   rcases hty with rfl|rfl
   ·exact Walks.strAscii 307 it x t
   ·exact Walks.strWide 307 it x t
  refine W.item i s _ _ hg st λv h' tk hv st' kk=>?_
  obtain ⟨c,u,hc',rfl⟩:=hv;have I1:aU X pins σ H {s with heap:=h',toks:=tk}:=I.turned (λb o hb e=>kk b o (by simpa using hb) e) f0 f1 f3 f4 f5
  obtain ⟨o,e,c1,d1⟩:=id st';refine ⟨_,rfl,xO (s:={s with heap:=h',toks:=tk}) (n:=ty) e c1 d1 (by rcases hty with rfl|rfl<;>decide) ⟨.str 186,H,I1,⟨u,rfl⟩,⟨rfl,c,hc',rfl⟩,st',λb hb=>(hf b hb).1⟩⟩
 done:=by
  sleep 11;obtain ⟨f0,f1,f2,f3,f4,f5⟩:=hf it 96
  have W:Walks X.prog X.w X.A it [it] [it] x.cps.size (SignAt x) (λi h=>h.IsStrIter it ty x t i):=by
   rcases hty with rfl|rfl
   ·exact Walks.strAscii 307 it x t
   ·exact Walks.strWide 307 it x t
  have hg':i=x.cps.size:=hg;subst hg';exact W.done s _ _ st λh' tk kk=>(rfl,I.turned (λb o hb e=>kk b o (by simpa using hb) e) f0 f1 f3 f4 f5)
 self:=λ_ _ _ _ _ st h=>by
  rcases hty with rfl|rfl
  ·exact wpAny_pyIter_striter_ascii st h
  ·exact wpAny_pyIter_striter_wide st h
def Ig (tl:TE):TI:=λσ H R=>tl σ H λx H1=>∃z,x= .str z/\R (FL z) H1
variable {X:Cx} {tg:Expr}
theorem yA {l:Expr} {tl:TE} (hl:PE X l tl):PI X tg l (Ig tl):=by
 intro pins s σ H R I h;refine bW (hl pins s σ H _ I h) λv s1 (x,H1,I1,r1,q1)=>?_
 obtain ⟨z,rfl,q⟩:=q1;sleep 61;have fin:∀{ty:String} {o:Obj},(ty= "str_ascii_iterator" ∨ty= "str_iterator")->(s1.heap.push o).IsStrIter s1.heap.objs.size ty z t 0->HU X pins σ tg R (.ref s1.heap.objs.size) {s1 with heap:=s1.heap.push o}:=λ{ty o} hty st=>by
  refine (s1.heap.objs.size,[s1.heap.objs.size],_,_,H1,rfl,I1.kept (t':=s1.toks) λb o e=>95 _ e,yy hty _ z t,st,λb hb=>?_,q)
  have e:b=s1.heap.objs.size:=by simpa using hb
  subst e;exact I1.fpOk 214 (I1.hok.fresh 214)
 cases ha:z.cps.all (· <128)
 ·exact wpAny_pyIter_wide ha (fin 243 (_,126 _ rfl,rfl,rfl))
 ·exact wpAny_pyIter_ascii ha (fin 174 (_,126 _ rfl,rfl,rfl))
theorem uZ {z:Str} {g:TG} {tb:TS} {D:Ends} {σ:St} {H:Hp} (Pv:Nat->St->Hp->Prop) (h0:Pv 0 σ H)
  (hs:∀i c σ H,z.cps[i]?=some c->Pv i σ H->g (.str 186) σ H λσ2 H2=>tb 218 σ2 H2) (hd:∀σ H,Pv z.cps.size σ H->D.nx σ H):
  ∃W:Nat->Nat->St->Hp->Prop,516/\∀i m σ H,W i m σ H->
   ((FL z).stop i H/\D.nx σ H)∨((FL z).go i H/\∃N:St->Hp->Prop,190/\∀x H',(FL z).yld i H x H'->g x σ H' λσ2 H2=>tb 314 σ2 H2):=by
 exists λi m σ H=>m=z.cps.size-i/\i<=z.cps.size/\Pv i σ H,(z.cps.size,by simp,LF _,h0)
 sleep 190
 by_cases hlt:i<z.cps.size
 ·refine .inr (hlt,Pv 240,λσ' H' p'=>(z.cps.size-240,by lia,rfl,hlt,p'),λx H' y=>?_)
  obtain ⟨e,c,hc,rfl⟩:=y;subst e;exact hs i c σ _ hc p
 ·have e:i=z.cps.size:=by lia
  subst e;exact .inl (rfl,hd σ H p)
noncomputable def kz (x:Str) (lo hi:Option Int):Str:=⟨((x.cps.toList.drop (HT.eC x.length 0 lo)).take (HT.eC x.length x.length hi-HT.eC x.length 0 lo)).toArray⟩
theorem FM (lo hi:Option Int) (n:Nat):Builtin.Str.strSliceIndices lo hi 1 n=(LD (HT.eC n n hi-HT.eC n 0 lo)).map (HT.eC n 0 lo+ ·):=by
 have h1:(match lo with|none=>(0:Int)|some i=>max 0 (min (if i<0 then i+(n:Int) else i) n))=((HT.eC n 0 lo:Nat):Int):=by
  cases lo with
  |none=>simp[HT.eC]
  |some i=>
   simp only[HT.eC]
   by_cases h:i<0
   ·simp only[h,if_true]<;>lia
   ·simp only[h,if_false]<;>lia
 have h2:(match hi with|none=>(n:Int)|some i=>max 0 (min (if i<0 then i+(n:Int) else i) n))=((HT.eC n n hi:Nat):Int):=by
  cases hi with
  |none=>simp[HT.eC]
  |some i=>
   simp only[HT.eC]
   by_cases h:i<0
   ·simp only[h,if_true]<;>lia
   ·simp only[h,if_false]<;>lia
 rw[<-sliceRange_one,<-h1,<-h2];cases lo<;>cases hi<;>rfl
theorem qZ (x:Str) (l u:Option (Int×Tok)):(⟨((slicePicked x l u none).filterMap (x.cps[·]?)).toArray⟩:Str)=kz x (l.map 182) (u.map 182):=by
 show (⟨((Builtin.Str.strSliceIndices (l.map 182) (u.map 182) 1 x.length).filterMap (x.cps[·]?)).toArray⟩:Str)=_;rw[FM,pick_run]
 rfl
theorem iz (x:Str) (lo hi:Option Int):(kz x lo hi).length<=x.length:=by
 show ((x.cps.toList.drop _).take _).toArray.size<=x.cps.size;rw[KR,Kw,L0];simp only[Lx]
 lia
theorem tu (x:Str) (l u:Option (Int×Tok)) (h:(slicePicked x l u none).length=x.length):kz x (l.map 182) (u.map 182)=x:=by
 have h':(Builtin.Str.strSliceIndices (l.map 182) (u.map 182) 1 x.length).length=x.length:=h;rw[FM,K6,List.length_range] at h';have hs:HT.eC x.length x.length (u.map 182)<=x.length∨x.length<HT.eC x.length x.length (u.map 182):=by lia
 have hu:HT.eC x.length x.length (u.map 182)<=x.length:=by
  cases u with
  |none=>exact K4 _
  |some p=>
   show (if p.1<0 then (p.1+(x.length:Int)).toNat else min p.1.toNat x.length)<=x.length
   by_cases hp:p.1<0
   ·rw[if_pos hp];lia
   ·rw[if_neg hp];lia
 unfold kz
 by_cases hx:x.length=0
 ·have e:x.cps.toList= []:=by
   have:x.cps.toList.length=0:=by rw[Lx];exact hx
   exact List.eq_nil_of_length_eq_zero this
  rw[e,List.drop_nil,List.take_nil];obtain ⟨c⟩:=x;have e':c= #[]:=Array.toList_inj.mp (by simpa using e)
  rw[e']
 ·have h0:HT.eC x.length 0 (l.map 182)=0:=by lia
  rw[h0,List.drop_zero,Ln (by rw[Lx];show x.length<=_;lia)]
theorem part_of {v:Value} {o:Option Int} (p:IsPart v o):∃l:Option (Int×Tok),partValue l=v/\l.map 182=o:=by
 cases p with
 |none=>exact ⟨none,rfl,rfl⟩
 |int i t=>exact ⟨some (i,t),rfl,rfl⟩
open Builtin.Str in
noncomputable def u0 (z y:Str):List V:=match occurrences z y 0 z.length 1 with
 |i::_=> [.str (strSub z 0 i),.str y,.str (strSub z (i+y.length) z.length)]
 | []=> [.str z,.str Str.empty,.str Str.empty]
theorem jL {X:Cx}:Cf X "str.partition" (λx vs H Q=>∃z y,x= .str z/\vs= [.str y]/\y.length≠0/\z.length<=sizeLine/\∀p,H p=none->Q 237 (aR H p (.tup (u0 z y)))):=by
 sleep 111;obtain ⟨z,y,rfl,rfl,hy,hz,q⟩:=h;sleep 134;cases rv with
 |cons r rr=>
  cases rr;obtain ⟨u,rfl⟩:=r;refine call_meets F.slot_str_partition 395 F.entry_str_partition (F.args_str_partition_2 _ _) (meets_str_partition z y t u (by simpa using hy) hz) ?_
  have q':=q 92 343;unfold u0 at q';cases ho:Builtin.Str.occurrences z y 0 z.length 1 with
  |nil=>
   rw[ho] at q';refine (.ref 92,_,I.laid (t':=s.toks+1) 500 214 ?_,rfl,q')
   sleep 84
  |cons i r=>
   rw[ho] at q';refine (.ref 92,_,I.laid (t':=s.toks+1+1) 500 214 ?_,rfl,q')
   sleep 84
universe L2
namespace Sw
open PySem PySem.NumText
noncomputable def dg (n:Nat):List Nat:=(Nat.toDigits 10 n).map Char.toNat
theorem pI (n:Nat):digitsVal (dg n)=n:=PySem.W.KIN.val_back n
theorem fY {n:Nat} (h:n<10):dg n= [48+n]:=by
 unfold dg;rw[Nat.toDigits_of_lt_base h]
 revert h
 revert n
 decide
theorem pJ {n:Nat} (h:10<=n):dg n=dg (n/10)++ [48+n % 10]:=by
 have hm:n % 10<10:=LZ _ 45
 rw[<-fY hm];unfold dg;rw[<-Km,Nat.toDigits_append_toDigits 45 93 hm,Nat.div_add_mod]
theorem eJ (n:Nat):AllDigits (dg n):=by
 induction n using Nat.strongRecOn with
 |_ n ih=>
  by_cases h:n<10
  ·rw[fY h];intro c hc;simp at hc
   lia
  ·rw[pJ 93]
   intro c hc;rcases KD.mp hc with z|z
   ·exact ih (n/10) 93 c z
   ·simp at z
    lia
theorem va (n:Nat):dg n≠ []:=by
 by_cases h:n<10
 ·rw[fY h];simp
 ·rw[pJ 93];simp
theorem vb (n:Nat):(dg n).head?=some 48->n=0:=by
 induction n using Nat.strongRecOn with
 |_ n ih=>
  intro e
  by_cases h:n<10
  ·rw[fY h] at e;simp at e;exact e
  ·rw[pJ 93,List.head?_append] at e
   cases q:(dg (n/10)).head? with
   |none=>exact absurd (List.head?_eq_none_iff.mp q) (va _)
   |some c=>
    rw[q] at e;simp at e;subst e;have:=ih (n/10) 93 q
    lia
theorem pK:dg 0= [48]:=fY 45
theorem yB:dg 1= [49]:=fY 45
theorem fh {n:Nat}:∀{k:Nat},n<10^(k+1)->(dg n).length<=k+1:=by
 induction n using Nat.strongRecOn with
 |_ n ih=>
  intro k hk
  by_cases h:n<10
  ·rw[fY h];simp
  ·rw[pJ 93,KL]
   cases k with
   |zero=>lia
   |succ k=>
    have h1:n/10<10^(k+1):=by
     rw[Nat.pow_succ 10 446] at hk;generalize 10^(k+1)=m at*
     lia
    have:=ih (n/10) 93 h1
    simp;omega
theorem FN {l:List Nat} (h:AllDigits l) (ne:l≠ []) (hd:l.head?≠some 48∨l= [48]):dg (digitsVal l)=l:=by
 rcases hd with hd|hd
 ·cases l with
  |nil=>exact absurd rfl ne
  |cons c r=>
   have hc:=h.head;have c9:49<=c:=by
    simp at hd
    lia
   unfold dg;rw[toDigits_digitsVal r.length (c::r) rfl h (.inr ⟨c,r,rfl,c9⟩),Ls];refine (List.map_congr_left λx hx=>?_).trans (List.map_id _)
   have hx':=h x hx;have:∀y,y<58->(Char.ofNat y).toNat=y:=by decide
   exact this x 93
 ·subst hd;exact pK
theorem iA {n c:Nat} (h:c<48):c∉dg n:=λz=>by have:=(eJ n c z).1;lia
def A4 (l:List Nat):Prop:=1<=l.length/\l.length<=30/\(l.head?≠some 48∨l= [48])/\AllDigits l
open Classical in
noncomputable def dN (l:List Nat):Option Nat:=if A4 l then some (digitsVal l) else none
theorem mz {l:List Nat} {n:Nat} (h:dN l=some n):l=dg n/\(dg n).length<=30:=by
 unfold dN at h
 split at h
 ·rename_i f;obtain ⟨h1,h2,h3,h4⟩:=f;have e:dg (digitsVal l)=l:=FN h4 (λz=>by rw[z] at h1;simp at h1) h3
  cases h;rw[e];exact (rfl,h2)
 ·cases h
theorem fZ {n:Nat} (h:(dg n).length<=30):dN (dg n)=some n:=by
 unfold dN;rw[if_pos,pI];refine (?_,h,?_,eJ n)
 ·have:=va n;cases q:dg n with
  |nil=>exact absurd q this
  |cons=>simp
 ·by_cases z:(dg n).head?=some 48
  ·exact .inr (by rw[vb n z];exact pK)
  ·exact .inl z
theorem gL {n:Nat} (h:30<(dg n).length):dN (dg n)=none:=by
 unfold dN;rw[if_neg];rintro ⟨_,h2,_⟩
 lia
theorem tw {l:List Nat} (h:A4 l):dN l=some (digitsVal l):=if_pos h
theorem iM {l:List Nat} (h:¬A4 l):dN l=none:=if_neg h
theorem kA {l:List Nat} {n:Nat} (h:dN l=some n):n<10^30:=by
 obtain ⟨e,hl⟩:=mz h;rw[<-pI n];have gen:∀(l:List Nat) (a:Nat),AllDigits l->l.foldl (λacc c=>acc*10+(c-48)) a<(a+1)*10^l.length:=by
  intro l
  induction l with
  |nil=>intro a _;simp
  |cons c l ih=>
   intro a h;have h1:=ih (a*10+(c-48)) h.tail;have h2:=h.head;rw[List.foldl_cons,KE,Nat.pow_succ];refine KJ h1 ?_;rw[Nat.mul_comm (10^l.length) 10,<-Nat.mul_assoc];exact Nat.mul_le_mul_right _ 93
 have g:=gen _ 0 (eJ n);rw[Nat.zero_add,Nat.one_mul] at g;exact KJ g (Nat.pow_le_pow_right 45 hl)
noncomputable def cB (c:Nat) (l:List Nat):List Nat×List Nat:=(l.takeWhile (· !=c),(l.dropWhile (· !=c)).tail)
theorem fP {c:Nat} {a b:List Nat} (h:c∉a):cB c (a++c::b)=(a,b):=by
 unfold cB;have p:∀x∈a,(x !=c)=true:=λx hx=>by
  rw[bne_iff_ne];exact λz=>h (z▸hx)
 rw[List.takeWhile_append_of_pos p,List.dropWhile_append_of_pos p];simp
theorem vc {c:Nat}:∀{l:List Nat},c∈l->l=(cB c l).1++c::(cB c l).2/\c∉(cB c l).1:=by
 intro l h;obtain ⟨a,b,e⟩:=List.append_of_mem h
 induction l generalizing a b with
 |nil=>simp at h
 |cons x l ih=>
  by_cases z:x=c
  ·subst z;have:=fP (c:=x) (a:= []) (b:=l) 96
   simp only[List.nil_append] at this;rw[this];simp
  ·have hl:c∈l:=by
    rcases K1.mp h with q|q
    ·exact absurd q.symm z
    ·exact q
   obtain ⟨a',b',e'⟩:=List.append_of_mem hl;obtain ⟨i1,i2⟩:=ih hl a' b' e';have ex:cB c (x::l)=(x::(cB c l).1,(cB c l).2):=by
    unfold cB;rw[List.takeWhile_cons_of_pos (by simpa using z),List.dropWhile_cons_of_pos (by simpa using z)]
   rw[ex];exists ?_
   ·show x::l=x::((cB c l).1++c::(cB c l).2);rw[<-i1]
   ·show c∉x::(cB c l).1;intro q;rcases K1.mp q with q|q
    ·exact z q.symm
    ·exact i2 q
noncomputable def dA (a b:List Nat):Option (Nat×Nat):=match dN a,dN b with
 |some n,some m=>if m=0 then none else some (n,m)
 |_,_=>none
noncomputable def dY (l:List Nat):Option (Nat×Nat):=if 47∈l then dA (cB 47 l).1 (cB 47 l).2 else dA l [49]
noncomputable def pL (x y:Option (Nat×Nat)):Option (Nat×Nat):=match x,y with
 |some (n,m),some (n',m')=>some (n*m'+n'*m,m*m')
 |_,_=>none
noncomputable def fi (l:List Nat):Option (Nat×Nat):=if 43∈l then pL (dY (cB 43 l).1) (dY (cB 43 l).2) else dY l
noncomputable def dO (p q:Nat):List Nat:=if p % q=0 then dg (p/q) else if p/q=0 then dg (p % q)++47::dg q else dg (p/q)++43::(dg (p % q)++47::dg q)
structure Reads (l:List Nat) (p q:Nat):Prop where
 pos:0<q
 low:LW p q=1
 ex:∃n m,fi l=some (n,m)/\p*m=n*q
 wr:dO p q=l
noncomputable def E6 (a:Nat) (r:List Nat):Option (Nat×Nat):=match dN (cB 47 r).1,dN (cB 47 r).2 with
 |some t,some b=>if t=0∨b<=t∨LW b t≠1 then none else some (a*b+t,b)
 |_,_=>none
noncomputable def q8 (l:List Nat):Option (Nat×Nat):=if 43∈l then
    (match dN (cB 43 l).1 with
     |some a=>if a=0 then none else if 47∈(cB 43 l).2 then E6 a (cB 43 l).2 else none
     |none=>none)
  else if 47∈l then E6 0 l else (dN l).map λn=>(n,1)
theorem yC (n:Nat):dY (dg n)=(dN (dg n)).map λn=>(n,1):=by
 unfold dY;rw[if_neg (iA 45)]
 unfold dA;have e:dN [49]=some 1:=by rw[<-yB];exact fZ (by rw[yB];decide)
 rw[e];cases dN (dg n)<;>simp
theorem vd (t b:Nat):dY 172=dA (dg t) (dg b):=by
 unfold dY;rw[if_pos 96,fP (iA 45)]
theorem pM (n:Nat):fi (dg n)=(dN (dg n)).map λn=>(n,1):=by
 unfold fi;rw[if_neg (iA 45),yC]
theorem iN (t b:Nat):43∉dg t++47::dg b:=by
 intro z;rcases KD.mp z with q|q
 ·exact iA 45 q
 ·rcases K1.mp q with q|q
  ·cases q
  ·exact iA 45 q
theorem mB (t b:Nat):fi 172=dA (dg t) (dg b):=by
 unfold fi;rw[if_neg (iN t b),vd]
theorem kB (w t b:Nat):fi (dg w++43::172)=pL ((dN (dg w)).map λn=>(n,1)) (dA (dg t) (dg b)):=by
 unfold fi;rw[if_pos 96,fP (iA 45),yC,vd]
theorem ve {t b:Nat} (ht:(dg t).length<=30) (hb:(dg b).length<=30) (b0:b≠0):dA (dg t) (dg b)=some (t,b):=by
 unfold dA;rw[fZ ht,fZ hb];simp[b0]
theorem gM {t b:Nat} (h:30<(dg t).length∨30<(dg b).length):dA (dg t) (dg b)=none:=by
 unfold dA;rcases h with h|h
 ·rw[gL h]
 ·rw[gL h];cases dN (dg t)<;>rfl
theorem oo {t b n m:Nat} (h:dA (dg t) (dg b)=some (n,m)):(dg t).length<=30/\(dg b).length<=30:=by
 by_cases h1:30<(dg t).length
 ·rw[gM (.inl h1)] at h;cases h
 ·by_cases h2:30<(dg b).length
  ·rw[gM (.inr h2)] at h;cases h
  ·lia
theorem Cm {a t b:Nat} (ht:(dg t).length<=30) (hb:(dg b).length<=30) (t0:t≠0) (hlt:t<b) (g:LW b t=1):E6 a 172=some (a*b+t,b):=by
 unfold E6;rw[fP (iA 45),fZ ht,fZ hb]
 simp only;rw[if_neg];rintro (z|z|z)
 ·exact t0 z
 ·lia
 ·exact z g
theorem kC {l:List Nat} {p q:Nat} (h:Reads l p q):q8 l=some (p,q):=by
 obtain ⟨q0,g,⟨n,m,hl,hv⟩,w⟩:=h;unfold dO at w
 split at w
 ·rename_i z;have q1:q=1:=by
   have d:q∣p:=Nat.dvd_of_mod_eq_zero z;have:LW p q=q:=Nat.gcd_eq_right d
   lia
  subst q1;rw[Nat.div_one] at w;subst w;rw[pM] at hl;have hp:(dg p).length<=30:=by
   apply Nat.le_of_not_lt;intro y;rw[gL y] at hl;cases hl
  unfold q8;rw[if_neg (iA 45),if_neg (iA 45),fZ hp]
  rfl
 ·rename_i z
  split at w
  ·rename_i z2;have hlt:p<q:=(Nat.div_eq_zero_iff_lt q0).mp z2;rw[Nat.mod_eq_of_lt hlt] at w z;subst w;rw[mB] at hl;obtain ⟨h1,h2⟩:=oo hl;unfold q8;rw[if_neg (iN p q),if_pos 96,Cm h1 h2 z hlt (by rw[Nat.gcd_comm];exact g)]
   simp
  ·rename_i z2;subst w;rw[kB] at hl;have hw:(dg (p/q)).length<=30:=by
    apply Nat.le_of_not_lt;intro y;rw[gL y] at hl;cases hl
   have hp:∃a b,dA (dg (p % q)) (dg q)=some (a,b):=by
    cases y:dA (dg (p % q)) (dg q) with
    |none=>rw[y] at hl;rw[fZ hw] at hl;cases hl
    |some ab=>exact ⟨ab.1,ab.2,rfl⟩
   obtain ⟨a,b,hp⟩:=hp;obtain ⟨h1,h2⟩:=oo hp;have hlt:p % q<q:=LZ _ q0;unfold q8;rw[if_pos 96,fP (iA 45),fZ hw]
   simp only;rw[if_neg z2,if_pos 96,Cm h1 h2 z hlt (by rw[Nat.gcd_comm,<-Nat.gcd_rec,Nat.gcd_comm]<;>exact g),Nat.mul_comm,Nat.div_add_mod]
universe Sw
namespace L2
open PySem PySem.Spec PyProof.Rows XH
section
variable {X:Cx} {a b e o:Expr} {es:List Expr} {t te to:TE} {ta:TA} {pos apos cpos:Pos} {x y:Str}
def Ih (t:TE):TE:=λσ H Q=>t σ H λx H1=>(∃i,x= .int i/\i.natAbs.log2<1920/\Q (.str (toString i)) H1)∨∃z,x= .str z/\z.length<=sizeLine/\Q 236 H1
theorem jk (h:PE X e t):PE X (.FormattedValue e (-1) none pos) (Ih t):=by
 intro pins s σ H Q I q;refine FormattedValue_plain (bW (h pins s σ H _ I q) λv s1 (x,H1,I1,r1,q1)=>?_)
 rcases q1 with ⟨i,rfl,hi,q⟩|⟨z,rfl,hz,q⟩
 ·sleep 61;exact formatField_int_small hi (.str _,H1,I1.tok _,⟨ν⟩,q)
 ·sleep 61;exact formatField_str (λt' tk=>(.str z,H1,I1.tok _,⟨ν⟩,q)) hz
def PJ (X:Cx) (es:List Expr) (t:Str->TE):Prop:=∀(out:Str) (pins:O4) (s:Shared) (σ:St) (H:Hp) (Q:VK),aU X pins σ H s->t out σ H Q->
 wpAny 106 X.A (joinParts out (evalEach es X.env)) 278 X.xe s
def Ii:Str->TE:=λout σ H Q=>out.length<=sizeLine/\Q (.str out) H
theorem pN:PJ X [] Ii:=λout pins s σ H Q I h=>joinParts_nil (.str out,H,I.tok _,(_,rfl),h.2) h.1
def FO (te:TE) (tr:Str->TE):Str->TE:=λout σ H Q=>te σ H λx H1=>∃y,x= .str y/\(out++y).length<=sizeLine/\tr (out++y) σ H1 Q
theorem dy {tr:Str->TE} (he:PE X e te) (hr:PJ X es tr):PJ X (e::es) (FO te tr):=by
 intro out pins s σ H Q I h;refine joinParts_cons (bW 416 λv s1 (x,H1,I1,r1,y,e,hz,q)=>?_)
 subst e;sleep 61;exact (hz,hr _ pins s1 σ H1 Q I1 q)
def FP (t:Str->TE):TE:=t Str.empty
theorem lI {t:Str->TE} (h:PJ X (a::b::es) t):PE X (.JoinedStr (a::b::es) pos) (FP t):=λpins s σ H Q I q=>JoinedStr_many (h Str.empty pins s σ H Q I q)
theorem pO:fV X (.type "int") (λxs H Q=>∃z n,xs= [.str z]/\intText? z=some n/\z.length<=640/\Q (.int n) H):=by
 sleep 23;obtain ⟨z,n,rfl,hn,hl,q⟩:=h;obtain ⟨u,rfl,t,rfl⟩:=vals1 r;exact PySem.W.KIN.call_text hn hl (.int n,H,I.tok _,⟨ν⟩,q)
theorem q9 {z:Str} {p:Pos} (hg:Gl X x) (h:∃t,X.mg x=some (.str z t)) (hd:116=false:=by decide):PE X (.Name x p) (tC 236):=by
 obtain ⟨t,h⟩:=h;exact cJ hg h (t,rfl) hd
theorem gO {i:Int} {p:Pos} (hg:Gl X x) (h:∃t,X.mg x=some (.int i t)) (hd:116=false:=by decide):PE X (.Name x p) (tC (.int i)):=by
 obtain ⟨t,h⟩:=h;exact cJ hg h (t,rfl) hd
theorem ou:∀(l:O6) (n:Nat),bj (l.map V.str) (strsFrom n l)
 | [],_=> .nil
 |x::l,n=> .cons 173 (ou l (n+1))
theorem jM:Cf X "str.split" (λx vs H Q=>∃z c,x= .str z/\vs= [.str 186]/\z.length+2<=sizeLine/\∀p,H p=none->Q 237 (aR H p (.lst ((Txt.split z 186).map V.str)))):=by
 sleep 111;obtain ⟨z,c,rfl,rfl,hz,q⟩:=h;sleep 134;obtain ⟨u,rfl,t',rfl⟩:=vals1 rv;have q':=q 92 343;sleep 89;unfold Txt.split at q';cases h1:(decide (z.length<(⟨#[c]⟩:Str).length)||decide (Builtin.Str.strKind z<Builtin.Str.strKind ⟨#[c]⟩)) with
 |true=>
  rw[h1] at q';refine call_meets F.slot_str_split 395 F.entry_str_split 532 (meets_str_split_cannot_occur z 186 t t' h1) ?_;sleep 29
 |false=>
  rw[h1] at q';cases hf:(Builtin.Str.occurrences z ⟨#[c]⟩ 0 z.length (z.length+1)).isEmpty with
  |true=>
   rw[hf] at q';refine call_meets F.slot_str_split 395 F.entry_str_split 532 (meets_str_split_not_found z 186 t t' h1 rfl hf) ?_;sleep 29
  |false=>
   rw[hf] at q';have hp:(Builtin.Str.partsBetween z 166 (⟨#[c]⟩:Str).length).length<=sizeLine:=by
    sleep 150
    lia
   sleep 57
   exact (.ref 92,_,I.laid (o:= .lst ((Builtin.Str.partsBetween z 166 (⟨#[c]⟩:Str).length).map V.str)) 500 214 (by rw[K6];exact hp,_,0,ou _ _,126 _ rfl),rfl,q')
universe z0
def NF (X:Cx) (a:Addr):Prop:=∀o u,X.H₀ a≠some (.frz o u)
universe L2
namespace So
open PySem PyProof.Rows
universe So
namespace Sw
open PySem L2 XH PySem.NumText
noncomputable def sL (z:Str):List Nat:=z.cps.toList
noncomputable def bw (l:List Nat):Str:=⟨l.toArray⟩
theorem bo (l:List Nat):sL (bw l)=l:=by simp[sL,bw]
theorem mC (z:Str):bw 316=z:=by simp[sL,bw]
theorem dE {x y:Str} (h:sL x=sL y):x=y:=by rw[<-mC x,<-mC y,h]
theorem cv (z:Str):(sL z).length=z.length:=by simp[sL,Str.length]
theorem cQ (l:List Nat):(bw l).length=l.length:=by rw[<-cv,bo]
theorem bC (x y:Str):sL (x++y)=sL x++sL y:=by
 show (x.cps++y.cps).toList=_;rw[Array.toList_append]
 rfl
theorem dm (a b:List Nat):bw a++bw b=bw (a++b):=dE (by rw[bC,bo,bo,bo])
theorem lJ (n:Nat):Str.ofString (toString ((n:Nat):Int))=bw (dg n):=dE (by rw[bo];exact PySem.W.KIN.signs_num n)
theorem rc:Str.empty=bw []:=rfl
theorem tD (c:Nat):(⟨#[c]⟩:Str)=bw [c]:=rfl
theorem fz:(33 "/")=bw [47]:=by decide
theorem iO:(33 "+")=bw [43]:=by decide
theorem re (z:Str) (c:Nat):u0 z 181=if c∈sL z then [.str (bw (cB c 316).1),.str 181,.str (bw (cB c 316).2)] else [.str z,.str Str.empty,.str Str.empty]:=by
 unfold u0;rcases StrLaws.occ_head z (bw [c]) 1 (K4 _) with ⟨h0,hn⟩|⟨i,r,h0,ha,hn⟩
 ·rw[h0,if_neg];intro hc;obtain ⟨i,hi⟩:=Kh.mp hc;exact hn i ((StrLaws.subAt_one z c i).mpr hi)
 ·have hi:(sL z)[i]?=some c:=(StrLaws.subAt_one z c i).mp ha;have hlt:i<(sL z).length:=(KB.mp hi).1;have hc:c∈sL z:=K7 hi;have hno:c∉(sL z).take i:=by
   intro q;obtain ⟨k,hk⟩:=Kh.mp q;have kl:k<i:=by
    have:=(KB.mp hk).1;rw[Kw] at this
    lia
   rw[List.getElem?_take_of_lt kl] at hk;exact hn k kl ((StrLaws.subAt_one z c k).mpr hk)
  have e:sL z=(sL z).take i++c::(sL z).drop (i+1):=by
   have:=(KB.mp hi).2;rw[<-this,List.getElem_cons_drop hlt,Lo]
  have ec:cB c 316=((sL z).take i,(sL z).drop 240):=by
   conv=>lhs;rw[e]
   exact fP hno
  rw[h0,if_pos hc,ec];have e1:Builtin.Str.strSub z 0 i=bw ((sL z).take i):=dE (by
   rw[bo];show (Builtin.Str.strSub z 0 i).cps.toList=_;rw[StrLaws.strSub_toList,List.drop_zero,Nat.sub_zero]
   rfl)
  have e2:Builtin.Str.strSub z (i+(bw [c]).length) z.length=bw ((sL z).drop 240):=dE (by
   rw[bo];show (Builtin.Str.strSub z 240 z.length).cps.toList=_;rw[StrLaws.strSub_toList,Ln]
   ·rfl
   ·rw[L0];exact K4 _)
  show [V.str (Builtin.Str.strSub z 0 i),V.str 181,V.str (Builtin.Str.strSub z (i+(bw [c]).length) z.length)]=_;rw[e1,e2]
theorem kD (z:Str) (c:Nat):(!(Builtin.Str.occurrences z 181 0 z.length 1).isEmpty)=decide (c∈sL z):=StrLaws.found_one z c
theorem hV (s x y:Str) (r:O6):Str.join s (x::y::r)=x++s++Str.join s (y::r):=rfl
theorem rf (c:Nat):∀(xs ys:O6),xs≠ []->ys≠ []->(∀x∈xs,c∉sL x)->(∀y∈ys,c∉sL y)->Str.join 181 xs=Str.join 181 ys->xs=ys
 | [],_,h,_,_,_,_=>absurd rfl h
 |_,[],_,h,_,_,_=>absurd rfl h
 | [x],[y],_,_,_,_,e=>by
  have e':x=y:=e;rw[e']
 | [x],y::z::r,_,_,hx,_,e=>by
  exfalso;have e':x=y++bw [c]++Str.join 181 (z::r):=e;refine hx x 96 ?_
  rw[e',bC,bC,bo];simp
 |x::z::r,[y],_,_,_,hy,e=>by
  exfalso;have e':x++bw [c]++Str.join 181 (z::r)=y:=e;refine hy y 96 ?_
  rw[<-e',bC,bC,bo];simp
 |x::x'::r,y::y'::r',_,_,hx,hy,e=>by
  rw[hV,hV] at e;have e1:=congrArg sL e;rw[bC,bC,bC,bC,bo,L7,L7] at e1;have e2:=congrArg (cB c) e1;simp only[Lh,List.nil_append] at e2;rw[fP (hx x 96),fP (hy y 96)] at e2
  injection e2 with e3 e4
  have ih:=rf c (x'::r) (y'::r') 96 96 (λz hz=>hx z (by simp at hz⊢;exact .inr hz)) (λz hz=>hy z (by simp at hz⊢;exact .inr hz)) (dE e4)
  rw[dE e3,ih]
theorem mD (x:Str) (c:Nat):Txt.split x (bw [c])≠ []:=by
 unfold Txt.split
 split
 ·simp
 ·split
  ·simp
  ·rw[StrLaws.partsBetween_eq];obtain ⟨p,r,e⟩:=StrLaws.partsFrom_ne x (bw [c]).length 0 (Builtin.Str.occurrences x 181 0 x.length (x.length+1));rw[e];simp
theorem eK {c:Nat} {ws:O6} (ne:ws≠ []) (free:∀w∈ws,c∉sL w):Txt.split 531 181=ws:=
 rf c _ _ (mD _ c) ne (StrLaws.split_free _ c) free (StrLaws.join_split _ _)
theorem tE {c:Nat} {w:Str} (h:c∉sL w):Txt.split w 181= [w]:=eK (ws:= [w]) 96 (by simpa using h)
theorem pP {c:Nat} {ws:O6} (z:Str) (ne:ws≠ []) (free:∀w∈ws,c∉sL w):Txt.replace 531 181 z=Str.join z ws:=by
 show Txt.replace 531 186 z=_;rw[StrLaws.replace_one];show Str.join z (Txt.split _ 181)=_;rw[eK ne free]
theorem iP {c:Nat} {w:Str} (z:Str) (h:c∉sL w):Txt.replace w 181 z=w:=pP (ws:= [w]) z 96 (by simpa using h)
noncomputable def Dj:Str:= "0123456789"
theorem vg (c:Nat):(!(Builtin.Str.occurrences Dj 181 0 Dj.length 1).isEmpty)=decide (48<=c/\c<=57):=by
 rw[kD,decide_eq_decide,show sL Dj=List.range' 48 10 by decide,List.mem_range'_1,Nat.lt_succ_iff]
def tF:Sp:=λvs H Q _=>∃z:Str,vs= [.str z]/\z.length<=1000000/\(dN 316=none->Q .non H)/\∀n:Nat,dN 316=some n->Q (.int n) H
def yD:Sp:=λvs H Q _=>∃z:Str,vs= [.str z]/\z.length<=900000/\(dY 316=none->∀H',aD H H'->Q .non H')/\∀(n m:Nat) (p q:Int),dY 316=some (n,m)->m≠0->n<10^30->m<10^30->Fr p q n m->Pair H Q p q
def vh:Sp:=λvs H Q _=>∃z:Str,vs= [.str z]/\z.length<=800000/\(fi 316=none->∀H',aD H H'->Q .non H')/\
 ∀(n m:Nat) (p q:Int),fi 316=some (n,m)->Hw p q->p*m=n*q->m≠0->Bd 400 p->Bd 400 q->Pair H Q p q
def Cn (K:K0):Sp:=λvs H Q _=>∃(t:Addr) (p q:Nat),vs= [.ref t]/\kY K 1900 H t p q/\Q (.str (bw (dO p q))) H
def tG (c:Addr):Sp:=λvs H Q E=>∃z:Str,vs= [.str z]/\z.length<=800000/\(∀p q:Nat,Reads 316 p q->Pair H Q p q)/\((∀p q,¬Reads 316 p q)->∀H',aD H H'->E (.ref c) none H')
def vm:Sp:=λvs H Q _=>∃z:Str,vs= [.str z]/\z.length<=800000/\∃p q:Nat,Reads 316 p q/\Pair H Q p q
theorem kE {l:List Nat} {p q p' q':Nat} (h:Reads l p q) (h':Reads l p' q'):p=p'/\q=q':=by
 have e:=(kC h).symm.trans (kC h');cases e;exact 153
theorem yE {c:Addr}:∀vs H Q E,vm vs H Q E->tG c vs H Q E0:=by
 rintro vs H Q E ⟨z,e,hz,p,q,r,k⟩;refine (z,e,hz,λp' q' r'=>?_,λn=>absurd r (n p q))
 obtain ⟨rfl,rfl⟩:=kE r r';exact k
theorem int_text {z:Str} (h:A4 316):intText? z=some ((digitsVal (sL z):Nat):Int):=by
 refine intText_digits h.2.2.2 198 ?_
 ·have:=h.1;rw[show sL z= [] from e] at this
  simp at this
 ·have:=h.2.1;rw[cv] at this
  lia
theorem yF {a b:Str} {A B:Prop} (h1:a≠b->A) (h2:a=b->B):if (!decide 530)=true then A else B:=by
 by_cases e:a=b
 ·exact nF (by rw[e]) (h2 e)
 ·exact nT (λz=>by cases z;exact e rfl) (h1 e)
theorem Dk {a b:Str} {A B:Prop} (h1:a=b->A) (h2:a≠b->B):if decide 530=true then A else B:=by
 by_cases e:a=b
 ·exact dT (by rw[e]) (h1 e)
 ·exact dF (λz=>by cases z;exact e rfl) (h2 e)
theorem Hy {b:Bool} {A B:Prop} (h1:b=false->A) (h2:b=true->B):if (!b)=true then A else B:=by
 cases b with
 |false=>exact gx (h1 rfl)
 |true=>exact cE (h2 rfl)
theorem lK:(33 "0")=bw [48]:=by decide
theorem lg {n:Nat} (h:n<2^1900):(n:Int).natAbs.log2<1920:=by
 rw[Int.natAbs_natCast]
 by_cases z:n=0
 ·subst z;decide
 ·exact Kg ((Nat.log2_lt z).mpr h) 45
theorem cS {n:Nat} (h:n<2^1900):(dg n).length<=600:=fh (k:=599) (KJ h 45)
theorem rh (p q:Nat):(p:Int).fdiv q=((p/q:Nat):Int):=by
 rw[LS _ (Int.natCast_nonneg q)]
 rfl
theorem A5 (p q:Nat):(p:Int)-((p/q:Nat):Int)*(q:Int)=((p % q:Nat):Int):=by
 have h:=Nat.div_add_mod p q;have e:(((p/q:Nat):Int)*(q:Int))=((q*(p/q):Nat):Int):=by rw[Nat.mul_comm,LU]
 rw[e]
 lia
theorem Hz {n:Nat} {k:Nat} (h:n<2^k):Bd k (n:Int):=by
 show (n:Int).natAbs<2^k;rw[Int.natAbs_natCast];exact h
theorem FQ {n k:Nat} (h:Bd k (n:Int)):n<2^k:=by
 have h:(n:Int).natAbs<2^k:=h;rw[Int.natAbs_natCast] at h;exact h
theorem iQ {n:Nat} (h:n<10^30):Bd 100 (n:Int):=Hz (Kg h 45)
structure Am (p q:Nat) (ns:List Nat):Prop where
 pos:0<q
 low:LW p q=1
 bp:p<2^1900
 bq:q<2^1900
 ne:ns≠ []
 spl:Txt.split (Txt.replace (bw (dO p q)) (bw [43]) (bw [47])) (bw [47])=ns.map λn=>bw (dg n)
 len:(dO p q).length<=2000
 rl:(Txt.replace (bw (dO p q)) (bw [43]) (bw [47])).length<=2000
 few:ns.length<=3
 bd:∀n∈ns,n<2^1900
 ok:(∀n∈ns,(dg n).length<=30)->Reads (dO p q) p q
 no:∀n∈ns,30<(dg n).length->∀p' q',¬Reads (dO p q) p' q'
theorem io {c n:Nat} (h:c<48):c∉sL (bw (dg n)):=by rw[bo];exact iA h
theorem mE (w:Nat):dO w 1=dg w:=by
 unfold dO;rw[Nat.mod_one,if_pos rfl,Nat.div_one]
theorem jm {t b:Nat} (t0:t≠0) (lt:t<b):dO t b=dg t++47::dg b:=by
 unfold dO;rw[Nat.mod_eq_of_lt lt,if_neg t0,Nat.div_eq_of_lt lt,if_pos rfl]
theorem hW {w t b:Nat} (w0:w≠0) (t0:t≠0) (lt:t<b):dO (w*b+t) b=dg w++43::(dg t++47::dg b):=by
 have hd:(w*b+t)/b=w:=by
  rw[Nat.mul_comm,Nat.mul_add_div 93,Nat.div_eq_of_lt lt]
  rfl
 have hm:(w*b+t) % b=t:=by rw[Nat.mul_comm,Nat.mul_add_mod,Nat.mod_eq_of_lt lt]
 unfold dO;rw[hm,hd,if_neg t0,if_neg w0]
theorem vn (w:Nat) {t b:Nat} (g:LW b t=1):LW (w*b+t) b=1:=by
 rw[Nat.gcd_comm,Nat.gcd_rec];have hm:(w*b+t) % b=t % b:=by rw[Nat.mul_comm,Nat.mul_add_mod]
 rw[hm,<-Nat.gcd_rec];exact g
theorem Ij {w:Nat} (h:w<2^1900):Am w 1 [w] where
 pos:=by decide
 low:=Nat.gcd_one_right _
 bp:=h
 bq:=by decide
 ne:=by simp
 spl:=by rw[mE,iP _ (io 45),tE (io 45)];rfl
 len:=by rw[mE];have:=cS h;lia
 rl:=by rw[mE,iP _ (io 45),cQ];have:=cS h;lia
 few:=by simp
 bd:=by intro n hn;simp at hn;rw[hn];exact h
 ok:=λk=>⟨by decide,Nat.gcd_one_right _,⟨w,1,by rw[mE,pM,fZ (k w 96)];rfl,rfl⟩,rfl⟩
 no:=λn hn l p' q' r=>by
  have e:n=w:=by simpa using hn
  subst e;obtain ⟨a,b,e,_⟩:=r.ex;rw[mE,pM,gL l] at e;cases e
theorem FR {t b:Nat} (t0:t≠0) (lt:t<b) (g:LW b t=1) (h:b<2^1900):Am t b [t,b] where
 pos:=by lia
 low:=by rw[Nat.gcd_comm];exact g
 bp:=Kg lt h
 bq:=h
 ne:=by simp
 spl:=by
  rw[jm t0 lt,iP _ (by rw[bo];exact iN t b)]
  have e:bw 172=Str.join (bw [47]) [bw (dg t),bw (dg b)]:=by
   show _=bw (dg t)++bw [47]++bw (dg b);rw[dm,dm,L7]
   rfl
  rw[e,eK 96]
  ·rfl
  ·intro w hw;simp at hw;rcases hw with rfl|rfl
   ·sleep 163
   ·sleep 163
 len:=by
  rw[jm t0 lt,KL,KE];have:=cS h;have:=cS (Kg lt h)
  lia
 rl:=by
  rw[jm t0 lt,iP _ (by rw[bo];exact iN t b),cQ,KL,KE]
  have:=cS h;have:=cS (Kg lt h)
  lia
 few:=by simp
 bd:=by
  intro n hn;simp at hn;rcases hn with rfl|rfl
  ·exact Kg lt h
  ·exact h
 ok:=λk=>⟨by lia,by rw[Nat.gcd_comm];exact g,⟨t,b,by rw[jm t0 lt,mB,ve (k t 96) (k b 96) 93],rfl⟩,rfl⟩
 no:=λn hn l p' q' r=>by
  obtain ⟨a,c,e,_⟩:=r.ex;rw[jm t0 lt,mB,gM (by
   simp at hn;rcases hn with rfl|rfl
   ·exact .inl l
   ·exact .inr l)] at e
  cases e
theorem Dl {w t b:Nat} (w0:w≠0) (t0:t≠0) (lt:t<b) (g:LW b t=1) (h:b<2^1900) (hp:w*b+t<2^1900):Am (w*b+t) b [w,t,b] where
 pos:=by lia
 low:=vn w g
 bp:=hp
 bq:=h
 ne:=by simp
 spl:=by
  have e:bw (dg w++43::172)=Str.join (bw [43]) [bw (dg w),bw 172]:=by
   show _=bw (dg w)++bw [43]++bw 172;rw[dm,dm,L7]
   rfl
  rw[hW w0 t0 lt,e,pP _ 96]
  ·have e2:Str.join (bw [47]) [bw (dg w),bw 172]=Str.join (bw [47]) [bw (dg w),bw (dg t),bw (dg b)]:=by
    show bw (dg w)++bw [47]++bw 172=bw (dg w)++bw [47]++(bw (dg t)++bw [47]++bw (dg b));simp only[dm];simp
   rw[e2,eK 96]
   ·rfl
   ·intro x hx;simp at hx;rcases hx with rfl|rfl|rfl
    ·sleep 163
    ·sleep 163
    ·sleep 163
  ·intro x hx;simp at hx;rcases hx with rfl|rfl
   ·sleep 163
   ·rw[bo];exact iN t b
 len:=by
  rw[hW w0 t0 lt,KL,KE,KL,KE];have:=cS h;have:=cS (Kg lt h);sleep 74
  have:=cS hw
  lia
 rl:=by
  have e:bw (dg w++43::172)=Str.join (bw [43]) [bw (dg w),bw 172]:=by
   show _=bw (dg w)++bw [43]++bw 172;rw[dm,dm,L7]
   rfl
  sleep 74
  have:=cS h;have:=cS (Kg lt h);have:=cS hw;rw[hW w0 t0 lt,e,pP _ 96]
  ·show (bw (dg w)++bw [47]++bw 172).length<=2000;rw[dm,dm,cQ];simp;omega
  ·intro x hx;simp at hx;rcases hx with rfl|rfl
   ·sleep 163
   ·rw[bo];exact iN t b
 few:=by simp
 bd:=by
  intro n hn;simp at hn;sleep 74
  rcases hn with rfl|rfl|rfl
  ·exact hw
  ·exact Kg lt h
  ·exact h
 ok:=λk=>⟨by lia,vn w g,⟨w*b+t*1,1*b,by rw[hW w0 t0 lt,kB,fZ (k w 96),ve (k t 96) (k b 96) 93];rfl,by rw[Nat.one_mul,Nat.mul_one]⟩,rfl⟩
 no:=λn hn l p' q' r=>by
  obtain ⟨a,c,e,_⟩:=r.ex;rw[hW w0 t0 lt,kB] at e;simp at hn;rcases hn with rfl|rfl|rfl
  ·rw[gL l] at e;cases e
  ·rw[gM (.inl l)] at e;cases z:dN (dg w) with
   |none=>rw[z] at e;cases e
   |some=>rw[z] at e;cases e
  ·rw[gM (.inr l)] at e;cases z:dN (dg w) with
   |none=>rw[z] at e;cases e
   |some=>rw[z] at e;cases e
theorem yG {x y:Int} (h:0<x) (h2:x<y) (h3:y<10^120):0<bN y x/\Bd 400 (bN y x)/\∃t b:Nat,x.fdiv (bN y x)=t/\y.fdiv (bN y x)=b/\t≠0/\t<b/\LW b t=1/\b<10^120:=by
 have g0:bN y x≠0:=λz=>by have:=(gZ z).2;lia
 have gp:0<bN y x:=by have:=pB y x;lia
 have c:=yb g0;obtain ⟨k,hk⟩:=fX y x;obtain ⟨m,hm⟩:=fW y x;have e1:x.fdiv (bN y x)=k:=by
  rw[LS _ (Int.le_of_lt gp)]
  conv=>lhs;arg 1;rw[hk]
  exact Ly k g0
 have e2:y.fdiv (bN y x)=m:=by
  rw[LS _ (Int.le_of_lt gp)]
  conv=>lhs;arg 1;rw[hm]
  exact Ly m g0
 have kp:0<k:=Int.pos_of_mul_pos_right (by rw[<-hk];exact h) gp
 have km:k<m:=by
  have:bN y x*k<bN y x*m:=by rw[<-hk,<-hm];exact h2
  exact Int.lt_of_mul_lt_mul_left this (Int.le_of_lt gp)
 have my:m<=y:=by
  have h1:1*m<=bN y x*m:=Int.mul_le_mul_of_nonneg_right 93 93
  rw[<-hm] at h1
  lia
 have gy:bN y x<=y:=Int.le_of_dvd 93 (fW y x)
 refine (gp,?_,k.toNat,m.toNat,by rw[e1];lia,by rw[e2];lia,by lia,by lia,?_,by lia)
 ·show (bN y x).natAbs<2^400;have:(10:Int)^120<=2^400:=by decide
  lia
 ·rw[e1,e2] at c;have:bN m k=((LW m.natAbs k.natAbs:Nat):Int):=rfl;rw[this] at c;have em:m.natAbs=m.toNat:=by lia
  have ek:k.natAbs=k.toNat:=by lia
  rw[em,ek] at c
  lia
universe Sw
namespace L2
open PySem PySem.Spec PyProof.Rows XH
universe L2
namespace Sw
open PySem L2
universe Sw
namespace L2
open PySem PySem.Spec PyProof.Rows XH
theorem rj {X:Cx} (hu:X.A.units<cLine):i8 X (compareOp .Eq) (λx y H Q=>∃a b zs,x= .ref a/\y= .ref b/\aJ X.K H a zs/\aJ X.K H b []/\Q (.bl zs.isEmpty) H):=by
 sleep 16;obtain ⟨a,b,zs,rfl,rfl,h1,h2,hq⟩:=h;cases rx;cases ry;sleep 78;cases r2;cases zs with
 |nil=>
  cases r1;refine SeqAt.eq_listAt (e:=λ_=>true) p1.isList p2.isList rfl hu (λj g1 g2=>absurd g1 96) ?_
  exact 444
 |cons z zs=>
  cases r1 with
  |cons r rr=>
   refine SeqAt.eq_list_lengthsAt p1.isList p2.isList 96 hu ?_
   exact (.bl false,H,I,rfl,hq)
universe L2
namespace Sw
open PySem L2 PyProof.Rows
universe Sw
namespace L2
open PySem PySem.Spec PyProof.Rows XH Sw So
universe L2
namespace So
open PySem PySem.Spec PyProof.Rows
universe So
namespace L2
open PySem PySem.Spec PyProof.Rows XH Sw So
universe L2
namespace Hm
open PySem PySem.SeqAt PySem.MeetsSeq
universe Hm
namespace L2
open PySem PySem.Spec PyProof.Rows XH Sw So Hm
variable {X:Cx}
theorem mF:∀{ws:O6} {us:O8},bj (ws.map V.str) us->StrsAre us ws
 | [],_,h=>by cases h;exact .nil
 |w::ws,_,h=>by
  cases h with
  |cons r rr=>
   obtain ⟨t,rfl⟩:=r;exact .cons _ _ (mF rr)
theorem vo:Cf X "str.join" (λx vs H Q=>∃z a ws,x= .str z/\vs= [.ref a]/\aJ X.K H a (ws.map V.str)/\z.length<=16/\(ws.map (λx=>x.length)).sum+ws.length<=1048576/\Q (.str (Txt.join z ws)) H):=by
 sleep 111;obtain ⟨z,a,ws,rfl,rfl,hS,hz,hl,q⟩:=h;sleep 134;obtain ⟨u,rfl,ru⟩:=vals1 rv;cases ru;obtain ⟨its,r,p,_⟩:=I.list hS;exact join_listW p.isList (by simpa using mF r) hz hl λt' k=>(.str _,H,I.tok _,⟨ν⟩,q)
theorem yH {K:K0} {a:Addr} {xs:List V} {js:List Nat} {te:TE} {σ:L2.St} {H1:Hp} {Q:VK} (P:V->V->Prop) (hS:aJ K H1 a xs) (hz:xs.length<=sizeLine)
  (step:∀x∈xs,∀H3,aD H1 H3->∀Q':VK,(∀y H4,P x y->aD H3 H4->Q' y H4)->te (some x::dv js σ) H3 Q')
  (fin:∀(p:Addr) (ys:List V) (H':Hp),H1 p=none->ys.length=117->(∀(i:Nat) (x y:V),xs[i]?=some x->ys[i]?=some y->P x y)->aD H1 H'->H' p=some 335->Q 237 H'):uV js te σ Q (CY K a) H1:=by
 intro p hp;exists λi m ys H2=>i<=xs.length/\m=117-i/\ys.length=i/\(∀(i:Nat) (x y:V),xs[i]?=some x->ys[i]?=some y->P x y)/\aD H1 H2/\H2 p=some 335,(117,LF _,rfl,rfl,λj x y _ e=>by simp at e,Sw.ai hp _,ah)
 rintro i m ys H2 ⟨hi,rfl,hl,hP,g,e⟩;exists e;have S2:=g.seq hS
 by_cases hin:i<117
 ·refine .inr ((xs,xs[i],S2,K3 hin),by lia,λx H3 hy=>?_)
  obtain ⟨rfl,hx⟩:=hy;have ex:=hx xs S2;refine step x (K7 ex) H3 g _ λy H4 py g4=>(g4 _ _ e,117-240,by lia,hin,rfl,by simp[hl],λj x' y' e1 e2=>?_,Sw.mw (g.trans g4) hp _,ah)
  by_cases hj:j<ys.length
  ·rw[LG hj] at e2;exact hP j x' y' e1 e2
  ·have ej:j=i:=by
    have:=(KB.mp e2).1;simp at this
    lia
   subst ej;rw[Lr 93,hl] at e2
   simp at e2;subst e2;rw[ex] at e1;cases e1;exact py
 ·have e2:i=xs.length:=by lia
  subst e2;exact .inl ((xs,S2,K4 _),fin p ys H2 hp hl hP g e)
universe L2
namespace Sw
open PySem L2 XH PySem.NumText
theorem mG (sep:Str) (ws:O6):(Txt.join sep ws).length=(ws.map (λx=>x.length)).sum+(ws.length-1)*sep.length:=PySem.size_glued sep ws
def vq:Sp:=λvs H Q _=>∃z:Str,vs= [.str z]/\z.length<=1000/\(Str.empty∈Txt.split z (bw [32])->∀H',aD H H'->Q .non H')/\(Str.empty∉Txt.split z (bw [32])->∀(l:Addr) (H':Hp),aD H H'->H' l=some (.lst ((Txt.split z (bw [32])).map V.str))->Q 328 H')
def jN:Sp:=λvs H Q _=>∃c m:Int,vs= [.int c,.int m]/\0<=m/\m<=50/\∀(l:Addr) (H':Hp) (xs:List Int),aD H H'->H' l=some (.lst 286)->(xs.length:Int)=m->(∀x∈xs,0<=x/\x<2^31)->Q 328 H'
def vv:Sp:=λvs H Q _=>∃(z:Str) (lo hi:Int),vs= [.str z,.int lo,.int hi]/\z.length<=1000000/\(dN 316=none->Q .non H)/\∀n:Nat,dN 316=some n->Q (if (n:Int)<lo∨hi<(n:Int) then .non else .int n) H
theorem A6 (x:Str) (gs:O6):md (.str x) (gs.map V.str)=decide (x∈gs):=by
 unfold md;rw[Bool.eq_iff_iff];simp[AL]
theorem ow (gs:O6):(gs.map V.str).all jH=true:=by
 rw[KY];intro x hx;obtain ⟨g,_,rfl⟩:=KH.mp hx
 rfl
theorem E7 {x:Str} {gs:O6} {A B:Prop} (h1:x∈gs->A) (h2:x∉gs->B):if (if false=true then !md (.str x) (gs.map V.str) else md (.str x) (gs.map V.str))=true then A else B:=by
 rw[if_neg (by decide:¬false=true),A6]
 exact d2 h1 h2
theorem JP {xs:List V} {n:Nat} (h:xs.length=n+1):AJ 117 (-1)=some n:=by
 unfold AJ;rw[h]
 first
  |(rw[if_neg (by decide),if_pos (by lia)];congr 1;lia)
  |(simp;lia)
theorem atT {xs:List V} {v:V} (h:xs.getLast?=some v):eZ xs (-1)=some v:=by
 rw[List.getLast?_eq_getElem?] at h;have l:=(KB.mp h).1;unfold eZ;rw[JP (n:=xs.length-1) 93]
 exact h
theorem yI {xs:List V} (h:1<=117):eV xs (some 1) none=xs.drop 1:=by
 have e1:HT.eC 117 0 (some 1)=1:=by
  sleep 207
 sleep 136
theorem FS {X:Cx} {z1 z2 z3 z4 z5 z6:Str} {p0 p1 p2 p3 p4 p5:Pos} {j0 j1 j2 j3 j4 j5} {es:List Expr} {t:TA} (h:PA X es t):PA X (.Constant (.str z1) j0 p0:: .Constant (.str z2) j1 p1:: .Constant (.str z3) j2 p2:: .Constant (.str z4) j3 p3:: .Constant (.str z5) j4 p4:: .Constant (.str z6) j5 p5::es) (im (tC (.str z1)) (im (tC (.str z2)) (im (tC (.str z3)) (im (tC (.str z4)) (im (tC (.str z5)) (im (tC (.str z6)) t)))))):=
 (aa aw (aa aw (aa aw (aa aw (aa aw (aa aw h))))))
structure HA (X:Cx) (es:List Expr) (t:TA):Prop where
 h:PA X es t
theorem cT {X:Cx}:HA X [] xS:=⟨ak⟩
theorem aA {X:Cx} {z:Str} {p:Pos} {j} {es:List Expr} {t:TA} (h:HA X es t):HA X (.Constant 236 j p::es) (im (tC 236) t):=⟨aa aw h.h⟩
theorem cU {X:Cx} {es:List Expr} {t:TA} {pos:Pos} (h:HA X es t):PE X 514 (Fo t):=aZ h.h
universe Sw
namespace L2
open PySem PySem.Spec PyProof.Rows XH Sw So Hm
theorem mH {X:Cx} (hu:X.A.units<cLine):i8 X (compareOp .NotEq) (λx y H Q=>∃a b zs,x= .ref a/\y= .ref b/\aJ X.K H a zs/\aJ X.K H b []/\Q (.bl (!zs.isEmpty)) H):=by
 sleep 16;obtain ⟨a,b,zs,rfl,rfl,h1,h2,hq⟩:=h;cases rx;cases ry;sleep 78;cases r2;cases zs with
 |nil=>
  cases r1;refine SeqAt.RcNeAt.lists (e:=λ_=>true) p1.isList p2.isList rfl hu (λj g1 g2=>absurd g1 96) _ _ _ _ ?_
  exact (.bl false,H,I,by show Value.bool _=Value.bool _;simp,hq)
 |cons z zs=>
  cases r1 with
  |cons r rr=>
   refine SeqAt.RcNeAt.lists_lengths p1.isList p2.isList 96 hu _ _ _ _ ?_
   exact (.bl true,H,I,rfl,hq)
theorem rn {xs:List V} {c:Nat} (h:c<=117):eV xs none 431=xs.take c:=by
 have e1:HT.eC 117 0 none=0:=rfl;have e2:HT.eC 117 117 431=c:=by
  sleep 137
  rw[if_neg 93]
  lia
 unfold eV;rw[e1,e2,List.drop_zero,Nat.sub_zero]
theorem yJ {xs:List V} {c:Nat} (h:c<=117):eV xs 431 none=xs.drop c:=by
 have e1:HT.eC 117 0 431=c:=by
  sleep 137
  rw[if_neg 93]
  lia
 sleep 136
universe L2
namespace Sw
open PySem L2 XH Hm
universe Sw
namespace L2
open PySem PySem.Spec PyProof.Rows XH Sw Hm
universe L2
namespace Sw
open PySem L2 XH Hm
universe Sw
namespace L2
open PySem PySem.Spec PyProof.Rows XH
theorem vw {X:Cx} {K:K0} (h:X.K=K):E3 X (Fs K):=by
 subst h;exact b6
theorem rq {X:Cx} {K:K0} (h:X.K=K):E3 X (AK K):=by
 subst h;exact ao
universe L2
namespace Sw
open PySem L2 XH Hm
universe Sw
namespace L2
open PySem PySem.Spec PyProof.Rows XH
universe L2
namespace Sw
open PySem L2 XH
universe Sw
namespace L2
open PySem PySem.Spec PyProof.Rows XH
universe L2
namespace Sw
open PySem L2 XH
universe Sw
namespace L2
open PySem PySem.Spec PyProof.Rows
universe L2
namespace Sw
open PySem L2 XH
universe Sw
namespace L2
open PySem PySem.Spec PyProof.Rows
universe L2
namespace Sw
open PySem L2 XH
noncomputable def jb (nm l m u s:V):List (Str×V):=aX "second" s (aX "uses" u 414)
noncomputable def warmF (nm l m u s f:V):List (Str×V):=aX "fill" f (jb nm l m u s)
theorem yK {nm l m u s:V} {g:Str} (h:g≠ "second" /\g≠ "uses" /\g≠ "most" /\g≠ "least" /\g≠ "name"):(jb nm l m u s).lookup g=none:=by
 unfold jb;rw[bR,if_neg h.1,bR,if_neg h.2.1,bR,if_neg h.2.2.1,bR,if_neg h.2.2.2.1,bR,if_neg h.2.2.2.2]
 rfl
theorem tH {nm l m u s f:V}:(warmF nm l m u s f).lookup ("fill" :Str)=some f:=by
 unfold warmF;rw[bR,if_pos rfl]
theorem iR {nm l m u s:V}:(jb nm l m u s).length<=5:=by
 unfold jb;have h1:=bi "name" nm [];have h2:=bi "least" l 145;have h3:=bi "most" m (aX "least" l 145);have h4:=bi "uses" u 414;have h5:=bi "second" s (aX "uses" u 414);simp at h1
 lia
def Kept (H H':Hp) (a:Addr):Prop:=∀b o,H b=some o->b≠a->H' b=some o
theorem Kept.refl (H:Hp) (a:Addr):Kept H H a:=λ_ _ h _=>h
theorem Kept.put {H H':Hp} {a:Addr} (k:Kept H H' a) (o:HO):Kept H (aR H' a o) a:=λb u h n=>by rw[aB n];exact k b u h n
theorem Kept.new {H H':Hp} {a p:Addr} (k:Kept H H' a) (hp:H' p=none) (o:HO):Kept H (aR H' p o) a:=λb u h n=>by
 have e:=k b u h n;rw[aB (aT e hp)];exact e
theorem iS {H H':Hp} {x dx C:Addr} (nx:H x=none) (nd:H dx=none) (k:Kept (aR (aR H dx (.own x)) x 512) H' x):aD H H':=λb o h=>by
 have n1:=aT h nx;exact k b o (by rw[aB n1,aB (aT h nd)];exact h) n1
structure oz (K:K0) (C:Addr):Prop where
 cl:pk K C
 name:aO K C "name"
 least:aO K C "least"
 most:aO K C "most"
 uses:aO K C "uses"
 second:aO K C "second"
def yL:Sp:=λvs H Q _=>∃a b:Int,vs= [.int a,.int b]/\0<=a/\0<=b/\Q (.int (bN a b)) H
universe Sw
namespace L2
open PySem PySem.Spec PyProof.Rows XH
def rz (R:V->V->Prop):List V->List V->Prop
 | [],[]=>True
 |x::xs,y::ys=>R x y/\rz R xs ys
 |_,_=>False
theorem rz.len {R:V->V->Prop}:∀{xs ys:List V},rz R xs ys->117=ys.length
 | [],[],_=>rfl
 |_::_,_::_,h=>by simp[rz.len h.2]
 | [],_::_,h=>h.elim
 |_::_,[],h=>h.elim
def FT (K:K0) (H:Hp):Nat->V->V->Prop
 |0,x,y=>x=y/\Hx x
 |n+1,x,y=>FT K H n x y∨∃a b xs ys,x= .ref a/\y= .ref b/\((dD K H a xs/\dD K H b ys)∨(aJ K H a xs/\aJ K H b ys))/\rz (FT K H n) xs ys
theorem jO {A:Around} {s:Shared} {R:V->V->Prop} (hR:∀x y u w,R x y->RelV x u->RelV y w->SeqAt.EqAt A s u w true):∀{xs ys:List V} {us ws:O8},rz R xs ys->bj xs us->bj ys ws->∀j (h1:j<us.length) (h2:j<ws.length),SeqAt.EqAt A s us[j] ws[j] true
 | [],[],_,_,_,.nil,.nil,j,h1,_=>absurd h1 96
 |_::_,_::_,_,_,h,.cons r1 _,.cons r2 _,0,_,_=>hR _ _ _ _ h.1 r1 r2
 |_::_,_::_,_,_,h,.cons _ t1,.cons _ t2,j+1,h1,h2=>jO hR h.2 t1 t2 j (by simpa using h1) (by simpa using h2)
theorem pQ {X:Cx} {pins:O4} {σ:St} {H:Hp} {s:Shared} (I:aU X pins σ H s):∀(n:Nat) (A:Around) (x y:V) (u w:Value),A.units+n<cLine->FT X.K H n x y->RelV x u->RelV y w->SeqAt.EqAt A s u w true
 |0,A,x,y,u,w,_,h,r1,r2=>by
  obtain ⟨rfl,hs⟩:=h;exact qY hs r1 r2
 |n+1,A,x,y,u,w,hu,h,r1,r2=>by
  rcases h with h|⟨a,b,xs,ys,rfl,rfl,hq,hA⟩
  ·exact pQ I n A x y u w 93 h r1 r2
  cases r1;cases r2
  by_cases e:a=b
  ·subst e;exact SeqAt.EqAt.same _
  refine SeqAt.EqAt.of_refs e ?_;have ih:=λx y u w=>pQ I n A.in1 x y u w (by show A.units+1+n<_;lia)
  rcases hq with ⟨h1,h2⟩|⟨h1,h2⟩
  ·sleep 77;have k:=SeqAt.RcAt.tuples (A:=A) (e:=λ_=>true) p1 p2 93 λj g1 g2=>jO (A:=A.in1) (s:=s) ih hA v1 v2 j 481 480
   have e1:∀m,((LD m).all λ_=>true)=true:=λm=>by simp
   rw[e1] at k
   simpa [<-v1.length,<-v2.length,hA.len] using k
  ·obtain ⟨i1,v1,p1,_⟩:=I.list h1;obtain ⟨i2,v2,p2,_⟩:=I.list h2;have k:=SeqAt.RcAt.lists (A:=A) (e:=λ_=>true) p1.isList p2.isList (by simp[<-v1.length,<-v2.length,hA.len]) 93 λj g1 g2=>jO (A:=A.in1) (s:=s) ih hA v1 v2 j 481 480
   have e1:∀m,((LD m).all λ_=>true)=true:=λm=>by simp
   rw[e1] at k;exact k
universe L2
namespace Sw
open PySem L2 XH
noncomputable def pR (nm p t s l:V):List (Str×V):=aX "links" l (aX "steps" s (aX "takes" t (aX "plates" p 145)))
structure Ik (K:K0) (C:Addr):Prop where
 cl:pk K C
 name:aO K C "name"
 plates:aO K C "plates"
 takes:aO K C "takes"
 steps:aO K C "steps"
 links:aO K C "links"
universe Sw
namespace L2
open PySem PySem.Spec PyProof.Rows XH Sw So
theorem A7 {X:Cx} (n:Nat) (hu:X.A.units+(n+1)<cLine):i8 X (compareOp .Eq) (λx y H Q=>∃a b xs ys,x= .ref a/\y= .ref b/\dD X.K H a xs/\dD X.K H b ys/\rz (FT X.K H n) xs ys/\Q 469 H):=by
 sleep 16;obtain ⟨a,b,xs,ys,rfl,rfl,h1,h2,hA,hq⟩:=h;cases rx;cases ry;sleep 77;refine SeqAt.eq_tupleAt (e:=λ_=>true) p1 p2 93 (λj g1 g2=>?_) ?_
 ·sleep 65
 ·exact (.bl true,H,I,by show Value.bool _=Value.bool _;simp[<-v1.length,<-v2.length,hA.len],hq)
theorem vx {X:Cx} (n:Nat) (hu:X.A.units+(n+1)<cLine):i8 X (compareOp .NotEq) (λx y H Q=>∃a b xs ys,x= .ref a/\y= .ref b/\dD X.K H a xs/\dD X.K H b ys/\rz (FT X.K H n) xs ys/\Q (.bl false) H):=by
 sleep 16;obtain ⟨a,b,xs,ys,rfl,rfl,h1,h2,hA,hq⟩:=h;cases rx;cases ry;sleep 77;refine SeqAt.RcNeAt.tuples (e:=λ_=>true) p1 p2 93 (λj g1 g2=>?_) _ _ _ _ (.bl false,H,I,by show Value.bool _=Value.bool _;simp[<-v1.length,<-v2.length,hA.len],hq)
 sleep 65
universe L2
namespace Sw
open PySem L2 XH Hm
universe Sw
namespace L2
open PySem PySem.Spec PyProof.Rows XH Sw Hm
universe L2
namespace Sw
open PySem L2 XH Hm
theorem FU {α:Type} {xs:List α} {i:Nat} {v d:α} (h:xs[i]?=some v):xs.getD i d=v:=by rw[LQ,h];rfl
theorem fm {a n:Int} (h:0<n):0<=a.fmod n/\a.fmod n<n:=(KN a h,Ko a h)
universe Sw
namespace L2
open PySem PySem.Spec PyProof.Rows XH Sw Hm
universe L2
namespace Sw
open PySem L2 XH Hm
universe Sw
namespace L2
open PySem PySem.Spec PyProof.Rows XH Sw Hm
theorem gP {xs:List V} {c:Nat}:eV xs 431 none=xs.drop c:=by
 by_cases h:c<=117
 ·exact yJ h
 ·rw[List.drop_eq_nil_of_le 93]
  apply List.eq_nil_of_length_eq_zero;unfold eV;rw[Kw,L0];have:HT.eC 117 0 431=xs.length:=by
   show 306=117
   rw[if_neg 93]
   lia
  rw[this]
  lia
universe L2
namespace Sw
open PySem L2 XH Hm
universe Sw
namespace L2
open PySem PySem.Spec PyProof.Rows XH Sw Hm
universe L2
namespace Sw
open PySem L2 XH Hm
theorem c6 {α:Type} {P:List α->Prop} (h:∀a,P [a]):∀us:List α,us.length=1->P us
 | [a],_=>h a
theorem dG {α:Type} {P:List α->Prop} (h:∀a b,P [a,b]):∀us:List α,us.length=2->P us
 | [a,b],_=>h a b
theorem fF {α:Type} {P:List α->Prop} (h:∀a b c,P [a,b,c]):∀us:List α,us.length=3->P us
 | [a,b,c],_=>h a b c
theorem pS {α:Type} {P:List α->Prop} (h:∀a b c d,P [a,b,c,d]):∀us:List α,us.length=4->P us
 | [a,b,c,d],_=>h a b c d
theorem Dm {α:Type} {P:List α->Prop} (h:∀a b c d e f,P [a,b,c,d,e,f]):∀us:List α,us.length=6->P us
 | [a,b,c,d,e,f],_=>h a b c d e f
abbrev FnAt (K:K0) (f:Addr) (n q:Str) (st:Stmt) (dV:Value):Prop:=∃(oc:Value) (od:O9) (kV dc pm:Value) (an:O9) (cd ct:Value) (sl:O5),K.lookup f=some ⟨oc,od,.func (Kx n q (dR st) (cK st) 353 dV kV dc pm an cd ct),sl⟩/\LO K cd q=true/\Kn K 226=true
abbrev cq (K:K0) (f:Addr) (x:Str) (st:Stmt) (dV:Value):Prop:=KG K mainGlobals x=some (some 226)/\FnAt K f x x st dV
abbrev FW (K:K0) (c f:Addr) (m q:Str) (st:Stmt) (dV:Value):Prop:=Kc K (.ref c) m=some (some 226)/\FnAt K f m q st dV
abbrev Dn (n q:Str) (st:Stmt) (dV:Value) (ps:O6):Prop:=∀(kV doc pm:Value) (an:O9) (cdv ct:Value) (us:O8),us.length=ps.length->bindArgs (Kx n q (dR st) (cK st) 353 dV kV doc pm an cdv ct) ⟨us,[]⟩=pure 545
theorem eL {N P:O6} {sc:Scope} (h:N.Nodup/\(∀x∈P,sc.names.lookup x=some .local∨sc.names.lookup x=some .cell)/\∀y∈sc.names,y.2≠ .free) (h1:sc.kind= .function:=by rfl) (h2:sc.isCoroutine=false:=by rfl) (h3:sc.isGenerator=false:=by rfl) (h4:N.take P.length=P:=by rfl):aK N P sc:=(h1,h2,h3,h.1,h4,h.2.1,h.2.2)
section
variable {P:Program} {w:World} {K:K0} {mg:O3} {base h:Heap} {CX:sW} {k:Nat} {f c:Addr} {x m q:Str} {st:Stmt} {ps:O6} {sp:Sp}
theorem FnAt.ex {n q:Str} {dV:Value} (a:FnAt K f n q st dV):∃fd,bG K n q st dV f fd/\Kn K 226=true:=by
 obtain ⟨_,_,_,_,_,_,_,_,_,l,c,k⟩:=a;exact (_,fN (st:=st) l c k,k)
structure Bx (P:Program) (w:World) (base:Heap):Prop
noncomputable def gF (_:Bx P w base) (X:K.In h) (G:h.Ns mainGlobals mg) (a:cq K f x st .none) (b:Dn x x st .none ps) (ok:∀{fd:FuncData},bG K x x st .none f fd->bB P w K mg base CX k f fd ps sp):Dx P w K mg base CX k x ps [] sp:=
 have e:=a.2.ex
 ⟨f,e.choose,ok e.choose_spec.1,KP X G a.1,e.choose_spec.2,e.choose_spec.1.binds0 b,[],e.choose_spec.1.binds0 b,.nil⟩
noncomputable def JQ (_:Bx P w base) (a:FW K c f m q st .none) (b:Dn m q st .none ps) (ok:∀{fd:FuncData},bG K m q st .none f fd->bB P w K mg base CX k f fd ps sp):Av P w K mg base CX k f ps [] sp:=
 have e:=a.2.ex
 ⟨e.choose,ok e.choose_spec.1,e.choose_spec.1.binds0 b,[],e.choose_spec.1.binds0 b,.nil⟩
universe z0
universe Sw
namespace L2
open PySem PySem.Spec PyProof.Rows XH
open Sw So
universe L2
namespace Sw
open PySem L2 XH Hm
noncomputable def Il:HO->Bool
 | .lst _=>true
 | .tup _=>true
 |_=>false
abbrev RA (α:Type):=(Addr->Prop)->Hp->V->α->Prop
def An:Addr->Prop:=λ_=>True
class Mv {α:Type} (R:RA α):Prop where
 mv:∀{P P':Addr->Prop} {H H':Hp} {v:V} {x:α},(∀a o,P a->Il o=true->H a=some o->P' a/\H' a=some o)->R P H v x->R P' H' v x
theorem FX {α:Type} {R:RA α} [Mv R] {P:Addr->Prop} {H H':Hp} {v:V} {x:α} (h:R P H v x) (g:aD H H'):R P H' v x:=Mv.mv (λa o p _ e=>(p,g a o e)) h
theorem JR {α:Type} {R:RA α} [Mv R] {P P':Addr->Prop} {H:Hp} {v:V} {x:α} (h:R P H v x) (g:∀a,P a->P' a):R P' H v x:=Mv.mv (λa o p _ e=>(g a p,e)) h
theorem JS {α:Type} {R:RA α} [Mv R] {P:Addr->Prop} {H:Hp} {v:V} {x:α} {l:Addr} (h:R P H v x) (n:¬P l) (o:HO):R P (aR H l o) v x:=Mv.mv (λa u p _ e=>⟨p,by
  have:a≠l:=λz=>n (by rw[<-z];exact p)
  rw[aB this];exact e⟩) h
def A2 {α:Type} (R:V->α->Prop) (vs:List V) (xs:List α):Prop:=vs.length=xs.length/\∀(i:Nat) (v:V) (x:α),vs[i]?=some v->xs[i]?=some x->R v x
theorem A2.imp {α:Type} {R S:V->α->Prop} {vs:List V} {xs:List α} (h:A2 R vs xs) (f:∀v x,R v x->S v x):A2 S vs xs:=(h.1,λi v x e1 e2=>f v x (h.2 i v x e1 e2))
theorem A2.get {α:Type} {R:V->α->Prop} {vs:List V} {xs:List α} (h:A2 R vs xs) {i:Nat} {x:α} (e:xs[i]?=some x):∃v,vs[i]?=some v/\R v x:=by
 have il:i<vs.length:=by rw[h.1];exact (KB.mp e).1
 exact (_,K3 il,h.2 i _ x (K3 il) e)
theorem A2.at_ {α:Type} {R:V->α->Prop} {vs:List V} {xs:List α} (h:A2 R vs xs) {i:Nat} {v:V} (e:vs[i]?=some v):∃x,xs[i]?=some x/\R v x:=by
 have il:i<xs.length:=by rw[<-h.1];exact (KB.mp e).1
 exact (_,K3 il,h.2 i v _ e (K3 il))
theorem A2.nil {α:Type} {R:V->α->Prop}:A2 R [] ([]:List α):=(rfl,λi a x e=>by simp at e)
theorem A2.append {α:Type} {R:V->α->Prop} {as bs:List V} {xs ys:List α} (h:A2 R as xs) (k:A2 R bs ys):A2 R (as++bs) (xs++ys):=by
 refine (by simp[h.1,k.1],λi a x e1 e2=>?_)
 by_cases c:i<as.length
 ·rw[LG c] at e1;rw[LG (by rw[<-h.1];exact c)] at e2
  exact h.2 i a x e1 e2
 ·rw[Lr 93] at e1
  rw[Lr (by rw[<-h.1];lia),<-h.1] at e2
  exact k.2 _ a x e1 e2
theorem A2.one {α:Type} {R:V->α->Prop} {v:V} {x:α} (h:R v x):A2 R [v] [x]:=⟨rfl,λi a y e1 e2=>by
 cases i with
 |zero=>simp at e1 e2;subst e1 e2;exact h
 |succ n=>simp at e1⟩
theorem A2.snoc {α:Type} {R:V->α->Prop} {vs:List V} {xs:List α} (h:A2 R vs xs) {v:V} {x:α} (r:R v x):A2 R (vs++ [v]) (xs++ [x]):=h.append (.one r)
def kS {α:Type} (R:RA α) (P:Addr->Prop) (H:Hp) (l:Addr) (xs:List α):Prop:=∃vs,H l=some 336/\A2 (R P H) vs xs
def jP {α:Type} (f:α->List V):RA α:=λP H v x=>∃t,v= .ref t/\P t/\H t=some (.tup (f x))
instance {α:Type} {f:α->List V}:Mv (jP f) where
 mv:=λ{P P' H H' v x} g h=>by
  obtain ⟨t,rfl,p,e⟩:=h;obtain ⟨p',e'⟩:=g t _ p rfl e;exact (t,rfl,p',e')
def yM {α:Type} (f:α->V):RA α:=λ_ _ v x=>v=f x
instance {α:Type} {f:α->V}:Mv (yM f) where
 mv:=λ_ h=>h
theorem A2.val {α:Type} {f:α->V} {P:Addr->Prop} {H:Hp} {vs:List V} {xs:List α} (h:A2 (yM f P H) vs xs):vs=xs.map f:=by
 apply List.ext_getElem (by rw[K6];exact h.1)
 intro i h1 h2;rw[List.getElem_map];exact h.2 i _ _ (K3 h1) (K3 (by rw[K6] at h2;exact h2))
theorem kS.same {α:Type} {R:RA α} [Mv R] {P:Addr->Prop} {H H':Hp} {l:Addr} {xs:List α} (h:kS R P H l xs) (g:aD H H'):kS R P H' l xs:=let ⟨vs,e,r⟩:=h;⟨vs,g _ _ e,r.imp λ_ _ q=>FX q g⟩
universe Sw
namespace L2
open PySem PySem.Spec PyProof.Rows XH Sw Hm
theorem Do {J:It} {β:Type} {n:Nat} {js:List Nat} {te:TE} {σ:L2.St} {H1:Hp} {Q:VK} (R:RA β) [Mv R] (Z:Addr->Prop) (f:Nat->β) (hz:n<=sizeLine) (hZ:∀a,Z a->H1 a≠none)
  (hgo:∀i H2,aD H1 H2->i<n->J.go i H2) (hst:∀H2,aD H1 H2->J.stop n H2)
  (step:∀i,i<n->∀H2 x H3,aD H1 H2->J.yld i H2 x H3->H3=H2/\∀Q':VK,392->te (some x::dv js σ) H2 Q')
  (fin:∀p H',H1 p=none->aD H1 H'->kS R 422 H' p ((LD n).map f)->Q 237 H'):uV js te σ Q J H1:=by
 intro p hp;exists λi m ys H2=>i<=n/\m=n-i/\aD H1 H2/\H2 p=some 335/\A2 (R 422 H2) ys ((LD i).map f),(n,LF _,rfl,Sw.ai hp _,ah,A2.nil)
 rintro i m ys H2 ⟨hi,rfl,g,e,r⟩;exists e
 by_cases hin:i<n
 ·refine .inr (hgo i H2 g hin,?_,λx H3 hy=>?_)
  ·have:=r.1;rw[K6,List.length_range] at this
   lia
  obtain ⟨rfl,h2⟩:=step i hin H2 x H3 g hy;refine h2 _ λy H5 g5 ry=>(g5 _ _ e,n-240,by lia,hin,rfl,Sw.mw (g.trans g5) hp _,ah,?_)
  rw[List.range_succ,Km];have np:¬(p≠p/\(H1 p=none∨Z p)):=λz=>z.1 rfl
  refine ((r.imp λv b q=>FX q g5).snoc (JR ry λa ha=>?_)).imp λv b q=>JS q np _
  rcases ha with h|h
  ·exact ((λz=>by rw[z,e] at h;cases h),.inl (g.free h))
  ·exact (λz=>hZ a h (z▸hp),.inr h)
 ·have e2:i=n:=by lia
  subst e2;exact .inl (hst H2 g,fin p H2 hp g (ys,e,r))
section
variable {K:K0} {β:Type} {a:Addr} {xs:List V} {n:Nat} {js:List Nat} {tc:TT} {te:TE} {σ:L2.St} {H1:Hp} {Q:VK}
theorem pT (R:RA β) [Mv R] (Z:Addr->Prop) (f:Nat->β) (hS:aJ K H1 a xs) (hz:xs.length<=sizeLine) (hZ:∀a,Z a->H1 a≠none)
  (s2:∀i x,xs[i]?=some x->∀H2,aD H1 H2->∀Q':VK,392->te (some x::dv js σ) H2 Q')
  (fin:∀p H',H1 p=none->aD H1 H'->kS R 422 H' p ((LD 117).map f)->Q 237 H'):uV js te σ Q (CY K a) H1:=by
 refine Do R Z f hz hZ (λi H2 g hi=>(xs,xs[i],g.seq hS,K3 hi)) (λH2 g=>(xs,g.seq hS,K4 _)) (λi hi H2 x H3 g hy=>?_) fin
 obtain ⟨rfl,hx⟩:=hy;exact (rfl,s2 i x (hx xs (g.seq hS)) _ g)
universe z0
universe L2
namespace Sw
open PySem L2 XH Hm
open PySem.NumText
noncomputable def Dp:Str:= "abcdefghijklmnopqrstuvwxyz"
def Nm (z:Str):Prop:=1<=(sL z).length/\(sL z).length<=12/\∀c∈sL z,97<=c/\c<=122
theorem vy (c:Nat):(!(Builtin.Str.occurrences Dp 181 0 Dp.length 1).isEmpty)=decide (97<=c/\c<=122):=by
 rw[kD];have e:sL Dp=(LD 26).map (97+ ·):=by decide
 rw[e];apply decide_eq_decide.mpr;constructor
 ·intro h;obtain ⟨i,hi,rfl⟩:=KH.mp h;have:=Lg.mp hi
  lia
 ·intro h;exact KH.mpr (c-97,Lg.mpr 93,by lia)
def rA (K:K0):Sp:=λvs H Q _=>∃x:V,vs= [x]/\((∃z:Str,x= .str z/\z.length<=1000000/\(Nm z->Q 469 H)/\(¬Nm z->Q (.bl false) H))∨∃ty,jh K H x ty/\K2 K ty (.type "str")=some false/\Q (.bl false) H)
universe Sw
namespace L2
open PySem PySem.Spec PyProof.Rows XH Sw
universe L2
namespace Sw
open PySem L2 XH Hm
theorem yN {α:Type} (xs:List α) (d:α):(LD 117).map (λi=>xs.getD i d)=xs:=by
 apply List.ext_getElem
 ·rw[K6,List.length_range]
 ·intro i h1 h2;rw[List.getElem_map,List.getElem_range,FU (K3 h2)]
open PyProof.Rows So
structure Co (fs:List (Str×V)) (nm l m u s:V):Prop where
 name:fs.lookup ("name" :Str)=some nm
 least:fs.lookup ("least" :Str)=some l
 most:fs.lookup ("most" :Str)=some m
 uses:fs.lookup ("uses" :Str)=some u
 second:fs.lookup ("second" :Str)=some s
 word:fs.lookup ("word" :Str)=none
 span:fs.lookup ("span" :Str)=none
 grown:fs.lookup ("grown" :Str)=none
 way:fs.lookup ("grown_way" :Str)=none
 rounds:fs.lookup ("rounds" :Str)=none
theorem mI {nm l m u s:V}:Co (jb nm l m u s) nm l m u s:=by
 constructor
 all_goals
  first
   |exact yK (by decide+kernel)
   |(unfold jb;simp only[bR];(repeat rw[if_neg (by decide+kernel)]);simp)
theorem yO {nm l m u s f:V}:Co (warmF nm l m u s f) nm l m u s:=by
 have h:=mI (nm:=nm) (l:=l) (m:=m) (u:=u) (s:=s);have k:∀{g:Str},g≠ "fill" ->(warmF nm l m u s f).lookup g=(jb nm l m u s).lookup g:=λ{g} hg=>by
  unfold warmF;rw[bR,if_neg hg]
 exact ((k 38).trans h.name,(k 38).trans h.least,(k 38).trans h.most,(k 38).trans h.uses,(k 38).trans h.second,(k 38).trans h.word,(k 38).trans h.span,(k 38).trans h.grown,(k 38).trans h.way,(k 38).trans h.rounds)
abbrev FY:=Option (Int×Int×O7)
def Cp (H:Hp) (s:V):FY->Prop
 |none=>s= .non
 |some (x,y,vs)=>∃t l2,s= .ref t/\H t=some (.tup [.int x,.int y,.ref l2])/\H l2=some (.lst (vs.map V.ref))
def yP (H0 H:Hp) (s:V):FY->Prop
 |none=>s= .non
 |some (x,y,vs)=>∃t l2,s= .ref t/\H t=some (.tup [.int x,.int y,.ref l2])/\H l2=some (.lst (vs.map V.ref))/\H0 t=none/\H0 l2=none
def Cq (H:Hp) (u:V) (us:O7):Prop:=(u= .non/\us= [])∨∃l,u= .ref l/\H l=some 441
def lL (K:K0):Sp:=λvs H Q _=>∃(a C dx:Addr) (nm:Str) (l m:Int) (uv sv:V) (us:O7) (c:FY),vs= [.ref a,.str nm,.int l,.int m,uv,sv]/\H a=some 512/\oz K C/\Cq H uv us/\Cp H sv c/\
 ∀(u:Addr) (s:V) (H':Hp),Kept H H' a->u≠a->H u=none->H' u=some 441->yP H H' s c->H' a=some (.ins C dx (jb (.str nm) (.int l) 560 (.ref u) s))->Q .non H'
def pU (K:K0):Sp:=λvs H Q _=>∃(a C dx:Addr) (nm:Str) (l m:Int) (fl uv sv:V) (us:O7) (c:FY),vs= [.ref a,.str nm,.int l,.int m,fl,uv,sv]/\H a=some 512/\oz K C/\aO K C "fill" /\Cq H uv us/\Cp H sv c/\
 ∀(u:Addr) (s:V) (H':Hp),Kept H H' a->u≠a->H u=none->H' u=some 441->yP H H' s c->H' a=some (.ins C dx (warmF (.str nm) (.int l) 560 (.ref u) s fl))->Q .non H'
theorem yP.self {H0 H:Hp} {a C dx:Addr} {fs:List 553} {o:HO} {s:V} (ea:H a=some (.ins C dx fs)):∀{c:FY},yP H0 H s c->yP H0 (aR H a o) s c
 |none,h=>h
 |some (_,_,_),⟨t,l2,h1,h2,h3,h4,h5⟩=>⟨t,l2,h1,by rw[aB (λz=>by rw[z,ea] at h2;cases h2)];exact h2,by rw[aB (λz=>by rw[z,ea] at h3;cases h3)];exact h3,h4,h5⟩
universe Sw
namespace L2
open PySem PySem.Spec PyProof.Rows XH Sw
universe L2
namespace Sw
open PySem L2 XH PyProof.Rows
structure Aw (K:K0) (C:Addr):Prop where
 ha:Kc K 119 "__class__" =some (some 185)
 hn:PySem.W.specialIn K 185 "__get__" =some (some 346)
 htk:PySem.W.takesIn K 185=some true
 hm:PySem.W.mroIn K C (.type "object")=some true
theorem jQ {H:Hp} {x dx C:Addr} (nx:H x=none) (nd:H dx=none):aD H (aR (aR H dx (.own x)) x 512):=λb o h=>by
 rw[aB (aT h nx),aB (aT h nd)];exact h
theorem pV {z:Str} {n:Int} (h0:0<=n) (h:n<=(z.length:Int)):((kz z none (some n)).length:Int)=n:=by
 show ((((z.cps.toList.drop _).take _).toArray.size:Nat):Int)=n;rw[KR,Kw,L0];have e0:HT.eC z.length 0 none=0:=rfl;have e1:HT.eC z.length z.length (some n)=min n.toNat z.length:=by
  sleep 207
 rw[e0,e1];have:z.cps.toList.length=z.length:=cv z
 lia
theorem rB {α:Type} {n:Nat} {g:Nat->α} (h:∀i j,i<n->j<n->g i=g j->i=j):((LD n).map g).Nodup:=by
 refine List.pairwise_map.mpr (List.Pairwise.imp_of_mem (λ{a b} ha hb hne e=>hne ?_) List.nodup_range)
 exact h a b (Lg.mp ha) (Lg.mp hb) e
theorem yQ:∀i:_root_.Fin 12,∀j:_root_.Fin 12,(12-(5*(0+((i.val:Nat):Int))).fmod 12:Int)=12-(5*(0+((j.val:Nat):Int))).fmod 12->i=j:=by decide
noncomputable def mJ:Str:= "abcdefghijklmnopqrstuvwxyz"
theorem Dq:∀i:Nat,i<26->mJ.cps.toList[i]?=some (97+i):=by decide
theorem vz {v:Int} (h0:0<=v) (h:v<26):eZ mJ.cps.toList v=some (97+v.toNat):=by
 have:=Dq v.toNat 93
 have e:v=((v.toNat:Nat):Int):=by lia
 rw[e];exact aF this
universe Sw
namespace L2
open PySem PySem.Spec PyProof.Rows XH Sw
theorem A8 {X:Cx} {e:Expr} {ta:TE} {f:Str} {pos:Pos} {K:K0} (hK:X.K=K) (he:PE X e ta) (hb:attributeBase e f X.env (eval e X.env)=eval e X.env):PE X (.Attribute e f pos) (Fn K ta f):=by
 subst hK;exact cG he hb
universe L2
namespace Sw
open PySem L2 XH PyProof.Rows
def Lt (z:Str):Prop:=∀c∈sL z,97<=c/\c<=122
theorem Lt.app {x y:Str} (h:Lt x) (k:Lt y):Lt (x++y):=λc hc=>by
 rw[bC] at hc;rcases KD.mp hc with q|q
 ·exact h c q
 ·exact k c q
theorem Lt.cut {x:Str} (h:Lt x) (lo hi:Option Int):Lt (kz x lo hi):=λc hc=>by
 have hc':c∈((sL x).drop (HT.eC x.length 0 lo)).take (HT.eC x.length x.length hi-HT.eC x.length 0 lo):=by simpa [sL,kz] using hc
 exact h c (Lq (List.mem_of_mem_take hc'))
theorem Lt.nil:Lt "" :=λc hc=>by
 have:c∈([]:List Nat):=hc;simp at this
theorem Lt.one {c:Nat} (h:97<=c/\c<=122):Lt ⟨#[c]⟩:=λd hd=>by
 have:d∈ [c]:=hd;rw[K8.mp this];exact h
theorem A9 {x:Str} {i:Int} (h:0<=i):(kz x none (some i)).length=min i.toNat x.length:=by
 have e1:HT.eC x.length 0 none=0:=rfl;have e2:HT.eC x.length x.length (some i)=min i.toNat x.length:=by
  sleep 207
 sleep 202;have:x.cps.toList.length=x.length:=by simp[Str.length]
 lia
theorem Lt.nm {z:Str} (h:Lt z) (h1:1<=z.length) (h2:z.length<=12):Nm z:=(by rw[cv];exact h1,by rw[cv];exact h2,h)
universe Sw
namespace L2
open PySem PySem.Spec PyProof.Rows XH Sw
theorem pW {X:Cx}:i8 X (binaryOp .Mult) (λx y H Q=>∃z n,x= .str z/\y= .int n/\z.length<=16/\0<=n/\n<=1048576/\Q (.str (Txt.mul z n)) H):=by
 sleep 16;obtain ⟨z,n,rfl,rfl,hz,h0,hn,q⟩:=h;sleep 134;sleep 209;exact SB.mul (mulOk_of 16 1048576 hz hn 93 45 45) λt' k=>(.str _,H,I.tok _,⟨ν⟩,q)
universe L2
namespace Sw
open PySem L2 XH Hm PySem.NumText
universe Sw
namespace L2
open PySem PySem.Spec PyProof.Rows XH Sw
universe L2
namespace Sw
open PySem L2 XH Hm
universe Sw
namespace L2
open PySem PySem.Spec PyProof.Rows XH Sw Hm
universe L2
namespace Sw
open PySem L2 XH Hm
universe Sw
theorem aG {A B:Type} {p:A->B->Prop} (a:A) (b:B) (h:p a b):∃a b,p a b:=(a,b,h)
theorem cO {A B C:Type} {p:A->B->C->Prop} (a:A) (b:B) (c:C) (h:p a b c):∃a b c,p a b c:=(a,b,c,h)
theorem aL {A B C D:Type} {p:A->B->C->D->Prop} (a:A) (b:B) (c:C) (d:D) (h:p a b c d):∃a b c d,p a b c d:=(a,b,c,d,h)
theorem oA {A B C D E F:Type} {p:A->B->C->D->E->F->Prop} (a:A) (b:B) (c:C) (d:D) (e:E) (f:F) (h:p a b c d e f):∃a b c d e f,p a b c d e f:=(a,b,c,d,e,f,h)
theorem sI {A B C D E F H I J:Type} {p:A->B->C->D->E->F->H->I->J->Prop} (a:A) (b:B) (c:C) (d:D) (e:E) (f:F) (g:H) (i:I) (j:J) (h:p a b c d e f g i j):∃a b c d e f g i j,p a b c d e f g i j:=(a,b,c,d,e,f,g,i,j,h)
theorem bx {A:Type} {p:A->Prop} {G:Prop}:(∃a,p a)->(∀a,p a->G)->G
 |⟨a,h⟩,k=>k a h
theorem dB {A B:Type} {p:A->B->Prop} {G:Prop}:(∃a b,p a b)->(∀a b,p a b->G)->G
 |⟨a,b,h⟩,k=>k a b h
theorem gQ {A B C:Type} {p:A->B->C->Prop} {G:Prop}:(∃a b c,p a b c)->(∀a b c,p a b c->G)->G
 |⟨a,b,c,h⟩,k=>k a b c h
theorem ld {A B C D:Type} {p:A->B->C->D->Prop} {G:Prop}:(∃a b c d,p a b c d)->(∀a b c d,p a b c d->G)->G
 |⟨a,b,c,d,h⟩,k=>k a b c d h
theorem xF {A B C D E F:Type} {p:A->B->C->D->E->F->Prop} {G:Prop}:(∃a b c d e f,p a b c d e f)->(∀a b c d e f,p a b c d e f->G)->G
 |⟨a,b,c,d,e,f,h⟩,k=>k a b c d e f h
theorem qD {A B C D E F H I J:Type} {p:A->B->C->D->E->F->H->I->J->Prop} {G:Prop}:(∃a b c d e f g i j,p a b c d e f g i j)->(∀a b c d e f g i j,p a b c d e f g i j->G)->G
 |⟨a,b,c,d,e,f,g,i,j,h⟩,k=>k a b c d e f g i j h
theorem bH {A B G:Prop} (h:A/\B) (k:A->B->G):G:=k h.1 h.2
theorem bI {A B C G:Prop} (h:A/\B/\C) (k:A->B->C->G):G:=k h.1 h.2.1 h.2.2
theorem cN {A B C D G:Prop} (h:A/\B/\C/\D) (k:A->B->C->D->G):G:=k h.1 h.2.1 h.2.2.1 h.2.2.2
theorem jc {A B C D E F G:Prop} (h:A/\B/\C/\D/\E/\F) (k:A->B->C->D->E->F->G):G:=k h.1 h.2.1 h.2.2.1 h.2.2.2.1 h.2.2.2.2.1 h.2.2.2.2.2
theorem Im {A B C D E F H I J G:Prop} (h:A/\B/\C/\D/\E/\F/\H/\I/\J) (k:A->B->C->D->E->F->H->I->J->G):G:=k h.1 h.2.1 h.2.2.1 h.2.2.2.1 h.2.2.2.2.1 h.2.2.2.2.2.1 h.2.2.2.2.2.2.1 h.2.2.2.2.2.2.2.1 h.2.2.2.2.2.2.2.2
namespace Sw
open PySem L2
theorem Ax {a1 a2:TS} {D:Ends} {σ:L2.St} {H:Hp} (h:let D':=D;let r1:TS:=a2;aY a1 r1 D' σ H):aY a1 a2 D σ H:=h
theorem lt3 {a1 a2 a3:TS} {D:Ends} {σ:L2.St} {H:Hp} (h:let D':=D;let r2:TS:=a3;let r1:TS:=aY a2 r2;aY a1 r1 D' σ H):aY a1 (aY a2 a3) D σ H:=h
theorem Dr {a1 a2 a3 a4:TS} {D:Ends} {σ:L2.St} {H:Hp} (h:let D':=D;let r3:TS:=a4;let r2:TS:=aY a3 r3;let r1:TS:=aY a2 r2;aY a1 r1 D' σ H):aY a1 (aY a2 (aY a3 a4)) D σ H:=h
theorem Cr {a1 a2 a3 a4 a5:TS} {D:Ends} {σ:L2.St} {H:Hp} (h:let D':=D;let r4:TS:=a5;let r3:TS:=aY a4 r4;let r2:TS:=aY a3 r3;let r1:TS:=aY a2 r2;aY a1 r1 D' σ H):aY a1 (aY a2 (aY a3 (aY a4 a5))) D σ H:=h
theorem HB {a1 a2 a3 a4 a5 a6:TS} {D:Ends} {σ:L2.St} {H:Hp} (h:let D':=D;let r5:TS:=a6;let r4:TS:=aY a5 r5;let r3:TS:=aY a4 r4;let r2:TS:=aY a3 r3;let r1:TS:=aY a2 r2;aY a1 r1 D' σ H):aY a1 (aY a2 (aY a3 (aY a4 (aY a5 a6)))) D σ H:=h
theorem Js {a1 a2 a3 a4 a5 a6 a7 a8:TS} {D:Ends} {σ:L2.St} {H:Hp} (h:let D':=D;let r7:TS:=a8;let r6:TS:=aY a7 r7;let r5:TS:=aY a6 r6;let r4:TS:=aY a5 r5;let r3:TS:=aY a4 r4;let r2:TS:=aY a3 r3;let r1:TS:=aY a2 r2;aY a1 r1 D' σ H):aY a1 (aY a2 (aY a3 (aY a4 (aY a5 (aY a6 (aY a7 a8)))))) D σ H:=h
theorem JT {a1 a2 a3 a4 a5 a6 a7 a8 a9:TS} {D:Ends} {σ:L2.St} {H:Hp} (h:let D':=D;let r8:TS:=a9;let r7:TS:=aY a8 r8;let r6:TS:=aY a7 r7;let r5:TS:=aY a6 r6;let r4:TS:=aY a5 r5;let r3:TS:=aY a4 r4;let r2:TS:=aY a3 r3;let r1:TS:=aY a2 r2;aY a1 r1 D' σ H):aY a1 (aY a2 (aY a3 (aY a4 (aY a5 (aY a6 (aY a7 (aY a8 a9))))))) D σ H:=h
theorem FZ {a1 a2 a3 a4 a5 a6 a7 a8 a9 a10:TS} {D:Ends} {σ:L2.St} {H:Hp} (h:let D':=D;let r9:TS:=a10;let r8:TS:=aY a9 r9;let r7:TS:=aY a8 r8;let r6:TS:=aY a7 r7;let r5:TS:=aY a6 r6;let r4:TS:=aY a5 r5;let r3:TS:=aY a4 r4;let r2:TS:=aY a3 r3;let r1:TS:=aY a2 r2;aY a1 r1 D' σ H):aY a1 (aY a2 (aY a3 (aY a4 (aY a5 (aY a6 (aY a7 (aY a8 (aY a9 a10)))))))) D σ H:=h
theorem F0 {a1 a2 a3 a4 a5 a6 a7 a8 a9 a10 a11 a12 a13 a14:TS} {D:Ends} {σ:L2.St} {H:Hp} (h:let D':=D;let r13:TS:=a14;let r12:TS:=aY a13 r13;let r11:TS:=aY a12 r12;let r10:TS:=aY a11 r11;let r9:TS:=aY a10 r10;let r8:TS:=aY a9 r9;let r7:TS:=aY a8 r8;let r6:TS:=aY a7 r7;let r5:TS:=aY a6 r6;let r4:TS:=aY a5 r5;let r3:TS:=aY a4 r4;let r2:TS:=aY a3 r3;let r1:TS:=aY a2 r2;aY a1 r1 D' σ H):aY a1 (aY a2 (aY a3 (aY a4 (aY a5 (aY a6 (aY a7 (aY a8 (aY a9 (aY a10 (aY a11 (aY a12 (aY a13 a14)))))))))))) D σ H:=h
universe Sw
namespace L2
open PySem PySem.Spec PyProof.Rows XH
structure gR where
 nx:Nat->St->Hp->Prop
 rt:uW
abbrev cV:=gR->Nat->St->Hp->Prop
def Jt (X:Cx) (pins:O4) (n:Nat) (D:gR) (f:Flow) (s':Shared):Prop:=
 match f with
 | .next=>∃m σ' H',n<=m/\m<=s'.toks/\aU X pins σ' H' s'/\D.nx m σ' H'
 | .ret u=>∃m v σ' H',n<=m/\m<=s'.toks/\aU X pins σ' H' s'/\RelV v u/\D.rt m v H'
 |_=>False
def Ba (X:Cx) (st:Stmt) (t:cV):Prop:=
 ∀(pins:O4) (s:Shared) (n:Nat) (σ:St) (H:Hp) (D:gR),n<=s.toks->aU X pins σ H s->t D n σ H->wpAny 106 X.A (exec st X.env) (Jt X pins n D) X.xe s
def lh (X:Cx) (st:List Stmt) (t:cV):Prop:=
 ∀(pins:O4) (s:Shared) (n:Nat) (σ:St) (H:Hp) (D:gR),n<=s.toks->aU X pins σ H s->t D n σ H->wpAny 106 X.A (execs st X.env) (Jt X pins n D) X.xe s
section
variable {X:Cx} {e a b o:Expr} {te ta tb:TE} {na nb no:wy} {pos p2:Pos} {lo hi:Option Expr} {tl th:TO} {st:Stmt} {rest:List Stmt}
theorem cH (h:PE X e te):ja X e (λn σ H Q=>te σ H (Q n)):=λpins s n σ H Q hn I q=>
 bW (iq hn (h pins s σ H (Q n) I q)) λ_ _ ⟨hk,v,H',I',r,q⟩=>⟨n,v,H',K4 _,hk,I',r,q⟩
theorem Bb {w:Str} {k}:ja X (.Constant 255 k pos) (λn _ H Q=>∀t,n<=t->Q (t+1) 255 H):=λpins s n σ H Q hn I q=>
 Calls.Constant_str ⟨s.toks+1,.str w,H,by lia,K4 _,I.tok _,173,q _ hn⟩
theorem Bc (ha:PE X a ta) (hb:PE X b tb) (hs:uM b):ja X (.Subscript a b pos) (λn σ H Q=>ta σ H λx H1=>tb σ H1 λy H2=>∃z i c,x= .str z/\y= .int i/\z.length<=sizeLine/\eZ z.cps.toList i=some c/\∀k,n<=k->Q 446 (.raw 186 k) H2):=by
 sleep 83;refine Subscript_ (bW (iq hn (ha pins s σ H _ I h)) λv s1 (k1,x,H1,I1,r1,q1)=>bW (iq k1 (hb pins s1 σ H1 _ I1 q1)) λu s2 (k2,y,H2,I2,r2,z,i,c,e1,e2,hz,he,q)=>?_)
 subst e1 e2;sleep 61;obtain ⟨t',rfl⟩:=r2;sleep 128
 rw[hl] at h1 h4 h5;have hn':=jg;exact tail_any (typeIs_str s2 z t) slot_str_getitem.lookup (getItem_str (c:=c) (by
  have e1:decide (i< -(2^63:Int))=false:=decide_eq_false 93
  have e2:decide (i≥2^63)=false:=decide_eq_false 93
  rw[e1,e2,Bool.or_false]) (by rw[h1];simpa using h2) ⟨s2.toks+1,.raw 186 s2.toks,H2,by lia,K4 _,I2.tok _,rfl,q _ k2⟩) (hs _ _)
theorem vA (ha:ja X a na) (hb:ja X b nb):ja X (.BinOp a .Add b pos) (λn σ H Q=>na n σ H λn1 x H1=>nb n1 σ H1 λn2 y H2=>∃(z:Str) (t:Nat) (z':Str) (t':Nat),x= .raw z t/\y= .raw z' t'/\z.length+z'.length<=sizeLine/\0<n/\0<t/\t<n2/\0<t'/\t'<n2/\∀n3 k,n2<=n3->0<k->k<n3->Q n3 (.raw (z++z') k) H2):=by
 sleep 83;refine wpAny_BinOp (bW 477 λv s1 (n1,x,H1,l1,k1,I1,r1,q1)=>bW (hb pins s1 n1 σ H1 _ k1 I1 q1) λu s2 (n2,y,H2,l2,k2,I2,r2,z,t,z',t',e1,e2,hz,n0,t0,tn,t0',tn',q)=>?_)
 subst e1 e2;cases r1;cases r2;refine PySem.P.add_str ?_
 by_cases c1:z.length=0
 ·rw[if_pos (by simp[c1])]
  have e:z++z'=z':=by
   have h0:z.cps= #[]:=Array.eq_empty_of_size_eq_zero c1;show Str.append z z'=z';cases z';simp[Str.append,h0]
  exact (n2,.raw z' t',H2,by lia,k2,I2,rfl,e▸q n2 t' 214 t0' tn')
 ·rw[if_neg (by simp[c1])]
  by_cases c2:z'.length=0
  ·rw[if_pos (by simp[c2])]
   have e:z++z'=z:=by
    have h0:z'.cps= #[]:=Array.eq_empty_of_size_eq_zero c2;show Str.append z z'=z;cases z;simp[Str.append,h0]
   exact (n2,.raw z t,H2,by lia,k2,I2,rfl,e▸q n2 t 214 t0 tn)
  ·rw[if_neg (by simp[c2])]
   exact (by rw[strLen_append];exact hz,s2.toks+1,.raw (z++z') s2.toks,H2,by lia,K4 _,I2.tok _,rfl,q _ _ 93 93 93)
theorem yR (hg:Gl X "str") (hm:X.mg "str" =none) {p:Pos} (ha:PE X e te) (hs:starEach [e] X.env= [352]:=by rfl):ja X (.Call (.Name "str" p) [e] [] pos) (λn σ H Q=>te σ H λx H1=>∃i:Int,x= .int i/\i.natAbs.log2<1920/\∀k,n<=k->Q 446 (.raw (toString i) k) H1):=by
 sleep 83;apply wpAny_Call_Name_kw;refine gY I hg hm (show bootBuiltins "str" =some (.type "str") by first|rfl|decide) ?_ 45 45
 refine LJ ?_ hs rfl;rw[hs];refine Calls.spliced_cons (x:=eval e X.env) (rest:= []) (bW (iq hn (ha pins s σ H _ I h)) λv s1 (k1,x,H1,I1,r1,i,ex,hi,q)=>?_)
 subst ex;sleep 61;apply Calls.spliced_nil;exact PySem.P.str_of_int hi (s1.toks+1,.raw _ s1.toks,H1,by lia,K4 _,I1.tok _,rfl,q _ k1)
universe z0
section
variable {X:Cx} {e a b o:Expr} {es:List Expr} {te ta tb to:TE} {ne na nb no:wy} {pos p2 cpos apos:Pos} {st:Stmt} {rest:List Stmt} {t:cV} {u:cV} {name:Str} {T id:String}
theorem eO {y:Str} {j1 p1} (ho:ja X o no) (he:ja X e ne) (hbase:attributeBase o "replace" X.env 433=eval o X.env:=by rfl)
  (hfew:((backTo cpos (starEach [.Constant (.str y) j1 p1,e] X.env)).all (λx=> !x.1)&&(backToKw cpos 228).all 421
   &&decide ([Expr.Constant (.str y) j1 p1,e].length+([]:List Keyword).length+150<30))=true:=by rfl)
  (hline:235=true:=by rfl) (hs:starEach [.Constant (.str y) j1 p1,e] X.env= [(false,eval (.Constant (.str y) j1 p1) X.env),352]:=by rfl):
  ja X (.Call (.Attribute o "replace" apos) [.Constant (.str y) j1 p1,e] [] cpos) (λn σ H Q=>no n σ H λn1 x H1=>∃w,x= .str w/\∀k,n1<=k->ne 446 σ H1 λn2 z H2=>∃(zz:Str) (c:Nat),z= .raw zz c/\0<k/\0<c/\c≠k/\(y==zz)=false/\w.length+(w.length+1)*zz.length<=16777216/\Q n2 486 H2):=by
 sleep 83;refine wpAny_Call_method_late hbase hfew hline rfl (bW (ho pins s n σ H _ hn I h) λv s1 (n1,x,H1,l1,k1,I1,r1,w,ex,q1)=>?_)
 subst ex;obtain ⟨h1,h2⟩:=me I1 r1 (show E4 X.K "str" 255 H1 from rfl)
 sleep 61;exists "str","str.replace",F.plainAttrs_str,F.slot_str_replace,F.type_str_replace,h1,h2;sleep 41;refine Calls.spliced_cons (x:=eval (.Constant (.str y) j1 p1) X.env) (Calls.Constant_str (k:=j1) (pos:=p1) ?_);refine Calls.spliced_cons (x:=eval e X.env) (rest:= []) (bW (he pins _ (s1.toks+1) σ H1 _ 214 (I1.tok _) (q1 _ k1)) λu s2 (n2,z,H2,l2,k2,I2,r2,zz,c,ez,k0,c0,ck,yz,hz,q)=>?_)
 subst ez;cases r2;sleep 148;exact bW (iq k2 (SC.replace (Q:=λv s'=>∃H',aU X pins σ H' s'/\RelV 486 v/\Q n2 486 H') (LX k0) (LX c0) (Ne.symm ck) yz hz λt' k=>(H2,I2.tok _,⟨ν⟩,q))) λv s3 (k3,H3,I3,r3,q3)=>(n2,_,H3,by lia,k3,I3,r3,q3)
theorem pX {r:V->List V->Hp->VK->Prop} (pa:PlainAttrs T) (slot:Slot T name id) (hty:typeOf 409=pure 483) (hm:Cf X id r) (ho:PE X o to) (he:ja X e ne)
  (hbase:attributeBase o name X.env 433=eval o X.env:=by rfl)
  (hfew:((backTo cpos (starEach [e] X.env)).all (λx=> !x.1)&&(backToKw cpos 228).all 421
   &&decide 304)=true:=by rfl)
  (hline:235=true:=by rfl) (hs:starEach [e] X.env= [352]:=by rfl):
  ja X (.Call (.Attribute o name apos) [e] [] cpos) (λn σ H Q=>to σ H λx H1=>E4 X.K T x H1/\ne n σ H1 λm v H2=>r x [v] H2 (Q m)):=by
 sleep 17
 sleep 173;exists T,id,pa,slot,hty,h1,h2;sleep 41;refine Calls.spliced_cons (x:=eval e X.env) (rest:= []) (bW (he pins s1 n σ H1 _ k1 I1 q1) λu s2 (m,y,H2,l2,k2,I2,r2,q2)=>?_)
 sleep 148;exact bW (iq k2 (hm pins s2 σ H2 x [y] v [u] _ I2 r1 (.cons r2 .nil) q2)) λv s3 (k3,y3,H3,I3,r3,q3)=>(m,y3,H3,l2,k3,I3,r3,q3)
def JU (t:TS):cV:=λD n σ H=>t {nx:=D.nx n,bk:=λ_ _=>False,ct:=λ_ _=>False,rt:=D.rt n} σ H
def F3 (i:Nat) (ne:wy):cV:=λD n σ H=>ne n σ H λm v H1=>D.nx m (σ.set i (some v)) H1
def Io (ne:wy):cV:=λD n σ H=>ne n σ H λm _ H1=>D.nx m σ H1
def Ip (ne:wy):cV:=λD n σ H=>ne n σ H D.rt
def Iq:cV:=λD n σ H=>D.nx n σ H
def bh (t u:cV):cV:=λD n σ H=>t {D with nx:=u D} n σ H
theorem bD {t:TS} (h:PS X st t):Ba X st (JU t):=λpins s n σ H D hn I q=>
 bW (iq hn (h pins s σ H _ I q)) λf s' ⟨hk,q'⟩=>by
  cases f with
  |next=>obtain ⟨σ',H',I',q'⟩:=q';exact (n,σ',H',K4 _,hk,I',q')
  |ret v=>obtain ⟨v,σ',H',I',r,q'⟩:=q';exact (n,v,σ',H',K4 _,hk,I',r,q')
  |brk=>obtain ⟨_,_,_,q'⟩:=q';exact q'
  |cont=>obtain ⟨_,_,_,q'⟩:=q';exact q'
theorem dz {i:Nat} {x:Str} {pos':Pos} (hN:X.N.Nodup) (hi:X.N[i]?=some x) (hx:Loc X.env.scope x) (he:ja X e ne) (hs:swapsWith e (some (.Name x pos')) pos.line X.env=pure false:=by rfl) (hf:X.fn x=true∨X.env.scope.names.lookup x=some .local:=by first|exact .inl rfl|exact .inr rfl|assumption):
  Ba X (.Assign [.Name x pos'] e pos) (F3 i ne):=by
 sleep 102;refine wpAny_Assign_Name (bW 331 λv s1 (m,y,H1,l,k,I1,r1,q1)=>?_) hs
 exact bW (iq k (jD (Q:=λ_ s2=>aU X pins (σ.set i (some y)) H1 s2) I1 hN hi hx r1 (λs2 I2=>I2) hf)) λ_ s2 (k2,I2)=>(m,_,H1,l,k2,I2,q1)
theorem mK (he:ja X e ne) (hs:swapsWith e none pos.line X.env=pure false:=by rfl):Ba X (.Expr e pos) (Io ne):=by
 sleep 102;exact wpAny_Expr_any (bW 331 λv s1 (m,x,H1,l,k,I1,r1,q1)=>(m,σ,H1,l,k,I1,q1)) I.quiet hs
theorem lM (he:ja X e ne):Ba X (.Return (some e) pos) (Ip ne):=by
 sleep 102;exact wpAny_Return_some (bW 331 λv s1 (m,x,H1,l,k,I1,r1,q1)=>(m,x,σ,H1,l,k,I1,r1,q1))
theorem bE:lh X [] Iq:=λ_ _ n σ H _ hn I h=>wpAny_execs_nil (n,σ,H,K4 _,hn,I,h)
theorem aC (h1:Ba X st t) (h2:lh X rest u):lh X (st::rest) (bh t u):=by
 sleep 102;refine wpAny_execs_cons (bW (h1 pins s n σ H _ hn I h) λf s1 q=>?_)
 cases f with
 |next=>
  obtain ⟨m,σ',H',l,k,I',q⟩:=q;refine bW (h2 pins s1 m σ' H' D k I' q) λf s2 q=>?_
  cases f with
  |next=>obtain ⟨m2,σ',H',l2,r⟩:=q;exact (m2,σ',H',KC l l2,r)
  |ret v=>obtain ⟨m2,v,σ',H',l2,r⟩:=q;exact (m2,v,σ',H',KC l l2,r)
  |brk=>exact q
  |cont=>exact q
 |ret v=>exact q
 |brk=>exact q
 |cont=>exact q
def F4 (wi:TI) (g:TG) (tb:cV):cV:=λD n σ H=>wi σ H λJ H1=>∃W:Nat->Nat->Nat->St->Hp->Prop,(∃m,W 0 m n σ H1)/\∀i m n σ H,W i m n σ H->
 (J.stop i H/\D.nx n σ H)∨(J.go i H/\∃N:Nat->St->Hp->Prop,(∀n' σ' H',N n' σ' H'->∃m',m'<m/\W 240 m' n' σ' H')/\∀x H',J.yld i H x H'->g x σ H' λσ2 H2=>tb 508 n σ2 H2)
theorem pY {tg iter:Expr} {body:List Stmt} {wi:TI} {g:TG} {tb:cV} (hp:PassesOwn 106 X.A X.env X.xe) (hc:X.calm=true) (hi:PI X tg iter wi) (hg:PG X tg g) (hb:lh X body tb)
  (hs:∀x,foldedSetIterable iter X.env x=pure x:=by intro _;rfl):Ba X (.For tg iter body [] pos) (F4 wi g tb):=by
 intro pins s n0 σ H D hn I h;refine wpAny_For (bW (iq hn (hi pins s σ H _ I h)) λv s1 (kk1,h1)=>bW (iq kk1 h1) λitv s2 (kk2,h2)=>?_) hs
 obtain ⟨it,fp,tn,J,H2,e,I2,T,st2,f2,W,⟨m0,w0⟩,turn⟩:=h2;subst e;have stat:∀{H':Hp},(∀b∈fp,H' b=none)->∀b∈fp,i7 X pins H' b:=λhn b hb=>(hn b hb,(f2 b hb).2)
 refine codeAny_forLoop_any (λm s'=>∃i n σ' H',n0<=n/\n<=s'.toks/\aU X pins σ' H' s'/\tn i s'.heap/\(∀b∈fp,H' b=none)/\W i m n σ' H') ?_ m0 (0,n0,σ,H2,K4 _,kk2,I2,st2,λb hb=>(f2 b hb).1,w0)
 rintro m s3 ⟨i,n,σ3,H3,l3,k3,I3,st3,fr3,w3⟩;rcases turn i m n σ3 H3 w3 with ⟨stop,qn⟩|⟨go,N,hN,step⟩
 ·refine wpAny_passesOwn hp (bW (iq k3 (T.done X rfl rfl rfl hc i pins s3 σ3 H3 X.xe I3 (stat fr3) st3 stop)) λr s4 (k4,hr,I4)=>?_)
  subst hr;exact wpAny_execs_nil (n,σ3,H3,l3,k4,I4,qn)
 ·refine wpAny_passesOwn hp (bW (iq k3 (T.item X rfl rfl rfl hc i pins s3 σ3 H3 X.xe I3 (stat fr3) st3 go)) λr s4 (k4,u,hr,h4)=>?_)
  subst hr;refine wpAny_passesOwn hp (bW (iq k4 h4) λ_ s5 (k5,x,H5,I5,r5,y5,st5,fr5)=>?_)
  have I5':=I5.pinned (stat fr5) (T.obj _ _ st5);refine wpAny_passesOwn hp (bW (iq k5 (hg _ s5 σ3 H5 x u _ I5' r5 (step x H5 y5))) λ_ s6 (k6,σ6,H6,I6,q6)=>?_)
  refine wpAny_passesOwn hp (bW (hb _ s6 n σ6 H6 _ k6 I6 q6) λf s7 q7=>?_)
  cases f with
  |next=>
   obtain ⟨n7,σ7,H7,l7,k7,I7,q7⟩:=q7;obtain ⟨m',hm,w7⟩:=hN n7 σ7 H7 q7;refine (m',hm,i+1,n7,σ7,H7,by lia,k7,I7.unpinned,T.keep _ _ _ st5 λb hb o e=>(I7.pin (b,o) 403).1,λb hb=>?_,w7)
   obtain ⟨o,e,d⟩:=T.obj _ _ st5 b hb;exact (I7.pin (b,o) 403).2.1
  |cont=>exact False.elim q7
  |brk=>exact False.elim q7
  |ret v=>obtain ⟨n7,x7,σ7,H7,l7,k7,I7,r7,q7⟩:=q7;exact (n7,x7,σ7,H7,by lia,k7,I7.unpinned,r7,q7)
theorem cz {t u:cV} {D:gR} {n:Nat} {σ:St} {H:Hp} (P:Nat->St->Hp->Prop) (h1:∀N:Nat->St->Hp->Prop,(∀m σ H,P m σ H->N m σ H)->t 508 n σ H) (h2:∀m σ H,P m σ H->u D m σ H):bh t u D n σ H:=h1 (u D) h2
theorem mM {lo:Int} {n n0:Nat} {g:TG} {tb:cV} {D:gR} {σ:St} {H:Hp} (Pv:Nat->Nat->St->Hp->Prop) (h0:Pv 0 n0 σ H)
  (hs:∀i m σ H,i<n->Pv i m σ H->g (.int (lo+i)) σ H λσ2 H2=>tb {D with nx:=Pv 240} m σ2 H2) (hd:∀m σ H,Pv n m σ H->D.nx m σ H):
  ∃W:Nat->Nat->Nat->St->Hp->Prop,(∃m,W 0 m n0 σ H)/\∀i m k σ H,W i m k σ H->
   ((xP lo n).stop i H/\D.nx k σ H)∨((xP lo n).go i H/\∃N:Nat->St->Hp->Prop,429/\∀x H',(xP lo n).yld i H x H'->g x σ H' λσ2 H2=>tb 508 k σ2 H2):=by
 exists λi m k σ H=>m=n-i/\i<=n/\Pv i k σ H,(n,by simp,LF _,h0)
 rintro i m k σ H ⟨rfl,hi,p⟩
 by_cases hlt:i<n
 ·refine .inr (hlt,Pv 240,λk' σ' H' p'=>(n-240,by lia,rfl,hlt,p'),λx H' y=>?_)
  obtain ⟨e,y⟩:=y;subst e y;exact hs i k σ _ hlt p
 ·have e:i=n:=by lia
  subst e;exact .inl (K4 _,hd k σ H p)
noncomputable def dH (zs:List 195):List V:=zs.map λp=> .raw p.1 p.2
noncomputable def vB (zs:List 195):List V:=zs.map λp=> .str p.1
theorem oB:∀{zs:List 195} {us:O8},bj (dH zs) us->bj (vB zs) us
 | [],_,.nil=> .nil
 |_::_,_,.cons r t=> .cons ⟨_,r⟩ (oB t)
theorem f8 (h:PE X e te):PE X e (λσ H Q=>te σ H λx H1=>∃z t,x= .raw z t/\Q 236 H1):=λpins s σ H Q I q=>
 bW (h pins s σ H _ I q) λu s' ⟨x,H',I',r,z,t,ex,q'⟩=>⟨.str z,H',I',(by subst ex;exact ⟨t,r⟩),q'⟩
universe z0
abbrev wF:=Nat->List V->Hp->uW->Prop
structure vC (P:Program) (w:World) (K:K0) (mg:O3) (base:Heap) (k:Nat) (f:Addr) (fd:FuncData) (ps:O6) (sp:wF):Prop where
 len:∀n vs H Q,sp n vs H Q->vs.length=ps.length
 run:∀(A:Around) (outer:List Env) (s:Shared) (H:Hp) (args:Args) (us:O8) (vs:List V) (n:Nat) (Q:uW),cx k A->lZ P w K mg base A outer s H->BindsTo s fd args 545->bj vs us->n<=s.toks->sp n vs H Q->
  codeAny (model P w) A (.call 226 args) (λr s'=>match r with| .ok (.ret u)=>∃m,n<=m/\m<=s'.toks/\CE outer P w H s (Q m) u s'|_=>False) s
theorem vC.mono {P:Program} {w:World} {K:K0} {mg:O3} {base:Heap} {j k:Nat} {f:Addr} {fd:FuncData} {ps:O6} {sp:wF} (F:568 j f fd ps sp) (h:j<=k):568 k f fd ps sp:=
 ⟨F.len,λA outer s H args us vs n Q hr=>F.run A outer s H args us vs n Q (hr.mono h)⟩
theorem Ds {P:Program} {w:World} {K:K0} {mg:O3} {base:Heap} {k:Nat} {f:Addr} {name qual:Str} {params:Arguments} {body:List Stmt} {scope:Scope} {dV kV doc pm cdv ct oc:Value} {an od:O9}
  {osl:O5} {N ps:O6} {sp:wF} (lk:K.lookup f=some 507) (hcd:LO K cdv qual=true) (S:aK N ps scope)
  (len:∀n vs H Q,sp n vs H Q->vs.length=ps.length)
  (hbody:∀(A:Around) (outer:List Env) (s:Shared) (H:Hp) (vs:List V) (n:Nat) (Q:uW),cx k 333->sp n vs H Q->
   ∃t,lh (ip bX P w K mg base N qual scope f cdv A outer s H E0).nox body t/\t {nx:=λm _ H'=>Q m .non H',rt:=Q} n 238 H):
  vC P w K mg base 446 f 131 ps sp:=by
 refine (len,λA outer s H args us vs n Q hr e0 hb r hn hsp=>?_)
 sleep 144
 sleep 201
 have hkind:∀y∈ps.zip us,scope.names.lookup y.1=some .local∨(scope.names.lookup y.1=some .cell/\((cellsFrom (92+1) scope.names []).lookup y.1).isSome=true):=λ⟨n,v⟩ hy=>by
  rcases S.par n (List.of_mem_zip hy).1 with q|q
  ·exact .inl q
  ·exact .inr (q,PySem.W.cellsFrom_some _ _ _ (.inl q))
 sleep 96;refine wpAny_with_toks hn (wpAny_newFunctionEnv_cells S.kind hkind λenv he s1 x=>?_)
 subst he;intro hn1;refine 547;obtain ⟨t,ht,hq⟩:=hbody A outer s H vs n Q (hr.deeper _) hsp;have I0:aU (ip bX P w K mg base N qual scope f cdv A outer s H E0) [] 238 H s1:=kx S hr.hd e0 hl r x;have I:aU (ip bX P w K mg base N qual scope f cdv A outer s H E0).nox [] 238 H s1:=I0.wish _;refine wpAny_mono (ht [] s1 n 238 H _ hn1 I hq) (λfl s' hs=>?_) λe s' hs=>False.elim hs
 have fin:∀{σ':St} {H':Hp} {v:V} {u:Value} {m:Nat},n<=m->m<=s'.toks->aU (ip bX P w K mg base N qual scope f cdv A outer s H E0).nox [] σ' H' s'->RelV v u->Q m v H'->∃m,n<=m/\m<=s'.toks/\CE outer P w H s (Q m) u s':=
  λ{σ' H' v u m} l k J rv q=>⟨m,l,k,v,H',J.os,J.bare,J.base,J.hok,rv,q⟩
 cases fl with
 |ret u=>
  obtain ⟨m,v,σ',H',l,k,J,rv,q⟩:=hs;exact fin l k J rv q
 |next=>
  obtain ⟨m,σ',H',l,k,J,q⟩:=hs;exact fin (v:=V.non) (u:=Value.none) l k J rfl q
 |brk=>exact False.elim hs
 |cont=>exact False.elim hs
structure Be (P:Program) (w:World) (K:K0) (mg:O3) (base:Heap) (k:Nat) (x:Str) (ps:O6) (sp:wF) where
 f:Addr
 fd:FuncData
 ok:vC P w K mg base k f fd ps sp
 m:mg x=some 226
 q:Kn K 226=true
 b:Binds K fd ps []
section
variable {X:Cx} {k j:Nat} {x:Str} {ps:O6} {sp:wF} {p pos:Pos} {e:Expr} {es:List Expr} {t:TA}
theorem iB (D:Be X.prog X.w X.K X.mg X.base k x ps sp) (hr:cx j X.A) (hk:k<=j) (hg:Gl X x) (ha:PA X (e::es) t) (hdb:116=false:=by decide)
  (he:starEach (e::es) X.env=(false,eval e X.env)::starEach es X.env:=by rfl) (hpl:(backTo pos 137).any 182=false:=by rfl):
  ja X 134 (λn σ H Q=>t σ H λvs H1=>sp n vs H1 Q):=by
 sleep 83;refine wpAny_Call_Name_kw (dQ I hg D.m ?_ hdb);refine Lb (h₀:=X.base) I.ok.mod.kin D.q (bW (iq hn 348) λus s1 (k1,vs,H1,I1,r,q)=>(I1.kIn,?_)) he hpl
 have hl:us.length=ps.length:=by rw[<-r.length];exact D.ok.len _ _ _ _ q
 have hb:=D.b s1 us I1.kIn (by rw[Ke];exact hl)
 rw[Ke] at hb;refine wpAny_call (codeAny_mono ((D.ok.mono hk).run X.A X.stack s1 H1 (us,[]) us vs n Q hr I1.env0 hb r k1 q) λr s' hq=>?_)
 cases r with
 |error e=>exact False.elim hq
 |ok fl=>
  cases fl with
  |ret u=>
   obtain ⟨m,l,k,c⟩:=hq;obtain ⟨v,H',I',r',q'⟩:=I1.after c;exact (m,v,H',l,k,I',r',q')
  |next=>exact False.elim hq
  |brk=>exact False.elim hq
  |cont=>exact False.elim hq
theorem Bf {body:List Stmt} {t:cV} (h:lh X body t):lE X body (λD σ H=>t {nx:=λ_=>D.nx,rt:=λ_=>D.rt} 0 σ H):=λpins s σ H D I q=>
 bW (h pins s 0 σ H _ (LF _) I q) λf s' q=>by
  cases f with
  |next=>obtain ⟨m,σ',H',_,_,I',q⟩:=q;exact (σ',H',I',q)
  |ret v=>obtain ⟨m,v,σ',H',_,_,I',r,q⟩:=q;exact (v,σ',H',I',r,q)
  |brk=>exact False.elim q
  |cont=>exact False.elim q
universe z0
universe L2
namespace Sw
open PySem L2 XH PyProof.Rows
section
variable {P:Program} {w:World} {K:K0} {mg:O3} {base h:Heap} {k:Nat} {f:Addr} {x qual:Str} {st:Stmt} {N ps:O6} {sp:wF}
theorem bG.okT {dV:Value} {fd:FuncData} (F:bG K x qual st dV f fd) (S:aK N ps 353) (len:∀n vs H Q,sp n vs H Q->vs.length=ps.length)
  (hbody:∀(cdv:Value) (A:Around) (outer:List Env) (s:Shared) (H:Hp) (vs:List V) (n:Nat) (Q:uW),cx k 250->sp n vs H Q->
   ∃t,lh (ip bX P w K mg base N qual 353 f cdv A outer s H E0).nox (cK st) t/\t {nx:=λm _ H'=>Q m .non H',rt:=Q} n 238 H):vC P w K mg base 446 f fd ps sp:=by
 sleep 20;exact Ds lk hcd S len λA outer s H vs n Q hr hsp=>hbody cdv A outer s H vs n Q hr hsp
noncomputable def Dt (_:Bx P w base) (X:K.In h) (G:h.Ns mainGlobals mg) (a:cq K f x st .none) (b:Dn x x st .none ps) (ok:∀{fd:FuncData},bG K x x st .none f fd->vC P w K mg base k f fd ps sp):Be P w K mg base k x ps sp:=
 have e:=a.2.ex
 ⟨f,e.choose,ok e.choose_spec.1,KP X G a.1,e.choose_spec.2,e.choose_spec.1.binds0 b⟩
universe z0
theorem Ir {a1 a2 a3 a4:cV} {D:gR} {n:Nat} {σ:L2.St} {H:Hp} (h:let D':=D;let r3:cV:=a4;let r2:cV:=bh a3 r3;let r1:cV:=bh a2 r2;bh a1 r1 D' n σ H):bh a1 (bh a2 (bh a3 a4)) D n σ H:=h
theorem JV {a1 a2 a3 a4 a5 a6 a7 a8:cV} {D:gR} {n:Nat} {σ:L2.St} {H:Hp} (h:let D':=D;let r7:cV:=a8;let r6:cV:=bh a7 r7;let r5:cV:=bh a6 r6;let r4:cV:=bh a5 r5;let r3:cV:=bh a4 r4;let r2:cV:=bh a3 r3;let r1:cV:=bh a2 r2;bh a1 r1 D' n σ H):bh a1 (bh a2 (bh a3 (bh a4 (bh a5 (bh a6 (bh a7 a8)))))) D n σ H:=h
theorem JW {a1 a2 a3 a4 a5 a6 a7 a8 a9:cV} {D:gR} {n:Nat} {σ:L2.St} {H:Hp} (h:let D':=D;let r8:cV:=a9;let r7:cV:=bh a8 r8;let r6:cV:=bh a7 r7;let r5:cV:=bh a6 r6;let r4:cV:=bh a5 r5;let r3:cV:=bh a4 r4;let r2:cV:=bh a3 r3;let r1:cV:=bh a2 r2;bh a1 r1 D' n σ H):bh a1 (bh a2 (bh a3 (bh a4 (bh a5 (bh a6 (bh a7 (bh a8 a9))))))) D n σ H:=h
theorem ln10 {a1 a2 a3 a4 a5 a6 a7 a8 a9 a10:cV} {D:gR} {n:Nat} {σ:L2.St} {H:Hp} (h:let D':=D;let r9:cV:=a10;let r8:cV:=bh a9 r9;let r7:cV:=bh a8 r8;let r6:cV:=bh a7 r7;let r5:cV:=bh a6 r6;let r4:cV:=bh a5 r5;let r3:cV:=bh a4 r4;let r2:cV:=bh a3 r3;let r1:cV:=bh a2 r2;bh a1 r1 D' n σ H):bh a1 (bh a2 (bh a3 (bh a4 (bh a5 (bh a6 (bh a7 (bh a8 (bh a9 a10)))))))) D n σ H:=h
theorem Iu {a1 a2 a3 a4 a5 a6 a7 a8 a9 a10 a11:cV} {D:gR} {n:Nat} {σ:L2.St} {H:Hp} (h:let D':=D;let r10:cV:=a11;let r9:cV:=bh a10 r10;let r8:cV:=bh a9 r9;let r7:cV:=bh a8 r8;let r6:cV:=bh a7 r7;let r5:cV:=bh a6 r6;let r4:cV:=bh a5 r5;let r3:cV:=bh a4 r4;let r2:cV:=bh a3 r3;let r1:cV:=bh a2 r2;bh a1 r1 D' n σ H):bh a1 (bh a2 (bh a3 (bh a4 (bh a5 (bh a6 (bh a7 (bh a8 (bh a9 (bh a10 a11))))))))) D n σ H:=h
theorem Iv {a1 a2 a3 a4 a5 a6 a7 a8 a9 a10 a11 a12 a13:cV} {D:gR} {n:Nat} {σ:L2.St} {H:Hp} (h:let D':=D;let r12:cV:=a13;let r11:cV:=bh a12 r12;let r10:cV:=bh a11 r11;let r9:cV:=bh a10 r10;let r8:cV:=bh a9 r9;let r7:cV:=bh a8 r8;let r6:cV:=bh a7 r7;let r5:cV:=bh a6 r6;let r4:cV:=bh a5 r5;let r3:cV:=bh a4 r4;let r2:cV:=bh a3 r3;let r1:cV:=bh a2 r2;bh a1 r1 D' n σ H):bh a1 (bh a2 (bh a3 (bh a4 (bh a5 (bh a6 (bh a7 (bh a8 (bh a9 (bh a10 (bh a11 (bh a12 a13))))))))))) D n σ H:=h
universe Sw
namespace L2
open PySem PySem.Spec PyProof.Rows XH Sw
universe L2
namespace Sw
open PySem L2 XH Hm
open PySem.NumText
theorem Lt.join:∀{ws:O6},(∀w∈ws,Lt w)->Lt (Str.join Str.empty ws)
 | [],_=>Lt.nil
 | [x],h=>h x 96
 |x::y::r,h=>by
  have ih:=Lt.join (ws:=y::r) λw hw=>h w (K9 _ hw)
  show Lt (x++Str.empty++Str.join Str.empty (y::r));exact ((h x 96).app Lt.nil).app ih
theorem Lt.tjoin {ws:O6} (h:∀w∈ws,Lt w):Lt (Txt.join "" ws):=by
 have:Txt.join "" ws=Str.join Str.empty ws:=StrLaws.glued_eq_join _ ws;rw[this];exact Lt.join h
universe Sw
namespace L2
open PySem
universe L2
namespace Sw
open PySem L2 XH Hm PySem.NumText
universe Sw
namespace L2
open PySem
universe L2
namespace Sw
open PySem L2 XH Hm PySem.NumText
universe Sw
namespace L2
open PySem
universe L2
namespace Sw
open PySem L2 XH Hm PySem.NumText
universe Sw
namespace L2
open PySem PySem.Spec PyProof.Rows XH
universe L2
namespace Sw
open PySem L2 XH Hm PySem.NumText
universe Sw
namespace L2
open PySem PySem.Spec PyProof.Rows XH Sw Hm
universe L2
namespace Sw
open PySem L2 XH Hm PySem.NumText
universe Sw
namespace L2
open PySem PySem.Spec PyProof.Rows XH Sw Hm
universe L2
namespace Sw
open PySem L2 XH Hm PySem.NumText
universe Sw
namespace L2
open PySem PySem.Spec PyProof.Rows XH Sw Hm
universe L2
namespace Sw
open PySem L2 XH Hm PySem.NumText
universe Sw
namespace L2
open PySem PySem.Spec PyProof.Rows XH Sw
noncomputable def pZ:Value->Bool
 | .none=>true
 |_=>false
theorem rC {a b:Str} {p q:Prop} (h1:a=b->p) (h2:a≠b->q):if decide 530=true then p else q:=by
 by_cases e:a=b
 ·subst e;rw[if_pos 96];exact h1 rfl
 ·rw[if_neg (by simp[e])];exact h2 e
universe L2
namespace Sw
open PySem L2 XH Hm PySem.NumText
noncomputable def aS (n:Nat):Str:=bw (dg n)
noncomputable def vN (n:Nat):V:= .int (n:Int)
noncomputable def cL:Str:=bw [32]
noncomputable def oC:Str:=bw [10]
noncomputable def wG (l:List Nat):Bool:=decide (1<=l.length)&&decide (l.length<=30)&&(decide (l.head?≠some 48)||decide (l= [48]))&&l.all λc=>decide (48<=c/\c<=57)
noncomputable def xG (z:Str):Bool:=decide (1<=(sL z).length)&&decide ((sL z).length<=12)&&(sL z).all λc=>decide (97<=c/\c<=122)
theorem gC (z:Str):xG z=true↔Nm z:=by
 unfold xG Nm;simp[and_assoc]
def rD (K:K0) (a:Addr) (xs:O6):Prop:=∃(o:Obj) (its:Array Value) (n:Nat),K.lookup a=some o/\o.cls= .type "tuple" /\o.data= .seq its n/\its.size<=sizeLine/\bj (xs.map V.str) its.toList
theorem rD.sq {K:K0} {a:Addr} {xs:O6} (h:rD K a xs) (H:Hp):dD K H a (xs.map V.str):= .inr (let ⟨o,its,m,h1,h2,h3,h4,h5⟩:=h;⟨o,its,m,h1,h2,h3,h4,h5,KY.mpr λv hv=>(by obtain ⟨x,_,rfl⟩:=KH.mp hv;rfl)⟩)
theorem dP {n:Nat} (h:n<=999999999):(aS n).length<=9:=by
 have:=fh (n:=n) (k:=8) 93
 rw[<-cv,aS,bo];exact this
theorem iC {n:Nat} (h:n<=999999999):(n:Int).natAbs.log2<1920:=lg (LA h 45)
theorem lN {m:Nat}:∀{ws:O6},(∀w∈ws,w.length<=m)->(ws.map λx=>x.length).sum<=m*ws.length
 | [],_=>K4 _
 |w::ws,h=>by
  have h1:=h w Kd;have h2:=lN (ws:=ws) λx hx=>h x (K9 _ hx)
  rw[Kl,List.sum_cons,KE,Nat.mul_add]
  lia
theorem map_getD {α β:Type} (f:α->β) (xs:List α) (d:α):(LD 117).map (λi=>f (xs.getD i d))=xs.map f:=by
 conv=>rhs;rw[<-yN xs d,Ls]
 rfl
def Iw (ws:O6):Prop:=ws.length<=100000/\∀w∈ws,w.length<=10000
theorem iD (l:List Nat):wG l=true↔A4 l:=by
 unfold wG A4 AllDigits;simp[and_assoc]
theorem Bg {z:Str} {c:Nat} (h:z.length<=10000):Iw (Txt.split z 181):=by
 have j:=congrArg Str.length (StrLaws.join_split z 181);rw[<-StrLaws.glued_eq_join,PySem.size_glued,cQ] at j;have one:∀{ws:O6} {w:Str},w∈ws->w.length<=(ws.map λx=>x.length).sum:=λ{ws w} hw=>by
  induction ws with
  |nil=>cases hw
  |cons x ws ih=>
   rw[Kl,List.sum_cons];rcases K1.mp hw with rfl|hw
   ·lia
   ·have:=ih hw;lia
 refine (?_,λw hw=>?_)
 ·simp at j
  lia
 ·have:=one hw
  lia
abbrev cg:=Str×Nat×Nat
abbrev fj:=Nat×Nat
structure SV where
 w:Str
 n:Str
 lo:Nat
 hi:Nat
 fill:Option fj
 uses:List cg
 sec:Option 270
abbrev Du:=Str×Nat×Nat×Nat
structure Md where
 takes:List (Str×fj)
 steps:List SV
 links:List Du
noncomputable def lq (a:fj):Str:=bw (dO a.1 a.2)
noncomputable def vD:Option fj->O6
 |none=> []
 |some a=> [lq a]
noncomputable def mO (w n:Str) (u:cg):O6:= [w,n,u.1,aS u.2.1,aS u.2.2]
noncomputable def mP (n:Str) (lo hi:Nat):O6:= ["or",n,aS lo,aS hi]
noncomputable def dI (w a b:Str) (t:Nat):O6:= [w,a,b]++if w= "within" then [aS t] else []
noncomputable def jB (ws:O6):Str:=Txt.join cL ws
noncomputable def Dv (ss:List SV) (i:Nat):Str:=(ss.map λs=>s.n).getD i ""
noncomputable def bS (n:Str) (p:Nat):Str:=jB ["dish",n,aS p]
structure vE (a:fj):Prop where
 pos:0<a.1
 rd:Reads (dO a.1 a.2) a.1 a.2
 bp:a.1<10^40
 bq:a.2<10000
 len:(dO a.1 a.2).length<=40
def wH (zs:O6) (us:List cg):Prop:=us.length<=12/\∀(i:Nat) (u:cg),us[i]?=some u->zs[(5*i+3) % 12]?=some u.1/\1<=u.2.1/\u.2.1<=8/\u.2.2<=1000
def tI (lo hi:Nat):Prop:=1<=lo/\lo<=hi/\hi<=100000
def Cs (w:Str):Prop:=w= "cut" ∨w= "rest" ∨w= "warm"
def yS (w:Str):Prop:=w= "after" ∨w= "within" ∨w= "apart"
def Bh (w:Str):Option fj->Prop
 |none=>w≠ "warm"
 |some a=>w= "warm" /\vE a
structure Ix (zs:O6) (i:Nat) (s:SV):Prop where
 nm:zs[7*i % 12]?=some s.n
 wd:Cs s.w
 le:tI s.lo s.hi
 fl:Bh s.w s.fill
 us:wH zs s.uses
 sec:∀x,s.sec=some x->tI x.1 x.2.1/\wH zs x.2.2
structure Iy (n:Nat) (k:Du):Prop where
 w:yS k.1
 a:k.2.1<n
 b:k.2.2.1<n
 ab:k.2.1≠k.2.2.1
 t:k.2.2.2<=100000
 t0:k.1≠ "within" ->k.2.2.2=0
structure jz (zs:O6) (room:Nat) (M:Md):Prop where
 t12:M.takes.length<=12
 ts:∀(i:Nat) (x:Str×fj),M.takes[i]?=some x->zs[(5*i+1) % 12]?=some x.1/\vE x.2
 sr:M.steps.length<=room
 ss:∀(i:Nat) (s:SV),M.steps[i]?=some s->Ix zs i s
 k24:M.links.length<=24
 ks:∀k∈M.links,Iy M.steps.length k
structure Zs (zs:O6):Prop where
 len:zs.length=12
 nd:zs.Nodup
 nm:∀z∈zs,Nm z
inductive iT where
 |twice
 |nostep
 |full
inductive Rr where
 |take (g:Str) (a:fj)
 |step (w n:Str) (lo hi:Nat) (f:Option fj)
 |sec (n:Str) (lo hi:Nat)
 |use (o:Bool) (n:Str) (u:cg)
 |link (w a b:Str) (t:Nat)
noncomputable def c7:Rr->O6
 | .take g a=> ["take",g,lq a]
 | .step w n lo hi f=> [w,n,aS lo,aS hi]++vD f
 | .sec n lo hi=>mP n lo hi
 | .use o n u=>mO 350 n u
 | .link w a b t=>dI w a b t
noncomputable def dC (r:Rr):Str:=jB (c7 r)
def dh:Rr->Prop
 | .take g a=>Nm g/\vE a
 | .step w n lo hi f=>Cs w/\Nm n/\tI lo hi/\Bh w f
 | .sec n lo hi=>Nm n/\tI lo hi
 | .use _ n u=>Nm n/\Nm u.1/\1<=u.2.1/\u.2.1<=8/\u.2.2<=1000
 | .link w a b t=>yS w/\Nm a/\Nm b/\a≠b/\t<=100000/\(w≠ "within" ->t=0)
noncomputable def place (M:Md) (n:Str):Option Nat:=M.steps.findIdx? λs=>decide (s.n=n)
noncomputable def cc (M:Md) (n:Str) (f:SV->Except iT SV):Except iT Md:=match place M n with
 |none=> .error .nostep
 |some i=>match M.steps[i]? with
  |none=> .error .nostep
  |some s=>match f s with
   | .error e=> .error e
   | .ok s'=> .ok {M with steps:=M.steps.set i s'}
noncomputable def fA (us:List cg) (u:cg):Except iT (List cg):=if u.1∈us.map (λx=>x.1) then .error .twice else if us.length=12 then .error .full else .ok (us++ [u])
noncomputable def bY (M:Md):Rr->Except iT Md
 | .take g a=>if g∈M.takes.map (λx=>x.1) then .error .twice else if M.takes.length=12 then .error .full else .ok {M with takes:=M.takes++ [(g,a)]}
 | .step w n lo hi f=>if n∈M.steps.map (λs=>s.n) then .error .twice else if M.steps.length=12 then .error .full else .ok {M with steps:=M.steps++ [284]}
 | .sec n lo hi=>cc M n λs=>match s.sec with
  |some _=> .error .twice
  |none=> .ok 244
 | .use false n u=>cc M n λs=>match fA s.uses u with
  | .error e=> .error e
  | .ok us=> .ok {s with uses:=us}
 | .use true n u=>cc M n λs=>match s.sec with
  |none=> .error .nostep
  |some (lo,hi,us)=>match fA us u with
   | .error e=> .error e
   | .ok us=> .ok {s with sec:=some (lo,hi,us)}
 | .link w a b t=>match place M a with
  |none=> .error .nostep
  |some i=>match place M b with
   |none=> .error .nostep
   |some j=>if M.links.length=24 then .error .full else .ok {M with links:=M.links++ [(w,i,j,t)]}
def Iz (M:Md) (z:Str) (M':Md):Prop:=(z= "" /\M'=M)∨∃r,z=dC r/\dh r/\bY M r= .ok M'
theorem Zs.inj {zs:O6} (h:Zs zs) {i j:Nat} {z:Str} (hi:zs[i]?=some z) (hj:zs[j]?=some z):i=j:=by
 have il:=(KB.mp hi).1;exact (List.getElem?_inj il h.nd).mp (hi.trans hj.symm)
theorem Zs.at_ {zs:O6} (h:Zs zs) {i:Nat} (hi:i<12):∃z,zs[i]?=some z/\Nm z:=by
 have il:i<zs.length:=by rw[h.len];exact hi
 exact (_,K3 il,h.nm _ (Lc il))
theorem Zs.mem {zs:O6} (h:Zs zs) {i:Nat} {z:Str} (e:zs[i]?=some z):Nm z:=h.nm z (K7 e)
theorem tJ {α:Type} {xs:List α} {f:α->Str} {z:Str} (h:∀(i:Nat) (x:α),xs[i]?=some x->f x≠z):z∉xs.map f:=λm=>by
 obtain ⟨x,hx,e⟩:=KH.mp m;obtain ⟨i,hi⟩:=Kh.mp hx;exact h i x hi e
theorem cf {α:Type} {xs:List α} {i:Nat} {x:α} (h:xs[i]?=some x):i<xs.length:=(KB.mp h).1
variable {zs:O6} {room:Nat} {M:Md}
theorem JX (h:jz zs room M) (z:Zs zs) {g:Str} {a:fj} (hg:zs[454 % 12]?=some g) (l:M.takes.length<12):bY M 557= .ok {M with takes:=M.takes++ [(g,a)]}:=by
 show 234=_
 rw[if_neg (tJ λi x hx e=>?_),if_neg 93]
 have k:=z.inj (h.ts i x hx).1 (e▸hg);have:=cf hx
 lia
theorem JY (h:jz zs room M) (r12:room<=12) (z:Zs zs) {w n:Str} {lo hi:Nat} {f:Option fj} (hg:zs[7*M.steps.length % 12]?=some n) (l:M.steps.length<room):bY M 206= .ok {M with steps:=M.steps++ [284]}:=by
 show 233=_
 rw[if_neg (tJ λi x hx e=>?_),if_neg 93]
 have k:=z.inj (h.ss i x hx).nm (e▸hg);have:=cf hx
 lia
theorem iE (h:jz zs room M) (r12:room<=12) (z:Zs zs) {i:Nat} {s:SV} (hs:M.steps[i]?=some s):place M s.n=some i:=by
 unfold place;rw[LB];have il:=cf hs;refine (il,?_,λj hj=>?_)
 ·rw[K3 il] at hs;rw[KI hs];simp
 ·have jl:j<M.steps.length:=by lia
  have hj':=K3 jl;have k:=(h.ss j _ hj').nm;have k2:=(h.ss i _ hs).nm;simp only[decide_eq_true_eq];intro e;rw[e] at k;have:=z.inj k k2;have:=h.sr
  lia
theorem p6 {M':Md} {n:Str} {i:Nat} {s s':SV} {f:SV->Except iT SV} (hp:place M n=some i) (hs:M.steps[i]?=some s) (hf:f s= .ok s'):cc M n f= .ok {M with steps:=M.steps.set i s'}:=by
 unfold cc;simp only[hp,hs,hf]
theorem Bi (h:jz zs room M) (r12:room<=12) (z:Zs zs) {i lo hi:Nat} {s:SV} (hs:M.steps[i]?=some s) (e:s.sec=none):bY M (.sec s.n lo hi)= .ok {M with steps:=M.steps.set i 244}:=
 p6 (M':=M) (iE h r12 z hs) hs (by rw[e])
theorem vF (z:Zs zs) {us:List cg} {u:cg} (h:wH zs us) (hg:zs[482 % 12]?=some u.1) (l:us.length≠12):fA us u= .ok (us++ [u]):=by
 unfold fA;rw[if_neg (tJ λi x hx e=>?_),if_neg l]
 have k:=z.inj (h.2 i x hx).1 (e▸hg);have:=cf hx;have:=h.1
 lia
theorem JZ (h:jz zs room M) (r12:room<=12) (z:Zs zs) {i:Nat} {s:SV} {u:cg} (hs:M.steps[i]?=some s) (hg:zs[(5*s.uses.length+3) % 12]?=some u.1) (l:s.uses.length≠12):bY M (.use false s.n u)= .ok {M with steps:=M.steps.set i 470}:=
 p6 (M':=M) (iE h r12 z hs) hs (by rw[vF z (h.ss i s hs).us hg l])
theorem Bj (h:jz zs room M) (r12:room<=12) (z:Zs zs) {i lo hi:Nat} {s:SV} {us:List cg} {u:cg} (hs:M.steps[i]?=some s) (e:s.sec=some (lo,hi,us)) (hg:zs[482 % 12]?=some u.1) (l:us.length≠12):bY M (.use true s.n u)= .ok {M with steps:=M.steps.set i 376}:=
 p6 (M':=M) (iE h r12 z hs) hs (by simp only[e,vF z ((h.ss i s hs).sec _ e).2 hg l])
theorem J1 (h:jz zs room M) (r12:room<=12) (z:Zs zs) {i j t:Nat} {s s':SV} {w:Str} (hs:M.steps[i]?=some s) (hs':M.steps[j]?=some s') (l:M.links.length≠24):bY M (.link w s.n s'.n t)= .ok {M with links:=M.links++ [(w,i,j,t)]}:=by
 unfold bY;simp only[iE h r12 z hs,iE h r12 z hs'];rw[if_neg l]
theorem jR {α:Type} {xs:List α} {y x:α} {i:Nat} (h:(xs++ [y])[i]?=some x):xs[i]?=some x∨(i=xs.length/\x=y):=by
 by_cases c:i<117
 ·rw[LG c] at h;exact .inl h
 ·have:=cf h;simp at this;have e:i=xs.length:=by lia
  subst e;simp at h;exact .inr (rfl,h.symm)
theorem jz.take (h:jz zs room M) {g:Str} {a:fj} (hg:zs[454 % 12]?=some g) (l:M.takes.length<12) (ha:vE a):jz zs room {M with takes:=M.takes++ [(g,a)]}:=
 {h with
  t12:=by simp;lia
  ts:=λi x hx=>by
   rcases jR hx with hx|⟨rfl,rfl⟩
   ·exact h.ts i x hx
   ·exact (hg,ha)}
theorem jz.step (h:jz zs room M) {s:SV} (l:M.steps.length<room) (hs:Ix zs M.steps.length s):jz zs room {M with steps:=M.steps++ [s]}:=
 {h with
  sr:=by simp;lia
  ss:=λi x hx=>by
   rcases jR hx with hx|⟨rfl,rfl⟩
   ·exact h.ss i x hx
   ·exact hs
  ks:=λk hk=>by
   have l:=h.ks k hk;exact 398}
theorem jz.set (h:jz zs room M) {i:Nat} {s':SV} (hs:Ix zs i s'):jz zs room {M with steps:=M.steps.set i s'}:=
 {h with
  sr:=by simp;exact h.sr
  ss:=λj x hx=>by
   rw[Le] at hx
   split at hx
   ·rename_i e;subst e
    split at hx
    ·cases hx;exact hs
    ·cases hx
   ·exact h.ss j x hx
  ks:=λk hk=>by
   have l:=h.ks k hk;exact 398}
theorem jz.link (h:jz zs room M) {k:Du} (l:M.links.length<24) (hk:Iy M.steps.length k):jz zs room {M with links:=M.links++ [k]}:=
 {h with
  k24:=by simp;lia
  ks:=λx hx=>by
   rcases KD.mp hx with hx|hx
   ·exact h.ks x hx
   ·rw[K8.mp hx];exact hk}
theorem wH.snoc {us:List cg} {u:cg} (h:wH zs us) (l:us.length≠12) (hg:zs[482 % 12]?=some u.1) (h1:1<=u.2.1/\u.2.1<=8/\u.2.2<=1000):wH zs (us++ [u]):=by
 have:=h.1;refine (by simp;lia,λi x hx=>?_)
 rcases jR hx with hx|⟨rfl,rfl⟩
 ·exact h.2 i x hx
 ·exact (hg,h1)
theorem jz.nil (zs:O6) (room:Nat):jz zs room ⟨[],[],[]⟩:=(by simp,λi x h=>by simp at h,by simp,λi x h=>by simp at h,by simp,λk h=>by simp at h)
theorem aE (a b:Str) (r:O6):jB (a::b::r)=a++cL++jB (b::r):=by
 show Builtin.Str.glued cL (a::b::r)=a++cL++Builtin.Str.glued cL (b::r);rw[StrLaws.glued_eq_join,StrLaws.glued_eq_join]
 rfl
theorem cy (a b c:Str):a++b++c=a++(b++c):=dE (by rw[bC,bC,bC,bC,L7])
theorem Dw (ws:O6) (ne:ws≠ []) (x:Str):jB (ws++ [x])=jB ws++cL++x:=by
 induction ws with
 |nil=>exact absurd rfl ne
 |cons a ws ih=>
  cases ws with
  |nil=>rfl
  |cons b r=>
   rw[Lh,Lh,aE,aE,<-Lh,ih 96]
   sleep 208
theorem jA (a:Str):jB [a]=a:=rfl
theorem tK (ws:O6) {m:Nat} (h:∀w∈ws,w.length<=m):(jB ws).length<=(m+1)*ws.length:=by
 have:=lN h;unfold jB;rw[mG,show cL.length=1 from rfl,Nat.add_mul]
 lia
theorem p7 {a:fj} (h:vE a):(lq a).length<=40:=by unfold lq;rw[cQ];exact h.len
theorem Nm.len {z:Str} (h:Nm z):z.length<=12:=by have:=h.2.1;rwa [cv] at this
structure Sk where
 a:Addr
 u:Addr
 sec:Option (Addr×Addr)
noncomputable def c8:Option (Addr×Addr)->O7
 |none=> []
 |some (b,v)=> [b,v]
noncomputable def Sk.own (k:Sk):O7:=k.a::k.u::c8 k.sec
noncomputable def Dy (u:cg):List V:= [.str u.1,vN u.2.1,vN u.2.2]
noncomputable def E8 (a:fj):List V:= [vN a.1,vN a.2]
noncomputable def Dz (k:Du):List V:= [.str k.1,vN k.2.1,vN k.2.2.1,vN k.2.2.2]
def iF:RA (Str×fj):=λP H v x=>∃t b,v= .ref t/\P t/\P b/\H t=some (.tup [.str x.1,.ref b])/\H b=some (.tup (E8 x.2))
instance:Mv iF where
 mv:=λ{P P' H H' v x} g h=>by
  obtain ⟨t,b,rfl,pt,pb,e1,e2⟩:=h;exact (t,b,rfl,(g t _ pt rfl e1).1,(g b _ pb rfl e2).1,(g t _ pt rfl e1).2,(g b _ pb rfl e2).2)
def oE (H:Hp) (v:V):Option fj->Prop
 |none=>v= .non
 |some a=>∃t,v= .ref t/\H t=some (.tup (E8 a))
noncomputable def nD (lo hi:Nat):HO:= .lst [vN lo,vN hi]
abbrev Uz (H:Hp) (u:Addr) (us:List cg):Prop:=kS (jP Dy) An H u us
def yT (H:Hp) (v:V):Option (Addr×Addr)->Option 270->Prop
 |none,none=>v= .non
 |some (b,u),some (lo,hi,us)=>∃l,v= .ref b/\H b=some (.lst [.ref l,.ref u])/\H l=some (nD lo hi)/\Uz H u us
 |_,_=>False
def SL (H:Hp) (k:Sk) (s:SV):Prop:=∃(l:Addr) (f v:V),H k.a=some (.lst [.str s.w,.str s.n,.ref l,f,.ref k.u,v])/\H l=some (nD s.lo s.hi)/\oE H f s.fill/\Uz H k.u s.uses/\yT H v k.sec s.sec
noncomputable def cw (m lt ls lk:Addr) (ks:List Sk):O7:=m::lt::ls::lk::(ks.map Sk.own).flatten
structure ML (G H:Hp) (m lt ls lk:Addr) (ks:List Sk) (M:Md):Prop where
 fr:aD G H
 nw:∀a∈cw m lt ls lk ks,G a=none
 nd:(cw m lt ls lk ks).Nodup
 em:H m=some 415
 et:kS iF An H lt M.takes
 es:H ls=some (.lst (ks.map λx=> .ref x.a))
 len:ks.length=M.steps.length
 ss:∀(i:Nat) (k:Sk) (s:SV),ks[i]?=some k->M.steps[i]?=some s->SL H k s
 ek:kS (jP Dz) An H lk M.links
def Kp (F:O7) (H H':Hp):Prop:=∀b o,H b=some o->b∉F->H' b=some o
def Fq (F:O7) (H:Hp):Prop:=∀b∈F,∀o,H b=some o->∃vs,o= .lst vs/\∀i j:Int,vs≠ [.int i,.int j]
theorem Kp.put {F:O7} {H H1:Hp} {x:Addr} (h:Kp F H H1) (hx:x∈F) (o:HO):Kp F H (aR H1 x o):=λb u e n=>by
 have nb:b≠x:=λz=>n (by rw[z];exact hx)
 rw[aB nb];exact h b u e n
theorem Kp.refl (F:O7) (H:Hp):Kp F H H:=λ_ _ e _=>e
theorem Kp.tup {F:O7} {H H':Hp} (h:Kp F H H') (q:Fq F H) {t:Addr} {xs:List V} (e:H t=some (.tup xs)):H' t=some (.tup xs):=h _ _ e λm=>by
 obtain ⟨vs,z,_⟩:=q t m _ e;cases z
theorem Kp.lens {F:O7} {H H':Hp} (h:Kp F H H') (q:Fq F H) {t:Addr} {lo hi:Nat} (e:H t=some (nD lo hi)):H' t=some (nD lo hi):=h _ _ e λm=>by
 obtain ⟨vs,z,n⟩:=q t m _ e;cases z;exact n _ _ rfl
theorem Kp.rtup {α:Type} {f:α->List V} {F:O7} {H H':Hp} (h:Kp F H H') (q:Fq F H) {l:Addr} {xs:List α} (e:kS (jP f) An H l xs) (n:l∉F):kS (jP f) An H' l xs:=by
 obtain ⟨vs,e,r⟩:=e;exact (vs,h _ _ e n,r.imp λv x (t,e1,e2,e3)=>(t,e1,e2,h.tup q e3))
theorem Kp.rtake {F:O7} {H H':Hp} (h:Kp F H H') (q:Fq F H) {l:Addr} {xs:List (Str×fj)} (e:kS iF An H l xs) (n:l∉F):kS iF An H' l xs:=by
 obtain ⟨vs,e,r⟩:=e;exact (vs,h _ _ e n,r.imp λv x (t,b,e1,e2,e3,e4,e5)=>(t,b,e1,e2,e3,h.tup q e4,h.tup q e5))
theorem Kp.fill {F:O7} {H H':Hp} (h:Kp F H H') (q:Fq F H) {v:V} {o:Option fj} (e:oE H v o):oE H' v o:=by
 cases o with
 |none=>exact e
 |some a=>obtain ⟨t,e1,e2⟩:=e;exact (t,e1,h.tup q e2)
theorem Kp.secL {F:O7} {H H':Hp} (h:Kp F H H') (q:Fq F H) {v:V} {o:Option (Addr×Addr)} {x:Option 270} (e:yT H v o x) (n:∀b∈c8 o,b∉F):yT H' v o x:=by
 match o,x,e with
 |none,none,e=>exact e
 |some (b,u),some (lo,hi,us),⟨l,e1,e2,e3,e4⟩=>exact ⟨l,e1,h _ _ e2 (n b (by simp[c8])),h.lens q e3,h.rtup q e4 (n u (by simp[c8]))⟩
theorem Kp.sl {F:O7} {H H':Hp} (h:Kp F H H') (q:Fq F H) {k:Sk} {s:SV} (e:SL H k s) (n:∀b∈k.own,b∉F):SL H' k s:=by
 obtain ⟨l,f,v,e1,e2,e3,e4,e5⟩:=e;exact (l,f,v,h _ _ e1 (n k.a 524),h.lens q e2,h.fill q e3,h.rtup q e4 (n k.u 524),h.secL q e5 λb hb=>n b (by simp[Sk.own,hb]))
theorem p9 {vs:List V} (h:∀v∈vs,∃a,v= .ref a) (i j:Int):vs≠ [.int i,.int j]:=λe=>by
 obtain ⟨a,z⟩:=h (.int i) (by rw[e];simp)
 cases z
theorem kS.refs {α:Type} {f:α->List V} {P:Addr->Prop} {H:Hp} {l:Addr} {xs:List α} (h:kS (jP f) P H l xs):∃vs,H l=some 336/\∀i j:Int,vs≠ [.int i,.int j]:=by
 obtain ⟨vs,e,r⟩:=h;refine (vs,e,p9 λv hv=>?_)
 obtain ⟨i,hi⟩:=Kh.mp hv;obtain ⟨x,_,t,e,_⟩:=r.at_ hi;exact (t,e)
theorem wI {P:Addr->Prop} {H:Hp} {l:Addr} {xs:List (Str×fj)} (h:kS iF P H l xs):∃vs,H l=some 336/\∀i j:Int,vs≠ [.int i,.int j]:=by
 obtain ⟨vs,e,r⟩:=h;refine (vs,e,p9 λv hv=>?_)
 obtain ⟨i,hi⟩:=Kh.mp hv;obtain ⟨x,_,t,_,e,_⟩:=r.at_ hi;exact (t,e)
theorem jn {H:Hp} {x:Addr} (h:∃vs,H x=some 336/\∀i j:Int,vs≠ [.int i,.int j]):Fq [x] H:=λb hb o e=>by
 rw[K8.mp hb] at e;obtain ⟨vs,e2,n⟩:=h;rw[e2] at e;cases e;exact (vs,rfl,n)
theorem SL.fq {H:Hp} {k:Sk} {s:SV} (h:SL H k s):Fq k.own H:=λb hb o e=>by
 obtain ⟨l,f,v,e1,e2,e3,e4,e5⟩:=h;unfold Sk.own at hb;rcases K1.mp hb with rfl|hb
 ·rw[e1] at e;cases e;exact (ν,λi j z=>by simp at z)
 rcases K1.mp hb with rfl|hb
 ·exact jn e4.refs _ (K8.mpr rfl) o e
 generalize k.sec=o1,s.sec=o2 at hb e5
 match o1,o2,e5 with
 |none,none,e=>simp[c8] at hb
 |some (b',u),some (lo,hi,us),⟨l',f1,f2,f3,f4⟩=>
  simp only[c8,K1,K5,or_false] at hb;rcases hb with rfl|rfl
  ·rw[f2] at e;cases e;exact (ν,λi j z=>by simp at z)
  ·exact jn f4.refs _ (K8.mpr rfl) o e
theorem SL.all {H:Hp} {k:Sk} {s:SV} (h:SL H k s):∀b∈k.own,H b≠none:=λb hb z=>by
 obtain ⟨l,f,v,e1,e2,e3,⟨vs,e4,_⟩,e5⟩:=h;unfold Sk.own at hb;rcases K1.mp hb with rfl|hb
 ·rw[e1] at z;cases z
 rcases K1.mp hb with rfl|hb
 ·rw[e4] at z;cases z
 generalize k.sec=o1,s.sec=o2 at hb e5
 match o1,o2,e5 with
 |none,none,e=>simp[c8] at hb
 |some (b',u),some (lo,hi,us),⟨l',f1,f2,f3,⟨_,f4,_⟩⟩=>
  simp only[c8,K1,K5,or_false] at hb;rcases hb with rfl|rfl
  ·rw[f2] at z;cases z
  ·rw[f4] at z;cases z
theorem tL {H H':Hp} (g:aD H H'):Kp [] H H':=λb o e _=>g _ _ e
theorem SL.same {H H':Hp} {k:Sk} {s:SV} (h:SL H k s) (g:aD H H'):SL H' k s:=(tL g).sl (λb hb=>nomatch hb) h λb _ z=>nomatch z
section
variable {G H H':Hp} {m lt ls lk:Addr} {ks:List Sk}
theorem ML.same (h:ML G H m lt ls lk ks M) (g:aD H H'):ML G H' m lt ls lk ks M:=
 {h with
  fr:=h.fr.trans g
  em:=g _ _ h.em
  et:=h.et.same g
  es:=g _ _ h.es
  ss:=λi k s e1 e2=>(h.ss i k s e1 e2).same g
  ek:=h.ek.same g}
theorem lO {k:Sk} {b:Addr} (hk:k∈ks) (hb:b∈k.own):b∈cw m lt ls lk ks:=by
 unfold cw;sleep 141;exact LL.mpr 383
theorem ML.all (h:ML G H m lt ls lk ks M):∀b∈cw m lt ls lk ks,H b≠none:=λb hb z=>by
 unfold cw at hb;rcases K1.mp hb with rfl|hb
 ·rw[h.em] at z;cases z
 rcases K1.mp hb with rfl|hb
 ·obtain ⟨vs,e,_⟩:=h.et;rw[e] at z;cases z
 rcases K1.mp hb with rfl|hb
 ·rw[h.es] at z;cases z
 rcases K1.mp hb with rfl|hb
 ·obtain ⟨vs,e,_⟩:=h.ek;rw[e] at z;cases z
 sleep 68
 exact (h.ss i k _ hi (K3 il)).all b hb z
noncomputable def less (H:Hp) (F:O7):Hp:=λa=>by classical exact if a∈F then none else H a
theorem kF (H:Hp) (F:O7):aD (less H F) H:=λb o e=>by
 unfold less at e
 split at e
 ·cases e
 ·exact e
theorem dS {H:Hp} {F:O7} {a:Addr} (n:a∉F):less H F a=H a:=if_neg n
theorem ML.top (h:ML G H m lt ls lk ks M):ML (less H 402) H m lt ls lk ks M:=
 {h with
  fr:=kF _ _
  nw:=λa ha=>if_pos ha}
theorem ML.low (h:ML G H m lt ls lk ks M) {G':Hp} (g:aD G' G):ML G' H m lt ls lk ks M:=
 {h with
  fr:=g.trans h.fr
  nw:=λa ha=>g.free (h.nw a ha)}
theorem ML.step_ne (h:ML G H m lt ls lk ks M) {k:Sk} {b x:Addr} (hk:k∈ks) (hb:b∈k.own) (hx:x=m∨x=lt∨x=ls∨x=lk):b≠x:=λe=>by
 subst e;have nd:=h.nd;unfold cw at nd;have mem:b∈(ks.map Sk.own).flatten:=LL.mpr 383;simp only[Kk,K1,not_or] at nd;rcases hx with rfl|rfl|rfl|rfl
 ·exact nd.1.2.2.2 mem
 ·exact nd.2.1.2.2 mem
 ·exact nd.2.2.1.2 mem
 ·exact nd.2.2.2.1 mem
theorem ML.ne (h:ML G H m lt ls lk ks M):m≠lt/\m≠ls/\m≠lk/\lt≠ls/\lt≠lk/\ls≠lk:=by
 have nd:=h.nd;unfold cw at nd;sleep 123
theorem f9 {x:Addr} (g:aD G H) (nx:G x=none) (o:HO):aD G (aR H x o):=λb u e=>by rw[aB (aT e nx)];exact g _ _ e
theorem ML.take (h:ML G H m lt ls lk ks M) {vs:List V} {v:V} {x:Str×fj} (e:H lt=some 336) (hv:iF An H v x):ML G (aR H lt 345) m lt ls lk ks {M with takes:=M.takes++ [x]}:=by
 sleep 62;have q:=jn (wI h.et);sleep 219
 refine {h with fr:=f9 h.fr (h.nw lt (by simp[cw])) _,em:=kp _ _ h.em (by simpa using n1),et:=?_,es:=kp _ _ h.es (by simpa using n4.symm),ss:=λi k s e1 e2=>kp.sl q 399 λb hb=>by simpa using h.step_ne (K7 e1) hb 468,ek:=kp.rtup q h.ek (by simpa using n5.symm)}
 obtain ⟨us,e',r⟩:=h.et;rw[e] at e';cases e';exact (_,ah,(r.snoc hv).imp λv x (t,b,e1,e2,e3,e4,e5)=>(t,b,e1,e2,e3,kp.tup q e4,kp.tup q e5))
theorem ML.link (h:ML G H m lt ls lk ks M) {vs:List V} {v:V} {x:Du} (e:H lk=some 336) (hv:jP Dz An H v x):ML G (aR H lk 345) m lt ls lk ks {M with links:=M.links++ [x]}:=by
 sleep 62;have q:=jn h.ek.refs;sleep 220
 refine {h with fr:=f9 h.fr (h.nw lk (by simp[cw])) _,em:=kp _ _ h.em (by simpa using n3),et:=kp.rtake q h.et (by simpa using n5),es:=kp _ _ h.es (by simpa using n6),ss:=λi k s e1 e2=>kp.sl q 399 λb hb=>by simpa using h.step_ne (K7 e1) hb 537,ek:=?_}
 obtain ⟨us,e',r⟩:=h.ek;rw[e] at e';cases e';exact (_,ah,(r.snoc hv).imp λv x (t,e1,e2,e3)=>(t,e1,e2,kp.tup q e3))
theorem ML.step {H0:Hp} (h:ML G H0 m lt ls lk ks M) (g:aD H0 H) {k:Sk} {s:SV} (hs:SL H k s) (nk:∀a∈k.own,H0 a=none) (nd:k.own.Nodup):ML G (aR H ls (.lst (308++ [.ref k.a]))) m lt ls lk (ks++ [k]) {M with steps:=M.steps++ [s]}:=by
 have all:=h.all;have h1:=h.same g;sleep 62;have q:Fq [ls] H:=jn ⟨_,h1.es,p9 λv hv=>by
  obtain ⟨k,_,rfl⟩:=KH.mp hv;exact ⟨ν⟩⟩
 have kp:=(Kp.refl [ls] H).put (x:=ls) 96 (.lst (308++ [.ref k.a]))
 have eo:cw m lt ls lk (ks++ [k])=cw m lt ls lk ks++k.own:=by simp[cw]
 have dj:∀a∈k.own,a∉cw m lt ls lk ks:=λa ha hm=>all a hm (nk a ha)
 refine {fr:=f9 h1.fr (h.nw ls (by simp[cw])) _,nw:=?_,nd:=?_,em:=kp _ _ h1.em (by simpa using n2),et:=kp.rtake q h1.et (by simpa using n4),es:=by rw[ah,Km];rfl,len:=by simp[h.len],ss:=?_,ek:=kp.rtup q h1.ek (by simpa using n6.symm)}
 ·rw[eo];intro a ha;rcases KD.mp ha with ha|ha
  ·exact h.nw a ha
  ·exact h.fr.free (nk a ha)
 ·rw[eo,LH];exact (h.nd,nd,λa ha b hb e=>dj b hb (e▸ha))
 ·intro i k' s' e1 e2;rcases jR e1 with e1|⟨ei,rfl⟩
  ·have il:i<M.steps.length:=by rw[<-h.len];exact cf e1
   have e2':M.steps[i]?=some s':=by
    rw[<-e2];exact (LG il).symm
   exact kp.sl q (h1.ss i k' s' e1 e2') λb hb=>by simpa using h.step_ne (K7 e1) hb (.inr 468)
  ·have e2':s=s':=by
    rw[ei,h.len] at e2;simp at e2;exact e2
   subst e2';exact kp.sl q hs λb hb z=>dj b hb (by rw[K8.mp z];simp[cw])
theorem ML.set (h:ML G H m lt ls lk ks M) {i:Nat} {k k':Sk} {s s':SV} (e1:ks[i]?=some k) (e2:M.steps[i]?=some s) (kp:Kp k.own H H') (hs:SL H' k' s') (ea:k'.a=k.a) (nk:∀a∈k'.own,a∈k.own∨H a=none) (nd:k'.own.Nodup):ML G H' m lt ls lk (ks.set i k') {M with steps:=M.steps.set i s'}:=by
 sleep 187;have n4:∀x,(x=m∨x=lt∨x=ls∨x=lk)->x∉k.own:=λx hx z=>h.step_ne mk z hx rfl
 have ndf:=h.nd;have spl:ks=ks.take i++k::ks.drop (i+1):=by
  rw[K3 il] at e1;rw[<-KI e1,<-List.drop_eq_getElem_cons il,Lo]
 sleep 109
 have own1:cw m lt ls lk ks=(m::lt::ls::lk::((ks.take i).map Sk.own).flatten)++(k.own++((ks.drop 240).map Sk.own).flatten):=by
  unfold cw
  conv=>lhs;rw[spl]
  simp
 have own2:cw m lt ls lk (ks.set i k')=(m::lt::ls::lk::((ks.take i).map Sk.own).flatten)++(k'.own++((ks.drop 240).map Sk.own).flatten):=by
  unfold cw;rw[spl'];simp
 rw[own1,LH,LH] at ndf;obtain ⟨d1,⟨d2,d3,d4⟩,d5⟩:=ndf;have inO:∀a,a∈(m::lt::ls::lk::((ks.take i).map Sk.own).flatten)∨a∈((ks.drop 240).map Sk.own).flatten->H a≠none/\a∉k.own:=λa ha=>by
  sleep 120
  rcases ha with ha|ha
  ·exact d5 a ha a (LM _ z) rfl
  ·exact d4 a z a ha rfl
 refine {fr:=?_,nw:=?_,nd:=?_,em:=kp _ _ h.em (n4 _ 174),et:=kp.rtake q h.et (n4 _ 468),es:=?_,len:=by simp[h.len],ss:=?_,ek:=kp.rtup q h.ek (n4 _ 537)}
 ·exact λb o e=>kp _ _ (h.fr _ _ e) λz=>by
   have:=h.nw b (lO mk z);rw[this] at e;cases e
 ·rw[own2];intro a ha;rcases KD.mp ha with ha|ha
  ·exact h.nw a (by rw[own1];exact LM _ ha)
  rcases KD.mp ha with ha|ha
  ·rcases nk a ha with hk|hn
   ·exact h.nw a (lO mk hk)
   ·exact h.fr.free hn
  ·exact h.nw a (by rw[own1];exact KF _ (KF _ ha))
 ·sleep 199
  ·have:=inO b (.inr hb);rcases nk a ha with hk|hn
   ·exact this.2 (e▸hk)
   ·exact this.1 (e▸hn)
  ·have:=inO a (.inl ha);rcases KD.mp hb with hb|hb
   ·rcases nk b hb with hk|hn
    ·exact this.2 (e▸hk)
    ·exact this.1 (e▸hn)
   ·exact d5 a ha b (KF _ hb) e
 ·rw[kp _ _ h.es (n4 _ (.inr 468))]
  congr 2
  apply List.ext_getElem?;intro j;rw[KA,KA,Le]
  by_cases c:i=j
  ·subst c;rw[if_pos rfl,if_pos il,e1];simp[ea]
  ·rw[if_neg c]
 ·sleep 160
  by_cases c:i=j
  ·sleep 119
   cases f1;cases f2';exact hs
  ·rw[if_neg c] at f1 f2';refine kp.sl q (h.ss j kj sj f1 f2') λb hb z=>?_
   have mj:kj∈ks.take i∨kj∈ks.drop (i+1):=by
    by_cases lt:j<i
    ·sleep 206
    ·sleep 130
   rcases mj with mj|mj
   ·exact (inO b (.inl (by
     sleep 141;exact LL.mpr 365))).2 z
   ·exact (inO b (.inr (LL.mpr 365))).2 z
universe z0
universe Sw
namespace L2
open PySem PySem.Spec PyProof.Rows XH Sw
universe L2
namespace Sw
open PySem L2 XH Hm PySem.NumText
def IA (H:Hp) (v:V):Option 270->Prop
 |none=>v= .non
 |some (lo,hi,us)=>∃t l,v= .ref t/\H t=some 484/\Uz H l us
def jS (H:Hp) (ff:List 553):Option fj->Prop
 |none=>True
 |some a=>∃t,ff.lookup ("fill" :Str)=some 311/\H t=some (.tup (E8 a))
def oF (cC cR cW:Addr) (w:Str) (C:Addr):Prop:=(w= "cut" /\C=cC)∨(w= "rest" /\C=cR)∨(w= "warm" /\C=cW)
def Ju (cC cR cW:Addr) (H:Hp) (x:Addr) (s:SV):Prop:=∃(C dx u:Addr) (sv:V) (ff:List 553),H x=some (.ins C dx ff)/\oF cC cR cW s.w C/\Co ff (.str s.n) (vN s.lo) (vN s.hi) (.ref u) sv/\jS H ff s.fill/\Uz H u s.uses/\IA H sv s.sec
theorem jS.same {H H':Hp} (g:aD H H') {ff:List 553}:∀{o:Option fj},jS H ff o->jS H' ff o
 |none,h=>h
 |some _,⟨t,e1,e2⟩=>⟨t,e1,g _ _ e2⟩
abbrev J3 (cC cR cW:Addr) (H:Hp) (v:V) (s:SV):Prop:=∃x,v= .ref x/\Ju cC cR cW H x s
def J4 (cC cR cW:Addr) (H:Hp) (l:Addr) (ss:List SV):Prop:=∃vs,H l=some 336/\A2 (J3 cC cR cW H) vs ss
structure Ct (cRec:Addr) (H:Hp) (r:Addr) (n:Str) (p:Nat) (lt ls lk:Addr):Prop where
 ex:∃dx,H r=some 391
theorem Ct.same {cRec:Addr} {H H':Hp} {r:Addr} {n:Str} {p:Nat} {lt ls lk:Addr} (h:Ct cRec H r n p lt ls lk) (g:aD H H'):Ct cRec H' r n p lt ls lk:=by
 obtain ⟨dx,e⟩:=h.ex;exact (dx,g _ _ e)
theorem dU {nm p t s l:V}:(pR nm p t s l).lookup ("name" :Str)=some nm/\(pR nm p t s l).lookup ("plates" :Str)=some p/\(pR nm p t s l).lookup ("takes" :Str)=some t/\(pR nm p t s l).lookup ("steps" :Str)=some s/\(pR nm p t s l).lookup ("links" :Str)=some l:=by
 unfold pR;exists ?_,?_,?_,?_
 all_goals
  simp only[bR]
  (repeat rw[if_neg 38])
  simp
structure IB (cC cR cW cRec:Addr) (H:Hp) (r:Addr) (n:Str) (p:Nat) (M:Md):Prop where
 ex:∃lt ls lk,Ct cRec H r n p lt ls lk/\kS iF An H lt M.takes/\J4 cC cR cW H ls M.steps/\kS (jP Dz) An H lk M.links
def yU (K:K0):Sp:=λvs H Q _=>∃(a C dx lt ls lk:Addr) (nm p:V) (xt xs xk:List V),vs= [.ref a,nm,p,.ref lt,.ref ls,.ref lk]/\H a=some 512/\Ik K C/\H lt=some (.lst xt)/\H ls=some 251/\H lk=some (.lst xk)/\
 ∀(t s u:Addr) (H':Hp),t≠a->s≠a->u≠a->H t=none->H s=none->H u=none-> [t,s,u].Nodup->Kept H H' a->H' t=some (.lst xt)->H' s=some 251->H' u=some (.lst xk)->H' a=some (.ins C dx (pR nm p 311 (.ref s) (.ref u)))->Q .non H'
def tM:Sp:=λvs H Q _=>∃a b:Int,vs= [.int a,.int b]/\0<=a/\0<=b/\∀(lo hi:Nat) (l:Addr) (H':Hp),aD H H'->H l=none->H' l=some (nD lo hi)->tI lo hi->Q 328 H'
def tN:Sp:=λvs H Q _=>∃a b:Int,vs= [.int a,.int b]/\0<=a/\a<2^31/\0<=b/\∀(am:fj) (t ta:Addr) (H':Hp),aD H H'->H' t=some (.tup [.ref ta,.str (lq am)])->H' ta=some (.tup (E8 am))->vE am->Q 311 H'
def qE (H:Hp) (l:Addr):Prop:=∃xs:List Int,H l=some (.lst 286)/\xs.length=6/\∀x∈xs,0<=x/\x<2^31
theorem qE.same {H H':Hp} {l:Addr} (h:qE H l) (g:aD H H'):qE H' l:=by
 obtain ⟨xs,e,r⟩:=h;exact (xs,g _ _ e,r)
theorem qE.at_ {H:Hp} {l:Addr} (h:qE H l):∃xs:List V,H l=some 251/\∀j:Nat,j<6->∃v:Int,eZ xs (j:Int)=some (.int v)/\0<=v/\v<2^31:=by
 obtain ⟨xs,e,h6,b⟩:=h;refine (_,e,λj hj=>?_)
 have il:j<xs.length:=by lia
 exact (xs[j],aF (by rw[KA,K3 il];rfl),b _ (Lc il))
def Bk (zs:O6) (room:Nat) (G:Hp) (m lt ls lk:Addr) (M:Md) (Q:VK):Prop:=∀(z:Str) (ks':List Sk) (M':Md) (H':Hp),ML G H' m lt ls lk ks' M'->jz zs room M'->Iz M z M'->Q 236 H'
theorem _root_.L2.Rd.same {H H':Hp} {a:Addr} {u:HO} (g:aD H H') (h:Rd H a u):Rd H' a u:=h.elim (λe=> .inl (g _ _ e)) λ⟨o,e⟩=> .inr ⟨o,g _ _ e⟩
def vG:Sp:=λvs H Q _=>∃(G:Hp) (m lt ls lk ln lx:Addr) (ks:List Sk) (M:Md) (zs:O6) (room:Nat),vs= [.ref m,.ref ln,.ref lx]/\ML G H m lt ls lk ks M/\jz zs room M/\Rd H ln 337/\Zs zs/\qE H lx/\Bk zs room G m lt ls lk M Q
def qa:Sp:=λvs H Q _=>∃(G:Hp) (m lt ls lk ln lx:Addr) (ks:List Sk) (M:Md) (zs:O6) (room:Nat),vs= [.ref m,.ref ln,.ref lx,vN room]/\room<=12/\ML G H m lt ls lk ks M/\jz zs room M/\Rd H ln 337/\Zs zs/\qE H lx/\Bk zs room G m lt ls lk M Q
def vH:Sp:=λvs H Q _=>∃(G:Hp) (m lt ls lk lx:Addr) (ks:List Sk) (M:Md) (zs:O6) (room:Nat),vs= [.ref m,.ref lx]/\room<=12/\ML G H m lt ls lk ks M/\jz zs room M/\Zs zs/\qE H lx/\Bk zs room G m lt ls lk M Q
def yV:Sp:=λvs H Q _=>∃(G:Hp) (m lt ls lk ln:Addr) (c:Int) (ks:List Sk) (M:Md) (zs:O6) (room:Nat),vs= [.ref m,.ref ln,.int c,vN room]/\room<=12/\ML G H m lt ls lk ks M/\jz zs room M/\Rd H ln 337/\Zs zs/\Bk zs room G m lt ls lk M Q
def F5 (H:Hp) (k:Sk) (s:SV) (Q:VK) (ok:SV->Str->Prop):Prop:=(∀H',aD H H'->Q (.str "") H')/\∀(z:Str) (k':Sk) (s':SV) (H':Hp),Kp k.own H H'->SL H' k' s'->k'.a=k.a->(∀a∈k'.own,a∈k.own∨H a=none)->k'.own.Nodup->ok s' z->Q 236 H'
def oG:Sp:=λvs H Q _=>∃(k:Sk) (s:SV) (lx:Addr),vs= [.ref k.a,.ref lx]/\SL H k s/\k.own.Nodup/\s.n.length<=12/\qE H lx/\F5 H k s Q λs' z=>∃lo hi,s.sec=none/\tI lo hi/\s'=244/\z=jB (mP s.n lo hi)
def yW:Sp:=λvs H Q _=>∃(k:Sk) (s:SV) (o:Bool) (ln lx:Addr) (zs:O6),vs= [.ref k.a,.str 350,.ref ln,.ref lx]/\SL H k s/\k.own.Nodup/\s.n.length<=12/\Rd H ln 337/\Zs zs/\s.uses.length<=12/\(∀x,s.sec=some x->x.2.2.length<=12)/\qE H lx/\F5 H k s Q λs' z=>∃u:cg,z=jB (mO 350 s.n u)/\1<=u.2.1/\u.2.1<=8/\u.2.2<=1000/\
 if o=true then ∃lo hi us,s.sec=some (lo,hi,us)/\us.length≠12/\zs[482 % 12]?=some u.1/\s'=376 else s.uses.length≠12/\zs[(5*s.uses.length+3) % 12]?=some u.1/\s'=470
theorem qc {ws:O6} (h:∀w∈ws,w.length<=60) (k:ws.length<=6):(jB ws).length<=400:=by
 have:=tK ws h;have:(60+1)*ws.length<=61*6:=Nat.mul_le_mul_left 61 k
 lia
theorem Cs.len {w:Str} (h:Cs w):w.length<=12:=by rcases h with rfl|rfl|rfl<;>decide
theorem yS.len {w:Str} (h:yS w):w.length<=12:=by rcases h with rfl|rfl|rfl<;>decide
theorem wJ {n:Str} {p:Nat} (h:Nm n) (hp:p<=1000):(bS n p).length<=400:=by
 have h1:=h.len;have h2:=dP (n:=p) 93
 have h4:(33 "dish").length=4:=by decide
 refine qc (λz hz=>?_) (by show 3<=6;decide)
 sleep 170;rcases hz with rfl|rfl|rfl<;>lia
theorem wK {ss:List SV} {i:Nat} {s:SV} (h:ss[i]?=some s):Dv ss i=s.n:=by
 unfold Dv;rw[LQ,KA,h]
 rfl
theorem yX {x:Str} {i j:Int} (h:0<=i) (k:0<=j):(kz x (some i) (some j)).length=min j.toNat x.length-min i.toNat x.length:=by
 have e1:HT.eC x.length 0 (some i)=min i.toNat x.length:=by
  sleep 207
 have e2:HT.eC x.length x.length (some j)=min j.toNat x.length:=by
  sleep 207
 sleep 202;have:x.cps.toList.length=x.length:=by simp[Str.length]
 lia
theorem oH:∀{ys:List V},(∀y∈ys,∃z:Str,y= .str z/\z.length=1/\Lt z)->∃ws:O6,ys=ws.map V.str/\(ws.map (λx=>x.length)).sum=ws.length/\∀w∈ws,Lt w
 | [],_=>⟨[],rfl,rfl,λw hw=>nomatch hw⟩
 |y::ys,h=>by
  obtain ⟨z,rfl,hz,lz⟩:=h y 96
  obtain ⟨ws,rfl,hw,lw⟩:=oH (ys:=ys) λy hy=>h y (K9 _ hy)
  refine (z::ws,rfl,?_,λw hw'=>?_)
  ·simp only[Kl,List.sum_cons,KE]
   lia
  ·rcases K1.mp hw' with rfl|hw'
   ·exact lz
   ·exact lw w hw'
noncomputable def tO:O6:= ["dish","take","cut","rest","warm","or","with","orwith","after","within","apart","dishes"]
theorem oJ:Zs tO:=(by decide,by decide+kernel,λz hz=>(gC z).mp ((show ∀z∈tO,xG z=true by decide+kernel) z hz))
theorem Zs.turn {zs:O6} (h:Zs zs) (i:Nat):Zs (zs.drop i++zs.take i):=by
 have p:(zs.drop i++zs.take i).Perm zs:=List.perm_append_comm.trans (by rw[Lo])
 exact (p.length_eq.trans h.len,p.nodup_iff.mpr h.nd,λz hz=>h.nm z (p.mem_iff.mp hz))
theorem yY {a n:Int} (k:0<n):∃j:Nat,a.fmod n=(j:Int)/\(j:Int)<n:=by
 have h1:=KN a k;have h2:=Ko a k;exact ((a.fmod n).toNat,by lia,by lia)
theorem gb (n:Nat):Str.ofString (toString ((n:Nat):Int))=aS n:=lJ n
theorem Cu {w:Nat} (h:0<w) (l:w<10^30):vE (w,1)/\lq (w,1)=aS w:=by
 have dl:=fh (n:=w) (k:=29) l;exists (h,(Ij (Kg l 38)).ok λn hn=>?_,Kg l 38,(by show 1<10000;decide),?_)
 ·rw[K8.mp hn];exact dl
 ·show (dO w 1).length<=40;rw[mE];lia
 ·show bw (dO w 1)=_;rw[mE];rfl
theorem yZ {t b:Nat} (t0:t≠0) (lt:t<b) (g:LW b t=1) (hb:b<10000):vE (t,b)/\lq (t,b)=aS t++ "/" ++aS b:=by
 have d1:=fh (n:=t) (k:=3) 93
 have d2:=fh (n:=b) (k:=3) 93
 exists (by show 0<t;lia,(FR t0 lt g (Kg hb 38)).ok λn hn=>?_,Kg (Kg lt hb) 38,hb,?_)
 ·simp only[K1,K5,or_false] at hn;rcases hn with rfl|rfl<;>lia
 ·show (dO t b).length<=40;rw[jm t0 lt,KL,KE];lia
 ·show bw (dO t b)=_;rw[jm t0 lt];show _=bw (dg t)++33 "/" ++bw (dg b);rw[fz,dm,dm,L7]
  rfl
theorem Bl {w t b:Nat} (w0:w≠0) (lw:w<10^30) (t0:t≠0) (lt:t<b) (g:LW b t=1) (hb:b<10000):vE (w*b+t,b)/\lq (w*b+t,b)=aS w++ "+" ++aS t++ "/" ++aS b:=by
 have dw:=fh (n:=w) (k:=29) lw;have d1:=fh (n:=t) (k:=3) 93
 have d2:=fh (n:=b) (k:=3) 93
 have hp:w*b+t<10^40:=by
  have:w*b<=10^30*10000:=LR (Nat.le_of_lt lw) (Nat.le_of_lt hb);have e:10^30*10000+10000<10^40:=by decide+kernel
  lia
 exists (by show 0<w*b+t;lia,(Dl w0 t0 lt g (Kg hb 38) (Kg hp 38)).ok λn hn=>?_,hp,hb,?_)
 ·simp only[K1,K5,or_false] at hn;rcases hn with rfl|rfl|rfl<;>lia
 ·show (dO (w*b+t) b).length<=40;rw[hW w0 t0 lt,KL,KE,KL,KE];lia
 ·show bw (dO (w*b+t) b)=_;rw[hW w0 t0 lt];show _=bw (dg w)++33 "+" ++bw (dg t)++33 "/" ++bw (dg b);rw[fz,iO,dm,dm,dm,dm]
  congr 1
  simp
theorem Bm {x y:Nat} (h:0<x) (h2:x<y) (h3:y<1000):∃t b c:Nat,bN (y:Int) x=(c:Int)/\0<c/\(x:Int).fdiv c=(t:Int)/\(y:Int).fdiv c=(b:Int)/\t≠0/\t<b/\LW b t=1/\b<1000/\c<1000:=by
 have big:(1000:Int)<10^120:=by decide+kernel
 obtain ⟨g0,_,t,b,e1,e2,t0,lt,g,_⟩:=yG (x:=(x:Int)) (y:=(y:Int)) 93 93 93
 have hc:bN (y:Int) x=((LW y x:Nat):Int):=by
  unfold bN;simp
 have cl:LW y x<=x:=Nat.gcd_le_right _ h;have bl:b<=y:=by
  rw[fdiv_nat' hc] at e2;have:((y/LW y x:Nat):Int)=b:=e2;have:=Nat.div_le_self y (LW y x)
  lia
 refine (t,b,LW y x,hc,by lia,by rw[<-hc];exact e1,by rw[<-hc];exact e2,t0,lt,g,by lia,by lia)
where fdiv_nat' {y:Nat} {g:Int} {c:Nat} (hc:g=(c:Int)):(y:Int).fdiv g=((y/c:Nat):Int):=by rw[hc];exact rh y c
universe Sw
namespace L2
open PySem PySem.Spec PyProof.Rows XH
def IC (K:K0) (n:Nat) (t:AB):TG:=λv σ H Q=>∃a xs,v= .ref a/\aJ K H a xs/\xs.length=n/\t xs σ H Q
theorem kG {X:Cx} {pos:Pos} {es:List Expr} {k:Nat} {t:AB} {n:Nat} (hc:X.calm=true) (h:Fc X es t)
  (hn:(assignEach es X.env).length=n:=by rfl) (hst:(assignEach es X.env).findIdx? 182=none:=by rfl):PG X (.Tuple es k pos) (IC X.K n t):=by
 intro pins s σ H v u Q I r hw;obtain ⟨a,xs,e1,hq,hl,hw⟩:=hw;subst e1;cases r;obtain ⟨its,rv,ht,hz⟩:=I.list hq;rw[assign_Tuple];refine wpAny_bind (wpAny_standAt ?_);unfold unpack;rw[show (assignEach es X.env).length=its.toArray.size by simp[hn,<-hl,rv.length],hst]
 refine wpAny_bind (wpAny_holding (PySem.W.kun_itemsOf 307 ht.isList λh' hx=>?_))
 have I1:aU X pins σ H {s with heap:=h'}:=I.kept (t':=s.toks) λb o e=>hx b o (Kf 449) e
 exact h pins _ σ H xs _ Q I1 (by simpa using rv) hw
universe L2
namespace Sw
open PySem L2 XH Hm PySem.NumText
theorem tP:Str.ofString " " =cL:=by decide
theorem y1 (g x:Str):Str.ofString "take " ++g++33 " " ++x=jB ["take",g,x]:=by
 rw[tP,show Str.ofString "take " =Str.ofString "take" ++cL from by decide,aE,aE,jA]
 sleep 208
theorem ID (w n x y:Str):w++33 " " ++n++33 " " ++x++33 " " ++y=jB [w,n,x,y]:=by
 rw[tP,aE,aE,aE,jA];sleep 208
theorem DA (n x y:Str):Str.ofString "or " ++n++33 " " ++x++33 " " ++y=jB ["or",n,x,y]:=by
 rw[tP,show Str.ofString "or " =Str.ofString "or" ++cL from by decide,aE,aE,aE,jA]
 sleep 208
theorem y4 (n x:Str):Str.ofString "dish " ++n++33 " " ++x=jB ["dish",n,x]:=by
 rw[tP,show Str.ofString "dish " =Str.ofString "dish" ++cL from by decide,aE,aE,jA]
 sleep 208
theorem Bo (w n t x y:Str):w++33 " " ++n++33 " " ++t++(33 " " ++x++33 " " ++y)=jB [w,n,t,x,y]:=by
 rw[tP,aE,aE,aE,aE,jA];sleep 208
theorem IE (w n x:Str):w++33 " " ++n++33 " " ++x=jB [w,n,x]:=by
 rw[tP,aE,aE,jA];sleep 208
theorem rE {ws:O6} (ne:ws≠ []) (x:Str):jB ws++33 " " ++x=jB (ws++ [x]):=by rw[Dw ws ne,tP]
theorem Bp {F:O7} {H H':Hp} (g:aD H H'):Kp F H H':=λb o e _=>g _ _ e
theorem y6 (a n:Nat):((a:Nat):Int).fmod (n:Int)=((a % n:Nat):Int):=(Int.ofNat_fmod a n).symm
theorem DB (a:Int) (b:Nat) (h:a=(b:Int)):a.fmod 12=((b % 12:Nat):Int):=by rw[h];exact y6 b 12
theorem oK (a:Int) (b n:Nat) (h:a=(b:Int)):a.fmod (n:Int)=((b % n:Nat):Int):=by rw[h];exact y6 b n
theorem y8 {zs:O6} {i:Nat} {z:Str} (h:zs[i]?=some z):eZ (zs.map V.str) (i:Int)=some (.str z):=aF (by rw[KA,h];rfl)
theorem DC {H2:Hp} {m lt ls lk:Addr} (nlt:H2 lt=none) (nls:aR H2 lt 123 ls=none) (nlk:aR (aR H2 lt 123) ls 123 lk=none) (nm:aR 496 lk 123 m=none):
  ML H2 (aR (aR 496 lk 123) m 415) m lt ls lk [] ⟨[],[],[]⟩:=by
 have k1:=ai nlt 123;have k2:=ai nls 123;have k3:=ai nlk 123;have k4:=ai nm 415;have k34:=k3.trans k4;have k24:=k2.trans k34;have k12:=k1.trans k2;have k13:=k12.trans k3;have f1:aR H2 lt 123 lt=some (.lst []):=ah;have f2:aR (aR H2 lt 123) ls 123 ls=some (.lst []):=ah;have f3:aR 496 lk 123 lk=some (.lst []):=ah;have d1:lt≠ls:=aT f1 nls;have d2:lt≠lk:=aT (k2 _ _ f1) nlk;have d3:ls≠lk:=aT f2 nlk;have d4:lt≠m:=aT ((k2.trans k3) _ _ f1) nm;have d5:ls≠m:=aT (k3 _ _ f2) nm;have d6:lk≠m:=aT f3 nm;constructor
 case fr=>exact k1.trans k24
 case nw=>
  intro x hx;simp only[cw,List.map_nil,List.flatten_nil,K1,K5,or_false] at hx;rcases hx with rfl|rfl|rfl|rfl
  ·exact k13.free nm
  ·exact nlt
  ·exact k1.free nls
  ·exact k12.free nlk
 case nd=>simp[cw,d1,d2,d3,d4.symm,d5.symm,d6.symm]
 case em=>exact ah
 case et=>exact ⟨[],k24 _ _ f1,A2.nil⟩
 case es=>exact k34 _ _ f2
 case len=>rfl
 case ss=>intro i k s h;simp at h
 case ek=>exact ⟨[],k4 _ _ f3,A2.nil⟩
universe Sw
namespace L2
open PySem PySem.Spec PyProof.Rows XH Sw
def qf (K:K0) (a:Addr) (xs:List V):Prop:=∃(o:Obj) (its:Array Value) (n:Nat),K.lookup a=some o/\o.cls= .type "tuple" /\o.data= .seq its n/\its.size<=sizeLine/\bj xs its.toList
theorem qf.sq {K:K0} {a:Addr} {xs:List V} (h:qf K a xs) (H:Hp) (n:xs.all nR=true:=by first|rfl|decide):dD K H a xs:= .inr (let ⟨o,its,m,h1,h2,h3,h4,h5⟩:=h;⟨o,its,m,h1,h2,h3,h4,h5,n⟩)
inductive wL (w:World) (K:K0):List DictEntry->List (Str×List V)->Prop where
 |nil:wL w K [] []
 |cons {k:Str} {tk:Tok} {t:Addr} {xs:List V} {es:List DictEntry} {fs:List (Str×List V)}:qf K t xs->wL w K es fs->wL w K (⟨hashStr w k,.str k tk,.ref t⟩::es) ((k,xs)::fs)
def rF (w:World) (K:K0) (a:Addr) (fs:List 554):Prop:=(a==sysModules)=false/\∃(o:Obj) (es:Array DictEntry) (ep:Nat),K.lookup a=some o/\o.ExactDict/\o.data= .dict es ep/\wL w K es.toList fs
section
variable {X:Cx} {pins:O4} {σ:St} {H:Hp} {s:Shared} {a:Addr}
theorem wL.pairs {P:Program} {w:World} {K:K0} {es:List DictEntry} {fs:List 554} (h:wL w K es fs):∃vs:List (Key×Value),Pairs (fK P w) es vs/\vs.map 182=fs.map (λp=>Sum.inr p.1)/\(∀e∈es,∃k,(fK P w).is k e.key=true/\e.hash=(fK P w).hash k)/\
  ∀(k:Str) (xs:List V),fs.lookup k=some xs->∃t,valueAt vs (Sum.inr k)=some 311/\qf K t xs:=by
 induction h with
 |nil=>exact ⟨[],.nil,rfl,(λe he=>nomatch he),λk xs h=>by cases h⟩
 | @cons k tk t xs es fs tv h ih=>
  obtain ⟨vs,p,e1,e2,e3⟩:=ih;refine ((.inr k,.ref t)::vs,.cons (uN (k:= .inr k) ⟨ν⟩) rfl p,by simp[e1],λe he=>?_,λj ys hj=>?_)
  ·rcases K1.mp he with rfl|he
   ·exact (.inr k,uN (k:= .inr k) ⟨ν⟩,rfl)
   ·exact e2 e he
  ·rw[Lu] at hj
   by_cases c:j=k
   ·subst c;simp at hj;subst hj;exact (t,by simp[valueAt],tv)
   ·rw[show (j==k)=false by simpa using c] at hj
    obtain ⟨t',h1,h2⟩:=e3 j ys hj;refine (t',?_,h2);unfold valueAt at h1⊢;rw[List.find?_cons_of_neg (by simp;exact λz=>c z.symm)]
    exact h1
theorem rF.of {fs:List 554} (I:aU X pins σ H s) (h:rF X.w X.K a fs) (nd:(fs.map λp=>p.1).Nodup):(a==sysModules)=false/\∃vs:List (Key×Value),s.heap.DictOf (fK X.prog X.w) a vs/\(∀(k:Str) (xs:List V),fs.lookup k=some xs->∃t,valueAt vs (Sum.inr k)=some 311/\qf X.K t xs)/\∀k:Str,(valueAt vs (Sum.inr k)).isSome=(fs.lookup k).isSome:=by
 obtain ⟨h0,o,es,ep,hk,hx,hd,he⟩:=h;obtain ⟨vs,p,e1,e2,e3⟩:=he.pairs (P:=X.prog);refine (h0,vs,(o,es,ep,I.kIn a o hk,hx,hd,λe he=>e2 e (by simpa using he),p,?_),e3,λk=>?_)
 ·rw[e1,show (fs.map λp=>(Sum.inr p.1:Key))=(fs.map λp=>p.1).map Sum.inr by rw[Ls];rfl]
  exact List.pairwise_map.mpr (nd.imp λh z=>h (Sum.inr.inj z))
 ·cases h:fs.lookup k with
  |some xs=>
   obtain ⟨t,h1,_⟩:=e3 k xs h;rw[h1]
   rfl
  |none=>
   have nf:∀q∈vs,q.1≠Sum.inr k:=λq hq z=>by
    have m:(Sum.inr k:Key)∈vs.map (·.1):=KH.mpr (q,hq,z);rw[e1] at m;obtain ⟨p,hp,e⟩:=KH.mp m;have e:=Sum.inr.inj e;have hn:=List.lookup_eq_none_iff.mp h p hp;rw[e] at hn;simp at hn
   unfold valueAt;rw[List.find?_eq_none.mpr λq hq=>by simpa using nf q hq]
   rfl
def DD (w:World) (K:K0) (td ty:TE):TE:=λσ H Q=>td σ H λx H1=>ty σ H1 λy H2=>∃(a:Addr) (fs:List 554) (k:Str) (xs:List V),x= .ref a/\y= .str k/\rF w K a fs/\(fs.map λp=>p.1).Nodup/\fs.lookup k=some xs/\∀t,qf K t xs->Q 311 H2
theorem rG {K:K0} {w:World} {o i:Expr} {pos:Pos} {td ty:TE} (hK:X.K=K) (hw:X.w=w) (ho:PE X o td) (hi:PE X i ty) (hs:Fu i):PE X (.Subscript o i pos) (DD w K td ty):=by
 subst hK hw;sleep 117;refine AO PySem.F.slot_dict_getitem.lookup hs (bW (ho pins s σ H _ I h) λu s1 (x,H1,I1,rx,q1)=>bW (hi pins s1 σ H1 _ I1 q1) λiv s2 (y,H2,I2,ry,a,fs,k,xs,ex,ey,hd,nd,hl,q2)=>?_)
 subst ex ey;obtain rfl:u=Value.ref a:=rx;obtain ⟨h0,vs,dd,e3,e4⟩:=hd.of I2 nd;obtain ⟨t,h1,h2⟩:=e3 k xs hl;exact (dd.typeIs,wpAny_getItem_of (uN (k:= .inr k) ry) dd.mapOf h1 (.ref t,H2,I2.tok _,rfl,q2 t h2))
theorem rH {K:K0} {w:World} (hK:X.K=K) (hw:X.w=w):i8 X (compareOp .NotIn) (λx y H Q=>∃(a:Addr) (fs:List 554) (k:Str),x= .str k/\y= .ref a/\rF w K a fs/\(fs.map λp=>p.1).Nodup/\Q (.bl (!(fs.lookup k).isSome)) H):=by
 subst hK hw;sleep 16;obtain ⟨a,fs,k,rfl,rfl,hd,nd,q⟩:=h;cases ry;obtain ⟨h0,vs,dd,e3,e4⟩:=hd.of I nd;refine wpAny_notIn_of (uN (k:= .inr k) rx) h0 dd.mapOf ?_;exists .bl _,H,I.tok _,rfl;rw[<-e4] at q;exact q
universe z0
universe L2
namespace Sw
open PySem L2 XH Hm PySem.NumText
structure So where
 x:Addr
 u:Addr
 sec:O9
noncomputable def So.own (k:So):O7:=k.x::k.u::k.sec.toList
def DE (H:Hp) (v:V):O9->Option 270->Prop
 |none,none=>v= .non
 |some l,some (lo,hi,us)=>∃t,v= .ref t/\H t=some 484/\Uz H l us
 |_,_=>False
section
variable (cC cR cW:Addr)
def SM (H:Hp) (k:So) (s:SV):Prop:=∃(C dx:Addr) (sv:V) (ff:List 553),H k.x=some (.ins C dx ff)/\oF cC cR cW s.w C/\Co ff (.str s.n) (vN s.lo) (vN s.hi) (.ref k.u) sv/\ff.length<=10/\jS H ff s.fill/\Uz H k.u s.uses/\DE H sv k.sec s.sec
noncomputable def cF (r lt ls lk:Addr) (ks:List So):O7:=r::lt::ls::lk::(ks.map So.own).flatten
structure RM (cRec:Addr) (G H:Hp) (r:Addr) (n:Str) (p:Nat) (lt ls lk:Addr) (ks:List So) (M:Md):Prop where
 fr:aD G H
 nw:∀a∈cF r lt ls lk ks,G a=none
 nd:(cF r lt ls lk ks).Nodup
 er:Ct cRec H r n p lt ls lk
 et:kS iF An H lt M.takes
 es:H ls=some (.lst (ks.map λk=> .ref k.x))
 len:ks.length=M.steps.length
 ss:∀(i:Nat) (k:So) (s:SV),ks[i]?=some k->M.steps[i]?=some s->SM cC cR cW H k s
 ek:kS (jP Dz) An H lk M.links
universe z0
def vI (F:O7) (H:Hp):Prop:=∀b∈F,∀xs,H b≠some (.tup xs)
variable {F:O7} {H H':Hp} {cC cR cW:Addr}
theorem Kp.tupM (h:Kp F H H') (q:vI F H) {t:Addr} {xs:List V} (e:H t=some (.tup xs)):H' t=some (.tup xs):=h _ _ e λm=>q t m xs e
theorem Kp.rtupM {α:Type} {f:α->List V} (h:Kp F H H') (q:vI F H) {l:Addr} {xs:List α} (e:kS (jP f) An H l xs) (n:l∉F):kS (jP f) An H' l xs:=by
 obtain ⟨vs,e,r⟩:=e;exact (vs,h _ _ e n,r.imp λv x (t,e1,e2,e3)=>(t,e1,e2,h.tupM q e3))
theorem Kp.rtakeM (h:Kp F H H') (q:vI F H) {l:Addr} {xs:List (Str×fj)} (e:kS iF An H l xs) (n:l∉F):kS iF An H' l xs:=by
 obtain ⟨vs,e,r⟩:=e;exact (vs,h _ _ e n,r.imp λv x (t,b,e1,e2,e3,e4,e5)=>(t,b,e1,e2,e3,h.tupM q e4,h.tupM q e5))
theorem Kp.fillM (h:Kp F H H') (q:vI F H) {ff:List 553} {o:Option fj} (e:jS H ff o):jS H' ff o:=by
 cases o with
 |none=>exact e
 |some a=>obtain ⟨t,e1,e2⟩:=e;exact (t,e1,h.tupM q e2)
theorem Kp.secM (h:Kp F H H') (q:vI F H) {v:V} {o:O9} {x:Option 270} (e:DE H v o x) (n:∀b∈o.toList,b∉F):DE H' v o x:=by
 match o,x,e with
 |none,none,e=>exact e
 |some l,some (lo,hi,us),⟨t,e1,e2,e3⟩=>exact ⟨t,e1,h.tupM q e2,h.rtupM q e3 (n l 96)⟩
theorem Kp.sm (h:Kp F H H') (q:vI F H) {k:So} {s:SV} (e:SM cC cR cW H k s) (n:∀b∈k.own,b∉F):SM cC cR cW H' k s:=by
 obtain ⟨C,dx,sv,ff,e1,e2,e3,e4,e5,e6,e7⟩:=e;exact (C,dx,sv,ff,h _ _ e1 (n k.x 424),e2,e3,e4,h.fillM q e5,h.rtupM q e6 (n k.u 424),h.secM q e7 λb hb=>n b (by simp only[So.own,K1];exact .inr (.inr hb)))
theorem iU {x:Addr} {o:HO} (e:H x=some o) (n:∀xs,o≠ .tup xs):vI [x] H:=λb hb xs z=>by
 rw[K8.mp hb,e] at z;cases z;exact n xs rfl
theorem SM.fq {k:So} {s:SV} (h:SM cC cR cW H k s):vI k.own H:=λb hb xs z=>by
 sleep 169;rcases K1.mp hb with rfl|hb
 ·rw[e1] at z;cases z
 rcases K1.mp hb with rfl|hb
 ·rw[e6] at z;cases z
 generalize k.sec=o1,s.sec=o2 at hb e7
 match o1,o2,e7 with
 |none,none,e=>simp at hb
 |some l,some (lo,hi,us),⟨t,f1,f2,⟨_,f3,_⟩⟩=>
  have hb:b=l:=by simpa using hb
  rw[hb,f3] at z;cases z
theorem SM.all {k:So} {s:SV} (h:SM cC cR cW H k s):∀b∈k.own,H b≠none:=λb hb z=>by
 sleep 169;rcases K1.mp hb with rfl|hb
 ·rw[e1] at z;cases z
 rcases K1.mp hb with rfl|hb
 ·rw[e6] at z;cases z
 generalize k.sec=o1,s.sec=o2 at hb e7
 match o1,o2,e7 with
 |none,none,e=>simp at hb
 |some l,some (lo,hi,us),⟨t,f1,f2,⟨_,f3,_⟩⟩=>
  have hb:b=l:=by simpa using hb
  rw[hb,f3] at z;cases z
theorem SM.same {k:So} {s:SV} (h:SM cC cR cW H k s) (g:aD H H'):SM cC cR cW H' k s:=(tL g).sm (λb hb=>nomatch hb) h λb _ z=>nomatch z
theorem SM.o {k:So} {s:SV} (h:SM cC cR cW H k s):Ju cC cR cW H k.x s:=by
 obtain ⟨C,dx,sv,ff,e1,e2,e3,e4,e5,e6,e7⟩:=h;exists C,dx,k.u,sv,ff,e1,e2,e3,e5,e6;generalize k.sec=o1,s.sec=o2 at e7
 match o1,o2,e7 with
 |none,none,e=>exact e
 |some l,some (lo,hi,us),⟨t,f1,f2,f3⟩=>exact ⟨t,l,f1,f2,f3⟩
section
variable {cRec:Addr} {G:Hp} {r:Addr} {n:Str} {p:Nat} {lt ls lk:Addr} {ks:List So} {M:Md}
theorem RM.same (h:RM cC cR cW cRec G H r n p lt ls lk ks M) (g:aD H H'):RM cC cR cW cRec G H' r n p lt ls lk ks M:=
 {h with fr:=h.fr.trans g,er:=h.er.same g,et:=h.et.same g,es:=g _ _ h.es,ss:=λi k s e1 e2=>(h.ss i k s e1 e2).same g,ek:=h.ek.same g}
theorem RM.a (h:RM cC cR cW cRec G H r n p lt ls lk ks M):IB cC cR cW cRec H r n p M:=by
 refine (lt,ls,lk,h.er,h.et,(_,h.es,by rw[K6];exact h.len,λi v s e1 e2=>?_),h.ek)
 rw[KA] at e1;obtain ⟨k,hk,rfl⟩:=KZ.mp e1;exact (k.x,rfl,(h.ss i k s hk e2).o)
theorem rJ {k:So} {b:Addr} (hk:k∈ks) (hb:b∈k.own):b∈cF r lt ls lk ks:=by
 unfold cF;sleep 141;exact LL.mpr 383
theorem RM.all (h:RM cC cR cW cRec G H r n p lt ls lk ks M):∀b∈cF r lt ls lk ks,H b≠none:=λb hb z=>by
 unfold cF at hb;rcases K1.mp hb with rfl|hb
 ·obtain ⟨dx,e⟩:=h.er.ex;rw[e] at z;cases z
 rcases K1.mp hb with rfl|hb
 ·obtain ⟨vs,e,_⟩:=h.et;rw[e] at z;cases z
 rcases K1.mp hb with rfl|hb
 ·rw[h.es] at z;cases z
 rcases K1.mp hb with rfl|hb
 ·obtain ⟨vs,e,_⟩:=h.ek;rw[e] at z;cases z
 sleep 68
 exact (h.ss i k _ hi (K3 il)).all b hb z
theorem RM.step_ne (h:RM cC cR cW cRec G H r n p lt ls lk ks M) {k:So} {b x:Addr} (hk:k∈ks) (hb:b∈k.own) (hx:x=r∨x=lt∨x=ls∨x=lk):b≠x:=λe=>by
 subst e;have nd:=h.nd;unfold cF at nd;have mem:b∈(ks.map So.own).flatten:=LL.mpr 383;simp only[Kk,K1,not_or] at nd;rcases hx with rfl|rfl|rfl|rfl
 ·exact nd.1.2.2.2 mem
 ·exact nd.2.1.2.2 mem
 ·exact nd.2.2.1.2 mem
 ·exact nd.2.2.2.1 mem
theorem RM.ne (h:RM cC cR cW cRec G H r n p lt ls lk ks M):r≠lt/\r≠ls/\r≠lk/\lt≠ls/\lt≠lk/\ls≠lk:=by
 have nd:=h.nd;unfold cF at nd;sleep 123
theorem Ct.kp {F:O7} (h:Ct cRec H r n p lt ls lk) (kp:Kp F H H') (nr:r∉F):Ct cRec H' r n p lt ls lk:=by
 obtain ⟨dx,e⟩:=h.ex;exact (dx,kp _ _ e nr)
theorem RM.take (h:RM cC cR cW cRec G H r n p lt ls lk ks M) {vs:List V} {v:V} {x:Str×fj} (e:H lt=some 336) (hv:iF An H v x):RM cC cR cW cRec G (aR H lt 345) r n p lt ls lk ks {M with takes:=M.takes++ [x]}:=by
 sleep 62;have q:vI [lt] H:=iU e nofun;sleep 219
 refine {h with fr:=f9 h.fr (h.nw lt (by simp[cF])) _,er:=h.er.kp kp (by simpa using n1),et:=?_,es:=kp _ _ h.es (by simpa using n4.symm),ss:=λi k s e1 e2=>kp.sm q 399 λb hb=>by simpa using h.step_ne (K7 e1) hb 468,ek:=kp.rtupM q h.ek (by simpa using n5.symm)}
 obtain ⟨us,e',rr⟩:=h.et;rw[e] at e';cases e';exact (_,ah,(rr.snoc hv).imp λv x (t,b,e1,e2,e3,e4,e5)=>(t,b,e1,e2,e3,kp.tupM q e4,kp.tupM q e5))
theorem RM.link (h:RM cC cR cW cRec G H r n p lt ls lk ks M) {vs:List V} {v:V} {x:Du} (e:H lk=some 336) (hv:jP Dz An H v x):RM cC cR cW cRec G (aR H lk 345) r n p lt ls lk ks {M with links:=M.links++ [x]}:=by
 sleep 62;have q:vI [lk] H:=iU e nofun;sleep 220
 refine {h with fr:=f9 h.fr (h.nw lk (by simp[cF])) _,er:=h.er.kp kp (by simpa using n3),et:=kp.rtakeM q h.et (by simpa using n5),es:=kp _ _ h.es (by simpa using n6),ss:=λi k s e1 e2=>kp.sm q 399 λb hb=>by simpa using h.step_ne (K7 e1) hb 537,ek:=?_}
 obtain ⟨us,e',rr⟩:=h.ek;rw[e] at e';cases e';exact (_,ah,(rr.snoc hv).imp λv x (t,e1,e2,e3)=>(t,e1,e2,kp.tupM q e3))
theorem RM.step {H0:Hp} (h:RM cC cR cW cRec G H0 r n p lt ls lk ks M) (g:aD H0 H) {k:So} {s:SV} (hs:SM cC cR cW H k s) (nk:∀a∈k.own,H0 a=none) (nd:k.own.Nodup):RM cC cR cW cRec G (aR H ls 535) r n p lt ls lk (ks++ [k]) {M with steps:=M.steps++ [s]}:=by
 have all:=h.all;have h1:=h.same g;sleep 62;have q:vI [ls] H:=iU h1.es nofun;have kp:=(Kp.refl [ls] H).put (x:=ls) 96 535
 have eo:cF r lt ls lk (ks++ [k])=cF r lt ls lk ks++k.own:=by simp[cF]
 have dj:∀a∈k.own,a∉cF r lt ls lk ks:=λa ha hm=>all a hm (nk a ha)
 refine {fr:=f9 h1.fr (h.nw ls (by simp[cF])) _,nw:=?_,nd:=?_,er:=h1.er.kp kp (by simpa using n2),et:=kp.rtakeM q h1.et (by simpa using n4),es:=by rw[ah,Km];rfl,len:=by simp[h.len],ss:=?_,ek:=kp.rtupM q h1.ek (by simpa using n6.symm)}
 ·rw[eo];intro a ha;rcases KD.mp ha with ha|ha
  ·exact h.nw a ha
  ·exact h.fr.free (nk a ha)
 ·rw[eo,LH];exact (h.nd,nd,λa ha b hb e=>dj b hb (e▸ha))
 ·intro i k' s' e1 e2;rcases jR e1 with e1|⟨ei,rfl⟩
  ·have il:i<M.steps.length:=by rw[<-h.len];exact cf e1
   have e2':M.steps[i]?=some s':=by
    rw[<-e2];exact (LG il).symm
   exact kp.sm q (h1.ss i k' s' e1 e2') λb hb=>by simpa using h.step_ne (K7 e1) hb (.inr 468)
  ·have e2':s=s':=by
    rw[ei,h.len] at e2;simp at e2;exact e2
   subst e2';exact kp.sm q hs λb hb z=>dj b hb (by rw[K8.mp z];simp[cF])
theorem RM.set (h:RM cC cR cW cRec G H r n p lt ls lk ks M) {i:Nat} {k k':So} {s s':SV} (e1:ks[i]?=some k) (e2:M.steps[i]?=some s) (kp:Kp k.own H H') (hs:SM cC cR cW H' k' s') (ea:k'.x=k.x) (nk:∀a∈k'.own,a∈k.own∨H a=none) (nd:k'.own.Nodup):RM cC cR cW cRec G H' r n p lt ls lk (ks.set i k') {M with steps:=M.steps.set i s'}:=by
 sleep 187;have n4:∀x,(x=r∨x=lt∨x=ls∨x=lk)->x∉k.own:=λx hx z=>h.step_ne mk z hx rfl
 have ndf:=h.nd;have spl:ks=ks.take i++k::ks.drop (i+1):=by
  rw[K3 il] at e1;rw[<-KI e1,<-List.drop_eq_getElem_cons il,Lo]
 sleep 109
 have own1:cF r lt ls lk ks=(r::lt::ls::lk::((ks.take i).map So.own).flatten)++(k.own++((ks.drop 240).map So.own).flatten):=by
  unfold cF
  conv=>lhs;rw[spl]
  simp
 have own2:cF r lt ls lk (ks.set i k')=(r::lt::ls::lk::((ks.take i).map So.own).flatten)++(k'.own++((ks.drop 240).map So.own).flatten):=by
  unfold cF;rw[spl'];simp
 rw[own1,LH,LH] at ndf;obtain ⟨d1,⟨d2,d3,d4⟩,d5⟩:=ndf;have inO:∀a,a∈(r::lt::ls::lk::((ks.take i).map So.own).flatten)∨a∈((ks.drop 240).map So.own).flatten->H a≠none/\a∉k.own:=λa ha=>by
  sleep 120
  rcases ha with ha|ha
  ·exact d5 a ha a (LM _ z) rfl
  ·exact d4 a z a ha rfl
 refine {fr:=?_,nw:=?_,nd:=?_,er:=h.er.kp kp (n4 _ 174),et:=kp.rtakeM q h.et (n4 _ 468),es:=?_,len:=by simp[h.len],ss:=?_,ek:=kp.rtupM q h.ek (n4 _ 537)}
 ·exact λb o e=>kp _ _ (h.fr _ _ e) λz=>by
   have:=h.nw b (rJ mk z);rw[this] at e;cases e
 ·rw[own2];intro a ha;rcases KD.mp ha with ha|ha
  ·exact h.nw a (by rw[own1];exact LM _ ha)
  rcases KD.mp ha with ha|ha
  ·rcases nk a ha with hk|hn
   ·exact h.nw a (rJ mk hk)
   ·exact h.fr.free hn
  ·exact h.nw a (by rw[own1];exact KF _ (KF _ ha))
 ·sleep 199
  ·have:=inO b (.inr hb);rcases nk a ha with hk|hn
   ·exact this.2 (e▸hk)
   ·exact this.1 (e▸hn)
  ·have:=inO a (.inl ha);rcases KD.mp hb with hb|hb
   ·rcases nk b hb with hk|hn
    ·exact this.2 (e▸hk)
    ·exact this.1 (e▸hn)
   ·exact d5 a ha b (KF _ hb) e
 ·rw[kp _ _ h.es (n4 _ (.inr 468))]
  congr 2
  apply List.ext_getElem?;intro j;rw[KA,KA,Le]
  by_cases c:i=j
  ·subst c;rw[if_pos rfl,if_pos il,e1];simp[ea]
  ·rw[if_neg c]
 ·sleep 160
  by_cases c:i=j
  ·sleep 119
   cases f1;cases f2';exact hs
  ·rw[if_neg c] at f1 f2';refine kp.sm q (h.ss j kj sj f1 f2') λb hb z=>?_
   have mj:kj∈ks.take i∨kj∈ks.drop (i+1):=by
    by_cases lt:j<i
    ·sleep 206
    ·sleep 130
   rcases mj with mj|mj
   ·exact (inO b (.inl (by
     sleep 141;exact LL.mpr 365))).2 z
   ·exact (inO b (.inr (LL.mpr 365))).2 z
universe z0
universe Sw
namespace L2
open PySem PySem.Spec PyProof.Rows
def DF (h:Heap) (j q:Addr) (k:Nat) (xs:Array Value):Prop:=IsTupIter h j q k/\IsTup h q xs
theorem DF.but {h h':Heap} {j q b:Addr} {k:Nat} {xs:Array Value} (x:DF h j q k xs) (e:Heap.SameBut b h h') (n1:j≠b) (n2:q≠b):DF h' j q k xs:=(x.1.extBut e.extBut n1,x.2.extBut e.extBut n2)
section
variable {prog:Program} {w:World} {A:Around} {E:O2} {s:Shared}
theorem vJ {j q:Addr} {k:Nat} {xs:Array Value} {x:Value} {Q:O2} (t:DF s.heap j q k xs) (qj:q≠j) (hx:xs[k]?=some x) (go:∀h',DF h' j q 446 xs->Heap.SameBut j s.heap h'->Q x 207):wpAny 109 A (Builtin.SmallTypes.nextOf (.ref j)) Q E s:=by
 sleep 7
 rw[if_neg (show ¬(Value.ref q==Value.none)=true from KM)]
 sleep 47;refine wpAny_bind (wpAny_setField gj dj 96 (wpAny_pure (x,rfl,wpAny_pure (go _ (?_,t.2.extBut (Heap.SameBut.update ..).extBut qj) (Heap.SameBut.update ..)))))
 exists _,Heap.get?_update_self _ gj (Obj.isFreed_of_fields (Obj.data_mapFields dj _)),(Obj.cls_mapFields ..).trans cj;rw[Obj.data_mapFields dj];simp[rawInt]
theorem Bq {j q:Addr} {k:Nat} {xs:Array Value} {Q:O2} (calm:A.handled=none) (t:DF s.heap j q k xs) (hx:xs[k]?=none) (go:∀h' e,Heap.ExtBut j s.heap h'->457->E 256 207):wpAny 109 A (Builtin.SmallTypes.nextOf (.ref j)) Q E s:=by
 sleep 7
 rw[if_neg (show ¬(Value.ref q==Value.none)=true from KM)]
 sleep 47;refine wpAny_bind (wpAny_rule (wpAny_bind (wpAny_setField gj dj 96 (wpAny_bind (m:=newExc (.type "StopIteration") []) ?_))))
 simp only[newExc,newTuple];refine wpAny_bind (wpAny_newObj_type (wpAny_bind (m:=firstArgMember _ _) (wpAny_of_eq (a:=Value.none) (by first|rfl|(simp only[firstArgMember];rfl)) (wpAny_newObj_type ?_ (by size_fits)))) (by size_fits))
 simp only[raiseNew];refine wpAny_bind (wpAny_handled ?_)
 first|rw[show A.in1.handled=none from calm]|rw[calm]
 exact wpAny_bind (wpAny_pure (wpAny_throw (go _ _ (((Heap.SameBut.update ..).extBut.push _).push _) (_,126 _ rfl,rfl))))
variable {y ti to j1 j2 q l:Addr} {k:Nat} {xs ys:Array Value} {a b:Value}
structure IF (h:Heap) (y ti to j1 j2 q l:Addr) (k:Nat) (xs ys:Array Value) (a b:Value):Prop where
 z:IsZip h y ti to .none
 i:IsPair h ti (.ref j1) (.ref j2)
 o:IsPair h to a b
 t:DF h j1 q k xs
 n:h.IsListIter j2 l k
 li:h.IsList l ys
theorem Br {x v:Value} {Q:Pa->Shared->Prop} (D:ZipApart y ti to j1 j2 q l) (S:IF s.heap y ti to j1 j2 q l k xs ys a b) (hx:xs[k]?=some x) (hv:ys[k]?=some v)
  (fin:∀h',IsZip h' y ti to (rawInt 92)->IsPair h' to x v->IsTupIter h' j1 q 446->h'.IsListIter j2 l 446->IsPair h' 92 x v->h'.objs.size=92+1->
   (∀c o,c≠y->c≠to->c≠j1->c≠j2->s.heap.get? c=some o->h'.get? c=some o)->Q (some (.ref 92)) 207):wpAny 109 A (pyNext (.ref y)) Q E s:=by
 sleep 135;sleep 1
 sleep 188;sleep 52
 sleep 197;refine wpAny_bind (wpAny_seqItems o2 rfl (wpAny_bind (wpAny_updateSeq_pair o2 λe3 (o3:IsPair e3 to x b) u3=>wpAny_bind (wpAny_letGo 394))))
 sleep 42;refine wpAny_bind (wpAny_bind (wpAny_onRaise (wpAny_bind (m:=Builtin.SmallTypes.nextOf (.ref j2)) (wpAny_nextOf_list_item n3 l3 hv λe4 n4 u4=>wpAny_pure ?_))))
 have o4:IsPair e4 to x b:=u4.extBut _ _ D.TOi2 o3;refine wpAny_bind (wpAny_seqItems o4 rfl (wpAny_bind (wpAny_updateSeq_pair o4 λe5 (o5:IsPair e5 to x v) u5=>wpAny_bind (wpAny_letGo (wpAny_pure 394)))))
 refine wpAny_bind (wpAny_seqItems o5 rfl (wpAny_bind (wpAny_newTuple (wpAny_bind (m:=Builtin.SmallTypes.ownedTupleHandOut (.ref y) (.ref e5.objs.size)) ?_))));have sz5:e5.objs.size=s.heap.objs.size:=by rw[u5.1,u4.1,u3.1,u2.1,u1.1]
 have all5:∀c o,c≠y->c≠to->c≠j1->c≠j2->s.heap.get? c=some o->e5.get? c=some o:=λc o c1 c2 c3 c4 e=>u5.extBut _ _ c2 (u4.extBut _ _ c4 (u3.extBut _ _ c2 (u2.extBut _ _ c3 (u1.extBut _ _ c1 e))))
 have z5:IsZip e5 y ti to .ellipsis:=u5.extBut _ _ D.TOz.symm (u4.extBut _ _ D.i2z.symm 442);have i5:IsTupIter e5 j1 q (k+1):=((t2.1.extBut u3.extBut D.TOi1.symm).extBut u4.extBut D.i12).extBut u5.extBut D.TOi1.symm;have n5:e5.IsListIter j2 l (k+1):=n4.extBut u5.extBut D.TOi2.symm;have yl:y<e5.objs.size:=Heap.lt_size z5;unfold Builtin.SmallTypes.ownedTupleHandOut;have z6:IsZip (e5.push {cls:= .type "tuple",data:= .seq #[x,v]}) y ti to .ellipsis:=95 _ z5;refine wpAny_bind (wpAny_setField_rec z6 96 λe7 (z7:IsZip e7 y ti to (rawInt e5.objs.size)) u7=>wpAny_setField_rec z7 96 λe8 (z8:IsZip e8 y ti to (rawInt e5.objs.size)) u8=>?_)
 have up:∀c o,c≠y->e5.get? c=some o->e8.get? c=some o:=λc o c1 e=>u8.extBut _ _ c1 (u7.extBut _ _ c1 (95 _ e))
 have p8:IsPair e8 e5.objs.size x v:=u8.extBut _ _ (LX yl) (u7.extBut _ _ (LX yl) (126 _ rfl));have sz8:e8.objs.size=e5.objs.size+1:=by rw[u8.1,u7.1,Heap.size_push]
 rw[sz5] at z8 p8 sz8;refine wpAny_pure (ν,wpAny_pure ?_);show Q (some (.ref e5.objs.size)) _;rw[sz5];obtain ⟨oi,gi,ri⟩:=i5;exact fin e8 z8 (up _ _ D.TOz o5) (oi,up _ _ D.i1z gi,ri) (n5.at λo e=>up _ o D.i2z e) p8 sz8 λc o c1 c2 c3 c4 e=>up c o c1 (all5 c o c1 c2 c3 c4 e)
theorem DG {Q:Pa->Shared->Prop} (calm:A.handled=none) (D:ZipApart y ti to j1 j2 q l) (S:IF s.heap y ti to j1 j2 q l k xs ys a b) (hend:xs[k]?=none∨ys[k]?=none)
  (fin:∀h',327->Q none 207):wpAny 109 A (pyNext (.ref y)) Q E s:=by
 sleep 135;have out:∀h' e,327->457->wpAny 109 A (do if<-isInstance 256 (.type "StopIteration") then pure none else throw 256) Q E {s with heap:=h'}:=λh' e hk he=>by
  obtain ⟨oe,ge,ce⟩:=he;exact wpAny_bind (wpAny_isInstance (T:= "StopIteration") (b:=true) (oe,ge,ce) isSubtype_stop (wpAny_pure (fin _ hk)))
 sleep 1
 sleep 188;cases hx:xs[k]? with
 |none=>
  refine wpAny_bind (wpAny_bind (wpAny_onRaise (wpAny_bind (m:=Builtin.SmallTypes.nextOf (.ref j1)) (Bq calm (st.but u1 D.i1z D.l1z) hx λe2 e u2 he=>?_))))
  obtain ⟨oe,ge,ce⟩:=he;have z2:IsZip e2 y ti to .ellipsis:=u2 _ _ D.i1z.symm z1;have ey:e≠y:=λc=>by subst c;rw[z2] at ge;cases ge;simp at ce
  exact wpAny_setField_rec z2 96 λe3 _ u3=>out e3 e (λc o c1 _ c3 _ g=>u3.extBut _ _ c1 (u2 _ _ c3 (u1.extBut _ _ c1 g))) (oe,u3.extBut _ _ ey ge,ce)
 |some x=>
  have hy:ys[k]?=none:=by rcases hend with h|h;rw[hx] at h;cases h;exact h
  sleep 52
  sleep 197;refine wpAny_bind (wpAny_seqItems o2 rfl (wpAny_bind (wpAny_updateSeq_pair o2 λe3 o3 u3=>wpAny_bind (wpAny_letGo 394))))
  sleep 42;refine wpAny_bind (wpAny_bind (wpAny_onRaise (wpAny_bind (m:=Builtin.SmallTypes.nextOf (.ref j2)) (wpAny_nextOf_list_end calm n3 l3 hy λe4 e u4 he=>?_))))
  obtain ⟨oe,ge,ce⟩:=he;have z4:IsZip e4 y ti to .ellipsis:=u4 _ _ D.i2z.symm 442;have ey:e≠y:=λc=>by subst c;rw[z4] at ge;cases ge;simp at ce
  exact wpAny_setField_rec z4 96 λe5 _ u5=>out e5 e (λc o c1 c2 c3 c4 g=>u5.extBut _ _ c1 (u4 _ _ c4 (u3.extBut _ _ c2 (u2.extBut _ _ c3 (u1.extBut _ _ c1 g))))) (oe,u5.extBut _ _ ey ge,ce)
universe z0
noncomputable def Jv (n:Nat) (q l:Addr):List Obj:= [215,115,{cls:= .type "tuple",data:= .seq #[.ref n,.ref (n+1)]},499,{cls:= .type "zip",data:= .fields #[.none,.bool false,.bool false,.ref (n+2),.ref (n+3)]}]
noncomputable def IG (h:Heap) (q l:Addr):Heap:=(Jv h.objs.size q l).foldl Heap.push h
theorem y9 (q l:Addr) (xs ys:Array Value):Meets (Builtin.«zip.__new__» ⟨[.type "zip",.ref q,.ref l],[]⟩) (λ_ R s=>IsTup s.heap q xs/\s.heap.IsList l ys/\R (.ok (.ret (.ref (92+4)))) {s with heap:=IG s.heap q l}):=
 .of_wp λprog w A R s k=>by
  obtain ⟨hp,g,d,tk,os⟩:=s;obtain ⟨k1,k2,k3⟩:=k;have sub:=sub_zip;have c1:IsTup (Shared.heap ⟨hp,g,d,tk,os⟩) q xs:=k1;have c2:Heap.IsList (Shared.heap ⟨hp.push 215,g,d,tk,os⟩) l ys:=Heap.IsList.push k2 _
  wp_walk using iter_tuple c1,wpAny_pyIter_list c2
  exists ν;simp only[Heap.size_push];exact k3
section
variable {prog:Program} {w:World} {A:Around} {E:O2} {s:Shared}
theorem Bs {q l:Addr} {xs ys:Array Value} {Q:O2} (h1:IsTup s.heap q xs) (h2:s.heap.IsList l ys)
  (fin:∀h',IF h' (92+4) (92+2) (92+3) 92 (92+1) q l 0 xs ys .none .none->(∀c o,s.heap.get? c=some o->h'.get? c=some o)->Q (.ref (92+4)) 207):
  wpAny 109 A (call (.type "zip") [.ref q,.ref l]) Q E s:=by
 have kp:∀c o,s.heap.get? c=some o->(IG s.heap q l).get? c=some o:=λc o e=>by
  unfold IG Jv;simp only[List.foldl_cons,List.foldl_nil];exact Heap.get?_push_of_some _ (Heap.get?_push_of_some _ (Heap.get?_push_of_some _ (Heap.get?_push_of_some _ (Heap.get?_push_of_some _ e))))
 have at_:∀(h:Heap) (o1 o2 o3 o4 o5:Obj),o1.isFreed=false->o2.isFreed=false->o3.isFreed=false->o4.isFreed=false->o5.isFreed=false->(((((h.push o1).push o2).push o3).push o4).push o5).get? h.objs.size=some o1/\(((((h.push o1).push o2).push o3).push o4).push o5).get? (h.objs.size+1)=some o2/\(((((h.push o1).push o2).push o3).push o4).push o5).get? (h.objs.size+2)=some o3/\(((((h.push o1).push o2).push o3).push o4).push o5).get? (h.objs.size+3)=some o4/\(((((h.push o1).push o2).push o3).push o4).push o5).get? (h.objs.size+4)=some o5:=λh o1 o2 o3 o4 o5 f1 f2 f3 f4 f5=>by
  have a1:=126 h f1;have a2:=126 (h.push o1) f2;have a3:=126 ((h.push o1).push o2) f3;have a4:=126 (((h.push o1).push o2).push o3) f4;have a5:=126 ((((h.push o1).push o2).push o3).push o4) f5;simp only[Heap.size_push] at a2 a3 a4 a5;exact (95 _ (95 _ (95 _ (95 _ a1))),95 _ (95 _ (95 _ a2)),95 _ (95 _ a3),95 _ a4,a5)
 obtain ⟨a1,a2,a3,a4,a5⟩:=at_ s.heap 215 115 {cls:= .type "tuple",data:= .seq #[.ref 92,.ref (92+1)]} 499 {cls:= .type "zip",data:= .fields #[.none,.bool false,.bool false,.ref (92+2),.ref (92+3)]} rfl rfl rfl rfl rfl;refine callType_new F.called_zip 45 (F.typeCall_zip_2 _ _) (F.newCall_zip_2 _ _) (λobj=>F.args_object_init_3 obj _ _) F.entry_zip_new (y9 q l xs ys) (h1,h2,(_,a5,rfl),fin _ (a5,a3,a4,((_,a1,rfl,rfl),h1.keeps kp),(_,a2,rfl,rfl),?_) kp)
 exact h2.at λo e=>kp _ o e
universe z0
noncomputable def F6 (K:K0) (l1 l2:Addr):It:=
  ⟨λi H=>∃xs ys x y,dD K H l1 xs/\aJ K H l2 ys/\xs[i]?=some x/\ys[i]?=some y,
   λi H v H'=>∃(T:Addr) (x y:V),v= .ref T/\H T=none/\(∀xs,dD K H l1 xs->xs[i]?=some x)/\(∀ys,aJ K H l2 ys->ys[i]?=some y)/\H'=aR H T (.tup [x,y]),
   λi H=>∃xs ys,dD K H l1 xs/\aJ K H l2 ys/\(117<=i∨ys.length<=i)⟩
structure IH (h:Heap) (z ti to i1 i2 l1 l2:Addr) (i:Nat):Prop where
 zip:IsZip h z ti to .none
 ti:IsPair h ti (.ref i1) (.ref i2)
 to:∃a b,IsPair h to a b
 it1:IsTupIter h i1 l1 i
 it2:h.IsListIter i2 l2 i
theorem IsTupIter.at' {h h':Heap} {a t:Addr} {i:Nat} (x:IsTupIter h a t i) (k:∀o,h.get? a=some o->h'.get? a=some o):IsTupIter h' a t i:=let ⟨o,e,r⟩:=x;⟨o,k o e,r⟩
theorem IH.apart {h:Heap} {z TI TO i1 i2 l1 l2:Addr} {i:Nat} {ys:Array Value} (st:IH h z TI TO i1 i2 l1 l2 i) (d: [z,TI,TO,i1,i2].Nodup) (dl:l1∉ [z,TI,TO,i1,i2]) (h2:h.IsList l2 ys):ZipApart z TI TO i1 i2 l1 l2:=by
 obtain ⟨a,b,eto⟩:=st.to;obtain ⟨o1,e1,c1,_⟩:=st.it1;obtain ⟨o2,e2,c2,_⟩:=st.it2;simp only[Kk,K1,K5,or_false,not_or,List.nodup_nil,and_true] at d dl;obtain ⟨⟨d1,d2,d3,d4⟩,⟨d5,d6,d7⟩,⟨d8,d9⟩,d10,_⟩:=d;obtain ⟨p1,p2,p3,p4,p5⟩:=dl;obtain ⟨q1,q2,q3,q4,q5⟩:l2≠z/\l2≠TI/\l2≠TO/\l2≠i1/\l2≠i2:=⟨jK h2 st.zip rfl 45,jK h2 st.ti rfl 45,jK h2 eto rfl 45,jK h2 e1 c1 45,jK h2 e2 c2 45⟩
 constructor<;>first|assumption|exact Ne.symm (by assumption)
theorem Bt {P:Program} {w:World} {K:K0} {elts:List Expr} {k:Nat} {pos:Pos} (l1 l2 z TI TO i1 i2:Addr) (d: [z,TI,TO,i1,i2].Nodup) (dl:l1∉ [z,TI,TO,i1,i2]):Turn P w K (.Tuple elts k pos) (F6 K l1 l2) [z,TI,TO,i1,i2] z (λi h=>IH h z TI TO i1 i2 l1 l2 i) where
 mem:=by simp
 obj:=λi h st b hb=>by
  obtain ⟨a,b',eto⟩:=st.to;obtain ⟨o1,e1,c1,d1⟩:=st.it1;obtain ⟨o2,e2,c2,d2⟩:=st.it2;simp only[K1,K5,or_false] at hb;rcases hb with q|q|q|q|q<;>subst q
  ·exact (_,st.zip,λv z=>by cases z)
  ·exact (_,st.ti,λv z=>by cases z)
  ·exact (_,eto,λv z=>by cases z)
  ·exact (o1,e1,λv z=>by rw[d1] at z;cases z)
  ·exact (o2,e2,λv z=>by rw[d2] at z;cases z)
 keep:=λi h h' st k=>⟨k _ 96 _ st.zip,k _ 96 _ st.ti,let ⟨a,b,e⟩:=st.to;⟨a,b,k _ (by simp) _ e⟩,IsTupIter.at' st.it1 λo q=>k _ (by simp) o q,st.it2.at λo q=>k _ (by simp) o q⟩
 item:=by
  sleep 11;obtain ⟨xs,ys,x,y,hq1,hq2,hx,hy⟩:=hg;sleep 159;obtain ⟨u,hu,ru⟩:=rv1.get hx;obtain ⟨v,hv,rv⟩:=rv2.get hy;have ap:=st.apart d dl p2.isList;obtain ⟨a,b,eto⟩:=st.to;refine Br (xs:=is1.toArray) (ys:=is2.toArray) (x:=u) (v:=v) ap (st.zip,st.ti,eto,(st.it1,p1),st.it2,p2.isList) (by simpa using hu) (by simpa using hv) λh1 ho hto hi1 hi2 hT hsz hk=>?_
  refine ⟨_,rfl,wpAny_letOwnedTupleGo_zip (s:={s with heap:=h1}) ho λh2 hz2' hs2=>?_⟩
  have nT:H 92=none:=I.hok.fresh 214;have lt:∀b∈ [z,TI,TO,i1,i2],b<s.heap.objs.size:=λb hb=>by
   obtain ⟨o1,e1,_⟩:=st.it1;obtain ⟨o2,e2,_⟩:=st.it2;simp only[K1,K5,or_false] at hb;rcases hb with q|q|q|q|q<;>subst q
   ·exact Heap.lt_size st.zip
   ·exact Heap.lt_size st.ti
   ·exact Heap.lt_size eto
   ·exact Heap.lt_size e1
   ·exact Heap.lt_size e2
  have zl:=lt z 96
  have hT2:IsPair h2 92 u v:=(hs2.2 _ (LX zl)).trans hT;have kp:∀b o,b∉ [z,TI,TO,i1,i2]->s.heap.get? b=some o->h2.get? b=some o:=λb o hb q=>by
   simp only[K1,K5,or_false,not_or] at hb;exact (hs2.2 b hb.1).trans (hk b o hb.1 hb.2.2.1 hb.2.2.2.1 hb.2.2.2.2 q)
  have eti:h1.get? TI=some {cls:= .type "tuple",data:= .seq #[.ref i1,.ref i2]}:=hk TI _ ap.TIz ap.TITO ap.TIi1 ap.TIi2 st.ti;refine ⟨.ref 92,aR H 92 (.tup [x,y]),I.turnedNew (t':=s.toks) (ch:= [z,TI,TO,i1,i2]) hf kp 214 (by show 2<=sizeLine;decide,[u,v],.cons ru (.cons rv .nil),(_,hT2,rfl,0,rfl)),rfl,
   ⟨_,x,y,rfl,nT,λys hy'=>by rw[I.tuple_inj hy' hq1];exact hx,λys hy'=>by rw[I.list_inj hy' hq2];exact hy,rfl⟩,⟨hz2',(hs2.2 _ ap.TIz).trans eti,⟨u,v,(hs2.2 _ ap.TOz).trans hto⟩,IsTupIter.at' hi1 λo q=>(hs2.2 _ ap.i1z).trans q,hi2.at λo q=>(hs2.2 _ ap.i2z).trans q⟩,λb hb=>?_⟩
  rw[aB (Kf (lt b hb))];exact (hf b hb).1
 done:=by
  sleep 11;obtain ⟨xs,ys,hq1,hq2,hx⟩:=hg;sleep 159;have ap:=st.apart d dl p2.isList;obtain ⟨a,b,eto⟩:=st.to;have e1:=rv1.length;have e2:=rv2.length;refine DG (xs:=is1.toArray) (ys:=is2.toArray) 307 ap ⟨st.zip,st.ti,eto,⟨st.it1,p1⟩,st.it2,p2.isList⟩ (by rcases hx with q|q;exact .inl 551;exact .inr 551) λh' hk=>⟨rfl,I.turnedAll (t':=s.toks) (ch:= [z,TI,TO,i1,i2]) hf λb o hb q=>?_⟩
  simp only[K1,K5,or_false,not_or] at hb;exact hk b o hb.1 hb.2.2.1 hb.2.2.2.1 hb.2.2.2.2 q
 self:=λ_ _ _ _ _ st h=>wpAny_pyIter_zip st.zip h
theorem II {l n:Nat} (h:l<n):l∉ [n+4,n+2,n+3,n,n+1]:=by
 simp only[K1,K5,or_false,not_or]
 lia
def J5 (K:K0) (ta:TA):TI:=λσ H R=>ta σ H λvs H1=>∃l1 l2:Addr,vs= [.ref l1,.ref l2]/\(∃xs,dD K H1 l1 xs)/\(∃ys,aJ K H1 l2 ys)/\R (F6 K l1 l2) H1
theorem F7 {X:Cx} {a b:Expr} {ta:TA} {elts:List Expr} {k:Nat} {tp p pos:Pos} (hg:Gl X "zip") (hm:X.mg "zip" =none) (ha:PA X [a,b] ta) (hs:starEach [a,b] X.env= [452,(false,eval b X.env)]:=by rfl) (hs2:starEach [b] X.env= [(false,eval b X.env)]:=by rfl):
  PI X (.Tuple elts k tp) (.Call (.Name "zip" p) [a,b] [] pos) (J5 X.K ta):=by
 intro pins s σ H R I h;refine Call_ (gY I hg hm boot_zip (LJ (bW 348 λus s1 (vs,H1,I1,r1,q1)=>?_) (by rw[hs,hs2]) (by rw[hs2];rfl)))
 obtain ⟨l1,l2,e,⟨xs,hq1⟩,⟨ys,hq2⟩,q⟩:=q1;subst e;cases r1 with
 |cons r rr=>
  cases rr with
  |cons r' rr=>
   cases rr;cases r;cases r';obtain ⟨is1,rv1,p1,hz1⟩:=I1.tuple hq1;obtain ⟨is2,rv2,p2,hz2⟩:=I1.list hq2;refine Bs p1 p2.isList λh' S hk=>?_
   obtain ⟨hz,hti,hto,⟨hi1,_⟩,hi2,_⟩:=S;refine wpAny_pyIter_zip (s:={s1 with heap:=h'}) hz ?_
   sleep 213
   have l1s:l1<s1.heap.objs.size:=p1.lt;refine (s1.heap.objs.size+4,[s1.heap.objs.size+4,s1.heap.objs.size+2,s1.heap.objs.size+3,s1.heap.objs.size,s1.heap.objs.size+1],_,_,H1,rfl,I2,Bt l1 l2 _ _ _ _ _ (Di _) (II l1s),(hz,hti,(_,_,hto),hi1,hi2),λb hb=>?_,q)
   have bl:s1.heap.objs.size<=b:=by
    simp only[K1,K5,or_false] at hb;rcases hb with q|q|q|q|q<;>rw[q]<;>first|exact K4 _|exact Lw _ _
   exact I1.fpOk bl (I1.hok.fresh bl)
theorem DH {K:K0} {l1 l2:Addr} {xs ys:List V} {g:TG} {tb:TS} {D:Ends} {σ:St} {H:Hp} (Pv:Nat->St->Hp->Prop) (h0:Pv 0 σ H) (hl:∀i σ H,i<=min 117 ys.length->Pv i σ H->dD K H l1 xs/\aJ K H l2 ys)
  (hs:∀i x y σ H (T:Addr),xs[i]?=some x->ys[i]?=some y->Pv i σ H->H T=none->g (.ref T) σ (aR H T (.tup [x,y])) λσ2 H2=>tb 218 σ2 H2) (hd:∀σ H,Pv (min 117 ys.length) σ H->D.nx σ H):
  ∃W:Nat->Nat->St->Hp->Prop,516/\∀i m σ H,W i m σ H->
   ((F6 K l1 l2).stop i H/\D.nx σ H)∨((F6 K l1 l2).go i H/\∃N:St->Hp->Prop,190/\∀x H',(F6 K l1 l2).yld i H x H'->g x σ H' λσ2 H2=>tb 314 σ2 H2):=by
 exists λi m σ H=>m=min 117 ys.length-i/\i<=min 117 ys.length/\Pv i σ H,(min 117 ys.length,by simp,LF _,h0)
 sleep 190;obtain ⟨q1,q2⟩:=hl i σ H hi p
 by_cases hlt:i<min 117 ys.length
 ·refine .inr ((xs,ys,xs[i]'(by lia),ys[i]'(by lia),q1,q2,K3 _,K3 _),Pv 240,λσ' H' p'=>(min 117 ys.length-240,by lia,rfl,by lia,p'),λx H' y=>?_)
  obtain ⟨T,a,b,rfl,nT,ha,hb,rfl⟩:=y;exact hs i a b σ H T (ha xs q1) (hb ys q2) p nT
 ·have e:i=min 117 ys.length:=by lia
  subst e;exact .inl ((xs,ys,q1,q2,by lia),hd σ H p)
universe L2
namespace Sw
open PySem L2 XH Hm PySem.NumText
theorem jT (s:Str) (ws:O6):Txt.join s ws=Str.join s ws:=StrLaws.glued_eq_join s ws
universe Sw
namespace L2
open PySem
universe L2
namespace Sw
open PySem L2 XH Hm PySem.NumText
universe Sw
namespace L2
open PySem PySem.Spec PyProof.Rows XH Sw
universe L2
namespace Sw
open PySem L2 XH Hm PySem.NumText
theorem rK {ws:O6} (ne:ws≠ []) (h:∀w∈ws,10∉sL w):Txt.split (Txt.join oC ws) oC=ws:=by
 unfold oC;rw[jT];exact eK ne h
inductive Fv where
 |nm (z:Str)
 |num (n:Nat)
 |am (a:fj)
def Cv:RA Fv:=λP H v x=>match x with
 | .nm z=>v= .str z
 | .num n=>v=vN n
 | .am a=>∃t,v= .ref t/\P t/\H t=some (.tup (E8 a))
instance:Mv Cv where
 mv:=λ{P P' H H' v x} g h=>by
  cases x with
  |nm z=>exact h
  |num n=>exact h
  |am a=>
   obtain ⟨t,e1,p,e2⟩:=h;exact (t,e1,(g t _ p rfl e2).1,(g t _ p rfl e2).2)
noncomputable def ly:List (Str×(Nat×Nat)):= [("plates",(1,1000)),("length",(1,100000)),("many",(1,8)),("heat",(0,1000)),("turns",(0,100000)),("course",(1,8)),("parts",(0,400)),("low",(0,1000000000000000))]
noncomputable def Bu:List (Str×List V):=ly.map λp=>(p.1,[vN p.2.1,vN p.2.2])
noncomputable def bQ:List (Str×O6):= [("dish",["name","plates"]),("take",["name","amount"]),("cut",["name","length","length"]),("rest",["name","length","length"]),("warm",["name","length","length","amount"]),("or",["name","length","length"]),("with",["name","name","many","heat"]),("orwith",["name","name","many","heat"]),("after",["name","name"]),("within",["name","name","turns"]),("apart",["name","name"])]
noncomputable def iG:List (Str×List V):=bQ.map λp=>(p.1,p.2.map V.str)
open Classical in
noncomputable def lC (w:Str):Option fj:=if h:∃a:fj,Reads (sL w) a.1 a.2/\1<=a.1 then some h.choose else none
theorem oM {w:Str} {a:fj} (h:Reads (sL w) a.1 a.2) (p:1<=a.1):lC w=some a:=by
 have ex:∃a:fj,Reads (sL w) a.1 a.2/\1<=a.1:=(a,h,p);unfold lC;rw[dif_pos ex];have:=kE ex.choose_spec.1 h;exact congrArg some (Prod.ext this.1 this.2)
theorem kH {w:Str} (h:∀a:fj,Reads (sL w) a.1 a.2->¬1<=a.1):lC w=none:=by
 unfold lC;rw[dif_neg];rintro ⟨a,h1,h2⟩;exact h a h1 h2
noncomputable def i9 (w:Str) (lo hi:Nat):Option Nat:=if wG (sL w)=true/\lo<=digitsVal (sL w)/\digitsVal (sL w)<=hi then some (digitsVal (sL w)) else none
noncomputable def aV (f w:Str):Option Fv:=if f= "name" then (if xG w=true then some (.nm w) else none) else if f= "amount" then (lC w).map .am else match ly.lookup f with
 |some b=>(i9 w b.1 b.2).map .num
 |none=>none
noncomputable def cn:O6->O6->Option (List Fv)
 | [],[]=>some []
 |f::fs,w::ws=>match aV f w,cn fs ws with
  |some v,some vs=>some (v::vs)
  |_,_=>none
 |_,_=>none
noncomputable def de (w:Str) (vs:List Fv):Bool:=match vs with
 | .nm _:: .num lo:: .num hi::_=> !(decide 167)||decide (lo<=hi)
 | .nm a:: .nm b::_=> !(decide 227)||decide (a≠b)
 |_=>true
noncomputable def fQ (z:Str):Option (Str×List Fv):=if Str.empty∈Txt.split z cL then none else match Txt.split z cL with
 | []=>none
 |w::rest=>match bQ.lookup w with
  |none=>none
  |some fs=>match cn fs rest with
   |none=>none
   |some vs=>if de w vs=true then some (w,vs) else none
noncomputable def ze:Option fj->List Fv
 |none=> []
 |some a=> [.am a]
noncomputable def tQ:Rr->Str×List Fv
 | .take g a=>("take",[.nm g,.am a])
 | .step w n lo hi f=>(w,[.nm n,.num lo,.num hi]++ze f)
 | .sec n lo hi=>("or",[.nm n,.num lo,.num hi])
 | .use o n u=>(if o=true then "orwith" else "with",[.nm n,.nm u.1,.num u.2.1,.num u.2.2])
 | .link w a b t=>445
theorem dn {z:Str} (h:Nm z):aV "name" z=some (.nm z):=by
 unfold aV;rw[if_pos rfl,if_pos ((gC z).mpr h)]
theorem rL {a:fj} (h:vE a):aV "amount" (lq a)=some (.am a):=by
 unfold aV;rw[if_neg 45,if_pos rfl,oM (a:=a) (by unfold lq;rw[bo];exact h.rd) h.pos]
 rfl
theorem DI {n lo hi:Nat} (h1:lo<=n) (h2:n<=hi) (h3:n<=999999999):i9 (aS n) lo hi=some n:=by
 unfold i9 aS;rw[bo,pI];have dl:=fh (n:=n) (k:=8) 93
 rw[if_pos];refine ((iD _).mpr ?_,h1,h2);have:=mz (fZ (n:=n) 93)
 unfold A4;refine (?_,by lia,?_,eJ n)
 ·have:=va n;have:=List.length_pos_iff.mpr this
  lia
 ·by_cases c:(dg n).head?=some 48
  ·have:=vb n c;subst this;exact .inr pK
  ·exact .inl c
theorem gS {f:Str} {n lo hi:Nat} (hf:ly.lookup f=some (lo,hi)) (n1:f≠ "name") (n2:f≠ "amount") (h1:lo<=n) (h2:n<=hi) (h3:n<=999999999):aV f (aS n)=some (.num n):=by
 sleep 131;show (i9 (aS n) lo hi).map Fv.num=_;rw[DI h1 h2 h3]
 rfl
theorem br {f w:Str} {fs ws:O6} {v:Fv} {vs:List Fv} (h:aV f w=some v) (k:cn fs ws=some vs):cn (f::fs) (w::ws)=some (v::vs):=by
 sleep 189
 rw[h,k]
def Wb (w:Str):Prop:=32∉sL w/\w≠ ""
theorem eP {z:Str} (h:Nm z):Wb z:=(λm=>by have:=h.2.2 32 m;lia,λe=>by rw[e] at h;exact absurd h.1 45)
theorem df (n:Nat):Wb (aS n):=⟨io 45,λe=>by
 have:=congrArg sL e;unfold aS at this;rw[bo] at this;exact va n this⟩
theorem vK {a:fj} (h:vE a):Wb (lq a):=by
 have no:∀c∈dO a.1 a.2,43<=c:=λc hc=>by
  unfold dO at hc;sleep 217
  split at hc
  ·exact dd _ c hc
  ·split at hc
   ·rcases KD.mp hc with h|h
    ·exact dd _ c h
    ·rcases K1.mp h with rfl|h
     ·decide
     ·exact dd _ c h
   ·rcases KD.mp hc with h|h
    ·exact dd _ c h
    ·rcases K1.mp h with rfl|h
     ·decide
     ·rcases KD.mp h with h|h
      ·exact dd _ c h
      ·rcases K1.mp h with rfl|h
       ·decide
       ·exact dd _ c h
 refine (λm=>?_,λe=>?_)
 ·unfold lq at m;rw[bo] at m;have:=no 32 m
  lia
 ·have e1:=congrArg sL e;unfold lq at e1;rw[bo] at e1;have e0:dO a.1 a.2= []:=e1;obtain ⟨n,m,hl,_⟩:=h.rd.ex;rw[e0] at hl;have:fi []=none:=by
   unfold fi dY dA;rw[if_neg 96,if_neg 96,iM (λf=>absurd f.1 45)]
  rw[this] at hl;cases hl
theorem zg {ws:O6} (ne:ws≠ []) (h:∀w∈ws,Wb w):Txt.split 548 cL=ws/\Str.empty∉ws:=by
 refine (?_,λm=>(h _ m).2 rfl)
 unfold jB cL;rw[jT];exact eK ne λw hw=>(h w hw).1
theorem gD {w:Str} {rest fs:O6} {vs:List Fv} (h:∀x∈w::rest,Wb x) (hf:bQ.lookup w=some fs) (hv:cn fs rest=some vs) (ha:de w vs=true):fQ (jB (w::rest))=some (w,vs):=by
 obtain ⟨e,n⟩:=zg (ws:=w::rest) 96 h
 unfold fQ;rw[e,if_neg n];simp only[hf,hv,ha,if_true]
theorem tR {w:Str} (h:xG w=true):Wb w:=eP ((gC w).mp h)
theorem iV {n:Str} {p:Nat} (h:Nm n) (p1:1<=p) (p2:p<=1000):fQ (bS n p)=some (33 "dish",[Fv.nm n,Fv.num p]):=by
 refine gD (fs:= ["name","plates"]) 330 45 (br (dn h) (br (gS (lo:=1) (hi:=1000) 45 45 45 p1 p2 93) rfl)) rfl
 sleep 21;rcases hx with rfl|rfl|rfl
 ·exact tR 38
 ·exact eP h
 ·exact df p
theorem qg {r:Rr} (h:dh r):fQ (dC r)=some (tQ r):=by
 have LN:∀{n:Nat},1<=n->n<=100000->aV "length" (aS n)=some (.num n):=λh1 h2=>gS (lo:=1) (hi:=100000) 45 45 45 h1 h2 93
 cases r with
 |take g a=>
  obtain ⟨h1,h2⟩:=h;refine gD (fs:= ["name","amount"]) 330 45 (br (dn h1) (br (rL h2) rfl)) rfl
  sleep 21;rcases hx with rfl|rfl|rfl
  ·exact tR 38
  ·exact eP h1
  ·exact vK h2
 |step w n lo hi f=>
  obtain ⟨h1,h2,⟨l1,l2,l3⟩,h4⟩:=h;have lo1:=LN (n:=lo) l1 93
  have hi1:=LN (n:=hi) 93 l3
  have wb:Wb w:=by rcases h1 with rfl|rfl|rfl<;>exact tR 38
  cases f with
  |none=>
   have h4:w≠ "warm" :=h4;have hw:w= "cut" ∨w= "rest" :=by
    rcases h1 with e|e|e
    ·exact .inl e
    ·exact .inr e
    ·exact absurd e h4
   refine gD (fs:= ["name","length","length"]) (rest:= [n,aS lo,aS hi]) 330 361 (br (dn h2) (br lo1 (br hi1 rfl))) (by simp[de,l2])
   sleep 21;rcases hx with rfl|rfl|rfl|rfl
   ·exact wb
   ·exact eP h2
   ·exact df lo
   ·exact df hi
  |some a=>
   obtain ⟨rfl,h5⟩:=h4;refine gD (fs:= ["name","length","length","amount"]) (rest:= [n,aS lo,aS hi,lq a]) 330 45 (br (dn h2) (br lo1 (br hi1 (br (rL h5) rfl)))) (by simp[de,l2])
   sleep 21;rcases hx with rfl|rfl|rfl|rfl|rfl
   ·exact wb
   ·exact eP h2
   ·exact df lo
   ·exact df hi
   ·exact vK h5
 |sec n lo hi=>
  obtain ⟨h2,⟨l1,l2,l3⟩⟩:=h;refine gD (fs:= ["name","length","length"]) 330 45 (br (dn h2) (br (LN l1 93) (br (LN 93 l3) rfl))) (by simp[de,l2])
  sleep 21;rcases hx with rfl|rfl|rfl|rfl
  ·exact tR 38
  ·exact eP h2
  ·exact df lo
  ·exact df hi
 |use o n u=>
  obtain ⟨h1,h2,h3,h4,h5⟩:=h;have hw:549= "orwith" ∨(if o=true then 33 "orwith" else 33 "with")= "with" :=by cases o<;>simp
  show fQ (jB [if o=true then 33 "orwith" else 33 "with",n,u.1,aS u.2.1,aS u.2.2])=some (if o=true then 33 "orwith" else 33 "with",_)
  generalize 549=w at hw
  refine gD (fs:= ["name","name","many","heat"]) 330 361 (br (dn h1) (br (dn h2) (br (gS (lo:=1) (hi:=8) 45 45 45 h3 h4 93) (br (gS (lo:=0) (hi:=1000) 45 45 45 93 h5 93) rfl)))) (by rcases hw with rfl|rfl<;>(unfold de;simp;exact .inl 45))
  sleep 21;rcases hx with rfl|rfl|rfl|rfl|rfl
  ·rcases hw with rfl|rfl<;>exact tR 38
  ·exact eP h1
  ·exact eP h2
  ·exact df _
  ·exact df _
 |link w a b t=>
  obtain ⟨h1,h2,h3,h4,h5,h6⟩:=h;have wb:Wb w:=by rcases h1 with rfl|rfl|rfl<;>exact tR 38
  show fQ (jB (dI w a b t))=some 445
  unfold dI
  by_cases c:w= "within"
  ·subst c;rw[if_pos rfl,if_pos rfl];refine gD (fs:= ["name","name","turns"]) (rest:= [a,b,aS t]) 330 45 (br (dn h2) (br (dn h3) (br (gS (lo:=0) (hi:=100000) 45 45 45 93 h5 93) rfl))) (by simp[de,h4])
   sleep 21;rcases hx with rfl|rfl|rfl|rfl
   ·exact wb
   ·exact eP h2
   ·exact eP h3
   ·exact df t
  ·rw[if_neg c,if_neg c];have hw:w= "after" ∨w= "apart" :=by
    rcases h1 with e|e|e
    ·exact .inl e
    ·exact absurd e c
    ·exact .inr e
   refine gD (fs:= ["name","name"]) (rest:= [a,b]) 330 361 (br (dn h2) (br (dn h3) rfl)) (by simp[de,h4])
   sleep 21;rcases hx with rfl|rfl|rfl
   ·exact wb
   ·exact eP h2
   ·exact eP h3
universe Sw
namespace L2
open PySem PySem.Spec PyProof.Rows XH Sw
def Mx (K:K0) (H:Hp) (v:V):Prop:=v= .non∨(∃z,v= .str z)∨(∃i,v= .int i)∨∃a ys,v= .ref a/\dD K H a ys
theorem zh {K:K0} {H:Hp}:∀{xs:List V} {us:O8},bj xs us->(∀v∈xs,Mx K H v)->us.any pZ=decide (V.non∈xs)
 | [],[],.nil,_=>rfl
 |x::xs,u::us,.cons r t,h=>by
  rw[List.any_cons,zh t λv hv=>h v (K9 _ hv)]
  rcases h x Kd with rfl|⟨z,rfl⟩|⟨i,rfl⟩|⟨a,_,rfl,_⟩
  ·cases r;simp[pZ]
  ·obtain ⟨_,rfl⟩:=r;simp[pZ]
  ·obtain ⟨_,rfl⟩:=r;simp[pZ]
  ·cases r;simp[pZ]
theorem Cw {X:Cx} {pins:O4} {σ:St} {H:Hp} {s:Shared} (I:aU X pins σ H s) {A:Around} (hu:A.units<cLine):∀{xs:List V} {us:O8},bj xs us->(∀v∈xs,Mx X.K H v)->∀u∈us,SeqAt.EqAt A s u .none (pZ u)
 | [],[],.nil,_=>λu hu=>by cases hu
 |x::xs,u::us,.cons r t,h=>λu' hu'=>by
  rcases K1.mp hu' with rfl|hu'
  ·rcases h x Kd with rfl|⟨z,rfl⟩|⟨i,rfl⟩|⟨a,ys,rfl,k⟩
   ·cases r;exact SeqAt.EqAt.same _
   ·obtain ⟨_,rfl⟩:=r;exact SeqAt.EqAt.str_none _ _
   ·obtain ⟨_,rfl⟩:=r;exact SeqAt.EqAt.int_none _ _
   ·cases r;obtain ⟨its,_,pl,_⟩:=I.tuple k;exact SeqAt.EqAt.tuple_none pl hu
  ·exact Cw I hu t (λv hv=>h v (K9 _ hv)) u' hu'
theorem Bv {X:Cx} (hu:X.A.units+1<cLine):i8 X (compareOp .In) (λx y H Q=>∃(p:Addr) (xs:List V),x= .non/\y= .ref p/\aJ X.K H p xs/\(∀v∈xs,Mx X.K H v)/\Q (.bl (decide (V.non∈xs))) H):=by
 sleep 16;obtain ⟨p,xs,rfl,rfl,hS,hx,q⟩:=h;cases rx;cases ry;obtain ⟨its,r,pl,hz⟩:=I.list hS;refine SeqAt.in_listAt pZ pl.isList (λw hw=>Cw I (by first|lia|(show X.A.units+1<cLine;lia)) r hx w (by simpa using hw)) (.bl _,H,I,rfl,?_)
 rw[show its.toArray.any pZ=its.any pZ by simp,zh r hx]
 exact q
universe L2
namespace Sw
open PySem L2 XH Hm PySem.NumText
def oN:Sp:=λvs H Q _=>∃w:Str,vs= [.str w,.int 1]/\w.length<=10000/\(lC w=none->∀H',aD H H'->Q .non H')/\∀a:fj,lC w=some a->∀(t:Addr) (H':Hp),aD H H'->H' t=some (.tup (E8 a))->Q 311 H'
def zi (f:Str):Prop:=f= "name" ∨f= "amount" ∨(f≠ "name" /\f≠ "amount" /\f≠ "stock" /\∃b,ly.lookup f=some b)
def oO:Sp:=λvs H Q _=>∃f w:Str,vs= [.str f,.str w]/\w.length<=10000/\zi f/\(aV f w=none->∀H',aD H H'->Q .non H')/\∀v:Fv,aV f w=some v->∀(x:V) (H':Hp),aD H H'->Cv An H' x v->Q x H'
def LV (H:Hp) (l:Addr) (w:Str) (vs:List Fv):Prop:=∃us,H l=some (.lst (.str w::us))/\A2 (Cv An H) us vs
theorem LV.same {H H':Hp} {l:Addr} {w:Str} {vs:List Fv} (h:LV H l w vs) (g:aD H H'):LV H' l w vs:=by
 obtain ⟨us,e,r⟩:=h;exact (us,g _ _ e,r.imp λ_ _ q=>FX q g)
def mQ (K:K0):Sp:=λvs H Q _=>∃(t l:Addr) (fs:O6) (w:Str) (rest:O6),vs= [.ref t,.ref l]/\qf K t (fs.map V.str)/\H l=some (.lst ((w::rest).map V.str))/\Iw (w::rest)/\(∀f∈fs,zi f)/\fs.length<=10/\(cn fs rest=none->∀H',aD H H'->Q .non H')/\∀us,cn fs rest=some us->∀(p:Addr) (H':Hp),aD H H'->H p=none->LV H' p w us->Q 237 H'
theorem DJ:(Bu.map λp=>p.1).Nodup:=by decide+kernel
theorem rM:(iG.map λp=>p.1).Nodup:=by decide+kernel
theorem ie {α β:Type} (g:α->β):∀(l:List (Str×α)) (k:Str),(l.map λp=>(p.1,g p.2)).lookup k=(l.lookup k).map g
 | [],_=>rfl
 |(a,b)::l,k=>by
  rw[Kl,Lu,Lu];cases k==a with
  |true=>rfl
  |false=>exact ie g l k
theorem Bw {f:Str} {b:Nat×Nat} (h:ly.lookup f=some b):Bu.lookup f=some [vN b.1,vN b.2]:=by
 unfold Bu;rw[ie (λb:Nat×Nat=> [vN b.1,vN b.2]),h]
 rfl
theorem wM {w:Str} {fs:O6} (h:bQ.lookup w=some fs):iG.lookup w=some (fs.map V.str):=by
 unfold iG;rw[ie (λb:O6=>b.map V.str),h]
 rfl
theorem rN (w:Str):(iG.lookup w).isSome=(bQ.lookup w).isSome:=by
 unfold iG;rw[ie (λb:O6=>b.map V.str),Option.isSome_map]
theorem zj {w:Str} {fs:O6} (h:bQ.lookup w=some fs):(∀f∈fs,zi f)/\fs.length<=10:=by
 have all:∀p∈bQ,(∀f∈p.2,f= "name" ∨f= "amount" ∨f= "plates" ∨f= "length" ∨f= "many" ∨f= "heat" ∨f= "turns")/\p.2.length<=10:=by decide+kernel
 have m:∀(l:List (Str×O6)),l.lookup w=some fs->(w,fs)∈l:=by
  intro l
  induction l with
  |nil=>intro h;cases h
  |cons p l ih=>
   intro h;rw[Lu] at h;cases c:(w==p.1) with
   |true=>
    rw[c] at h;have e:w=p.1:=by simpa using c
    cases h;rw[e];exact Kd
   |false=>
    rw[c] at h;exact K9 _ (ih h)
 obtain ⟨h1,h2⟩:=all _ (m _ h);refine (λf hf=>?_,h2)
 rcases h1 f hf with e|e|e|e|e|e|e
 ·exact .inl e
 ·exact .inr (.inl e)
 all_goals
  subst e;exact .inr (.inr (by decide,by decide,by decide,LI.mp 38))
noncomputable def iH (fs ws:O6):List (Option Fv):=(fs.zip ws).map λp=>aV p.1 p.2
theorem oP:∀{fs ws:O6},fs.length≠ws.length->cn fs ws=none
 | [],[],h=>absurd rfl h
 | [],_::_,_=>rfl
 |_::_,[],_=>rfl
 |f::fs,w::ws,h=>by
  have z:=oP (fs:=fs) (ws:=ws) λe=>h (by simp[e])
  show 205=none
  rw[z];cases aV f w<;>rfl
theorem jo:∀{fs ws:O6},fs.length=ws.length->(none∈iH fs ws/\cn fs ws=none)∨∃us,cn fs ws=some us/\iH fs ws=us.map some
 | [],[],_=> .inr ⟨[],rfl,rfl⟩
 |f::fs,w::ws,h=>by
  have e:cn (f::fs) (w::ws)=(match aV f w,cn fs ws with|some v,some vs=>some (v::vs)|_,_=>none):=rfl
  have eo:iH (f::fs) (w::ws)=aV f w::iH fs ws:=rfl;rw[e,eo];rcases jo (fs:=fs) (ws:=ws) (by simpa using h) with ⟨m,z⟩|⟨us,z,o⟩
  ·rw[z];exact .inl (K9 _ m,by cases aV f w<;>rfl)
  ·rw[z,o];cases aV f w with
   |none=>exact .inl ⟨Kd,rfl⟩
   |some v=>exact .inr ⟨v::us,rfl,rfl⟩
def vL (H:Hp) (x:V) (v:Option Fv):Prop:=match v with|none=>x= .non|some v=>Cv An H x v
theorem vL.same {H H':Hp} {x:V} {v:Option Fv} (h:vL H x v) (g:aD H H'):vL H' x v:=by
 cases v with
 |none=>exact h
 |some v=>exact FX (R:=Cv) h g
theorem vL.upd {H:Hp} {x:V} {v:Option Fv} {l:Addr} {xs:List V} {o:HO} (h:vL H x v) (e:H l=some 251):vL (aR H l o) x v:=by
 cases v with
 |none=>exact h
 |some v=>cases v with
  |am a=>
   obtain ⟨t,rfl,q,k⟩:=h;exists t,rfl,q;rw[aB λz=>by rw[z,e] at k;cases k]
   exact k
  |_=>exact h
theorem vL.mx {K:K0} {H:Hp} {x:V} {v:Option Fv} (h:vL H x v):Mx K H x/\(x= .non↔v=none):=by
 cases v with
 |none=>exact ⟨.inl h,iff_of_true h rfl⟩
 |some v=>cases v with
  |am a=>
   obtain ⟨t,rfl,q,k⟩:=h;exact (.inr (.inr (.inr (t,ν,.of k))),iff_of_false 340 340)
  |nm z=>
   cases h;exact (.inr (.inl ⟨ν⟩),iff_of_false 340 340)
  |num n=>
   cases h;exact (.inr (.inr (.inl ⟨ν⟩)),iff_of_false 340 340)
theorem F8 {H:Hp} {xs:List V} {us:List Fv} (h:A2 (vL H) xs (us.map some)):A2 (Cv An H) xs us:=(by rw[h.1,K6],λi v x e1 e2=>h.2 i v (some x) e1 (by rw[KA,e2];rfl))
theorem zk {H:Hp} {xs:List V} {os:List (Option Fv)} (h:A2 (vL H) xs os):V.non∈xs↔none∈os:=by
 constructor
 ·intro m;obtain ⟨i,e⟩:=Kh.mp m;obtain ⟨o,eo,r⟩:=h.at_ e;exact K7 ((r.mx (K:=default)).2.mp rfl▸eo)
 ·intro m;obtain ⟨i,e⟩:=Kh.mp m;obtain ⟨v,ev,r⟩:=h.get e;cases r;exact K7 ev
def Cy (w:Str) (vs:List Fv):Prop:=(167->∃n lo hi r,vs= .nm n:: .num lo:: .num hi::r)/\(227->∃a b r,vs= .nm a:: .nm b::r)
theorem fB {f:Str} {fs ws:O6} {vs:List Fv} (h:cn (f::fs) ws=some vs):∃w ws' v vs',ws=w::ws'/\aV f w=some v/\cn fs ws'=some vs'/\vs=v::vs':=by
 cases ws with
 |nil=>cases h
 |cons w ws=>
  have h':205=some vs:=h
  cases e:aV f w with
  |none=>rw[e] at h';cases h'
  |some v=>
   cases e':cn fs ws with
   |none=>rw[e,e'] at h';cases h'
   |some us=>
    rw[e,e'] at h';cases h';exact (w,ws,v,us,rfl,e,e',rfl)
theorem jp {w:Str} {v:Fv} (h:aV "name" w=some v):v= .nm w:=by
 unfold aV at h;rw[if_pos rfl] at h
 split at h<;>cases h
 rfl
theorem oQ {w:Str} {v:Fv} (h:aV "length" w=some v):∃n,v= .num n:=by
 unfold aV at h;rw[if_neg 45,if_neg 45,show ly.lookup (Str.ofString "length")=some (1,100000) by decide+kernel] at h
 obtain ⟨n,_,rfl⟩:=KZ.mp h;exact (n,rfl)
theorem zm {fs ws:O6} {vs:List Fv} (h:cn ("name" :: "length" :: "length" ::fs) ws=some vs):∃n lo hi r,vs= .nm n:: .num lo:: .num hi::r:=by
 sleep 139;obtain ⟨w3,ws,v3,vs,rfl,h3,k3,rfl⟩:=fB k2;obtain ⟨lo,rfl⟩:=oQ h2;obtain ⟨hi,rfl⟩:=oQ h3;cases jp h1;exact (_,lo,hi,vs,rfl)
theorem By {fs ws:O6} {vs:List Fv} (h:cn ("name" :: "name" ::fs) ws=some vs):∃a b r,vs= .nm a:: .nm b::r:=by
 sleep 139;cases jp h1;cases jp h2;exact (_,_,vs,rfl)
theorem wO {w:Str} {fs ws:O6} {vs:List Fv} (h:bQ.lookup w=some fs) (v:cn fs ws=some vs):Cy w vs:=by
 refine (λc=>?_,λc=>?_)
 ·have:∃r:O6,fs=("name" :Str)::("length" :Str)::("length" :Str)::r:=by
   rcases c with rfl|rfl|rfl|rfl
   ·exact (_,KI (h.symm.trans (by decide+kernel:bQ.lookup (33 "or")=some 305)))
   ·exact (_,KI (h.symm.trans (by decide+kernel:bQ.lookup (33 "cut")=some 305)))
   ·exact (_,KI (h.symm.trans (by decide+kernel:bQ.lookup (33 "rest")=some 305)))
   ·exact (_,KI (h.symm.trans (by decide+kernel:bQ.lookup (33 "warm")=some (("name" :Str):: "length" :: "length" :: ["amount"]))))
  obtain ⟨r,rfl⟩:=this;exact zm v
 ·have:∃r:O6,fs=("name" :Str)::("name" :Str)::r:=by
   rcases c with rfl|rfl|rfl
   ·exact (_,KI (h.symm.trans (by decide+kernel:bQ.lookup (33 "after")=some (("name" :Str):: "name" :: []))))
   ·exact (_,KI (h.symm.trans (by decide+kernel:bQ.lookup (33 "within")=some (("name" :Str):: "name" :: ["turns"]))))
   ·exact (_,KI (h.symm.trans (by decide+kernel:bQ.lookup (33 "apart")=some (("name" :Str):: "name" :: []))))
  obtain ⟨r,rfl⟩:=this;exact By v
def vM:Sp:=λvs H Q _=>∃(l:Addr) (w:Str) (us:List Fv),vs= [.ref l]/\LV H l w us/\Cy w us/\Q (.bl (de w us)) H
theorem bn {α:Type} {R:V->α->Prop} {xs:List V} {y:α} {ys:List α} (h:A2 R xs (y::ys)):∃x xs',xs=x::xs'/\R x y/\A2 R xs' ys:=by
 cases xs with
 |nil=>exact absurd h.1 96
 |cons x xs=>exact ⟨x,xs,rfl,h.2 0 x y rfl rfl,by simpa using h.1,λi v z e1 e2=>h.2 240 v z (by simpa using e1) (by simpa using e2)⟩
theorem DK {H:Hp} {xs:List V} {n:Str} {lo hi:Nat} {r:List Fv} (h:A2 (Cv An H) xs (.nm n:: .num lo:: .num hi::r)):∃ys,xs= .str n::vN lo::vN hi::ys:=by
 obtain ⟨_,_,rfl,e1,h1⟩:=bn h;obtain ⟨_,_,rfl,e2,h2⟩:=bn h1;obtain ⟨_,ys,rfl,e3,h3⟩:=bn h2;cases e1;cases e2;cases e3;exact (ys,rfl)
theorem F9 {H:Hp} {xs:List V} {a b:Str} {r:List Fv} (h:A2 (Cv An H) xs (.nm a:: .nm b::r)):∃ys,xs= .str a:: .str b::ys:=by
 obtain ⟨_,_,rfl,e1,h1⟩:=bn h;obtain ⟨_,ys,rfl,e2,h2⟩:=bn h1;cases e1;cases e2;exact (ys,rfl)
def mR:Sp:=λvs H Q _=>∃z:Str,vs= [.str z]/\z.length<=1000/\(fQ z=none->∀H',aD H H'->Q .non H')/\∀w us,fQ z=some (w,us)->∀(p:Addr) (H':Hp),aD H H'->H p=none->LV H' p w us->Q 237 H'
def ig (M:Md) (z:Str) (i:Nat):Prop:=(∃s,M.steps[i]?=some s/\s.n=z)/\∀(j:Nat) (s:SV),j<i->M.steps[j]?=some s->s.n≠z
universe Sw
namespace L2
open PySem PySem.Spec PyProof.Rows
abbrev Cz (v:Value):List (Str×Value):= [(Str.ofString "start",v)]
theorem DL (a v:Value):checkTypeCall "enumerate" ⟨[a],Cz v⟩=pure ():=by kernel_rfl
theorem DM (a v:Value):checkBuiltinCall "enumerate.__new__" ⟨[.type "enumerate",a],Cz v⟩=pure ():=by kernel_rfl
set_option maxHeartbeats 2000000 in
theorem wP (l:Addr) (xs:Array Value) (n:Nat) (dc:O9) (sl:O5) (t:Tok):Meets (Builtin.«enumerate.__new__» 515) (λ_ R s=>s.heap.get? l=some {cls:= .type "list",dict:=dc,data:= .seq xs n,slots:=sl}/\R (.ok (.ret (.ref (s.heap.push 115).objs.size))) {s with heap:=(s.heap.push 115).push 168}):=
 .of_wp λpr wo A R s h=>by
  obtain ⟨hp,g,d,tk,os⟩:=s;obtain ⟨hl,h⟩:=h;have hsub:=sub_enumerate;have hL:Heap.IsList (Shared.heap ⟨hp,g,d,tk,os⟩) l xs:=(_,hl,rfl,n,rfl)
  wp_walk using AutoSeq1.wpAny_loadPart' hl
  refine wpAny_stack_any λst=>wpAny_pure ?_
  split
  ·rename_i c _ _ _ _ _;cases (c==Value.type "enumerate")
   all_goals
    wp_walk using AutoSeq1.wpAny_loadPart' hl,wpAny_pyIter_list hL
    exact (ν,h)
  ·wp_walk using AutoSeq1.wpAny_loadPart' hl,wpAny_pyIter_list hL
   exact (ν,h)
section
variable {pr:Program} {wo:World} {A:Around} {E:O2} {s:Shared}
theorem DN (a b v:Value):argsOk "object.__init__" ⟨[a,b],Cz v⟩:=by
 kernel_rfl
theorem Bz {self a v:Value}:Meets (Builtin.«object.__init__» ⟨[self,a],Cz v⟩) (λ_ R s=>s.TypeIs self "enumerate" /\R (.ok (.ret .none)) s):=by
 refine Meets.of_wp λpr wo A R s (hT,hq)=>?_
 have hl:=F.called_enumerate.init.lookup;have hm:=F.called_enumerate.made
 repeat (any_goals (first|assumption|wp_step))
 exact (ν,hq)
theorem tS {l:Addr} {xs:Array Value} {t:Tok} {Q:O2} (hL:s.heap.IsList l xs)
  (h:∀h',IsEnum h' (92+1) 92 1 .none->h'.IsListIter 92 l 0->h'.objs.size=92+2->(∀b o,s.heap.get? b=some o->h'.get? b=some o)->Q (.ref (92+1)) 207):
  wpAny 546 A (call (.type "enumerate") [.ref l] (Cz (.int 1 t))) Q E s:=by
 obtain ⟨⟨c,dc,dt,sl⟩,hl,hc,n,hd⟩:=hL;change c= .type "list" at hc;change dt= .seq xs n at hd;subst hc hd;have ft:=F.called_enumerate;obtain ⟨c,tl,hmro⟩:=ft.mro;have hmade:=ft.made;have hsub:=ft.sub;have h1:=ft.notType;have h2:=ft.canCreate;have hct:=DL 328 (.int 1 t);refine wpAny_call (codeAny_of_tree ?_);show wpAny _ _ (callAny (.type "enumerate") _) _ _ _;refine wpAny_pure (Code.quiet_builtin _ 38,codeAny_builtin F.entry_type_call ?_)
 rw[Around.under_plain (weight_type_call_type _ _ _) (units_type_call_type _ _ _)]
 repeat (any_goals (first|assumption|wp_step))
 generalize eh:(s.heap.push 115).push 168=h9;have hz:(s.heap.push 115).objs.size=92+1:=Heap.size_push ..;have kn:codeAny 546 A.in1 (Code.call (.builtin "enumerate.__new__") 515) 519 s:=
  codeAny_call_builtin ft.plain F.entry_enumerate_new (wpAny_of_eq (DM 328 (.int 1 t)) (wP l xs n dc sl t pr wo A.in1 519 s ⟨hl,by rw[hz],by rw[eh]⟩))
 refine codeAny_mono kn λr s1 hr=>?_
 obtain ⟨rfl,rfl⟩:=hr;have he:IsEnum h9 (92+1) 92 1 .none:=by
  have k:=126 (s.heap.push 115) (o:=168) rfl;rw[hz,eh] at k;exact k
 have hT:Shared.TypeIs 339 (.ref (92+1)) "enumerate" :=(_,he,rfl)
 have hli:=ft.init.lookup;have hbi:=ft.init.bind (.ref (92+1))
 repeat (any_goals (first|assumption|wp_step))
 have ki:codeAny 546 A.in1 (Code.call (.builtin "object.__init__") ⟨[.ref (92+1),.ref l],Cz (.int 1 t)⟩) (λr s1=>r= .ok (.ret .none)/\s1=339) {s with heap:=h9}:=
  codeAny_call_builtin ft.init.plain F.entry_object_init (ft.init.check _ _ _ _ _ _ _ _ hT (DN _ _ _) (Bz (a:= .ref l) (v:= .int 1 t) pr wo A.in1 (λr s1=>r= .ok (.ret .none)/\s1=339) 339 ⟨hT,rfl,rfl⟩))
 refine codeAny_mono ki λr s1 hr=>?_
 obtain ⟨rfl,rfl⟩:=hr
 repeat (any_goals (first|assumption|wp_step))
 refine h h9 he ?_ ?_ λb o x=>?_
 ·rw[<-eh];exact (_,95 _ (126 _ rfl),rfl,rfl)
 ·rw[<-eh,Heap.size_push,hz]
 ·rw[<-eh];exact 95 _ (95 _ x)
theorem tT {e it l:Addr} {i:Nat} {j:Int} {xs:Array Value} {x o0:Value} {Q:Pa->Shared->Prop} (he:IsEnum s.heap e it j o0) (hi:s.heap.IsListIter it l i) (hl:s.heap.IsList l xs) (hx:xs[i]?=some x) (ne:e≠it)
  (q:∀h',IsEnumOut h' e it (j+1) x 92->h'.IsListIter it l 240->h'.get? 92=some {cls:= .type "tuple",data:= .seq #[.int j s.toks,x]}->h'.objs.size=92+1->(∀b o,b≠e->b≠it->s.heap.get? b=some o->h'.get? b=some o)->Q (some (.ref 92)) {s with heap:=h',toks:=s.toks+1}):
  wpAny 546 A (pyNext 256) Q E s:=by
 sleep 19;obtain ⟨p0,g,d,tk,os⟩:=s;show wpAny _ _ (field 256 2>>=λ_=>_) _ _ _
 refine wpAny_bind (wpAny_field he rfl (x:= .ref it) rfl (wpAny_bind (wpAny_nextOf_list_item hi hl hx λpa ia (ba:Heap.SameBut it p0 pa)=>?_)))
 have ea:IsEnum pa e it j o0:=(ba.2 e ne).trans he;show wpAny _ _ (field 256 3>>=λ_=>_) _ _ ⟨pa,g,d,tk,os⟩
 refine wpAny_bind (wpAny_field ea rfl (x:=rawInt j) rfl ?_);show wpAny _ _ (field 256 4>>=λ_=>_) _ _ ⟨pa,g,d,tk,os⟩
 refine wpAny_bind (wpAny_field ea rfl (x:= .none) rfl ?_);show wpAny _ _ (mkInt j>>=λ_=>_) _ _ ⟨pa,g,d,tk,os⟩
 refine wpAny_bind (wpAny_mkInt ?_);show wpAny _ _ (setField 256 3 (rawInt (j+1))>>=λ_=>_) _ _ ⟨pa,g,d,tk+1,os⟩
 refine wpAny_bind (wpAny_setField_rec ea 96 λpb (eb:IsEnum pb e it (j+1) o0) (bb:Heap.SameBut e pa pb)=>?_)
 show wpAny _ _ (setField 256 4 .none>>=λ_=>_) _ _ ⟨pb,g,d,tk+1,os⟩
 refine wpAny_bind (wpAny_setField_rec eb 96 λpc (ec:IsEnum pc e it (j+1) o0) (bc:Heap.SameBut e pb pc)=>?_)
 show wpAny _ _ (newTuple [.int j tk,x]>>=λ_=>_) _ _ ⟨pc,g,d,tk+1,os⟩
 refine wpAny_bind (wpAny_newTuple ?_);have ed:IsEnum (pc.push 143) e it (j+1) o0:=95 _ ec;have sz:pc.objs.size=p0.objs.size:=by rw[bc.1,bb.1,ba.1]
 have td:(pc.push 143).get? p0.objs.size=some {cls:= .type "tuple",data:= .seq #[.int j tk,x]}:=by rw[<-sz];exact 126 _ rfl
 have zd:(pc.push 143).objs.size=p0.objs.size+1:=by rw[Heap.size_push,sz]
 have kd:∀b o,b≠e->b≠it->p0.get? b=some o->(pc.push 143).get? b=some o:=λb o n1 n2 z=>95 _ (bc.extBut b o n1 (bb.extBut b o n1 (ba.extBut b o n2 z)))
 have id':(pc.push 143).IsListIter it l (i+1):=by
  obtain ⟨o,z,r⟩:=(ia.extBut bb.extBut ne.symm).extBut bc.extBut ne.symm;exact (o,95 _ z,r)
 have el:e<p0.objs.size:=Heap.lt_size he;generalize pc.push 143=pd at ed td zd kd id'⊢;show wpAny _ _ (Builtin.SmallTypes.ownedTupleIsFree 256>>=λ_=>_) _ _ ⟨pd,g,d,tk+1,os⟩
 rw[sz];clear ec bc eb bb ea ba ia sz pc pb pa;refine wpAny_bind ?_;unfold Builtin.SmallTypes.ownedTupleIsFree;refine wpAny_bind (wpAny_field ed rfl (x:= .none) rfl 394);simp only[if_true];refine wpAny_bind (wpAny_rule (wpAny_bind (wpAny_field ed rfl (x:=o0) rfl (wpAny_bind (wpAny_setField_rec ed 96 λpe (ee:IsEnum pe e it (j+1) x) (be:Heap.SameBut e pd pe)=>?_)))))
 show wpAny _ _ (Builtin.SmallTypes.ownedTupleHandOut 256 (.ref p0.objs.size)>>=λ_=>_) _ _ ⟨pe,g,d,tk+1,os⟩
 refine wpAny_bind ?_;unfold Builtin.SmallTypes.ownedTupleHandOut;refine wpAny_bind (wpAny_setField_rec ee 96 λpf (ef:IsEnumOut pf e it (j+1) x p0.objs.size) (bf:Heap.SameBut e pe pf)=>?_)
 refine wpAny_setField_rec ef 96 λpg (eg:IsEnumOut pg e it (j+1) x p0.objs.size) (bg:Heap.SameBut e pf pg)=>?_
 refine wpAny_bind (wpAny_letGo (wpAny_pure (ν,wpAny_pure (q pg eg ?_ ?_ ?_ ?_))))
 ·exact ((id'.extBut be.extBut ne.symm).extBut bf.extBut ne.symm).extBut bg.extBut ne.symm
 ·exact bg.extBut _ _ (LX el) (bf.extBut _ _ (LX el) (be.extBut _ _ (LX el) td))
 ·rw[bg.1,bf.1,be.1,zd]
 ·exact λb o n1 n2 z=>bg.extBut b o n1 (bf.extBut b o n1 (be.extBut b o n1 (kd b o n1 n2 z)))
theorem wQ {e it l:Addr} {i:Nat} {j:Int} {xs:Array Value} {o0:Value} {Q:Pa->Shared->Prop} (hh:A.handled=none) (he:IsEnum s.heap e it j o0) (hi:s.heap.IsListIter it l i) (hl:s.heap.IsList l xs) (hx:xs[i]?=none) (q:∀h',Heap.ExtBut it s.heap h'->Q none 207):wpAny 546 A (pyNext 256) Q E s:=by
 sleep 19;show wpAny _ _ (field 256 2>>=λ_=>_) _ _ _
 refine wpAny_bind (wpAny_field he rfl (x:= .ref it) rfl (wpAny_bind (wpAny_nextOf_list_end hh hi hl hx λh' x k (o,ho,hc)=>?_)))
 exact wpAny_bind (wpAny_isInstance (T:= "StopIteration") (b:=true) (o,ho,hc) isSubtype_stop (wpAny_pure (q _ k)))
universe z0
noncomputable def zn (K:K0) (l:Addr):It:=
 ⟨λi H=>∃xs x,aJ K H l xs/\xs[i]?=some x,λi H v H'=>∃(T:Addr) (x:V),v= .ref T/\H T=none/\(∀xs,aJ K H l xs->xs[i]?=some x)/\H'=aR H T (.tup [.int 313,x]),λi H=>∃xs,aJ K H l xs/\xs.length<=i⟩
theorem tU {P:Program} {w:World} {K:K0} {elts:List Expr} {k:Nat} {pos:Pos} (l e it:Addr) (ne:e≠it):Turn P w K (.Tuple elts k pos) (zn K l) [e,it] e (λi h=>(∃old,IsEnum h e it 313 old)/\h.IsListIter it l i) where
 mem:=by simp
 obj:=λi h st b hb=>by
  obtain ⟨⟨old,he⟩,o,e1,c,d⟩:=st;rcases K1.mp hb with z|z
  ·subst z;exact (_,he,λv z=>by cases z)
  ·rw[K8.mp z];exact (o,e1,λv z=>by rw[d] at z;cases z)
 keep:=λi h h' st k=>285
 item:=by
  sleep 11;sleep 80;refine tT he hit p.isList (x:=u) (by simpa using hu) ne λh1 ho hit' hT hsz hk=>?_
  sleep 107
  sleep 48
  have hT2:h2.get? 92=some {cls:= .type "tuple",data:= .seq #[.int 313 s.toks,u]}:=(hs2.2 _ (LX el)).trans hT;have kp:∀b o,b∉ [e,it]->s.heap.get? b=some o->h2.get? b=some o:=λb o hb q=>by
   simp at hb;exact (hs2.2 b hb.1).trans (hk b o hb.1 hb.2 q)
  refine ⟨.ref 92,aR H 92 (.tup [.int 313,x]),I.turnedNew (t':=s.toks+1) (ch:= [e,it]) hf kp 214 (by show 2<=sizeLine;decide,[.int 313 s.toks,u],.cons ⟨ν⟩ (.cons ru .nil),(_,hT2,rfl,0,rfl)),rfl,
   ⟨_,x,rfl,nT,λys hy=>by rw[I.list_inj hy hq];exact hx,rfl⟩,⟨⟨u,?_⟩,?_⟩,λb hb=>?_⟩
  ·simpa using he2
  ·exact hit'.at λo q=>(hs2.2 it (Ne.symm ne)).trans q
  ·have bl:b≠s.heap.objs.size:=by
    rcases K1.mp hb with z|z
    ·rw[z];exact Kf el
    ·rw[K8.mp z];exact Kf il
   rw[aB bl];exact (hf b hb).1
 done:=by
  sleep 11;sleep 93;exact wQ 307 he hit p.isList 551 λh' eb=>287
 self:=λ_ _ _ _ _ st h=>let ⟨_,he⟩:=st.1;wpAny_pyIter_enum he h
def DO (K:K0) (te:TE):TI:=λσ H R=>te σ H λv H1=>∃l:Addr,v= .ref l/\(∃xs,aJ K H1 l xs)/\R (zn K l) H1
theorem mS {M:Model} {A:Around} {E:O2} {s:Shared} {pos:Pos} {T:String} {args:List (Bool×Sem Value)} {kws:List (Option Str×Sem Value)} {Q:O2} (n1:args.any (λx=>x.1)=false) (n2:kws.any (λx=>x.1.isNone)=false)
  (h:wpAny M A (evalArgs (.type T) true args kws) (λa s1=>wpAny M A (call (.type T) ([]++a.pos) a.kw) Q E s1) E s):wpAny M A (callWith pos (.type T) [] args kws) Q E s:=by
 unfold callWith;refine wpAny_bind (wpAny_holding (wpAny_mono h (λa s1 k=>wpAny_bind (wpAny_standAt ?_)) λ_ _ x=>x))
 simp only[n1,n2,Bool.or_false];refine wpAny_bind (wpAny_pure (wpAny_bind (wpAny_mono k (λr s2 z=>wpAny_bind (wpAny_holding (wpAny_point (wpAny_pure z)))) λ_ _ x=>x)))
theorem zo {X:Cx} {a:Expr} {te:TE} {elts:List Expr} {k cj:Nat} {tp p pos kp cp:Pos} (hg:Gl X "enumerate") (hm:X.mg "enumerate" =none) (ha:PE X a te) (hs:starEach [a] X.env= [452]:=by rfl):PI X (.Tuple elts k tp) (.Call (.Name "enumerate" p) [a] [⟨some "start",.Constant (.int 1) cj cp,kp⟩] pos) (DO X.K te):=by
 intro pins s σ H R I h;apply wpAny_Call_Name_kw;refine gY I hg hm boot_enumerate ?_ 45 45
 have hb:backTo pos (starEach [a] X.env)= [452]:=by rw[hs];rfl
 rw[hb];refine mS rfl rfl (evalArgs_kwB rfl ?_);refine Calls.spliced_cons (x:=eval a X.env) (rest:= []) (bW (ha pins s σ H _ I h) λv s1 (x,H1,I1,r1,l,ex,(xs,hq),q)=>?_)
 subst ex;cases r1;sleep 148;refine kws_cons (wpAny_Constant_int (kws_nil ?_));have I2:aU X pins σ H1 {s1 with toks:=s1.toks+1}:=I1.tok _
 obtain ⟨its,rv,p1,hz⟩:=I2.list hq;refine tS (s:={s1 with toks:=s1.toks+1}) p1.isList λh' he hit hsz hk=>?_
 refine wpAny_pyIter_enum (s:={s1 with heap:=h',toks:=s1.toks+1}) he ?_
 have I3:aU X pins σ H1 {s1 with heap:=h',toks:=s1.toks+1}:=I2.kept (t':=s1.toks+1) hk
 refine (s1.heap.objs.size+1,[s1.heap.objs.size+1,s1.heap.objs.size],_,_,H1,rfl,I3,tU l _ _ (Nat.succ_ne_self _),((_,by simpa using he),hit),λb hb=>?_,q)
 have bl:s1.heap.objs.size<=b:=by
  rcases K1.mp hb with z|z
  ·rw[z];exact Nat.le_succ _
  ·rw[K8.mp z];exact K4 _
 exact I2.fpOk bl (I1.hok.fresh bl)
theorem wR {K:K0} {a:Addr} {xs:List V} {g:TG} {tb:TS} {D:Ends} {σ:St} {H:Hp} (Pv:Nat->St->Hp->Prop) (h0:Pv 0 σ H) (hl:∀i σ H,i<=117->Pv i σ H->aJ K H a xs)
  (hs:∀i x σ H (T:Addr),xs[i]?=some x->Pv i σ H->H T=none->g (.ref T) σ (aR H T (.tup [.int 313,x])) λσ2 H2=>tb 218 σ2 H2) (hd:∀σ H,Pv 117 σ H->D.nx σ H):
  ∃W:Nat->Nat->St->Hp->Prop,516/\∀i m σ H,W i m σ H->
   ((zn K a).stop i H/\D.nx σ H)∨((zn K a).go i H/\∃N:St->Hp->Prop,190/\∀x H',(zn K a).yld i H x H'->g x σ H' λσ2 H2=>tb 314 σ2 H2):=by
 sleep 146
 sleep 190;have q:=hl i σ H hi p
 by_cases hlt:i<117
 ·sleep 100
  sleep 212
 ·have e:i=xs.length:=by lia
  subst e;exact .inl ((xs,q,K4 _),hd σ H p)
universe L2
namespace Sw
open PySem L2 XH Hm PySem.NumText
section
variable {cC cR cW cRec:Addr} {G H H':Hp} {r:Addr} {n:Str} {p:Nat} {lt ls lk:Addr} {ks:List So} {M:Md}
theorem DP {dx:Addr} (g:aD H H') (nr:H r=none) (nt:H lt=none) (ns:H ls=none) (nk:H lk=none) (d1:lt≠r) (d2:ls≠r) (d3:lk≠r) (nd: [lt,ls,lk].Nodup) (er:H' r=some 391) (et:H' lt=some 123) (es:H' ls=some 123) (ek:H' lk=some 123):RM cC cR cW cRec H H' r n p lt ls lk [] 142 where
 fr:=g
 nw:=λa ha=>by
  simp only[cF,List.map_nil,List.flatten_nil,K1,K5,or_false] at ha;rcases ha with rfl|rfl|rfl|rfl
  ·exact nr
  ·exact nt
  ·exact ns
  ·exact nk
 nd:=by
  simp only[cF,List.map_nil,List.flatten_nil];rw[Kk];refine (λm=>?_,nd)
  simp only[K1,K5,or_false] at m;rcases m with e|e|e
  ·exact d1 e.symm
  ·exact d2 e.symm
  ·exact d3 e.symm
 er:=⟨dx,er⟩
 et:=⟨[],et,A2.nil⟩
 es:=es
 len:=rfl
 ss:=λi k s h=>by simp at h
 ek:=⟨[],ek,A2.nil⟩
universe z0
def rO (cC cR cW:Addr):Sp:=λvs H Q _=>∃(l:Addr) (w n:Str) (lo hi:Nat) (f:Option fj),vs= [.ref l]/\LV H l w ([.nm n,.num lo,.num hi]++ze f)/\Cs w/\Bh w f/\∀(k:So) (H':Hp),aD H H'->SM cC cR cW H' k (w,n,lo,hi,f,[],none)->(∀a∈k.own,H a=none)->k.own.Nodup->Q (.ref k.x) H'
noncomputable def b8 (M:Md):List Rr->Except iT Md
 | []=> .ok M
 |r::rs=>match bY M r with
  | .error e=> .error e
  | .ok M'=>b8 M' rs
def iW (cC cR cW cRec:Addr):Sp:=λvs H Q _=>∃(n:Str) (p:Nat) (rs:List Rr) (M:Md),vs= [.str (Txt.join oC (bS n p::rs.map dC))]/\Nm n/\1<=p/\p<=1000/\(∀r∈rs,dh r)/\rs.length<=1000/\b8 322 rs= .ok M/\∀(r lt ls lk:Addr) (ks:List So) (H':Hp),RM cC cR cW cRec H H' r n p lt ls lk ks M->Q (.ref r) H'
theorem iX {M:Md} {z:Str} {i:Nat} (h:place M z=some i):ig M z i/\i<M.steps.length:=by
 unfold place at h;rw[LB] at h;obtain ⟨il,h1,h2⟩:=h;refine (((_,K3 il,by simpa using h1),λj s jl hs e=>?_),il)
 have:=h2 j jl;rw[K3 93] at hs
 cases hs;simp at this;exact this e
theorem iI {M M':Md} {n:Str} {f:SV->Except iT SV} (h:cc M n f= .ok M'):∃i s s',ig M n i/\M.steps[i]?=some s/\f s= .ok s'/\M'={M with steps:=M.steps.set i s'}:=by
 unfold cc at h
 split at h
 ·cases h
 next i e=>
 split at h
 ·cases h
 next s es=>
 split at h
 ·cases h
 next s' e'=>
 cases h;exact (i,s,s',(iX e).1,es,e',rfl)
theorem rP {us us':List cg} {u:cg} (h:fA us u= .ok us'):(∀x∈us,x.1≠u.1)/\us.length≠12/\us'=us++ [u]:=by
 unfold fA at h
 split at h
 ·cases h
 next n1=>
 split at h
 ·cases h
 next n2=>
 cases h;sleep 155
theorem qh {M M':Md} {g:Str} {a:fj} (e:bY M 557= .ok M'):(∀x∈M.takes,x.1≠g)/\M.takes.length≠12/\M'={M with takes:=M.takes++ [(g,a)]}:=by
 change 234=_ at e
 split at e
 ·cases e
 next n1=>
 split at e
 ·cases e
 next n2=>
 cases e;sleep 155
theorem qi {M M':Md} {w n:Str} {lo hi:Nat} {f:Option fj} (e:bY M 206= .ok M'):(∀s∈M.steps,s.n≠n)/\M.steps.length≠12/\M'={M with steps:=M.steps++ [284]}:=by
 change 233=_ at e
 split at e
 ·cases e
 next n1=>
 split at e
 ·cases e
 next n2=>
 cases e;sleep 155
theorem ql {M M':Md} {w a b:Str} {t:Nat} (e:bY M 408= .ok M'):∃i j,ig M a i/\ig M b j/\M.links.length≠24/\M'={M with links:=M.links++ [(w,i,j,t)]}:=by
 simp only[bY] at e
 split at e
 ·cases e
 next i e1=>
 split at e
 ·cases e
 next j e2=>
 split at e
 ·cases e
 next n2=>
 cases e;exact (i,j,(iX e1).1,(iX e2).1,n2,rfl)
theorem rQ {M M':Md} {n:Str} {lo hi:Nat} (e:bY M (.sec n lo hi)= .ok M'):∃i s,ig M n i/\M.steps[i]?=some s/\s.sec=none/\M'={M with steps:=M.steps.set i 244}:=by
 sleep 210
 split at hf
 ·cases hf
 next es=>
 cases hf;exact (i,s,hp,hs,es,rfl)
theorem rR {M M':Md} {n:Str} {u:cg} (e:bY M (.use false n u)= .ok M'):∃i s,ig M n i/\M.steps[i]?=some s/\(∀x∈s.uses,x.1≠u.1)/\s.uses.length≠12/\M'={M with steps:=M.steps.set i 470}:=by
 sleep 210
 split at hf
 ·cases hf
 next us eu=>
 cases hf;obtain ⟨n1,n2,rfl⟩:=rP eu;exact (i,s,hp,hs,n1,n2,rfl)
theorem rS {M M':Md} {n:Str} {u:cg} (e:bY M (.use true n u)= .ok M'):∃i s lo hi us,ig M n i/\M.steps[i]?=some s/\s.sec=some (lo,hi,us)/\(∀x∈us,x.1≠u.1)/\us.length≠12/\M'={M with steps:=M.steps.set i 376}:=by
 sleep 210
 split at hf
 ·cases hf
 next lo hi us es=>
 split at hf
 ·cases hf
 next us' eu=>
 cases hf;obtain ⟨n1,n2,rfl⟩:=rP eu;exact (i,s,lo,hi,us,hp,hs,es,n1,n2,rfl)
structure sJ (M:Md):Prop where
 t:M.takes.length<=12
 s:M.steps.length<=12
 k:M.links.length<=24
 us:∀s∈M.steps,s.uses.length<=12/\∀x,s.sec=some x->x.2.2.length<=12
theorem sJ.set {M:Md} (h:sJ M) {i:Nat} {s':SV} (hs:s'.uses.length<=12/\∀x,s'.sec=some x->x.2.2.length<=12):sJ {M with steps:=M.steps.set i s'}:=
 {h with
  s:=by simp;exact h.s
  us:=λx hx=>by
   rcases List.mem_or_eq_of_mem_set hx with hx|rfl
   ·exact h.us x hx
   ·exact hs}
theorem sJ.put {M M':Md} (h:sJ M) {r:Rr} (e:bY M r= .ok M'):sJ M':=by
 have ht:=h.t;have hs:=h.s;have hk:=h.k;cases r with
 |take g a=>
  obtain ⟨_,n2,rfl⟩:=qh e;exact {h with t:=by simp;lia}
 |step w n lo hi f=>
  obtain ⟨_,n2,rfl⟩:=qi e;refine {h with s:=by simp;lia,us:=λs hs=>?_}
  rcases KD.mp hs with hs|hs
  ·exact h.us s hs
  ·rw[K8.mp hs];exact (by simp,λx hx=>by cases hx)
 |sec n lo hi=>
  obtain ⟨i,s,hp,hs,_,rfl⟩:=rQ e;have k:=h.us s (K7 hs);exact h.set (k.1,λx hx=>by cases hx;simp)
 |use o n u=>
  cases o with
  |false=>
   obtain ⟨i,s,hp,hs,_,n2,rfl⟩:=rR e;have k:=h.us s (K7 hs);exact h.set (by have:=k.1;simp;lia,k.2)
  |true=>
   obtain ⟨i,s,lo,hi,us,hp,hs,es,_,n2,rfl⟩:=rS e;have k:=h.us s (K7 hs);have k2:=k.2 _ es;dsimp only at k2;exact h.set (k.1,λx hx=>by cases hx;simp;lia)
 |link w a b t=>
  obtain ⟨i,j,_,_,n2,rfl⟩:=ql e;exact {h with k:=by simp;lia}
theorem jU {f:Str} {v x:V}:∀{fs:List 553},fs.lookup f=some x->(aX f v fs).length=fs.length
 | [],h=>by cases h
 |(g,y)::r,h=>by
  rw[show aX f v ((g,y)::r)=(if g=f then (g,v)::r else (g,y)::aX f v r) from rfl]
  by_cases c:g=f
  ·rw[if_pos c]
   rfl
  ·rw[if_neg c];rw[Lu,show (f==g)=false by simpa using λz=>c z.symm] at h
   simp[jU (fs:=r) h]
theorem Co.put2 {ff:List 553} {nm l m u s v:V} (h:Co ff nm l m u s):Co (aX "second" v ff) nm l m u v:=by
 have k:∀{g:Str},g≠ "second" ->(aX "second" v ff).lookup g=ff.lookup g:=λhg=>by rw[bR,if_neg hg]
 exact ((k 38).trans h.name,(k 38).trans h.least,(k 38).trans h.most,(k 38).trans h.uses,by rw[bR,if_pos rfl],(k 38).trans h.word,(k 38).trans h.span,(k 38).trans h.grown,(k 38).trans h.way,(k 38).trans h.rounds)
section
variable {cC cR cW cRec:Addr} {G H H1 H':Hp} {r:Addr} {n:Str} {p:Nat} {lt ls lk:Addr} {ks:List So} {M:Md}
theorem RM.own_nd (h:RM cC cR cW cRec G H r n p lt ls lk ks M) {k:So} (hk:k∈ks):k.own.Nodup:=by
 have nd:=h.nd;unfold cF at nd;simp only[Kk] at nd;have nf:=nd.2.2.2.2;exact nf.sublist (List.sublist_flatten_of_mem (KH.mpr (k,hk,rfl)))
theorem tV {k:So} {x:Addr} {o:HO} (g:aD H H1) (hx:x∈k.own):Kp k.own H (aR H1 x o):=λb u e m=>by
 rw[aB λz=>m (by rw[z];exact hx)]
 exact g _ _ e
theorem SM.second {k:So} {s:SV} {C dx:Addr} {sv:V} {ff:List 553} {t l:Addr} {lo hi:Nat} (hx:H k.x=some (.ins C dx ff)) (hC:oF cC cR cW s.w C) (sf:Co ff (.str s.n) (vN s.lo) (vN s.hi) (.ref k.u) sv) (l10:ff.length<=10) (hf:jS H ff s.fill) (hu:Uz H k.u s.uses) (g:aD H H1) (nl:H l=none) (el:H1 l=some 123) (et:H1 t=some 484):SM cC cR cW (aR H1 k.x (.ins C dx (aX "second" 311 ff))) ⟨k.x,k.u,some l⟩ {s with sec:=some (lo,hi,[])}:=by
 have q:vI [k.x] H1:=iU (g _ _ hx) nofun;have kp:=(Kp.refl [k.x] H1).put (x:=k.x) 96 (.ins C dx (aX "second" 311 ff))
 have nu:k.u∉ [k.x]:=λz=>by
  obtain ⟨vs,e,_⟩:=hu;rw[K8.mp z,hx] at e;cases e
 have nlx:l≠k.x:=λz=>by rw[z,hx] at nl;cases nl
 refine (C,dx,.ref t,_,ah,hC,sf.put2,by rw[jU sf.second];exact l10,?_,kp.rtupM q (hu.same g) nu,t,rfl,kp.tupM q et,[],?_,A2.nil)
 ·have k0:=kp.fillM q (hf.same g);show jS _ _ s.fill;generalize s.fill=o at k0;cases o with
  |none=>exact k0
  |some a=>
   obtain ⟨t',e1,e2⟩:=k0;exact (t',by rw[bR,if_neg 38];exact e1,e2)
 ·rw[aB nlx];exact el
theorem SM.use {k:So} {s:SV} {vs:List V} {t:Addr} {u:cg} (h:SM cC cR cW H k s) (nd:k.own.Nodup) (ev:H k.u=some 336) (g:aD H H1) (et:H1 t=some (.tup (Dy u))):SM cC cR cW (aR H1 k.u 325) k {s with uses:=s.uses++ [u]}:=by
 obtain ⟨C,dx,sv,ff,hx,hC,sf,l10,hf,hu,hs⟩:=h.same g;have q:vI [k.u] H1:=iU (g _ _ ev) nofun;have kp:=(Kp.refl [k.u] H1).put (x:=k.u) 96 325
 simp only[So.own,Kk,K1,not_or] at nd;refine (C,dx,sv,ff,kp _ _ hx (by simpa using nd.1.1),hC,sf,l10,kp.fillM q hf,?_,kp.secM q hs λb hb=>by simpa using λz:b=k.u=>nd.2.1 (z▸hb))
 obtain ⟨us,e',rr⟩:=hu;rw[g _ _ ev] at e';cases e';exact (_,ah,(rr.snoc (t,rfl,trivial,et)).imp λv x (t,e1,e2,e3)=>(t,e1,e2,kp.tupM q e3))
theorem SM.orw {k:So} {s:SV} {vs:List V} {t l lo hi:Nat} {us:List cg} {u:cg} (h:SM cC cR cW H k s) (nd:k.own.Nodup) (ek:k.sec=some l) (es:s.sec=some (lo,hi,us)) (ev:H l=some 336) (g:aD H H1) (et:H1 t=some (.tup (Dy u))):SM cC cR cW (aR H1 l 325) k {s with sec:=some (lo,hi,us++ [u])}:=by
 obtain ⟨C,dx,sv,ff,hx,hC,sf,l10,hf,hu,hs⟩:=h.same g;have q:vI [l] H1:=iU (g _ _ ev) nofun;have kp:=(Kp.refl [l] H1).put (x:=l) 96 325
 simp only[So.own,ek,Option.toList,Kk,K1,not_or,K5,not_false_eq_true,and_true] at nd;rw[ek,es] at hs;obtain ⟨t2,rfl,e2,⟨ws,e3,rr⟩⟩:=hs;rw[g _ _ ev] at e3;cases e3;exists C,dx,_,ff,kp _ _ hx (by simpa using nd.1.2),hC,sf,l10,kp.fillM q hf,kp.rtupM q hu (by simpa using nd.2.1)
 rw[ek];exact (t2,rfl,kp.tupM q e2,_,ah,(rr.snoc (t,rfl,trivial,et)).imp λv x (t,e1,e2,e3)=>(t,e1,e2,kp.tupM q e3))
universe z0
theorem BA {r:Rr} (h:dh r) (e:(tQ r).1= "take"):∃g a,r= .take g a:=by
 cases r with
 |take g a=>exact ⟨g,a,rfl⟩
 |step w n lo hi f=>
  have e:w= "take" :=e;rcases h.1 with k|k|k<;>exact absurd 372 45
 |sec n lo hi=>exact absurd e (show ¬Str.ofString "or" =33 "take" from by decide+kernel)
 |use o n u=>
  cases o with
  |false=>exact absurd e (show ¬Str.ofString "with" =33 "take" from by decide+kernel)
  |true=>exact absurd e (show ¬Str.ofString "orwith" =33 "take" from by decide+kernel)
 |link w a b t=>
  have e:w= "take" :=e;rcases h.1 with k|k|k<;>exact absurd 372 45
theorem BB {r:Rr} (h:dh r) (e:(tQ r).1∈([("cut" :Str),"rest","warm"]:O6)):∃w n lo hi f,r= .step w n lo hi f:=by
 cases r with
 |take g a=>exact absurd e (show ¬Str.ofString "take" ∈([33 "cut","rest","warm"]:O6) from by decide+kernel)
 |step w n lo hi f=>exact ⟨w,n,lo,hi,f,rfl⟩
 |sec n lo hi=>exact absurd e (show ¬Str.ofString "or" ∈([33 "cut","rest","warm"]:O6) from by decide+kernel)
 |use o n u=>
  cases o with
  |false=>exact absurd e (show ¬Str.ofString "with" ∈([33 "cut","rest","warm"]:O6) from by decide+kernel)
  |true=>exact absurd e (show ¬Str.ofString "orwith" ∈([33 "cut","rest","warm"]:O6) from by decide+kernel)
 |link w a b t=>
  have e:w∈([("cut" :Str),"rest","warm"]:O6):=e;rcases h.1 with k|k|k<;>(rw[k] at e;exact absurd e 38)
theorem DQ {r:Rr} (h:dh r) (e:(tQ r).1= "or"):∃n lo hi,r= .sec n lo hi:=by
 cases r with
 |take g a=>exact absurd e (show ¬Str.ofString "take" =33 "or" from by decide+kernel)
 |step w n lo hi f=>
  have e:w= "or" :=e;rcases h.1 with k|k|k<;>exact absurd 372 45
 |sec n lo hi=>exact ⟨n,lo,hi,rfl⟩
 |use o n u=>
  cases o with
  |false=>exact absurd e (show ¬Str.ofString "with" =33 "or" from by decide+kernel)
  |true=>exact absurd e (show ¬Str.ofString "orwith" =33 "or" from by decide+kernel)
 |link w a b t=>
  have e:w= "or" :=e;rcases h.1 with k|k|k<;>exact absurd 372 45
theorem DR {r:Rr} (h:dh r) (e:(tQ r).1∈([("with" :Str),"orwith"]:O6)):∃o n u,r= .use o n u:=by
 cases r with
 |take g a=>exact absurd e (show ¬Str.ofString "take" ∈([33 "with","orwith"]:O6) from by decide+kernel)
 |step w n lo hi f=>
  have e:w∈([("with" :Str),"orwith"]:O6):=e;rcases h.1 with k|k|k<;>(rw[k] at e;exact absurd e 38)
 |sec n lo hi=>exact absurd e (show ¬Str.ofString "or" ∈([33 "with","orwith"]:O6) from by decide+kernel)
 |use o n u=>exact ⟨o,n,u,rfl⟩
 |link w a b t=>
  have e:w∈([("with" :Str),"orwith"]:O6):=e;rcases h.1 with k|k|k<;>(rw[k] at e;exact absurd e 38)
theorem BC {r:Rr} (h:dh r) (n1:(tQ r).1≠ "take") (n2:(tQ r).1∉([("cut" :Str),"rest","warm"]:O6)) (n3:(tQ r).1≠ "or") (n4:(tQ r).1∉([("with" :Str),"orwith"]:O6)):∃w a b t,r= .link w a b t:=by
 cases r with
 |take g a=>exact absurd rfl n1
 |step w n lo hi f=>
  have n2:w∉([("cut" :Str),"rest","warm"]:O6):=n2;rcases h.1 with k|k|k<;>(rw[k] at n2;exact absurd 38 n2)
 |sec n lo hi=>exact absurd rfl n3
 |use o n u=>
  cases o with
  |false=>exact absurd (show 33 "with" ∈([33 "with","orwith"]:O6) from by decide+kernel) n4
  |true=>exact absurd (show 33 "orwith" ∈([33 "with","orwith"]:O6) from by decide+kernel) n4
 |link w a b t=>exact ⟨w,a,b,t,rfl⟩
def Wg (w:Str):Prop:=(∀c∈sL w,32<=c)/\w.length<=40
theorem jV {z:Str} (h:Nm z):Wg z:=(λc m=>by have:=h.2.2 c m;lia,by have:=h.len;lia)
theorem iJ {n:Nat} (h:n<=999999999):Wg (aS n):=⟨λc m=>by
 unfold aS at m;rw[bo] at m;have:=(eJ n c m).1
 lia,by have:=dP h;lia⟩
theorem BD {p q:Nat}:∀c∈dO p q,43<=c:=λc hc=>by
 sleep 217
 unfold dO at hc
 split at hc
 ·exact dd _ c hc
 ·split at hc
  ·rcases KD.mp hc with h|h
   ·exact dd _ c h
   ·rcases K1.mp h with rfl|h
    ·decide
    ·exact dd _ c h
  ·rcases KD.mp hc with h|h
   ·exact dd _ c h
   ·rcases K1.mp h with rfl|h
    ·decide
    ·rcases KD.mp h with h|h
     ·exact dd _ c h
     ·rcases K1.mp h with rfl|h
      ·decide
      ·exact dd _ c h
theorem CA {a:fj} (h:vE a):Wg (lq a):=⟨λc m=>by
 unfold lq at m;rw[bo] at m;have:=BD c m
 lia,p7 h⟩
theorem tW {w:Str} (h:xG w=true):Wg w:=jV ((gC w).mp h)
theorem zp:∀{ws:O6},(∀w∈ws,Wg w)->∀c∈sL 548,32<=c
 | [],_,c,m=>by simp[jB] at m;exact absurd m (by decide+revert)
 | [a],h,c,m=>(h a Kd).1 c m
 |a::b::r,h,c,m=>by
  rw[aE,bC,bC] at m;rcases KD.mp m with m|m
  ·rcases KD.mp m with m|m
   ·exact (h a Kd).1 c m
   ·have:sL cL= [32]:=by decide
    rw[this] at m;simp at m
    lia
  ·exact zp (λw hw=>h w (K9 _ hw)) c m
theorem Ga {r:Rr} (h:dh r):(∀w∈c7 r,Wg w)/\(c7 r).length<=5:=by
 have W:∀{w:Str},Cs w->Wg w:=λh=>by rcases h with rfl|rfl|rfl<;>exact tW 38
 have L:∀{w:Str},yS w->Wg w:=λh=>by rcases h with rfl|rfl|rfl<;>exact tW 38
 cases r with
 |take g a=>
  refine (λw hw=>?_,by simp[c7])
  simp only[c7,K1,K5,or_false] at hw;rcases hw with rfl|rfl|rfl
  ·exact tW 38
  ·exact jV h.1
  ·exact CA h.2
 |step w n lo hi f=>
  obtain ⟨h1,h2,⟨l1,l2,l3⟩,h4⟩:=h;refine (λx hx=>?_,by cases f<;>simp[c7,vD])
  have hx:x∈ [w,n,aS lo,aS hi]++vD f:=hx;rcases KD.mp hx with hx|hx
  ·sleep 21;rcases hx with rfl|rfl|rfl|rfl
   ·exact W h1
   ·exact jV h2
   ·sleep 198
   ·sleep 198
  ·cases f with
   |none=>cases hx
   |some a=>
    rw[K8.mp hx];exact CA h4.2
 |sec n lo hi=>
  obtain ⟨h2,⟨l1,l2,l3⟩⟩:=h;refine (λx hx=>?_,by simp[c7,mP])
  simp only[c7,mP,K1,K5,or_false] at hx;rcases hx with rfl|rfl|rfl|rfl
  ·exact tW 38
  ·exact jV h2
  ·sleep 198
  ·sleep 198
 |use o n u=>
  obtain ⟨h1,h2,h3,h4,h5⟩:=h;refine (λx hx=>?_,by simp[c7,mO])
  simp only[c7,mO,K1,K5,or_false] at hx;rcases hx with rfl|rfl|rfl|rfl|rfl
  ·cases o
   ·exact tW (w:=33 "with") 38
   ·exact tW (w:=33 "orwith") 38
  ·exact jV h1
  ·exact jV h2
  ·sleep 198
  ·sleep 198
 |link w a b t=>
  obtain ⟨h1,h2,h3,h4,h5,h6⟩:=h;refine (λx hx=>?_,by simp only[c7,dI];split<;>simp)
  have hx:x∈ [w,a,b]++if w= "within" then [aS t] else []:=hx
  rcases KD.mp hx with hx|hx
  ·sleep 21;rcases hx with rfl|rfl|rfl
   ·exact L h1
   ·exact jV h2
   ·exact jV h3
  ·split at hx
   ·rw[K8.mp hx];sleep 198
   ·cases hx
theorem kI {r:Rr} (h:dh r):10∉sL (dC r)/\(dC r).length<=400:=by
 obtain ⟨h1,h2⟩:=Ga h;exists λm=>absurd (zp h1 10 m) 45
 have k:=tK (c7 r) (m:=40) λw hw=>(h1 w hw).2
 have:=Nat.mul_le_mul_left 41 h2;exact KC k 93
theorem mT {n:Str} {p:Nat} (h:Nm n) (hp:p<=1000):10∉sL (bS n p)/\(bS n p).length<=400:=by
 refine (λm=>absurd (zp (ws:= ["dish",n,aS p]) (λw hw=>?_) 10 m) 45,wJ h hp)
 simp only[K1,K5,or_false] at hw;rcases hw with rfl|rfl|rfl
 ·exact tW 38
 ·exact jV h
 ·sleep 198
theorem jW {rs ts:List Rr} {M M':Md} (h:b8 M rs= .ok M'):b8 M (rs++ts)=b8 M' ts:=by
 induction rs generalizing M with
 |nil=>cases h;rfl
 |cons r rs ih=>
  simp only[Lh,b8] at h⊢;cases e:bY M r with
  |error x=>rw[e] at h;cases h
  |ok M1=>rw[e] at h;exact ih h
theorem fC {r:Rr} {rs:List Rr} {M M':Md} (h:b8 M (r::rs)= .ok M'):∃M1,bY M r= .ok M1/\b8 M1 rs= .ok M':=by
 simp only[b8] at h;cases e:bY M r with
 |error x=>rw[e] at h;cases h
 |ok M1=>rw[e] at h;exact (M1,rfl,h)
theorem sJ.puts {rs:List Rr} {M M':Md} (b:sJ M) (h:b8 M rs= .ok M'):sJ M':=by
 induction rs generalizing M with
 |nil=>cases h;exact b
 |cons r rs ih=>
  obtain ⟨M1,e1,e2⟩:=fC h;exact ih (b.put e1) e2
theorem sJ.nil:sJ ⟨[],[],[]⟩:=(by simp,by simp,by simp,λs h=>by cases h)
theorem dZ {rs:List Rr} {M:Md} (h:b8 142 rs= .ok M) (i:Nat):∃M1,b8 142 (rs.take i)= .ok M1/\sJ M1/\b8 M1 (rs.drop i)= .ok M:=by
 have g:∀(M0:Md) (rs:List Rr) (i:Nat),b8 M0 rs= .ok M->∃M1,b8 M0 (rs.take i)= .ok M1/\b8 M1 (rs.drop i)= .ok M:=by
  intro M0 rs
  induction rs generalizing M0 with
  |nil=>intro i h;exact (M0,by simp[b8],by simpa using h)
  |cons r rs ih=>
   intro i h;cases i with
   |zero=>exact ⟨M0,rfl,h⟩
   |succ i=>
    obtain ⟨M1,e1,e2⟩:=fC h;obtain ⟨M2,k1,k2⟩:=ih M1 i e2;exact (M2,by simp only[List.take_succ_cons,b8,e1];exact k1,k2)
 obtain ⟨M1,e1,e2⟩:=g _ rs i h;exact (M1,e1,sJ.nil.puts e1,e2)
section
variable {cC cR cW cRec:Addr} {G G' H H':Hp} {r:Addr} {n:Str} {p:Nat} {lt ls lk:Addr} {ks:List So} {M:Md}
theorem RM.low (h:RM cC cR cW cRec G H r n p lt ls lk ks M) (g:aD G' G):RM cC cR cW cRec G' H r n p lt ls lk ks M:={h with fr:=g.trans h.fr,nw:=λa ha=>g.free (h.nw a ha)}
theorem RM.top (h:RM cC cR cW cRec G H r n p lt ls lk ks M):RM cC cR cW cRec (less H (cF r lt ls lk ks)) H r n p lt ls lk ks M:={h with fr:=kF _ _,nw:=λa ha=>if_pos ha}
theorem RM.less (h:RM cC cR cW cRec G H r n p lt ls lk ks M):aD G (Sw.less H (cF r lt ls lk ks)):=λb o e=>by
 rw[dS λhx=>?_]
 ·exact h.fr _ _ e
 ·have:=h.nw b hx;rw[e] at this;cases this
universe z0
theorem zq {r:Rr} (h:dh r):(tQ r).1≠ "dish" :=λe=>by
 cases r with
 |take g a=>exact absurd e (show ¬Str.ofString "take" = "dish" from by decide)
 |step w n lo hi f=>
  have e:w= "dish" :=e;rcases h.1 with k|k|k<;>exact absurd 372 45
 |sec n lo hi=>exact absurd e (show ¬Str.ofString "or" = "dish" from by decide)
 |use o n u=>
  cases o with
  |false=>exact absurd e (show ¬Str.ofString "with" = "dish" from by decide)
  |true=>exact absurd e (show ¬Str.ofString "orwith" = "dish" from by decide)
 |link w a b t=>
  have e:w= "dish" :=e;rcases h.1 with k|k|k<;>exact absurd 372 45
universe Sw
namespace L2
open PySem PySem.Spec PyProof.Rows XH Sw So
universe L2
namespace Sw
open PySem L2 XH Hm PySem.NumText
theorem DS {r:Rr} (h:dh r):dC r≠ "" :=λe=>by
 have k:=qg h;rw[e] at k;have:fQ "" =none:=if_pos 38
 rw[this] at k;cases k
theorem wS {rs:List Rr} {r:Rr} {M M':Md} (h:b8 142 rs= .ok M) (e:bY M r= .ok M'):b8 142 (rs++ [r])= .ok M':=by
 rw[jW h];simp only[b8,e]
def eT (c:Addr) (a:V) (G:Hp) (E:XK):Prop:=∀(d:Addr) (H':Hp),aD G H'->H' d=some (.xd [("at",a)])->E (.ref c) 138 H'
def nE (c:Addr) (G:Hp) (E:XK):Prop:=∀H',aD G H'->E (.ref c) none H'
theorem eT.low {c:Addr} {a:V} {G G':Hp} {E:XK} (h:eT c a G E) (g:aD G G'):eT c a G' E:=λd H' k e=>h d H' (g.trans k) e
theorem nE.low {c:Addr} {G G':Hp} {E:XK} (h:nE c G E) (g:aD G G'):nE c G' E:=λH' k=>h H' (g.trans k)
def Gb (cTw cNs cTm:Addr) (a:V) (G:Hp) (E:XK):iT->Prop
 | .twice=>eT cTw a G E
 | .nostep=>eT cNs a G E
 | .full=>nE cTm G E
def gE (cTw:Addr):Sp:=λvs H Q E=>∃(z:Str) (l:Addr) (ts:O6) (a:V),vs= [.str z,.ref l,a]/\H l=some (.lst (ts.map V.str))/\(z∈ts->eT cTw a H E)/\(z∉ts->Q .non H)
def gf (cTm:Addr):Sp:=λvs H Q E=>∃(l:Addr) (xs:List V) (m:Nat),vs= [.ref l,.int m]/\H l=some 251/\(m=12∨m=24)/\(117=m->nE cTm H E)/\(xs.length≠m->Q .non H)
def ij (cC cR cW cRec cNs:Addr):Sp:=λvs H Q E=>∃(r:Addr) (z:Str) (a:V) (n:Str) (p:Nat) (M:Md),vs= [.ref r,.str z,a]/\IB cC cR cW cRec H r n p M/\M.steps.length<=1000/\(place M z=none->eT cNs a H E)/\∀i,place M z=some i->∀H',aD H H'->Q (.int i) H'
def fG (cC cR cW cRec cTw cNs cTm:Addr) (which:Rr->Prop):Sp:=λvs H Q E=>∃(r l:Addr) (a:V) (G:Hp) (n:Str) (p:Nat) (lt ls lk:Addr) (ks:List So) (M:Md) (rr:Rr),vs= [.ref r,a,.ref l]/\which rr/\RM cC cR cW cRec G H r n p lt ls lk ks M/\LV H l (tQ rr).1 (tQ rr).2/\dh rr/\sJ M/\(∀f,bY M rr= .error f->Gb cTw cNs cTm a G E f)/\∀M',bY M rr= .ok M'->∀(ks':List So) (H':Hp),RM cC cR cW cRec G H' r n p lt ls lk ks' M'->Q .non H'
def zr:Rr->Prop| .take _ _=>True|_=>False
def isStep:Rr->Prop| .step _ _ _ _ _=>True|_=>False
def CB:Rr->Prop| .sec _ _ _=>True|_=>False
def CC:Rr->Prop| .use _ _ _=>True|_=>False
def zu:Rr->Prop| .link _ _ _ _=>True|_=>False
def kT (cC cR cW cRec cNr:Addr):Sp:=λvs H Q E=>∃v:V,vs= [v]/\((∃(l:Addr) (w:Str) (us:List Fv),v= .ref l/\LV H l w us/\(w≠ "dish" ->eT cNr (.int 0) H E)/\(w= "dish" ->∃n p,us= [.nm n,.num p]/\∀(r lt ls lk:Addr) (H':Hp),RM cC cR cW cRec H H' r n p lt ls lk [] 322->Q (.ref r) H'))∨(v= .non/\eT cNr (.int 0) H E))
inductive kh where
 |ok (r:Rr)
 |bad (z:Str)
noncomputable def fU:kh->Str
 | .ok r=>dC r
 | .bad z=>z
def IJ (z:Str):Prop:=fQ z=none∨∃us,fQ z=some (33 "dish",us)
def rT:kh->Prop
 | .ok r=>dh r
 | .bad z=>10∉sL z/\z.length<=400/\IJ z
inductive IK where
 |row (i:Nat)
 |flt (f:iT) (i:Nat)
noncomputable def gh (M:Md) (i:Nat):List kh->Except IK Md
 | []=> .ok M
 | .bad _::_=> .error (.row i)
 | .ok r::rs=>match bY M r with
  | .error f=> .error (.flt f i)
  | .ok M'=>gh M' 240 rs
def IL (cNr cTw cNs cTm:Addr) (G:Hp) (E:XK):IK->Prop
 | .row i=>eT cNr (.int i) G E
 | .flt f i=>Gb cTw cNs cTm (.int i) G E f
inductive wT where
 |ok (n:Str) (p:Nat)
 |bad (z:Str)
noncomputable def hdT:wT->Str
 | .ok n p=>bS n p
 | .bad z=>z
def wU:wT->Prop
 | .ok n p=>Nm n/\1<=p/\p<=1000
 | .bad z=>10∉sL z/\z.length<=400/\∀us,fQ z≠some (33 "dish",us)
def vO (cC cR cW cRec cNr cTw cNs cTm:Addr):Sp:=λvs H Q E=>∃(h:wT) (rows:List kh),vs= [.str 390]/\wU h/\(∀x∈rows,rT x)/\rows.length<=1000/\((∃z,h= .bad z)->eT cNr (.int 0) H E)/\∀n p,h= .ok n p->(∀e,gh 322 1 rows= .error e->IL cNr cTw cNs cTm H E e)/\∀M,gh 322 1 rows= .ok M->∀(r lt ls lk:Addr) (ks:List So) (H':Hp),RM cC cR cW cRec H H' r n p lt ls lk ks M->Q (.ref r) H'
theorem rV {M:Md} {z:Str} {i:Nat} {s:SV} (h:M.steps[i]?=some s) (e:s.n=z) (n:∀k s,k<i->M.steps[k]?=some s->s.n≠z):place M z=some i:=by
 unfold place;rw[LB];have il:=cf h;refine (il,?_,λj hj=>?_)
 ·rw[K3 il] at h;rw[KI h]
  simpa using e
 ·have:=n j _ hj (K3 93)
  simpa using this
theorem tX {M:Md} {z:Str} (n:∀k s,k<M.steps.length->M.steps[k]?=some s->s.n≠z):place M z=none:=by
 unfold place;rw[List.findIdx?_eq_none_iff];intro s hs;obtain ⟨k,hk⟩:=Kh.mp hs
 simpa using n k s (cf hk) hk
variable {M:Md}
theorem zv {g:Str} {a:fj} (h:g∈M.takes.map λx=>x.1):bY M 557= .error .twice:=if_pos h
theorem BE {g:Str} {a:fj} (h:g∉M.takes.map λx=>x.1) (l:M.takes.length=12):bY M 557= .error .full:=(if_neg h).trans (if_pos l)
theorem Gc {g:Str} {a:fj} (h:g∉M.takes.map λx=>x.1) (l:M.takes.length≠12):bY M 557= .ok {M with takes:=M.takes++ [(g,a)]}:=(if_neg h).trans (if_neg l)
theorem zw {w n:Str} {lo hi:Nat} {f:Option fj} (h:n∈M.steps.map λs=>s.n):bY M 206= .error .twice:=if_pos h
theorem BF {w n:Str} {lo hi:Nat} {f:Option fj} (h:n∉M.steps.map λs=>s.n) (l:M.steps.length=12):bY M 206= .error .full:=(if_neg h).trans (if_pos l)
theorem Gd {w n:Str} {lo hi:Nat} {f:Option fj} (h:n∉M.steps.map λs=>s.n) (l:M.steps.length≠12):bY M 206= .ok {M with steps:=M.steps++ [284]}:=(if_neg h).trans (if_neg l)
theorem qm {n:Str} {f:SV->Except iT SV} (h:place M n=none):cc M n f= .error .nostep:=by
 unfold cc;rw[h]
theorem jX {n:Str} {f:SV->Except iT SV} {i:Nat} {s:SV} (h:place M n=some i) (hs:M.steps[i]?=some s):cc M n f=(match f s with| .error e=> .error e| .ok s'=> .ok {M with steps:=M.steps.set i s'}):=by
 unfold cc;rw[h];dsimp only;rw[hs]
theorem vP {n:Str} {i:Nat} (h:place M n=some i):∃s,M.steps[i]?=some s/\s.n=n:=(iX h).1.1
theorem BG {n:Str} {lo hi:Nat} (h:place M n=none):bY M (.sec n lo hi)= .error .nostep:=qm h
theorem zx {n:Str} {lo hi i:Nat} {s:SV} {x} (h:place M n=some i) (hs:M.steps[i]?=some s) (e:s.sec=some x):bY M (.sec n lo hi)= .error .twice:=by
 show cc M n _=_;rw[jX h hs,e]
theorem Ge {n:Str} {lo hi i:Nat} {s:SV} (h:place M n=some i) (hs:M.steps[i]?=some s) (e:s.sec=none):bY M (.sec n lo hi)= .ok {M with steps:=M.steps.set i 244}:=by
 show cc M n _=_;rw[jX h hs,e]
theorem BH {o:Bool} {n:Str} {u:cg} (h:place M n=none):bY M (.use o n u)= .error .nostep:=by
 cases o
 ·exact qm h
 ·exact qm h
theorem zy {n:Str} {u:cg} {i:Nat} {s:SV} (h:place M n=some i) (hs:M.steps[i]?=some s) (e:s.sec=none):bY M (.use true n u)= .error .nostep:=by
 show cc M n _=_;rw[jX h hs,e]
noncomputable def qp (o:Bool) (s:SV):Option (List cg):=if o=true then s.sec.map λx=>x.2.2 else some s.uses
noncomputable def lP (o:Bool) (s:SV) (us:List cg):SV:=if o=true then {s with sec:=s.sec.map λx=>(x.1,x.2.1,us)} else {s with uses:=us}
theorem zA {o:Bool} {n:Str} {u:cg} {i:Nat} {s:SV} {us:List cg} (h:place M n=some i) (hs:M.steps[i]?=some s) (e:qp o s=some us):bY M (.use o n u)=(match fA us u with| .error e=> .error e| .ok us'=> .ok {M with steps:=M.steps.set i (lP o s us')}):=by
 cases o with
 |false=>
  cases e;show cc M n _=_;rw[jX h hs];cases fA s.uses u<;>rfl
 |true=>
  obtain ⟨⟨lo,hi,us'⟩,e1,e2⟩:=KZ.mp (show s.sec.map (λx=>x.2.2)=some us from e)
  cases e2;show cc M n _=_;rw[jX h hs,e1];dsimp only;cases fA us' u with
  |error e=>rfl
  |ok us2=>
   show Except.ok _=Except.ok _;unfold lP;simp only[if_true,e1,Option.map_some]
theorem zB {us:List cg} {u:cg} (h:u.1∈us.map λx=>x.1):fA us u= .error .twice:=if_pos h
theorem BI {us:List cg} {u:cg} (h:u.1∉us.map λx=>x.1) (l:us.length=12):fA us u= .error .full:=(if_neg h).trans (if_pos l)
theorem Gf {us:List cg} {u:cg} (h:u.1∉us.map λx=>x.1) (l:us.length≠12):fA us u= .ok (us++ [u]):=(if_neg h).trans (if_neg l)
theorem zC {w a b:Str} {t:Nat} (h:place M a=none):bY M 408= .error .nostep:=by
 simp only[bY,h]
theorem zD {w a b:Str} {t i:Nat} (h:place M a=some i) (k:place M b=none):bY M 408= .error .nostep:=by
 simp only[bY,h,k]
theorem BJ {w a b:Str} {t i j:Nat} (h:place M a=some i) (k:place M b=some j) (l:M.links.length=24):bY M 408= .error .full:=by
 simp only[bY,h,k];exact if_pos l
theorem Gg {w a b:Str} {t i j:Nat} (h:place M a=some i) (k:place M b=some j) (l:M.links.length≠24):bY M 408= .ok {M with links:=M.links++ [(w,i,j,t)]}:=by
 simp only[bY,h,k];exact if_neg l
theorem J6 {a b:Str} {p q:Prop} (h1:a≠b->p) (h2:a=b->q):if (!decide 530)=true then p else q:=by
 by_cases c:a=b
 ·rw[if_neg (by rw[decide_eq_true (congrArg V.str c)];decide)]
  exact h2 c
 ·rw[if_pos (by rw[decide_eq_false λz=>c (V.str.inj z)];rfl)]
  exact h1 c
theorem vQ {M M':Md} {i:Nat} {r:Rr} {rs:List kh} (h:bY M r= .ok M'):gh M i (.ok r::rs)=gh M' 240 rs:=by
 simp only[gh,h]
theorem jY {M:Md} {i:Nat} {r:Rr} {rs:List kh} {f:iT} (h:bY M r= .error f):gh M i (.ok r::rs)= .error (.flt f i):=by
 simp only[gh,h]
theorem tY {x:kh} (h:rT x):10∉sL (fU x)/\(fU x).length<=400:=by
 cases x with
 |ok r=>exact kI h
 |bad z=>exact ⟨h.1,h.2.1⟩
theorem tZ {h:wT} (k:wU h):10∉sL (hdT h)/\(hdT h).length<=400:=by
 cases h with
 |ok n p=>exact mT k.1 k.2.2
 |bad z=>exact ⟨k.1,k.2.1⟩
theorem BK {h:wT} {rows:List kh} (k:wU h) (ro:∀x∈rows,rT x):Txt.split 390 oC=hdT h::rows.map fU:=by
 refine rK 96 λw hw=>?_
 rcases K1.mp hw with rfl|hw
 ·exact (tZ k).1
 ·obtain ⟨r,hr,rfl⟩:=KH.mp hw;exact (tY (ro r hr)).1
theorem Gh {h:wT} {rows:List kh} (k:wU h) (ro:∀x∈rows,rT x) (l:rows.length<=1000):(Txt.join oC (hdT h::rows.map fU)).length<=500000:=by
 have s:=lN (m:=400) (ws:=hdT h::rows.map fU) λw hw=>by
  rcases K1.mp hw with rfl|hw
  ·exact (tZ k).2
  ·obtain ⟨r,hr,rfl⟩:=KH.mp hw;exact (tY (ro r hr)).2
 rw[mG,show oC.length=1 from rfl]
 simp only[KE,K6] at s⊢
 lia
universe Sw
namespace L2
open PySem PySem.Spec PyProof.Rows XH Sw
noncomputable def oR:Value->Bool
 | .bool b=>b
 |_=>false
theorem t8 {A:Around} {s:Shared}:∀{bs:List Bool} {us:O8},bj (bs.map V.bl) us->∀u∈us,SeqAt.EqAt A s u 386 (oR u)
 | [],[],.nil=>λu hu=>by cases hu
 |b::bs,u::us,.cons r t=>λw hw=>by
  rcases K1.mp hw with rfl|hw
  ·cases r;have z:=SeqAt.EqAt.bool_bool (A:=A) (s:=s) b true;rw[show (b==true)=b by cases b<;>rfl] at z
   exact z
  ·exact t8 t w hw
theorem qr:∀{bs:List Bool} {us:O8},bj (bs.map V.bl) us->us.map oR=bs
 | [],[],.nil=>rfl
 |b::bs,u::us,.cons r t=>by
  cases r;rw[Kl,qr t]
  rfl
theorem wV {X:Cx} {K:K0} (hK:X.K=K):Cf X "list.count" (λx vs H Q=>∃(p:Addr) (bs:List Bool),x= .ref p/\vs= [.bl true]/\aJ K H p (bs.map V.bl)/\Q (.int ((bs.countP id:Nat):Int)) H):=by
 subst hK;intro pins s σ H x xs v us Q I rx rv h;obtain ⟨p,bs,rfl,rfl,hS,q⟩:=h;cases rx;obtain ⟨u,rfl,ru⟩:=rv.one;cases ru;sleep 53;refine call_meets PySem.F.slot_list_count (_,hl,rfl) PySem.F.entry_list_count (PySem.F.args_list_count_2 _ _) (SeqAt.list_countAt p its.toArray n dct sl 386 oR) (hl,λy hy=>t8 r y (by simpa using hy),?_)
 exists .int _,H,I.tok _,⟨ν⟩;have e:its.toArray.toList.countP oR=bs.countP id:=by
  rw[List.toList_toArray,<-qr r,List.countP_map]
  rfl
 rw[e];exact q
theorem wW {X:Cx} {K:K0} (hK:X.K=K):Cf X "list.index" (λx vs H Q=>∃(p:Addr) (bs:List Bool) (j:Nat),x= .ref p/\vs= [.bl true]/\aJ K H p (bs.map V.bl)/\j<1000/\bs[j]?=some true/\(∀k,k<j->bs[k]?=some false)/\Q (.int (j:Int)) H):=by
 subst hK;intro pins s σ H x xs v us Q I rx rv h;obtain ⟨p,bs,j,rfl,rfl,hS,j1,hj,hk,q⟩:=h;cases rx;obtain ⟨u,rfl,ru⟩:=rv.one;cases ru;sleep 53;have em:=qr r;have at_:∀k b,bs[k]?=some b->∃h:k<its.length,oR its[k]=b:=λk b hb=>by
  rw[<-em,KA] at hb;obtain ⟨y,hy,e⟩:=KZ.mp hb;have il:=(KB.mp hy).1;exists il;rw[K3 il] at hy;rw[KI hy];exact e
 obtain ⟨jl,ej⟩:=at_ j true hj;refine call_meets PySem.F.slot_list_index (_,hl,rfl) PySem.F.entry_list_index (PySem.F.args_list_index_2 _ _) (SeqAt.list_indexAt p its.toArray n dct sl 386 oR j (by simpa using jl) 93 (by simpa using ej) (λm hm hlt=>?_)) (hl,λy hy=>t8 r y (by simpa using hy),?_)
 ·obtain ⟨_,e⟩:=at_ m false (hk m hlt)
  simpa using e
 ·exact (.int _,H,I.tok _,⟨ν⟩,q)
theorem zE {X:Cx} {K:K0} {T:String} {name:Str} {id:String} {r:V->List V->Hp->VK->Prop} {o:Expr} {to:TE} {e:Expr} {es:List Expr} {t:TA} {apos cpos:Pos} (hK:X.K=K) (pa:PlainAttrs T) (slot:Slot T name id) (hty:typeOf 409=pure 483) (hm:Cf X id r) (ho:PE X o to) (ha:PA X (e::es) t)
  (hbase:attributeBase o name X.env 433=eval o X.env:=by rfl)
  (hfew:((backTo cpos 520).all (λx=> !x.1)&&(backToKw cpos 228).all (λx=>x.1.isSome)&&decide 506)=true:=by rfl)
  (hline:235=true:=by rfl) (hs:starEach (e::es) X.env=(false,eval e X.env)::starEach es X.env:=by rfl) (hplain:(backTo cpos 137).any 182=false:=by rfl):
  PE X 505 (Jp K T r to t):=by
 subst hK;exact dM pa slot hty hm ho ha hbase hfew hline hs hplain
universe L2
namespace Sw
open PySem L2 XH Hm PySem.NumText
noncomputable def outF:IK->Str×Int
 | .row i=>("row",(i:Int))
 | .flt .twice i=>("twice",(i:Int))
 | .flt .nostep i=>("step",(i:Int))
 | .flt .full _=>("room",-1)
noncomputable def iK (h:wT) (rows:List kh):Str×Int:=match h with
 | .bad _=>("row",0)
 | .ok _ _=>match gh ⟨[],[],[]⟩ 1 rows with
  | .ok _=>("none",-1)
  | .error e=>outF e
def wX:Sp:=λvs H Q _=>∃(h:wT) (rows:List kh),vs= [.str 390]/\wU h/\(∀x∈rows,rT x)/\rows.length<=1000/\∀(t:Addr) (H':Hp),aD H H'->H' t=some (.tup [.str (iK h rows).1,.int (iK h rows).2])->Q 311 H'
theorem BL (k:Nat):lq (k,1)=aS k:=by
 unfold lq dO aS;simp[Nat.mod_one]
theorem t9 {x:Int} {n:Nat} (h:x=(n:Int)):Str.ofString (toString x)=aS n:=by
 rw[h];exact gb n
theorem gU {ts:List kh}:∀{rs:List Rr} {M M':Md} {i:Nat},b8 M rs= .ok M'->gh M i (rs.map .ok++ts)=gh M' (i+rs.length) ts
 | [],M,M',i,h=>by cases h;rfl
 |r::rs,M,M',i,h=>by
  obtain ⟨M1,e1,e2⟩:=fC h;rw[Kl,Lh,vQ e1,gU e2]
  congr 1
  simp;omega
theorem zF {cC cR cW cRec cNr cTw cNs cTm:Addr}:∀vs H Q E,iW cC cR cW cRec vs H Q E->vO cC cR cW cRec cNr cTw cNs cTm vs H Q E0:=by
 rintro vs H Q E ⟨n,p,rs,M,rfl,nm,p1,p2,ro,l,hp,q⟩;have run:gh 142 1 (rs.map .ok)= .ok M:=by
  have k:=gU (ts:= []) (i:=1) hp;rw[Ke] at k;rw[k]
  rfl
 refine ⟨.ok n p,rs.map .ok,?_,⟨nm,p1,p2⟩,λx hx=>?_,by simpa using l,λ⟨z,hz⟩=>(by cases hz),λn' p' e=>?_⟩
 ·rw[Ls]
  rfl
 ·obtain ⟨r,hr,rfl⟩:=KH.mp hx;exact ro r hr
 ·cases e;refine (λe he=>?_,λM' hM=>?_)
  ·rw[run] at he;cases he
  ·rw[run] at hM;cases hM;exact q
section
variable {G H H':Hp} {m lt ls lk:Addr} {ks:List Sk} {M:Md}
theorem ML.less (h:ML G H m lt ls lk ks M):aD G (Sw.less H 402):=λb o e=>by
 rw[dS λhx=>?_]
 ·exact h.fr _ _ e
 ·have:=h.nw b hx;rw[e] at this;cases this
theorem ML.out (h:ML G H m lt ls lk ks M) {x:Addr} {zs:O6} {o:HO} (ex:H x=some 337) (nx:G x=none) (nm:x∉cw m lt ls lk ks):ML G (aR H x o) m lt ls lk ks M:=by
 have q:Fq [x] H:=λb hb o e=>by
  rw[K8.mp hb,ex] at e;cases e;refine (ν,λi j z=>?_)
  cases zs with
  |nil=>cases z
  |cons a zs=>cases z
 have kp:=(Kp.refl [x] H).put (x:=x) 96 o
 have ne:∀{b:Addr},b∈cw m lt ls lk ks->b∉ [x]:=λhb z=>nm (by rw[<-K8.mp z];exact hb)
 exact {h with
  fr:=f9 h.fr nx _
  em:=kp _ _ h.em 242
  et:=kp.rtake q h.et 242
  es:=kp _ _ h.es 242
  ss:=λi k s e1 e2=>kp.sl q 399 λb hb=>ne (lO (K7 e1) hb)
  ek:=kp.rtup q h.ek 242}
universe z0
structure CD (h:Str) (rs:List Rr) (M:Md) (i:Nat):Prop where
 pt:b8 142 rs= .ok M
 ok:∀r∈rs,dh r
 ln:rs.length<=i
theorem CD.skip {h:Str} {rs:List Rr} {M:Md} {i:Nat} (k:CD h rs M i):CD h rs M (i+1):=(k.pt,k.ok,by have:=k.ln;lia)
theorem CD.put {h:Str} {rs:List Rr} {M M':Md} {i:Nat} {r:Rr} (k:CD h rs M i) (o:dh r) (e:bY M r= .ok M'):CD h (rs++ [r]) M' (i+1):=⟨wS k.pt e,λx hx=>by
 rcases KD.mp hx with hx|hx
 ·exact k.ok x hx
 ·rw[K8.mp hx];exact o,by have:=k.ln;simp;lia⟩
theorem DT {h:Str} {rs:List Rr} (hh:h.length<=400) (ok:∀r∈rs,dh r) (l:rs.length<=1000):((h::rs.map dC).map λx=>x.length).sum+(h::rs.map dC).length<=1048576:=by
 have s:=lN (m:=400) (ws:=h::rs.map dC) λw hw=>by
  rcases K1.mp hw with rfl|hw
  ·exact hh
  ·obtain ⟨r,hr,rfl⟩:=KH.mp hw;exact (kI (ok r hr)).2
 simp only[KE,K6] at s⊢
 lia
theorem rW (n d k:Nat):HT.eC n d (some (k:Int))=min k n:=by
 show (if (k:Int)<0 then ((k:Int)+(n:Int)).toNat else min (k:Int).toNat n)=min k n
 rw[if_neg (Int.not_lt.mpr (Int.natCast_nonneg k)),Int.toNat_natCast]
theorem wY {ns:List Int} (a b:Nat):∃cs:List Int,eV 232 (some (a:Int)) (some (b:Int))=cs.map V.int/\cs.length<=b-a:=by
 exists (ns.drop (HT.eC ns.length 0 (some (a:Int)))).take (HT.eC ns.length ns.length (some (b:Int))-HT.eC ns.length 0 (some (a:Int))),?_
 ·unfold eV;rw[K6,<-List.map_drop,<-List.map_take]
 ·rw[Kw,rW,rW,L0]
  lia
theorem BM (z:Str):Str.ofString "cut " ++z++33 " 1 1" =dC (.step "cut" z 1 1 none):=by
 show _=jB ["cut",z,aS 1,aS 1];rw[aE,aE,aE,jA,show Str.ofString "cut " =Str.ofString "cut" ++cL from by decide,show Str.ofString " 1 1" =cL++aS 1++cL++aS 1 from by decide+kernel]
 sleep 208
theorem wZ {f:Str} {n lo hi:Nat} (hf:ly.lookup f=some (lo,hi)) (n1:f≠ "name") (n2:f≠ "amount") (h:¬(lo<=n/\n<=hi)):aV f (aS n)=none:=by
 sleep 131;show (i9 (aS n) lo hi).map Fv.num=none;unfold i9 aS;rw[bo,pI,if_neg λz=>h z.2]
 rfl
theorem DU {x:kh} (h:rT x):(fU x).length<=400:=by
 cases x with
 |ok r=>exact (kI h).2
 |bad z=>exact h.2.1
theorem DV {h:Str} {xs:List kh} (hh:h.length<=400) (ok:∀x∈xs,rT x) (l:xs.length<=1000):((h::xs.map fU).map λx=>x.length).sum+(h::xs.map fU).length<=1048576:=by
 have:∀ys:List kh,(∀x∈ys,rT x)->((ys.map fU).map λx=>x.length).sum<=400*ys.length:=λys=>by
  induction ys with
  |nil=>intro _;simp
  |cons y t ih=>
   intro hy;have h1:=ih λx hx=>hy x (K9 _ hx)
   have h2:=DU (hy y Kd);simp only[Kl,List.sum_cons,KE]
   lia
 have h1:=this xs ok;simp only[Kl,List.sum_cons,KE,K6]
 lia
noncomputable def Ay (c:Nat) (z:Str) (a:Nat):List Nat:=if a=c then sL z else [a]
theorem iY {c:Nat} {z:Str}:∀{l:List Nat},c∉l->l.flatMap (Ay c z)=l
 | [],_=>rfl
 |a::l,h=>by
  rw[LY,iY (l:=l) (λm=>h (K9 _ m)),show Ay c z a= [a] from if_neg (λe:a=c=>h (by rw[e];exact Kd))]
  rfl
theorem vR {c:Nat} (z:Str):∀{ws:O6},ws≠ []->(∀w∈ws,c∉sL w)->sL (Str.join z ws)=(sL 531).flatMap (Ay c z)
 | [],ne,_=>absurd rfl ne
 | [x],_,h=>(iY (h x 96)).symm
 |x::y::r,_,h=>by
  rw[hV,hV,bC,bC,bC,bC,Lf,Lf,iY (h x 96),bo,vR z (ws:=y::r) 96 λw hw=>h w (K9 _ hw)]
  simp[Ay]
theorem jZ (w z:Str) (c:Nat):sL (Txt.replace w 181 z)=(sL w).flatMap (Ay c z):=by
 have e:Str.join 181 (Txt.split w 181)=w:=StrLaws.join_split _ _;have f:∀p∈Txt.split w 181,c∉sL p:=StrLaws.split_free w c;rw[show Txt.replace w 181 z=Str.join z (Txt.split w 181) from StrLaws.replace_one w z c,vR z (mD w c) f,e]
theorem rX {n:Nat} (h:n<=9999999999):(aS n).length<=10:=by
 have:=fh (n:=n) (k:=9) 93
 rw[<-cv,aS,bo];exact this
theorem BN {x:Int} {n:Nat} (h:x=(n:Int)) (l:n<=9999999999):x.natAbs.log2<1920:=by
 rw[h];exact lg (LA l 45)
theorem w6:Str.ofString "0" =aS 0:=by decide+kernel
theorem uc:Str.ofString "1" =aS 1:=by decide+kernel
theorem Gi:Str.ofString "2" =aS 2:=by decide+kernel
theorem Gj:Str.ofString "3" =aS 3:=by decide+kernel
def jd:Sp:=λ_ _ _ _=>False
theorem iZ (w z:Str) (c:Nat):(Txt.replace w 181 z).length<=w.length*(z.length+1):=by
 rw[<-cv,jZ,<-cv w,<-cv z];have:∀l:List Nat,(l.flatMap (Ay c z)).length<=l.length*((sL z).length+1):=λl=>by
  induction l with
  |nil=>simp
  |cons a l ih=>
   rw[LY,KL,KE,Nat.add_mul,Nat.one_mul];have:(Ay c z a).length<=(sL z).length+1:=by
    unfold Ay
    split<;>simp
   lia
 exact this _
theorem jq {z:Str} (h:Nm z) {c:Nat} (hc:c<97):(181==z)=false:=by
 cases e:(bw [c])==z with
 |false=>rfl
 |true=>
  have e':bw [c]=z:=by simpa using e
  rw[<-e'] at h;have:=h.2.2 c (by rw[bo];exact K8.mpr rfl)
  lia
theorem DW (n:Nat) {c:Nat} (hc:58<=c):(181==aS n)=false:=by
 cases e:(bw [c])==aS n with
 |false=>rfl
 |true=>
  have e':bw [c]=aS n:=by simpa using e
  have m:c∈sL (aS n):=by rw[<-e',bo];exact K8.mpr rfl
  unfold aS at m;rw[bo] at m;have:=eJ n c m
  lia
noncomputable def gN:List 302->Nat->List Nat
 | [],a=> [a]
 |p::G,a=>if a=p.1 then sL p.2 else gN G a
def Gk:List 302->Prop
 | []=>True
 |p::G=>(∀a∈sL p.2,∀q∈G,a≠q.1)/\Gk G
theorem ud:∀{G:List 302} {a:Nat},(∀q∈G,a≠q.1)->gN G a= [a]
 | [],_,_=>rfl
 |p::G,a,h=>by
  unfold gN;rw[if_neg (h p Kd),ud λq hq=>h q (K9 _ hq)]
theorem j6 {G:List 302}:∀{l:List Nat},(∀a∈l,∀q∈G,a≠q.1)->l.flatMap (gN G)=l
 | [],_=>rfl
 |a::l,h=>by
  rw[LY,ud (h a Kd),j6 λb hb=>h b (K9 _ hb)]
  rfl
theorem CF:∀{G:List 302} (w:Str),Gk G->sL (G.foldl (λw p=>Txt.replace w (bw [p.1]) p.2) w)=(sL w).flatMap (gN G)
 | [],w,_=>(j6 λa _ q hq=>absurd hq K5).symm
 |p::G,w,h=>by
  rw[List.foldl_cons,CF _ h.2,jZ,List.flatMap_assoc]
  congr 1
  funext a
  unfold Ay
  by_cases c:a=p.1
  ·rw[if_pos c,gN,if_pos c];exact j6 h.1
  ·rw[if_neg c,gN,if_neg c,LY,List.flatMap_nil,Ke]
noncomputable def wN (G:List 302) (w:Str):Str:=bw ((sL w).flatMap (gN G))
theorem mU (G:List 302) (w:Str):sL (wN G w)=(sL w).flatMap (gN G):=bo _
theorem rY {G:List 302} (b:∀q∈G,q.1≠32):∀ws:O6,(sL 548).flatMap (gN G)=sL (jB (ws.map (wN G)))
 | []=>rfl
 | [w]=>by
  rw[Kl,List.map_nil,jA,jA];exact (mU _ _).symm
 |w::v::r=>by
  have hb:(sL cL).flatMap (gN G)=sL cL:=j6 λa ha q hq=>by
   have:a=32:=by
    have e:sL cL= [32]:=by decide
    rw[e] at ha;exact K8.mp ha
   rw[this];exact λz=>b q hq z.symm
  rw[aE,Kl,Kl,aE,bC,bC,bC,bC,Lf,Lf,rY b (v::r),Kl,hb,mU]
theorem CG {G:List 302} (o:Gk G) (b:∀q∈G,q.1≠32) {w:Str} (ws:O6) (h:w=jB ws):G.foldl (λw p=>Txt.replace w (bw [p.1]) p.2) w=jB (ws.map (wN G)):=by
 apply dE;rw[CF w o,h,rY b]
noncomputable def G3 (n m x:Str):List (Nat×Str):= [(78,n),(77,m),(88,x)]
theorem Gm {n m x:Str} (hn:Nm n) (hm:Nm m):Gk (G3 n m x):=⟨λa ha q hq=>by
 have:=hn.2.2 a ha;sleep 171;rcases hq with rfl|rfl
 ·show a≠77
  lia
 ·show a≠88
  lia,λa ha q hq=>by
 have:=hm.2.2 a ha;sleep 171;rw[hq];show a≠88
 lia,λa _ q hq=>absurd hq K5,trivial⟩
theorem BO {n m x:Str}:∀q∈G3 n m x,q.1≠32:=λq hq=>by
 simp only[G3,K1,K5,or_false] at hq;rcases hq with rfl|rfl|rfl
 ·show (78:Nat)≠32
  decide
 ·show (77:Nat)≠32
  decide
 ·show (88:Nat)≠32
  decide
noncomputable def nG (a:Nat):Bool:= !(a==78)&& !(a==77)&& !(a==88)
theorem qt {n m x:Str} {a:Nat} (h:nG a=true):gN 466 a= [a]:=by
 simp only[nG,KQ,Bool.not_eq_true',beq_eq_false_iff_ne] at h;exact ud λq hq=>by
  simp only[G3,K1,K5,or_false] at hq;rcases hq with rfl|rfl|rfl
  ·exact h.1.1
  ·exact h.1.2
  ·exact h.2
noncomputable def nH (w:Str):Bool:=(sL w).all nG
theorem mV {n m x w:Str} (h:nH w=true):wN 466 w=w:=by
 apply dE;rw[mU];have:∀l:List Nat,l.all nG=true->l.flatMap (gN 466)=l:=λl=>by
  induction l with
  |nil=>intro _;rfl
  |cons a l ih=>
   intro k;rw[List.all_cons,KQ] at k;rw[LY,ih k.2,qt k.1]
   rfl
 exact this _ h
theorem CH {n m x w:Str} {p:Nat->Bool} (h:((sL w).any λa=>nG a&& !p a)=true):∃a∈sL (wN 466 w),p a=false:=by
 obtain ⟨a,ha,k⟩:=List.any_eq_true.mp h;rw[KQ] at k;refine (a,?_,by simpa using k.2)
 rw[mU];exact List.mem_flatMap.mpr (a,ha,by rw[qt k.1];exact K8.mpr rfl)
theorem Gn {n m x:Str}:wN 466 "X" =x:=by
 apply dE;rw[mU,show sL ("X" :Str)= [88] by decide]
 show gN 466 88++ []=_;rw[Ke]
 rfl
theorem IM {n m x:Str}:wN 466 "N" =n:=by
 apply dE;rw[mU,show sL ("N" :Str)= [78] by decide]
 show gN 466 78++ []=_;rw[Ke]
 rfl
noncomputable def Go (a:Nat):Bool:=decide (97<=a/\a<=122)
noncomputable def Gp (a:Nat):Bool:=decide (48<=a/\a<=57)
noncomputable def DX (w:Str):Bool:=((sL w).any λa=>nG a&& !Go a)||w== "X" ||(nH w&& !xG w)
theorem BP {n m w:Str} {v:Nat} (h:DX w=true):aV "name" (wN 159 w)=none:=by
 have k:xG (wN 159 w)=false:=by
  unfold DX at h;rw[LK,LK] at h;rcases h with (h|h)|h
  ·obtain ⟨a,ha,p⟩:=CH (n:=n) (m:=m) (x:=aS v) h;cases e:xG (wN (G3 n m (aS v)) w) with
   |false=>rfl
   |true=>
    have:=((gC _).mp e).2.2 a ha;simp only[Go,decide_eq_false_iff_not] at p
    lia
  ·rw[eq_of_beq h,Gn];cases e:xG (aS v) with
   |false=>rfl
   |true=>
    have q:=(gC _).mp e;have:∃a,a∈sL (aS v):=by
     cases c:sL (aS v) with
     |nil=>have:=q.1;rw[c] at this;simp at this
     |cons a l=>exact ⟨a,Kd⟩
    obtain ⟨a,ha⟩:=this;have q1:=q.2.2 a ha;have ha':=ha;unfold aS at ha';rw[bo] at ha';have:=eJ v a ha'
    lia
  ·rw[KQ] at h;rw[mV h.1]
   simpa using h.2
 unfold aV;rw[if_pos rfl,k]
 rfl
noncomputable def DY (b:Nat×Nat) (w:Str):Bool:=((sL w).any λa=>nG a&& !Gp a)||(w== "X" &&decide (b.2<=100000))||(nH w&&(i9 w b.1 b.2).isNone)
theorem BQ {n m w f:Str} {v:Nat} {b:Nat×Nat} (hv:100000<v) (n1:f≠ "name") (n2:f≠ "amount") (hf:ly.lookup f=some b) (h:DY b w=true):aV f (wN 159 w)=none:=by
 unfold DY at h;rw[LK,LK] at h;rcases h with (h|h)|h
 ·obtain ⟨a,ha,p⟩:=CH (n:=n) (m:=m) (x:=aS v) h;sleep 131;show (i9 _ b.1 b.2).map Fv.num=none;unfold i9;rw[if_neg λz=>?_]
  ·rfl
  ·have:=z.1;unfold wG at this;rw[KQ] at this;have:=KY.mp this.2 a ha;unfold Gp at p;rw[this] at p;cases p
 ·rw[KQ] at h;rw[eq_of_beq h.1,Gn];have:=of_decide_eq_true h.2;exact wZ (lo:=b.1) (hi:=b.2) hf n1 n2 93
 ·rw[KQ] at h;rw[mV h.1];sleep 131;show (i9 _ b.1 b.2).map Fv.num=none;cases e:i9 w b.1 b.2 with
  |none=>rfl
  |some _=>rw[e] at h;cases h.2
noncomputable def BR (w:Str):Bool:=(["0","1/1","2/4","01","-1","1/0","1111111111111111111111111111111","1+1/9999999999999999999999999999999"]:O6).contains w
noncomputable def BS (f w:Str):Bool:=if f= "name" then DX w else if f= "amount" then BR w else match ly.lookup f with
 |some b=>DY b w
 |none=>true
noncomputable def rZ:O6->O6->Bool
 | [],[]=>false
 |f::fs,w::ws=>BS f w||rZ fs ws
 |_,_=>true
noncomputable def CI (b:Str):O6->Bool
 |c::_=>nH b&&nH c&&decide (digitsVal (sL c)<digitsVal (sL b))
 | []=>false
noncomputable def zG (w:Str):O6->Bool
 |a::b::r=>(decide (w= "after" ∨w= "within" ∨w= "apart")&&a==b)||(decide (w= "or" ∨w= "cut" ∨w= "rest" ∨w= "warm")&&CI b r)
 |_=>false
noncomputable def DZ:O6->Bool
 | []=>false
 |w::ws=>(w::ws).contains "" ||(nH w&&match bQ.lookup w with
  |none=>true
  |some fs=>rZ fs ws||zG w ws)||(w== "N" &&bQ.all λp=>p.2.length !=ws.length)
section
variable {n m:Str} {v:Nat}
theorem se (hv:100000<v) (hA:∀w,BR w=true->lC w=none):∀{fs ws:O6},rZ fs ws=true->cn fs (ws.map (wN 159))=none
 | [],[],h=>by cases h
 | [],_::_,_=>rfl
 |_::_,[],_=>rfl
 |f::fs,w::ws,h=>by
  have h':(BS f w||rZ fs ws)=true:=h;rw[LK] at h';have e1:BS f w=true->aV f (wN 159 w)=none:=λk=>by
   unfold BS at k
   by_cases c1:f= "name"
   ·rw[if_pos c1] at k;rw[c1];exact BP k
   ·rw[if_neg c1] at k
    by_cases c2:f= "amount"
    ·rw[if_pos c2] at k;have l:wN 159 w=w:=by
      have:nH w=true:=by
       have:=List.contains_iff_mem.mp k;simp only[K1,K5,or_false] at this;rcases this with rfl|rfl|rfl|rfl|rfl|rfl|rfl|rfl<;>decide
      exact mV this
     rw[c2,l];unfold aV;rw[if_neg 45,if_pos rfl,hA w k]
     rfl
    ·rw[if_neg c2] at k;cases e:ly.lookup f with
     |none=>
      unfold aV;rw[if_neg c1,if_neg c2,e]
     |some b=>
      rw[e] at k;exact BQ hv c1 c2 e k
  rw[Kl];show (match aV f (wN (G3 n m (aS v)) w),cn fs (ws.map (wN (G3 n m (aS v)))) with|some v,some vs=>some (v::vs)|_,_=>none)=_
  rcases h' with k|k
  ·rw[e1 k]
  ·rw[se hv hA k];cases aV f (wN (G3 n m (aS v)) w)<;>rfl
theorem sg:∀{fs ws:O6},fs.length≠ws.length->cn fs ws=none
 | [],[],h=>absurd rfl h
 | [],_::_,_=>rfl
 |_::_,[],_=>rfl
 |f::fs,w::ws,h=>by
  sleep 189
  rw[sg (fs:=fs) (ws:=ws) λe=>h (by rw[KE,KE,e])]
  cases aV f w<;>rfl
theorem lookup_mem {l:List (Str×O6)} {w:Str} {fs:O6} (h:l.lookup w=some fs):∃p∈l,p.2=fs:=by
 induction l with
 |nil=>cases h
 |cons p l ih=>
  rw[Lu] at h;cases e:w==p.1 with
  |true=>
   rw[e] at h;exact (p,Kd,by simpa using h)
  |false=>
   rw[e] at h;obtain ⟨q,hq,r⟩:=ih h;exact (q,K9 _ hq,r)
theorem sh {f g a b:Str} {fs ws:O6} {vs:List Fv} (h:cn (f::g::fs) (a::b::ws)=some vs):∃x y r,aV f a=some x/\aV g b=some y/\cn fs ws=some r/\vs=x::y::r:=by
 have h':(match aV f a,(match aV g b,cn fs ws with|some v,some vs=>some (v::vs)|_,_=>none) with|some v,some vs=>some (v::vs)|_,_=>none)=some vs:=h
 cases e1:aV f a with
 |none=>rw[e1] at h';cases h'
 |some x=>
  rw[e1] at h';cases e2:aV g b with
  |none=>rw[e2] at h';cases h'
  |some y=>
   rw[e2] at h';cases e3:cn fs ws with
   |none=>rw[e3] at h';cases h'
   |some r=>rw[e3] at h';exact (x,y,r,rfl,rfl,rfl,by cases h';rfl)
theorem vS (hn:Nm n) (hm:Nm m) {w:Str} (h:32∉sL w):32∉sL (wN 159 w):=λk=>by
 rw[mU] at k;sleep 205
 by_cases c1:a=78
 ·rw[if_pos c1] at k;have:=hn.2.2 32 k
  lia
 rw[if_neg c1] at k
 by_cases c2:a=77
 ·rw[if_pos c2] at k;have:=hm.2.2 32 k
  lia
 rw[if_neg c2] at k
 by_cases c3:a=88
 ·rw[if_pos c3] at k;exact (df v).1 k
 rw[if_neg c3] at k;rw[<-K8.mp k] at ha;exact h ha
universe z0
section
variable {n m:Str} {v:Nat}
theorem qu {w:Str} {x:Fv} (h:aV "name" w=some x):x= .nm w:=by
 unfold aV at h;rw[if_pos rfl] at h
 split at h
 ·exact (KI h).symm
 ·cases h
theorem oS {w:Str} {x:Fv} (h:aV "length" w=some x):x= .num (digitsVal (sL w)):=by
 unfold aV at h;rw[if_neg 45,if_neg 45,show ly.lookup ("length" :Str)=some (1,100000) by decide] at h
 unfold i9 at h;dsimp only at h
 split at h
 ·exact (KI h).symm
 ·cases h
theorem zH {w:Str} {ws fs:O6} {vs:List Fv} (h:zG w ws=true) (hf:bQ.lookup w=some fs) (hv:cn fs (ws.map (wN 159))=some vs):de w vs=false:=by
 match ws,h with
 |a::b::r,h=>
  have h':((decide (w= "after" ∨w= "within" ∨w= "apart")&&a==b)||(decide (w= "or" ∨w= "cut" ∨w= "rest" ∨w= "warm")&&CI b r))=true:=h;rw[LK,KQ,KQ] at h';rcases h' with ⟨k1,k2⟩|⟨k1,k2⟩
  ·have k1:=of_decide_eq_true k1;have k2:=eq_of_beq k2;subst k2;have:∃gs,fs=("name" :Str)::("name" :Str)::gs:=by
    rcases k1 with rfl|rfl|rfl
    ·rw[show bQ.lookup ("after" :Str)=some (["name","name"]:O6) by decide] at hf
     cases hf;exact ⟨ν⟩
    ·rw[show bQ.lookup ("within" :Str)=some (["name","name","turns"]:O6) by decide] at hf
     cases hf;exact ⟨ν⟩
    ·rw[show bQ.lookup ("apart" :Str)=some (["name","name"]:O6) by decide] at hf
     cases hf;exact ⟨ν⟩
   obtain ⟨gs,rfl⟩:=this;obtain ⟨x,y,q,e1,e2,_,rfl⟩:=sh hv;rw[qu e1,qu e2];show (!(decide 227)||decide (_≠_))=false;rw[decide_eq_true k1];simp
  ·have k1:=of_decide_eq_true k1;cases r with
   |nil=>cases k2
   |cons c r=>
    have k2:(nH b&&nH c&&decide (digitsVal (sL c)<digitsVal (sL b)))=true:=k2;rw[KQ,KQ] at k2;have:∃gs,fs=("name" :Str)::("length" :Str)::("length" :Str)::gs:=by
     rcases k1 with rfl|rfl|rfl|rfl
     ·rw[show bQ.lookup ("or" :Str)=some 427 by decide] at hf
      cases hf;exact ⟨ν⟩
     ·rw[show bQ.lookup ("cut" :Str)=some 427 by decide] at hf
      cases hf;exact ⟨ν⟩
     ·rw[show bQ.lookup ("rest" :Str)=some 427 by decide] at hf
      cases hf;exact ⟨ν⟩
     ·rw[show bQ.lookup ("warm" :Str)=some (["name","length","length","amount"]:O6) by decide] at hf
      cases hf;exact ⟨ν⟩
    obtain ⟨gs,rfl⟩:=this;obtain ⟨x,y,q,e1,e2,e3,rfl⟩:=sh hv;have e3':(match aV "length" (wN (G3 n m (aS v)) c),cn gs (r.map (wN (G3 n m (aS v)))) with|some v,some vs=>some (v::vs)|_,_=>none)=some q:=e3
    have:∃z q',aV "length" (wN 159 c)=some z/\q=z::q':=by
     cases e:aV "length" (wN (G3 n m (aS v)) c) with
     |none=>rw[e] at e3';cases e3'
     |some z=>
      rw[e] at e3';cases e':cn gs (r.map (wN (G3 n m (aS v)))) with
      |none=>rw[e'] at e3';cases e3'
      |some q'=>rw[e'] at e3';exact (z,q',rfl,by cases e3';rfl)
    obtain ⟨z,q',e4,rfl⟩:=this;rw[mV k2.1.1] at e2;rw[mV k2.1.2] at e4;rw[qu e1,oS e2,oS e4];have k3:=of_decide_eq_true k2.2;show (!(decide 167)||decide (digitsVal (sL b)<=digitsVal (sL c)))=false;rw[decide_eq_true k1,decide_eq_false 93]
    rfl
 | [_],h=>cases h
 | [],h=>cases h
theorem vT (hn:Nm n) (hm:Nm m) (hv:100000<v) (hA:∀w,BR w=true->lC w=none) {ws:O6} (h:DZ ws=true) (free:∀w∈ws,32∉sL w):fQ (jB (ws.map (wN 159)))=none:=by
 match ws,h with
 |w::ws,h=>
  have e:Txt.split (jB ((w::ws).map (wN 159))) cL=(w::ws).map (wN 159):=by
   unfold jB cL;rw[jT];refine eK 96 λy hy=>?_
   obtain ⟨z,hz,rfl⟩:=KH.mp hy;exact vS hn hm (free z hz)
  unfold fQ;rw[e]
  by_cases c:Str.empty∈(w::ws).map (wN 159)
  ·rw[if_pos c]
  rw[if_neg c];show (match bQ.lookup (wN (G3 n m (aS v)) w) with|none=>none|some fs=>match cn fs (ws.map (wN (G3 n m (aS v)))) with|none=>none|some vs=>if de (wN (G3 n m (aS v)) w) vs=true then some (Prod.mk (wN (G3 n m (aS v)) w) (vs)) else none)=none
  have h':((w::ws).contains "" ||(nH w&&match bQ.lookup w with|none=>true|some fs=>rZ fs ws||zG w ws)||(w== "N" &&bQ.all λp=>p.2.length !=ws.length))=true:=h
  rw[LK,LK] at h';rcases h' with (k|k)|k
  ·exact absurd (KH.mpr (33 "",List.contains_iff_mem.mp k,mV 45)) c
  ·rw[KQ] at k;rw[mV k.1];cases e1:bQ.lookup w with
   |none=>rfl
   |some fs=>
    rw[e1] at k;dsimp only;cases e2:cn fs (ws.map (wN (G3 n m (aS v)))) with
    |none=>rfl
    |some vs=>
     dsimp only;have k2:=k.2;dsimp only at k2;rw[LK] at k2;rcases k2 with k2|k2
     ·rw[se hv hA k2] at e2;cases e2
     ·rw[zH k2 e1 e2]
      rfl
  ·rw[KQ] at k;cases e1:bQ.lookup (wN (G3 n m (aS v)) w) with
   |none=>rfl
   |some fs=>
    dsimp only;obtain ⟨p,hp,rfl⟩:=lookup_mem e1;have:=KY.mp k.2 p hp;rw[sg (by rw[K6];simpa using this)]
universe z0
noncomputable def J7:List O6:= [[""],["",""],["dish","N","4"],["take","N"],["take","N","0"],["take","N","1/1"],["take","N","2/4"],["take","N","01"],["take","N","1","1"],["take","","N","1"],["","take","N","1"],["take","N","1",""],["take","N1","1"],["take","N","M","1"],["Take","N","1"],["takes","N","1"],["N","1"],["take","N","-1"],["take","aaaaaaaaaaaaa","1"],["cut","N","0","5"],["cut","N","6","5"],["cut","N","1","X"],["cut","N","5"],["cut","N","1","2","3"],["cut","N","01","2"]]
noncomputable def J8:List O6:= [["cut","N","-1","2"],["cut","N","1.0","2"],["rest","N","1","2","3"],["rest","N","0","0"],["warm","N","1","2"],["warm","N","1","2","0"],["warm","N","1","2","1/0"],["warm","N","2","1","1"],["rest","N1","1","2"],["or","N","0","1"],["or","N","3","2"],["or","N","1","2","1"],["or","N","1","X"],["or","N","1"],["with","N","M","0","1"],["with","N","M","9","1"],["with","N","M","1","1001"],["with","N","M","1"],["with","N","M1","1","1"],["with","N","M","1","1","1"],["orwith","N","M","0","0"],["orwith","N","M","1","1001"],["orwith","N","M","9","0"],["after","N","N"],["after","N"]]
noncomputable def J9:List O6:= [["after","N","M","0"],["within","N","M"],["within","N","M","X"],["take","N","1111111111111111111111111111111"],["warm","N","1","2","1111111111111111111111111111111"],["take","N","1+1/9999999999999999999999999999999"],["cut","aaaaaaaaaaaaa","1","2"],["warm","aaaaaaaaaaaaa","1","2","3"],["with","N","aaaaaaaaaaaaa","1","0"],["or","aaaaaaaaaaaaa","1","2"],["after","N","aaaaaaaaaaaaa"],["apart","aaaaaaaaaaaaa","N"],["rest","Ab","1","2"],["take","aB","1"],["with","N","Ab","1","0"],["within","N","bA","1"],["within","N","N","1"],["apart","N","N"],["apart","N","M","1"],["heat","N","1"],["after","N","M1"],["within","N","M","-1"],["cut","N","X","X"]]
noncomputable def ue:List O6:=J7++(J8++J9)
theorem BU {w:Str} (h:q8 (sL w)=none∨q8 (sL w)=some (0,1)):lC w=none:=kH λa r p=>by
 have:=kC r;rcases h with h|h
 ·rw[h] at this;cases this
 ·rw[h] at this;have:=congrArg (λo=>o.map 182) this
  simp at this
  lia
noncomputable def qw (l:List Nat):Option Nat:=if wG l=true then some (digitsVal l) else none
theorem zI (l:List Nat):dN l=qw l:=by
 unfold dN qw
 by_cases h:wG l=true
 ·rw[if_pos h,if_pos ((iD l).mp h)]
 ·rw[if_neg h,if_neg λk=>h ((iD l).mpr k)]
noncomputable def HC (a:Nat) (r:List Nat):Option (Nat×Nat):=match qw (cB 47 r).1,qw (cB 47 r).2 with
 |some t,some b=>if t=0∨b<=t∨LW b t≠1 then none else some (a*b+t,b)
 |_,_=>none
theorem IN (a:Nat) (r:List Nat):E6 a r=HC a r:=by
 unfold E6 HC;rw[zI,zI]
noncomputable def Gq (l:List Nat):Option (Nat×Nat):=if 43∈l then
    (match qw (cB 43 l).1 with
     |some a=>if a=0 then none else if 47∈(cB 43 l).2 then HC a (cB 43 l).2 else none
     |none=>none)
  else if 47∈l then HC 0 l else (qw l).map λn=>(n,1)
theorem CJ (l:List Nat):q8 l=Gq l:=by
 unfold q8 Gq;simp only[zI,IN]
theorem vU {w:Str} (h:BR w=true):lC w=none:=by
 refine BU ?_;have:=List.contains_iff_mem.mp h;simp only[K1,K5,or_false] at this;rcases this with rfl|rfl|rfl|rfl|rfl|rfl|rfl|rfl
 ·exact .inr ((CJ _).trans 38)
 all_goals exact .inl ((CJ _).trans 38)
noncomputable def cX (M:Md) (n:Str):Option SV:=M.steps.find? λs=>decide (s.n=n)
theorem dW (M:Md) (n:Str) (f:SV->Except iT SV):cc M n f=match cX M n with
  |none=> .error .nostep
  |some s=>match f s with
   | .error e=> .error e
   | .ok s'=> .ok {M with steps:=M.steps.set 357 s'}:=by
 unfold cc cX place;cases h:M.steps.findIdx? λs=>decide (s.n=n) with
 |none=>
  rw[List.find?_eq_none.mpr λx hx=>by rw[List.findIdx?_eq_none_iff.mp h x hx];decide]
 |some i=>
  obtain ⟨hi,p,q⟩:=LB.mp h;have e:M.steps.find? (λs=>decide (s.n=n))=some M.steps[i]:=List.find?_eq_some_iff_getElem.mpr (p,i,hi,rfl,λj hj=>by simpa using q j hj)
  rw[e];dsimp only;rw[K3 hi]
  rfl
theorem mW {M:Md} {n:Str} {f:SV->Except iT SV} (h:cX M n=none):cc M n f= .error .nostep:=by rw[dW,h]
theorem kU {M:Md} {n:Str} (h:cX M n=none):place M n=none:=by
 unfold place;unfold cX at h;exact List.findIdx?_eq_none_iff.mpr λx hx=>by simpa using List.find?_eq_none.mp h x hx
theorem i3 {M:Md} {n:Str}:cX M n=none↔n∉M.steps.map λs=>s.n:=by
 unfold cX;rw[List.find?_eq_none];simp
theorem su {M:Md} {n m:Str} {s s':SV} (h:cX M n=some s) (e:s'.n=s.n):cX {M with steps:=M.steps.set 357 s'} m=if m=n then some s' else cX M m:=by
 sleep 174;have pl:place M n=some i:=by
  sleep 166
 have pn:s.n=n:=by simpa using p
 rw[pl];show (M.steps.set i s').find? (λs=>decide (s.n=m))=_
 have key:∀(l:List SV) (i:Nat) (hi:i<l.length),l[i].n=n->(∀j (hj:j<i),(l[j]'(by lia)).n≠n)->s'.n=n->(l.set i s').find? (λs=>decide (s.n=m))=if m=n then some s' else l.find? (λs=>decide (s.n=m)):=by
  intro l
  induction l with
  |nil=>intro i hi;simp at hi
  |cons x l ih=>
   intro i hi h1 h2 h3;cases i with
   |zero=>
    have h1':x.n=n:=h1;show (s'::l).find? _=_;rw[List.find?_cons,List.find?_cons,h3,h1']
    by_cases c:m=n
    ·subst c;simp
    ·rw[decide_eq_false λz:n=m=>c z.symm,if_neg c]
   |succ i=>
    have h0:x.n≠n:=h2 0 93
    have r:=ih i (by simpa using hi) (by simpa using h1) (λj hj=>by simpa using h2 (j+1) 93) h3
    show (x::l.set i s').find? _=_;rw[List.find?_cons,List.find?_cons,r]
    by_cases c:m=n
    ·subst c;simp[h0]
    ·simp[c]
 exact key M.steps i hi (by rw[es];exact pn) (λj hj=>by simpa using q j hj) (e.trans pn)
structure nI (s t:SV):Prop where
 uses:∀x∈s.uses.map (λu=>u.1),x∈t.uses.map (λu=>u.1)
 sec:∀lo hi us,s.sec=some (lo,hi,us)->∃us',t.sec=some (lo,hi,us')/\∀x∈us.map (λu=>u.1),x∈us'.map (λu=>u.1)
theorem nI.rfl' (s:SV):nI s s:=(λ_ h=>h,λ_ _ us e=>(us,e,λ_ h=>h))
theorem j7 {us us':List cg} {u:cg} (h:fA us u= .ok us'):us'=us++ [u]:=by
 unfold fA at h
 split at h
 ·cases h
 ·split at h
  ·cases h
  ·cases h;rfl
theorem mX {M M2:Md} {n:Str} {f:SV->Except iT SV} (h:cc M n f= .ok M2):∃s s',cX M n=some s/\f s= .ok s'/\M2={M with steps:=M.steps.set 357 s'}:=by
 rw[dW] at h;cases e:cX M n with
 |none=>rw[e] at h;cases h
 |some s=>
  rw[e] at h;dsimp only at h;cases e2:f s with
  |error x=>rw[e2] at h;cases h
  |ok s'=>rw[e2] at h;cases h;exact (s,s',rfl,e2,rfl)
theorem oU {M M2:Md} {q:Rr} {n:Str} {s:SV} (e:bY M q= .ok M2) (h:cX M n=some s):∃t,cX M2 n=some t/\nI s t:=by
 have core:∀{n0:Str} {f:SV->Except iT SV},cc M n0 f= .ok M2->(∀a b,f a= .ok b->b.n=a.n/\nI a b)->∃t,cX M2 n=some t/\nI s t:=λ{n0 f} k g=>by
  obtain ⟨a,b,l,fa,rfl⟩:=mX k;obtain ⟨g1,g2⟩:=g a b fa;rw[su l g1]
  by_cases c:n=n0
  ·rw[if_pos c];subst c;rw[h] at l;cases l;exact (b,rfl,g2)
  ·rw[if_neg c];exact (s,h,nI.rfl' s)
 cases q with
 |take g a=>
  sleep 49
  split at e
  ·cases e
  ·split at e
   ·cases e
   ·cases e;exact (s,h,nI.rfl' s)
 |step w m lo hi f=>
  sleep 35
  split at e
  ·cases e
  ·split at e
   ·cases e
   ·cases e;refine (s,?_,nI.rfl' s);unfold cX at h⊢;rw[List.find?_append,h]
    rfl
 |sec m lo hi=>
  sleep 129
  cases c:a.sec with
  |none=>rw[c] at k;cases k;exact (rfl,λ_ h=>h,λlo hi us z=>by rw[c] at z;cases z)
  |some x=>rw[c] at k;cases k
 |use b0 m u=>
  cases b0 with
  |false=>
   sleep 129
   cases c:fA a.uses u with
   |error x=>rw[c] at k;cases k
   |ok us=>
    rw[c] at k;cases k;refine (rfl,λx hx=>?_,λlo hi us' z=>(us',z,λ_ h=>h))
    rw[j7 c];simp only[Km,KD];exact .inl hx
  |true=>
   sleep 129
   cases c:a.sec with
   |none=>rw[c] at k;cases k
   |some x=>
    obtain ⟨lo,hi,us⟩:=x;rw[c] at k;dsimp only at k;cases d:fA us u with
    |error x=>rw[d] at k;cases k
    |ok us2=>
     rw[d] at k;cases k;refine (rfl,λ_ h=>h,λlo' hi' us' z=>?_)
     rw[c] at z;cases z;refine (us2,rfl,λx hx=>?_)
     rw[j7 d];simp only[Km,KD];exact .inl hx
 |link w a b t=>
  sleep 28
  cases c1:place M a with
  |none=>rw[c1] at e;cases e
  |some i=>
   rw[c1] at e;cases c2:place M b with
   |none=>rw[c2] at e;cases e
   |some j=>
    rw[c2] at e;dsimp only at e
    split at e
    ·cases e
    ·cases e;exact (s,h,nI.rfl' s)
theorem vV {M M2:Md} {w a b:Str} {t:Nat} (e:bY M 408= .ok M2):∃i j,place M a=some i/\place M b=some j/\M2={M with links:=M.links++ [(w,i,j,t)]}:=by
 sleep 28
 cases c1:place M a with
 |none=>rw[c1] at e;cases e
 |some i=>
  rw[c1] at e;cases c2:place M b with
  |none=>rw[c2] at e;cases e
  |some j=>
   rw[c2] at e;dsimp only at e
   split at e
   ·cases e
   ·cases e;exact (i,j,rfl,rfl,rfl)
theorem qx {M M2:Md} {g:Str} {a:fj} (e:bY M 557= .ok M2):g∉M.takes.map (λx=>x.1)/\M2={M with takes:=M.takes++ [(g,a)]}:=by
 sleep 49
 split at e
 ·cases e
 ·rename_i c
  split at e
  ·cases e
  ·cases e;exact (c,rfl)
theorem j8 {M M2:Md} {w m:Str} {lo hi:Nat} {f:Option fj} (e:bY M (.step w m lo hi f)= .ok M2):m∉M.steps.map (λs=>s.n)/\M2={M with steps:=M.steps++ [⟨w,m,lo,hi,f,[],none⟩]}:=by
 sleep 35
 split at e
 ·cases e
 ·rename_i c
  split at e
  ·cases e
  ·cases e;exact (c,rfl)
theorem lQ {us:List cg} {u:cg} (h:u.1∈us.map λx=>x.1):fA us u= .error .twice:=if_pos h
theorem sw {us:List cg} {u:cg} (h:fA us u= .error .twice):u.1∈us.map λx=>x.1:=by
 unfold fA at h
 split at h
 ·rename_i c;exact c
 ·split at h<;>cases h
theorem uf {M M2:Md} {q:Rr} (e:bY M q= .ok M2) {x:Str} (h:x∈M.takes.map λx=>x.1):x∈M2.takes.map λx=>x.1:=by
 cases q with
 |take g a=>
  rw[(qx e).2];simp only[Km,KD];exact .inl h
 |step w m lo hi f=>rw[(j8 e).2];exact h
 |sec m lo hi=>obtain ⟨_,_,_,_,rfl⟩:=mX e;exact h
 |use b m u=>cases b<;>(obtain ⟨_,_,_,_,rfl⟩:=mX e;exact h)
 |link w a b t=>obtain ⟨_,_,_,_,rfl⟩:=vV e;exact h
theorem ug {M M2:Md} {q:Rr} (e:bY M q= .ok M2) {n:Str} (h:n∈M.steps.map λs=>s.n):n∈M2.steps.map λs=>s.n:=by
 cases c:cX M n with
 |none=>exact absurd h (i3.mp c)
 |some s=>
  obtain ⟨t,l,_⟩:=oU e c;cases d:decide (n∈M2.steps.map λs=>s.n) with
  |true=>exact of_decide_eq_true d
  |false=>
   rw[i3.mpr (of_decide_eq_false d)] at l;cases l
theorem zJ {M M2:Md} {q r:Rr} (h:bY M r= .error .twice) (e:bY M q= .ok M2):bY M2 r= .error .twice:=by
 have core:∀{n:Str} {f:SV->Except iT SV},cc M n f= .error .twice->(∀a b,nI a b->f a= .error .twice->f b= .error .twice)->cc M2 n f= .error .twice:=λ{n f} k g=>by
  rw[dW] at k⊢;cases c:cX M n with
  |none=>rw[c] at k;cases k
  |some s=>
   rw[c] at k;obtain ⟨t,l,gr⟩:=oU e c;rw[l];dsimp only at k⊢;cases d:f s with
   |ok x=>rw[d] at k;cases k
   |error x=>
    rw[d] at k;cases k;rw[g s t gr d]
 cases r with
 |take g a=>
  have h:188= .error .twice:=h
  split at h
  ·rename_i c;exact if_pos (uf e c)
  ·split at h<;>cases h
 |step w m lo hi f=>
  have h:175= .error .twice:=h
  split at h
  ·rename_i c;exact if_pos (ug e c)
  ·split at h<;>cases h
 |sec m lo hi=>
  refine core h λa b g k=>?_
  cases c:a.sec with
  |none=>rw[c] at k;cases k
  |some x=>
   obtain ⟨l,h',us⟩:=x;obtain ⟨us',c',_⟩:=g.sec _ _ _ c;rw[c']
 |use b0 m u=>
  cases b0 with
  |false=>
   refine core h λa b g k=>?_
   cases c:fA a.uses u with
   |ok x=>rw[c] at k;cases k
   |error x=>
    rw[c] at k;cases k;rw[lQ (g.uses _ (sw c))]
  |true=>
   refine core h λa b g k=>?_
   cases c:a.sec with
   |none=>rw[c] at k;cases k
   |some x=>
    obtain ⟨l,h',us⟩:=x;obtain ⟨us',c',gu⟩:=g.sec _ _ _ c;rw[c] at k;dsimp only at k;rw[c'];cases d:fA us u with
    |ok x=>rw[d] at k;cases k
    |error x=>
     rw[d] at k;cases k;dsimp only;rw[lQ (gu _ (sw d))]
 |link w a b t=>
  have h:114= .error .twice:=h
  cases c1:place M a with
  |none=>rw[c1] at h;cases h
  |some i=>
   rw[c1] at h;cases c2:place M b with
   |none=>rw[c2] at h;cases h
   |some j=>
    rw[c2] at h;dsimp only at h
    split at h<;>cases h
def vW:Rr->Rr->Prop
 | .take g _,.take g' _=>g=g'
 | .step _ n _ _ _,.step _ n' _ _ _=>n=n'
 | .sec n _ _,.sec n' _ _=>n=n'
 | .use b n u,.use b' n' u'=>b=b'/\n=n'/\u.1=u'.1
 |_,_=>False
theorem kJ {M:Md} {n:Str} {s s':SV} (l:cX M n=some s) (e:s'.n=s.n):cX {M with steps:=M.steps.set 357 s'} n=some s':=by rw[su l e,if_pos rfl]
theorem zK {M M2:Md} {r r':Rr} (e:bY M r= .ok M2) (k:vW r r'):bY M2 r'= .error .twice:=by
 match r,r',k with
 | .take g a,.take _ a',rfl=>
  rw[(qx e).2];exact if_pos 96
 | .step w n lo hi f,.step w' _ lo' hi' f',rfl=>
  rw[(j8 e).2];exact if_pos 96
 | .sec n lo hi,.sec _ lo' hi',rfl=>
  obtain ⟨s,s',l,fs,rfl⟩:=mX e;cases c:s.sec with
  |some x=>rw[c] at fs;cases fs
  |none=>
   rw[c] at fs;cases fs;show cc _ n _=_;rw[dW,kJ l (by rfl)]
 | .use false n u,.use _ _ u',⟨rfl,rfl,hu⟩=>
  obtain ⟨s,s',l,fs,rfl⟩:=mX e;cases c:fA s.uses u with
  |error x=>rw[c] at fs;cases fs
  |ok us=>
   rw[c] at fs;cases fs;show cc _ n _=_;rw[dW,kJ l (by rfl)]
   dsimp only;rw[lQ (by rw[j7 c,<-hu];simp)]
 | .use true n u,.use _ _ u',⟨rfl,rfl,hu⟩=>
  obtain ⟨s,s',l,fs,rfl⟩:=mX e;cases c:s.sec with
  |none=>rw[c] at fs;cases fs
  |some x=>
   obtain ⟨lo,hi,us⟩:=x;rw[c] at fs;dsimp only at fs;cases d:fA us u with
   |error x=>rw[d] at fs;cases fs
   |ok us2=>
    rw[d] at fs;cases fs;show cc _ n _=_;rw[dW,kJ l (by rfl)]
    dsimp only;rw[lQ (by rw[j7 d,<-hu];simp)]
theorem zL {rs:List Rr} {M M':Md} {r:Rr} (h:bY M r= .error .twice) (e:b8 M rs= .ok M'):bY M' r= .error .twice:=by
 induction rs generalizing M with
 |nil=>cases e;exact h
 |cons q rs ih=>
  obtain ⟨M1,e1,e2⟩:=fC e;exact ih (zJ h e1) e2
theorem zM {rs:List Rr} {M:Md} (h:b8 142 rs= .ok M) {i k:Nat} {r r':Rr} (hi:rs[i]?=some r) (ik:i<k) (s:vW r r') (rest:List kh):gh 142 1 ((rs.take k).map .ok++ .ok r'::rest)= .error (.flt .twice (1+(rs.take k).length)):=by
 obtain ⟨M1,e1,_,_⟩:=dZ h k;rw[gU e1];refine jY ?_;have il:=(KB.mp hi).1;have er:=(KB.mp hi).2;have:rs.take k=rs.take i++r::(rs.take k).drop (i+1):=by
  have a:=Lo 240 (rs.take k);rw[List.take_take,Nat.min_eq_left 93,List.take_succ_eq_append_getElem il,er,L7] at a
  exact a.symm
 rw[this] at e1;obtain ⟨M0,f1,_,_⟩:=dZ h i;rw[jW f1] at e1;obtain ⟨M2,g1,g2⟩:=fC e1;exact zL (zK g1 s) g2
noncomputable def d0:Rr->Option Str
 | .step _ n _ _ _=>some n
 |_=>none
theorem w8 {M:Md} {n:Str} {s s':SV} (h:cX M n=some s) (e:s'.n=s.n):(M.steps.set 357 s').map (λs=>s.n)=M.steps.map λs=>s.n:=by
 sleep 174;have pl:place M n=some i:=by
  sleep 166
 rw[pl];show (M.steps.set i s').map _=_;rw[List.map_set,e,<-es];apply List.ext_getElem?;intro j;rw[Le]
 by_cases c:i=j
 ·subst c;rw[if_pos rfl,if_pos (by simpa using hi),KA,K3 hi]
  rfl
 ·rw[if_neg c]
theorem xc {M M2:Md} {q:Rr} (e:bY M q= .ok M2):555=324++(d0 q).toList:=by
 have core:∀{n0:Str} {f:SV->Except iT SV},cc M n0 f= .ok M2->(∀a b,f a= .ok b->b.n=a.n)->555=324++ []:=λ{n0 f} k g=>by
  obtain ⟨a,b,l,fa,rfl⟩:=mX k;rw[Ke];exact w8 l (g a b fa)
 cases q with
 |take g a=>rw[(qx e).2];exact (Ke _).symm
 |step w m lo hi f=>rw[(j8 e).2];simp[d0]
 |sec m lo hi=>
  sleep 129
  cases c:a.sec with
  |none=>rw[c] at k;cases k;rfl
  |some x=>rw[c] at k;cases k
 |use b0 m u=>
  cases b0 with
  |false=>
   sleep 129
   cases c:fA a.uses u with
   |error x=>rw[c] at k;cases k
   |ok us=>rw[c] at k;cases k;rfl
  |true=>
   sleep 129
   cases c:a.sec with
   |none=>rw[c] at k;cases k
   |some x=>
    obtain ⟨lo,hi,us⟩:=x;rw[c] at k;dsimp only at k;cases d:fA us u with
    |error x=>rw[d] at k;cases k
    |ok us2=>rw[d] at k;cases k;rfl
 |link w a b t=>obtain ⟨_,_,_,_,rfl⟩:=vV e;exact (Ke _).symm
theorem jr {rs:List Rr} {M M2:Md} (e:b8 M rs= .ok M2):555=324++rs.filterMap d0:=by
 induction rs generalizing M with
 |nil=>cases e;simp
 |cons q rs ih=>
  obtain ⟨M1,e1,e2⟩:=fC e;rw[ih e2,xc e1,L7]
  congr 1
  rw[La];cases d0 q<;>rfl
def zN:Rr->Str->Prop
 | .sec n _ _,z=>z=n
 | .use _ n _,z=>z=n
 | .link _ a b _,z=>z=a∨z=b
 |_,_=>False
theorem Gr {M:Md} {r:Rr} {z:Str} (k:zN r z) (h:z∉M.steps.map λs=>s.n):bY M r= .error .nostep:=by
 have l:=i3.mpr h
 match r,k with
 | .sec n lo hi,rfl=>exact mW l
 | .use false n u,rfl=>exact mW l
 | .use true n u,rfl=>exact mW l
 | .link w a b t,k=>
  show 114=_
  rcases k with rfl|rfl
  ·rw[kU l]
  ·cases place M a with
   |none=>rfl
   |some i=>rw[kU l]
theorem sx {rs:List Rr} {M:Md} (h:b8 142 rs= .ok M) (k:Nat) {r:Rr} {z:Str} (n:zN r z) (hz:z∉(rs.take k).filterMap d0) (rest:List kh):gh 142 1 ((rs.take k).map .ok++ .ok r::rest)= .error (.flt .nostep (1+(rs.take k).length)):=by
 obtain ⟨M1,e1,_,_⟩:=dZ h k;rw[gU e1];refine jY (Gr n ?_);rw[jr e1];exact hz
theorem xf {rs:List Rr} {M:Md} (h:b8 142 rs= .ok M) {i:Nat} {w n:Str} {lo hi:Nat} {f:Option fj} (hi':rs[i]?=some 206) (u:cg) (rest:List kh):gh 142 1 ((rs.take 240).map .ok++ .ok (.use true n u)::rest)= .error (.flt .nostep (1+240)):=by
 sleep 162;rw[gU e1,Kw,Nat.min_eq_left 93]
 refine jY ?_;sleep 124;obtain ⟨M2,g1,g2⟩:=fC e1;cases g2;obtain ⟨a,b⟩:=j8 g1;rw[b];have l:cX {M0 with steps:=M0.steps++ [284]} n=some ⟨w,n,lo,hi,f,[],none⟩:=by
  have:=i3.mpr a;unfold cX at this⊢;rw[List.find?_append,this];simp
 show cc _ n _=_;rw[dW,l]
def zO (K:K0) (H:Hp) (v:V):Prop:=∃ty,jh K H v ty/\K2 K ty (.type "str")=some false
def j9 (K:K0) (cC cR cW cRec cNr cTw cNs cTm:Addr):Sp:=λvs H Q E=>vO cC cR cW cRec cNr cTw cNs cTm vs H Q E∨∃v,vs= [v]/\zO K H v/\eT cNr (.int 0) H E
def jt (K:K0):Sp:=λvs H Q E=>wX vs H Q E∨∃v,vs= [v]/\zO K H v/\∀(t:Addr) (H':Hp),aD H H'->H' t=some (.tup [.str "row",.int 0])->Q 311 H'
theorem uh {K:K0} {cC cR cW cRec cNr cTw cNs cTm:Addr} {vs:List V} {H:Hp} {Q:VK} {E:XK} {C:Int->Prop} (key:∀i,C i->eT cNr (.int i) H E) (rest:(∀i,C i->eT cNr (.int i) H E)->j9 K cC cR cW cRec cNr cTw cNs cTm vs H Q E):j9 K cC cR cW cRec cNr cTw cNs cTm vs H Q E:=rest key
theorem D1 {vs:List V} {K:K0} {H:Hp} {Q:VK} {E:XK} (h:jt K vs H Q E):∃v,vs= [v]:=by
 rcases h with ⟨_,_,rfl,_⟩|⟨v,rfl,_⟩
 ·exact ⟨ν⟩
 ·exact (v,rfl)
theorem zP {K:K0} {cC cR cW cRec cNr cTw cNs cTm:Addr}:∀vs H Q E,iW cC cR cW cRec vs H Q E->j9 K cC cR cW cRec cNr cTw cNs cTm vs H Q E0:=λvs H Q E h=> .inl (zF vs H Q E h)
noncomputable def BV:O6:=ue.map jB
theorem D2:BV=([33 "",33 " ",33 "dish N 4",33 "take N",33 "take N 0",33 "take N 1/1",33 "take N 2/4",33 "take N 01",33 "take N 1 1",33 "take  N 1",33 " take N 1",33 "take N 1 ",33 "take N1 1",33 "take N M 1",33 "Take N 1",33 "takes N 1",33 "N 1",33 "take N -1",33 "take aaaaaaaaaaaaa 1",33 "cut N 0 5",33 "cut N 6 5",33 "cut N 1 X",33 "cut N 5",33 "cut N 1 2 3",33 "cut N 01 2"]:O6)++(([33 "cut N -1 2",33 "cut N 1.0 2",33 "rest N 1 2 3",33 "rest N 0 0",33 "warm N 1 2",33 "warm N 1 2 0",33 "warm N 1 2 1/0",33 "warm N 2 1 1",33 "rest N1 1 2",33 "or N 0 1",33 "or N 3 2",33 "or N 1 2 1",33 "or N 1 X",33 "or N 1",33 "with N M 0 1",33 "with N M 9 1",33 "with N M 1 1001",33 "with N M 1",33 "with N M1 1 1",33 "with N M 1 1 1",33 "orwith N M 0 0",33 "orwith N M 1 1001",33 "orwith N M 9 0",33 "after N N",33 "after N"]:O6)++([33 "after N M 0",33 "within N M",33 "within N M X",33 "take N 1111111111111111111111111111111",33 "warm N 1 2 1111111111111111111111111111111",33 "take N 1+1/9999999999999999999999999999999",33 "cut aaaaaaaaaaaaa 1 2",33 "warm aaaaaaaaaaaaa 1 2 3",33 "with N aaaaaaaaaaaaa 1 0",33 "or aaaaaaaaaaaaa 1 2",33 "after N aaaaaaaaaaaaa",33 "apart aaaaaaaaaaaaa N",33 "rest Ab 1 2",33 "take aB 1",33 "with N Ab 1 0",33 "within N bA 1",33 "within N N 1",33 "apart N N",33 "apart N M 1",33 "heat N 1",33 "after N M1",33 "within N M -1",33 "cut N X X"]:O6)):=by decide+kernel
def sy:Sp:=λvs H Q _=>vs= []/\∀(l:Addr) (H':Hp),aD H H'->H' l=some (.lst (BV.map V.str))->Q 328 H'
noncomputable def sA (n m:Str) (v i:Nat):Str:=jB ((ue.getD i []).map (wN 159))
noncomputable def Gs (w:Str):Nat:=((sL w).map λa=>if nG a then 1 else 12).sum
section
variable {n m:Str} {v:Nat}
theorem ui (hn:Nm n) (hm:Nm m) (hv:v<=9999999999):∀l:List Nat,(l.flatMap (gN 159)).length<=(l.map λa=>if nG a then 1 else 12).sum
 | []=>K4 _
 |a::l=>by
  rw[LY,KL,Kl,List.sum_cons];refine Nat.add_le_add ?_ (ui hn hm hv l)
  by_cases c:nG a=true
  ·rw[qt c,if_pos c];exact K4 _
  ·rw[if_neg c];have e1:=hn.len;have e2:=hm.len;have e3:=rX hv;unfold G3 gN gN gN gN
   by_cases c1:a=78
   ·rw[if_pos c1,cv];exact e1
   rw[if_neg c1]
   by_cases c2:a=77
   ·rw[if_pos c2,cv];exact e2
   rw[if_neg c2]
   by_cases c3:a=88
   ·rw[if_pos c3,cv];show (aS v).length<=12
    lia
   rw[if_neg c3];show 1<=12
   decide
theorem CK (hn:Nm n) (hm:Nm m) {c:Nat} (hc:c<48) {l:List Nat} (h:c∉l):c∉l.flatMap (gN 159):=λk=>by
 sleep 205
 by_cases c1:a=78
 ·rw[if_pos c1] at k;have:=hn.2.2 c k
  lia
 rw[if_neg c1] at k
 by_cases c2:a=77
 ·rw[if_pos c2] at k;have:=hm.2.2 c k
  lia
 rw[if_neg c2] at k
 by_cases c3:a=88
 ·rw[if_pos c3] at k;exact io hc k
 rw[if_neg c3] at k;rw[<-K8.mp k] at ha;exact h ha
theorem BW:(ue.all λws=>decide (Gs 548<=400)&&(sL 548).all (λa=> !(a==10))&&ws.all λw=>(sL w).all λa=> !(a==32))=true:=by decide+kernel
theorem BX:((LD 73).all λi=>i==2||DZ 430)=true:=by decide+kernel
theorem xh (hn:Nm n) (hm:Nm m) {i:Nat} {w:Str} (h:w=jB 430):Txt.replace (Txt.replace (Txt.replace w (bw [78]) n) (bw [77]) m) (bw [88]) (aS v)=sA n m v i:=
 CG (G:=G3 n m (aS v)) (Gm hn hm) BO _ h
theorem sB (n m:Str) (v i:Nat):sL (sA n m v i)=(sL (jB 430)).flatMap (gN 159):=(rY BO _).symm
theorem zQ (hn:Nm n) (hm:Nm m) (h1:100000<v) (h2:v<=9999999999) {i:Nat} (hi:i<73):rT (.bad (sA n m v i)):=by
 have hL:ue.getD i []∈ue:=by
  have l:ue.length=73:=by decide+kernel
  rw[LQ,K3 93]
  exact Lc _
 have A:=KY.mp BW _ hL;rw[KQ,KQ] at A;exists ?_,?_
 ·rw[sB];refine CK hn hm 45 λk=>?_
  have:=KY.mp A.1.2 10 k;cases this
 ·rw[<-cv,sB];exact KC (ui hn hm h2 _) (of_decide_eq_true A.1.1)
 ·by_cases c:i=2
  ·subst c;right;have e:sA n m v 2=bS n 4:=by
    unfold sA;rw[show ue.getD 2 []=(["dish","N","4"]:O6) from by decide+kernel]
    show jB [wN _ "dish",wN _ "N",wN _ "4"]=_;rw[mV (w:= "dish") 45,mV (w:= "4") 45,IM]
    rfl
   rw[e];exact (_,iV hn 45 45)
  ·left;have B:=KY.mp BX i (Lg.mpr hi);rw[LK] at B;rcases B with B|B
   ·exact absurd (eq_of_beq B) c
   ·exact vT hn hm h1 (λw=>vU) B λw hw k=>by
     have:=KY.mp (KY.mp A.2 w hw) 32 k;cases this
universe z0
def vX:wF:=λn vs H Q=>∃(ln:Addr) (zt:List 195) (a b:Nat),vs= [.ref ln,.int a,.int b]/\H ln=some 262/\Zs 279/\(∀p∈zt,0<p.2/\p.2<n)/\b<=2147483647/\∀m H' z,n<=m->aD H H'->rT (.bad z)->Q m 236 H'
theorem uj {zt:List 195} (h:Zs 279) {i:Nat} (hi:i<12):∃(z:Str) (t:Nat),eZ (dH zt) (i:Int)=some (.raw z t)/\Nm z/\(z,t)∈zt:=by
 have l:zt.length=12:=by have:=h.len;simpa using this
 have il:i<zt.length:=by lia
 refine (zt[i].1,zt[i].2,?_,h.nm _ (KH.mpr (_,Lc il,rfl)),Lc il);refine aF (j:=i) ?_;unfold dH;rw[KA,K3 il]
 rfl
theorem D3 {i:Nat} (hi:i<73):BV[i]?=some (jB 430):=by
 have l:ue.length=73:=by decide+kernel
 unfold BV;rw[KA,LQ,K3 93]
 rfl
theorem vY:BV.length=73:=by decide+kernel
theorem xm {i:Nat} (hi:i<73):(jB 430).length<=60:=by
 have A:((LD 73).all λi=>decide ((jB 430).length<=60))=true:=by decide+kernel
 exact of_decide_eq_true (KY.mp A i (Lg.mpr hi))
theorem D4 {X:Cx} {k j:Nat} {x:Str} {ps:O6} {sp:Sp} {p pos:Pos} {dvs:List V} (D:Dx X.prog X.w X.K X.mg X.base bX k x ps dvs sp) (hr:cx j X.A) (hk:k<=j) (hg:Gl X x) (hdb:116=false:=by decide):PE X (.Call (.Name x p) [] [] pos) (jG sp [] E0 xS):=
 xU D.ok 381 hg D.m D.q D.b .nil qR hdb
noncomputable def qF:List O6:= [["dish","N","0"],["dish","N","1001"],["dish","N"],["dish","N","1","1"],["dishes","N","1"],["take","N","1"],[""],["Dish","N","1"],["dish","N1","1"],["dish","N","01"],["dish","","N","1"],["cut","N","1","2"],["dish","N","1",""],["dish","aaaaaaaaaaaaa","1"],["dish","aB","1"]]
noncomputable def CL:O6:=qF.map jB
theorem D5:(qF.all λws=>DZ ws||decide (ws.head?=some (33 "take")∨ws.head?=some (33 "cut")))=true:=by decide+kernel
theorem BY:(qF.all λws=>decide (Gs 548<=400)&&(sL 548).all (λa=> !(a==10))&&ws.all λw=>(sL w).all λa=> !(a==32))=true:=by decide+kernel
theorem uk {z w:Str} {us:List Fv} (h:fQ z=some (w,us)):∃rest,Txt.split z cL=w::rest:=by
 unfold fQ at h
 split at h
 ·cases h
 ·split at h
  ·cases h
  ·rename_i a r e
   split at h
   ·cases h
   ·split at h
    ·cases h
    ·split at h
     ·cases h;exact (r,e)
     ·cases h
theorem D6:(qF.all λws=>(sL 548).all λa=> !(a==77)&& !(a==88))=true:=by decide+kernel
section
variable {n:Str}
noncomputable def sC (n:Str) (i:Nat):Str:=jB ((qF.getD i []).map (wN (G3 n n (aS 100001))))
theorem zR {i:Nat} (hi:i<15):qF.getD i []∈qF:=by
 have l:qF.length=15:=by decide+kernel
 rw[LQ,K3 93]
 exact Lc _
theorem xn {i:Nat} {w:Str} (hi:i<15) (h:w=jB 432):Txt.replace w (bw [78]) n=sC n i:=by
 apply dE;rw[jZ,h];unfold sC;rw[<-rY BO];have A:=KY.mp D6 _ (zR hi);generalize sL (jB 432)=l at A⊢
 induction l with
 |nil=>rfl
 |cons a l ih=>
  rw[List.all_cons,KQ] at A;rw[LY,LY,ih A.2]
  congr 1
  have c:=A.1;simp only[KQ,Bool.not_eq_true',beq_eq_false_iff_ne] at c;unfold Ay G3 gN gN gN gN
  by_cases c1:a=78
  ·rw[if_pos c1,if_pos c1]
  ·rw[if_neg c1,if_neg c1,if_neg c.1,if_neg c.2]
theorem xq (hn:Nm n) {i:Nat} (hi:i<15):wU (.bad (sC n i)):=by
 have hL:=zR hi;have A:=KY.mp BY _ hL;rw[KQ,KQ] at A;have e:sL (sC n i)=(sL (jB 432)).flatMap (gN (G3 n n (aS 100001))):=(rY BO _).symm;have free:∀w∈qF.getD i [],32∉sL w:=λw hw k=>by
  have:=KY.mp (KY.mp A.2 w hw) 32 k;cases this
 refine (?_,?_,λus q=>?_)
 ·rw[e];refine CK hn hn 45 λk=>?_
  have:=KY.mp A.1.2 10 k;cases this
 ·rw[<-cv,e];exact KC (ui hn hn 45 _) (of_decide_eq_true A.1.1)
 ·have B:=KY.mp D5 _ hL;rw[LK] at B;unfold sC at q;rcases B with B|B
  ·rw[vT hn hn 45 (λw=>vU) B free] at q
   cases q
  ·have B:=of_decide_eq_true B;generalize qF.getD i []=ws at B q free
   match ws,B with
   |w::r,B=>
    obtain ⟨rest,er⟩:=uk q;unfold jB cL at er;rw[jT,eK 96 λy hy=>by
     obtain ⟨z,hz,rfl⟩:=KH.mp hy;exact vS hn hn (free z hz)] at er
    rw[Kl] at er;have e1:=(List.cons.inj er).1;rcases B with B|B
    ·have:w=33 "take" :=KI B;rw[this,mV 45] at e1
     exact absurd e1 45
    ·have:w=33 "cut" :=KI B;rw[this,mV 45] at e1
     exact absurd e1 45
universe z0
def vZ:wF:=λn vs H Q=>∃(ln:Addr) (zt:List 195) (a:Nat),vs= [.ref ln,.int a]/\H ln=some 262/\Zs 279/\(∀p∈zt,0<p.2/\p.2<n)/\∀m H' z,n<=m->aD H H'->wU (.bad z)->Q m 236 H'
theorem D7 {i:Nat} (hi:i<15):CL[i]?=some (jB 432):=by
 have l:qF.length=15:=by decide+kernel
 unfold CL;rw[KA,LQ,K3 93]
 rfl
theorem v4:CL.length=15:=by decide+kernel
theorem xr {i:Nat} (hi:i<15):(jB 432).length<=60:=by
 have A:((LD 15).all λi=>decide ((jB 432).length<=60))=true:=by decide+kernel
 exact of_decide_eq_true (KY.mp A i (Lg.mpr hi))
theorem D8:CL=(["dish N 0","dish N 1001","dish N","dish N 1 1","dishes N 1","take N 1","","Dish N 1","dish N1 1","dish N 01","dish  N 1","cut N 1 2","dish N 1 ","dish aaaaaaaaaaaaa 1","dish aB 1"]:O6):=by decide+kernel
universe Sw
namespace L2
open PySem PySem.Spec PyProof.Rows
section
variable {X:Cx} {pins:O4} {σ:St} {H:Hp} {s:Shared} {a:Addr} {zs:List (Str×Nat)} {o:Obj}
theorem aU.freezeS (I:aU X pins σ H s) (h:H a=some 217) (ho:s.heap.get? a=some o):aU X pins σ (aR H a 260) s:=by
 refine I.un (H':=aR H a 260) (h':=s.heap) (t':=s.toks) (λb ob q n _ _=>q,λb ob q n _ _=>(ob.slots,q),λb ob q n _=>?_,λb ob q _=>(ob,q),λb xs q=>?_,λb ob u q=>?_,λb ps q=>(#[],?_)) ?_
 ·rw[aB (λz=>by subst z;rw[h] at n;cases n)];exact n
 ·rw[aB 197];exact q
 ·rw[aB 197];exact q
 ·rw[aB 197,q];simp
 ·intro b u q
  by_cases hb:b=a
  ·subst hb;rw[ah] at q;cases q;obtain ⟨z,its,n,r,e⟩:=(show cr X.prog X.w H s.heap b 217 from I.hok b _ h)
   exact (ho,by simpa [dH,vB] using z,its,n,oB r,e)
  ·rw[aB hb] at q;exact (I.hok b _ q).stay (λ_ _ _ q=>q) (λc q=>by rw[aB 197];exact q) λc xs q=>by rw[aB 197];exact q
theorem aU.nfS (I:aU X pins σ H s) (h:H a=some 217):NF X a:=λo u e=>by
 have:=I.base.frzs a o u e;rw[h] at this;cases this
theorem aU.thawS (I:aU X pins σ H s) (h:H a=some 260) (nf:NF X a) (d:∀h:Heap,h.get? a=some o->∃(z:(dH zs).length<=sizeLine) (its:O8) (n:Nat),bj (dH zs) its/\h.get? a=some 147):aU X pins σ (aR H a 217) s:=by
 have hn:∀{b:Addr} {u:HO},H b=some u->(∀o' v,u≠ .frz o' v)->aR H a 217 b=some u:=λ{b u} q n=>by
  rw[aB (λz=>by subst z;rw[h] at q;cases q;exact n _ _ rfl)];exact q
 have hf:∀{b:Addr},H b=none->aR H a 217 b=none:=λ{b} n=>by
  rw[aB (λz=>by subst z;rw[h] at n;cases n)];exact n
 refine (I.ok,I.os,I.bare,(I.base.keep,I.base.slot,λb ob q n hx=>hf (I.base.free b ob q n hx),I.base.there,λb xs q=>hn (I.base.tups b xs q) 451,λb ob u q=>?_,λb ps q=>?_),I.loc,I.cell,hf I.free,λy c e=>hf (I.freeC y c e),λp hp=>?_,?_,I.len)
 ·have q':=I.base.frzs b ob u q;rw[aB (λz=>by subst z;exact nf _ _ q)]
  exact q'
 ·obtain ⟨more,q'⟩:=I.base.tbls b ps q;exact (more,hn q' 451)
 ·obtain ⟨p1,p2,p3⟩:=I.pin p hp;exact (p1,hf p2,p3)
 ·intro b u q
  by_cases hb:b=a
  ·subst hb;rw[ah] at q;cases q;obtain ⟨q1,_⟩:=(show cr X.prog X.w H s.heap b 260 from I.hok b _ h)
   obtain ⟨z,its,n,r,e⟩:=d s.heap q1;exact (z,its,n,r,e)
  ·rw[aB hb] at q;exact (I.hok b _ q).stay (λ_ _ _ q=>q) (λc q=>hn q 451) λc xs q=>hn q 451
theorem BZ {e:Expr} {te:TE} (h:PE X e te):ja X e (λn σ H Q=>∃(a:Addr) (zs:List 195),H a=some 217/\∀o,te σ (aR H a 260) λv H'=>H' a=some 260/\Q n v (aR H' a 217)):=λpins s n σ H Q hn I (a,zs,ha,q)=>by
 obtain ⟨z,its,k,r,e⟩:=(show cr X.prog X.w H s.heap a 217 from I.hok a _ ha)
 exact bW (iq hn (h pins s σ _ _ (I.freezeS ha e) (q _))) λu s' (hk,v,H',I',r',e',q')=>(n,v,_,K4 _,hk,I'.thawS e' (I.nfS ha) (λh' g=>(z,its,k,r,g)),r',q')
universe z0
open Sw
noncomputable def kc:Nat->O6->List 195
 |_,[]=> []
 |k,x::r=>(x,k)::kc 446 r
theorem sD:∀(k:Nat) (l:O6),(kc k l).map 182=l
 |_,[]=>rfl
 |k,x::r=>by
  show x::(kc 446 r).map 182=_;rw[sD 446 r]
theorem oV:∀(k:Nat) (l:O6),bj (dH (kc k l)) (strsFrom k l)
 |_,[]=> .nil
 |k,x::r=> .cons rfl (oV 446 r)
section
variable {X:Cx} {pins:O4} {σ:St} {H:Hp} {s:Shared}
theorem xu {z:Str} {c:Nat} {v u:Value} {n:Nat} {Q:uW} (I:aU X pins σ H s) (rx:RelV 236 v) (ru:RelV (.str 186) u) (hz:z.length+2<=sizeLine) (h2:2<=(Txt.split z 186).length) (hn0:n<=s.toks)
  (q:∀(k:Nat) (p:Addr),n<=k->H p=none->Q (k+(Txt.split z 186).length) 237 (aR H p (.lst (dH (kc k (Txt.split z 186)))))):
  wpAny 106 X.A (call (.builtin "str.split") [v,u]) (Jq X pins σ n Q) X.xe s:=by
 sleep 134;obtain ⟨t',rfl⟩:=ru;have q':=q s.toks 92 hn0 343;sleep 89;unfold Txt.split at q' h2;cases h1:(decide (z.length<(⟨#[c]⟩:Str).length)||decide (Builtin.Str.strKind z<Builtin.Str.strKind ⟨#[c]⟩)) with
 |true=>
  rw[h1] at h2;have h2:2<=1:=h2
  lia
 |false=>
  rw[h1] at q' h2;cases hf:(Builtin.Str.occurrences z ⟨#[c]⟩ 0 z.length (z.length+1)).isEmpty with
  |true=>
   rw[hf] at h2;have h2:2<=1:=h2
   lia
  |false=>
   rw[hf] at q';have hp:(Builtin.Str.partsBetween z 166 (⟨#[c]⟩:Str).length).length<=sizeLine:=by
    sleep 150
    lia
   sleep 57
   exact (_,.ref 92,_,KC hn0 (Lw _ _),K4 _,I.laid (o:= .lst (dH (kc s.toks (Builtin.Str.partsBetween z 166 (⟨#[c]⟩:Str).length)))) 500 214 (by unfold dH;rw[K6,<-K6 (f:=λx:Str×Nat=>x.1),sD];exact hp,_,0,oV _ _,126 _ rfl),rfl,q')
universe z0
section
variable {X:Cx} {o e:Expr} {to te:TE} {apos cpos:Pos}
theorem xv (ho:PE X o to) (he:PE X e te)
  (hbase:attributeBase o "split" X.env 433=eval o X.env:=by rfl)
  (hfew:((backTo cpos (starEach [e] X.env)).all (λx=> !x.1)&&(backToKw cpos 228).all 421
   &&decide 304)=true:=by rfl)
  (hline:235=true:=by rfl) (hs:starEach [e] X.env= [352]:=by rfl):
  ja X (.Call (.Attribute o "split" apos) [e] [] cpos) (λn σ H Q=>to σ H λx H1=>E4 X.K "str" x H1/\te σ H1 λy H2=>∃z c,x= .str z/\y= .str 186/\z.length+2<=sizeLine/\2<=(Txt.split z 186).length/\
   ∀(k:Nat) (p:Addr),n<=k->H2 p=none->Q (k+(Txt.split z 186).length) 237 (aR H2 p (.lst (dH (kc k (Txt.split z 186)))))):=by
 sleep 17
 sleep 173;exists "str","str.split",Kz,Ll,Lk,h1,h2;sleep 41;refine Calls.spliced_cons (x:=eval e X.env) (rest:= []) (bW (iq k1 (he pins s1 σ H1 _ I1 q1)) λu s2 (k2,y,H2,I2,r2,z,c,ex,ey,hz,l2,q2)=>?_)
 sleep 148;subst ex ey;exact xu I2 r1 r2 hz l2 k2 q2
universe z0
abbrev Jw:=Nat->St->Hp->(Nat->List V->Hp->Prop)->Prop
def Ka (X:Cx) (pins:O4) (σ:St) (n:Nat) (Q:Nat->List V->Hp->Prop) (us:O8) (s':Shared):Prop:=∃m xs H',n<=m/\m<=s'.toks/\aU X pins σ H' s'/\bj xs us/\Q m xs H'
def Gu (X:Cx) (es:List Expr) (t:Jw):Prop:=
 ∀(pos:Pos) (pins:O4) (s:Shared) (n:Nat) (σ:St) (H:Hp) (Q:Nat->List V->Hp->Prop),n<=s.toks->aU X pins σ H s->t n σ H Q->wpAny 106 X.A (spliced (backTo pos 137)) (Ka X pins σ n Q) X.xe s
section
variable {X:Cx} {e:Expr} {es:List Expr} {ne:wy} {tn:Jw} {pos:Pos}
theorem lR:Gu X [] (λn _ H Q=>Q n [] H):=λ_ _ s n _ H Q hn I h=>Calls.spliced_nil (n,[],H,K4 _,hn,I,.nil,h)
theorem gW (ha:ja X e ne) (hr:Gu X es tn) (hs:starEach (e::es) X.env=(false,eval e X.env)::starEach es X.env:=by rfl):Gu X (e::es) (λn σ H Q=>ne n σ H λm x H1=>tn m σ H1 λm2 xs H2=>Q m2 (x::xs) H2):=by
 intro pos pins s n σ H Q hn I h;rw[hs];show wpAny _ _ (spliced ((false,eval e X.env)::backTo pos 137)) _ _ s;refine Calls.spliced_cons (bW 477 λu s1 (m,x,H1,l1,k1,I1,r1,q1)=>?_)
 exact bW (hr pos pins s1 m σ H1 _ k1 I1 q1) λus s2 (m2,xs,H2,l2,k2,I2,r2,q2)=>(m2,x::xs,H2,KC l1 l2,k2,I2,.cons r1 r2,q2)
theorem lS (h:Gu X es tn):ja X 514 (λn σ H Q=>tn n σ H λm xs H1=>117<=sizeLine/\∀p,H1 p=none->Q m 237 (aR H1 p 251)):=by
 intro pins s n σ H Q hn I hq;refine wpAny_List_spliced (bW (h pos pins s n σ H _ hn I hq) λus s1 (m,xs,H1,l,k,I1,r,z,q)=>(by rw[<-r.length];exact z,?_))
 have hf:H1 s1.heap.objs.size=none:=I1.hok.fresh 214;refine (m,.ref s1.heap.objs.size,aR H1 s1.heap.objs.size 251,l,k,I1.laid (t':=s1.toks) (λb u e=>95 _ e) 214 ?_,rfl,q _ hf)
 exact (z,us,0,r,126 _ rfl)
theorem zS {w:Str} {k}:ja X (.Constant 255 k pos) (λn _ H Q=>∀t,n<=t->Q (t+1) (.raw w t) H):=λpins s n σ H Q hn I q=>
 Calls.Constant_str ⟨s.toks+1,.raw w s.toks,H,by lia,K4 _,I.tok _,rfl,q _ hn⟩
universe z0
open XH
section
variable {X:Cx} {scope:Scope} {cl:List (Str×Addr)} {own:Str} {ys:O6} {js:List Nat} {elt iter:Expr} {px pos:Pos} {wi:TI} {te:wy}
theorem um (hc:X.calm=true) (ok:jj X scope cl own ys js) (hi:PI X 513 iter wi)
  (he:∀(C:Addr) (fp:O7) (s:Shared) (H:Hp),ja 187 elt te)
  (hs:∀x,foldedSetIterable iter X.env x=pure x)
  {pins:O4} {s:Shared} {σ:St} {H:Hp} {n0:Nat} {Q:uW} {use:Option (Value->Sem Unit)} {QQ:O2} {pp:Pos} (hn0:n0<=s.toks) (I:aU X pins σ H s) (h:wi σ H (pE js te n0 σ Q))
  (fin:∀(p C:Addr) (s6:Shared) (H5:Hp) (v:Flow),(∃m,s6.heap.Ns C m)->196->i7 X pins H5 C->(∃k,n0<=k/\k<=s6.toks/\Q k 237 H5)->compPost 106 X.A X.xe use QQ 237 C (.ok v) s6):
  wpAny 106 X.A 191 QQ X.xe s:=
 mq hc ok hi he hs hn0 I (λ_ _ z=>z) h fin
theorem zT (hc:X.calm=true) (ok:jj X scope cl own ys js) (hi:PI X 513 iter wi)
  (he:∀(C:Addr) (fp:O7) (s:Shared) (H:Hp),ja 187 elt te)
  (hs:∀x,foldedSetIterable iter X.env x=pure x:=by intro _;rfl):ja X 130 (λn σ H Q=>wi σ H (pE js te n σ Q)):=λpins s n σ H Q hn I h=>by
 rw[eval_ListComp];exact um hc ok hi he hs hn I h λp C s6 H5 v (m,hm) J _ (k,l,kk,q)=>(m,hm,λh' hs'=>(k,.ref p,H5,l,kk,J h' hs',rfl,q))
universe z0
def Jx (c:TT) (t u:cV):cV:=λD n σ H=>c σ H λb H1=>if b=true then t D n σ H1 else u D n σ H1
theorem ju {X:Cx} {c:Expr} {a b:List Stmt} {tc:TT} {t u:cV} {pos:Pos} (hc:PT X c tc) (ha:lh X a t) (hb:lh X b u):Ba X (.If c a b pos) (Jx tc t u):=by
 sleep 102;refine wpAny_If (bW (iq hn (hc pins s σ H _ I h)) λd s1 (k1,H1,I1,q1)=>?_)
 cases d with
 |true=>exact ha pins s1 n σ H1 D k1 I1 q1
 |false=>exact hb pins s1 n σ H1 D k1 I1 q1
section
variable {X:Cx} {e a b o:Expr} {te to:TE} {ne na nb:wy} {pos p2 cpos apos:Pos} {lo hi:Option Expr} {tl th:TO}
theorem qy {tg:Expr} {g:TG} (he:ja X e ne) (hg:PG X tg g) (hs:swapsWithSole [tg] e pos.line X.env=pure false:=by rfl) (hw:swappedStores [tg] e X.env=pure none:=by rfl)
  (h1:(assignEach [tg] X.env).map (·.2)= [assign tg X.env]:=by rfl):Ba X (.Assign [tg] e pos) (λD n σ H=>ne n σ H λm x H1=>g x σ H1 (D.nx m)):=by
 sleep 102;refine wpAny_Assign_stores (bW 331 λv s1 (m,x,H1,l,k,I1,r1,q1)=>?_) hs hw
 rw[h1];exact bW (iq k (hg pins s1 σ H1 x v _ I1 r1 q1)) λ_ s2 (k2,σ',H',I',q)=>(m,σ',H',l,k2,I',q)
theorem uo {op:Operator} {r:R2} (ho:i8 X (binaryOp op) r) (ha:ja X a na) (hb:ja X b nb):ja X (.BinOp a op b pos) (λn σ H Q=>na n σ H λn1 x H1=>nb n1 σ H1 λn2 y H2=>r x y H2 (Q n2)):=by
 sleep 83;refine wpAny_BinOp (bW 477 λv s1 (n1,x,H1,l1,k1,I1,r1,q1)=>bW (hb pins s1 n1 σ H1 _ k1 I1 q1) λu s2 (n2,y,H2,l2,k2,I2,r2,q)=>?_)
 exact bW (iq k2 (ho pins s2 σ H2 x y v u _ I2 r1 r2 q)) λw s3 (k3,v3,H3,I3,r3,q3)=>(n2,v3,H3,by lia,k3,I3,r3,q3)
theorem xw {K:K0} {a:Addr} {xs:List V} {n0:Nat} {g:TG} {tb:cV} {D:gR} {σ:St} {H:Hp} (Pv:Nat->Nat->St->Hp->Prop) (h0:Pv 0 n0 σ H) (hl:∀i k σ H,i<=117->Pv i k σ H->aJ K H a xs)
  (hs:∀i x k σ H,xs[i]?=some x->Pv i k σ H->g x σ H λσ2 H2=>tb {D with nx:=Pv 240} k σ2 H2) (hd:∀k σ H,Pv 117 k σ H->D.nx k σ H):
  ∃W:Nat->Nat->Nat->St->Hp->Prop,(∃m,W 0 m n0 σ H)/\∀i m k σ H,W i m k σ H->
   ((CY K a).stop i H/\D.nx k σ H)∨((CY K a).go i H/\∃N:Nat->St->Hp->Prop,429/\∀x H',(CY K a).yld i H x H'->g x σ H' λσ2 H2=>tb 508 k σ2 H2):=by
 exists λi m k σ H=>m=117-i/\i<=xs.length/\Pv i k σ H,(117,by simp,LF _,h0)
 rintro i m k σ H ⟨rfl,hi,p⟩;have q:=hl i k σ H hi p
 by_cases hlt:i<117
 ·refine .inr ((xs,xs[i],q,by simp[hlt]),Pv 240,λk' σ' H' p'=>(117-240,by lia,rfl,hlt,p'),λx H' y=>?_)
  obtain ⟨e,y⟩:=y;subst e;exact hs i x k σ _ (y xs q) p
 ·have e:i=xs.length:=by lia
  subst e;exact .inl ((xs,q,K4 _),hd k σ H p)
theorem jv (he:PE X e te) (hl:PO X lo tl) (hu:PO X hi th):ja X (.Subscript e 418 pos) (λn σ H Q=>te σ H λx H1=>tl σ H1 λl H2=>th σ H2 λu H3=>∃z t,x= .raw z t/\z.length<=sizeLine/\∀n' k,n<=n'->(k=t∨n<=k/\k<n')->Q n' (.raw (kz z l u) k) H3):=by
 sleep 83;refine Subscript_ (bW (iq hn 416) λv s1 (k1,x,H1,I1,r1,q1)=>?_)
 refine wpAny_Slice (bW (iq k1 (hl pins s1 σ H1 _ I1 q1)) λvl s2 (k2,l,H2,I2,pl,q2)=>bW (iq k2 (hu pins s2 σ H2 _ I2 q2)) λvu s3 (k3,u,H3,I3,pu,z,t,ex,hz,q)=>?_)
 subst ex;cases r1;sleep 30
 have hs:({s3 with heap:=s3.heap.push 189}:Shared).heap.IsSliceOf s3.heap.objs.size vl vu .none:=Heap.IsSliceOf.new ..
 obtain ⟨l',rfl,rfl⟩:=part_of pl;obtain ⟨u',rfl,rfl⟩:=part_of pu;show wpAny 106 X.A (subscriptTail e 418 (.str z t) (.ref s3.heap.objs.size)) _ X.xe {s3 with heap:=s3.heap.push {cls:= .type "slice",data:= .fields #[partValue l',partValue u',.none]}}
 refine tail_any (ops:= [.ref s3.heap.objs.size,.str z t]) (typeIs_str _ z t) slot_str_getitem.lookup ?_ 108
 refine wpAny_getItem_str_slice (l:=l') (u:=u') (st:=none) hs rfl ?_;unfold sliceMade
 by_cases hw':(slicePicked z l' u' none).length=z.length
 ·rw[if_pos (by simp[hw'])]
  have ez:=tu z l' u' hw';exact (n,.raw z t,H3,K4 _,k3,I4,rfl,by have:=q n t 214 174;rw[ez] at this;exact this)
 ·rw[if_neg (by simp[hw'])]
  rw[qZ];exact (KC (iz _ _ _) hz,s3.toks+1,.raw _ s3.toks,H3,Nat.le_succ_of_le k3,K4 _,I4.tok _,rfl,q (s3.toks+1) s3.toks (Nat.le_succ_of_le k3) (.inr (k3,Nat.lt_succ_self _)))
theorem zU (ho:PE X o to) (he:PE X e te)
  (hbase:attributeBase o "join" X.env 433=eval o X.env:=by rfl)
  (hfew:((backTo cpos (starEach [e] X.env)).all (λx=> !x.1)&&(backToKw cpos 228).all 421
   &&decide 304)=true:=by rfl)
  (hline:235=true:=by rfl) (hs:starEach [e] X.env= [352]:=by rfl):
  ja X (.Call (.Attribute o "join" apos) [e] [] cpos) (λn σ H Q=>to σ H λx H1=>E4 X.K "str" x H1/\te σ H1 λy H2=>∃z a ws,x= .str z/\y= .ref a/\aJ X.K H2 a (ws.map V.str)/\2<=ws.length/\z.length<=16/\(ws.map (λx=>x.length)).sum+ws.length<=1048576/\
   ∀k,n<=k->Q 446 (.raw (Txt.join z ws) k) H2):=by
 sleep 17
 sleep 173;exists "str","str.join",Kz,PySem.F.slot_str_join,PySem.F.type_str_join,h1,h2;sleep 41;refine Calls.spliced_cons (x:=eval e X.env) (rest:= []) (bW (iq k1 (he pins s1 σ H1 _ I1 q1)) λu s2 (k2,y,H2,I2,r2,z,a,ws,ex,ey,hS,l2,hz,hl,q2)=>?_)
 sleep 148;subst ex ey;sleep 61;cases r2;obtain ⟨its,r,p,_⟩:=I2.list hS;obtain ⟨l,el,et⟩:=strsAre_values (mF r);have hok:=joinOk_of (total_of_weight (x:=z) hl hz);unfold JoinOk at hok;rw[Bool.not_eq_true',<-et] at hok;refine call_meets F.slot_str_join (typeIs_str _ _ _) F.entry_str_join (F.args_str_join_2 _ _) (meets_str_join_list z t a l hok) (by rw[<-el];exact p.isList,?_)
 have ll:2<=l.length:=by have:=congrArg List.length et;simp at this;lia
 match l,ll,et,hok with
 |x1::x2::r,_,et,hok=>
  exists joinFit_length hok,s2.toks+1,.raw _ s2.toks,H2,by lia,K4 _,I2.tok _,rfl
  have:=q2 s2.toks k2;rw[<-et] at this;exact this
theorem xx {js:List Nat} {te:wy} {σ:St} {Q:uW} {H1:Hp} {l0:Int} {n n0:Nat} (f:Nat->Str) (hz:n<=sizeLine)
  (step:∀(i k:Nat) (H3:Hp) (R:uW),i<n->n0<=k->aD H1 H3->(∀(k' t:Nat) (H4:Hp),k<=k'->0<t->t<k'->aD H3 H4->R k' (.raw (f i) t) H4)->te k (some (.int (l0+i))::dv js σ) H3 R)
  (fin:∀(k:Nat) (p:Addr) (zs:List 195) (H':Hp),n0<=k->H1 p=none->zs.map 182=(LD n).map f->(∀q∈zs,0<q.2/\q.2<k)->aD H1 H'->H' p=some 217->Q k 237 H'):pE js te n0 σ Q (xP l0 n) H1:=by
 intro p hp;exists λi m k ys H2=>i<=n/\m=n-i/\n0<=k/\aD H1 H2/\H2 p=some 335/\∃zs,ys=dH zs/\zs.map 182=(LD i).map f/\∀q∈zs,0<q.2/\q.2<k,(n,LF _,rfl,K4 _,Sw.ai hp _,ah,[],rfl,rfl,λq hq=>nomatch hq)
 rintro i m k ys H2 ⟨hi,rfl,hk,g,e,zs,rfl,ez,tz⟩;exists e;have lz:zs.length=i:=by have:=congrArg List.length ez;simpa using this
 by_cases hin:i<n
 ·refine .inr (hin,by simp[dH];lia,λx H3 hy=>?_)
  obtain ⟨rfl,rfl⟩:=hy;refine step i k _ _ hin hk g λk' t H4 l t0 t1 g4=>(g4 _ _ e,n-240,by lia,by lia,rfl,by lia,Sw.mw (g.trans g4) hp _,ah,zs++ [(f i,t)],?_,?_,λq hq=>?_)
  ·unfold dH;rw[Km]
   rfl
  ·rw[Km,ez,List.range_succ,Km]
   rfl
  ·rcases KD.mp hq with hq|hq
   ·have:=tz q hq
    lia
   ·rw[K8.mp hq];exact (t0,t1)
 ·have ei:i=n:=by lia
  subst ei;exact .inl (K4 _,fin k p zs H2 hk hp ez tz g e)
universe z0
universe L2
namespace Sw
open PySem L2 XH Hm PySem.NumText
theorem B0 {r:Rr} (h:dh r):∀w∈c7 r,32∉sL w:=by
 have C:∀{w:Str},xG w=true->32∉sL w:=λh=>(tR h).1
 have W:∀{w:Str},Cs w->32∉sL w:=λh=>by rcases h with rfl|rfl|rfl<;>exact C 38
 have L:∀{w:Str},yS w->32∉sL w:=λh=>by rcases h with rfl|rfl|rfl<;>exact C 38
 cases r with
 |take g a=>
  intro w hw;simp only[c7,K1,K5,or_false] at hw;rcases hw with rfl|rfl|rfl
  ·exact C 38
  ·exact (eP h.1).1
  ·exact (vK h.2).1
 |step w n lo hi f=>
  obtain ⟨h1,h2,_,h4⟩:=h;intro x hx;have hx:x∈ [w,n,aS lo,aS hi]++vD f:=hx;rcases KD.mp hx with hx|hx
  ·sleep 21;rcases hx with rfl|rfl|rfl|rfl
   ·exact W h1
   ·exact (eP h2).1
   ·exact (df _).1
   ·exact (df _).1
  ·cases f with
   |none=>cases hx
   |some a=>
    rw[K8.mp hx];exact (vK h4.2).1
 |sec n lo hi=>
  intro x hx;simp only[c7,mP,K1,K5,or_false] at hx;rcases hx with rfl|rfl|rfl|rfl
  ·exact C 38
  ·exact (eP h.1).1
  ·exact (df _).1
  ·exact (df _).1
 |use o n u=>
  obtain ⟨h1,h2,_⟩:=h;intro x hx;simp only[c7,mO,K1,K5,or_false] at hx;rcases hx with rfl|rfl|rfl|rfl|rfl
  ·cases o
   ·exact C (w:=33 "with") 38
   ·exact C (w:=33 "orwith") 38
  ·exact (eP h1).1
  ·exact (eP h2).1
  ·exact (df _).1
  ·exact (df _).1
 |link w a b t=>
  obtain ⟨h1,h2,h3,_⟩:=h;intro x hx;have hx:x∈ [w,a,b]++if w= "within" then [aS t] else []:=hx
  rcases KD.mp hx with hx|hx
  ·sleep 21;rcases hx with rfl|rfl|rfl
   ·exact L h1
   ·exact (eP h2).1
   ·exact (eP h3).1
  ·split at hx
   ·rw[K8.mp hx];exact (df _).1
   ·cases hx
theorem B1 (r:Rr):c7 r≠ []:=by cases r<;>simp[c7,mP,mO,dI]
theorem mY {r:Rr} (h:dh r):Txt.split (dC r) cL=c7 r:=by
 unfold dC jB cL;rw[jT];exact eK (B1 r) (B0 h)
theorem D9 (r:Rr):2<=(c7 r).length:=by cases r<;>simp[c7,mP,mO,dI]
noncomputable def ny:Rr->Str
 | .take _ _=> "take"
 | .step w _ _ _ _=>w
 | .sec _ _ _=> "or"
 | .use o _ _=>if o=true then "orwith" else "with"
 | .link w _ _ _=>w
noncomputable def sK:Rr->Str
 | .take g _=>g
 | .step _ n _ _ _=>n
 | .sec n _ _=>n
 | .use _ n _=>n
 | .link _ a _ _=>a
theorem uq (r:Rr):∃t,c7 r=ny r::sK r::t:=by cases r<;>exact 173
noncomputable def ur:Rr->Bool
 | .step _ _ _ _ _=>true
 |_=>false
noncomputable def Gv:O6:= ["cut","rest","warm"]
noncomputable def B2:O6:= ["take","cut","rest","warm","or","with","orwith"]
theorem zV {r:Rr} (h:dh r):md 310 510=ur r/\md 310 291= !(match r with| .link _ _ _ _=>true|_=>false):=by
 have C:∀{w:Str} {b c:Bool},md 255 510=b->md 255 291=c->∀{x},x=w->md (.str x) 510=b/\md (.str x) 291=c:=λ{w b c} h1 h2 {x} e=>by rw[e];exact (h1,h2)
 cases r with
 |take g a=>exact C (w:= "take") (b:=false) (c:=true) 38 38 rfl
 |step w n lo hi f=>
  sleep 211;rcases h1 with rfl|rfl|rfl
  ·exact C (w:= "cut") (b:=true) (c:=true) 38 38 rfl
  ·exact C (w:= "rest") (b:=true) (c:=true) 38 38 rfl
  ·exact C (w:= "warm") (b:=true) (c:=true) 38 38 rfl
 |sec n lo hi=>exact C (w:= "or") (b:=false) (c:=true) 38 38 rfl
 |use o n u=>
  cases o
  ·exact C (w:= "with") (b:=false) (c:=true) 38 38 rfl
  ·exact C (w:= "orwith") (b:=false) (c:=true) 38 38 rfl
 |link w a b t=>
  sleep 211;rcases h1 with rfl|rfl|rfl
  ·exact C (w:= "after") (b:=false) (c:=false) 38 38 rfl
  ·exact C (w:= "within") (b:=false) (c:=false) 38 38 rfl
  ·exact C (w:= "apart") (b:=false) (c:=false) 38 38 rfl
noncomputable def fJ (rs:List Rr) (i:Nat):List (Nat×Str):=(LD i).filterMap λj=>(rs[j]?.bind d0).map λn=>(j+1,n)
theorem oW (rs:List Rr) (i:Nat):fJ rs 240=fJ rs i++((rs[i]?.bind d0).map λn=>(i+1,n)).toList:=by
 unfold fJ;rw[List.range_succ,List.filterMap_append];rw[La];cases (rs[i]?.bind d0).map λn=>(Prod.mk (i+1) (n))<;>rfl
theorem lT {rs:List Rr} {i:Nat} {p:Nat×Str} (h:p∈fJ rs i):∃j w lo hi f,j<rs.length/\p.1=j+1/\rs[j]?=some (.step w p.2 lo hi f):=by
 unfold fJ at h;obtain ⟨j,_,e⟩:=List.mem_filterMap.mp h;cases c:rs[j]? with
 |none=>rw[c] at e;cases e
 |some r=>
  rw[c] at e;have jl:=(KB.mp c).1;cases r with
  |step w n lo hi f=>cases e;exact (j,w,lo,hi,f,jl,rfl,c)
  |take g a=>cases e
  |sec n lo hi=>cases e
  |use o n u=>cases e
  |link w a b t=>cases e
def Kb (H:Hp) (m:Nat) (v:V) (p:Nat×Str):Prop:=∃a t,v= .ref a/\H a=some (.lst [vN p.1,.raw p.2 t])/\0<t/\t<m
def zW (H:Hp) (m:Nat) (vs:List V) (ps:List 302):Prop:=A2 (Kb H m) vs ps
theorem zW.mono {H H':Hp} {m m':Nat} {vs:List V} {ps:List 302} (h:zW H m vs ps) (g:aD H H') (l:m<=m'):zW H' m' vs ps:=A2.imp h λv p (a,t,e1,e2,e3,e4)=>(a,t,e1,g _ _ e2,e3,KJ e4 l)
def v5:wF:=λn vs H Q=>∃(rl:Addr) (h:Str) (rs:List Rr),vs= [.ref rl]/\0<n/\H rl=some (.lst 277)/\(∀r∈rs,dh r)/\rs.length<=60/\∀(m:Nat) (l:Addr) (H':Hp) (us:List V),n<=m->aD H H'->H' l=some (.lst us)->zW H' m us 523->Q m 328 H'
def fu (f:iT) (rs:List Rr) (at_:Nat) (z:Str):Prop:=∃(k:Nat) (r:Rr),at_=1+k/\k<=rs.length/\z=dC r/\dh r/\∀rest,gh 322 1 ((rs.take k).map .ok++ .ok r::rest)= .error (.flt f (1+k))
theorem ut {rs:List Rr} {k:Nat} (h:k<=rs.length):(rs.take k).length=k:=by rw[Kw];lia
theorem Ea {rs:List Rr} {M:Md} (h:b8 142 rs= .ok M) {i k:Nat} {r r':Rr} (hi:rs[i]?=some r) (ik:i<k) (kl:k<=rs.length) (s:vW r r') (o:dh r'):fu .twice rs (1+k) (dC r'):=
 ⟨k,r',rfl,kl,rfl,o,λrest=>by have:=zM h hi ik s rest;rw[ut kl] at this;exact this⟩
theorem du {rs:List Rr} {M:Md} (h:b8 142 rs= .ok M) {k:Nat} (kl:k<=rs.length) {r:Rr} {z:Str} (n:zN r z) (hz:z∉(rs.take k).filterMap d0) (o:dh r):fu .nostep rs (1+k) (dC r):=
 ⟨k,r,rfl,kl,rfl,o,λrest=>by have:=sx h k n hz rest;rw[ut kl] at this;exact this⟩
theorem xy {rs:List Rr} {M:Md} (h:b8 142 rs= .ok M) {i:Nat} {w n:Str} {lo hi:Nat} {f:Option fj} (hi':rs[i]?=some 206) (u:cg) (o:dh (.use true n u)):fu .nostep rs (1+240) (dC (.use true n u)):=
 ⟨i+1,_,rfl,(KB.mp hi').1,rfl,o,λrest=>xf h hi' u rest⟩
theorem mZ {rs:List Rr} (k:Nat) {z:Str} (h:z∉rs.filterMap d0):z∉(rs.take k).filterMap d0:=λm=>h ((List.Sublist.filterMap d0 (List.take_sublist k rs)).subset m)
theorem zX {rs:List Rr} {M:Md} (h:b8 142 rs= .ok M) {i k:Nat} {w n:Str} {lo hi:Nat} {f:Option fj} (hi':rs[i]?=some 206) (ki:k<=i):n∉(rs.take k).filterMap d0:=by
 sleep 162;sleep 124;obtain ⟨M2,g1,_⟩:=fC e1;have a:=(j8 g1).1;rw[jr f1] at a;have s:rs.take k=(rs.take i).take k:=by rw[List.take_take,Nat.min_eq_left ki]
 rw[s];exact mZ k a
def zY (zs:O6) (rs:List Rr):Prop:=∀z∈rs.filterMap d0,∃j<10,zs[7*j % 12]?=some z
theorem Gw {zs:O6} {rs:List Rr} {M:Md} (h:b8 142 rs= .ok M) (o:jz zs 10 M):zY zs rs:=λz hz=>by
 have e:=jr h;have e:324=rs.filterMap d0:=e
 rw[<-e] at hz;obtain ⟨s,hs,rfl⟩:=KH.mp hz;obtain ⟨j,hj⟩:=Kh.mp hs;have jl:=(KB.mp hj).1;have:=o.sr;exact (j,by lia,(o.ss j s hj).nm)
theorem zY.ne {zs:O6} {rs:List Rr} (h:zY zs rs) (zz:Zs zs) {i:Nat} {x:Str} (ix:zs[i]?=some x) (hi:i=10∨i=5):x∉rs.filterMap d0:=λm=>by
 obtain ⟨j,jl,e⟩:=h x m;have k:∀j<10,7*j % 12≠10/\7*j % 12≠5:=by decide
 exact hi.elim (λq=>(k j jl).1 ((zz.inj ix e).symm.trans q)) λq=>(k j jl).2 ((zz.inj ix e).symm.trans q)
noncomputable def GQ (a b c:Str):List (Nat×Str):= [(81,a),(82,b),(77,c)]
section
variable {a b c:Str}
theorem Gx (ha:Nm a) (hb:Nm b):Gk (GQ a b c):=⟨λx hx q hq=>by
 have:=ha.2.2 x hx;sleep 171;rcases hq with rfl|rfl
 ·show x≠82
  lia
 ·show x≠77
  lia,λx hx q hq=>by
 have:=hb.2.2 x hx;sleep 171;rcases hq with rfl
 show x≠77
 lia,λx hx q hq=>absurd hq K5,trivial⟩
theorem IO:∀q∈GQ a b c,q.1≠32:=λq hq=>by
 simp only[GQ,K1,K5,or_false] at hq;rcases hq with rfl|rfl|rfl
 ·show 81≠32;decide
 ·show 82≠32;decide
 ·show 77≠32;decide
theorem zZ {w:Str} (h:∀x∈sL w,x≠81/\x≠82/\x≠77):wN 465 w=w:=by
 unfold wN;rw[j6 λx hx q hq=>by
  obtain ⟨h1,h2,h3⟩:=h x hx;simp only[GQ,K1,K5,or_false] at hq;rcases hq with rfl|rfl|rfl
  ·exact h1
  ·exact h2
  ·exact h3,mC]
theorem gn {w:Str} (h:Nm w):wN 465 w=w:=zZ λx hx=>by have:=h.2.2 x hx;lia
theorem uy {w:Str} (h:498=true):wN 465 w=w:=zZ λx hx=>by
 have:=KY.mp h x hx
 simpa [and_assoc] using this
theorem m6:wN 465 "Q" =a:=by
 unfold wN;rw[show sL "Q" = [81] from by decide]
 show bw ((if (81:Nat)=81 then sL a else _)++ [])=a
 rw[if_pos rfl,Ke,mC]
theorem Eb:wN 465 "R" =b:=by
 unfold wN;rw[show sL "R" = [82] from by decide]
 show bw ((if (82:Nat)=81 then sL a else if (82:Nat)=82 then sL b else _)++ [])=b
 rw[if_neg 45,if_pos rfl,Ke,mC]
theorem Aa:wN 465 "M" =c:=by
 unfold wN;rw[show sL "M" = [77] from by decide]
 show bw ((if (77:Nat)=81 then sL a else if (77:Nat)=82 then sL b else if (77:Nat)=77 then sL c else _)++ [])=c
 rw[if_neg 45,if_neg 45,if_pos rfl,Ke,mC]
universe z0
def Ab (a b c:Str) (rs:List Rr) (at_:Nat) (ws:O6):Prop:=fu .nostep rs at_ (jB (ws.map (wN 465)))/\(jB ws).length<=60
noncomputable def Ac:List O6:= [["or","Q","1","2"],["with","Q","M","1","0"],["orwith","Q","M","1","0"],["after","Q","R"],["within","R","Q","0"],["apart","Q","R"]]
section
variable {zs:O6} {rs:List Rr} {M:Md} {a b c:Str}
theorem m7 {o:Bool} {n t:Str} (h1:Nm n) (h2:Nm t):dh (.use o n (t,1,0)):=(h1,h2,K4 _,(by show (1:Nat)<=8;decide),(by show (0:Nat)<=1000;decide))
theorem Ad {n:Str} (h:Nm n):dh (.sec n 1 2):=(h,by decide,by decide,by decide)
theorem eU {w x y:Str} {t:Nat} (hw:yS w) (hx:Nm x) (hy:Nm y) (ne:x≠y) (ht:t<=100000) (h:w≠ "within" ->t=0):dh (.link w x y t):=(hw,hx,hy,ne,ht,h)
theorem ke (x y:Str):dC (.link "after" x y 0)=jB ["after",x,y]:=by
 show jB (dI _ _ _ _)=_;unfold dI;rw[if_neg 45]
 rfl
theorem kf (x y:Str):dC (.link "apart" x y 0)=jB ["apart",x,y]:=by
 show jB (dI _ _ _ _)=_;unfold dI;rw[if_neg 45]
 rfl
theorem kK (x y:Str) (t:Nat):dC (.link "within" x y t)=jB ["within",x,y,aS t]:=by
 show jB (dI _ _ _ _)=_;unfold dI;rw[if_pos rfl]
 rfl
theorem HD:yS "after" := .inl rfl
theorem IP:yS "within" := .inr 174
theorem HE:yS "apart" := .inr 243
theorem Ae (h:b8 142 rs= .ok M) (na:Nm a) (nb:Nm b) (nc:Nm c) (ab:a≠b) (ta:a∉rs.filterMap d0) {k t:Nat} (kl:k<=rs.length) (ht:t<6):Ab a b c rs (1+k) (Ac.getD t []):=by
 have hz:=mZ k ta;sleep 43
 match t,ht with
 |0,_=>
  sleep 101
  show fu _ _ _ (jB [wN _ "or",wN _ "Q",wN _ "1",wN _ "2"]);rw[L 45,m6,L 45,L 45,uc,Gi]
  exact du h kl (r:= .sec a 1 2) rfl hz (Ad na)
 |1,_=>
  sleep 101
  show fu _ _ _ (jB [wN _ "with",wN _ "Q",wN _ "M",wN _ "1",wN _ "0"]);rw[L 45,m6,Aa,L 45,L 45,uc,w6]
  exact du h kl (r:= .use false a (c,1,0)) rfl hz (m7 na nc)
 |2,_=>
  sleep 101
  show fu _ _ _ (jB [wN _ "orwith",wN _ "Q",wN _ "M",wN _ "1",wN _ "0"]);rw[L 45,m6,Aa,L 45,L 45,uc,w6]
  exact du h kl (r:= .use true a (c,1,0)) rfl hz (m7 na nc)
 |3,_=>
  sleep 101
  show fu _ _ _ (jB [wN _ "after",wN _ "Q",wN _ "R"]);rw[L 45,m6,Eb,<-ke]
  exact du h kl (r:= .link "after" a b 0) (z:=a) 174 hz (eU HD na nb ab 45 λ_=>rfl)
 |4,_=>
  sleep 101
  show fu _ _ _ (jB [wN _ "within",wN _ "R",wN _ "Q",wN _ "0"]);rw[L 45,m6,Eb,L 45,w6,<-kK]
  exact du h kl (r:= .link "within" b a 0) (z:=a) 243 hz (eU IP nb na ab.symm 45 λ_=>rfl)
 |5,_=>
  sleep 101
  show fu _ _ _ (jB [wN _ "apart",wN _ "Q",wN _ "R"]);rw[L 45,m6,Eb,<-kf]
  exact du h kl (r:= .link "apart" a b 0) (z:=a) 174 hz (eU HE na nb ab 45 λ_=>rfl)
noncomputable def kL (n:Str) (t:Nat):O6:=match t with
 |0=> ["after","Q",n]
 |1=> ["after",n,"Q"]
 |2=> ["within",n,"Q","3"]
 |3=> ["apart",n,"Q"]
 |4=> ["apart","Q",n]
 |_=> ["orwith",n,"M","1","0"]
theorem kg {ws:O6} (h:∀w∈ws,w.length<=12) (l:ws.length<=4):(jB ws).length<=60:=by
 have:=tK ws h
 lia
theorem Af (h:b8 142 rs= .ok M) (na:Nm a) (nc:Nm c) (ta:a∉rs.filterMap d0) {i:Nat} {w n:Str} {lo hi:Nat} {f:Option fj} (hi':rs[i]?=some 206) (nn:Nm n) (tn:n∈rs.filterMap d0) {k t:Nat} (kl:k<=rs.length) (ht:t<6) (k5:t=5->k=i+1):Ab a b c rs (1+k) (kL n t):=by
 have hz:=mZ k ta;have an:a≠n:=λe=>ta (by rw[e];exact tn)
 sleep 43
 have nl:=nn.len
 match t,ht with
 |0,_=>
  sleep 73
  ·show fu _ _ _ (jB [wN _ "after",wN _ "Q",wN _ n]);rw[L 45,m6,gn nn,<-ke]
   exact du h kl (r:= .link "after" a n 0) (z:=a) 174 hz (eU HD na nn an 45 λ_=>rfl)
  ·sleep 95;rcases hw with rfl|rfl|rfl
   ·decide
   ·decide
   ·exact nl
 |1,_=>
  sleep 73
  ·show fu _ _ _ (jB [wN _ "after",wN _ n,wN _ "Q"]);rw[L 45,m6,gn nn,<-ke]
   exact du h kl (r:= .link "after" n a 0) (z:=a) 243 hz (eU HD nn na an.symm 45 λ_=>rfl)
  ·sleep 95;rcases hw with rfl|rfl|rfl
   ·decide
   ·exact nl
   ·decide
 |2,_=>
  sleep 73
  ·show fu _ _ _ (jB [wN _ "within",wN _ n,wN _ "Q",wN _ "3"]);rw[L 45,m6,gn nn,L 45,Gj,<-kK]
   exact du h kl (r:= .link "within" n a 3) (z:=a) 243 hz (eU IP nn na an.symm 45 λe=>absurd rfl e)
  ·sleep 95;rcases hw with rfl|rfl|rfl|rfl
   ·decide
   ·exact nl
   ·decide
   ·decide
 |3,_=>
  sleep 73
  ·show fu _ _ _ (jB [wN _ "apart",wN _ n,wN _ "Q"]);rw[L 45,m6,gn nn,<-kf]
   exact du h kl (r:= .link "apart" n a 0) (z:=a) 243 hz (eU HE nn na an.symm 45 λ_=>rfl)
  ·sleep 95;rcases hw with rfl|rfl|rfl
   ·decide
   ·exact nl
   ·decide
 |4,_=>
  sleep 73
  ·show fu _ _ _ (jB [wN _ "apart",wN _ "Q",wN _ n]);rw[L 45,m6,gn nn,<-kf]
   exact du h kl (r:= .link "apart" a n 0) (z:=a) 174 hz (eU HE na nn an 45 λ_=>rfl)
  ·sleep 95;rcases hw with rfl|rfl|rfl
   ·decide
   ·decide
   ·exact nl
 |5,_=>
  have:=k5 rfl;subst this;exists ?_
  ·sleep 79
   exact xy h hi' (c,1,0) (m7 nn nc)
  ·sleep 76
   have e2:cL.length=1:=by decide
   have e3:("M" :Str).length=1:=by decide
   have e4:("1" :Str).length=1:=by decide
   have e5:("0" :Str).length=1:=by decide
   lia
noncomputable def lD (n f:Str) (t:Nat):O6:=match t with
 |0=> ["or",n,"1","2"]
 |1=> ["with",n,"M","1","0"]
 |2=> ["orwith",n,"M","1","0"]
 |3=> ["after",f,n]
 |4=> ["within",n,f,"3"]
 |_=> ["apart",f,n]
theorem xz (h:b8 142 rs= .ok M) (nc:Nm c) {i:Nat} {w n f:Str} {lo hi:Nat} {fl:Option fj} (hi':rs[i]?=some (.step w n lo hi fl)) (nn:Nm n) (nf:Nm f) {k t:Nat} (ki:k<=i) (ht:t<6) (tf:3<=t->n≠f):Ab a b c rs (1+k) (lD n f t):=by
 have hz:=zX h hi' ki;have il:=(KB.mp hi').1;have kl:k<=rs.length:=by lia
 sleep 43
 have nl:=nn.len;have fl:=nf.len;have e2:cL.length=1:=by decide
 have e3:("M" :Str).length=1:=by decide
 have e4:("1" :Str).length=1:=by decide
 have e5:("0" :Str).length=1:=by decide
 match t,ht with
 |0,_=>
  sleep 103
  ·show fu _ _ _ (jB [wN _ "or",wN _ n,wN _ "1",wN _ "2"]);rw[L 45,gn nn,L 45,L 45,uc,Gi]
   exact du h kl (r:= .sec n 1 2) rfl hz (Ad nn)
  ·sleep 145;rcases hw with rfl|rfl|rfl|rfl
   ·decide
   ·exact nl
   ·decide
   ·decide
 |1,_=>
  exists ?_
  ·show fu _ _ _ (jB [wN _ "with",wN _ n,wN _ "M",wN _ "1",wN _ "0"]);rw[L 45,Aa,gn nn,L 45,L 45,uc,w6]
   exact du h kl (r:= .use false n (c,1,0)) rfl hz (m7 nn nc)
  ·show (jB ["with",n,"M","1","0"]).length<=60;rw[aE,aE,aE,aE,jA];simp only[Str.length_append];have e1:("with" :Str).length=4:=by decide
   lia
 |2,_=>
  exists ?_
  ·sleep 79
   exact du h kl (r:= .use true n (c,1,0)) rfl hz (m7 nn nc)
  ·sleep 76
   lia
 |3,_=>
  sleep 103
  ·show fu _ _ _ (jB [wN _ "after",wN _ f,wN _ n]);rw[L 45,gn nf,gn nn,<-ke]
   exact du h kl (r:= .link "after" f n 0) (z:=n) 243 hz (eU HD nf nn (tf 45).symm 45 λ_=>rfl)
  ·sleep 145;rcases hw with rfl|rfl|rfl
   ·decide
   ·exact fl
   ·exact nl
 |4,_=>
  sleep 103
  ·show fu _ _ _ (jB [wN _ "within",wN _ n,wN _ f,wN _ "3"]);rw[L 45,gn nf,gn nn,L 45,Gj,<-kK]
   exact du h kl (r:= .link "within" n f 3) (z:=n) 174 hz (eU IP nn nf (tf 45) 45 λe=>absurd rfl e)
  ·sleep 145;rcases hw with rfl|rfl|rfl|rfl
   ·decide
   ·exact nl
   ·exact fl
   ·decide
 |5,_=>
  sleep 103
  ·show fu _ _ _ (jB [wN _ "apart",wN _ f,wN _ n]);rw[L 45,gn nf,gn nn,<-kf]
   exact du h kl (r:= .link "apart" f n 0) (z:=n) 243 hz (eU HE nf nn (tf 45).symm 45 λ_=>rfl)
  ·sleep 145;rcases hw with rfl|rfl|rfl
   ·decide
   ·exact fl
   ·exact nl
universe z0
section
variable {G H:Hp} {m lt ls lk:Addr} {ks:List Sk} {M:Md}
theorem ML.swap (h:ML G H m lt ls lk ks M) {x:Addr} {o:HO} (ex:H x=some o) (n1:∀xs,o≠ .tup xs) (n2:∀lo hi,o≠nD lo hi) (nm:x∉cw m lt ls lk ks) (o':HO):ML (aR G x o') (aR H x o') m lt ls lk ks M:=by
 have P:∀{b:Addr} {u:HO},H b=some u->b≠x->aR H x o' b=some u:=λe n=>by rw[aB n];exact e
 have T:∀{b:Addr} {xs:List V},H b=some (.tup xs)->aR H x o' b=some (.tup xs):=λ{b xs} e=>P e λz=>by rw[z,ex] at e;exact n1 _ (KI e)
 have L:∀{b:Addr} {lo hi:Nat},H b=some (nD lo hi)->aR H x o' b=some (nD lo hi):=λ{b lo hi} e=>P e λz=>by rw[z,ex] at e;exact n2 _ _ (KI e)
 have ne:∀{b:Addr},b∈cw m lt ls lk ks->b≠x:=λhb z=>nm (by rw[<-z];exact hb)
 have RT:∀{α:Type} {f:α->List V} {l:Addr} {xs:List α},kS (jP f) An H l xs->l≠x->kS (jP f) An (aR H x o') l xs:=λ{α f l xs} e n=>by
  obtain ⟨vs,e,r⟩:=e;exact (vs,P e n,r.imp λv x (t,e1,e2,e3)=>(t,e1,e2,T e3))
 have F:∀{v:V} {o:Option fj},oE H v o->oE (aR H x o') v o:=λ{v o} e=>by
  cases o with
  |none=>exact e
  |some a=>obtain ⟨t,e1,e2⟩:=e;exact (t,e1,T e2)
 have S:∀{v:V} {o:Option (Addr×Addr)} {y:Option 270},yT H v o y->(∀b∈c8 o,b≠x)->yT (aR H x o') v o y:=λ{v o y} e n=>by
  match o,y,e with
  |none,none,e=>exact e
  |some (b,u),some (lo,hi,us),⟨l,e1,e2,e3,e4⟩=>exact ⟨l,e1,P e2 (n b (by simp[c8])),L e3,RT e4 (n u (by simp[c8]))⟩
 refine (λb u e=>?_,λb hb=>?_,h.nd,P h.em 242,?_,P h.es 242,h.len,λi k s e1 e2=>?_,RT h.ek 242)
 ·by_cases c:b=x
  ·rw[c] at e⊢;rw[ah] at e⊢;exact e
  ·rw[aB c] at e⊢;exact h.fr _ _ e
 ·rw[aB (ne hb)];exact h.nw b hb
 ·obtain ⟨vs,e,r⟩:=h.et;exact (vs,P e 242,r.imp λv x (t,b,e1,e2,e3,e4,e5)=>(t,b,e1,e2,e3,T e4,T e5))
 ·have no:∀b∈k.own,b≠x:=λb hb=>ne (lO (K7 e1) hb)
  obtain ⟨l,f,v,f1,f2,f3,f4,f5⟩:=h.ss i k s e1 e2;exact (l,f,v,P f1 (no k.a 524),L f2,F f3,RT f4 (no k.u 524),S f5 λb hb=>no b (by simp[Sk.own,hb]))
universe z0
def oX:wF:=λn vs H Q=>∃c:Int,vs= [.int c]/\∀(m:Nat) (l:Addr) (zt:List 195) (H':Hp),n<=m->aD H H'->H' l=some 262->Zs 279->(∀p∈zt,0<p.2/\p.2<m)->Q m 328 H'
def sE:wF:=λn vs H Q=>∃(lt lx:Addr) (us:List V) (ps:List 302),vs= [.ref lt,.ref lx]/\0<n/\H lt=some (.lst us)/\zW H n us ps/\ps≠ []/\(∀p∈ps,1<=p.1/\p.1<=60/\Nm p.2)/\qE H lx/\
 ∀(m:Nat) (l:Addr) (H':Hp) (p f:Nat×Str) (k t:Nat),n<=m->aD H H'->p∈ps->f∈ps->k<p.1->t<6->(3<=t->p.2≠f.2)->H' l=some (.lst [vN (1+k),.str (jB (lD p.2 f.2 t))])->Q m 328 H'
def Ag (H:Hp) (rl:Addr) (h:Str) (rs:List Rr) (M:Md):Prop:=H rl=some (.lst 277)/\(∀r∈rs,dh r)/\rs.length<=60/\b8 322 rs= .ok M
def qz (H:Hp) (n:Nat) (ln:Addr) (zt:List 195):Prop:=H ln=some 262/\Zs 279/\∀p∈zt,0<p.2/\p.2<n
theorem qz.pos {H:Hp} {n:Nat} {ln:Addr} {zt:List 195} (h:qz H n ln zt):0<n:=by
 have l:=h.2.1.len;rw[K6] at l
 match zt,l with
 |p::_,_=>have:=h.2.2 p Kd;lia
theorem qz.mono {H H':Hp} {n m:Nat} {ln:Addr} {zt:List 195} (h:qz H n ln zt) (g:aD H H') (l:n<=m):qz H' m ln zt:=(g _ _ h.1,h.2.1,λp hp=>by have:=h.2.2 p hp;lia)
def Ah:wF:=λn vs H Q=>∃(ln rl lx:Addr) (zt:List 195) (h:Str) (rs:List Rr) (M:Md),vs= [.ref ln,.ref rl,.ref lx]/\qz H n ln zt/\Ag H rl h rs M/\zY 279 rs/\qE H lx/\
 ∀(m:Nat) (l:Addr) (H':Hp) (at_:Nat) (z:Str),n<=m->aD H H'->fu .nostep rs at_ z->H' l=some (.lst [vN at_,.str z])->Q m 328 H'
def sF:Sp:=λvs H Q _=>∃(rl lx:Addr) (h:Str) (rs:List Rr) (M:Md),vs= [.ref rl,.ref lx]/\Ag H rl h rs M/\qE H lx/\(∀H',aD H H'->Q .non H')/\
 ∀(l:Addr) (H':Hp) (at_:Nat) (z:Str),aD H H'->fu .twice rs at_ z->H' l=some (.lst [vN at_,.str z])->Q 328 H'
def sG:wF:=λn vs H Q=>∃(ln rl lx:Addr) (zt:List 195) (z:Str) (p way:Nat) (rs:List Rr) (M:Md),vs= [.ref ln,.ref rl,.int way,.ref lx]/\qz H n ln zt/\Ag H rl (bS z p) rs M/\Nm z/\1<=p/\p<=1000/\zY 279 rs/\qE H lx/\
 ∀(m:Nat) (l:Addr) (H':Hp) (hd:wT) (xs:List kh),n<=m->aD H H'->wU hd->(∀x∈xs,rT x)->117<=1000->H' l=some (.lst [.str (iK hd xs).1,.int (iK hd xs).2,.str 221])->Q m 328 H'
universe Sw
namespace L2
open PySem PySem.Spec PyProof.Rows XH Sw
def Gy (ws:O6) (n m:Nat) (zt:List 195):Prop:=zt.map 182=ws/\n<=m/\∀q∈zt,n<=q.2/\q.2<m
structure Ai (X:Cx) (es:List Expr) (ws:O6):Prop where
 h:Gu X es (λn _ H Q=>∀m zt,Gy ws n m zt->Q m (dH zt) H)
theorem Aj {X:Cx}:Ai X [] []:=⟨λap pins s n σ H Q hn I h=>lR ap pins s n σ H Q hn I (h n [] (rfl,K4 _,λq hq=>nomatch hq))⟩
theorem cY {X:Cx} {z:Str} {p:Pos} {j} {es:List Expr} {ws:O6} (h:Ai X es ws):Ai X (.Constant 236 j p::es) (z::ws):=⟨λap pins s n σ H Q hn I hq=>gW zS h.h rfl ap pins s n σ H Q hn I λt ht m zt ok=>hq m ((z,t)::zt) ⟨by rw[Kl,ok.1],by have:=ok.2.1;lia,λq hq=>by
 rcases K1.mp hq with rfl|hq
 ·exact (ht,ok.2.1)
 ·have:=ok.2.2 q hq
  lia⟩⟩
def Gz (ws:O6):wy:=λn _ H Q=>ws.length<=sizeLine/\∀m zt p,Gy ws n m zt->H p=none->Q m 237 (aR H p 262)
theorem Ak {X:Cx} {es:List Expr} {ws:O6} {pos:Pos} (h:Ai X es ws):ja X 514 (Gz ws):=λpins s n σ H Q hn I (l,q)=>
 lS h.h pins s n σ H Q hn I λm zt ok=>⟨by have:=congrArg List.length ok.1;rw[K6] at this;rw[dH,K6,this];exact l,λp hp=>q m zt p ok hp⟩
theorem kM {k t n n':Nat} (h:k=t∨n<=k/\k<n') (t0:0<t) (tn:t<n) (l:n<=n'):0<k/\k<n':=by lia
structure CM (X:Cx) (b:List Stmt) (t:cV):Prop where
 h:lh X b t
theorem xA {X:Cx} {es:List Expr} {ws:O6} {pos pos' p2:Pos} {i:Nat} {x:Str} {rest:List Stmt} {u:cV} (hN:X.N.Nodup) (hi:X.N[i]?=some x) (hx:Loc X.env.scope x) (h:Ai X es ws) (hr:lh X rest u)
  (hs:swapsWith 514 (some (.Name x pos')) p2.line X.env=pure false:=by rfl) (hf:X.fn x=true∨X.env.scope.names.lookup x=some .local:=by first|exact .inl rfl|exact .inr rfl|assumption):
  CM X (.Assign [.Name x pos'] 514 p2::rest) (bh (F3 i (Gz ws)) u):=⟨aC (dz hN hi hx (Ak h) hs hf) hr⟩
theorem B3 {X:Cx} {c:Expr} {a b:List Stmt} {tc:TT} {t u:cV} {pos:Pos} (hc:PT X c tc) (ha:CM X a t) (hb:lh X b u):Ba X (.If c a b pos) (Jx tc t u):=ju hc ha.h hb
universe L2
namespace Sw
open PySem L2 XH Hm PySem.NumText
theorem zW.put {H:Hp} {m:Nat} {us:List V} {ps:List 302} {l:Addr} (h:zW H m us ps) (e:H l=some (.lst us)) (o:HO):zW (aR H l o) m us ps:=by
 refine A2.imp h λv p (a,t,e1,e2,e3,e4)=>(a,t,e1,?_,e3,e4)
 have ne:a≠l:=λz=>by
  subst z;rw[e] at e2;injection e2 with e2
  injection e2 with e2
  have h0:us[0]?=some (vN p.1):=by rw[e2];rfl
  obtain ⟨x,ex,b,t',r1,_⟩:=h.at_ h0;cases r1
 rw[aB ne];exact e2
theorem B4 {rs:List Rr} {i:Nat} {r:Rr} (h:rs[i]?=some r) (s:ur r=false):fJ rs 240=fJ rs i:=by
 rw[oW,h];cases r with
 |step w n lo hi f=>cases s
 |take g a=>exact Ke _
 |sec n lo hi=>exact Ke _
 |use o n u=>exact Ke _
 |link w a b t=>exact Ke _
theorem Al {rs:List Rr} {i:Nat} {r:Rr} (h:rs[i]?=some r) (s:ur r=true):fJ rs 240=fJ rs i++ [(i+1,sK r)]:=by
 rw[oW,h];cases r with
 |step w n lo hi f=>rfl
 |take g a=>cases s
 |sec n lo hi=>cases s
 |use o n u=>cases s
 |link w a b t=>cases s
theorem qE.six {H:Hp} {l:Addr} (h:qE H l):∃a b c d e f:Nat,H l=some (.lst [.int (a:Nat),.int (b:Nat),.int (c:Nat),.int (d:Nat),.int (e:Nat),.int (f:Nat)])/\a<2^31/\b<2^31/\c<2^31/\d<2^31/\e<2^31/\f<2^31:=by
 obtain ⟨xs,e,l6,b⟩:=h
 match xs,l6 with
 | [x0,x1,x2,x3,x4,x5],_=>
  have b0:=b x0 96
  have b1:=b x1 96
  have b2:=b x2 96
  have b3:=b x3 96
  have b4:=b x4 96
  have b5:=b x5 96
  refine (x0.toNat,x1.toNat,x2.toNat,x3.toNat,x4.toNat,x5.toNat,?_,by lia,by lia,by lia,by lia,by lia,by lia)
  rw[e,Li b0.1,Li b1.1,Li b2.1,Li b3.1,Li b4.1,Li b5.1]
  rfl
noncomputable def jw:O6:= ["or ","with ","orwith ","after F ","within ","apart F "]
noncomputable def jx:O6:= [" 1 2"," M 1 0"," M 1 0",""," F 3",""]
theorem xB {t:Nat} (h:t<6):jw[t]?=some (jw.getD t "")/\(jw.getD t "").length<=8/\jx[t]?=some (jx.getD t "")/\(jx.getD t "").length<=8:=by
 match t,h with
 |0,_=>exact 105
 |1,_=>exact 105
 |2,_=>exact 105
 |3,_=>exact 105
 |4,_=>exact 105
 |5,_=>exact 105
theorem fR {w z:Str} {c:Nat} (h:c∉sL w):Txt.replace w 181 z=w:=by
 apply dE;rw[jZ];exact iY h
theorem nh {u v z:Str} {c:Nat} (hu:c∉sL u) (hv:c∉sL v):Txt.replace (u++(bw [c]++v)) 181 z=u++(z++v):=by
 apply dE;rw[jZ,bC,bC,Lf,Lf,iY hu,iY hv,bC,bC]
 congr 1
 congr 1
 rw[bo];show (if c=c then sL z else [c])++ []=sL z
 rw[if_pos rfl,Ke]
theorem qA (n:Str):n++33 "" =n:=dE (by rw[bC,show sL (Str.ofString "")= [] from by decide,Ke])
theorem xC {n f:Str} {t:Nat} (ht:t<6):Txt.replace (jw.getD t "") (bw [70]) f++n++Txt.replace (jx.getD t "") (bw [70]) f=jB (lD n f t):=by
 have J:∀a b:Str,jB [a,b]=a++cL++b:=λa b=>by rw[aE,jA]
 match t,ht with
 |0,_=>
  show Txt.replace "or " _ f++n++Txt.replace " 1 2" _ f=jB ["or",n,"1","2"];rw[fR 45,fR 45,aE,aE,aE,jA]
  rw[show (" 1 2" :Str)=cL++("1" ++cL++ "2") from by decide,show ("or " :Str)= "or" ++cL from by decide]
  sleep 45
 |1,_=>
  show Txt.replace "with " _ f++n++Txt.replace " M 1 0" _ f=jB ["with",n,"M","1","0"];rw[fR 45,fR 45,aE,aE,aE,aE,jA]
  rw[show (" M 1 0" :Str)=cL++("M" ++cL++("1" ++cL++ "0")) from by decide,show ("with " :Str)= "with" ++cL from by decide]
  sleep 45
 |2,_=>
  show Txt.replace "orwith " _ f++n++Txt.replace " M 1 0" _ f=jB ["orwith",n,"M","1","0"];rw[fR 45,fR 45,aE,aE,aE,aE,jA]
  rw[show (" M 1 0" :Str)=cL++("M" ++cL++("1" ++cL++ "0")) from by decide,show ("orwith " :Str)= "orwith" ++cL from by decide]
  sleep 45
 |3,_=>
  show Txt.replace "after F " _ f++n++Txt.replace "" _ f=jB ["after",f,n];rw[show ("after F " :Str)=("after" ++cL)++(bw [70]++cL) from by decide,nh 45 45,fR 45,aE,aE,jA]
  simp only[Str.append_assoc,qA]
 |4,_=>
  show Txt.replace "within " _ f++n++Txt.replace " F 3" _ f=jB ["within",n,f,"3"];rw[fR 45,show (" F 3" :Str)=cL++(bw [70]++(cL++ "3")) from by decide,nh 45 45,aE,aE,aE,jA,show ("within " :Str)= "within" ++cL from by decide]
  sleep 45
 |5,_=>
  show Txt.replace "apart F " _ f++n++Txt.replace "" _ f=jB ["apart",f,n];rw[show ("apart F " :Str)=("apart" ++cL)++(bw [70]++cL) from by decide,nh 45 45,fR 45,aE,aE,jA]
  simp only[Str.append_assoc,qA]
noncomputable def uz:O6:= ["after Q ","after ","within ","apart ","apart Q ","orwith "]
noncomputable def uA:O6:= [""," Q"," Q 3"," Q",""," M 1 0"]
theorem B5 {t:Nat} (h:t<6):uz[t]?=some (uz.getD t "")/\(uz.getD t "").length<=8/\uA[t]?=some (uA.getD t "")/\(uA.getD t "").length<=8:=by
 match t,h with
 |0,_=>exact 105
 |1,_=>exact 105
 |2,_=>exact 105
 |3,_=>exact 105
 |4,_=>exact 105
 |5,_=>exact 105
theorem B6 {n:Str} {t:Nat} (ht:t<6):uz.getD t "" ++n++uA.getD t "" =jB (kL n t):=by
 match t,ht with
 |0,_=>
  show "after Q " ++n++ "" =jB ["after","Q",n];rw[qA,aE,aE,jA,show ("after Q " :Str)= "after" ++cL++("Q" ++cL) from by decide]
  sleep 45
 |1,_=>
  show "after " ++n++ " Q" =jB ["after",n,"Q"];rw[aE,aE,jA,show ("after " :Str)= "after" ++cL from by decide,show (" Q" :Str)=cL++ "Q" from by decide]
  sleep 45
 |2,_=>
  show "within " ++n++ " Q 3" =jB ["within",n,"Q","3"];rw[aE,aE,aE,jA,show ("within " :Str)= "within" ++cL from by decide,show (" Q 3" :Str)=cL++("Q" ++(cL++ "3")) from by decide]
  sleep 45
 |3,_=>
  show "apart " ++n++ " Q" =jB ["apart",n,"Q"];rw[aE,aE,jA,show ("apart " :Str)= "apart" ++cL from by decide,show (" Q" :Str)=cL++ "Q" from by decide]
  sleep 45
 |4,_=>
  show "apart Q " ++n++ "" =jB ["apart","Q",n];rw[qA,aE,aE,jA,show ("apart Q " :Str)= "apart" ++cL++("Q" ++cL) from by decide]
  sleep 45
 |5,_=>
  show "orwith " ++n++ " M 1 0" =jB ["orwith",n,"M","1","0"];rw[aE,aE,aE,aE,jA,show ("orwith " :Str)= "orwith" ++cL from by decide,show (" M 1 0" :Str)=cL++("M" ++(cL++("1" ++(cL++ "0")))) from by decide]
  sleep 45
noncomputable def Ao:O6:= ["or Q 1 2","with Q M 1 0","orwith Q M 1 0","after Q R","within R Q 0","apart Q R"]
theorem B7 {t:Nat} (h:t<6):Ao[t]?=some (jB (Ac.getD t [])):=by
 match t,h with
 |0,_=>exact congrArg some 38
 |1,_=>exact congrArg some 38
 |2,_=>exact congrArg some 38
 |3,_=>exact congrArg some 38
 |4,_=>exact congrArg some 38
 |5,_=>exact congrArg some 38
theorem qB {zt:List 195} (h:Zs 279) {i:Nat} (hi:i<12):∃(z:Str) (t:Nat),eZ (dH zt) (i:Int)=some (.raw z t)/\Nm z/\(z,t)∈zt/\(zt.map 182)[i]?=some z:=by
 have l:zt.length=12:=by have:=h.len;simpa using this
 have il:i<zt.length:=by lia
 exists zt[i].1,zt[i].2,?_,h.nm _ (KH.mpr (_,Lc il,rfl)),Lc il
 ·refine aF (j:=i) ?_;unfold dH;rw[KA,K3 il]
  rfl
 ·rw[KA,K3 il]
  rfl
noncomputable def GA:Rr->Bool
 | .link _ _ _ _=>false
 |_=>true
noncomputable def Ec:Rr->Bool
 | .sec _ _ _=>true
 |_=>false
noncomputable def IQ:Rr->Bool
 | .use _ _ _=>true
 |_=>false
theorem nj {r:Rr} (h:dh r):md 310 291=GA r/\decide (V.str (ny r)=V.str "or")=Ec r/\md 310 225=IQ r:=by
 have C:∀{w:Str} {b c d:Bool},md 255 291=b->decide (V.str w=V.str "or")=c->md 255 225=d->∀{x},x=w->md (.str x) 291=b/\decide (V.str x=V.str "or")=c/\md (.str x) 225=d:=λ{w b c d} h1 h2 h3 {x} e=>by rw[e];exact (h1,h2,h3)
 cases r with
 |take g a=>exact C (w:= "take") (b:=true) (c:=false) (d:=false) 38 38 38 rfl
 |step w n lo hi f=>
  sleep 211;rcases h1 with rfl|rfl|rfl
  ·exact C (w:= "cut") (b:=true) (c:=false) (d:=false) 38 38 38 rfl
  ·exact C (w:= "rest") (b:=true) (c:=false) (d:=false) 38 38 38 rfl
  ·exact C (w:= "warm") (b:=true) (c:=false) (d:=false) 38 38 38 rfl
 |sec n lo hi=>exact C (w:= "or") (b:=true) (c:=true) (d:=false) 38 38 38 rfl
 |use o n u=>
  cases o
  ·exact C (w:= "with") (b:=true) (c:=false) (d:=true) 38 38 38 rfl
  ·exact C (w:= "orwith") (b:=true) (c:=false) (d:=true) 38 38 38 rfl
 |link w a b t=>
  sleep 211;rcases h1 with rfl|rfl|rfl
  ·exact C (w:= "after") (b:=false) (c:=false) (d:=false) 38 38 38 rfl
  ·exact C (w:= "within") (b:=false) (c:=false) (d:=false) 38 38 38 rfl
  ·exact C (w:= "apart") (b:=false) (c:=false) (d:=false) 38 38 38 rfl
theorem Ed {r:Rr} (h:dh r):Nm (sK r):=by
 cases r with
 |take g a=>exact h.1
 |step w n lo hi f=>exact h.2.1
 |sec n lo hi=>exact h.1
 |use o n u=>exact h.1
 |link w a b t=>exact h.2.1
theorem B8 {r:Rr} (h:dh r):(ny r).length<=12:=by
 have E:∀{w:Str},w.length<=12->∀{x},x=w->x.length<=12:=λ{w} h {x} e=>by rw[e];exact h
 cases r with
 |take g a=>exact E (w:= "take") 45 rfl
 |step w n lo hi f=>
  sleep 211;rcases h1 with rfl|rfl|rfl
  ·exact E (w:= "cut") 45 rfl
  ·exact E (w:= "rest") 45 rfl
  ·exact E (w:= "warm") 45 rfl
 |sec n lo hi=>exact E (w:= "or") 45 rfl
 |use o n u=>
  cases o
  ·exact E (w:= "with") 45 rfl
  ·exact E (w:= "orwith") 45 rfl
 |link w a b t=>
  sleep 211;rcases h1 with rfl|rfl|rfl
  ·exact E (w:= "after") 45 rfl
  ·exact E (w:= "within") 45 rfl
  ·exact E (w:= "apart") 45 rfl
noncomputable def jy:O6:= ["cut ","rest ","warm "]
noncomputable def kN:O6:= [" 1 1"," 1 1"," 1 1 1"]
theorem xD {t:Nat} (h:t<3):jy[t]?=some (jy.getD t "")/\(jy.getD t "").length<=8/\kN[t]?=some (kN.getD t "")/\(kN.getD t "").length<=8:=by
 match t,h with
 |0,_=>exact 105
 |1,_=>exact 105
 |2,_=>exact 105
noncomputable def Jy (r:Rr):Str:= "take " ++sK r++ " 1/3"
noncomputable def IR (r:Rr) (t:Nat):Str:=if ur r=true then jy.getD t "" ++sK r++kN.getD t "" else Jy r
noncomputable def IS (r:Rr) (t:Nat):Str:=if Ec r=true then "or " ++sK r++ " 1 1" else IR r t
noncomputable def Jz (r:Rr) (t:Nat):Str:=match r with
 | .use o n u=>ny (.use o n u)++ " " ++n++ " " ++u.1++ " 1 0"
 |r=>IS r t
theorem Ee (z:Str):Str.ofString "warm " ++z++33 " 1 1 1" =dC (.step "warm" z 1 1 (some (1,1))):=by
 show _=jB ["warm",z,aS 1,aS 1,lq (1,1)];rw[BL,aE,aE,aE,aE,jA,show Str.ofString "warm " =Str.ofString "warm" ++cL from by decide,show Str.ofString " 1 1 1" =cL++aS 1++cL++aS 1++cL++aS 1 from by decide+kernel]
 sleep 208
theorem B9 (z:Str):Str.ofString "rest " ++z++33 " 1 1" =dC (.step "rest" z 1 1 none):=by
 show _=jB ["rest",z,aS 1,aS 1];rw[aE,aE,aE,jA,show Str.ofString "rest " =Str.ofString "rest" ++cL from by decide,show Str.ofString " 1 1" =cL++aS 1++cL++aS 1 from by decide+kernel]
 sleep 208
theorem Ef (z:Str):Str.ofString "or " ++z++33 " 1 1" =dC (.sec z 1 1):=by
 show _=jB ["or",z,aS 1,aS 1];rw[aE,aE,aE,jA,show Str.ofString "or " =Str.ofString "or" ++cL from by decide,show Str.ofString " 1 1" =cL++aS 1++cL++aS 1 from by decide+kernel]
 sleep 208
theorem Ap (z:Str):Str.ofString "take " ++z++33 " 1/3" =dC (.take z (1,3)):=by
 show _=jB ["take",z,lq (1,3)];rw[aE,aE,jA,show Str.ofString "take " =Str.ofString "take" ++cL from by decide,show Str.ofString " 1/3" =cL++lq (1,3) from by decide+kernel]
 sleep 208
theorem Aq (o:Bool) (z y:Str):ny (.use o z (y,1,0))++33 " " ++z++33 " " ++y++33 " 1 0" =dC (.use o z (y,1,0)):=by
 show _=jB [if o=true then 33 "orwith" else 33 "with",z,y,aS 1,aS 0]
 rw[aE,aE,aE,aE,jA,show Str.ofString " 1 0" =cL++aS 1++cL++aS 0 from by decide+kernel,show Str.ofString " " =cL from by decide]
 sleep 208
 rfl
theorem GB:vE (1,3):=(yZ (t:=1) (b:=3) 45 45 45 45).1
theorem IT:vE (1,1):=(Cu (w:=1) 45 38).1
theorem Ca:tI 1 1:=(by decide,by decide,by decide)
theorem Eg {r:Rr} (h:dh r) (a:GA r=true) {t:Nat} (ht:t<3):∃r',Jz r t=dC r'/\vW r r'/\dh r':=by
 cases r with
 |take g am=>exact ⟨.take g (1,3),Ap g,rfl,h.1,GB⟩
 |step w n lo hi f=>
  match t,ht with
  |0,_=>exact ⟨.step "cut" n 1 1 none,BM n,rfl,.inl rfl,h.2.1,Ca,show 33 "cut" ≠ "warm" from by decide⟩
  |1,_=>exact ⟨.step "rest" n 1 1 none,B9 n,rfl,.inr 174,h.2.1,Ca,show 33 "rest" ≠ "warm" from by decide⟩
  |2,_=>exact ⟨.step "warm" n 1 1 (some (1,1)),Ee n,rfl,.inr 243,h.2.1,Ca,rfl,IT⟩
 |sec n lo hi=>exact ⟨.sec n 1 1,Ef n,rfl,h.1,Ca⟩
 |use o n u=>exact ⟨.use o n (u.1,1,0),Aq o n u.1,⟨rfl,rfl,rfl⟩,h.1,h.2.1,K4 _,(by show (1:Nat)<=8;decide),(by show (0:Nat)<=1000;decide)⟩
 |link w x y t=>cases a
def nJ (rs:List Rr) (due:Str) (at_:Nat) (x:kh):Prop:=∃k,at_=1+k/\k<=rs.length/\rT x/\∀rest zz p,iK (.ok zz p) ((rs.take k).map .ok++x::rest)=(due,((1+k:Nat):Int))
theorem nJ.bad {rs:List Rr} {M:Md} (h:b8 142 rs= .ok M) {k:Nat} (kl:k<=rs.length) {z:Str} (g:rT (.bad z)):nJ rs "row" (1+k) (.bad z):=⟨k,rfl,kl,g,λrest zz p=>by
 obtain ⟨M1,e1,_⟩:=dZ h k;show (match gh ⟨[],[],[]⟩ 1 ((rs.take k).map .ok++ .bad z::rest) with| .ok _=>_| .error e=>outF e)=_
 rw[gU e1,ut kl]
 rfl⟩
theorem nJ.put {f:iT} {due:Str} {rs:List Rr} {at_:Nat} {z:Str} (h:fu f rs at_ z) (hd:∀i,outF (.flt f i)=(due,(i:Int))):∃x,z=fU x/\nJ rs due at_ x:=by
 obtain ⟨k,r,e,kl,ez,ro,run⟩:=h;refine (.ok r,ez,k,e,kl,ro,λrest zz p=>?_)
 show (match gh ⟨[],[],[]⟩ 1 ((rs.take k).map .ok++ .ok r::rest) with| .ok _=>_| .error e=>outF e)=_
 rw[run rest];exact hd _
def uB (hd:wT) (xs:List kh) (due:Str) (at_:Int):Prop:=wU hd/\(∀x∈xs,rT x)/\xs.length<=61/\∀rest,iK hd (xs++rest)=(due,at_)
theorem uB.of {rs:List Rr} {due:Str} {at_:Nat} {x:kh} (h:nJ rs due at_ x) (ok:∀r∈rs,dh r) (l:rs.length<=60) {z:Str} {p:Nat} (nz:Nm z) (p1:1<=p) (p2:p<=1000):
  ∃xs,uB (.ok z p) xs due (at_:Int)/\∀H:O6,H=bS z p::rs.map dC->(H.take at_).map V.str++ [V.str (fU x)]++(H.drop at_).map V.str=(hdT (.ok z p)::xs.map fU).map V.str:=by
 obtain ⟨k,rfl,kl,xo,o⟩:=h;refine ((rs.take k).map .ok++x::(rs.drop k).map .ok,((nz,p1,p2),λy hy=>?_,?_,λrest=>?_),λH eH=>?_)
 ·rcases KD.mp hy with hy|hy
  ·obtain ⟨r,hr,rfl⟩:=KH.mp hy;exact ok r (List.mem_of_mem_take hr)
  ·rcases K1.mp hy with rfl|hy
   ·exact xo
   ·obtain ⟨r,hr,rfl⟩:=KH.mp hy;exact ok r (Lq hr)
 ·simp
  lia
 ·rw[L7,Lh];exact o _ _ _
 ·subst eH;rw[show 1+k=k+1 by lia,List.take_succ_cons,List.drop_succ_cons]
  simp[hdT,fU,List.map_take,List.map_drop,Function.comp_def]
theorem uB.head {z:Str} (h:wU (.bad z)) {rs:List Rr} (ok:∀r∈rs,dh r) (l:rs.length<=60):uB (.bad z) (rs.map .ok) "row" 0:=⟨h,λy hy=>by
 obtain ⟨r,hr,rfl⟩:=KH.mp hy;exact ok r hr,by rw[K6];lia,λ_=>rfl⟩
theorem Eh {h:wT} (g:wU h):(hdT h).length<=400:=by
 cases h with
 |ok n p=>exact (mT g.1 g.2.2).2
 |bad z=>exact g.2.1
universe Sw
namespace Lk36
open PySem L2 Sw XH PyProof.Rows Hm
abbrev Pb (x:Addr):Option V:=some 558
theorem bU {X:Cx} {N P:O6} {sp:Scope} (i:Nat) (sc:aK N P sp) {x:Str} {e:Expr} {te:TE} {pos pos':Pos} (he:PE X e te) (hi:X.N[i]?=some x:=by rfl) (hx:Loc X.env.scope x:=by exact Or.inl rfl) (hn:X.N=N:=by rfl) (hs:swapsWith e (some (.Name x pos')) pos.line X.env=pure false:=by rfl) (hf:X.fn x=true∨X.env.scope.names.lookup x=some .local:=by first|exact .inl rfl|exact .inr rfl|assumption):PS X (.Assign [.Name x pos'] e pos) (AC te (bv i)):=sQ (hn▸sc.nd) hi hx he hs hf
theorem jC {X:Cx} {N P:O6} {sp:Scope} (i:Nat) (sc:aK N P sp) {x:Str} {pos:Pos} (hi:X.N[i]?=some x:=by rfl) (hx:Loc X.env.scope x:=by exact Or.inl rfl) (hn:X.N=N:=by rfl) (hf:X.fn x=true∨X.env.scope.names.lookup x=some .local:=by first|exact .inl rfl|exact .inr rfl|assumption):PG X (.Name x pos) (bv i):=uF (hn▸sc.nd) hi hx hf
theorem fS {X:Cx} {k j:Nat} {x:Str} {ps:O6} {dvs:List V} {sp:Sp} {e:Expr} {es:List Expr} {t:TA} {p pos:Pos} (D:Dx X.prog X.w X.K X.mg X.base bX k x ps dvs sp) (hr:cx j X.A) (ha:PA X (e::es) t) (hk:k<=j:=by decide) (hg:Gl X x:=by rfl) (hdb:116=false:=by decide) (he:starEach (e::es) X.env=(false,eval e X.env)::starEach es X.env:=by rfl) (hpl:(backTo pos 137).any 182=false:=by rfl):PE X 134 (jG sp [] E0 t):=Dd D hr hk hg ha hdb he hpl
noncomputable def top (i:Nat):Stmt:=PySem.Challenge.pw_stovework_k36_rows_refused.main.body.getD i (.Pass ⟨0,0,0,0⟩)
noncomputable def clsAt (s:Stmt) (i:Nat):Stmt:=match s with| .ClassDef _ _ _ body _ _ _ _ _ _ _=>body.getD i (.Pass ⟨0,0,0,0⟩)|_=>s
abbrev IU:Stmt:=top 13
abbrev IV:Stmt:=top 15
abbrev IW:Stmt:=top 16
abbrev HF:Stmt:=top 18
abbrev IX:Stmt:=top 19
abbrev IY:Stmt:=top 20
abbrev IZ:Stmt:=top 22
abbrev Ja:Stmt:=top 25
abbrev Jb:Stmt:=top 24
abbrev Jc:Stmt:=top 23
abbrev Ei:Stmt:=top 29
abbrev Ej:Stmt:=top 31
abbrev Ek:Stmt:=top 32
abbrev El:Stmt:=top 37
abbrev Em:Stmt:=top 36
abbrev En:Stmt:=top 35
abbrev Eo:Stmt:=top 57
abbrev Ep:Stmt:=top 56
abbrev Er:Stmt:=top 66
abbrev Es:Stmt:=top 67
abbrev Et:Stmt:=top 65
abbrev Eu:Stmt:=top 59
abbrev Ev:Stmt:=top 64
abbrev Cb:Stmt:=clsAt (top 39) 0
abbrev Cc:Stmt:=clsAt (top 41) 0
abbrev Ew:Stmt:=clsAt (top 44) 0
abbrev Ex:Stmt:=top 55
abbrev Ey:Stmt:=top 61
abbrev Ez:Stmt:=top 60
abbrev EA:Stmt:=top 62
abbrev EB:Stmt:=top 63
abbrev EC:Stmt:=top 58
abbrev ED:Stmt:=top 54
abbrev EE:Stmt:=top 69
abbrev Cd:Stmt:=top 70
abbrev EF:Stmt:=top 71
abbrev EG:Stmt:=top 72
abbrev EH:Stmt:=top 73
abbrev EI:Stmt:=top 74
abbrev EJ:Stmt:=top 75
abbrev EK:Stmt:=top 76
abbrev EL:Stmt:=top 77
abbrev EM:Stmt:=top 78
abbrev EN:Stmt:=top 79
abbrev EO:Stmt:=top 80
abbrev EQ:Stmt:=top 81
abbrev ER:Stmt:=top 82
abbrev ES:Stmt:=top 83
abbrev ET:Stmt:=top 84
abbrev EU:Stmt:=top 85
abbrev EV:Stmt:=top 86
abbrev EW:Stmt:=top 87
abbrev EX:Stmt:=top 88
abbrev EY:Stmt:=top 89
abbrev EZ:Stmt:=top 90
abbrev qC:Stmt:=top 91
abbrev i4:Stmt:=clsAt (top 7) 0
abbrev gX:Stmt:=clsAt (top 8) 0
abbrev i6:Stmt:=clsAt (top 9) 0
noncomputable def v6:List (Str×List V):= [("dish",[.str "name",.str "plates"]),("take",[.str "name",.str "amount"]),("cut",[.str "name",.str "length",.str "length"]),("rest",[.str "name",.str "length",.str "length"]),("warm",[.str "name",.str "length",.str "length",.str "amount"]),("or",[.str "name",.str "length",.str "length"]),("with",[.str "name",.str "name",.str "many",.str "heat"]),("orwith",[.str "name",.str "name",.str "many",.str "heat"]),("after",[.str "name",.str "name"]),("within",[.str "name",.str "name",.str "turns"]),("apart",[.str "name",.str "name"])]
noncomputable def sH:List (Str×List V):= [("plates",[.int 1,.int 1000]),("length",[.int 1,.int 100000]),("many",[.int 1,.int 8]),("heat",[.int 0,.int 1000]),("turns",[.int 0,.int 100000]),("course",[.int 1,.int 8]),("parts",[.int 0,.int 400]),("low",[.int 0,.int 1000000000000000])]
structure Bn (w:World) (K:K0) (mg:O3) (Mz Me MB Ml Mc Mo Mh Lz on KT Mb Mg Mp Ma mt KK Mn LE MR M3 Nu:Addr):Prop where
 Oq:∃t,mg "LETTERS" =some (.str "abcdefghijklmnopqrstuvwxyz" t)
 NP:∃t,mg "MOST_LETTERS" =some (.int 12 t)
 Os:∃t,mg "FIGURES" =some (.str "0123456789" t)
 NQ:∃t,mg "MOST_FIGURES" =some (.int 30 t)
 N9:∃t,mg "MOST_TAKES" =some (.int 12 t)
 Oa:∃t,mg "MOST_STEPS" =some (.int 12 t)
 Oh:∃t,mg "MOST_USES" =some (.int 12 t)
 Ob:∃t,mg "MOST_LINKS" =some (.int 24 t)
 Oc:mg "ValueError" =none
 ON:mg "abs" =none
 Oy:mg "bool" =none
 Nv:mg "enumerate" =none
 Ox:mg "int" =none
 Mf:mg "isinstance" =none
 Mm:mg "len" =none
 NS:mg "list" =none
 Ni:mg "range" =none
 MK:mg "str" =none
 OV:mg "zip" =none
 Ow:mg "BOUNDS" =some (.ref Mz)
 OU:mg "Cut" =some 282
 Om:mg "FORMS" =some (.ref MB)
 N8:mg "LINK_WORDS" =some (.ref Ml)
 MS:mg "NoAmount" =some 272
 Ov:mg "NoName" =some 439
 Ol:mg "NoNumber" =some 440
 NC:mg "NoRow" =some 156
 NI:mg "NoStep" =some 155
 Ou:mg "Recipe" =some (.ref KT)
 OR:mg "Rest" =some 283
 Na:mg "STEP_WORDS" =some (.ref Mg)
 OQ:mg "Step" =some 488
 N7:mg "StoveError" =some 368
 NZ:mg "TooMany" =some 163
 N6:mg "Twice" =some 157
 Og:mg "USE_WORDS" =some (.ref Mn)
 OP:mg "Warm" =some 273
 MZ:rD K Mg ["cut","rest","warm"]
 N0:rD K Mn ["with","orwith"]
 NU:rD K Ml ["after","within","apart"]
 Oi:rF w K MB v6
 Ot:rF w K Mz sH
 NG:Lv K Mc At "ValueError.__new__" =true
 OS:XI K Mc
 Oo:Lv K mt At "ValueError.__new__" =true
 MC:XI K mt
 Oj:XT K Mc
 N2:XT K Ma
 MX:LC K 272 272=some true
 M5:LC K 156 368=some true
 MW:LC K 155 368=some true
 M4:LC K 157 368=some true
 MT:LC K 163 368=some true
 Of:K2 K 272 368=some true
 Nr:K2 K 156 272=some false
 NO:K2 K 156 439=some false
 Nq:K2 K 156 440=some false
 NY:K2 K 156 156=some true
 NN:K2 K 156 155=some false
 NX:K2 K 156 157=some false
 NB:K2 K 156 163=some false
 Nd:K2 K 155 272=some false
 NA:K2 K 155 439=some false
 Nc:K2 K 155 440=some false
 NM:K2 K 155 156=some false
 Nz:K2 K 155 155=some true
 NL:K2 K 155 157=some false
 Np:K2 K 155 163=some false
 Nl:K2 K 157 272=some false
 NK:K2 K 157 439=some false
 Nk:K2 K 157 440=some false
 NW:K2 K 157 156=some false
 NJ:K2 K 157 155=some false
 NV:K2 K 157 157=some true
 Nw:K2 K 157 163=some false
 M8:K2 K 163 272=some false
 No:K2 K 163 439=some false
 M7:K2 K 163 440=some false
 Ny:K2 K 163 156=some false
 Nn:K2 K 163 155=some false
 Nx:K2 K 163 157=some false
 Nb:K2 K 163 163=some true
 M9:K2 K 156 224=some true
 MY:K2 K 155 224=some true
 M6:K2 K 157 224=some true
 MV:K2 K 163 224=some true
 Oe:XA K Lz Ma
 N5:Kc K 156 "at" =some none
 NT:XA K on Ma
 NH:Kc K 155 "at" =some none
 Od:XA K KK Ma
 N4:Kc K 157 "at" =some none
 MN:XI K Lz
 My:XI K on
 MM:XI K KK
 O0:pk K Mp
 OZ:Mk K Mp MR
 NR:pk K Me
 OO:Mk K Me MR
 Nh:pk K Mb
 OG:Mk K Mb MR
 Ng:pk K LE
 OF:Mk K LE M3
 Mi:pk K KT
 Op:Mk K KT Nu
 MP:aO K Me "name"
 MJ:aO K Me "least"
 MQ:aO K Me "most"
 MO:aO K Me "uses"
 Mw:aO K Me "second"
 MH:aO K Mb "name"
 Mu:aO K Mb "least"
 MI:aO K Mb "most"
 MG:aO K Mb "uses"
 Ms:aO K Mb "second"
 ME:aO K LE "name"
 Mt:aO K LE "least"
 MF:aO K LE "most"
 MD:aO K LE "uses"
 Mr:aO K LE "second"
 N3:aO K LE "fill"
 MU:aO K KT "name"
 Nj:aO K KT "plates"
 Mq:aO K KT "takes"
 Mj:aO K KT "steps"
 MA:aO K KT "links"
 Nt:Dg K Mp "__init__" MR
 OX:Aw K Mp
 O1:Aw K Me
 OY:Aw K Mb
 OW:Aw K LE
 OT:Aw K KT
 OM:K2 K 282 282=some true
 OL:K2 K 282 283=some false
 OJ:K2 K 282 273=some false
 OK:K2 K 282 488=some true
 OI:K2 K 283 282=some false
 OE:K2 K 283 283=some true
 OC:K2 K 283 273=some false
 OD:K2 K 283 488=some true
 OH:K2 K 273 282=some false
 OB:K2 K 273 283=some false
 Oz:K2 K 273 273=some true
 OA:K2 K 273 488=some true
 On:K2 K (.ref KT) (.ref KT)=some true
section
variable {P:Program} {w:World} {K:K0} {mg:O3} {base:Heap} {f:Addr} {fd:FuncData} {Mz Me MB Ml Mc Mo Mh Lz on KT Mb Mg Mp Ma mt KK Mn LE MR M3 Nu:Addr}
variable (B:Bn w K mg Mz Me MB Ml Mc Mo Mh Lz on KT Mb Mg Mp Ma mt KK Mn LE MR M3 Nu)
include B
theorem Ar {dV:Value} (F:bG K "__init__" "NoRow.__init__" i4 dV f fd):564 bX 1 f fd ["self","at"] (fe Lz "at"):=by
 have sc:aK ["self","at"] ["self","at"] (az i4):=eL 38
 sleep 34
 ·obtain ⟨a,y,n,rfl,_⟩:=h
  rfl
 refine gQ h λa y n _hi=>?_
 refine bI _hi λ_r1 e q=>?_
 sleep 9;exact (_,425,y,rfl,ν,a,Lz,Ma,n,rfl,e,B.Oe,B.N5,q)
theorem xE {dV:Value} (F:bG K "__init__" "NoStep.__init__" gX dV f fd):564 bX 1 f fd ["self","at"] (fe on "at"):=by
 have sc:aK ["self","at"] ["self","at"] (az gX):=eL 38
 sleep 34
 ·obtain ⟨a,y,n,rfl,_⟩:=h
  rfl
 refine gQ h λa y n _hi=>?_
 refine bI _hi λ_r1 e q=>?_
 sleep 9;exact (_,425,y,rfl,ν,a,on,Ma,n,rfl,e,B.NT,B.NH,q)
theorem As {dV:Value} (F:bG K "__init__" "Twice.__init__" i6 dV f fd):564 bX 1 f fd ["self","at"] (fe KK "at"):=by
 have sc:aK ["self","at"] ["self","at"] (az i6):=eL 38
 sleep 34
 ·obtain ⟨a,y,n,rfl,_⟩:=h
  rfl
 refine gQ h λa y n _hi=>?_
 refine bI _hi λ_r1 e q=>?_
 sleep 9;exact (_,425,y,rfl,ν,a,KK,Ma,n,rfl,e,B.Od,B.N4,q)
theorem Jd {dV:Value} (F:bG K "read_figures" "read_figures" IU dV f fd):564 bX 1 f fd ["word"] tF:=by
 have sc:aK ["word","sign"] ["word"] (az IU):=eL 38
 sleep 184
 sleep 151
 sleep 82
 sleep 9;have hz':z.length<=sizeLine:=KC hz 45
 have hl:=cv z;exists _,(aj (aW (PW.pt (dJ (ay lY 269 ac 127) (di (ay nN 269 (gO rfl B.NQ) 127)))) 261 aI) (aj (aW (PW.pt (o6 (580 (ar xW 98 ac 68) aw 127) (lF (ay kQ 98 aw 127)))) 261 aI) (aj (576 (yA 98) (jC 1 sc) (aq (aW (ay fL 107 (q9 rfl B.Os) 108) 261 aI))) (aq (aM (bF pO rfl B.Ox boot_int 367))))))
 try dsimp only[cxK]
 sleep 72;refine 231
 ·exact q0 (iM λf=>by have:=f.1;lia)
 ·exact q0 (iM λf=>by have:=f.2.1;lia)
 have hb_:∃c r,sL z=c::r:=by
  cases e:sL z with
  |nil=>rw[e] at hl;simp at hl;lia
  |cons c r=>exact (aG c r rfl)
 refine dB hb_ λc0 r0 el=>?_
 try dsimp only[bv,bJ]
 refine cut (λσ H'=>σ= [some 236,none]/\H'=H/\(c0≠48∨sL z= [48])) 94 ?_
 ·refine (ν,cO z 0 c0 (rfl,rfl,hz',(by show eZ 316 ((0:Nat):Int)=some c0;exact aF (by rw[el];rfl)),rfl,ν,Dk (λe1=>(ν,rfl,ν,yF (λe2=>?_) (λe2=>?_))) (λe1=>?_)))
  ·refine q0 (iM λf=>?_)
   have c48:c0=48:=by
    have:=congrArg sL (e1.trans lK);rw[tD,bo,bo] at this;cases this
    rfl
   rcases f.2.2.1 with h|h
   ·exact h (by rw[el,c48];rfl)
   ·exact e2 (dE (by rw[h,lK,bo]))
  ·exact hN _ _ (rfl,rfl,.inr (by rw[e2,lK,bo]))
  ·refine hN _ _ (rfl,rfl,.inl λe=>e1 ?_)
   rw[e,lK]
   rfl
 intro σ H' h_;refine bI h_ λ_r1 _r2 hd=>?_
 clear h_;sleep 2;refine (ν,z,rfl,uZ (λi σ H2=>H2=H'/\(∃o,σ= [some 236,o])/\∀j c,j<i->z.cps[j]?=some c->48<=c/\c<=57) (rfl,⟨ν⟩,λj c h=>absurd h 93) (λi c σ H2 hc hP=>?_) (λσ H2 hP=>?_))
 ·sleep 142;sleep 64
  ·have e':=(vg c).symm.trans e;refine q0 (iM λf=>?_)
   have:=f.2.2.2 c 366
   rw[decide_eq_true this] at e';cases e'
  ·have e':=(vg c).symm.trans e;refine (rfl,⟨ν⟩,λj c' hj hc'=>?_)
   rcases Nat.lt_succ_iff_lt_or_eq.mp hj with k|k
   ·exact hP j c' k hc'
   ·subst k;rw[hc] at hc';cases hc';exact of_decide_eq_true e'
 ·sleep 142;have f:A4 (sL z):=by
   refine (by lia,by lia,?_,λc hc=>?_)
   ·rcases hd with h|h
    ·exact .inl (by rw[el];simp;exact h)
    ·exact .inr h
   ·sleep 114
    exact hP i c (by have:=(Lp.mp hi').1;exact this) hi'
  exact (ν,aG z _ (rfl,int_text f,by have:=f.2.1;lia,q1 _ (tw f)))
theorem Je {dV:Value} (F:bG K "is_whole" "is_whole" IV dV f fd):564 bX 1 f fd ["thing"] iL:=by
 have sc:aK ["thing"] ["thing"] (az IV):=eL 38
 sleep 184
 refine bx h λv _hi=>?_
 sleep 180
 sleep 9;sleep 27;try dsimp only[cxK]
 sleep 203
theorem Jf {dV:Value} (F:bG K "divisor" "divisor" IW dV f fd):564 bX 1 f fd ["one","other"] Cg:=by
 have sc:aK ["one","other","greater","lesser","rest"] ["one","other"] (az IW):=eL 38
 sleep 184
 sleep 175
 sleep 180
 sleep 9;exists _,(aj (569 (aP qN rfl B.ON boot_abs 367)) (aj (582 (aP qN rfl B.ON boot_abs 192)) (aj (qK PassesOwn.never (ay kQ 139 ac 127) (aj (581 (577 144 139)) (aj (569 139) (aq (582 297))))) (aq (aM 144)))));try dsimp only[cxK]
 sleep 72;exists ν,ν,ν,ν;refine qM (λσ H'=>H'=H/\∃(g l:Int) (r:Option V),σ= [some 562,some 561,some (.int g),some (.int l),r]/\0<=g/\0<=l/\bN g l=bN a b)
  (λ(σ:L2.St) (_:Hp)=>match σ[3]? with|some (some (V.int l))=>l.toNat|_=>0) ⟨rfl,cO _ _ _ ⟨rfl,uO a,uO b,ya a b⟩⟩ ?_ (λσ H Q Q' m ⟨v,e,s,k,hk,h2⟩=>⟨v,e,s,k,hk,m _ _ h2⟩)
 intro σ H' h_;sleep 8
 refine gQ _hi λg l r _hj=>?_
 refine cN _hj λ_r2 g0 l0 inv=>?_
 sleep 6;subst _r2;refine (ν,rfl,ν,JN 298 298)
 ·have lp:0<l:=by lia
  refine (ν,ν,aG _ _ (rfl,rfl,c,ν,ν,544,?_))
  ·rw[nX lp];exact inv
  ·have h1:=Ko g lp;have h2:=KN g lp;show (g.fmod l).toNat<l.toNat
   lia
 ·subst c;rw[nY g0] at inv;rw[<-inv] at q;exact (ν,q)
theorem Jg {dV:Value} (F:bG K "fraction" "fraction" HF dV f fd) (DZ1:563 bX 1 "is_whole" ["thing"] [] iL) (DZ2:563 bX 1 "divisor" ["one","other"] [] Cg):564 bX 2 f fd ["top","bottom"] AS:=by
 have sc:aK ["top","bottom","common"] ["top","bottom"] (az HF):=eL 38
 sleep 184
 sleep 175
 refine cN _hi λ_r1 b0 hb q=>?_
 sleep 9;exists _,(aj (aW (PW.pt (dJ (iu (eW (fS DZ1 hr 367))) (di (iu (eW (fS DZ1 hr 192)))))) (aq qJ) aI) (aj (aW (580 107 ac 127) (aq qJ) aI) (aj (569 (fS DZ2 hr (98<*>192))) (aj (aW (ay lY 107 ac 127) (aq (569 (lX jf 144))) aI) (aq (aM (@bZ _ _ _ _ _ ((av cu 98 144)<*>((av cu 107 144)<*>ak)))))))));try dsimp only[cxK]
 sleep 40;have c0:=yc (a:=a) b0;have cb:=C4 (a:=a) b0 hb;have f:=Fx (a:=a) b0;refine (ν,ν,true,rfl,cE (ν,ν,true,rfl,cE ?_));refine (ν,rfl,ν,JO b0 ?_);refine (ν,ν,aG _ _ (rfl,?_));refine (ν,aG _ _ 543)
 ·have e:nZ a b= -bN a b:=if_pos c;rw[e] at c0 cb f;exact (ν,ν,ν,ν,aG _ _ 223)
 ·have e:nZ a b=bN a b:=if_neg c;rw[e] at c0 cb f;exact (ν,ν,aG _ _ 223)
theorem Jh {dV:Value} (F:bG K "plus" "plus" IX dV f fd) (DZ3:563 bX 2 "fraction" ["top","bottom"] [.int 1] AS):564 bX 3 f fd ["one","other"] (yf K):=by
 have sc:aK ["one","other"] ["one","other"] (az IX):=eL 38
 sleep 184
 refine xF h λt t' p q p' q' _hi=>?_
 refine cN _hi λ_r1 h1 h2 qq=>?_
 sleep 9;exists _,(aq (aM (fS DZ3 hr ((av bV (av eI 319 300) (av eI 300 319))<*>((av eI 319 300)<*>ak)))))
 try dsimp only[cxK]
 exact (ν,aL _ _ _ _ (rfl,rfl,h1.at_,rfl,ν,aL _ _ _ _ (rfl,rfl,h2.at_,rfl,aG _ _ (rfl,rfl,h1.bp.ok h2.bq,ν,aL _ _ _ _ (rfl,rfl,h2.at_,rfl,ν,cO _ _ _ (ν,rfl,h1.at_,rfl,ω,h2.bp.ok h1.bq,ω,ν,_,_,ω,h1.at_,rfl,ν,_,_,ω,h2.at_,rfl,ω,h1.bq.ok h2.bq,_,ν,yg h1.pos h2.pos,(h1.bq.mul h2.bq).mono 45,qq))))))
theorem Ji {dV:Value} (F:bG K "round_down" "round_down" IY dV f fd):564 bX 1 f fd ["one"] (ye K):=by
 have sc:aK ["one"] ["one"] (az IY):=eL 38
 sleep 184
 refine gQ h λt p q _hi=>?_
 refine bI _hi λ_r1 h1 qq=>?_
 sleep 9;exists _,(aq (aM (av cu 319 319)))
 try dsimp only[cxK]
 have q0:q≠0:=by have:=h1.pos;lia
 exact (ν,aL _ _ _ _ (rfl,rfl,h1.at_,rfl,ν,aL _ _ _ _ (rfl,rfl,h1.at_,rfl,aG _ _ (rfl,rfl,(q0,h1.bq.div q0),qq))))
theorem Jj {dV:Value} (F:bG K "amount_text" "amount_text" IZ dV f fd) (DZ5:563 bX 1 "round_down" ["one"] [] (ye K)):564 bX 2 f fd ["amount"] (Cn K):=by
 have sc:aK ["amount","whole","bottom","top"] ["amount"] (az IZ):=eL 38
 sleep 184
 refine gQ h λt p q _hi=>?_
 refine bI _hi λ_r1 h1 qq=>?_
 sleep 9;exists _,(aj (bU 1 sc (fS DZ5 hr 367)) (aj (569 319) (aj (582 (av iw 319 (av eI 107 144))) (aj (aW (580 139 ac 127) (aq (aM (566 192))) aI) (aj (aW (580 107 ac 127) (aq (aM (lI (dy (jk 139) (dy aw (dy (jk 144) pN)))))) aI) (aq (aM (lI (dy (jk 107) (dy aw (dy (jk 139) (dy aw (dy (jk 144) pN)))))))))))))
 try dsimp only[cxK]
 sleep 132;have q0:q≠0:=by have:=h1.pos;lia
 have bp:=FQ h1.bp;have bq:=FQ h1.bq;have lw:p/q<2^1900:=LA (Nat.div_le_self p q) bp;have lt:p % q<2^1900:=LA (Nat.mod_le p q) bp;refine (ν,cO t p q (rfl,h1.mono 45,?_))
 rw[rh];refine (ν,aL _ _ _ _ (rfl,rfl,h1.at_,rfl,?_));refine (ν,aL _ _ _ _ (rfl,rfl,h1.at_,rfl,ν,ν,aG _ _ (rfl,rfl,(Hz lw).ok h1.bq,aG _ _ 209)));dsimp only[bv];rw[A5];have dw:=cS lw;have dt:=cS lt;have dq:=cS bq;have s6:(600:Nat)*3+10<=sizeLine:=by decide
 refine (ν,rfl,ν,kX 298 298)
 ·exists ν,ν,lg lw;rw[lJ];unfold dO at qq;rw[if_pos 93] at qq
  exact qq
 refine (ν,rfl,ν,kX (λc2=>?_) (λc2=>?_))
 ·refine (ν,.inl 458)
  all_goals simp only[lJ,fz,rc,dm,cQ,List.nil_append,KL,KE,List.length_nil]
  ·lia
  ·lia
  ·lia
  ·lia
  ·unfold dO at qq;rw[if_neg 93,if_pos 93] at qq
   simpa using qq
 ·refine (ν,.inl (ν,lg lw,ν,?_,ν,?_,ν,.inl 458))
  all_goals simp only[lJ,fz,iO,rc,dm,cQ,List.nil_append,KL,KE,List.length_nil]
  ·lia
  ·lia
  ·lia
  ·lia
  ·lia
  ·lia
  ·unfold dO at qq;rw[if_neg 93,if_neg 93] at qq
   simpa using qq
theorem Jk {dV:Value} (F:bG K "loosely_read_term" "loosely_read_term" Ja dV f fd) (DZ0:563 bX 1 "read_figures" ["word"] [] tF) (DZ3:563 bX 2 "fraction" ["top","bottom"] [.int 1] AS):564 bX 3 f fd ["text"] yD:=by
 have sc:aK ["text","halves","top","bottom"] ["text"] (az Ja):=eL 38
 sleep 184
 sleep 151
 sleep 82
 sleep 9;exists _,(aj (aW (ay fL aw 98 108) (aq (bU 0 sc (lI (dy (jk 98) (dy aw pN))))) aI) (aj 317 (aj (569 (fS DZ0 hr (300<*>ak))) (aj (582 (fS DZ0 hr (300<*>ak))) (aj (aW (PW.pt (dJ (ay eB 144 bK 127) (dJ (ay eB 139 bK 127) (di (580 139 ac 127))))) 261 aI) (aq (aM (fS DZ3 hr (144<*>265)))))))))
 try dsimp only[cxK]
 sleep 132;have lz:=cv z;refine cut (λσ H'=>H'=H/\∃z':Str,σ= [some (.str z'),none,none,none]/\z'.length<=900010/\47∈sL z'/\dY 316=dA (cB 47 (sL z')).1 (cB 47 (sL z')).2) 94 ?_
 ·sleep 64
  ·rw[fz,kD] at e;have e':=of_decide_eq_false e;have e1:Str.ofString "/1" =bw [47,49]:=by decide
   refine (ν,.inr (z,rfl,KC hz 45,ν,?_,ν,?_,?_,?_))
   all_goals simp only[e1,Str.empty_append]
   ·exact KC hz 45
   ·rw[<-cv,bC,bo,KL];refine KC (m:=900010) ?_ 45
    simp;omega
   ·rw[<-cv,bC,bo,KL];refine KC (m:=900010) ?_ 45
    simp;omega
   ·refine hN _ _ (rfl,ν,?_,?_,?_)
    ·rw[<-cv,bC,bo,KL];simp;omega
    ·rw[bC,bo];simp
    ·rw[bC,bo];have c:=fP (c:=47) (a:=sL z) (b:= [49]) e';rw[c];exact if_neg e'
  ·rw[fz,kD] at e;have e':=of_decide_eq_true e;refine hN _ _ (rfl,z,rfl,by lia,e',?_)
   exact if_pos e'
 intro σ H' h_;sleep 8
 refine bx _hi λz' _hj=>?_
 refine cN _hj λ_r2 hz' hm et=>?_
 sleep 6;subst _r2;rw[et] at q0 q1;obtain ⟨ec,_⟩:=vc hm;have lz':=cv z';have lc:=congrArg List.length ec;rw[KL,KE] at lc;refine (ν,rfl,aG z' _ (rfl,rfl,(by rw[fz,cQ];decide),KC hz' 45,λt1 n1=>?_))
 rw[fz,re,if_pos hm];have g1:=ai n1 (.tup [.str (bw (cB 47 (sL z')).1),.str (bw [47]),.str (bw (cB 47 (sL z')).2)]);generalize (cB 47 (sL z')).1=a at*;generalize (cB 47 (sL z')).2=b at*;cases ea:dN a with
 |none=>
  have en:dA a b=none:=by unfold dA;rw[ea]
  refine (ν,aL _ _ _ _ (rfl,rfl,dD.of ah,rfl,ν,by rw[cQ];lia,λ_=>?_,(λn h=>by rw[bo,ea] at h;cases h)))
  cases eb:dN b with
  |none=>
   sleep 104
   exact 420
  |some m=>
   refine (ν,aL _ _ _ _ (rfl,rfl,dD.of ah,rfl,ν,by rw[cQ];lia,(λh=>by rw[bo,eb] at h;cases h),λn h=>?_))
   exact 420
 |some n=>
  refine (ν,aL _ _ _ _ (rfl,rfl,dD.of ah,rfl,ν,by rw[cQ];lia,(λh=>by rw[bo,ea] at h;cases h),λn' h=>?_))
  rw[bo,ea] at h;cases h;cases eb:dN b with
  |none=>
   have en:dA a b=none:=by unfold dA;rw[ea,eb]
   sleep 104
   exact (ν,rfl,ν,dF 135 420)
  |some m=>
   refine (ν,aL _ _ _ _ (rfl,rfl,dD.of ah,rfl,ν,by rw[cQ];lia,(λh=>by rw[bo,eb] at h;cases h),λm' h=>?_))
   rw[bo,eb] at h;cases h;refine (ν,rfl,ν,dF 135 (ν,rfl,ν,dF 135 (ν,rfl,ν,kX 298 298)))
   ·exact q0 (by unfold dA;rw[ea,eb];simp only;rw[if_pos 93]) _ g1
   ·have m0:m≠0:=λz=>c (by rw[z];rfl)
    have ep:dA a b=some (n,m):=by unfold dA;rw[ea,eb];simp only;rw[if_neg m0]
    refine (ν,ν,aG _ _ (rfl,c,(iQ (kA eb)).mono 45,λp q f t2 H2 g2 e2=>?_))
    exact q1 n m p q ep m0 (kA ea) (kA eb) f t2 H2 550 e2
theorem Jl {dV:Value} (F:bG K "loosely_read" "loosely_read" Jb dV f fd) (DZ4:563 bX 3 "plus" ["one","other"] [] (yf K)) (DZ7:563 bX 3 "loosely_read_term" ["text"] [] yD):564 bX 4 f fd ["text"] vh:=by
 have sc:aK ["text","halves","whole","rest"] ["text"] (az Jb):=eL 38
 sleep 184
 sleep 151
 sleep 82
 sleep 9;exists _,(aj (aW (ay fL aw 98 108) (aq (aM (fS DZ7 hr 367))) aI) (aj 317 (aj (569 (fS DZ7 hr (300<*>ak))) (aj (582 (fS DZ7 hr (300<*>ak))) (aj (aW (PW.pt (dJ (ay eB 144 bK 127) (di (ay eB 139 bK 127)))) 261 aI) (aq (aM (fS DZ4 hr (144<*>265)))))))))
 try dsimp only[cxK]
 sleep 132;have noB:∀{n:Nat},n<10^30->Bd 400 (n:Int):=λh=>(iQ h).mono 45
 sleep 64
 ·rw[iO,kD] at e;have e':=of_decide_eq_false e;have el:fi 316=dY (sL z):=if_neg e';rw[el] at q0 q1;refine (ν,z,rfl,by lia,q0,λn m p q ht m0 hn hm f=>?_)
  exact q1 n m p q ht f.to f.same m0 ((noB hn).of_le f.bt) ((noB hm).of_le f.bb)
 ·rw[iO,kD] at e;have e':=of_decide_eq_true e;obtain ⟨ec,_⟩:=vc e';have el:fi 316=pL (dY (cB 43 316).1) (dY (cB 43 316).2):=if_pos e';rw[el] at q0 q1;have lz:=cv z;have lc:=congrArg List.length ec;rw[KL,KE] at lc;refine (ν,rfl,aG z _ (rfl,rfl,(by rw[iO,cQ];decide),KC hz 45,λt1 n1=>?_))
  rw[iO,re,if_pos e'];have g1:=ai n1 (.tup [.str (bw (cB 43 316).1),.str (bw [43]),.str (bw (cB 43 316).2)]);generalize (cB 43 316).1=a at*;generalize (cB 43 316).2=b at*;refine (ν,aL _ _ _ _ (rfl,rfl,(dD.of ah),rfl,ν,by rw[cQ];lia,λht H2 g2=>?_,λn m p q ht m0 hn hm f t2 H2 g2 e2=>?_))
  ·rw[bo] at ht;have en:pL (dY a) (dY b)=none:=by unfold pL;rw[ht]
   have E2:H2 t1=some _:=g2 _ _ ah;refine (ν,aL _ _ _ _ (rfl,rfl,dD.of E2,rfl,ν,by rw[cQ];lia,λhb H3 g3=>?_,λn m p q hb m0 hn hm f t3 H3 g3 e3=>?_))
   ·exact 253
   ·exact 253
  ·rw[bo] at ht;have E2:H2 t1=some _:=g2 _ _ ah;refine (ν,aL _ _ _ _ (rfl,rfl,dD.of E2,rfl,ν,by rw[cQ];lia,λhb H3 g3=>?_,λn' m' p' q' hb m0' hn' hm' f' t3 H3 g3 e3=>?_))
   ·rw[bo] at hb;have en:pL (dY a) (dY b)=none:=by unfold pL;rw[ht,hb]
    exact (ν,rfl,ν,dF 135 253)
   ·rw[bo] at hb;have es:pL (dY a) (dY b)=some (n*m'+n'*m,m*m'):=by unfold pL;rw[ht,hb]
    have F1:kY K 100 H3 t2 p q:= .of f (iQ hn) (iQ hm) (g3 _ _ e2);have F2:kY K 100 H3 t3 p' q':= .of f' (iQ hn') (iQ hm') e3;refine (ν,rfl,ν,dF 135 (ν,rfl,ν,dF 135 ?_))
    refine (ν,ν,oA t2 t3 p q p' q' (rfl,F1.mono 45,F2.mono 45,λr s fr t4 H4 g4 e4=>?_))
    have b1:Bd 201 (p*q'+p'*q):=(F1.bp.mul F2.bq).add (F2.bp.mul F1.bq);have b2:Bd 200 (q*q'):=F1.bq.mul F2.bq;refine q1 _ _ r s es fr.to ?_ (Nat.mul_ne_zero m0 m0') ((b1.of_le fr.bt).mono 45) ((b2.of_le fr.bb).mono 45) t4 H4 (g1.trans (g2.trans (g3.trans g4))) e4
    have sm:=yh f.same f'.same F1.pos F2.pos fr.same;rw[LU,Int.natCast_add,LU,LU];exact sm
theorem Jm {dV:Value} (F:bG K "read_amount" "read_amount" Jc dV f fd) (DZ6:563 bX 2 "amount_text" ["amount"] [] (Cn K)) (DZ8:563 bX 4 "loosely_read" ["text"] [] vh):564 152 5 f fd ["text"] (tG Mc):=by
 have sc:aK ["text","amount"] ["text"] (az Jc):=eL 38
 sleep 3
 ·obtain ⟨_,rfl,_⟩:=h
  rfl
 sleep 151
 sleep 82
 sleep 9;exists _,(aj (aW 146 (aq (mn B.NG rfl B.MS rfl cA 281)) aI) (aj (bU 1 sc (fS DZ8 hr 367)) (aj (aW (PW.pt (dJ (ay eB 107 bK 127) (di (ay kQ (fS DZ6 hr 192) 98 127)))) (aq (mn B.NG rfl B.MS rfl cA 281)) aI) (aq (aM 107)))));try dsimp only[cxK]
 sleep 72;refine (ν,aL _ _ "str" true (rfl,.str z,(by kernel_rfl),true,rfl,cE ?_))
 refine (ν,z,rfl,hz,λhl H2 g2=>?_,λn m p q hl lo sm m0 bp bq t2 H2 g2 e2=>?_)
 ·refine (ν,rfl,ν,dT rfl (by show 1<=sizeLine;decide,q1 (λp q r=>?_) _ g2))
  refine dB r.ex λn m _hi=>?_
  refine bH _hi λe _=>?_
  rw[hl] at e;cases e
 ·have p0:0<=p:=Int.nonneg_of_mul_nonneg_left (a:=p) (b:=(m:Int)) (by rw[sm];exact Int.mul_nonneg (Int.natCast_nonneg _) (Int.le_of_lt lo.pos)) 93
  obtain ⟨P,rfl⟩:=Int.eq_ofNat_of_zero_le p0;obtain ⟨D,rfl⟩:=Int.eq_ofNat_of_zero_le (Int.le_of_lt lo.pos);have F1:kY K 1900 H2 t2 P D:=(dD.of e2,lo.pos,bp.mono 45,bq.mono 45)
  have low:LW P D=1:=by
   have:=lo.low;show LW P D=1;have e:bN (P:Int) (D:Int)=((LW P D:Nat):Int):=rfl;rw[e] at this
   lia
  have D0:0<D:=by have:=lo.pos;lia
  have sm':P*m=n*D:=by
   have:((P*m:Nat):Int)=((n*D:Nat):Int):=by rw[LU,LU];exact sm
   lia
  refine (ν,rfl,ν,dF 135 (ν,cO t2 P D (rfl,F1,ν,rfl,ν,yF 198 198)))
  ·refine (by show 1<=sizeLine;decide,q1 (λp q r=>e ?_) _ g2)
   refine dB r.ex λn' m' _hi=>?_
   refine bH _hi λel sm2=>?_
   rw[hl] at el;cases el;have u:(P:Int)=p/\(D:Int)=q:=by
    refine tm lo (by have:=r.pos;lia,by show ((LW p q:Nat):Int)=1;rw[r.low];rfl) ?_
    have:P*q=p*D:=by
     refine Nat.eq_of_mul_eq_mul_right (Nat.pos_of_ne_zero m0) ?_;have h1:P*q*m=(P*m)*q:=by rw[Nat.mul_right_comm]
     have h2:p*D*m=(p*m)*D:=by rw[Nat.mul_right_comm]
     rw[h1,h2,sm',sm2,Nat.mul_right_comm]
    have h3:((P*q:Nat):Int)=((p*D:Nat):Int):=by rw[this]
    rw[LU,LU] at h3;exact h3
   have e1:P=p:=by have:=u.1;lia
   have e2':D=q:=by have:=u.2;lia
   rw[e1,e2',r.wr,mC]
  ·refine (ν,q0 P D (D0,low,(aG n m (hl,sm')),?_) t2 H2 g2 e2);rw[<-e,bo]
theorem GC {dV:Value} (F:bG K "is_name" "is_name" Ei dV f fd):564 bX 1 f fd ["thing"] (rA K):=by
 have sc:aK ["thing","sign"] ["thing"] (az Ei):=eL 38
 sleep 184
 refine bx h λx _hi=>?_
 clear h;refine bH _hi λ_r1 h=>?_
 sleep 12;exists _,(aj (aW (PW.pt (dJ 146 (dJ (ay lY 269 ac 127) (di (ay nN 269 (gO rfl B.NP) 127))))) (aq (aM kP)) aI) (aj (576 (yA 98) (jC 1 sc) (aq (aW (ay fL 107 (q9 rfl B.Oq) 108) (aq (aM kP)) aI))) (aq (aM kP))))
 try dsimp only[cxK]
 sleep 60;rcases h with ⟨z,rfl,hz,q1,q0⟩|⟨ty,hty,hk,q⟩
 ·have hz':z.length<=sizeLine:=KC hz 45
  have hl:=cv z;try dsimp only[bv,bJ]
  refine cut (λσ H'=>H=H'/\σ= [some 236,none]/\1<=z.length/\z.length<=12) 94 ?_
  ·refine (ν,aL _ _ _ true (rfl,.str _,rfl,ν,cE 231))
   ·exact q0 λn=>by have:=n.1;lia
   ·exact q0 λn=>by have:=n.2.1;lia
   ·exact hN _ _ (rfl,rfl,by lia,by lia)
  sleep 116;refine cN h_ λ_r1 _r2 l1 l2=>?_
  clear h_;sleep 2;refine (ν,z,rfl,uZ (λi σ H2=>H=H2/\(∃o,σ= [some 236,o])/\∀j c,j<i->z.cps[j]?=some c->97<=c/\c<=122) (rfl,⟨ν⟩,λj c h=>absurd h 93) (λi c σ H2 hc hP=>?_) (λσ H2 hP=>?_))
  ·sleep 142;sleep 64
   ·have e':=(vy c).symm.trans e;refine q0 λn=>?_
    have:=n.2.2 c 366
    rw[decide_eq_true this] at e';cases e'
   ·have e':=(vy c).symm.trans e;refine (rfl,⟨ν⟩,λj c' hj hc'=>?_)
    rcases Nat.lt_succ_iff_lt_or_eq.mp hj with k|k
    ·exact hP j c' k hc'
    ·subst k;rw[hc] at hc';cases hc';exact of_decide_eq_true e'
  ·sleep 142;refine q1 (by lia,by lia,λc hc=>?_)
   sleep 114
   exact hP i c (by have:=(Lp.mp hi').1;exact this) hi'
 ·exact (ν,aL _ _ _ false (rfl,hty,hk,ν,gx q))
theorem GD {dV:Value} (F:bG K "words_of" "words_of" Ej dV f fd):564 bX 1 f fd ["row"] vq:=by
 have sc:aK ["row","words"] ["row"] (az Ej):=eL 38
 sleep 184
 sleep 151
 sleep 82
 sleep 9;sleep 200
 exists _,(aj (bU 1 sc (dM Kz Ll Lk jM 98 281)) (aj (aW (ay cZ aw 107 108) 261 aI) (aq (aM 107))))
 try dsimp only[cxK]
 sleep 60;refine (ν,rfl,aG z 32 475)
 have g1:=ai np (.lst ((Txt.split z (bw [32])).map V.str));try dsimp only[bv,bJ]
 refine (ν,aG p _ (rfl,.inl (aJ.of ah),rfl,ow _,ν,E7 (λe=>q0 e _ g1) (λe=>(ν,q1 e p _ g1 ah))))
theorem GE {dV:Value} (F:bG K "number_of" "number_of" Ek dV f fd) (DZ0:563 bX 1 "read_figures" ["word"] [] tF):564 bX 2 f fd ["word","low","high"] vv:=by
 have sc:aK ["word","low","high","number"] ["word","low","high"] (az Ek):=eL 38
 sleep 184
 refine gQ h λz lo hi _hi=>?_
 sleep 82
 sleep 9;exists _,(aj (582 (fS DZ0 hr 367)) (aj (aW (PW.pt (dJ (ay eB 139 bK 127) (dJ (ay lY 139 107 127) (di (ay nN 139 144 127))))) 261 aI) (aq (aM 139))));try dsimp only[cxK]
 sleep 60;refine (ν,z,rfl,hz,λe=>(ν,rfl,ν,dT rfl (q0 e)),λn e=>(ν,rfl,ν,dF 135 ?_))
 have q:=q1 n e;refine (ν,ν,aG _ _ (rfl,rfl,ν,d2 298 (λc=>(ν,ν,aG _ _ (rfl,rfl,ν,d2 (λc2=>?_) (λc2=>(ν,?_)))))))
 ·rw[if_pos (.inl c)] at q;exact q
 ·rw[if_pos (.inr c2)] at q;exact q
 ·rw[if_neg (λk=>k.elim c c2)] at q
  exact q
theorem GF {dV:Value} (F:bG K "amount_from" "amount_from" El dV f fd) (XZ9:563 152 5 "read_amount" ["text"] [] (tG Mc)):564 bX 6 f fd ["word","least"] oN:=by
 have sc:aK ["word","least","amount"] ["word","least"] (az El):=eL 38
 sleep 184
 refine bx h λw _hi=>?_
 refine cN _hi λ_r1 wl q0 q1=>?_
 sleep 9;exists _,(aj (yn rfl rfl (λpins E=>(aq (569 (cM XZ9 hr 45 rfl cA 367)))) (FB B.Oj rfl B.MS (λpins a=>261) yo)) (aq (aM (gJ (ay Fl (ar b6 144 ac 68) 107 127) 144 bK))))
 try dsimp only[cxK]
 sleep 105;sleep 0;refine cut (λσ H'=>∃(t:Addr) (p q:Nat),σ= [some 255,some (.int 1),Pb t]/\aD H H'/\H' t=some (.tup [.int p,.int q])/\Reads (sL w) p q) 94 ?_
 ·refine (ν,w,rfl,by lia,λp q rd t H1 g1 e1=>?_,λno H1 g1=>?_)
  ·exact hN _ _ (cO t p q (rfl,g1,e1,rd))
  ·intro a na;have ga:=ai na (gK a 272 none);refine (aG Mc true (rfl,B.MX,gx ?_));exact q0 (kH λa h _=>no _ _ h) _ (g1.trans ga)
 intro σ H1 h_;refine gQ h_ λt p q _hi=>?_
 refine cN _hi λ_r1 g1 e1 rd=>?_
 sleep 14;refine (ν,aL t _ _ _ (rfl,rfl,dD.of e1,rfl,ν,aG _ _ (rfl,rfl,ν,d2 (λc=>(ν,q1 (p,q) (oM (a:=(p,q)) rd (by show 1<=p;lia)) t _ g1 e1)) λc=>q0 (kH λa h h1=>?_) _ g1)))
 obtain ⟨e,_⟩:=kE h rd
 lia
theorem GG {dV:Value} (F:bG K "value_of" "value_of" Em dV f fd) (DZ10:563 bX 1 "is_name" ["thing"] [] (rA K)) (DZ12:563 bX 2 "number_of" ["word","low","high"] [] vv) (DZ13:563 bX 6 "amount_from" ["word","least"] [] oN):564 bX 7 f fd ["field","word"] oO:=by
 have sc:aK ["field","word","bounds"] ["field","word"] (az Em):=eL 38
 sleep 184
 refine dB h λf z _hi=>?_
 refine cN _hi λ_r1 zl fo _hj=>?_
 refine bH _hj λq0 q1=>?_
 sleep 85;exists _,(aj (aW (580 98 aw 127) (aq (aM (gJ (eW (fS DZ10 hr 192)) 107 bK))) aI) (aj 417 (aj 417 (aj (569 (rG (K:=K) (w:=w) rfl rfl (cJ (v:=V.ref Mz) rfl B.Ow rfl) 98 68)) (aq (aM (fS DZ12 hr (107<*>((ar b6 144 ac 68)<*>((ar b6 144 ac 68)<*>ak))))))))))
 try dsimp only[cxK]
 sleep 40;sleep 0;refine cut (λσ H'=>σ= [some (.str f),some 236,none]/\H=H'/\f≠ "name") 94 ?_
 ·refine (ν,rfl,ν,rC 198 λe=>hN _ _ (rfl,rfl,e))
  have ef:aV f z=if xG z=true then some (.nm z) else none:=by unfold aV;rw[if_pos e]
  refine (ν,ν,.inl (z,rfl,by lia,λnm=>(ν,gx (ν,q1 (.nm z) ?_ _ _ 271 rfl)),λnm=>(ν,cE (q0 ?_ _ 271))))
  ·rw[ef,if_pos ((gC z).mpr nm)]
  ·rw[ef,if_neg λk=>nm ((gC z).mp k)]
 sleep 116;refine bI h_ λ_r1 _r2 n1=>?_
 clear h_;sleep 2;refine cut (λσ H'=>σ= [some (.str f),some 236,none]/\H=H'/\f≠ "amount") 94 ?_
 ·refine (ν,rfl,ν,rC 198 λe=>hN _ _ (rfl,rfl,e))
  have ef:aV f z=(lC z).map .am:=by unfold aV;rw[if_neg n1,if_pos e]
  exact (ν,z,rfl,zl,λh H1 g1=>q0 (by rw[ef,h];rfl) H1 g1,λa h t H1 g1 e1=>q1 (.am a) (by rw[ef,h];rfl) _ _ g1 (t,rfl,trivial,e1))
 sleep 116;refine bI h_ λ_r1 _r2 n2=>?_
 clear h_;sleep 2;have hb_:f≠ "stock" /\∃b,ly.lookup f=some b:=by
  rcases fo with e|e|⟨_,_,n3,hb⟩
  ·exact absurd e n1
  ·exact absurd e n2
  ·exact (n3,hb)
 refine bH hb_ λn3 _hi=>?_
 refine bx _hi λb hb=>?_
 have ef:aV f z=(i9 z b.1 b.2).map .num:=by unfold aV;rw[if_neg n1,if_neg n2,hb]
 refine cut (λσ H'=>σ= [some (.str f),some 236,none]/\H=H') 94 ?_
 ·exact (ν,rfl,ν,rC (λe=>absurd e n3) λe=>hN _ _ 153)
 sleep 18;refine (ν,aL Mz Bu f _ (rfl,rfl,B.Ot,DJ,Bw hb,λt tv=>?_))
 have st:=λH=>qf.sq tv H
 sleep 13;refine (ν,ν,aL t _ _ _ (rfl,rfl,st _,rfl,ν,aL t _ _ _ (rfl,rfl,st _,rfl,cO z _ _ (rfl,by lia,λe=>q0 ?_ _ 271,λn e=>?_))))
 ·rw[ef];unfold i9;rw[if_neg λh=>?_]
  ·rfl
  ·have:=(iD _).mp h.1;rw[tw this] at e;cases e
 ·have ex:=mz e;have fg:A4 (sL z):=by
   refine Classical.byContradiction λnf=>?_
   rw[iM nf] at e;cases e
  have ev:PySem.NumText.digitsVal 316=n:=by
   rw[tw fg] at e;exact KI e
  by_cases c:b.1<=n/\n<=b.2
  ·rw[if_neg 93]
   refine q1 (.num n) ?_ _ _ 271 rfl;rw[ef];unfold i9;rw[ev,if_pos ⟨(iD _).mpr fg,c⟩]
   rfl
  ·rw[if_pos 93]
   refine q0 ?_ _ 271;rw[ef];unfold i9;rw[ev,if_neg λh=>c h.2]
   rfl
theorem GH {dV:Value} (F:bG K "values_by" "values_by" En dV f fd) (DZ14:563 bX 7 "value_of" ["field","word"] [] oO):564 bX 8 f fd ["fields","words"] (mQ K):=by
 have sc:aK ["fields","words","values","field","word"] ["fields","words"] (az En):=eL 38
 sleep 184
 refine ld h λt l fs w _hi=>?_
 refine bx _hi λrest _hj=>?_
 refine jc _hj λ_r1 tv el wb fo _hk=>?_
 refine bI _hk λfl q0 q1=>?_
 sleep 22;exists _,(aj (aW (ay kQ 320 (584 158) 127) 261 aI) (aj (569 (@aZ _ _ _ _ (125<*>ak))) (aj (576 (F7 rfl B.OV (98<*>((dL fv 107 (cP ac) eD)<*>ak))) 323 (aq (bP (567 144 ((fS DZ14 hr (139<*>204))<*>ak))))) (aq (aM (gJ (ay (Bv (Fw hr)) bK 144 108) bK 144))))))
 try dsimp only[cxK]
 sleep 72;sleep 0;have st:=λH=>qf.sq tv H (KY.mpr λv hv=>(by obtain ⟨x,_,rfl⟩:=KH.mp hv;rfl))
 refine cut (λσ H'=>σ= [Pb t,Pb l,none,none,none]/\H=H'/\fs.length=rest.length) 94 ?_
 ·refine (ν,aG l _ (rfl,.inl (aJ.of el),ν,aG t _ (rfl,.inr (st _),?_)));refine (585 (rfl,rfl,rfl,ν,?_))
  by_cases e:fs.length=rest.length
  ·show if (!decide (V.int _=V.int _))=true then _ else _
   rw[if_neg (by rw[decide_eq_true (congrArg V.int (by simp[e];lia))];decide)]
   exact hN _ _ (rfl,rfl,e)
  ·show if (!decide (V.int _=V.int _))=true then _ else _
   rw[if_pos (by rw[decide_eq_false λz=>by have:=vj z;simp at this;lia];rfl)]
   exact q0 (oP e) _ 271
 sleep 116;refine bI h_ λ_r1 _r2 en=>?_
 clear h_;sleep 2;refine (ν,aL l _ _ _ (rfl,rfl,aJ.of el,151,by show 1<=sizeLine;decide,λvl nv=>?_))
 have g1:=ai nv (.lst [.str w]);have e1:aR H vl (.lst [.str w]) vl=some (.lst [.str w]):=ah;generalize aR H vl (.lst [.str w])=H1 at g1 e1⊢;sleep 13;refine cut (λσ H'=>∃o3 o4 xs,σ= [Pb t,Pb l,Pb vl,o3,o4]/\aD H H'/\H' vl=some (.lst (.str w::xs))/\A2 (vL H') xs (iH fs rest)) 94 ?_
 ·refine (ν,ν,ν,aG l _ (rfl,aJ.of (g1 _ _ el),λsl' nsl=>?_))
  have ec:eV ((w::rest).map V.str) (some 1) none=rest.map V.str:=gP (c:=1);rw[ec];have g2:=g1.trans (ai nsl 259);have e2:aR H1 sl' 259 sl'=some (.lst (rest.map V.str)):=ah;have e12:=ai nsl 259 _ _ e1;have ns:sl'≠vl:=λz=>by rw[z,e1] at nsl;cases nsl
  generalize aR H1 sl' 259=H2 at g2 e2 e12⊢;refine (aG t sl' (rfl,(_,st _),(_,aJ.of e2),DH (xs:=fs.map V.str) (ys:=rest.map V.str) (λi σ H'=>∃o3 o4 xs,σ= [Pb t,Pb l,Pb vl,o3,o4]/\aD H H'/\H' sl'=some 259/\H' vl=some (.lst (.str w::xs))/\A2 (vL H') xs ((iH fs rest).take i)) (cO none none [] (rfl,g2,e2,e12,.nil)) (λi σ H' _ (_,_,_,_,_,e,_)=>(st _,aJ.of e)) ?_ ?_))
  ·rintro i y z σ H3 T hy hz ⟨o3,o4,xs,rfl,g3,e3,e4,r⟩ nT;rw[KA] at hy hz;refine bx (KZ.mp hy) λfd' _hi=>?_
   refine bH _hi λhf _r1=>?_
   sleep 12;refine bx (KZ.mp hz) λwd _hi=>?_
   refine bH _hi λhw _r1=>?_
   sleep 12;sleep 86;have gT:=ai nT (.tup [.str fd',.str wd]);generalize aR H3 T (.tup [.str fd',.str wd])=H4 at gT⊢;have il:(iH fs rest)[i]?=some (aV fd' wd):=by
    unfold iH;rw[KA,(List.getElem?_zip_eq_some (z:=(fd',wd))).mpr ⟨hf,hw⟩]
    rfl
   have fin:∀(x:V) (H5:Hp),aD H4 H5->vL H5 x (aV fd' wd)->∃o3 o4 xs',[some (V.ref t),some (V.ref l),some (V.ref vl),some (V.str fd'),some (V.str wd)]= [some 311,some 328,some (.ref vl),o3,o4]/\aD H (aR H5 vl 371)/\aR H5 vl 371 sl'=some 259/\aR H5 vl 371 vl=some (.lst (.str w::xs'))/\A2 (vL (aR H5 vl 371)) xs' ((iH fs rest).take 240):=by
    intro x H5 g5 rx;have g45:=gT.trans g5;have e5:=g45 _ _ e4;refine (cO _ _ (xs++ [x]) (rfl,?_,?_,ah,?_))
    ·intro a o ea;rw[aB λz=>by rw[z,nv] at ea;cases ea]
     exact g45 _ _ (g3 _ _ ea)
    ·rw[aB ns];exact g45 _ _ e3
    ·rw[List.take_add_one,il];exact (r.imp λ_ _ q=>(q.same g45).upd e5).snoc (rx.upd e5)
   have xl:(V.str w::xs).length<sizeLine:=by
    rw[KE,r.1,Kw];unfold iH;rw[K6,List.length_zip]
    lia
   refine (ν,.inl (rfl,_,aJ.of (gT _ _ e4)),ν,ν,aG fd' wd (rfl,wb.2 wd (K9 _ (K7 hw)),fo fd' (K7 hf),λz H5 g5=>?_,λv z x H5 g5 rx=>?_))
   ·exact (cO vl _ _ (rfl,rfl,g5 _ _ (gT _ _ e4),xl,fin .non H5 g5 (by rw[z];rfl)))
   ·exact (cO vl _ _ (rfl,rfl,g5 _ _ (gT _ _ e4),xl,fin x H5 g5 (by rw[z];exact rx)))
  ·intro σ H3 h_;refine gQ h_ λo3 o4 xs _hi=>?_
   refine cN _hi λ_r1 g3 e3 _hj=>?_
   refine bH _hj λe4 r=>?_
   sleep 6;rw[Ln (by unfold iH;simp[List.length_zip])] at r
   exact hN _ _ (cO o3 o4 xs (rfl,g3,e4,r))
 intro σ H2 h_;refine gQ h_ λo3 o4 xs _hi=>?_
 refine cN _hi λ_r1 g2 e2 r=>?_
 sleep 14;have mx:∀v∈V.str w::xs,Mx K H2 v:=by
  intro v hv;rcases K1.mp hv with rfl|hv
  ·exact .inr (.inl ⟨ν⟩)
  ·obtain ⟨i,e⟩:=Kh.mp hv;refine bx (r.at_ e) λo _hi=>?_
   refine bH _hi λ_ q=>?_
   exact q.mx.1
 refine (ν,aG vl _ (rfl,rfl,aJ.of e2,mx,ν,d2 (λm=>?_) λm=>?_))
 ·have m':=(zk r).mp (by simpa using m)
  rcases jo en with ⟨_,z⟩|⟨us,_,o⟩
  ·exact q0 z _ g2
  ·rw[o] at m';simp at m'
 ·rcases jo en with ⟨z,_⟩|⟨us,z,o⟩
  ·exact absurd (K9 _ ((zk r).mpr z)) m
  ·rw[o] at r;exact (ν,q1 us z vl _ g2 nv (xs,e2,F8 r))
theorem GI {dV:Value} (F:bG K "agree" "agree" Eo dV f fd):564 bX 1 f fd ["values"] vM:=by
 have sc:aK ["values"] ["values"] (az Eo):=eL 38
 sleep 184
 refine gQ h λl w us _hi=>?_
 refine cN _hi λ_r1 _r2 _r3 q=>?_
 sleep 9;obtain ⟨xs,el,r⟩:=_r2;obtain ⟨v1,v2⟩:=_r3;exists _,(aj (aW (PW.pt (dJ (580 104 aw 127) (di (ay cZ 104 (cJ (v:=V.ref Mg) rfl B.Na rfl) 108)))) (aq (aM (jF Fk 104 104 127))) aI) (aj (aW (ay cZ 104 (cJ (v:=V.ref Ml) rfl B.N8 rfl) 108) (aq (aM (jF kQ 104 104 127))) aI) (aq (aM kP))))
 try dsimp only[cxK]
 sleep 60;sleep 0;have le:∀N:Ends,N.rt=Q->167->AA (CZ (AD λi j=>V.bl (decide (i<=j))) (CZ (AK K) (qI 0) (tC (V.int 2))) (CZ (AK K) (qI 0) (tC (V.int 3)))) N [some 328] H:=by
  rintro N en c;refine ld (v1 c) λn lo hi r' _r1=>?_
  subst _r1;obtain ⟨ys,rfl⟩:=DK r;have ea:de w (.nm n:: .num lo:: .num hi::r')=decide ((lo:Int)<=hi):=by
   show (!(decide 167)||decide (lo<=hi))=_;rw[decide_eq_true c];simp
  rw[ea] at q;refine (ν,aL l _ _ _ (rfl,rfl,aJ.of el,219,ν,aL l _ _ _ (rfl,rfl,aJ.of el,332,aG _ _ 209)));rw[en];exact q
 refine cut (λσ H'=>σ= [Pb l]/\H=H'/\¬(w= "or" ∨w= "cut" ∨w= "rest" ∨w= "warm")) 94 ?_
 ·refine (ν,aL l _ _ _ (rfl,rfl,aJ.of el,151,rfl,ν,rC (λe=>gx (le _ rfl (.inl e))) λe=>(ν,aL l _ _ _ (rfl,rfl,aJ.of el,151,aG Mg _ (rfl,.inr (B.MZ.sq _),rfl,ow _,ν,E7 (gs:= ["cut","rest","warm"]) (λm=>le _ rfl (.inr (by simpa using m))) λm=>hN _ _ (rfl,rfl,λc=>?_))))))
  rcases c with c|c
  ·exact e c
  ·exact m (by simpa using c)
 sleep 116;refine bI h_ λ_r1 _r2 n1=>?_
 clear h_;sleep 2;refine cut (λσ H'=>σ= [Pb l]/\H=H'/\¬(w= "after" ∨w= "within" ∨w= "apart")) 94 ?_
 ·refine (ν,aL l _ _ _ (rfl,rfl,aJ.of el,151,aG Ml _ (rfl,.inr (B.NU.sq _),rfl,ow _,ν,E7 (gs:= ["after","within","apart"]) (λm=>?_) λm=>hN _ _ (rfl,rfl,λc=>m (by simpa using c)))))
  have c:w= "after" ∨w= "within" ∨w= "apart" :=by simpa using m
  refine gQ (v2 c) λa b r' _r1=>?_
  subst _r1;obtain ⟨ys,rfl⟩:=F9 r;have ea:de w (.nm a:: .nm b::r')= !decide (V.str a=V.str b):=by
   show (!(decide 227)||decide (a≠b))=_;rw[decide_eq_true c];simp
  rw[ea] at q;exact (ν,aL l _ _ _ (rfl,rfl,aJ.of el,220,ν,aL l _ _ _ (rfl,rfl,aJ.of el,219,rfl,q)))
 sleep 116;refine bI h_ λ_r1 _r2 n2=>?_
 clear h_;sleep 2;have ea:de w us=true:=by
  unfold de
  split
  ·rw[decide_eq_false n1]
   rfl
  ·rw[decide_eq_false n2]
   rfl
  ·rfl
 rw[ea] at q;exact q
theorem GJ {dV:Value} (F:bG K "values_of" "values_of" Ep dV f fd) (DZ11:563 bX 1 "words_of" ["row"] [] vq) (DZ15:563 bX 8 "values_by" ["fields","words"] [] (mQ K)) (DZ16:563 bX 1 "agree" ["values"] [] vM):564 bX 9 f fd ["row"] mR:=by
 have sc:aK ["row","words","values"] ["row"] (az Ep):=eL 38
 sleep 184
 sleep 151
 refine cN _hi λ_r1 hz qn qs=>?_
 sleep 9;exists _,(aj (bU 1 sc (fS DZ11 hr 367)) (aj (aW (PW.pt (dJ (ay eB 107 bK 127) (di (ay (rH (K:=K) (w:=w) rfl rfl) 125 (cJ (v:=V.ref MB) rfl B.Om rfl) 108)))) 261 aI) (aj (569 (fS DZ15 hr ((rG (K:=K) (w:=w) rfl rfl (cJ (v:=V.ref MB) rfl B.Om rfl) 125 68)<*>192))) (aj (aW (PW.pt (dJ (ay eB 144 bK 127) (di (iu (eW (fS DZ16 hr 264)))))) 261 aI) (aq (aM 144))))))
 try dsimp only[cxK]
 sleep 40;sleep 0;refine (ν,z,rfl,by lia,λe H1 g1=>?_,λe p H1 g1 ep=>?_)
 ·exact (ν,rfl,ν,dT rfl (qn (if_pos e) _ g1))
 have wb:Iw (Txt.split z cL):=Bg (c:=32) 93
 have nee:=mD z 32;change H1 p=some (.lst ((Txt.split z cL).map V.str)) at ep;change Txt.split z cL≠ [] at nee;have er:fQ z=match Txt.split z cL with
  | []=>none
  |w::rest=>match bQ.lookup w with
   |none=>none
   |some fs=>match cn fs rest with
    |none=>none
    |some vs=>if de w vs=true then some (w,vs) else none:=if_neg e
 rw[er] at qn qs;generalize Txt.split z cL=ws at ep wb nee qn qs;cases ws with
 |nil=>exact absurd rfl nee
 |cons w rest=>
 dsimp only at qn qs;try dsimp only[bv,bJ]
 refine cut (λσ H'=>σ= [some 236,Pb p,none]/\H1=H'/\∃fs,bQ.lookup w=some fs) 94 ?_
 ·refine (ν,rfl,ν,dF 135 (ν,aL p _ _ _ (rfl,rfl,aJ.of ep,151,cO MB iG w (rfl,rfl,B.Oi,rM,ν,?_))))
  show if (!(iG.lookup w).isSome)=true then _ else _
  rw[rN];cases ef:bQ.lookup w with
  |none=>
   rw[ef] at qn;exact qn rfl _ g1
  |some fs=>exact hN _ _ ⟨rfl,rfl,fs,ef⟩
 sleep 116;refine bI h_ λ_r1 _r2 _hi=>?_
 refine bx _hi λfs ef=>?_
 clear h_ _hi;sleep 2;rw[ef] at qn qs;dsimp only at qn qs;obtain ⟨fo,fl⟩:=zj ef;refine (ν,aL p _ _ _ (rfl,rfl,aJ.of ep,151,aL MB iG w _ (rfl,rfl,B.Oi,rM,wM ef,λt tv=>(ν,aL t p fs w (rest,(rfl,tv,ep,wb,fo,fl,λh H2 g2=>?_,λus h v H2 g2 nv lv=>?_))))))
 ·exact (ν,rfl,ν,dT rfl (qn (by rw[h]) _ 550))
 rw[h] at qn qs;dsimp only at qn qs;try dsimp only[bv,bJ]
 refine cut (λσ H'=>σ= [some 236,Pb p,Pb v]/\H2=H'/\de w us=true) 94 ?_
 ·refine (ν,rfl,ν,dF 135 (ν,cO v w us (rfl,lv,wO ef h,?_)))
  cases ea:de w us with
  |false=>exact ⟨_,rfl,qn (if_neg (by rw[ea];decide)) _ 550⟩
  |true=>exact ⟨_,rfl,hN _ _ ⟨rfl,rfl,ea⟩⟩
 sleep 116;refine bI h_ λ_r1 _r2 ea=>?_
 clear h_;sleep 2;exact (ν,qs w us (if_pos ea) v _ 550 (g1.free nv) lv)
theorem GK {dV:Value} (F:bG K "refuse_twice" "refuse_twice" Er dV f fd) (I_Twice:578 KK ["self","at"] (fe KK "at")):564 152 3 f fd ["name","told","at"] (gE KK):=by
 have sc:aK ["name","told","at"] ["name","told","at"] (az Er):=eL 38
 sleep 3
 ·obtain ⟨_,_,_,_,rfl,_⟩:=h
  rfl
 refine ld h λz l ts a _hi=>?_
 refine cN _hi λ_r1 el q1 q2=>?_
 sleep 9;exists _,(aq (aW (ay cZ 98 107 108) (aq (hU I_Twice hr 45 rfl B.N6 rfl cA 264)) aI))
 try dsimp only[cxK]
 sleep 0;refine (ν,ν,aG l _ (rfl,.inl (aJ.of el),rfl,ow _,ν,E7 (gs:=ts) (λm=>?_) λm=>q2 m))
 exact (ν,by show 1<=sizeLine;decide,λe ne=>fO ne λd H2 g2 e1 e2 dne gd ed=>(rfl,d,e1,q1 m d _ gd ed))
theorem GL {dV:Value} (F:bG K "refuse_full" "refuse_full" Es dV f fd):564 152 1 f fd ["kept","most"] (gf mt):=by
 have sc:aK ["kept","most"] ["kept","most"] (az Es):=eL 38
 sleep 3
 ·obtain ⟨_,_,_,rfl,_⟩:=h
  rfl
 refine gQ h λl xs m _hi=>?_
 refine cN _hi λ_r1 el m100 _hj=>?_
 refine bH _hj λq1 q2=>?_
 sleep 85;exists _,(aq (aW (580 158 107 127) (aq (mn B.Oo rfl B.NZ rfl cA ((lI (dy aw (dy (jk 107) (dy aw pN))))<*>ak))) aI));try dsimp only[cxK]
 sleep 0;refine (ν,aG l _ (rfl,.inl (aJ.of el),ν,rfl,ν,kX 198 λe=>q2 93))
 rcases m100 with rfl|rfl
 ·sleep 32
 ·sleep 32
theorem GM {dV:Value} (F:bG K "place_of" "place_of" Et dV f fd) (I_NoStep:578 on ["self","at"] (fe on "at")):564 152 3 f fd ["recipe","name","at"] (ij Me Mb LE KT on):=by
 have sc:aK ["recipe","name","at","place","step"] ["recipe","name","at"] (az Et):=eL 38
 sleep 3
 ·obtain ⟨_,_,_,_,_,_,rfl,_⟩:=h
  rfl
 refine xF h λr z a n p M _hi=>?_
 refine cN _hi λ_r1 _r2 ml _hj=>?_
 refine bH _hj λq0 q=>?_
 sleep 85;obtain ⟨lt,ls,lk,⟨dx,er⟩,⟨vt,et,rt⟩,⟨vs,es,rs⟩,⟨vk,ek,rk⟩⟩:=_r2;exists _,(aj (je (yr rfl rfl) rfl (A3 rfl B.Nv (309<*>ak)) 323 (aq (aW (580 (cG 297 rfl) 107 127) (aq (aM 139)) aI))) (aq (hU I_NoStep hr 45 rfl B.NI rfl cA 264)))
 try dsimp only[cxK]
 sleep 105;sleep 0;have ls12:=rs.1;refine cut (λσ H'=>464/\aD H H'/\place M z=none) 94 ?_
 ·refine (ν,aL r _ dx _ (_,(rfl,er,B.Mi,B.Mj,dU.2.2.2.1,ls,rfl,(_,aJ.of es),yx (xs:=vs) (λj σ H'=>464/\aD H H'/\∀k s,k<j->M.steps[k]?=some s->s.n≠z) ((aG none none rfl),.refl _,λk s hk=>absurd hk (Nat.not_lt_zero _)) (λi σ H' _ (_,g,_)=>aJ.of (g _ _ es)) ?_ ?_)))
  ·rintro j y σ H1 T hy ⟨⟨o3,o4,rfl⟩,g1,ji⟩ nT;refine bx (rs.at_ hy) λx' _hi=>?_
   refine bH _hi λhx _hj=>?_
   refine bx _hj λx _hk=>?_
   refine bH _hk λ_r1 _hl=>?_
   refine ld _hl λC dx u sv _hm=>?_
   refine bx _hm λff _hn=>?_
   refine cN _hn λex cl sf _=>?_
   clear _hi _hj _hk _hl _hm _hn;subst _r1;have sc0:oz K C:=by
    rcases cl with ⟨_,rfl⟩|⟨_,rfl⟩|⟨_,rfl⟩
    ·sleep 127
    ·sleep 125
    ·sleep 126
   have g2:=g1.trans (ai nT (.tup [.int (j:Int),.ref x]));sleep 86;generalize aR H1 T (.tup [.int (j:Int),.ref x])=H2 at g2⊢;have ex2:=g2 _ _ ex;refine (ν,aL x C dx ff (_,(rfl,ex2,sc0.cl,sc0.name,sf.name,ν,rfl,ν,rC 198 λe=>?_)))
   ·exact (ν,q j (rV hx e ji) _ g2)
   ·refine ((585 rfl),g2,λk s hk hs=>?_)
    by_cases c:k=j
    ·subst c;rw[hx] at hs;cases hs;exact e
    ·exact ji k s 93 hs
  ·intro σ H1 h_;refine bI h_ λh1 h2 h3=>?_
   rw[ls12] at h3;exact hN _ _ (h1,h2,tX h3)
 intro σ H1 h_;refine bI h_ λ_r1 g1 hn=>?_
 obtain ⟨o3,o4,rfl⟩:=_r1;exact (ν,by show 1<=sizeLine;decide,λe ne=>fO ne λd H2 g2 e1 e2 dne gd ed=>(rfl,d,e1,(q0 hn).low g1 d _ gd ed))
theorem GN {dV:Value} (F:bG K "put_take" "put_take" Eu dV f fd) (XZ18:563 152 3 "refuse_twice" ["name","told","at"] [] (gE KK)) (XZ19:563 152 1 "refuse_full" ["kept","most"] [] (gf mt)):564 152 4 f fd ["recipe","at","values"] (fG Me Mb LE KT KK on mt zr):=by
 have sc:aK ["recipe","at","values"] ["recipe","at","values"] (az Eu):=eL 38
 sleep 3
 ·sleep 33
  rfl
 sleep 46
 sleep 87
 sleep 55
 sleep 108
 sleep 22;exists _,(aj (bP (cM XZ18 hr 45 rfl cA (103<*>((lH (own:= "take") (ys:= []) (js:= []) rfl 290 (jE 309) 541)<*>192)))) (aj (bP (cM XZ19 hr 45 rfl cA (309<*>((gO rfl B.N9)<*>ak)))) (aq (bP (567 309 ((@bZ _ _ _ _ _ 405)<*>ak))))))
 try dsimp only[cxK]
 sleep 60;sleep 0
 match rr,wh,lv,q0,q with
 | .take g am,_,⟨xs,el,rl⟩,q0,q=>
 have ml:=bd.t;sleep 54
 sleep 71
 sleep 12;sleep 67
 refine bI _hi λ_r1 _r2 rl2=>?_
 sleep 12;obtain ⟨t2,rfl,_,et2⟩:=_r2;cases e1;obtain ⟨dx,er⟩:=rm.er;refine bx (id rm.et) λvt _hi=>?_
 refine bH _hi λet rt=>?_
 have tl:=rt.1;refine (ν,aL l _ _ _ (rfl,rfl,aJ.of el,220,ν,aL r _ dx _ (_,(rfl,er,B.Mi,B.Mq,dU.2.2.1,lt,rfl,(_,aJ.of et),pT (yM V.str) (λ_=>False) (λi=>((M.takes.map λx=>x.1).getD i ("" :Str))) (aJ.of et) 93 (λa h=>h.elim) (λi y hy H2 g2 Q' hQ=>?_) λp1 H4 np g4 hp=>?_))))
 ·refine bx (rt.at_ hy) λx _hi=>?_
  refine bH _hi λhx' _hj=>?_
  refine dB _hj λt b _hk=>?_
  refine cN _hk λ_r1 _ _ _hl=>?_
  refine bH _hl λet' _=>?_
  clear _hi _hj _hk _hl;subst _r1;have e1:(M.takes.map λx=>x.1).getD i ("" :Str)=x.1:=by simp[List.getD,hx']
  rw[e1] at hQ;exact (ν,aL t _ _ _ (rfl,rfl,dD.of (g2 _ _ et'),rfl,hQ _ _ 271 rfl))
 refine bx hp λws _hi=>?_
 refine bH _hi λep rp=>?_
 have ey:ws=(M.takes.map λx=>x.1).map V.str:=by
  have e:=map_getD (λz:Str=>z) (M.takes.map λx=>x.1) ""
  rw[K6,List.map_id'] at e;rw[rp.val,tl];exact congrArg (List.map V.str) e
 subst ey;have gG:=rm.fr.trans g4;refine (ν,aL g p1 _ a (rfl,ep,(λm=>eT.low (q0 .twice (zv m)) gG),λnm=>?_))
 refine (ν,aL r _ dx _ (_,(rfl,478,B.Mi,B.Mq,dU.2.2.1,cO lt vt 12 (rfl,g4 _ _ et,.inl rfl,(λe=>nE.low (q0 .full (BE nm 93)) gG),λne=>?_))))
 refine (ν,aL r _ dx _ (_,(rfl,478,B.Mi,B.Mq,dU.2.2.1,.inl (rfl,_,aJ.of (g4 _ _ et)),ν,aL l _ _ _ (rfl,rfl,aJ.of (g4 _ _ el),220,ν,aL l _ _ _ (rfl,rfl,aJ.of (g4 _ _ el),219,by show 2<=sizeLine;decide,λt nt'=>?_)))))
 have g5:=g4.trans (ai nt' 556);have e5:aR H4 t 556 t=some (.tup [.str g,.ref t2]):=ah;generalize aR H4 t 556=H5 at g5 e5⊢;exact (cO lt _ _ (rfl,rfl,g5 _ _ et,by lia,q _ (Gc nm 93) ks _ ((rm.same g5).take (g5 _ _ et) (aG t t2 (rfl,trivial,trivial,e5,g5 _ _ et2)))))
theorem GO {dV:Value} (F:bG K "put_link" "put_link" Ev dV f fd) (XZ19:563 152 1 "refuse_full" ["kept","most"] [] (gf mt)) (XZ20:563 152 3 "place_of" ["recipe","name","at"] [] (ij Me Mb LE KT on)):564 152 4 f fd ["recipe","at","values"] (fG Me Mb LE KT KK on mt zu):=by
 have sc:aK ["recipe","at","values","one","other","turns"] ["recipe","at","values"] (az Ev):=eL 38
 sleep 3
 ·sleep 33
  rfl
 sleep 46
 sleep 87
 sleep 55
 sleep 108
 sleep 22;exists _,(aj (582 229) (aj (581 229) (aj (bP (cM XZ19 hr 45 rfl cA (309<*>((gO rfl B.Ob)<*>ak)))) (aj (583 (gJ 501 103 ac)) (aq (bP (567 309 ((@bZ _ _ _ _ _ (103<*>(139<*>(297<*>533))))<*>ak))))))))
 try dsimp only[cxK]
 sleep 40;sleep 0
 match rr,wh,lv,ro,q0,q with
 | .link w x y t,_,⟨xs,el,rl⟩,ro,q0,q=>
 have el:H l=some (.lst (.str w::xs)):=el;have ml:=bd.k;have sl1:=bd.s;have t0:w≠ "within" ->t=0:=ro.2.2.2.2.2;sleep 54
 sleep 71
 sleep 12;sleep 67
 sleep 121
 sleep 12;cases e1;cases e2;obtain ⟨dx,er⟩:=rm.er;refine bx (id rm.ek) λvk _hi=>?_
 refine bH _hi λek rk=>?_
 have kl:=rk.1;refine (ν,ν,aL l _ _ _ (rfl,rfl,aJ.of el,220,ν,oA r x a n p M (rfl,rm.a,by lia,(λh=>eT.low (q0 .nostep (zC h)) rm.fr),λi hi H1 g1=>?_)))
 refine (ν,ν,aL l _ _ _ (rfl,rfl,aJ.of (g1 _ _ el),219,ν,oA r y a n p M (rfl,(rm.same g1).a,by lia,(λh=>eT.low (q0 .nostep (zD hi h)) (rm.fr.trans g1)),λj hj H2 g2=>?_)))
 have g12:=g1.trans g2;refine (ν,aL r _ dx _ (_,(rfl,(g12 _ _ er),B.Mi,B.MA,dU.2.2.2.2,cO lk vk 24 (rfl,g12 _ _ ek,.inr rfl,(λe=>nE.low (q0 .full (BJ hi hj 93)) (rm.fr.trans g12)),λne=>?_))))
 dsimp only;change L2.aY (AC _ _) _ _ [some (.ref r),some a,some 328,some (vN i),some (vN j),none] _;refine cut (λσ H'=>σ= [Pb r,some a,Pb l,some (vN i),some (vN j),some (vN t)]/\H2=H') 94 ?_
 ·refine (ν,aL l _ _ _ (rfl,rfl,aJ.of (g12 _ _ el),151,rfl,ν,rC 198 λe=>?_))
  ·change w= "within" at e;change A2 _ xs2 (if w= "within" then [Fv.num t] else []) at rl2
   rw[if_pos e] at rl2;sleep 140
   sleep 191
   sleep 12;cases e3;exact (ν,aL l _ _ _ (rfl,rfl,aJ.of (g12 _ _ el),332,hN _ _ 153))
  ·cases t0 e;exact hN _ _ 153
 sleep 18;refine (ν,aL r _ dx _ (_,(rfl,(g12 _ _ er),B.Mi,B.MA,dU.2.2.2.2,.inl (rfl,_,aJ.of (g12 _ _ ek)),ν,aL l _ _ _ (rfl,rfl,aJ.of (g12 _ _ el),151,ν,ν,ν,by show 4<=sizeLine;decide,λt' nt'=>?_))))
 have g5:=g12.trans (ai nt' 438);have e5:aR H2 t' 438 t'=some (.tup [.str w,vN i,vN j,vN t]):=ah;generalize aR H2 t' 438=H5 at g5 e5⊢;exact (cO lk _ _ (rfl,rfl,g5 _ _ ek,by lia,q _ (Gg hi hj 93) ks _ ((rm.same g5).link (g5 _ _ ek) (t',rfl,trivial,e5))))
theorem GP {dV:Value} (F:bG K "__init__" "Step.__init__" Cb dV f fd):564 bX 1 f fd ["self","name","least","most","uses","second"] (lL K):=by
 have sc:aK ["self","name","least","most","uses","second"] ["self","name","least","most","uses","second"] (az Cb):=eL 38
 sleep 184
 refine qD h λa C dx nm l m uv sv us _hi=>?_
 refine bx _hi λc _hj=>?_
 refine jc _hj λ_r1 e0 sc0 hu hs q=>?_
 sleep 85;exists _,(aj (fE 98 107 rfl) (aj (fE 98 144 rfl) (aj (fE 98 139 rfl) (aj (fE 98 (gJ (ay eB 297 bK 127) 141 (574 204)) rfl) (aq (fE 98 (gJ (ay eB 275 bK 127) bK (@bZ _ _ _ _ _ ((ar b6 275 ac 68)<*>((ar b6 275 ac 68)<*>((574 ((ar b6 275 ac 68)<*>ak))<*>ak))))) rfl))))))
 try dsimp only[cxK]
 sleep 40;refine 435
 refine (ν,ν,aL a C dx _ (rfl,ah,sc0.cl,sc0.least,(by have:=bi "name" (.str nm) [];simp at this;lia),?_))
 refine (ν,ν,aL a C dx _ (rfl,ah,sc0.cl,sc0.most,(by have:=bi "name" (.str nm) [];have:=bi "least" (.int l) 301;simp at*;lia),?_))
 have k0:=(((Kept.refl H a).put (.ins C dx 301)).put (.ins C dx 102)).put 263;have ea:(aR 202 a 263) a=some (.ins C dx (aX "most" 560 102)):=ah;have fr0:∀{b:Addr},(aR 202 a 263) b=none->H b=none:=λ{b} hb=>by
  have n:b≠a:=λz=>by rw[z,ah] at hb;cases hb
  rw[aB n,aB n,aB n] at hb;exact hb
 generalize aR 202 a 263=H1 at k0 ea fr0⊢;have l3:(aX "most" 560 102).length<=3:=by
  have h1:=bi "name" (.str nm) [];have h2:=bi "least" (.int l) 301;have h3:=bi "most" 560 102;simp at h1
  lia
 obtain ⟨f3,ef3⟩:∃f3,f3=aX "most" (.int m) (aX "least" (.int l) (aX "name" (.str nm) [])):=173;rw[<-ef3] at ea l3;have ne:∀{b:Addr} {zs:List V},H b=some (.lst zs)->b≠a:=λhb z=>by subst z;rw[e0] at hb;cases hb
 have neT:∀{b:Addr} {zs:List V},H b=some (.tup zs)->b≠a:=λhb z=>by subst z;rw[e0] at hb;cases hb
 try dsimp only[bv,bJ]
 refine cut (λσ H'=>Kept H H' a/\σ= [Pb a,some (.str nm),some (.int l),some 560,some uv,some sv]/\∃u,u≠a/\H u=none/\H' u=some 441/\H' a=some (.ins C dx (aX "uses" (.ref u) f3))/\∀b,H' b=none->H b=none) 94 ?_
 ·rcases hu with ⟨rfl,rfl⟩|⟨lu,rfl,eu⟩
  ·refine (ν,rfl,ν,dT rfl (by show 0<=sizeLine;decide,λu nu=>?_))
   have ua:u≠a:=λz=>by rw[z,ea] at nu;cases nu
   sleep 51
   have n1:b≠a:=λz=>by rw[z,ah] at hb;cases hb
   have n2:b≠u:=λz=>by rw[z,aB ua,ah] at hb;cases hb
   rw[aB n1,aB n2] at hb;exact fr0 hb
  ·refine (ν,rfl,ν,dF 135 (ν,aG lu _ (rfl,.inl (aJ.of (k0 _ _ eu (ne eu))),λu nu=>?_)))
   have ua:u≠a:=λz=>by rw[z,ea] at nu;cases nu
   sleep 51
   have n1:b≠a:=λz=>by rw[z,ah] at hb;cases hb
   have n2:b≠u:=λz=>by rw[z,aB ua,ah] at hb;cases hb
   rw[aB n1,aB n2] at hb;exact fr0 hb
 intro σ H2 h_;refine bI h_ λk2 _r1 _hi=>?_
 refine bx _hi λu _hj=>?_
 refine cN _hj λua nu eu _hk=>?_
 refine bH _hk λea2 fr2=>?_
 sleep 164;subst _r1;have l4:=bi "uses" (.ref u) f3
 match c,hs with
 |none,hs=>
  have hs':sv= .non:=hs;subst hs';refine (ν,rfl,ν,dT rfl (ν,aL a C dx _ (rfl,ea2,sc0.cl,sc0.second,by lia,?_)))
  exact q u .non _ (k2.put _) ua nu (by rw[aB ua];exact eu) rfl (by rw[ah,ef3];rfl)
 |some (x,y,vs),hs=>
  refine dB hs λt l2 _hi=>?_
  refine bI _hi λ_r1 et el=>?_
  clear hs _hi;subst _r1;have et2:=k2 _ _ et (neT et);have el2:=k2 _ _ el (ne el);refine (ν,rfl,ν,dF 135 ?_)
  refine (ν,aL _ _ _ _ (rfl,rfl,dD.of et2,rfl,ν,aL _ _ _ _ (rfl,rfl,dD.of et2,rfl,ν,aL _ _ _ _ (rfl,rfl,dD.of et2,rfl,aG l2 _ (rfl,.inl (aJ.of el2),λlc nc=>(by show 3<=sizeLine;decide,λtc ntc=>?_))))))
  have lca:lc≠a:=λz=>by rw[z,ea2] at nc;cases nc
  have lcu:lc≠u:=λz=>by rw[z,eu] at nc;cases nc
  have gc:=ai nc (.lst (vs.map V.ref));have gt:=ai ntc (.tup [.int x,.int y,.ref lc]);have tca:tc≠a:=λz=>by rw[z,gc _ _ ea2] at ntc;cases ntc
  have tcu:tc≠u:=λz=>by rw[z,gc _ _ eu] at ntc;cases ntc
  refine (ν,aL a C dx _ (rfl,gt _ _ (gc _ _ ea2),sc0.cl,sc0.second,by lia,?_))
  refine q u (.ref tc) _ (((k2.new nc _).new ntc _).put _) ua nu (by rw[aB ua];exact gt _ _ (gc _ _ eu)) (aG tc lc (rfl,by rw[aB tca];exact ah,by rw[aB lca];exact gt _ _ ah,fr2 _ (gc.free ntc),fr2 _ nc)) (by rw[ah,ef3];rfl)
theorem GR {dV:Value} (F:bG K "__init__" "Warm.__init__" Cc dV f fd) (DZ23:Av P w K mg base bX 1 MR ["self","name","least","most","uses","second"] [.non,.non] (lL K)):564 bX 2 f fd ["self","name","least","most","fill","uses","second"] (pU K):=by
 have sc:aK ["self","name","least","most","fill","uses","second"] ["self","name","least","most","fill","uses","second"] (az Cc):=eL 38
 sleep 184
 refine qD h λa C dx nm l m fl uv sv _hi=>?_
 refine dB _hi λus c _hj=>?_
 refine jc _hj λ_r1 e0 sc0 nf hu _hk=>?_
 refine bH _hk λhs q=>?_
 sleep 22;exists _,(aj (bP (FI B.Nt DZ23 hr 45 rfl B.OQ (98<*>(107<*>(144<*>(139<*>(275<*>(436<*>ak)))))))) (aq (fE 98 297 rfl)))
 try dsimp only[cxK]
 sleep 105;refine (ν,ν,ν,ν,ν,ν,sI a C dx nm l m uv sv us (c,(rfl,e0,sc0,hu,hs,λu s H1 k1 ua nu eu hs1 ea=>?_)))
 refine (ν,ν,aL a C dx _ (rfl,ea,sc0.cl,nf,(by have:=iR (nm:= .str nm) (l:= .int l) (m:= .int m) (u:= .ref u) (s:=s);lia),?_))
 exact q u s _ (k1.put _) ua nu (by rw[aB ua];exact eu) (hs1.self ea) ah
theorem GS {dV:Value} (F:bG K "__init__" "Recipe.__init__" Ew dV f fd):564 bX 1 f fd ["self","name","plates","takes","steps","links"] (yU K):=by
 have sc:aK ["self","name","plates","takes","steps","links"] ["self","name","plates","takes","steps","links"] (az Ew):=eL 38
 sleep 184
 refine qD h λa C dx lt ls lk nm p xt _hi=>?_
 refine dB _hi λxs xk _hj=>?_
 refine jc _hj λ_r1 e0 sc0 et es _hk=>?_
 refine bH _hk λek q=>?_
 sleep 22;exists _,(aj (fE 98 107 rfl) (aj (fE 98 144 rfl) (aj (fE 98 (574 265) rfl) (aj (fE 98 (574 204) rfl) (aq (fE 98 (574 533) rfl))))));try dsimp only[cxK]
 sleep 40;have ne:∀{b:Addr} {zs:List V},H b=some (.lst zs)->b≠a:=λhb z=>by subst z;rw[e0] at hb;cases hb
 refine 435
 refine (ν,ν,aL a C dx _ (rfl,ah,sc0.cl,sc0.plates,(by have:=bi "name" nm [];simp at this;lia),?_))
 have k0:=((Kept.refl H a).put (.ins C dx 145)).put 303;have ea:(aR 529 a 303) a=some (.ins C dx (aX "plates" p 145)):=ah;have f0:∀b,(aR 529 a 303) b=none->H b=none:=λb hb=>by
  have n1:b≠a:=λz=>by rw[z,ah] at hb;cases hb
  rwa [aB n1,aB n1] at hb
 generalize aR 529 a 303=H1 at k0 ea f0⊢;have l2:(aX "plates" p 145).length<=2:=by
  have h1:=bi "name" nm [];have h2:=bi "plates" p 145;simp at h1
  lia
 obtain ⟨f2,ef2⟩:∃f2,f2=aX "plates" p (aX "name" nm []):=173;rw[<-ef2] at ea l2;have et1:=k0 _ _ et (ne et);refine (ν,aG lt xt (rfl,.inl (aJ.of et1),λla na=>?_))
 have laa:la≠a:=λz=>by rw[z,ea] at na;cases na
 refine (ν,aL a C dx _ (rfl,(by rw[aB (Ne.symm laa)];exact ea),sc0.cl,sc0.takes,by lia,?_))
 have k1:=(k0.new na (.lst xt)).put 194;have ea1:426 a=some (.ins C dx (aX "takes" (.ref la) f2)):=ah;have ela1:426 la=some (.lst xt):=by rw[aB laa];exact ah
 have f1:∀b,426 b=none->H b=none:=λb hb=>by
  have n1:b≠a:=λz=>by rw[z,ah] at hb;cases hb
  have n2:b≠la:=λz=>by rw[z,ela1] at hb;cases hb
  rw[aB n1,aB n2] at hb;exact f0 b hb
 generalize aR (aR H1 la (.lst xt)) a 194=H2 at k1 ea1 ela1 f1⊢;have l3:=bi "takes" (.ref la) f2;obtain ⟨f3,ef3⟩:∃f3,f3=aX "takes" (.ref la) f2:=173;rw[<-ef3] at ea1 l3;have es1:=k1 _ _ es (ne es);refine (ν,aG ls xs (rfl,.inl (aJ.of es1),λlb nb=>?_))
 have lba:lb≠a:=λz=>by rw[z,ea1] at nb;cases nb
 have lbl:la≠lb:=λz=>by rw[<-z,ela1] at nb;cases nb
 refine (ν,aL a C dx _ (rfl,(by rw[aB (Ne.symm lba)];exact ea1),sc0.cl,sc0.steps,by lia,?_))
 have k2:=(k1.new nb 251).put 355;have ea2:162 a=some (.ins C dx (aX "steps" (.ref lb) f3)):=ah;have elb2:162 lb=some (.lst xs):=by rw[aB lba];exact ah
 have ela2:162 la=some (.lst xt):=by rw[aB laa,aB lbl];exact ela1
 have f2':∀b,162 b=none->H b=none:=λb hb=>by
  have n1:b≠a:=λz=>by rw[z,ah] at hb;cases hb
  have n2:b≠lb:=λz=>by rw[z,elb2] at hb;cases hb
  rw[aB n1,aB n2] at hb;exact f1 b hb
 generalize aR (aR H2 lb 251) a 355=H3 at k2 ea2 elb2 ela2 f2'⊢;have l4:=bi "steps" (.ref lb) f3;obtain ⟨f4,ef4⟩:∃f4,f4=aX "steps" (.ref lb) f3:=173;rw[<-ef4] at ea2 l4;have ek1:=k2 _ _ ek (ne ek);refine (ν,aG lk xk (rfl,.inl (aJ.of ek1),λlc nc=>?_))
 have lca:lc≠a:=λz=>by rw[z,ea2] at nc;cases nc
 have lcb:lb≠lc:=λz=>by rw[<-z,elb2] at nc;cases nc
 have lcl:la≠lc:=λz=>by rw[<-z,ela2] at nc;cases nc
 refine (ν,aL a C dx _ (rfl,(by rw[aB (Ne.symm lca)];exact ea2),sc0.cl,sc0.links,by lia,?_))
 refine q la lb lc _ laa lba lca (f0 _ na) (f1 _ nb) (f2' _ nc) (by simp[lbl,lcl,lcb]) ((k2.new nc (.lst xk)).put _) (by rw[aB laa,aB lcl];exact ela2) (by rw[aB lba,aB lcb];exact elb2) (by rw[aB lca];exact ah) ?_
 rw[ah,ef4,ef3,ef2]
 rfl
theorem GT {dV:Value} (F:bG K "recipe_begun" "recipe_begun" Ex dV f fd) (DZ25:Av P w K mg base bX 1 Nu ["self","name","plates","takes","steps","links"] [] (yU K)) (I_NoRow:578 Lz ["self","at"] (fe Lz "at")):564 152 4 f fd ["values"] (kT Me Mb LE KT Lz):=by
 have sc:aK ["values"] ["values"] (az Ex):=eL 38
 sleep 3
 ·obtain ⟨_,rfl,_⟩:=h
  rfl
 refine bx h λv _hi=>?_
 refine bH _hi λ_r1 hv=>?_
 sleep 9;exists _,(aj (aW (PW.pt (dJ (ay eB 98 bK 127) (di (ay kQ 104 aw 127)))) 552 aI) (aq (aM (Dh B.Op DZ25 hr 45 rfl B.Ou (104<*>(104<*>(141<*>(141<*>(141<*>ak)))))))))
 try dsimp only[cxK]
 sleep 105;sleep 0;rcases hv with ⟨l,w,us,rfl,⟨xs,el,rl⟩,qn,qd⟩|⟨rfl,qn⟩
 rotate_left
 ·exact (ν,rfl,ν,dT rfl 280)
 refine cut (λσ H'=>σ= [Pb l]/\H=H'/\w= "dish") 94 ?_
 ·exact (ν,rfl,ν,dF 135 (ν,aL l _ _ _ (rfl,rfl,aJ.of el,151,rfl,ν,J6 (λez=>(by show 1<=sizeLine;decide,λe ne=>fO ne λd H2 g2 e1 e2 dne gd ed=>(rfl,d,e1,qn ez d _ gd ed))) λe=>hN _ _ (rfl,rfl,e))))
 sleep 116;refine bI h_ λ_r1 _r2 ew=>?_
 clear h_;sleep 2;refine dB (qd ew) λn p _hi=>?_
 sleep 180
 sleep 12;sleep 54
 sleep 71
 sleep 12;sleep 67
 sleep 121
 sleep 12;cases e1;cases e2;refine (ν,aL l _ _ _ (rfl,rfl,aJ.of el,220,ν,aL l _ _ _ (rfl,rfl,aJ.of el,219,by show 0<=sizeLine;decide,λb0 nb0=>(by show 0<=sizeLine;decide,λb1 nb1=>(by show 0<=sizeLine;decide,λb2 nb2=>λrb dxb nr nd nrd=>?_)))))
 have k0:=ai nb0 123;have k1:=ai nb1 123;have k2:=ai nb2 123;have gm:=jQ (C:=KT) nr nd;have gk:=(k0.trans k1).trans k2;refine (sI rb _ dxb b0 b1 b2 (.str n) (vN p) [] (aG [] [] (rfl,ah,(B.Mi,B.MU,B.Nj,B.Mq,B.Mj,B.MA),gm _ _ (k2 _ _ (k1 _ _ ah)),gm _ _ (k2 _ _ ah),gm _ _ ah,λt' s' u' H15 ta sa ua nt ns nu nd3 kp et7 es7 eu7 er=>(rfl,?_))))
 have gg:=gk.trans gm;exact q rb t' s' u' _ (DP (gk.trans (iS nr nd kp)) (gk.free nr) (gg.free nt) (gg.free ns) (gg.free nu) ta sa ua nd3 er et7 es7 eu7)
theorem GU {dV:Value} (F:bG K "step_of" "step_of" Ey dV f fd) (DZ23:Av P w K mg base bX 1 MR ["self","name","least","most","uses","second"] [.non,.non] (lL K)) (DZ24:Av P w K mg base bX 2 M3 ["self","name","least","most","fill","uses","second"] [.non,.non] (pU K)):564 bX 4 f fd ["values"] (rO Me Mb LE):=by
 have sc:aK ["values"] ["values"] (az Ey):=eL 38
 sleep 184
 refine xF h λl w n lo hi f _hi=>?_
 refine cN _hi λ_r1 _r2 wd _hj=>?_
 refine bH _hj λfo q=>?_
 sleep 85;obtain ⟨xs,el,rl⟩:=_r2;exists _,(aj (aW (580 104 aw 127) (aq (aM (pH B.OO DZ23 hr 45 rfl B.OU 497))) aI) (aj (aW (580 104 aw 127) (aq (aM (pH B.OF DZ24 hr 45 rfl B.OP (104<*>497)))) aI) (aq (aM (pH B.OG DZ23 hr 45 rfl B.OR 497)))))
 try dsimp only[cxK]
 sleep 60;sleep 0;sleep 54
 sleep 71
 sleep 12;sleep 67
 sleep 121
 sleep 12;sleep 140
 sleep 191
 sleep 12;cases e1;cases e2;cases e3;have own2:∀{x u:Addr},H x=none->H u=none->∀a∈(So.mk x u none).own,H a=none:=λh1 h2 a ha=>by
  simp only[So.own,Option.toList,K1,K5,or_false] at ha;rcases ha with rfl|rfl
  ·exact h1
  ·exact h2
 have own_nd:∀{x u:Addr},u≠x->(So.mk x u none).own.Nodup:=λh=>by
  simp[So.own,h.symm]
 refine cut (λσ H'=>σ= [Pb l]/\H=H'/\w≠ "cut") 94 ?_
 ·sleep 110
  subst e
  match f,fo with
  |some am,z=>exact absurd z.1 45
  |none,_=>
  refine (ν,aL l _ _ _ (rfl,rfl,aJ.of el,220,ν,aL l _ _ _ (rfl,rfl,aJ.of el,219,ν,aL l _ _ _ (rfl,rfl,aJ.of el,332,λx dx nx nd nxd=>(sI x _ dx _ _ _ .non .non [] (none,(rfl,ah,(B.NR,B.MP,B.MJ,B.MQ,B.MO,B.Mw),.inl 153,rfl,λu6 s6 H6 k6 ux nu eu hs6 ex=>(rfl,?_))))))))
  have gm:=jQ (C:=Me) nx nd;sleep 118;exact q (x,u6,none) _ g6 (aL _ dx _ _ (ex,.inl 153,mI,KC iR 45,trivial,([],eu,A2.nil),rfl)) (own2 nx (gm.free nu)) (own_nd ux)
 sleep 116;refine bI h_ λ_r1 _r2 n1=>?_
 clear h_;sleep 2;refine cut (λσ H'=>σ= [Pb l]/\H=H'/\w≠ "warm") 94 ?_
 ·sleep 110
  subst e
  match f,fo,rl3,q with
  |none,z,_,_=>exact absurd rfl z
  |some am,_,rl3,q=>
  refine dB (bn rl3) λx4 xs4 _hi=>?_
  refine bI _hi λ_r1 _r2 rl4=>?_
  sleep 12;obtain ⟨tf,rfl,_,etf⟩:=_r2;refine (ν,aL l _ _ _ (rfl,rfl,aJ.of el,220,ν,aL l _ _ _ (rfl,rfl,aJ.of el,219,ν,aL l _ _ _ (rfl,rfl,aJ.of el,332,ν,aL l _ _ _ (rfl,rfl,aJ.of el,(aF (j:=4) rfl),λx dx nx nd nxd=>(sI x _ dx _ _ _ _ .non .non (aG [] none (rfl,ah,(B.Ng,B.ME,B.Mt,B.MF,B.MD,B.Mr),B.N3,.inl 153,rfl,λu6 s6 H6 k6 ux nu eu hs6 ex=>(rfl,?_)))))))))
  have gm:=jQ (C:=LE) nx nd;sleep 118;exact q (x,u6,none) _ g6 (aL _ dx _ _ (ex,.inr (.inr 153),yO,KC (bi "fill" (.ref tf) (jb (.str n) (vN lo) (vN hi) (.ref u6) .non)) (KC (Lj iR) (show 6<=10 by decide)),(tf,tH,g6 _ _ etf),([],eu,A2.nil),rfl)) (own2 nx (gm.free nu)) (own_nd ux)
 sleep 116;refine bI h_ λ_r1 _r2 n2=>?_
 clear h_;sleep 2;have e:w= "rest" :=by
  rcases wd with e|e|e
  ·exact absurd e n1
  ·exact e
  ·exact absurd e n2
 subst e
 match f,fo with
 |some am,z=>exact absurd z.1 45
 |none,_=>
  refine (ν,aL l _ _ _ (rfl,rfl,aJ.of el,220,ν,aL l _ _ _ (rfl,rfl,aJ.of el,219,ν,aL l _ _ _ (rfl,rfl,aJ.of el,332,λx dx nx nd nxd=>(sI x _ dx _ _ _ .non .non [] (none,(rfl,ah,(B.Nh,B.MH,B.Mu,B.MI,B.MG,B.Ms),.inl 153,rfl,λu6 s6 H6 k6 ux nu eu hs6 ex=>(rfl,?_))))))))
  have gm:=jQ (C:=Mb) nx nd;sleep 118;exact q (x,u6,none) _ g6 (aL _ dx _ _ (ex,.inr (.inl 153),mI,KC iR 45,trivial,([],eu,A2.nil),rfl)) (own2 nx (gm.free nu)) (own_nd ux)
theorem GV {dV:Value} (F:bG K "put_step" "put_step" Ez dV f fd) (DZ27:563 bX 4 "step_of" ["values"] [] (rO Me Mb LE)) (XZ18:563 152 3 "refuse_twice" ["name","told","at"] [] (gE KK)) (XZ19:563 152 1 "refuse_full" ["kept","most"] [] (gf mt)):564 152 5 f fd ["recipe","at","values"] (fG Me Mb LE KT KK on mt isStep):=by
 have sc:aK ["recipe","at","values"] ["recipe","at","values"] (az Ez):=eL 38
 sleep 3
 ·sleep 33
  rfl
 sleep 46
 sleep 87
 sleep 55
 sleep 108
 sleep 22;exists _,(aj (bP (cM XZ18 hr 45 rfl cA (103<*>((lH (own:= "step") (ys:= []) (js:= []) rfl 290 (jE 309) (λC fp s H=>(A8 (K:=K) rfl 98 rfl)))<*>192)))) (aj (bP (cM XZ19 hr 45 rfl cA (309<*>((gO rfl B.Oa)<*>ak)))) (aq (bP (567 309 ((fS DZ27 hr 264)<*>ak))))))
 try dsimp only[cxK]
 sleep 60;sleep 0;have scOf:∀{w:Str} {C:Addr},oF Me Mb LE w C->oz K C:=λh=>by
  rcases h with ⟨_,rfl⟩|⟨_,rfl⟩|⟨_,rfl⟩
  ·sleep 127
  ·sleep 125
  ·sleep 126
 match rr,wh,lv,ro,q0,q with
 | .step w z lo hi f,_,lv,ro,q0,q=>
 have ml:=bd.s;refine bx (id lv) λxs _hi=>?_
 refine bH _hi λel rl=>?_
 sleep 54
 sleep 71
 sleep 12;cases e1;sleep 106;refine (ν,aL l _ _ _ (rfl,rfl,aJ.of el,220,ν,aL r _ dx _ (_,(rfl,er,B.Mi,B.Mj,dU.2.2.2.1,ls,rfl,(_,aJ.of es),pT (yM V.str) (λ_=>False) (λi=>Dv M.steps i) (aJ.of es) (by rw[K6];lia) (λa h=>h.elim) (λi y hy H2 g Q' hQ=>?_) λp1 H4 np g4 hp=>?_))))
 ·rw[KA] at hy;refine bx (KZ.mp hy) λk _hi=>?_
  refine bH _hi λhk _r1=>?_
  sleep 12;have il:i<M.steps.length:=by have:=cf hk;lia
  have hs:=K3 il;rw[wK hs] at hQ;refine ld (rm.ss i k _ hk hs) λC dxk sv ff _hi=>?_
  refine cN _hi λex hC sf _=>?_
  exact (ν,aL k.x C dxk ff (_,(rfl,g _ _ ex,(scOf hC).cl,(scOf hC).name,sf.name,hQ _ _ 271 rfl)))
 refine bx hp λvs _hi=>?_
 refine bH _hi λep rp=>?_
 have ey:vs=(M.steps.map λs=>s.n).map V.str:=by
  have e:=map_getD (λz:Str=>z) 324 ""
  rw[K6,List.map_id'] at e;rw[rp.val,K6,kl];exact congrArg (List.map V.str) e
 subst ey;have gG:=rm.fr.trans g4;refine (ν,aL z p1 _ a (rfl,ep,(λm=>eT.low (q0 .twice (zw m)) gG),λnm=>?_))
 refine (ν,aL r _ dx _ (_,(rfl,478,B.Mi,B.Mj,dU.2.2.2.1,cO ls _ 12 (rfl,g4 _ _ es,.inl rfl,(λe=>nE.low (q0 .full (BF nm (by rw[K6] at e;lia))) gG),λne=>?_))))
 rw[K6] at ne;refine (ν,aL r _ dx _ (_,(rfl,478,B.Mi,B.Mj,dU.2.2.2.1,.inl (rfl,_,aJ.of (g4 _ _ es)),ν,oA l w z lo hi f (rfl,lv.same g4,ro.1,ro.2.2.2,λk H5 g5 sm nk ndk=>?_))))
 have g45:=g4.trans g5;exact (cO ls _ _ (rfl,rfl,g45 _ _ es,by rw[K6];lia,q _ (Gd nm 93) _ _ (rm.step g45 sm (λa ha=>g4.free (nk a ha)) ndk)))
theorem GW {dV:Value} (F:bG K "put_second" "put_second" EA dV f fd) (XZ20:563 152 3 "place_of" ["recipe","name","at"] [] (ij Me Mb LE KT on)) (I_Twice:578 KK ["self","at"] (fe KK "at")):564 152 4 f fd ["recipe","at","values"] (fG Me Mb LE KT KK on mt CB):=by
 have sc:aK ["recipe","at","values","step"] ["recipe","at","values"] (az EA):=eL 38
 sleep 3
 ·sleep 33
  rfl
 sleep 46
 sleep 87
 sleep 55
 sleep 108
 sleep 22;exists _,(aj (582 (579 309 229 68)) (aj (aW (ay pi (cG 139 rfl) bK 127) (aq (hU I_Twice hr 45 rfl B.N6 rfl cA 192)) aI) (aq (fE 139 (@bZ _ _ _ _ _ (103<*>(103<*>(141<*>ak)))) rfl))))
 try dsimp only[cxK]
 sleep 60;sleep 0;have scOf:∀{w:Str} {C:Addr},oF Me Mb LE w C->oz K C:=λh=>by
  rcases h with ⟨_,rfl⟩|⟨_,rfl⟩|⟨_,rfl⟩
  ·sleep 127
  ·sleep 125
  ·sleep 126
 match rr,wh,lv,ro,q0,q with
 | .sec z lo hi,_,⟨xs,el,rl⟩,ro,q0,q=>
 have sl1:=bd.s;sleep 54
 sleep 71
 sleep 12;sleep 67
 sleep 121
 sleep 12;sleep 140
 sleep 191
 sleep 12;cases e1;cases e2;cases e3;sleep 106;refine (ν,aL r _ dx _ (_,(rfl,er,B.Mi,B.Mj,dU.2.2.2.1,ν,ν,aL l _ _ _ (rfl,rfl,aJ.of el,220,ν,oA r z a n p M (rfl,rm.a,by lia,(λh=>eT.low (q0 .nostep (BG h)) rm.fr),λi hpl H1 g1=>?_)))))
 refine bx (vP hpl) λs1 _hi=>?_
 refine bH _hi λhi1 _=>?_
 have il:=cf hi1;have hk:=K3 (l:=ks) (i:=i) 93
 sleep 90
 have sm:=rm1.ss i k s1 hk hi1;refine ld (id sm) λC dxk sv ff _hi=>?_
 refine jc _hi λhx hC sf l10 hf _hj=>?_
 refine bH _hj λhu hsv=>?_
 refine (aL ls _ _ _ (rfl,rfl,aJ.of (g1 _ _ es),(aF hkx),?_));sleep 13;refine cut (λσ H'=>σ= [Pb r,some a,Pb l,Pb k.x]/\H1=H'/\s1.sec=none) 94 ?_
 ·match kso:k.sec,es1:s1.sec,hsv with
  |none,none,hsv=>
   have hsv:sv= .non:=hsv;subst hsv;exact (ν,aL k.x C dxk ff (_,(rfl,hx,(scOf hC).cl,(scOf hC).second,sf.second,rfl,ν,nF rfl (hN _ _ (rfl,rfl,es1)))))
  |some l2,some (lo2,hi2,us2),⟨t2,e,_⟩=>
   subst e;exact (ν,aL k.x C dxk ff (_,(rfl,hx,(scOf hC).cl,(scOf hC).second,sf.second,rfl,ν,nT 135 (ν,by show 1<=sizeLine;decide,λe ne=>fO ne λd H2 g2 e1 e2 dne gd ed=>(rfl,d,e1,eT.low (q0 .twice (zx hpl hi1 es1)) rm1.fr d _ gd ed)))))
 sleep 116;refine bI h_ λ_r1 _r2 es0=>?_
 clear h_;sleep 2;refine (ν,aL l _ _ _ (rfl,rfl,aJ.of (g1 _ _ el),219,ν,aL l _ _ _ (rfl,rfl,aJ.of (g1 _ _ el),332,by show 0<=sizeLine;decide,λnl nnl=>(by show 3<=sizeLine;decide,λnt nnt=>?_))))
 have g2:=ai nnl 123;have g3:=ai nnt (.tup [vN lo,vN hi,.ref nl]);have g23:=g2.trans g3;have en:=g3 _ _ (ah (H:=H1) (a:=nl) (o:= .lst []));have et:=ah (H:=aR H1 nl 123) (a:=nt) (o:= .tup [vN lo,vN hi,.ref nl]);refine (ν,aL k.x C dxk ff (rfl,g23 _ _ hx,(scOf hC).cl,(scOf hC).second,by lia,?_))
 have sm':=SM.second (cC:=Me) (cR:=Mb) (cW:=LE) hx hC sf l10 hf hu g23 nnl en et;have nd':=rm1.own_nd (K7 hk);refine q _ (Ge hpl hi1 es0) _ _ (rm1.set hk hi1 (tV g23 424) sm' rfl (λb hb=>?_) ?_)
 ·simp only[So.own,Option.toList,K1,K5,or_false] at hb;rcases hb with rfl|rfl|rfl
  ·exact .inl 424
  ·exact .inl 424
  ·exact .inr nnl
 ·simp only[So.own,Kk,K1,not_or] at nd';have n1:k.x≠nl:=aT hx nnl;refine bx hu λvu _hi=>?_
  refine bH _hi λeu _=>?_
  have n2:k.u≠nl:=aT eu nnl;simp[So.own,Option.toList,nd'.1.1,n1,n2]
theorem GX {dV:Value} (F:bG K "put_use" "put_use" EB dV f fd) (XZ18:563 152 3 "refuse_twice" ["name","told","at"] [] (gE KK)) (XZ19:563 152 1 "refuse_full" ["kept","most"] [] (gf mt)) (XZ20:563 152 3 "place_of" ["recipe","name","at"] [] (ij Me Mb LE KT on)) (I_NoStep:578 on ["self","at"] (fe on "at")):564 152 4 f fd ["recipe","at","values"] (fG Me Mb LE KT KK on mt CC):=by
 have sc:aK ["recipe","at","values","step","uses"] ["recipe","at","values"] (az EB):=eL 38
 sleep 3
 ·sleep 33
  rfl
 sleep 46
 sleep 87
 sleep 55
 sleep 108
 sleep 22;exists _,(aj (582 (579 309 229 68)) (aj (581 (cG 139 rfl)) (aj (aW 501 (aj (aW (ay eB (cG 139 rfl) bK 127) (aq (hU I_NoStep hr 45 rfl B.NI rfl cA 192)) aI) (aq (581 (ar b6 (cG 139 rfl) ac 68)))) aI) (aj (bP (cM XZ18 hr 45 rfl cA (103<*>((lH (own:= "use") (ys:= []) (js:= []) rfl 290 (jE 297) 541)<*>192)))) (aj (bP (cM XZ19 hr 45 rfl cA (297<*>((gO rfl B.Oh)<*>ak)))) (aq (bP (567 297 ((@bZ _ _ _ _ _ (103<*>405))<*>ak)))))))))
 try dsimp only[cxK]
 sleep 132;sleep 0;have scOf:∀{w:Str} {C:Addr},oF Me Mb LE w C->oz K C:=λh=>by
  rcases h with ⟨_,rfl⟩|⟨_,rfl⟩|⟨_,rfl⟩
  ·sleep 127
  ·sleep 125
  ·sleep 126
 match rr,wh,lv,ro,q0,q with
 | .use o z u,_,⟨xs,el,rl⟩,ro,q0,q=>
 have sl1:=bd.s;sleep 54
 sleep 71
 sleep 12;sleep 67
 sleep 121
 sleep 12;sleep 140
 sleep 191
 sleep 12;refine dB (bn rl3) λx4 xs4 _hi=>?_
 refine bI _hi λ_r1 e4 rl4=>?_
 sleep 12;cases e1;cases e2;cases e3;cases e4;sleep 106;refine (ν,aL r _ dx _ (_,(rfl,er,B.Mi,B.Mj,dU.2.2.2.1,ν,ν,aL l _ _ _ (rfl,rfl,aJ.of el,220,ν,oA r z a n p M (rfl,rm.a,by lia,(λh=>eT.low (q0 .nostep (BH h)) rm.fr),λi hpl H1 g1=>?_)))))
 refine bx (vP hpl) λs1 _hi=>?_
 refine bH _hi λhi1 _=>?_
 have il:=cf hi1;have hk:=K3 (l:=ks) (i:=i) 93
 sleep 90
 have sm:=rm1.ss i k s1 hk hi1;have ndk:=rm1.own_nd (K7 hk);refine ld (id sm) λC dxk sv ff _hi=>?_
 refine jc _hi λhx hC sf l10 hf _hj=>?_
 refine bH _hj λhu hsv=>?_
 have ub:=bd.us s1 (K7 hi1);refine (aL ls _ _ _ (rfl,rfl,aJ.of (g1 _ _ es),(aF hkx),ν,aL k.x C dxk ff (_,(rfl,hx,(scOf hC).cl,(scOf hC).uses,sf.uses,?_))));sleep 13;have mku:k.u∈k.own:=by simp[So.own]
 refine cut (λσ H'=>∃ua us,σ= [Pb r,some a,Pb l,Pb k.x,Pb ua]/\H1=H'/\Uz H1 ua us/\qp o s1=some us/\us.length<=12/\∀(H2:Hp) (t:Addr) (vs:List V),H1 ua=some 336->aD H1 H2->H2 t=some (.tup (Dy u))->fA us u= .ok (us++ [u])->Q .non (aR H2 ua 325)) 94 ?_
 ·refine (ν,aL l _ _ _ (rfl,rfl,aJ.of (g1 _ _ el),151,rfl,ν,rC 198 λe=>?_))
  ·have ho:o=true:=by
    cases o with
    |true=>rfl
    |false=>exact absurd e (show ¬Str.ofString "with" =33 "orwith" from by decide)
   subst ho
   match kso:k.sec,es1:s1.sec,hsv with
   |none,none,hsv=>
    have hsv:sv= .non:=hsv;subst hsv;exact (ν,aL k.x C dxk ff (_,(rfl,hx,(scOf hC).cl,(scOf hC).second,sf.second,rfl,ν,dT rfl (ν,by show 1<=sizeLine;decide,λe ne=>fO ne λd H2 g2 e1 e2 dne gd ed=>(rfl,d,e1,eT.low (q0 .nostep (zy hpl hi1 es1)) rm1.fr d _ gd ed)))))
   |some l2,some (lo2,hi2,us2),⟨t2,e,et2,hu2⟩=>
   subst e;have ua2:qp true s1=some us2:=by unfold qp;rw[if_pos rfl,es1];rfl
   refine (ν,aL k.x C dxk ff (_,(rfl,hx,(scOf hC).cl,(scOf hC).second,sf.second,rfl,ν,dF 135 (ν,aL k.x C dxk ff (_,(rfl,hx,(scOf hC).cl,(scOf hC).second,sf.second,aL t2 _ _ _ (rfl,rfl,dD.of et2,rfl,hN _ _ (aG l2 us2 (rfl,rfl,hu2,ua2,(ub.2 _ es1),λH2 t vs ev g et hpu=>?_)))))))))
   have hpp:=zA (u:=u) hpl hi1 ua2;rw[hpu] at hpp;have eS:lP true s1 (us2++ [u])={s1 with sec:=some (lo2,hi2,us2++ [u])}:=by unfold lP;rw[if_pos rfl,es1];rfl
   dsimp only at hpp;rw[eS] at hpp;exact q _ hpp _ _ (rm1.set hk hi1 (tV g (by simp[So.own,kso])) (sm.orw ndk kso es1 ev g et) rfl (λb hb=> .inl hb) ndk)
  ·have ho:o=false:=by
    cases o with
    |false=>rfl
    |true=>exact absurd rfl e
   subst ho;refine hN _ _ (aG k.u s1.uses (rfl,rfl,hu,rfl,ub.1,λH2 t vs ev g et hpu=>?_))
   have hpp:=zA (u:=u) hpl hi1 (o:=false) (us:=s1.uses) rfl;rw[hpu] at hpp;exact q _ hpp _ _ (rm1.set hk hi1 (tV g mku) (sm.use ndk ev g et) rfl (λb hb=> .inl hb) ndk)
 sleep 116;refine dB h_ λua us _hi=>?_
 refine jc _hi λ_r1 _r2 _r3 hua ul fin=>?_
 clear h_ _hi;sleep 2;obtain ⟨vs,ev,rv⟩:=_r3;have vl:=rv.1;have el1:=g1 _ _ el;have hby:=zA (u:=u) hpl hi1 hua;refine (ν,aL l _ _ _ (rfl,rfl,aJ.of el1,219,ν,ua,rfl,(_,aJ.of ev),pT (yM V.str) (λ_=>False) (λi=>((us.map λx=>x.1).getD i ("" :Str))) (aJ.of ev) 93 (λa h=>h.elim) (λi y hy H2 g Q' hQ=>?_) λp1 H4 np g4 hp=>?_))
 ·refine bx (rv.at_ hy) λx _hi=>?_
  refine bH _hi λhx' _hj=>?_
  refine bx _hj λt _hk=>?_
  refine bI _hk λ_r1 _ et=>?_
  sleep 149;have e1:(us.map λx=>x.1).getD i ("" :Str)=x.1:=by simp[List.getD,hx']
  rw[e1] at hQ;exact (ν,aL t _ _ _ (rfl,rfl,dD.of (g _ _ et),rfl,hQ _ _ 271 rfl))
 refine bx hp λws _hi=>?_
 refine bH _hi λep rp=>?_
 have ey:ws=(us.map λx=>x.1).map V.str:=by
  have e:=map_getD (λz:Str=>z) (us.map λx=>x.1) ""
  rw[K6,List.map_id'] at e;rw[rp.val,vl];exact congrArg (List.map V.str) e
 subst ey;have gG:=rm1.fr.trans g4;refine (ν,aL u.1 p1 _ a (rfl,ep,(λm=>eT.low (q0 .twice (by rw[hby,zB m])) gG),λnm=>?_))
 refine (ν,cO ua vs 12 (rfl,g4 _ _ ev,.inl rfl,(λe=>nE.low (q0 .full (by rw[hby,BI nm 93])) gG),λne=>?_))
 refine (ν,.inl (rfl,_,aJ.of (g4 _ _ ev)),ν,aL l _ _ _ (rfl,rfl,aJ.of (g4 _ _ el1),219,ν,aL l _ _ _ (rfl,rfl,aJ.of (g4 _ _ el1),332,ν,aL l _ _ _ (rfl,rfl,aJ.of (g4 _ _ el1),(aF (j:=4) rfl),by show 3<=sizeLine;decide,λt nt=>?_))))
 have g5:=g4.trans (ai nt (.tup (Dy u)));exact (cO ua _ _ (rfl,rfl,g5 _ _ ev,by lia,fin _ t vs ev g5 ah (Gf nm 93)))
theorem GY {dV:Value} (F:bG K "put_row" "put_row" EC dV f fd) (XZ21:563 152 4 "put_take" ["recipe","at","values"] [] (571 zr)) (XZ22:563 152 4 "put_link" ["recipe","at","values"] [] (571 zu)) (XZ28:563 152 5 "put_step" ["recipe","at","values"] [] (571 isStep)) (XZ29:563 152 4 "put_second" ["recipe","at","values"] [] (571 CB)) (XZ30:563 152 4 "put_use" ["recipe","at","values"] [] (571 CC)):564 152 6 f fd ["recipe","at","values"] (fG Me Mb LE KT KK on mt (λ_=>True)):=by
 have sc:aK ["recipe","at","values"] ["recipe","at","values"] (az EC):=eL 38
 sleep 3
 ·sleep 33
  rfl
 sleep 46
 sleep 87
 sleep 55
 sleep 108
 sleep 22;exists _,(aq (aW 501 (aq (bP (cM XZ21 hr 45 rfl cA 404))) (aq (aW (ay cZ 103 (cJ (v:=V.ref Mg) rfl B.Na rfl) 108) (aq (bP (cM XZ28 hr 45 rfl cA 404))) (aq (aW 501 (aq (bP (cM XZ29 hr 45 rfl cA 404))) (aq (aW (ay cZ 103 (cJ (v:=V.ref Mn) rfl B.Og rfl) 108) (aq (bP (cM XZ30 hr 45 rfl cA 404))) (aq (bP (cM XZ22 hr 45 rfl cA 404)))))))))))
 try dsimp only[cxK]
 sleep 0;refine bx (id lv) λxs _hi=>?_
 refine bH _hi λel rl=>?_
 refine ⟨_,rfl,aL l _ _ _ ⟨rfl,rfl,aJ.of el,151,rfl,_,rfl,rC 198 λn1=>⟨_,rfl,aL l _ _ _ ⟨rfl,rfl,aJ.of el,151,aG Mg _ ⟨rfl,.inr (B.MZ.sq _),rfl,ow _,_,rfl,E7 (gs:= ["cut","rest","warm"]) 198 λn2=>⟨_,rfl,aL l _ _ _ ⟨rfl,rfl,aJ.of el,151,rfl,_,rfl,rC 198 λn3=>⟨_,rfl,aL l _ _ _ ⟨rfl,rfl,aJ.of el,151,aG Mn _ ⟨rfl,.inr (B.N0.sq _),rfl,ow _,_,rfl,E7 (gs:= ["with","orwith"]) 198 λn4=>?_⟩⟩⟩⟩⟩⟩⟩⟩⟩⟩
 ·refine dB (BA ro e) λg am _r1=>?_
  subst _r1;exact (ν,ν,ν,sI r l a G n p lt ls lk (cO ks M (.take g am) 239))
 ·refine ld (BB ro e) λw z lo hi _hi=>?_
  refine bx _hi λf _r1=>?_
  sleep 12;exact (ν,ν,ν,sI r l a G n p lt ls lk (cO ks M (.step w z lo hi f) 239))
 ·refine gQ (DQ ro e) λz lo hi _r1=>?_
  subst _r1;exact (ν,ν,ν,sI r l a G n p lt ls lk (cO ks M (.sec z lo hi) 239))
 ·refine gQ (DR ro e) λo z u _r1=>?_
  subst _r1;exact (ν,ν,ν,sI r l a G n p lt ls lk (cO ks M (.use o z u) 239))
 ·refine ld (BC ro n1 n2 n3 n4) λw x y t _r1=>?_
  subst _r1;exact (ν,ν,ν,sI r l a G n p lt ls lk (cO ks M (.link w x y t) 239))
theorem GZ {dV:Value} (F:bG K "read_recipe" "read_recipe" ED dV f fd) (DZ17:563 bX 9 "values_of" ["row"] [] mR) (XZ26:563 152 4 "recipe_begun" ["values"] [] (kT Me Mb LE KT Lz)) (XZ31:563 152 6 "put_row" ["recipe","at","values"] [] (571 (λ_=>True))) (I_NoRow:578 Lz ["self","at"] (fe Lz "at")):564 152 11 f fd ["text"] (j9 K Me Mb LE KT Lz KK on mt):=by
 have sc:aK ["text","rows","recipe","at","row","values"] ["text"] (az ED):=eL 38
 sleep 3
 ·rcases h with ⟨_,_,rfl,_⟩|⟨_,rfl,_⟩<;>rfl
 exists _,(aj (aW 146 552 aI) (aj (bU 1 sc (dM Kz Ll Lk jM 98 281)) (aj (569 (cM XZ26 hr 45 rfl cA ((fS DZ17 hr (125<*>ak))<*>ak))) (aj (je (yr rfl rfl) rfl (zo rfl B.Nv (dL fv 107 (cP ac) eD)) 323 (aj (583 (fS DZ17 hr 204)) (aj (aW (PW.pt (dJ (ay eB 275 bK 127) (di (580 (579 275 ac 68) aw 127)))) (aq (hU I_NoRow hr 45 rfl B.NC rfl cA 265)) aI) (aq (bP (cM XZ31 hr 45 rfl cA (144<*>(139<*>533)))))))) (aq (aM 144))))))
 try dsimp only[cxK]
 sleep 40;rcases h with h|⟨v,rfl,⟨ty,ht,hk⟩,qn⟩
 rotate_left
 ·exact (ν,aL _ _ _ false (rfl,ht,hk,ν,gx 280))
 refine dB h λhd rws _hi=>?_
 refine jc _hi λ_r1 hg rg l1000 qb qo=>?_
 sleep 9;sleep 0;have esp:=BK hg rg;have tl:=Gh hg rg l1000;generalize Txt.join oC (hdT hd::rws.map fU)=txt at esp tl⊢;refine cut (λσ H'=>σ= [some (.str txt),none,none,none,none,none]/\H=H') 94 ?_
 ·exact (ν,aL _ _ _ true (rfl,.str _,rfl,ν,cE (hN _ _ 153)))
 sleep 18;refine (ν,rfl,aG txt 10 (rfl,rfl,by lia,λrl nrl=>?_))
 have gp:=ai nrl 252;have ep:aR H rl 252 rl=some (.lst ((hdT hd::rws.map fU).map V.str)):=by rw[ah,esp]
 sleep 13;change L2.aY _ _ _ _ (aR H rl 252);generalize aR H rl 252=H1 at gp ep⊢;clear esp tl;obtain ⟨ht1,ht2⟩:=tZ hg;refine cut (λσ H'=>∃r n p lt ls lk,hd= .ok n p/\σ= [some (.str txt),Pb rl,Pb r,none,none,none]/\RM Me Mb LE KT H1 H' r n p lt ls lk [] 322) 94 ?_
 ·refine (ν,aL rl _ _ _ (rfl,rfl,aJ.of ep,151,hdT hd,rfl,by lia,λe H5 g5=>?_,λw us e p5 H5 g5 np5 lv=>?_))
  ·refine (.non,rfl,.inr (rfl,?_));cases hd with
   |ok n p=>
    change fQ (bS n p)=none at e;rw[iV hg.1 hg.2.1 hg.2.2] at e;cases e
   |bad z=>exact eT.low (qb ⟨z,rfl⟩) (gp.trans g5)
  ·refine (.ref p5,rfl,.inl (cO p5 w us (rfl,lv,λnd=>?_,λew=>?_)))
   ·cases hd with
    |ok n p=>
     sleep 218;cases e;exact absurd rfl nd
    |bad z=>exact eT.low (qb ⟨z,rfl⟩) (gp.trans g5)
   ·cases hd with
    |ok n p=>
     sleep 218;cases e;exact (aG n p (rfl,λr lt ls lk H6 rm=>hN _ _ (oA r n p lt ls lk (rfl,rfl,rm.low g5))))
    |bad z=>
     subst ew;exact absurd e (hg.2.2 us)
 intro σ H2 h_;refine xF h_ λr n p lt ls lk _hi=>?_
 refine bI _hi λ_r1 _r2 rm=>?_
 clear h_ _hi;sleep 2;obtain ⟨qe,qk⟩:=qo n p rfl;refine cut (λσ H'=>∃(o3 o4 o5:Option V) (ks:List So) (M:Md),σ= [some (.str txt),Pb rl,Pb r,o3,o4,o5]/\RM Me Mb LE KT H1 H' r n p lt ls lk ks M/\gh 322 1 rws= .ok M) 94 ?_
 ·refine (ν,ν,aG rl _ (rfl,aJ.of (rm.fr _ _ ep),λsl1 ns1=>?_))
  have ecd:eV ((hdT (.ok n p)::rws.map fU).map V.str) (some (1:Int)) none=(rws.map fU).map V.str:=by
   have:=gP (xs:=(hdT (.ok n p)::rws.map fU).map V.str) (c:=1);exact this
  rw[ecd];have gs:=ai ns1 (.lst 387);have e1:aR H2 sl1 (.lst 387) sl1=some (.lst 387):=ah;have rm1:=rm.same gs;have nso:sl1∉cF r lt ls lk []:=λz=>rm.all _ z ns1
  generalize aR H2 sl1 (.lst 387)=H3 at gs e1 rm1⊢;have gH:aD H (less H3 (cF r lt ls lk [])):=gp.trans rm1.less;refine (sl1,rfl,(_,aJ.of e1),wR (xs:=(rws.map fU).map V.str) (λi σ H'=>∃(o3 o4 o5:Option V) (ks:List So) (M1:Md),σ= [some (.str txt),Pb rl,Pb r,o3,o4,o5]/\RM Me Mb LE KT (less H3 (cF r lt ls lk [])) H' r n p lt ls lk ks M1/\sJ M1/\gh 322 1 rws=gh M1 240 (rws.drop i)) (aL none none none [] (322,(rfl,rm1.top,sJ.nil,rfl))) (λi σ H' _ h=>?_) ?_ ?_)
  ·refine ld h λ_ _ _ _ _hi=>?_
   refine bx _hi λ_ _hj=>?_
   refine bI _hj λ_ rm2 _=>?_
   exact aJ.of (rm2.fr _ _ (by rw[dS nso];exact e1))
  ·rintro i y σ H4 T hy ⟨o3,o4,o5,ks,M1,rfl,rm2,bd,hM⟩ nT;rw[KA,KA] at hy;refine bx (KZ.mp hy) λz _hi=>?_
   refine bH _hi λhz _r1=>?_
   sleep 12;refine bx (KZ.mp hz) λx _hi=>?_
   refine bH _hi λhr' _r1=>?_
   sleep 12;have ok:=rg x (K7 hr');have rm3:=rm2.same (ai nT (.tup [.int 313,.str (fU x)]));sleep 86;generalize aR H4 T (.tup [.int 313,.str (fU x)])=H5 at rm3⊢;have tl:=(tY ok).2;have ed:rws.drop i=x::rws.drop (i+1):=by
    have il:=cf hr';rw[List.drop_eq_getElem_cons il];rw[K3 il] at hr';rw[KI hr']
   rw[ed] at hM;have ei:V.int 313=V.int ((i+1:Nat):Int):=by simp
   have er:∀H9,aD (less H3 (cF r lt ls lk [])) H9->(∃z,x= .bad z)->eT Lz (.int 313) H9 E:=λH9 g9 (z,hz)=>by
    subst hz;rw[ei];exact eT.low (qe (.row 240) hM) (gH.trans g9)
   refine (ν,fU x,rfl,by lia,λe H6 g6=>?_,λw us e p5 H6 g6 np5 lv=>?_)
   ·sleep 13;cases x with
    |ok rr=>
     change fQ (dC rr)=none at e;rw[qg ok] at e;cases e
    |bad z=>exact ⟨_,rfl,rfl,_,rfl,dT rfl ⟨_,rfl,by show 1<=sizeLine;decide,λe ne=>fO ne λd H2 g2 e1 e2 dne gd ed=>⟨rfl,d,e1,(er _ (rm3.fr.trans g6) ⟨z,rfl⟩) d _ gd ed⟩⟩⟩
   refine bx (id lv) λxs _hi=>?_
   refine bH _hi λel _=>?_
   sleep 13;cases x with
   |bad z=>
    rcases ok.2.2 with h0|⟨us',h0⟩
    ·change fQ z=_ at e;rw[h0] at e;cases e
    ·change fQ z=_ at e;rw[h0] at e;cases e;exact (ν,rfl,ν,dF 135 (ν,aL p5 _ _ _ (rfl,rfl,aJ.of el,151,rfl,ν,rC (λ_=>(ν,by show 1<=sizeLine;decide,λe ne=>fO ne λd H2 g2 e1 e2 dne gd ed=>(rfl,d,e1,(er _ (rm3.fr.trans g6) (z,rfl)) d _ gd ed))) λz=>absurd rfl z)))
   |ok rr=>
   change fQ (dC rr)=_ at e;rw[qg ok] at e;have e':tQ rr=(w,us):=KI e;have nd:=zq ok;rw[e'] at nd;have lv':LV H6 p5 (tQ rr).1 (tQ rr).2:=by rw[e'];exact lv
   refine cut (λσ H'=>σ= [some (.str txt),Pb rl,Pb r,some (.int 313),some (.str (dC rr)),Pb p5]/\H6=H') 94 ?_
   ·exact (ν,rfl,ν,dF 135 (ν,aL p5 _ _ _ (rfl,rfl,aJ.of el,151,rfl,ν,rC (λz=>absurd z nd) λ_=>hN _ _ 153)))
   sleep 18;refine (ν,ν,ν,sI r p5 _ _ n p lt ls lk (cO ks M1 rr (rfl,trivial,rm3.same g6,lv',ok,bd,λf hf=>?_,λM2 k3 ks' H7 rm7=>(aL _ _ _ ks' (M2,(rfl,rm7,bd.put k3,hM.trans (vQ k3)))))))
   have k:=qe (.flt f 240) (hM.trans (jY hf));rw[ei];cases f with
   |twice=>exact eT.low k gH
   |nostep=>exact eT.low k gH
   |full=>exact nE.low k gH
  ·intro σ H5 h_;refine ld h_ λo3 o4 o5 ks _hi=>?_
   refine bx _hi λM1 _hj=>?_
   refine cN _hj λ_r1 rm2 bd hM=>?_
   sleep 6;rw[K6,K6,List.drop_length] at hM;exact hN _ _ (aL o3 o4 o5 ks (M1,(rfl,rm2.low rm1.less,hM)))
 intro σ H3 h_;refine ld h_ λo3 o4 o5 ks _hi=>?_
 refine bx _hi λM _hj=>?_
 refine bI _hj λ_r1 rm3 hM=>?_
 sleep 6;exact (ν,qk M hM r lt ls lk ks _ (rm3.low gp))
theorem G1 {dV:Value} (F:bG K "_law_cell_at" "_law_cell_at" EE dV f fd):564 bX 1 f fd ["_law_script","_law_k"] (yd K):=by
 have sc:aK ["_law_script","_law_k"] ["_law_script","_law_k"] (az EE):=eL 38
 sleep 184
 refine gQ h λa ns k _hi=>?_
 refine cN _hi λ_r1 hS h0 q=>?_
 sleep 9;exists _,(aj (aW (ay lY 107 158 127) (aq (aM (579 98 107 68))) aI) (aq (aM ac)))
 try dsimp only[cxK]
 sleep 105;refine (ν,ν,aG a _ (rfl,.inl hS,aG _ _ 543))
 ·obtain ⟨v,hv⟩:=uQ h0 c;exact (ν,ν,aL a _ _ _ (rfl,rfl,hS,hv,q v))
 ·exact q 0
theorem G2 {dV:Value} {hd:Pa} (F:bG K "_law_whole" "_law_whole" Cd dV f fd):Cl hd P w K mg base 1 f fd ["_law_found"] iL:=by
 have sc:aK ["_law_found"] ["_law_found"] (az Cd):=eL 38
 refine F.okH sc (λvs H Q E h=>?_) 377
 ·obtain ⟨_,rfl,_⟩:=h
  rfl
 refine bx h λv _hi=>?_
 sleep 180
 sleep 9;sleep 27;try dsimp only[cxK]
 sleep 203
theorem G4 {dV:Value} (F:bG K "_law_common" "_law_common" EF dV f fd):564 bX 1 f fd ["_law_one","_law_other"] yL:=by
 have sc:aK ["_law_one","_law_other","_law_rest"] ["_law_one","_law_other"] (az EF):=eL 38
 sleep 184
 sleep 175
 refine cN _hi λ_r1 a0 b0 q=>?_
 sleep 9;exists _,(aj (qK PassesOwn.never (ay nN 107 ac 127) (aj (569 (577 98 107)) (aj (bU 0 sc 107) (aq (bU 1 sc 144))))) (aq (aM 98)));try dsimp only[cxK]
 sleep 105;refine qM (λσ H'=>H'=H/\∃(g l:Int) (r:Option V),σ= [some (.int g),some (.int l),r]/\0<=g/\0<=l/\bN g l=bN a b)
  (λ(σ:L2.St) (_:Hp)=>match σ[1]? with|some (some (V.int l))=>l.toNat|_=>0) ⟨rfl,cO _ _ _ ⟨rfl,a0,b0,rfl⟩⟩ ?_ (λσ H Q Q' m ⟨v,e,i,j,e1,e2,k,hk,h2⟩=>⟨v,e,aG i j ⟨e1,e2,k,hk,m _ _ h2⟩⟩)
 intro σ H' h_;sleep 8
 refine gQ _hi λg l r _hj=>?_
 refine cN _hj λ_r2 g0 l0 inv=>?_
 sleep 6;subst _r2;refine (ν,aG _ _ 543)
 ·have lp:0<l:=c;refine (ν,ν,aG _ _ (rfl,rfl,by lia,ν,ν,544,?_))
  ·rw[nX lp];exact inv
  ·have h1:=Ko g lp;have h2:=KN g lp;show (g.fmod l).toNat<l.toNat
   lia
 ·have c:l=0:=by lia
  subst c;rw[nY g0] at inv;rw[<-inv] at q;exact (ν,q)
theorem G5 {dV:Value} (F:bG K "_law_stream" "_law_stream" EG dV f fd):564 bX 1 f fd ["_law_cell","_law_many"] jN:=by
 have sc:aK ["_law_cell","_law_many","_law_number","_law_found","_law_k"] ["_law_cell","_law_many"] (az EG):=eL 38
 sleep 184
 refine dB h λc m _hi=>?_
 refine cN _hi λ_r1 m0 m1 q=>?_
 sleep 9;sleep 200
 exists _,(aj (569 463) (aj (582 141) (aj (576 (kt rfl B.Ni ((av bV 107 ac)<*>ak)) (jC 4 sc) (aj (569 (577 (av bV (av bV (av eI 144 ac) ac) 297) ac)) (aq (bP (567 139 ((av cu 144 ac)<*>ak)))))) (aq (aM (dL fv 139 (cP ac) eD))))));try dsimp only[cxK]
 sleep 72;refine (ν,aG _ _ 491)
 have a0:=KN c (show (0:Int)<2147483647 by decide)
 have a1:=Ko c (show (0:Int)<2147483647 by decide)
 refine (by show 0<=sizeLine;decide,λl nl=>?_)
 try dsimp only[bv,bJ]
 refine cut (λσ H'=>∃(xs:List Int) (n:Int) (o4:Option V),σ= [some 375,some 560,some (.int n),Pb l,o4]/\aD H H'/\H' l=some (.lst 286)/\(xs.length:Int)=m+1/\∀x∈xs,0<=x/\x<2^31) 94 ?_
 ·refine (ν,aG _ _ (rfl,rfl,ν,by lia,by lia,nM (λi σ H'=>∃(xs:List Int) (n:Int) (o4:Option V),σ= [some 375,some 560,some (.int n),Pb l,o4]/\aD H H'/\H' l=some (.lst 286)/\xs.length=i/\(∀x∈xs,0<=x/\x<2^31)/\0<=n/\n<2147483647) (cO [] _ none (rfl,ai nl _,ah,rfl,by simp,a0,a1)) (λi σ H2 hi hP=>?_) (λσ H2 hP=>?_)))
  ·refine gQ hP λxs n o4 _hi=>?_
   refine jc _hi λ_r1 g e hl hx _hj=>?_
   refine bH _hj λn0 n1=>?_
   clear hP _hi _hj;subst _r1;have nb:Bd 31 n:=by unfold Bd;lia
   refine (ν,aG _ _ (rfl,rfl,nb.ok (show Bd 16 48271 by unfold Bd;decide),aG _ _ (rfl,rfl,ν,aG _ _ (rfl,rfl,aG _ _ 491))))
   have b0:=KN (n*48271+7919+246) (show (0:Int)<2147483647 by decide)
   have b1:=Ko (n*48271+7919+246) (show (0:Int)<2147483647 by decide)
   refine (ν,.inl (rfl,_,aJ.of e),ν,aG _ _ (rfl,rfl,210,cO l _ _ (rfl,rfl,e,by rw[K6];lia,?_)))
   refine (cO (xs++ [((n*48271+7919+246).fmod 2147483647).fdiv 1009]) _ _ (rfl,mw g nl _,by rw[ah,Km];rfl,by simp[hl],λx hx'=>?_,b0,b1))
   rcases KD.mp hx' with k|k
   ·exact hx x k
   ·rw[K8] at k;subst k;rw[LS _ 45]
    lia
  ·refine gQ hP λxs n o4 _hi=>?_
   refine jc _hi λ_r1 g e hl hx _hj=>?_
   refine bH _hj λn0 n1=>?_
   clear hP _hi _hj;subst _r1;exact hN _ _ (cO xs n o4 (rfl,g,e,by lia,hx))
 intro σ H' h_;refine gQ h_ λxs n o4 _hi=>?_
 refine cN _hi λ_r1 g e _hj=>?_
 refine bH _hj λhl hx=>?_
 sleep 6;refine (ν,ν,aG l _ (rfl,aJ.of e,λp hp=>?_))
 have ec:eV 286 (some 1) none=(xs.drop 1).map V.int:=by
  rw[yI (by rw[K6];lia),List.map_drop]
 rw[ec];exact q p _ (xs.drop 1) (g.trans (ai hp _)) ah (by rw[L0];lia) (λx hx'=>hx x (Lq hx'))
theorem G6 {dV:Value} (F:bG K "_law_names" "_law_names" EH dV f fd) (DZ36:563 bX 1 "_law_stream" ["_law_cell","_law_many"] [] jN):568 2 f fd ["_law_cell"] oX:=by
 have sc:aK ["_law_cell","_law_letters","_law_xs","_law_body","_law_size","_law_at","_law_some","_law_k","_law_sign"] ["_law_cell"] (az EH):=eL 38
 sleep 10
 ·obtain ⟨_,rfl,_⟩:=h
  rfl
 refine bx h λc _hi=>?_
 sleep 180
 sleep 9;sleep 200
 exists _,(aC (dz (i:=1) sc.nd rfl (Or.inr rfl) Bb) (aC (bD (569 (fS DZ36 hr (98<*>230)))) (aC (dz (i:=3) sc.nd rfl (Or.inr rfl) (zU aw (lH (own:= "_law_x") (ys:= ["_law_letters"]) (js:= [1]) rfl 393 (jE (dL fv 144 eD (cP ac))) (λC fp s H=>(ar xW 107 463 68))))) (aC (bD (581 (584 321))) (aC (bD (583 (577 103 297))) (aC (ju (580 363 ac 127) (aC (lM (zT (own:= "_law_k") (ys:= ["_law_body"]) (js:= [3]) rfl 393 (kt rfl B.Ni 230) (λC fp s H=>(jv 107 eD (cP (av iw ac (577 (av eI ac 98) ac))))))) bE) bE) (aC (B3 (580 363 ac 127) (xA (i:=6) sc.nd rfl 241 (cY (cY (cY (cY (cY (cY (cY (cY (cY (cY (cY (cY Aj)))))))))))) (aC (bD (aM (av dk (dL fv 436 (cP 363) eD) (dL fv 436 eD (cP 363))))) bE)) bE) (aC (bD (bU 6 sc 141)) (aC (pY PassesOwn.never rfl (kt rfl B.Ni 230) (jC 7 sc) (aC (dz (i:=8) sc.nd rfl 241 (Bc 107 (577 (av bV (av cu 103 ac) (av eI ac (pv 7))) ac) 68)) (aC (mK (pX KO KU KS b7 436 (vA (vA (jv 139 eD (cP 275)) (cH (pv 8))) (jv 139 (cP (av bV 275 ac)) (cP 297))))) bE))) (aC (bD (aM 436)) bE))))))))))
 try dsimp only[cxK]
 refine Iu ?_;intro D' r10 r9 r8 r7 r6 r5 r4 r3 r2 r1;refine λt0 ht0=>?_
 refine (ν,aG c 14 (rfl,by decide,by decide,λl H1 xs g1 e1 xl xp=>?_))
 have at_:∀j:Int,0<=j->j<14->∃v:Int,eZ 286 j=some (.int v):=λj j0 j1=>uQ j0 (by rw[K6];lia)
 obtain ⟨x12,h12⟩:=at_ 12 45 45
 obtain ⟨x13,h13⟩:=at_ 13 45 45
 try dsimp only[bv,bJ]
 refine cz (λm σ H'=>t0+1<=m/\aD H1 H'/\∃(body:Str) (tb:Nat),0<tb/\tb<m/\body.length=12/\Lt body/\σ= [some 375,some (.str mJ),Pb l,some 369,none,none,none,none,none]) 94 ?_
 ·refine (rfl,ν,ν,aG l _ (rfl,aJ.of e1,λp hp=>?_))
  have cl:(eV 286 none (some 12)).length=12:=by
   have e0:HT.eC (xs.map V.int).length 0 none=0:=rfl;have e2:HT.eC (xs.map V.int).length (xs.map V.int).length (some 12)=12:=by
    unfold HT.eC;rw[K6];simp;omega
   unfold eV;rw[e0,e2,Kw,L0,K6]
   lia
  have g0:=ai hp (.lst (eV 286 none (some 12)));refine (p,rfl,(_,aJ.of ah),yH (xs:=eV 286 none (some 12)) (λ_ y=>∃z:Str,y= .str z/\z.length=1/\Lt z) (aJ.of ah) 93 (λx hx H3 g3 Q' hQ=>?_) (λp2 ys H' np hl ht g' e'=>?_))
  ·obtain ⟨v,rfl⟩:∃v:Int,x= .int v:=by
    have m:=hx;unfold eV at m;have m:=Lq (List.mem_of_mem_take m);refine bx (KH.mp m) λc _hi=>?_
    refine bH _hi λ_ e=>?_
    exact (c,e.symm)
   have ha:=vz (KN v (show (0:Int)<26 by decide)) (Ko v (show (0:Int)<26 by decide))
   exact (ν,ν,aG _ _ (rfl,rfl,(by show (26:Int)≠0;decide),cO mJ _ _ (rfl,rfl,by decide,ha,hQ _ _ (ν,rfl,Lt.one (by have h1:=KN v (show (0:Int)<26 by decide);have h2:=Ko v (show (0:Int)<26 by decide);lia)) 271)))
  ·obtain ⟨ws,rfl,hw,hwl⟩:=oH (ys:=ys) λy hy=>by
    obtain ⟨i,hi⟩:=Kh.mp hy;have il:=(KB.mp hi).1;exact ht i _ y (K3 93) hi
   rw[K6] at hl;refine (cO _ p2 ws (rfl,rfl,aJ.of e',by lia,by decide,by lia,λk hk=>hN _ _ _ (by lia,g0.trans g',aG _ k (by lia,by lia,?_,Lt.tjoin hwl,rfl))))
   rw[mG];show _+(ws.length-1)*0=12
   lia
 intro m σ H2 h_;refine bI h_ λhm g2 _hi=>?_
 refine dB _hi λbody tb _hj=>?_
 refine cN _hj λtb0 tbm bl _hk=>?_
 refine bH _hk λbL _r1=>?_
 sleep 164;subst _r1;have e2:=g2 _ _ e1;have bz:body.length<=sizeLine:=by lia
 refine cz (λm' σ H'=>m'=m/\σ= [some 375,some (.str mJ),Pb l,some 369,some (.int 184),none,none,none,none]/\H2=H') 94 ?_
 ·exact (ν,aL l _ _ _ (rfl,rfl,aJ.of e2,h12,aG _ _ (rfl,rfl,183,aG _ _ (rfl,rfl,hN _ _ _ 397))))
 intro m' σ _ h_;sleep 24
 clear h_;sleep 2;subst _r3;have z0:=KN x12 (show (0:Int)<12 by decide)
 have z1:=Ko x12 (show (0:Int)<12 by decide)
 refine cz (λm'' σ H'=>m''=m'/\σ= [some 375,some (.str mJ),Pb l,some 369,some (.int 184),some 338,none,none,none]/\H2=H') 94 ?_
 ·exact (ν,aL l _ _ _ (rfl,rfl,aJ.of e2,h13,ν,aG _ _ (rfl,rfl,by lia,hN _ _ _ 397)))
 intro m σ _ h_;sleep 24
 clear h_;sleep 2;subst _r3;refine cz (λm'' σ H'=>m''=m/\σ= [some 375,some (.str mJ),Pb l,some 369,some (.int 184),some 338,none,none,none]/\H2=H') 94 ?_
 ·sleep 36
  exists 12,rfl,by decide,by decide
  refine xx (n:=12) (λi=>kz body none (some (12-(5*246).fmod 12))) 45 (λi k H3 R hi hk g3 hR=>?_) (λk p zs H' hk np ez tz g' e'=>?_)
  ·exact (ν,ν,aG _ _ (rfl,rfl,IntMulOk.of_left 45,aG _ _ (rfl,rfl,183,aG _ _ (rfl,rfl,ν,aG body tb (rfl,bz,λn' k' l h'=>hR n' k' H3 l (kM h' tb0 (KJ tbm hk) l).1 (kM h' tb0 (KJ tbm hk) l).2 271)))))
  ·refine q k p zs H' 93 ((g1.trans g2).trans g') e' (by
    rw[ez];refine (by simp,rB λi j hi hj he=>?_,λz hz=>?_)
    rotate_left
    ·refine bx (KH.mp hz) λi _hi=>?_
     refine bH _hi λ_ _r1=>?_
     sleep 12;have h1:=KN (5*246) (show (0:Int)<12 by decide)
     have h2:=Ko (5*246) (show (0:Int)<12 by decide)
     have ci:=pV (z:=body) (n:=12-(5*246).fmod 12) 93 93
     exact (bL.cut _ _).nm 93 93
    have f0:=λi:Nat=>And.intro (KN (5*(0+(i:Int))) (show (0:Int)<12 by decide)) (Ko (5*(0+(i:Int))) (show (0:Int)<12 by decide))
    have ci:=pV (z:=body) (n:=12-(5*246).fmod 12) (by have:=f0 i;lia) (by have:=f0 i;lia)
    have cj:=pV (z:=body) (n:=12-(5*(0+(j:Int))).fmod 12) (by have:=f0 j;lia) (by have:=f0 j;lia)
    rw[he] at ci;have:=yQ (i,hi) (j,hj) (ci.symm.trans cj);exact congrArg (·.val) this) tz
 intro m'' σ _ h_;sleep 24
 clear h_;sleep 2;subst _r3;refine cz (λm' σ H'=>m'=m''/\σ= [some 375,some (.str mJ),Pb l,some 369,some (.int 184),some 338,none,none,none]/\H2=H') 94 ?_
 ·sleep 36
  refine (by show 12<=sizeLine;decide,λm2 zt lw ok nw=>?_)
  have ezw:zt.map 182=tO:=ok.1;have mm2:=ok.2.1;have tz:∀p∈zt,0<p.2/\p.2<m2:=λp hp=>by have:=ok.2.2 p hp;lia
  have l12:zt.length=12:=by have:=congrArg List.length ezw;rw[K6,oJ.len] at this;exact this
  have lr:(dH zt).length=12:=by unfold dH;rw[K6,l12]
  refine bx (yY (a:=x13.fdiv 12) (n:=12) 45) λj _hi=>?_
  sleep 99
  have gw:=ai nw 262;have ew:aR H2 lw 262 lw=some (.lst (dH zt)):=ah;have ecd:eV (dH zt) (some (j:Int)) none=dH (zt.drop j):=by unfold dH;rw[gP,<-List.map_drop]
  have ect:eV (dH zt) none (some (j:Int))=dH (zt.take j):=by rw[L2.rn (by rw[lr];lia)];unfold dH;rw[<-List.map_take]
  have lj:(zt.drop j).length<=12/\(zt.take j).length<=12:=(by rw[L0,l12];lia,by rw[Kw,l12];lia)
  refine (ν,ν,aL l _ _ _ (rfl,rfl,aJ.of (gw _ _ e2),h13,aG _ _ (rfl,rfl,210,aG _ _ (rfl,rfl,183,?_))))
  dsimp only;rw[ej];refine (ν,aG lw _ (rfl,aJ.of ew,λs1 ns1=>?_))
  rw[ecd];have g3:=ai ns1 (.lst (dH (zt.drop j)));refine (ν,ν,aL l _ _ _ (rfl,rfl,aJ.of (g3 _ _ (gw _ _ e2)),h13,aG _ _ (rfl,rfl,210,aG _ _ (rfl,rfl,183,?_))))
  dsimp only;rw[ej];refine (ν,aG lw _ (rfl,aJ.of (g3 _ _ ew),λs2 ns2=>?_))
  rw[ect];have g4:=ai ns2 (.lst (dH (zt.take j)));refine (aL s1 s2 _ _ (rfl,rfl,g4 _ _ ah,ah,(by simp only[dH,K6];lia),λs3 ns3=>?_))
  refine q m2 s3 (zt.drop j++zt.take j) _ 93 ((((g1.trans g2).trans gw).trans g3).trans (g4.trans (ai ns3 _))) ?_ (by rw[Km,List.map_drop,List.map_take,ezw];exact oJ.turn j) λp hp=>?_
  ·rw[ah];unfold dH;rw[Km]
  ·rcases KD.mp hp with hp|hp
   ·exact tz p (Lq hp)
   ·exact tz p (List.mem_of_mem_take hp)
 intro m' σ _ h_;sleep 24
 clear h_;sleep 2;subst _r3;refine (by show 0<=sizeLine;decide,λls ns=>?_)
 have g3:=g2.trans (ai ns 123);try dsimp only[bv,bJ]
 obtain ⟨nmA,enA⟩:∃g:Nat->Str,g=λk:Nat=>kz body none (some (x13.fmod (1+x12.fmod 12)))++(⟨#[97+((x13.fdiv 12+5*(0+(k:Int))).fmod 26).toNat]⟩:Str)++kz body (some (x13.fmod (1+x12.fmod 12)+1)) (some (1+x12.fmod 12)):=173
 have c1:=KC (iz body none (some (x13.fmod 184))) (Nat.le_of_eq bl);have c2:=KC (iz body (some (x13.fmod 184+1)) (some 184)) (Nat.le_of_eq bl);have one:∀c:Nat,(⟨#[c]⟩:Str).length=1:=λ_=>rfl
 refine cz (λm σ H'=>m'<=m/\aD H1 H'/\(∃zs:List 195,H' ls=some 217/\zs.map 182=(LD 12).map nmA/\∀p∈zs,0<p.2/\p.2<m)/\∃o7 o8:Option V,σ= [some 375,some (.str mJ),Pb l,some 369,some (.int 184),some 338,Pb ls,o7,o8]) 94 ?_
 ·refine (12,rfl,by decide,by decide,mM (n:=12) (λi m σ H'=>m'<=m/\aD H1 H'/\(∃zs:List 195,H' ls=some 217/\zs.map 182=(LD i).map nmA/\∀p∈zs,0<p.2/\p.2<m)/\∃o7 o8:Option V,σ= [some 375,some (.str mJ),Pb l,some 369,some (.int 184),some 338,Pb ls,o7,o8]) (K4 _,g3,([],ah,rfl,λp hp=>nomatch hp),aG none none rfl) (λi m σ H4 hi hP=>?_) (λm σ H4 hP=>hN _ _ _ hP))
  refine cN hP λlm g4 _r1 _hi=>?_
  refine dB _hi λo7 o8 _r2=>?_
  clear hP _hi;obtain ⟨zs,els,ez,tz⟩:=_r1;subst _r2;have ha:=vz (KN 472 (show (0:Int)<26 by decide)) (Ko 472 (show (0:Int)<26 by decide))
  refine (ν,ν,aL l _ _ _ (rfl,rfl,aJ.of (g4 _ _ e1),h13,aG _ _ (rfl,rfl,210,ν,aG _ _ (rfl,rfl,IntMulOk.of_left 45,aG _ _ (rfl,rfl,aG _ _ (rfl,rfl,(by show (26:Int)≠0;decide),cO mJ _ _ (rfl,rfl,by decide,ha,λk1 hk1=>?_)))))))
  have lz:zs.length=i:=by have:=congrArg List.length ez;simpa using this
  refine (ν,.inl (rfl,_,aJ.of els),ν,ν,ν,aG body tb (rfl,bz,λn2 k2 hk2 hk2'=>(ν,aL _ _ _ _ (rfl,rfl,by rw[one];lia,by lia,(kM hk2' tb0 93 hk2).1,(kM hk2' tb0 93 hk2).2,by lia,by lia,λn3 k3 h3 p3 l3=>(ν,ν,aG _ _ (rfl,rfl,ν,ν,ν,aG body tb (rfl,bz,λn4 k4 hk4 hk4'=>(aL _ _ _ _ (rfl,rfl,by rw[Str.length_append,one];lia,by lia,by lia,by lia,(kM hk4' tb0 93 hk4).1,(kM hk4' tb0 93 hk4).2,λn5 k5 h5 p5 l5=>(cO ls _ _ (rfl,rfl,els,(by simp[dH];lia),?_)))))))))))
  refine (by lia,mw g4 (g2.free ns) _,(zs++ [(nmA i,k5)],?_,?_,λp hp=>?_),aG _ _ rfl)
  ·rw[ah];unfold dH;rw[Km,enA]
   rfl
  ·rw[Km,ez,List.range_succ,Km]
   rfl
  ·rcases KD.mp hp with hp|hp
   ·have:=tz p hp
    lia
   ·rw[K8.mp hp];exact (p5,l5)
 intro m σ H4 h_;refine cN h_ λlm g4 _r1 _hi=>?_
 refine dB _hi λo7 o8 _r2=>?_
 clear h_ _hi;obtain ⟨zs,els,ez,tz⟩:=_r1;subst _r2
 suffices zf:Zs (zs.map 182) from ⟨_,rfl,q m ls zs H4 93 (g1.trans g4) els zf tz⟩
 rw[ez];refine (by simp,rB λi j hi hj he=>?_,λz hz=>?_)
 rotate_left
 ·refine bx (KH.mp hz) λi _hi=>?_
  refine bH _hi λ_ _r1=>?_
  sleep 12;rw[enA];have a0:=KN x13 (show (0:Int)<1+x12.fmod 12 by lia)
  have a1:=Ko x13 (show (0:Int)<1+x12.fmod 12 by lia)
  sleep 216
  have n2:=Ko 472 (show (0:Int)<26 by decide)
  refine (((bL.cut _ _).app (Lt.one 93)).app (bL.cut _ _)).nm ?_ ?_
  ·rw[Str.length_append,Str.length_append,one];lia
  ·rw[Str.length_append,Str.length_append,one,A9 a0,yX 93 93,bl];lia
 rw[enA] at he;have he':=congrArg sL he;rw[bC,bC,bC,bC,tD,tD,bo,bo,L7,L7] at he';have h1:=List.append_cancel_left he';have h2:97+((x13.fdiv 12+5*246).fmod 26).toNat=97+((x13.fdiv 12+5*(0+(j:Int))).fmod 26).toNat:=by
  injection h1
 sleep 216
 have n2:=KN (x13.fdiv 12+5*(0+(j:Int))) (show (0:Int)<26 by decide)
 have h3:(x13.fdiv 12+5*246).fmod 26=(x13.fdiv 12+5*(0+(j:Int))).fmod 26:=by lia
 rw[KW _ 45,KW _ 45] at h3
 generalize x13.fdiv 12=X at h3
 lia
theorem G7 {dV:Value} (F:bG K "_law_amount" "_law_amount" EI dV f fd) (DZ35:563 bX 1 "_law_common" ["_law_one","_law_other"] [] yL):564 bX 2 f fd ["_law_a","_law_b"] tN:=by
 have sc:aK ["_law_a","_law_b","_law_whole_here","_law_bottom","_law_top","_law_share"] ["_law_a","_law_b"] (az EI):=eL 38
 sleep 184
 sleep 175
 refine cN _hi λ_r1 a0 a1 _hj=>?_
 refine bH _hj λb0 q=>?_
 sleep 85;exists _,(aj (569 (584 (577 (av cu 98 ac) (579 (@aZ _ _ _ _ (ac<*>(ac<*>(ac<*>(ac<*>230))))) (577 107 ac) 68)))) (aj (aW 447 (aq (569 (av bV (av AR ac ac) 98))) aI) (aj (582 (584 (577 107 (579 (@aZ _ _ _ _ (ac<*>(ac<*>230))) (577 (av cu 107 ac) ac) 68)))) (aj (581 (584 (577 (av cu 107 ac) (av iw 139 ac)))) (aj (583 (fS DZ35 hr (139<*>204))) (aj (581 (av cu 297 275)) (aj (582 (av cu 139 275)) (aj (aW (580 463 ac 127) (aq (aM (@bZ _ _ _ _ _ ((@bZ _ _ _ _ _ (144<*>230))<*>((566 264)<*>ak))))) aI) (aj (aW (580 463 ac 127) (aq (aM (@bZ _ _ _ _ _ ((@bZ _ _ _ _ _ (297<*>265))<*>((570 (570 (566 204) aw) (566 265))<*>ak))))) aI) (aq (aM (@bZ _ _ _ _ _ ((@bZ _ _ _ _ _ ((av bV (av eI 144 139) 297)<*>265))<*>((570 (570 (570 (570 (566 264) aw) (566 204)) aw) (566 265))<*>ak))))))))))))))
 try dsimp only[cxK]
 refine FZ ?_;intro D' r9 r8 r7 r6 r5 r4 r3 r2 r1;sleep 0;have m5:=fm (a:=b) (n:=5) 45
 refine cut (λσ H'=>∃w:Nat,σ= [some 562,some 561,some (vN w),none,none,none]/\aD H H'/\1<=w/\w<=5000) 94 ?_
 ·refine (ν,aG _ _ (rfl,rfl,210,by show 5<=sizeLine;decide,λl5 n5=>(ν,aG _ _ (rfl,rfl,462,?_))))
  have hb_:∃v:Int,eZ [V.int 9,.int 9,.int 9,.int 9,.int 5000] (b.fmod 5)=some (.int v)/\(v=9∨v=5000):=by
   refine bx (yY (a:=b) (n:=5) 45) λj _hi=>?_
   sleep 99
   rw[ej];have jl:j<5:=by lia
   match j,jl with
   |0,_=>exact 450
   |1,_=>exact 450
   |2,_=>exact 450
   |3,_=>exact 450
   |4,_=>exact ⟨5000,rfl,.inr rfl⟩
  refine bx hb_ λv _hi=>?_
  refine bH _hi λhv v0=>?_
  have m:=fm (a:=a.fdiv 3) (n:=v) 93
  refine (aL l5 _ _ _ (rfl,rfl,aJ.of ah,hv,aG _ _ (rfl,rfl,by lia,aG _ _ (rfl,rfl,hN _ _ ((1+(a.fdiv 3).fmod v).toNat,?_,ai n5 _,by lia,by lia)))))
  show [some 562,some 561,some (V.int (1+(a.fdiv 3).fmod v)),none,none,none]=_;rw[show vN (1+(a.fdiv 3).fmod v).toNat=V.int (1+(a.fdiv 3).fmod v) from congrArg V.int 93]
 intro σ H1 h_;refine bx h_ λw0 _hi=>?_
 refine cN _hi λ_r1 g1 w1 w5=>?_
 sleep 14;refine cut (λσ H'=>∃w:Nat,σ= [some 562,some 561,some (vN w),none,none,none]/\H1=H'/\1<=w/\w<10^30) 94 ?_
 ·refine (ν,aG _ _ (rfl,rfl,462,rfl,ν,kX 358 λ_=>hN _ _ (w0,rfl,rfl,w1,LA w5 38)))
  have e29:(10:Int)^(29:Int).toNat=100000000000000000000000000000:=by decide
  have e30:(10:Nat)^30=1000000000000000000000000000000:=by decide+kernel
  refine (585 (rfl,rfl,(by decide,by decide),ν,aG _ _ (rfl,rfl,hN _ _ ((100000000000000000000000000000+a).toNat,?_,rfl,by lia,by lia))))
  show [some 562,some 561,some (V.int ((10:Int)^(29:Int).toNat+a)),none,none,none]=_;rw[e29,show vN (100000000000000000000000000000+a).toNat=V.int (100000000000000000000000000000+a) from congrArg V.int 93]
 intro σ H2 h_;refine bx h_ λw _hi=>?_
 refine cN _hi λ_r1 _r2 wl1 wl=>?_
 clear h_ _hi;sleep 2;clear w1 w5;refine cut (λσ H'=>∃y:Nat,σ= [some 562,some 561,some (vN w),some (vN y),none,none]/\aD H H'/\2<=y/\y<1000) 94 ?_
 ·refine (ν,by show 3<=sizeLine;decide,λl3 n3=>(ν,aG _ _ (rfl,rfl,210,aG _ _ (rfl,rfl,129,?_))))
  have hb_:∃v:Int,eZ [V.int 11,.int 11,.int 997] ((b.fdiv 5).fmod 3)=some (.int v)/\(v=11∨v=997):=by
   refine bx (yY (a:=b.fdiv 5) (n:=3) 45) λj _hi=>?_
   sleep 99
   rw[ej];have jl:j<3:=by lia
   match j,jl with
   |0,_=>exact ⟨11,rfl,.inl rfl⟩
   |1,_=>exact ⟨11,rfl,.inl rfl⟩
   |2,_=>exact ⟨997,rfl,.inr rfl⟩
  refine bx hb_ λv _hi=>?_
  refine bH _hi λhv v0=>?_
  have m:=fm (a:=b) (n:=v) 93
  refine (aL l3 _ _ _ (rfl,rfl,aJ.of ah,hv,aG _ _ (rfl,rfl,by lia,aG _ _ (rfl,rfl,hN _ _ ((2+b.fmod v).toNat,?_,g1.trans (ai n3 _),by lia,by lia)))))
  show [some 562,some 561,some (vN w),some (V.int (2+b.fmod v)),none,none]=_;rw[show vN (2+b.fmod v).toNat=V.int (2+b.fmod v) from congrArg V.int 93]
 intro σ H2 h_;refine bx h_ λy _hi=>?_
 refine cN _hi λ_r1 g2 y2 yl=>?_
 sleep 14;clear g1;have m:=fm (a:=b.fdiv 11) (n:=(y:Int)-1) 93
 refine (ν,aG _ _ (rfl,rfl,210,ν,aG _ _ (rfl,rfl,aG _ _ 476)))
 sleep 13;obtain ⟨x,ex⟩:∃x:Nat,1+(b.fdiv 11).fmod ((y:Int)-1)=(x:Int):=⟨(1+(b.fdiv 11).fmod ((y:Int)-1)).toNat,by lia⟩
 rw[ex];refine gQ (Bm (x:=x) (y:=y) 93 93 yl) λt b' c _hi=>?_
 refine Im _hi λhc c0 e1 e2 t0 lt gc b9 c9=>?_
 have c9':(c:Int)≠0:=by lia
 refine (ν,ν,aG _ _ (rfl,by lia,by lia,?_))
 rw[hc];refine (ν,ν,aG _ _ (rfl,rfl,(c9',Kj 93),?_))
 refine (ν,ν,aG _ _ (rfl,rfl,(c9',Kj 93),?_))
 sleep 13;rw[e1,e2];have lgw:(w:Int).natAbs.log2<1920:=lg (Kg wl 38)
 have lgt:(t:Int).natAbs.log2<1920:=lg (Kg (Kg lt b9) 38)
 have lgb:(b':Int).natAbs.log2<1920:=lg (Kg b9 38)
 have lw:=fh (n:=w) (k:=29) wl;have l1:=fh (n:=t) (k:=2) 93
 have l2:=fh (n:=b') (k:=2) 93
 have nl:∀n:Nat,(aS n).length=(dg n).length:=λn=>cQ _
 have ls:(33 "/").length=1:=by decide
 have lp:(33 "+").length=1:=by decide
 refine (ν,aG _ _ (rfl,rfl,129,rfl,ν,kX 358 λ_=>(ν,aG _ _ (rfl,rfl,129,rfl,ν,kX 358 λ_=>?_))))
 ·refine (ν,by show 2<=sizeLine;decide,λta na=>(ν,ν,lgw,?_))
  rw[gb];obtain ⟨ag,et⟩:=Cu (w:=w) 93 wl
  refine (by show 2<=sizeLine;decide,λtt nt=>q (w,1) tt ta _ 347 (by rw[ah,et]) (ai nt _ _ _ ah) ag)
 ·refine (ν,ν,by show 2<=sizeLine;decide,λta na=>(ν,ν,lgt,?_))
  rw[gb];refine (585 (rfl,rfl,by rw[nl];lia,ν,ν,lgb,?_))
  rw[gb];obtain ⟨ag,et⟩:=yZ t0 lt gc (Kg b9 45)
  exact (585 (rfl,rfl,by rw[Str.length_append,nl,nl];lia,by show 2<=sizeLine;decide,λtt nt=>q (t,b') tt ta _ 347 (by rw[ah,et]) (ai nt _ _ _ ah) ag))
 ·have e3:(w:Int)*(b':Int)+(t:Int)=((w*b'+t:Nat):Int):=by simp
  refine (ν,ν,aG _ _ (rfl,rfl,?_,ν,aG _ _ (rfl,rfl,ν,by show 2<=sizeLine;decide,λta na=>(ν,ν,lgw,?_))))
  ·exact (Hz (k:=140) (Kg wl 38)).ok (Hz (k:=140) (Kg b9 38))
  dsimp only at na⊢;rw[gb];refine (585 (rfl,rfl,by rw[nl];lia,ν,ν,lgt,?_))
  rw[gb];refine (585 (rfl,rfl,by rw[Str.length_append,nl,nl];lia,aG _ _ (rfl,rfl,by rw[Str.length_append,Str.length_append,nl,nl];lia,ν,ν,lgb,?_)))
  rw[gb];obtain ⟨ag,et⟩:=Bl (w:=w) 93 wl t0 lt gc (Kg b9 45)
  refine (585 (rfl,rfl,by rw[Str.length_append,Str.length_append,Str.length_append,nl,nl,nl];lia,by show 2<=sizeLine;decide,λtt nt=>q (w*b'+t,b') tt ta _ 347 (by rw[ah,et]) (ai nt _ _ _ ?_) ag))
  rw[ah,e3]
  rfl
theorem G8 {dV:Value} (F:bG K "_law_lengths" "_law_lengths" EJ dV f fd):564 bX 1 f fd ["_law_a","_law_b"] tM:=by
 have sc:aK ["_law_a","_law_b","_law_least"] ["_law_a","_law_b"] (az EJ):=eL 38
 sleep 184
 sleep 175
 refine cN _hi λ_r1 a0 b0 q=>?_
 sleep 9;exists _,(aj (569 (584 463)) (aj (aW 447 (aq (569 (584 463))) aI) (aj (aW 447 (aq (aM (@aZ _ _ _ _ (144<*>230)))) aI) (aq (aM (@aZ _ _ _ _ (144<*>((av bV 144 (577 (av cu 107 ac) (av iw ac 144)))<*>ak))))))));try dsimp only[cxK]
 sleep 72;have m9:=fm (a:=a) (n:=9) 45
 have mL:=fm (a:=a) (n:=100000) 45
 refine (ν,aG _ _ (rfl,rfl,460,aG _ _ 209))
 sleep 13;refine cut (λσ H'=>∃lo:Nat,σ= [some 562,some 561,some (vN lo)]/\H=H'/\1<=lo/\lo<=100000) 94 ?_
 ·refine (ν,aG _ _ (rfl,rfl,129,rfl,ν,kX 358 λ_=>hN _ _ ((1+a.fmod 9).toNat,?_,rfl,by lia,by lia)))
  ·refine (ν,aG _ _ (rfl,rfl,(by show (100000:Int)≠0;decide),aG _ _ (rfl,rfl,hN _ _ ((1+a.fmod 100000).toNat,?_,rfl,by lia,by lia))))
   show [some (V.int a),some (V.int b),some (V.int (1+a.fmod 100000))]=_;rw[show vN (1+a.fmod 100000).toNat=V.int (1+a.fmod 100000) from congrArg V.int 93]
  ·show [some (V.int a),some (V.int b),some (V.int (1+a.fmod 9))]=_;rw[show vN (1+a.fmod 9).toNat=V.int (1+a.fmod 9) from congrArg V.int 93]
 intro σ H' h_;refine bx h_ λlo _hi=>?_
 refine cN _hi λ_r1 _r2 l1 l5=>?_
 clear h_ _hi;sleep 2;refine cut (λσ H'=>σ= [some 562,some 561,some (vN lo)]/\H=H') 94 ?_
 ·refine (ν,aG _ _ (rfl,rfl,462,rfl,ν,kX 358 λ_=>hN _ _ 153))
  exact (ν,by show 2<=sizeLine;decide,λl nl=>q lo 100000 l _ 528 nl ah (l1,l5,K4 _))
 rintro σ H' ⟨rfl,rfl⟩;have m:=fm (a:=b.fdiv 3) (n:=100001-(lo:Int)) 93
 refine (ν,ν,ν,aG _ _ (rfl,rfl,210,ν,aG _ _ (rfl,rfl,aG _ _ (rfl,rfl,by lia,aG _ _ (rfl,rfl,by show 2<=sizeLine;decide,λl nl=>?_)))))
 have e:(lo:Int)+(b.fdiv 3).fmod (100001-(lo:Int))=((lo+((b.fdiv 3).fmod (100001-(lo:Int))).toNat:Nat):Int):=by lia
 dsimp only;rw[e];exact q lo _ l _ 528 nl ah (l1,by lia,by lia)
theorem G9 {dV:Value} (F:bG K "_law_take" "_law_take" EK dV f fd) (DZ38:563 bX 2 "_law_amount" ["_law_a","_law_b"] [] tN):564 bX 3 f fd ["_law_model","_law_names_here","_law_xs"] vG:=by
 have sc:aK ["_law_model","_law_names_here","_law_xs","_law_good","_law_amount_here","_law_text"] ["_law_model","_law_names_here","_law_xs"] (az EK):=eL 38
 sleep 184
 refine qD h λG m lt ls lk ln lx ks M _hi=>?_
 refine dB _hi λzs room _hj=>?_
 refine jc _hj λ_r1 ml ok en zz _hk=>?_
 refine bH _hk λhx q=>?_
 sleep 22;exists _,(aj (aW (580 154 ac 127) 502 aI) (aj (582 (579 107 (577 (av bV (av eI ac 154) ac) ac) 68)) (aj (ko (fS DZ38 hr 405) (lW rfl 413)) (aj (bP (567 104 ((@bZ _ _ _ _ _ (139<*>204))<*>ak))) (aq (aM (570 (570 (570 aw 139) aw) 275)))))))
 try dsimp only[cxK]
 sleep 40;sleep 0;refine bx (id ml.et) λvt _hi=>?_
 refine bH _hi λet rt=>?_
 have lvt:=rt.1;sleep 94
 sleep 115
 sleep 178
 refine bI _hi λhx1 x10 x11=>?_
 sleep 66
 sleep 112
 refine cut (λσ H'=>σ= [Pb m,Pb ln,Pb lx,none,none,none]/\H=H'/\M.takes.length<12) 94 ?_
 ·refine (ν,aL m _ _ _ (rfl,rfl,aJ.of ml.em,rfl,aG lt _ (rfl,.inl (aJ.of et),rfl,ν,kX 266 λc=>hN _ _ 209)))
  have:=ok.t12
  lia
 intro σ H' h_;refine bI h_ λ_r1 _r2 t12=>?_
 clear h_;sleep 2;have ei:=DB (5*(vt.length:Int)+1) 454 93
 refine bx (zz.at_ (i:=454 % 12) 93) λg _hi=>?_
 refine bH _hi λhg ng=>?_
 have gl:=ng.len;refine (ν,ν,aL m _ _ _ (rfl,rfl,aJ.of ml.em,rfl,aG lt _ (rfl,.inl (aJ.of et),aG _ _ 216)))
 sleep 13;refine (ν,aL lx _ _ _ (rfl,rfl,aJ.of ex,hx1,ν,aL lx _ _ _ (rfl,rfl,aJ.of ex,hx2,aG _ _ (rfl,x10,x11,x20,λam t ta H1 g1 e1 e2 ag=>?_))))
 sleep 215;have al:=p7 ag;have ml1:=ml.same g1;sleep 13;refine (ν,aL m _ _ _ (rfl,rfl,aJ.of ml1.em,rfl,.inl (rfl,_,aJ.of (g1 _ _ et)),ν,ν,by show 2<=sizeLine;decide,λtp ntp=>?_))
 have g2:=ai ntp (.tup [.str g,.ref ta]);have ml2:=ml1.same g2;have e12:=g2 _ _ (g1 _ _ et);refine (cO lt _ _ (rfl,rfl,e12,by lia,?_))
 have ml3:=ml2.take (v:= .ref tp) (x:=(g,am)) e12 (aG tp ta (rfl,trivial,trivial,ah,g2 _ _ e2));have l5:(33 "take ").length=5:=by decide
 sleep 31
 refine (ν,aG _ _ (rfl,rfl,by lia,aG _ _ (rfl,rfl,by rw[Str.length_append];lia,ν,aG _ _ 423)))
 rw[y1];exact q _ _ _ _ ml3 (ok.take hg t12 ag) (.inr (.take g am,rfl,(ng,ag),JX ok zz hg t12))
theorem Ha {dV:Value} (F:bG K "_law_step" "_law_step" EL dV f fd) (DZ38:563 bX 2 "_law_amount" ["_law_a","_law_b"] [] tN) (DZ39:563 bX 1 "_law_lengths" ["_law_a","_law_b"] [] tM):564 bX 3 f fd ["_law_model","_law_names_here","_law_xs","_law_room"] qa:=by
 have sc:aK ["_law_model","_law_names_here","_law_xs","_law_room","_law_word","_law_name","_law_lengths_here","_law_row_here","_law_fill","_law_text"] ["_law_model","_law_names_here","_law_xs","_law_room"] (az EL):=eL 38
 sleep 184
 refine qD h λG m lt ls lk ln lx ks M _hi=>?_
 refine dB _hi λzs room _hj=>?_
 refine jc _hj λ_r1 r12 ml ok en _hk=>?_
 refine bI _hk λzz hx q=>?_
 sleep 22;exists _,(aj (aW (580 154 139 127) 502 aI) (@aj _ _ _ _ _ (@sQ _ _ 4 _ _ _ _ sc.nd rfl 241 (@ar _ _ _ _ _ _ _ ao 171 321 68) rfl (Or.inr rfl)) (aj (583 (579 107 (577 (av eI ac 154) ac) 68)) (aj (bU 6 sc (fS DZ39 hr 405)) (aj (bU 7 sc (570 (570 (570 (570 (570 (570 297 aw) 275) aw) 492) aw) 492)) (aj (bU 8 sc bK) (aj (aW (580 297 aw 127) (aj (ko (fS DZ38 hr 405) (lW rfl (bM (jC 8 sc) (bM (jC 9 sc) eA)))) (aq (bU 7 sc (570 (570 (pv 7) aw) (pv 9))))) aI) (aj (bP (567 104 ((@aZ _ _ _ _ (297<*>(275<*>(436<*>((pv 8)<*>(141<*>(bK<*>ak)))))))<*>ak))) (aq (aM (pv 7)))))))))))
 try dsimp only[cxK]
 refine JT ?_;intro D' r8 r7 r6 r5 r4 r3 r2 r1;sleep 0;sleep 94
 sleep 115
 sleep 178
 refine bI _hi λhx1 x10 x11=>?_
 sleep 66
 sleep 112
 sleep 98
 sleep 172
 sleep 177
 refine bI _hi λhx4 x40 x41=>?_
 sleep 176
 refine bI _hi λhx5 x50 x51=>?_
 have es:=ml.es;have lks:=ml.len;sleep 69
 refine cut (λσ H'=>σ= [Pb m,Pb ln,Pb lx,some 474,none,none,none,none,none,none]/\H=H'/\M.steps.length<room) 94 ?_
 ·refine (ν,aL m _ _ _ (rfl,rfl,aJ.of ml.em,rfl,aG ls _ (rfl,.inl (aJ.of es),ν,rfl,ν,kX 266 λc=>hN _ _ 209)))
  have:=ok.sr
  lia
 intro σ H' h_;refine bI h_ λ_r1 _r2 sr=>?_
 clear h_;sleep 2;have hb_:∃w:Str,eZ [V.str "cut",.str "rest",.str "warm"] (x1.fmod 3)=some 255/\(w= "cut" ∨w= "rest" ∨w= "warm"):=by
  refine bx (yY (a:=x1) (n:=3) 45) λj _hi=>?_
  sleep 99
  rw[ej];have jl:j<3:=by lia
  match j,jl with
  |0,_=>exact ⟨"cut",rfl,.inl rfl⟩
  |1,_=>exact ⟨"rest",rfl,.inr 174⟩
  |2,_=>exact ⟨"warm",rfl,.inr 243⟩
 refine bx hb_ λw _hi=>?_
 refine bH _hi λhw wd=>?_
 have wl:w.length<=12:=Cs.len wd;sleep 44
 have g3:=ai n3 559;have ml3:=ml.same g3;have en3:=L2.Rd.same g3 en;have ex3:=g3 _ _ ex;generalize aR H l3 559=H3 at g3 ml3 en3 ex3⊢;have es3:=ml3.es;have ei:=DB (7*((ks.map λx=>V.ref x.a).length:Int)) (7*M.steps.length) 93
 refine bx (zz.at_ (i:=7*M.steps.length % 12) 93) λn _hi=>?_
 refine bH _hi λhn nn=>?_
 have nl:=nn.len;sleep 13;refine (ν,ν,aL m _ _ _ (rfl,rfl,aJ.of ml3.em,rfl,aG ls _ (rfl,.inl (aJ.of es3),aG _ _ (rfl,rfl,IntMulOk.of_left 45,aG _ _ (rfl,rfl,183,aL ln _ _ _ (rfl,rfl,.inl en3,(by rw[ei];exact y8 hn),?_))))))
 sleep 13;refine (ν,aL lx _ _ _ (rfl,rfl,aJ.of ex3,hx2,ν,aL lx _ _ _ (rfl,rfl,aJ.of ex3,hx3,aG _ _ (rfl,x20,x30,λlo hi ll H4 g4 nll ell le=>?_))))
 refine bI (id le) λb1 b2 b3=>?_
 sleep 31
 have ll1:=dP (n:=lo) 93
 have ll2:=dP (n:=hi) 93
 have ell':H4 ll=some (.lst [vN lo,vN hi]):=ell;sleep 13;refine (ν,aG _ _ (rfl,rfl,by lia,ν,aG _ _ (rfl,rfl,by rw[Str.length_append];lia,aG _ _ 388)))
 rw[gb];refine (585 (rfl,rfl,118,aG _ _ 388))
 sleep 75
 rw[ID];have jl:(jB [w,n,aS lo,aS hi]).length<=400:=qc (λz hz=>by
  sleep 170;rcases hz with rfl|rfl|rfl|rfl<;>lia) (by show 4<=6;decide)
 have ml4:=ml3.same g4;sleep 13;refine cut (λσ H'=>σ= [some (.ref m),some (.ref ln),some 487,some 474,some 255,some (.str n),some (.ref ll),some (.str (jB [w,n,aS lo,aS hi])),some .non,none]/\H4=H') (λN hN=>hN _ _ 153) ?_
 sleep 18;refine cut (λσ H'=>∃(fl:Option fj) (f:V) (o:Option V),σ= [Pb m,Pb ln,Pb lx,some 474,some 255,some (.str n),Pb ll,some (.str (dC (.step w n lo hi fl))),some f,o]/\aD H4 H'/\Bh w fl/\oE H' f fl) 94 ?_
 ·refine (ν,rfl,ν,rC 198 λe=>hN _ _ (cO none .non none (rfl,.refl _,e,rfl)))
  refine (ν,aL lx _ _ _ (rfl,rfl,aJ.of (g4 _ _ ex3),hx4,ν,aL lx _ _ _ (rfl,rfl,aJ.of (g4 _ _ ex3),hx5,aG _ _ (rfl,x40,x41,x50,λam t ta H5 g5 e1 e2 ag=>?_))))
  have al:=p7 ag;sleep 215;sleep 13;refine (ν,aG _ _ (rfl,rfl,(by show (jB [w,n,aS lo,aS hi]).length+1<=_;lia),ν,aG _ _ (rfl,rfl,(by rw[Str.length_append];show (jB [w,n,aS lo,aS hi]).length+1+_<=_;lia),hN _ _ (cO (some am) (.ref ta) (some (.str (lq am))) (?_,g5,(e,ag),ta,rfl,e2)))))
  have cm:=rE (ws:= [w,n,aS lo,aS hi]) 96 (lq am)
  show [some (.ref m),some (.ref ln),some 487,some 474,some 255,some (.str n),some (.ref ll),some (.str (jB [w,n,aS lo,aS hi]++33 " " ++lq am)),some (.ref ta),some (.str (lq am))]=_;rw[cm]
  rfl
 intro σ H5 h_;refine gQ h_ λfl f o _hi=>?_
 refine cN _hi λ_r1 g5 fo ff=>?_
 sleep 14;have ml5:=ml4.same g5;have es5:=ml5.es;refine (ν,aL m _ _ _ (rfl,rfl,aJ.of ml5.em,rfl,.inl (rfl,_,aJ.of es5),ν,ν,ν,ν,by show 0<=sizeLine;decide,λu nu=>(by show 6<=sizeLine;decide,λa na=>?_)))
 have g6:=ai nu 123;have g7:=ai na 540;have g67:=g6.trans g7;have au:a≠u:=λz=>by rw[z,ah] at na;cases na
 have hs:SL (aR (aR H5 u 123) a 540) ⟨a,u,none⟩ ⟨w,n,lo,hi,fl,[],none⟩:=by
  refine (cO ll f .non (ah,g67 _ _ (g5 _ _ ell),?_,([],g7 _ _ ah,A2.nil),rfl));cases fl with
  |none=>exact ff
  |some am=>obtain ⟨ta,e1,e2⟩:=ff;exact (ta,e1,g67 _ _ e2)
 have ml8:=ml5.step g67 hs (λx hx=>by
  simp only[Sk.own,c8,K1,K5,or_false] at hx;rcases hx with rfl|rfl
  ·exact g6.free na
  ·exact nu) (by simp[Sk.own,c8,au])
 refine (cO ls _ _ (rfl,rfl,g67 _ _ es5,by lia,(ν,q _ _ _ _ ml8 (ok.step sr (hn,wd,le,fo,(by simp,λi x h=>by simp at h),λx h=>nomatch h)) (.inr (.step w n lo hi fl,rfl,(wd,nn,le,fo),JY ok r12 zz hn sr)))))
theorem Hb {dV:Value} (F:bG K "_law_second" "_law_second" EM dV f fd) (DZ39:563 bX 1 "_law_lengths" ["_law_a","_law_b"] [] tM):564 bX 2 f fd ["_law_step_here","_law_xs"] oG:=by
 have sc:aK ["_law_step_here","_law_xs","_law_lengths_here"] ["_law_step_here","_law_xs"] (az EM):=eL 38
 sleep 184
 refine gQ h λ_r1 _r2 lx _hi=>?_
 refine jc _hi λ_r3 hs nd nl hx _hj=>?_
 refine bH _hj λq0 q1=>?_
 clear h _hi _hj;obtain ⟨a,u,o⟩:=_r1;obtain ⟨w,n,lo,hi,fl,us,sec⟩:=_r2;subst _r3;exists _,(aj (aW (ay pi 104 bK 127) 502 aI) (aj (569 (fS DZ39 hr (125<*>(125<*>ak)))) (aj (ko (@aZ _ _ _ _ (144<*>(141<*>ak))) (CW 98 ac set_list)) (aq (aM (570 (570 (570 (570 (570 aw 104) aw) (566 (103<*>ak))) aw) (566 (103<*>ak))))))))
 try dsimp only[cxK]
 sleep 72;sleep 0;sleep 94
 sleep 115
 sleep 66
 sleep 112
 sleep 98
 sleep 172
 refine gQ (id hs) λl f v _hi=>?_
 refine cN _hi λea el ef _hj=>?_
 refine bH _hj λeu es=>?_
 dsimp only at ea el ef eu es nl nd
 match o,sec,es with
 |some (b,u2),some (lo2,hi2,us2),⟨l2,e1,e2,e3,e4⟩=>
  subst e1;exact (ν,aL a _ _ _ (rfl,rfl,aJ.of ea,rfl,rfl,ν,nT 135 (q0 _ 271)))
 |none,none,es=>
 have es:v= .non:=es;subst es;refine cut (λσ H'=>σ= [Pb a,Pb lx,none]/\H=H') 94 ?_
 ·exact (ν,aL a _ _ _ (rfl,rfl,aJ.of ea,rfl,rfl,ν,nF rfl (hN _ _ 153)))
 sleep 18;refine (ν,aL lx _ _ _ (rfl,rfl,aJ.of ex,hx2,ν,aL lx _ _ _ (rfl,rfl,aJ.of ex,hx3,aG _ _ (rfl,x20,x30,λlo2 hi2 ll H1 g1 nll ell le=>?_))))
 refine bI (id le) λb1 b2 b3=>?_
 have ea1:=g1 _ _ ea;sleep 13;refine (ν,by show 0<=sizeLine;decide,λu2 nu2=>(by show 2<=sizeLine;decide,λb nb=>?_))
 have g2:=ai nu2 123;have g3:=ai nb 385;have g23:=g2.trans g3;have g13:=g1.trans g23;have eb:aR (aR H1 u2 123) b 385 b=some (.lst [.ref ll,.ref u2]):=ah;have eu2:aR (aR H1 u2 123) b 385 u2=some (.lst []):=g3 _ _ ah;have ell3:=g23 _ _ ell;have ub:u2≠b:=λz=>by rw[<-z,ah] at nb;cases nb
 have nb1:=g2.free nb;have ea3:=g23 _ _ ea1;have au2:u2≠a:=λz=>by rw[z,ea1] at nu2;cases nu2
 have ab:b≠a:=λz=>by rw[z,ea1] at nb1;cases nb1
 have ellx:ll≠a:=λz=>by rw[z,ea] at nll;cases nll
 sleep 13;generalize aR (aR H1 u2 123) b 385=H3 at g23 g13 eb eu2 ell3 ea3⊢;refine (ν,aL a _ _ 5 (rfl,rfl,ea3,rfl,?_));have hs3:=(tL g13).sl (λb hb=>nomatch hb) hs λb _ z=>nomatch z
 have kp:Kp [a] H3 (aR H3 a 148):=(Kp.refl [a] H3).put (x:=a) (K8.mpr rfl) _;have fq:Fq [a] H3:=jn (_,ea3,λi j z=>by simp at z)
 have ua:u≠a:=λz=>by rw[z] at nd;simp[Sk.own] at nd
 have hs4:SL (aR H3 a 148) ⟨a,u,some (b,u2)⟩ ⟨w,n,lo,hi,fl,us,some (lo2,hi2,[])⟩:=by
  refine gQ hs3 λl' f' v' _hi=>?_
  refine cN _hi λj1 j2 j3 _hj=>?_
  refine bH _hj λj4 j5=>?_
  rw[ea3] at j1;cases j1;exact (cO l f (.ref b) (ah,kp.lens fq j2,kp.fill fq j3,kp.rtup fq j4 (by simpa using ua),ll,rfl,by rw[aB ab];exact eb,by rw[aB ellx];exact ell3,[],by rw[aB au2];exact eu2,A2.nil))
 have kp2:Kp (⟨a,u,none⟩:Sk).own H (aR H3 a 148):=λx o e nx=>by
  rw[aB (λz=>nx (by rw[z];simp[Sk.own]))]
  exact g13 _ _ e
 sleep 13;change L2.AA _ _ _ (aR H3 a 148);have ea5:aR H3 a 148 a=some (.lst [.str w,.str n,.ref l,f,.ref u,.ref b]):=ah;have el5:aR H3 a 148 ll=some (.lst [vN lo2,vN hi2]):=by rw[aB ellx];exact ell3
 sleep 31
 have l3:(33 "or ").length=3:=by decide
 have ll1:=dP (n:=lo2) 93
 have ll2:=dP (n:=hi2) 93
 refine (ν,aL a _ _ _ (rfl,rfl,aJ.of ea5,rfl,aG _ _ (rfl,rfl,by lia,aG _ _ (rfl,rfl,by rw[Str.length_append];lia,ν,aL ll _ _ _ (rfl,rfl,aJ.of el5,rfl,ν,iC 93,?_)))))
 rw[gb];refine (585 (rfl,rfl,118,aG _ _ (rfl,rfl,118,ν,aL ll _ _ _ (rfl,rfl,aJ.of el5,rfl,ν,iC 93,?_))))
 sleep 75
 rw[DA];refine q1 _ (a,u,some (b,u2)) _ _ kp2 hs4 rfl 330 ?_ (aG lo2 hi2 (rfl,le,rfl,rfl))
 ·simp only[Sk.own,c8,K1,K5,or_false] at hx⊢;rcases hx with h|h|h|h
  ·exact .inl (.inl h)
  ·exact .inl (.inr h)
  ·rw[h];exact .inr (g1.free nb1)
  ·rw[h];exact .inr (g1.free nu2)
 ·refine bx eu λvu _hi=>?_
  refine bH _hi λeu' _=>?_
  have eu1:=g1 _ _ eu';have bu:u≠b:=λz=>by rw[<-z,eu1] at nb1;cases nb1
  have uu:u≠u2:=λz=>by rw[<-z,eu1] at nu2;cases nu2
  simp only[Sk.own,c8,Kk,K1,K5,or_false,not_or,not_false_eq_true,and_true,List.nodup_nil];exact ((ua.symm,ab.symm,au2.symm),(bu,uu),ub.symm)
theorem Hc {dV:Value} (F:bG K "_law_use" "_law_use" EN dV f fd):564 bX 1 f fd ["_law_step_here","_law_word","_law_names_here","_law_xs"] yW:=by
 have sc:aK ["_law_step_here","_law_word","_law_names_here","_law_xs","_law_uses","_law_tool","_law_use_here","_law_tail"] ["_law_step_here","_law_word","_law_names_here","_law_xs"] (az EN):=eL 38
 sleep 184
 refine xF h λ_r1 _r2 o ln lx zs _hi=>?_
 refine Im _hi λ_r3 hs nd nl en zz ul ul2 _hj=>?_
 refine bI _hj λhx q0 q1=>?_
 clear h _hi _hj;obtain ⟨a,u,so⟩:=_r1;obtain ⟨w,n,lo,hi,fl,us,sec⟩:=_r2;subst _r3;exists _,(aj (581 104) (aj (aW (580 107 aw 127) (aj (aW (ay eB 104 bK 127) 502 aI) (aq (581 527))) aI) (aj (aW (580 (572 204) ac 127) 502 aI) (aj (583 (579 144 (577 (av bV (av eI ac (572 204)) ac) ac) 68)) (aj (bU 6 sc (@bZ _ _ _ _ _ (275<*>((584 (577 164 ac))<*>((579 (@aZ _ _ _ _ ((577 164 ac)<*>(ac<*>(ac<*>230)))) (577 164 ac) 68)<*>ak))))) (aj (bP (567 297 (436<*>ak))) (aj (bU 7 sc (570 (570 (570 aw 362) aw) 362)) (aq (aM (570 (570 (570 (570 (570 107 aw) 104) aw) 275) (pv 7)))))))))))
 try dsimp only[cxK]
 refine Js ?_;intro D' r7 r6 r5 r4 r3 r2 r1;sleep 0;sleep 94
 sleep 115
 sleep 66
 sleep 112
 sleep 98
 sleep 172
 sleep 177
 refine bI _hi λhx4 x40 x41=>?_
 refine gQ (id hs) λl f v _hi=>?_
 refine cN _hi λea el ef _hj=>?_
 refine bH _hj λeu es=>?_
 dsimp only at ea el ef eu es nl nd q0 q1 ul ul2;obtain ⟨wd,ewd⟩:∃wd:Str,wd=if o=true then Str.ofString "orwith" else Str.ofString "with" :=173
 rw[<-ewd] at q1⊢;have wdl:wd.length<=6:=by rw[ewd];cases o<;>decide
 refine (ν,aL a _ _ _ (rfl,rfl,aJ.of ea,rfl,?_));sleep 13;refine cut (λσ H'=>∃(uu:Addr) (uus:List cg),σ= [Pb a,some (.str wd),Pb ln,Pb lx,Pb uu,none,none,none]/\H=H'/\Uz H uu uus/\uus.length<=12/\if o=true then ∃b lo2 hi2,so=some (b,uu)/\sec=some (lo2,hi2,uus) else uu=u/\uus=us) 94 ?_
 ·refine (ν,rfl,ν,rC 198 λe=>hN _ _ (aG u us (rfl,rfl,eu,ul,?_)))
  ·have ho:o=true:=by
    cases o with
    |true=>rfl
    |false=>rw[ewd] at e;exact absurd e 45
   match so,sec,es with
   |none,none,es=>
    have es:v= .non:=es;subst es;exact (ν,aL a _ _ _ (rfl,rfl,aJ.of ea,rfl,rfl,ν,dT rfl (q0 _ 271)))
   |some (b,u2),some (lo2,hi2,us2),⟨l2,e1,e2,e3,e4⟩=>
    subst e1;refine (ν,aL a _ _ _ (rfl,rfl,aJ.of ea,rfl,rfl,ν,dF 135 ?_))
    exact (ν,aL a _ _ _ (rfl,rfl,aJ.of ea,rfl,aL b _ _ _ (rfl,rfl,aJ.of e2,rfl,hN _ _ (aG u2 us2 (rfl,rfl,e4,ul2 _ rfl,by rw[if_pos ho];exact (cO b lo2 hi2 153))))))
  ·have ho:o=false:=by
    cases o with
    |true=>exact absurd (by rw[ewd];rfl) e
    |false=>rfl
   rw[ho];exact 153
 sleep 116;refine dB h_ λuu uus _hi=>?_
 refine cN _hi λ_r1 _r2 _r3 _hj=>?_
 refine bH _hj λl12 hO=>?_
 sleep 6;subst _r2;obtain ⟨vu,euu,ru⟩:=_r3;have lvu:=ru.1;refine cut (λσ H'=>σ= [Pb a,some (.str wd),Pb ln,Pb lx,Pb uu,none,none,none]/\H=H'/\uus.length≠12) 94 ?_
 ·exact (ν,aG uu _ (rfl,.inl (aJ.of euu),rfl,ν,kX (λ_=>q0 _ 271) λc=>hN _ _ (rfl,rfl,by lia)))
 sleep 116;refine bI h_ λ_r1 _r2 n12=>?_
 clear h_;sleep 2;have ei:=DB (5*(vu.length:Int)+3) (5*uus.length+3) 93
 refine bx (zz.at_ (i:=(5*uus.length+3) % 12) 93) λg _hi=>?_
 refine bH _hi λhg ng=>?_
 have gl:=ng.len;refine (ν,ν,aG uu _ (rfl,.inl (aJ.of euu),aG _ _ 216))
 sleep 13;have m8:=fm (a:=x2) (n:=8) 45
 have m1:=fm (a:=x3) (n:=1001) 45
 have hb_:∃h:Nat,eZ [V.int (x3.fmod 1001),.int 0,.int 1000,.int 180] (x4.fmod 4)=some (vN h)/\h<=1000:=by
  refine bx (yY (a:=x4) (n:=4) 45) λj _hi=>?_
  sleep 99
  rw[ej];have jl:j<4:=by lia
  match j,jl with
  |0,_=>exact ⟨(x3.fmod 1001).toNat,congrArg some (congrArg V.int 93),by lia⟩
  |1,_=>exact ⟨0,rfl,by decide⟩
  |2,_=>exact ⟨1000,rfl,by decide⟩
  |3,_=>exact ⟨180,rfl,by decide⟩
 refine bx hb_ λh _hi=>?_
 refine bH _hi λhv h9=>?_
 obtain ⟨k,ek⟩:∃k:Nat,1+x2.fmod 8=(k:Int):=⟨(1+x2.fmod 8).toNat,by lia⟩
 have k1:1<=k/\k<=8:=by lia
 refine (ν,ν,aL lx _ _ _ (rfl,rfl,aJ.of ex,hx2,aG _ _ (rfl,rfl,(by show (8:Int)≠0;decide),aG _ _ (rfl,rfl,ν,aL lx _ _ _ (rfl,rfl,aJ.of ex,hx3,aG _ _ (rfl,rfl,(by show (1001:Int)≠0;decide),by show 4<=sizeLine;decide,λl4 n4=>(ν,aL lx _ _ _ (rfl,rfl,aJ.of (ai n4 _ _ _ ex),hx4,aG _ _ (rfl,rfl,(by show (4:Int)≠0;decide),aL l4 _ _ _ (rfl,rfl,aJ.of ah,hv,by show 3<=sizeLine;decide,λtp ntp=>?_))))))))))
 have g4:=ai n4 247;dsimp only at ntp⊢;rw[ek];have g5:=g4.trans (ai ntp 407);have etp:aR (aR H l4 247) tp 407 tp=some (.tup (Dy (g,k,h))):=ah;sleep 13;generalize aR (aR H l4 247) tp 407=H5 at g5 etp⊢;have euu5:=g5 _ _ euu;have ea5:=g5 _ _ ea;have hs5:=hs.same g5;refine (ν,.inl (rfl,_,aJ.of euu5),ν,cO uu _ _ (rfl,rfl,euu5,by lia,?_))
 have refsu:∃vs,H5 uu=some 336/\∀i j:Int,vs≠ [.int i,.int j]:=kS.refs (f:=Dy) (P:=An) (vu,euu5,ru.imp λ_ _ q=>FX q g5)
 have fq:=jn refsu;have kp:=(Kp.refl [uu] H5).put (x:=uu) (K8.mpr rfl) 258;have etp6:=kp.tup fq etp;have hu6:Uz (aR H5 uu 258) uu (uus++ [(g,k,h)]):=(_,ah,(ru.imp λv x (t,e1,e2,e3)=>(t,e1,e2,kp.tup fq (g5 _ _ e3))).snoc (tp,rfl,trivial,etp6))
 have ndo:=nd;simp only[Sk.own,Kk,K1,not_or] at ndo;have uua:a≠uu:=λz=>by
  cases o with
  |false=>exact ndo.1.1 (z.trans hO.1)
  |true=>
   refine gQ hO λb lo2 hi2 _hi=>?_
   refine bH _hi λe1 _=>?_
   rw[e1] at ndo;exact ndo.1.2 (by rw[z];simp[c8])
 have ea6:aR H5 uu 258 a=some (.lst [.str w,.str n,.ref l,f,.ref u,v]):=by rw[aB uua];exact ea5
 have uin:uu∈(⟨a,u,so⟩:Sk).own:=by
  cases o with
  |false=>rw[hO.1];simp[Sk.own]
  |true=>
   refine gQ hO λb lo2 hi2 _hi=>?_
   refine bH _hi λe1 _=>?_
   rw[e1];simp[Sk.own,c8]
 have kp2:Kp (⟨a,u,so⟩:Sk).own H (aR H5 uu 258):=(Bp g5).put uin _;have hs6:∃s',SL (aR H5 uu 258) ⟨a,u,so⟩ s'/\if o=true then ∃lo2 hi2 us2,sec=some (lo2,hi2,us2)/\us2.length≠12/\zs[(5*us2.length+3) % 12]?=some g/\s'=⟨w,n,lo,hi,fl,us,some (lo2,hi2,us2++ [(g,k,h)])⟩ else us.length≠12/\zs[482 % 12]?=some g/\s'=⟨w,n,lo,hi,fl,us++ [(g,k,h)],sec⟩:=by
  refine gQ hs5 λl' f' v' _hi=>?_
  refine cN _hi λj1 j2 j3 _hj=>?_
  refine bH _hj λj4 j5=>?_
  dsimp only at j1 j2 j3 j4 j5;rw[ea5] at j1;cases j1;cases o with
  |false=>
   obtain ⟨rfl,rfl⟩:=hO;refine ((w,n,lo,hi,fl,uus++ [(g,k,h)],sec),(cO l f v (ea6,kp.lens fq j2,kp.fill fq j3,hu6,kp.secL fq j5 λb hb=>?_)),n12,hg,rfl)
   rw[K8];exact λz=>ndo.2.1 (z▸hb)
  |true=>
   refine gQ hO λb lo2 hi2 _hi=>?_
   refine bH _hi λ_r1 _r2=>?_
   clear hO _hi;sleep 2;refine bx j5 λl2 _hi=>?_
   refine cN _hi λe1 e2 e3 e4=>?_
   simp only[c8,K1,K5,or_false,not_or,Kk] at ndo;have bu:b≠uu:=ndo.2.2.1;refine ((w,n,lo,hi,fl,us,some (lo2,hi2,uus++ [(g,k,h)])),(cO l f v (ea6,kp.lens fq j2,kp.fill fq j3,kp.rtup fq j4 (by simpa using ndo.2.1.2),l2,e1,by rw[aB bu];exact e2,kp.lens fq e3,hu6)),cO lo2 hi2 uus (rfl,n12,hg,rfl))
 refine bx hs6 λs' _hi=>?_
 clear hs6;refine bH _hi λhs6 hO6=>?_
 have etp7:aR H5 uu 258 tp=some (.tup [.str g,vN k,vN h]):=etp6;sleep 13;sleep 31
 have ll1:=dP (n:=k) 93
 have ll2:=dP (n:=h) 93
 refine (ν,aL tp _ _ _ (rfl,rfl,dD.of etp7,rfl,ν,iC 93,?_))
 rw[gb];refine (585 (rfl,rfl,by lia,aG _ _ (rfl,rfl,by rw[Str.length_append];lia,ν,aL tp _ _ _ (rfl,rfl,dD.of etp7,rfl,ν,iC 93,?_))))
 sleep 75
 sleep 13;refine (ν,aG _ _ (rfl,rfl,by lia,ν,aL a _ _ _ (rfl,rfl,aJ.of ea6,rfl,aG _ _ (rfl,rfl,by rw[Str.length_append];lia,aG _ _ (rfl,rfl,118,ν,aG _ _ (rfl,rfl,118,ν,aG _ _ (rfl,rfl,118,?_)))))))
 rw[Bo];exact q1 _ (a,u,so) s' _ kp2 hs6 rfl (λx hx=> .inl hx) nd ((g,k,h),rfl,k1.1,k1.2,h9,hO6)
theorem Hd {dV:Value} (F:bG K "_law_link" "_law_link" EO dV f fd):564 bX 1 f fd ["_law_model","_law_xs"] vH:=by
 have sc:aK ["_law_model","_law_xs","_law_many","_law_at","_law_word","_law_turns","_law_link_here","_law_one","_law_two","_law_row_here"] ["_law_model","_law_xs"] (az EO):=eL 38
 sleep 184
 refine qD h λG m lt ls lk lx ks M zs _hi=>?_
 refine bx _hi λroom _hj=>?_
 refine jc _hj λ_r1 rm12 ml ok zz _hk=>?_
 refine bH _hk λhx q=>?_
 sleep 22;exists _,(aj (569 154) (aj (aW (PW.pt (dJ (ay lY 144 ac 127) (di (580 154 ac 127)))) 502 aI) (aj (582 (577 125 144)) (@aj _ _ _ _ _ (@sQ _ _ 4 _ _ _ _ sc.nd rfl 241 (@ar _ _ _ _ _ _ _ ao 171 289 68) rfl (Or.inr rfl)) (aj (583 ac) (aj (aW (580 297 aw 127) (aq (583 (579 (@aZ _ _ _ _ (289<*>(ac<*>(ac<*>(289<*>ak))))) 289 68))) aI) (aj (bU 6 sc (@bZ _ _ _ _ _ (297<*>(139<*>((577 (av bV (av bV 139 ac) (577 125 (av iw 144 ac))) 144)<*>533))))) (aj (aW (PW.pt (o6 (580 289 ac 127) (lF (ay (mH hr.units0) 104 141 127)))) (aq (bU 6 sc (579 104 (lX jf ac) 68))) aI) (aj (bU 7 sc (579 (579 104 248 68) ac 68)) (aj (bU 8 sc (579 (579 104 248 68) ac 68)) (aj (bU 9 sc (570 (570 (570 (570 248 aw) (pv 7)) aw) (pv 8))) (aj (aW (580 248 aw 127) (aq (bU 9 sc (570 (570 (pv 9) aw) 362))) aI) (aj (bP (567 104 (436<*>ak))) (aq (aM (pv 9))))))))))))))))
 try dsimp only[cxK]
 refine F0 ?_;intro D' r13 r12 r11 r10 r9 r8 r7 r6 r5 r4 r3 r2 r1;sleep 0;sleep 94
 sleep 115
 sleep 178
 refine bI _hi λhx1 x10 x11=>?_
 sleep 66
 sleep 112
 sleep 98
 sleep 172
 sleep 177
 refine bI _hi λhx4 x40 x41=>?_
 sleep 176
 refine bI _hi λhx5 x50 x51=>?_
 have es:=ml.es;have lks:=ml.len;have k24:=ok.k24;have sr:=ok.sr;sleep 69
 refine bx (id ml.ek) λvk _hi=>?_
 refine bH _hi λek rk=>?_
 have lvk:=rk.1;refine (ν,aL m _ _ _ (rfl,rfl,aJ.of ml.em,rfl,aG ls _ (rfl,.inl (aJ.of es),?_)));sleep 13;rw[lkm];obtain ⟨many,em⟩:∃many,many=M.steps.length:=173;rw[<-em];refine cut (λσ H'=>σ= [Pb m,Pb lx,some (vN many),none,none,none,none,none,none,none]/\H=H'/\2<=many/\M.links.length<24) 94 ?_
 ·refine (ν,aG _ _ (rfl,rfl,ν,d2 266 λc=>(ν,aL m _ _ _ (rfl,rfl,aJ.of ml.em,rfl,aG lk _ (rfl,.inl (aJ.of ek),rfl,ν,kX 266 λc2=>hN _ _ (rfl,rfl,?_,by lia))))))
  lia
 sleep 116;refine cN h_ λ_r1 _r2 m2 l24=>?_
 clear h_;sleep 2;refine bx (yY (a:=x2) (n:=(many:Int)) 93) λat_ _hi=>?_
 refine bH _hi λea al=>?_
 refine (ν,aL lx _ _ _ (rfl,rfl,aJ.of ex,hx2,ν,aG _ _ (rfl,rfl,by lia,?_)))
 sleep 13;rw[ea];have hb_:∃w:Str,eZ [V.str "after",.str "within",.str "apart"] (x1.fmod 3)=some 255/\(w= "after" ∨w= "within" ∨w= "apart"):=by
  refine bx (yY (a:=x1) (n:=3) 45) λj _hi=>?_
  sleep 99
  rw[ej];have jl:j<3:=by lia
  match j,jl with
  |0,_=>exact ⟨"after",rfl,.inl rfl⟩
  |1,_=>exact ⟨"within",rfl,.inr 174⟩
  |2,_=>exact ⟨"apart",rfl,.inr 243⟩
 refine bx hb_ λw _hi=>?_
 refine bH _hi λhw wd=>?_
 have wl:w.length<=12:=yS.len wd;sleep 44
 have g3:=ai n3 504;sleep 13;generalize aR H l3 504=H3 at g3⊢;have ex3:=g3 _ _ ex;refine cut (λσ H'=>σ= [Pb m,Pb lx,some (vN many),some 341,some 255,some (vN 0),none,none,none,none]/\H3=H') (λN hN=>hN _ _ 153) ?_
 sleep 18;have m1:=fm (a:=x4) (n:=100001) 45
 have m9:=fm (a:=x4) (n:=9) 45
 refine cut (λσ H'=>∃tn:Nat,σ= [Pb m,Pb lx,some (vN many),some 341,some 255,some (vN tn),none,none,none,none]/\aD H3 H'/\tn<=100000/\(w≠ "within" ->tn=0)) 94 ?_
 ·refine (ν,rfl,ν,rC 198 λe=>hN _ _ (0,rfl,.refl _,by decide,λ_=>rfl))
  refine (ν,aL lx _ _ _ (rfl,rfl,aJ.of ex3,hx4,aG _ _ (rfl,rfl,(by show (100001:Int)≠0;decide),ν,aL lx _ _ _ (rfl,rfl,aJ.of ex3,hx4,aG _ _ (rfl,rfl,460,by show 4<=sizeLine;decide,λl4 n4=>?_)))))
  have hb_:∃h:Nat,eZ [V.int (x4.fmod 100001),.int 0,.int 100000,.int (x4.fmod 9)] (x5.fmod 4)=some (vN h)/\h<=100000:=by
   refine bx (yY (a:=x5) (n:=4) 45) λj _hi=>?_
   sleep 99
   rw[ej];have jl:j<4:=by lia
   match j,jl with
   |0,_=>exact ⟨(x4.fmod 100001).toNat,congrArg some (congrArg V.int 93),by lia⟩
   |1,_=>exact ⟨0,rfl,by decide⟩
   |2,_=>exact ⟨100000,rfl,by decide⟩
   |3,_=>exact ⟨(x4.fmod 9).toNat,congrArg some (congrArg V.int 93),by lia⟩
  refine bx hb_ λtn _hi=>?_
  refine bH _hi λhv h9=>?_
  exact (ν,aL lx _ _ _ (rfl,rfl,aJ.of (ai n4 _ _ _ ex3),hx5,aG _ _ (rfl,rfl,(by show (4:Int)≠0;decide),aL l4 _ _ _ (rfl,rfl,aJ.of ah,hv,hN _ _ (tn,rfl,ai n4 _,h9,λz=>absurd e z)))))
 intro σ H4 h_;refine bx h_ λtn _hi=>?_
 refine cN _hi λ_r1 g4 t5 t0=>?_
 sleep 14;have g34:=g3.trans g4;have ex4:=g4 _ _ ex3;have mo:=fm (a:=x3) (n:=(many:Int)-1) 93
 refine bx (yY (a:=(at_:Int)+1+x3.fmod ((many:Int)-1)) (n:=(many:Int)) 93) λot _hi=>?_
 refine bH _hi λeo ol=>?_
 have oa:ot≠at_:=λz=>by
  rw[z,KW _ 93] at eo
  have e:=Int.emod_add_mul_ediv ((at_:Int)+1+x3.fmod ((many:Int)-1)) (many:Int);generalize ((at_:Int)+1+x3.fmod ((many:Int)-1))/(many:Int)=qq at e;rw[eo] at e;rcases Int.lt_trichotomy qq 0 with h|h|h
  ·have:(many:Int)*qq<=(many:Int)*(-1):=Int.mul_le_mul_of_nonneg_left 93 93
   lia
  ·rw[h] at e;lia
  ·have:(many:Int)*1<=(many:Int)*qq:=Int.mul_le_mul_of_nonneg_left 93 93
   lia
 refine (ν,ν,ν,aG _ _ (rfl,rfl,ν,aL lx _ _ _ (rfl,rfl,aJ.of ex4,hx3,ν,aG _ _ (rfl,rfl,aG _ _ (rfl,rfl,by lia,aG _ _ (rfl,rfl,ν,aG _ _ (rfl,rfl,by lia,ν,by show 4<=sizeLine;decide,λt nt=>?_)))))))
 dsimp only[bv,bJ] at nt⊢;rw[eo];have g5:=g34.trans (ai nt 213);have et:aR H4 t 213 t=some (.tup (Dz (w,at_,ot,tn))):=ah;have ex5:=(ai nt 213) _ _ ex4;change L2.aY _ _ _ [some (.ref m),some 487,some (vN many),some 341,some 255,some (vN tn),some 311,none,none,none] (aR H4 t 213);generalize aR H4 t 213=H5 at g5 et ex5⊢;have ml5:=ml.same g5;refine cut (λσ H'=>∃(t:Addr) (k:Du),σ= [Pb m,Pb lx,some (vN many),some 341,some 255,some (vN tn),Pb t,none,none,none]/\aD H5 H'/\H' t=some (.tup (Dz k))/\Iy many k) 94 ?_
 ·have now:∀H',aD H5 H'->N [some (.ref m),some 487,some (vN many),some 341,some 255,some (vN tn),some 311,none,none,none] H':=λH' g=>hN _ _ (aG t (w,at_,ot,tn) (rfl,g,g _ _ et,(wd,(by show at_<many;lia),(by show ot<many;lia),oa.symm,t5,t0)))
  refine (ν,aL lx _ _ _ (rfl,rfl,aJ.of ex5,hx5,aG _ _ (rfl,rfl,461,rfl,ν,kX 358 λ_=>now _ 271)))
  refine (ν,aL m _ _ _ (rfl,rfl,aJ.of ml5.em,rfl,by show 0<=sizeLine;decide,λl0 n0=>?_))
  have g6:=ai n0 123;have ek6:=g6 _ _ (g5 _ _ ek);refine (cO lk l0 _ (rfl,rfl,aJ.of ek6,aJ.of ah,ν,?_));cases hv:vk with
  |nil=>exact now _ g6
  |cons v0 vr=>
   have ne:vk≠ []:=by rw[hv];simp
   obtain ⟨vl,hl⟩:∃vl,vk.getLast?=some vl:=by
    cases h:vk.getLast? with
    |none=>exact absurd (List.getLast?_eq_none_iff.mp h) ne
    |some x=>exact ⟨x,rfl⟩
   have hl':vk[vk.length-1]?=some vl:=by rw[<-List.getLast?_eq_getElem?];exact hl
   refine bx (rk.at_ hl') λk _hi=>?_
   refine bH _hi λhk _hj=>?_
   refine bx _hj λt' _hk=>?_
   refine bI _hk λ_r1 _ et'=>?_
   sleep 149;rw[hv] at hl ek6;refine (ν,aL m _ _ _ (rfl,rfl,aJ.of (g6 _ _ ml5.em),rfl,ν,aL lk _ _ _ (rfl,rfl,aJ.of ek6,(atT hl),hN _ _ (aG t' k (rfl,g6,g6 _ _ (g5 _ _ et'),by rw[em];exact ok.ks k (K7 hk))))))
 intro σ H6 h_;refine dB h_ λt' _r1 _hi=>?_
 refine cN _hi λ_r2 g6 et' lo=>?_
 clear h_ _hi;obtain ⟨w',a',b',tn'⟩:=_r1;subst _r2;have et6:H6 t'=some (.tup [.str w',vN a',vN b',vN tn']):=et';have la:a'<many:=lo.a;have lb:b'<many:=lo.b;have wl':w'.length<=12:=lo.w.len;have tl':tn'<=100000:=lo.t;have ml6:=ml5.same g6;have es6:=ml6.es;have ha:=K3 (l:=M.steps) (i:=a') 93
 have hb:=K3 (l:=M.steps) (i:=b') 93
 have ka:=K3 (l:=ks) (i:=a') 93
 have kb:=K3 (l:=ks) (i:=b') 93
 obtain ⟨sa,hsa⟩:∃sa,M.steps[a']?=some sa:=⟨_,ha⟩;obtain ⟨sb,hsb⟩:∃sb,M.steps[b']?=some sb:=⟨_,hb⟩;obtain ⟨ska,hka⟩:∃sa,ks[a']?=some sa:=⟨_,ka⟩;obtain ⟨skb,hkb⟩:∃sb,ks[b']?=some sb:=⟨_,kb⟩;clear ha hb ka kb;refine gQ (ml6.ss a' _ _ hka hsa) λ_ _ _ _hi=>?_
 refine bH _hi λea6 _=>?_
 refine gQ (ml6.ss b' _ _ hkb hsb) λ_ _ _ _hi=>?_
 refine bH _hi λeb6 _=>?_
 have na:=zz.mem (ok.ss a' _ hsa).nm;have nb:=zz.mem (ok.ss b' _ hsb).nm;have nal:=na.len;have nbl:=nb.len;have ata:eZ 308 (a':Int)=some (.ref ska.a):=aF (by rw[KA,hka];rfl)
 have atb:eZ 308 (b':Int)=some (.ref skb.a):=aF (by rw[KA,hkb];rfl)
 refine (ν,aL m _ _ _ (rfl,rfl,aJ.of ml6.em,rfl,ν,aL t' _ _ _ (rfl,rfl,dD.of et6,rfl,aL ls _ _ _ (rfl,rfl,aJ.of es6,ata,aL ska.a _ _ _ (rfl,rfl,aJ.of ea6,rfl,?_)))));sleep 13;refine (ν,aL m _ _ _ (rfl,rfl,aJ.of ml6.em,rfl,ν,aL t' _ _ _ (rfl,rfl,dD.of et6,rfl,aL ls _ _ _ (rfl,rfl,aJ.of es6,atb,aL skb.a _ _ _ (rfl,rfl,aJ.of eb6,rfl,?_)))));sleep 13;sleep 31
 refine (ν,aL t' _ _ _ (rfl,rfl,dD.of et6,rfl,aG _ _ (rfl,rfl,by lia,ν,aG _ _ (rfl,rfl,by rw[Str.length_append];lia,aG _ _ (rfl,rfl,118,ν,aG _ _ (rfl,rfl,118,?_))))))
 rw[IE];have jl:(jB [w',sa.n,sb.n]).length<=400:=qc (λz hz=>by
  sleep 170;rcases hz with rfl|rfl|rfl<;>lia) (by show 3<=6;decide)
 have ll1:=dP (n:=tn') 93
 sleep 13;refine cut (λσ H'=>σ= [Pb m,Pb lx,some (vN many),some 341,some 255,some (vN tn),Pb t',some (.str sa.n),some (.str sb.n),some (.str (dC 536))]/\H6=H') 94 ?_
 ·refine (ν,aL t' _ _ _ (rfl,rfl,dD.of et6,rfl,rfl,ν,rC 198 λe=>hN _ _ (?_,rfl)))
  ·refine (ν,aG _ _ (rfl,rfl,by rw[l1];lia,ν,aL t' _ _ _ (rfl,rfl,dD.of et6,rfl,ν,iC 93,?_)))
   rw[gb];refine (585 (rfl,rfl,by rw[Str.length_append,l1];lia,hN _ _ (?_,rfl)))
   rw[rE 96]
   have e5:dC 536=jB ([w',sa.n,sb.n]++ [aS tn']):=by
    show jB (dI w' sa.n sb.n tn')=_;unfold dI;rw[if_pos e]
   rw[e5]
   rfl
  ·have e5:dC 536=jB [w',sa.n,sb.n]:=by
    show jB (dI w' sa.n sb.n tn')=_;unfold dI;rw[if_neg e,Ke]
   rw[e5]
   rfl
 sleep 18;have ek6:=g6 _ _ (g5 _ _ ek);refine (ν,aL m _ _ _ (rfl,rfl,aJ.of ml6.em,rfl,.inl (rfl,_,aJ.of ek6),ν,cO lk _ _ (rfl,rfl,ek6,by lia,(ν,?_))))
 have ab:sa.n≠sb.n:=λz=>by
  have k1:=(ok.ss a' _ hsa).nm;have k2:=(ok.ss b' _ hsb).nm;rw[<-z] at k2;have:=zz.inj k1 k2;have:=lo.ab;have h5:a'≠b':=lo.ab
  lia
 rw[em] at lo;exact q _ _ _ _ (ml6.link ek6 (t',rfl,trivial,et')) (ok.link l24 lo) (.inr (.link w' sa.n sb.n tn',rfl,(lo.w,na,nb,ab,tl',lo.t0),J1 ok rm12 zz hsa hsb 93))
theorem He {dV:Value} (F:bG K "_law_row" "_law_row" EQ dV f fd) (DZ36:563 bX 1 "_law_stream" ["_law_cell","_law_many"] [] jN) (DZ40:563 bX 3 "_law_take" ["_law_model","_law_names_here","_law_xs"] [] vG) (DZ41:563 bX 3 "_law_step" ["_law_model","_law_names_here","_law_xs","_law_room"] [] qa) (DZ42:563 bX 2 "_law_second" ["_law_step_here","_law_xs"] [] oG) (DZ43:563 bX 1 "_law_use" ["_law_step_here","_law_word","_law_names_here","_law_xs"] [] yW) (DZ44:563 bX 1 "_law_link" ["_law_model","_law_xs"] [] vH):564 bX 4 f fd ["_law_model","_law_names_here","_law_cell","_law_room"] yV:=by
 have sc:aK ["_law_model","_law_names_here","_law_cell","_law_room","_law_xs","_law_way","_law_step_here"] ["_law_model","_law_names_here","_law_cell","_law_room"] (az EQ):=eL 38
 sleep 184
 refine qD h λG m lt ls lk ln c ks M _hi=>?_
 refine dB _hi λzs room _hj=>?_
 refine jc _hj λ_r1 rm12 ml ok en _hk=>?_
 refine bH _hk λzz q=>?_
 sleep 22;exists _,(aj (581 (fS DZ36 hr (144<*>230))) (aj (583 (577 170 ac)) (aj (aW (580 275 ac 127) (aq (aM (fS DZ40 hr (98<*>(107<*>204))))) aI) (aj (aW (PW.pt (dJ (ay lY 275 ac 127) (di (ay (rj hr.units0) 104 141 127)))) (aq (aM (fS DZ41 hr (98<*>(107<*>(297<*>265)))))) aI) (aj (aW (ay nN 275 ac 127) (aq (aM (fS DZ44 hr (98<*>204)))) aI) (aj (bU 6 sc (579 104 (577 170 154) 68)) (aj (aW (580 275 ac 127) (aq (aM (fS DZ42 hr (436<*>204)))) aI) (aq (aM (fS DZ43 hr (436<*>((579 (@aZ _ _ _ _ (aw<*>281)) (av iw 275 ac) 68)<*>(107<*>204)))))))))))))
 try dsimp only[cxK]
 refine Js ?_;intro D' r7 r6 r5 r4 r3 r2 r1;sleep 0;refine (ν,aG c 6 (rfl,by decide,by decide,λlx H1 xs0 g1 e1 xl xp=>?_))
 have hx:qE H1 lx:=(xs0,e1,by lia,xp)
 have ml1:=ml.same g1;have en1:=L2.Rd.same g1 en;clear ml en e1;sleep 94
 sleep 115
 refine bx (hxs 0 45) λx0 _hi=>?_
 refine bI _hi λhx0 x00 x01=>?_
 sleep 176
 refine bI _hi λhx5 x50 x51=>?_
 refine bx (yY (a:=x0) (n:=8) 45) λway _hi=>?_
 refine bH _hi λew wl=>?_
 have es:=ml1.es;have lks:=ml1.len;sleep 69
 sleep 13;refine (ν,aL lx _ _ _ (rfl,rfl,aJ.of ex,hx0,aG _ _ (rfl,rfl,(by show (8:Int)≠0;decide),?_)))
 sleep 13;rw[ew];refine cut (λσ H'=>σ= [Pb m,Pb ln,some 375,some 474,Pb lx,some (vN way),none]/\H1=H') 94 ?_
 ·exact (ν,rfl,ν,kX (λ_=>(ν,ν,ν,sI G m lt ls lk ln lx ks M (aG zs room (rfl,ml1,ok,en1,zz,hx,q)))) λ_=>hN _ _ 153)
 sleep 18;refine cut (λσ H'=>σ= [Pb m,Pb ln,some 375,some 474,Pb lx,some (vN way),none]/\aD H1 H'/\3<=way/\M.steps≠ []) 94 ?_
 ·have now:∀H',aD H1 H'->_:=λH' (g:aD H1 H')=>((_,rfl,_,rfl,_,rfl,_,rfl,sI G m lt ls lk ln lx ks M (aG zs room (rfl,rm12,ml1.same g,ok,L2.Rd.same g en1,zz,hx.same g,q))):L2.AA (L2.jG qa [] E0 (L2.im (L2.qI 0) (L2.im (L2.qI 1) (L2.im (L2.qI 4) (L2.im (L2.qI 3) L2.xS))))) {nx:=N,rt:=Q} [some (.ref m),some (.ref ln),some 375,some 474,some 487,some (vN way),none] H')
  refine (ν,aG _ _ (rfl,rfl,ν,d2 (λ_=>now _ 271) λc3=>(ν,aL m _ _ _ (rfl,rfl,aJ.of ml1.em,rfl,by show 0<=sizeLine;decide,λl0 n0=>?_))))
  have g2:=ai n0 123;refine (cO ls l0 _ (rfl,rfl,aJ.of (g2 _ _ es),aJ.of ah,ν,?_));cases hk:ks with
  |nil=>exact now _ g2
  |cons k0 kr=>exact hN _ _ ⟨rfl,g2,by lia,λz=>by rw[z,hk] at lks;simp at lks⟩
 intro σ H2 h_;refine cN h_ λ_r1 g2 w3 ne=>?_
 clear h_;subst _r1;have ml2:=ml1.same g2;have en2:=L2.Rd.same g2 en1;have hx2:=hx.same g2;have ex2:=g2 _ _ ex;have es2:=ml2.es;clear ml1 en1 hx ex es g1;refine cut (λσ H'=>σ= [Pb m,Pb ln,some 375,some 474,Pb lx,some (vN way),none]/\H2=H'/\way<=5) 94 ?_
 ·exact (ν,aG _ _ (rfl,rfl,ν,d2 (λ_=>(ν,ν,sI G m lt ls lk lx ks M zs (room,(rfl,rm12,ml2,ok,zz,hx2,q)))) λc5=>hN _ _ (rfl,rfl,by lia)))
 sleep 116;refine bI h_ λ_r1 _r2 w5=>?_
 clear h_;sleep 2;have pos:0<M.steps.length:=List.length_pos_iff.mpr ne;refine bx (yY (a:=x5) (n:=(M.steps.length:Int)) 93) λi _hi=>?_
 refine bH _hi λei il=>?_
 obtain ⟨st,hst⟩:∃st,M.steps[i]?=some st:=⟨_,K3 93⟩
 obtain ⟨sk,hsk⟩:∃sk,ks[i]?=some sk:=⟨_,K3 93⟩
 have hs:=ml2.ss i sk st hsk hst;have so:=ok.ss i st hst;have nn:=zz.mem so.nm;have ndk:sk.own.Nodup:=by
  have nd:=ml2.nd;unfold cw at nd;simp only[Kk] at nd;exact (List.pairwise_flatten.mp nd.2.2.2.2).1 _ (KH.mpr (sk,K7 hsk,rfl))
 have ati:eZ 308 (i:Int)=some (.ref sk.a):=aF (by rw[KA,hsk];rfl)
 refine (ν,aL m _ _ _ (rfl,rfl,aJ.of ml2.em,rfl,ν,aL lx _ _ _ (rfl,rfl,aJ.of ex2,hx5,ν,aL m _ _ _ (rfl,rfl,aJ.of ml2.em,rfl,aG ls _ (rfl,.inl (aJ.of es2),aG _ _ (rfl,rfl,by rw[lkm];lia,?_))))))
 sleep 13;rw[lkm,ei];refine (aL ls _ _ _ (rfl,rfl,aJ.of es2,ati,?_));sleep 13;refine cut (λσ H'=>σ= [Pb m,Pb ln,some 375,some 474,Pb lx,some (vN way),Pb sk.a]/\H2=H'/\4<=way) 94 ?_
 ·refine (ν,rfl,ν,kX (λ_=>(ν,ν,cO sk st lx (rfl,hs,ndk,nn.len,hx2,λH' g=>q "" ks M H' (ml2.same g) ok (.inl 153),?_))) λ_=>hN _ _ (rfl,rfl,by lia))
  intro z k' s' H' kp hs' ea nk nd h_;refine dB h_ λlo hi _hi=>?_
  refine cN _hi λe le _r1 _r2=>?_
  clear h_ _hi;sleep 2;exact q _ _ _ _ (ml2.set hsk hst kp hs' ea nk nd) (ok.set (so.nm,so.wd,so.le,so.fl,so.us,λx hx=>by cases hx;exact (le,by simp,λi x h=>by simp at h))) (.inr (.sec st.n lo hi,rfl,(nn,le),Bi ok rm12 zz hst e))
 sleep 116;refine bI h_ λ_r1 _r2 w4=>?_
 clear h_;sleep 2;obtain ⟨o,ho⟩:∃o:Bool,eZ [V.str "with",.str "orwith"] ((way:Int)-4)=some (.str (if o=true then "orwith" else "with")):=by
  have:way=4∨way=5:=by lia
  rcases this with rfl|rfl
  ·exact (false,rfl)
  ·exact (true,rfl)
 refine (ν,by show 2<=sizeLine;decide,λl2 n2=>?_)
 have g3:=ai n2 (.lst [.str "with",.str "orwith"]);have ml3:=ml2.same g3;refine (ν,aG _ _ (rfl,rfl,aL l2 _ _ _ (rfl,rfl,aJ.of ah,ho,ν,ν,oA sk st o ln lx zs (rfl,hs.same g3,ndk,nn.len,L2.Rd.same g3 en2,zz,so.us.1,(λx hx=>(so.sec x hx).2.1),hx2.same g3,(λH' g=>q "" ks M H' (ml3.same g) ok (.inl 153)),?_))))
 intro z k' s' H' kp hs' ea nk nd h_;refine bx h_ λu _hi=>?_
 refine cN _hi λ_r1 u1 u8 _hj=>?_
 refine bH _hj λu9 hO=>?_
 sleep 6;cases o with
 |false=>
  refine bI hO λn12 hg _r1=>?_
  clear hO;subst _r1;exact q _ _ _ _ (ml3.set hsk hst kp hs' ea nk nd) (ok.set (so.nm,so.wd,so.le,so.fl,so.us.snoc n12 hg (u1,u8,u9),so.sec)) (.inr (.use false st.n u,rfl,(nn,zz.mem hg,u1,u8,u9),JZ ok rm12 zz hst hg n12))
 |true=>
  refine gQ hO λlo hi us _hi=>?_
  refine cN _hi λe n12 hg _r1=>?_
  clear hO _hi;subst _r1;exact q _ _ _ _ (ml3.set hsk hst kp hs' ea nk nd) (ok.set (so.nm,so.wd,so.le,so.fl,so.us,λx hx=>by cases hx;exact ((so.sec _ e).1,(so.sec _ e).2.snoc n12 hg (u1,u8,u9)))) (.inr (.use true st.n u,rfl,(nn,zz.mem hg,u1,u8,u9),Bj ok rm12 zz hst e hg n12))
theorem Hf {dV:Value} (F:bG K "_law_refusal" "_law_refusal" ER dV f fd) (XZ32:563 152 11 "read_recipe" ["text"] [] (j9 K Me Mb LE KT Lz KK on mt)) (HZ34:∀hd,FF hd P w K mg base 1 "_law_whole" ["_law_found"] iL):564 bX 12 f fd ["_law_thing"] (jt K):=by
 have sc:aK ["_law_thing","e","_law_some"] ["_law_thing"] (az ER):=eL 38
 sleep 34
 ·rcases h with ⟨_,_,rfl,_⟩|⟨_,rfl,_⟩<;>rfl
 exists _,(aj (yn rfl rfl (λpins E=>(aq (bP (cM XZ32 hr 45 rfl cA 367)))) (Da B.N2 rfl B.N7 sc.nd (i:=1) rfl rfl (λpins a=>(aj (aW (PW.pt (dJ (eW (565 (107<*>((cJ (v:=V.ref Mc) rfl B.MS rfl)<*>ak)))) (dJ (eW (565 (107<*>((cJ (v:=V.ref Mo) rfl B.Ov rfl)<*>ak)))) (di (eW (565 (107<*>((cJ (v:=V.ref Mh) rfl B.Ol rfl)<*>ak)))))))) 161 aI) (aj (569 (@aZ _ _ _ _ ((565 (107<*>((cJ (v:=V.ref Lz) rfl B.NC rfl)<*>ak)))<*>((565 (107<*>((cJ (v:=V.ref on) rfl B.NI rfl)<*>ak)))<*>((565 (107<*>((cJ (v:=V.ref KK) rfl B.N6 rfl)<*>ak)))<*>((565 (107<*>((cJ (v:=V.ref mt) rfl B.NZ rfl)<*>ak)))<*>ak)))))) (aj (aW (PW.pt (dJ (ay kQ (zE (K:=K) rfl KO PySem.F.slot_list_count PySem.F.type_list_count (wV (K:=K) rfl) 144 (kP<*>ak)) ac 127) (di (iu (eW (565 (107<*>((gz (v:= .ty "ValueError") rfl B.Oc PyProof.Rows.Boot.«ValueError» rfl)<*>ak)))))))) 161 aI) (aj (aW (eW (ar (rq (K:=K) rfl) 144 ac 68)) 161 aI) (aj (aW (iu (eW (Df (j:=11) (HZ34 (some 434)) (hr.suite _) 45 rfl ((uX (K:=K) rfl 107 rfl)<*>ak)))) 161 aI) (aq (aM (@bZ _ _ _ _ _ ((ar (rq (K:=K) rfl) 171 (zE (K:=K) rfl KO PySem.F.slot_list_index PySem.F.type_list_index (wW (K:=K) rfl) 144 (kP<*>ak)) 68)<*>((uX (K:=K) rfl 107 rfl)<*>ak))))))))))) yo)) 161)
 try dsimp only[cxK]
 sleep 105;sleep 0;obtain ⟨v,rfl⟩:=D1 h;refine cut (λσ H'=>∃o1 o2,σ= [some v,o1,o2]/\aD H H'/\∀t H2,aD H H2->H2 t=some (.tup [.str "none",.int (-1)])->Q 311 H2) 94 ?_
 ·refine (ν,uh (C:=λi=>∀t H',aD H H'->H' t=some (.tup [.str "row",.int i])->Q 311 H') (λi q=>?_) (λkey=>?_))
  ·skip
   intro d H9 g9 ed;intro xa nxa;have ga:=ai nxa (gK xa 156 138);have e9:aR H9 xa (gK xa 156 138) xa=some (gK xa 156 138):=ah;sleep 192;refine (aG Lz true (rfl,B.M5,gx ?_));generalize aR H9 xa (gK xa 156 138)=H8 at ga e9 g9a ed9⊢;refine (ν,aL xa _ 138 _ (false,(rfl,101,113,B.MN,.own B.Nr,ν,cE (ν,aL xa _ 138 _ (false,(rfl,101,113,B.MN,.own B.NO,ν,cE (ν,aL xa _ 138 _ (false,(rfl,101,113,B.MN,.own B.Nq,ν,cE ?_)))))))));refine (ν,aL xa _ 138 _ (true,(rfl,101,113,B.MN,.own B.NY,ν,aL xa _ 138 _ (false,(rfl,101,113,B.MN,.own B.NN,ν,aL xa _ 138 _ (false,(rfl,101,113,B.MN,.own B.NX,ν,aG xa _ (138,_,false,rfl,101,113,B.MN,.own B.NB,by show 4<=sizeLine;decide,λl nl=>?_))))))))
   have gl:=ai nl 292;have el:aR H8 l 292 l=some (.lst [.bl true,.bl false,.bl false,.bl false]):=ah;have g8:=g9a.trans gl;sleep 13;generalize aR H8 l 292=H7 at gl el g8⊢;refine (ν,.inl (rfl,_,aJ.of el),aG l [true,false,false,false] (rfl,rfl,aJ.of el,rfl,ν,nF rfl (ν,aL xa _ 138 _ (true,(rfl,(_,gl _ _ e9),(_,gl _ _ ed9),B.MN,.ty B.M9,ν,cE ?_)))));sleep 113;refine (ν,oA xa _ d _ _ _ (rfl,gl _ _ e9,gl _ _ ed9,(B.MN.gg,B.Oe.dct,B.N5),rfl,i,rfl,true,rfl,cE ?_));sleep 143
   sleep 97;sleep 4;refine (ν,.inl (rfl,_,aJ.of el2),cO l [true,false,false,false] 0 (rfl,rfl,aJ.of el2,by decide,rfl,by decide,aL l2 _ _ _ (rfl,rfl,aJ.of e2,rfl,ν,oA xa _ d _ _ _ (rfl,e99,ed99,(B.MN.gg,B.Oe.dct,B.N5),rfl,by show 2<=sizeLine;decide,λt nt=>?_))))
   exact q t _ (g6.trans (ai nt _)) ah
  rcases h with ⟨h,rws,ev,hg,rg,l1000,q⟩|⟨v',ev,nt,q⟩
  rotate_left
  ·exact .inr (v',ev,nt,key 0 q)
  refine .inl (aG h rws ⟨ev,hg,rg,l1000,λhb=>key 0 λt H' g e=>q t H' g (by obtain ⟨z,rfl⟩:=hb;exact e),λn p hh=>⟨λe he=>?_,λM hM r lt ls lk ks H' rm=>hN _ _ (aG none none ⟨rfl,rm.fr,λt H2 g e=>q t H2 g ?_⟩)⟩⟩)
  ·have eo:iK h rws=outF e:=by
    sleep 156
    rw[he]
   cases e with
   |row i=>exact key i λt H' g e=>q t H' g (by rw[eo];exact e)
   |flt f i=>
    cases f with
    |twice=>
     intro d H9 g9 ed;intro xa nxa;have ga:=ai nxa (gK xa 157 138);have e9:aR H9 xa (gK xa 157 138) xa=some (gK xa 157 138):=ah;sleep 192;refine (aG KK true (rfl,B.M4,gx ?_));generalize aR H9 xa (gK xa 157 138)=H8 at ga e9 g9a ed9⊢;refine (ν,aL xa _ 138 _ (false,(rfl,101,113,B.MM,.own B.Nl,ν,cE (ν,aL xa _ 138 _ (false,(rfl,101,113,B.MM,.own B.NK,ν,cE (ν,aL xa _ 138 _ (false,(rfl,101,113,B.MM,.own B.Nk,ν,cE ?_)))))))));refine (ν,aL xa _ 138 _ (false,(rfl,101,113,B.MM,.own B.NW,ν,aL xa _ 138 _ (false,(rfl,101,113,B.MM,.own B.NJ,ν,aL xa _ 138 _ (true,(rfl,101,113,B.MM,.own B.NV,ν,aG xa _ (138,_,false,rfl,101,113,B.MM,.own B.Nw,by show 4<=sizeLine;decide,λl nl=>?_))))))))
     have gl:=ai nl 294;have el:aR H8 l 294 l=some (.lst [.bl false,.bl false,.bl true,.bl false]):=ah;have g8:=g9a.trans gl;sleep 13;generalize aR H8 l 294=H7 at gl el g8⊢;refine (ν,.inl (rfl,_,aJ.of el),aG l [false,false,true,false] (rfl,rfl,aJ.of el,rfl,ν,nF rfl (ν,aL xa _ 138 _ (true,(rfl,(_,gl _ _ e9),(_,gl _ _ ed9),B.MM,.ty B.M6,ν,cE ?_)))));sleep 113;refine (ν,oA xa _ d _ _ _ (rfl,gl _ _ e9,gl _ _ ed9,(B.MM.gg,B.Od.dct,B.N4),rfl,(i:Int),rfl,true,rfl,cE ?_));sleep 143
     sleep 97;sleep 4;refine (ν,.inl (rfl,_,aJ.of el2),cO l [false,false,true,false] 2 (rfl,rfl,aJ.of el2,by decide,rfl,by decide,aL l2 _ _ _ (rfl,rfl,aJ.of e2,rfl,ν,oA xa _ d _ _ _ (rfl,e99,ed99,(B.MM.gg,B.Od.dct,B.N4),rfl,by show 2<=sizeLine;decide,λt nt=>?_))))
     exact q t _ (g6.trans (ai nt _)) (by rw[ah,eo];try rfl)
    |nostep=>
     intro d H9 g9 ed;intro xa nxa;have ga:=ai nxa (gK xa 155 138);have e9:aR H9 xa (gK xa 155 138) xa=some (gK xa 155 138):=ah;sleep 192;refine (aG on true (rfl,B.MW,gx ?_));generalize aR H9 xa (gK xa 155 138)=H8 at ga e9 g9a ed9⊢;refine (ν,aL xa _ 138 _ (false,(rfl,101,113,B.My,.own B.Nd,ν,cE (ν,aL xa _ 138 _ (false,(rfl,101,113,B.My,.own B.NA,ν,cE (ν,aL xa _ 138 _ (false,(rfl,101,113,B.My,.own B.Nc,ν,cE ?_)))))))));refine (ν,aL xa _ 138 _ (false,(rfl,101,113,B.My,.own B.NM,ν,aL xa _ 138 _ (true,(rfl,101,113,B.My,.own B.Nz,ν,aL xa _ 138 _ (false,(rfl,101,113,B.My,.own B.NL,ν,aG xa _ (138,_,false,rfl,101,113,B.My,.own B.Np,by show 4<=sizeLine;decide,λl nl=>?_))))))))
     have gl:=ai nl 293;have el:aR H8 l 293 l=some (.lst [.bl false,.bl true,.bl false,.bl false]):=ah;have g8:=g9a.trans gl;sleep 13;generalize aR H8 l 293=H7 at gl el g8⊢;refine (ν,.inl (rfl,_,aJ.of el),aG l [false,true,false,false] (rfl,rfl,aJ.of el,rfl,ν,nF rfl (ν,aL xa _ 138 _ (true,(rfl,(_,gl _ _ e9),(_,gl _ _ ed9),B.My,.ty B.MY,ν,cE ?_)))));sleep 113;refine (ν,oA xa _ d _ _ _ (rfl,gl _ _ e9,gl _ _ ed9,(B.My.gg,B.NT.dct,B.NH),rfl,(i:Int),rfl,true,rfl,cE ?_));sleep 143
     sleep 97;sleep 4;refine (ν,.inl (rfl,_,aJ.of el2),cO l [false,true,false,false] 1 (rfl,rfl,aJ.of el2,by decide,rfl,by decide,aL l2 _ _ _ (rfl,rfl,aJ.of e2,rfl,ν,oA xa _ d _ _ _ (rfl,e99,ed99,(B.My.gg,B.NT.dct,B.NH),rfl,by show 2<=sizeLine;decide,λt nt=>?_))))
     exact q t _ (g6.trans (ai nt _)) (by rw[ah,eo];try rfl)
    |full=>
     intro H9 g9;intro xa nxa;have ga:=ai nxa (gK xa 163 none);have e9:aR H9 xa (gK xa 163 none) xa=some (gK xa 163 none):=ah;have g9a:=g9.trans ga;refine (aG mt true (rfl,B.MT,gx ?_));generalize aR H9 xa (gK xa 163 none)=H8 at ga e9 g9a⊢;refine (ν,aL xa _ none _ (false,(rfl,101,trivial,B.MC,.own B.M8,ν,cE (ν,aL xa _ none _ (false,(rfl,101,trivial,B.MC,.own B.No,ν,cE (ν,aL xa _ none _ (false,(rfl,101,trivial,B.MC,.own B.M7,ν,cE ?_)))))))));refine (ν,aL xa _ none _ (false,(rfl,101,trivial,B.MC,.own B.Ny,ν,aL xa _ none _ (false,(rfl,101,trivial,B.MC,.own B.Nn,ν,aL xa _ none _ (false,(rfl,101,trivial,B.MC,.own B.Nx,ν,aG xa _ (none,_,true,rfl,101,trivial,B.MC,.own B.Nb,by show 4<=sizeLine;decide,λl nl=>?_))))))))
     have gl:=ai nl 295;have el:aR H8 l 295 l=some (.lst [.bl false,.bl false,.bl false,.bl true]):=ah;have g8:=g9a.trans gl;sleep 13;generalize aR H8 l 295=H7 at gl el g8⊢;refine (ν,.inl (rfl,_,aJ.of el),aG l [false,false,false,true] (rfl,rfl,aJ.of el,rfl,ν,nF rfl (ν,aL xa _ none _ (true,(rfl,(_,gl _ _ e9),trivial,B.MC,.ty B.MV,ν,cE ?_)))));refine (ν,aL l _ _ _ (rfl,rfl,aJ.of el,rfl,ν,gx (ν,by show 2<=sizeLine;decide,λt nt=>?_)))
     exact q t _ (g8.trans (ai nt _)) (by rw[ah,eo];try rfl)
  ·rw[e,show iK h rws=(Str.ofString "none",(-1:Int)) from by
    sleep 156
    rw[hM]]
 intro σ H1 h_;refine dB h_ λo1 o2 _hi=>?_
 refine bI _hi λ_r1 g1 qq=>?_
 sleep 14;exact (ν,by show 2<=sizeLine;decide,λt nt=>qq t _ (g1.trans (ai nt _)) ah)
theorem Hg {dV:Value} (F:bG K "_law_wrong_forms" "_law_wrong_forms" ES dV f fd):564 bX 1 f fd [] sy:=by
 have sc:aK ["_law_some","_law_long"] [] (az ES):=eL 38
 sleep 184
 obtain ⟨rfl,q⟩:=h;exists _,(aj (bU 0 sc (cU (aA (aA (aA 110))))) (aj (bU 0 sc (av dk 98 (cU (aA (aA 110))))) (aj 318 (aj 318 (aj 318 (aj (bU 0 sc (av dk 98 (cU (aA 110)))) (aj (bU 0 sc (av dk 98 (@aZ _ _ _ _ (aw<*>(aw<*>525))))) (aj 318 (aj (bU 0 sc (av dk 98 (@aZ _ _ _ _ (526<*>(526<*>(526<*>ak)))))) (aj (bU 1 sc aw) (aj (bU 0 sc (av dk 98 (@aZ _ _ _ _ (288<*>(288<*>(288<*>ak)))))) (aj (bU 0 sc (av dk 98 (@aZ _ _ _ _ (288<*>((570 aw 107)<*>(288<*>281)))))) (aj (bU 0 sc (av dk 98 171)) (aq (aM (av dk 98 (cU (aA 110))))))))))))))))));try dsimp only[cxK]
 refine F0 ?_;intro D' r13 r12 r11 r10 r9 r8 r7 r6 r5 r4 r3 r2 r1;refine cut (λσ H'=>∃l,σ= [Pb l,none]/\aD H H'/\H' l=some (.lst (([33 "",33 " ",33 "dish N 4",33 "take N",33 "take N 0",33 "take N 1/1",33 "take N 2/4",33 "take N 01",33 "take N 1 1"]:O6).map V.str))) 94 ?_
 ·exact (by show 9<=sizeLine;decide,λl n=>hN _ _ (l,rfl,ai n _,ah))
 intro σ H0 h_;sleep 38
 sleep 25
 sleep 14;refine cut (λσ H'=>∃l,σ= [Pb l,none]/\aD H H'/\H' l=some (.lst (([33 "",33 " ",33 "dish N 4",33 "take N",33 "take N 0",33 "take N 1/1",33 "take N 2/4",33 "take N 01",33 "take N 1 1",33 "take  N 1",33 " take N 1",33 "take N 1 ",33 "take N1 1",33 "take N M 1",33 "Take N 1",33 "takes N 1",33 "N 1"]:O6).map V.str))) 94 ?_
 ·exact (ν,by show 8<=sizeLine;decide,λl2 n2=>(573 (rfl,rfl,ai n2 _ _ _ el,ah,by show 17<=sizeLine;decide,λl3 n3=>hN _ _ 124)))
 intro σ H1 h_;sleep 38
 sleep 25
 sleep 14;refine cut (λσ H'=>∃l,σ= [Pb l,none]/\aD H H'/\H' l=some (.lst (([33 "",33 " ",33 "dish N 4",33 "take N",33 "take N 0",33 "take N 1/1",33 "take N 2/4",33 "take N 01",33 "take N 1 1",33 "take  N 1",33 " take N 1",33 "take N 1 ",33 "take N1 1",33 "take N M 1",33 "Take N 1",33 "takes N 1",33 "N 1",33 "take N -1",33 "take aaaaaaaaaaaaa 1",33 "cut N 0 5",33 "cut N 6 5",33 "cut N 1 X",33 "cut N 5"]:O6).map V.str))) 94 ?_
 ·exact (ν,by show 6<=sizeLine;decide,λl2 n2=>(573 (rfl,rfl,ai n2 _ _ _ el,ah,by show 23<=sizeLine;decide,λl3 n3=>hN _ _ 124)))
 intro σ H2 h_;sleep 38
 sleep 25
 sleep 14;refine cut (λσ H'=>∃l,σ= [Pb l,none]/\aD H H'/\H' l=some (.lst (([33 "",33 " ",33 "dish N 4",33 "take N",33 "take N 0",33 "take N 1/1",33 "take N 2/4",33 "take N 01",33 "take N 1 1",33 "take  N 1",33 " take N 1",33 "take N 1 ",33 "take N1 1",33 "take N M 1",33 "Take N 1",33 "takes N 1",33 "N 1",33 "take N -1",33 "take aaaaaaaaaaaaa 1",33 "cut N 0 5",33 "cut N 6 5",33 "cut N 1 X",33 "cut N 5",33 "cut N 1 2 3",33 "cut N 01 2",33 "cut N -1 2",33 "cut N 1.0 2",33 "rest N 1 2 3",33 "rest N 0 0"]:O6).map V.str))) 94 ?_
 ·exact (ν,by show 6<=sizeLine;decide,λl2 n2=>(573 (rfl,rfl,ai n2 _ _ _ el,ah,by show 29<=sizeLine;decide,λl3 n3=>hN _ _ 124)))
 intro σ H3 h_;sleep 38
 sleep 25
 sleep 14;refine cut (λσ H'=>∃l,σ= [Pb l,none]/\aD H H'/\H' l=some (.lst (([33 "",33 " ",33 "dish N 4",33 "take N",33 "take N 0",33 "take N 1/1",33 "take N 2/4",33 "take N 01",33 "take N 1 1",33 "take  N 1",33 " take N 1",33 "take N 1 ",33 "take N1 1",33 "take N M 1",33 "Take N 1",33 "takes N 1",33 "N 1",33 "take N -1",33 "take aaaaaaaaaaaaa 1",33 "cut N 0 5",33 "cut N 6 5",33 "cut N 1 X",33 "cut N 5",33 "cut N 1 2 3",33 "cut N 01 2",33 "cut N -1 2",33 "cut N 1.0 2",33 "rest N 1 2 3",33 "rest N 0 0",33 "warm N 1 2",33 "warm N 1 2 0",33 "warm N 1 2 1/0",33 "warm N 2 1 1",33 "rest N1 1 2",33 "or N 0 1"]:O6).map V.str))) 94 ?_
 ·exact (ν,by show 6<=sizeLine;decide,λl2 n2=>(573 (rfl,rfl,ai n2 _ _ _ el,ah,by show 35<=sizeLine;decide,λl3 n3=>hN _ _ 124)))
 intro σ H4 h_;sleep 38
 sleep 25
 sleep 14;refine cut (λσ H'=>∃l,σ= [Pb l,none]/\aD H H'/\H' l=some (.lst (([33 "",33 " ",33 "dish N 4",33 "take N",33 "take N 0",33 "take N 1/1",33 "take N 2/4",33 "take N 01",33 "take N 1 1",33 "take  N 1",33 " take N 1",33 "take N 1 ",33 "take N1 1",33 "take N M 1",33 "Take N 1",33 "takes N 1",33 "N 1",33 "take N -1",33 "take aaaaaaaaaaaaa 1",33 "cut N 0 5",33 "cut N 6 5",33 "cut N 1 X",33 "cut N 5",33 "cut N 1 2 3",33 "cut N 01 2",33 "cut N -1 2",33 "cut N 1.0 2",33 "rest N 1 2 3",33 "rest N 0 0",33 "warm N 1 2",33 "warm N 1 2 0",33 "warm N 1 2 1/0",33 "warm N 2 1 1",33 "rest N1 1 2",33 "or N 0 1",33 "or N 3 2",33 "or N 1 2 1",33 "or N 1 X",33 "or N 1",33 "with N M 0 1",33 "with N M 9 1",33 "with N M 1 1001"]:O6).map V.str))) 94 ?_
 ·exact (ν,by show 7<=sizeLine;decide,λl2 n2=>(573 (rfl,rfl,ai n2 _ _ _ el,ah,by show 42<=sizeLine;decide,λl3 n3=>hN _ _ 124)))
 intro σ H5 h_;sleep 38
 sleep 25
 sleep 14;refine cut (λσ H'=>∃l,σ= [Pb l,none]/\aD H H'/\H' l=some (.lst (([33 "",33 " ",33 "dish N 4",33 "take N",33 "take N 0",33 "take N 1/1",33 "take N 2/4",33 "take N 01",33 "take N 1 1",33 "take  N 1",33 " take N 1",33 "take N 1 ",33 "take N1 1",33 "take N M 1",33 "Take N 1",33 "takes N 1",33 "N 1",33 "take N -1",33 "take aaaaaaaaaaaaa 1",33 "cut N 0 5",33 "cut N 6 5",33 "cut N 1 X",33 "cut N 5",33 "cut N 1 2 3",33 "cut N 01 2",33 "cut N -1 2",33 "cut N 1.0 2",33 "rest N 1 2 3",33 "rest N 0 0",33 "warm N 1 2",33 "warm N 1 2 0",33 "warm N 1 2 1/0",33 "warm N 2 1 1",33 "rest N1 1 2",33 "or N 0 1",33 "or N 3 2",33 "or N 1 2 1",33 "or N 1 X",33 "or N 1",33 "with N M 0 1",33 "with N M 9 1",33 "with N M 1 1001",33 "with N M 1",33 "with N M1 1 1",33 "with N M 1 1 1",33 "orwith N M 0 0",33 "orwith N M 1 1001"]:O6).map V.str))) 94 ?_
 ·exact (ν,by show 5<=sizeLine;decide,λl2 n2=>(573 (rfl,rfl,ai n2 _ _ _ el,ah,by show 47<=sizeLine;decide,λl3 n3=>hN _ _ 124)))
 intro σ H6 h_;sleep 38
 sleep 25
 sleep 14;refine cut (λσ H'=>∃l,σ= [Pb l,none]/\aD H H'/\H' l=some (.lst (([33 "",33 " ",33 "dish N 4",33 "take N",33 "take N 0",33 "take N 1/1",33 "take N 2/4",33 "take N 01",33 "take N 1 1",33 "take  N 1",33 " take N 1",33 "take N 1 ",33 "take N1 1",33 "take N M 1",33 "Take N 1",33 "takes N 1",33 "N 1",33 "take N -1",33 "take aaaaaaaaaaaaa 1",33 "cut N 0 5",33 "cut N 6 5",33 "cut N 1 X",33 "cut N 5",33 "cut N 1 2 3",33 "cut N 01 2",33 "cut N -1 2",33 "cut N 1.0 2",33 "rest N 1 2 3",33 "rest N 0 0",33 "warm N 1 2",33 "warm N 1 2 0",33 "warm N 1 2 1/0",33 "warm N 2 1 1",33 "rest N1 1 2",33 "or N 0 1",33 "or N 3 2",33 "or N 1 2 1",33 "or N 1 X",33 "or N 1",33 "with N M 0 1",33 "with N M 9 1",33 "with N M 1 1001",33 "with N M 1",33 "with N M1 1 1",33 "with N M 1 1 1",33 "orwith N M 0 0",33 "orwith N M 1 1001",33 "orwith N M 9 0",33 "after N N",33 "after N",33 "after N M 0",33 "within N M",33 "within N M X"]:O6).map V.str))) 94 ?_
 ·exact (ν,by show 6<=sizeLine;decide,λl2 n2=>(573 (rfl,rfl,ai n2 _ _ _ el,ah,by show 53<=sizeLine;decide,λl3 n3=>hN _ _ 124)))
 intro σ H7 h_;sleep 38
 sleep 25
 sleep 14;refine cut (λσ H'=>∃l,σ= [Pb l,none]/\aD H H'/\H' l=some (.lst (([33 "",33 " ",33 "dish N 4",33 "take N",33 "take N 0",33 "take N 1/1",33 "take N 2/4",33 "take N 01",33 "take N 1 1",33 "take  N 1",33 " take N 1",33 "take N 1 ",33 "take N1 1",33 "take N M 1",33 "Take N 1",33 "takes N 1",33 "N 1",33 "take N -1",33 "take aaaaaaaaaaaaa 1",33 "cut N 0 5",33 "cut N 6 5",33 "cut N 1 X",33 "cut N 5",33 "cut N 1 2 3",33 "cut N 01 2",33 "cut N -1 2",33 "cut N 1.0 2",33 "rest N 1 2 3",33 "rest N 0 0",33 "warm N 1 2",33 "warm N 1 2 0",33 "warm N 1 2 1/0",33 "warm N 2 1 1",33 "rest N1 1 2",33 "or N 0 1",33 "or N 3 2",33 "or N 1 2 1",33 "or N 1 X",33 "or N 1",33 "with N M 0 1",33 "with N M 9 1",33 "with N M 1 1001",33 "with N M 1",33 "with N M1 1 1",33 "with N M 1 1 1",33 "orwith N M 0 0",33 "orwith N M 1 1001",33 "orwith N M 9 0",33 "after N N",33 "after N",33 "after N M 0",33 "within N M",33 "within N M X",33 "take N 1111111111111111111111111111111",33 "warm N 1 2 1111111111111111111111111111111",33 "take N 1+1/9999999999999999999999999999999"]:O6).map V.str))) 94 ?_
 ·exact (ν,aG (33 "1") 31 (rfl,rfl,by decide,by decide,by decide,aG _ _ (rfl,rfl,by decide,aG (33 "1") 31 (rfl,rfl,by decide,by decide,by decide,aG _ _ (rfl,rfl,by decide,aG (33 "9") 31 (rfl,rfl,by decide,by decide,by decide,aG _ _ (rfl,rfl,by decide,by show 3<=sizeLine;decide,λl2 n2=>(573 (rfl,rfl,ai n2 _ _ _ el,ah,by show 56<=sizeLine;decide,λl3 n3=>hN _ _ (l3,rfl,(g.trans (ai n2 _)).trans (ai n3 _),ah.trans (by rw[show Str.ofString "take N " ++Txt.mul (Str.ofString "1") 31=Str.ofString "take N 1111111111111111111111111111111" from by decide+kernel,show Str.ofString "warm N 1 2 " ++Txt.mul (Str.ofString "1") 31=Str.ofString "warm N 1 2 1111111111111111111111111111111" from by decide+kernel,show Str.ofString "take N 1+1/" ++Txt.mul (Str.ofString "9") 31=Str.ofString "take N 1+1/9999999999999999999999999999999" from by decide+kernel];rfl)))))))))))
 intro σ H8 h_;sleep 38
 sleep 25
 sleep 14;refine cut (λσ H'=>σ= [Pb l,some 334]/\H8=H') 94 ?_
 ·exact hN _ _ 153
 sleep 18;refine cut (λσ H'=>∃l,σ= [Pb l,some 334]/\aD H H'/\H' l=some (.lst (([33 "",33 " ",33 "dish N 4",33 "take N",33 "take N 0",33 "take N 1/1",33 "take N 2/4",33 "take N 01",33 "take N 1 1",33 "take  N 1",33 " take N 1",33 "take N 1 ",33 "take N1 1",33 "take N M 1",33 "Take N 1",33 "takes N 1",33 "N 1",33 "take N -1",33 "take aaaaaaaaaaaaa 1",33 "cut N 0 5",33 "cut N 6 5",33 "cut N 1 X",33 "cut N 5",33 "cut N 1 2 3",33 "cut N 01 2",33 "cut N -1 2",33 "cut N 1.0 2",33 "rest N 1 2 3",33 "rest N 0 0",33 "warm N 1 2",33 "warm N 1 2 0",33 "warm N 1 2 1/0",33 "warm N 2 1 1",33 "rest N1 1 2",33 "or N 0 1",33 "or N 3 2",33 "or N 1 2 1",33 "or N 1 X",33 "or N 1",33 "with N M 0 1",33 "with N M 9 1",33 "with N M 1 1001",33 "with N M 1",33 "with N M1 1 1",33 "with N M 1 1 1",33 "orwith N M 0 0",33 "orwith N M 1 1001",33 "orwith N M 9 0",33 "after N N",33 "after N",33 "after N M 0",33 "within N M",33 "within N M X",33 "take N 1111111111111111111111111111111",33 "warm N 1 2 1111111111111111111111111111111",33 "take N 1+1/9999999999999999999999999999999",33 "cut aaaaaaaaaaaaa 1 2",33 "warm aaaaaaaaaaaaa 1 2 3",33 "with N aaaaaaaaaaaaa 1 0"]:O6).map V.str))) 94 ?_
 ·exact ⟨_,rfl,_,rfl,aG _ _ ⟨rfl,rfl,by decide,aG _ _ ⟨rfl,rfl,by decide,_,rfl,aG _ _ ⟨rfl,rfl,by decide,aG _ _ ⟨rfl,rfl,by decide,_,rfl,aG _ _ ⟨rfl,rfl,by decide,aG _ _ ⟨rfl,rfl,by decide,by show 3<=sizeLine;decide,λl2 n2=>(573 ⟨rfl,rfl,ai n2 _ _ _ el,ah,by show 59<=sizeLine;decide,λl3 n3=>hN _ _ ⟨l3,rfl,(g.trans (ai n2 _)).trans (ai n3 _),ah.trans (by rw[show (Str.ofString "cut " ++Str.ofString "aaaaaaaaaaaaa")++Str.ofString " 1 2" =Str.ofString "cut aaaaaaaaaaaaa 1 2" from by decide+kernel,show (Str.ofString "warm " ++Str.ofString "aaaaaaaaaaaaa")++Str.ofString " 1 2 3" =Str.ofString "warm aaaaaaaaaaaaa 1 2 3" from by decide+kernel,show (Str.ofString "with N " ++Str.ofString "aaaaaaaaaaaaa")++Str.ofString " 1 0" =Str.ofString "with N aaaaaaaaaaaaa 1 0" from by decide+kernel];rfl)⟩⟩)⟩⟩⟩⟩⟩⟩⟩
 intro σ H9 h_;sleep 38
 sleep 25
 sleep 14;refine cut (λσ H'=>∃l,σ= [Pb l,some 334]/\aD H H'/\H' l=some (.lst (([33 "",33 " ",33 "dish N 4",33 "take N",33 "take N 0",33 "take N 1/1",33 "take N 2/4",33 "take N 01",33 "take N 1 1",33 "take  N 1",33 " take N 1",33 "take N 1 ",33 "take N1 1",33 "take N M 1",33 "Take N 1",33 "takes N 1",33 "N 1",33 "take N -1",33 "take aaaaaaaaaaaaa 1",33 "cut N 0 5",33 "cut N 6 5",33 "cut N 1 X",33 "cut N 5",33 "cut N 1 2 3",33 "cut N 01 2",33 "cut N -1 2",33 "cut N 1.0 2",33 "rest N 1 2 3",33 "rest N 0 0",33 "warm N 1 2",33 "warm N 1 2 0",33 "warm N 1 2 1/0",33 "warm N 2 1 1",33 "rest N1 1 2",33 "or N 0 1",33 "or N 3 2",33 "or N 1 2 1",33 "or N 1 X",33 "or N 1",33 "with N M 0 1",33 "with N M 9 1",33 "with N M 1 1001",33 "with N M 1",33 "with N M1 1 1",33 "with N M 1 1 1",33 "orwith N M 0 0",33 "orwith N M 1 1001",33 "orwith N M 9 0",33 "after N N",33 "after N",33 "after N M 0",33 "within N M",33 "within N M X",33 "take N 1111111111111111111111111111111",33 "warm N 1 2 1111111111111111111111111111111",33 "take N 1+1/9999999999999999999999999999999",33 "cut aaaaaaaaaaaaa 1 2",33 "warm aaaaaaaaaaaaa 1 2 3",33 "with N aaaaaaaaaaaaa 1 0",33 "or aaaaaaaaaaaaa 1 2",33 "after N aaaaaaaaaaaaa",33 "apart aaaaaaaaaaaaa N",33 "rest Ab 1 2"]:O6).map V.str))) 94 ?_
 ·exact (ν,ν,aG _ _ (rfl,rfl,by decide,aG _ _ (rfl,rfl,by decide,ν,aG _ _ (rfl,rfl,by decide,ν,aG _ _ (rfl,rfl,by decide,aG _ _ (rfl,rfl,by decide,by show 4<=sizeLine;decide,λl2 n2=>(573 (rfl,rfl,ai n2 _ _ _ el,ah,by show 63<=sizeLine;decide,λl3 n3=>hN _ _ (l3,rfl,(g.trans (ai n2 _)).trans (ai n3 _),ah.trans (by rw[show (Str.ofString "or " ++Str.ofString "aaaaaaaaaaaaa")++Str.ofString " 1 2" =Str.ofString "or aaaaaaaaaaaaa 1 2" from by decide+kernel,show Str.ofString "after N " ++Str.ofString "aaaaaaaaaaaaa" =Str.ofString "after N aaaaaaaaaaaaa" from by decide+kernel,show (Str.ofString "apart " ++Str.ofString "aaaaaaaaaaaaa")++Str.ofString " N" =Str.ofString "apart aaaaaaaaaaaaa N" from by decide+kernel];rfl))))))))))
 intro σ H10 h_;sleep 38
 sleep 25
 sleep 14;refine cut (λσ H'=>∃l,σ= [Pb l,some 334]/\aD H H'/\H' l=some (.lst (([33 "",33 " ",33 "dish N 4",33 "take N",33 "take N 0",33 "take N 1/1",33 "take N 2/4",33 "take N 01",33 "take N 1 1",33 "take  N 1",33 " take N 1",33 "take N 1 ",33 "take N1 1",33 "take N M 1",33 "Take N 1",33 "takes N 1",33 "N 1",33 "take N -1",33 "take aaaaaaaaaaaaa 1",33 "cut N 0 5",33 "cut N 6 5",33 "cut N 1 X",33 "cut N 5",33 "cut N 1 2 3",33 "cut N 01 2",33 "cut N -1 2",33 "cut N 1.0 2",33 "rest N 1 2 3",33 "rest N 0 0",33 "warm N 1 2",33 "warm N 1 2 0",33 "warm N 1 2 1/0",33 "warm N 2 1 1",33 "rest N1 1 2",33 "or N 0 1",33 "or N 3 2",33 "or N 1 2 1",33 "or N 1 X",33 "or N 1",33 "with N M 0 1",33 "with N M 9 1",33 "with N M 1 1001",33 "with N M 1",33 "with N M1 1 1",33 "with N M 1 1 1",33 "orwith N M 0 0",33 "orwith N M 1 1001",33 "orwith N M 9 0",33 "after N N",33 "after N",33 "after N M 0",33 "within N M",33 "within N M X",33 "take N 1111111111111111111111111111111",33 "warm N 1 2 1111111111111111111111111111111",33 "take N 1+1/9999999999999999999999999999999",33 "cut aaaaaaaaaaaaa 1 2",33 "warm aaaaaaaaaaaaa 1 2 3",33 "with N aaaaaaaaaaaaa 1 0",33 "or aaaaaaaaaaaaa 1 2",33 "after N aaaaaaaaaaaaa",33 "apart aaaaaaaaaaaaa N",33 "rest Ab 1 2",33 "take aB 1",33 "with N Ab 1 0",33 "within N bA 1"]:O6).map V.str))) 94 ?_
 ·exact (ν,by show 3<=sizeLine;decide,λl2 n2=>(573 (rfl,rfl,ai n2 _ _ _ el,ah,by show 66<=sizeLine;decide,λl3 n3=>hN _ _ 124)))
 intro σ H11 h_;sleep 38
 sleep 25
 sleep 14;exact (ν,by show 7<=sizeLine;decide,λl2 n2=>(573 (rfl,rfl,ai n2 _ _ _ el,ah,by show 73<=sizeLine;decide,λl3 n3=>q l3 _ ((g.trans (ai n2 _)).trans (ai n3 _)) (ah.trans (by rw[D2];rfl)))))
theorem Hh {dV:Value} (F:bG K "_law_form" "_law_form" ET dV f fd) (DZ47:563 bX 1 "_law_wrong_forms" [] [] sy):568 2 f fd ["_law_names_here","_law_a","_law_b"] vX:=by
 have sc:aK ["_law_names_here","_law_a","_law_b","_law_some","_law_row_here"] ["_law_names_here","_law_a","_law_b"] (az ET):=eL 38
 sleep 10
 ·obtain ⟨_,_,_,_,rfl,_⟩:=h
  rfl
 refine ld h λln zt a b _hi=>?_
 refine jc _hi λ_r1 en zz tz hb q=>?_
 sleep 9;exists _,(aC (bD (582 (D4 DZ47 hr 45 rfl))) (aC (dz (i:=4) sc.nd rfl 241 (eO (eO (cH (579 139 (577 107 (572 265)) 68)) (cH 104)) (cH 104))) (aC (lM (eO (cH 297) (yR (by rfl) B.MK (584 (579 (@aZ _ _ _ _ (ac<*>264)) (577 144 ac) 68))))) bE)))
 try dsimp only[cxK]
 sleep 152
 refine bI _hi λa0 n0 m0=>?_
 refine dB (uj zz (i:=1) 45) λz1 t1 _hi=>?_
 refine bI _hi λa1 n1 m1=>?_
 have l0:=n0.len;have l1:=n1.len;have k0:=tz _ m0;have k1:=tz _ m1;dsimp only at k0 k1;obtain ⟨i,ei⟩:∃i:Nat,i=a % 73:=173;have hi:i<73:=by lia
 have ea:(a:Int).fmod (73:Int)=(i:Int):=by rw[KW _ 45];lia
 have wt:=D3 hi;have ws:=xm hi;obtain ⟨w,ew⟩:∃w,w=jB (ue.getD i []):=173;rw[<-ew] at wt ws;obtain ⟨x,ex⟩:∃x:Nat,x=if b % 2=0 then 0 else b:=173
 have xb:x<=2147483647:=by rw[ex];split<;>lia
 refine cz (λm σ H'=>m=n/\∃ls,σ= [Pb ln,some (.int (a:Nat)),some (.int (b:Nat)),Pb ls,none]/\aD H H'/\H' ls=some (.lst (BV.map V.str))) 94 ?_
 ·exact (rfl,λl H' g e=>hN _ _ _ (rfl,l,rfl,g,e))
 intro m σ H1 h_;sleep 8
 sleep 157
 refine bI _hj λ_r2 g1 es=>?_
 sleep 6;subst _r2;have en1:=g1 _ _ en;have at_w:eZ (BV.map V.str) ((a:Int).fmod ((BV.map V.str).length:Int))=some (.str w):=by
  rw[K6,vY];show eZ _ ((a:Int).fmod 73)=_;rw[ea];exact aF (by rw[KA,wt];rfl)
 have nz:((BV.map V.str).length:Int)≠0:=by rw[K6,vY];decide
 obtain ⟨r1,er1⟩:∃r:Str,r=Txt.replace w (bw [78]) z0:=173;obtain ⟨r2,er2⟩:∃r:Str,r=Txt.replace r1 (bw [77]) z1:=173;have q1:r1.length<=60*13:=by rw[er1];exact KC (iZ _ _ _) (LR ws 93)
 sleep 181
 sleep 39
 have eN:Str.ofString "N" =bw [78]:=by decide
 have eM:Str.ofString "M" =bw [77]:=by decide
 have eX:Str.ofString "X" =bw [88]:=by decide
 have xl:=rX (n:=100001+x) 93
 refine cz (λm' σ H'=>m<=m'/\σ= [Pb ln,some (.int (a:Nat)),some (.int (b:Nat)),Pb ls,some (.str r2)]/\H1=H') 94 ?_
 ·refine (ν,ν,ν,aG ls _ (rfl,.inl (aJ.of es),aG _ _ (rfl,rfl,nz,aL ls _ _ _ (rfl,rfl,aJ.of es,at_w,w,rfl,λk hk=>(ν,aL ln _ _ _ (rfl,rfl,aJ.of en1,a0,aG _ _ (rfl,by lia,by lia,by lia,by rw[eN];exact jq n0 45,KC (bd ws l0) 45,r1,(by rw[eN,<-er1]),λk2 hk2=>(ν,aL ln _ _ _ (rfl,rfl,aJ.of en1,a1,aG _ _ (rfl,by lia,by lia,by lia,by rw[eM];exact jq n1 45,KC (bd q1 l1) 45,hN _ _ _ (by lia,by rw[eM,<-er2];rfl,rfl)))))))))))
 intro m2 σ _ h_;refine bI h_ λle2 _r1 _r2=>?_
 clear h_;sleep 2;have at2:eZ [V.int 0,.int (b:Nat)] ((b:Int).fmod 2)=some (.int (x:Nat)):=by
  have c:(b:Int).fmod 2=((b % 2:Nat):Int):=by rw[KW _ 45];lia
  rw[c,ex];have h2:b % 2=0∨b % 2=1:=by lia
  rcases h2 with h2|h2
  ·rw[h2,if_pos rfl];rfl
  ·rw[h2,if_neg 45];rfl
 refine (ν,r2,rfl,λk hk=>(ν,by show 2<=sizeLine;decide,λl nl=>(ν,aG _ _ (rfl,rfl,(by show (2:Int)≠0;decide),aL l _ _ _ (rfl,rfl,aJ.of ah,at2,aG _ _ (rfl,rfl,ν,BN (n:=100001+x) 93 93,λk4 hk4=>(585 (rfl,by lia,by lia,by lia,?_,?_,?_))))))))
 ·rw[eX,t9 (n:=100001+x) 93]
  exact DW _ 45
 ·rw[t9 (n:=100001+x) 93]
  exact KC (bd q2 xl) 45
 ·rw[eX,t9 (n:=100001+x) 93,er2,er1,xh n0 n1 ew]
  exact q _ _ _ 93 (g1.trans 528) (zQ n0 n1 93 93 hi)
theorem Hi {dV:Value} (F:bG K "_law_head" "_law_head" EU dV f fd):568 1 f fd ["_law_names_here","_law_a"] vZ:=by
 have sc:aK ["_law_names_here","_law_a","_law_some"] ["_law_names_here","_law_a"] (az EU):=eL 38
 sleep 10
 ·obtain ⟨_,_,_,rfl,_⟩:=h
  rfl
 refine gQ h λln zt a _hi=>?_
 refine cN _hi λ_r1 en zz _hj=>?_
 refine bH _hj λtz q=>?_
 sleep 85;exists _,(aC (bD (569 (cU (aA (aA (aA 110)))))) (aC (bD (569 (av dk 144 (cU 110)))) (aC (lM (eO (cH (579 144 (577 107 (572 264)) 68)) (cH 104))) bE)))
 try dsimp only[cxK]
 sleep 152
 refine bI _hi λa0 n0 m0=>?_
 have l0:=n0.len;have k0:=tz _ m0;dsimp only at k0;obtain ⟨i,ei⟩:∃i:Nat,i=a % 15:=173;have hi:i<15:=by lia
 have ea:(a:Int).fmod (15:Int)=(i:Int):=by rw[KW _ 45];lia
 have wt:=D7 hi;have ws:=xr hi;obtain ⟨w,ew⟩:∃w,w=jB (qF.getD i []):=173;rw[<-ew] at wt ws;refine cz (λm σ H'=>m=n/\∃ls,σ= [Pb ln,some (.int (a:Nat)),Pb ls]/\aD H H'/\H' ls=some (.lst ((["dish N 0","dish N 1001","dish N","dish N 1 1","dishes N 1","take N 1","","Dish N 1","dish N1 1"]:O6).map V.str))) 94 ?_
 ·exact (by show 9<=sizeLine;decide,λl nl=>hN _ _ _ (rfl,l,rfl,ai nl _,ah))
 intro m σ H1 h_;sleep 8
 sleep 157
 refine bI _hj λ_r2 g1 e1=>?_
 sleep 6;subst _r2;refine cz (λm' σ H'=>m'=m/\∃ls,σ= [Pb ln,some (.int (a:Nat)),Pb ls]/\aD H H'/\H' ls=some (.lst (CL.map V.str))) 94 ?_
 ·exact (ν,by show 6<=sizeLine;decide,λl nl=>(aL ls l _ _ (rfl,rfl,ai nl _ _ _ e1,ah,by show 15<=sizeLine;decide,λr nr=>hN _ _ _ (rfl,r,rfl,(g1.trans 528).trans (ai nr _),ah.trans (by rw[D8];rfl)))))
 intro m σ H2 h_;sleep 8
 sleep 157
 refine bI _hj λ_r2 g2 es=>?_
 sleep 6;subst _r2;have en2:=g2 _ _ en;have at_w:eZ (CL.map V.str) ((a:Int).fmod ((CL.map V.str).length:Int))=some (.str w):=by
  rw[K6,v4];show eZ _ ((a:Int).fmod 15)=_;rw[ea];exact aF (by rw[KA,wt];rfl)
 have nz:((CL.map V.str).length:Int)≠0:=by rw[K6,v4];decide
 sleep 39
 have eN:Str.ofString "N" =bw [78]:=by decide
 refine (ν,ν,ν,aG ls _ (rfl,.inl (aJ.of es),aG _ _ (rfl,rfl,nz,aL ls _ _ _ (rfl,rfl,aJ.of es,at_w,w,rfl,λk hk=>(ν,aL ln _ _ _ (rfl,rfl,aJ.of en2,a0,aG _ _ (rfl,by lia,by lia,by lia,by rw[eN];exact jq n0 45,KC (bd ws l0) 45,?_)))))))
 rw[eN,xn hi ew];exact q _ _ _ 93 g2 (xq n0 hi)
theorem Hj {dV:Value} (F:bG K "_law_steps_told" "_law_steps_told" EV dV f fd):568 1 f fd ["_law_rows"] v5:=by
 have sc:aK ["_law_rows","_law_told","_law_k","_law_words"] ["_law_rows"] (az EV):=eL 38
 sleep 10
 ·obtain ⟨_,_,_,rfl,_⟩:=h
  rfl
 obtain ⟨rl,h,rs,rfl,n0,er,rok,r60,q⟩:=h;exists _,(aC (bD (bU 1 sc 141)) (aC (pY PassesOwn.never rfl (nL rfl B.Ni (ac<*>(158<*>ak))) (jC 2 sc) (aC (dz (i:=3) sc.nd rfl 241 (xv (579 98 144 68) aw)) (aC (ju (ay cZ (f8 164) (@bZ _ _ _ _ _ 525) 108) (aC (mK (pX KO KU KS b7 107 (@lS _ _ _ _ (@gW _ _ _ _ _ (cH 144) (@gW _ _ _ _ _ (cH 164) lR rfl) rfl)))) bE) bE) bE))) (aC (bD (aM 107)) bE)))
 try dsimp only[cxK]
 refine Ir ?_;intro D' r3 r2 r1;sleep 0;refine cz (λm σ H'=>m=n/\∃l,σ= [Pb rl,Pb l,none,none]/\H l=none/\H'=aR H l 123) 94 ?_
 ·exact (by show 0<=sizeLine;decide,λl nl=>hN _ _ _ (rfl,l,rfl,nl,rfl))
 intro m0 σ _ h_;sleep 8
 refine bx _hi λl _hj=>?_
 refine bI _hj λ_r2 nl _r3=>?_
 sleep 6;subst _r2;subst _r3;have g0:=ai nl 123;sleep 182
 refine cz (λm σ H'=>m0<=m/\aD H H'/\(∃us,H' l=some (.lst us)/\us.length<=rs.length/\zW H' m us 523)/\∃o2 o3:Option V,σ= [Pb rl,Pb l,o2,o3]) 94 ?_
 ·sleep 88
  rw[show (396+1-1).toNat=rs.length by lia]
  refine mM (n:=rs.length) (λi m σ H'=>m0<=m/\aD H H'/\(∃us,H' l=some (.lst us)/\us.length<=i/\zW H' m us (fJ rs i))/\∃o2 o3:Option V,σ= [Pb rl,Pb l,o2,o3]) (K4 _,g0,([],ah,K4 _,.nil),aG none none rfl) (λi m σ H4 hi hP=>?_) (λm σ H4 hP=>hN _ _ _ hP)
  refine cN hP λlm g4 _r1 _hi=>?_
  refine dB _hi λo2 o3 _r2=>?_
  clear hP _hi;obtain ⟨us,els,ul,td⟩:=_r1;sleep 147;have at_r:eZ 277 (1+(i:Int))=some (.str (dC r)):=by
   rw[show (1:Int)+(i:Int)=((i+1:Nat):Int) by lia]
   exact aF (by simp[hr])
  have sp:=mY ro;have l2:=D9 r;sleep 161;have in_:=(zV ro).1;refine (ν,ν,aL rl _ _ _ (rfl,rfl,aJ.of 478,at_r,rfl,aG (dC r) 32 (rfl,rfl,by lia,(by rw[show Txt.split (dC r) ⟨#[32]⟩=c7 r from sp];exact l2),λk p hk np=>?_)))
  rw[show Txt.split (dC r) ⟨#[32]⟩=c7 r from sp]
  have g5:=ai np 370;have e5:aR H4 p 370 p=some (.lst (dH (kc k (c7 r)))):=ah;have td5:=(td.mono g5 hk).mono (aD.refl _) (Lw k (c7 r).length);have els5:=g5 _ _ els;have f5:aD H (aR H4 p 370):=g4.trans g5;generalize aR H4 p 370=H5 at g5 e5 td5 els5 f5⊢;rw[ews] at e5 td5⊢;have w0:eZ (dH (kc k (ny r::sK r::ws))) (0:Int)=some (.raw (ny r) k):=aF (j:=0) rfl;have w1:eZ (dH (kc k (ny r::sK r::ws))) (1:Int)=some (.raw (sK r) 446):=aF (j:=1) rfl;refine (ν,aL p _ _ _ (rfl,rfl,aJ.of e5,w0,aG (ny r) k (rfl,by show 3<=sizeLine;decide,λtp ntp=>211)))
  have g6:=ai ntp 539;have td6:=td5.mono g6 214;have els6:=g6 _ _ els5;have e6:=g6 _ _ e5;have f6:=f5.trans g6;have ei:md 310 [V.str "cut",.str "rest",.str "warm"]=ur r:=in_;show if md 310 [V.str "cut",.str "rest",.str "warm"]=true then _ else _
  rw[ei];generalize aR H5 tp 539=H6 at g6 td6 els6 e6 f6⊢;cases st:ur r with
  |false=>exact ⟨by lia,f6,⟨us,els6,by lia,by rw[B4 hr st];exact td6⟩,aG _ _ rfl⟩
  |true=>
   refine (ν,.inl (rfl,_,aJ.of els6),ν,ν,aL p _ _ _ (rfl,rfl,aJ.of e6,w1,by show 2<=sizeLine;decide,λq nq=>?_))
   have g7:=ai nq 312;have e7:aR H6 q 312 q=some (.lst [vN 240,.raw (sK r) 446]):=by rw[ah,show vN 240=V.int (1+(i:Int)) from congrArg V.int 93]
   have els7:=g7 _ _ els6;have td7:=td6.mono g7 214;have f7:=f6.trans g7;generalize aR H6 q 312=H7 at g7 e7 els7 td7 f7⊢;refine (cO l us _ (rfl,rfl,els7,by lia,by lia,mw f7 nl _,(us++ [.ref q],ah,by simp;lia,?_),aG _ _ rfl))
   rw[Al hr st];refine A2.snoc (td7.put els7 _) (aG q 446 (rfl,?_,(show (0:Nat)<k+1 by lia),(show (k+1:Nat)<k+(ny r::sK r::ws).length by rw[KE,KE];lia)))
   rw[aB λz=>?_]
   ·exact e7
   ·rw[z,els7] at e7;injection e7 with e7
    injection e7 with e7
    have h0:us[0]?=some (vN 240):=by rw[e7];rfl
    refine bx (td7.at_ h0) λx _hi=>?_
    refine bH _hi λex _hj=>?_
    refine dB _hj λb t' _hk=>?_
    refine bH _hk λr1 _=>?_
    cases r1
 intro m σ H1 h_;refine cN h_ λlm g1 _r1 _hi=>?_
 refine dB _hi λo2 o3 _r2=>?_
 clear h_ _hi;obtain ⟨us,el,ul,ht⟩:=_r1;subst _r2;exact (ν,q m l H1 us lm g1 el ht)
theorem Hk {dV:Value} (F:bG K "_law_ahead" "_law_ahead" EW dV f fd):568 2 f fd ["_law_told","_law_xs"] sE:=by
 have sc:aK ["_law_told","_law_xs","_law_k","_law_name","_law_some","_law_ends","_law_turn","_law_row_here"] ["_law_told","_law_xs"] (az EW):=eL 38
 sleep 10
 ·obtain ⟨_,_,_,_,rfl,_⟩:=h
  rfl
 refine ld h λlt lx us ps _hi=>?_
 refine jc _hi λ_r1 n0 et td pne _hj=>?_
 refine bI _hj λpin hx q=>?_
 sleep 85;exists _,(aC (bD (ko (579 98 (577 125 158) 68) (kG rfl (bM (jC 2 sc) (bM (jC 3 sc) eA))))) (aC (bD (581 (cU 110))) (aC (bD (583 (cU 110))) (aC (bD (bU 6 sc 289)) (aC (bD (aW (580 (f8 139) (f8 527) 127) (aq (bU 6 sc 289)) aI)) (aC (dz (i:=7) sc.nd rfl 241 (uo ax (uo ax (eO (cH (579 297 436 68)) (cH 527)) (cH (f8 139))) (eO (cH (579 275 436 68)) (cH 527)))) (aC (bD (aM (@aZ _ _ _ _ ((584 (577 125 144))<*>((pv 7)<*>ak))))) bE)))))))
 try dsimp only[cxK]
 refine JV ?_;intro D' r7 r6 r5 r4 r3 r2 r1;sleep 0;sleep 59
 sleep 81
 sleep 179
 have ul:us.length=ps.length:=td.1;have p0:0<ps.length:=List.length_pos_iff.mpr pne;obtain ⟨f,hf⟩:∃f,ps[0]?=some f:=⟨_,K3 p0⟩;refine bx (td.get hf) λvf _hi=>?_
 refine bH _hi λhuf _hj=>?_
 refine dB _hj λaf tf _hk=>?_
 refine cN _hk λ_r1 ef tf0 tfn=>?_
 sleep 149;obtain ⟨p,hp⟩:∃p,ps[x3 % us.length]?=some p:=⟨_,K3 (by rw[ul];exact LZ _ p0)⟩
 refine bx (td.get hp) λvp _hi=>?_
 refine bH _hi λhup _hj=>?_
 refine dB _hj λap tk _hk=>?_
 refine cN _hk λ_r1 ep tk0 iq=>?_
 sleep 149;have pm:=K7 hp;have fm:=K7 hf;refine bI (pin p pm) λk1 k60 np=>?_
 refine bI (pin f fm) λ_ _ nf=>?_
 have at_p:eZ us ((x3:Int).fmod (us.length:Int))=some (.ref ap):=by
  rw[KW _ 93]
  exact aF (j:=x3 % us.length) hup
 have at_f:eZ us (0:Int)=some (.ref af):=aF (j:=0) huf;refine cz (λm σ H'=>m=n/\σ= [Pb lt,Pb lx,some 459,some 257,none,none,none,none]/\H=H') 94 ?_
 ·refine (ν,ν,aL lx _ _ _ (rfl,rfl,aJ.of ex,rfl,ν,aG lt _ (rfl,.inl (aJ.of et),aG _ _ (rfl,rfl,by lia,aL lt _ _ _ (rfl,rfl,aJ.of et,at_p,aG ap _ (rfl,aJ.of ep,rfl,aG _ _ (rfl,ω,hN _ _ _ 397)))))))
 intro m σ _ h_;sleep 24
 clear h_;sleep 2;subst _r3;refine cz (λm' σ H'=>m'=m/\∃ls,σ= [Pb lt,Pb lx,some 459,some 257,Pb ls,none,none,none]/\aD H H'/\H' ls=some (.lst (jw.map V.str))) 94 ?_
 ·sleep 63
 intro m σ H1 h_;sleep 8
 sleep 157
 refine bI _hj λ_r2 g1 es=>?_
 sleep 6;subst _r2;refine cz (λm' σ H'=>m'=m/\∃le,σ= [Pb lt,Pb lx,some 459,some 257,Pb ls,Pb le,none,none]/\aD H1 H'/\H' le=some (.lst (jx.map V.str))) 94 ?_
 ·sleep 63
 intro m σ H2 h_;sleep 8
 refine bx _hi λle _hj=>?_
 refine bI _hj λ_r2 g2 ee=>?_
 sleep 6;subst _r2;have g12:=g1.trans g2;have es2:=g2 _ _ es;have ex2:=g12 _ _ ex;have et2:=g12 _ _ et;have ef2:=g12 _ _ ef;have f6:(x1:Int).fmod 6=((x1 % 6:Nat):Int):=oK _ x1 6 rfl;have f3:(x1:Int).fmod 3=((x1 % 3:Nat):Int):=oK _ x1 3 rfl;refine cz (λm' σ H'=>m'=m/\σ= [Pb lt,Pb lx,some 459,some 257,Pb ls,Pb le,some (vN (x1 % 6)),none]/\H2=H') 94 ?_
 ·refine (ν,aL lx _ _ _ (rfl,rfl,aJ.of ex2,rfl,aG _ _ 160))
  dsimp only;rw[f6];sleep 214
 intro m σ _ h_;sleep 24
 clear h_;sleep 2;subst _r3;refine cz (λm' σ H'=>m'=m/\∃t:Nat,t<6/\(3<=t->p.2≠f.2)/\σ= [Pb lt,Pb lx,some 459,some 257,Pb ls,Pb le,some (vN t),none]/\H2=H') 94 ?_
 ·refine (ν,aG p.2 tk (rfl,ν,aL lt _ _ _ (rfl,rfl,aJ.of et2,at_f,aL af _ _ _ (rfl,rfl,aJ.of ef2,rfl,aG f.2 tf (rfl,rfl,ν,d2 198 λe=>hN _ _ _ (rfl,x1 % 6,LZ _ 45,λ_ z=>e (by rw[z]),rfl,rfl))))))
  refine (ν,aL lx _ _ _ (rfl,rfl,aJ.of ex2,rfl,aG _ _ (rfl,rfl,129,?_)))
  dsimp only;rw[f3];exact hN _ _ _ (rfl,x1 % 3,by lia,λh=>absurd h 93,rfl,rfl)
 intro m σ _ h_;sleep 8
 refine bx _hi λt _hj=>?_
 refine cN _hj λt6 tne _r2 _r3=>?_
 sleep 6;subst _r2;subst _r3;refine cN (xB t6) λas ls8 ae le8=>?_
 have txt:=xC (n:=p.2) (f:=f.2) t6;generalize jw.getD t "" =ws at as ls8 txt;generalize jx.getD t "" =we at ae le8 txt;have at_s:eZ (jw.map V.str) (t:Int)=some (.str ws):=aF (by rw[KA,as];rfl)
 have at_e:eZ (jx.map V.str) (t:Int)=some (.str we):=aF (by rw[KA,ae];rfl)
 have lf:=nf.len;have lp:=np.len;have r1:=KC (iZ ws f.2 70) (LR ls8 (Lj lf));have r2:=KC (iZ we f.2 70) (LR le8 (Lj lf));have bd:∀{w:Str},w.length<=8->w.length+(w.length+1)*f.2.length<=16777216:=λh=>KC (Nat.add_le_add h (LR (Lj h) lf)) 45
 have eF:Str.ofString "F" =bw [70]:=by decide
 have nf2:((33 "F")==f.2)=false:=by rw[eF];exact jq nf 45
 have tf0: @LT.lt Nat _ 0 tf:=tf0;have tfn: @LT.lt Nat _ tf m:=tfn;refine cz (λm' σ H'=>m<=m'/\σ= [Pb lt,Pb lx,some 459,some 257,Pb ls,Pb le,some (vN t),some (.str (jB (lD p.2 f.2 t)))]/\H2=H') 94 ?_
 ·refine (ν,ν,aL ls _ _ _ (rfl,rfl,aJ.of es2,at_s,ws,rfl,λk hk=>(ν,aL lt _ _ _ (rfl,rfl,aJ.of et2,at_f,aL af _ _ _ (rfl,rfl,aJ.of ef2,rfl,aG f.2 tf (rfl,by lia,by lia,by lia,nf2,bd ls8,ν,aG p.2 tk (rfl,aG _ _ (rfl,rfl,by rw[eF];lia,ν,ν,le,_,ω,aJ.of ee,at_e,we,rfl,λk2 hk2=>(ν,aL lt _ _ _ (rfl,rfl,aJ.of et2,at_f,aL af _ _ _ (rfl,rfl,aJ.of ef2,rfl,aG f.2 tf (rfl,by lia,by lia,by lia,nf2,bd le8,aG _ _ (rfl,rfl,by rw[eF,Str.length_append];lia,?_)))))))))))))
  rw[eF,txt];exact hN _ _ _ (by lia,rfl,rfl)
 intro m2 σ _ h_;refine bI h_ λle2 _r1 _r2=>?_
 clear h_;sleep 2;have fk:(x0:Int).fmod 411=((x0 % p.1:Nat):Int):=KW _ 93
 refine (ν,aL lx _ _ _ (rfl,rfl,aJ.of ex2,rfl,ν,aG _ _ (rfl,rfl,(by show ((p.1:Nat):Int)≠0;lia),aG _ _ 490)))
 refine q m2 l _ p f (x0 % p.1) t le2 (g12.trans 528) pm fm (LZ _ 93) t6 tne ?_
 rw[ah];show some (HO.lst [V.int (1+(x0:Int).fmod 411),_])=_;rw[fk]
 rfl
theorem Hl {dV:Value} (F:bG K "_law_unknown" "_law_unknown" EX dV f fd) (DZ50:575 1 "_law_steps_told" ["_law_rows"] v5) (DZ51:575 2 "_law_ahead" ["_law_told","_law_xs"] sE):568 3 f fd ["_law_names_here","_law_rows","_law_xs"] Ah:=by
 have sc:aK ["_law_names_here","_law_rows","_law_xs","_law_told","_law_at","_law_some","_law_row_here","_law_k","_law_name","_law_ends"] ["_law_names_here","_law_rows","_law_xs"] (az EX):=eL 38
 sleep 10
 ·obtain ⟨_,_,_,_,_,_,_,rfl,_⟩:=h
  rfl
 obtain ⟨ln,rl,lx,zt,h,rs,M,rfl,nt,rw,no,hx,q⟩:=h;exists _,(aC (dz (i:=3) sc.nd rfl 241 (iB DZ50 hr 45 rfl 192)) (aC (bD (581 (584 (577 103 320)))) (aC (bD (583 (cU 110))) (aC (bD (bU 6 sc (579 275 321 68))) (aC (bD (aW 374 (aj (ko (579 139 (577 103 (572 265)) 68) (kG rfl (bM (jC 7 sc) (bM (jC 8 sc) eA)))) (aj (581 (av bV (av bV (pv 7) ac) (577 103 (av iw 320 (pv 7))))) (aj (583 (cU 110)) (aj (bU 9 sc (cU 110)) (aj (bU 6 sc (570 (570 (579 275 321 68) (f8 (pv 8))) (579 (pv 9) 321 68))) (aq (aW (580 321 ac 127) (aq (581 (av bV (pv 7) ac))) aI))))))) aI)) (aC (ju 374 (aC (qy (iB DZ51 hr 45 rfl (139<*>264)) (kG rfl (bM (jC 4 sc) (bM (jC 6 sc) eA)))) bE) bE) (aC (dz (i:=6) sc.nd rfl 241 (eO (eO (cH 436) (cH 104)) (cH 104))) (aC (lM (@lS _ _ _ _ (@gW _ _ _ _ _ (cH 297) (@gW _ _ _ _ _ (eO (cH 436) (cH 104)) lR rfl) rfl))) bE))))))))
 try dsimp only[cxK]
 refine JW ?_;intro D' r8 r7 r6 r5 r4 r3 r2 r1;sleep 0;sleep 59
 sleep 81
 sleep 179
 have n0:=nt.pos;refine bI nt λen zz tz=>?_
 refine cN rw λer rok r60 pt=>?_
 refine dB (qB zz (i:=10) 45) λza ta _hi=>?_
 refine cN _hi λa10 na ma ia=>?_
 refine dB (qB zz (i:=5) 45) λzb tb _hi=>?_
 refine cN _hi λa5 nb mb ib=>?_
 refine dB (qB zz (i:=1) 45) λzc tc _hi=>?_
 refine cN _hi λa1 nc mc ic=>?_
 have k10: @LT.lt Nat _ 0 ta/\ @LT.lt Nat _ ta n:=tz _ ma;have k5: @LT.lt Nat _ 0 tb/\ @LT.lt Nat _ tb n:=tz _ mb;have k1: @LT.lt Nat _ 0 tc/\ @LT.lt Nat _ tc n:=tz _ mc;have la:=na.len;have lb:=nb.len;have lc:=nc.len;have nta:=no.ne zz ia 174;have ab:za≠zb:=λz=>by
  rw[z] at ia;exact absurd (zz.inj ia ib) 45
 have len1:(((h::rs.map dC).map V.str).length:Int)=((rs.length+1:Nat):Int):=by simp
 refine cz (λm σ H'=>n<=m/\∃lt us,σ= [Pb ln,Pb rl,Pb lx,Pb lt,none,none,none,none,none,none]/\aD H H'/\H' lt=some (.lst us)/\zW H' m us 523) 94 ?_
 ·exact (ν,cO rl h rs (rfl,n0,er,rok,r60,λm l H' us lm g el td=>hN _ _ _ (lm,aG l us (rfl,g,el,td))))
 intro m σ H1 h_;refine bH h_ λlm _hi=>?_
 refine dB _hi λlt us _hj=>?_
 refine cN _hj λ_r1 g1 et td=>?_
 sleep 6;have er1:=g1 _ _ er;have ex1:=g1 _ _ ex;sleep 138
 refine cz (λm' σ H'=>m'=m/\σ= [Pb ln,Pb rl,Pb lx,Pb lt,some 267,none,none,none,none,none]/\H1=H') 94 ?_
 ·refine (ν,aL lx _ _ _ (rfl,rfl,aJ.of ex1,rfl,ν,aG rl _ (rfl,.inl (aJ.of er1),?_)));rw[len1];refine (585 476)
  dsimp only;rw[f0];sleep 214
 intro m' σ _ h_;sleep 24
 clear h_;sleep 2;subst _r3;have x6:x1 % 6<6:=LZ _ 45
 have f6:(x1:Int).fmod 6=((x1 % 6:Nat):Int):=oK _ x1 6 rfl;have f3:(x2:Int).fmod 3=((x2 % 3:Nat):Int):=oK _ x2 3 rfl;have at_b:eZ (Ao.map V.str) ((x1 % 6:Nat):Int)=some (.str (jB (Ac.getD (x1 % 6) []))):=aF (by rw[KA,B7 x6];rfl)
 have uw:=Ae (c:=zc) pt na nb nc ab nta (k:=x0 % 542) (t:=x1 % 6) (by have:=LZ x0 (show 0<rs.length+1 by lia);lia) x6
 refine cz (λm σ H'=>m=m'/\∃ls,σ= [Pb ln,Pb rl,Pb lx,Pb lt,some 267,Pb ls,none,none,none,none]/\aD H1 H'/\H' ls=some (.lst (Ao.map V.str))) 94 ?_
 ·sleep 63
 intro m σ H2 h_;sleep 8
 sleep 157
 refine bI _hj λ_r2 g2 es=>?_
 sleep 6;subst _r2;refine cz (λm' σ H'=>m'=m/\σ= [some (.ref ln),some (.ref rl),some 487,some (.ref lt),some 267,some (.ref ls),some (.str (jB (Ac.getD (x1 % 6) []))),none,none,none]/\H2=H') 94 ?_
 ·refine (ν,ν,aL lx _ _ _ (rfl,rfl,aJ.of (g2 _ _ ex1),rfl,aG _ _ 160))
  dsimp only;rw[f6];exact (aL ls _ _ _ (rfl,rfl,aJ.of es,at_b,hN _ _ _ 397))
 intro m' σ _ h_;sleep 24
 clear h_;sleep 2;subst _r3;generalize x0 % 542=kk at uw;generalize Ac.getD (x1 % 6) []=wb at uw;have et2:=g2 _ _ et;have ex2:=g2 _ _ ex1;have er2:=g2 _ _ er1;have td2:=td.mono g2 214;have ul:=td.1;have g12:=g1.trans g2;refine cz (λm σ H'=>m=m'/\∃(at_:Nat) (ws:O6) (o5 o7 o8 o9:Option V),σ= [Pb ln,Pb rl,Pb lx,Pb lt,some 341,o5,some (.str 548),o7,o8,o9]/\aD H2 H'/\Ab za zb zc rs at_ ws) 94 ?_
 ·refine (ν,by show 0<=sizeLine;decide,λle nle=>(cO lt le us (rfl,rfl,aJ.of (ai nle _ _ _ et2),aJ.of ah,ν,?_)))
  have ga:=ai nle 123;generalize aR H2 le 123=H3 at ga⊢;have et3:=ga _ _ et2;have ex3:=ga _ _ ex2;have er3:=ga _ _ er2;have td3:=td2.mono ga 214;have done:N m' [some (.ref ln),some (.ref rl),some 487,some (.ref lt),some (vN (1+kk)),some (.ref ls),some 511,none,none,none] H3:=hN _ _ _ (rfl,oA _ _ _ _ _ _ (rfl,ga,uw));cases us with
  |nil=>exact cE (cE done)
  |cons v0 us0=>
   refine gx (ν,aL lx _ _ _ (rfl,rfl,aJ.of ex3,rfl,aG _ _ (rfl,rfl,129,rfl,ν,kX 358 λ_=>done)))
   have p0:0<(v0::us0).length:=Nat.succ_pos _;generalize v0::us0=us at et td et2 td2 ul et3 td3 p0⊢;obtain ⟨p,hp⟩:∃p,(fJ rs rs.length)[x3 % us.length]?=some p:=⟨_,K3 (by rw[<-ul];exact LZ _ p0)⟩
   refine bx (td3.get hp) λvp _hi=>?_
   refine bH _hi λhup _hj=>?_
   refine dB _hj λap tk _hk=>?_
   refine cN _hk λ_r1 ep tk0 iq=>?_
   sleep 149;refine ld (lT (K7 hp)) λj w lo hi _hi=>?_
   refine bx _hi λfl _hj=>?_
   refine bI _hj λjl p1 hj=>?_
   have np:Nm p.2:=(rok _ (K7 hj)).2.1;have tn:p.2∈rs.filterMap d0:=List.mem_filterMap.mpr (_,K7 hj,rfl);have at_p:eZ us ((x3:Int).fmod (us.length:Int))=some (.ref ap):=by
    rw[KW _ 93]
    exact aF (j:=x3 % us.length) hup
   refine cut (λσ H'=>σ= [Pb ln,Pb rl,Pb lx,Pb lt,some (vN (1+kk)),Pb ls,some 511,some 459,some 257,none]/\H3=H') 94 ?_
   ·exact (ν,ν,aL lx _ _ _ (rfl,rfl,aJ.of ex3,rfl,ν,aG lt _ (rfl,.inl (aJ.of et3),aG _ _ (rfl,rfl,by lia,aL lt _ _ _ (rfl,rfl,aJ.of et3,at_p,aG ap _ (rfl,aJ.of ep,rfl,aG _ _ (rfl,ω,hN _ _ 153)))))))
   sleep 18;have fk:(x0:Int).fmod (410-411)=((x0 % (rs.length-j):Nat):Int):=by
    rw[KW _ 93,show 410-411=((rs.length-j:Nat):Int) by lia]
    rfl
   have xj:=LZ x0 (show 0<rs.length-j by lia)
   obtain ⟨k2,ek2⟩:∃k2,k2=j+1+x0 % (rs.length-j):=173;refine cut (λσ H'=>σ= [Pb ln,Pb rl,Pb lx,Pb lt,some (vN (1+k2)),Pb ls,some 511,some 459,some 257,none]/\H3=H') 94 ?_
   ·refine (ν,aG _ _ (rfl,rfl,ν,aL lx _ _ _ (rfl,rfl,aJ.of ex3,rfl,ν,aG rl _ (rfl,.inl (aJ.of er3),ν,aG _ _ 209))));rw[len1];refine (585 (rfl,rfl,(by show 410-((p.1:Nat):Int)≠0;lia),aG _ _ 209))
    dsimp only;rw[fk];refine hN _ _ (?_,rfl);rw[ek2,show vN (1+(j+1+x0 % (rs.length-j)))=V.int (411+1+((x0 % (rs.length-j):Nat):Int)) from congrArg V.int 93]
    rfl
   sleep 18;refine cut (λσ H'=>∃l5,σ= [Pb ln,Pb rl,Pb lx,Pb lt,some (vN (1+k2)),Pb l5,some 511,some 459,some 257,none]/\aD H3 H'/\H' l5=some (.lst (uz.map V.str))) 94 ?_
   ·sleep 196
   intro σ H4 h_;refine bx h_ λl5 _hi=>?_
   refine bI _hi λ_r1 g4 e5=>?_
   sleep 14;refine cut (λσ H'=>∃l9,σ= [Pb ln,Pb rl,Pb lx,Pb lt,some (vN (1+k2)),Pb l5,some 511,some 459,some 257,Pb l9]/\aD H4 H'/\H' l9=some (.lst (uA.map V.str))) 94 ?_
   ·sleep 196
   intro σ H5 h_;refine bx h_ λl9 _hi=>?_
   refine bI _hi λ_r1 g5 e9=>?_
   sleep 14;have g35:=g4.trans g5;have ex5:=g35 _ _ ex3;have e55:=g5 _ _ e5;refine cN (B5 x6) λas ls8 ae le8=>?_
   have txt:=B6 (n:=p.2) x6;generalize uz.getD (x1 % 6) "" =ws at as ls8 txt;generalize uA.getD (x1 % 6) "" =we at ae le8 txt;have at_s:eZ (uz.map V.str) ((x1 % 6:Nat):Int)=some (.str ws):=aF (by rw[KA,as];rfl)
   have at_e:eZ (uA.map V.str) ((x1 % 6:Nat):Int)=some (.str we):=aF (by rw[KA,ae];rfl)
   have lp:=np.len;refine cut (λσ H'=>σ= [Pb ln,Pb rl,Pb lx,Pb lt,some (vN (1+k2)),Pb l5,some (.str (jB (kL p.2 (x1 % 6)))),some 459,some 257,Pb l9]/\H5=H') 94 ?_
   ·refine (ν,ν,aL lx _ _ _ (rfl,rfl,aJ.of ex5,rfl,aG _ _ 160))
    dsimp only;rw[f6];refine (aL l5 _ _ _ (rfl,rfl,aJ.of e55,at_s,ν,aG p.2 tk (rfl,aG _ _ (rfl,rfl,by lia,ν,ν,aL lx _ _ _ (rfl,rfl,aJ.of ex5,rfl,aG _ _ 160)))))
    dsimp only;rw[f6];refine (aL l9 _ _ _ (rfl,rfl,aJ.of e9,at_e,aG _ _ (rfl,rfl,by rw[Str.length_append];lia,?_)))
    rw[txt];exact hN _ _ 153
   sleep 18;have uT:=λk3 (kl:k3<=rs.length) (k5:x1 % 6=5->k3=j+1)=>Af (b:=zb) (c:=zc) pt na nc nta hj np tn kl x6 k5
   refine (ν,aL lx _ _ _ (rfl,rfl,aJ.of ex5,rfl,aG _ _ (rfl,rfl,461,rfl,ν,kX 198 λe=>?_)))
   ·refine (ν,aG _ _ 209);dsimp only;rw[show V.int (411+1)=vN (1+(j+1)) from congrArg V.int 93]
    exact hN _ _ _ (rfl,oA (1+(j+1)) _ _ _ _ _ (rfl,ga.trans g35,uT (j+1) 93 λ_=>rfl))
   ·exact hN _ _ _ (rfl,oA (1+k2) _ _ _ _ _ (rfl,ga.trans g35,uT k2 93 λz=>absurd (by rw[f6,z];rfl) e))
 clear uw;intro m σ H3 h_;sleep 8
 refine xF _hi λat_ ws o5 o7 o8 o9 _hj=>?_
 refine bI _hj λ_r2 g3 uw=>?_
 sleep 6;subst _r2;have et3:=g3 _ _ et2;have ex3:=g3 _ _ ex2;have td3:=td2.mono g3 214;refine cz (λm' σ H'=>m<=m'/\∃(at_:Nat) (ws:O6) (o5 o7 o8 o9:Option V),σ= [Pb ln,Pb rl,Pb lx,Pb lt,some 341,o5,some (.str 548),o7,o8,o9]/\aD H3 H'/\Ab za zb zc rs at_ ws) 94 ?_
 ·refine (ν,by show 0<=sizeLine;decide,λle nle=>(cO lt le us (rfl,rfl,aJ.of (ai nle _ _ _ et3),aJ.of ah,ν,?_)))
  have ga:=ai nle 123;generalize aR H3 le 123=H4 at ga⊢;have et4:=ga _ _ et3;have ex4:=ga _ _ ex3;have td4:=td3.mono ga 214;have done:N m [some (.ref ln),some (.ref rl),some 487,some (.ref lt),some 341,o5,some (.str 548),o7,o8,o9] H4:=hN _ _ _ (K4 _,oA _ _ _ _ _ _ (rfl,ga,uw));cases us with
  |nil=>exact cE (cE done)
  |cons v0 us0=>
   refine gx (ν,aL lx _ _ _ (rfl,rfl,aJ.of ex4,rfl,aG _ _ (rfl,rfl,129,rfl,ν,kX 358 λ_=>done)))
   have pne:fJ rs rs.length≠ []:=λz=>by rw[z] at ul;cases ul
   refine (ν,ν,aL lt lx _ 523 (rfl,by lia,et4,td4,pne,λp hp=>?_,hx.same ((g12.trans g3).trans ga),λm2 l H' p f k t lm2 g4 pm fm kp t6 tne el=>?_))
   ·refine ld (lT hp) λj w lo hi _hi=>?_
    refine bx _hi λfl _hj=>?_
    refine bI _hj λjl p1 hj=>?_
    exact (by lia,by lia,(rok _ (K7 hj)).2.1)
   ·refine ld (lT pm) λj w lo hi _hi=>?_
    refine bx _hi λfl _hj=>?_
    refine bI _hj λjl p1 hj=>?_
    refine ld (lT fm) λj' w' lo' hi' _hi=>?_
    refine bx _hi λfl' _hj=>?_
    refine bI _hj λjl' p1' hj'=>?_
    exact (aG l _ (rfl,aJ.of el,rfl,aG _ _ (rfl,aG _ _ (rfl,rfl,hN _ _ _ (lm2,oA (1+k) _ _ _ _ _ (rfl,ga.trans g4,xz pt nc hj (rok _ (K7 hj)).2.1 (rok _ (K7 hj')).2.1 93 t6 tne))))))
 clear uw;intro m2 σ H4 h_;refine bH h_ λlm2 _hi=>?_
 refine xF _hi λat_ ws o5 o7 o8 o9 _hj=>?_
 refine cN _hj λ_r1 g4 uw w60=>?_
 sleep 6;have gA:=(g12.trans g3).trans g4;have en4:=gA _ _ en;have eQ:Str.ofString "Q" =bw [81]:=by decide
 have eR:Str.ofString "R" =bw [82]:=by decide
 have eM:Str.ofString "M" =bw [77]:=by decide
 obtain ⟨r1,er1⟩:∃r:Str,r=Txt.replace (jB ws) (bw [81]) za:=173;obtain ⟨r2,er2⟩:∃r:Str,r=Txt.replace r1 (bw [82]) zb:=173;have q1:r1.length<=60*13:=by rw[er1];exact KC (iZ _ _ _) (LR w60 93)
 sleep 181
 sleep 39
 refine cz (λm' σ H'=>m2<=m'/\σ= [Pb ln,Pb rl,Pb lx,Pb lt,some 341,o5,some (.str r2),o7,o8,o9]/\H4=H') 94 ?_
 ·refine (ν,ν,λk hk=>(ν,aL ln _ _ _ (rfl,rfl,aJ.of en4,a10,aG _ _ (rfl,by lia,(k10).1,(by have:=(k10).2;lia),by rw[eQ];exact jq na 45,KC (bd w60 la) 45,ν,λk2 hk2=>(ν,aL ln _ _ _ (rfl,rfl,aJ.of en4,a5,aG _ _ (rfl,by lia,(k5).1,(by have:=(k5).2;lia),by rw[eR];exact jq nb 45,?_,?_)))))))
  ·rw[eQ,<-er1];exact KC (bd q1 lb) 45
  ·rw[eQ,eR,<-er1,<-er2];exact hN _ _ _ (by lia,rfl,rfl)
 intro m3 σ _ h_;refine bI h_ λlm3 _r1 _r2=>?_
 clear h_;sleep 2;refine (ν,ν,ν,λk hk=>(ν,aL ln _ _ _ (rfl,rfl,aJ.of en4,a1,aG _ _ (rfl,by lia,(k1).1,(by have:=(k1).2;lia),by rw[eM];exact jq nc 45,KC (bd q2 lc) 45,by show 2<=sizeLine;decide,λl nl=>?_))))
 have tx:Txt.replace r2 (bw [77]) zc=jB (ws.map (wN (GQ za zb zc))):=by rw[er2,er1];exact CG (G:=GQ za zb zc) (Gx na nb) IO ws rfl
 refine q _ l _ at_ _ 93 (gA.trans 528) uw ?_
 rw[ah,eM,tx]
theorem Hn {dV:Value} (F:bG K "_law_again" "_law_again" EY dV f fd):564 bX 1 f fd ["_law_rows","_law_xs"] sF:=by
 have sc:aK ["_law_rows","_law_xs","_law_some","_law_k","_law_words","_law_row_here"] ["_law_rows","_law_xs"] (az EY):=eL 38
 sleep 184
 obtain ⟨rl,lx,h,rs,M,rfl,rw_,hx,qn,q⟩:=h;exists _,(aj (569 141) (aj (576 (nL rfl B.Ni (ac<*>(158<*>ak))) (jC 3 sc) (aq (aW (ay cZ (579 (dM Kz Ll Lk jM (579 98 139 68) 281) ac 68) (@bZ _ _ _ _ _ (FS 281)) 108) (aq (bP (567 144 265))) aI))) (aj (aW (ay (rj hr.units0) 144 141 127) 261 aI) (aj (582 (579 144 (577 125 (572 264)) 68)) (aj (581 (dM Kz Ll Lk jM (579 98 139 68) 281)) (aj (583 (570 (570 aw 170) aw)) (aj (aW (ay cZ 170 (@bZ _ _ _ _ _ 525) 108) (aq (583 (570 (570 (579 171 289 68) 170) (579 171 289 68)))) aI) (aj (aW (580 170 aw 127) (aq (583 (570 (570 aw 170) aw))) aI) (aj (aW (ay cZ 170 (@bZ _ _ _ _ _ (aw<*>281)) 108) (aq (583 (570 (570 (570 (570 (570 170 aw) 170) aw) 170) aw))) aI) (aq (aM (@aZ _ _ _ _ ((av bV (av bV 139 ac) (577 125 (av iw 158 139)))<*>533)))))))))))))
 try dsimp only[cxK]
 refine FZ ?_;intro D' r9 r8 r7 r6 r5 r4 r3 r2 r1;sleep 0;sleep 59
 sleep 81
 sleep 179
 refine cN rw_ λer rok r60 pt=>?_
 sleep 182
 refine cut (λσ H'=>∃ls,σ= [Pb rl,Pb lx,Pb ls,none,none,none]/\H ls=none/\H'=aR H ls 123) 94 ?_
 ·exact (by show 0<=sizeLine;decide,λl nl=>hN _ _ (l,rfl,nl,rfl))
 sleep 116;refine bx h_ λls _hi=>?_
 refine bI _hi λ_r1 nl _r2=>?_
 clear h_ _hi;sleep 2;have g0:=ai nl 123;refine cut (λσ H'=>aD H H'/\(∃is:List Nat,H' ls=some (.lst (is.map vN))/\is.length<=rs.length/\∀x∈is,∃j r,x=j+1/\rs[j]?=some r/\GA r=true)/\∃o3:Option V,σ= [Pb rl,Pb lx,Pb ls,o3,none,none]) 94 ?_
 ·sleep 88
  rw[show (396+1-1).toNat=rs.length by lia]
  refine nM (n:=rs.length) (λi σ H'=>aD H H'/\(∃is:List Nat,H' ls=some (.lst (is.map vN))/\is.length<=i/\∀x∈is,∃j r,x=j+1/\rs[j]?=some r/\GA r=true)/\∃o3:Option V,σ= [Pb rl,Pb lx,Pb ls,o3,none,none]) (g0,([],ah,K4 _,λx hx=>nomatch hx),none,rfl) (λi σ H4 hi hP=>?_) (λσ H4 hP=>hN _ _ hP)
  refine bI hP λg4 _r1 _hi=>?_
  refine bx _hi λo3 _r2=>?_
  clear hP _hi;obtain ⟨is,es,il,his⟩:=_r1;sleep 147;have at_r:eZ 277 (1+(i:Int))=some (.str (dC r)):=by
   rw[show (1:Int)+(i:Int)=((i+1:Nat):Int) by lia]
   exact aF (by simp[hr])
  have sp:=mY ro;sleep 161;have in_:=(nj ro).1;refine (ν,ν,aL rl _ _ _ (rfl,rfl,aJ.of 478,at_r,rfl,aG (dC r) 32 475))
  rw[show Txt.split (dC r) ⟨#[32]⟩=c7 r from sp,ews]
  have g5:=ai np (.lst ((ny r::sK r::ws).map V.str));refine (aL p _ _ _ (rfl,rfl,aJ.of ah,aF (j:=0) rfl,by show 7<=sizeLine;decide,λtp ntp=>211))
  have f6:=g4.trans (g5.trans (ai ntp (.tup 291)));have es6:=g5.trans (ai ntp (.tup 291)) _ _ es;show if md 310 291=true then _ else _
  rw[in_];cases ab:GA r with
  |false=>exact cE ⟨f6,⟨is,es6,by lia,his⟩,_,rfl⟩
  |true=>
   refine gx (ν,.inl (rfl,_,aJ.of es6),ν,cO ls _ _ (rfl,rfl,es6,by rw[K6];lia,mw f6 nl _,(is++ [i+1],?_,by simp;lia,λx hx=>?_),ν))
   ·rw[ah,Km];show _=some (HO.lst (is.map vN++ [vN 240]));rw[show vN 240=V.int (1+(i:Int)) from congrArg V.int 93]
   ·rcases KD.mp hx with hx|hx
    ·exact his x hx
    ·exact (aG i r (K8.mp hx,hr,ab))
 intro σ H1 h_;refine bI h_ λg1 _r1 _hi=>?_
 refine bx _hi λo3 _r2=>?_
 clear h_ _hi;obtain ⟨is,es,il,his⟩:=_r1;subst _r2;have er1:=g1 _ _ er;have ex1:=g1 _ _ ex;refine cut (λσ H'=>σ= [Pb rl,Pb lx,Pb ls,o3,none,none]/\aD H1 H'/\is≠ []) 94 ?_
 ·refine (ν,by show 0<=sizeLine;decide,λle nle=>(cO ls le _ (rfl,rfl,aJ.of (ai nle _ _ _ es),aJ.of ah,ν,?_)))
  have ga:=ai nle 123;cases is with
  |nil=>exact gx (qn _ (g1.trans ga))
  |cons i0 is0=>exact cE (hN _ _ ⟨rfl,ga,List.cons_ne_nil _ _⟩)
 intro σ H2 h_;refine bI h_ λ_r1 g2 ine=>?_
 clear h_;subst _r1;have es2:=g2 _ _ es;have ex2:=g2 _ _ ex1;have er2:=g2 _ _ er1;have g12:=g1.trans g2;have i0:0<is.length:=List.length_pos_iff.mpr ine;obtain ⟨x,hxi⟩:∃x,is[x0 % is.length]?=some x:=⟨_,K3 (LZ _ i0)⟩;refine dB (his x (K7 hxi)) λj r _hi=>?_
 refine bI _hi λ_r1 hr ab=>?_
 sleep 12;have jl:=(KB.mp hr).1;have ro:=rok r (K7 hr);have at_x:eZ (is.map vN) ((x0:Int).fmod ((is.map vN).length:Int))=some (vN (j+1)):=by
  rw[K6,KW _ 93]
  exact aF (j:=x0 % is.length) (by rw[KA,hxi];rfl)
 refine cut (λσ H'=>σ= [Pb rl,Pb lx,Pb ls,some (vN (j+1)),none,none]/\H2=H') 94 ?_
 ·exact (ν,ν,aL lx _ _ _ (rfl,rfl,aJ.of ex2,rfl,ν,aG ls _ (rfl,.inl (aJ.of es2),aG _ _ (rfl,rfl,by rw[K6];lia,aL ls _ _ _ (rfl,rfl,aJ.of es2,at_x,hN _ _ 153)))))
 sleep 18;have at_r:eZ 277 ((j+1:Nat):Int)=some (.str (dC r)):=aF (by simp[hr])
 have sp:=mY ro;sleep 161;refine cut (λσ H'=>∃lw,σ= [Pb rl,Pb lx,Pb ls,some (vN (j+1)),Pb lw,none]/\aD H2 H'/\H' lw=some (.lst ((c7 r).map V.str))) 94 ?_
 ·refine (ν,ν,aL rl _ _ _ (rfl,rfl,aJ.of er2,at_r,rfl,aG (dC r) 32 475))
  rw[show Txt.split (dC r) ⟨#[32]⟩=c7 r from sp]
  exact hN _ _ (p,rfl,ai np _,ah)
 intro σ H3 h_;refine bx h_ λlw _hi=>?_
 refine bI _hi λ_r1 g3 ew=>?_
 sleep 14;have nB:=Ed ro;have lB:=nB.len;have lA:=B8 ro;have w0:eZ ((c7 r).map V.str) (0:Int)=some (.str (ny r)):=by rw[ews];exact aF (j:=0) rfl
 have w1:eZ ((c7 r).map V.str) (1:Int)=some (.str (sK r)):=by rw[ews];exact aF (j:=1) rfl
 have L:(33 "take ").length=5/\(33 " 1/3").length=4/\(33 "or ").length=3/\(33 " 1 1").length=4/\(33 " ").length=1/\(33 " 1 0").length=4:=by decide
 refine jc L λL1 L2 L3 L4 L5 L6=>?_
 refine cut (λσ H'=>σ= [Pb rl,Pb lx,Pb ls,some (vN (j+1)),Pb lw,some (.str (Jy r))]/\H3=H') 94 ?_
 ·exact (ν,aL lw _ _ _ (rfl,rfl,aJ.of ew,w1,aG _ _ 342))
 sleep 18;have x3':x1 % 3<3:=LZ _ 45
 have f3:(x1:Int).fmod 3=((x1 % 3:Nat):Int):=oK _ x1 3 rfl;refine cN (xD x3') λas ls8 ae le8=>?_
 refine cut (λσ H'=>σ= [Pb rl,Pb lx,Pb ls,some (vN (j+1)),Pb lw,some (.str (IR r (x1 % 3)))]/\aD H3 H') 94 ?_
 ·refine (ν,aL lw _ _ _ (rfl,rfl,aJ.of ew,w0,by show 3<=sizeLine;decide,λtp ntp=>211))
  have g6:=ai ntp (.tup 510);have ew6:=g6 _ _ ew;have ex6:=g6 _ _ (g3 _ _ ex2);show if md 310 510=true then _ else _
  rw[(zV ro).1];unfold IR at hN;cases sb:ur r with
  |false=>
   rw[sb] at hN;exact cE (hN _ _ (rfl,g6))
  |true=>
   rw[sb,if_pos rfl] at hN;generalize jy.getD (x1 % 3) "" =ws at as ls8 hN;generalize kN.getD (x1 % 3) "" =we at ae le8 hN;have at_s:eZ (jy.map V.str) ((x1 % 3:Nat):Int)=some (.str ws):=aF (by rw[KA,as];rfl)
   have at_e:eZ (kN.map V.str) ((x1 % 3:Nat):Int)=some (.str we):=aF (by rw[KA,ae];rfl)
   refine gx (by show 3<=sizeLine;decide,λl1 n1=>(ν,aL lx _ _ _ (rfl,rfl,aJ.of (ai n1 _ _ _ ex6),rfl,aG _ _ (rfl,rfl,129,?_))))
   dsimp only;rw[f3];have g7:=ai n1 (.lst (jy.map V.str));refine (aL l1 _ _ _ (rfl,rfl,aJ.of ah,at_s,ν,aL lw _ _ _ (rfl,rfl,aJ.of (g7 _ _ ew6),w1,aG _ _ (rfl,rfl,by lia,by show 3<=sizeLine;decide,λl2 n2=>(ν,aL lx _ _ _ (rfl,rfl,aJ.of (ai n2 _ _ _ (g7 _ _ ex6)),rfl,aG _ _ (rfl,rfl,129,?_)))))))
   dsimp only;rw[f3];exact (aL l2 _ _ _ (rfl,rfl,aJ.of ah,at_e,aG _ _ (rfl,rfl,by rw[Str.length_append];lia,hN _ _ (rfl,(g6.trans g7).trans (ai n2 _)))))
 rintro σ H4 ⟨rfl,g4⟩;have ew4:=g4 _ _ ew;refine cut (λσ H'=>σ= [Pb rl,Pb lx,Pb ls,some (vN (j+1)),Pb lw,some (.str (IS r (x1 % 3)))]/\H4=H') 94 ?_
 ·refine (ν,aL lw _ _ _ (rfl,rfl,aJ.of ew4,w0,rfl,ν,?_));show if decide (V.str (ny r)=V.str "or")=true then _ else _
  rw[(nj ro).2.1];unfold IS at hN;cases sb:Ec r with
  |false=>
   rw[sb] at hN;exact cE (hN _ _ 153)
  |true=>
   rw[sb,if_pos rfl] at hN;exact gx (ν,aL lw _ _ _ (rfl,rfl,aJ.of ew4,w1,aG _ _ 342))
 sleep 18;refine cut (λσ H'=>σ= [Pb rl,Pb lx,Pb ls,some (vN (j+1)),Pb lw,some (.str (Jz r (x1 % 3)))]/\aD H4 H') 94 ?_
 ·refine (ν,aL lw _ _ _ (rfl,rfl,aJ.of ew4,w0,by show 2<=sizeLine;decide,λtp ntp=>211))
  have g6:=ai ntp (.tup 225);have ew6:=g6 _ _ ew4;show if md 310 225=true then _ else _
  rw[(nj ro).2.2];cases r with
  |use o n u=>
   have lu:u.1.length<=12:=(show Nm u.1 from ro.2.1).len
   have w2:eZ ((c7 (.use o n u)).map V.str) (2:Int)=some (.str u.1):=rfl;have w1':eZ ((c7 (.use o n u)).map V.str) (1:Int)=some (.str n):=rfl;have lB:n.length<=12:=lB;exact gx (ν,aL lw _ _ _ (rfl,rfl,aJ.of ew6,w0,aG _ _ (rfl,rfl,by lia,ν,aL lw _ _ _ (rfl,rfl,aJ.of ew6,w1',aG _ _ (rfl,rfl,by rw[Str.length_append];lia,aG _ _ (rfl,rfl,by rw[Str.length_append,Str.length_append];lia,ν,cO lw _ _ (ν,rfl,aJ.of ew6,w2,ω,by rw[Str.length_append,Str.length_append,Str.length_append];lia,ω,by rw[Str.length_append,Str.length_append,Str.length_append,Str.length_append];lia,hN _ _ (rfl,g6))))))))
  |take g a=>exact cE 437
  |step w n lo hi f=>exact cE 437
  |sec n lo hi=>exact cE 437
  |link w a b t=>exact cE 437
 rintro σ H5 ⟨rfl,g5⟩;have g25:=(g3.trans g4).trans g5;have ex5:=g25 _ _ ex2;have er5:=g25 _ _ er2;have fk:(x2:Int).fmod (396+1-((j+1:Nat):Int))=((x2 % (rs.length-j):Nat):Int):=by
  rw[KW _ 93,show 396+1-((j+1:Nat):Int)=((rs.length-j:Nat):Int) by lia]
  rfl
 have xj:=LZ x2 (show 0<rs.length-j by lia)
 refine bx (Eg ro ab x3') λr' _hi=>?_
 refine bI _hi λer' sm ro'=>?_
 rw[er'];refine (ν,aG _ _ (rfl,rfl,ν,aL lx _ _ _ (rfl,rfl,aJ.of ex5,rfl,ν,aG rl _ (rfl,.inl (aJ.of er5),ν,aG _ _ 209))));rw[len1];refine (585 (rfl,rfl,(by show 396+1-((j+1:Nat):Int)≠0;lia),aG _ _ 490))
 refine q l _ (1+(j+1+x2 % (rs.length-j))) _ (g12.trans (g25.trans 528)) (Ea pt hr 93 93 sm ro') ?_
 rw[ah];dsimp only;rw[fk,show vN (1+(j+1+x2 % (rs.length-j)))=V.int (((j+1:Nat):Int)+1+((x2 % (rs.length-j):Nat):Int)) from congrArg V.int 93]
theorem Ho {dV:Value} (F:bG K "_law_fault" "_law_fault" EZ dV f fd) (DZ48:575 2 "_law_form" ["_law_names_here","_law_a","_law_b"] vX) (DZ49:575 1 "_law_head" ["_law_names_here","_law_a"] vZ) (DZ52:575 3 "_law_unknown" ["_law_names_here","_law_rows","_law_xs"] Ah) (DZ53:563 bX 1 "_law_again" ["_law_rows","_law_xs"] [] sF):568 4 f fd ["_law_names_here","_law_rows","_law_way","_law_xs"] sG:=by
 have sc:aK ["_law_names_here","_law_rows","_law_way","_law_xs","_law_at","_law_row_here","_law_due","_law_found","_law_spoilt"] ["_law_names_here","_law_rows","_law_way","_law_xs"] (az EZ):=eL 38
 sleep 10
 ·obtain ⟨_,_,_,_,_,_,_,_,_,rfl,_⟩:=h
  rfl
 refine qD h λln rl lx zt z p way rs M _hi=>?_
 refine Im _hi λ_r1 nt rw_ nz p1 p2 no hx q=>?_
 sleep 9;exists _,(aC (bD (581 (584 (577 164 320)))) (aC (dz (i:=5) sc.nd rfl 241 521) (aC (bD (bU 6 sc aw)) (aC (ju (580 144 ac 127) (aC (qy (iB DZ52 hr 45 rfl (98<*>(107<*>265))) (kG rfl 413)) (aC (bD (bU 6 sc aw)) bE)) bE) (aC (bD (aW (ay nN 144 ac 127) (aj (bU 7 sc (fS DZ53 hr (107<*>265))) (aq (aW (ay pi (pv 7) bK 127) (aj (ko (pv 7) (kG rfl 413)) (aq (bU 6 sc aw))) aI))) aI)) (aC (bD (bU 8 sc (av dk (av dk (dL fv 107 eD (cP 297)) (@aZ _ _ _ _ 533)) (dL fv 107 (cP 297) eD)))) (aC (ju (580 144 ac 127) (aC (dz (i:=8) sc.nd rfl 241 (uo dk (@lS _ _ _ _ (@gW _ _ _ _ _ (iB DZ49 hr 45 rfl (98<*>(164<*>ak))) lR rfl)) (cH (dL fv 107 (cP ac) eD)))) (aC (bD (581 ac)) bE)) bE) (aC (ju (580 (577 164 ac) ac 127) (aC (mK (pX KO KU KS b7 (pv 8) 521)) bE) bE) (aC (bD (aM (@aZ _ _ _ _ (436<*>(297<*>((dM Kz PySem.F.slot_str_join PySem.F.type_str_join vo aw ((pv 8)<*>ak))<*>ak)))))) bE)))))))))
 try dsimp only[cxK]
 refine ln10 ?_;intro D' r9 r8 r7 r6 r5 r4 r3 r2 r1;sleep 0;sleep 59
 sleep 81
 sleep 179
 have n0:=nt.pos;refine bI (id nt) λen zz tz=>?_
 refine cN (id rw_) λer rok r60 pt=>?_
 have tzm:∀{m:Nat},n<=m->∀p∈zt,0<p.2/\p.2<m:=λl p hp=>by have:=tz p hp;lia
 have len1:(((bS z p::rs.map dC).map V.str).length:Int)=((rs.length+1:Nat):Int):=by simp
 sleep 138
 have x0l:=LZ x0 (show 0<rs.length+1 by lia)
 refine cz (λm σ H'=>m=n/\σ= [Pb ln,Pb rl,some 136,Pb lx,some 267,none,none,none,none]/\H=H') 94 ?_
 ·refine (ν,aL lx _ _ _ (rfl,rfl,aJ.of ex,rfl,ν,aG rl _ (rfl,.inl (aJ.of er),?_)));rw[len1];refine (585 476)
  dsimp only;rw[f0];sleep 214
 intro m σ _ h_;sleep 24
 clear h_;sleep 2;subst _r3;refine cz (λm' σ H'=>m<=m'/\∃y,σ= [Pb ln,Pb rl,some 136,Pb lx,some 267,some (.str y),none,none,none]/\aD H H'/\rT (.bad y)) 94 ?_
 ·exact (ν,ν,aL lx _ _ _ (rfl,rfl,aJ.of ex,rfl,ν,aL lx _ _ _ (rfl,rfl,aJ.of ex,rfl,aL ln zt _ _ (rfl,en,zz,tzm 93,by lia,λm H' y lm g gy=>hN _ _ _ (lm,y,rfl,g,gy)))))
 intro m1 σ H1 h_;refine bH h_ λlm1 _hi=>?_
 refine bx _hi λy _hj=>?_
 refine bI _hj λ_r1 g1 gy=>?_
 sleep 6;have fb:=nJ.bad pt (k:=x0 % 542) 93 gy
 generalize x0 % 542=k0 at fb;have en1:=g1 _ _ en;have ex1:=g1 _ _ ex;have er1:=g1 _ _ er;refine cz (λm' σ H'=>m'=m1/\σ= [Pb ln,Pb rl,some 136,Pb lx,some (vN (1+k0)),some (.str y),some (.str "row"),none,none]/\H1=H') 94 ?_
 ·sleep 214
 intro m' σ _ h_;sleep 24
 clear h_;sleep 2;subst _r3;refine cz (λm σ H'=>m'<=m/\∃(at_:Nat) (x:kh) (due:Str) (o7:Option V),σ= [Pb ln,Pb rl,some 136,Pb lx,some 341,some 344,some 467,o7,none]/\aD H1 H'/\nJ rs due at_ x/\(way<3->due= "row")) 94 ?_
 ·refine (ν,rfl,ν,kX 358 λ_=>hN _ _ _ (K4 _,aL _ (.bad y) _ none (rfl,aD.refl _,fb,λ_=>rfl)))
  refine cz (λm σ H'=>m'<=m/\∃(at_:Nat) (w:Str),σ= [Pb ln,Pb rl,some 136,Pb lx,some 341,some 255,some (.str "row"),none,none]/\aD H1 H'/\fu .nostep rs at_ w) 94 ?_
  ·exact (ν,ν,ν,oA ln rl lx zt _ rs (M,(rfl,nt.mono g1 lm1,(er1,rok,r60,pt),no,hx.same g1,λm l H' at_ w lm g pw el=>(aG l _ (rfl,aJ.of el,rfl,aG _ _ (rfl,aG _ _ (rfl,rfl,hN _ _ _ (lm,aG at_ w (rfl,g,pw)))))))))
  intro m σ H2 h_;refine bH h_ λlm _hi=>?_
  refine dB _hi λat_ w _hj=>?_
  refine bI _hj λ_r1 g2 pw=>?_
  sleep 6;refine bx (nJ.put (due:= "step") pw λi=>rfl) λx _hi=>?_
  refine bH _hi λ_r1 fx=>?_
  sleep 12;exact hN _ _ _ (lm,aL at_ x "step" none (rfl,g2,fx,λh=>by lia))
 clear fb;intro m2 σ H2 h_;refine bH h_ λlm2 _hi=>?_
 refine ld _hi λat_ x due o7 _hj=>?_
 refine cN _hj λ_r1 g2 fx dr=>?_
 sleep 6;have er2:=g2 _ _ er1;refine cz (λm σ H'=>m=m2/\∃(at_:Nat) (x:kh) (due:Str) (o7:Option V),σ= [Pb ln,Pb rl,some 136,Pb lx,some 341,some 344,some 467,o7,none]/\aD H2 H'/\nJ rs due at_ x/\(way<3->due= "row")) 94 ?_
 ·refine (ν,aG _ _ (rfl,rfl,ν,?_))
  by_cases c:(way:Int)>3
  ·rw[decide_eq_true c];refine gx ?_;have done:∀H3 o7,aD H2 H3->N m2 [some (.ref ln),some (.ref rl),some 136,some 487,some 341,some 344,some 467,o7,none] H3:=λH3 o7 g=>hN _ _ _ (rfl,aL at_ x due o7 (rfl,g,fx,dr))
   refine cut (λσ H'=>∃v:V,σ= [Pb ln,Pb rl,some 136,Pb lx,some 341,some 344,some 467,some v,none]/\aD H2 H'/\(v= .non∨∃l at_ w,v= .ref l/\fu .twice rs at_ w/\H' l=some (.lst [vN at_,.str w]))) 94 ?_
   ·exact (ν,ν,aL rl lx _ rs (M,(rfl,(er2,rok,r60,pt),hx.same 550,λH' g=>hN _ _ (ν,g,.inl rfl),λl H' at_ w g pw el=>hN _ _ (ν,g,.inr (cO l at_ w (rfl,pw,el))))))
   intro σ H3 h_;refine bx h_ λv _hi=>?_
   refine bI _hi λ_r1 g3 hv=>?_
   sleep 14;exists ν,rfl,ν;rcases hv with rfl|⟨l,a2,w,rfl,pw,el⟩
   ·exact nF rfl (done _ _ g3)
   ·refine bx (nJ.put (due:= "twice") pw λi=>rfl) λx' _hi=>?_
    refine bH _hi λ_r1 fx'=>?_
    sleep 12;refine nT (λe=>nomatch e) ?_
    refine cut (λσ H'=>σ= [Pb ln,Pb rl,some 136,Pb lx,some (vN a2),some (.str (fU x')),some 467,Pb l,none]/\H3=H') 94 ?_
    ·exact (ν,aG l _ (rfl,aJ.of el,rfl,aG _ _ (rfl,aG _ _ (rfl,rfl,hN _ _ 153))))
    sleep 18;exact hN _ _ _ (rfl,aL a2 x' "twice" _ (rfl,g3,fx',λh=>by lia))
  ·rw[decide_eq_false c];exact cE (hN _ _ _ (rfl,aL at_ x due o7 (rfl,aD.refl _,fx,dr)))
 clear dr fx;intro m σ H3 h_;sleep 8
 refine ld _hi λat_ x due o7 _hj=>?_
 refine cN _hj λ_r2 g3 fx dr=>?_
 sleep 6;subst _r2;have gA:=(g1.trans g2).trans g3;have er3:=gA _ _ er;refine bx (uB.of fx rok r60 nz p1 p2) λxs _hi=>?_
 refine bH _hi λsd el0=>?_
 have el:=el0 _ rfl;have at60:at_<=rs.length+1:=by
  refine bx fx λk _hi=>?_
  refine bI _hi λe kl _=>?_
  lia
 have ct:eV 428 none (some ((at_:Nat):Int))=((bS z p::rs.map dC).take at_).map V.str:=by rw[L2.rn 551,<-List.map_take]
 have cd:eV 428 (some ((at_:Nat):Int)) none=((bS z p::rs.map dC).drop at_).map V.str:=by rw[gP,<-List.map_drop]
 have lt1:((bS z p::rs.map dC).take at_).length<=61:=by rw[Kw];simp;lia
 have Ax:((bS z p::rs.map dC).drop at_).length<=61:=by rw[L0];simp;lia
 refine cz (λm' σ H'=>m'=m/\∃sl,σ= [Pb ln,Pb rl,some 136,Pb lx,some (.int ((at_:Nat):Int)),some 344,some 467,o7,Pb sl]/\aD H H'/\H sl=none/\H' sl=some (.lst ((hdT (.ok z p)::xs.map fU).map V.str))) 94 ?_
 ·refine (ν,ν,ν,aG rl _ (rfl,aJ.of er3,λs1 ns1=>?_))
  rw[ct];have g4:=ai ns1 (.lst (((bS z p::rs.map dC).take at_).map V.str));refine (ν,by show 1<=sizeLine;decide,λs2 ns2=>(aL s1 s2 _ _ (rfl,rfl,ai ns2 _ _ _ ah,ah,(by rw[K6];show _+1<=_;lia),λs3 ns3=>(ν,ν,ν,aG rl _ (rfl,aJ.of (ai ns3 _ _ _ (ai ns2 _ _ _ (g4 _ _ er3))),λs4 ns4=>?_)))))
  rw[cd];refine (aL s3 s4 _ _ (rfl,rfl,ai ns4 _ _ _ ah,ah,(by rw[KL,K6,K6];show _+1+_<=_;lia),λs5 ns5=>?_))
  have gB:=(((gA.trans g4).trans (ai ns2 _)).trans (ai ns3 _)).trans (ai ns4 (.lst (((bS z p::rs.map dC).drop at_).map V.str)));exact hN _ _ _ (rfl,s5,rfl,gB.trans (ai ns5 _),gB.free ns5,by rw[ah];exact congrArg (λl=>some (HO.lst l)) el)
 intro m' σ H4 h_;sleep 8
 refine bx _hi λsl5 _hj=>?_
 refine cN _hj λ_r2 g4 nsl es=>?_
 sleep 6;subst _r2;clear ct cd lt1 Ax;refine cz (λm σ H'=>m'<=m/\∃(hd:wT) (xs:List kh) (at_:Int) (due:Str) (sl:Addr),σ= [Pb ln,Pb rl,some 136,Pb lx,some (.int at_),some 344,some 467,o7,Pb sl]/\aD H H'/\H sl=none/\H' sl=some (.lst ((hdT hd::xs.map fU).map V.str))/\uB hd xs due at_) 94 ?_
 ·refine (ν,rfl,ν,kX 198 λ_=>hN _ _ _ (K4 _,aL _ xs _ due (sl5,(rfl,g4,nsl,es,sd))))
  have dr:=dr 93
  subst dr;refine cz (λm σ H'=>m'<=m/\∃(y:Str) (sl:Addr),σ= [Pb ln,Pb rl,some 136,Pb lx,some (.int ((at_:Nat):Int)),some 344,some (.str "row"),o7,Pb sl]/\aD H H'/\H sl=none/\H' sl=some (.lst ((hdT (.bad y)::(rs.map kh.ok).map fU).map V.str))/\wU (.bad y)) 94 ?_
  ·refine (ν,ν,aL lx _ _ _ (rfl,rfl,aJ.of (g4 _ _ ex),rfl,cO ln zt _ (rfl,g4 _ _ en,zz,tzm 93,λm H5 y lm g5 gy=>(by show 1<=sizeLine;decide,λs1 ns1=>(ν,ν,aG rl _ (rfl,aJ.of (ai ns1 _ _ _ (g5 _ _ 478)),λs2 ns2=>?_))))))
   have cd:eV 428 (some 1) none=(rs.map dC).map V.str:=gP (c:=1);rw[cd];refine (aL s1 s2 _ _ (rfl,rfl,ai ns2 _ _ _ ah,ah,(by show 1+_<=_;rw[K6,K6];lia),λs3 ns3=>?_))
   have gB:=((g4.trans g5).trans (ai ns1 (.lst [.str y]))).trans (ai ns2 (.lst ((rs.map dC).map V.str)));refine hN _ _ _ (lm,aG y s3 (rfl,gB.trans (ai ns3 _),gB.free ns3,?_,gy));rw[ah,Kl,Ls,Ls,Ls]
   rfl
  intro m σ H5 h_;refine bH h_ λlm _hi=>?_
  refine dB _hi λy sl6 _hj=>?_
  refine cN _hj λ_r1 g5 nsl6 _hk=>?_
  refine bH _hk λes6 gy=>?_
  sleep 164;subst _r1;exact hN _ _ _ (lm,.bad y,rs.map .ok,0,"row",sl6,rfl,g5,nsl6,es6,uB.head gy rok r60)
 clear es nsl g4 sd dr fx el el0;rintro m3 σ H5 ⟨lm3,hd,xs,a3,due,sl5,rfl,g5,nsl,es,hg,xg,xl,xo⟩;refine cz (λm σ H'=>m3<=m/\∃(xs:List kh),σ= [Pb ln,Pb rl,some 136,Pb lx,some (.int a3),some 344,some 467,o7,Pb sl5]/\aD H H'/\H' sl5=some (.lst ((hdT hd::xs.map fU).map V.str))/\(∀x∈xs,rT x)/\xs.length<=62/\iK hd xs=(due,a3)) 94 ?_
 ·refine (ν,aL lx _ _ _ (rfl,rfl,aJ.of (g5 _ _ ex),rfl,aG _ _ (rfl,rfl,129,rfl,ν,kX 358 λ_=>hN _ _ _ (K4 _,xs,rfl,g5,es,xg,by lia,by have:=xo [];rwa [Ke] at this))))
  refine (ν,.inl (rfl,_,aJ.of es),ν,ν,aL lx _ _ _ (rfl,rfl,aJ.of (g5 _ _ ex),rfl,ν,aL lx _ _ _ (rfl,rfl,aJ.of (g5 _ _ ex),rfl,aL ln zt _ _ (rfl,g5 _ _ en,zz,tzm 93,by lia,λm H6 y lm g6 gy=>(cO sl5 _ _ (rfl,rfl,g6 _ _ es,by rw[K6,KE,K6];lia,hN _ _ _ (lm,xs++ [.bad y],rfl,mw (g5.trans g6) nsl _,?_,λw hw=>?_,by rw[KL];show _+1<=_;lia,xo _)))))))
  ·rw[ah];simp[fU]
  ·rcases KD.mp hw with hw|hw
   ·exact xg w hw
   ·rw[K8.mp hw];exact gy
 clear es nsl xg xo xl xs g5;intro m4 σ H6 h_;refine bH h_ λlm4 _hi=>?_
 refine bx _hi λxs _hj=>?_
 refine jc _hj λ_r1 g6 es xg xl xo=>?_
 sleep 6;refine (ν,ν,rfl,ν,cO _ sl5 _ (rfl,rfl,aJ.of es,by decide,DV (Eh hg) xg 93,by show 3<=sizeLine;decide,λl nl=>?_))
 refine q m4 l _ hd xs 93 (g6.trans 528) hg xg 93 ?_
 rw[ah,xo]
 rfl
theorem Hq {dV:Value} (F:bG K "law" "law" qC dV f fd) (DZ32:563 bX 11 "read_recipe" ["text"] [] (iW Me Mb LE KT)) (DZ33:563 bX 1 "_law_cell_at" ["_law_script","_law_k"] [] (yd K)) (DZ36:563 bX 1 "_law_stream" ["_law_cell","_law_many"] [] jN) (DZ37:575 2 "_law_names" ["_law_cell"] oX) (DZ45:563 bX 4 "_law_row" ["_law_model","_law_names_here","_law_cell","_law_room"] [] yV) (DZ46:563 bX 12 "_law_refusal" ["_law_thing"] [] (jt K)) (DZ54:575 4 "_law_fault" ["_law_names_here","_law_rows","_law_way","_law_xs"] sG):564 bX 20 f fd ["_law_script"] (uP K):=by
 have sc:aK ["_law_script","_law_names_here","_law_model","_law_rows","_law_cell","_law_row_here","_law_way","_law_xs","_law_due","_law_at","_law_text","_law_recipe","_law_found"] ["_law_script"] (az qC):=eL 38
 sleep 184
 refine dB h λa ns _hi=>?_
 refine cN _hi λ_r1 hS h63 q=>?_
 sleep 9;exists _,(Bf (aC (dz (i:=1) sc.nd rfl 241 (iB DZ37 hr 45 rfl (401<*>ak))) (aC (bD (569 (@aZ _ _ _ _ (141<*>(141<*>(141<*>ak)))))) (aC (bD (582 (@aZ _ _ _ _ ((570 (570 (570 aw (f8 125)) aw) (566 ((584 (577 401 ac))<*>ak)))<*>ak)))) (aC (pY PassesOwn.never rfl (jE (dL fv 98 (cP ac) (cP ac))) (jC 4 sc) (aC (dz (i:=5) sc.nd rfl 241 (BZ (fS DZ45 hr (144<*>(107<*>(297<*>230)))))) (aC (bD (aW (ay kQ 275 aw 127) (aq (bP (567 139 533))) aI)) bE))) (aC (bD (bU 6 sc (577 401 ac))) (aC (bD (bU 7 sc (fS DZ36 hr (401<*>230)))) (aC (bD (aW (580 (577 (av cu (579 (pv 7) ac 68) ac) ac) ac 127) (aq (aM (jF (A7 0 443) (fS DZ46 hr ((579 (@aZ _ _ _ _ (bK<*>(ac<*>(kP<*>((@aZ _ _ _ _ (164<*>ak))<*>((@bZ _ _ _ _ _ (164<*>ak))<*>(xZ<*>ak))))))) (577 (579 (pv 7) ac 68) ac) 68)<*>ak)) (@bZ _ _ _ _ _ (aw<*>230)) 127))) aI)) (aC (qy (iB DZ54 hr 45 rfl (107<*>(139<*>(436<*>((pv 7)<*>ak))))) (kG rfl (bM (jC 8 sc) (bM (jC 9 sc) (bM (jC 10 sc) eA))))) (aC (bD (aW (PW.pt (dJ 193 (di 193))) (aq (aM kP)) aI)) (aC (bD (bU 11 sc (fS DZ32 hr ((dM Kz PySem.F.slot_str_join PySem.F.type_str_join vo aw 265)<*>ak)))) (aC (bD (bU 12 sc (@aZ _ _ _ _ (276<*>(276<*>(276<*>ak)))))) (aC (bD (aM (sP (jF (De hr.units0) (pv 12) (@aZ _ _ _ _ (364<*>(364<*>(364<*>ak)))) 127) (sO (jF bO (cG (pv 11) rfl) (f8 125) 127))))) bE)))))))))))))
 try dsimp only[cxK]
 refine Iv ?_;intro D' r12 r11 r10 r9 r8 r7 r6 r5 r4 r3 r2 r1;sleep 0;refine cz (λm σ H'=>∃(ln:Addr) (zt:List 195),σ= [Pb a,Pb ln,none,none,none,none,none,none,none,none,none,none,none]/\aD H H'/\qz H' m ln zt) 94 ?_
 ·exact (ν,cO a ns 0 (rfl,hS,by decide,λc0=>(c0,rfl,λm l zt H' lm g el zz tz=>hN _ _ _ (aG l zt (rfl,g,el,zz,tz)))))
 intro n1 σ H1 h_;refine dB h_ λln zt _hi=>?_
 refine bI _hi λ_r1 g1 nt=>?_
 sleep 14;refine bI (id nt) λen zz tz=>?_
 refine cz (λn σ H'=>n=n1/\∃m lt ls lk,σ= [Pb a,Pb ln,Pb m,none,none,none,none,none,none,none,none,none,none]/\ML H1 H' m lt ls lk [] 322) 94 ?_
 ·exact (by show 0<=sizeLine;decide,λlt nlt=>(by show 0<=sizeLine;decide,λls nls=>(by show 0<=sizeLine;decide,λlk nlk=>(by show 3<=sizeLine;decide,λm nm=>hN _ _ _ (rfl,aL m lt ls lk (rfl,DC nlt nls nlk nm))))))
 intro n σ H3 h_;sleep 8
 refine ld _hi λm lt ls lk _hj=>?_
 refine bH _hj λ_r2 ml0=>?_
 sleep 6;subst _r2;refine dB (qB zz (i:=2) 45) λz2 t2 _hi=>?_
 refine cN _hi λa2 nz2 _ i2=>?_
 have z2l:=nz2.len;have en3:=ml0.fr _ _ en;sleep 31
 have l5:(33 "dish ").length=5:=by decide
 refine cz (λn' σ H'=>n'=n/\∃(rl:Addr) (pl:Nat),1<=pl/\pl<=1000/\σ= [Pb a,Pb ln,Pb m,Pb rl,none,none,none,none,none,none,none,none,none]/\H3 rl=none/\H'=aR H3 rl 149) 94 ?_
 ·refine (ν,aL ln _ _ _ (rfl,rfl,aJ.of en3,a2,aG _ _ (rfl,aG _ _ (rfl,rfl,by lia,aG _ _ (rfl,rfl,by rw[Str.length_append];lia,ν,cO a ns 1 (rfl,(g1.trans ml0.fr).seq hS,by decide,λc1=>(585 (rfl,rfl,(by show (1000:Int)≠0;decide),aG _ _ (rfl,rfl,ν,?_)))))))))
  have m1:=fm (a:=c1) (n:=1000) 45
  obtain ⟨pl,epl⟩:∃pl:Nat,1+c1.fmod 1000=(pl:Int):=⟨(1+c1.fmod 1000).toNat,by lia⟩
  have lp:=dP (n:=pl) 93
  dsimp only;rw[epl];exists iC (n:=pl) 93
  rw[gb];refine (585 423)
  rw[y4];exact (by show 1<=sizeLine;decide,λrl nrl=>hN _ _ _ (rfl,aG rl pl (by lia,by lia,rfl,nrl,rfl)))
 intro n' σ _ h_;sleep 8
 refine dB _hi λrl pl _hj=>?_
 refine cN _hj λp1 p2 _r2 _hk=>?_
 refine bH _hk λnrl _r3=>?_
 sleep 164;sleep 2;subst _r3;obtain ⟨hl3,hl4⟩:=mT nz2 p2;have gr:=ai nrl 149;have er:aR H3 rl 149 rl=some (.lst ((bS z2 pl::([]:List Rr).map dC).map V.str)):=ah;have ml1:=ml0.same gr;have nro:rl∉cw m lt ls lk []:=λz=>ml0.all _ z nrl
 have nrl1:H1 rl=none:=ml0.fr.free nrl;generalize aR H3 rl 149=H4 at gr er ml1⊢;have hb_:∃cs:List Int,eV 232 (some 4) (some 24)=cs.map V.int/\cs.length<=20:=wY 4 24;refine bx hb_ λcs _hi=>?_
 refine bH _hi λhcs l60=>?_
 refine cz (λn σ H'=>n=n'/\∃(o4 o5:Option V) (ks:List Sk) (M:Md) (rs:List Rr),σ= [Pb a,Pb ln,Pb m,Pb rl,o4,o5,none,none,none,none,none,none,none]/\ML H1 H' m lt ls lk ks M/\jz 279 10 M/\H' rl=some (.lst 412)/\CD "" rs M 20) 94 ?_
 ·refine (ν,ν,ν,aG a _ (rfl,(g1.trans ml1.fr).seq hS,λp np=>?_))
  rw[hcs];have gp:=ai np (.lst 509);have ep:aR H4 p (.lst 509) p=some (.lst 509):=ah;have ml2:=ml1.same gp;have er2:=gp _ _ er;have npr:p≠rl:=λz=>by rw[z,er] at np;cases np
  generalize aR H4 p (.lst 509)=H5 at gp ep ml2 er2⊢;have npo:p∉rl::cw m lt ls lk []:=λz=>by
   rcases K1.mp z with z|z
   ·exact npr z
   ·exact ml1.all _ z np
  obtain ⟨G0,hG⟩:∃G0,G0=less H5 (rl::cw m lt ls lk []):=173;have gl:aD H1 G0:=λb o e=>by
   rw[hG,dS λhx=>?_]
   ·exact ml2.fr _ _ e
   ·rcases K1.mp hx with z|z
    ·rw[z,nrl1] at e;cases e
    ·have:=ml2.nw b z;rw[e] at this;cases this
  have g0p:G0 p=some (.lst 509):=by rw[hG,dS npo];exact ep
  have g0r:G0 rl=none:=by rw[hG];exact if_pos 96
  have g0n:G0 ln=some (.lst (dH zt)):=gl _ _ en;have ml3:ML G0 H5 m lt ls lk [] ⟨[],[],[]⟩:={ml2 with fr:=by rw[hG];exact kF _ _,nw:=λx hx=>by rw[hG];exact if_pos (K9 _ hx)}
  have zl12:(dH zt).length=12:=by have:=zz.len;rw[K6] at this;unfold dH;rw[K6,this]
  refine (p,rfl,(_,aJ.of ep),xw (xs:=cs.map V.int) (λi n σ H'=>n=n'/\∃(o4 o5:Option V) (ks:List Sk) (M:Md) (rs:List Rr),σ= [Pb a,Pb ln,Pb m,Pb rl,o4,o5,none,none,none,none,none,none,none]/\ML G0 H' m lt ls lk ks M/\jz 279 10 M/\H' rl=some (.lst 412)/\CD "" rs M i/\rl∉cw m lt ls lk ks) (rfl,aL none none [] 322 ([],(rfl,ml3,jz.nil _ _,er2,(rfl,λr hr=>(nomatch hr),LF _),nro))) (λi k σ H' _ h=>?_) ?_ ?_)
  ·refine bH h λ_ _hi=>?_
   refine ld _hi λ_ _ _ _ _hj=>?_
   refine bx _hj λ_ _hk=>?_
   refine bI _hk λ_ ml _=>?_
   exact aJ.of (ml.fr _ _ g0p)
  ·intro i y n2 σ H6 hy h_;sleep 8
   refine ld _hi λo4 o5 ks M _hj=>?_
   refine bx _hj λrs _hk=>?_
   refine jc _hk λ_r2 ml ok er6 rt nro6=>?_
   sleep 164;sleep 2;have il:=cf hy;rw[K6] at il;rw[KA] at hy;refine bx (KZ.mp hy) λc _hi=>?_
   refine bH _hi λ_ _r1=>?_
   sleep 12;have en6:H6 ln=some (.lst (dH zt)):=ml.fr _ _ g0n;have nln:ln∉cw m lt ls lk ks:=λz=>by
    have:=ml.nw _ z;rw[g0n] at this;cases this
   have n2':∀lo hi,HO.lst (dH zt)≠nD lo hi:=λlo hi e=>by
    have e:=congrArg (λo=>match o with|HO.lst l=>l.length|_=>0) e
    dsimp only[nD] at e;rw[zl12] at e;cases e
   refine (aG ln zt (en6,λo=>?_))
   have mlf:=(ml.swap en6 (λ_ e=>nomatch e) n2' nln (.frz o (.lst (vB zt)))).top
   have enf:Rd 389 ln (.lst ((zt.map 182).map V.str)):= .inr (o,by rw[ah,vB,Ls];rfl)
   refine (ν,ν,ν,sI _ m lt ls lk ln c ks M (aG 279 10 (rfl,by decide,mlf,ok,enf,zz,λz ks' M' H7 ml' ok' tk=>?_)))
   have ef7:H7 ln=some (.frz o (.lst (vB zt))):=ml'.fr _ _ (by rw[dS nln];exact ah)
   have nln':ln∉cw m lt ls lk ks':=λz=>by
    have:=ml'.nw _ z;rw[dS nln,ah] at this;cases this
   have ml8:=ml'.swap ef7 (λ_ e=>nomatch e) (λ_ _ e=>nomatch e) nln' 262
   have eG:aR (less 389 402) ln 262=less H6 (cw m lt ls lk ks):=funext λb=>by
    by_cases hb:b=ln
    ·subst hb;rw[ah,dS nln,en6]
    ·rw[aB hb]
     by_cases hx:b∈cw m lt ls lk ks
     ·rw[show less 389 402 b=none from if_pos hx,show less H6 402 b=none from if_pos hx]
     ·rw[dS hx,dS hx,aB hb]
   rw[eG] at ml8;exists ef7;generalize aR H7 ln 262=H8 at ml8⊢;have er7:H8 rl=some (.lst 412):=ml8.fr _ _ (by rw[dS nro6];exact er6)
   have nro7:rl∉cw m lt ls lk ks':=λz=>by
    have:=ml8.nw _ z;rw[dS nro6,er6] at this;cases this
   have ml7:=ml8.low ml.less;rcases tk with ⟨rfl,rfl⟩|⟨rr,rfl,ro,hp⟩
   ·exact (ν,rfl,ν,nF rfl (rfl,aL _ _ ks' M' (rs,(rfl,ml7,ok',er7,rt.skip,nro7))))
   ·have rl60:=rt.ln;refine (ν,rfl,ν,nT (λz=>DS ro (V.str.inj z)) (ν,.inl (rfl,_,aJ.of er7),ν,cO rl _ _ (rfl,rfl,er7,by rw[K6,KE,K6];lia,rfl,aL _ _ ks' M' (rs++ [rr],(rfl,ml7.out er7 g0r nro7,ok',?_,rt.put ro hp,nro7)))))
    rw[ah];simp
  ·intro n2 σ H6 h_;sleep 8
   refine ld _hi λo4 o5 ks M _hj=>?_
   refine bx _hj λrs _hk=>?_
   refine jc _hk λ_r2 ml ok er6 rt nro6=>?_
   sleep 164;sleep 2;rw[K6] at rt;exact hN _ _ _ (rfl,aL o4 o5 ks M (rs,(rfl,ml.low gl,ok,er6,(rt.pt,rt.ok,KC rt.ln l60))))
 clear ml0 ml1 er gr nro;intro n3 σ H5 h_;sleep 8
 refine ld _hi λo4 o5 ks M _hj=>?_
 refine bx _hj λrs _hk=>?_
 refine cN _hk λ_r2 ml ok _hl=>?_
 refine bH _hl λer5 _r3=>?_
 clear h_ _hi _hj _hk _hl;sleep 2;obtain ⟨pt,ro,rl20⟩:=_r3;have g5:=g1.trans ml.fr;refine cz (λn σ H'=>n=n3/\∃way:Nat,σ= [Pb a,Pb ln,Pb m,Pb rl,o4,o5,some 136,none,none,none,none,none,none]/\H5=H') 94 ?_
 ·refine (ν,cO a ns 2 (rfl,g5.seq hS,by decide,λc2=>(585 160)))
  have m2:=fm (a:=c2) (n:=6) 45
  obtain ⟨way,ew⟩:∃way:Nat,c2.fmod 6=(way:Int):=⟨(c2.fmod 6).toNat,by lia⟩
  dsimp only;rw[ew];exact hN _ _ _ (rfl,way,rfl,rfl)
 intro n4 σ _ h_;sleep 8
 refine bx _hi λway _hj=>?_
 refine bH _hj λ_r2 _r3=>?_
 sleep 6;subst _r2;subst _r3;refine cz (λn σ H'=>n=n4/\∃lx,σ= [Pb a,Pb ln,Pb m,Pb rl,o4,o5,some 136,Pb lx,none,none,none,none,none]/\aD H5 H'/\qE H' lx) 94 ?_
 ·exact (ν,cO a ns 3 (rfl,g5.seq hS,by decide,λc3=>(aG c3 6 (rfl,by decide,by decide,λlx H' xs g ex xl xb=>hN _ _ _ (rfl,lx,rfl,g,xs,ex,by lia,xb)))))
 intro n5 σ H6 h_;sleep 8
 refine bx _hi λlx _hj=>?_
 refine bI _hj λ_r2 g6 hx=>?_
 sleep 6;subst _r2;sleep 59
 sleep 81
 sleep 179
 have ml6:=ml.same g6;have er6:=g6 _ _ er5;refine cz (λn σ H'=>n=n5/\σ= [Pb a,Pb ln,Pb m,Pb rl,o4,o5,some 136,Pb lx,none,none,none,none,none]/\H6=H') 94 ?_
 ·refine (ν,aL lx _ _ _ (rfl,rfl,aJ.of ex,rfl,aG _ _ (rfl,rfl,210,aG _ _ (rfl,rfl,460,rfl,ν,kX 358 λ_=>hN _ _ _ 397))))
  refine (ν,aL rl _ _ _ (rfl,rfl,aJ.of er6,aF (j:=0) rfl,by show 1<=sizeLine;decide,λl1 m1=>(ν,aL rl _ _ _ (rfl,rfl,aJ.of (ai m1 _ _ _ er6),aF (j:=0) rfl,by show 1<=sizeLine;decide,λt1 m2=>λd m3=>(by show 6<=sizeLine;decide,λl6 m4=>?_)))))
  have e1:=ai m4 132 _ _ (ai m3 (.dK []) _ _ (ai m2 212 _ _ (show aR H6 l1 149 l1=some 149 from ah)))
  have e2:=ai m4 132 _ _ (ai m3 (.dK []) _ _ (show aR (aR H6 l1 149) t1 212 t1=some 212 from ah))
  have e3:=ai m4 132 _ _ (show aR 495 d (.dK []) d=some (.dK []) from ah)
  have ex9:=ai m4 132 _ _ (ai m3 (.dK []) _ _ (ai m2 212 _ _ (ai m1 149 _ _ ex)));have e6:aR (aR 495 d (.dK [])) l6 132 l6=some (.lst [V.non,.int 3,.bl true,.ref l1,.ref t1,.ref d]):=ah;generalize aR (aR 495 d (.dK [])) l6 132=H9 at e1 e2 e3 ex9 e6⊢;refine (ν,aL lx _ _ _ (rfl,rfl,aJ.of ex9,rfl,aG _ _ 160))
  dsimp only;rw[show (x0:Int).fmod 6=((x0 % 6:Nat):Int) from oK _ x0 6 rfl]
  have hb_:∃v,eZ [V.non,.int 3,.bl true,.ref l1,.ref t1,.ref d] ((x0 % 6:Nat):Int)=some v/\zO K H9 v:=by
   match x0 % 6,LZ x0 (show 0<6 by decide) with
   |0,_=>exact ⟨_,rfl,_,.non,rfl⟩
   |1,_=>exact ⟨_,rfl,_,.int 3,rfl⟩
   |2,_=>exact ⟨_,rfl,_,.bl true,rfl⟩
   |3,_=>exact ⟨_,rfl,_,.lst e1,rfl⟩
   |4,_=>exact ⟨_,rfl,_,.tup e2,rfl⟩
   |5,_=>exact ⟨_,rfl,_,.dK e3,rfl⟩
  refine bx hb_ λv _hi=>?_
  refine bH _hi λatv ntv=>?_
  exact (aL l6 _ _ _ (rfl,rfl,aJ.of e6,atv,.inr (v,rfl,ntv,λt H' g et=>(by show 2<=sizeLine;decide,λt2 nt2=>(aL t t2 _ _ (rfl,rfl,dD.of (ai nt2 _ _ _ et),dD.of ah,356,q _))))))
 intro n6 σ _ h_;sleep 24
 clear h_;sleep 2;subst _r3;have ntl:qz H6 n6 ln zt:=nt.mono (ml6.fr) 214;refine cz (λn σ H'=>n6<=n/\∃(hd:wT) (xs:List kh),σ= [Pb a,Pb ln,Pb m,Pb rl,o4,o5,some 136,Pb lx,some 485,some 489,some (.str 221),none,none]/\aD H6 H'/\wU hd/\(∀x∈xs,rT x)/\xs.length<=1000) 94 ?_
 ·exact (ν,ν,ν,ν,sI ln rl lx zt z2 pl way rs M (rfl,ntl,(er6,ro,by lia,pt),nz2,p1,p2,Gw pt ok,hx,λn' l H' hd xs lm g hg xg xl el=>(aG l _ (rfl,aJ.of el,rfl,aG _ _ (rfl,aG _ _ (rfl,aG _ _ (rfl,rfl,hN _ _ _ (lm,aG hd xs (rfl,g,hg,xg,xl)))))))))
 intro n7 σ H7 h_;refine bH h_ λ_ _hi=>?_
 refine dB _hi λhd xs _hj=>?_
 refine cN _hj λ_r1 g7 hg _hk=>?_
 refine bH _hk λxg xl=>?_
 sleep 164;subst _r1;refine cz (λn σ H'=>n=n7/\σ= [Pb a,Pb ln,Pb m,Pb rl,o4,o5,some 136,Pb lx,some 485,some 489,some (.str 221),none,none]/\aD H7 H') 94 ?_
 ·exact (ν,.inl (aG hd xs (rfl,hg,xg,xl,λt H' g et=>(ν,ν,by show 2<=sizeLine;decide,λt2 nt2=>(aL t t2 _ _ (rfl,rfl,dD.of (ai nt2 _ _ _ et),dD.of ah,356,ν,cE (ν,.inl (aG hd xs (rfl,hg,xg,xl,λt3 H2 g3 et3=>(ν,ν,by show 2<=sizeLine;decide,λt4 nt4=>(aL t3 t4 _ _ (rfl,rfl,dD.of (ai nt4 _ _ _ et3),dD.of ah,356,ν,cE (hN _ _ _ (rfl,rfl,((g.trans (ai nt2 _)).trans g3).trans (ai nt4 _)))))))))))))))
 intro n8 σ H8 h_;refine bI h_ λ_r1 _r2 g8=>?_
 clear h_;sleep 2;have ml8:=ml6.same (g7.trans g8);have er8:=g8 _ _ (g7 _ _ er6);refine cz (λn σ H'=>n=n8/\∃r:Addr,σ= [Pb a,Pb ln,Pb m,Pb rl,o4,o5,some 136,Pb lx,some 485,some 489,some (.str 221),Pb r,none]/\aD H8 H'/\IB Me Mb LE KT H' r z2 pl M) 94 ?_
 ·exact (rfl,ν,cO _ rl _ (rfl,rfl,aJ.of er8,by decide,DT hl4 ro 93,aL z2 pl rs M (rfl,nz2,p1,p2,ro,by lia,pt,λr2 Ax ls2 lk2 ks2 H' rm=>hN _ _ _ (rfl,r2,rfl,rm.fr,rm.a))))
 intro n9 σ H9 h_;sleep 8
 refine bx _hi λr _hj=>?_
 refine bI _hj λ_r2 g9 ra=>?_
 sleep 6;subst _r2;refine gQ ra.ex λlt' ls' lk' _hi=>?_
 refine cN _hi λ_r1 _r2 _r3 _r4=>?_
 obtain ⟨dx,eR⟩:=_r1;obtain ⟨vt,et',rt'⟩:=_r2;obtain ⟨vs',es',rs'⟩:=_r3;obtain ⟨vk,ek',rk'⟩:=_r4;have ml9:=ml8.same g9;refine cz (λn σ H'=>n=n9/\∃lf:Addr,σ= [Pb a,Pb ln,Pb m,Pb rl,o4,o5,some 136,Pb lx,some 485,some 489,some (.str 221),Pb r,Pb lf]/\aD H9 H'/\H' lf=some (.lst [.int (M.takes.length:Int),.int (M.steps.length:Int),.int (M.links.length:Int)])) 94 ?_
 ·refine (ν,aL r _ dx _ (_,(rfl,eR,B.Mi,B.Mq,dU.2.2.1,aG lt' _ (rfl,.inl (aJ.of et'),ν,aL r _ dx _ (_,(rfl,eR,B.Mi,B.Mj,dU.2.2.2.1,aG ls' _ (rfl,.inl (aJ.of es'),ν,aL r _ dx _ (_,(rfl,eR,B.Mi,B.MA,dU.2.2.2.2,lk',ν,.inl (aJ.of ek'),by show 3<=sizeLine;decide,λl nl=>hN _ _ _ (rfl,l,rfl,ai nl _,?_))))))))))
  rw[ah,rt'.1,rs'.1,rk'.1]
 intro n10 σ H10 h_;sleep 8
 refine bx _hi λlf _hj=>?_
 refine bI _hj λ_r2 g10 ef=>?_
 sleep 6;subst _r2;have ml10:=ml9.same g10;refine bx ml10.et λwt _hi=>?_
 refine bH _hi λewt rwt=>?_
 refine bx ml10.ek λwk _hi=>?_
 refine bH _hi λewk rwk=>?_
 have en10:=ml10.fr _ _ en;refine (ν,ν,aL m _ _ _ (rfl,rfl,aJ.of ml10.em,rfl,aG lt _ (rfl,.inl (aJ.of ewt),ν,aL m _ _ _ (rfl,rfl,aJ.of ml10.em,rfl,aG ls _ (rfl,.inl (aJ.of ml10.es),ν,aL m _ _ _ (rfl,rfl,aJ.of ml10.em,rfl,lk,ν,.inl (aJ.of ewk),by show 3<=sizeLine;decide,λl nl=>?_))))))
 have gl:=ai nl (.lst [.int (wt.length:Int),.int ((ks.map λx=>V.ref x.a).length:Int),.int (wk.length:Int)])
 refine (cO lf l _ (rfl,rfl,aJ.of (gl _ _ ef),aJ.of (ah.trans ?_),?_,ν,gx ?_))
 ·rw[rwt.1,K6,ml10.len,rwk.1]
 ·intro z hz;sleep 170;rcases hz with rfl|rfl|rfl<;>trivial
 ·refine (ν,aL r _ dx _ (_,(rfl,(gl _ _ (g10 _ _ eR)),B.Mi,B.MU,dU.1,ν,aL ln _ _ _ (rfl,rfl,aJ.of (gl _ _ en10),a2,aG _ _ 209))));show Q (.bl (decide (V.str z2=V.str z2))) _;rw[decide_eq_true rfl];exact q _
universe z0
theorem E1 {l:PySem.W.OpenLaw} {w:World} {K:K0} {h:Heap} {mg:O3} {fa js jw jx gv jy j0 j1 j2 j3 j4 gw gy g0 g1 g2 g3 g4 g5 g6 g7 g8 g9 gA gB gG gH gI gK gN gT gV f5 ha hb hc he hf hg hh hi hj hk hm hn ho hp hq hr hs ht hu hv f6 Mz Me MB Ml Mc Mo Mh Lz on KT Mb Mg Mp Ma mt KK Mn LE MR M3 Nu NE Nf ND:Addr} (X:K.In h) (G:h.Ns mainGlobals mg) (hfa:mg "law" =some (.ref fa))
  {en eo d7 d8 ep eq gd f0:O9} {er d9 es ge:O5} {et eu ev ew dc ex dK dV ea eb cD ec ey ez e0 e1 dd e2 gg f1 f2 f3 e3 f4:Value}
  {dq:Tok}
  {bg:Tok}
  {dr:Tok}
  {bj:Tok}
  {cb:Tok}
  {cd:Tok}
  {cI:Tok}
  {ce:Tok}
  {jl:Addr} {hw:Value} {hx:O9} {hy:Nat} {hz:O5} {f7:Tok}
  {gi:Addr} {gj:Value} {gk:O9} {gl:Nat} {gm:O5}
  {go:Addr} {gp:Value} {gq:O9} {gr:Nat} {gs:O5}
  (j5:cq K js "read_figures" IU .none)
  (jH:cq K jw "is_whole" IV .none)
  (jM:cq K jx "divisor" IW .none)
  (jN:KG K mainGlobals "fraction" =some (some (.ref gv)))
  (ka:FnAt K gv "fraction" "fraction" HF (.ref jl))
  (kb:cq K jy "plus" IX .none)
  (kc:cq K j0 "round_down" IY .none)
  (kd:cq K j1 "amount_text" IZ .none)
  (ki:cq K j2 "loosely_read_term" Ja .none)
  (kj:cq K j3 "loosely_read" Jb .none)
  (kk:cq K j4 "read_amount" Jc .none)
  (h0:cq K gw "is_name" Ei .none)
  (h1:cq K gy "words_of" Ej .none)
  (h2:cq K g0 "number_of" Ek .none)
  (h3:cq K g1 "amount_from" El .none)
  (h4:cq K g2 "value_of" Em .none)
  (h5:cq K g3 "values_by" En .none)
  (h6:cq K g4 "agree" Eo .none)
  (h9:cq K g5 "values_of" Ep .none)
  (hA:cq K g6 "refuse_twice" Er .none)
  (hB:cq K g7 "refuse_full" Es .none)
  (hC:cq K g8 "place_of" Et .none)
  (hD:cq K g9 "put_take" Eu .none)
  (hE:cq K gA "put_link" Ev .none)
  (hF:cq K gB "recipe_begun" Ex .none)
  (hG:cq K gG "step_of" Ey .none)
  (hH:cq K gH "put_step" Ez .none)
  (hI:cq K gI "put_second" EA .none)
  (hK:cq K gK "put_use" EB .none)
  (hL:cq K gN "put_row" EC .none)
  (hM:cq K gT "read_recipe" ED .none)
  (hN:cq K gV "_law_cell_at" EE .none)
  (hO:KG K mainGlobals "_law_whole" =some (some (.ref f5)))
  (hP:FnAt K f5 "_law_whole" "_law_whole" Cd .none)
  (hQ:cq K ha "_law_common" EF .none)
  (hR:cq K hb "_law_stream" EG .none)
  (hS:cq K hc "_law_names" EH .none)
  (hT:cq K he "_law_amount" EI .none)
  (hX:cq K hf "_law_lengths" EJ .none)
  (hY:cq K hg "_law_take" EK .none)
  (hZ:cq K hh "_law_step" EL .none)
  (ia:cq K hi "_law_second" EM .none)
  (ib:cq K hj "_law_use" EN .none)
  (ic:cq K hk "_law_link" EO .none)
  (ih:cq K hm "_law_row" EQ .none)
  (ii:cq K hn "_law_refusal" ER .none)
  (ik:cq K ho "_law_wrong_forms" ES .none)
  (il:cq K hp "_law_form" ET .none)
  (iv:cq K hq "_law_head" EU .none)
  (iw:cq K hr "_law_steps_told" EV .none)
  (ix:cq K hs "_law_ahead" EW .none)
  (i0:cq K ht "_law_unknown" EX .none)
  (i1:cq K hu "_law_again" EY .none)
  (i2:cq K hv "_law_fault" EZ .none)
  (i5:KG K mainGlobals "law" =some (some (.ref f6)))
  (iF:K.lookup f6=some ⟨gg,gd,.func (Kx "law" "law" (dR qC) (cK qC) (az qC) .none f1 f2 f3 f0 e3 f4),ge⟩) (iG:LO K e3 "law" =true) (iO:Kn K (.ref f6)=true)
  (dt:KG K mainGlobals "LETTERS" =some (some (.str "abcdefghijklmnopqrstuvwxyz" dq)))
  (bk:KG K mainGlobals "MOST_LETTERS" =some (some (.int 12 bg)))
  (dw:KG K mainGlobals "FIGURES" =some (some (.str "0123456789" dr)))
  (bl:KG K mainGlobals "MOST_FIGURES" =some (some (.int 30 bj)))
  (cg:KG K mainGlobals "MOST_TAKES" =some (some (.int 12 cb)))
  (ch:KG K mainGlobals "MOST_STEPS" =some (some (.int 12 cd)))
  (cL:KG K mainGlobals "MOST_USES" =some (some (.int 12 cI)))
  (ci:KG K mainGlobals "MOST_LINKS" =some (some (.int 24 ce)))
  (cj:KG K mainGlobals "ValueError" =some none)
  (fI:KG K mainGlobals "abs" =some none)
  (fk:KG K mainGlobals "bool" =some none)
  (cR:KG K mainGlobals "enumerate" =some none)
  (fL:KG K mainGlobals "int" =some none)
  (ck:KG K mainGlobals "isinstance" =some none)
  (fM:KG K mainGlobals "len" =some none)
  (fl:KG K mainGlobals "list" =some none)
  (e4:KG K mainGlobals "range" =some none)
  (fU:KG K mainGlobals "str" =some none)
  (ga:KG K mainGlobals "zip" =some none)
  (ed:KG K mainGlobals "BOUNDS" =some (some (.ref Mz)))
  (gc:KG K mainGlobals "Cut" =some (some 282))
  (e5:KG K mainGlobals "FORMS" =some (some (.ref MB)))
  (cl:KG K mainGlobals "LINK_WORDS" =some (some (.ref Ml)))
  (dh:KG K mainGlobals "NoAmount" =some (some 272))
  (ee:KG K mainGlobals "NoName" =some (some 439))
  (dj:KG K mainGlobals "NoNumber" =some (some 440))
  (e6:KG K mainGlobals "NoRow" =some (some 156))
  (ef:KG K mainGlobals "NoStep" =some (some 155))
  (eg:KG K mainGlobals "Recipe" =some (some (.ref KT)))
  (fo:KG K mainGlobals "Rest" =some (some 283))
  (cm:KG K mainGlobals "STEP_WORDS" =some (some (.ref Mg)))
  (fp:KG K mainGlobals "Step" =some (some 488))
  (cn:KG K mainGlobals "StoveError" =some (some 368))
  (dx:KG K mainGlobals "TooMany" =some (some 163))
  (e7:KG K mainGlobals "Twice" =some (some 157))
  (cV:KG K mainGlobals "USE_WORDS" =some (some (.ref Mn)))
  (fq:KG K mainGlobals "Warm" =some (some 273))
  (atZ23:Kc K 488 "__init__" =some (some (.ref MR)))
  (jf:FnAt K MR "__init__" "Step.__init__" Cb (.ref gi))
  (atZ24:Kc K 273 "__init__" =some (some (.ref M3)))
  (jg:FnAt K M3 "__init__" "Warm.__init__" Cc (.ref go))
  (ji:FW K KT Nu "__init__" "Recipe.__init__" Ew .none)
  (jo:K.lookup jl=some ⟨hw,hx,.seq #[.int 1 f7] hy,hz⟩)
  (gt:K.lookup gi=some ⟨gj,gk,.seq #[.none,.none] gl,gm⟩)
  (gu:K.lookup go=some ⟨gp,gq,.seq #[.none,.none] gr,gs⟩)
  (b2:rD K Mg ["cut","rest","warm"])
  (co:rD K Mn ["with","orwith"])
  (b3:rD K Ml ["after","within","apart"])
  (eh:rF w K MB v6)
  (d0:rF w K Mz sH)
  (dk:Lv K Mc At "ValueError.__new__" =true)
  (dl:XI K Mc)
  (d1:Lv K mt At "ValueError.__new__" =true)
  (d3:XI K mt)
  (dp:XT K Mc)
  (cp:XT K Ma)
  (ad:LC K 272 272=some true)
  (ag:LC K 156 368=some true)
  (ae:LC K 155 368=some true)
  (ak:LC K 157 368=some true)
  (h8:LC K 163 368=some true)
  (h7:K2 K 272 368=some true)
  (a1:K2 K 156 272=some false)
  (bm:K2 K 156 439=some false)
  (a2:K2 K 156 440=some false)
  (b4:K2 K 156 156=some true)
  (bp:K2 K 156 155=some false)
  (b5:K2 K 156 157=some false)
  (aI:K2 K 156 163=some false)
  (ap:K2 K 155 272=some false)
  (aN:K2 K 155 439=some false)
  (au:K2 K 155 440=some false)
  (bq:K2 K 155 156=some false)
  (aQ:K2 K 155 155=some true)
  (bs:K2 K 155 157=some false)
  (a3:K2 K 155 163=some false)
  (a4:K2 K 157 272=some false)
  (bt:K2 K 157 439=some false)
  (a5:K2 K 157 440=some false)
  (b6:K2 K 157 156=some false)
  (bu:K2 K 157 155=some false)
  (b7:K2 K 157 157=some true)
  (ba:K2 K 157 163=some false)
  (al:K2 K 163 272=some false)
  (a6:K2 K 163 439=some false)
  (am:K2 K 163 440=some false)
  (bb:K2 K 163 156=some false)
  (a7:K2 K 163 155=some false)
  (bc:K2 K 163 157=some false)
  (ax:K2 K 163 163=some true)
  (an:K2 K 156 224=some true)
  (af:K2 K 155 224=some true)
  (ao:K2 K 157 224=some true)
  (ab:K2 K 163 224=some true)
  (e8:XA K Lz Ma)
  (e9:Kc K 156 "at" =some none)
  (ei:XA K on Ma)
  (ej:Kc K 155 "at" =some none)
  (eA:XA K KK Ma)
  (eB:Kc K 157 "at" =some none)
  (eD:XI K Lz)
  (ek:XI K on)
  (eE:XI K KK)
  (eF:pk K Mp)
  (eG:Mk K Mp MR)
  (fr:pk K Me)
  (fs:Mk K Me MR)
  (eH:pk K Mb)
  (eI:Mk K Mb MR)
  (eM:pk K LE)
  (eN:Mk K LE M3)
  (d4:pk K KT)
  (d5:Mk K KT Nu)
  (cW:aO K Me "name")
  (cs:aO K Me "least")
  (cZ:aO K Me "most")
  (da:aO K Me "uses")
  (b9:aO K Me "second")
  (ct:aO K Mb "name")
  (bA:aO K Mb "least")
  (cu:aO K Mb "most")
  (c0:aO K Mb "uses")
  (bz:aO K Mb "second")
  (c1:aO K LE "name")
  (bE:aO K LE "least")
  (c2:aO K LE "most")
  (c3:aO K LE "uses")
  (b0:aO K LE "second")
  (c4:aO K LE "fill")
  (b1:aO K KT "name")
  (a8:aO K KT "plates")
  (bd:aO K KT "takes")
  (be:aO K KT "steps")
  (bf:aO K KT "links")
  (a9:Dg K Mp "__init__" MR)
  (eQ:Aw K Mp)
  (ft:Aw K Me)
  (eR:Aw K Mb)
  (eS:Aw K LE)
  (d6:Aw K KT)
  (db:K2 K 282 282=some true)
  (c5:K2 K 282 283=some false)
  (c7:K2 K 282 273=some false)
  (c8:K2 K 282 488=some true)
  (c9:K2 K 283 282=some false)
  (bJ:K2 K 283 283=some true)
  (bL:K2 K 283 273=some false)
  (bO:K2 K 283 488=some true)
  (cC:K2 K 273 282=some false)
  (bQ:K2 K 273 283=some false)
  (bV:K2 K 273 273=some true)
  (ca:K2 K 273 488=some true)
  (a0:K2 K (.ref KT) (.ref KT)=some true)
  (eX:E5 K Lz NE)
  (fv:K.lookup NE=some ⟨et,en,.func (Kx "__init__" "NoRow.__init__" (dR i4) (cK i4) (az i4) .none eu ev ew eo dc ex),er⟩) (fb:LO K dc "NoRow.__init__" =true) (fx:Kn K (.ref NE)=true)
  (el:E5 K on Nf)
  (fc:K.lookup Nf=some ⟨dK,d7,.func (Kx "__init__" "NoStep.__init__" (dR gX) (cK gX) (az gX) .none dV ea eb d8 cD ec),d9⟩) (em:LO K cD "NoStep.__init__" =true) (ff:Kn K (.ref Nf)=true)
  (fg:E5 K KK ND)
  (fy:K.lookup ND=some ⟨ey,ep,.func (Kx "__init__" "Twice.__init__" (dR i6) (cK i6) (az i6) .none ez e0 e1 eq dd e2),es⟩) (fj:LO K dd "Twice.__init__" =true) (fz:Kn K (.ref ND)=true)
  :∃fd:FuncData,(∀(s:Shared) (v:Value),BindsTo s fd ⟨[v],[]⟩ [("_law_script",v)])/\∀base:Heap,K.In base->base.Ns mainGlobals mg->bB l.prog w K mg base bX 20 fa fd ["_law_script"] (uP K):=by
 have e:=hfa.symm.trans (KP X G i5);cases e;have B:Bn w K mg Mz Me MB Ml Mc Mo Mh Lz on KT Mb Mg Mp Ma mt KK Mn LE MR M3 Nu:=⟨Exists.intro _<|KP X G dt,Exists.intro _<|KP X G bk,Exists.intro _<|KP X G dw,Exists.intro _<|KP X G bl,Exists.intro _<|KP X G cg,Exists.intro _<|KP X G ch,Exists.intro _<|KP X G cL,Exists.intro _<|KP X G ci,L8 X G cj,L8 X G fI,L8 X G fk,L8 X G cR,L8 X G fL,L8 X G ck,L8 X G fM,L8 X G fl,L8 X G e4,L8 X G fU,L8 X G ga,KP X G ed,KP X G gc,KP X G e5,KP X G cl,KP X G dh,KP X G ee,KP X G dj,KP X G e6,KP X G ef,KP X G eg,KP X G fo,KP X G cm,KP X G fp,KP X G cn,KP X G dx,KP X G e7,KP X G cV,KP X G fq,b2,co,b3,eh,d0,dk,dl,d1,d3,dp,cp,ad,ag,ae,ak,h8,h7,a1,bm,a2,b4,bp,b5,aI,ap,aN,au,bq,aQ,bs,a3,a4,bt,a5,b6,bu,b7,ba,al,a6,am,bb,a7,bc,ax,an,af,ao,ab,e8,e9,ei,ej,eA,eB,eD,ek,eE,eF,eG,fr,fs,eH,eI,eM,eN,d4,d5,cW,cs,cZ,da,b9,ct,bA,cu,c0,bz,c1,bE,c2,c3,b0,c4,b1,a8,bd,be,bf,a9,eQ,ft,eR,eS,d6,db,c5,c7,c8,c9,bJ,bL,bO,cC,bQ,bV,ca,a0⟩;refine qD ka λ_ _ _ _ _ _ _ _ _ _hi=>?_
 refine bI _hi λlZ3 cZ3 kZ3=>?_
 refine qD hP λ_ _ _ _ _ _ _ _ _ _hi=>?_
 refine bI _hi λlZ34 cZ34 kZ34=>?_
 refine qD jf λ_ _ _ _ _ _ _ _ _ _hi=>?_
 refine bI _hi λlZ23 cZ23 kZ23=>?_
 refine qD jg λ_ _ _ _ _ _ _ _ _ _hi=>?_
 refine bI _hi λlZ24 cZ24 kZ24=>?_
 have FZ3:=fN (st:=HF) lZ3 cZ3 kZ3;have FZ23:=fN (st:=Cb) lZ23 cZ23 kZ23;have FZ24:=fN (st:=Cc) lZ24 cZ24 kZ24;have FZ34:=fN (st:=Cd) lZ34 cZ34 kZ34;have Flaw:=fN (st:=qC) iF iG iO;have F_NoRow:=fN (st:=i4) fv fb fx;have F_NoStep:=fN (st:=gX) fc em ff;have F_Twice:=fN (st:=i6) fy fj fz;refine (Kx "law" "law" (dR qC) (cK qC) (az qC) .none f1 f2 f3 f0 e3 f4,?bind,λbase _ _=>?ok)
 case bind=>exact λs v=> .of_eq rfl
 case ok=>
  have z9:Bx l.prog w base:=⟨⟩;have I_NoRow:Au l.prog w K mg base 1 Lz ["self","at"] (fe Lz "at"):=⟨NE,_,Ar B F_NoRow,eX,F_NoRow.binds0 (ps:= ["self","at"]) λ_ _ _ _ _ _ us hl=>match us,hl with| [_,_],_=>rfl⟩
  have I_NoStep:Au l.prog w K mg base 1 on ["self","at"] (fe on "at"):=⟨Nf,_,xE B F_NoStep,el,F_NoStep.binds0 (ps:= ["self","at"]) λ_ _ _ _ _ _ us hl=>match us,hl with| [_,_],_=>rfl⟩
  have I_Twice:Au l.prog w K mg base 1 KK ["self","at"] (fe KK "at"):=⟨ND,_,As B F_Twice,fg,F_Twice.binds0 (ps:= ["self","at"]) λ_ _ _ _ _ _ us hl=>match us,hl with| [_,_],_=>rfl⟩
  have DZ0:=gF z9 X G j5 112 λF=>Jd B F
  have DZ1:=gF z9 X G jH 112 λF=>Je B F
  have DZ2:=gF z9 X G jM 111 λF=>Jf B F
  have DZ3:Dx l.prog w K mg base bX 2 "fraction" ["top","bottom"] [.int 1] AS:=⟨gv,_,Jg B FZ3 DZ1 DZ2,KP X G jN,kZ3,FZ3.binds (ps:= ["top","bottom"]) (ds:= []) jo rfl λ_ _ _ _ _ _ us hl=>match us,hl with| [_,_],_=>⟨_,rfl,rfl⟩,⟨[.int 1 f7],FZ3.binds (ps:= ["top","bottom"]) (ds:= [.int 1 f7]) jo rfl λ_ _ _ _ _ _ us hl=>match us,hl with| [_],_=>⟨_,rfl,rfl⟩| [],h=>absurd h (by simp)|_::_::_,h=>absurd h (by simp),.cons ⟨_,rfl⟩ .nil⟩⟩
  have DZ4:=gF z9 X G kb 111 λF=>Jh B F DZ3
  have DZ5:=gF z9 X G kc 112 λF=>Ji B F
  have DZ6:=gF z9 X G kd 112 λF=>Jj B F DZ5
  have DZ7:=gF z9 X G ki 112 λF=>Jk B F DZ0 DZ3
  have DZ8:=gF z9 X G kj 112 λF=>Jl B F DZ4 DZ7
  have XZ9:=gF z9 X G kk 112 λF=>Jm B F DZ6 DZ8
  have DZ9:Dx l.prog w K mg base bX 5 "read_amount" ["text"] [] vm:=XZ9.calm yE;have DZ10:=gF z9 X G h0 112 λF=>GC B F
  have DZ11:=gF z9 X G h1 112 λF=>GD B F
  have DZ12:=gF z9 X G h2 121 λF=>GE B F DZ0
  have DZ13:=gF z9 X G h3 111 λF=>GF B F XZ9
  have DZ14:=gF z9 X G h4 111 λF=>GG B F DZ10 DZ12 DZ13
  have DZ15:=gF z9 X G h5 111 λF=>GH B F DZ14
  have DZ16:=gF z9 X G h6 112 λF=>GI B F
  have DZ17:=gF z9 X G h9 112 λF=>GJ B F DZ11 DZ15 DZ16
  have XZ18:=gF z9 X G hA 121 λF=>GK B F I_Twice
  have DZ18:Dx l.prog w K mg base bX 3 "refuse_twice" ["name","told","at"] [] jd:=XZ18.calm 178
  have XZ19:=gF z9 X G hB 111 λF=>GL B F
  have DZ19:Dx l.prog w K mg base bX 1 "refuse_full" ["kept","most"] [] jd:=XZ19.calm 178
  have XZ20:=gF z9 X G hC 121 λF=>GM B F I_NoStep
  have DZ20:Dx l.prog w K mg base bX 3 "place_of" ["recipe","name","at"] [] jd:=XZ20.calm 178
  have XZ21:=gF z9 X G hD 121 λF=>GN B F XZ18 XZ19
  have DZ21:Dx l.prog w K mg base bX 4 "put_take" ["recipe","at","values"] [] jd:=XZ21.calm 178
  have XZ22:=gF z9 X G hE 121 λF=>GO B F XZ19 XZ20
  have DZ22:Dx l.prog w K mg base bX 4 "put_link" ["recipe","at","values"] [] jd:=XZ22.calm 178
  have DZ23:Av l.prog w K mg base bX 1 MR ["self","name","least","most","uses","second"] [.non,.non] (lL K):=⟨_,GP B FZ23,FZ23.binds (ps:= ["self","name","least","most","uses","second"]) (ds:= []) gt rfl λ_ _ _ _ _ _ us hl=>match us,hl with| [_,_,_,_,_,_],_=>⟨_,rfl,rfl⟩,⟨[.none,.none],FZ23.binds (ps:= ["self","name","least","most","uses","second"]) (ds:= [.none,.none]) gt rfl λ_ _ _ _ _ _ us hl=>match us,hl with| [_,_,_,_],_=>⟨_,rfl,rfl⟩| [],h=>absurd h (by simp)| [_],h=>absurd h (by simp)| [_,_],h=>absurd h (by simp)| [_,_,_],h=>absurd h (by simp)|_::_::_::_::_::_,h=>absurd h (by simp),.cons rfl (.cons rfl .nil)⟩⟩
  have DZ24:Av l.prog w K mg base bX 2 M3 ["self","name","least","most","fill","uses","second"] [.non,.non] (pU K):=⟨_,GR B FZ24 DZ23,FZ24.binds (ps:= ["self","name","least","most","fill","uses","second"]) (ds:= []) gu rfl λ_ _ _ _ _ _ us hl=>match us,hl with| [_,_,_,_,_,_,_],_=>⟨_,rfl,rfl⟩,⟨[.none,.none],FZ24.binds (ps:= ["self","name","least","most","fill","uses","second"]) (ds:= [.none,.none]) gu rfl λ_ _ _ _ _ _ us hl=>match us,hl with| [_,_,_,_,_],_=>⟨_,rfl,rfl⟩| [],h=>absurd h (by simp)| [_],h=>absurd h (by simp)| [_,_],h=>absurd h (by simp)| [_,_,_],h=>absurd h (by simp)| [_,_,_,_],h=>absurd h (by simp)|_::_::_::_::_::_::_,h=>absurd h (by simp),.cons rfl (.cons rfl .nil)⟩⟩
  have DZ25:=JQ z9 ji (λ_ _ _ _ _ _=>Dm λ_ _ _ _ _ _=>rfl) λF=>GS B F
  have XZ26:=gF z9 X G hF 112 λF=>GT B F DZ25 I_NoRow
  have DZ26:Dx l.prog w K mg base bX 4 "recipe_begun" ["values"] [] jd:=XZ26.calm 178
  have DZ27:=gF z9 X G hG 112 λF=>GU B F DZ23 DZ24
  have XZ28:=gF z9 X G hH 121 λF=>GV B F DZ27 XZ18 XZ19
  have DZ28:Dx l.prog w K mg base bX 5 "put_step" ["recipe","at","values"] [] jd:=XZ28.calm 178
  have XZ29:=gF z9 X G hI 121 λF=>GW B F XZ20 I_Twice
  have DZ29:Dx l.prog w K mg base bX 4 "put_second" ["recipe","at","values"] [] jd:=XZ29.calm 178
  have XZ30:=gF z9 X G hK 121 λF=>GX B F XZ18 XZ19 XZ20 I_NoStep
  have DZ30:Dx l.prog w K mg base bX 4 "put_use" ["recipe","at","values"] [] jd:=XZ30.calm 178
  have XZ31:=gF z9 X G hL 121 λF=>GY B F XZ21 XZ22 XZ28 XZ29 XZ30
  have DZ31:Dx l.prog w K mg base bX 6 "put_row" ["recipe","at","values"] [] jd:=XZ31.calm 178
  have XZ32:=gF z9 X G hM 112 λF=>GZ B F DZ17 XZ26 XZ31 I_NoRow
  have DZ32:Dx l.prog w K mg base bX 11 "read_recipe" ["text"] [] (iW Me Mb LE KT):=XZ32.calm zP;have DZ33:=gF z9 X G hN 111 λF=>G1 B F
  have bZ34:=FZ34.binds0 (ps:= ["_law_found"]) λ_ _ _ _ _ _=>c6 (λ_=>rfl)
  have HZ34:∀hd,FF hd l.prog w K mg base 1 "_law_whole" ["_law_found"] iL:=λhd=>(f5,_,G2 B FZ34,KP X G hO,kZ34,bZ34)
  have DZ34:Dx l.prog w K mg base bX 1 "_law_whole" ["_law_found"] [] iL:=(HZ34 none).calm;have DZ35:=gF z9 X G hQ 111 λF=>G4 B F
  have DZ36:=gF z9 X G hR 111 λF=>G5 B F
  have DZ37:=Dt z9 X G hS 112 λF=>G6 B F DZ36
  have DZ38:=gF z9 X G hT 111 λF=>G7 B F DZ35
  have DZ39:=gF z9 X G hX 111 λF=>G8 B F
  have DZ40:=gF z9 X G hY 121 λF=>G9 B F DZ38
  have DZ41:=gF z9 X G hZ 274 λF=>Ha B F DZ38 DZ39
  have DZ42:=gF z9 X G ia 111 λF=>Hb B F DZ39
  have DZ43:=gF z9 X G ib 274 λF=>Hc B F
  have DZ44:=gF z9 X G ic 111 λF=>Hd B F
  have DZ45:=gF z9 X G ih 274 λF=>He B F DZ36 DZ40 DZ41 DZ42 DZ43 DZ44
  have DZ46:=gF z9 X G ii 112 λF=>Hf B F XZ32 HZ34
  have DZ47:=gF z9 X G ik (λ_ _ _ _ _ _ us hl=>match us,hl with| [],_=>rfl) λF=>Hg B F
  have DZ48:=Dt z9 X G il 121 λF=>Hh B F DZ47
  have DZ49:=Dt z9 X G iv 111 λF=>Hi B F
  have DZ50:=Dt z9 X G iw 112 λF=>Hj B F
  have DZ51:=Dt z9 X G ix 111 λF=>Hk B F
  have DZ52:=Dt z9 X G i0 121 λF=>Hl B F DZ50 DZ51
  have DZ53:=gF z9 X G i1 111 λF=>Hn B F
  have DZ54:=Dt z9 X G i2 274 λF=>Ho B F DZ48 DZ49 DZ52 DZ53
  exact Hq B Flaw DZ32 DZ33 DZ36 DZ37 DZ45 DZ46 DZ54
theorem walk {l:PySem.W.OpenLaw} {q:Program} {loose:O6} {XP:O3->Heap->Prop} {YP:World->Heap->Prop} {d:DefRec} {K:Params->K0} (hn:l.most=some 63) (hdf:d.params.defaults= [])
  (hY:∀(w:World) (h:Heap),YP w h->(K w.params).In h)
  (F:∀(w:World) (mg:O3) (fa:Addr) (h:Heap),(K w.params).In h->h.Ns mainGlobals mg->mg d.name=some (.ref fa)->
   ∃fd:FuncData,(∀(s:Shared) (u:Value),BindsTo s fd ⟨[u],[]⟩ [("_law_script",u)])/\∀base:Heap,(K w.params).In base->base.Ns mainGlobals mg->bB l.prog w (K w.params) mg base bX 20 fa fd ["_law_script"] (uP (K w.params))):
  PySem.W.WalkO q loose XP YP l.row.toRowW d [] (λf vs=>PySem.call f vs):=
 L2.AQ (n:=63) (k:=20) (x:= "_law_script") (CX:=λ_=>bX) (sp:=λw=>uP (K w.params)) hn 45 hdf ⟨rfl,by decide,by decide⟩ hY F (λ_ _ a ns hl _ hS=>(aG a ns ⟨rfl,hS,hl,λ_=>rfl⟩)) λ_ _ _ _ _ z=>z
universe Lk36
end
open PySem PySem.W PyProof.Rows
set_option maxRecDepth 100000 in
set_option maxHeartbeats 0 in
theorem PySem.Challenge.cw_stovework_k36_rows_refused_holds : PySem.Challenge.rw_stovework_k36_rows_refused.Holds := by
 refine Lk36.hd ?_
 k_fill
 refine Lk36.walk (l:=PySem.Challenge.rw_stovework_k36_rows_refused) rfl rfl (λw h Y=>PySem.W.kIn_of Y) ?F
 case F=>
  intro w mg fa h KX G hmg
  refine' Lk36.E1 KX G hmg ?a ?b ?c ?d ?e ?f ?g ?h ?i ?j ?k ?l ?m ?n ?o ?p ?q ?r ?s ?t ?u ?v ?w ?x ?y ?z ?A ?B ?C ?D ?E ?F ?G ?H ?I ?J ?K ?L ?M ?N ?O ?P ?Q ?R ?S ?T ?U ?V ?W ?X ?Y ?Z ?aa ?ab ?ac ?ad ?ae ?af ?ag ?ah ?ai ?aj ?ak ?al ?am ?an ?ao ?ap ?aq ?ar ?au ?av ?aw ?ax ?ay ?az ?aA ?aB ?aC ?aD ?aE ?aF ?aG ?aH ?aI ?aJ ?aK ?aL ?aM ?aN ?aO ?aP ?aQ ?aR ?aS ?aT ?aU ?aV ?aW ?aX ?aY ?aZ ?ba ?bb ?bc ?bd ?be ?bf ?bg ?bh ?bi ?bj ?bk ?bl ?bm ?bn ?bo ?bp ?bq ?br ?bs ?bt ?bu ?bv ?bw ?bx ?bz ?bA ?bB ?bC ?bD ?bE ?bF ?bG ?bH ?bI ?bJ ?bK ?bL ?bM ?bN ?bO ?bP ?bQ ?bR ?bS ?bT ?bU ?bV ?bW ?bX ?bY ?bZ ?ca ?cb ?cc ?cd ?ce ?cf ?cg ?ch ?ci ?cj ?ck ?cl ?cm ?cn ?co ?cp ?cq ?cr ?cs ?ct ?cu ?cv ?cw ?cx ?cy ?cz ?cA ?cB ?cC ?cD ?cE ?cF ?cG ?cH ?cI ?cJ ?cK ?cL ?cM ?cN ?cO ?cP ?cQ ?cR ?cS ?cT ?cU ?cV ?cW ?cX ?cY ?cZ ?da ?db ?dc ?dd ?de ?df ?dg ?dh ?di ?dj ?dk ?dl ?dm ?dn ?dp ?dq ?dr ?ds
  case a|b|c=>exact ⟨by k_is,_,_,_,_,_,_,_,_,_,by k_is,by k_is,by k_is⟩
  case d=>k_is
  case e=>exact ⟨_,_,_,_,_,_,_,_,_,by k_is,by k_is,by k_is⟩
  case f|g|h|i|j|k|l|m|n|o|p|q|r|s|t|u|v|w|x|y|z|A|B|C|D|E|F=>exact ⟨by k_is,_,_,_,_,_,_,_,_,_,by k_is,by k_is,by k_is⟩
  case G=>k_is
  case H=>exact ⟨_,_,_,_,_,_,_,_,_,by k_is,by k_is,by k_is⟩
  case I|J|K|L|M|N|O|P|Q|R|S|T|U|V|W|X|Y|Z|aa|ab=>exact ⟨by k_is,_,_,_,_,_,_,_,_,_,by k_is,by k_is,by k_is⟩
  case ac|ad|ae|af|ag|ah|ai|aj|ak|al|am|an|ao|ap|aq|ar|au|av|aw|ax|ay|az|aA|aB|aC|aD|aE|aF|aG|aH|aI|aJ|aK|aL|aM|aN|aO|aP|aQ|aR|aS|aT=>k_is
  case aU=>exact ⟨_,_,_,_,_,_,_,_,_,by k_is,by k_is,by k_is⟩
  case aV=>k_is
  case aW=>exact ⟨_,_,_,_,_,_,_,_,_,by k_is,by k_is,by k_is⟩
  case aX=>exact ⟨by k_is,_,_,_,_,_,_,_,_,_,by k_is,by k_is,by k_is⟩
  case aY|aZ|ba=>k_is
  case bb=>exact ⟨_,_,_,by k_is,rfl,rfl,by decide,.cons ⟨_,rfl⟩ (.cons ⟨_,rfl⟩ (.cons ⟨_,rfl⟩ (.nil)))⟩
  case bc=>exact ⟨_,_,_,by k_is,rfl,rfl,by decide,.cons ⟨_,rfl⟩ (.cons ⟨_,rfl⟩ (.nil))⟩
  case bd=>exact ⟨_,_,_,by k_is,rfl,rfl,by decide,.cons ⟨_,rfl⟩ (.cons ⟨_,rfl⟩ (.cons ⟨_,rfl⟩ (.nil)))⟩
  case be=>exact ⟨by decide,_,_,_,by k_is,⟨rfl,rfl,rfl⟩,rfl,(.cons ⟨_,_,_,by k_is,rfl,rfl,by decide,.cons ⟨_,rfl⟩ (.cons ⟨_,rfl⟩ (.nil))⟩ (.cons ⟨_,_,_,by k_is,rfl,rfl,by decide,.cons ⟨_,rfl⟩ (.cons ⟨_,rfl⟩ (.nil))⟩ (.cons ⟨_,_,_,by k_is,rfl,rfl,by decide,.cons ⟨_,rfl⟩ (.cons ⟨_,rfl⟩ (.cons ⟨_,rfl⟩ (.nil)))⟩ (.cons ⟨_,_,_,by k_is,rfl,rfl,by decide,.cons ⟨_,rfl⟩ (.cons ⟨_,rfl⟩ (.cons ⟨_,rfl⟩ (.nil)))⟩ (.cons ⟨_,_,_,by k_is,rfl,rfl,by decide,.cons ⟨_,rfl⟩ (.cons ⟨_,rfl⟩ (.cons ⟨_,rfl⟩ (.cons ⟨_,rfl⟩ (.nil))))⟩ (.cons ⟨_,_,_,by k_is,rfl,rfl,by decide,.cons ⟨_,rfl⟩ (.cons ⟨_,rfl⟩ (.cons ⟨_,rfl⟩ (.nil)))⟩ (.cons ⟨_,_,_,by k_is,rfl,rfl,by decide,.cons ⟨_,rfl⟩ (.cons ⟨_,rfl⟩ (.cons ⟨_,rfl⟩ (.cons ⟨_,rfl⟩ (.nil))))⟩ (.cons ⟨_,_,_,by k_is,rfl,rfl,by decide,.cons ⟨_,rfl⟩ (.cons ⟨_,rfl⟩ (.cons ⟨_,rfl⟩ (.cons ⟨_,rfl⟩ (.nil))))⟩ (.cons ⟨_,_,_,by k_is,rfl,rfl,by decide,.cons ⟨_,rfl⟩ (.cons ⟨_,rfl⟩ (.nil))⟩ (.cons ⟨_,_,_,by k_is,rfl,rfl,by decide,.cons ⟨_,rfl⟩ (.cons ⟨_,rfl⟩ (.cons ⟨_,rfl⟩ (.nil)))⟩ (.cons ⟨_,_,_,by k_is,rfl,rfl,by decide,.cons ⟨_,rfl⟩ (.cons ⟨_,rfl⟩ (.nil))⟩ .nil)))))))))))⟩
  case bf=>exact ⟨by decide,_,_,_,by k_is,⟨rfl,rfl,rfl⟩,rfl,(.cons ⟨_,_,_,by k_is,rfl,rfl,by decide,.cons ⟨_,rfl⟩ (.cons ⟨_,rfl⟩ (.nil))⟩ (.cons ⟨_,_,_,by k_is,rfl,rfl,by decide,.cons ⟨_,rfl⟩ (.cons ⟨_,rfl⟩ (.nil))⟩ (.cons ⟨_,_,_,by k_is,rfl,rfl,by decide,.cons ⟨_,rfl⟩ (.cons ⟨_,rfl⟩ (.nil))⟩ (.cons ⟨_,_,_,by k_is,rfl,rfl,by decide,.cons ⟨_,rfl⟩ (.cons ⟨_,rfl⟩ (.nil))⟩ (.cons ⟨_,_,_,by k_is,rfl,rfl,by decide,.cons ⟨_,rfl⟩ (.cons ⟨_,rfl⟩ (.nil))⟩ (.cons ⟨_,_,_,by k_is,rfl,rfl,by decide,.cons ⟨_,rfl⟩ (.cons ⟨_,rfl⟩ (.nil))⟩ (.cons ⟨_,_,_,by k_is,rfl,rfl,by decide,.cons ⟨_,rfl⟩ (.cons ⟨_,rfl⟩ (.nil))⟩ (.cons ⟨_,_,_,by k_is,rfl,rfl,by decide,.cons ⟨_,rfl⟩ (.cons ⟨_,rfl⟩ (.nil))⟩ .nil))))))))⟩
  case bg=>kernel_rfl
  case bh=>exact ⟨⟨by k_is,by k_is,by k_is⟩,by kernel_rfl,by k_is,by k_is,by k_is,by k_is⟩
  case bi=>kernel_rfl
  case bj=>exact ⟨⟨by k_is,by k_is,by k_is⟩,by kernel_rfl,by k_is,by k_is,by k_is,by k_is⟩
  case bk|bl=>exact ⟨by k_is,by kernel_rfl,by k_is⟩
  case bm|bn|bo|bp|bq=>k_is
  case br|bs|bt|bu|bv|bw|bx|bz|bA|bB|bC|bD|bE|bF|bG|bH|bI|bJ|bK|bL|bM|bN|bO|bP|bQ|bR|bS|bT|bU|bV|bW|bX|bY=>kernel_rfl
  case bZ=>exact ⟨by k_is,by kernel_rfl,by kernel_rfl,by k_is⟩
  case ca=>k_is
  case cb=>exact ⟨by k_is,by kernel_rfl,by kernel_rfl,by k_is⟩
  case cc=>k_is
  case cd=>exact ⟨by k_is,by kernel_rfl,by kernel_rfl,by k_is⟩
  case ce=>k_is
  case cf|cg|ch=>exact ⟨⟨by k_is,by k_is,by k_is⟩,by kernel_rfl,by k_is,by k_is,by k_is,by k_is⟩
  case ci|cj|ck|cl|cm|cn|co|cp|cq|cr=>exact ⟨by k_is,by k_is,by k_is,by k_is⟩
  case cs|ct|cu|cv|cw|cx|cy|cz|cA|cB|cC|cD|cE|cF|cG|cH|cI|cJ|cK|cL|cM=>(unfold L2.aO;k_is)
  case cN|cO|cP|cQ|cR|cS=>exact ⟨by k_is,by k_is,by k_is,by k_is⟩
  case cT|cU|cV|cW|cX|cY|cZ|da|db|dc|dd|de|df=>kernel_rfl
  case dg=>exact ⟨⟨_,_,_,_,_,_,_,_,_,_,_,_,_,_,_,_,by k_is,by kernel_rfl,by k_is,by kernel_rfl⟩,by k_is,by k_is⟩
  case dh|di|dj=>k_is
  case dk=>exact ⟨⟨_,_,_,_,_,_,_,_,_,_,_,_,_,_,_,_,by k_is,by kernel_rfl,by k_is,by kernel_rfl⟩,by k_is,by k_is⟩
  case dl|dm|dn=>k_is
  case dp=>exact ⟨⟨_,_,_,_,_,_,_,_,_,_,_,_,_,_,_,_,by k_is,by kernel_rfl,by k_is,by kernel_rfl⟩,by k_is,by k_is⟩
  case dq|dr|ds=>k_is
