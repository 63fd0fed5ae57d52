import PyProof.Rows.All
import Wide.All
import OpenK.AllK
import Wide.FinOn
import Lean
import PyProof.EqAt
import PyProof.EqKinds
import PyProof.TupleCall
import PyProof.NeKinds
import PyProof.StationsW
import PyProof.RulesAs
import PyProof.ExcArgsOwn
import PyProof.CompFree
import PyProof.ExcInit
import PyProof.ConsumeWalk
import PyProof.Rows.SeqGen
import PyProof.StrWalks
import PyProof.SliceStr2
import PyProof.MeetsStr
import KE.KIntText
import PyProof.Rows.FStr
import PyProof.StrCalls6
import PyProof.StrBlockL
import PyProof.ToksMono
import PyProof.WalkInts
import PyProof.Rows.MinMaxN
import PyProof.StrLawsReplace
import PyProof.StrLawsTight
import PyProof.Rows.StrLawsPart
import PyProof.DictWalks
import KE.KEqDict
import KE.KDictLaws
import KE.KRevIter
import PyProof.ListCopy
import PyProof.CollectIter
import PyProof.Rows.SetFrom
import PyProof.Rows.SortShellK
import PyProof.Rows.SortStr
import PyProof.Rows.SortWalk
import KE.KDictSum
import KE.KSortTup
import PyProof.TupleOfSeq
import PyProof.Rows.SortRuns
import PyProof.FactsAll.tuple_2
import PyProof.WalksEnum
import PyProof.EnumMake
import PyProof.EnumFor
import PyProof.ZipIter
import KE.KDictOf
import PyProof.DictItems
import PyProof.FactsAll.dict_itemiterator_1
import PyProof.Rows.StrMul
import KE.KDictList
import PyProof.Rows.SumAny
import KE.KIsAll
import PyProof.StrLaws
import PyProof.Rows.SortRev
import PyProof.FactsAll.tuple_1
import PyProof.PureInt
import PySem.Challenge.RW_stovework_k68_whole_stretches_are_true
set_option maxHeartbeats 4000000
noncomputable section
abbrev LD:=PySem.Value->PySem.Shared->Prop
abbrev LF:=PySem.Str->Option PySem.Value
abbrev LG:=List (PySem.Addr×PySem.Obj)
abbrev LH:=Array (Option PySem.Value)
abbrev LI:=List PySem.Str
abbrev LJ:=List PySem.Addr
abbrev LK:=List PySem.Value
abbrev LL:=Option PySem.Addr
abbrev LM:=Option PySem.Value
open Array renaming length_toList → JC, getElem?_toList → JQ, getElem?_eq_getElem → Jp, getElem?_eq_none → KW, getElem?_eq_some_iff → Ka
open Bool renaming and_eq_true → J7, false_ne_true → JL, false_eq_true → Jr, not_eq_true → K9, not_true → KR, false_or → KS, true_and → Kj
open Int renaming toNat_natCast → IX, zero_add → Jl, le_refl → Ju, toNat_of_nonneg → Jv, le_trans → KQ, fdiv_eq_ediv_of_nonneg → Kc
open List renaming getElem?_eq_getElem → I0, length_map → IN, getElem?_eq_some_iff → IP, getElem?_map → IQ, mem_of_getElem? → IR, length_append → IU, getElem?_append_right → IV, mem_iff_getElem? → IY, mem_cons → IZ, mem_map → J2, getElem_mem → J3, mem_singleton → J4, getElem?_append_left → J5, mem_cons_of_mem → J9, mem_append → JA, map_map → JB, size_toArray → JD, all_eq_true → JE, length_take → JH, mem_append_right → JI, map_append → JJ, range → JK, getD_eq_getElem?_getD → JM, length_cons → JN, mem_cons_self → JO, length_range → JP, eq_nil_of_length_eq_zero → JS, map_cons → JU, take_length → JX, mem_range → JZ, getElem?_eq_none → Jd, not_mem_nil → Je, append_assoc → Jg, pairwise_cons → Ji, take_append_drop → Jj, nodup_cons → Jm, sum_cons → Jn, getLast?_eq_some_getLast → Jq, length_drop → Js, length_reverse → Jt, append_nil → Jw, ext_getElem? → Jy, mem_filter → K1, pairwise_append → K2, take_add_one → K4, map_congr_left → K6, find?_cons → K7, getElem?_range → KI, nodup_nil → KL, nodup_append → KP, take_of_length_le → KY, pairwise_map → KZ, pairwise_iff_getElem → Kg, getElem?_eq_none_iff → Kh, map_eq_nil_iff → Ki, getElem?_take_of_lt → Kk, range_succ → Km
open List.Pairwise renaming nil → Kf
open Nat renaming le_refl → IT, ne_of_lt → J6, zero_le → JT, le_trans → JV, lt_of_lt_of_le → Jb, lt_succ_iff_lt_or_eq → Jf, lt_succ_of_lt → Jh, ne_of_gt → K5, not_lt_zero → K8, le_succ → Kb, lt_succ_self → Ke, lt_irrefl → Kl
open Option renaming map_eq_some_iff → IW, isSome_iff_exists → JY, bind_eq_some_iff → Jc, map_some → K0
open Option.some renaming inj → Jo
open PyProof renaming noPylong_small → J1
open PyProof.Rows renaming callWith_type1 → Ja
open PySem renaming mem_of_lookup → Jk
open PySem.F renaming plainAttrs_list → J8, type_list_append → JF, slot_list_append → JG, plain_list_iadd → KA, type_list_extend → KN, slot_list_extend → KO
open PySem.W renaming Frag → IS, nsIn → JR, mg_none_of → JW, mg_of → Jx, kia_one → Jz, emptyDict → K3, fnOf → KH, findIn → KJ, instObj → KM, keepIn → KU
open PySem.W.Fast renaming te14364793385576792824 → KB, te14289696077712309145 → KC, te11892475500146522536 → KD, te10274390034422433532 → KE, te10156331382660048174 → KF, te6613529449190102663 → KG
namespace Ht
open PySem PySem.W PyProof.Rows
noncomputable def uE (ok:Thread->Bool) (st:SharedT->Thread->Option (SharedT×Thread)) (n:Nat):SharedT->Thread->Option SharedT:=
 Nat.rec (motive:=fun _=>SharedT->Thread->Option SharedT) (fun _ _=>none) (fun _ ih s t=>
  Bool.rec (motive:=fun _=>Option SharedT)
   (Bool.rec (motive:=fun _=>Option SharedT) none (Option.rec (motive:=fun _=>Option SharedT) none (fun r=>Prod.rec (motive:=fun _=>Option SharedT) (fun s' t'=>ih s' t') r) (st s t)) (ok t))
   (some s) (through t)) n
theorem we {tb:String->Option Builtin} {p:Program} {w:World} {m:Nat} {ann:LM}:∀{n:Nat} {s s':SharedT} {t:Thread},uE (stepOk m ann) (stepT (denote tb) p w) n s t=some s'->topRun tb p w m ann n s.abs t=some s'.abs
 |0,_,_,_,h=>by cases h
 |n+1,s,s',t,h=>by
  unfold topRun;have h':Bool.rec (motive:=fun _=>Option SharedT)
   (Bool.rec (motive:=fun _=>Option SharedT) none (Option.rec (motive:=fun _=>Option SharedT) none (fun r=>Prod.rec (motive:=fun _=>Option SharedT) (fun s' t'=>uE (stepOk m ann) (stepT (denote tb) p w) n s' t') r) (stepT (denote tb) p w s t)) (stepOk m ann t))
   (some s) (through t)=some s':=h
  cases ht:through t with
  |true=>rw[ht] at h';cases h';rfl
  |false=>
   rw[ht] at h';cases hk:stepOk m ann t with
   |false=>rw[hk] at h';cases h'
   |true=>
    rw[hk] at h';cases hs:stepT (denote tb) p w s t with
    |none=>rw[hs] at h';cases h'
    |some r=>
     obtain ⟨s₂,t₂⟩:=r;rw[hs] at h';dsimp only;rw[stepT_spec hs];exact we h'
noncomputable def grow (l:List Obj):Nat->BT->Option BT:=
 List.rec (motive:=fun _=>Nat->BT->Option BT) (fun _ t=>some t) (fun o _ ih n t=>
  Bool.rec (motive:=fun _=>Option BT) none (ih (n+1) (t.ins n o)) ((t.ins n o).get n).isSome) l
theorem wg {life:Life}:∀{l:List Obj} {n:Nat} {t t':BT},grow l n t=some t'->absHeap t' (n+l.length) life=⟨(absHeap t n life).objs++l.toArray,life⟩
 | [],n,t,t',h=>by
  cases h;simp[absHeap]
 |o::l,n,t,t',h=>by
  have h':Bool.rec (motive:=fun _=>Option BT) none (grow l (n+1) (t.ins n o)) ((t.ins n o).get n).isSome=some t':=h
  cases e:((t.ins n o).get n).isSome with
  |false=>rw[e] at h';cases h'
  |true=>
   rw[e] at h';have z:=wg (life:=life) h';rw[absHeap_ins e] at z;rw[show n+(o::l).length=n+1+l.length by rw[JN];lia,z]
   simp[Heap.push]
noncomputable def treeOf (s:Shared):Option SharedT:=
 Option.rec (motive:=fun _=>Option SharedT) none (fun t=>some ⟨t,s.heap.objs.size,s.heap.life,s.gens,s.drawn,s.toks,s.os⟩) (grow s.heap.objs.toList 0 .nil)
theorem uF {s:Shared} {s':SharedT} (h:treeOf s=some s'):s'.abs=s:=by
 have h':Option.rec (motive:=fun _=>Option SharedT) none (fun t=>some ⟨t,s.heap.objs.size,s.heap.life,s.gens,s.drawn,s.toks,s.os⟩) (grow s.heap.objs.toList 0 .nil)=some s':=h
 cases e:grow s.heap.objs.toList 0 .nil with
 |none=>rw[e] at h';cases h'
 |some t=>
  rw[e] at h';cases h';have z:=wg (life:=s.heap.life) e;obtain ⟨⟨objs,life⟩,gens,drawn,toks,os⟩:=s;simp only[SharedT.abs];have z':absHeap t objs.size life=⟨objs,life⟩:=by
   simpa [absHeap,BT.list] using z
  rw[z']
noncomputable def zw (ok:Nat->LM->Thread->Bool) (st:SharedT->Thread->Option (SharedT×Thread)) (p:Program) (N:Nat) (s₀:Shared):Option Shared:=
 Bool.rec (motive:=fun _=>Option Shared) none
  ((treeOf s₀).bind fun t₀=>(uE (ok s₀.heap.objs.size (s₀.heap.nsMap mainGlobals "__annotations__")) st N t₀ (topStub p)).bind fun t₁=>
   (fun s₁=>Bool.rec (motive:=fun _=>Option Shared) none (some s₁) (staticsOk (importedModules p.main.body) s₀.heap s₁.heap&&namesBound p s₁.heap&&gensDone s₁&&laidKept s₀.heap s₁.heap)) t₁.abs)
  (s₀.heap.isNs mainGlobals&&s₀.gens.size==0)
theorem zx {tb:String->Option Builtin} {p:Program} {w:World} {N:Nat} {s₀ s:Shared} (h:zw stepOk (stepT (denote tb) p w) p N s₀=some s):topFrom tb p w N s₀=some s:=by
 unfold zw at h;unfold topFrom;cases e:s₀.heap.isNs mainGlobals&&s₀.gens.size==0 with
 |false=>rw[e] at h;cases h
 |true=>
  rw[e] at h;obtain ⟨t₀,e0,h⟩:=Jc.mp h;obtain ⟨t₁,e1,h⟩:=Jc.mp h;have r:=we e1;rw[uF e0] at r;dsimp only;rw[r];dsimp only at h;show (match staticsOk (importedModules p.main.body) s₀.heap t₁.abs.heap&&namesBound p t₁.abs.heap&&gensDone t₁.abs&&laidKept s₀.heap t₁.abs.heap with|true=>some t₁.abs|false=>none)=some s
  cases q:staticsOk (importedModules p.main.body) s₀.heap t₁.abs.heap&&namesBound p t₁.abs.heap&&gensDone t₁.abs&&laidKept s₀.heap t₁.abs.heap with
  |false=>rw[q] at h;cases h
  |true=>rw[q] at h;exact h
noncomputable def qF (ok:Nat->LM->Thread->Bool) (st:SharedT->Thread->Option (SharedT×Thread)) (p:Program) (N:Nat) (s₀:Shared):Option Shared:=
 (treeOf s₀).bind fun t₀=>(uE (ok s₀.heap.objs.size (s₀.heap.nsMap mainGlobals "__annotations__")) st N t₀ (topStub p)).map fun t₁=>t₁.abs
noncomputable def Bv (p:Program) (s₀ s₁:Shared):Bool:=(s₀.heap.isNs mainGlobals&&s₀.gens.size==0)&&(staticsOk (importedModules p.main.body) s₀.heap s₁.heap&&namesBound p s₁.heap&&gensDone s₁&&laidKept s₀.heap s₁.heap)
theorem zy {tb:String->Option Builtin} {p:Program} {w:World} {N:Nat} {s₀ s:Shared} (h:qF stepOk (stepT (denote tb) p w) p N s₀=some s) (c:Bv p s₀ s=true):topFrom tb p w N s₀=some s:=by
 apply zx;unfold qF at h;obtain ⟨t₀,e0,h⟩:=Jc.mp h;obtain ⟨t₁,e1,rfl⟩:=IW.mp h;unfold Bv at c;rw[J7] at c;unfold zw;rw[c.1];show ((treeOf s₀).bind fun t₀=>_)=_
 rw[e0];show ((uE _ _ N t₀ (topStub p)).bind fun t₁=>_)=_
 rw[e1];show (Bool.rec (motive:=fun _=>Option Shared) none (some t₁.abs) (staticsOk (importedModules p.main.body) s₀.heap t₁.abs.heap&&namesBound p t₁.abs.heap&&gensDone t₁.abs&&laidKept s₀.heap t₁.abs.heap):Option Shared)=_
 rw[c.2]
abbrev Look (p:Program) (N:Nat) {α:Type} (f:Shared->Shared->α) (v:World->α):Prop:=∀w:World,((importEnds treeTable (opening p) w N (start (opening p)).1 (start (opening p)).2).bind fun s=>(fenceModules? p s).bind fun s₀=>(qF stepOk (stepT (denote treeTable) p w) p N s₀).map fun s₁=>f s₀ s₁)=some (v w)
theorem Look.at_ {p:Program} {N:Nat} {α:Type} {f:Shared->Shared->α} {v:World->α} (h:Look p N f v) (w:World) {s s₀ s₁:Shared} (a:importEnds treeTable (opening p) w N (start (opening p)).1 (start (opening p)).2=some s) (b:fenceModules? p s=some s₀) (c:qF stepOk (stepT (denote treeTable) p w) p N s₀=some s₁):f s₀ s₁=v w:=by
 have:=h w;rw[a] at this;replace this:((fenceModules? p s).bind fun s₀=>(qF stepOk (stepT (denote treeTable) p w) p N s₀).map fun s₁=>f s₀ s₁)=some (v w):=this
 rw[b] at this;replace this:((qF stepOk (stepT (denote treeTable) p w) p N s₀).map fun s₁=>f s₀ s₁)=some (v w):=this
 rw[c] at this;injection this
theorem zz {p q:Program} {loose:LI} {Xt:Shared->Bool} {α:Type} {Yf:Shared->α} {Ya:World->α} {N:Nat} {g0:Bool} (hc:Look p N (fun s₀ s₁=>Bv p s₀ s₁) fun _=>true)
  (h1:Look p N (fun _ s=>openSeen q loose (importedModules p.main.body) Xt g0 s) fun _=>openGood q loose) (h2:Look p N (fun _ s=>Yf s) Ya):LeftO p q loose Xt Yf Ya N g0:=fun w=>by
 obtain ⟨s,a,e⟩:=Jc.mp (hc w);obtain ⟨s₀,b,e⟩:=Jc.mp e;obtain ⟨s₁,c,e⟩:=IW.mp e;have z:openEnds treeTable p w N=some s₁:=by
  unfold openEnds fencedOpening;rw[a];show (fenceModules? p s).bind _=_;rw[b];exact zy c e
 rw[z];show some (_,_)=some (_,_);rw[h1.at_ w a b c,h2.at_ w a b c]
noncomputable def wj (t:SharedT) (a:Addr):Option Obj:=Bool.rec (motive:=fun _=>Option Obj) none ((fun o=>Bool.rec (motive:=fun _=>Option Obj) (some o) none (Obj.isFreed o)) ((t.tree.get a).getD default)) (Nat.blt a t.n)
theorem xT (t:SharedT) (a:Addr):wj t a=t.abs.heap.get? a:=by
 unfold wj SharedT.abs Heap.get?;dsimp only;rw[absHeap_at];cases h:Nat.blt a t.n with
 |false=>
  rw[if_neg fun z=>by rw[Nat.blt_eq.mpr z] at h;cases h]
 |true=>
  rw[if_pos (Nat.blt_eq.mp h)];obtain ⟨cls,dict,data,slots⟩:=(t.tree.get a).getD default;cases data<;>rfl
theorem xU {p:Program} {N:Nat} {as:LJ} {v:World->List (Option Obj)}
  (h:∀w:World,((importEnds treeTable (opening p) w N (start (opening p)).1 (start (opening p)).2).bind fun s=>(fenceModules? p s).bind fun s₀=>(treeOf s₀).bind fun t₀=>(uE (stepOk s₀.heap.objs.size (s₀.heap.nsMap mainGlobals "__annotations__")) (stepT (denote treeTable) p w) N t₀ (topStub p)).map fun t₁=>as.map (wj t₁))=some (v w)):
  Look p N (fun _ s=>as.map s.heap.get?) v:=fun w=>by
 obtain ⟨s,a,e⟩:=Jc.mp (h w);obtain ⟨s₀,b,e⟩:=Jc.mp e;obtain ⟨t₀,c,e⟩:=Jc.mp e;obtain ⟨t₁,d,e⟩:=IW.mp e;rw[a];show (fenceModules? p s).bind _=_;rw[b];show (qF stepOk (stepT (denote treeTable) p w) p N s₀).map _=_;unfold qF;rw[c];show ((uE _ _ N t₀ (topStub p)).map fun t₁=>t₁.abs).map _=_
 rw[d];show some (as.map t₁.abs.heap.get?)=_;rw[<-e,show (as.map (wj t₁))=as.map t₁.abs.heap.get? from K6 fun a _=>xT t₁ a]
theorem CM {p:Program} {N:Nat} {α β γ δ:Type} {f:Shared->Shared->α×β×γ×δ} {v:World->α×β×γ×δ} (h1:Look p N (fun a b=>((f a b).1,(f a b).2.1,(f a b).2.2.1)) fun w=>((v w).1,(v w).2.1,(v w).2.2.1)) (h2:Look p N (fun a b=>(f a b).2.2.2) fun w=>(v w).2.2.2):Look p N f v:=fun w=>by
 obtain ⟨s,a,e⟩:=Jc.mp (h1 w);obtain ⟨s₀,b,e⟩:=Jc.mp e;obtain ⟨s₁,c,e⟩:=IW.mp e;have e1:=h1.at_ w a b c;have e2:=h2.at_ w a b c;rw[a];show (fenceModules? p s).bind _=_;rw[b];show (qF stepOk (stepT (denote treeTable) p w) p N s₀).map _=_;rw[c];obtain ⟨f1,f2⟩:=Prod.mk.inj e1;obtain ⟨f2,f3⟩:=Prod.mk.inj f2;have f4:f s₀ s₁=v w:=Prod.ext f1 (Prod.ext f2 (Prod.ext f3 e2));exact congrArg some f4
end Ht
set_option Elab.async false
set_option linter.all false
set_option maxRecDepth 100000
namespace Lk68
open PySem PySem.W PyProof.Rows
noncomputable def qv:Program:={PySem.Challenge.pw_stovework_k68_whole_stretches_are_true with main:={PySem.Challenge.pw_stovework_k68_whole_stretches_are_true.main with body:=([1,2,3,4,6,7,8,10,11,12,13,14,15,16,17,18,19,20,21,22,23,24,25,26,28,29,30,31,33,34,35,36,37,38,39,40,42,43,44,45,46,47,48,50,51,52,53,54,55,56,57,58,59,60,61,62,64,65,66,67,68,69,70,71,72,73,74,75,76,77,78,79,80,81,82,83,84,85,86,87,88,89,90,91,92,93,94]:List Nat).filterMap fun i=>PySem.Challenge.pw_stovework_k68_whole_stretches_are_true.main.body[i]?}}
noncomputable def lo:LI:= []
theorem head {α:Type} {Yf:Shared->α} {Ya:World->α} {YP:World->Heap->Prop} {d:DefRec} {kwd:List (Str×Expr)} (left:LeftO PySem.Challenge.pw_stovework_k68_whole_stretches_are_true qv lo (fun s=>xlAt qv [] s&&recOk [] s) Yf Ya 6100)
  (hY:∀w s,Yf s=Ya w->YP w s.heap) (hYk:∀w h h',YP w h->(∀b o,h.get? b=some o->h'.get? b=some o)->YP w h') (hd:defOf qv PySem.Challenge.rw_stovework_k68_whole_stretches_are_true.row.name=some (d,kwd))
  (hp:PySem.Challenge.rw_stovework_k68_whole_stretches_are_true.row.prog.theDef PySem.Challenge.rw_stovework_k68_whole_stretches_are_true.row.name=some (d.params,d.body,d.scope)) (hk:kwWritten? d.params.kwonlyargs d.params.kw_defaults=some kwd)
  (said:PySem.Challenge.rw_stovework_k68_whole_stretches_are_true.row.wellSaid=true) (hw:PySem.Challenge.rw_stovework_k68_whole_stretches_are_true.row.toRowW.promised) (call:WalkO qv lo (XL qv []) YP PySem.Challenge.rw_stovework_k68_whole_stretches_are_true.row.toRowW d kwd fun f vs=>PySem.call f vs):PySem.Challenge.rw_stovework_k68_whole_stretches_are_true.row.Holds:=
 holds_open left hY hYk (fun s e=>xl_of s (Bool.and_eq_true_iff.mp e).1) XL.keeps hd hp hk (fun s e=>recFacts_of (Bool.and_eq_true_iff.mp e).2) rfl said (by decide+kernel) ⟨rfl,rfl,rfl,rfl,rfl,by decide+kernel⟩ hw call
set_option maxHeartbeats 0 in
theorem la:Ht.Look PySem.Challenge.pw_stovework_k68_whole_stretches_are_true 6100 (fun s₀ s₁=>Ht.Bv PySem.Challenge.pw_stovework_k68_whole_stretches_are_true s₀ s₁) (fun _=>true):=by
 (intro w;rw[KE,KC,KG,KF,KD,KB];kernel_rfl)
set_option maxHeartbeats 0 in
theorem Ir:Ht.Look PySem.Challenge.pw_stovework_k68_whole_stretches_are_true 6100 (fun _ s=>((openSeen qv lo (importedModules PySem.Challenge.pw_stovework_k68_whole_stretches_are_true.main.body) (fun s=>xlAt qv [] s&&recOk [] s) true s).1,(openSeen qv lo (importedModules PySem.Challenge.pw_stovework_k68_whole_stretches_are_true.main.body) (fun s=>xlAt qv [] s&&recOk [] s) true s).2.1,(openSeen qv lo (importedModules PySem.Challenge.pw_stovework_k68_whole_stretches_are_true.main.body) (fun s=>xlAt qv [] s&&recOk [] s) true s).2.2.1)) (fun _=>((openGood qv lo).1,(openGood qv lo).2.1,(openGood qv lo).2.2.1)):=by
 dsimp only[openSeen,openGood]
 (intro w;rw[KE,KC,KG,KF,KD,KB];kernel_rfl)
set_option maxHeartbeats 0 in
theorem GP:Ht.Look PySem.Challenge.pw_stovework_k68_whole_stretches_are_true 6100 (fun _ s=>(openSeen qv lo (importedModules PySem.Challenge.pw_stovework_k68_whole_stretches_are_true.main.body) (fun s=>xlAt qv [] s&&recOk [] s) true s).2.2.2) (fun _=>(openGood qv lo).2.2.2):=by
 dsimp only[openSeen,openGood]
 (intro w;rw[KE,KC,KG,KF,KD,KB];kernel_rfl)
theorem lb:Ht.Look PySem.Challenge.pw_stovework_k68_whole_stretches_are_true 6100 (fun _ s=>(openSeen qv lo (importedModules PySem.Challenge.pw_stovework_k68_whole_stretches_are_true.main.body) (fun s=>xlAt qv [] s&&recOk [] s) true s)) (fun _=>(openGood qv lo)):=Ht.CM Ir GP
end Lk68
local macro_rules| `(tactic|o_head $H)=> `(tactic|(refine Lk68.head (Yf:=PySem.W.Hook.obs $H) (Ya:=PySem.W.Hook.val $H) (YP:=PySem.W.Hook.says $H) ?hl (PySem.W.Hook.of $H) (PySem.W.Hook.keeps $H) (by rfl) (by rfl) (by rfl) (by assumption) ?hw ?hc;(case hl=>(refine Ht.zz Lk68.la Lk68.lb ?c;(case c=>(refine Ht.xU ?c2;(case c2=>(intro w;rw[KE,KC,KG,KF,KD,KB];kernel_rfl))))))))
namespace PySem.W.Fast
noncomputable def tw6646581361936474007:PySem.Program:=PySem.Challenge.pw_stovework_k68_whole_stretches_are_true
theorem te6646581361936474007:PySem.Challenge.pw_stovework_k68_whole_stretches_are_true=tw6646581361936474007:=rfl
end PySem.W.Fast
set_option maxHeartbeats 0 in
open_top Lk68.hd for PySem.Challenge.rw_stovework_k68_whole_stretches_are_true
namespace L2
open PySem PySem.Spec PyProof.Rows
abbrev Key:=Sum Int Str
noncomputable def pe:Key->Value->Bool
 | .inl k,v=>Value.isInt k v
 | .inr x,v=>Value.isStrOf x v
noncomputable def m7 (w:World):Key->Int
 | .inl k=>hashInt k
 | .inr x=>hashStr w x
theorem cY:∀{k:Key} {v:Value},pe k v=true->(∃i t,k=Sum.inl i/\v=Value.int i t)∨(∃x t,k=Sum.inr x/\v=Value.str x t)
 | .inl i,v,h=>by
  obtain ⟨t,e⟩:=Value.isInt_shape (k:=i) (v:=v) h;exact .inl ⟨i,t,rfl,e⟩
 | .inr x,v,h=>by
  obtain ⟨t,e⟩:=Value.isStrOf_shape (x:=x) (v:=v) h;exact .inr ⟨x,t,rfl,e⟩
theorem xV (i:Int) (t:Tok):pe (.inl i) (.int i t)=true:=by simp[pe,Value.isInt]
theorem xW (x:Str) (t:Tok):pe (.inr x) (.str x t)=true:=by simp[pe,Value.isStrOf]
theorem CN (a b:Int):decide ((Sum.inl a:Key)=Sum.inl b)=(a==b):=by
 by_cases e:a=b
 ·subst e;simp
 ·have h:¬(Sum.inl a:Key)=Sum.inl b:=fun q=>e (Sum.inl.inj q)
  rw[decide_eq_false h];exact (beq_eq_false_iff_ne.mpr e).symm
theorem CO (a b:Str):decide ((Sum.inr a:Key)=Sum.inr b)=decide (a=b):=by
 by_cases e:a=b
 ·subst e;simp
 ·have h:¬(Sum.inr a:Key)=Sum.inr b:=fun q=>e (Sum.inr.inj q)
  rw[decide_eq_false h,decide_eq_false e]
theorem CP (a:Int) (b:Str):decide ((Sum.inl a:Key)=Sum.inr b)=false:=decide_eq_false (fun q=>nomatch q)
theorem CQ (a:Str) (b:Int):decide ((Sum.inr a:Key)=Sum.inl b)=false:=decide_eq_false (fun q=>nomatch q)
noncomputable def aT (prog:Program) (w:World):PySem.KeyKind prog w Key where
 is:=pe
 hash:=m7 w
 inj:=fun v a b ha hb=>by
  rcases cY ha with ⟨i,t,rfl,rfl⟩|⟨x,t,rfl,rfl⟩
  ·rcases cY hb with ⟨j,u,rfl,e⟩|⟨y,u,rfl,e⟩
   ·injection e with e1 _;rw[e1]
   ·exact nomatch e
  ·rcases cY hb with ⟨j,u,rfl,e⟩|⟨y,u,rfl,e⟩
   ·exact nomatch e
   ·injection e with e1 _;rw[e1]
 byValue:=fun k v h=>by
  rcases cY h with ⟨i,t,rfl,rfl⟩|⟨x,t,rfl,rfl⟩<;>rfl
 pyHash:=fun hv h=>by
  rcases cY hv with ⟨i,t,rfl,rfl⟩|⟨x,t,rfl,rfl⟩
  ·exact wpAny_pyHash_int h
  ·exact wpAny_pyHash_str h
 eqBool:=fun hu hv h=>by
  rcases cY hu with ⟨i,t,rfl,rfl⟩|⟨x,t,rfl,rfl⟩
  ·rcases cY hv with ⟨j,u,rfl,rfl⟩|⟨y,u,rfl,rfl⟩
   ·rw[CN] at h;exact wpAny_eqBool_int h
   ·rw[CP] at h;exact SeqAt.EqAt.int_str i t y u _ _ _ _ h
  ·rcases cY hv with ⟨j,u,rfl,rfl⟩|⟨y,u,rfl,rfl⟩
   ·rw[CQ] at h;exact SeqAt.EqAt.str_int x t j u _ _ _ _ h
   ·rw[CO] at h;exact wpAny_eqBool_str h
 «strs» :=fun k x t v h=>by
  rcases cY h with ⟨i,u,rfl,e⟩|⟨y,u,rfl,e⟩
  ·exact nomatch e
  ·injection e with e1 _
   subst e1;cases v<;>rfl
theorem sw (prog:Program) (w:World) (i:Int) (t:Tok):(aT prog w).is (.inl i) (.int i t)=true:=xV i t
theorem sx (prog:Program) (w:World) (x:Str) (t:Tok):(aT prog w).is (.inr x) (.str x t)=true:=xW x t
inductive V where
 |non|bl (b:Bool)|int (i:Int)|str (x:Str)|byt (b:Array UInt8)|flt (b:UInt64)|ref (a:Addr)|ty (n:String)
 deriving DecidableEq
def RelV:V->Value->Prop
 | .non,u=>u=Value.none
 | .bl b,u=>u=Value.bool b
 | .int i,u=>∃t,u=Value.int i t
 | .str x,u=>∃t,u=Value.str x t
 | .byt b,u=>∃t,u=Value.bytes b t
 | .flt b,u=>∃t,u=Value.float b t
 | .ref a,u=>u=Value.ref a
 | .ty n,u=>u=Value.type n
abbrev bR:List V->LK->Prop:=Paired RelV
theorem bR.length {xs:List V} {us:LK} (r:bR xs us):xs.length=us.length:=Paired.length r
theorem bR.get:∀{xs:List V} {us:LK} {i:Nat} {x:V},bR xs us->xs[i]?=some x->∃u,us[i]?=some u/\RelV x u
 |_,_,_,_,.nil,e=>by simp at e
 |_,_,0,_,.cons r _,e=>by simp at e;subst e;exact ⟨_,rfl,r⟩
 |_,_,i+1,x,.cons _ t,e=>by
  obtain ⟨u,h1,h2⟩:=bR.get (i:=i) (x:=x) t (by simpa using e)
  exact ⟨u,by simpa using h1,h2⟩
theorem bR.set {x:V} {u:Value} (r:RelV x u):∀{xs:List V} {us:LK} (i:Nat),bR xs us->bR (xs.set i x) (us.set i u)
 |_,_,_,.nil=> .nil
 |_,_,0,.cons _ t=> .cons r t
 |_,_,i+1,.cons q t=> .cons q (bR.set r i t)
theorem bR.append:∀{xs ys:List V} {us ws:LK},bR xs us->bR ys ws->bR (xs++ys) (us++ws)
 |_,_,_,_,.nil,s=>s
 |_,_,_,_,.cons r t,s=> .cons r (bR.append t s)
theorem bR.take:∀{xs:List V} {us:LK} (n:Nat),bR xs us->bR (xs.take n) (us.take n)
 |_,_,0,_=> .nil
 |_,_,_+1,.nil=> .nil
 |_,_,n+1,.cons r t=> .cons r (bR.take n t)
theorem bR.drop:∀{xs:List V} {us:LK} (n:Nat),bR xs us->bR (xs.drop n) (us.drop n)
 |_,_,0,r=>r
 |_,_,_+1,.nil=> .nil
 |_,_,n+1,.cons _ t=>bR.drop n t
def jW:Option V->LM->Prop
 |some v,some u=>RelV v u
 |none,none=>True
 |_,_=>False
def KV {κ:Type}:List (κ×V)->List (κ×Value)->Prop:=Paired fun (p:κ×V) (q:κ×Value)=>p.1=q.1/\RelV p.2 q.2
noncomputable def kV:Key->V
 | .inl i=> .int i
 | .inr x=> .str x
inductive HO where
  |lst (xs:List V)
  |tup (xs:List V)
  |dK (kvs:List (Key×V))|dT (kvs:List (List Key×V))
  |set (S:Int->Bool) (n:Nat)
  |ins (C dx:Addr) (fs:List (Str×V))
  |own (x:Addr)
  |xd (fs:List (Str×V))
  |met (f x:Addr)
  |rng (lo hi:Int)
  |frz (o:Obj) (u:HO)
  |tbl (ps:Array Value)
  |ext (φ:Heap->Prop)
abbrev Hp:=Addr->Option HO
noncomputable def aO (H:Hp) (a:Addr) (o:HO):Hp:=fun b=>if b=a then some o else H b
theorem au {H:Hp} {a:Addr} {o:HO}:aO H a o a=some o:=by unfold aO;rw[if_pos rfl]
theorem aR {H:Hp} {a b:Addr} {o:HO} (h:b≠a):aO H a o b=H b:=by unfold aO;rw[if_neg h]
theorem jO {H:Hp} {a b:Addr} {o u:HO} (h:H a=some o) (h':H b=some u) (d:o≠u):a≠b:=by
 intro e;subst e;rw[h] at h';exact d (Jo h')
theorem eV {H:Hp} {a b:Addr} {o:HO} (h:H a=some o) (h':H b=none):a≠b:=by
 intro e;subst e;rw[h] at h';cases h'
section
variable (P:Program) (w:World)
def cN (H:Hp) (h:Heap) (a:Addr):HO->Prop
 | .lst xs=>xs.length<=sizeLine/\∃(its:LK) (n:Nat),bR xs its/\h.get? a=some {cls:= .type "list",data:= .seq its.toArray n}
 | .tup xs=>xs.length<=sizeLine/\∃its:LK,bR xs its/\IsTup h a its.toArray
 | .dK kvs=>kvs.length<=sizeLine/\(a==sysModules)=false/\∃vs,KV kvs vs/\h.DictOf (aT P w) a vs
 | .dT kvs=>kvs.length<=sizeLine/\(a==sysModules)=false/\∃xs:List (List Key×Addr×Value),
   Paired (fun (p:List Key×V) (q:List Key×Addr×Value)=>p.1=q.1/\H q.2.1=some (.tup (p.1.map kV))/\RelV p.2 q.2.2) kvs xs/\
   ∃o es ep,h.get? a=some o/\o.ExactDict/\o.data= .dict es ep/\es.toList=xs.map (entryOfKey (tupleKind (aT P w)))/\(xs.map (·.1)).Nodup
 | .set S n=>h.SetOf (intKind P w) a S n
 | .ins C dx fs=>H dx=some (.own a)/\fs.length<=1000/\dx≠a/\h.get? a=some (KM C dx)/\
   ∃mA,h.Ns1 dx mA/\(∀f,jW (fs.lookup f) (mA f))/\PySem.Within mA (fs.map (·.1))
 | .own _=>∃o,h.get? a=some o
 | .xd fs=>∃mA,h.Ns1 a mA/\∀f,jW (fs.lookup f) (mA f)
 | .rng lo hi=>∃t u v,h.get? a=some {cls:= .type "range",data:= .fields #[.int lo t,.int hi u,.int 1 v]}
 | .frz o u=>h.get? a=some o/\cN H h a u
 | .tbl ps=>h.get? a=some {cls:= .none,data:= .fields ps}
 | .met f x=>h.get? a=some (PySem.W.methodObj (.ref f) (.ref x))
 | .ext φ=>φ h/\(∃o,h.get? a=some o)/\∀h1 h2:Heap,φ h1->(∀o,h1.get? a=some o->h2.get? a=some o)->φ h2
def jP (H:Hp) (h:Heap):Prop:=∀a o,H a=some o->cN P w H h a o
end
section
variable {P:Program} {w:World} {H H':Hp} {h h':Heap} {a:Addr} {o:HO}
theorem cN.lt (x:cN P w H h a o):a<h.objs.size:=by
 cases o with
 |lst xs=>obtain ⟨_,_,_,_,e⟩:=x;exact Heap.lt_size e
 |tup xs=>obtain ⟨_,_,_,p⟩:=x;exact p.lt
 |dK kvs=>obtain ⟨_,_,_,_,o,_,_,e,_⟩:=x;exact Heap.lt_size e
 |dT kvs=>obtain ⟨_,_,_,_,o,_,_,e,_⟩:=x;exact Heap.lt_size e
 |set S n=>obtain ⟨o,_,_,_,e,_⟩:=x;exact Heap.lt_size e
 |ins C dx fs=>obtain ⟨_,_,_,e,_⟩:=x;exact Heap.lt_size e
 |own y=>obtain ⟨_,e⟩:=x;exact Heap.lt_size e
 |xd fs=>obtain ⟨_,⟨_,_,_,e,_⟩,_⟩:=x;exact Heap.lt_size e
 |rng lo hi=>obtain ⟨_,_,_,e⟩:=x;exact Heap.lt_size e
 |frz ob u=>obtain ⟨e,_⟩:=x;exact Heap.lt_size e
 |tbl ps=>exact Heap.lt_size (show h.get? a=some _ from x)
 |met f y=>exact Heap.lt_size (show h.get? a=some _ from x)
 |ext φ=>obtain ⟨_,⟨_,e⟩,_⟩:=x;exact Heap.lt_size e
theorem Paired.mapP {α β:Type} {F G:α->β->Prop}:∀{l₁:List α} {l₂:List β},Paired F l₁ l₂->(∀a b,F a b->G a b)->Paired G l₁ l₂
 |_,_,.nil,_=> .nil
 |_,_,.cons r t,f=> .cons (f _ _ r) (Paired.mapP t f)
theorem cN.stay (x:cN P w H h a o) (k:∀b u,(b=a∨H b=some (.own a))->h.get? b=some u->h'.get? b=some u)
  (ho:∀b,H b=some (.own a)->H' b=some (.own a)) (ht:∀b xs,H b=some (.tup xs)->H' b=some (.tup xs)):cN P w H' h' a o:=by
 induction o with
 |lst xs=>obtain ⟨z,its,n,r,e⟩:=x;exact ⟨z,its,n,r,k _ _ (.inl rfl) e⟩
 |tup xs=>obtain ⟨z,its,r,ob,e,c⟩:=x;exact ⟨z,its,r,ob,k _ _ (.inl rfl) e,c⟩
 |dK kvs=>obtain ⟨z,y,vs,r,ob,es,ep,e,c⟩:=x;exact ⟨z,y,vs,r,ob,es,ep,k _ _ (.inl rfl) e,c⟩
 |dT kvs=>
  obtain ⟨z,y,xs,r,ob,es,ep,e,c⟩:=x;exact ⟨z,y,xs,Paired.mapP r fun p q z=>⟨z.1,ht _ _ z.2.1,z.2.2⟩,ob,es,ep,k _ _ (.inl rfl) e,c⟩
 |set S n=>obtain ⟨ob,es,ep,t,e,c⟩:=x;exact ⟨ob,es,ep,t,k _ _ (.inl rfl) e,c⟩
 |ins C dx fs=>
  obtain ⟨d,z,ne,e,mA,⟨od,es,ep,e2,c⟩,r⟩:=x;exact ⟨ho _ d,z,ne,k _ _ (.inl rfl) e,mA,⟨od,es,ep,k _ _ (.inr d) e2,c⟩,r⟩
 |own y=>obtain ⟨ob,e⟩:=x;exact ⟨ob,k _ _ (.inl rfl) e⟩
 |xd fs=>obtain ⟨mA,⟨od,es,ep,e,c⟩,r⟩:=x;exact ⟨mA,⟨od,es,ep,k _ _ (.inl rfl) e,c⟩,r⟩
 |rng lo hi=>obtain ⟨t,u,v,e⟩:=x;exact ⟨t,u,v,k _ _ (.inl rfl) e⟩
 |frz ob u ih=>obtain ⟨e,q⟩:=x;exact ⟨k _ _ (.inl rfl) e,ih q⟩
 |tbl ps=>
  have e:h.get? a=some {cls:= .none,data:= .fields ps}:=x;show h'.get? a=some {cls:= .none,data:= .fields ps};exact k a _ (.inl rfl) e
 |met f y=>
  have e:h.get? a=some (PySem.W.methodObj (.ref f) (.ref y)):=x;show h'.get? a=some (PySem.W.methodObj (.ref f) (.ref y));exact k a _ (.inl rfl) e
 |ext φ=>obtain ⟨p,⟨o,e⟩,st⟩:=x;exact ⟨st _ _ p fun o q=>k _ _ (.inl rfl) q,⟨o,k _ _ (.inl rfl) e⟩,st⟩
theorem jP.lt (x:jP P w H h) (e:H a=some o):a<h.objs.size:=(x a o e).lt
theorem jP.fresh (x:jP P w H h) (e:h.objs.size<=a):H a=none:=by
 cases q:H a with
 |none=>rfl
 |some u=>exact absurd (Jb (x.lt q) e) (Kl _)
theorem jP.kept (x:jP P w H h) (k:∀b u,h.get? b=some u->h'.get? b=some u):jP P w H h':=fun a o e=>
 (x a o e).stay (fun b u _ q=>k b u q) (fun _ q=>q) fun _ _ q=>q
theorem jP.laid (x:jP P w H h) (k:∀b u,h.get? b=some u->h'.get? b=some u) (hp:h.objs.size<=a) (new:cN P w (aO H a o) h' a o):jP P w (aO H a o) h':=fun b u e=>by
 have hn:=x.fresh hp
 by_cases hb:b=a
 ·subst hb;rw[au] at e;cases e;exact new
 ·rw[aR hb] at e;exact (x b u e).stay (fun c v _ q=>k c v q) (fun c q=>by rw[aR (eV q hn)];exact q) fun c xs q=>by rw[aR (eV q hn)];exact q
end
def Rd (H:Hp) (a:Addr) (u:HO):Prop:=H a=some u∨∃o,H a=some (.frz o u)
theorem Rd.ok {P:Program} {w:World} {H:Hp} {h:Heap} {a:Addr} {u:HO} (r:Rd H a u) (x:jP P w H h):cN P w H h a u:=by
 rcases r with r|⟨o,r⟩
 ·exact x a u r
 ·obtain ⟨_,q⟩:=x a _ r;exact q
def EN:Option HO->Prop
 |some (.lst _)=>True
 |some (.dK _)=>True
 |some (.dT _)=>True
 |some (.set _ _)=>True
 |some (.ins _ _ _)=>True
 |some (.ext _)=>True
 |_=>False
section
variable {P:Program} {w:World} {H:Hp} {h h':Heap} {x e:Addr} {o':HO}
theorem jP.write (ok:jP P w H h) (mu:EN (H x)) (he:e=x∨H e=some (.own x)) (k:∀b u,b≠e->h.get? b=some u->h'.get? b=some u) (heo:∃u,h'.get? e=some u)
  (new:cN P w (aO H x o') h' x o'):jP P w (aO H x o') h':=fun b u q=>by
 have nown:∀c y,H c=some (.own y)->c≠x:=fun c y r z=>by subst z;rw[r] at mu;exact mu
 have ntup:∀c xs,H c=some (.tup xs)->c≠x:=fun c xs r z=>by subst z;rw[r] at mu;exact mu
 by_cases hb:b=x
 ·subst hb;rw[au] at q;cases q;exact new
 ·rw[aR hb] at q
  by_cases hbe:b=e
  ·have q':H b=some (.own x):=by
    rcases he with z|z
    ·exact absurd (hbe.trans z) hb
    ·rw[hbe];exact z
   rw[q] at q';cases q';obtain ⟨v,hv⟩:=heo;exact ⟨v,by rw[hbe];exact hv⟩
  ·refine (ok b u q).stay (fun c v hc r=>k c v ?_ r) (fun c r=>by rw[aR (nown c b r)];exact r) fun c xs r=>by rw[aR (ntup c xs r)];exact r
   rcases hc with rfl|hc
   ·exact hbe
   ·rintro rfl;rcases he with z|z
    ·exact nown c b hc z
    ·rw[hc] at z;cases z;exact hb rfl
end
structure Un (fs ex:LJ) (H H':Hp) (h h':Heap):Prop where
 keep:∀b o,h.get? b=some o->H b=none->b∉fs->b∉ex->h'.get? b=some o
 slot:∀b o,h.get? b=some o->H b=none->b∈fs->b∉ex->∃sl,h'.get? b=some {o with slots:=sl}
 free:∀b o,h.get? b=some o->H b=none->b∉ex->H' b=none
 there:∀b o,h.get? b=some o->b∉ex->∃o',h'.get? b=some o'
 tups:∀b xs,H b=some (.tup xs)->H' b=some (.tup xs)
 frzs:∀b o u,H b=some (.frz o u)->H' b=some (.frz o u)
 tbls:∀b ps,H b=some (.tbl ps)->∃more,H' b=some (.tbl (ps++more))
section
variable {fs fs' ex ex':LJ} {H H1 H2:Hp} {h h1 h2 h':Heap} {a x e:Addr} {o:HO}
theorem Un.any (u:Un fs ex H H1 h h1) {b:Addr} {ob:Obj} (q:h.get? b=some ob) (n:H b=none) (hx:b∉ex):∃sl,h1.get? b=some {ob with slots:=sl}:=by
 by_cases hb:b∈fs
 ·exact u.slot b ob q n hb hx
 ·exact ⟨ob.slots,u.keep b ob q n hb hx⟩
theorem Un.kept (k:∀b u,h.get? b=some u->h'.get? b=some u):Un fs ex H H h h':=
 ⟨fun b ob q _ _ _=>k b ob q,fun b ob q _ _ _=>⟨ob.slots,k b ob q⟩,fun _ _ _ n _=>n,fun b ob q _=>⟨ob,k b ob q⟩,fun _ _ q=>q,fun _ _ _ q=>q,fun _ ps q=>⟨#[],by rw[q];simp⟩⟩
theorem Un.refl:Un fs ex H H h h:=Un.kept fun _ _ q=>q
theorem Un.laid (k:∀b u,h.get? b=some u->h'.get? b=some u) (hp:h.objs.size<=a) (hn:H a=none):Un fs ex H (aO H a o) h h' where
 keep:=fun b u q _ _ _=>k b u q
 slot:=fun b u q _ _ _=>⟨u.slots,k b u q⟩
 free:=fun b u q n _=>by rw[aR (J6 (Jb (Heap.lt_size q) hp))];exact n
 there:=fun b u q _=>⟨u,k b u q⟩
 tups:=fun b xs q=>by rw[aR (eV q hn)];exact q
 frzs:=fun b u xs q=>by rw[aR (eV q hn)];exact q
 tbls:=fun b ps q=>⟨#[],by rw[aR (eV q hn),q];simp⟩
theorem Un.write (mu:EN (H x)) (he:e=x∨H e=some (.own x)) (k:∀b u,b≠e->h.get? b=some u->h'.get? b=some u) (heo:∃u,h'.get? e=some u):Un fs ex H (aO H x o) h h':=by
 have hx:∀b,H b=none->b≠x:=fun b n z=>by subst z;rw[n] at mu;exact mu
 have hb:∀b,H b=none->b≠e:=fun b n z=>by
  subst z;rcases he with r|r
  ·exact hx b n r
  ·rw[n] at r;cases r
 have hm:∀b u,H b=some u->¬EN (some u)->b≠x:=fun b u q nm z=>by subst z;rw[q] at mu;exact nm mu
 refine ⟨fun b u q n _ _=>k b u (hb b n) q,fun b u q n _ _=>⟨u.slots,k b u (hb b n) q⟩,fun b u q n _=>by rw[aR (hx b n)];exact n,fun b u q _=>?_,
  fun b xs q=>by rw[aR (hm b _ q fun z=>z)];exact q,fun b u xs q=>by rw[aR (hm b _ q fun z=>z)];exact q,fun b ps q=>⟨#[],by rw[aR (hm b _ q fun z=>z),q];simp⟩⟩
 by_cases hbe:b=e
 ·subst hbe;exact heo
 ·exact ⟨u,k b u hbe q⟩
end
noncomputable def GQ (h:Heap) (H:Hp):LJ:=(JK h.objs.size).filter fun a=>(H a).isSome
noncomputable def qG (h:Heap) (H:Hp):Heap:=PySem.W.hideAll h (GQ h H)
theorem xX (h:Heap) (H:Hp):(qG h H).objs.size=h.objs.size:=PySem.W.hideAll_size _ _
theorem zA {h:Heap} {H:Hp} {b:Addr} {o:Obj} (e:h.get? b=some o) (n:H b=none):(qG h H).get? b=some o:=
 PySem.W.hideAll_get _ e fun hm=>by
  have q:(H b).isSome=true:=(K1.mp hm).2;rw[n] at q;simp at q
theorem Bw {h:Heap} {H:Hp} {b:Addr} {o:Obj} (e:(qG h H).get? b=some o):h.get? b=some o/\H b=none:=by
 have e':h.get? b=some o:=PySem.W.of_hideAll (GQ h H) e;refine ⟨e',?_⟩;cases q:H b with
 |none=>rfl
 |some x=>
  have hm:b∈GQ h H:=K1.mpr ⟨JZ.mpr (Heap.lt_size e'),by simp[q]⟩
  have z:(qG h H).get? b=none:=PySem.W.hideAll_none (GQ h H) hm;rw[z] at e;cases e
structure Mod (K:IS) (mg:LF) (base:Heap):Prop where
 kin:K.In base
 glob:base.Ns mainGlobals mg
 blt:∃mb,base.Ns builtinsNs mb/\∀x:Str,x≠ "__name__" ->mb x=bootBuiltins x
 nolimit:base.NoLimit
structure Cx where
 prog:Program
 w:World
 K:IS
 mg:Str->LM
 base:Heap
 A:Around
 N:LI
 s₀:Shared
 H₀:Hp
 env:Env
 outer:List Env
 stack:List Env
 ex:LJ
 fn:Str->Bool
 calm:Bool
 pn:LG
 xe:Value->Shared->Prop
noncomputable def xY (l:List Env):LJ:=l.filterMap (·.frame)
abbrev Cx.fs (X:Cx):LJ:=xY X.outer
def GR (sc:Scope) (x:Str):Prop:=sc.names.lookup x=some .local∨sc.names.lookup x=some .cell∨sc.names.lookup x=some .free
def Loc (sc:Scope) (x:Str):Prop:=sc.names.lookup x=some .local∨sc.names.lookup x=some .cell
def Look (env:Env) (h:Heap) (m:LF) (x:Str) (u:Value):Prop:=
 (env.kindOf x=some .local/\m x=some u)∨((env.kindOf x=some .cell∨env.kindOf x=some .free)/\∃c,env.cells.lookup x=some c/\h.IsCell c (some u))
structure Cx.Ok (X:Cx):Prop where
 mod:Mod X.K X.mg X.base
 kind:X.env.scope.kind= .function
 glob:X.env.globals=mainGlobals
 blt:X.env.builtins=builtinsNs
 above:X.s₀.heap.objs.size<=X.env.locals
 inj:∀x y c,X.env.cells.lookup x=some c->X.env.cells.lookup y=some c->x=y
 has:∀x,(X.env.kindOf x=some .cell∨X.env.kindOf x=some .free)->∃c,X.env.cells.lookup x=some c
 cab:∀x c,X.fn x=true->X.env.cells.lookup x=some c->X.s₀.heap.objs.size<=c
 hd:X.calm=true->X.A.handled=none
 frames:X.A.frames=some X.stack
 stk:X.stack=X.outer∨(X.stack=X.env::X.outer/\X.env.frame=some X.env.locals)
 exf:∀b∈X.ex,b≠X.env.locals/\∀x c,X.env.cells.lookup x=some c->c≠b
 bs:∀b o,X.base.get? b=some o->X.s₀.heap.get? b=some o/\X.H₀ b=none
 bsz:X.base.objs.size<=X.s₀.heap.objs.size
 noex:∀b o,X.base.get? b=some o->b∉X.ex
 exfs:∀b∈X.ex,b∉X.fs
 funs:X.s₀.heap.FunFrames X.base X.outer
 frf:∀b∈X.fs,X.H₀ b=none
structure aW (X:Cx) (pins:LG) (σ:List (Option V)) (H:Hp) (s:Shared):Prop where
 ok:X.Ok
 os:s.os=X.s₀.os
 bare:AllBare s.gens
 base:Un X.fs X.ex X.H₀ H X.s₀.heap s.heap
 loc:∃m,s.heap.Ns X.env.locals m/\∀(i:Nat) (x:Str) (v:V),X.N[i]?=some x->σ[i]?=some (some v)->GR X.env.scope x->∃u,RelV v u/\Look X.env s.heap m x u
 cell:∀x c,X.env.cells.lookup x=some c->∃v,s.heap.IsCell c v
 free:H X.env.locals=none
 freeC:∀x c,X.env.cells.lookup x=some c->H c=none
 pin:∀p∈X.pn++pins,s.heap.get? p.1=some p.2/\H p.1=none/\p.1≠X.env.locals/\p.1∉X.fs/\∀v,p.2.data≠ .cell v
 hok:jP X.prog X.w H s.heap
 len:σ.length=X.N.length
variable {X:Cx} {pins:LG} {σ:List (Option V)} {H H':Hp} {s:Shared} {h':Heap}
theorem Cx.Ok.nofr (ok:X.Ok) {b:Addr} {o:Obj} (e:X.base.get? b=some o):b∉X.fs:=fun hb=>by
 have:=(ok.funs.mem hb).1;rw[e] at this;cases this
theorem aW.bs (I:aW X pins σ H s):∀b o,X.base.get? b=some o->s.heap.get? b=some o/\H b=none:=fun b o e=>
 ⟨I.base.keep b o (I.ok.bs b o e).1 (I.ok.bs b o e).2 (I.ok.nofr e) (I.ok.noex b o e),I.base.free b o (I.ok.bs b o e).1 (I.ok.bs b o e).2 (I.ok.noex b o e)⟩
theorem aW.bk (I:aW X pins σ H s):∀b o,X.base.get? b=some o->s.heap.get? b=some o:=fun b o e=>(I.bs b o e).1
theorem aW.mod (I:aW X pins σ H s):Mod X.K X.mg X.base:=I.ok.mod
theorem aW.kIn (I:aW X pins σ H s):X.K.In s.heap:=I.ok.mod.kin.keeps I.bk
theorem aW.lt (I:aW X pins σ H s):X.env.locals<s.heap.objs.size:=let ⟨_,hn,_⟩:=I.loc;hn.lt
theorem aW.sz (I:aW X pins σ H s):X.s₀.heap.objs.size<=s.heap.objs.size:=JV I.ok.above (Nat.le_of_lt I.lt)
theorem aW.nofs (I:aW X pins σ H s) {a:Addr} (h:s.heap.objs.size<=a):a∉X.fs:=fun hb=>by
 obtain ⟨_,o,ho,_⟩:=I.ok.funs.mem hb;exact absurd (Jb (Heap.lt_size ho) (JV I.sz h)) (Kl _)
theorem aW.cne (I:aW X pins σ H s):∀x c,X.env.cells.lookup x=some c->c≠X.env.locals:=fun x c e z=>by
 obtain ⟨v,o,ho,hd⟩:=I.cell x c e;obtain ⟨m,⟨o',es,ep,ho',hd',_⟩,_⟩:=I.loc;rw[z,ho'] at ho;cases ho;rw[hd'] at hd;cases hd
theorem aW.funs (I:aW X pins σ H s):s.heap.FunFrames X.base X.outer:=by
 have all:∀(l:List Env),(∀b∈xY l,b∈X.fs)->X.s₀.heap.FunFrames X.base l->s.heap.FunFrames X.base l:=by
  intro l
  induction l with
  |nil=>intro _ _;trivial
  |cons env r ih=>
   intro hs hl;obtain ⟨hk,⟨L,o,hf,hn,ho,hd⟩,hr⟩:=hl;have hL:L∈X.fs:=hs L (by unfold xY;rw[List.filterMap_cons,hf];exact JO)
   obtain ⟨sl,e⟩:=I.base.slot L o ho (I.ok.frf L hL) hL fun z=>I.ok.exfs L z hL
   exact ⟨hk,⟨L,_,hf,hn,e,hd⟩,ih (fun b hb=>hs b (by unfold xY;rw[List.filterMap_cons,hf];exact J9 _ hb)) hr⟩
 exact all X.outer (fun _ hb=>hb) I.ok.funs
theorem aW.stack (I:aW X pins σ H s):s.heap.FunFrames X.base X.stack:=by
 rcases I.ok.stk with e|⟨e,hf⟩
 ·rw[e];exact I.funs
 ·rw[e];obtain ⟨m,hn,_⟩:=I.loc;refine .cons (by rw[I.ok.kind];decide) hf hn ?_ I.funs
  exact Heap.get?_none_of_le (JV I.ok.bsz I.ok.above)
theorem aW.stkSub (I:aW X pins σ H s):∀b∈xY X.stack,b∈X.env.locals::X.fs:=fun b hb=>by
 rcases I.ok.stk with e|⟨e,hf⟩
 ·rw[e] at hb;exact J9 _ hb
 ·rw[e] at hb;unfold xY at hb;rw[List.filterMap_cons,hf] at hb;exact hb
theorem aW.stkFree (I:aW X pins σ H s):∀b∈xY X.stack,H b=none:=fun b hb=>by
 rcases IZ.mp (I.stkSub b hb) with e|hb
 ·rw[e];exact I.free
 ·obtain ⟨_,o,ho,_⟩:=I.ok.funs.mem hb;exact I.base.free b o ho (I.ok.frf b hb) fun z=>I.ok.exfs b z hb
theorem aW.step {g':Array GenState} {t':Nat} {d':Drawn} {ch:LJ} (I:aW X pins σ H s)
  (hch:∀b∈ch,(b∈X.ex∨X.s₀.heap.objs.size<=b)/\b≠X.env.locals/\(∀x c,X.env.cells.lookup x=some c->c≠b)/\∀p∈X.pn++pins,p.1≠b)
  (keep:∀b o,b≠X.env.locals->b∉X.fs->b∉ch->s.heap.get? b=some o->H b=none->h'.get? b=some o)
  (slot:∀b o,b≠X.env.locals->b∈X.fs->b∉ch->s.heap.get? b=some o->H b=none->∃sl,h'.get? b=some {o with slots:=sl}) (free:∀b o,b∉ch->s.heap.get? b=some o->H b=none->H' b=none)
  (there:∀b o,b∉ch->s.heap.get? b=some o->∃o',h'.get? b=some o')
  (tups:∀b xs,H b=some (.tup xs)->H' b=some (.tup xs)) (frzs:∀b o u,H b=some (.frz o u)->H' b=some (.frz o u)) (tbls:∀b ps,H b=some (.tbl ps)->∃more,H' b=some (.tbl (ps++more)))
  (ns:∀m,s.heap.Ns X.env.locals m->h'.Ns X.env.locals m) (hok:jP X.prog X.w H' h') (hg:AllBare g'):
  aW X pins σ H' {s with heap:=h',gens:=g',drawn:=d',toks:=t'}:=by
 have neL:∀b o,X.s₀.heap.get? b=some o->b≠X.env.locals:=fun b o e=>J6 (Jb (Heap.lt_size e) I.ok.above)
 have neC:∀b o,X.s₀.heap.get? b=some o->b∉X.ex->b∉ch:=fun b o e hx hb=>by
  rcases (hch b hb).1 with z|z
  ·exact hx z
  ·exact absurd (Jb (Heap.lt_size e) z) (Kl _)
 have cellK:∀x c,X.env.cells.lookup x=some c->∀v,s.heap.IsCell c v->h'.IsCell c v:=fun x c e v ⟨o,ho,hd⟩=>by
  have nch:c∉ch:=fun z=>(hch c z).2.2.1 x c e rfl
  by_cases hc:c∈X.fs
  ·obtain ⟨sl,q⟩:=slot c o (I.cne x c e) hc nch ho (I.freeC x c e);exact ⟨_,q,hd⟩
  ·exact ⟨o,keep c o (I.cne x c e) hc nch ho (I.freeC x c e),hd⟩
 refine ⟨I.ok,I.os,hg,⟨fun b o e n hb hx=>?_,fun b o e n hb hx=>?_,fun b o e n hx=>?_,fun b o e hx=>?_,fun b xs e=>tups b xs (I.base.tups b xs e),fun b o xs e=>frzs b o xs (I.base.frzs b o xs e),fun b ps e=>?_⟩,?_,fun x c e=>?_,?_,fun x c e=>?_,fun p hp=>?_,hok,I.len⟩
 ·exact keep b o (neL b o e) hb (neC b o e hx) (I.base.keep b o e n hb hx) (I.base.free b o e n hx)
 ·obtain ⟨sl,e1⟩:=I.base.slot b o e n hb hx;obtain ⟨sl',e2⟩:=slot b _ (neL b o e) hb (neC b o e hx) e1 (I.base.free b o e n hx);exact ⟨sl',e2⟩
 ·obtain ⟨o',e1⟩:=I.base.there b o e hx;exact free b o' (neC b o e hx) e1 (I.base.free b o e n hx)
 ·obtain ⟨o',e1⟩:=I.base.there b o e hx;exact there b o' (neC b o e hx) e1
 ·obtain ⟨m1,e1⟩:=I.base.tbls b ps e;obtain ⟨m2,e2⟩:=tbls b _ e1;exact ⟨m1++m2,by rw[e2,Array.append_assoc]⟩
 ·obtain ⟨m,hn,hl⟩:=I.loc;refine ⟨m,ns m hn,fun i x v e1 e2 e3=>?_⟩
  obtain ⟨u,r,l⟩:=hl i x v e1 e2 e3;refine ⟨u,r,?_⟩;rcases l with l|⟨k,c,e,z⟩
  ·exact .inl l
  ·exact .inr ⟨k,c,e,cellK x c e _ z⟩
 ·obtain ⟨v,z⟩:=I.cell x c e;exact ⟨v,cellK x c e v z⟩
 ·obtain ⟨m,⟨o,_,_,ho,_⟩,_⟩:=I.loc;exact free _ o (fun z=>(hch _ z).2.1 rfl) ho I.free
 ·obtain ⟨v,o,ho,hd⟩:=I.cell x c e;exact free c o (fun z=>(hch c z).2.2.1 x c e rfl) ho (I.freeC x c e)
 ·obtain ⟨e,n,ne,nf,d⟩:=I.pin p hp;have nch:p.1∉ch:=fun z=>(hch p.1 z).2.2.2 p hp rfl
  exact ⟨keep p.1 p.2 ne nf nch e n,free p.1 p.2 nch e n,ne,nf,d⟩
theorem aW.un {t':Nat} (I:aW X pins σ H s) (u:Un X.fs [] H H' s.heap h') (hok:jP X.prog X.w H' h'):aW X pins σ H' {s with heap:=h',toks:=t'}:=by
 obtain ⟨m,⟨o,es,ep,ho,r⟩,_⟩:=id I.loc;obtain ⟨sl,hL⟩:=u.any ho I.free (by simp)
 exact I.step (g':=s.gens) (d':=s.drawn) (ch:= []) (fun _ z=>nomatch z) (fun b o _ hb _ e n=>u.keep b o e n hb (by simp)) (fun b o _ hb _ e n=>u.slot b o e n hb (by simp)) (fun b o _ e n=>u.free b o e n (by simp)) (fun b o _ e=>u.there b o e (by simp)) u.tups u.frzs u.tbls (fun m' hm=>by
  obtain ⟨o',es',ep',ho',r'⟩:=hm;rw[ho] at ho';cases ho';exact ⟨_,es',ep',hL,r'⟩) hok I.bare
theorem aW.call {g':Array GenState} {t':Nat} {d':Drawn} {ch:LJ} (I:aW X pins σ H s) (u:Un (xY X.stack) ch H H' s.heap h') (hok:jP X.prog X.w H' h') (hg:AllBare g')
  (hch:∀b∈ch,(b∈X.ex∨X.s₀.heap.objs.size<=b)/\b≠X.env.locals/\(∀x c,X.env.cells.lookup x=some c->c≠b)/\∀p∈X.pn++pins,p.1≠b):
  aW X pins σ H' {s with heap:=h',gens:=g',drawn:=d',toks:=t'}:=by
 obtain ⟨m,⟨o,es,ep,ho,r⟩,_⟩:=id I.loc;obtain ⟨sl,hL⟩:=u.any ho I.free fun z=>(hch _ z).2.1 rfl
 exact I.step (ch:=ch) hch (fun b o hL hb hc e n=>u.keep b o e n (fun z=>(IZ.mp (I.stkSub b z)).elim hL hb) hc) (fun b o _ _ hc e n=>u.any e n hc) (fun b o hc e n=>u.free b o e n hc) (fun b o hc e=>u.there b o e hc) u.tups u.frzs u.tbls (fun m' hm=>by
  obtain ⟨o',es',ep',ho',r'⟩:=hm;rw[ho] at ho';cases ho';exact ⟨_,es',ep',hL,r'⟩) hok hg
theorem aW.turned {t':Nat} {it:Addr} (I:aW X pins σ H s) (k:∀b o,b≠it->s.heap.get? b=some o->h'.get? b=some o) (hn:H it=none) (hL:it≠X.env.locals)
  (h1:it∈X.ex∨X.s₀.heap.objs.size<=it) (h2:∀x c,X.env.cells.lookup x=some c->c≠it) (h3:∀p∈X.pn++pins,p.1≠it):aW X pins σ H {s with heap:=h',toks:=t'}:=by
 have nit:∀b u,H b=some u->b≠it:=fun b u e z=>by rw[z,hn] at e;cases e
 refine I.step (g':=s.gens) (d':=s.drawn) (ch:= [it]) (fun b hb=>?_) (fun b o _ _ hc e _=>k b o (fun z=>hc (by simp[z])) e) (fun b o _ _ hc e _=>⟨o.slots,k b o (fun z=>hc (by simp[z])) e⟩) (fun _ _ _ _ n=>n)
  (fun b o hc e=>⟨o,k b o (fun z=>hc (by simp[z])) e⟩) (fun _ _ e=>e) (fun _ _ _ e=>e) (fun b ps e=>⟨#[],by rw[e];simp⟩) (fun m hm=>?_) (fun b u e=>?_) I.bare
 ·have e:b=it:=by simpa using hb
  subst e;exact ⟨h1,hL,h2,h3⟩
 ·obtain ⟨o,es,ep,ho,r⟩:=hm;exact ⟨o,es,ep,k _ o (Ne.symm hL) ho,r⟩
 ·refine (I.hok b u e).stay (fun c v hc q=>k c v ?_ q) (fun _ q=>q) fun _ _ q=>q
  rcases hc with z|z
  ·rw[z];exact nit b u e
  ·exact nit c _ z
theorem aW.tok (I:aW X pins σ H s) (t:Nat):aW X pins σ H {s with toks:=t}:=I.un (h':=s.heap) (t':=t) Un.refl I.hok
theorem aW.kept {t':Nat} (I:aW X pins σ H s) (k:∀b u,s.heap.get? b=some u->h'.get? b=some u):aW X pins σ H {s with heap:=h',toks:=t'}:=I.un (Un.kept k) (I.hok.kept k)
theorem aW.laid {a:Addr} {o:HO} {t':Nat} (I:aW X pins σ H s) (k:∀b u,s.heap.get? b=some u->h'.get? b=some u) (hp:s.heap.objs.size<=a) (new:cN X.prog X.w (aO H a o) h' a o):
  aW X pins σ (aO H a o) {s with heap:=h',toks:=t'}:=I.un (Un.laid k hp (I.hok.fresh hp)) (I.hok.laid k hp new)
theorem aW.write {x e:Addr} {o:HO} {t':Nat} (I:aW X pins σ H s) (mu:EN (H x)) (he:e=x∨H e=some (.own x)) (k:∀b u,b≠e->s.heap.get? b=some u->h'.get? b=some u) (heo:∃u,h'.get? e=some u)
  (new:cN X.prog X.w (aO H x o) h' x o):aW X pins σ (aO H x o) {s with heap:=h',toks:=t'}:=I.un (Un.write mu he k heo) (I.hok.write mu he k heo new)
theorem aW.pins_of {pins':LG} (I:aW X pins σ H s) (h:∀p∈pins',s.heap.get? p.1=some p.2/\H p.1=none/\p.1≠X.env.locals/\p.1∉X.fs/\∀v,p.2.data≠ .cell v):aW X pins' σ H s:=
 ⟨I.ok,I.os,I.bare,I.base,I.loc,I.cell,I.free,I.freeC,fun p hp=>(JA.mp hp).elim (fun z=>I.pin p (List.mem_append_left _ z)) (h p),I.hok,I.len⟩
theorem sy {N:LI} (hN:N.Nodup) {i j:Nat} {x:Str} (a:N[i]?=some x) (b:N[j]?=some x):i=j:=by
 obtain ⟨h1,e1⟩:=IP.mp a;obtain ⟨h2,e2⟩:=IP.mp b;exact (List.getElem_inj hN).mp (e1.trans e2.symm)
theorem ph {M:Model} {A:Around} {E:LD} {i:Nat} {x:Str} {v:V} {u:Value} {Q:Unit->Shared->Prop} (I:aW X pins σ H s) (hN:X.N.Nodup) (hi:X.N[i]?=some x) (hx:Loc X.env.scope x) (r:RelV v u)
  (h:∀s',aW X pins (σ.set i (some v)) H s'->(∃a,Heap.SameBut a s.heap s'.heap/\(a=X.env.locals∨X.env.cells.lookup x=some a))->Q () s') (hf:X.fn x=true∨X.env.scope.names.lookup x=some .local:=by first|exact .inl rfl|exact .inr rfl|assumption):wpAny M A (storeName X.env x u) Q E s:=by
 obtain ⟨m,hn,hl⟩:=id I.loc;have hcls:(X.env.scope.kind== .class||(X.env.scope.kind== .module&&X.env.locals !=X.env.globals))=false:=by rw[I.ok.kind];rfl
 have hiσ:i<σ.length:=by rw[I.len];exact (IP.mp hi).1
 have cne:=I.cne;have tracked:∀{a:Addr} {h':Heap},(∃o,s.heap.get? a=some o/\H a=none)->Heap.SameBut a s.heap h'->jP X.prog X.w H h':=fun {a h'} ha hs b ob e=>by
  obtain ⟨_,_,hfree⟩:=ha;refine (I.hok b ob e).stay (fun c w' hc q=>(hs.2 c ?_).trans q) (fun _ q=>q) fun _ _ q=>q
  rintro rfl;rcases hc with rfl|hc
  ·rw[hfree] at e;cases e
  ·rw[hfree] at hc;cases hc
 rcases hx with hk|hk
 ·refine wpAny_storeName_local hk hn (fun h' hn' hs=>?_) hcls
  obtain ⟨oL,_,_,hoL,_⟩:=id hn;refine h _ ⟨I.ok,I.os,I.bare,⟨fun b o e n hb hx=>?_,fun b o e n hb hx=>?_,I.base.free,fun b o e hx=>?_,I.base.tups,I.base.frzs,I.base.tbls⟩,⟨_,hn',fun j y v' e1 e2 e3=>?_⟩,fun y c e=>?_,I.free,I.freeC,fun p hp=>?_,tracked ⟨oL,hoL,I.free⟩ hs,by simpa using I.len⟩ ⟨_,hs,.inl rfl⟩
  ·exact (hs.2 b (J6 (Jb (Heap.lt_size e) I.ok.above))).trans (I.base.keep b o e n hb hx)
  ·obtain ⟨sl,e1⟩:=I.base.slot b o e n hb hx;exact ⟨sl,(hs.2 b (J6 (Jb (Heap.lt_size e) I.ok.above))).trans e1⟩
  ·obtain ⟨o',e1⟩:=I.base.there b o e hx;exact ⟨o',(hs.2 b (J6 (Jb (Heap.lt_size e) I.ok.above))).trans e1⟩
  ·by_cases hj:j=i
   ·subst hj;rw[hi] at e1;cases e1;rw[List.getElem?_set_self hiσ] at e2;cases e2;exact ⟨u,r,.inl ⟨hk,by simp⟩⟩
   ·rw[List.getElem?_set_ne (Ne.symm hj)] at e2;obtain ⟨u',r',q⟩:=hl j y v' e1 e2 e3;refine ⟨u',r',?_⟩;rcases q with ⟨k,e⟩|⟨k,c,e,z⟩
    ·refine .inl ⟨k,?_⟩;have:y≠x:=fun e=>hj (sy hN e1 (e▸hi))
     simp[this,e]
    ·exact .inr ⟨k,c,e,z.sameBut hs (cne y c e)⟩
  ·obtain ⟨w',z⟩:=I.cell y c e;exact ⟨w',z.sameBut hs (cne y c e)⟩
  ·obtain ⟨e,n,ne,nf,d⟩:=I.pin p hp;exact ⟨(hs.2 p.1 ne).trans e,n,ne,nf,d⟩
 ·have hfn:X.fn x=true:=by
   rcases hf with z|z
   ·exact z
   ·rw[z] at hk;cases hk
  obtain ⟨c,hc⟩:=I.ok.has x (.inl hk);obtain ⟨w',z⟩:=I.cell x c hc;refine wpAny_storeName_cell I.ok.kind hk hc z (fun h' hc' hs=>?_)
  obtain ⟨oc,hoc,hocd⟩:=id z;refine h {s with heap:=h'} ⟨I.ok,I.os,I.bare,⟨fun b o e n hb hx=>?_,fun b o e n hb hx=>?_,I.base.free,fun b o e hx=>?_,I.base.tups,I.base.frzs,I.base.tbls⟩,⟨m,hn.sameBut hs (Ne.symm (cne x c hc)),fun j y v' e1 e2 e3=>?_⟩,fun y c' e=>?_,I.free,I.freeC,fun p hp=>?_,tracked ⟨oc,hoc,I.freeC x c hc⟩ hs,by simpa using I.len⟩ ⟨c,hs,.inr hc⟩
  ·exact (hs.2 b (J6 (Jb (Heap.lt_size e) (I.ok.cab x c hfn hc)))).trans (I.base.keep b o e n hb hx)
  ·obtain ⟨sl,e1⟩:=I.base.slot b o e n hb hx;exact ⟨sl,(hs.2 b (J6 (Jb (Heap.lt_size e) (I.ok.cab x c hfn hc)))).trans e1⟩
  ·obtain ⟨o',e1⟩:=I.base.there b o e hx;exact ⟨o',(hs.2 b (J6 (Jb (Heap.lt_size e) (I.ok.cab x c hfn hc)))).trans e1⟩
  ·by_cases hj:j=i
   ·subst hj;rw[hi] at e1;cases e1;rw[List.getElem?_set_self hiσ] at e2;cases e2;exact ⟨u,r,.inr ⟨.inl hk,c,hc,hc'⟩⟩
   ·rw[List.getElem?_set_ne (Ne.symm hj)] at e2;obtain ⟨u',r',q⟩:=hl j y v' e1 e2 e3;refine ⟨u',r',?_⟩;rcases q with q|⟨k,c',e,z'⟩
    ·exact .inl q
    ·refine .inr ⟨k,c',e,z'.sameBut hs ?_⟩;rintro rfl;exact hj (sy hN e1 (I.ok.inj _ _ _ e hc▸hi))
  ·by_cases hcc:c'=c
   ·subst hcc;exact ⟨_,hc'⟩
   ·obtain ⟨w2,z2⟩:=I.cell y c' e;exact ⟨w2,z2.sameBut hs hcc⟩
  ·obtain ⟨e,n,ne,nf,d⟩:=I.pin p hp;refine ⟨(hs.2 p.1 ?_).trans e,n,ne,nf,d⟩;intro q;rw[q,hoc] at e;have q':oc=p.2:=Jo e;exact d w' (by rw[<-q'];exact hocd)
theorem m9 {M:Model} {A:Around} {E:LD} {i:Nat} {x:Str} {v:V} {u:Value} {Q:Unit->Shared->Prop} (I:aW X pins σ H s) (hN:X.N.Nodup) (hi:X.N[i]?=some x) (hx:Loc X.env.scope x) (r:RelV v u)
  (h:∀s',aW X pins (σ.set i (some v)) H s'->Q () s') (hf:X.fn x=true∨X.env.scope.names.lookup x=some .local:=by first|exact .inl rfl|exact .inr rfl|assumption):wpAny M A (storeName X.env x u) Q E s:=
 ph I hN hi hx r (fun s' I' _=>h s' I') hf
theorem aW.call' {s':Shared} {ch:LJ} (I:aW X pins σ H s) (ho:s'.os=s.os) (u:Un (xY X.stack) ch H H' s.heap s'.heap) (hok:jP X.prog X.w H' s'.heap) (hg:AllBare s'.gens)
  (hch:∀b∈ch,(b∈X.ex∨X.s₀.heap.objs.size<=b)/\b≠X.env.locals/\(∀x c,X.env.cells.lookup x=some c->c≠b)/\∀p∈X.pn++pins,p.1≠b):aW X pins σ H' s':=by
 obtain ⟨h',g',d',t',o'⟩:=s';have e:o'=s.os:=ho;subst e;exact I.call (g':=g') (t':=t') (d':=d') u hok hg hch
abbrev XK:=Value->LL->Hp->Prop
abbrev St:=List (Option V)
abbrev VK:=V->Hp->Prop
abbrev TE:=St->Hp->VK->Prop
abbrev TT:=St->Hp->(Bool->Hp->Prop)->Prop
abbrev TA:=St->Hp->(List V->Hp->Prop)->Prop
structure Ends where
 nx:St->Hp->Prop
 rt:VK
 bk:St->Hp->Prop:=fun _ _=>False
 ct:St->Hp->Prop:=fun _ _=>False
abbrev TS:=Ends->St->Hp->Prop
def EP (X:Cx) (pins:LG) (σ:St) (Q:VK) (u:Value) (s':Shared):Prop:=∃v H',aW X pins σ H' s'/\RelV v u/\Q v H'
def TP (X:Cx) (pins:LG) (σ:St) (Q:Bool->Hp->Prop) (b:Bool) (s':Shared):Prop:=∃H',aW X pins σ H' s'/\Q b H'
def AP (X:Cx) (pins:LG) (σ:St) (Q:List V->Hp->Prop) (us:LK) (s':Shared):Prop:=∃vs H',aW X pins σ H' s'/\bR vs us/\Q vs H'
def SP (X:Cx) (pins:LG) (D:Ends) (f:Flow) (s':Shared):Prop:=
 match f with
 | .next=>∃σ' H',aW X pins σ' H' s'/\D.nx σ' H'
 | .brk=>∃σ' H',aW X pins σ' H' s'/\D.bk σ' H'
 | .cont=>∃σ' H',aW X pins σ' H' s'/\D.ct σ' H'
 | .ret u=>∃v σ' H',aW X pins σ' H' s'/\RelV v u/\D.rt v H'
def PE (X:Cx) (e:Expr) (t:TE):Prop:=
 ∀(pins:LG) (s:Shared) (σ:St) (H:Hp) (Q:VK),aW X pins σ H s->t σ H Q->wpAny (model X.prog X.w) X.A (eval e X.env) (EP X pins σ Q) X.xe s
def PT (X:Cx) (e:Expr) (t:TT):Prop:=
 ∀(pins:LG) (s:Shared) (σ:St) (H:Hp) (Q:Bool->Hp->Prop),aW X pins σ H s->t σ H Q->wpAny (model X.prog X.w) X.A (isTrue e X.env (eval e X.env)) (TP X pins σ Q) X.xe s
def PW (X:Cx) (e:Expr) (t:TT):Prop:=
 ∀(whole:Sem Value) (pins:LG) (s:Shared) (σ:St) (H:Hp) (Q:Bool->Hp->Prop),aW X pins σ H s->t σ H Q->wpAny (model X.prog X.w) X.A (isTrue e X.env whole) (TP X pins σ Q) X.xe s
theorem PW.pt {X:Cx} {e:Expr} {t:TT} (h:PW X e t):PT X e t:=h _
def PA (X:Cx) (es:List Expr) (t:TA):Prop:=
 ∀(pos:Pos) (pins:LG) (s:Shared) (σ:St) (H:Hp) (Q:List V->Hp->Prop),aW X pins σ H s->t σ H Q->wpAny (model X.prog X.w) X.A (spliced (backTo pos (starEach es X.env))) (AP X pins σ Q) X.xe s
def PS (X:Cx) (st:Stmt) (t:TS):Prop:=
 ∀(pins:LG) (s:Shared) (σ:St) (H:Hp) (D:Ends),aW X pins σ H s->t D σ H->wpAny (model X.prog X.w) X.A (exec st X.env) (SP X pins D) X.xe s
def xZ (X:Cx) (st:List Stmt) (t:TS):Prop:=
 ∀(pins:LG) (s:Shared) (σ:St) (H:Hp) (D:Ends),aW X pins σ H s->t D σ H->wpAny (model X.prog X.w) X.A (execs st X.env) (SP X pins D) X.xe s
theorem cu {α:Type} {t:Sem α} {Q Q':α->Shared->Prop} {M:Model} {A:Around} {E:LD} {s:Shared} (h:wpAny M A t Q E s) (hQ:∀a s,Q a s->Q' a s):wpAny M A t Q' E s:=wpAny_mono h hQ fun _ _ x=>x
section
noncomputable def mV (o:Option (Option V)) (k:V->Prop):Prop:=match o with|some (some v)=>k v|_=>False
noncomputable def mB (x:V) (k:Bool->Prop):Prop:=match x with| .bl c=>k c|_=>False
noncomputable def mI (x:V) (k:Int->Prop):Prop:=match x with| .int i=>k i|_=>False
theorem mV.e {o:Option (Option V)} {k:V->Prop} (h:mV o k):∃v,o=some (some v)/\k v:=by
 unfold mV at h
 split at h
 ·exact ⟨_,rfl,h⟩
 ·exact h.elim
theorem mB.e {x:V} {k:Bool->Prop} (h:mB x k):∃v,x= .bl v/\k v:=by
 unfold mB at h
 split at h
 ·exact ⟨_,rfl,h⟩
 ·exact h.elim
theorem mI.e {x:V} {k:Int->Prop} (h:mI x k):∃v,x= .int v/\k v:=by
 unfold mI at h
 split at h
 ·exact ⟨_,rfl,h⟩
 ·exact h.elim
theorem mI.e2 {x y:V} {k:Int->Int->Prop} (h:mI x fun i=>mI y fun j=>k i j):∃i j,x= .int i/\y= .int j/\k i j:=by
 obtain ⟨i,hi,h⟩:=h.e;obtain ⟨j,hj,h⟩:=h.e;exact ⟨i,j,hi,hj,h⟩
theorem mV.i {v:V} {k:V->Prop} (h:k v):mV (some (some v)) k:=h
theorem mB.i {v:Bool} {k:Bool->Prop} (h:k v):mB (.bl v) k:=h
def EO (i:Nat):TE:=fun σ H Q=>mV σ[i]? fun v=>Q v H
def tC (v:V):TE:=fun _ H Q=>Q v H
theorem CT {i:Nat} {x:Str} {pos:Pos} (hN:X.N[i]?=some x) (hv:GR X.env.scope x) (hd:(x==("__debug__" :Str))=false:=by decide) (hcd:(x==("__classdict__" :Str))=false:=by decide):PE X (.Name x pos) (EO i):=by
 intro pins s σ H Q I h;obtain ⟨v,e,h⟩:=mV.e h;obtain ⟨m,hn,hl⟩:=I.loc;obtain ⟨u,r,l⟩:=hl i x v hN e hv;have fin:EP X pins σ Q u s:=⟨v,H,I,r,h⟩;rcases l with ⟨hk,hm⟩|⟨hk,c,hc,hcell⟩
 ·exact wpAny_Name (wpAny_loadName_local I.ok.kind hk hn hm fin) hd
 ·rcases hk with hk|hk
  ·exact wpAny_Name (wpAny_loadName_cell I.ok.kind hk hc hcell fin) hd
  ·exact wpAny_Name (wpAny_loadName_free I.ok.kind hk hc hcell fin hcd) hd
theorem ak {i j pos}:PE X (.Constant (.int i) j pos) (tC (.int i)):=fun _ _ _ H _ I h=>wpAny_Constant_int ⟨.int i,H,I.tok _,⟨_,rfl⟩,h⟩
theorem fg {b j pos}:PE X (.Constant (.bool b) j pos) (tC (.bl b)):=fun _ _ _ H _ I h=>Constant_bool ⟨.bl b,H,I,rfl,h⟩
theorem aX {j pos}:PE X (.Constant .none j pos) (tC .non):=fun _ _ _ H _ I h=>Constant_none ⟨.non,H,I,rfl,h⟩
theorem i5 {x j pos}:PE X (.Constant (.str x) j pos) (tC (.str x)):=fun _ _ _ H _ I h=>Calls.Constant_str ⟨.str x,H,I.tok _,⟨_,rfl⟩,h⟩
def Gl (X:Cx) (x:Str):Prop:=X.env.kindOf x=some .globalImplicit
theorem qH {E:LD} {pins:LG} {s:Shared} {σ:St} {H:Hp} {x:Str} {u:Value} {pos:Pos} {Q:LD} (I:aW X pins σ H s) (hg:Gl X x) (hm:X.mg x=some u) (h:Q u s)
  (hd:(x==("__debug__" :Str))=false:=by decide):wpAny (model X.prog X.w) X.A (eval (.Name x pos) X.env) Q E s:=
 Calls.Name_function_global I.ok.kind hg (Calls.loadGlobal_global (by rw[I.ok.glob];exact I.mod.glob.keeps I.bk) hm h) hd
theorem dW {E:LD} {pins:LG} {s:Shared} {σ:St} {H:Hp} {x:Str} {u:Value} {pos:Pos} {Q:LD} (I:aW X pins σ H s) (hg:Gl X x) (hm:X.mg x=none) (hv:bootBuiltins x=some u) (h:Q u s)
  (hn:x≠ "__name__" :=by decide) (hd:(x==("__debug__" :Str))=false:=by decide):wpAny (model X.prog X.w) X.A (eval (.Name x pos) X.env) Q E s:=by
 obtain ⟨mb,h1,h2⟩:=I.mod.blt;exact Calls.Name_function_global I.ok.kind hg (Calls.loadGlobal_builtin (by rw[I.ok.glob];exact I.mod.glob.keeps I.bk) hm (by rw[I.ok.blt];exact h1.keeps I.bk) ((h2 x hn).trans hv) h) hd
theorem wm {x:Str} {v:V} {u:Value} {pos:Pos} (hg:Gl X x) (hm:X.mg x=some u) (r:RelV v u) (hd:(x==("__debug__" :Str))=false:=by decide):PE X (.Name x pos) (tC v):=
 fun _ _ _ H _ I h=>qH I hg hm ⟨v,H,I,r,h⟩ hd
theorem j9 {x:Str} {v:V} {u:Value} {pos:Pos} (hg:Gl X x) (hm:X.mg x=none) (hv:bootBuiltins x=some u) (r:RelV v u) (hn:x≠ "__name__" :=by decide) (hd:(x==("__debug__" :Str))=false:=by decide):PE X (.Name x pos) (tC v):=
 fun _ _ _ H _ I h=>dW I hg hm hv ⟨v,H,I,r,h⟩ hn hd
variable {a b:Expr} {ta tb:TE} {pos:Pos}
def PC (X:Cx) (op:CmpOp) (a b:Expr) (t:TE):Prop:=
 ∀(pins:LG) (s:Shared) (σ:St) (H:Hp) (Q:VK),aW X pins σ H s->t σ H Q->
  wpAny (model X.prog X.w) X.A (eval a X.env) (fun v s₁=>wpAny (model X.prog X.w) X.A (eval b X.env) (fun u s₂=>wpAny (model X.prog X.w) X.A (compareOp op v u) (EP X pins σ Q) X.xe s₂) X.xe s₁) X.xe s
def tB (t:TE):TT:=fun σ H Q=>t σ H fun x H1=>mB x fun c=>Q c H1
theorem qI {op:CmpOp} {t:TE} (h:PC X op a b t) (h1:behindInMarks op b=false:=by first|exact nobehind _ (by decide) (by decide)|rfl):PT X (.Compare a [op] [b] pos) (tB t):=by
 intro pins s σ H Q I hw;refine wpAny_isTrue_Compare1 (cu (h pins s σ H _ I hw) fun v s1 h1=>cu h1 fun u s2 h2=>cu h2 fun c s3 ⟨x,H1,I1,r1,q1⟩=>?_) h1
 obtain ⟨d,rfl,q⟩:=mB.e q1;cases r1;exact wpAny_truthy_bool ⟨H1,I1,q⟩
theorem eY {e:Expr} {t:TE} (h:PE X e t) (he:∀whole,isTrue e X.env whole=(do let v<-whole;standAt e.pos;holding [v] (truthy v)):=by intro _;rfl):PT X e (tB t):=by
 intro pins s σ H Q I hw;refine isTrue_plain (cu (h pins s σ H _ I hw) fun v s1 ⟨x,H1,I1,r1,q1⟩=>?_) (he _)
 obtain ⟨d,rfl,q⟩:=mB.e q1;cases r1;exact wpAny_truthy_bool ⟨H1,I1,q⟩
variable {tA tB':TT} {rest:List Expr}
def G2 (t u:TT):TT:=fun σ H Q=>t σ H fun c H1=>if c=true then u σ H1 Q else Q false H1
def Iu (t u:TT):TT:=fun σ H Q=>t σ H fun c H1=>if c=true then Q true H1 else u σ H1 Q
def G3 (t:TT):TT:=fun σ H Q=>t σ H fun c H1=>Q (!c) H1
theorem dM (ha:PT X a tA):PW X (.BoolOp .And [a] pos) tA:=by
 intro wh pins s σ H Q I h;refine isTrue_and (cu (ha pins s σ H Q I h) fun c s1 e=>?_)
 cases c with
 |true=>exact isTrue_and_nil e
 |false=>exact e
theorem dt (ha:PT X a tA):PW X (.BoolOp .Or [a] pos) tA:=by
 intro wh pins s σ H Q I h;refine isTrue_or (cu (ha pins s σ H Q I h) fun c s1 e=>?_)
 cases c with
 |false=>exact isTrue_or_nil e
 |true=>exact e
theorem eQ (ha:PT X a tA) (hb:PW X (.BoolOp .And (b::rest) pos) tB'):PW X (.BoolOp .And (a::b::rest) pos) (G2 tA tB'):=by
 intro wh pins s σ H Q I h;refine isTrue_and (cu (ha pins s σ H _ I h) fun c s1 ⟨H1,I1,q1⟩=>?_)
 cases c with
 |true=>exact hb wh pins s1 σ H1 Q I1 q1
 |false=>exact ⟨H1,I1,q1⟩
theorem dI (ha:PT X a tA) (hb:PW X (.BoolOp .Or (b::rest) pos) tB'):PW X (.BoolOp .Or (a::b::rest) pos) (Iu tA tB'):=by
 intro wh pins s σ H Q I h;refine isTrue_or (cu (ha pins s σ H _ I h) fun c s1 ⟨H1,I1,q1⟩=>?_)
 cases c with
 |true=>exact ⟨H1,I1,q1⟩
 |false=>exact hb wh pins s1 σ H1 Q I1 q1
theorem dv (ha:PT X a tA):PT X (.UnaryOp .Not a pos) (G3 tA):=by
 intro pins s σ H Q I h;exact isTrue_not (ha pins s σ H (fun c H1=>Q (!c) H1) I h)
def EQ (ta tb:TE):TE:=fun σ H Q=>ta σ H fun x H1=>mB x fun c=>if c=true then tb σ H1 Q else Q (.bl false) H1
def ER (ta:TE):TE:=fun σ H Q=>ta σ H fun x H1=>mB x fun c=>Q (.bl (!c)) H1
theorem uG {op} {t:TE} (h:PE X a t):PE X (.BoolOp op [a] pos) t:=fun pins s σ H Q I hw=>BoolOp_one (h pins s σ H Q I hw)
theorem uH (ha:PE X a ta) (hb:PE X (.BoolOp .And (b::rest) pos) tb):PE X (.BoolOp .And (a::b::rest) pos) (EQ ta tb):=by
 intro pins s σ H Q I h;refine BoolOp_and (cu (ha pins s σ H _ I h) fun v s1 ⟨x,H1,I1,r1,q1⟩=>?_)
 obtain ⟨c,rfl,q1⟩:=mB.e q1;cases r1;refine wpAny_truthy_bool ?_;cases c with
 |true=>exact hb pins s1 σ H1 Q I1 q1
 |false=>exact ⟨.bl false,H1,I1,rfl,q1⟩
theorem CU (ha:PE X a ta):PE X (.UnaryOp .Not a pos) (ER ta):=by
 intro pins s σ H Q I h;refine UnaryOp_ (cu (ha pins s σ H _ I h) fun v s1 ⟨x,H1,I1,r1,q1⟩=>?_)
 obtain ⟨c,rfl,q1⟩:=mB.e q1;cases r1;exact not_of (wpAny_truthy_bool ⟨.bl (!c),H1,I1,rfl,q1⟩)
def Iv (t:TT) (ta tb:TE):TE:=fun σ H Q=>t σ H fun c H1=>if c=true then ta σ H1 Q else tb σ H1 Q
theorem ng {c:Expr} (hc:PT X c tA) (ha:PE X a ta) (hb:PE X b tb):PE X (.IfExp c a b pos) (Iv tA ta tb):=by
 intro pins s σ H Q I h;refine wpAny_IfExp (cu (hc pins s σ H _ I h) fun d s1 ⟨H1,I1,q1⟩=>?_)
 cases d with
 |true=>exact ha pins s1 σ H1 Q I1 q1
 |false=>exact hb pins s1 σ H1 Q I1 q1
end
def aF (K:IS) (H:Hp) (a:Addr) (xs:List V):Prop:=
 Rd H a (.lst xs)∨
  ∃(o:Obj) (its:Array Value) (n:Nat),K.lookup a=some o/\o.cls= .type "list" /\o.dict=none/\o.data= .seq its n/\its.size<=sizeLine/\bR xs its.toList
def bH (K:IS) (H:Hp) (a:Addr) (xs:List V):Prop:=
 Rd H a (.tup xs)∨
  ∃(o:Obj) (its:Array Value) (n:Nat),K.lookup a=some o/\o.cls= .type "tuple" /\o.data= .seq its n/\its.size<=sizeLine/\bR xs its.toList
noncomputable def G4:Value->Option V
 | .none=>some .non
 | .bool b=>some (.bl b)
 | .int i _=>some (.int i)
 | .str x _=>some (.str x)
 | .bytes b _=>some (.byt b)
 | .float b _=>some (.flt b)
 | .ref a=>some (.ref a)
 | .type n=>some (.ty n)
 |_=>none
theorem RelV.abs {x:V} {u:Value} (r:RelV x u):G4 u=some x:=by
 cases x with
 |non=>cases r;rfl
 |bl _=>cases r;rfl
 |int _=>obtain ⟨t,rfl⟩:=r;rfl
 |str _=>obtain ⟨t,rfl⟩:=r;rfl
 |byt _=>obtain ⟨t,rfl⟩:=r;rfl
 |flt _=>obtain ⟨t,rfl⟩:=r;rfl
 |ref _=>cases r;rfl
 |ty _=>cases r;rfl
theorem RelV.inj {x y:V} {u:Value} (r:RelV x u) (q:RelV y u):x=y:=Jo (r.abs.symm.trans q.abs)
theorem bR.inj:∀{xs ys:List V} {us:LK},bR xs us->bR ys us->xs=ys
 |_,_,_,.nil,.nil=>rfl
 |_,_,_,.cons r t,.cons r' t'=>by rw[r.inj r',bR.inj t t']
variable {σ:St} {a:Addr} {xs ys:List V}
theorem aF.of {K:IS} (h:H a=some (.lst xs)):aF K H a xs:= .inl (.inl h)
theorem bH.of {K:IS} (h:H a=some (.tup xs)):bH K H a xs:= .inl (.inl h)
theorem aW.list (I:aW X pins σ H s) (h:aF X.K H a xs):∃its:LK,bR xs its/\PlainL s.heap a its.toArray/\xs.length<=sizeLine:=by
 rcases h with h|⟨o,its,n,hk,hc,hd,hs,hz,r⟩
 ·obtain ⟨z,its,n,r,e⟩:=h.ok I.hok;exact ⟨its,r,⟨_,n,e,rfl,rfl,rfl⟩,z⟩
 ·refine ⟨its.toList,r,⟨o,n,I.kIn a o hk,hc,hd,by simpa using hs⟩,?_⟩
  have e:=r.length;simp only[JC] at e
  lia
theorem aW.tuple (I:aW X pins σ H s) (h:bH X.K H a xs):∃its:LK,bR xs its/\IsTup s.heap a its.toArray/\xs.length<=sizeLine:=by
 rcases h with h|⟨o,its,n,hk,hc,hs,hz,r⟩
 ·obtain ⟨z,its,r,p⟩:=h.ok I.hok;exact ⟨its,r,p,z⟩
 ·refine ⟨its.toList,r,⟨o,I.kIn a o hk,hc,n,by simpa using hs⟩,?_⟩
  have e:=r.length;simp only[JC] at e
  lia
theorem aW.list_inj (I:aW X pins σ H s) (h:aF X.K H a xs) (h':aF X.K H a ys):xs=ys:=by
 obtain ⟨its,r,⟨o,n,e,_,_,d⟩,_⟩:=I.list h;obtain ⟨its',r',⟨o',n',e',_,_,d'⟩,_⟩:=I.list h';rw[e] at e';cases e';rw[d] at d';injection d' with d1 _
 have:its=its':=by simpa using congrArg Array.toList d1
 subst this;exact r.inj r'
abbrev Cx.wish (X:Cx) (E:LD):Cx:={X with xe:=E}
abbrev Cx.nox (X:Cx):Cx:=X.wish fun _ _=>False
theorem Cx.Ok.wish {X:Cx} (ok:X.Ok) (E:LD):(X.wish E).Ok:=
 ⟨ok.mod,ok.kind,ok.glob,ok.blt,ok.above,ok.inj,ok.has,ok.cab,ok.hd,ok.frames,ok.stk,ok.exf,ok.bs,ok.bsz,ok.noex,ok.exfs,ok.funs,ok.frf⟩
theorem Cx.Ok.unwish {X:Cx} {E:LD} (ok:(X.wish E).Ok):X.Ok:=
 ⟨ok.mod,ok.kind,ok.glob,ok.blt,ok.above,ok.inj,ok.has,ok.cab,ok.hd,ok.frames,ok.stk,ok.exf,ok.bs,ok.bsz,ok.noex,ok.exfs,ok.funs,ok.frf⟩
variable {E:LD}
theorem aW.wish (I:aW X pins σ H s) (E:LD):aW (X.wish E) pins σ H s:=⟨I.ok.wish E,I.os,I.bare,I.base,I.loc,I.cell,I.free,I.freeC,I.pin,I.hok,I.len⟩
theorem aW.unwish (I:aW (X.wish E) pins σ H s):aW X pins σ H s:=⟨I.ok.unwish,I.os,I.bare,I.base,I.loc,I.cell,I.free,I.freeC,I.pin,I.hok,I.len⟩
theorem SP.unwish {D:Ends} {f:Flow} {s':Shared} (h:SP (X.wish E) pins D f s'):SP X pins D f s':=by
 cases f with
 |next=>obtain ⟨σ',H',I,q⟩:=h;exact ⟨σ',H',I.unwish,q⟩
 |brk=>obtain ⟨σ',H',I,q⟩:=h;exact ⟨σ',H',I.unwish,q⟩
 |cont=>obtain ⟨σ',H',I,q⟩:=h;exact ⟨σ',H',I.unwish,q⟩
 |ret u=>obtain ⟨v,σ',H',I,r,q⟩:=h;exact ⟨v,σ',H',I.unwish,r,q⟩
theorem xZ.nox {st:List Stmt} {t:TS} (h:xZ X.nox st t):xZ X st t:=fun pins s σ H D I hw=>
 wpAny_mono (h pins s σ H D (I.wish _) hw) (fun _ _ q=>q.unwish) fun _ _ z=>False.elim z
section
variable {st:Stmt} {rest:List Stmt} {t u:TS} {e:Expr} {te:TE} {pos:Pos}
def cq:TS:=fun D σ H=>D.nx σ H
def aS (t u:TS):TS:=fun D σ H=>t {D with nx:=u D} σ H
theorem aH:xZ X [] cq:=fun _ _ σ H _ I h=>wpAny_execs_nil ⟨σ,H,I,h⟩
theorem af (h1:PS X st t) (h2:xZ X rest u):xZ X (st::rest) (aS t u):=by
 intro pins s σ H D I h;refine wpAny_execs_cons (cu (h1 pins s σ H {D with nx:=u D} I h) fun f s1 q=>?_)
 cases f with
 |next=>
  obtain ⟨σ',H',I',q⟩:=q;exact h2 pins s1 σ' H' D I' q
 |ret v=>exact q
 |brk=>exact q
 |cont=>exact q
theorem ar (h1:PS X st t):xZ X [st] t:=by
 intro pins s σ H D I h;refine wpAny_execs_cons (cu (h1 pins s σ H D I h) fun f s1 q=>?_)
 cases f with
 |next=>exact wpAny_execs_nil q
 |ret v=>exact q
 |brk=>exact q
 |cont=>exact q
def CV:TS:=fun D σ H=>D.bk σ H
theorem zB:PS X (.Break pos) CV:=fun _ _ σ H _ I h=>wpAny_Break ⟨σ,H,I,h⟩
theorem aW.quiet {pins:LG} {σ:St} {H:Hp} {s:Shared} (I:aW X pins σ H s):interactive X.env=false:=by simp[interactive,I.ok.kind]
def ES (te:TE):TS:=fun D σ H=>te σ H fun _ H1=>D.nx σ H1
theorem bQ (he:PE X e te) (hs:swapsWith e none pos.line X.env=pure false:=by rfl):PS X (.Expr e pos) (ES te):=by
 intro pins s σ H D I h;exact wpAny_Expr_any (cu (he pins s σ H _ I h) fun v s1 ⟨x,H1,I1,r1,q1⟩=>⟨σ,H1,I1,q1⟩) I.quiet hs
def G5 (te:TE):TS:=fun D σ H=>te σ H D.rt
theorem aD (he:PE X e te):PS X (.Return (some e) pos) (G5 te):=by
 intro pins s σ H D I h;exact wpAny_Return_some (cu (he pins s σ H _ I h) fun v s1 ⟨x,H1,I1,r1,q1⟩=>⟨x,σ,H1,I1,r1,q1⟩)
def G6 (c:TT) (t u:TS):TS:=fun D σ H=>c σ H fun b H1=>if b=true then t D σ H1 else u D σ H1
theorem aV {c:Expr} {a b:List Stmt} {tc:TT} (hc:PT X c tc) (ha:xZ X a t) (hb:xZ X b u):PS X (.If c a b pos) (G6 tc t u):=by
 intro pins s σ H D I h;refine wpAny_If (cu (hc pins s σ H _ I h) fun d s1 ⟨H1,I1,q1⟩=>?_)
 cases d with
 |true=>exact ha pins s1 σ H1 D I1 q1
 |false=>exact hb pins s1 σ H1 D I1 q1
def CW:TS:=fun _ _ _=>False
theorem cI:PS X st CW:=fun _ _ _ _ _ _ h=>h.elim
end
abbrev TG:=V->St->Hp->(St->Hp->Prop)->Prop
abbrev Ct:=List V->St->Hp->(St->Hp->Prop)->Prop
def PG (X:Cx) (target:Expr) (t:TG):Prop:=
 ∀(pins:LG) (s:Shared) (σ:St) (H:Hp) (v:V) (u:Value) (Q:St->Hp->Prop),aW X pins σ H s->RelV v u->t v σ H Q->
  wpAny (model X.prog X.w) X.A (assign target X.env u) (fun _ s'=>∃σ' H',aW X pins σ' H' s'/\Q σ' H') X.xe s
def ET (X:Cx) (ts:List Expr) (t:Ct):Prop:=
 ∀(pins:LG) (s:Shared) (σ:St) (H:Hp) (vs:List V) (us:LK) (Q:St->Hp->Prop),aW X pins σ H s->bR vs us->t vs σ H Q->
  wpAny (model X.prog X.w) X.A (assignInOrder ((assignEach ts X.env).map (·.2)) us) (fun _ s'=>∃σ' H',aW X pins σ' H' s'/\Q σ' H') X.xe s
abbrev CY:=V->V->V->Hp->(Hp->Prop)->Prop
def EU (X:Cx) (t:CY):Prop:=
 ∀(pins:LG) (s:Shared) (σ:St) (H:Hp) (o i v:V) (ov iv u:Value) (Q:Hp->Prop),aW X pins σ H s->RelV o ov->RelV i iv->RelV v u->t o i v H Q->
  wpAny (model X.prog X.w) X.A (setItem ov iv u) (fun _ s'=>∃H',aW X pins σ H' s'/\Q H') X.xe s
abbrev GS:=V->V->Hp->VK->Prop
def Im (X:Cx) (op:Operator) (t:GS):Prop:=
 ∀(pins:LG) (s:Shared) (σ:St) (H:Hp) (x y:V) (v u:Value) (Q:VK),aW X pins σ H s->RelV x v->RelV y u->t x y H Q->
  wpAny (model X.prog X.w) X.A (inplaceOp op v u) (EP X pins σ Q) X.xe s
section
variable {pos:Pos}
def bN (i:Nat):TG:=fun v σ H Q=>Q (σ.set i (some v)) H
theorem iH {i:Nat} {x:Str} (hN:X.N.Nodup) (hi:X.N[i]?=some x) (hx:Loc X.env.scope x) (hf:X.fn x=true∨X.env.scope.names.lookup x=some .local:=by first|exact .inl rfl|exact .inr rfl|assumption):PG X (.Name x pos) (bN i):=by
 intro pins s σ H v u Q I r h;exact wpAny_assign_Name (m9 I hN hi hx r (fun s' I'=>⟨_,H,I',h⟩) hf)
def G7:Ct:=fun vs σ H Q=>vs= []/\Q σ H
def EV (t:TG) (u:Ct):Ct:=fun vs σ H Q=>∃v r,vs=v::r/\t v σ H fun σ' H'=>u r σ' H' Q
theorem cS:ET X [] G7:=by
 intro pins s σ H vs us Q I r h;obtain ⟨e,h⟩:=h;subst e;cases r;exact assignInOrder_nil ⟨σ,H,I,h⟩
theorem aP {e:Expr} {es:List Expr} {t:TG} {u:Ct} (h1:PG X e t) (h2:ET X es u)
  (hs:(assignEach (e::es) X.env).map (·.2)=assign e X.env::(assignEach es X.env).map (·.2):=by rfl):ET X (e::es) (EV t u):=by
 intro pins s σ H vs us Q I r h;obtain ⟨v,vr,e1,h⟩:=h;subst e1;cases r with
 |cons r rr=>
  rw[hs];refine assignInOrder_cons (cu (h1 pins s σ H _ _ _ I r h) fun _ s1 ⟨σ1,H1,I1,q1⟩=>?_)
  exact h2 pins s1 σ1 H1 _ _ Q I1 rr q1
def EW (K:IS) (n:Nat) (t:Ct):TG:=fun v σ H Q=>∃a xs,v= .ref a/\bH K H a xs/\xs.length=n/\t xs σ H Q
theorem dN {es:List Expr} {k:Nat} {t:Ct} {n:Nat} (hc:X.calm=true) (h:ET X es t)
  (hn:(assignEach es X.env).length=n:=by rfl) (hst:(assignEach es X.env).findIdx? (·.1)=none:=by rfl):PG X (.Tuple es k pos) (EW X.K n t):=by
 intro pins s σ H v u Q I r hw;obtain ⟨a,xs,e1,hq,hl,hw⟩:=hw;subst e1;cases r;obtain ⟨its,rv,ht,hz⟩:=I.tuple hq;refine assign_Tuple_tuple (I.ok.hd hc) ht (by simp[hn,<-hl,rv.length]) hst fun h' hx=>?_
 have I1:aW X pins σ H {s with heap:=h'}:=I.kept (t':=s.toks) fun b o e=>hx b o (J6 (Heap.lt_size e)) e
 exact h pins _ σ H xs _ Q I1 (by simpa using rv) hw
def G8 (to ti:TE) (t:CY):TG:=fun v σ H Q=>to σ H fun o H1=>ti σ H1 fun i H2=>t o i v H2 fun H3=>Q σ H3
theorem uJ {o i:Expr} {to ti:TE} {t:CY} (ho:PE X o to) (hi:PE X i ti) (hs:EU X t)
  (ha:∀v,assign (.Subscript o i pos) X.env v=(do
   let ov<-holding [v] (eval o X.env)
   let iv<-holding [v,ov] (eval i X.env)
   standAt pos
   holding [v,ov,iv] (setItem ov iv v)
   release [v,ov,iv] []):=by intro _;rfl):PG X (.Subscript o i pos) (G8 to ti t):=by
 intro pins s σ H v u Q I r h;rw[ha];refine wpAny_bind (wpAny_holding (cu (ho pins s σ H _ I h) fun ov s1 ⟨x,H1,I1,r1,q1⟩=>?_))
 refine wpAny_bind (wpAny_holding (cu (hi pins s1 σ H1 _ I1 q1) fun iv s2 ⟨y,H2,I2,r2,q2⟩=>?_))
 refine wpAny_bind (wpAny_standAt (wpAny_bind (wpAny_holding (cu (hs pins s2 σ H2 x y v ov iv u _ I2 r1 r2 r q2) fun _ s3 ⟨H3,I3,q3⟩=>?_))))
 exact wpAny_release ⟨σ,H3,I3,q3⟩
def uK (te:TE) (g:TG):TS:=fun D σ H=>te σ H fun x H1=>g x σ H1 D.nx
theorem kK {tg e:Expr} {te:TE} {g:TG} (he:PE X e te) (hg:PG X tg g) (hs:swapsWithSole [tg] e pos.line X.env=pure false:=by rfl) (hw:swappedStores [tg] e X.env=pure none:=by rfl)
  (h1:(assignEach [tg] X.env).map (·.2)= [assign tg X.env]:=by rfl):PS X (.Assign [tg] e pos) (uK te g):=by
 intro pins s σ H D I h;refine wpAny_Assign_stores (cu (he pins s σ H _ I h) fun v s1 ⟨x,H1,I1,r1,q1⟩=>?_) hs hw
 rw[h1];exact cu (hg pins s1 σ H1 x v _ I1 r1 q1) fun _ s2 q=>q
theorem dO {i:Nat} {x:Str} {e:Expr} {te:TE} {pos':Pos} (hN:X.N.Nodup) (hi:X.N[i]?=some x) (hx:Loc X.env.scope x) (he:PE X e te) (hs:swapsWith e (some (.Name x pos')) pos.line X.env=pure false:=by rfl) (hf:X.fn x=true∨X.env.scope.names.lookup x=some .local:=by first|exact .inl rfl|exact .inr rfl|assumption):
  PS X (.Assign [.Name x pos'] e pos) (uK te (bN i)):=by
 intro pins s σ H D I h;refine wpAny_Assign_Name (cu (he pins s σ H _ I h) fun v s1 ⟨y,H1,I1,r1,q1⟩=>?_) hs
 exact m9 I1 hN hi hx r1 (fun s2 I2=>⟨_,H1,I2,q1⟩) hf
def G9 (i:Nat) (te:TE) (ti:GS):TS:=fun D σ H=>mV σ[i]? fun x=>te σ H fun y H1=>ti x y H1 fun z H2=>D.nx (σ.set i (some z)) H2
theorem uL {i:Nat} {x:Str} {e:Expr} {te:TE} {op:Operator} {ti:GS} {pos':Pos} (hN:X.N.Nodup) (hi:X.N[i]?=some x) (hx:Loc X.env.scope x) (he:PE X e te) (ho:Im X op ti) (hf:X.fn x=true∨X.env.scope.names.lookup x=some .local:=by first|exact .inl rfl|exact .inr rfl|assumption):
  PS X (.AugAssign (.Name x pos') op e pos) (G9 i te ti):=by
 intro pins s σ H D I h;obtain ⟨v,e1,h⟩:=mV.e h;obtain ⟨m,hn,hl⟩:=I.loc;have vis:GR X.env.scope x:=by rcases hx with k|k;exact .inl k;exact .inr (.inl k)
 obtain ⟨u,r,l⟩:=hl i x v hi e1 vis;refine wpAny_AugAssign_Name ?_;have go:wpAny (model X.prog X.w) X.A (eval e X.env) (fun w s₂=>wpAny (model X.prog X.w) X.A (inplaceOp op u w) (fun r s₃=>wpAny (model X.prog X.w) X.A (storeName X.env x r) (fun _=>SP X pins D .next) X.xe s₃) X.xe s₂) X.xe s:=by
  refine cu (he pins s σ H _ I h) fun w s1 ⟨y,H1,I1,r1,q1⟩=>?_
  refine cu (ho pins s1 σ H1 v y u w _ I1 r r1 q1) fun z s2 ⟨zv,H2,I2,r2,q2⟩=>?_
  exact m9 I2 hN hi hx r2 (fun s3 I3=>⟨_,H2,I3,q2⟩) hf
 rcases l with ⟨hk,hm⟩|⟨hk,c,hc,hcell⟩
 ·exact wpAny_loadName_local I.ok.kind hk hn hm go
 ·rcases hk with hk|hk
  ·exact wpAny_loadName_cell I.ok.kind hk hc hcell go
  ·rcases hx with k|k
   ·have:X.env.scope.names.lookup x=some .free:=hk;rw[k] at this;cases this
   ·have:X.env.scope.names.lookup x=some .free:=hk;rw[k] at this;cases this
def Iw (f:Int->Int->Int):GS:=fun x y H Q=>mI x fun i=>mI y fun j=>Q (.int (f i j)) H
theorem uM:Im X .Add (Iw fun i j=>i+j):=by
 intro pins s σ H x y v u Q I r1 r2 h;obtain ⟨i,j,e1,e2,q⟩:=mI.e2 h;subst e1;subst e2;obtain ⟨t,rfl⟩:=r1;obtain ⟨t',rfl⟩:=r2;exact iadd_int ⟨.int _,H,I.tok _,⟨_,rfl⟩,q⟩
end
section
variable {pos:Pos}
def CZ (c:TT) (tb:TS):TS:=fun D σ H=>∃W:Nat->St->Hp->Prop,(∃m,W m σ H)/\∀m σ H,W m σ H->
 c σ H fun b H1=>if b=true then ∃N:St->Hp->Prop,(∀σ' H',N σ' H'->∃m',m'<m/\W m' σ' H')/\tb {D with nx:=N,ct:=N,bk:=D.nx} σ H1 else D.nx σ H1
theorem sA {c:Expr} {body:List Stmt} {tc:TT} {tb:TS} (hp:PassesOwn (model X.prog X.w) X.A X.env X.xe) (hc:PT X c tc) (hb:xZ X body tb):PS X (.While c body [] pos) (CZ tc tb):=by
 intro pins s σ H D I h;obtain ⟨W,⟨m0,w0⟩,turn⟩:=h;refine wpAny_While (codeAny_whileLoop (fun n s'=>∃σ' H',aW X pins σ' H' s'/\W n σ' H') ?_ m0 ⟨σ,H,I,w0⟩)
 rintro n s1 ⟨σ1,H1,I1,w1⟩;refine wpAny_passesOwn hp (cu (hc pins s1 σ1 H1 _ I1 (turn n σ1 H1 w1)) fun b s2 ⟨H2,I2,q2⟩=>?_)
 cases b with
 |true=>
  obtain ⟨N,hN,q2⟩:=q2;rw[if_pos rfl];refine wpAny_passesOwn hp (cu (hb pins s2 σ1 H2 _ I2 q2) fun f s3 q3=>?_)
  cases f with
  |next=>
   obtain ⟨σ3,H3,I3,n3⟩:=q3;obtain ⟨m',hm,w3⟩:=hN σ3 H3 n3;exact ⟨m',hm,σ3,H3,I3,w3⟩
  |cont=>
   obtain ⟨σ3,H3,I3,n3⟩:=q3;obtain ⟨m',hm,w3⟩:=hN σ3 H3 n3;exact ⟨m',hm,σ3,H3,I3,w3⟩
  |brk=>exact q3
  |ret v=>exact q3
 |false=>
  rw[if_neg JL];exact wpAny_execs_nil ⟨σ1,H2,I2,q2⟩
end
structure It where
 go:Nat->Hp->Prop
 yld:Nat->Hp->V->Hp->Prop
 stop:Nat->Hp->Prop
def fE (X:Cx) (pins:LG) (H:Hp) (b:Addr):Prop:=
 H b=none/\b≠X.env.locals/\b∉X.fs/\(b∈X.ex∨X.s₀.heap.objs.size<=b)/\(∀x c,X.env.cells.lookup x=some c->c≠b)/\∀p∈X.pn++pins,p.1≠b
theorem aW.fpOk {X:Cx} {pins:LG} {σ:St} {H H':Hp} {s:Shared} {b:Addr} (I:aW X pins σ H s) (hb:s.heap.objs.size<=b) (hn:H' b=none):fE X pins H' b:=by
 refine ⟨hn,K5 (Jb I.lt hb),I.nofs hb,.inr (JV I.sz hb),fun x c e z=>?_,fun p hp z=>?_⟩
 ·obtain ⟨v,q⟩:=I.cell x c e;exact absurd (Jb q.lt (by rw[z];exact hb)) (Kl _)
 ·exact absurd (Jb (Heap.lt_size (I.pin p hp).1) (by rw[z];exact hb)) (Kl _)
structure Turn (P:Program) (w:World) (K:IS) (tg:Expr) (J:It) (fp:LJ) (it:Addr) (tn:Nat->Heap->Prop):Prop where
 mem:it∈fp
 obj:∀i h,tn i h->∀b∈fp,∃o,h.get? b=some o/\∀v,o.data≠ .cell v
 keep:∀i h h',tn i h->(∀b∈fp,∀o,h.get? b=some o->h'.get? b=some o)->tn i h'
 item:∀(X:Cx),X.prog=P->X.w=w->X.K=K->X.calm=true->∀(i:Nat) (pins:LG) (s:Shared) (σ:St) (H:Hp) (E:LD),aW X pins σ H s->(∀b∈fp,fE X pins H b)->tn i s.heap->J.go i H->
  wpAny (model P w) X.A (pyNext (.ref it)) (fun r s1=>∃u,r=some u/\
   wpAny (model P w) X.A (letOwnedTupleGo tg (.ref it) u) (fun _ s2=>∃x H',aW X pins σ H' s2/\RelV x u/\J.yld i H x H'/\tn (i+1) s2.heap/\∀b∈fp,H' b=none) E s1) E s
 done:∀(X:Cx),X.prog=P->X.w=w->X.K=K->X.calm=true->∀(i:Nat) (pins:LG) (s:Shared) (σ:St) (H:Hp) (E:LD),aW X pins σ H s->(∀b∈fp,fE X pins H b)->tn i s.heap->J.stop i H->
  wpAny (model P w) X.A (pyNext (.ref it)) (fun r s1=>r=none/\aW X pins σ H s1) E s
 self:∀(A:Around) (i:Nat) (s:Shared) (Q:LD) (E:LD),tn i s.heap->Q (.ref it) s->wpAny (model P w) A (pyIter (.ref it)) Q E s
abbrev TI:=St->Hp->(It->Hp->Prop)->Prop
def Hd (X:Cx) (pins:LG) (σ:St) (tg:Expr) (R:It->Hp->Prop) (itv:Value) (s2:Shared):Prop:=
 ∃(it:Addr) (fp:LJ) (tn:Nat->Heap->Prop) (J:It) (H':Hp),itv= .ref it/\aW X pins σ H' s2/\Turn X.prog X.w X.K tg J fp it tn/\tn 0 s2.heap/\(∀b∈fp,fE X pins H' b)/\R J H'
def PI (X:Cx) (tg iter:Expr) (wi:TI):Prop:=
 ∀(pins:LG) (s:Shared) (σ:St) (H:Hp) (R:It->Hp->Prop),aW X pins σ H s->wi σ H R->
  wpAny (model X.prog X.w) X.A (eval iter X.env) (fun v s1=>wpAny (model X.prog X.w) X.A (pyIter v) (Hd X pins σ tg R) X.xe s1) X.xe s
theorem sB {M:Model} {A:Around} {E:LD} {s:Shared} {tg:Expr} {it:Addr} {u:Value} {o:Obj} {n:String} {vs:Array Value} {Q:Unit->Shared->Prop} (ho:s.heap.get? it=some o) (hc:o.cls= .type n) (hd:o.data= .fields vs)
    (hn: ["enumerate","zip","dict_itemiterator","dict_reverseitemiterator","odict_iterator","itertools.zip_longest","itertools.pairwise"].contains n=false) (hQ:Q () s):wpAny M A (letOwnedTupleGo tg (.ref it) u) Q E s:=by
  unfold letOwnedTupleGo;cases tg<;>first
    |exact wpAny_pure hQ
    | (cases u<;>first
        |exact wpAny_pure hQ
        | (refine wpAny_bind (wpAny_load ho ?_)
           rw[hc,hd];show wpAny M A (if (["enumerate","zip","dict_itemiterator","dict_reverseitemiterator","odict_iterator","itertools.zip_longest","itertools.pairwise"].contains n&&vs[0]?==some (rawInt _))=true then _ else _) Q E s
           rw[if_neg (by intro h;rw[hn,Bool.false_and] at h;cases h)]
           exact wpAny_pure hQ))
noncomputable def Bp (K:IS) (a:Addr):It:=
 ⟨fun i H=>∃xs x,aF K H a xs/\xs[i]?=some x,fun i H x H'=>H'=H/\∀xs,aF K H a xs->xs[i]?=some x,fun i H=>∃xs,aF K H a xs/\xs.length<=i⟩
noncomputable def Cu (lo:Int) (n:Nat):It:=⟨fun i _=>i<n,fun i H x H'=>H'=H/\x= .int (lo+i),fun i _=>n<=i⟩
theorem x3 {P:Program} {w:World} {K:IS} {tg:Expr} (a it:Addr):Turn P w K tg (Bp K a) [it] it (fun i h=>h.IsListIter it a i) where
 mem:=by simp
 obj:=fun i h st b hb=>by
  have e:b=it:=by simpa using hb
  subst e;obtain ⟨o,e,c,d⟩:=st;exact ⟨o,e,fun v z=>by rw[d] at z;cases z⟩
 keep:=fun i h h' st k=>st.at fun o e=>k it (by simp) o e
 item:=by
  intro X hP hw hK hc i pins s σ H E I hf st hg;subst hP hw hK;obtain ⟨xs,x,hq,hx⟩:=hg;obtain ⟨its,rv,p,hz⟩:=I.list hq;obtain ⟨u,hu,ru⟩:=rv.get hx;obtain ⟨f0,f1,f2,f3,f4,f5⟩:=hf it (by simp)
  refine wpAny_pyNext_list_item st p.isList (x:=u) (by simpa using hu) fun h' st' sb=>?_
  have I1:aW X pins σ H {s with heap:=h'}:=I.turned (t':=s.toks) (fun b o hb e=>(sb.2 b hb).trans e) f0 f1 f3 f4 f5
  obtain ⟨o,e,c,d⟩:=id st';exact ⟨u,rfl,sB (s:={s with heap:=h'}) e c d (by decide) ⟨x,H,I1,ru,⟨rfl,fun ys hy=>by rw[I.list_inj hy hq];exact hx⟩,st',fun b hb=>(hf b hb).1⟩⟩
 done:=by
  intro X hP hw hK hc i pins s σ H E I hf st hg;subst hP hw hK;obtain ⟨xs,hq,hx⟩:=hg;obtain ⟨its,rv,p,hz⟩:=I.list hq;obtain ⟨f0,f1,f2,f3,f4,f5⟩:=hf it (by simp)
  have hl:=rv.length;exact wpAny_pyNext_list_end (I.ok.hd hc) st p.isList (by simp;lia) fun h' eb=>⟨rfl,I.turned (t':=s.toks) (fun b o hb e=>eb b o hb e) f0 f1 f3 f4 f5⟩
 self:=fun _ _ _ _ _ st h=>wpAny_pyIter_listiter st h
theorem uN {P:Program} {w:World} {K:IS} {tg:Expr} (it:Addr) (lo:Int) (n:Nat):Turn P w K tg (Cu lo n) [it] it (fun i h=>IsRangeIter h it (lo+(i:Nat)*1) ((n:Int)-(i:Nat)) 1) where
 mem:=by simp
 obj:=fun i h st b hb=>by
  have e:b=it:=by simpa using hb
  subst e;exact ⟨_,st,fun v z=>by
   have z':Data.fields _=Data.cell v:=z;cases z'⟩
 keep:=fun i h h' st k=>k it (by simp) _ st
 item:=by
  intro X hP hw hK hc i pins s σ H E I hf st hg;subst hP hw hK;obtain ⟨f0,f1,f2,f3,f4,f5⟩:=hf it (by simp)
  have W:=Walks.range (prog:=X.prog) (w:=X.w) (I.ok.hd hc) it lo 1 n;refine W.item i s _ _ hg st fun v h' tk hv st' kk=>?_
  obtain ⟨t,rfl⟩:=hv;have I1:aW X pins σ H {s with heap:=h',toks:=tk}:=I.turned (fun b o hb e=>kk b o (by simpa using hb) e) f0 f1 f3 f4 f5
  refine ⟨_,rfl,sB (s:={s with heap:=h',toks:=tk}) (n:= "range_iterator") st' rfl rfl (by decide) ⟨.int (lo+i),H,I1,⟨t,?_⟩,⟨rfl,rfl⟩,st',fun b hb=>(hf b hb).1⟩⟩
  rw[Int.mul_one]
 done:=by
  intro X hP hw hK hc i pins s σ H E I hf st hg;subst hP hw hK;obtain ⟨f0,f1,f2,f3,f4,f5⟩:=hf it (by simp)
  exact wpAny_pyNext_range_end (I.ok.hd hc) st (by have:n<=i:=hg;lia) fun h' eb=>⟨rfl,I.turned (t':=s.toks) (fun b o hb e=>eb b o hb e) f0 f1 f3 f4 f5⟩
 self:=fun _ _ _ _ _ st h=>wpAny_pyIter_rangeiter st h
variable {tg:Expr}
def EX (K:IS) (tl:TE):TI:=fun σ H R=>tl σ H fun x H1=>∃a,x= .ref a/\(∃xs,aF K H1 a xs)/\R (Bp K a) H1
theorem aQ {l:Expr} {tl:TE} (hl:PE X l tl):PI X tg l (EX X.K tl):=by
 intro pins s σ H R I h;refine cu (hl pins s σ H _ I h) fun v s1 ⟨x,H1,I1,r1,q1⟩=>?_
 obtain ⟨a,e,⟨xs,hq⟩,q⟩:=q1;subst e;cases r1;obtain ⟨its,rv,p,hz⟩:=I1.list hq;refine wpAny_pyIter_list p.isList ?_;refine ⟨s1.heap.objs.size,[s1.heap.objs.size],_,_,H1,rfl,I1.kept (t':=s1.toks) fun b o e=>Heap.get?_push_of_some _ e,x3 a _,⟨_,Heap.get?_push_size _ rfl,rfl,rfl⟩,fun b hb=>?_,q⟩
 have e:b=s1.heap.objs.size:=by simpa using hb
 subst e;exact I1.fpOk (IT _) (I1.hok.fresh (IT _))
theorem sC {pins:LG} {σ:St} {H:Hp} {s:Shared} {R:It->Hp->Prop} {E:LD} {lo hi:Int} {t u v:Tok} {tk:Nat} (I:aW X pins σ H s) (h1: -(2^62)<=lo) (h2:lo<2^62) (h3: -(2^62)<=hi) (h4:hi<2^62)
  (q:R (Cu lo (hi-lo).toNat) H):wpAny (model X.prog X.w) X.A (pyIter (.ref s.heap.objs.size)) (Hd X pins σ tg R) E {s with heap:=s.heap.push {cls:= .type "range",data:= .fields #[.int lo t,.int hi u,.int 1 v]},toks:=tk}:=by
 refine wpAny_pyIter_range (IsRange.new ..) (small_one h1 h2 h3 h4) ?_;have I1:aW X pins σ H {s with heap:=s.heap.push {cls:= .type "range",data:= .fields #[.int lo t,.int hi u,.int 1 v]},toks:=tk}:=I.kept fun b o e=>Heap.get?_push_of_some _ e
 refine ⟨(s.heap.push {cls:= .type "range",data:= .fields #[.int lo t,.int hi u,.int 1 v]}).objs.size,[(s.heap.push {cls:= .type "range",data:= .fields #[.int lo t,.int hi u,.int 1 v]}).objs.size],_,_,H,rfl,
  I1.kept (t':=tk) fun b o e=>Heap.get?_push_of_some _ e,uN _ lo (hi-lo).toNat,?_,fun b hb=>?_,q⟩
 ·have e1:lo+((0:Nat):Int)*1=lo:=by simp
  have e2:(((hi-lo).toNat:Nat):Int)-((0:Nat):Int)=Builtin.Range.rangeSize lo hi 1:=by rw[rangeSize_one];split<;>lia
  show IsRangeIter _ _ (lo+((0:Nat):Int)*1) ((((hi-lo).toNat:Nat):Int)-((0:Nat):Int)) 1;rw[e1,e2];exact Heap.get?_push_size _ rfl
 ·have e:b=(s.heap.push {cls:= .type "range",data:= .fields #[.int lo t,.int hi u,.int 1 v]}).objs.size:=by simpa using hb
  subst e;exact I1.fpOk (IT _) (I1.hok.fresh (IT _))
def EY (ta:TA):TI:=fun σ H R=>ta σ H fun vs H1=>∃j:Int,vs= [.int j]/\ -(2^62)<=j/\j<2^62/\R (Cu 0 j.toNat) H1
def EZ (ta:TA):TI:=fun σ H R=>ta σ H fun vs H1=>∃i j:Int,vs= [.int i,.int j]/\(-(2^62)<=i/\i<2^62/\ -(2^62)<=j/\j<2^62)/\R (Cu i (j-i).toNat) H1
theorem bx {a:Expr} {ta:TA} {p pos:Pos} (hg:Gl X "range") (hm:X.mg "range" =none) (ha:PA X [a] ta) (hs:starEach [a] X.env= [(false,eval a X.env)]:=by rfl):PI X tg (.Call (.Name "range" p) [a] [] pos) (EY ta):=by
 intro pins s σ H R I h;refine Call_ (dW I hg hm boot_range (Ja (cu (ha pos pins s σ H _ I h) fun us s1 ⟨vs,H1,I1,r1,q1⟩=>?_) hs rfl))
 obtain ⟨j,e,q1,q2,q⟩:=q1;subst e;cases r1 with
 |cons r rr=>
  cases rr;obtain ⟨t,rfl⟩:=r;exact call_range_1 (sC I1 (by lia) (by lia) q1 q2 (by simpa using q))
theorem x4 {a b:Expr} {ta:TA} {p pos:Pos} (hg:Gl X "range") (hm:X.mg "range" =none) (ha:PA X [a,b] ta) (hs:starEach [a,b] X.env= [(false,eval a X.env),(false,eval b X.env)]:=by rfl) (hs2:starEach [b] X.env= [(false,eval b X.env)]:=by rfl):
  PI X tg (.Call (.Name "range" p) [a,b] [] pos) (EZ ta):=by
 intro pins s σ H R I h;refine Call_ (dW I hg hm boot_range (Ja (cu (ha pos pins s σ H _ I h) fun us s1 ⟨vs,H1,I1,r1,q1⟩=>?_) (by rw[hs,hs2]) (by rw[hs2];rfl)))
 obtain ⟨i,j,e,⟨q1,q2,q3,q4⟩,q⟩:=q1;subst e;cases r1 with
 |cons r rr=>
  cases rr with
  |cons r' rr=>
   cases rr;obtain ⟨t,rfl⟩:=r;obtain ⟨t',rfl⟩:=r';exact call_range_2 (sC I1 q1 q2 q3 q4 q)
def He (wi:TI) (g:TG) (tb:TS):TS:=fun D σ H=>wi σ H fun J H1=>∃W:Nat->Nat->St->Hp->Prop,(∃m,W 0 m σ H1)/\∀i m σ H,W i m σ H->
 (J.stop i H/\D.nx σ H)∨(J.go i H/\∃N:St->Hp->Prop,(∀σ' H',N σ' H'->∃m',m'<m/\W (i+1) m' σ' H')/\∀x H',J.yld i H x H'->g x σ H' fun σ2 H2=>tb {D with nx:=N,ct:=N,bk:=D.nx} σ2 H2)
noncomputable def nh (fp:LJ) (h:Heap):LG:=fp.filterMap fun b=>(h.get? b).map fun o=>(b,o)
theorem dw {fp:LJ} {h:Heap} {b:Addr} {o:Obj} (hb:b∈fp) (e:h.get? b=some o):(b,o)∈nh fp h:=List.mem_filterMap.mpr ⟨b,hb,by rw[e];rfl⟩
theorem x5 {fp:LJ} {h:Heap} {p:Addr×Obj} (hp:p∈nh fp h):p.1∈fp/\h.get? p.1=some p.2:=by
 obtain ⟨b,hb,e⟩:=List.mem_filterMap.mp hp;cases q:h.get? b with
 |none=>rw[q] at e;cases e
 |some o=>
  rw[q] at e;have e':(b,o)=p:=Jo e;subst e';exact ⟨hb,q⟩
theorem aW.pinned {pins:LG} {σ:St} {H:Hp} {s:Shared} {fp:LJ} (I:aW X pins σ H s) (hf:∀b∈fp,fE X pins H b) (ho:∀b∈fp,∃o,s.heap.get? b=some o/\∀v,o.data≠ .cell v):aW X (pins++nh fp s.heap) σ H s:=
 I.pins_of fun p hp=>(JA.mp hp).elim (fun z=>I.pin p (JI _ z)) fun z=>by
  obtain ⟨hb,e⟩:=x5 z;obtain ⟨f0,f1,f2,_⟩:=hf p.1 hb;obtain ⟨o,e',d⟩:=ho p.1 hb;rw[e] at e';cases e';exact ⟨e,f0,f1,f2,d⟩
theorem aW.unpinned {pins pl:LG} {σ:St} {H:Hp} {s:Shared} (I:aW X (pins++pl) σ H s):aW X pins σ H s:=I.pins_of fun p hp=>I.pin p (JI _ (List.mem_append_left _ hp))
theorem aU {iter:Expr} {body:List Stmt} {wi:TI} {g:TG} {tb:TS} {pos:Pos} (hp:PassesOwn (model X.prog X.w) X.A X.env X.xe) (hc:X.calm=true) (hi:PI X tg iter wi) (hg:PG X tg g) (hb:xZ X body tb)
  (hs:∀x,foldedSetIterable iter X.env x=pure x:=by intro _;rfl):PS X (.For tg iter body [] pos) (He wi g tb):=by
 intro pins s σ H D I h;refine wpAny_For (cu (hi pins s σ H _ I h) fun v s1 h1=>cu h1 fun itv s2 h2=>?_) hs
 obtain ⟨it,fp,tn,J,H2,e,I2,T,st2,f2,W,⟨m0,w0⟩,turn⟩:=h2;subst e;have stat:∀{H':Hp},(∀b∈fp,H' b=none)->∀b∈fp,fE X pins H' b:=fun hn b hb=>⟨hn b hb,(f2 b hb).2⟩
 refine codeAny_forLoop_any (fun n s'=>∃i σ' H',aW X pins σ' H' s'/\tn i s'.heap/\(∀b∈fp,H' b=none)/\W i n σ' H') ?_ m0 ⟨0,σ,H2,I2,st2,fun b hb=>(f2 b hb).1,w0⟩
 rintro n s3 ⟨i,σ3,H3,I3,st3,fr3,w3⟩;rcases turn i n σ3 H3 w3 with ⟨stop,qn⟩|⟨go,N,hN,step⟩
 ·refine wpAny_passesOwn hp (cu (T.done X rfl rfl rfl hc i pins s3 σ3 H3 X.xe I3 (stat fr3) st3 stop) fun r s4 ⟨hr,I4⟩=>?_)
  subst hr;exact wpAny_execs_nil ⟨σ3,H3,I4,qn⟩
 ·refine wpAny_passesOwn hp (cu (T.item X rfl rfl rfl hc i pins s3 σ3 H3 X.xe I3 (stat fr3) st3 go) fun r s4 ⟨u,hr,h4⟩=>?_)
  subst hr;refine wpAny_passesOwn hp (cu h4 fun _ s5 ⟨x,H5,I5,r5,y5,st5,fr5⟩=>?_)
  have I5':=I5.pinned (stat fr5) (T.obj _ _ st5);refine wpAny_passesOwn hp (cu (hg _ s5 σ3 H5 x u _ I5' r5 (step x H5 y5)) fun _ s6 ⟨σ6,H6,I6,q6⟩=>?_)
  refine wpAny_passesOwn hp (cu (hb _ s6 σ6 H6 _ I6 q6) fun f s7 q7=>?_)
  have again:∀{σ7:St} {H7:Hp},aW X (pins++nh fp s5.heap) σ7 H7 s7->N σ7 H7->∃m,m<n/\∃i σ' H',aW X pins σ' H' s7/\tn i s7.heap/\(∀b∈fp,H' b=none)/\W i m σ' H':=fun {σ7 H7} I7 n7=>by
   obtain ⟨m',hm,w7⟩:=hN σ7 H7 n7;refine ⟨m',hm,i+1,σ7,H7,I7.unpinned,T.keep _ _ _ st5 fun b hb o e=>(I7.pin (b,o) (JI _ (JI _ (dw hb e)))).1,fun b hb=>?_,w7⟩
   obtain ⟨o,e,d⟩:=T.obj _ _ st5 b hb;exact (I7.pin (b,o) (JI _ (JI _ (dw hb e)))).2.1
  cases f with
  |next=>obtain ⟨σ7,H7,I7,n7⟩:=q7;exact again I7 n7
  |cont=>obtain ⟨σ7,H7,I7,n7⟩:=q7;exact again I7 n7
  |brk=>obtain ⟨σ7,H7,I7,q7⟩:=q7;exact ⟨σ7,H7,I7.unpinned,q7⟩
  |ret v=>obtain ⟨x7,σ7,H7,I7,r7,q7⟩:=q7;exact ⟨x7,σ7,H7,I7.unpinned,r7,q7⟩
theorem bO {K:IS} {a:Addr} {xs:List V} {g:TG} {tb:TS} {D:Ends} {σ:St} {H:Hp} (Pv:Nat->St->Hp->Prop) (h0:Pv 0 σ H) (hl:∀i σ H,i<=xs.length->Pv i σ H->aF K H a xs)
  (hs:∀i x σ H,xs[i]?=some x->Pv i σ H->g x σ H fun σ2 H2=>tb {D with nx:=Pv (i+1),ct:=Pv (i+1),bk:=D.nx} σ2 H2) (hd:∀σ H,Pv xs.length σ H->D.nx σ H):
  ∃W:Nat->Nat->St->Hp->Prop,(∃m,W 0 m σ H)/\∀i m σ H,W i m σ H->
   ((Bp K a).stop i H/\D.nx σ H)∨((Bp K a).go i H/\∃N:St->Hp->Prop,(∀σ' H',N σ' H'->∃m',m'<m/\W (i+1) m' σ' H')/\∀x H',(Bp K a).yld i H x H'->g x σ H' fun σ2 H2=>tb {D with nx:=N,ct:=N,bk:=D.nx} σ2 H2):=by
 refine ⟨fun i m σ H=>m=xs.length-i/\i<=xs.length/\Pv i σ H,⟨xs.length,by simp,JT _,h0⟩,?_⟩
 rintro i m σ H ⟨rfl,hi,p⟩;have q:=hl i σ H hi p
 by_cases hlt:i<xs.length
 ·refine .inr ⟨⟨xs,xs[i],q,by simp[hlt]⟩,Pv (i+1),fun σ' H' p'=>⟨xs.length-(i+1),by lia,rfl,hlt,p'⟩,fun x H' y=>?_⟩
  obtain ⟨e,y⟩:=y;subst e;exact hs i x σ _ (y xs q) p
 ·have e:i=xs.length:=by lia
  subst e;exact .inl ⟨⟨xs,q,IT _⟩,hd σ H p⟩
theorem bz {lo:Int} {n:Nat} {g:TG} {tb:TS} {D:Ends} {σ:St} {H:Hp} (Pv:Nat->St->Hp->Prop) (h0:Pv 0 σ H)
  (hs:∀i σ H,i<n->Pv i σ H->g (.int (lo+i)) σ H fun σ2 H2=>tb {D with nx:=Pv (i+1),ct:=Pv (i+1),bk:=D.nx} σ2 H2) (hd:∀σ H,Pv n σ H->D.nx σ H):
  ∃W:Nat->Nat->St->Hp->Prop,(∃m,W 0 m σ H)/\∀i m σ H,W i m σ H->
   ((Cu lo n).stop i H/\D.nx σ H)∨((Cu lo n).go i H/\∃N:St->Hp->Prop,(∀σ' H',N σ' H'->∃m',m'<m/\W (i+1) m' σ' H')/\∀x H',(Cu lo n).yld i H x H'->g x σ H' fun σ2 H2=>tb {D with nx:=N,ct:=N,bk:=D.nx} σ2 H2):=by
 refine ⟨fun i m σ H=>m=n-i/\i<=n/\Pv i σ H,⟨n,by simp,JT _,h0⟩,?_⟩
 rintro i m σ H ⟨rfl,hi,p⟩
 by_cases hlt:i<n
 ·refine .inr ⟨hlt,Pv (i+1),fun σ' H' p'=>⟨n-(i+1),by lia,rfl,hlt,p'⟩,fun x H' y=>?_⟩
  obtain ⟨e,y⟩:=y;subst e y;exact hs i σ _ hlt p
 ·have e:i=n:=by lia
  subst e;exact .inl ⟨IT _,hd σ H p⟩
abbrev R2:=V->V->Hp->VK->Prop
def iV (X:Cx) (f:Value->Value->Sem Value) (r:R2):Prop:=
 ∀(pins:LG) (s:Shared) (σ:St) (H:Hp) (x y:V) (v u:Value) (Q:VK),aW X pins σ H s->RelV x v->RelV y u->r x y H Q->
  wpAny (model X.prog X.w) X.A (f v u) (EP X pins σ Q) X.xe s
def Hg (X:Cx) (f:Value->Sem Value) (r:V->Hp->VK->Prop):Prop:=
 ∀(pins:LG) (s:Shared) (σ:St) (H:Hp) (x:V) (v:Value) (Q:VK),aW X pins σ H s->RelV x v->r x H Q->
  wpAny (model X.prog X.w) X.A (f v) (EP X pins σ Q) X.xe s
def dC (X:Cx) (f:Value) (r:List V->Hp->VK->Prop):Prop:=
 ∀(pins:LG) (s:Shared) (σ:St) (H:Hp) (xs:List V) (us:LK) (Q:VK),aW X pins σ H s->bR xs us->r xs H Q->
  wpAny (model X.prog X.w) X.A (call f us) (EP X pins σ Q) X.xe s
def GT (r:R2) (ta tb:TE):TE:=fun σ H Q=>ta σ H fun x H1=>tb σ H1 fun y H2=>r x y H2 Q
def Ix (r:V->Hp->VK->Prop) (ta:TE):TE:=fun σ H Q=>ta σ H fun x H1=>r x H1 Q
def rI (C:Int->Int->Prop) (g:Int->Int->V):R2:=fun x y H Q=>mI x fun i=>mI y fun j=>C i j/\Q (g i j) H
def Cv (g:Int->Int->V):R2:=fun x y H Q=>mI x fun i=>mI y fun j=>Q (g i j) H
def rU (g:Int->V):V->Hp->VK->Prop:=fun x H Q=>∃i,x= .int i/\Q (g i) H
section
variable {a b c:Expr} {ta tb tc:TE} {pos:Pos}
theorem C0 (ha:PE X a ta) (hb:PE X b tb) {pins:LG} {s:Shared} {σ:St} {H:Hp} {R:V->V->Hp->Prop} (I:aW X pins σ H s)
  (h:ta σ H fun x H1=>tb σ H1 fun y H2=>R x y H2) {Q:LD} {f:Value->Value->Sem Value}
  (hf:∀v u s2 x y H2,aW X pins σ H2 s2->RelV x v->RelV y u->R x y H2->wpAny (model X.prog X.w) X.A (f v u) Q X.xe s2):
  wpAny (model X.prog X.w) X.A (eval a X.env) (fun v s₁=>wpAny (model X.prog X.w) X.A (eval b X.env) (fun u s₂=>wpAny (model X.prog X.w) X.A (f v u) Q X.xe s₂) X.xe s₁) X.xe s:=by
 refine cu (ha pins s σ H _ I h) fun v s1 ⟨x,H1,I1,r1,q1⟩=>?_
 refine cu (hb pins s1 σ H1 _ I1 q1) fun u s2 ⟨y,H2,I2,r2,q2⟩=>?_
 exact hf v u s2 x y H2 I2 r1 r2 q2
theorem aw {op:Operator} {r:R2} (ho:iV X (binaryOp op) r) (ha:PE X a ta) (hb:PE X b tb):PE X (.BinOp a op b pos) (GT r ta tb):=by
 intro pins s σ H Q I h;exact wpAny_BinOp (C0 ha hb I h fun v u s2 x y H2 I2 rx ry q=>ho pins s2 σ H2 x y v u Q I2 rx ry q)
theorem gZ {op:UnaryOp} {r:V->Hp->VK->Prop} (ho:Hg X (unaryOp op) r) (ha:PE X a ta):PE X (.UnaryOp op a pos) (Ix r ta):=by
 intro pins s σ H Q I h;exact UnaryOp_ (cu (ha pins s σ H _ I h) fun v s1 ⟨x,H1,I1,r1,q1⟩=>ho pins s1 σ H1 x v Q I1 r1 q1)
theorem GU {f:Value->Value->Sem Value} {C:Int->Int->Prop} {g:Int->Int->Int}
  (rule:∀(i j:Int) (t u:Tok) (s:Shared) (Q:LD) (E:LD),C i j->Q (.int (g i j) s.toks) {s with toks:=s.toks+1}->wpAny (model X.prog X.w) X.A (f (.int i t) (.int j u)) Q E s):
  iV X f (rI C fun i j=> .int (g i j)):=by
 intro pins s σ H x y v u Q I rx ry h;obtain ⟨i,j,rfl,rfl,hc,q⟩:=mI.e2 h;obtain ⟨t,rfl⟩:=rx;obtain ⟨t',rfl⟩:=ry;exact rule i j t t' s _ _ hc ⟨.int (g i j),H,I.tok _,⟨_,rfl⟩,q⟩
theorem E1 {f:Value->Value->Sem Value} {g:Int->Int->Int}
  (rule:∀(i j:Int) (t u:Tok) (s:Shared) (Q:LD) (E:LD),Q (.int (g i j) s.toks) {s with toks:=s.toks+1}->wpAny (model X.prog X.w) X.A (f (.int i t) (.int j u)) Q E s):
  iV X f (Cv fun i j=> .int (g i j)):=by
 intro pins s σ H x y v u Q I rx ry h;obtain ⟨i,j,rfl,rfl,q⟩:=mI.e2 h;obtain ⟨t,rfl⟩:=rx;obtain ⟨t',rfl⟩:=ry;exact rule i j t t' s _ _ ⟨.int (g i j),H,I.tok _,⟨_,rfl⟩,q⟩
theorem By {f:Value->Value->Sem Value} {g:Int->Int->Bool}
  (rule:∀(i j:Int) (t u:Tok) (s:Shared) (Q:LD) (E:LD),Q (.bool (g i j)) s->wpAny (model X.prog X.w) X.A (f (.int i t) (.int j u)) Q E s):
  iV X f (Cv fun i j=> .bl (g i j)):=by
 intro pins s σ H x y v u Q I rx ry h;obtain ⟨i,j,rfl,rfl,q⟩:=mI.e2 h;obtain ⟨t,rfl⟩:=rx;obtain ⟨t',rfl⟩:=ry;exact rule i j t t' s _ _ ⟨.bl (g i j),H,I,rfl,q⟩
theorem bj:iV X (binaryOp .Add) (Cv fun i j=> .int (i+j)):=E1 fun _ _ _ _ _ _ _ q=>add_int q
theorem hV:iV X (binaryOp .Sub) (Cv fun i j=> .int (i-j)):=E1 fun _ _ _ _ _ _ _ q=>sub_int q
theorem bu:iV X (binaryOp .Mod) (rI (fun _ j=>j≠0) fun i j=> .int (i.fmod j)):=GU fun _ _ _ _ _ _ _ hc q=>mod_int' hc q
theorem Iy {f:Value->Sem Value} {g:Int->Int}
  (rule:∀(i:Int) (t:Tok) (s:Shared) (Q:LD) (E:LD),Q (.int (g i) s.toks) {s with toks:=s.toks+1}->wpAny (model X.prog X.w) X.A (f (.int i t)) Q E s):
  Hg X f (rU fun i=> .int (g i)):=by
 intro pins s σ H x v Q I rx h;obtain ⟨i,rfl,q⟩:=h;obtain ⟨t,rfl⟩:=rx;exact rule i t s _ _ ⟨.int (g i),H,I.tok _,⟨_,rfl⟩,q⟩
theorem fr:Hg X (unaryOp .USub) (rU fun i=> .int (-i)):=Iy fun _ _ _ _ _ q=>neg_int q
end
noncomputable def E2:V->V->Bool
 | .non,.non=>true| .non,.int _=>true| .int _,.non=>true| .non,.bl _=>true| .bl _,.non=>true| .non,.str _=>true| .str _,.non=>true
 | .int _,.int _=>true| .bl _,.bl _=>true| .str _,.str _=>true| .byt _,.byt _=>true
 | .int _,.str _=>true| .str _,.int _=>true| .bl _,.str _=>true| .str _,.bl _=>true
 |_,_=>false
def Iz:R2:=fun x y H Q=>E2 x y=true/\Q (.bl (decide (x=y))) H
def IA:R2:=fun x y H Q=>E2 x y=true/\Q (.bl (!decide (x=y))) H
theorem wo {i j:Int}:decide (V.int i=V.int j)=(i==j):=by
 rw[Bool.eq_iff_iff];simp
theorem zC {i j:Bool}:decide (V.bl i=V.bl j)=(i==j):=by
 rw[Bool.eq_iff_iff];simp
theorem wp {i j:Str}:decide (V.str i=V.str j)=(i==j):=by
 rw[Bool.eq_iff_iff];simp
theorem wq {i j:Array UInt8}:decide (V.byt i=V.byt j)=(i.toList==j.toList):=by
 rw[Bool.eq_iff_iff];cases i;cases j;simp
section
variable {a b c:Expr} {ta tb tc:TE} {pos:Pos}
theorem cw {pins:LG} {σ:St} {H:Hp} {s:Shared} {Q:VK} {k k':Bool} (I:aW X pins σ H s) (q:Q (.bl k) H) (e:k=k'):EP X pins σ Q (.bool k') s:=by
 subst e;exact ⟨.bl k,H,I,rfl,q⟩
theorem fV:iV X (compareOp .Eq) Iz:=by
 intro pins s σ H x y v u Q I rx ry h;obtain ⟨hs,q⟩:=h;cases x with
 |non=>
  cases rx;cases y with
  |non=>cases ry;exact PySem.EqNone.eq_none_none (cw I q (by simp))
  |bl j=>cases ry;exact PySem.EqNone.eq_none_bool (cw I q (by simp))
  |int j=>obtain ⟨t',rfl⟩:=ry;exact PySem.EqNone.eq_none_int (cw I q (by simp))
  |str j=>obtain ⟨t',rfl⟩:=ry;exact PySem.EqNone.eq_none_str (cw I q (by simp))
  |_=>exact absurd (show false=true from hs) JL
 |bl i=>
  cases rx;cases y with
  |non=>cases ry;exact PySem.EqNone.eq_bool_none (cw I q (by simp))
  |bl j=>cases ry;exact eq_bool (cw I q zC)
  |str j=>obtain ⟨t',rfl⟩:=ry;exact PySem.EqMixed.eq_bool_str (cw I q (by simp))
  |_=>exact absurd (show false=true from hs) JL
 |int i=>
  obtain ⟨t,rfl⟩:=rx;cases y with
  |non=>cases ry;exact PySem.EqNone.eq_int_none (cw I q (by simp))
  |int j=>obtain ⟨t',rfl⟩:=ry;exact eq_int (cw I q wo)
  |str j=>obtain ⟨t',rfl⟩:=ry;exact PySem.EqMixed.eq_int_str (cw I q (by simp))
  |_=>exact absurd (show false=true from hs) JL
 |str i=>
  obtain ⟨t,rfl⟩:=rx;cases y with
  |non=>cases ry;exact PySem.EqNone.eq_str_none (cw I q (by simp))
  |bl j=>cases ry;exact PySem.EqMixed.eq_str_bool (cw I q (by simp))
  |int j=>obtain ⟨t',rfl⟩:=ry;exact PySem.EqMixed.eq_str_int (cw I q (by simp))
  |str j=>obtain ⟨t',rfl⟩:=ry;exact eq_str (cw I q wp)
  |_=>exact absurd (show false=true from hs) JL
 |byt i=>
  obtain ⟨t,rfl⟩:=rx;cases y with
  |byt j=>obtain ⟨t',rfl⟩:=ry;exact PySem.W.eq_bytes (cw I q wq)
  |_=>exact absurd (show false=true from hs) JL
 |_=>cases y<;>exact absurd (show false=true from hs) JL
theorem fW:iV X (compareOp .NotEq) IA:=by
 intro pins s σ H x y v u Q I rx ry h;obtain ⟨hs,q⟩:=h;cases x with
 |non=>
  cases rx;cases y with
  |non=>cases ry;exact PySem.EqNone.ne_none_none (cw I q (by simp))
  |bl j=>cases ry;exact PySem.EqNone.ne_none_bool (cw I q (by simp))
  |int j=>obtain ⟨t',rfl⟩:=ry;exact PySem.EqNone.ne_none_int (cw I q (by simp))
  |str j=>obtain ⟨t',rfl⟩:=ry;exact PySem.EqNone.ne_none_str (cw I q (by simp))
  |_=>exact absurd (show false=true from hs) JL
 |bl i=>
  cases rx;cases y with
  |non=>cases ry;exact PySem.EqNone.ne_bool_none (cw I q (by simp))
  |bl j=>cases ry;exact ne_bool (cw I q (congrArg not zC))
  |str j=>obtain ⟨t',rfl⟩:=ry;exact PySem.EqMixed.ne_bool_str (cw I q (by simp))
  |_=>exact absurd (show false=true from hs) JL
 |int i=>
  obtain ⟨t,rfl⟩:=rx;cases y with
  |non=>cases ry;exact PySem.EqNone.ne_int_none (cw I q (by simp))
  |int j=>obtain ⟨t',rfl⟩:=ry;exact ne_int (cw I q (congrArg not wo))
  |str j=>obtain ⟨t',rfl⟩:=ry;exact PySem.EqMixed.ne_int_str (cw I q (by simp))
  |_=>exact absurd (show false=true from hs) JL
 |str i=>
  obtain ⟨t,rfl⟩:=rx;cases y with
  |non=>cases ry;exact PySem.EqNone.ne_str_none (cw I q (by simp))
  |bl j=>cases ry;exact PySem.EqMixed.ne_str_bool (cw I q (by simp))
  |int j=>obtain ⟨t',rfl⟩:=ry;exact PySem.EqMixed.ne_str_int (cw I q (by simp))
  |str j=>obtain ⟨t',rfl⟩:=ry;exact ne_str (cw I q (congrArg not wp))
  |_=>exact absurd (show false=true from hs) JL
 |byt i=>
  obtain ⟨t,rfl⟩:=rx;cases y with
  |byt j=>obtain ⟨t',rfl⟩:=ry;exact PySem.W.ne_bytes (cw I q (congrArg not wq))
  |_=>exact absurd (show false=true from hs) JL
 |_=>cases y<;>exact absurd (show false=true from hs) JL
theorem fA:iV X (compareOp .Lt) (Cv fun i j=> .bl (decide (i<j))):=By fun _ _ _ _ _ _ _ q=>lt_int q
theorem dJ:iV X (compareOp .LtE) (Cv fun i j=> .bl (decide (i<=j))):=By fun _ _ _ _ _ _ _ q=>le_int q
theorem gC:iV X (compareOp .Gt) (Cv fun i j=> .bl (decide (j<i))):=By fun _ _ _ _ _ _ _ q=>gt_int q
theorem pi:iV X (compareOp .GtE) (Cv fun i j=> .bl (decide (j<=i))):=By fun _ _ _ _ _ _ _ q=>ge_int q
theorem dX:iV X (compareOp .Is) (fun x y H Q=>y= .non/\Q (.bl (decide (x= .non))) H):=by
 intro pins s σ H x y v u Q I rx ry h;obtain ⟨rfl,q⟩:=h;cases ry;refine is_none_gen (cw I q ?_);cases x<;>first
  |(cases rx;rfl)
  |(obtain ⟨t,rfl⟩:=rx;rfl)
theorem iI:iV X (compareOp .IsNot) (fun x y H Q=>y= .non/\Q (.bl (!decide (x= .non))) H):=by
 intro pins s σ H x y v u Q I rx ry h;obtain ⟨rfl,q⟩:=h;cases ry;refine isnot_none_gen (cw I q ?_);cases x<;>first
  |(cases rx;rfl)
  |(obtain ⟨t,rfl⟩:=rx;rfl)
theorem aI (b:Expr) {op:CmpOp} (h:op≠ .In:=by decide) (h2:op≠ .NotIn:=by decide):behindInMarks op b=false:=by
 have e1:(op==CmpOp.In)=false:=by cases op<;>first|rfl|exact absurd rfl h
 have e2:(op==CmpOp.NotIn)=false:=by cases op<;>first|rfl|exact absurd rfl h2
 cases b<;>simp[behindInMarks,e1,e2]
theorem jt {op:CmpOp} {r:R2} (ho:iV X (compareOp op) r) (ha:PE X a ta) (hb:PE X b tb) (hm:behindInMarks op b=false):PE X (.Compare a [op] [b] pos) (GT r ta tb):=by
 intro pins s σ H Q I h;exact wpAny_Compare1 (C0 ha hb I h fun v u s2 x y H2 I2 rx ry q=>ho pins s2 σ H2 x y v u Q I2 rx ry q) hm
def zE (t:TE):TT:=fun σ H Q=>t σ H fun x H'=>mB x fun k=>Q k H'
theorem ay {op:CmpOp} {r:R2} (ho:iV X (compareOp op) r) (ha:PE X a ta) (hb:PE X b tb) (hm:behindInMarks op b=false):PT X (.Compare a [op] [b] pos) (zE (GT r ta tb)):=by
 intro pins s σ H Q I h;refine wpAny_isTrue_Compare1 (cu (ha pins s σ H _ I h) fun v s1 ⟨x,H1,I1,r1,q1⟩=>cu (hb pins s1 σ H1 _ I1 q1) fun u s2 ⟨y,H2,I2,r2,q2⟩=>
  cu (ho pins s2 σ H2 x y v u _ I2 r1 r2 q2) fun c s3 ⟨z,H3,I3,r3,q3⟩=>?_) hm
 obtain ⟨k,e,q3⟩:=mB.e q3;subst e;cases r3;exact wpAny_truthy_bool ⟨H3,I3,q3⟩
def zF (r r':R2) (ta tb tc:TE):TE:=fun σ H Q=>ta σ H fun x H1=>tb σ H1 fun y H2=>r x y H2 fun z H3=>mB z fun k=>
 (if k=true then tc σ H3 fun w' H4=>r' y w' H4 Q else Q (.bl false) H3)
theorem zG {op op':CmpOp} {r r':R2} (ho:iV X (compareOp op) r) (ho':iV X (compareOp op') r') (ha:PE X a ta) (hb:PE X b tb) (hc:PE X c tc)
  (hm:lastMarks [op,op'] [b,c]=false:=by with_unfolding_all rfl):PE X (.Compare a [op,op'] [b,c] pos) (zF r r' ta tb tc):=by
 intro pins s σ H Q I h;refine Compare_chain (cu (ha pins s σ H _ I h) fun v s1 ⟨x,H1,I1,r1,q1⟩=>chain_link (cu (hb pins s1 σ H1 _ I1 q1) fun u s2 ⟨y,H2,I2,r2,q2⟩=>
  cu (ho pins s2 σ H2 x y v u _ I2 r1 r2 q2) fun d s3 ⟨z,H3,I3,r3,q3⟩=>?_)) hm
 obtain ⟨k,e,q3⟩:=mB.e q3;subst e;cases r3;refine wpAny_truthy_bool ?_;cases k with
 |false=>exact ite_ff ⟨.bl false,H3,I3,rfl,q3⟩
 |true=>exact ite_tt (chain_last (cu (hc pins s3 σ H3 _ I3 q3) fun w' s4 ⟨z',H4,I4,r4,q4⟩=>ho' pins s4 σ H4 y z' u w' Q I4 r2 r4 q4))
theorem dD {op op':CmpOp} {r r':R2} (ho:iV X (compareOp op) r) (ho':iV X (compareOp op') r') (ha:PE X a ta) (hb:PE X b tb) (hc:PE X c tc)
  (hm:lastMarks [op,op'] [b,c]=false:=by with_unfolding_all rfl):PT X (.Compare a [op,op'] [b,c] pos) (zE (zF r r' ta tb tc)):=by
 intro pins s σ H Q I h;refine isTrue_chain (cu (ha pins s σ H _ I h) fun v s1 ⟨x,H1,I1,r1,q1⟩=>test_link (cu (hb pins s1 σ H1 _ I1 q1) fun u s2 ⟨y,H2,I2,r2,q2⟩=>
  cu (ho pins s2 σ H2 x y v u _ I2 r1 r2 q2) fun d s3 ⟨z,H3,I3,r3,q3⟩=>?_)) hm
 obtain ⟨k,e,q3⟩:=mB.e q3;subst e;cases r3;refine wpAny_truthy_bool ?_;cases k with
 |false=>
  obtain ⟨k',e',q'⟩:=mB.e q3;cases e';exact ite_ff ⟨H3,I3,q'⟩
 |true=>
  refine ite_tt (test_last (cu (hc pins s3 σ H3 _ I3 q3) fun w' s4 ⟨z',H4,I4,r4,q4⟩=>cu (ho' pins s4 σ H4 y z' u w' _ I4 r2 r4 q4) fun d' s5 ⟨z2,H5,I5,r5,q5⟩=>?_))
  obtain ⟨k2,e2,q5⟩:=mB.e q5;subst e2;cases r5;exact wpAny_truthy_bool ⟨H5,I5,q5⟩
theorem kN:(sizeLine:Nat)<2^63:=by rw[sizeLine_eq];decide
theorem gO:iV X (binaryOp .Add) (fun x y H Q=>∃i j,x= .str i/\y= .str j/\i.length+j.length<=sizeLine/\Q (.str (i++j)) H):=by
 intro pins s σ H x y v u Q I rx ry h;obtain ⟨i,j,rfl,rfl,hz,q⟩:=h;obtain ⟨t,rfl⟩:=rx;obtain ⟨t',rfl⟩:=ry;exact add_str (fun t' tk=>⟨.str (i++j),H,I.tok _,⟨_,rfl⟩,q⟩) hz
theorem vals1 {x:V} {us:LK} (r:bR [x] us):∃u,us= [u]/\RelV x u:=by
 cases r with
 |cons r1 r2=>cases r2;exact ⟨_,rfl,r1⟩
theorem vals2 {x y:V} {us:LK} (r:bR [x,y] us):∃u w',us= [u,w']/\RelV x u/\RelV y w':=by
 cases r with
 |cons r1 r2=>
  cases r2 with
  |cons r3 r4=>cases r4;exact ⟨_,_,rfl,r1,r3⟩
theorem zH:dC X (.builtin "abs") (fun xs H Q=>∃i,xs= [.int i]/\Q (.int (if i<0 then-i else i)) H):=by
 intro pins s σ H xs us Q I r h;obtain ⟨i,rfl,q⟩:=h;obtain ⟨u,rfl,t,rfl⟩:=vals1 r;exact call_abs_int fun u tk=>⟨.int (if i<0 then-i else i),H,I.tok _,⟨_,rfl⟩,q⟩
theorem ju (hc:X.calm=true):dC X (.builtin "max") (fun xs H Q=>∃i j,xs= [.int i,.int j]/\Q (.int (if j>i then j else i)) H):=by
 intro pins s σ H xs us Q I r h;obtain ⟨i,j,rfl,q⟩:=h;obtain ⟨u,w',rfl,⟨t,rfl⟩,⟨t',rfl⟩⟩:=vals2 r;refine max_two_ints (I.ok.hd hc) fun h' tk k=>⟨_,H,I.kept k,?_,q⟩
 by_cases hj:j>i
 ·rw[if_pos hj,if_pos hj];exact ⟨_,rfl⟩
 ·rw[if_neg hj,if_neg hj];exact ⟨_,rfl⟩
theorem x6 (hc:X.calm=true):dC X (.builtin "min") (fun xs H Q=>∃i j,xs= [.int i,.int j]/\Q (.int (if j<i then j else i)) H):=by
 intro pins s σ H xs us Q I r h;obtain ⟨i,j,rfl,q⟩:=h;obtain ⟨u,w',rfl,⟨t,rfl⟩,⟨t',rfl⟩⟩:=vals2 r;refine min_two_ints (I.ok.hd hc) fun h' tk k=>⟨_,H,I.kept k,?_,q⟩
 by_cases hj:j<i
 ·rw[if_pos hj,if_pos hj];exact ⟨_,rfl⟩
 ·rw[if_neg hj,if_neg hj];exact ⟨_,rfl⟩
end
structure x9 (h:Heap) (x dx C:Addr) (mA:LF):Prop where
 obj:h.get? x=some (KM C dx)
 ns:h.Ns1 dx mA
 ne:dx≠x
theorem ya {h:Heap} {dx:Addr} {mA:LF} (n:h.Ns1 dx mA):∃od,h.get? dx=some od/\∀name,PySem.W.lookIn name od=some (mA name):=by
 obtain ⟨o,es,ep,ho,hd,hk,_,hm⟩:=n;refine ⟨o,ho,fun name=>?_⟩
 have e:=hm name;unfold nsFind findBy at e;rw[<-Array.find?_toList] at e;unfold PySem.W.lookIn;rw[hd];dsimp only
 split
 ·rename_i y q;rw[q] at e;exact congrArg some e
 ·rename_i q;rw[q] at e;have a:es.toList.any (·.refKey)=false:=by
   rw[List.any_eq_false];intro y hy;obtain ⟨z,t,hkey⟩:=hk y (Array.mem_toList_iff.mp hy);simp[DictEntry.refKey,hkey]
  have a':¬es.toList.any (·.refKey)=true:=by rw[a];exact JL
  rw[if_neg a'];exact congrArg some e
theorem x9.look {h:Heap} {x dx C:Addr} {mA:LF} (I:x9 h x dx C mA):∃od,PySem.W.InstAt h x (KM C dx) C (some od)/\∀name,PySem.W.lookIn name od=some (mA name):=
 let ⟨od,ho,hl⟩:=ya I.ns
 ⟨od,⟨I.obj,rfl,rfl,ho⟩,hl⟩
section
variable {prog:Program} {w:World} {A:Around} {K:IS} {x dx C f:Addr} {mA:LF} {name:Str} {v:Value}
theorem Bz {expr:Bool} {Q:LD} (X:K.In s.heap) (I:x9 s.heap x dx C mA) (hg:PySem.W.plainGet K C name=true) (hh:PySem.W.hasDictIn K C=true)
  (ha:KJ K (.ref C) name=some none) (hv:mA name=some v) (hv':PySem.W.handedIn v=true) (h:Q v {s with toks:=s.toks+1}):
  wpAny (model prog w) A (getAttr (.ref x) name expr) Q E s:=by
 obtain ⟨od,J,hl⟩:=I.look;exact PySem.W.get_value X J (PySem.W.plainGet_of hg).1 (PySem.W.findObj_own hh ha rfl (by rw[hl,hv])) hv' h
theorem BA {ns:LI} {Q:Unit->Shared->Prop} (X:K.In s.heap) (I:x9 s.heap x dx C mA)
  (hs:KJ K (.ref C) "__setattr__" =some (some (.builtin "object.__setattr__"))) (hp:PySem.W.plainOver K C=true) (ht:PySem.W.takerIn K C name=some none) (hh:PySem.W.hasDictIn K C=true)
  (hw:PySem.Within mA ns) (hsz:ns.length<=sizeLine)
  (h:∀h',x9 h' x dx C (fun y=>if y=name then some v else mA y)->Heap.SameBut dx s.heap h'->Q () {s with heap:=h',toks:=s.toks+2}):
  wpAny (model prog w) A (setAttr (.ref x) name v) Q E s:=by
 obtain ⟨od,J,hl⟩:=I.look;refine PySem.W.set_plain X J hs (PySem.W.osa_open (s:={s with toks:=s.toks+1}) (r:=none) X J hp ht fun b=>?_)
 obtain ⟨cd,hc,hd'⟩:=PySem.W.any_some hh;have hx:s.heap.get? x=some ⟨.ref C,some dx,.plain,#[]⟩:=I.obj;refine wpAny_bind (wpAny_pure (wpAny_bind (wpAny_bind (wpAny_loadPart hx (wpAny_bind (PySem.W.Looks.here (s:={s with toks:=s.toks+1}) (PySem.W.looks_clsIn X hc) ?_))))))
 rw[hd'];refine wpAny_pure (a:=some dx) (wpAny_bind (wpAny_pure (wpAny_bind ?_)));refine wpAny_nsSet1 (s:={s with toks:=s.toks+1}) I.ns fun h' hn2 hs2=>?_
 obtain ⟨oD,esD,epD,hoD,hdD,hcD⟩:=hn2.count (PySem.Within.cons name v hw);refine wpAny_bind (wpAny_lookBehind hoD (by rw[hdD];exact pastItsLine_dict (JV hcD (by rw[JN];lia))) ?_)
 exact wpAny_pure (h _ ⟨(hs2.2 _ (Ne.symm I.ne)).trans I.obj,hn2,I.ne⟩ hs2)
theorem zI {R:Result->Shared->Prop} {vs:LK} {kw:List (Str×Value)} (X:K.In s.heap) (hm:PySem.W.makesIn K C=true)
  (hi:KJ K (.ref C) "__init__" =some (some (.ref f))) (hf:PySem.W.typeIn K (.ref f)=some (.type "function"))
  (h:codeAny (model prog w) (A.under (.builtin "type.__call__" ⟨.ref C::vs,kw⟩)) (.call (.ref f) ⟨.ref (s.heap.objs.size+1)::vs,kw⟩) (PySem.W.InitBack (s.heap.objs.size+1) R)
   {s with heap:=(s.heap.push K3).push (KM C s.heap.objs.size)}):
  codeAny (model prog w) A (.call (.ref C) ⟨vs,kw⟩) R s:=by
 obtain ⟨hh,g,d,t,os⟩:=s;exact PySem.W.make_core (PySem.W.makes_of X hm) (PySem.W.looks_findIn X hi) (fun self=>PySem.W.bind_fn X self hf) (.inl rfl) h
end
noncomputable def bL (f:Str) (v:V):List (Str×V)->List (Str×V)
 | []=> [(f,v)]
 |(g,x)::r=>if g=f then (g,v)::r else (g,x)::bL f v r
theorem bP (f g:Str) (v:V):∀fs:List (Str×V),(bL f v fs).lookup g=if g=f then some v else fs.lookup g
 | []=>by
  show List.lookup g [(f,v)]=_
  by_cases h:g=f
  ·have hb:(g==f)=true:=beq_iff_eq.mpr h;simp only[List.lookup,hb,if_pos h]
  ·have hb:(g==f)=false:=beq_eq_false_iff_ne.mpr h;simp only[List.lookup,hb,if_neg h]
 |(k,x)::r=>by
  have ih:=bP f g v r;rw[show bL f v ((k,x)::r)=(if k=f then (k,v)::r else (k,x)::bL f v r) from rfl]
  by_cases hk:k=f
  ·rw[if_pos hk]
   by_cases h:g=k
   ·have hb:(g==k)=true:=beq_iff_eq.mpr h;simp only[List.lookup,hb,if_pos (h.trans hk)]
   ·have hb:(g==k)=false:=beq_eq_false_iff_ne.mpr h;simp only[List.lookup,hb,if_neg (fun e:g=f=>h (e.trans hk.symm))]
  ·rw[if_neg hk]
   by_cases h:g=k
   ·have hb:(g==k)=true:=beq_iff_eq.mpr h;simp only[List.lookup,hb,if_neg (fun e:g=f=>hk (h.symm.trans e))]
   ·have hb:(g==k)=false:=beq_eq_false_iff_ne.mpr h;simp only[List.lookup,hb];exact ih
theorem kO (f:Str) (v:V):∀fs:List (Str×V),f∈(bL f v fs).map (·.1)/\∀g,g∈fs.map (·.1)->g∈(bL f v fs).map (·.1)
 | []=>⟨by simp[bL],fun g h=>by simp at h⟩
 |(k,x)::r=>by
  obtain ⟨i1,i2⟩:=kO f v r;rw[show bL f v ((k,x)::r)=(if k=f then (k,v)::r else (k,x)::bL f v r) from rfl]
  by_cases hk:k=f
  ·rw[if_pos hk];subst hk;exact ⟨by simp,fun g h=>by simpa using h⟩
  ·rw[if_neg hk];refine ⟨?_,fun g h=>?_⟩
   ·rw[JU];exact J9 _ i1
   ·rw[JU] at h⊢;rcases IZ.mp h with e|e
    ·exact IZ.mpr (.inl e)
    ·exact J9 _ (i2 g e)
theorem bZ (f:Str) (v:V):∀fs:List (Str×V),(bL f v fs).length<=fs.length+1
 | []=>by simp[bL]
 |(k,x)::r=>by
  have ih:=bZ f v r;rw[show bL f v ((k,x)::r)=(if k=f then (k,v)::r else (k,x)::bL f v r) from rfl]
  by_cases hk:k=f
  ·rw[if_pos hk,JN,JN];lia
  ·rw[if_neg hk,JN,JN];lia
theorem jW.some_of {v:V} {o:LM} (r:jW (some v) o):∃u,o=some u/\RelV v u:=by
 cases o with
 |none=>exact (show False from r).elim
 |some u=>exact ⟨u,rfl,r⟩
theorem yb {v:V} {u:Value} (r:RelV v u):PySem.W.handedIn u=true:=by
 cases v with
 |non=>cases (show u=Value.none from r);rfl
 |bl b=>cases (show u=Value.bool b from r);rfl
 |int i=>obtain ⟨t,e⟩:=(show ∃t,u=Value.int i t from r);cases e;rfl
 |str x=>obtain ⟨t,e⟩:=(show ∃t,u=Value.str x t from r);cases e;rfl
 |byt b=>obtain ⟨t,e⟩:=(show ∃t,u=Value.bytes b t from r);cases e;rfl
 |flt b=>obtain ⟨t,e⟩:=(show ∃t,u=Value.float b t from r);cases e;rfl
 |ref a=>cases (show u=Value.ref a from r);rfl
 |ty n=>cases (show u=Value.type n from r);rfl
section
variable {P:Program} {w:World} {h:Heap} {C dx:Addr} {fs fs':List (Str×V)}
theorem qJ (hok:jP P w H h) (e:H a=some (.ins C dx fs)):∃mA,x9 h a dx C mA/\(∀f,jW (fs.lookup f) (mA f))/\PySem.Within mA (fs.map (·.1))/\fs.length<=1000/\H dx=some (.own a):=by
 obtain ⟨d,z,ne,ob,mA,n,r,q⟩:=(show cN P w H h a (.ins C dx fs) from hok a _ e)
 exact ⟨mA,⟨ob,n,ne⟩,r,q,z,d⟩
end
structure BB (K:IS) (C:Addr):Prop where
 pg:PySem.W.plainGet K C Str.empty=true
 hd:PySem.W.hasDictIn K C=true
 po:PySem.W.plainOver K C=true
 sa:KJ K (.ref C) "__setattr__" =some (some (.builtin "object.__setattr__"))
theorem BB.get {K:IS} {C:Addr} (c:BB K C) (f:Str):PySem.W.plainGet K C f=true:=c.pg
def dy (K:IS) (C:Addr) (f:Str):Prop:=KJ K (.ref C) f=some none
theorem dy.taker {K:IS} {C:Addr} {f:Str} (n:dy K C f):PySem.W.takerIn K C f=some none:=by
 unfold PySem.W.takerIn;rw[show KJ K (.ref C) f=some none from n]
 rfl
section
variable {C dx:Addr} {fs:List (Str×V)} {f:Str} {v:V} {A:Around}
theorem uO {b:Bool} {Q:LD} (I:aW X pins σ H s) (e:H a=some (.ins C dx fs)) (c:BB X.K C) (n:dy X.K C f) (l:fs.lookup f=some v)
  (h:∀u s',aW X pins σ H s'->RelV v u->Q u s'):wpAny (model X.prog X.w) A (getAttr (.ref a) f b) Q E s:=by
 obtain ⟨mA,O,r,_,_,_⟩:=qJ I.hok e;obtain ⟨u,hu,ru⟩:=jW.some_of (v:=v) (o:=mA f) (by rw[<-l];exact r f)
 exact Bz I.kIn O (c.get f) c.hd n hu (yb ru) (h u _ (I.tok _) ru)
theorem uP {y:V} {u:Value} {Q:Unit->Shared->Prop} (I:aW X pins σ H s) (e:H a=some (.ins C dx fs)) (c:BB X.K C) (n:dy X.K C f) (hl:fs.length<1000) (ry:RelV y u)
  (h:∀s',aW X pins σ (aO H a (.ins C dx (bL f y fs))) s'->Q () s'):wpAny (model X.prog X.w) A (setAttr (.ref a) f u) Q E s:=by
 obtain ⟨mA,O,r,wi,_,ho⟩:=qJ I.hok e;have hz:(fs.map (·.1)).length<=sizeLine:=by rw[IN,sizeLine_eq];lia
 refine BA I.kIn O c.sa c.po n.taker c.hd wi hz fun h' O' sb=>h _ ?_
 have hd:∃o,h'.get? dx=some o:=let ⟨o,_,_,e',_⟩:=O'.ns;⟨o,e'⟩;refine I.write (x:=a) (e:=dx) (by rw[e];exact True.intro) (.inr ho) (fun b q hb z=>(sb.2 b hb).trans z) hd ?_
 refine ⟨by rw[aR O.ne];exact ho,?_,O.ne,O'.obj,_,O'.ns,fun g=>?_,fun g hg=>?_⟩
 ·have:=bZ f y fs;lia
 ·show jW ((bL f y fs).lookup g) (if g=f then some u else mA g)
  rw[bP]
  by_cases q:g=f
  ·rw[if_pos q,if_pos q];exact ry
  ·rw[if_neg q,if_neg q];exact r g
 ·by_cases q:g=f
  ·rw[q];exact (kO f y fs).1
  ·refine (kO f y fs).2 g (wi g fun z=>hg ?_)
   show (if g=f then some u else mA g)=none
   rw[if_neg q];exact z
theorem aW.made (I:aW X pins σ H s):aW X pins σ (aO (aO H s.heap.objs.size (.own (s.heap.objs.size+1))) (s.heap.objs.size+1) (.ins C s.heap.objs.size []))
  {s with heap:=(s.heap.push K3).push (KM C s.heap.objs.size)}:=by
 have e1:(s.heap.push K3).get? s.heap.objs.size=some K3:=Heap.get?_push_size s.heap rfl;have e2:((s.heap.push K3).push (KM C s.heap.objs.size)).get? (s.heap.objs.size+1)=some (KM C s.heap.objs.size):=by
  have:=Heap.get?_push_size (s.heap.push K3) (o:=KM C s.heap.objs.size) rfl
  rwa [Heap.size_push] at this
 have e3:(s.heap.push K3).Ns s.heap.objs.size (fun _=>none):=⟨K3,#[],_,e1,rfl,(fun e he=>absurd he (by simp)),fun _=>rfl⟩
 have I1:=I.laid (a:=s.heap.objs.size) (o:= .own (s.heap.objs.size+1)) (h':=s.heap.push K3) (t':=s.toks) (fun b u q=>Heap.get?_push_of_some _ q) (IT _) ⟨_,e1⟩
 refine I1.laid (a:=s.heap.objs.size+1) (o:= .ins C s.heap.objs.size []) (t':=s.toks) (fun b u q=>Heap.get?_push_of_some _ q) (Nat.le_of_eq (Heap.size_push _ _)) ?_
 have ne:s.heap.objs.size≠s.heap.objs.size+1:=J6 (Ke _);refine ⟨by rw[aR ne,au],JT _,ne,e2,fun _=>none,(Heap.Ns1.of_empty e3).at fun o q=>Heap.get?_push_of_some _ q,fun _=>True.intro,fun y hy=>absurd rfl hy⟩
theorem BC {prog:Program} {w:World} {env:Env} {e:Expr} {f:Str} {pos:Pos} {s:Shared} {Q:LD} (hb:attributeBase e f env (eval e env)=eval e env)
  (h:wpAny (model prog w) A (eval e env) (fun o s₁=>wpAny (model prog w) A (getAttr o f true) Q E s₁) E s):wpAny (model prog w) A (eval (.Attribute e f pos) env) Q E s:=
 Attribute_any_ h (by rw[arm_eval_Attribute,hb])
end
def Hh (K:IS) (ta:TE) (f:Str):TE:=fun σ H Q=>ta σ H fun x H1=>∃a C dx fs v,x= .ref a/\H1 a=some (.ins C dx fs)/\BB K C/\dy K C f/\fs.lookup f=some v/\Q v H1
def Hi (K:IS) (ta tv:TE) (f:Str):TS:=fun D σ H=>tv σ H fun y H1=>ta σ H1 fun x H2=>∃a C dx fs,x= .ref a/\H2 a=some (.ins C dx fs)/\BB K C/\dy K C f/\fs.length<1000/\
 D.nx σ (aO H2 a (.ins C dx (bL f y fs)))
section
variable {o e value:Expr} {f:Str} {pos pos' tpos:Pos} {ta tv:TE}
theorem cH (he:PE X e ta) (hb:attributeBase e f X.env (eval e X.env)=eval e X.env):PE X (.Attribute e f pos) (Hh X.K ta f):=by
 intro pins s σ H Q I h;refine BC hb (cu (he pins s σ H _ I h) fun u s1 ⟨x,H1,I1,rx,a,C,dx,fs,v,ex,ea,c,n,l,q⟩=>?_)
 subst ex;obtain rfl:u=Value.ref a:=rx;exact uO I1 ea c n l fun u' s2 I2 ru=>⟨v,H1,I2,ru,q⟩
theorem nj (ha:PE X o ta) (hv:PE X value tv) (hs:swapsWith value (some (.Attribute o f pos')) pos.line X.env=pure false):PS X (.Assign [.Attribute o f pos'] value pos) (Hi X.K ta tv f):=by
 intro pins s σ H D I h;refine plainObj_wpAny_Assign_Attribute (cu (hv pins s σ H _ I h) fun u s1 ⟨y,H1,I1,ry,q⟩=>cu (ha pins s1 σ H1 _ I1 q) fun ov s2 ⟨x,H2,I2,rx,a,C,dx,fs,ex,ea,c,n,l,q2⟩=>?_) hs
 subst ex;obtain rfl:ov=Value.ref a:=rx;exact uP I2 ea c n l ry fun s3 I3=>⟨σ,_,I3,q2⟩
end
section
variable {A:Around} {Q:LD} {c:Value} {b:Bool}
inductive jX (K:IS) (H:Hp):V->Value->Prop where
 |non:jX K H .non (.type "NoneType")
 |bl (x:Bool):jX K H (.bl x) (.type "bool")
 |int (i:Int):jX K H (.int i) (.type "int")
 |str (x:Str):jX K H (.str x) (.type "str")
 |flt (x:UInt64):jX K H (.flt x) (.type "float")
 |lst {a:Addr} {xs:List V} (e:H a=some (.lst xs)):jX K H (.ref a) (.type "list")
 |frz {a:Addr} {o:Obj} {xs:List V} (e:H a=some (.frz o (.lst xs))):jX K H (.ref a) (.type "list")
 |tup {a:Addr} {xs:List V} (e:H a=some (.tup xs)):jX K H (.ref a) (.type "tuple")
 |dK {a:Addr} {kvs:List (Key×V)} (e:H a=some (.dK kvs)):jX K H (.ref a) (.type "dict")
 |dT {a:Addr} {kvs:List (List Key×V)} (e:H a=some (.dT kvs)):jX K H (.ref a) (.type "dict")
 |ins {a C dx:Addr} {fs:List (Str×V)} (e:H a=some (.ins C dx fs)) (cl:BB K C) (ha:KJ K (.ref C) "__class__" =some (some (.builtin "object.__class__")))
   (hn:PySem.W.specialIn K (.builtin "object.__class__") "__get__" =some (some (.builtin "getset_descriptor.__get__"))) (htk:PySem.W.takesIn K (.builtin "object.__class__")=some true)
   (hm:PySem.W.mroIn K C (.type "object")=some true):jX K H (.ref a) (.ref C)
theorem yc {x:V} {u t:Value} (I:aW X pins σ H s) (rx:RelV x u) (ty:jX X.K H x t) (e:PySem.W.kitOne X.K t c=some b) (h:∀tk,Q (.bool b) {s with toks:=tk}):
  wpAny (model X.prog X.w) A (call (.builtin "isinstance") [u,c]) Q E s:=by
 cases ty with
 |non=>cases (show u=Value.none from rx);exact Jz PySem.W.kitx_none I.kIn True.intro e (fun z=>nomatch z) h
 |bl y=>cases (show u=Value.bool y from rx);exact Jz PySem.W.kitx_bool I.kIn True.intro e (fun z=>nomatch z) h
 |int i=>obtain ⟨t,q⟩:=(show ∃t,u=Value.int i t from rx);cases q;exact Jz PySem.W.kitx_int I.kIn True.intro e (fun z=>nomatch z) h
 |str y=>obtain ⟨t,q⟩:=(show ∃t,u=Value.str y t from rx);cases q;exact Jz PySem.W.kitx_str I.kIn True.intro e (fun z=>nomatch z) h
 |flt y=>obtain ⟨t,q⟩:=(show ∃t,u=Value.float y t from rx);cases q;exact Jz PySem.W.kitx_float I.kIn True.intro e (fun z=>nomatch z) h
 | @lst a xs ea=>
  cases (show u=Value.ref a from rx)
  obtain ⟨_,_,n,_,h1⟩:=(show cN X.prog X.w H s.heap a (.lst xs) from I.hok a _ ea)
  exact Jz PySem.W.kitx_list I.kIn ⟨_,h1,rfl⟩ e (fun z=>nomatch z) h
 | @frz a ob xs ea=>
  cases (show u=Value.ref a from rx)
  obtain ⟨_,_,_,n,_,h1⟩:=(show cN X.prog X.w H s.heap a (.frz ob (.lst xs)) from I.hok a _ ea)
  exact Jz PySem.W.kitx_list I.kIn ⟨_,h1,rfl⟩ e (fun z=>nomatch z) h
 | @tup a xs ea=>
  cases (show u=Value.ref a from rx)
  obtain ⟨_,_,_,p⟩:=(show cN X.prog X.w H s.heap a (.tup xs) from I.hok a _ ea)
  obtain ⟨o,h1,h2,_⟩:=p;exact Jz PySem.W.kitx_tuple I.kIn ⟨o,h1,h2⟩ e (fun z=>nomatch z) h
 | @dK a kvs ea=>
  cases (show u=Value.ref a from rx)
  obtain ⟨_,_,vs,_,p⟩:=(show cN X.prog X.w H s.heap a (.dK kvs) from I.hok a _ ea)
  obtain ⟨o,es,ep,h1,h2,_⟩:=p;exact Jz PySem.W.kitx_dict I.kIn ⟨o,h1,h2.1⟩ e (fun z=>nomatch z) h
 | @dT a kvs ea=>
  cases (show u=Value.ref a from rx)
  obtain ⟨_,_,xs,_,o,es,ep,h1,h2,_⟩:=(show cN X.prog X.w H s.heap a (.dT kvs) from I.hok a _ ea)
  exact Jz PySem.W.kitx_dict I.kIn ⟨o,h1,h2.1⟩ e (fun z=>nomatch z) h
 | @ins a C dx fs ea cl ha hn htk hm=>
  cases (show u=Value.ref a from rx)
  obtain ⟨mA,O,_⟩:=qJ I.hok ea;obtain ⟨od,J,_⟩:=O.look;exact Jz (PySem.W.kitx_own (cl.get _) cl.hd ha hn htk hm) I.kIn J e (fun z=>nomatch z) h
end
structure fF (k:Nat) (A:Around):Prop where
 hd:A.handled=none
 dp:A.depth+3*k+5<recursionLimit
 un:A.units+16*k+200<cLine
theorem fF.mono {j k:Nat} {A:Around} (r:fF k A) (h:j<=k):fF j A:=⟨r.hd,by have:=r.dp;lia,by have:=r.un;lia⟩
theorem fF.deeper {k:Nat} {A:Around} (r:fF (k+1) A) (env:Env):fF k (A.deeper env):=
 ⟨r.hd,by have:=r.dp;show A.depth+1+3*k+5<_;lia,by have:=r.un;show A.units+3+16*k+200<_;lia⟩
theorem uQ {A:Around} {C:Addr} {us:LK} {kw:List (Str×Value)}:(A.under (.builtin "type.__call__" ⟨.ref C::us,kw⟩)).depth=A.depth+1:=by
 first|rfl|simp[Around.under,Code.weight,Code.isCreation,Code.isGuard,Code.isCaller,Code.frames,Code.isFrame,guardIds]
theorem uR {A:Around} {C:Addr} {us:LK} {kw:List (Str×Value)}:(A.under (.builtin "type.__call__" ⟨.ref C::us,kw⟩)).units=A.units+1:=by
 first|rfl|simp[Around.under,Code.cUnits,Code.frames,Code.isFrame]
theorem fF.make {k:Nat} {A:Around} (r:fF (k+1) A) (C:Addr) (us:LK) (kw:List (Str×Value)):fF k (A.under (.builtin "type.__call__" ⟨.ref C::us,kw⟩)):=
 ⟨r.hd,by have:=r.dp;rw[uQ];lia,by have:=r.un;rw[uR];lia⟩
theorem fF.depth {k:Nat} {A:Around} (r:fF k A):A.depth<recursionLimit:=by have:=r.dp;lia
theorem fF.units {k:Nat} {A:Around} (r:fF k A):A.units+64<cLine:=by have:=r.un;lia
theorem fF.units0 {k:Nat} {A:Around} (r:fF k A):A.units<cLine:=by have:=r.un;lia
def Hj:TA:=fun _ H Q=>Q [] H
def E3 (ta:TE) (tr:TA):TA:=fun σ H Q=>ta σ H fun x H1=>tr σ H1 fun xs H2=>Q (x::xs) H2
section
variable {e:Expr} {es:List Expr} {te:TE} {t:TA} {pos:Pos}
theorem ae:PA X [] Hj:=fun _ _ _ _ H Q I h=>Calls.spliced_nil ⟨[],H,I,.nil,h⟩
theorem aa (ha:PE X e te) (hr:PA X es t) (hs:starEach (e::es) X.env=(false,eval e X.env)::starEach es X.env:=by rfl):PA X (e::es) (E3 te t):=by
 intro pos pins s σ H Q I h;rw[hs];show wpAny _ _ (spliced ((false,eval e X.env)::backTo pos (starEach es X.env))) _ _ s;refine Calls.spliced_cons (cu (ha pins s σ H _ I h) fun u s1 ⟨x,H1,I1,r1,q1⟩=>?_)
 exact cu (hr pos pins s1 σ H1 _ I1 q1) fun us s2 ⟨xs,H2,I2,r2,q2⟩=>⟨x::xs,H2,I2,.cons r1 r2,q2⟩
def Hl (t:TA):TE:=fun σ H Q=>t σ H fun xs H1=>xs.length<=sizeLine/\∀p,H1 p=none->Q (.ref p) (aO H1 p (.tup xs))
def Hn (t:TA):TE:=fun σ H Q=>t σ H fun xs H1=>xs.length<=sizeLine/\∀p,H1 p=none->Q (.ref p) (aO H1 p (.lst xs))
theorem bM {x1} (h:PA X es t):PE X (.Tuple es x1 pos) (Hl t):=by
 intro pins s σ H Q I hq;refine wpAny_Tuple_spliced (cu (h pos pins s σ H _ I hq) fun us s1 ⟨xs,H1,I1,r,z,q⟩=>⟨by rw[<-r.length];exact z,?_⟩)
 have hf:H1 s1.heap.objs.size=none:=I1.hok.fresh (IT _);refine ⟨.ref s1.heap.objs.size,aO H1 s1.heap.objs.size (.tup xs),I1.laid (t':=s1.toks) (fun b u e=>Heap.get?_push_of_some _ e) (IT _) ?_,rfl,q _ hf⟩
 exact ⟨z,us,r,⟨_,Heap.get?_push_size _ rfl,rfl,_,rfl⟩⟩
theorem bq (h:PA X es t):PE X (.List es pos) (Hn t):=by
 intro pins s σ H Q I hq;refine wpAny_List_spliced (cu (h pos pins s σ H _ I hq) fun us s1 ⟨xs,H1,I1,r,z,q⟩=>⟨by rw[<-r.length];exact z,?_⟩)
 have hf:H1 s1.heap.objs.size=none:=I1.hok.fresh (IT _);refine ⟨.ref s1.heap.objs.size,aO H1 s1.heap.objs.size (.lst xs),I1.laid (t':=s1.toks) (fun b u e=>Heap.get?_push_of_some _ e) (IT _) ?_,rfl,q _ hf⟩
 exact ⟨z,us,0,r,Heap.get?_push_size _ rfl⟩
end
abbrev Sp:=List V->Hp->VK->XK->Prop
abbrev wu:=List Env->Hp->Shared->XK->Value->Shared->Prop
structure uS (P:Program) (w:World) (K:IS) (mg:LF) (base:Heap) (A:Around) (outer:List Env) (s:Shared) (H:Hp):Prop where
 frames:A.frames=some outer
 mod:Mod K mg base
 bs:∀b o,base.get? b=some o->s.heap.get? b=some o/\H b=none
 bsz:base.objs.size<=s.heap.objs.size
 funs:s.heap.FunFrames base outer
 frf:∀b∈xY outer,H b=none
 hok:jP P w H s.heap
 bare:AllBare s.gens
def CE (outer:List Env) (P:Program) (w:World) (H:Hp) (s:Shared) (Q:VK) (u:Value) (s':Shared):Prop:=
 ∃v H',s'.os=s.os/\AllBare s'.gens/\Un (xY outer) [] H H' s.heap s'.heap/\jP P w H' s'.heap/\RelV v u/\Q v H'
def CR (CX:wu) (outer:List Env) (P:Program) (w:World) (H:Hp) (s:Shared) (Q:VK) (E:XK) (r:Result) (s':Shared):Prop:=
 match r with
 | .ok (.ret u)=>CE outer P w H s Q u s'
 | .ok _=>False
 | .error e=>CX outer H s E e s'
structure bI (P:Program) (w:World) (K:IS) (mg:LF) (base:Heap) (CX:wu) (k:Nat) (f:Addr) (fd:FuncData) (ps:LI) (sp:Sp):Prop where
 len:∀vs H Q E,sp vs H Q E->vs.length=ps.length
 run:∀(A:Around) (outer:List Env) (s:Shared) (H:Hp) (args:Args) (us:LK) (vs:List V) (Q:VK) (E:XK),fF k A->uS P w K mg base A outer s H->BindsTo s fd args (ps.zip us)->bR vs us->sp vs H Q E->
  codeAny (model P w) A (.call (.ref f) args) (CR CX outer P w H s Q E) s
theorem uS.make {P:Program} {w:World} {K:IS} {mg:LF} {base:Heap} {A:Around} {outer:List Env} {s:Shared} {H:Hp} (e:uS P w K mg base A outer s H) (C:Addr) (us:LK) (kw:List (Str×Value)):
  uS P w K mg base (A.under (.builtin "type.__call__" ⟨.ref C::us,kw⟩)) outer s H:=⟨by first|exact e.frames|(simpa [Around.under,Code.envs,Code.isFrame,pushEnvs] using e.frames),e.mod,e.bs,e.bsz,e.funs,e.frf,e.hok,e.bare⟩
variable {s':Shared}
theorem aW.env0 (I:aW X pins σ H s):uS X.prog X.w X.K X.mg X.base X.A X.stack s H:=
 ⟨I.ok.frames,I.ok.mod,I.bs,JV I.ok.bsz I.sz,I.stack,I.stkFree,I.hok,I.bare⟩
theorem aW.after {Q:VK} {u:Value} (I:aW X pins σ H s) (h:CE X.stack X.prog X.w H s Q u s'):EP X pins σ Q u s':=by
 obtain ⟨v,H',os,bare,un,hok,r,q⟩:=h;obtain ⟨hh,g,d,t,os'⟩:=s';obtain rfl:os'=s.os:=os;exact ⟨v,H',I.call (h':=hh) (g':=g) (d':=d) (t':=t) (ch:= []) un hok bare (fun b z=>absurd z (by simp)),r,q⟩
def zJ (sp:Sp) (dvs:List V) (E:XK) (t:TA):TE:=fun σ H Q=>t σ H fun vs H1=>sp (vs++dvs) H1 Q E
def Cw (C:Addr) (sp:Sp) (dvs:List V) (E:XK) (t:TA):TE:=fun σ H Q=>t σ H fun vs H1=>∀x dx,H1 x=none->H1 dx=none->dx≠x->
 sp (.ref x::(vs++dvs)) (aO (aO H1 dx (.own x)) x (.ins C dx [])) (fun v H2=>v= .non/\Q (.ref x) H2) E
def Binds (K:IS) (fd:FuncData) (ps:LI) (ds:LK):Prop:=
 ∀(s:Shared) (us:LK),K.In s.heap->(us++ds).length=ps.length->BindsTo s fd ⟨us,[]⟩ (ps.zip (us++ds))
theorem Binds.all {K:IS} {fd:FuncData} {ps:LI} (h:∀us:LK,us.length=ps.length->bindArgs fd ⟨us,[]⟩=pure (ps.zip us)):Binds K fd ps []:=fun s us _ hl=>by
 rw[Jw] at hl⊢;exact .of_eq (h us hl)
def nk (CX:wu) (X:Cx) (E:XK):Prop:=∀(pins:LG) (σ:St) (H:Hp) (s:Shared) (e:Value) (s':Shared),aW X pins σ H s->CX X.stack H s E e s'->X.xe e s'
section
variable {CX:wu} {k:Nat} {f C:Addr} {fd:FuncData} {ps:LI} {sp:Sp} {dvs:List V} {ds:LK} {E:XK} {x m:Str} {p pos apos:Pos} {e o:Expr} {es:List Expr} {ta:TE} {t:TA}
theorem C1 {pins:LG} {σ:St} {H:Hp} {s:Shared} {Q:VK} {us:LK} {vs:List V} (F:bI X.prog X.w X.K X.mg X.base CX k f fd ps sp) (hr:fF k X.A) (hb:Binds X.K fd ps ds) (hd:bR dvs ds) (hx:nk CX X E)
  (I:aW X pins σ H s) (r:bR vs us) (h:sp (vs++dvs) H Q E):wpAny (model X.prog X.w) X.A (call (.ref f) us) (EP X pins σ Q) X.xe s:=by
 have r2:bR (vs++dvs) (us++ds):=r.append hd;have hl:(us++ds).length=ps.length:=by rw[<-r2.length];exact F.len _ _ _ _ h
 refine wpAny_call (codeAny_mono (F.run X.A X.stack s H ⟨us,[]⟩ (us++ds) (vs++dvs) Q E hr I.env0 (hb s us I.kIn hl) r2 h) fun r s' hq=>?_)
 cases r with
 |error e=>exact hx pins σ H s e s' I hq
 |ok fl=>
  cases fl with
  |ret u=>exact I.after hq
  |next=>exact False.elim hq
  |brk=>exact False.elim hq
  |cont=>exact False.elim hq
theorem BD (F:bI X.prog X.w X.K X.mg X.base CX k f fd ps sp) (hr:fF k X.A) (hg:Gl X x) (hm:X.mg x=some (.ref f)) (hk:KU X.K (.ref f)=true) (hb:Binds X.K fd ps ds) (hd:bR dvs ds) (hx:nk CX X E)
  (ha:PA X (e::es) t) (hdb:(x==("__debug__" :Str))=false:=by decide) (he:starEach (e::es) X.env=(false,eval e X.env)::starEach es X.env:=by rfl) (hpl:(backTo pos (starEach es X.env)).any (·.1)=false:=by rfl):
  PE X (.Call (.Name x p) (e::es) [] pos) (zJ sp dvs E t):=by
 intro pins s σ H Q I h;refine wpAny_Call_Name_kw (qH I hg hm ?_ hdb);refine PySem.W.callWith_K (h₀:=X.base) I.ok.mod.kin hk (cu (ha pos pins s σ H _ I h) fun us s1 ⟨vs,H1,I1,r,q⟩=>⟨I1.kIn,?_⟩) he hpl
 exact C1 F hr hb hd hx I1 r q
structure Mk (K:IS) (C f:Addr):Prop where
 makes:PySem.W.makesIn K C=true
 init:KJ K (.ref C) "__init__" =some (some (.ref f))
 fn:PySem.W.isFn K (.ref f)=true
 kp:KU K (.ref C)=true
theorem zK {pins:LG} {σ:St} {H:Hp} {s:Shared} {Q:VK} {us:LK} {vs:List V} (M:Mk X.K C f) (F:bI X.prog X.w X.K X.mg X.base CX k f fd ps sp) (hr:fF (k+1) X.A) (hb:Binds X.K fd ps ds) (hd:bR dvs ds)
  (hx:nk CX X E) (I:aW X pins σ H s) (r:bR vs us)
  (h:∀x dx,H x=none->H dx=none->dx≠x->sp (.ref x::(vs++dvs)) (aO (aO H dx (.own x)) x (.ins C dx [])) (fun v H2=>v= .non/\Q (.ref x) H2) E):
  wpAny (model X.prog X.w) X.A (call (.ref C) us) (EP X pins σ Q) X.xe s:=by
 have hq:=h (s.heap.objs.size+1) s.heap.objs.size (I.hok.fresh (Kb _)) (I.hok.fresh (IT _)) (J6 (Ke _));have I2:=aW.made (C:=C) I;have r2:bR (V.ref (s.heap.objs.size+1)::(vs++dvs)) (Value.ref (s.heap.objs.size+1)::(us++ds)):= .cons rfl (r.append hd);have hl:(Value.ref (s.heap.objs.size+1)::us++ds).length=ps.length:=by
  have e:=r2.length;rw[F.len _ _ _ _ hq] at e;exact e.symm
 refine wpAny_call (zI (f:=f) I.kIn M.makes M.init (beq_iff_eq.mp M.fn) (codeAny_mono (F.run _ X.stack _ _ ⟨Value.ref (s.heap.objs.size+1)::us,[]⟩ (Value.ref (s.heap.objs.size+1)::(us++ds)) _ _ E (hr.make C us [])
  (I2.env0.make C us []) (hb _ (Value.ref (s.heap.objs.size+1)::us) I2.kIn hl) r2 hq) fun r s' hq'=>?_))
 cases r with
 |error e=>exact hx pins σ _ _ e s' I2 hq'
 |ok fl=>
  cases fl with
  |ret u=>
   obtain ⟨v,H',I3,rv,ev,q3⟩:=I2.after hq';subst ev;exact ⟨rv,⟨V.ref (s.heap.objs.size+1),H',I3,rfl,q3⟩⟩
  |next=>exact False.elim hq'
  |brk=>exact False.elim hq'
  |cont=>exact False.elim hq'
theorem BE (M:Mk X.K C f) (F:bI X.prog X.w X.K X.mg X.base CX k f fd ps sp) (hr:fF (k+1) X.A) (hg:Gl X x) (hm:X.mg x=some (.ref C)) (hb:Binds X.K fd ps ds) (hd:bR dvs ds) (hx:nk CX X E)
  (ha:PA X (e::es) t) (hdb:(x==("__debug__" :Str))=false:=by decide) (he:starEach (e::es) X.env=(false,eval e X.env)::starEach es X.env:=by rfl) (hpl:(backTo pos (starEach es X.env)).any (·.1)=false:=by rfl):
  PE X (.Call (.Name x p) (e::es) [] pos) (Cw C sp dvs E t):=by
 intro pins s σ H Q I h;refine wpAny_Call_Name_kw (qH I hg hm ?_ hdb);refine PySem.W.callWith_K (h₀:=X.base) I.ok.mod.kin M.kp (cu (ha pos pins s σ H _ I h) fun us s1 ⟨vs,H1,I1,r,q⟩=>⟨I1.kIn,?_⟩) he hpl
 exact zK M F hr hb hd hx I1 r q
end
structure aJ (N P:LI) (sc:Scope):Prop where
 kind:sc.kind= .function
 co:sc.isCoroutine=false
 gen:sc.isGenerator=false
 nd:N.Nodup
 pre:N.take P.length=P
 par:∀x∈P,sc.names.lookup x=some .local∨sc.names.lookup x=some .cell
 nofree:∀y∈sc.names,y.2≠ .free
theorem pj {kindOf:Str->Option NameKind} {x:Str}:∀{binds:List (Str×Value)} {m:LF},(∀v,(x,v)∉binds)->bindL kindOf binds m x=m x
 | [],_,_=>rfl
 |(n,v)::r,m,h=>by
  unfold bindL;rw[pj fun w hw=>h w (J9 _ hw)]
  split
  ·have:x≠n:=by rintro rfl;exact h v JO
   simp[this]
  ·rfl
theorem pA {kindOf:Str->Option NameKind} {x:Str}:∀{binds:List (Str×Value)} {m:LF},(∀v,(x,v)∉binds)->bindC kindOf binds m x=m x
 | [],_,_=>rfl
 |(n,v)::r,m,h=>by
  unfold bindC;rw[pA fun w hw=>h w (J9 _ hw)]
  split
  ·rfl
  ·have:x≠n:=by rintro rfl;exact h v JO
   simp[this]
theorem pC {kindOf:Str->Option NameKind} {x:Str} {v:Value}:∀{P:LI} {vs:LK} {i:Nat} {m:LF},P.Nodup->P[i]?=some x->vs[i]?=some v->kindOf x=some .local->
  bindL kindOf (P.zip vs) m x=some v
 | [],_,_,_,_,h,_,_=>by simp at h
 |_::_,[],_,_,_,_,h,_=>by simp at h
 |p::P,w::vs,0,m,nd,h1,h2,hk=>by
  simp at h1 h2;subst h1;subst h2;show bindL kindOf ((p,w)::P.zip vs) m p=_;unfold bindL;rw[pj fun v hv=>(Jm.mp nd).1 (List.of_mem_zip hv).1,if_pos hk]
  simp
 |p::P,w::vs,i+1,m,nd,h1,h2,hk=>by
  show bindL kindOf ((p,w)::P.zip vs) m x=_;unfold bindL;exact pC (i:=i) (Jm.mp nd).2 (by simpa using h1) (by simpa using h2) hk
theorem pD {kindOf:Str->Option NameKind} {x:Str} {v:Value}:∀{P:LI} {vs:LK} {i:Nat} {m:LF},P.Nodup->P[i]?=some x->vs[i]?=some v->kindOf x≠some .local->
  bindC kindOf (P.zip vs) m x=some v
 | [],_,_,_,_,h,_,_=>by simp at h
 |_::_,[],_,_,_,_,h,_=>by simp at h
 |p::P,w::vs,0,m,nd,h1,h2,hk=>by
  simp at h1 h2;subst h1;subst h2;show bindC kindOf ((p,w)::P.zip vs) m p=_;unfold bindC;rw[pA fun v hv=>(Jm.mp nd).1 (List.of_mem_zip hv).1,if_neg hk]
  simp
 |p::P,w::vs,i+1,m,nd,h1,h2,hk=>by
  show bindC kindOf ((p,w)::P.zip vs) m x=_;unfold bindC;exact pD (i:=i) (Jm.mp nd).2 (by simpa using h1) (by simpa using h2) hk
noncomputable def start (N:LI) (vs:List V):St:=vs.map some++List.replicate (N.length-vs.length) none
noncomputable def yd (CX:wu) (P:Program) (w:World) (K:IS) (mg:LF) (base:Heap) (N:LI) (qual:Str) (scope:Scope) (f:Addr) (cd:Value) (A:Around) (outer:List Env) (s:Shared) (H:Hp) (E:XK):Cx where
 prog:=P
 w:=w
 K:=K
 mg:=mg
 base:=base
 A:=A.deeper (envOfC qual scope s.heap.objs.size f cd)
 N:=N
 s₀:=s
 H₀:=H
 env:=envOfC qual scope s.heap.objs.size f cd
 outer:=outer
 stack:=envOfC qual scope s.heap.objs.size f cd::outer
 ex:= []
 calm:=true
 fn:=fun _=>true
 pn:= []
 xe:=fun e s'=>wpAny (model P w) (A.deeper (envOfC qual scope s.heap.objs.size f cd)) (leaving (envOfC qual scope s.heap.objs.size f cd) e) (fun _ s''=>CX outer H s E e s'') (fun e' s''=>CX outer H s E e' s'') s'
theorem sD {sc:Scope} {n:Nat} {x:Str} (h:sc.names.lookup x=some .cell):∃c,(cellsFrom n sc.names []).lookup x=some c:=by
 have q:=PySem.W.cellsFrom_some sc.names n [] (.inl h);exact JY.mp q
theorem ye {CX:wu} {P:Program} {w:World} {K:IS} {mg:LF} {base:Heap} {N ps:LI} {qual:Str} {scope:Scope} {f:Addr} {cd:Value} {A:Around} {outer:List Env} {s s1:Shared} {H:Hp} {E:XK} {us:LK} {vs:List V}
  (S:aJ N ps scope) (hd:A.handled=none) (e0:uS P w K mg base A outer s H) (hl:vs.length=ps.length) (r:bR vs us)
  (x:InCallC s s.heap.objs.size (bindL (envOfC qual scope s.heap.objs.size f cd).kindOf (ps.zip us) fun _=>none) (cellsFrom (s.heap.objs.size+1) scope.names []) (bindC (envOfC qual scope s.heap.objs.size f cd).kindOf (ps.zip us) fun _=>none) s1):
  aW (yd CX P w K mg base N qual scope f cd A outer s H E) [] (start N vs) H s1:=by
 have hpl:ps.length<=N.length:=by have:=congrArg List.length S.pre;rw[JH] at this;lia
 obtain ⟨h1,tk,rfl,hk⟩:=x.done;have noA:∀b:Addr,b∉(yd CX P w K mg base N qual scope f cd A outer s H E).ex:=fun b z=>absurd (show b∈([]:LJ) from z) (by simp)
 refine ⟨⟨e0.mod,S.kind,rfl,rfl,IT _,fun y z c h1 h2=>?_,fun y hy=>?_,fun y c _ h=>?_,fun _=>hd,Around.frames_deeper e0.frames,.inr ⟨rfl,rfl⟩,fun b z=>absurd z (noA b),e0.bs,e0.bsz,fun b _ _=>noA b,fun b z=>absurd z (noA b),e0.funs,e0.frf⟩,
  rfl,e0.bare,Un.kept hk,⟨_,x.toInCall.ns,fun i y v h1 h2 h3=>?_⟩,fun y c h=>⟨_,x.cell y c h⟩,e0.hok.fresh (IT _),fun y c h=>?_,fun p hp=>absurd (show p∈([]:LG) from hp) (by simp),e0.hok.kept hk,?_⟩
 ·exact name_of_addr x.apart (Jk h1) (Jk h2)
 ·have hy:scope.names.lookup y=some .cell∨scope.names.lookup y=some .free:=hy;rcases hy with hy|hy
  ·exact sD hy
  ·exact absurd rfl (S.nofree _ (Jk hy))
 ·exact Nat.le_of_lt (x.above y c (Jk h))
 ·have hi:i<vs.length:=by
   unfold start at h2
   by_cases hi:i<vs.length
   ·exact hi
   ·rw[IV (by simpa using hi)] at h2
    rw[List.getElem?_replicate] at h2
    split at h2<;>cases h2
  have ha:vs[i]?=some v:=by
   unfold start at h2;rw[J5 (by simpa using hi),IQ] at h2
   cases e:vs[i]? with
   |none=>rw[e] at h2;cases h2
   |some a=>rw[e] at h2;cases h2;rfl
  obtain ⟨u,hu,rv⟩:=r.get ha;have hp:ps[i]?=some y:=by
   rw[<-S.pre,Kk (by lia)];exact h1
  have ndP:ps.Nodup:=by rw[<-S.pre];exact S.nd.sublist (List.take_sublist _ _)
  refine ⟨u,rv,?_⟩;rcases S.par y (IR hp) with k|k
  ·exact .inl ⟨k,pC ndP hp hu k⟩
  ·obtain ⟨c,e⟩:=sD (n:=s.heap.objs.size+1) k;refine .inr ⟨.inl k,c,e,?_⟩;have q:=x.cell y c e;rw[pD ndP hp hu (by show scope.names.lookup y≠_;rw[k];decide)] at q
   exact q
 ·exact e0.hok.fresh (Nat.le_of_lt (x.above y c (Jk h)))
 ·unfold start;show _=N.length;rw[IU,IN,List.length_replicate]
  lia
theorem wv {CX:wu} {P:Program} {w:World} {K:IS} {mg:LF} {base:Heap} {k:Nat} {f:Addr} {name qual:Str} {params:Arguments} {body:List Stmt} {scope:Scope} {dV kV doc pm cdv ct oc:Value} {an od:LL}
  {osl:LH} {N ps:LI} {sp:Sp} (lk:K.lookup f=some ⟨oc,od,.func (KH name qual params body scope dV kV doc pm an cdv ct),osl⟩) (hcd:PySem.W.codeIn K cdv qual=true) (S:aJ N ps scope)
  (len:∀vs H Q E,sp vs H Q E->vs.length=ps.length)
  (hbody:∀(A:Around) (outer:List Env) (s:Shared) (H:Hp) (vs:List V) (Q:VK) (E:XK),fF k (A.deeper (envOfC qual scope s.heap.objs.size f cdv))->sp vs H Q E->
   ∃t,xZ (yd CX P w K mg base N qual scope f cdv A outer s H E) body t/\t {nx:=fun _ H'=>Q .non H',rt:=Q} (start N vs) H):
  bI P w K mg base CX (k+1) f (KH name qual params body scope dV kV doc pm an cdv ct) ps sp:=by
 refine ⟨len,fun A outer s H args us vs Q E hr e0 hb r hsp=>?_⟩
 have hl:=len _ _ _ _ hsp;have KX:K.In s.heap:=e0.mod.kin.keeps fun b o e=>(e0.bs b o e).1
 have lim:s.heap.NoLimit:=e0.mod.nolimit.keeps fun b o e=>(e0.bs b o e).1
 have hkind:∀y∈ps.zip us,scope.names.lookup y.1=some .local∨(scope.names.lookup y.1=some .cell/\((cellsFrom (s.heap.objs.size+1) scope.names []).lookup y.1).isSome=true):=fun ⟨n,v⟩ hy=>by
  rcases S.par n (List.of_mem_zip hy).1 with q|q
  ·exact .inl q
  ·exact .inr ⟨q,PySem.W.cellsFrom_some _ _ _ (.inl q)⟩
 refine codeAny_call_function hr.depth (KX _ _ lk) rfl S.co S.gen rfl (PySem.W.codeRec_of KX hcd) (hb _ _ _ _ ?_);refine wpAny_newFunctionEnv_cells S.kind hkind fun env he s1 x=>?_
 subst he;refine ⟨lim.keeps x.toInCall.keep,codeAny_func ?_⟩;obtain ⟨t,ht,hq⟩:=hbody A outer s H vs Q E (hr.deeper _) hsp;have I:aW (yd CX P w K mg base N qual scope f cdv A outer s H E) [] (start N vs) H s1:=ye S hr.hd e0 hl r x;refine wpAny_mono (ht [] s1 (start N vs) H _ I hq) (fun fl s' hs=>?_) fun e s' hs=>hs
 have fin:∀{σ':St} {H':Hp} {v:V} {u:Value},aW (yd CX P w K mg base N qual scope f cdv A outer s H E) [] σ' H' s'->RelV v u->Q v H'->CE outer P w H s Q u s':=
  fun {σ' H' v u} J rv q=>⟨v,H',J.os,J.bare,J.base,J.hok,rv,q⟩
 cases fl with
 |ret u=>
  obtain ⟨v,σ',H',J,rv,q⟩:=hs;exact fin J rv q
 |next=>
  obtain ⟨σ',H',J,q⟩:=hs;exact fin (v:=V.non) (u:=Value.none) J rfl q
 |brk=>
  obtain ⟨_,_,_,q⟩:=hs;exact False.elim q
 |cont=>
  obtain ⟨_,_,_,q⟩:=hs;exact False.elim q
section
variable {x:Str} {p pos:Pos} {e:Expr} {es:List Expr} {t:TA} {id T:String} {r:List V->Hp->VK->Prop}
def Io (r:List V->Hp->VK->Prop) (t:TA):TE:=fun σ H Q=>t σ H fun vs H1=>r vs H1 Q
theorem aA (hc:dC X (.builtin id) r) (hg:Gl X x) (hm:X.mg x=none) (hv:bootBuiltins x=some (.builtin id)) (ha:PA X (e::es) t) (hn:x≠ "__name__" :=by decide) (hdb:(x==("__debug__" :Str))=false:=by decide)
  (he:starEach (e::es) X.env=(false,eval e X.env)::starEach es X.env:=by rfl) (hpl:(backTo pos (starEach es X.env)).any (·.1)=false:=by rfl):PE X (.Call (.Name x p) (e::es) [] pos) (Io r t):=by
 intro pins s σ H Q I h;refine wpAny_Call_Name_kw (dW I hg hm hv ?_ hn hdb);exact PyProof.Rows.callWith_builtin1 (cu (ha pos pins s σ H _ I h) fun us s1 ⟨vs,H1,I1,r1,q1⟩=>hc pins s1 σ H1 vs us Q I1 r1 q1) he hpl
theorem dE (hc:dC X (.type T) r) (hg:Gl X x) (hm:X.mg x=none) (hv:bootBuiltins x=some (.type T)) (ha:PA X (e::es) t) (hn:x≠ "__name__" :=by decide) (hdb:(x==("__debug__" :Str))=false:=by decide)
  (he:starEach (e::es) X.env=(false,eval e X.env)::starEach es X.env:=by rfl) (hpl:(backTo pos (starEach es X.env)).any (·.1)=false:=by rfl):PE X (.Call (.Name x p) (e::es) [] pos) (Io r t):=by
 intro pins s σ H Q I h;refine wpAny_Call_Name_kw (dW I hg hm hv ?_ hn hdb);exact Ja (cu (ha pos pins s σ H _ I h) fun us s1 ⟨vs,H1,I1,r1,q1⟩=>hc pins s1 σ H1 vs us Q I1 r1 q1) he hpl
end
end L2
open Lean in
local macro_rules|`(⟨$xs,*⟩)=>do
 let mut y:Array (TSyntax `term):=#[]
 let mut c:=false
 for x in xs.getElems do
  if x.raw.getId== `ν then
   c:=true
   y:=(y.push (←`(_))).push (←`(rfl))
  else if x.raw.getId== `ω then
   c:=true
   y:=(((y.push (←`(_))).push (←`(_))).push (←`(rfl))).push (←`(rfl))
  else y:=y.push x
 if c then `(⟨$y,*⟩) else Macro.throwUnsupported
local macro_rules|`($a<*>$b)=>`(@L2.aa _ _ _ _ _ $a $b rfl)
set_option hygiene false in
local macro_rules|`(tactic|and_intros)=>`(tactic|refine F.ok sc (fun vs H Q E h=>by repeat first|(obtain ⟨rfl,_⟩:=h;rfl)|obtain ⟨_,h⟩:=h) (fun cdv A outer s H vs Q E hr h=>?_))
local macro_rules|`(tactic|exists $a,*)=>`(tactic|refine ⟨$a,*, ?_⟩)
local macro_rules|`(($x,$y,*))=>`(⟨$x,$y,*⟩)
open Lean in
def sb (b:Nat) (t u:Array Syntax):Nat->Syntax->Syntax
 |n+1,.node i k a=>
  let c:=a.map (sb b t u n)
  let g (s:Syntax):=match s.isNatLit? with |some m=>if b<=m then t.getD (m-b) .missing else .missing|_=>.missing
  let r:=g (.node i k a)
  if !r.isMissing&&r.getNumArgs+r.getId.toString.length>0&& !r.isOfKind `Lean.Parser.Term.hole then r
  else if k== `Lean.Parser.Tactic.sleep then u.getD (a[1]!.isNatLit?.getD 0) .missing
  else if k== `Lean.Parser.Term.app&& !(g a[0]!).isMissing then
   let r:=if c[0]!.isOfKind `Lean.Parser.Term.paren then c[0]![1] else c[0]!
   if r.isOfKind `Lean.Parser.Term.app then .node i k #[r[0],mkNullNode (r[1].getArgs++c[1]!.getArgs)] else .node i k #[r,c[1]!]
  else if k== `Lean.Parser.Command.universe then .node i `Lean.Parser.Command.end #[mkAtom "end",mkNullNode (if a[1]![0].getId== `z0 then #[] else #[a[1]![0],mkNullNode])]
  else .node i k c
 |_,s=>s
open Lean in
local macro_rules|`(mutual $c* end)=>do
 let c:=c.raw
 let mut t:=c[0]![1][1].getArgs
 let some f:=c[1]!.find? (·.isOfKind `Lean.Parser.Tactic.first)|Macro.throwUnsupported
 let mut u<-f[1].getArgs.mapM fun a=>return (<-`(tactic|($(.mk a[1])))).raw
 for _ in [0:9] do
  let g:=sb 32 t u 999
  t:=t.map g
  u:=u.map g
 return mkNullNode ((c.extract 2 c.size).map (sb 32 t u 999))
mutual
#check f
 (λ_ _=>rfl)
 _
 _
 _
 _
 _
 _
 _
 _
 (by lia)
 _
 _
 _
 _
 _
 _
 _
 (by decide)
 _
 _
 _
 _
 _
 _
 _
 _
 _
 _
 _
 _
 _
 _
 _
 _
 _
 _
 _
 _
 _
 _
 _
 _
 _
 _
 _
 _
 _
 _
 _
 _
 _
 _
 _
 _
 _
 _
 _
 _
 _
 _
 _
 _
 _
 (by decide+kernel)
 s.heap.objs.size
 _
 (λ_ _ _ _ _ _=>ca λ_ _=>rfl)
 (X.block scope cl s3.heap.objs.size (own::ys) own fp s3 347)
 _
 Heap.get?_push_of_some
 {cls:= .type "set",dict:=none,data:= .set #[] 0 (.fresh 0 0 led)}
 (model prog w)
 PassesOwn.never
 (bL "tasks" 148 175)
 (iG (iF ig) 403 49 rfl rfl rfl rfl rfl rfl rfl rfl)
 (iG ig .nil 49 rfl rfl rfl rfl rfl rfl rfl rfl)
 (pv 0)
 (T.length:Int)
 (by simp)
 (0,0,0)
 IntMulOk.of_left
 (.ListComp elt [⟨.Name own px,iter,[],0⟩] scope pos)
 (model X.prog X.w)
 (λ_ _ _ _ _ _=>eB λ_ _ _=>rfl)
 (pv 1)
 xs.length
 (av (bY (K:=K) rfl) 108 ak 32)
 (aA aK rfl B.Kn boot_len 186)
 (X.block scope cl C (own::ys) own fp s H)
 Heap.get?_push_size
 _
 (pv 2)
 (S.length:Int)
 (@bq _ _ _ _ ae)
 (aA aK rfl B.Kn boot_len 449)
 (pv 3)
 _
 (by decide,J1 49)
 (λa h=>h.elim)
 (0+(i:Int))
 (.lst [])
 {cls:= .type "tuple",data:= .seq (ys.map λ(i:Nat)=>rawInt i).toArray}
 (pv 4)
 (iG (iF (iF ig)) (.cons rfl 403) 49 rfl rfl rfl rfl rfl rfl rfl rfl)
 (aI _)
 (2*(i:Int)+1)
 (by with_unfolding_all rfl)
 (iG (iF (iF (iF ig))) (.cons rfl (.cons rfl 403)) 49 rfl rfl rfl rfl rfl rfl rfl rfl)
 (.dK kvs)
 {cls:= .type "list",data:= .seq ([]:LK).toArray}
 (cC DZ43 hr (108<*>(ak<*>ae)))
 ((ce A T P O).map i4)
 _
 ((relabel scope X.env).names.all λp=> !(p.2== .cell||p.2== .free)||(cl.lookup p.1).isSome)
 (λ_=>False)
 {cls:= .type "range",data:= .fields #[.int lo t,.int hi u,.int 1 v]}
 (.ref p)
 (R.getD i 111)
 (λa=>a≠p/\(H1 a=none∨Z a))
 (X.blockT scope cl s3.heap.objs.size (os++ys) os fp s3 347)
 (λt k=>H t=some 383)
 (∀y H5,aC H2 H5->R (λa=>H2 a=none∨Z a) H5 y (f i)->Q' y H5)
 (pv 5)
 (cH 108 rfl)
 (.dK (bU D))
 (2*(i:Int))
 (av aG 116 ak 32)
 (Int×Value)
 {s with heap:=((s.heap.update a 356).push 283).push 364}
 (R.length:Int)
 (List Int)
 (.ref s2.heap.objs.size)
 (.ListComp elt [⟨.Name own px,iter,[cond],0⟩] scope pos)
 {cls:= .type "list",dict:=none,data:= .seq ([]:LK).toArray}
 (cn T R i)
 (av aG 123 ak 32)
 (.lst (c.map V.int))
 (scope.names.all λp=> !(p.2== .local)||scope.names.lookup p.1==some .local)
 (λ_ _ _ _ _ _=>jc λ_ _ _ _=>rfl)
 (intBits_le_64 41 41)
 (.lst (bs.map V.ref++ [.ref t1]))
 (ns.map V.int)
 (λk y hy Hk gk Q' hQ=>?_)
 (bL "tools" 569 [])
 (λc=>?_)
 (λn s'=>∃i zs o0 H',aW 99 [] (o0::aZ js σ) H' s'/\tn i s'.heap/\(∀b∈fp,H' b=none)/\W i n zs H')
 (by show (3:Int)≠0;decide)
 (∀h',Heap.SameBut C s6.heap h'->aW X pins σ H5 {s6 with heap:=h'})
 _
 (λz=>by subst z;rw[h] at q;cases q)
 (∀σ' H',N σ' H'->∃m',m'<m/\W 233 m' σ' H')
 (nQ 569 148 571 (.ref pl') (.int n))
 (.refl _)
 (bL "arcs" 571 105)
 (108<*>ae)
 (Or.inr rfl)
 (λr s'=>r= .ok (.ret 537)/\OldK s₁.heap s'.heap/\s'.os=s₁.os/\AllBare s'.gens)
 (λ_ _=>False)
 (rfl,aN _ _ 545)
 (by show (2:Int)≠0;decide)
 (127<*>ae)
 {cls:= .type "list",dict:=none,data:= .seq acc c,slots:= #[]}
 (2*109+n)
 (.tup [.ref td,.ref tl,.ref la])
 {cls:= .type "list",data:= .seq its.toArray n}
 (bx rfl B.Ko (119<*>ae))
 (aO H3 t1 (.tup [.int 157,.int 137,.int m1]))
 (·.1)
 _
 (aA aK rfl B.Kn boot_len 448)
 (aA aK rfl B.Kn boot_len 268)
 (IT _)
 (108<*>449)
 (.ref a)
 (λN hN=>?_)
 (if cr 454 t=true then bJ (cn T R n) z else 0)
 (ar (aD fg))
 (.frz o 140)
 {s with heap:=h',toks:=tk}
 {cls:= .type "list",data:= .seq vs.toArray}
 {D with nx:=Pv 233,ct:=Pv 233,bk:=D.nx}
 (U.getD k [])
 (.ref t)
 (.ref l)
 (wpAny_pure ?_)
 (bs.map V.ref)
 (av aG 108 ak 32)
 (SetTable.grown es1.size)
 (by intro z;cases z)
 (ar (aD aX))
 (((cK T R z).drop 314).map (λi:Nat=>V.int (i:Int)))
 (λ_ _ _ _ _ _=>j0 λ_=>rfl)
 (X.blockT scope cl C (os++ys) os fp s H)
 (aP 346 (aP 324 cS))
 (.lst (ba.map V.ref))
 ((bw R M).length:Int)
 (Heap.lt_size e)
 (λC fp s H=>118)
 (134<*>ae)
 ((W2.length+1:Nat):Int)
 (.lst ys)
 (i+1)
 ((R.getD i 111).2.1-(R.getD i 111).1)
 (by simpa using h)
 (I.ok.hd hc)
 ((bV T P i).map λw:Wy=>w.2.1)
 (∀b o,s.heap.get? b=some o->h'.get? b=some o)
 (List Key×V)
 (.ListComp elt [⟨tg,iter,[],0⟩] scope pos)
 (aQ (aA (jf rfl) rfl B.KK PyProof.Rows.Boot.«sorted» 448))
 (!w.params.followText "set-order" &&(!t.plain&&decide (es.size>1)))
 (λw hw=>i6 rx fx r fs w (by simpa using hw))
 (av aG 154 ak 32)
 (av aG 134 ak 32)
 (av aG 127 ak 32)
 (.lst [.int ((mo.fdiv 5).fmod 3*90),.int ((c.fdiv 5).fmod 2*180)])
 (.lst (ys.map V.str))
 (if u.1=z then u.2.1 else 0)
 (by show (4:Int)≠0;decide)
 ((bV T P i).getD k 402)
 (match es[SetTable.below t.place slot]?,t.place[SetTable.below t.place slot]? with|some (_,x),some j=>some (x,j+1)|_,_=>none)
 (ar (bQ (dG J8 JG JF bG 123 ((@bM _ _ _ _ _ (i5<*>192))<*>ae))))
 (pv 6)
 (compEnvC scope cl s3.heap.objs.size X.env)
 (.ref tl)
 (.builtin "isinstance")
 (λc2=>?_)
 (false,eval e X.env)
 (fH V.int)
 (.lst (M.map V.int))
 (.ref x)
 (cu (ha pos pins s σ H _ I h) λus s1 (vs,H1,I1,r1,q1)=>?_)
 (.ref la)
 (.ref 96)
 {s with heap:=h'}
 (kvs.any λkv=>decide (kv.1=k))
 (123<*>ae)
 (g1.trans g2)
 (λ_ s' hq=>wpAny_pure (wpAny_pure hq))
 (by show 3<=sizeLine;decide,λt nt=>?_)
 (by rw[IN];lia)
 (by kernel_rfl)
 (av (bY (K:=K) rfl) 116 ak 32)
 (.ref td)
 (λk=>decide (V.int ((due.getD k []).getD 1 0)=V.int x))
 (λk=>decide (V.int ((due.getD k []).getD 0 0)=V.int x))
 (.tup [.int (ts 137),.int (tm 157),.int w,.int (i:Int)])
 (((dH items.size 0 lo:Nat):Int)==0&&(1:Int)==1&&(dH items.size items.size hi-dH items.size 0 lo)==items.size)
 (scope.names.all λp=> !(p.2== .cell))
 (Key×V)
 {D with nx:=N,ct:=N,bk:=D.nx}
 (seqObj "tuple" vs.toArray 0)
 (.ref it)
 (x==("__debug__" :Str))
 (ar (aD 127))
 (List Key×Addr×Value)
 (.tup [.int (i:Int),.ref b])
 (ce A T P O)
 {cls:= .type "slice",data:= .fields #[vl,vu,.none]}
 (some (κ.blt (kk κ x) (kk κ y)))
 (some (.int 131)::aZ js σ)
 ((aT prog w).hash (.inl y))
 (λz=>hb (by simp[z]))
 (he pins s σ H _ I h)
 (R.getD p.2.toNat 111)
 (R.getD p.1.toNat 111)
 ⟨let ⟨sl,a,b,c⟩:=st.1;⟨sl,a,b,hk I (by simp) _ c⟩,st.2.at λo e=>hk S (by simp) o e⟩
 (if r.2.1-r.1-mo.fmod 3*(r.2.1-r.1).fdiv 2>1 then r.2.1-r.1-mo.fmod 3*(r.2.1-r.1).fdiv 2 else 1)
 _
 (by rw[isSubtype_type];kernel_rfl)
 (.refl _,aN none none rfl)
 (Int×Int)
 (uC (.int slot 0) i S es.size ep)
 (rfl,rfl)
 (dH items.size items.size hi-dH items.size 0 lo)
 (av aE 108 154 32)
 (av aE 108 134 32)
 (ar (aD 123))
 (_,121 _ rfl,rfl,rfl)
 (.int m)
 (λi hi H2 x H3 g hy=>?_)
 (kvs.map λkv=>if kv.1=k then (kv.1,y) else kv)
 (k+1)
 (by lia,J1 41)
 (aw bu (aw bv 108 ak) ak)
 (.Name own px)
 (.tup [.int (1+le2),.int (1+le2+mx2),.ref u2])
 (λ_ _ z=>nomatch z)
 (.ref I)
 (.lst (C.map V.int))
 (λc1=>?_)
 (da 5 sc)
 (da 4 sc)
 (R.map rk)
 (Obj.mapSeq (· ++its.toArray))
 (.tup [.str z,.ref lf,.ref lb])
 (.ref lat)
 (.int c61)
 {s with heap:=s.heap.push 102}
 (if (c:Int)<0 then ((c:Int)+(xs.length:Int)).toNat else min (c:Int).toNat xs.length)
 (due.map i4)
 (_,aF.of el)
 (I0 (show k<S3.length by lia))
 (λc=>(⟨#[c]⟩:Str))
 (λa=>a≠l/\H0 a=none)
 (rfl,.inl 561,dF (by rw[ll];lia) ?_)
 (n0,m0)
 (m,hn,λh' hs'=>(.ref p,H5,J h' hs',rfl,q))
 (U.getD j [])
 (JI _ (JI _ (dw hb e)))
 (.tup [.int x,.int w'])
 (.tup [.int le,.int (r.2.1-r.1+mx),.ref u])
 ((JK (((F2.map cW).map V.int).length)).map λk=>cZ T P (cW 457).toNat z)
 (aV (dv (PW.pt (eQ (dD dJ fA ak 167 116) (dM (dD dJ fA ak 167 116))))) 411 aH)
 (da 3 sc)
 (aO H2 s2.heap.objs.size 132)
 (aA aK rfl B.Kn boot_len 230)
 (.lst ((lst n tm).map V.int))
 (.lst ((C.drop 1).map V.int))
 (.builtin "len")
 (aw aY ak 127)
 (.int c62)
 (rfl,nl0,g0,e0,IT _,(([],rfl),aN _ [] rfl),λp hp=>by rw[J4.mp hp];lia,trivial)
 (its.toArray.size:Int)
 (Obj.mapSeq λ_=> #[])
 (aQ 108)
 (λi H2 g hi=>(xs,xs[i],g.seq hS,I0 hi))
 (by have z:=p.isList;rw[e] at z;exact z)
 (.ins IO dx (bL "apart" (.ref pl') 185))
 (aM l _ _ C ⟨rfl,nl,k3,el3,by lia,⟨⟨D0,hD0⟩,aN x D1 hx⟩,okC,ai⟩)
 (λa=>H a=none)
 (setNext S slot i ep)
 (seqObj "list" #[] 0)
 (pv 7)
 (gS (K:=K) rfl)
 (g2 _ _ er)
 (comprehension 113 scope X.env pp (newList []) false 558 use)
 (by rw[JH];lia)
 (116<*>(123<*>(108<*>192)))
 (.ref ls)
 (.ref dl)
 (.lst (as.map V.ref))
 (ba,au,by rw[show A++dL T P 0=A from Jw A];exact ra.imp λa k q=>g0 _ _ q)
 (.Call (.Name "list" p1) [.Call (.Name "reversed" p2) [e] [] pos2] [] pos)
 (λf k=>(f∈ys.take i/\k<U.length/\f<=uB 213)∨(f=fl/\k<j/\fl<=uB 213))
 (by rw[rv.1];lia)
 (av aG 254 ak 32)
 (.str z)
 (.int c)
 (.int 131)
 ((pv 8)<*>ae)
 (.tup (k.map V.int))
 (.lst [.non,.int (R.getD i 111).2.2])
 ((c8 (own:= "_law_way") (ys:= []) (js:= []) rfl 107 (aQ 154) 229)<*>ae)
 {s with heap:=sortedHeap s.heap a vs ((arrOf st').map (·.2)).reverse}
 {cls:= .type "tuple",data:= .seq (zs.map λ(i:Nat)=>rawInt i).toArray}
 {cls:= .type "list",data:= .seq #[]}
 (λi y hy H3 g Q' hQ=>?_)
 (λ_ _ _ _ _ _=>vz λ_ _ _ _ _=>rfl)
 (rfl,.inl (aF.of es1),?_)
 (aw aY ak 134)
 (ao np _)
 (aO H2 l (.lst (vs++us)))
 (aA aK rfl B.Kn boot_len (254<*>ae))
 (aA aK rfl B.Kn boot_len (158<*>ae))
 (aA aK rfl B.Kn boot_len (154<*>ae))
 (.ref tp)
 (.dT kvs)
 (rfl,_,aF.of ec)
 (EP X pins σ Q)
 (0,0,[])
 (.cons rfl .nil)
 (.Call (.Name "len" p1) [.Call (.Name "set" p2) [e] [] pos2] [] pos)
 {s with heap:=h',drawn:=d,toks:=tk}
 (λi=>decide ((cP D z).getD 0<cA T R z ((oq R).getD i 0) R.length))
 (starEach es X.env)
 (pure (Prod.mk (Value.ref I) ([])))
 (coversAll order es.size&&t'.fits (order.filterMap (es[·]?)).size)
 (cR ps)
 (ar cI)
 (aT prog w)
 (.call (.ref fa) ⟨[.ref a],[]⟩)
 (w.params.setOrder S ep)
 (rfl,rfl,aF.of ey,(bg hv),by show 1<=sizeLine;decide,λp2 np2=>?_)
 (gZ fr ak)
 (by simp only[JD]<;>lia)
 (.lst [.str n0,.str n1])
 (.frz o 156)
 ((c8 (own:= "way") (ys:= []) (js:= []) rfl 107 (aQ 134) 229)<*>ae)
 (.Call (.Name x p) (e::es) [] pos)
 (by simp,by simp,by rw[c0];simp,λw hw=>?_,_,by rw[c0];rfl,mine)
 {cls:= .type "list_iterator",data:= .fields #[.ref l,.int 0 0]}
 (λk=>(λk:Ky=> [2*k.getD 0 0+1,2*k.getD 1 0,0]) (O.getD k []))
 (fq ah q (some p))
 (cX 3 sc 125)
 (cX 2 sc 125)
 (Lq κ)
 (HT.dH 117 117 hi-HT.dH 117 0 lo)
 (G.getD k [])
 (.ref s.heap.objs.size)
 ((0,λ_=>rfl,λz=>absurd rfl z,121 _ rfl),SA.at λo e=>101 _ e)
 {cls:= .type "list",dict:=none,data:= .seq acc c',slots:= #[]}
 (cU f=2*cW f/\0<=cW f/\cW f<109)
 ((P.length+D.length-P.length)/2)
 {cls:= .type "tuple",dict:=none,data:= .seq ([]:LK).toArray}
 (ho pins s σ H _ I h)
 (by rw[<-JQ];exact hv)
 (J6 (hlt b hb),λx c e=>(hf b hb).2.2.2.2.1 x c (sub x c e))
 (.lst (vs++ [.ref a]))
 (∃m,W 0 m σ H)
 (λk=>(due.getD k []).getD 1 0)
 (λk=>(due.getD k []).getD 0 0)
 (λ_=>none)
 (κ×V)
 (I3.fpOk 203 (show H5 s3.heap.objs.size=none from I6.free))
 (I.hok.fresh 203)
 (155<*>ae)
 (116<*>ae)
 (.tup (k.map kV))
 (.bl true)
 (ys.map V.int)
 (aw bv 123 ak)
 (R.getD n 111)
 (R.getD j 111)
 (KH x qual (gH st) (fP st) (aB st) dV kV doc pm an cdv ct)
 (F2.getD k [])
 (C,(l4,by rw[Jv i0] at sh;exact sh,pr,ai),xG (.inl nl) el)
 (.type "list")
 (.ref T)
 (∃m,s6.heap.Ns C m)
 (∀b∈fp,H' b=none)
 (rfl,rfl,aF.of 367,aj,aM ti tj _ _ (rfl,eti,etj,mB.i ?_))
 (pv 9)
 (ok.sub (x,c) (Jk e))
 (fq tm' a.2.1 (tm' a.1+a.2.2))
 (da 2 sc)
 (by rw[typeLookup_type,builtinLookup_eq_fast];kernel_rfl)
 (.lst (zs.map V.str))
 (.lst (hs.map V.int))
 (.lst (cs.map V.ref))
 ((dH n 0 lo:Nat):Int)
 (!t.plain&&decide (es.size>1))
 (∃m,W 0 m [] (aO H1 p 132))
 (∀H4,aC H2 H4->S (pr i) H4)
 (λz=>hZ a h (z▸hp),.inr h)
 (seqObj "list" its.toArray 0)
 (by show (26:Int)≠0;decide)
 (a,rfl,((λz=>by rw[z,e] at na;cases na),g.free na),au)
 (.lst [.int 1,.int 1,.int ((10:Int)^(7:Int).toNat+19)])
 (ν,g7,fl7,by rw[suc];exact (cs,ec,by simpa using rc))
 (.int ys.length,H,I.tok _,(s.toks+1,by rw[JD,hlen]),q)
 (.ListComp elt [⟨target,iter,[cond],0⟩] scope pos)
 ((x::r).getLast 110)
 ((rk 149).map V.int)
 (∀b o,b<96->s.heap.get? b=some o->h'.get? b=some o)
 (λH2 g=>(xs,g.seq hS,IT _))
 (by simp;lia)
 (aO H4 t (.tup [.int (pd U m fl j),.int fl,.ref tu]))
 (S.map V.int)
 (.type "set")
 (.builtin id)
 (.builtin "set.update.loop" ⟨[.ref S,.ref I],[]⟩)
 ((0:Nat):Int)
 (by rw[Str.length_append,Str.length_append,one];lia)
 (bV T P i)
 (aM l pB vsB usB (rfl,rfl,q2,q3,by lia,ν,kC,?_,?_))
 (λi=> [.str "tool",.str z,.int ((oq R).getD i 0)])
 (λi σ H' _ h=>h.1 _ _ ef)
 (· < ·)
 (u.map 199)
 (some (.Name y py))
 (l.map 199)
 (kk κ)
 (ip hr)
 (dA b nm)
 (by simpa using hv)
 (by simpa using hu)
 (bU [338,(n1,m1')])
 (aT X.prog X.w)
 (aF.of (g1 _ _ er))
 (@bM _ _ _ _ _ (127<*>230))
 (@bM _ _ _ _ _ (123<*>192))
 (.ref lf)
 (.lst xs)
 (.lst vs)
 (.builtin "sorted")
 ((lst n ah).map oV)
 ((i+1:Nat):Int)
 ((c.fdiv 3).fmod 3)
 (((2*109+n).toNat:Nat):Int)
 (w.params.followText "set-order" =false->led=true)
 (if v<0 then max (v+(n:Int)) 0 else min v (n:Int))
 (.ListComp elt [⟨target,iter,[],0⟩] scope pos)
 (λk y hy H2 g2 Q' hQ=>?_)
 (wpAny_fieldsOf hI rfl ?_)
 (rb.imp λa k q=>gt _ _ q)
 (aP 323 (aP (da 6 sc) cS))
 (_,by rw[JQ];exact hx,rfl)
 (.lst (P.map vP++ [vP x]))
 ((j9 (v:= .ty "str") rfl B.Lx boot_str rfl)<*>ae)
 (λb u q=>101 _ q)
 (λb o e=>101 _ e)
 (ay dX 134 aX 136)
 (av aE 158 123 32)
 (List.Perm.append_right _ (List.reverse_perm _))
 (.bool true)
 (.bl _,H,I,rfl,?_)
 ((oq R).map V.int)
 ((model prog w).w.params.followText "set-order")
 (λz=>z.1 rfl)
 (wpS_modify (wpS_pure (.inr (?_,?_,?_,?_,?_))))
 (rfl,rfl,q2,q3,by lia,?_)
 (rfl,rfl,bH.of et,rfl,?_)
 (rfl,aN _ _ (rfl,rfl,?_))
 (iE hr.units0)
 (aw aY ak 154)
 (apos.endLine==cpos.line)
 (I0 il)
 (.tup ((rk r).map V.int))
 (h.push {cls:= .type "dict",data:= .dict #[]})
 ⟨[.type "set",a],[]⟩
 (λi=>(mH 166 z).isSome)
 (wpAny_bind (wpAny_setState_of ho hd hf 216))
 (rfl,mB.i (dF nofun ?_))
 (rfl,_,aF.of ec2)
 (if V.ref a∈vs then some (f 205) else none)
 (eval iter X.env)
 (cK T R z)
 (av aG 307 ak 32)
 (aF.of el)
 (aF.of ef)
 (Value->Sem Unit)
 (V.int a=V.int b)
 (List.mem_reverse.mp hz)
 (101 _ e)
 (.tup [.ref r2,.ref m2])
 (.ref tt)
 (.ref td')
 (.ref lb)
 (.ref al')
 (.lst [.ref l1,.ref l2])
 (.lst [.int x1,.int x2])
 (.inl rfl)
 ((w::W2)[(v.fmod 231).toNat]'(by rw[JN];lia))
 _
 (#[]:Array Value)
 (λi σ H' _ h=>by rw[<-h.1];exact aF.of eu)
 (λi σ H' _ h=>by rw[<-h.1];exact aF.of el)
 (wpAny_bind (wpAny_setState_of ho hd hf ?_))
 (rfl,rfl,aF.of (g2 _ _ el),atx,rfl,hS _ 184)
 (if ([]:List Keyword).isEmpty then 0 else 1)
 (aN _ ps (rfl,g5,eP5,(as,ea,ra),by lia,pok))
 (W.frame _ s' _ _ st' (Kb _) λb hb o e=>?_)
 (∃o':L2.St,o'.length=n/\σ4=o'++aZ js σ)
 (λi σ H' _ (_,_,_,g,_)=>aF.of (g _ _ ea))
 (λb o e=>kp b o 228 e)
 (κ×Value)
 (wpAny_load hS (wpAny_pure (fin hk hS ha)))
 (uC 460 i S es.size ep)
 (tupleKind_room_in1 hu)
 (rfl,rfl,rfl)
 (r.2.1-r.1)
 (model P w)
 (g2.trans g3)
 (by rw[hj];exact bg hv)
 (bw R M)
 (Str×Addr)
 (F.getD k [])
 _
 (0+(i:Int)+1)
 (.int y tk)
 (Dx P w K mg base bD)
 (bI P w K mg base bD)
 (aU 104 rfl)
 (aM t _ _ _)
 (aM x _ dx _)
 (dG J8 JG JF bG)
 (aA (fM rfl) rfl B.Ld boot_min)
 (bx rfl B.Ko)
 (av aE)
 (dE dj rfl B.Kw boot_list)
 (cg none none)
 (aw bj)
 (aA (iD rfl) rfl B.Lc boot_max)
 (dO (i:=3) sc.nd rfl 187)
 (g1 _ _)
 (cg _ _ _)
 (aA (ju rfl) rfl B.Lc boot_max)
 (aw bu)
 (aM b _ _ _)
 (dG J8 KO KN io 123)
 (dF nofun)
 (bW (f:=V.int))
 (aA aK rfl B.Kn boot_len)
 (g2 _ _)
#check by first|(have sl:sizeLine=16777216:=sizeLine_eq)|(have I7':=I7.pinned (fpB n7) (T.obj _ _ t7);have hst:=step x H7 y7;have own':(relabel scope X.env).names.lookup own=some .local:=lookup_relabel_local ok.ownL;refine cu (iH (X:=X.block scope cl s3.heap.objs.size (own::ys) own fp s3 347) (i:=0) (x:=own) (pos:=px) ok.nd rfl (.inl own') (.inr own') _ s7 _ H7 x u (λσ' H'=>σ'=some x::aZ js σ/\H'=H7) I7' r7 305) λ_ s8 (σ8,H8,I8,e8,eH8)=>?_)|(unfold Builtin.«set_iterator.__next__»;refine wpAny_bind (m:=slotArgs _ _ _) ?_;show wpAny _ _ 408 _ _ s;refine wpAny_pure ?_;refine wpAny_bind 526;show wpAny _ _ (setEntries S>>=_) _ _ s)|(obtain ⟨it,fp,tn,J,H2,rfl,I2,T,st2,f2,q2⟩:=h2;obtain ⟨W,⟨m0,w0⟩,turn⟩:=q2 s2.heap.objs.size (I2.hok.fresh 203);refine wpAny_newObj_type (wpAny_newFunctionEnv ncell (by intro y hy;simp at hy) (λh1 hns hsb=>?_) ok.kind))|(refine wpAny_bind (m:=slotArgs _ _ _) ?_;show wpAny _ _ 408 _ _ s;refine wpAny_pure ?_;refine wpAny_bind 526;show wpAny _ _ (setEntries S>>=_) _ _ s;refine wpAny_bind (fS hS ?_))|(show wpAny _ _ 408 _ _ s;refine wpAny_pure ?_;refine wpAny_bind 526;show wpAny _ _ (setEntries S>>=_) _ _ s;refine wpAny_bind (fS hS ?_);rw[if_neg 110])|(refine wpAny_bind (wpAny_newObj_type (wpAny_pure (plainId_quiet KA _,codeAny_builtin entry_list_iadd' ?_)));rw[Around.under_plainId KA _];have fresh:(s.heap.push 141).get? s.heap.objs.size=some {cls:= .type "list",data:= .seq #[]}:=Heap.get?_push_size _ rfl)|(obtain ⟨vs,el,rT⟩:=_r1;obtain ⟨rl,ml,et,⟨bs,er,rR⟩,em⟩:=id N.plan)|(dsimp only at hns hsb⊢;rw[<-e3] at hns hsb;have hk:∀b o,s3.heap.get? b=some o->h1.get? b=some o:=λb o e=>hsb.extBut b o (J6 228) (Heap.get?_push_of_some _ e))|(refine lt3 ?_;intro D' r2 r1)|(clear h _hi _hj _hk;subst _r1)|(refine lZ _hi λe0 l1 l2 l3 l4 l5 ed _r1 _hj=>?_)|(refine (aN T' _ (rfl,bH.of au,rfl,aN _ _ 545)))|(intro X hP hw hK hc i pins s σ H E I hf st hg;subst hP hw hK)|(clear h_ _hi _hj;subst _r1)|(refine wpAny_pyIter_slot hT dk (wpAny_call_entry dk hT fR ?_ (gK _));show wpAny _ _ (ret 320) _ _ s;exact wpAny_pure (ν,"set_iterator",_,hT,bT.lookup,hQ))|(apply codeAny_builtin F.entry_set_update_loop;rw[Around.under_plainId F.plain_set_update_loop _];show wpAny _ _ (pyNext 320>>=_) _ _ s;apply wpAny_bind)|(refine Calls.callWith_builtin rfl (Calls.evalArgs_plain ?_);refine Calls.spliced_cons (x:=eval (.Call (.Name "set" p2) [e] [] pos2) X.env) (rest:= []) ?_;apply wpAny_Call_Name_kw;refine dW I g2 m2 b2 ?_ 49 49)|(refine cu (bG _ s9 _ H9 163 [y] 163 [yv] (λ_ H'=>H'=aO H9 s2.heap.objs.size (.lst (zs++ [y]))) I9 rfl (.cons r9 .nil) (_,zs,y,rfl,rfl,hD9,hz,rfl)) λ_ s10 (_,H10,I10,_,e10)=>?_)|(generalize hs3:({s2 with heap:=s2.heap.push 165,toks:=s2.toks}:Shared)=s3 at I3)|(have f3:∀b∈fp,fE X pins 347 b:=λb hb=>(by rw[aR (J6 (fpo b hb))];exact (f2 b hb).1,(f2 b hb).2))|(have e0:(s.heap.push 102).get? s.heap.objs.size=some {cls:= .type "set",dict:=none,data:= .set #[] 0 (.fresh 0 0 led)}:=Heap.get?_push_size _ rfl;have tS:Shared.TypeIs 330 431 "set" :=(_,e0,rfl))|(intro pins s σ H Q I h;apply wpAny_Call_Name_kw;refine dW I g1 m1 b1 ?_ 49 49)|(show wpAny _ _ (exec _ X.env) _ _ _;rw[exec_Assign_Name_used _ _ _ _ hsw];refine wpAny_bind (wpAny_standAt (wpAny_bind ?_)))|(simp only at hcl hdl;subst hcl hdl;have el:(s.heap.push 102).get? l=some {cls:= .type "list",dict:=ld,data:= .seq items nl,slots:=ls}:=Heap.get?_push_of_some _ hol;have n1:=F.sub_list_set;have n2:=F.sub_list_frozenset;have n3:(Value.type "list" ==Value.type "dict")=false:=by decide)|(refine wpAny_comprehension_free rfl hs ok.clos ok.kind nloc (cu (hi pins s σ H _ I h) λv s1 h1=>cu h1 λitv s2 h2=>?_))|(intro pins s σ H xs us Q I r h)|(obtain ⟨⟨lc,ld,lx,ls⟩,hol,hcl,nl,hdl⟩:=hl;simp only at hcl hdl;subst hcl hdl;have el:(s.heap.push 102).get? l=some {cls:= .type "list",dict:=ld,data:= .seq items nl,slots:=ls}:=Heap.get?_push_of_some _ hol;have n1:=F.sub_list_set;have n2:=F.sub_list_frozenset)|(have g0:=ao nl 132;have e0:aO H l 132 l=some (.lst []):=au;generalize aO H l 132=H0 at g0 e0⊢)|(show wpAny _ _ (newExc (.type "StopIteration") []>>=_) _ _ _;refine wpAny_bind ?_;simp only[newExc,newTuple];refine wpAny_bind (wpAny_newObj_type ?_ (by size_fits)))|(subst hr;obtain ⟨m,hn,_⟩:=id I6.loc;exact fin _ _ s6 H5 _ (m,hn) (λh' hs'=>kR I3 f3 I6 hs') 446 qn)|(refine fN N.net.ex λdx td tl al pl fs _hi=>?_)|(refine (by show 0<=sizeLine;decide,λl nl=>?_))|(refine (ν,ν,wz,cg _ _ _ (rfl,rfl,by decide,hf,aN _ _ (rfl,rfl,by rw[one];lia,ν,ν,wz,aN _ _ (rfl,rfl,by rw[Str.length_append,one];lia,ν,ν,wz,cg _ _ _ (rfl,rfl,by decide,ht,aN _ _ (rfl,rfl,by rw[one];lia,ν,ν,wz,aN _ _ (rfl,rfl,by rw[Str.length_append,one];lia,by show 2<=sizeLine;decide,λl nl=>?_))))))))|(obtain ⟨b,hb,rfl⟩:=cV hy)|(have J0:=i9 (h1:=h1) ok I3 f3 lt3 hns hk (s2.toks+0);have t0:tn 0 h1:=T.keep 0 _ _ st2 λb hb o e=>hk b o (by rw[e3];exact Heap.get?_push_of_some _ e))|(have e3:s3.heap=s2.heap.push {cls:= .type "list",dict:=none,data:= .seq ([]:LK).toArray}:=by rw[<-hs3])|(unfold collect;refine wpAny_bind (wpAny_runValue (codeAny_builtin entry_proto_collect' ?_));rw[Around.under_plainId PySem.F.plain_proto_collect _])|(dsimp only;refine wpAny_bind (wpAny_bind (wpAny_askSetting 216)))|(have hr:=I0 hi;obtain ⟨t,ht,et⟩:=rR.get (show (R.map rk)[i]?=some (rk R[i]) by rw[IQ,hr];rfl))|(show wpAny _ _ (setNext S (Int.toNat slot) (Int.toNat i) (Int.toNat ep)>>=_) _ _ s;simp only[IX];refine wpAny_bind (hn _ _ _ ?_);dsimp only;refine wpAny_bind (wpAny_setField_rec (vs:= #[.int slot 0,.int i 0,.ref S,.int es.size 0,.int ep 0]) hI 110 λh1 e1 s1=>?_))|(have hk:=I0 kl;have eb:=ra.2 k b _ hb hk;obtain ⟨p,q',g,ek,_⟩:=tr _ (J3 kl);rw[ek] at eb hk)|(have q:=lookup_all ok.has z;simp only[beq_self_eq_true,Bool.true_or,KR,KS] at q;exact JY.mp q)|(have q:=lookup_all ok.has z;simp only[beq_self_eq_true,Bool.or_true,KR,KS] at q;exact JY.mp q)|(have lt3:∀b∈fp,b<s3.heap.objs.size:=λb hb=>by rw[e3,Heap.size_push];exact Jh (fpo b hb))|(have lr:(bs.map V.ref).length=R.length:=by rw[IN,rR.1,IN])|(clear h_ _hi _hj _hk;subst _r1)|(obtain ⟨h',g',d',tk',os'⟩:=s';have eg:g'=s.gens:=mv.gens;have ed:d'=s.drawn:=mv.drawn;have eo:os'=s.os:=mv.os;subst eg ed eo)|(apply wpAny_bind)|(refine cB _hi λ_r1 _hj=>?_)|(refine wpAny_bind (m:=firstArgMember _ _) (wpAny_of_eq (a:=Value.none) (by first|rfl|(simp only[firstArgMember];rfl)) ?_))|(refine fN _hj λD T A B2 R M _hk=>?_)|(clear h _hi _hj;subst _r1)|(have gT:=ao nT 288;have g2:=g1.trans gT;have ec2:=gT _ _ ec;have rc2:=rc.imp λ_ _ q=>mG q gT)|(rw[IQ,IQ] at hy;obtain ⟨i,hi,rfl⟩:=IW.mp hy;obtain ⟨f,hf,rfl⟩:=IW.mp hi;rw[aL hf] at hQ;have kl:=(IP.mp hf).1;obtain ⟨j,jl,ej⟩:=mM ((cy.mp zk).2 k _ _ hf (I0 (show k<G.length by rw[<-(cy.mp zk).1];exact kl))))|(have il:(s.heap.push 102).IsList l items:=(_,el,rfl,nl,rfl);unfold Builtin.«set.__init__» noKeywords Builtin.Frozenset.updateFrom;generalize hit:pyIter=PI)|(have subt:=F.called_set.sub;apply wpAny_call;apply codeAny_of_tree;show wpAny _ _ (callAny 491 _) _ _ _;apply wpAny_pure;refine (Code.quiet_builtin _ 95,codeAny_builtin F.entry_type_call ?_))|(show wpAny _ A (load s.heap.objs.size>>=_) _ _ _)|(have hT':s.TypeIs 320 "set_iterator" :=(_,hI,rfl);unfold pyNext;refine wpAny_bind (wpAny_attempt (wpAny_callSpecial?_slot (name:=Str.ofString "__next__") hT' bT (wpAny_call_entry bT hT' fQ ?_ (gJ _)))))|(rw[IQ] at hy;obtain ⟨tu,htu,rfl⟩:=IW.mp hy;have jl:=(IP.mp htu).1;have hj:=I0 (show j<U.length by lia))|(clear h _hi;subst _r1;exists _,(ar (aD (uH (jt fA 218 158 136) (uG (jt fA 158 218 136))))))|(obtain ⟨f0,f1,f2,f3,f4,f5⟩:=hf it 110)|(have hT:s.TypeIs 320 "set_iterator" :=(_,hI,rfl);unfold pyNext;refine wpAny_bind (wpAny_attempt (wpAny_callSpecial?_slot (name:=Str.ofString "__next__") hT bT (wpAny_call_entry bT hT fQ ?_ (gJ _)))))|(refine cB _hj λhA hB=>?_)|(subst hs3;exact codeAny_compStart_list loop (T.self _ 0 _ _ _ t0 loop))|(refine cu (T.item 99 rfl rfl rfl hc i [] s5 _ H5 189 I5 (fpB n5) t5 go) λr s6 (u,hr,h6)=>?_)|(refine cu (T.done 99 rfl rfl rfl hc i [] s5 _ H5 189 I5 (fpB n5) t5 stop) λr s6 (hr,I6)=>?_)|(show wpAny _ X.A (do let _<-comprehension (.ListComp elt [⟨.Name own px,iter,[],0⟩] scope pos) scope X.env _ (newList []) false (eval iter X.env) (some (assign (.Name y py) X.env))) _ _ s)|(have hli:s1.heap.IsList a its.toArray:=pl.isList;refine pV (xs:=xs) 236 hli (λi v hv=>nZ rv i v 507) sz (by rw[sz];show xs.length+1<4096;lia) λh' tk S2 kp=>?_)|(refine Cs ?_;intro D' r3 r2 r1)|(have ge:=ao nle 132;refine (cg lh le _ (rfl,rfl,aF.of (ge _ _ eu),aF.of au,mB.i ?_));generalize aO H2 le 132=H3 at ge⊢;have k3:=k2.trans ge;have el3:=(g2.trans ge) _ _ el)|(intro pins s σ H x y v u Q I rx ry h)|(refine Calls.call_function_entry kind_sorted plain_sorted entry_sorted (args_sorted1 _) ?_;unfold Builtin.«sorted»;refine wpAny_bind (m:=checkCount "sorted" 1 1 _) 216)|(rw[show its.toArray.any (uY x)=its.any (uY x) by simp,ke r fs])|(refine (aM t _ _ _ (rfl,rfl,bH.of et,rfl,aM u _ _ _ (rfl,rfl,bH.of eu,rfl,d2 (λc=>(aM u _ _ _ (rfl,rfl,bH.of eu,rfl,aM t _ _ _ 544))) 176))))|(refine xS ?_;intro D' r1)|(refine wpAny_bind (wpAny_pure (wpAny_throw ?_));refine wpAny_bind (wpAny_isInstance (T:= "StopIteration") (b:=true) (_,Heap.get?_push_size _ rfl,rfl) isSubtype_stop ?_))|(apply Calls.spliced_nil;obtain ⟨its,rv,pl,hz⟩:=I1.list hq)|(obtain ⟨o,e,d⟩:=T.obj _ _ t7 b hb;exact (I10.pin (b,o) 341).2.1)|(obtain ⟨bs,er,rR⟩:=id hR;have lr':(bs.map V.ref).length=R.length:=by rw[IN,rR.1,IN])|(rw[Around.under_plain (weight_type_call_type "set" [.ref l] []) rfl];have nt:=F.called_set.notType;have cc:=F.called_set.canCreate;have tc:=F.typeCall_set_1 215)|(obtain ⟨its,rv,p,hz⟩:=I.list h1;have hi:=mT rv;obtain ⟨xs,e⟩:=hi.allInts.items)|(obtain ⟨⟨slot,z1,z2,hI⟩,hS⟩:=st)|(obtain ⟨o,e,_⟩:=T.obj 0 _ st2 b hb;exact Heap.lt_size e)|(have bl:=Heap.lt_size eo';rw[sortedHeap_old (J6 bl) (by rw[size_push'];exact Jh bl)])|(have mz:=mem _ (IR hz);generalize (w::W2)[(v.fmod 231).toNat]'_=z at az mz;obtain ⟨g',mz⟩:=mz;refine j8 (tr _ mz) λp' q'' g'' _hi=>?_)|(and_intros)|(rw[IQ] at hy;obtain ⟨i,hi,rfl⟩:=IW.mp hy)|(refine cu (he _ _ _ _ _ s8 _ H8 _ I8 hst) λyv s9 (y,H9,I9,r9,hD9,m',hm,w9)=>?_)|(exact I.call' (s':={s4 with heap:=h'}) (ch:=fp) J.os u hk J.bare λb hb=>⟨(hf b hb).2.2.2.1,(hf b hb).2.1,(hf b hb).2.2.2.2.1,(hf b hb).2.2.2.2.2⟩)|(unfold cO at hz;obtain ⟨k,hk,rfl⟩:=J2.mp hz;obtain ⟨h1,h2⟩:=K1.mp hk;have kl:=JZ.mp h1;have hk:=I0 kl;obtain ⟨p,q',g,ek,_⟩:=tr _ (J3 kl))|(rintro n s5 ⟨i,zs,o0,H5,I5,t5,n5,w5⟩;obtain ⟨hD,hw⟩:=turn i n zs H5 w5)|(refine wpS_bind (wpS_get ?_))|(refine mv.heap b o ?_ (Heap.get?_push_of_some _ (Heap.get?_push_of_some _ e));rw[Heap.size_push];simp only[IZ,not_or];exact (J6 hb',J6 (Jh hb'),Je))|(subst hr;refine cu h6 λ_ s7 (x,H7,I7,r7,y7,t7,n7)=>?_)|(refine fO _hk λ_r1 _ _ _hl=>?_)|(have kl:k<due.length:=by rw[<-ra.1];exact (IP.mp hb).1)|(refine FG ?_;intro D' r7 r6 r5 r4 r3 r2 r1)|(subst e10;refine (m',hm,i+1,zs++ [y],some x,_,I10.unpinned,T.keep _ _ _ t7 λb hb o e=>(I10.pin (b,o) 341).1,λb hb=>?_,w9))|(obtain ⟨j,h1,h2,h3,h4,h5⟩:=qK he;obtain ⟨w,ew,rw'⟩:=r.get h2;have hl:=r.length;have hn:=kN;have fin:EP X pins σ Q w s:=(z,H,I,rw',q))|(clear h _hi;subst _r1)|(show wpAny _ _ _ _ _ _;apply wpAny_pure;show wpAny _ _ (ret Value.none) _ _ _;apply wpAny_pure;refine (rfl,h',tk',rfl,S2,λb o hb' e=>?_))|(refine cB _hi λhw _hj=>?_)|(clear h _hi _hj _hk _hl;subst _r1)|(obtain ⟨σ',H',I',a,o,kvs,e,nf,p⟩:=q1;exact (σ',_,I'.thaw e nf,p))|(refine wpAny_bind (fS hS ?_);rw[if_neg 110])|(have q:=JE.mp ok.nocell y hy;rw[z] at q;simp at q)|(intro pins s σ H Q I h)|(refine iZ h λx t _hi=>?_)|(obtain ⟨j,hj⟩:=IY.mp hc;have jl:=(IP.mp hj).1;obtain ⟨c',b,e1,_,e3,_⟩:=each j _ (I0 (show j<(eU U f k).length by lia)))|(clear _hi _hj _hk _hl;subst _r1;rw[aL hw] at hQ)|(refine wpAny_bind (wpAny_setField_rec (vs:= #[.ref T,.int i 0,.ref S,.int es.size 0,.int ep 0]) hI 110 λh1 e1 s1=>?_))|(obtain ⟨hz,hlt⟩:=hg;obtain ⟨vs,rel,D⟩:=ko I hz hd;obtain ⟨⟨k,x⟩,hx⟩:∃p,kvs[i]?=some p:=⟨kvs[i],I0 hlt⟩)|(exact fin s'' (Moved.trans W.gtrans ((mv.mono up).then_heap (Kb _) λb o hb e=>(same.2 b λz=>hb (z▸JO)).trans e) mv2) S4)|(obtain ⟨k,hk⟩:=IY.mp hf)|(rw[e] at et;refine (aM t _ _ _ (rfl,rfl,bH.of et,rfl,dT a0 (dT a1 (aM t _ _ _ (rfl,rfl,bH.of et,rfl,dT b0 (nF b1 ?_)))))))|(refine wpAny_bind (wpAny_newObj_type (wpAny_pure (ν,"set_iterator",_,(_,Heap.get?_push_size _ rfl,rfl),bT.lookup,?_))))|(apply wpAny_runValue;have ll:l<s.heap.objs.size:=Heap.lt_size hol;have h3:A.in1.in1.in1.handled=none:=by simpa using hh)|(rw[d1];simp only[Jr,if_false];refine wpAny_bind ?_;show wpAny _ _ (if (!t.led&& !es.isEmpty)=true then _ else _) _ _ s)|(obtain ⟨j,hj,hN,hX,hc⟩:=ok.at_ i y e1';have e2':(aZ js σ)[i]?=some (some v):=e2;unfold aZ at e2';rw[IQ,hj] at e2')|(simp only[SetTable.fits,J7,beq_iff_eq] at ft)|(obtain ⟨m,hn,hl⟩:=I.loc;obtain ⟨u,r,l⟩:=hl j y v hN hs (hX.elim (λz=> .inr (.inl z)) λz=> .inr (.inr z)))|(refine cB _hk λN q=>?_)|(refine ⟨.inr (gj t0 z0 l0 total0 m0 f0 (aN k0 U0 (rfl,e1,e2,e3,e4,e5,λz' hz' m' U' hm' uo' f' k' cd=>?_)))⟩)|(show wpAny _ A.in1 (Builtin.List.listExtendWith 431 (.ref r) 431) _ _ _)|(obtain ⟨oc,od,kV,doc,pm,an,cdv,ct,osl,rfl,lk,hcd⟩:=F.ex)|(obtain ⟨j,rfl⟩:∃j:Nat,q=(j:Int):=⟨q.toNat,by lia⟩)|(have hx':(relabel scope X.env).names.lookup x=some .cell∨(relabel scope X.env).names.lookup x=some .free:=hx)|(obtain ⟨p,q,g,e,_⟩:=NC.ok.arcs k hk;exact (cg p q g e))|(obtain ⟨z,y,vs,rel,ob,es,ep,e,c,d,rest⟩:=(show cN X.prog X.w H1 s1.heap a 140 from I1.hok a _ hk))|(refine .inr ((hz i σ H hi p,hlt),Pv 233,λσ' H' p'=>(kvs.length-233,by lia,rfl,hlt,p'),λx H' y=>?_))|(clear h_ _hi;subst _r1)|(obtain ⟨D,x,rfl⟩:∃D x,f=D++ [x]:=⟨f.dropLast,f.getLast h,(List.dropLast_concat_getLast h).symm⟩)|(exact (Heap.get?_update_other _ _ (Ne.symm nb)).trans ((Heap.get?_update_other _ _ (Ne.symm nb)).trans e))|(simp only[raiseNew];refine wpAny_bind (wpAny_handled ?_))|(rw[aL hr];exact (t,cT (bW ht),g _ _ et))|(refine gY _hi λ_r1 nl g1 el lC _hj=>?_)|(obtain ⟨z,hd,vs,rel,dd⟩:=nA I.hok e)|(intro pins s σ H x vs v us Q I rx rv h)|(unfold setNext setsByText;refine wpAny_bind (fY hS ?_))|(intro pins s σ H x v vl vu lo hi sl Q I rx hs pl pu h)|(have r24:R.length<=24:=by rw[N.pok.len];exact N.ok.t24)|(exact wpAny_bind (wpAny_load hS' (wpAny_pure (h h' tk d acc.toList zs (Heap.lt_size hS') hk z1 z2))))|(exact q l _ _ _ (g1.trans (ao nl _)) au (nmB f1) (nmB t1) (AO λe=>qr mf.1 mf.2 ms.1 ms.2 41))|(rw[aL hk] at hQ;exact (aM b _ _ _ (rfl,rfl,bH.of (269 _ _ eb),rfl,hQ _ _ 184 rfl)))|(show wpAny _ A.in1 (newList []>>=λl=>again (.builtin "list.__iadd__" ⟨[l,.ref r],[]⟩)) _ _ s)|(have hk:=I0 kl;have eb':=ro.2 k b _ hb hk;obtain ⟨p,q',ek'⟩:=po.2 _ (J3 kl);rw[ek'] at eb' hk)|(rintro i m σ H ⟨rfl,hi,p⟩)|(intro value slice pins s σ H x y v u Q I rx ry h hs)|(have hz:(pickOrder 414 es).size=es.size:=by rw[<-JC,(nV _ es).length_eq,JC])|(subst ex;obtain rfl:u=Value.ref a:=rx)|(rw[<-lst] at hz;obtain ⟨j,hj,rfl⟩:=mem_getD hz;rw[lst,len] at hj;have m:=best.2 j 41)|(obtain ⟨x,hx⟩:=ofF j c e;obtain ⟨i,c',b,h1,h2,rfl,e1,_,_,_,e5⟩:=jth j x hx;rw[e] at e1)|(have nT:H s.heap.objs.size=none:=I.hok.fresh 203)|(have sub:∀y c,cl.lookup y=some c->X.env.cells.lookup y=some c:=λy c e=>ok.sub (y,c) (Jk e))|(exists 129,(by show (25:Int)≠0;decide),478)|(rw[if_neg 49])|(rw[J5 c] at e1;rw[J5 (by rw[<-h.1];exact c)] at e2)|(refine wpAny_pure ?_)|(refine iZ _hj λtw uw _hk=>?_)|(refine fN _hj λD T A B2 n P _hk=>?_)|(have q:=JE.mp ok.loc y hy;rw[z] at q)|(have np:¬(p≠p/\(H1 p=none∨Z p)):=λz=>z.1 rfl)|(show wpAny _ _ (seqItems? 460>>=_) _ _ s;refine wpAny_bind (wpAny_seqItems hT rfl ?_))|(refine wpAny_mono key (λf s' x=>?_) λe s' x=>?_)|(obtain ⟨nF,zk,ndF⟩:=fk.mp tk;have nG:G≠ []:=λe=>nF (JS (by rw[(cy.mp zk).1,e];rfl)))|(rw[IN];unfold ce jp;rw[IU,IU,dh,IN])|(refine wpAny_bind (wpAny_setField_rec (s:={s with heap:=h1}) e1 110 λh2 e2 s2=>?_))|(have lk:=F.called_set.init.lookup;have bd:=F.called_set.init.bind 431)|(have D:s1.heap.DictAt 510 a vs ep:=(ob,es,e,c,d,rest);have I2:=I1.freeze hk e)|(clear _hi _hj _hk _hl _hm;subst _r1)|(rintro i m ys H2 ⟨hi,rfl,hl,hP,g,e⟩;exists e)|(obtain ⟨cs,ecs,rcs⟩:=hA4;have lc:cs.length=A.length+2*i+1:=by rw[rcs.1,IU,IU,dh];rfl)|(have low:∀b o,s.heap.get? b=some o->b≠s.heap.objs.size:=λb o e=>J6 228)|(exists λi m σ H=>m=kvs.length-i/\i<=kvs.length/\Pv i σ H,(kvs.length,by simp,JT _,h0))|(have hz:=I0 (show (v.fmod 231).toNat<(w::W2).length by rw[JN];lia))|(refine wpAny_bind (wpAny_rule ?_))|(refine wpAny_bind 216)|(refine fD (rv.at_ hy) λw _hi=>?_)|(obtain ⟨z,its,n,r,hl,e⟩:=I.lstM hH;obtain ⟨z2,its2,n2,r2,hl2,e2⟩:=I.lstM hB)|(intro pins s σ H R I h;refine cu (hl pins s σ H _ I h) λv s1 (x,H1,I1,r1,q1)=>?_)|(refine .inr (hgo i H2 g hin,?_,λx H3 hy=>?_))|(have e:b=s1.heap.objs.size:=by simpa using hb)|(rw[show (2*(n:Int)).toNat=2*n by lia,show (2*(n:Int)+1).toNat=2*n+1 by lia,a0,a1])|(have m:=J3 kl;rw[aL hk,ek] at h2⊢;rw[ek] at m;have e:=vj (of_decide_eq_true h2))|(rw[IQ] at hy;obtain ⟨z,hz,rfl⟩:=IW.mp hy)|(refine ij h_ λl o4 o5 C _hi=>?_)|(refine (x.1,codeAny_mono x.2 λq s₂ y=>?_))|(obtain ⟨u,es,ep,ho,r⟩:=hm;exact (u,es,ep,k _ u (λz=>(hf _ z).2.1 rfl) ho,r))|(have hw:=I0 jl;replace oF:bV T P i= [(T[i]).getD j 402]:=oF;rw[aL hw] at oF)|(exact (_,pm,kA te (by rw[JC,ha.1,JC]) λj v hv=>ha.2 j v 438))|(obtain ⟨sl,e⟩:=B.slot b o q n hb hx;exact (sl,(hs.2 b (low b o q)).trans e))|(obtain ⟨is1,rv1,p1,hz1⟩:=I.list hq1;obtain ⟨is2,rv2,p2,hz2⟩:=I.list hq2)|(simp only[sliceBounds,HT.dH,Option.getD_none,show (1:Int)>0 by decide,if_true])|(rw[eus] at eu;refine (aN p2 _ (rfl,aF.of eu,by simpa using ne,λM hM hle=>?_)))|(rw[e] at q;exact q)|(simp only[IZ,Je,or_false] at hb)|(refine (IntMulOk.of_left 49,by show 1<=sizeLine;decide,λl0 nl0=>?_))|(obtain ⟨r,hr',eb⟩:=hW rR hb)|(refine wpAny_newObj_type ?_ (by size_fits))|(refine eI (aN _ _ (rfl,λv v0=>(aN lh _ (rfl,.inl (aF.of (ge _ _ eu)),?_)))))|(show wpAny _ _ (if 473=true then _ else _) _ _ s)|(obtain ⟨v,oc,hoc,hd⟩:=I.cell y c (sub y c e);exact (v,oc,hk _ _ hoc,hd))|(obtain ⟨o',e⟩:=B.there b o q hx;exact (o',(hs.2 b (low b o q)).trans e))|(obtain ⟨ut,ub,uw,ui,rfl⟩:=four j _ hj)|(intro σ H1 h_)|(have e:b=it:=by simpa using hb)|(subst e;obtain ⟨o,e,c,d⟩:=st;exact (o,e,λv z=>by rw[d] at z;cases z))|(obtain ⟨m1,hm1⟩:∃m1,m1=j4 ((bV T P i).map λw:Wy=>w.1):=⟨_,rfl⟩)|(have q:=(Jj l (X.take k)).symm;rw[List.take_take,Nat.min_eq_left a2] at q)|(have jl:=(IP.mp hj).1)|(exact (aM tw _ _ _ (rfl,rfl,bH.of (gk _ _ etw),rfl,hQ _ _ 184 rfl)))|(refine (.int _,H,I.kept (h':=h') (t':=tk) hk,⟨ν⟩,q _ ?_ λz hz=>?_))|(have g0:=ao nl 132)|(have ef:aO H1 td 419 td=some (.frz o 156):=au)|(have e:cM r s2=decide (s2.1<r.2.1):=by unfold cM;rw[decide_eq_true c,Kj])|(generalize aO H1 T' 288=H2 at g2 ec2 rc2 eb2⊢)|(rw[show 540=false from hb])|(rintro σ H1 ⟨o3,o4,rfl,g1,br⟩;rw[lr] at br;exact (q l H1 g1 nl br))|(refine i3 _hk λ_r1 _ _hl=>?_)|(refine i3 _hj λsh okC ai=>?_)|(have e:cM r s2=false:=by unfold cM;rw[decide_eq_false c,Bool.false_and])|(rw[show 540=true from hb])|(obtain ⟨z,hd,xs,rel,dd⟩:=pI I.hok e)|(obtain ⟨e,he,a,rfl,_,ea⟩:=ru.at_ hy)|(obtain ⟨c0,tl0,mro⟩:=F.called_set.mro;have made:=F.called_set.made)|(show ((x.cps.toList.drop _).take _).toArray.size=_;rw[e1,e2,JD,JH,Js])|(obtain ⟨q,e'⟩:=g t _ p rfl e;obtain ⟨q2,e2'⟩:=g u _ p2 rfl e2)|(obtain ⟨i1,r1,p1,_⟩:=I.list h1;obtain ⟨i2,r2,p2,_⟩:=I.list h2)|(obtain ⟨i,rfl,q⟩:=h;obtain ⟨u,w',rfl,⟨t,rfl⟩,e2⟩:=vals2 r)|(have k2:=g1.trans g2;refine (by show 0<=sizeLine;decide,λle nle=>?_))|(have gt1:=ao nt1 (.tup [.int 157,.int 137,.int m1]))|(exact (A,B,q1,q2,q3,λb o n q=>by rw[aR n];exact g4 _ _ (q4 b o n q)))|(rw[<-hi.numsOf,<-nums_intItems xs,<-e])|(obtain ⟨vf,ef,rf⟩:=id hF)|(obtain ⟨ti,ai,eti⟩:=run H2 g2 i hi)|(obtain ⟨rfl,hx⟩:=hy)|(have I2:aW X pins σ H1 {s1 with heap:=h'}:=I1.kept (t':=s1.toks) hk)|(unfold cR;rw[JJ];exact gU (gt _ _ ea) (ra.imp λa k q=>gt _ _ q) au)|(have ap:=st.apart d p1.isList p2.isList;obtain ⟨a,b,eto⟩:=st.to)|(rw[Heap.size_push];simp only[IZ,not_or];exact (J6 (Ke _),K5 ll,Je))|(have lF:vf.length=F2.length:=rf.1;have lG:vg.length=G.length:=rg.1)|(have hr:=I0 il;have hT:=I0 (show i<T.length by rw[h.len];exact il))|(obtain ⟨j,hj⟩:=IY.mp hu)
namespace HT
open PySem PyProof.Rows
section
variable {prog:Program} {w:World} {A:Around} {E:LD} {s:Shared}
noncomputable def dH (n d:Nat):Option Int->Nat
 |none=>d
 |some v=>if v<0 then (v+(n:Int)).toNat else min v.toNat n
theorem C2 (n d:Nat) (hd:d<=n) (o:Option Int):dH n d o<=n:=by
 cases o with
 |none=>exact hd
 |some v=>
  show (if v<0 then (v+(n:Int)).toNat else min v.toNat n)<=n
  by_cases hv:v<0
  ·rw[if_pos hv];lia
  ·rw[if_neg hv];exact Nat.min_le_right _ _
theorem wx (v:Int) (n d:Nat):523=((dH n d (some v):Nat):Int):=by
 show 523=(((if v<0 then (v+(n:Int)).toNat else min v.toNat n):Nat):Int)
 by_cases hv:v<0
 ·simp only[if_pos hv];lia
 ·simp only[if_neg hv];lia
theorem uU (lo hi:Option Int) (n:Nat):Builtin.Slice.sliceAdjust lo hi 1 (n:Int)=(472,((dH n n hi:Nat):Int)):=by
 have h1:¬((1:Int)<0):=by lia
 unfold Builtin.Slice.sliceAdjust;simp only[h1,if_false];refine Prod.ext ?_ ?_
 ·cases lo with
  |none=>rfl
  |some v=>exact wx v n 0
 ·cases hi with
  |none=>rfl
  |some v=>exact wx v n n
theorem uV (i j:Nat):Builtin.Slice.slicePlaces (i:Int) (j:Int) 1=j-i:=by
 unfold Builtin.Slice.slicePlaces;have h1:(1:Int)>0:=by lia
 simp only[h1,if_true,Int.ediv_one]
 split<;>lia
theorem nq {v:Value} {o:Option Int} {Q:Option Int->Shared->Prop} (p:IsPart v o) (h:Q o s):wpAny 103 A (Builtin.Slice.slicePartIndex v) Q E s:=by
 cases p with
 |none=>exact slicePart_none h
 |int i t=>exact slicePart_int h
theorem kP {sl:Addr} {vl vu:Value} {lo hi:Option Int} {n:Nat} {Q:Int×Int×Nat->Shared->Prop} (hs:s.heap.IsSliceOf sl vl vu .none) (pl:IsPart vl lo) (pu:IsPart vu hi)
  (h:Q (472,1,dH n n hi-dH n 0 lo) s):wpAny 103 A (Builtin.Slice.sliceApplied (.ref sl) (pure (n:Int))) Q E s:=by
 obtain ⟨os,hos,hcs,hds⟩:=id hs;unfold Builtin.Slice.sliceApplied Builtin.Slice.sliceFields;refine wpAny_bind (wpAny_bind (wpAny_field hos hds (x:=vl) rfl (wpAny_bind (wpAny_field hos hds (x:=vu) rfl (wpAny_bind (wpAny_field hos hds (x:= .none) rfl 216))))));refine wpAny_bind (slicePart_none ?_);show wpAny _ _ (if ((1:Int)==0)=true then _ else _) _ _ s
 sleep 156
 refine wpAny_bind (nq pl (wpAny_bind (nq pu (wpAny_bind 216))));show wpAny _ _ (match Builtin.Slice.sliceAdjust lo hi 1 (n:Int) with|(Prod.mk (lo) (hi))=>pure (Prod.mk (lo) (Prod.mk ((1:Int)) (Builtin.Slice.slicePlaces lo hi 1)))) _ _ s
 rw[uU lo hi n];show wpAny _ _ (pure (Prod.mk (472) (Prod.mk ((1:Int)) (Builtin.Slice.slicePlaces 472 ((dH n n hi:Nat):Int) 1)))) _ _ s;rw[uV];exact wpAny_pure h
theorem zL (xs:Array Value) (i k:Nat):((JK k).filterMap λ(m:Nat)=>xs[((i:Int)+(m:Int)*1).toNat]?).toArray=((xs.toList.drop i).take k).toArray:=by
 have e:(λ(m:Nat)=>xs[((i:Int)+(m:Int)*1).toNat]?)=λm=>xs[i+m]?:=by
  funext m
  have:((i:Int)+(m:Int)*1).toNat=i+m:=by lia
  rw[this]
 rw[e];have:=pick_run xs i k;rw[List.filterMap_map] at this;have e2:((λx=>xs[x]?) ∘ λx=>i+x)=λm=>xs[i+m]?:=rfl
 rw[e2] at this;rw[this]
theorem kc {t sl:Addr} {items:Array Value} {vl vu:Value} {lo hi:Option Int} {Q:LD} (ht:IsTup s.heap t items) (hs:s.heap.IsSliceOf sl vl vu .none) (pl:IsPart vl lo) (pu:IsPart vu hi)
  (hw:¬(dH items.size 0 lo=0/\dH items.size items.size hi=items.size))
  (h:Q 265 {s with heap:=s.heap.push {cls:= .type "tuple",data:= .seq ((items.toList.drop (dH items.size 0 lo)).take 306).toArray}})
  (hsz:items.size<=sizeLine):wpAny 103 A (getItem 214 (.ref sl)) Q E s:=by
 have htake:sizeOk (.seq ((items.toList.drop (dH items.size 0 lo)).take 306).toArray):=by
  show ((items.toList.drop (dH items.size 0 lo)).take 306).toArray.size<=sizeLine;rw[JD,JH,Js,JC]
  lia
 have hj:dH items.size items.size hi<=items.size:=C2 _ _ 203 hi;obtain ⟨os,hos,hcs,hds⟩:=id hs;have hTs:s.TypeIs (.ref sl) "slice" :=(os,hos,hcs);unfold getItem;try with_reducible refine wpAny_holding ?_
 first|refine wpAny_bind (wpAny_pure ?_)|skip
 refine wpAny_bind (wpAny_sequenceKey ht.typeIs 49 ?_)
 refine wpAny_bind (wpAny_callSpecial?_slot (name:=Str.ofString "__getitem__") ht.typeIs PyProof.Rows.slot_tuple_getitem
  (wpAny_call_entry PyProof.Rows.slot_tuple_getitem ht.typeIs entry_tuple_getitem ?_ (args_tuple_getitem _ _)))
 show wpAny _ _ (Builtin.Tuple.tupleItemsOf 214>>=_) _ _ s;refine wpAny_bind (tupleItemsOf_ ht ?_);refine wpAny_bind (wpAny_typeOf hTs ?_);rw[if_pos 49]
 refine wpAny_bind (kP hs pl pu ?_);have hno:¬(279=true):=by
  intro q;rw[J7,J7] at q;have q1:((dH items.size 0 lo:Nat):Int)=0:=eq_of_beq q.1.1;have q2:dH items.size items.size hi-dH items.size 0 lo=items.size:=eq_of_beq q.2;exact hw (by lia,by lia)
 show wpAny _ _ (if 279=true then _ else _) _ _ s
 rw[if_neg hno,zL]
 first
  |exact wpAny_bind (m:=Builtin.Tuple.tupleExact _) (wpAny_newObj_type (wpAny_pure ⟨_,rfl,wpAny_pure h⟩) htake)
  |exact wpAny_bind (m:=Builtin.Tuple.tupleExact _) (wpAny_newObj_type (wpAny_bind (wpAny_pure (wpAny_pure ⟨_,rfl,wpAny_pure h⟩))) htake)
  |exact wpAny_bind (wpAny_bind (m:=Builtin.Tuple.tupleExact _) (wpAny_newObj_type (wpAny_pure (wpAny_pure ⟨_,rfl,wpAny_pure h⟩)) htake))
  |exact wpAny_bind (wpAny_bind (m:=Builtin.Tuple.tupleExact _) (wpAny_newObj_type (wpAny_pure ⟨_,rfl,wpAny_pure h⟩) htake))
universe z0
universe HT
namespace L2
open PySem PySem.Spec PyProof.Rows
abbrev TO:=St->Hp->(Option Int->Hp->Prop)->Prop
def PO (X:Cx) (e:Option Expr) (t:TO):Prop:=
 ∀(pins:LG) (s:Shared) (σ:St) (H:Hp) (Q:Option Int->Hp->Prop),aW X pins σ H s->t σ H Q->
  wpAny 114 X.A (evalPart e X.env) (λu s'=>∃o H',aW X pins σ H' s'/\IsPart u o/\Q o H') X.xe s
def BG:TO:=λ_ H Q=>Q none H
def E4 (t:TE):TO:=λσ H Q=>t σ H λx H1=>∃i,x= .int i/\Q (some i) H1
section
variable {X:Cx} {e:Expr} {te:TE} {lo hi:Option Expr} {tl th:TO} {pos p2:Pos}
theorem iJ:PO X none BG:=by
 sleep 107;rw[evalPart_none];exact wpAny_pure (none,H,I,.none,h)
theorem gG (h:PE X e te):PO X (some e) (E4 te):=by
 intro pins s σ H Q I hw;rw[evalPart_some];refine cu (h pins s σ H _ I hw) λu s1 (x,H1,I1,r1,q1)=>?_
 obtain ⟨i,rfl,q⟩:=q1;obtain ⟨t,rfl⟩:=r1;exact (some i,H1,I1,.int i t,q)
def GV (X:Cx) (r:V->Option Int->Option Int->Hp->VK->Prop):Prop:=
 ∀(pins:LG) (s:Shared) (σ:St) (H:Hp) (x:V) (v vl vu:Value) (lo hi:Option Int) (sl:Addr) (Q:VK),aW X pins σ H s->RelV x v->s.heap.IsSliceOf sl vl vu .none->IsPart vl lo->IsPart vu hi->r x lo hi H Q->
  ∃T id,typeLookup (.type T) "__getitem__" =pure (some 492)/\s.TypeIs v T/\wpAny 114 X.A (getItem v (.ref sl)) 401 X.xe s
def IB (r:V->Option Int->Option Int->Hp->VK->Prop) (te:TE) (tl th:TO):TE:=λσ H Q=>te σ H λx H1=>tl σ H1 λl H2=>th σ H2 λu H3=>r x l u H3 Q
theorem fX {r:V->Option Int->Option Int->Hp->VK->Prop} (hr:GV X r) (he:PE X e te) (hl:PO X lo tl) (hu:PO X hi th):PE X (.Subscript e (.Slice lo hi none p2) pos) (IB r te tl th):=by
 sleep 107;refine Subscript_ (cu 295 λv s1 (x,H1,I1,r1,q1)=>?_)
 refine wpAny_Slice (cu (hl pins s1 σ H1 _ I1 q1) λvl s2 (l,H2,I2,pl,q2)=>cu (hu pins s2 σ H2 _ I2 q2) λvu s3 (u,H3,I3,pu,q3)=>?_)
 rw[evalPart_none];sleep 158;have I4:aW X pins σ H3 {s3 with heap:=s3.heap.push 290}:=I3.kept (t':=s3.toks) λb ob q=>101 _ q
 obtain ⟨T,id,hT,ht,hg⟩:=hr pins {s3 with heap:=s3.heap.push 290} σ H3 x v vl vu l u s3.heap.objs.size Q I4 r1 (Heap.IsSliceOf.new ..) pl pu q3
 show wpAny 114 X.A (subscriptTail e (.Slice lo hi none p2) v (.ref s3.heap.objs.size)) 401 X.xe {s3 with heap:=s3.heap.push 290}
 exact tail_any (ops:= [.ref s3.heap.objs.size,v]) ht hT hg 138
noncomputable def jY (xs:List V) (lo hi:Option Int):List V:=(xs.drop (HT.dH 117 0 lo)).take 429
theorem me (xs:List V) (lo hi:Option Int):(jY xs lo hi).length<=xs.length:=by
 unfold jY;rw[JH,Js]
 lia
def Ho (K:IS):V->Option Int->Option Int->Hp->VK->Prop:=λx lo hi H Q=>∃a xs,x= .ref a/\bH K H a xs/\
 ¬(HT.dH 117 0 lo=0/\HT.dH 117 117 hi=117)/\∀p,H p=none->Q 148 (aO H p (.tup (jY xs lo hi)))
theorem C3:GV X (Ho X.K):=by
 sleep 140;obtain ⟨a,xs,rfl,hx,hw,q⟩:=h;cases rx;obtain ⟨its,r,ht,hz⟩:=I.tuple hx;have hlen:its.toArray.size=xs.length:=by rw[JD];exact r.length.symm
 exists "tuple",_,PyProof.Rows.slot_tuple_getitem.lookup,ht.typeIs;refine HT.kc ht hs pl pu (by rw[hlen];exact hw) ?_ (by rw[hlen];exact hz)
 rw[hlen];refine (.ref 96,_,I.laid (t':=s.toks) (o:= .tup (jY xs lo hi)) (λb ob q=>101 _ q) 203 ?_,rfl,q _ 447)
 exact (JV (me xs lo hi) hz,_,(r.drop (HT.dH 117 0 lo)).take 429,IsTup.new _ _)
universe z0
noncomputable def wA (n:Nat) (i:Int):Option Nat:=if 0<=i then (if i<n then some i.toNat else none) else if-(n:Int)<=i then some (i+n).toNat else none
noncomputable def gD {α:Type} (xs:List α) (i:Int):Option α:=(wA 117 i).bind λj=>xs[j]?
theorem wB {n:Nat} {i:Int} {j:Nat} (h:wA n i=some j):seqIndex? i n=some j/\j<n/\ -(n:Int)<=i/\i<n:=by
 unfold wA at h
 by_cases h0:0<=i
 ·rw[if_pos h0] at h
  by_cases h1:i<n
  ·rw[if_pos h1] at h;have e:i.toNat=j:=Jo h;exact (by rw[seqIndex_of h0 h1,e],by lia,by lia,h1)
  ·rw[if_neg h1] at h;cases h
 ·rw[if_neg h0] at h
  by_cases h1: -(n:Int)<=i
  ·rw[if_pos h1] at h;have e:(i+n).toNat=j:=Jo h;exact (by rw[seqIndex_neg 41 h1,e],by lia,h1,by lia)
  ·rw[if_neg h1] at h;cases h
theorem qK {α:Type} {xs:List α} {i:Int} {v:α} (h:gD xs i=some v):∃j,seqIndex? i 117=some j/\xs[j]?=some v/\j<xs.length/\ -(xs.length:Int)<=i/\i<xs.length:=by
 unfold gD at h;cases e:wA xs.length i with
 |none=>rw[e] at h;cases h
 |some j=>
  rw[e] at h;obtain ⟨h1,h2,h3,h4⟩:=wB e;exact (j,h1,h,h2,h3,h4)
theorem bg {α:Type} {xs:List α} {j:Nat} {v:α} (h:xs[j]?=some v):gD xs (j:Int)=some v:=by
 have hj:j<xs.length:=(IP.mp h).1;have e:wA 117 (j:Int)=some j:=by
  unfold wA;rw[if_pos 41,if_pos 41];simp
 unfold gD;rw[e];exact h
theorem sE {α:Type} (xs:List α) (v:α):gD (xs++ [v]) (-1)=some v:=by
 have hl:(xs++ [v]).length=117+1:=by simp
 have e:wA (xs++ [v]).length (-1)=some xs.length:=by
  unfold wA;rw[hl,if_neg 49,if_pos 41]
  congr 1
  lia
 unfold gD;rw[e];show (xs++ [v])[xs.length]?=some v;simp
def BH (b:Expr):Prop:=∀o i,subscripted b false o i=operate [o,i] (getItem o i)
def EH (X:Cx) (r:R2):Prop:=
 ∀(value slice:Expr) (pins:LG) (s:Shared) (σ:St) (H:Hp) (x y:V) (v u:Value) (Q:VK),aW X pins σ H s->RelV x v->RelV y u->r x y H Q->
  subscripted slice false v u=operate [v,u] (getItem v u)->wpAny 114 X.A (subscriptTail value slice v u) 401 X.xe s
def Hq (X:Cx) (id:String) (r:V->List V->Hp->VK->Prop):Prop:=
 ∀(pins:LG) (s:Shared) (σ:St) (H:Hp) (x:V) (xs:List V) (v:Value) (us:LK) (Q:VK),aW X pins σ H s->RelV x v->bR xs us->r x xs H Q->
  wpAny 114 X.A (call 492 (v::us)) 401 X.xe s
section
variable {X:Cx} {a b:Expr} {ta tb:TE} {pos:Pos}
theorem av {r:R2} (hr:EH X r) (ha:PE X a ta) (hb:PE X b tb) (hs:BH b):PE X (.Subscript a b pos) (GT r ta tb):=by
 sleep 107;exact Subscript_ (C0 ha hb I h λv u s2 x y H2 I2 rx ry q=>hr a b pins s2 σ H2 x y v u Q I2 rx ry q (hs _ _))
def E5 (K:IS):R2:=λx y H Q=>∃p xs i v,x= .ref p/\y= .int i/\aF K H p xs/\gD xs i=some v/\Q v H
def E6 (K:IS):R2:=λx y H Q=>∃p xs i v,x= .ref p/\y= .int i/\bH K H p xs/\gD xs i=some v/\Q v H
def Hr:R2:=λx y H Q=>∃z i c,x= .str z/\y= .int i/\z.length<=sizeLine/\gD z.cps.toList i=some c/\Q (.str ⟨#[c]⟩) H
theorem aE:EH X (E5 X.K):=by
 sleep 148;obtain ⟨p,xs,i,z,rfl,rfl,hq,he,q⟩:=h;cases rx;obtain ⟨t,rfl⟩:=ry;obtain ⟨its,r,pl,hz⟩:=I.list hq;sleep 99
 by_cases h0:0<=i
 ·have hj:i.toNat=j:=by
   rw[seqIndex_of h0 h5] at h1;exact Jo h1
  exact item_listR pl.isList h0 41 (by rw[hj];simpa using ew) fin hs
 ·have hj:(i+355).toNat=j:=by
   rw[seqIndex_neg 41 h4] at h1
   rw[JD,<-hl];exact Jo h1
  exact subscriptTail_builtinR (x:=w) pl.isList.typeIs slot_list_getitem.lookup
   (wpAny_getItem_list_neg (Q:=λr s'=>r=w/\EP X pins σ Q r s') pl.isList 41 (by rw[JD]<;>lia) 41 (by rw[hj];simpa using ew) ⟨rfl,fin⟩) hs
theorem aG:EH X (E6 X.K):=by
 sleep 148;obtain ⟨p,xs,i,z,rfl,rfl,hq,he,q⟩:=h;cases rx;obtain ⟨t,rfl⟩:=ry;obtain ⟨its,r,pl,hz⟩:=I.tuple hq;sleep 99;exact subscriptTail_builtinR (x:=w) pl.typeIs slot_tuple_getitem.lookup
  (getItem_tuple (j:=j) (Q:=λr s'=>r=w/\EP X pins σ Q r s') pl 41 41 (by rw[JD,<-hl];exact h1) (by simpa using ew) ⟨rfl,fin⟩) hs
theorem qL:EH X Hr:=by
 sleep 148;obtain ⟨z,i,c,rfl,rfl,hz,he,q⟩:=h;obtain ⟨t,rfl⟩:=rx;obtain ⟨t',rfl⟩:=ry;obtain ⟨j,h1,h2,h3,h4,h5⟩:=qK he;have hl:z.cps.toList.length=z.length:=by simp[Str.length]
 rw[hl] at h1 h4 h5;have hn:=kN;exact tail_any (typeIs_str s z t) slot_str_getitem.lookup (getItem_str (c:=c) (by
  have e1:decide (i< -(2^63:Int))=false:=decide_eq_false 41
  have e2:decide (i≥2^63)=false:=decide_eq_false 41
  rw[e1,e2,Bool.or_false]) (by rw[h1];simpa using h2) ⟨.str ⟨#[c]⟩,H,I.tok _,⟨_,rfl⟩,q⟩) hs
theorem uX (its:LK) (n j:Nat) (u:Value):Obj.mapSeq (·.setIfInBounds j u) 196={cls:= .type "list",data:= .seq (its.set j u).toArray n}:=by
 simp[Obj.mapSeq]
theorem aW.lst {pins:LG} {σ:St} {H:Hp} {s:Shared} {p:Addr} {xs:List V} (I:aW X pins σ H s) (h:H p=some 515):
  ∃(its:LK) (n:Nat),bR xs its/\s.heap.get? p=some 196/\xs.length<=sizeLine:=by
 obtain ⟨z,its,n,r,e⟩:=I.hok p _ h;exact (its,n,r,e,z)
theorem aW.lstUpd {pins:LG} {σ:St} {H:Hp} {s:Shared} {p:Addr} {xs ys:List V} {its its':LK} {n n':Nat} {f:Obj->Obj} (I:aW X pins σ H s) (h:H p=some 515)
  (ho:s.heap.get? p=some 196) (hf:f 196={cls:= .type "list",data:= .seq its'.toArray n'}) (r:bR ys its') (hz:ys.length<=sizeLine) (t:Nat):
  aW X pins σ (aO H p 232) {s with heap:=s.heap.update p f,toks:=t}:=by
 have e:(s.heap.update p f).get? p=some {cls:= .type "list",data:= .seq its'.toArray n'}:=by
  rw[Heap.get?_update_self f ho (by rw[hf]<;>rfl),hf]
 refine I.write (x:=p) (e:=p) (by rw[h];trivial) 574 (λb u hb q=>(Heap.get?_update_other _ _ (Ne.symm hb)).trans q) (_,e) ?_
 exact (hz,its',n',r,e)
def E7:V->V->V->Hp->(Hp->Prop)->Prop:=λo i v H Q=>∃p xs k j,o= .ref p/\i= .int k/\H p=some 515/\wA 117 k=some j/\Q (aO H p (.lst (xs.set j v)))
theorem set_list:EU X E7:=by
 intro pins s σ H o i v ov iv u Q I ro ri rv h;obtain ⟨p,xs,k,j,rfl,rfl,hp,hj,q⟩:=h;cases ro;obtain ⟨t,rfl⟩:=ri;obtain ⟨its,n,r,ho,hz⟩:=I.lst hp;obtain ⟨h1,h2,h3,h4⟩:=wB hj;have hl:=r.length;have hn:=kN;have I':aW X pins σ (aO H p (.lst (xs.set j v))) {s with heap:=s.heap.update p (Obj.mapSeq (·.setIfInBounds j u))}:=
  I.lstUpd hp ho (uX its n j u) (r.set rv j) (by rw[List.length_set];exact hz) s.toks
 by_cases h0:0<=k
 ·have hk:k.toNat=j:=by
   rw[seqIndex_of h0 h4] at h1;exact Jo h1
  exact PySem.W.ki_setAt ho h0 41 (by rw[JD,<-hl];exact h4) (by rw[hk];exact (_,I',q))
 ·have hk:(k+355).toNat=j:=by
   rw[seqIndex_neg 41 h3] at h1
   rw[JD,<-hl];exact Jo h1
  exact PySem.W.ki_setBack ho 41 (by rw[JD,<-hl];exact h3) 41 (by rw[hk];exact (_,I',q))
theorem qM (lo hi:Option Int) (n:Nat):(sliceBounds lo hi none n).1=((HT.dH n 0 lo:Nat):Int)/\(sliceBounds lo hi none n).2.1=((HT.dH n n hi:Nat):Int)/\(sliceBounds lo hi none n).2.2=1:=by
 refine (?_,?_,rfl)
 ·cases lo with
  |none=>simp[sliceBounds,HT.dH]
  |some i=>
   sleep 193
   by_cases h:i<0
   ·simp only[h,if_true]<;>lia
   ·simp only[h,if_false]<;>lia
 ·cases hi with
  |none=>simp[sliceBounds,HT.dH]
  |some i=>
   sleep 193
   by_cases h:i<0
   ·simp only[h,if_true]<;>lia
   ·simp only[h,if_false]<;>lia
theorem oQ (its:LK) (lo hi:Option Int):slicePick its.toArray lo hi none=((its.drop (HT.dH its.length 0 lo)).take (HT.dH its.length its.length hi-HT.dH its.length 0 lo)).toArray:=by
 obtain ⟨h1,h2,h3⟩:=qM lo hi its.toArray.size;unfold slicePick;rw[h1,h2,h3];simp only[sliceRange_one,pick_run,JD]<;>rfl
def Hs (K:IS):V->Option Int->Option Int->Hp->VK->Prop:=λx lo hi H Q=>∃a xs,x= .ref a/\aF K H a xs/\∀p,H p=none->Q 148 (aO H p (.lst (jY xs lo hi)))
theorem qO:GV X (Hs X.K):=by
 sleep 140;obtain ⟨a,xs,rfl,hx,q⟩:=h;cases rx;obtain ⟨its,r,ht,hz⟩:=I.list hx;have hlen:=r.length;exists "list",_,slot_list_getitem.lookup,ht.isList.typeIs;refine wpAny_getItem_list_slice ht.isList hs pl pu .none 110 ?_ (by rw[JD]<;>lia)
 rw[oQ,<-hlen];refine (.ref 96,_,I.laid (t':=s.toks) (o:= .lst (jY xs lo hi)) (λb ob q=>101 _ q) 203 ?_,rfl,q _ 447)
 exact (JV (me xs lo hi) hz,_,0,(r.drop (HT.dH 117 0 lo)).take 429,121 _ rfl)
noncomputable def jQ:V->Bool
 | .non=>true
 | .bl _=>true
 | .int _=>true
 | .str _=>true
 |_=>false
noncomputable def BI:V->V->Bool
 | .non,.non=>true
 | .bl a,.bl b=>a==b
 | .bl a,.int b=>(if a then 1 else 0)==b
 | .int a,.bl b=>a==(if b then 1 else 0)
 | .int a,.int b=>a==b
 | .str a,.str b=>a==b
 |_,_=>false
theorem C4 {A:Around} {s:Shared} {y x:V} {u v:Value} (ry:RelV y u) (rx:RelV x v) (fy:jQ y=true) (fx:jQ x=true):SeqAt.EqAt A s u v (BI y x):=by
 cases y with
 |non=>
  cases ry;cases x with
  |non=>cases rx;exact SeqAt.EqAt.same _
  |bl b=>cases rx;exact SeqAt.EqAt.none_bool b
  |int b=>obtain ⟨t,rfl⟩:=rx;exact SeqAt.EqAt.none_int b t
  |str b=>obtain ⟨t,rfl⟩:=rx;exact SeqAt.EqAt.none_str b t
  |_=>exact absurd (show false=true from fx) JL
 |bl a=>
  cases ry;cases x with
  |non=>cases rx;exact SeqAt.EqAt.bool_none a
  |bl b=>cases rx;exact SeqAt.EqAt.bool_bool a b
  |int b=>obtain ⟨t,rfl⟩:=rx;exact SeqAt.EqAt.bool_int a b t
  |str b=>obtain ⟨t,rfl⟩:=rx;exact SeqAt.EqAt.bool_str a b t
  |_=>exact absurd (show false=true from fx) JL
 |int a=>
  obtain ⟨t',rfl⟩:=ry;cases x with
  |non=>cases rx;exact SeqAt.EqAt.int_none a t'
  |bl b=>cases rx;exact SeqAt.EqAt.int_bool a t' b
  |int b=>obtain ⟨t,rfl⟩:=rx;exact SeqAt.EqAt.int_int a t' b t
  |str b=>obtain ⟨t,rfl⟩:=rx;exact SeqAt.EqAt.int_str a t' b t
  |_=>exact absurd (show false=true from fx) JL
 |str a=>
  obtain ⟨t',rfl⟩:=ry;cases x with
  |non=>cases rx;exact SeqAt.EqAt.str_none a t'
  |bl b=>cases rx;exact SeqAt.EqAt.str_bool a t' b
  |int b=>obtain ⟨t,rfl⟩:=rx;exact SeqAt.EqAt.str_int a t' b t
  |str b=>obtain ⟨t,rfl⟩:=rx;exact SeqAt.EqAt.str_str a t' b t
  |_=>exact absurd (show false=true from fx) JL
 |_=>exact absurd (show false=true from fy) JL
noncomputable def uY (x:V) (u:Value):Bool:=match u with
 | .none=>BI .non x
 | .bool b=>BI (.bl b) x
 | .int i _=>BI (.int i) x
 | .str z _=>BI 379 x
 |_=>false
theorem zM {x y:V} {u:Value} (r:RelV y u) (f:jQ y=true):uY x u=BI y x:=by
 cases y with
 |non=>cases r;rfl
 |bl b=>cases r;rfl
 |int i=>obtain ⟨t,rfl⟩:=r;rfl
 |str z=>obtain ⟨t,rfl⟩:=r;rfl
 |_=>exact absurd (show false=true from f) JL
theorem ke {x:V}:∀{xs:List V} {us:LK},bR xs us->xs.all jQ=true->us.any (uY x)=xs.any λy=>BI y x
 |_,_,.nil,_=>rfl
 |y::xs,u::us,.cons r t,f=>by
  rw[List.all_cons,J7] at f;rw[List.any_cons,List.any_cons,zM r f.1,ke t f.2]
theorem i6 {A:Around} {s:Shared} {x:V} {v:Value} (rx:RelV x v) (fx:jQ x=true):∀{xs:List V} {us:LK},bR xs us->xs.all jQ=true->∀u∈us,SeqAt.EqAt A s u v (uY x u)
 |_,_,.nil,_=>λu hu=>by cases hu
 |y::xs,u::us,.cons r t,f=>λu' hu=>by
  rw[List.all_cons,J7] at f;rcases IZ.mp hu with rfl|hu
  ·rw[zM r f.1];exact C4 r rx f.1 fx
  ·exact i6 rx fx t f.2 u' hu
noncomputable def Bq (x:V) (xs:List V):Bool:=xs.any λy=>BI y x
def Ip (K:IS) (neg:Bool):R2:=λx y H Q=>∃p xs,y= .ref p/\(aF K H p xs∨bH K H p xs)/\jQ x=true/\xs.all jQ=true/\Q (.bl (if neg then !Bq x xs else Bq x xs)) H
theorem im:iV X (compareOp .In) (Ip X.K false):=by
 sleep 71;obtain ⟨p,xs,rfl,hq,fx,fs,q⟩:=h;cases ry;rcases hq with hq|hq
 ·obtain ⟨its,r,pl,hz⟩:=I.list hq;refine SeqAt.in_listAt (uY x) pl.isList 243 538
  sleep 73
  exact q
 ·obtain ⟨its,r,pl,hz⟩:=I.tuple hq;refine SeqAt.in_tupleAt (uY x) pl 243 538
  sleep 73
  exact q
theorem kg:iV X (compareOp .NotIn) (Ip X.K true):=by
 sleep 71;obtain ⟨p,xs,rfl,hq,fx,fs,q⟩:=h;cases ry;rcases hq with hq|hq
 ·obtain ⟨its,r,pl,hz⟩:=I.list hq;refine SeqAt.notIn_listAt (uY x) pl.isList 243 538
  sleep 73
  exact q
 ·obtain ⟨its,r,pl,hz⟩:=I.tuple hq;refine SeqAt.notIn_tupleAt (uY x) pl 243 538
  sleep 73
  exact q
theorem qP:iV X (compareOp .NotIn) (λx y H Q=>∃i j,x= .str i/\y= .str j/\Q (.bl (!(!(Builtin.Str.occurrences j i 0 j.length 1).isEmpty))) H):=by
 sleep 71;obtain ⟨i,j,rfl,rfl,q⟩:=h;obtain ⟨t,rfl⟩:=rx;obtain ⟨t',rfl⟩:=ry;exact notIn_str (.bl _,H,I,rfl,q)
theorem qQ:dC X 351 (λxs H Q=>∃p ys,xs= [.ref p]/\(aF X.K H p ys∨bH X.K H p ys)/\Q (.int ys.length) H):=by
 sleep 26;obtain ⟨p,ys,rfl,hq,q⟩:=h;obtain ⟨u,rfl,rx⟩:=vals1 r;cases rx;have hn:=kN;rcases hq with hq|hq
 ·obtain ⟨its,r',pl,hz⟩:=I.list hq;have hlen:=r'.length;exact Calls.call_len_list pl.isList 417 482
 ·obtain ⟨its,r',pl,hz⟩:=I.tuple hq;have hlen:=r'.length;exact len_tuple pl 417 482
theorem kh:dC X 351 (λxs H Q=>∃z,xs= [.str z]/\z.length<=sizeLine/\Q (.int z.length) H):=by
 sleep 26;obtain ⟨z,rfl,hz,q⟩:=h;obtain ⟨u,rfl,t,rfl⟩:=vals1 r;have hn:=kN;exact len_str 41 (.int z.length,H,I.tok _,⟨ν⟩,q)
theorem dj:dC X 459 (λxs H Q=>∃p ys,xs= [.ref p]/\(aF X.K H p ys∨bH X.K H p ys)/\∀l,H l=none->Q 215 (aO H l 232)):=by
 sleep 26;obtain ⟨p,ys,rfl,hq,q⟩:=h;obtain ⟨u,rfl,rx⟩:=vals1 r;cases rx;have fin:∀(its:LK),bR ys its->ys.length<=sizeLine->∀(h':Heap) (c':Nat),(∀b o',s.heap.get? b=some o'->h'.get? b=some o')->
   h'.get? 96=some {cls:= .type "list",dict:=none,data:= .seq its.toArray c',slots:= #[]}->EP X pins σ Q 265 {s with heap:=h'}:=λits r' hz h' c' kp e=>
  ⟨.ref 96,_,I.laid (t':=s.toks) kp 203 (show cN X.prog X.w _ h' _ 232 from ⟨hz,its,c',r',e⟩),rfl,q _ 447⟩
 rcases hq with hq|hq
 ·obtain ⟨its,r',pl,hz⟩:=I.list hq;have hlen:=r'.length;obtain ⟨o,ho,hc,n,hd⟩:=pl.isList;exact call_list_seq p 574 ho hc hd (λh' c' kp e=>fin its r' hz h' c' kp e) 417
 ·obtain ⟨its,r',pl,hz⟩:=I.tuple hq;have hlen:=r'.length;obtain ⟨o,ho,hc,n,hd⟩:=pl;exact call_list_seq p (.inr rfl) ho hc hd (λh' c' kp e=>fin its r' hz h' c' kp e) 417
def Hu (K:IS) (T:String) (x:V) (H:Hp):Prop:=match x with
 | .str _=>T= "str"
 | .int _=>T= "int"
 | .ref p=>(T= "list" /\∃xs,aF K H p xs)∨(T= "tuple" /\∃o,K.lookup p=some o/\o.cls= .type "tuple" /\o.dict=none)∨
   (T= "dict" /\((∃kvs,H p=some 140)∨∃kvs,H p=some 399))∨(T= "set" /\∃S n,H p=some (.set S n))
 |_=>False
theorem zN {pins:LG} {σ:St} {H:Hp} {s:Shared} {T:String} {x:V} {v:Value} (I:aW X pins σ H s) (r:RelV x v) (ty:Hu X.K T x H):
  s.TypeIs v T/\∀a,v= .ref a->∃ob,s.heap.get? a=some ob/\ob.dict=none:=by
 cases x with
 |str z=>
  obtain ⟨t,rfl⟩:=r;cases (show T= "str" from ty)
  exact (typeIs_str s z t,λ_ e=>nomatch e)
 |int i=>
  obtain ⟨t,rfl⟩:=r;cases (show T= "int" from ty)
  exact (typeIs_int s i t,λ_ e=>nomatch e)
 |ref p=>
  cases r;rcases ty with ⟨rfl,xs,hq⟩|⟨rfl,o,hk,hc,hd⟩|⟨rfl,hk⟩|⟨rfl,S,n,hk⟩
  ·obtain ⟨its,_,pl,_⟩:=I.list hq;refine (pl.isList.typeIs,λa e=>?_)
   cases e;obtain ⟨o,n,e,c,hd,_⟩:=pl;exact (o,e,hd)
  ·refine ((o,I.kIn p o hk,hc),λa e=>?_)
   cases e;exact (o,I.kIn _ o hk,hd)
  ·have z:∃o,s.heap.get? p=some o/\o.ExactDict:=by
    rcases hk with ⟨kvs,hk⟩|⟨kvs,hk⟩
    ·obtain ⟨_,_,_,_,o,_,_,e,ex,_⟩:=I.hok p _ hk;exact (o,e,ex)
    ·obtain ⟨_,_,_,_,o,_,_,e,ex,_⟩:=I.hok p _ hk;exact (o,e,ex)
   obtain ⟨o,e,ex⟩:=z;refine ((o,e,ex.1),λa e2=>?_)
   cases e2;exact (o,e,ex.2.1)
  ·obtain ⟨o,_,_,_,e,ex,_⟩:=I.hok p _ hk;refine ((o,e,ex.1),λa e2=>?_)
   cases e2;exact (o,e,ex.2.1)
 |_=>exact False.elim ty
def Hv (K:IS) (T:String) (r:V->List V->Hp->VK->Prop) (to:TE):TE:=λσ H Q=>to σ H λx H1=>Hu K T x H1/\r x [] H1 Q
def IC (K:IS) (T:String) (r:V->List V->Hp->VK->Prop) (to:TE) (t:TA):TE:=λσ H Q=>to σ H λx H1=>Hu K T x H1/\t σ H1 λxs H2=>r x xs H2 Q
variable {o e:Expr} {es:List Expr} {to:TE} {t:TA} {name:Str} {apos cpos:Pos} {T id:String} {r:V->List V->Hp->VK->Prop}
theorem C5 (pa:PlainAttrs T) (slot:Slot T name id) (hty:typeOf 492=pure (.type "method_descriptor")) (hm:Hq X id r) (ho:PE X o to)
  (hbase:attributeBase o name X.env (eval o X.env)=eval o X.env:=by rfl) (hline:548=true:=by rfl):PE X (.Call (.Attribute o name apos) [] [] cpos) (Hv X.K T r to):=by
 sleep 107;refine wpAny_Call_method0_late hbase hline (cu 437 λv s1 (x,H1,I1,r1,ty,q1)=>?_)
 obtain ⟨h1,h2⟩:=zN I1 r1 ty;exact (T,id,pa,slot,hty,h1,h2,Calls.callWith_builtin rfl (PySem.evalArgs_none (hm pins s1 σ H1 x [] v [] Q I1 r1 .nil q1)))
theorem dG (pa:PlainAttrs T) (slot:Slot T name id) (hty:typeOf 492=pure (.type "method_descriptor")) (hm:Hq X id r) (ho:PE X o to) (ha:PA X (e::es) t)
  (hbase:attributeBase o name X.env (eval o X.env)=eval o X.env:=by rfl)
  (hfew:((backTo cpos (starEach (e::es) X.env)).all (λx=> !x.1)&&(backToKw cpos (keywordEach [] X.env)).all (λx=>x.1.isSome)
   &&decide ((e::es).length+([]:List Keyword).length+582<30))=true:=by rfl)
  (hline:548=true:=by rfl) (hs:starEach (e::es) X.env=(false,eval e X.env)::starEach es X.env:=by rfl) (hplain:(backTo cpos 407).any 199=false:=by rfl):
  PE X (.Call (.Attribute o name apos) (e::es) [] cpos) (IC X.K T r to t):=by
 sleep 107;refine wpAny_Call_method_late hbase hfew hline rfl (cu 437 λv s1 (x,H1,I1,r1,ty,q1)=>?_)
 obtain ⟨h1,h2⟩:=zN I1 r1 ty;exists T,id,pa,slot,hty,h1,h2;have hA:=ha cpos pins s1 σ H1 _ I1 q1;rw[hs] at hA⊢;refine Calls.callWith_builtin (by show (false||(backTo cpos 407).any 199)=false;rw[hplain]<;>rfl) (Calls.evalArgs_plain ?_)
 exact cu hA λus s2 (vs,H2,I2,r2,q2)=>hm pins s2 σ H2 x vs v us Q I2 r1 r2 q2
universe z0
def Hw (X:Cx) (id:String) (r:V->List V->Hp->VK->Prop):Prop:=
 ∀(pins:LG) (s:Shared) (σ:St) (H:Hp) (x:V) (xs:List V) (v:Value) (us:LK) (Q:VK),aW X pins σ H s->RelV x v->bR xs us->r x xs H Q->
  wpAny 114 X.A (call 492 (v::us)) 401 X.xe s
theorem bR.one:∀{x:V} {us:LK},bR [x] us->∃u,us= [u]/\RelV x u
 |_,_,.cons r .nil=>⟨_,rfl,r⟩
theorem bR.zero:∀{us:LK},bR [] us->us= []
 |_,.nil=>rfl
section
variable {X:Cx} {pins:LG} {σ:St} {H:Hp} {s:Shared} {l b:Addr} {xs ys zs:List V}
theorem aW.lset {its its':LK} {n:Nat} {f:Array Value->Array Value} {t':Nat} (I:aW X pins σ H s) (hH:H l=some 515)
  (e:s.heap.get? l=some 196) (hf:f its.toArray=its'.toArray) (hv:bR ys its') (hz:ys.length<=sizeLine):
  aW X pins σ (aO H l 232) {s with heap:=s.heap.update l (Obj.mapSeq f),toks:=t'}:=by
 have q:=PySem.IsL.update e f;rw[hf] at q;refine I.write (x:=l) (e:=l) (by rw[hH];exact trivial) 574 (λb' u hb hu=>(Heap.get?_update_other s.heap (Obj.mapSeq f) (Ne.symm hb)).trans hu) (_,q) ?_
 exact (hz,its',_,hv,q)
theorem aW.lnew {its:LK} {t':Nat} (I:aW X pins σ H s) (hv:bR ys its) (hz:ys.length<=sizeLine):
  aW X pins σ (aO H 96 232) {s with heap:=s.heap.push {cls:= .type "list",data:= .seq its.toArray},toks:=t'}:=
 I.laid (λ_ _ q=>101 _ q) 203 ⟨hz,its,0,hv,121 _ rfl⟩
theorem aW.fresh (I:aW X pins σ H s):H 96=none:=I.hok.fresh 203
theorem aW.lstM (I:aW X pins σ H s) (hH:H l=some 515):xs.length<=sizeLine/\∃(its:LK) (n:Nat),bR xs its/\xs.length=its.length/\s.heap.get? l=some {cls:= .type "list",data:= .seq its.toArray n}:=by
 obtain ⟨z,its,n,r,e⟩:=I.hok l _ hH;exact (z,its,n,r,r.length,e)
theorem zO {n:Nat} (h:n<=sizeLine):Builtin.List.listTooLong n=false:=by
 unfold Builtin.List.listTooLong;exact decide_eq_false 41
universe z0
variable {X:Cx}
def BJ:V->List V->Hp->VK->Prop:=λx vs H Q=>∃l xs y,x= .ref l/\vs= [y]/\H l=some 515/\xs.length<sizeLine/\Q .non (aO H l (.lst (xs++ [y])))
theorem bG:Hw X "list.append" BJ:=by
 sleep 138;obtain ⟨l,xs,y,rfl,rfl,hH,hz,q⟩:=h;cases rx;obtain ⟨u,rfl,ru⟩:=rv.one;obtain ⟨z,its,n,r,hl,e⟩:=I.lstM hH;refine call_meets F.slot_list_append (_,e,rfl) F.entry_list_append (F.args_list_append_2 _ _) (PySem.list_append l its.toArray n u (by rw[JD];lia)) (e,?_)
 refine (.non,_,I.lset (its':=its++ [u]) hH e 110 (r.append (.cons ru .nil)) ?_,rfl,q)
 rw[IU,List.length_singleton]
 lia
def BK:V->List V->Hp->VK->Prop:=λx vs H Q=>∃l b xs zs,x= .ref l/\vs= [.ref b]/\H l=some 515/\H b=some (.lst zs)/\xs.length+zs.length<=sizeLine/\Q .non (aO H l (.lst (xs++zs)))
theorem io:Hw X "list.extend" BK:=by
 sleep 138;obtain ⟨l,b,xs,zs,rfl,rfl,hH,hB,hz,q⟩:=h;cases rx;obtain ⟨u,rfl,ru⟩:=rv.one;cases ru;sleep 179;have hsz:its.toArray.size+its2.toArray.size<=sizeLine:=by rw[JD,JD];lia
 have hlong:¬(!its.toArray.isEmpty&&Builtin.List.listTooLong (its.toArray.size+its2.toArray.size))=true:=by
  rw[zO hsz,Bool.and_false];exact JL
 refine call_meets F.slot_list_extend (_,e,rfl) F.entry_list_extend (F.args_list_extend_2 _ _)
  (AutoSeq1.list_extend_list_list_0 l its.toArray n b its2.toArray n2 hlong (by rw[JD];lia) 41) ⟨e,e2,?_⟩
 refine (.non,_,I.lset (its':=its++its2) hH e 110 (r.append r2) ?_,rfl,q)
 rw[IU]
 lia
def Hy:R2:=λx y H Q=>∃l b xs zs,x= .ref l/\y= .ref b/\H l=some 515/\H b=some (.lst zs)/\xs.length+zs.length<=sizeLine/\∀p,H p=none->Q 148 (aO H p (.lst (xs++zs)))
theorem i7:iV X (binaryOp .Add) Hy:=by
 sleep 71;obtain ⟨l,b,xs,zs,rfl,rfl,hH,hB,hz,q⟩:=h;cases rx;cases ry;sleep 179;refine PySem.P.add_list e e2 ?_ (by rw[JD,JD];lia)
 have ea:its.toArray++its2.toArray=(its++its2).toArray:=by simp
 rw[ea];exact (.ref _,_,I.lnew (t':=s.toks) (r.append r2) (by rw[IU];lia),rfl,q _ I.fresh)
section
variable {κ:Type} [DecidableEq κ]
noncomputable def gP (kvs:List 445) (k:κ):Option V:=(kvs.find? λkv=>decide (kv.1=k)).map (·.2)
noncomputable def putK (kvs:List 445) (k:κ) (v:V):List (κ×V):=
 if 267=true then kvs.map (λkv=>if kv.1=k then (kv.1,v) else kv) else kvs++ [(k,v)]
theorem dP {p:κ×V} {r:List 445} {k:κ} (e:p.1=k):gP (p::r) k=some p.2:=by simp[gP,K7,e]
theorem dQ {p:κ×V} {r:List 445} {k:κ} (e:¬p.1=k):gP (p::r) k=gP r k:=by simp[gP,K7,e]
theorem ki (k:κ):∀kvs:List 445,267=(gP kvs k).isSome
 | []=>rfl
 |p::r=>by
  rw[List.any_cons]
  by_cases e:p.1=k
  ·simp only[dP e,decide_eq_true e,Bool.true_or,Option.isSome_some]
  ·rw[dQ e,decide_eq_false e,KS];exact ki k r
theorem sF (k j:κ) (y:V):∀kvs:List 445,gP 313 j=(gP kvs j).map λx=>if j=k then y else x
 | []=>rfl
 |p::r=>by
  have ih:=sF k j y r;rw[JU]
  by_cases h:p.1=k
  ·rw[if_pos h]
   by_cases e:p.1=j
   ·rw[dP (p:=(p.1,y)) e,dP e,K0,if_pos (e.symm.trans h)]
   ·rw[dQ (p:=(p.1,y)) e,dQ e,ih]
  ·rw[if_neg h]
   by_cases e:p.1=j
   ·rw[dP (p:=p) e,dP e,K0,if_neg (λz=>h (e.trans z))]
   ·rw[dQ (p:=p) e,dQ e,ih]
theorem pG (k j:κ) (y:V):∀kvs:List 445,gP kvs k=none->gP (kvs++ [(k,y)]) j=if j=k then some y else gP kvs j
 | [],_=>by
  by_cases e:k=j
  ·rw[if_pos e.symm];exact dP (p:=(k,y)) e
  ·rw[if_neg (λz=>e z.symm)];exact dQ (p:=(k,y)) e
 |p::r,hn=>by
  rw[List.cons_append];have hk:¬p.1=k:=λz=>by rw[dP z] at hn;cases hn
  rw[dQ hk] at hn;have ih:=pG k j y r hn
  by_cases e:p.1=j
  ·rw[dP e,dP e,if_neg (λz=>hk (e.trans z))]
  ·rw[dQ e,dQ e,ih]
theorem zP (kvs:List 445) (k j:κ) (y:V):gP (putK kvs k y) j=if j=k then some y else gP kvs j:=by
 unfold putK
 by_cases a:267=true
 ·rw[if_pos a,sF];rw[ki] at a
  by_cases e:j=k
  ·obtain ⟨x,hx⟩:=JY.mp a;rw[if_pos e,e,hx,K0,if_pos rfl]
  ·rw[if_neg e];cases gP kvs j with
   |none=>rfl
   |some x=>rw[K0,if_neg e]
 ·rw[if_neg a];refine pG k j y kvs ?_;rw[ki] at a;cases q:gP kvs k with
  |none=>rfl
  |some x=>rw[q] at a;exact (a rfl).elim
theorem i8 (kvs:List 445) (k:κ) (v:V):(putK kvs k v).length<=kvs.length+1:=by
 unfold putK
 split
 ·rw[IN];lia
 ·rw[IU,JN,List.length_nil];lia
theorem jW.isSome_eq {o:Option V} {u:LM} (r:jW o u):o.isSome=u.isSome:=by
 cases o with
 |none=>cases u with
  |none=>rfl
  |some _=>exact (show False from r).elim
 |some _=>cases u with
  |none=>exact (show False from r).elim
  |some _=>rfl
theorem jW.getD {o:Option V} {u:LM} {d:V} {d':Value} (r:jW o u) (rd:RelV d d'):RelV (o.getD d) (u.getD d'):=by
 cases o with
 |none=>cases u with
  |none=>exact rd
  |some _=>exact (show False from r).elim
 |some _=>cases u with
  |none=>exact (show False from r).elim
  |some _=>exact r
theorem KV.val {kvs:List 445} {vs:List 588} (r:KV kvs vs) (k:κ):jW (gP kvs k) (valueAt vs k):=by
 unfold KV at r
 induction r with
 |nil=>exact True.intro
 | @cons p q ps qs h t ih=>
  obtain ⟨h1,h2⟩:=h
  by_cases e:p.1=k
  ·have e':q.1=k:=h1.symm.trans e;have b:valueAt (q::qs) k=some q.2:=by simp[valueAt,K7,e']
   rw[dP e,b];exact h2
  ·have e':¬q.1=k:=λz=>e (h1.trans z)
   have b:valueAt (q::qs) k=valueAt qs k:=by simp[valueAt,K7,e']
   rw[dQ e,b];exact ih
theorem KV.any {kvs:List 445} {vs:List 588} (r:KV kvs vs) (k:κ):267=vs.any λkv=>decide (kv.1=k):=by
 unfold KV at r
 induction r with
 |nil=>rfl
 |cons h t ih=>rw[List.any_cons,List.any_cons,ih,h.1]
theorem KV.repl {kvs:List 445} {vs:List 588} (r:KV kvs vs) (k:κ) {y:V} {u:Value} (ry:RelV y u):
  KV 313 (vs.map λkv=>if kv.1=k then (kv.1,u) else kv):=by
 unfold KV at r⊢
 induction r with
 |nil=>exact .nil
 | @cons p q ps qs h t ih=>
  rw[JU,JU];refine .cons ?_ ih;obtain ⟨h1,h2⟩:=h
  by_cases e:p.1=k
  ·rw[if_pos e,if_pos (h1.symm.trans e)];exact (h1,ry)
  ·rw[if_neg e,if_neg (λz=>e (h1.trans z))];exact (h1,h2)
theorem KV.put {kvs:List 445} {vs:List 588} (r:KV kvs vs) (k:κ) {y:V} {u:Value} (ry:RelV y u):KV (putK kvs k y) (stored vs k u):=by
 unfold putK stored;rw[r.any k]
 by_cases e:(vs.any λkv=>decide (kv.1=k))=true
 ·rw[if_pos e,if_pos e];exact r.repl k ry
 ·rw[if_neg e,if_neg e];exact Paired.snoc r (rfl,ry)
theorem KV.length {kvs:List 445} {vs:List 588} (r:KV kvs vs):kvs.length=vs.length:=Paired.length r
universe z0
theorem nr {P:Program} {w:World} {k:Key} {u:Value} (r:RelV (kV k) u):(aT P w).is k u=true:=by
 cases k with
 |inl i=>obtain ⟨t,e⟩:=(show ∃t,u=Value.int i t from r);subst e;exact sw P w i t
 |inr x=>obtain ⟨t,e⟩:=(show ∃t,u=Value.str x t from r);subst e;exact sx P w x t
theorem pH {P:Program} {w:World}:∀{ks:List Key} {us:LK},bR (ks.map kV) us->ItemsAre (aT P w) ks us
 | [],_,r=>by rw[List.map_nil] at r;cases r;exact .nil
 |k::ks,_,r=>by
  rw[JU] at r;cases r with
  |cons h t=>exact .cons (nr h) (pH t)
abbrev KT (H:Hp):List 239->List 287->Prop:=Paired λp q=>p.1=q.1/\H q.2.1=some (.tup (p.1.map kV))/\RelV p.2 q.2.2
theorem KT.val {H:Hp} {kvs:List 239} {xs:List 287} (r:KT H kvs xs) (k:List Key):jW (gP kvs k) ((atKey xs k).map (·.2)):=by
 induction r with
 |nil=>exact True.intro
 | @cons p q ps qs h t ih=>
  obtain ⟨h1,_,h2⟩:=h
  by_cases e:p.1=k
  ·have e':q.1=k:=h1.symm.trans e;have b:atKey (q::qs) k=some q.2:=by simp[atKey,K7,e']
   rw[dP e,b];exact h2
  ·have e':¬q.1=k:=λz=>e (h1.trans z)
   have b:atKey (q::qs) k=atKey qs k:=by simp[atKey,K7,e']
   rw[dQ e,b];exact ih
theorem KT.repl {H:Hp} {kvs:List 239} {xs:List 287} (r:KT H kvs xs) (k:List Key) {y:V} {u:Value} (ry:RelV y u):
  KT H 313 (xs.map (putAt k u)):=by
 induction r with
 |nil=>exact .nil
 | @cons p q ps qs h t ih=>
  rw[JU,JU];refine .cons ?_ ih;obtain ⟨h1,h2,h3⟩:=h;unfold putAt
  by_cases e:p.1=k
  ·rw[if_pos e,if_pos (h1.symm.trans e)];exact (h1,h2,ry)
  ·rw[if_neg e,if_neg (λz=>e (h1.trans z))];exact (h1,h2,h3)
theorem KT.put {H:Hp} {kvs:List 239} {xs:List 287} (r:KT H kvs xs) (k:List Key) {b:Addr} {y:V} {u:Value} (hb:H b=some 450) (ry:RelV y u):
  KT H (putK kvs k y) (storedH xs k b u):=by
 have e:267=(atKey xs k).isSome:=by
  rw[ki,(r.val k).isSome_eq,Option.isSome_map]
 unfold putK storedH;rw[e]
 by_cases q:(atKey xs k).isSome=true
 ·rw[if_pos q,if_pos q];exact r.repl k ry
 ·rw[if_neg q,if_neg q];exact Paired.snoc r (rfl,hb,ry)
theorem KT.keeps {H H':Hp} {kvs:List 239} {xs:List 287} (r:KT H kvs xs) (ht:∀b ys,H b=some (.tup ys)->H' b=some (.tup ys)):KT H' kvs xs:=
 Paired.mapP r λ_ _ z=>⟨z.1,ht _ _ z.2.1,z.2.2⟩
section
variable {P:Program} {w:World} {H:Hp} {h:Heap} {a:Addr}
theorem Cy {u:HO} (ok:jP P w H h) (e:Rd H a u):cN P w H h a u:=e.ok ok
theorem nA {kvs:List 281} (ok:jP P w H h) (e:Rd H a 140):kvs.length<=sizeLine/\(a==sysModules)=false/\∃vs,KV kvs vs/\h.DictOf (aT P w) a vs:=
 show cN P w H h a 140 from Cy ok e
theorem wC {kvs:List 281} (ok:jP P w H h) (e:H a=some 140):kvs.length<=sizeLine/\(a==sysModules)=false/\∃vs,KV kvs vs/\h.DictOf (aT P w) a vs:=nA ok (.inl e)
theorem nB {ks:List Key} (ok:jP P w H h) (e:H a=some (.tup (ks.map kV))):(tupleKind (aT P w)).is h ks a:=by
 obtain ⟨_,its,r,o,h1,h2,n,h3⟩:=(show cN P w H h a (.tup (ks.map kV)) from ok a _ e)
 exact (o,its.toArray,n,h1,h2,h3,by simpa using pH r)
theorem pI {kvs:List 239} (ok:jP P w H h) (e:Rd H a 399):kvs.length<=sizeLine/\(a==sysModules)=false/\
  ∃xs,KT H kvs xs/\h.DictOfH (tupleKind (aT P w)) a xs:=by
 obtain ⟨z,y,xs,r,o,es,ep,h1,h2,h3,h4,h5⟩:=(show cN P w H h a 399 from Cy ok e)
 refine (z,y,xs,r,o,es,ep,h1,h2,h3,h4,λx hx=>?_,h5)
 have all:∀{l:List 239} {m:List 287},KT H l m->∀x∈m,(tupleKind (aT P w)).is h x.1 x.2.1:=by
  intro l m q
  induction q with
  |nil=>intro x hx;exact nomatch hx
  | @cons p q ps qs hq t ih=>
   intro x hx;rcases IZ.mp hx with e|hx
   ·subst e;exact nB ok (by rw[<-hq.1];exact hq.2.1)
   ·exact ih x hx
 exact all r x hx
theorem E9 {kvs:List 239} (ok:jP P w H h) (e:H a=some 399):kvs.length<=sizeLine/\(a==sysModules)=false/\
  ∃xs,KT H kvs xs/\h.DictOfH (tupleKind (aT P w)) a xs:=pI ok (.inl e)
universe z0
def kj (H:Hp) (a:Addr) (y:V) (r:Option V):Prop:=
 (∃kvs k,Rd H a 140/\y=kV k/\r=gP kvs k)∨∃kvs k b,Rd H a 399/\y= .ref b/\H b=some 450/\r=gP kvs k
def sG (H:Hp) (a:Addr) (y v:V) (H':Hp):Prop:=
 (∃kvs k,H a=some 140/\y=kV k/\kvs.length<sizeLine/\H'=aO H a (.dK (putK kvs k v)))∨
 ∃kvs k b,H a=some 399/\y= .ref b/\H b=some 450/\kvs.length<sizeLine/\H'=aO H a (.dT (putK kvs k v))
theorem kj.t {H:Hp} {a b:Addr} {kvs:List 239} {k:List Key} (e:H a=some 399) (eb:H b=some 450):kj H a (.ref b) (gP kvs k):= .inr (kvs,k,b,.inl e,rfl,eb,rfl)
theorem sG.k {H:Hp} {a:Addr} {kvs:List 281} {k:Key} {v:V} (e:H a=some 140) (hl:kvs.length<sizeLine):sG H a (kV k) v (aO H a (.dK (putK kvs k v))):= .inl (kvs,k,e,rfl,hl,rfl)
theorem sG.t {H:Hp} {a b:Addr} {kvs:List 239} {k:List Key} {v:V} (e:H a=some 399) (eb:H b=some 450) (hl:kvs.length<sizeLine):
  sG H a (.ref b) v (aO H a (.dT (putK kvs k v))):= .inr ⟨kvs,k,b,e,rfl,eb,hl,rfl⟩
section
variable {pins:LG} {σ:St} {H:Hp} {s:Shared} {a:Addr} {y v:V} {u r:Value} {o:Option V} {A:Around} {E:LD}
theorem aW.big (I:aW X pins σ H s):sysModules<s.heap.objs.size:=by
 have h:mainGlobals<s.heap.objs.size:=(I.mod.glob.keeps I.bk).lt;exact Nat.lt_trans 49 h
theorem yf {Q:LD} (hu:A.units+1<cLine) (I:aW X pins σ H s) (g:kj H a y (some v)) (ry:RelV y u) (h:∀w' s',aW X pins σ H s'->RelV v w'->Q w' s'):
  wpAny 114 A (getItem 205 u) Q E s:=by
 rcases g with ⟨kvs,k,e,ey,l⟩|⟨kvs,k,b,e,ey,eb,l⟩
 ·subst ey;sleep 137;obtain ⟨w',hw,rw'⟩:=jW.some_of (v:=v) (o:=valueAt vs k) (by rw[l];exact rel.val k)
  exact wpAny_getItem_of (nr ry) dd.mapOf hw (h w' _ (I.tok _) rw')
 ·subst ey;cases (show u=Value.ref b from ry)
  sleep 223;obtain ⟨w',hw,rw'⟩:=jW.some_of (v:=v) (o:=(atKey xs k).map (·.2)) (by rw[l];exact rel.val k)
  obtain ⟨p,hp,hp2⟩:=IW.mp hw;refine wpAny_getItem_heap 591 (nB I.hok eb) dd hp ?_;rw[hp2];exact h w' _ (I.tok _) rw'
theorem BL {Q:LD} (hu:A.units+1<cLine) (I:aW X pins σ H s) (g:kj H a y o) (ry:RelV y u) (h:∀s',aW X pins σ H s'->Q (.bool (!o.isSome)) s'):
  wpAny 114 A (compareOp .NotIn u 205) Q E s:=by
 rcases g with ⟨kvs,k,e,ey,l⟩|⟨kvs,k,b,e,ey,eb,l⟩
 ·subst ey;sleep 137;refine wpAny_notIn_of (nr ry) hd dd.mapOf ?_;rw[<-(rel.val k).isSome_eq,<-l];exact h _ (I.tok _)
 ·subst ey;cases (show u=Value.ref b from ry)
  sleep 223;refine wpAny_notIn_heap 591 (nB I.hok eb) hd dd ?_;have q:=(rel.val k).isSome_eq;rw[Option.isSome_map] at q;rw[<-q,<-l];exact h _ (I.tok _)
theorem wD {h':Heap} {t':Nat} {ob:HO} (I:aW X pins σ H s) (mu:EN (H a)) (hs:Heap.SameBut a s.heap h') (he:∃q,h'.get? a=some q) (new:cN X.prog X.w (aO H a ob) h' a ob):
  aW X pins σ (aO H a ob) {s with heap:=h',toks:=t'}:=
 I.write (x:=a) (e:=a) mu 574 (λb q hb z=>(hs.2 b hb).trans z) he new
theorem C6 {P:Program} {w:World} {H':Hp} {h':Heap} {kvs:List 281} {vs:List (Key×Value)} (z:kvs.length<=sizeLine) (hd:(a==sysModules)=false) (rel:KV kvs vs) (dd:h'.DictOf (aT P w) a vs):
  cN P w H' h' a (.dK kvs):=⟨z,hd,vs,rel,dd⟩
theorem yg {H':Hp} {Q:Unit->Shared->Prop} (hu:A.units+1<cLine) (I:aW X pins σ H s) (g:sG H a y v H') (ry:RelV y u) (rv:RelV v r) (h:∀s',aW X pins σ H' s'->Q () s'):
  wpAny 114 A (setItem 205 u r) Q E s:=by
 rcases g with ⟨kvs,k,e,ey,l,eH⟩|⟨kvs,k,b,e,ey,eb,l,eH⟩
 ·subst ey eH;obtain ⟨z,hd,vs,rel,dd⟩:=wC I.hok e;have hz:vs.length<=sizeLine:=by rw[<-rel.length];exact z
  have hl:(putK kvs k v).length<=sizeLine:=by have:=i8 kvs k v;lia
  refine wpAny_setItem_pairs (hsz:=hz) (nr ry) dd λh' dd' hs=>h _ ?_
  have he:∃q,h'.get? a=some q:=let ⟨q,_,_,hq,_⟩:=dd';⟨q,hq⟩;exact wD I (by rw[e];exact True.intro) hs he (C6 hl hd (rel.put k rv) dd')
 ·subst ey eH;cases (show u=Value.ref b from ry)
  obtain ⟨z,hd,xs,rel,dd⟩:=E9 I.hok e;have hz:xs.length<=sizeLine:=by rw[<-Paired.length rel];exact z
  have hl:(putK kvs k v).length<=sizeLine:=by have:=i8 kvs k v;lia
  refine wpAny_setItem_heap (hsz:=hz) 591 (nB I.hok eb) dd λh' dd' hs=>h _ ?_
  obtain ⟨q,es,ep,hq,h2,h3,h4,_,h5⟩:=dd';refine wD I (by rw[e];exact True.intro) hs ⟨q,hq⟩ ⟨hl,hd,_,(rel.put k eb rv).keeps λc ys ec=>?_,q,es,ep,hq,h2,h3,h4,h5⟩
  rw[aR (jO ec e (λz=>nomatch z))]
  exact ec
universe z0
section
variable {pins:LG} {σ:St} {H:Hp} {s:Shared} {a:Addr} {kvs:List (Key×V)} {k:Key} {u:Value} {A:Around} {E:LD}
theorem Fa {Q:LD} (I:aW X pins σ H s) (e:Rd H a 140) (h:∀t s',aW X pins σ H s'->Q (.int kvs.length t) s'):wpAny 114 A (call 351 [.ref a]) Q E s:=by
 sleep 137;refine call_len_dict hd dd (by rw[<-rel.length];rw[sizeLine_eq] at z;lia) ?_
 rw[<-rel.length];exact h _ _ (I.tok _)
universe z0
def Fb (i:Expr):Prop:=∀ov iv,subscripted i false ov iv=operate [ov,iv] (getItem ov iv)
theorem BM {prog:Program} {w:World} {A:Around} {E:LD} {s:Shared} {env:Env} {value slice:Expr} {pos:Pos} {T id:String} {Q:LD}
  (hl:typeLookup (.type T) "__getitem__" =pure (some 492)) (hs:Fb slice)
  (h:wpAny 103 A (eval value env) (λo s₁=>wpAny 103 A (eval slice env) (λi s₂=>s₂.TypeIs o T/\wpAny 103 A (getItem o i) Q E s₂) E s₁) E s):
  wpAny 103 A (eval (.Subscript value slice pos) env) Q E s:=by
 refine Subscript_ (wpAny_mono h (λo s₁ h₁=>wpAny_mono h₁ (λi s₂ h₂=>?_) λ_ _ x=>x) λ_ _ x=>x)
 obtain ⟨hT,h₂⟩:=h₂;unfold subscriptTail;refine wpAny_bind ?_;rw[getitemInPython_of_ne hT.not_modules];refine wpAny_bind (wpAny_specialOf hT hl ?_);have fin:wpAny 103 A (subscripted slice false o i) (λr s₃=>wpAny 103 A (letTemporaryGo value o r>>=λ_=>pure r) Q E s₃) E s₂:=by
  rw[hs o i];exact wpAny_operating (wpAny_mono h₂ (λr s₃ h₃=>wpAny_bind (wpAny_letTemporaryGo (wpAny_pure h₃))) λ_ _ x=>x)
 first
  |exact wpAny_pure (wpAny_bind fin)
  |exact wpAny_bind (wpAny_pure (wpAny_bind fin))
  |exact wpAny_bind fin
theorem sH {X:Cx} {pins:LG} {σ:St} {H:Hp} {s:Shared} {a:Addr} {y:V} {o:Option V} (I:aW X pins σ H s) (g:kj H a y o):s.TypeIs 205 "dict" :=by
 rcases g with ⟨kvs,k,e,_,_⟩|⟨kvs,k,b,e,_,_,_⟩
 ·obtain ⟨_,_,vs,_,dd⟩:=nA I.hok e;exact dd.typeIs
 ·obtain ⟨_,_,xs,_,dd⟩:=pI I.hok e;exact dd.typeIs
def Fc (td ty:TE):TE:=λσ H Q=>td σ H λx H1=>ty σ H1 λy H2=>∃a v,x= .ref a/\kj H2 a y (some v)/\Q v H2
def BN (ty td:TE):TE:=λσ H Q=>ty σ H λy H1=>td σ H1 λx H2=>∃a o,x= .ref a/\kj H2 a y o/\Q (.bl (!o.isSome)) H2
def Fd (td ty tv:TE):TS:=λD σ H=>tv σ H λv H1=>td σ H1 λx H2=>ty σ H2 λy H3=>∃a H4,x= .ref a/\sG H3 a y v H4/\D.nx σ H4
section
variable {o i e value:Expr} {pos pos' tpos:Pos} {td ty tv:TE}
theorem jv (hu:X.A.units+1<cLine) (ho:PE X o td) (hi:PE X i ty) (hs:Fb i):PE X (.Subscript o i pos) (Fc td ty):=by
 sleep 107;refine BM PySem.F.slot_dict_getitem.lookup hs (cu 437 λu s1 (x,H1,I1,rx,q1)=>cu (hi pins s1 σ H1 _ I1 q1) λiv s2 (y,H2,I2,ry,a,v,ex,g,q2)=>?_)
 sleep 150;exact (sH I2 g,yf hu I2 g ry λw' s3 I3 rw'=>(v,H2,I3,rw',q2))
theorem jw (hu:X.A.units+1<cLine) (hi:PE X i ty) (ho:PE X o td):PC X .NotIn i o (BN ty td):=by
 sleep 107;refine cu (hi pins s σ H _ I h) λiv s1 (y,H1,I1,ry,q1)=>cu (ho pins s1 σ H1 _ I1 q1) λu s2 (x,H2,I2,rx,a,ov,ex,g,q2)=>?_
 sleep 150;exact BL hu I2 g ry λs3 I3=>(.bl (!ov.isSome),H2,I3,rfl,q2)
theorem wE (hu:X.A.units+1<cLine) (ho:PE X o td) (hi:PE X i ty) (hv:PE X value tv) (hs:swapsWith value (some (.Subscript o i pos')) pos.line X.env=pure false):
  PS X (.Assign [.Subscript o i pos'] value pos) (Fd td ty tv):=by
 intro pins s σ H D I h;refine wpAny_Assign_Subscript (cu (hv pins s σ H _ I h) λr s1 (v,H1,I1,rv,q1)=>cu (ho pins s1 σ H1 _ I1 q1) λu s2 (x,H2,I2,rx,q2)=>cu (hi pins s2 σ H2 _ I2 q2) λiv s3 (y,H3,I3,ry,a,H4,ex,g,q3)=>?_) hs
 sleep 150;exact yg hu I3 g ry rv λs4 I4=>(σ,H4,I4,q3)
universe z0
theorem zQ {P:Program} {w:World} {H:Hp} (h:Heap) (hb:sysModules<h.objs.size):cN P w H 551 h.objs.size (.dK []):=
 ⟨JT _,beq_eq_false_iff_ne.mpr (Ne.symm (J6 hb)),[],.nil,Heap.DictOf.new h⟩
theorem zR {P:Program} {w:World} {H:Hp} (h:Heap) (hb:sysModules<h.objs.size):cN P w H 551 h.objs.size (.dT []):=
 ⟨JT _,beq_eq_false_iff_ne.mpr (Ne.symm (J6 hb)),[],.nil,_,#[],0,121 _ rfl,⟨rfl,rfl,rfl⟩,rfl,rfl,KL⟩
def C7:TE:=λ_ H Q=>∀p,H p=none->Q 148 (aO H p (.dK []))
def C8:TE:=λ_ H Q=>∀p,H p=none->Q 148 (aO H p (.dT []))
section
variable {pos:Pos}
theorem zS:PE X (.Dict [] [] pos) C7:=λpins s σ H Q I h=>
 wpAny_Dict_empty ⟨.ref 96,_,I.laid (a:=96) (o:= .dK []) (t':=s.toks) (λ_ _ q=>101 _ q) 203 (zQ s.heap I.big),rfl,h _ 447⟩
theorem zT:PE X (.Dict [] [] pos) C8:=λpins s σ H Q I h=>
 wpAny_Dict_empty ⟨.ref 96,_,I.laid (a:=96) (o:= .dT []) (t':=s.toks) (λ_ _ q=>101 _ q) 203 (zR s.heap I.big),rfl,h _ 447⟩
universe z0
structure M2 (X:Cx) (o:Expr) (m:Str) (apos:Pos) (e f:Expr) (cpos:Pos):Prop where
 base:attributeBase o m X.env (eval o X.env)=eval o X.env
 few:((backTo cpos (starEach [e,f] X.env)).all (λx=> !x.1)&&(backToKw cpos (keywordEach [] X.env)).all (λx=>x.1.isSome)
  &&decide (([e,f]:List Expr).length+([]:List Keyword).length+582<30))=true
 line:548=true
 trees:backTo cpos (starEach [e,f] X.env)= [259,(false,eval f X.env)]
def Iq (H:Hp) (a:Addr):Prop:=(∃kvs,Rd H a 140)∨∃kvs,Rd H a 399
theorem C9 {X:Cx} {pins:LG} {σ:St} {H:Hp} {s:Shared} {a:Addr} (I:aW X pins σ H s) (d:Iq H a):
  s.TypeIs 205 "dict" /\(∀b,Value.ref a= .ref b->∃ob,s.heap.get? b=some ob/\ob.dict=none)/\(a==sysModules)=false:=by
 rcases d with ⟨kvs,e⟩|⟨kvs,e⟩
 ·obtain ⟨_,hd,vs,_,dd⟩:=nA I.hok e;refine (dd.typeIs,λb q=>?_,hd)
  cases q;obtain ⟨ob,_,_,h1,h2,_⟩:=dd;exact (ob,h1,h2.2.1)
 ·obtain ⟨_,hd,xs,_,dd⟩:=pI I.hok e;refine (dd.typeIs,λb q=>?_,hd)
  cases q;obtain ⟨ob,_,_,h1,h2,_⟩:=dd;exact (ob,h1,h2.2.1)
section
variable {pins:LG} {σ:St} {H:Hp} {s:Shared} {a:Addr} {y d:V} {u r:Value} {o:Option V} {A:Around} {E:LD}
theorem Da {Q:LD} (hu:A.units+1<cLine) (I:aW X pins σ H s) (g:kj H a y o) (ry:RelV y u) (rd:RelV d r) (h:∀w' s',aW X pins σ H s'->RelV (o.getD d) w'->Q w' s'):
  wpAny 114 A (call (.builtin "dict.get") [.ref a,u,r]) Q E s:=by
 rcases g with ⟨kvs,k,e,ey,l⟩|⟨kvs,k,b,e,ey,eb,l⟩
 ·subst ey;sleep 137;refine call_meetsIn PySem.F.slot_dict_get dd.typeIs PySem.F.entry_dict_get (PySem.F.args_dict_get_3 _ _ _) (meets_dict_get_default 510 a (nr ry) hd r) (_,dd.mapOf,h _ _ (I.tok _) ?_);rw[l];exact (rel.val k).getD rd
 ·subst ey;cases (show u=Value.ref b from ry)
  sleep 223;refine call_meetsIn PySem.F.slot_dict_get dd.typeIs PySem.F.entry_dict_get (PySem.F.args_dict_get_3 _ _ _) (meetsH_dict_get_default (tupleKind 510) a b hd r) (tupleKind_room_in1 hu,k,xs,nB I.hok eb,dd,h _ _ (I.tok _) ?_);rw[l];exact (rel.val k).getD rd
universe z0
def Db (td ty tx:TE):TE:=λσ H Q=>td σ H λx H1=>∃a,x= .ref a/\Iq H1 a/\ty σ H1 λy H2=>tx σ H2 λz H3=>∃o,kj H3 a y o/\Q (o.getD z) H3
section
variable {o e f:Expr} {apos cpos:Pos} {td ty tx:TE}
theorem zU (hu:X.A.units+1<cLine) (ho:PE X o td) (he:PE X e ty) (hf:PE X f tx) (m:M2 X o "get" apos e f cpos):PE X (.Call (.Attribute o "get" apos) [e,f] [] cpos) (Db td ty tx):=by
 sleep 107;refine wpAny_Call_method m.base m.few m.line PySem.F.plainAttrs_dict PySem.F.slot_dict_get PySem.F.type_dict_get (cu 437 λu s1 (x,H1,I1,rx,a,ex,d,q1)=>?_)
 sleep 150;obtain ⟨t1,t2,_⟩:=C9 I1 d;exists t1,t2;rw[m.trees];refine Calls.callWith_builtin rfl (Calls.evalArgs_plain (Calls.spliced_cons (cu (he pins s1 σ H1 _ I1 q1) λiv s2 (y,H2,I2,ry,q2)=>
  Calls.spliced_cons (cu (hf pins s2 σ H2 _ I2 q2) λfv s3 ⟨z,H3,I3,rz,ov,g,q3⟩=>Calls.spliced_nil ?_))))
 exact Da hu I3 g ry rz λw' s4 I4 rw'=>(_,H3,I4,rw',q3)
universe z0
universe L2
namespace Att
open PySem PySem.W PySem.Calls PyProof.Rows
theorem mP {P:Params} {h:Heap}:∀(ns:List Int) (vs:LK),WellAll P h vs (ns.map WData.int)->IntsAre vs ns:=by
 intro ns
 induction ns with
 |nil=>
  intro vs w;rw[List.map_nil] at w;cases w;exact .nil
 |cons n ns ih=>
  intro vs w;rw[JU] at w;cases w with
  |cons a b=>
   cases a;exact .cons _ _ (ih _ b)
theorem yh {l:OpenLaw} {n:Nat} (hn:l.most=some n) {P:Params} {h:Heap} {args:List WData} {vals:LK}
  (hpre:l.row.toRowW.claim.pre args=true) (hwl:WellAll P h vals args):
  ∃a vs ns,vals= [Value.ref a]/\args= [WData.list (ns.map WData.int)]/\h.get? a=some 211/\IntsAre vs ns/\ns.length<=n:=by
 have hsh:WShape.hasAll [] args [.list .int]=true:=(pre_splitW hpre).1;have hc:l.pre.holds [] {args:=args}=true:=(pre_splitW hpre).2;obtain ⟨d,r,rfl,h1,h2⟩:=hasAllW_cons hsh;obtain rfl:=hasAllW_nil h2;obtain ⟨xs,rfl,h3⟩:=hasW_list h1;obtain ⟨ns,rfl⟩:=items_int h3;have hlen:ns.length<=n:=by
  unfold OpenLaw.pre at hc;have h4:(WTm.not (.lt (.lit (.int (n:Int))) (.len (.arg 0)))).holds [] {args:= [.list (ns.map .int)]}=true:=by
   have h4:=(holds_andW hc).1;rw[hn] at h4;exact h4
  have h5:=condW_of h4 (w_not (w_lt w_lit (w_len_list (w_arg rfl))));rw[IN] at h5;refine Nat.le_of_not_lt λq=>?_
  have q':(n:Int)<((ns.length:Nat):Int):=by lia
  first
   |(rw[decide_eq_true q'] at h5;exact absurd h5 (by decide))
   |(simp at h5;lia)
 cases hwl with
 |cons w1 w2=>
  cases w2;cases w1 with
  |list ho hall=>exact ⟨_,_,ns,rfl,rfl,ho,mP ns _ hall,hlen⟩
theorem yi (l:OpenLaw) (args:List WData):l.row.toRowW.claim.post args 537 args=true:=
 postW_of (r:=l.row.toRowW) (X:=(true==true))
  (show WShape.has [] 537 .bool=true by first|rfl|decide|simp[WShape.has,WShape.arms,WShape.armsAll])
  (show (WTm.eq .res (.lit 537)).value [] {args:=args,res:=some 537,after:=args}=some (.bool (true==true)) from w_eq_bool (w_res rfl) w_lit) rfl
theorem sI {l:OpenLaw} {n:Nat} {q:Program} {loose:LI} {XP:LF->Heap->Prop} {YP:World->Heap->Prop} {d:DefRec}
  (hn:l.most=some n) (hdf:d.params.defaults= [])
  (call:∀(w:World) (s₀ s₁:Shared) (mg mb:LF) (fa:Addr) (o:Obj) (pm cd doc:Value) (a:Addr) (vs:LK) (ns:List Int),
   Ground q loose [] XP w s₀ mg mb s₁.heap->YP w s₁.heap->
   s₁.heap.get? fa=some o->o.data= .func (docDef d.name d.params d.body d.scope pm cd doc)->s₁.heap.CodeRec cd d.name->mg d.name=some (.ref fa)->
   s₁.heap.get? a=some 211->IntsAre vs ns->ns.length<=n->s₁.gens= #[]->
   codeAny (model l.prog w) callerA 413 188 s₁):
  WalkO q loose XP YP l.row.toRowW d [] (λf vs=>PySem.call f vs):=by
 intro w s₀ s₁ mg mb G Y fa o pm cd doc dV kV ho hd hcd hD hmg hg args vals as hpre hlay hrd hwl hlo;obtain rfl:dV= .none:=Dflts.none hD hdf;obtain rfl:kV= .none:=Dflts.noKw hD;obtain ⟨a,vs,ns,rfl,rfl,hobj,hints,hlen⟩:=yh hn hpre hwl;refine enter_call (codeAny_mono (call w s₀ s₁ mg mb fa o pm cd doc a vs ns G Y ho (fd_plain hd) hcd hmg hobj hints hlen hg) λr s' hq=>?_)
 obtain ⟨rfl,h2,h3,h4⟩:=hq;exact (.inl (.bool true,.bool true,[],rfl,λ_=>rfl,.bool true,yi l _,λ_=>(Kf,λ_ hm=>(nomatch hm))),h2,h3,h4)
universe Att
namespace L2
open PySem PySem.Spec PyProof.Rows
theorem kQ:∀{vs:LK} {ns:List Int},IntsAre vs ns->bR 173 vs
 |_,_,.nil=> .nil
 |_,_,.cons n t h=> .cons ⟨t,rfl⟩ (kQ h)
def Dc (H:Hp):Prop:=∀b,H b=none∨∃o xs,H b=some (.frz o 515)
theorem zV {P:Program} {w:World} {K:IS} {mg mb:LF} {CX:wu} {k:Nat} {fa a:Addr} {fd:FuncData} {x:Str} {sp:Sp} {s₁:Shared} {vs:LK} {ns:List Int}
  (KX:K.In s₁.heap) (hns:s₁.heap.Ns mainGlobals mg) (hb:s₁.heap.Ns builtinsNs mb) (hbb:∀x:Str,x≠ "__name__" ->mb x=bootBuiltins x) (hlim:s₁.heap.NoLimit) (hg:s₁.gens= #[])
  (ha:s₁.heap.get? a=some 211) (hi:IntsAre vs ns) (hl:ns.length<=sizeLine) (hr:fF k callerA)
  (F:∀base:Heap,K.In base->base.Ns mainGlobals mg->bI P w K mg base CX k fa fd [x] sp) (hbind:∀(s:Shared) (u:Value),BindsTo s fd ⟨[u],[]⟩ [(x,u)])
  (hsp:∀H:Hp,Dc H->aF K H a 173->sp [.ref a] H (λv _=>v= .bl true) λ_ _ _=>False)
  (hCX:∀H e s',CX [] H s₁ (λ_ _ _=>False) e s'->False):
  codeAny 594 callerA 413 188 s₁:=by
 have rv:=kQ hi;have lenV:=hi.length;have core:∀H:Hp,Dc H->aF K H a 173->jP P w H s₁.heap->(∀b,H b≠none->b=a)->(H a≠none->K.lookup a=none)->
   codeAny 594 callerA 413 188 s₁:=by
  intro H hO hS hok hA hK;have base_of:∀{b:Addr} {o:Obj},s₁.heap.get? b=some o->H b=none->(qG s₁.heap H).get? b=some o:=λe n=>zA e n
  have noA:∀{b:Addr} {o:Obj} {es:Array DictEntry} {ep:Nat},s₁.heap.get? b=some o->o.data= .dict es ep->H b=none:=λ{b o es ep} e d=>by
   cases q:H b with
   |none=>rfl
   |some u=>
    have e':b=a:=hA b (by rw[q];simp)
    subst e';rw[ha] at e;cases e;have d':Data.seq vs.toArray _=Data.dict es ep:=d;cases d'
  have nsK:∀{b:Addr} {m:LF},s₁.heap.Ns b m->(qG s₁.heap H).Ns b m:=λ{b m} (o,es,ep,e,d,r)=>(o,es,ep,base_of e (noA e d),d,r)
  have hKb:K.In (qG s₁.heap H):=λb o e=>base_of (KX b o e) (by
   cases q:H b with
   |none=>rfl
   |some u=>
    have e':b=a:=hA b (by rw[q];simp)
    subst e';rw[hK (by rw[q];simp)] at e;cases e)
  have hM:Mod K mg (qG s₁.heap H):=⟨hKb,nsK hns,⟨mb,nsK hb,hbb⟩,let ⟨mc,h1,h2⟩:=hlim;⟨mc,nsK h1,h2⟩⟩;have e0:uS P w K mg (qG s₁.heap H) callerA [] s₁ H:=(rfl,hM,λb o e=>Bw e,Nat.le_of_eq (xX _ _),trivial,λb hb=>absurd (show b∈([]:LJ) from hb) (by simp),hok,.of_eq hg)
  refine codeAny_mono ((F _ hKb (nsK hns)).run callerA [] s₁ H ([.ref a],[]) [.ref a] [.ref a] _ _ hr e0 (hbind s₁ 205) 403 (hsp H hO hS)) λr s' h=>?_
  cases r with
  |error e=>exact (hCX H e s' h).elim
  |ok fl=>
   cases fl with
   |next=>exact False.elim h
   |brk=>exact False.elim h
   |cont=>exact False.elim h
   |ret u=>
    obtain ⟨v,H',os,bare,un,hok',r',q⟩:=h;have q':v= .bl true:=q;subst q';obtain rfl:u=Value.bool true:=r';refine (rfl,OldK.of_keep λb o e=>?_,os,bare)
    cases q:H b with
    |none=>exact un.keep b o e q (by intro z;exact absurd (show b∈([]:LJ) from z) 110) 110
    |some u=>
     rcases hO b with z|⟨ob,xs,z⟩
     ·rw[q] at z;cases z
     ·have z2:=un.frzs b ob _ z;obtain ⟨e1,_⟩:=hok b _ z;obtain ⟨e2,_⟩:=hok' b _ z2;rw[e] at e1;cases e1;exact e2
 cases hk:K.lookup a with
 |some o=>
  have e:=KX a o hk;rw[ha] at e;cases e;refine core 444 (λ_=> .inl rfl) (.inr (_,vs.toArray,_,hk,rfl,rfl,rfl,by rw[JD,lenV];exact hl,by simpa using rv)) (λb u z=>by have z':(none:Option HO)=some u:=z;cases z') (λb z=>absurd rfl z) λz=>absurd rfl z
 |none=>
  refine core (λb=>if b=a then some (.frz 211 (.lst 173)) else none) (λb=>?_) (.inl (.inr (211,if_pos rfl))) (λb u z=>?_) (λb z=>?_) λ_=>hk
  ·by_cases hb:b=a
   ·exact .inr (_,_,if_pos hb)
   ·exact .inl (if_neg hb)
  ·by_cases hb:b=a
   ·have z':=(if_pos hb).symm.trans z;cases z';subst hb;exact (ha,by rw[IN];exact hl,vs,_,rv,ha)
   ·have z':=(if_neg hb).symm.trans z;cases z'
  ·by_cases hb:b=a
   ·exact hb
   ·exact absurd (if_neg hb) z
theorem BO {l:PySem.W.OpenLaw} {n k:Nat} {q:Program} {loose:LI} {XP:LF->Heap->Prop} {YP:World->Heap->Prop} {d:DefRec} {K:Params->IS} {CX:World->wu} {sp:World->Sp} {x:Str}
  (hn:l.most=some n) (hn2:n<=sizeLine) (hdf:d.params.defaults= []) (hr:fF k callerA)
  (hY:∀(w:World) (h:Heap),YP w h->(K w.params).In h)
  (F:∀(w:World) (mg:LF) (fa:Addr) (h:Heap),(K w.params).In h->h.Ns mainGlobals mg->mg d.name=some (.ref fa)->
   ∃fd:FuncData,(∀(s:Shared) (u:Value),BindsTo s fd ⟨[u],[]⟩ [(x,u)])/\
    ∀base:Heap,(K w.params).In base->base.Ns mainGlobals mg->bI l.prog w (K w.params) mg base (CX w) k fa fd [x] (sp w))
  (hsp:∀(w:World) (H:Hp) (a:Addr) (ns:List Int),ns.length<=n->Dc H->aF (K w.params) H a 173->sp w [.ref a] H (λv _=>v= .bl true) λ_ _ _=>False)
  (hCX:∀(w:World) (H:Hp) (s:Shared) (e:Value) (s':Shared),CX w [] H s (λ_ _ _=>False) e s'->False):
  PySem.W.WalkO q loose XP YP l.row.toRowW d [] (λf vs=>PySem.call f vs):=by
 refine Att.sI hn hdf λw s₀ s₁ mg mb fa o pm cd doc a vs ns G Y ho hd hcd hmg hobj hints hlen hg=>?_
 have KX:=hY w _ Y;obtain ⟨fd,hb,hF⟩:=F w mg fa _ KX G.T.g hmg;exact zV KX G.T.g G.T.b G.T.builtins G.T.nolimit hg hobj hints (JV hlen hn2) hr hF hb (λH hO hS=>hsp w H a ns hlen hO hS) λH e s'=>hCX w H s₁ e s'
noncomputable def gH (s:Stmt):Arguments:=match s with
 | .FunctionDef _ a _ _ _ _ _ _ _ _=>a
 |_=>{posonlyargs:= [],args:= [],vararg:=none,kwonlyargs:= [],kw_defaults:= [],kwarg:=none,defaults:= []}
noncomputable def fP (s:Stmt):List Stmt:=match s with
 | .FunctionDef _ _ b _ _ _ _ _ _ _=>b
 |_=> []
noncomputable def aB (s:Stmt):Scope:=match s with
 | .FunctionDef _ _ _ _ _ _ sc _ _ _=>sc
 |_=>{kind:= .function,names:= [],isGenerator:=false,isCoroutine:=false}
abbrev bD:wu:=λ_ _ _ _ _ _=>False
abbrev E0:XK:=λ_ _ _=>False
theorem Cz {X:Cx}:nk bD X E0:=λ_ _ _ _ _ _ _ h=>h.elim
theorem ip {A:Around} {k:Nat} (hr:fF k A):A.units+1<cLine:=Nat.lt_of_le_of_lt (Nat.add_le_add_left (by decide:1<=64) _) hr.units
variable {X:Cx}
theorem pv (i:Nat) {x:Str} {pos:Pos} (hN:X.N[i]?=some x:=by rfl) (hv:GR X.env.scope x:=by first|exact Or.inl rfl|exact Or.inr (Or.inl rfl)|exact Or.inr 187) (hd:285=false:=by decide)
  (hcd:(x==("__classdict__" :Str))=false:=by decide):PE X (.Name x pos) (EO i):=CT hN hv hd hcd
theorem gI {A B:Prop} (h:B):if false=true then A else B:=by
 rw[if_neg JL];exact h
theorem eI {A B:Prop} (h:A):if true=true then A else B:=by
 rw[if_pos rfl];exact h
def aC (H H':Hp):Prop:=∀b o,H b=some o->H' b=some o
theorem aC.refl (H:Hp):aC H H:=λ_ _ h=>h
theorem aC.trans {H H1 H2:Hp} (a:aC H H1) (b:aC H1 H2):aC H H2:=λc o h=>b c o (a c o h)
theorem aC.free {H H':Hp} (e:aC H H') {l:Addr} (h:H' l=Option.none):H l=Option.none:=by
 cases q:H l with
 |none=>rfl
 |some o=>
  rw[e l o q] at h;cases h
theorem aC.seq {K:IS} {H H':Hp} {a:Addr} {xs:List V} (e:aC H H') (h:aF K H a xs):aF K H' a xs:=by
 rcases h with (h|⟨o,h⟩)|h
 ·exact .inl (.inl (e _ _ h))
 ·exact .inl (.inr (o,e _ _ h))
 ·exact .inr h
variable {pins:LG} {σ:St} {H:Hp} {s:Shared} {h':Heap}
theorem aW.turnedNew {ch:LJ} {T:Addr} {o:HO} {t':Nat} (I:aW X pins σ H s) (hf:∀b∈ch,fE X pins H b) (k:∀b u,b∉ch->s.heap.get? b=some u->h'.get? b=some u) (hp:s.heap.objs.size<=T) (new:cN X.prog X.w (aO H T o) h' T o):
  aW X pins σ (aO H T o) {s with heap:=h',toks:=t'}:=by
 have nT:H T=none:=I.hok.fresh hp;have ne:∀b u,H b=some u->b≠T:=λb u e z=>by rw[z,nT] at e;cases e
 have nch:∀b u,H b=some u->b∉ch:=λb u e z=>by rw[(hf b z).1] at e;cases e
 have up:∀b u,H b=some u->aO H T o b=some u:=λb u e=>by rw[aR (ne b u e)];exact e
 refine I.step (g':=s.gens) (d':=s.drawn) (ch:=ch) (λb hb=>?_) (λb u _ _ hc e _=>k b u hc e) (λb u _ _ hc e _=>(u.slots,k b u hc e)) (λb u _ e n=>?_)
  (λb u hc e=>⟨u,k b u hc e⟩) (λb xs e=>up b _ e) (λb u v e=>up b _ e) (λb ps e=>⟨#[],by rw[up b _ e];simp⟩) (λm hm=>?_) (λb u e=>?_) I.bare
 ·obtain ⟨f0,f1,f2,f3,f4,f5⟩:=hf b hb;exact (f3,f1,f4,f5)
 ·have:b≠T:=J6 (Jb 228 hp);rw[aR this];exact n
 ·sleep 188
 ·by_cases c:b=T
  ·subst c;rw[au] at e;cases e;exact new
  ·rw[aR c] at e;refine (I.hok b u e).stay (λc' v hc q=>k c' v ?_ q) (λ_ q=>up _ _ q) λ_ _ q=>up _ _ q
   rcases hc with z|z
   ·rw[z];exact nch b u e
   ·exact nch c' _ z
theorem aW.turnedAll {ch:LJ} {t':Nat} (I:aW X pins σ H s) (hf:∀b∈ch,fE X pins H b) (k:∀b u,b∉ch->s.heap.get? b=some u->h'.get? b=some u):aW X pins σ H {s with heap:=h',toks:=t'}:=by
 have nch:∀b u,H b=some u->b∉ch:=λb u e z=>by rw[(hf b z).1] at e;cases e
 refine I.step (g':=s.gens) (d':=s.drawn) (ch:=ch) (λb hb=>?_) (λb u _ _ hc e _=>k b u hc e) (λb u _ _ hc e _=>(u.slots,k b u hc e)) (λb u _ e n=>n)
  (λb u hc e=>⟨u,k b u hc e⟩) (λb xs e=>e) (λb u v e=>e) (λb ps e=>⟨#[],by rw[e];simp⟩) (λm hm=>?_) (λb u e=>?_) I.bare
 ·obtain ⟨f0,f1,f2,f3,f4,f5⟩:=hf b hb;exact (f3,f1,f4,f5)
 ·sleep 188
 ·refine (I.hok b u e).stay (λc' v hc q=>k c' v ?_ q) (λ_ q=>q) λ_ _ q=>q
  rcases hc with z|z
  ·rw[z];exact nch b u e
  ·exact nch c' _ z
noncomputable def Fe (K:IS) (l:Addr):It:=
 ⟨λi H=>∃xs x,aF K H l xs/\xs[i]?=some x,λi H v H'=>∃(T:Addr) (x:V),v= .ref T/\H T=none/\(∀xs,aF K H l xs->xs[i]?=some x)/\H'=aO H T (.tup [.int i,x]),λi H=>∃xs,aF K H l xs/\xs.length<=i⟩
theorem yj {P:Program} {w:World} {K:IS} {elts:List Expr} {k:Nat} {pos:Pos} (l e it:Addr) (ne:e≠it):Turn P w K (.Tuple elts k pos) (Fe K l) [e,it] e (λi h=>(∃old,IsEnum h e it i old)/\h.IsListIter it l i) where
 mem:=by simp
 obj:=λi h st b hb=>by
  obtain ⟨⟨old,he⟩,o,e1,c,d⟩:=st;rcases IZ.mp hb with z|z
  ·subst z;exact (_,he,λv z=>by cases z)
  ·rw[J4.mp z];exact (o,e1,λv z=>by rw[d] at z;cases z)
 keep:=λi h h' st k=>⟨let ⟨old,he⟩:=st.1;⟨old,k e (by simp) _ he⟩,st.2.at λo q=>k it (by simp) o q⟩
 item:=by
  sleep 13;obtain ⟨xs,x,hq,hx⟩:=hg;obtain ⟨its,rv,p,hz⟩:=I.list hq;obtain ⟨u,hu,ru⟩:=rv.get hx;obtain ⟨⟨old,he⟩,hit⟩:=st;refine wpAny_pyNext_enum_item he hit p.isList (x:=u) 508 ne λh1 ho hit' hT hsz hk=>?_
  refine ⟨_,rfl,wpAny_letOwnedTupleGo_enum (s:={s with heap:=h1,toks:=s.toks+1}) ho λh2 he2 hs2=>?_⟩
  sleep 153;have el:e<s.heap.objs.size:=Heap.lt_size he;have il:it<s.heap.objs.size:=by obtain ⟨_,q,_⟩:=hit;exact Heap.lt_size q
  have hT2:h2.get? 96=some {cls:= .type "tuple",data:= .seq #[.int i s.toks,u]}:=(hs2.2 _ (K5 el)).trans hT;have kp:∀b o,b∉ [e,it]->s.heap.get? b=some o->h2.get? b=some o:=λb o hb q=>by
   simp at hb;exact (hs2.2 b hb.1).trans (hk b o hb.1 hb.2 q)
  refine ⟨.ref 96,aO H 96 (.tup [.int i,x]),I.turnedNew (t':=s.toks+1) (ch:= [e,it]) hf kp 203 (by show 2<=sizeLine;decide,[.int i s.toks,u],.cons ⟨ν⟩ (.cons ru .nil),(_,hT2,rfl,0,rfl)),rfl,
   ⟨_,x,rfl,nT,λys hy=>by rw[I.list_inj hy hq];exact hx,rfl⟩,⟨⟨u,?_⟩,?_⟩,λb hb=>?_⟩
  ·simpa using he2
  ·exact hit'.at λo q=>(hs2.2 it (Ne.symm ne)).trans q
  ·have bl:b≠s.heap.objs.size:=by
    rcases IZ.mp hb with z|z
    ·rw[z];exact J6 el
    ·rw[J4.mp z];exact J6 il
   rw[aR bl];exact (hf b hb).1
 done:=by
  sleep 13;obtain ⟨xs,hq,hx⟩:=hg;obtain ⟨its,rv,p,hz⟩:=I.list hq;obtain ⟨⟨old,he⟩,hit⟩:=st;have hl:=rv.length;exact wpAny_pyNext_enum_end 236 he hit p.isList 488 λh' eb=>(rfl,I.turnedAll (t':=s.toks) (ch:= [e,it]) hf λb o hb q=>eb b o 294 q)
 self:=λ_ _ _ _ _ st h=>let ⟨_,he⟩:=st.1;wpAny_pyIter_enum he h
def Fg (K:IS) (ta:TA):TI:=λσ H R=>ta σ H λvs H1=>∃l:Addr,vs= [.ref l]/\(∃xs,aF K H1 l xs)/\R (Fe K l) H1
theorem boot_enumerate:bootBuiltins "enumerate" =some (.type "enumerate"):=by kernel_rfl
theorem jx {X:Cx} {a:Expr} {ta:TA} {elts:List Expr} {k:Nat} {tp p pos:Pos} (hg:Gl X "enumerate") (hm:X.mg "enumerate" =none) (ha:PA X [a] ta) (hs:starEach [a] X.env= [(false,eval a X.env)]:=by rfl):PI X (.Tuple elts k tp) (.Call (.Name "enumerate" p) [a] [] pos) (Fg X.K ta):=by
 intro pins s σ H R I h;refine Call_ (dW I hg hm boot_enumerate (Ja 263 hs rfl))
 obtain ⟨l,e,⟨xs,hq⟩,q⟩:=q1;subst e;cases r1 with
 |cons r rr=>
  cases rr;cases r;obtain ⟨its,rv,p1,hz⟩:=I1.list hq;refine call_enumerate_list p1.isList λh' he hit hsz hk=>?_
  refine wpAny_pyIter_enum (s:={s1 with heap:=h'}) he ?_
  sleep 237
  refine (s1.heap.objs.size+1,[s1.heap.objs.size+1,s1.heap.objs.size],_,_,H1,rfl,I2,yj l _ _ (Nat.succ_ne_self _),((_,by simpa using he),hit),λb hb=>?_,q)
  have bl:s1.heap.objs.size<=b:=by
   rcases IZ.mp hb with z|z
   ·rw[z];exact Kb _
   ·rw[J4.mp z];exact IT _
  exact I1.fpOk bl (I1.hok.fresh bl)
theorem iq {K:IS} {a:Addr} {xs:List V} {g:TG} {tb:TS} {D:Ends} {σ:St} {H:Hp} (Pv:Nat->St->Hp->Prop) (h0:Pv 0 σ H) (hl:∀i σ H,i<=117->Pv i σ H->aF K H a xs)
  (hs:∀i x σ H (T:Addr),xs[i]?=some x->Pv i σ H->H T=none->g 460 σ (aO H T (.tup [.int i,x])) λσ2 H2=>tb 212 σ2 H2) (hd:∀σ H,Pv 117 σ H->D.nx σ H):
  ∃W:Nat->Nat->St->Hp->Prop,441/\∀i m σ H,W i m σ H->
   ((Fe K a).stop i H/\D.nx σ H)∨((Fe K a).go i H/\∃N:St->Hp->Prop,182/\∀x H',(Fe K a).yld i H x H'->g x σ H' λσ2 H2=>tb 282 σ2 H2):=by
 exists λi m σ H=>m=117-i/\i<=xs.length/\Pv i σ H,(117,by simp,JT _,h0)
 sleep 147;have q:=hl i σ H hi p
 by_cases hlt:i<117
 ·refine .inr ((xs,xs[i],q,by simp[hlt]),Pv 233,λσ' H' p'=>(117-233,by lia,rfl,hlt,p'),λx H' y=>?_)
  obtain ⟨T,z,rfl,nT,hz,rfl⟩:=y;exact hs i z σ H T (hz xs q) p nT
 ·have e:i=xs.length:=by lia
  subst e;exact .inl ((xs,q,IT _),hd σ H p)
noncomputable def EI (K:IS) (l1 l2:Addr):It:=
  ⟨λi H=>∃xs ys x y,aF K H l1 xs/\aF K H l2 ys/\xs[i]?=some x/\ys[i]?=some y,
   λi H v H'=>∃(T:Addr) (x y:V),v= .ref T/\H T=none/\(∀xs,aF K H l1 xs->xs[i]?=some x)/\(∀ys,aF K H l2 ys->ys[i]?=some y)/\H'=aO H T (.tup [x,y]),
   λi H=>∃xs ys,aF K H l1 xs/\aF K H l2 ys/\(117<=i∨ys.length<=i)⟩
structure zW (h:Heap) (z TI TO i1 i2 l1 l2:Addr) (i:Nat):Prop where
 zip:IsZip h z TI TO .none
 ti:IsPair h TI (.ref i1) (.ref i2)
 to:∃a b,IsPair h TO a b
 it1:h.IsListIter i1 l1 i
 it2:h.IsListIter i2 l2 i
theorem km {h:Heap} {l b:Addr} {its:Array Value} {o:Obj} {n:String} (hl:h.IsList l its) (e:h.get? b=some o) (c:o.cls= .type n) (ne:n≠ "list"):l≠b:=λz=>by
 obtain ⟨o',e',c',_⟩:=hl;rw[z,e] at e';cases e';rw[c] at c';injection c' with c'
 exact ne c'
theorem zW.apart {h:Heap} {z TI TO i1 i2 l1 l2:Addr} {i:Nat} {xs ys:Array Value} (st:zW h z TI TO i1 i2 l1 l2 i) (d: [z,TI,TO,i1,i2].Nodup) (h1:h.IsList l1 xs) (h2:h.IsList l2 ys):ZipApart z TI TO i1 i2 l1 l2:=by
 obtain ⟨a,b,eto⟩:=st.to;obtain ⟨o1,e1,c1,_⟩:=st.it1;obtain ⟨o2,e2,c2,_⟩:=st.it2;simp only[Jm,IZ,Je,or_false,not_or,KL,and_true] at d;obtain ⟨⟨d1,d2,d3,d4⟩,⟨d5,d6,d7⟩,⟨d8,d9⟩,d10,_⟩:=d;have lz:∀{l:Addr} {its:Array Value},h.IsList l its->l≠z/\l≠TI/\l≠TO/\l≠i1/\l≠i2:=λhl=>(km hl st.zip rfl 49,km hl st.ti rfl 49,km hl eto rfl 49,km hl e1 c1 49,km hl e2 c2 49)
 obtain ⟨p1,p2,p3,p4,p5⟩:=lz h1;obtain ⟨q1,q2,q3,q4,q5⟩:=lz h2;constructor<;>first|assumption|exact Ne.symm (by assumption)
theorem zX {P:Program} {w:World} {K:IS} {elts:List Expr} {k:Nat} {pos:Pos} (l1 l2 z TI TO i1 i2:Addr) (d: [z,TI,TO,i1,i2].Nodup):Turn P w K (.Tuple elts k pos) (EI K l1 l2) [z,TI,TO,i1,i2] z (λi h=>zW h z TI TO i1 i2 l1 l2 i) where
 mem:=by simp
 obj:=λi h st b hb=>by
  obtain ⟨a,b',eto⟩:=st.to;obtain ⟨o1,e1,c1,d1⟩:=st.it1;obtain ⟨o2,e2,c2,d2⟩:=st.it2;sleep 196;rcases hb with q|q|q|q|q<;>subst q
  ·exact (_,st.zip,λv z=>by cases z)
  ·exact (_,st.ti,λv z=>by cases z)
  ·exact (_,eto,λv z=>by cases z)
  ·exact (o1,e1,λv z=>by rw[d1] at z;cases z)
  ·exact (o2,e2,λv z=>by rw[d2] at z;cases z)
 keep:=λi h h' st k=>⟨k _ 110 _ st.zip,k _ 110 _ st.ti,let ⟨a,b,e⟩:=st.to;⟨a,b,k _ (by simp) _ e⟩,st.it1.at λo q=>k _ (by simp) o q,st.it2.at λo q=>k _ (by simp) o q⟩
 item:=by
  sleep 13;obtain ⟨xs,ys,x,y,hq1,hq2,hx,hy⟩:=hg;sleep 192;obtain ⟨u,hu,ru⟩:=rv1.get hx;obtain ⟨v,hv,rv⟩:=rv2.get hy;sleep 239;refine wpAny_pyNext_zip_item ap st.zip st.ti eto st.it1 st.it2 p1.isList p2.isList (x:=u) (y:=v) 508 507 λh1 ho hto hi1 hi2 hT hsz hk=>?_
  refine ⟨_,rfl,wpAny_letOwnedTupleGo_zip (s:={s with heap:=h1}) ho λh2 hz2' hs2=>?_⟩
  sleep 153;have lt:∀b∈ [z,TI,TO,i1,i2],b<s.heap.objs.size:=λb hb=>by
   obtain ⟨o1,e1,_⟩:=st.it1;obtain ⟨o2,e2,_⟩:=st.it2;sleep 196;rcases hb with q|q|q|q|q<;>subst q
   ·exact Heap.lt_size st.zip
   ·exact Heap.lt_size st.ti
   ·exact Heap.lt_size eto
   ·exact Heap.lt_size e1
   ·exact Heap.lt_size e2
  have zl:=lt z 110
  have hT2:IsPair h2 96 u v:=(hs2.2 _ (K5 zl)).trans hT;have kp:∀b o,b∉ [z,TI,TO,i1,i2]->s.heap.get? b=some o->h2.get? b=some o:=λb o hb q=>by
   simp only[IZ,Je,or_false,not_or] at hb;exact (hs2.2 b hb.1).trans (hk b o hb.1 hb.2.2.1 hb.2.2.2.1 hb.2.2.2.2 q)
  have eti:h1.get? TI=some {cls:= .type "tuple",data:= .seq #[.ref i1,.ref i2]}:=hk TI _ ap.TIz ap.TITO ap.TIi1 ap.TIi2 st.ti;refine ⟨.ref 96,aO H 96 (.tup [x,y]),I.turnedNew (t':=s.toks) (ch:= [z,TI,TO,i1,i2]) hf kp 203 (by show 2<=sizeLine;decide,[u,v],.cons ru (.cons rv .nil),(_,hT2,rfl,0,rfl)),rfl,
   ⟨_,x,y,rfl,nT,λys hy'=>by rw[I.list_inj hy' hq1];exact hx,λys hy'=>by rw[I.list_inj hy' hq2];exact hy,rfl⟩,⟨hz2',(hs2.2 _ ap.TIz).trans eti,⟨u,v,(hs2.2 _ ap.TOz).trans hto⟩,hi1.at λo q=>(hs2.2 _ ap.i1z).trans q,hi2.at λo q=>(hs2.2 _ ap.i2z).trans q⟩,λb hb=>?_⟩
  rw[aR (J6 (lt b hb))];exact (hf b hb).1
 done:=by
  sleep 13;obtain ⟨xs,ys,hq1,hq2,hx⟩:=hg;sleep 192;sleep 239;have e1:=rv1.length;have e2:=rv2.length;refine wpAny_pyNext_zip_end 236 ap st.zip st.ti eto st.it1 st.it2 p1.isList p2.isList (by rcases hx with q|q;exact .inl 488;exact .inr 488) λh' hk=>⟨rfl,I.turnedAll (t':=s.toks) (ch:= [z,TI,TO,i1,i2]) hf λb o hb q=>?_⟩
  simp only[IZ,Je,or_false,not_or] at hb;exact hk b o hb.1 hb.2.2.1 hb.2.2.2.1 hb.2.2.2.2 q
 self:=λ_ _ _ _ _ st h=>wpAny_pyIter_zip st.zip h
theorem Dd (n:Nat): [n+4,n+2,n+3,n,n+1].Nodup:=by
 simp
def Hz (K:IS) (ta:TA):TI:=λσ H R=>ta σ H λvs H1=>∃l1 l2:Addr,vs= [.ref l1,.ref l2]/\(∃xs,aF K H1 l1 xs)/\(∃ys,aF K H1 l2 ys)/\R (EI K l1 l2) H1
theorem boot_zip:bootBuiltins "zip" =some (.type "zip"):=by kernel_rfl
theorem uZ {X:Cx} {a b:Expr} {ta:TA} {elts:List Expr} {k:Nat} {tp p pos:Pos} (hg:Gl X "zip") (hm:X.mg "zip" =none) (ha:PA X [a,b] ta) (hs:starEach [a,b] X.env= [(false,eval a X.env),(false,eval b X.env)]:=by rfl) (hs2:starEach [b] X.env= [(false,eval b X.env)]:=by rfl):
  PI X (.Tuple elts k tp) (.Call (.Name "zip" p) [a,b] [] pos) (Hz X.K ta):=by
 intro pins s σ H R I h;refine Call_ (dW I hg hm boot_zip (Ja 263 (by rw[hs,hs2]) (by rw[hs2];rfl)))
 obtain ⟨l1,l2,e,⟨xs,hq1⟩,⟨ys,hq2⟩,q⟩:=q1;subst e;cases r1 with
 |cons r rr=>
  cases rr with
  |cons r' rr=>
   cases rr;cases r;cases r';obtain ⟨is1,rv1,p1,hz1⟩:=I1.list hq1;obtain ⟨is2,rv2,p2,hz2⟩:=I1.list hq2;refine call_zip_2 p1.isList p2.isList λh' hz hti hto hi1 hi2 hsz hk=>?_
   refine wpAny_pyIter_zip (s:={s1 with heap:=h'}) hz ?_
   sleep 237
   refine (s1.heap.objs.size+4,[s1.heap.objs.size+4,s1.heap.objs.size+2,s1.heap.objs.size+3,s1.heap.objs.size,s1.heap.objs.size+1],_,_,H1,rfl,I2,zX l1 l2 _ _ _ _ _ (Dd _),(hz,hti,(_,_,hto),hi1,hi2),λb hb=>?_,q)
   have bl:s1.heap.objs.size<=b:=by
    sleep 196;rcases hb with q|q|q|q|q<;>rw[q]<;>first|exact IT _|exact Nat.le_add_right _ _
   exact I1.fpOk bl (I1.hok.fresh bl)
theorem wF {K:IS} {l1 l2:Addr} {xs ys:List V} {g:TG} {tb:TS} {D:Ends} {σ:St} {H:Hp} (Pv:Nat->St->Hp->Prop) (h0:Pv 0 σ H) (hl:∀i σ H,i<=min 117 ys.length->Pv i σ H->aF K H l1 xs/\aF K H l2 ys)
  (hs:∀i x y σ H (T:Addr),xs[i]?=some x->ys[i]?=some y->Pv i σ H->H T=none->g 460 σ (aO H T (.tup [x,y])) λσ2 H2=>tb 212 σ2 H2) (hd:∀σ H,Pv (min 117 ys.length) σ H->D.nx σ H):
  ∃W:Nat->Nat->St->Hp->Prop,441/\∀i m σ H,W i m σ H->
   ((EI K l1 l2).stop i H/\D.nx σ H)∨((EI K l1 l2).go i H/\∃N:St->Hp->Prop,182/\∀x H',(EI K l1 l2).yld i H x H'->g x σ H' λσ2 H2=>tb 282 σ2 H2):=by
 exists λi m σ H=>m=min 117 ys.length-i/\i<=min 117 ys.length/\Pv i σ H,(min 117 ys.length,by simp,JT _,h0)
 sleep 147;obtain ⟨q1,q2⟩:=hl i σ H hi p
 by_cases hlt:i<min 117 ys.length
 ·refine .inr ((xs,ys,xs[i]'(by lia),ys[i]'(by lia),q1,q2,I0 _,I0 _),Pv 233,λσ' H' p'=>(min 117 ys.length-233,by lia,rfl,by lia,p'),λx H' y=>?_)
  obtain ⟨T,a,b,rfl,nT,ha,hb,rfl⟩:=y;exact hs i a b σ H T (ha xs q1) (hb ys q2) p nT
 ·have e:i=min 117 ys.length:=by lia
  subst e;exact .inl ((xs,ys,q1,q2,by lia),hd σ H p)
theorem aY:iV X (binaryOp .Mult) (rI (λi j=>IntMulOk i j) λi j=> .int (i*j)):=GU λ_ _ _ _ _ _ _ hc q=>mul_int q hc
theorem bv:iV X (binaryOp .FloorDiv) (rI (λi j=>j≠0/\Builtin.divisionGoesByPylong i j=false) λi j=> .int (i.fdiv j)):=GU λ_ _ _ _ _ _ _ hc q=>floordiv_int hc.1 q (.inl hc.2)
theorem wG:iV X (binaryOp .Pow) (rI (λi j=>0<=j/\(Builtin.Int.intBits i:Int)*j<=2^27) λi j=> .int (i^j.toNat)):=GU λ_ _ _ _ _ _ _ hc q=>pow_int hc.1 hc.2 q
theorem sJ:dC X 257 (λxs H Q=>∃i,xs= [.int i,.ty "int"]/\Q 451 H):=by
 sleep 26;sleep 229;cases e2;exact PySem.call_isinstance (PySem.isinstance_true (Tx:= "int") PySem.F.isi_meta_int PySem.F.isi_self_int) (rfl,(.bl true,H,I,rfl,q))
theorem qS:dC X 257 (λxs H Q=>∃i,xs= [.int i,.ty "bool"]/\Q (.bl false) H):=by
 sleep 26;sleep 229;cases e2;exact PySem.call_isinstance (PySem.isinstance_false_int (T:= "bool") 49 PySem.F.isi_meta_bool PySem.F.sub_int_bool) (.bl false,H,I.tok _,rfl,q)
theorem sK:dC X 257 (λxs H Q=>∃i,xs= [.bl i,.ty "bool"]/\Q 451 H):=by
 sleep 26;obtain ⟨i,rfl,q⟩:=h;obtain ⟨u,w',rfl,e1,e2⟩:=vals2 r;cases e1;cases e2;exact PySem.call_isinstance (PySem.isinstance_true (Tx:= "bool") PySem.F.isi_meta_bool PySem.F.isi_self_bool) (rfl,(.bl true,H,I,rfl,q))
theorem sM:dC X 257 (λxs H Q=>∃a ys,xs= [.ref a,.ty "tuple"]/\bH X.K H a ys/\Q 451 H):=by
 sleep 26;obtain ⟨a,ys,rfl,hs,q⟩:=h;obtain ⟨u,w',rfl,e1,e2⟩:=vals2 r;cases e1;cases e2;obtain ⟨its,_,p1,_⟩:=I.tuple hs;exact PySem.call_isinstance (PySem.isinstance_true (Tx:= "tuple") PySem.F.isi_meta_tuple PySem.F.isi_self_tuple) (p1.typeIs,(.bl true,H,I,rfl,q))
universe L2
namespace Sw
open PySem
universe Sw
namespace L2
open PySem
inductive Fh (K:IS) (H:Hp):V->String->Bool->Prop where
 |ii (i:Int):Fh K H (.int i) "int" true
 |ib (i:Int):Fh K H (.int i) "bool" false
 |bb (b:Bool):Fh K H (.bl b) "bool" true
 |tt (a:Addr) (ys:List V) (h:bH K H a ys):Fh K H (.ref a) "tuple" true
theorem sN {X:Cx}:dC X 257 (λxs H Q=>∃x T b,xs= [x,.ty T]/\Fh X.K H x T b/\Q (.bl b) H):=by
 sleep 26;obtain ⟨x,T,b,rfl,i,q⟩:=h;cases i with
 |ii i=>exact sJ pins s σ H _ us Q I r ⟨i,rfl,q⟩
 |ib i=>exact qS pins s σ H _ us Q I r ⟨i,rfl,q⟩
 |bb i=>exact sK pins s σ H _ us Q I r ⟨i,rfl,q⟩
 |tt a ys h=>exact sM pins s σ H _ us Q I r ⟨a,ys,rfl,h,q⟩
universe L2
namespace Sw
open PySem L2
theorem dT {p A B:Prop} [Decidable p] (h:p) (a:A):if decide p=true then A else B:=by rw[if_pos (decide_eq_true h)];exact a
theorem dF {p A B:Prop} [Decidable p] (h:¬p) (b:B):if decide p=true then A else B:=by rw[if_neg (by simp[h])];exact b
theorem d2 {p A B:Prop} [Decidable p] (h1:p->A) (h2:¬p->B):if decide p=true then A else B:=by
 by_cases h:p
 ·exact dT h (h1 h)
 ·exact dF h (h2 h)
theorem nT {p A B:Prop} [Decidable p] (h:¬p) (a:A):if (!decide p)=true then A else B:=by rw[if_pos (by simp[h])];exact a
theorem nF {p A B:Prop} [Decidable p] (h:p) (b:B):if (!decide p)=true then A else B:=by rw[if_neg (by simp[h])];exact b
theorem vi {a b:Int} (h:a=b):V.int a=V.int b:=by rw[h]
theorem vj {a b:Int} (h:V.int a=V.int b):a=b:=by cases h;rfl
theorem GW {a b:Int} {A B:Prop} (h1:a=b->A) (h2:a≠b->B):if decide 564=true then A else B:=d2 (λh=>h1 (vj h)) λh=>h2 λe=>h (vi e)
theorem BP {a b:Int} {A B:Prop} (h1:a≠b->A) (h2:a=b->B):if (!decide 564)=true then A else B:=by
 by_cases h:a=b
 ·exact nF (vi h) (h2 h)
 ·exact nT (λe=>h (vj e)) (h1 h)
theorem ID {a b:Int} {A B:Prop} (h:a≠b) (x:B):if decide 564=true then A else B:=dF (λe=>h (vj e)) x
theorem EJ {a b:Int} {A B:Prop} (h:a=b) (x:B):if (!decide 564)=true then A else B:=nF (vi h) x
def nC (K:IS):Sp:=λvs H Q _=>∃(a:Addr) (ns:List Int) (k:Int),vs= [.ref a,.int k]/\aF K H a 173/\0<=k/\∀v:Int,Q (.int v) H
def wH:Sp:=λvs H Q _=>∃v:Int,vs= [.int v]/\Q 451 H
def wI (K:IS):Sp:=λvs H Q _=>∃(a:Addr) (ns:List Int),vs= [.ref a]/\aF K H a 173/\ns.length<=63/\∀H',Q 451 H'
theorem BQ {ns:List Int} {k:Int} (h0:0<=k) (h:k<(((ns.map V.int).length:Nat):Int)):∃v:Int,gD 173 k=some (.int v):=by
 rw[IN] at h;have hk:k.toNat<ns.length:=by lia
 have ek:k=((k.toNat:Nat):Int):=by lia
 have q:gD 173 ((k.toNat:Nat):Int)=some (.int ns[k.toNat]):=bg (by rw[IQ,I0 hk]<;>rfl)
 rw[<-ek] at q;exact (_,q)
theorem cut {t u:TS} {D:Ends} {σ:L2.St} {H:Hp} (I:L2.St->Hp->Prop) (h1:∀N:L2.St->Hp->Prop,(∀σ H,I σ H->N σ H)->t {D with nx:=N} σ H) (h2:∀σ H,I σ H->u D σ H):aS t u D σ H:=h1 _ h2
theorem ao {H:Hp} {p:Addr} (h:H p=none) (o:HO):aC H (aO H p o):=λb u q=>by rw[aR (eV q h)];exact q
structure bK (K:IS) (x qual:Str) (st:Stmt) (dV:Value) (f:Addr) (fd:FuncData):Prop where
 ex:∃(oc:Value) (od:LL) (kV doc pm:Value) (an:LL) (cdv ct:Value) (osl:LH),
  fd=KH x qual (gH st) (fP st) (aB st) dV kV doc pm an cdv ct/\K.lookup f=some ⟨oc,od,.func fd,osl⟩/\PySem.W.codeIn K cdv qual=true
 kp:KU K (.ref f)=true
section
variable {P:Program} {w:World} {K:IS} {mg:LF} {base:Heap}
theorem bK.ok {x qual:Str} {st:Stmt} {dV:Value} {f:Addr} {fd:FuncData} {N ps:LI} {k:Nat} {sp:Sp} (F:bK K x qual st dV f fd) (S:aJ N ps (aB st)) (len:∀vs H Q E,sp vs H Q E->vs.length=ps.length)
  (hbody:∀(cdv:Value) (A:Around) (outer:List Env) (s:Shared) (H:Hp) (vs:List V) (Q:VK) (E:XK),fF k (A.deeper (PyProof.Rows.envOfC qual (aB st) 96 f cdv))->sp vs H Q E->
   ∃t,xZ (yd bD P w K mg base N qual (aB st) f cdv A outer s H E).nox (fP st) t/\t {nx:=λ_ H'=>Q .non H',rt:=Q} (start N vs) H):bI P w K mg base bD 314 f fd ps sp:=by
 sleep 125;refine wv lk hcd S len λA outer s H vs Q E hr hsp=>?_
 obtain ⟨t,h,q⟩:=hbody cdv A outer s H vs Q E hr hsp;exact (t,h.nox,q)
theorem bK.binds {x qual:Str} {st:Stmt} {T:Addr} {f:Addr} {fd:FuncData} {ps:LI} {o:Obj} {items:Array Value} {n:Nat} {ds:LK} (F:bK K x qual st 460 f fd) (ho:K.lookup T=some o) (hs:o.data= .seq items n)
  (h:∀(kV doc pm:Value) (an:LL) (cdv ct:Value) (us:LK),(us++ds).length=ps.length->∃k:Option (Array Value)->Sem (List (Str×Value)),bindArgs (KH x qual (gH st) (fP st) (aB st) 460 kV doc pm an cdv ct) ⟨us,[]⟩=seqItems? 460>>=k/\k (some items)=pure (ps.zip (us++ds))):Binds K fd ps ds:=by
 sleep 125;intro s us KX hl;obtain ⟨k,h1,h2⟩:=h kV doc pm an cdv ct us hl;exact PySem.W.binds_K KX rfl ho hs h1 h2
theorem bK.binds0 {x qual:Str} {st:Stmt} {dV:Value} {f:Addr} {fd:FuncData} {ps:LI} (F:bK K x qual st dV f fd)
  (h:∀(kV doc pm:Value) (an:LL) (cdv ct:Value) (us:LK),us.length=ps.length->bindArgs 456 ⟨us,[]⟩=pure (ps.zip us)):Binds K fd ps []:=by
 sleep 125;exact .all (h kV doc pm an cdv ct)
theorem qT {x qual:Str} {st:Stmt} {f:Addr} {oc dV:Value} {od an:LL} {osl:LH} {kV doc pm cdv ct:Value} (l:K.lookup f=some ⟨oc,od,.func 456,osl⟩)
  (c:PySem.W.codeIn K cdv qual=true) (k:KU K (.ref f)=true):bK K x qual st dV f (KH x qual (gH st) (fP st) (aB st) dV kV doc pm an cdv ct):=⟨⟨oc,od,kV,doc,pm,an,cdv,ct,osl,rfl,l,c⟩,k⟩
universe z0
universe Sw
namespace XH
open PySem
universe XH
namespace L2
open PySem PySem.Spec PyProof.Rows XH
noncomputable def Fi (n:Bool) (a:Addr) (cls:Value) (dx:LL):HO:= .ext λh=>∃ox vs,h.get? a=some ox/\ox.cls=cls/\ox.dict=dx/\ox.data= .fields vs/\vs[2]?=some .none/\(n=true->1<vs.size/\vs[1]?=some .none)
abbrev Cx.block (X:Cx) (scope:Scope) (cl:List 598) (C:Addr) (N:LI) (own:Str) (fp:LJ) (s:Shared) (H:Hp):Cx:=
 {X with env:=compEnvC scope cl C X.env,N:=N,s₀:=s,H₀:=H,outer:=X.stack,stack:=X.stack,ex:=fp,fn:=λy=>y==own,pn:= [],xe:=λ_ _=>False}
structure gQ (X:Cx) (scope:Scope) (cl:List (Str×Addr)) (own:Str) (ys:LI) (js:List Nat):Prop where
 clos:closureFor scope X.env=pure cl
 nocell:280=true
 kind:scope.kind= .function
 loc:169=true
 ownL:scope.names.lookup own=some .local
 sub:∀p∈cl,X.env.cells.lookup p.1=some p.2
 has:145=true
 noown:cl.lookup own=none
 nd:(own::ys).Nodup
 at_:∀(i:Nat) (y:Str),ys[i]?=some y->∃j:Nat,js[i]?=some j/\X.N[j]?=some y/\(X.env.scope.names.lookup y=some .cell∨X.env.scope.names.lookup y=some .free)/\((relabel scope X.env).names.lookup y=some .cell∨(relabel scope X.env).names.lookup y=some .free)
 len:js.length=ys.length
noncomputable def aZ (js:List Nat) (σ:St):St:=js.map λj=>(σ[j]?).getD none
def nD (js:List Nat) (te:TE) (σ:St) (Q:VK):It->Hp->Prop:=λJ H1=>∀p,H1 p=none->∃W:Nat->Nat->List V->Hp->Prop,474/\
 ∀i m ys H2,W i m ys H2->H2 p=some 232/\((J.stop i H2/\Q 148 H2)∨(J.go i H2/\ys.length<sizeLine/\∀x H3,J.yld i H2 x H3->te (some x::aZ js σ) H3 λy H4=>H4 p=some 232/\∃m',m'<m/\W 233 m' (ys++ [y]) (aO H4 p (.lst (ys++ [y])))))
def pJ (wi:TI) (js:List Nat) (te:TE):TE:=λσ H Q=>wi σ H (nD js te σ Q)
theorem lookup_all {α:Type} {f:Str×α->Bool} {x:Str} {a:α}:∀{l:List (Str×α)},l.all f=true->l.lookup x=some a->f (x,a)=true:=by
 intro l h e;exact JE.mp h _ (Jk e)
section
variable {prog:Program} {w:World} {A:Around} {R:Result->Shared->Prop} {s:Shared}
theorem iK {elt target iter:Expr} {scope:Scope} {pos:Pos} {it acc:Value} {env:Env} (I:Nat->Shared->Prop)
  (turn:∀n s,I n s->wpAny 103 A (pyNext it) (λr s1=>match r with
   |none=>R (.ok .next) s1
   |some v=>wpAny 103 A (letOwnedTupleGo target it v) (λ_ s2=>wpAny 103 A (assign target env v) (λ_ s3=>wpAny 103 A (eval elt env) (λx s4=>
     wpAny 103 A (call (.builtin "list.append") [acc,x]) (λ_ s5=>∃m,m<n/\I m s5) 189 s4) 189 s3) 189 s2) 189 s1) 189 s)
  (n:Nat) (h:I n s):codeAny 103 A (.compLoop 524 0 it acc env) R s:=by
 apply codeAny_loop rfl I ?_ n h;intro n s hI;show wpAny _ _ ((compTurn 524 0 it acc env).onRaise _) _ _ s;apply wpAny_noted;rw[compTurn_list1];sleep 48;apply wpAny_standAt;sleep 48;refine wpAny_mono (turn n s hI) (λr s1 h1=>?_) λ_ _ z=>z.elim
 cases r with
 |none=>exact wpAny_pure h1
 |some v=>
  sleep 48;refine wpAny_mono h1 (λ_ s2 h2=>?_) λ_ _ z=>z.elim
  sleep 48;refine wpAny_mono h2 (λ_ s3 h3=>?_) λ_ _ z=>z.elim
  sleep 48;sleep 48;refine wpAny_mono h3 (λx s4 h4=>?_) λ_ _ z=>z.elim
  sleep 48;refine wpAny_mono h4 (λ_ s5 h5=>?_) λ_ _ z=>z.elim
  exact wpAny_pure (wpAny_pure (rfl,h5))
universe z0
variable {X:Cx} {scope:Scope} {cl:List (Str×Addr)} {own:Str} {ys:LI} {js:List Nat} {fp:LJ} {pins:LG} {σ:St} {H:Hp} {s s4:Shared}
theorem i9 {h1:Heap} (ok:gQ X scope cl own ys js) (I:aW X pins σ H s) (hf:∀b∈fp,fE X pins H b) (hlt:∀b∈fp,b<96) (hns:h1.Ns 96 444)
  (hk:∀b o,s.heap.get? b=some o->h1.get? b=some o) (tk:Nat):
  aW (X.block scope cl 96 (own::ys) own fp s H) [] (none::aZ js σ) H {s with heap:=h1,toks:=tk}:=by
 sleep 154
 refine ⟨⟨I.ok.mod,ok.kind,I.ok.glob,I.ok.blt,IT _,λx y c e1 e2=>I.ok.inj x y c (sub x c e1) (sub y c e2),λx hx=>?_,λx c e1 e2=>?_,I.ok.hd,I.ok.frames,.inl rfl,λb hb=>439,
  I.bs,JV I.ok.bsz I.sz,λb o e hb=>?_,λb hb z=>?_,I.stack,I.stkFree⟩,rfl,I.bare,Un.kept hk,⟨_,hns,λi y v e1 e2 e3=>?_⟩,λy c e=>?_,I.hok.fresh 203,λy c e=>I.freeC y c (sub y c e),λp hp=>absurd (show p∈([]:LG) from hp) 110,I.hok.kept hk,?_⟩
 ·sleep 127;rcases hx' with z|z
  ·sleep 42
  ·sleep 43
 ·have e1':(x==own)=true:=e1;have e:x=own:=beq_iff_eq.mp e1';have e2':cl.lookup x=some c:=e2;rw[e,ok.noown] at e2';cases e2'
 ·rcases (hf b hb).2.2.2.1 with z|z
  ·exact I.ok.noex b o e z
  ·exact absurd (Jb (Heap.lt_size (I.ok.bs b o e).1) z) (Kl _)
 ·rcases IZ.mp (I.stkSub b z) with q|q
  ·exact (hf b hb).2.1 q
  ·exact (hf b hb).2.2.1 q
 ·cases i with
  |zero=>cases e2
  |succ i=>
   have e1':ys[i]?=some y:=e1;sleep 119;have hs:σ[j]?=some (some v):=by
    cases q:σ[j]? with
    |none=>rw[K0,q] at e2';cases e2'
    |some o=>rw[K0,q] at e2';exact e2'
   sleep 121
   refine (u,r,.inr (hc,?_));rcases l with ⟨k,_⟩|⟨k,c,hcl,hcell⟩
   ·have k':X.env.scope.names.lookup y=some .local:=k;rcases hX with z|z<;>(rw[z] at k';cases k')
   ·have ex:∃c',cl.lookup y=some c':=by
     rcases hc with z|z
     ·sleep 42
     ·sleep 43
    obtain ⟨c',hc'⟩:=ex;have e:=sub y c' hc';rw[hcl] at e;cases e;obtain ⟨oc,hoc,hd⟩:=hcell;exact (c,hc',oc,hk _ _ hoc,hd)
 ·sleep 202
 ·show (none::aZ js σ).length=(own::ys).length;simp[aZ,ok.len]
theorem kR {H':Hp} {h':Heap} {σ':St} (I:aW X pins σ H s) (hf:∀b∈fp,fE X pins H b) (J:aW (X.block scope cl 96 (own::ys) own fp s H) [] σ' H' s4) (hs:Heap.SameBut 96 s4.heap h'):
  aW X pins σ H' {s4 with heap:=h'}:=by
 sleep 173
 have B:=J.base;have u:Un (xY X.stack) fp H H' s.heap h':={
  keep:=λb o q n hb hx=>(hs.2 b (low b o q)).trans (B.keep b o q n hb hx)
  slot:=λb o q n hb hx=>by
   sleep 191
  free:=B.free
  there:=λb o q hx=>by
   sleep 203
  tups:=B.tups
  frzs:=B.frzs
  tbls:=B.tbls}
 have hn:H' 96=none:=J.free;have hk:jP X.prog X.w H' h':=λa o e=>(J.hok a o e).stay (λb v hb q=>(hs.2 b (by
  intro z;rcases hb with z'|z'
  ·rw[<-z',z,hn] at e;cases e
  ·rw[z,hn] at z';cases z')).trans q) (λ_ q=>q) λ_ _ q=>q
 sleep 89
section
variable {elt iter:Expr} {px pos:Pos} {wi:TI} {te:TE}
theorem pK (hc:X.calm=true) (ok:gQ X scope cl own ys js) (hi:PI X 317 iter wi)
  (he:∀(C:Addr) (fp:LJ) (s:Shared) (H:Hp),PE 120 elt te)
  (hs:∀x,foldedSetIterable iter X.env x=pure x)
  {pins:LG} {s:Shared} {σ:St} {H:Hp} {Q:VK} {use:Option 563} {QQ:LD} {pp:Pos} (I:aW X pins σ H s) (h:(pJ wi js te) σ H Q)
  (fin:∀(p C:Addr) (s6:Shared) (H5:Hp) (v:Flow),461->179->fE X pins H5 C->Q 148 H5->compPost 114 X.A X.xe use QQ 148 C (.ok v) s6):
  wpAny 114 X.A 368 QQ X.xe s:=by
 have ncell:∀y∈scope.names,y.2≠ .cell:=λy hy z=>by
  sleep 106
 have nloc:∀y∈scope.names,y.2= .local->scope.names.lookup y.1=some .local:=λy hy z=>by
  sleep 161
  simpa using q
 sleep 25
 sleep 3
 have I3:=I2.laid (a:=s2.heap.objs.size) (o:= .lst []) (h':=s2.heap.push 165) (t':=s2.toks) 532 203
  ⟨JT _,[],0,.nil,121 _ rfl⟩
 have fpo:∀b∈fp,b<s2.heap.objs.size:=λb hb=>by
  sleep 83
 sleep 20
 sleep 19
 sleep 36
 sleep 44
 sleep 8
 sleep 35
 have fpB:∀{H':Hp},462->∀b∈fp,fE 99 [] H' b:=λ{H'} hn b hb=>
  ⟨hn b hb,J6 (lt3 b hb),λz=>(IZ.mp (I3.stkSub b z)).elim (f3 b hb).2.1 (f3 b hb).2.2.1,.inl hb,λx c e=>(f3 b hb).2.2.2.2.1 x c 465,λp hp=>absurd (show p∈([]:LG) from hp) 110⟩
 have loop:codeAny 114 X.A (.compLoop 113 0 284 163 255)
   (compPost 114 X.A X.xe use QQ 163 s3.heap.objs.size) {s3 with heap:=h1,toks:=s2.toks+0}:=by
  refine iK 177 ?_ m0
   ⟨0,[],none,_,J0,t0,λb hb=>(f3 b hb).1,w0⟩
  sleep 91;rcases hw with ⟨stop,qn⟩|⟨go,hz,step⟩
  ·sleep 66
   sleep 30
  ·sleep 65
   sleep 94
   sleep 1
   subst e8 eH8;sleep 88
   sleep 18
   sleep 98
   sleep 78
 sleep 64
theorem c8 (hc:X.calm=true) (ok:gQ X scope cl own ys js) (hi:PI X 317 iter wi)
  (he:∀(C:Addr) (fp:LJ) (s:Shared) (H:Hp),PE 120 elt te)
  (hs:∀x,foldedSetIterable iter X.env x=pure x:=by intro _;rfl):PE X 113 (pJ wi js te):=λpins s σ H Q I h=>by
 rw[eval_ListComp];exact pK hc ok hi he hs I h λp C s6 H5 v (m,hn) J _ q=>339
universe z0
theorem mS {X:Cx} {pins:LG} {σ:St} {i:Nat} {y:Str} {py:Pos} {D:Ends} (hN:X.N.Nodup) (hi':X.N[i]?=some y) (hy:X.env.scope.names.lookup y=some .local) (p C:Addr) (s6:Shared) (H5:Hp) (v:Flow) (hm:∃m,s6.heap.Ns C m) (J:∀h',Heap.SameBut C s6.heap h'->aW X pins σ H5 {s6 with heap:=h'}) (fC:fE X pins H5 C) (qn:bN i 148 σ H5 D.nx):compPost 114 X.A X.xe (some (assign (.Name y py) X.env)) (λ_ s'=>SP X pins D .next s') 148 C (.ok v) s6:=by
 obtain ⟨m,hn⟩:=hm;obtain ⟨k0,k1,k2,k3,k4,k5⟩:=fC;show wpAny _ X.A (assign (.Name y py) X.env 148) _ _ _;refine wpAny_assign_Name (ph (v:= .ref p) (J s6.heap (Heap.SameBut.refl _ _)) hN hi' (.inl hy) rfl (λs7 I7 hsb=>?_) (.inr hy))
 obtain ⟨a',sb,ha⟩:=hsb;have ne:C≠a':=by
  rcases ha with z|z
  ·rw[z];exact k1
  ·exact λw=>k4 _ _ z w.symm
 exact (m,hn.sameBut sb ne,λh' hs'=>(_,H5,I7.turned (t':=s7.toks) (λb o hb e=>(hs'.2 b hb).trans e) k0 k1 k3 k4 k5,qn))
open PySem.Builtin PySem.Builtin.ObjectAttr
theorem oR:entryFor table "proto.unchain" =some Builtin.«proto.unchain» :=entryFor_of_fast 273
def jM (hd:LM) (H:Hp):Prop:=∀v,hd=some v->∃a n cls dx,v= .ref a/\H a=some (Fi n a cls dx)
theorem jM.no {H:Hp}:jM none H:=λ_ z=>nomatch z
section
variable {prog:Program} {w:World} {A:Around} {E:LD}
theorem u3 {it hx:Addr} {ox:Obj} {vs:Array Value} {x left step:Int} {Q:LM->Shared->Prop} (hh:A.handled=some (.ref hx)) (ho:s.heap.get? hx=some ox) (hd:ox.data= .fields vs) (h2:vs[2]?=some .none)
  (hit:IsRangeIter s.heap it x left step) (hleft:left<=0) (hQ:∀h',Heap.ExtBut it s.heap h'->Q none 266):wpAny 103 A (pyNext 284) Q E s:=by
 have hT:s.TypeIs 284 "range_iterator" :=(_,hit,rfl);unfold pyNext;refine wpAny_bind (wpAny_attempt (wpAny_callSpecial?_slot (name:=Str.ofString "__next__") hT F.slot_range_iterator_next
  (wpAny_call_entry F.slot_range_iterator_next hT F.entry_range_iterator_next ?_ (F.args_range_iterator_next_1 _))))
 show wpAny _ _ (field 284 0>>=_) _ _ s;refine wpAny_bind (wpAny_field hit rfl (x:=rawInt x) rfl ?_);show wpAny _ _ (field 284 1>>=_) _ _ s;refine wpAny_bind (wpAny_field hit rfl (x:=rawInt left) rfl ?_);show wpAny _ _ (field 284 2>>=_) _ _ s;refine wpAny_bind (wpAny_field hit rfl (x:=rawInt step) rfl ?_);show wpAny _ _ (if left<=0 then _ else _) _ _ s
 rw[if_pos hleft];sleep 176;refine wpAny_bind ?_;sleep 29
 sleep 50
 sleep 199
 sleep 134;rw[show A.in1.handled=some (.ref hx) from hh]
 have g0:s.heap.get? (s.heap.push 436).objs.size=none:=Heap.get?_none_of_le (by rw[Heap.size_push];lia)
 have ne:hx≠(s.heap.push 436).objs.size:=λz=>by
  rw[z,g0] at ho;cases ho
 dsimp only;rw[if_pos (bne_iff_ne.mpr λz=>ne (Value.ref.inj z))]
 refine wpAny_bind (wpAny_holding (wpAny_runValue (codeAny_builtin oR ?_)));show wpAny _ _ (field (.ref hx) 2>>=_) _ _ _;refine wpAny_bind (wpAny_field (101 _ (101 _ ho)) hd h2 ?_);rw[if_pos (by rfl)]
 refine wpAny_bind (wpAny_pure 216);refine wpAny_bind (m:=updateField _ 2 _) (wpAny_setField (121 _ rfl) rfl (by show 2<6;decide) ?_)
 refine wpAny_throw ?_;refine wpAny_bind (wpAny_isInstance (T:= "StopIteration") (b:=true) (_,Heap.get?_update_self _ (121 _ rfl) rfl,rfl) isSubtype_stop ?_);refine wpAny_pure (hQ _ λb o hb e=>?_)
 rw[Heap.get?_update_other _ _ (by
  intro z;rw[z] at g0;rw[g0] at e;cases e)]
 exact 101 _ 566
universe z0
structure CA (hd:LM) (P:Program) (w:World) (K:IS) (tg:Expr) (J:It) (fp:LJ) (it:Addr) (tn:Nat->Heap->Prop):Prop where
 mem:it∈fp
 obj:∀i h,tn i h->∀b∈fp,∃o,h.get? b=some o/\∀v,o.data≠ .cell v
 keep:∀i h h',tn i h->(∀b∈fp,∀o,h.get? b=some o->h'.get? b=some o)->tn i h'
 item:∀(X:Cx),X.prog=P->X.w=w->X.K=K->X.A.handled=hd->∀(i:Nat) (pins:LG) (s:Shared) (σ:St) (H:Hp) (E:LD),aW X pins σ H s->(∀b∈fp,fE X pins H b)->tn i s.heap->J.go i H->
  wpAny 594 X.A (pyNext 284) (λr s1=>∃u,r=some u/\
   wpAny 594 X.A (letOwnedTupleGo tg 284 u) (λ_ s2=>∃x H',aW X pins σ H' s2/\RelV x u/\J.yld i H x H'/\tn 233 s2.heap/\∀b∈fp,H' b=none) E s1) E s
 done:∀(X:Cx),X.prog=P->X.w=w->X.K=K->X.A.handled=hd->∀(i:Nat) (pins:LG) (s:Shared) (σ:St) (H:Hp) (E:LD),aW X pins σ H s->(∀b∈fp,fE X pins H b)->tn i s.heap->J.stop i H->
  wpAny 594 X.A (pyNext 284) (λr s1=>r=none/\aW X pins σ H s1) E s
 self:∀(A:Around) (i:Nat) (s:Shared) (Q:LD) (E:LD),tn i s.heap->Q 284 s->wpAny 594 A (pyIter 284) Q E s
def Fj (hd:LM) (X:Cx) (pins:LG) (σ:St) (tg:Expr) (R:It->Hp->Prop) (itv:Value) (s2:Shared):Prop:=
 ∃(it:Addr) (fp:LJ) (tn:Nat->Heap->Prop) (J:It) (H':Hp),itv= .ref it/\aW X pins σ H' s2/\CA hd X.prog X.w X.K tg J fp it tn/\tn 0 s2.heap/\(∀b∈fp,fE X pins H' b)/\R J H'
def GX (hd:LM) (X:Cx) (tg iter:Expr) (wi:TI):Prop:=
 ∀(pins:LG) (s:Shared) (σ:St) (H:Hp) (R:It->Hp->Prop),aW X pins σ H s->wi σ H R->
  wpAny 114 X.A 558 (λv s1=>wpAny 114 X.A (pyIter v) (Fj hd X pins σ tg R) X.xe s1) X.xe s
noncomputable def yk (hd:LM) (lo:Int) (n:Nat):It:=⟨λi _=>i<n,λi H x H'=>H'=H/\x= .int (lo+i),λi H=>n<=i/\jM hd H⟩
theorem sO {hd:LM} {P:Program} {w:World} {K:IS} {tg:Expr} (it:Addr) (lo:Int) (n:Nat):CA hd P w K tg (yk hd lo n) [it] it (λi h=>IsRangeIter h it (lo+(i:Nat)*1) ((n:Int)-(i:Nat)) 1) where
 mem:=by simp
 obj:=λi h st b hb=>by
  sleep 206
  subst e;exact ⟨_,st,λv z=>by
   have z':Data.fields _=Data.cell v:=z;cases z'⟩
 keep:=λi h h' st k=>k it 110 _ st
 item:=by
  intro X hP hw hK hA i pins s σ H E I hf st hg;subst hP hw hK;sleep 61
  have hg':i<n:=hg;refine wpAny_pyNext_range_item st 41 λh' st' sb=>?_
  have I1:aW X pins σ H {s with heap:=h',toks:=s.toks+1}:=I.turned (λb o hb e=>(sb.2 b hb).trans e) f0 f1 f3 f4 f5
  have st2:IsRangeIter h' it (lo+519*1) ((n:Int)-519) 1:=by
   have e1:lo+519*1=lo+(i:Int)*1+1:=by push_cast;lia
   have e2:(n:Int)-519=(n:Int)-(i:Int)-1:=by push_cast;lia
   rw[e1,e2];exact st'
  refine ⟨_,rfl,sB (s:={s with heap:=h',toks:=s.toks+1}) (n:= "range_iterator") st2 rfl rfl 49 ⟨.int (lo+i),H,I1,⟨s.toks,?_⟩,⟨rfl,rfl⟩,st2,λb hb=>(hf b hb).1⟩⟩
  rw[Int.mul_one]
 done:=by
  intro X hP hw hK hA i pins s σ H E I hf st hg;subst hP hw hK;sleep 61
  obtain ⟨hl,hk⟩:=hg;cases hd with
  |none=>exact wpAny_pyNext_range_end hA st 41 λh' eb=>⟨rfl,I.turned (t':=s.toks) (λb o hb e=>eb b o hb e) f0 f1 f3 f4 f5⟩
  |some v=>
   obtain ⟨a,m,cls,dx,rfl,e⟩:=hk v rfl;obtain ⟨⟨ox,vs,h1,h2,h3,h4,h6,h5⟩,_⟩:=(show cN X.prog X.w H s.heap a (Fi m a cls dx) from I.hok a _ e)
   exact u3 hA h1 h4 h6 st 41 λh' eb=>(rfl,I.turned (t':=s.toks) (λb o hb e=>eb b o hb e) f0 f1 f3 f4 f5)
 self:=λ_ _ _ _ _ st h=>wpAny_pyIter_rangeiter st h
def Fk (hd:LM) (ta:TA):TI:=λσ H R=>ta σ H λvs H1=>∃j:Int,vs= [.int j]/\ -(2^62)<=j/\j<2^62/\R (yk hd 0 j.toNat) H1
section
variable {tg:Expr} {hd:LM}
theorem ym {pins:LG} {σ:St} {H:Hp} {s:Shared} {R:It->Hp->Prop} {E:LD} {lo hi:Int} {t u v:Tok} {tk:Nat} (I:aW X pins σ H s) (h1: -(2^62)<=lo) (h2:lo<2^62) (h3: -(2^62)<=hi) (h4:hi<2^62)
  (q:R (yk hd lo (hi-lo).toNat) H):wpAny 114 X.A (pyIter 265) (Fj hd X pins σ tg R) E {s with heap:=s.heap.push 147,toks:=tk}:=by
 refine wpAny_pyIter_range (IsRange.new ..) (small_one h1 h2 h3 h4) ?_;have I1:aW X pins σ H {s with heap:=s.heap.push 147,toks:=tk}:=I.kept λb o e=>101 _ e
 refine ⟨(s.heap.push 147).objs.size,[(s.heap.push 147).objs.size],_,_,H,rfl,
  I1.kept (t':=tk) λb o e=>101 _ e,sO _ lo (hi-lo).toNat,?_,λb hb=>?_,q⟩
 ·have e1:lo+494*1=lo:=by simp
  have e2:(((hi-lo).toNat:Nat):Int)-494=Builtin.Range.rangeSize lo hi 1:=by rw[rangeSize_one];split<;>lia
  show IsRangeIter _ _ (lo+494*1) ((((hi-lo).toNat:Nat):Int)-494) 1;rw[e1,e2];exact 121 _ rfl
 ·have e:b=(s.heap.push 147).objs.size:=by simpa using hb
  subst e;exact I1.fpOk 203 (I1.hok.fresh 203)
theorem fh {a:Expr} {ta:TA} {p pos:Pos} (hg:Gl X "range") (hm:X.mg "range" =none) (ha:PA X [a] ta) (hs:starEach [a] X.env= [(false,eval a X.env)]:=by rfl):GX hd X tg (.Call (.Name "range" p) [a] [] pos) (Fk hd ta):=by
 intro pins s σ H R I h;refine Call_ (dW I hg hm boot_range (Ja 263 hs rfl))
 obtain ⟨j,e,q1,q2,q⟩:=q1;subst e;cases r1 with
 |cons r rr=>
  cases rr;obtain ⟨t,rfl⟩:=r;exact call_range_1 (ym I1 41 41 q1 q2 (by simpa using q))
universe z0
section
variable {elt iter:Expr} {px pos:Pos} {wi:TI} {te:TE} {hd:LM}
theorem nE (hA:X.A.handled=hd) (ok:gQ X scope cl own ys js) (hi:GX hd X 317 iter wi)
  (he:∀(C:Addr) (fp:LJ) (s:Shared) (H:Hp),PE 120 elt te)
  (hs:∀x,foldedSetIterable iter X.env x=pure x)
  {pins:LG} {s:Shared} {σ:St} {H:Hp} {Q:VK} {use:Option 563} {QQ:LD} {pp:Pos} (I:aW X pins σ H s) (h:(pJ wi js te) σ H Q)
  (fin:∀(p C:Addr) (s6:Shared) (H5:Hp) (v:Flow),461->179->fE X pins H5 C->Q 148 H5->compPost 114 X.A X.xe use QQ 148 C (.ok v) s6):
  wpAny 114 X.A 368 QQ X.xe s:=by
 have ncell:∀y∈scope.names,y.2≠ .cell:=λy hy z=>by
  sleep 106
 have nloc:∀y∈scope.names,y.2= .local->scope.names.lookup y.1=some .local:=λy hy z=>by
  sleep 161
  simpa using q
 sleep 25
 sleep 3
 have I3:=I2.laid (a:=s2.heap.objs.size) (o:= .lst []) (h':=s2.heap.push 165) (t':=s2.toks) 532 203
  ⟨JT _,[],0,.nil,121 _ rfl⟩
 have fpo:∀b∈fp,b<s2.heap.objs.size:=λb hb=>by
  sleep 83
 sleep 20
 sleep 19
 sleep 36
 sleep 44
 sleep 8
 sleep 35
 have fpB:∀{H':Hp},462->∀b∈fp,fE 99 [] H' b:=λ{H'} hn b hb=>
  ⟨hn b hb,J6 (lt3 b hb),λz=>(IZ.mp (I3.stkSub b z)).elim (f3 b hb).2.1 (f3 b hb).2.2.1,.inl hb,λx c e=>(f3 b hb).2.2.2.2.1 x c 465,λp hp=>absurd (show p∈([]:LG) from hp) 110⟩
 have loop:codeAny 114 X.A (.compLoop 113 0 284 163 255)
   (compPost 114 X.A X.xe use QQ 163 s3.heap.objs.size) {s3 with heap:=h1,toks:=s2.toks+0}:=by
  refine iK 177 ?_ m0
   ⟨0,[],none,_,J0,t0,λb hb=>(f3 b hb).1,w0⟩
  sleep 91;rcases hw with ⟨stop,qn⟩|⟨go,hz,step⟩
  ·refine cu (T.done 99 rfl rfl rfl hA i [] s5 _ H5 189 I5 (fpB n5) t5 stop) λr s6 (hr,I6)=>?_
   sleep 30
  ·refine cu (T.item 99 rfl rfl rfl hA i [] s5 _ H5 189 I5 (fpB n5) t5 go) λr s6 (u,hr,h6)=>?_
   sleep 94
   sleep 1
   subst e8 eH8;sleep 88
   sleep 18
   sleep 98
   sleep 78
 sleep 64
theorem ja (hA:X.A.handled=hd) (ok:gQ X scope cl own ys js) (hi:GX hd X 317 iter wi)
  (he:∀(C:Addr) (fp:LJ) (s:Shared) (H:Hp),PE 120 elt te)
  (hs:∀x,foldedSetIterable iter X.env x=pure x:=by intro _;rfl):PE X 113 (pJ wi js te):=λpins s σ H Q I h=>by
 rw[eval_ListComp];exact nE hA ok hi he hs I h λp C s6 H5 v (m,hn) J _ q=>339
theorem nH {i:Nat} {y:Str} {py spos:Pos} (hN:X.N.Nodup) (hi':X.N[i]?=some y) (hy:X.env.scope.names.lookup y=some .local) (hA:X.A.handled=hd) (ok:gQ X scope cl own ys js) (hi:GX hd X 317 iter wi)
  (he:∀(C:Addr) (fp:LJ) (s:Shared) (H:Hp),PE 120 elt te)
  (hsw:swapsWith 113 502 spos.line X.env=pure true:=by rfl) (hs:∀x,foldedSetIterable iter X.env x=pure x:=by intro _;rfl):
  PS X (.Assign [.Name y py] 113 spos) (uK (pJ wi js te) (bN i)):=λpins s σ H D I h=>by
 sleep 23;sleep 67
 exact wpAny_bind (wpAny_mono (nE hA ok hi he hs I h (mS hN hi' hy)) 270 λ_ _ e=>e)
universe z0
universe L2
namespace Sw
open PySem L2 XH
structure Dx (P:Program) (w:World) (K:IS) (mg:LF) (base:Heap) (CX:wu) (k:Nat) (x:Str) (ps:LI) (dvs:List V) (sp:Sp) where
 f:Addr
 fd:FuncData
 ok:bI P w K mg base CX k f fd ps sp
 m:mg x=some (.ref f)
 q:KU K (.ref f)=true
 b:Binds K fd ps []
 bd:∃ds,Binds K fd ps ds/\bR dvs ds
section
variable {X:Cx} {k j:Nat} {x:Str} {ps:LI} {sp:Sp} {p pos:Pos} {e:Expr} {es:List Expr} {t:TA} {dvs:List V} {E:St->XK}
theorem De (D:Dx X.prog X.w X.K X.mg X.base bD k x ps dvs sp) (hr:fF j X.A) (hk:k<=j) (hg:Gl X x) (ha:PA X (e::es) t) (hdb:285=false:=by decide)
  (he:starEach (e::es) X.env=(false,eval e X.env)::starEach es X.env:=by rfl) (hpl:(backTo pos 407).any 199=false:=by rfl):
  PE X 421 (zJ sp [] E0 t):=
 BD D.ok (hr.mono hk) hg D.m D.q D.b .nil Cz ha hdb he hpl
universe z0
universe Sw
namespace L2
open PySem PySem.Spec PyProof.Rows XH
theorem yn {X:Cx} {K:IS} (hK:X.K=K):dC X 257 (λxs H Q=>∃x t T b,xs= [x,.ty T]/\jX K H x t/\PySem.W.kitOne K t (.type T)=some b/\Q (.bl b) H):=by
 subst hK;sleep 26;obtain ⟨x,t,T,b,rfl,ty,e,q⟩:=h;obtain ⟨u,w',rfl,e1,e2⟩:=vals2 r;cases e2;exact yc I e1 ty e λtk=>(.bl b,H,I.tok tk,rfl,q)
universe L2
namespace Sw
open PySem L2 XH
universe Sw
namespace L2
open PySem PySem.Spec PyProof.Rows XH
noncomputable def Fm (x:Str):It:=⟨λi _=>i<x.cps.size,λi H v H'=>H'=H/\∃c,x.cps[i]?=some c/\v= .str ⟨#[c]⟩,λi _=>i=x.cps.size⟩
theorem zY {P:Program} {w:World} {K:IS} {tg:Expr} {ty:String} (hty:ty= "str_ascii_iterator" ∨ty= "str_iterator") (it:Addr) (x:Str) (t:Tok):Turn P w K tg (Fm x) [it] it (λi h=>h.IsStrIter it ty x t i) where
 mem:=by simp
 obj:=λi h st b hb=>by
  sleep 206
  sleep 207
 keep:=λi h h' st k=>by
  obtain ⟨o,e,c,d⟩:=st;exact (o,k it 110 o e,c,d)
 item:=by
  sleep 13;sleep 61
  have W:Walks X.prog X.w X.A it [it] [it] x.cps.size (SignAt x) (λi h=>h.IsStrIter it ty x t i):=by
   rcases hty with rfl|rfl
   ·exact Walks.strAscii 236 it x t
   ·exact Walks.strWide 236 it x t
  refine W.item i s _ _ hg st λv h' tk hv st' kk=>?_
  obtain ⟨c,u,hc',rfl⟩:=hv;have I1:aW X pins σ H {s with heap:=h',toks:=tk}:=I.turned (λb o hb e=>kk b o (by simpa using hb) e) f0 f1 f3 f4 f5
  obtain ⟨o,e,c1,d1⟩:=id st';refine ⟨_,rfl,sB (s:=210) (n:=ty) e c1 d1 (by rcases hty with rfl|rfl<;>decide) ⟨.str ⟨#[c]⟩,H,I1,⟨u,rfl⟩,⟨rfl,c,hc',rfl⟩,st',λb hb=>(hf b hb).1⟩⟩
 done:=by
  sleep 13;sleep 61
  have W:Walks X.prog X.w X.A it [it] [it] x.cps.size (SignAt x) (λi h=>h.IsStrIter it ty x t i):=by
   rcases hty with rfl|rfl
   ·exact Walks.strAscii 236 it x t
   ·exact Walks.strWide 236 it x t
  have hg':i=x.cps.size:=hg;subst hg';exact W.done s _ _ st λh' tk kk=>(rfl,I.turned (λb o hb e=>kk b o (by simpa using hb) e) f0 f1 f3 f4 f5)
 self:=λ_ _ _ _ _ st h=>by
  rcases hty with rfl|rfl
  ·exact wpAny_pyIter_striter_ascii st h
  ·exact wpAny_pyIter_striter_wide st h
def HC (tl:TE):TI:=λσ H R=>tl σ H λx H1=>∃z,x= .str z/\R (Fm z) H1
variable {X:Cx} {tg:Expr}
theorem Df {l:Expr} {tl:TE} (hl:PE X l tl):PI X tg l (HC tl):=by
 sleep 180
 obtain ⟨z,rfl,q⟩:=q1;obtain ⟨t,rfl⟩:=r1;have fin:∀{ty:String} {o:Obj},(ty= "str_ascii_iterator" ∨ty= "str_iterator")->(s1.heap.push o).IsStrIter s1.heap.objs.size ty z t 0->Hd X pins σ tg R (.ref s1.heap.objs.size) {s1 with heap:=s1.heap.push o}:=λ{ty o} hty st=>by
  refine (s1.heap.objs.size,[s1.heap.objs.size],_,_,H1,rfl,I1.kept (t':=s1.toks) λb o e=>101 _ e,zY hty _ z t,st,λb hb=>?_,q)
  sleep 182
  subst e;exact I1.fpOk 203 (I1.hok.fresh 203)
 cases ha:z.cps.all (· <128)
 ·exact wpAny_pyIter_wide ha (fin (.inr rfl) 310)
 ·exact wpAny_pyIter_ascii ha (fin 574 310)
theorem BR {z:Str} {g:TG} {tb:TS} {D:Ends} {σ:St} {H:Hp} (Pv:Nat->St->Hp->Prop) (h0:Pv 0 σ H)
  (hs:∀i c σ H,z.cps[i]?=some c->Pv i σ H->g (.str ⟨#[c]⟩) σ H λσ2 H2=>tb 212 σ2 H2) (hd:∀σ H,Pv z.cps.size σ H->D.nx σ H):
  ∃W:Nat->Nat->St->Hp->Prop,441/\∀i m σ H,W i m σ H->
   ((Fm z).stop i H/\D.nx σ H)∨((Fm z).go i H/\∃N:St->Hp->Prop,182/\∀x H',(Fm z).yld i H x H'->g x σ H' λσ2 H2=>tb 282 σ2 H2):=by
 exists λi m σ H=>m=z.cps.size-i/\i<=z.cps.size/\Pv i σ H,(z.cps.size,by simp,JT _,h0)
 sleep 147
 by_cases hlt:i<z.cps.size
 ·refine .inr (hlt,Pv 233,λσ' H' p'=>(z.cps.size-233,by lia,rfl,hlt,p'),λx H' y=>?_)
  obtain ⟨e,c,hc,rfl⟩:=y;subst e;exact hs i c σ _ hc p
 ·have e:i=z.cps.size:=by lia
  subst e;exact .inl (rfl,hd σ H p)
noncomputable def jZ (x:Str) (lo hi:Option Int):Str:=⟨((x.cps.toList.drop (HT.dH x.length 0 lo)).take (HT.dH x.length x.length hi-HT.dH x.length 0 lo)).toArray⟩
theorem Fn (lo hi:Option Int) (n:Nat):Builtin.Str.strSliceIndices lo hi 1 n=(JK (HT.dH n n hi-HT.dH n 0 lo)).map (HT.dH n 0 lo+ ·):=by
 have h1:(match lo with|none=>(0:Int)|some i=>max 0 (min (if i<0 then i+(n:Int) else i) n))=((HT.dH n 0 lo:Nat):Int):=by
  cases lo with
  |none=>simp[HT.dH]
  |some i=>
   simp only[HT.dH]
   by_cases h:i<0
   ·simp only[h,if_true]<;>lia
   ·simp only[h,if_false]<;>lia
 have h2:(match hi with|none=>(n:Int)|some i=>max 0 (min (if i<0 then i+(n:Int) else i) n))=((HT.dH n n hi:Nat):Int):=by
  cases hi with
  |none=>simp[HT.dH]
  |some i=>
   simp only[HT.dH]
   by_cases h:i<0
   ·simp only[h,if_true]<;>lia
   ·simp only[h,if_false]<;>lia
 rw[<-sliceRange_one,<-h1,<-h2];cases lo<;>cases hi<;>rfl
theorem sP (x:Str) (l u:Option (Int×Tok)):(⟨((slicePicked x l u none).filterMap (x.cps[·]?)).toArray⟩:Str)=jZ x 503 (u.map 199):=by
 show (⟨((Builtin.Str.strSliceIndices 503 501 1 x.length).filterMap (x.cps[·]?)).toArray⟩:Str)=_;rw[Fn,pick_run]
 rfl
theorem mi (x:Str) (lo hi:Option Int):(jZ x lo hi).length<=x.length:=by
 show ((x.cps.toList.drop _).take _).toArray.size<=x.cps.size;rw[JD,JH,Js];simp only[JC]
 lia
theorem u4 (x:Str) (l u:Option (Int×Tok)) (h:(slicePicked x l u none).length=x.length):jZ x 503 501=x:=by
 have h':(Builtin.Str.strSliceIndices 503 501 1 x.length).length=x.length:=h;rw[Fn,IN,JP] at h';have hs:HT.dH x.length x.length 501<=x.length∨x.length<HT.dH x.length x.length (u.map 199):=by lia
 have hu:HT.dH x.length x.length 501<=x.length:=by
  cases u with
  |none=>exact IT _
  |some p=>
   show (if p.1<0 then (p.1+(x.length:Int)).toNat else min p.1.toNat x.length)<=x.length
   by_cases hp:p.1<0
   ·rw[if_pos hp];lia
   ·rw[if_neg hp];lia
 unfold jZ
 by_cases hx:x.length=0
 ·have e:x.cps.toList= []:=by
   have:x.cps.toList.length=0:=by rw[JC];exact hx
   exact JS this
  rw[e,List.drop_nil,List.take_nil];obtain ⟨c⟩:=x;have e':c= #[]:=Array.toList_inj.mp (by simpa using e)
  rw[e']
 ·have h0:HT.dH x.length 0 503=0:=by lia
  rw[h0,List.drop_zero,KY (by rw[JC];show x.length<=_;lia)]
theorem part_of {v:Value} {o:Option Int} (p:IsPart v o):∃l:Option (Int×Tok),partValue l=v/\l.map 199=o:=by
 cases p with
 |none=>exact ⟨none,rfl,rfl⟩
 |int i t=>exact ⟨some (i,t),rfl,rfl⟩
theorem qU {X:Cx}:GV X (λx lo hi H Q=>∃z,x= .str z/\z.length<=sizeLine/\Q (.str (jZ z lo hi)) H):=by
 sleep 140;obtain ⟨z,rfl,hz,q⟩:=h;obtain ⟨t,rfl⟩:=rx;obtain ⟨l,rfl,rfl⟩:=part_of pl;obtain ⟨u,rfl,rfl⟩:=part_of pu;exists "str",_,slot_str_getitem.lookup,typeIs_str s z t;refine wpAny_getItem_str_slice (l:=l) (u:=u) (st:=none) hs rfl ?_;unfold sliceMade
 by_cases hw:(slicePicked z l u none).length=z.length
 ·rw[if_pos (by simp[hw])]
  refine (.str (jZ z 503 501),H,I,(t,by rw[u4 z l u hw]),q)
 ·rw[if_neg (by simp[hw])]
  rw[sP];exact (JV (mi _ _ _) hz,.str (jZ z 503 501),H,I.tok _,⟨ν⟩,q)
universe L2
namespace Sw
open PySem L2 XH PyProof.Rows
theorem u5 {hd:LM} {H H':Hp} (h:jM hd H) (g:aC H H'):jM hd H':=λv e=>by
 obtain ⟨a,n,cls,dx,e1,e2⟩:=h v e;exact (a,n,cls,dx,e1,g _ _ e2)
theorem eZ {H H':Hp} {p:Addr} (g:aC H H') (h:H p=none) (o:HO):aC H (aO H' p o):=λb u q=>by
 rw[aR (eV q h)];exact g b u q
theorem wJ {hd:LM} {n:Nat} {js:List Nat} {te:TE} {σ:L2.St} {H1:Hp} {Q:VK} (P:Nat->V->Prop) (hok:jM hd H1) (hn:n<=sizeLine)
  (step:∀i,i<n->∀H3,aC H1 H3->∀Q':VK,(∀y H4,P i y->aC H3 H4->Q' y H4)->te 292 H3 Q')
  (fin:∀p ys H',H1 p=none->ys.length=n->(∀i y,ys[i]?=some y->P i y)->aC H1 H'->H' p=some 232->Q 148 H'):
  nD js te σ Q (yk hd 0 n) H1:=by
 intro p hp;exists λi m ys H2=>i<=n/\m=n-i/\ys.length=i/\(∀j y,ys[j]?=some y->P j y)/\aC H1 H2/\H2 p=some 232,(n,JT _,rfl,rfl,λj y e=>by simp at e,ao hp _,au)
 sleep 171
 by_cases hin:i<n
 ·refine .inr (hin,by lia,λx H3 hy=>?_)
  obtain ⟨rfl,rfl⟩:=hy;refine step i hin H3 g _ λy H4 py g4=>(g4 _ _ e,n-233,by lia,hin,rfl,by simp[hl],λj z ez=>?_,eZ (g.trans g4) hp _,au)
  by_cases hj:j<ys.length
  ·rw[J5 hj] at ez;exact hP j z ez
  ·rw[IV 41] at ez
   have h0:j-ys.length=0:=by
    rcases Nat.eq_zero_or_pos (j-ys.length) with q|q
    ·exact q
    ·rw[Jd 488] at ez;cases ez
   rw[h0] at ez;have hji:j=i:=by lia
   subst hji;cases ez;exact py
 ·have e2:i=n:=by lia
  subst e2;exact .inl ((IT _,u5 hok g),fin p ys H2 hp hl hP g e)
def kS (X:Cx) (scope:Scope) (ys:LI) (js:List Nat):Prop:=∀(i:Nat) (y:Str),ys[i]?=some y->∃j:Nat,js[i]?=some j/\X.N[j]?=some y/\(X.env.scope.names.lookup y=some .cell∨X.env.scope.names.lookup y=some .free)/\((relabel scope X.env).names.lookup y=some .cell∨(relabel scope X.env).names.lookup y=some .free)
theorem ig {X:Cx} {scope:Scope}:kS X scope [] []:=λi y h=>by simp at h
theorem iF {X:Cx} {scope:Scope} {ys:LI} {js:List Nat} {y:Str} {j:Nat} (t:kS X scope ys js) (h1:X.N[j]?=some y:=by rfl) (h2:X.env.scope.names.lookup y=some .cell∨X.env.scope.names.lookup y=some .free:=by first|exact Or.inl rfl|exact Or.inr rfl)
  (h3:(relabel scope X.env).names.lookup y=some .cell∨(relabel scope X.env).names.lookup y=some .free:=by first|exact Or.inl rfl|exact Or.inr rfl):kS X scope (y::ys) (j::js):=λi z h=>by
 cases i with
 |zero=>
  cases h;exact (j,rfl,h1,h2,h3)
 |succ i=>exact t i z h
inductive u6 (X:Cx):List (Str×Addr)->Prop where
 |nil:u6 X []
 |cons {y:Str} {c:Addr} {cl:List (Str×Addr)} (h:X.env.cells.lookup y=some c) (t:u6 X cl):u6 X ((y,c)::cl)
theorem u6.all {X:Cx} {cl:List 598} (h:u6 X cl):∀p∈cl,X.env.cells.lookup p.1=some p.2:=by
 induction h with
 |nil=>intro p hp;simp at hp
 |cons h _ ih=>
  intro p hp;rcases IZ.mp hp with e|e
  ·rw[e];exact h
  ·exact ih p e
theorem iG {X:Cx} {scope:Scope} {cl:List 598} {own:Str} {ys:LI} {js:List Nat} (a:kS X scope ys js) (s:u6 X cl) (nd:(own::ys).Nodup) (len:js.length=ys.length) (clos:closureFor scope X.env=pure cl) (nocell:280=true) (kind:scope.kind= .function)
  (loc:169=true) (ownL:scope.names.lookup own=some .local) (has:145=true) (noown:cl.lookup own=none):gQ X scope cl own ys js:=
 ⟨clos,nocell,kind,loc,ownL,s.all,has,noown,nd,a,len⟩
open PySem.NumText
universe Sw
namespace L2
open PySem PySem.Spec PyProof.Rows XH
section
variable {X:Cx} {a b e o:Expr} {es:List Expr} {t te to:TE} {ta:TA} {pos apos cpos:Pos} {x y:Str}
theorem mT:∀{ns:List Int} {us:LK},bR 173 us->IntsAre us ns
 | [],_,h=>by cases h;exact .nil
 |n::ns,_,h=>by
  cases h with
  |cons r rr=>
   obtain ⟨t,rfl⟩:=r;exact .cons _ _ (mT rr)
theorem yo (hc:X.calm=true):dC X (.builtin "max") (λxs H Q=>∃a ns,xs= [.ref a]/\aF X.K H a 173/\ns≠ []/\∀M:Int,M∈ns->(∀z∈ns,z<=M)->Q (.int M) H):=by
 sleep 26;obtain ⟨a,ns,rfl,h1,hne,q⟩:=h;obtain ⟨u,rfl,r1⟩:=vals1 r;cases r1;sleep 81;have lst:xs.toList.map 199=ns:=by
  sleep 233
 have len:ns.length=xs.size:=by rw[<-lst,IN,JC]
 have pos:0<xs.size:=len▸List.length_pos_iff.mpr hne;refine max_intList 236 (xs:=xs) 359 pos λv h' tk hv hk=>?_
 obtain ⟨t,rfl⟩:=intItems_at hv;have best:=argBest_gt (numAt xs) (xs.size-1);sleep 212
 ·have m:=best.1;rw[<-lst,numAt_eq];refine getD_mem ?_;rw[lst,len]
  lia
 ·sleep 151
  rw[numAt_eq] at m;exact m
theorem zZ {z:Str} {p:Pos} (hg:Gl X x) (h:∃t,X.mg x=some (.str z t)) (hd:285=false:=by decide):PE X (.Name x p) (tC 379):=by
 obtain ⟨t,h⟩:=h;exact wm hg h (t,rfl) hd
theorem dY {i:Int} {p:Pos} (hg:Gl X x) (h:∃t,X.mg x=some (.int i t)) (hd:285=false:=by decide):PE X (.Name x p) (tC (.int i)):=by
 obtain ⟨t,h⟩:=h;exact wm hg h (t,rfl) hd
universe z0
noncomputable def Fo (a:Addr) (o:Obj) (kvs:List 281):It:=
 ⟨λi H=>H a=some 209/\i<kvs.length,λi H v H'=>H'=H/\∃k x,kvs[i]?=some (k,x)/\v=kV k,λi H=>H a=some 209/\i=kvs.length⟩
theorem wK {P:Program} {w:World} {k:Key} {u:Value} (h:(aT P w).is k u=true):RelV (kV k) u:=by
 rcases cY h with ⟨i,t,rfl,rfl⟩|⟨x,t,rfl,rfl⟩
 ·exact (t,rfl)
 ·exact (t,rfl)
theorem z5 {κ:Type}:∀{kvs:List 445} {vs:List 588} (r:KV kvs vs) (i:Nat) {k:κ} {x:V},kvs[i]?=some (k,x)->∃u,vs[i]?=some (k,u)/\RelV x u
 |_,_,.nil,i,k,x,h=>by simp at h
 |_,_,.cons (b:=q) r t,0,k,x,h=>by
  simp at h;subst h;obtain ⟨q1,q2⟩:=q;have e:k=q1:=r.1;subst e;exact (q2,by simp,r.2)
 |_,_,.cons r t,i+1,k,x,h=>by
  obtain ⟨u,e,rx⟩:=z5 t i 235
  exact (u,by simpa using e,rx)
theorem ko {X:Cx} {pins:LG} {σ:St} {H:Hp} {s:Shared} {a:Addr} {o:Obj} {kvs:List 281} {es0:Array DictEntry} {ep:Nat} (I:aW X pins σ H s) (h:H a=some 209) (hd:o.data= .dict es0 ep):
  ∃vs,KV kvs vs/\s.heap.DictAt 510 a vs ep:=by
 obtain ⟨ho,z,y,vs,rel,ob,es,ep',e,c,d,rest⟩:=(show cN X.prog X.w H s.heap a 209 from I.hok a _ h)
 rw[ho] at e;cases e;have e2:ep'=ep:=by rw[hd] at d;cases d;rfl
 subst e2;exact (vs,rel,o,es,ho,c,d,rest)
theorem yq {P:Program} {w:World} {K:IS} {tg:Expr} (it a:Addr) (o:Obj) (kvs:List 281) {es0:Array DictEntry} {ep:Nat} (hd:o.data= .dict es0 ep):Turn P w K tg (Fo a o kvs) [it] it (λi h=>h.IsKeyIter it a i kvs.length ep) where
 mem:=by simp
 obj:=λi h st b hb=>by
  sleep 206
  sleep 207
 keep:=λi h h' st k=>by
  obtain ⟨o,e,c,d⟩:=st;exact (o,k it 110 o e,c,d)
 item:=by
  sleep 13;sleep 61
  sleep 112;obtain ⟨u,hu,_⟩:=z5 rel i hx;have st':=st;rw[rel.length] at st';refine wpAny_pyNext_dict_item st' D hu λkey h' hkey hit' hs'=>?_
  rw[<-rel.length] at hit';have I1:aW X pins σ H {s with heap:=h',toks:=s.toks}:=I.turned (λb ob hb e=>hs'.extBut b ob hb e) f0 f1 f3 f4 f5
  obtain ⟨oi,ei,ci,di⟩:=id hit';exact ⟨_,rfl,sB (s:=266) (n:= "dict_keyiterator") ei ci di 49 ⟨kV k,H,I1,wK hkey,⟨rfl,k,x,hx,rfl⟩,hit',λb hb=>(hf b hb).1⟩⟩
 done:=by
  sleep 13;sleep 61
  obtain ⟨hz,rfl⟩:=hg;obtain ⟨vs,rel,D⟩:=ko I hz hd;rw[rel.length] at st;refine wpAny_pyNext_dict_end 236 st D 110 λh' he'=>(rfl,I.turned (t':=s.toks) (λb ob hb e=>he' b ob hb e) f0 f1 f3 f4 f5)
 self:=λ_ _ _ _ _ st h=>wpAny_pyIter_keyiter st h
def NF (X:Cx) (a:Addr):Prop:=∀o u,X.H₀ a≠some (.frz o u)
theorem aW.nf {X:Cx} {pins:LG} {σ:St} {H:Hp} {s:Shared} {a:Addr} {kvs:List 281} (I:aW X pins σ H s) (h:H a=some 140):NF X a:=λo u e=>by
 have:=I.base.frzs a o u e;rw[h] at this;cases this
theorem aW.freeze {X:Cx} {pins:LG} {σ:St} {H:Hp} {s:Shared} {a:Addr} {kvs:List 281} {o:Obj} (I:aW X pins σ H s) (h:H a=some 140) (ho:s.heap.get? a=some o):aW X pins σ (aO H a 209) s:=by
 refine I.un (H':=aO H a 209) (h':=s.heap) (t':=s.toks) (λb ob q n _ _=>q,λb ob q n _ _=>(ob.slots,q),λb ob q n _=>?_,λb ob q _=>(ob,q),λb xs q=>?_,λb ob u q=>?_,λb ps q=>(#[],?_)) ?_
 ·rw[aR (λz=>by subst z;rw[h] at n;cases n)];exact n
 ·rw[aR 181];exact q
 ·rw[aR 181];exact q
 ·rw[aR 181,q];simp
 ·intro b u q
  by_cases hb:b=a
  ·subst hb;rw[au] at q;cases q;exact (ho,(I.hok b _ h).stay (λ_ _ _ q=>q) (λc q=>by rw[aR 181];exact q) λc xs q=>by rw[aR 181];exact q)
  ·rw[aR hb] at q;exact (I.hok b _ q).stay (λ_ _ _ q=>q) (λc q=>by rw[aR 181];exact q) λc xs q=>by rw[aR 181];exact q
theorem aW.thaw {X:Cx} {pins:LG} {σ:St} {H:Hp} {s:Shared} {a:Addr} {kvs:List 281} {o:Obj} (I:aW X pins σ H s) (h:H a=some 209) (nf:NF X a):aW X pins σ (aO H a 140) s:=by
 have hn:∀{b:Addr} {u:HO},H b=some u->(∀o' v,u≠ .frz o' v)->aO H a 140 b=some u:=λ{b u} q n=>by
  rw[aR (λz=>by subst z;rw[h] at q;cases q;exact n _ _ rfl)];exact q
 have hf:∀{b:Addr},H b=none->aO H a 140 b=none:=λ{b} n=>by
  rw[aR (λz=>by subst z;rw[h] at n;cases n)];exact n
 refine (I.ok,I.os,I.bare,(I.base.keep,I.base.slot,λb ob q n hx=>hf (I.base.free b ob q n hx),I.base.there,λb xs q=>hn (I.base.tups b xs q) 319,λb ob u q=>?_,λb ps q=>?_),I.loc,I.cell,hf I.free,λy c e=>hf (I.freeC y c e),λp hp=>?_,?_,I.len)
 ·have q':=I.base.frzs b ob u q;rw[aR (λz=>by subst z;exact nf _ _ q)]
  exact q'
 ·obtain ⟨more,q'⟩:=I.base.tbls b ps q;exact (more,hn q' 319)
 ·obtain ⟨p1,p2,p3⟩:=I.pin p hp;exact (p1,hf p2,p3)
 ·intro b u q
  by_cases hb:b=a
  ·subst hb;rw[au] at q;cases q;obtain ⟨_,q2⟩:=(show cN X.prog X.w H s.heap b 209 from I.hok b _ h)
   exact cN.stay (o:= .dK kvs) q2 (λ_ _ _ q=>q) (λc q=>hn q 319) λc xs q=>hn q 319
  ·rw[aR hb] at q;exact (I.hok b _ q).stay (λ_ _ _ q=>q) (λc q=>hn q 319) λc xs q=>hn q 319
def Fp (X:Cx) (tl:TE):TI:=λσ H R=>tl σ H λx H1=>∃a kvs,x= .ref a/\H1 a=some 140/\∀o,NF X a->R (Fo a o kvs) (aO H1 a 209)
variable {X:Cx} {tg:Expr}
theorem wM {l:Expr} {tl:TE} (hl:PE X l tl):PI X tg l (Fp X tl):=by
 sleep 180
 obtain ⟨a,kvs,rfl,hk,q⟩:=q1;cases r1;sleep 129
 sleep 169;refine wpAny_pyIter_dict y D ?_;refine (s1.heap.objs.size,[s1.heap.objs.size],_,_,ν,I2.kept (t':=s1.toks) λb o e=>101 _ e,yq _ a ob kvs d,(_,121 _ rfl,rfl,by rw[rel.length];rfl),λb hb=>?_,q ob (I1.nf hk))
 sleep 182
 subst e;exact I2.fpOk 203 (I2.hok.fresh 203)
def GY (X:Cx) (P:Hp->Prop) (H:Hp):Prop:=∃a o kvs,H a=some 209/\NF X a/\P (aO H a 140)
noncomputable def HD (X:Cx) (D:Ends):Ends:={nx:=λσ=>GY X (D.nx σ),bk:=λσ=>GY X (D.bk σ),ct:=λσ=>GY X (D.ct σ),rt:=λv=>GY X (D.rt v)}
theorem u7 {X:Cx} {st:Stmt} {t:TS} (h:PS X st t):PS X st (λD σ H=>t (HD X D) σ H):=by
 intro pins s σ H D I q;refine cu (h pins s σ H _ I q) λf s1 q1=>?_
 cases f with
 |next=>
  sleep 104
 |brk=>
  sleep 104
 |cont=>
  sleep 104
 |ret u=>
  obtain ⟨v,σ',H',I',r,a,o,kvs,e,nf,p⟩:=q1;exact (v,σ',_,I'.thaw e nf,r,p)
theorem sQ {a:Addr} {o:Obj} {kvs:List 281} {g:TG} {tb:TS} {D:Ends} {σ:St} {H:Hp} (Pv:Nat->St->Hp->Prop) (h0:Pv 0 σ H) (hz:∀i σ H,i<=kvs.length->Pv i σ H->H a=some 209)
  (hs:∀i k x σ H,kvs[i]?=some (k,x)->Pv i σ H->g (kV k) σ H λσ2 H2=>tb 212 σ2 H2) (hd:∀σ H,Pv kvs.length σ H->D.nx σ H):
  ∃W:Nat->Nat->St->Hp->Prop,441/\∀i m σ H,W i m σ H->
   ((Fo a o kvs).stop i H/\D.nx σ H)∨((Fo a o kvs).go i H/\∃N:St->Hp->Prop,182/\∀x H',(Fo a o kvs).yld i H x H'->g x σ H' λσ2 H2=>tb 282 σ2 H2):=by
 sleep 174
 sleep 147
 by_cases hlt:i<kvs.length
 ·sleep 130
  obtain ⟨e,k,v,hk,rfl⟩:=y;subst e;exact hs i k v σ _ hk p
 ·have e:i=kvs.length:=by lia
  subst e;exact .inl ((hz _ σ H hi p,rfl),hd σ H p)
section
variable {a b c d:Expr} {ta tb tc td:TE} {pos:Pos}
def BS (r r' r'':R2) (ta tb tc td:TE):TE:=λσ H Q=>ta σ H λx H1=>tb σ H1 λy H2=>r x y H2 λz H3=>mB z λk=>
 (if k=true then tc σ H3 λw H4=>r' y w H4 λz' H5=>mB z' λk'=>(if k'=true then td σ H5 λv H6=>r'' w v H6 Q else Q (.bl false) H5) else Q (.bl false) H3)
theorem yt {o1 o2 o3:CmpOp} {r r' r'':R2} (h1:iV X (compareOp o1) r) (h2:iV X (compareOp o2) r') (h3:iV X (compareOp o3) r'') (ha:PE X a ta) (hb:PE X b tb) (hc:PE X c tc) (hd:PE X d td)
  (hm:lastMarks [o1,o2,o3] [b,c,d]=false:=by with_unfolding_all rfl):PT X (.Compare a [o1,o2,o3] [b,c,d] pos) (zE (BS r r' r'' ta tb tc td)):=by
 sleep 107;refine isTrue_chain (cu (ha pins s σ H _ I h) λv s1 (x,H1,I1,r1,q1)=>test_link (cu (hb pins s1 σ H1 _ I1 q1) λu s2 (y,H2,I2,r2,q2)=>
  cu (h1 pins s2 σ H2 x y v u _ I2 r1 r2 q2) λe1 s3 ⟨z,H3,I3,r3,q3⟩=>?_)) hm
 obtain ⟨k,e,q3⟩:=mB.e q3;subst e;cases r3;refine wpAny_truthy_bool ?_;cases k with
 |false=>
  obtain ⟨k',e',q'⟩:=mB.e q3;cases e';exact ite_ff (H3,I3,q')
 |true=>
  refine ite_tt (test_link (cu (hc pins s3 σ H3 _ I3 q3) λw' s4 (z',H4,I4,r4,q4)=>cu (h2 pins s4 σ H4 y z' u w' _ I4 r2 r4 q4) λd' s5 (z2,H5,I5,r5,q5)=>?_))
  obtain ⟨k2,e2,q5⟩:=mB.e q5;subst e2;cases r5;refine wpAny_truthy_bool ?_;cases k2 with
  |false=>
   obtain ⟨k',e',q'⟩:=mB.e q5;cases e';exact ite_ff (H5,I5,q')
  |true=>
   refine ite_tt (test_last (cu (hd pins s5 σ H5 _ I5 q5) λw2 s6 (z3,H6,I6,r6,q6)=>cu (h3 pins s6 σ H6 z' z3 w' w2 _ I6 r4 r6 q6) λd2 s7 (z4,H7,I7,r7,q7)=>?_))
   obtain ⟨k3,e3,q7⟩:=mB.e q7;subst e3;cases r7;exact wpAny_truthy_bool (H7,I7,q7)
universe z0
theorem nJ {X:Cx}:dC X (.type "dict") (λxs H Q=>∃(d:Addr) (kvs:List 281),xs= [.ref d]/\H d=some 140/\∀p,H p=none->Q 148 (aO H p 140)):=by
 sleep 26;obtain ⟨d,kvs,rfl,hd,q⟩:=h;cases r with
 |cons r rr=>
  cases rr;cases r;obtain ⟨z,y,vs,rel,D⟩:=wC I.hok hd;refine kt_call_dict y D (by rw[<-rel.length];exact z) λh' hm hs=>?_
  have kp:∀b o,s.heap.get? b=some o->h'.get? b=some o:=λb o e=>(hs.2 b (J6 228)).trans 566
  have big:(96==sysModules)=false:=by
   have:=I.big;exact beq_eq_false_iff_ne.mpr (K5 this)
  exact (.ref 96,_,I.laid (o:= .dK kvs) (t':=s.toks) kp 203 (z,big,vs,rel,hm),rfl,q _ I.fresh)
def Dg:V->List V->Hp->VK->Prop:=λx vs H Q=>∃(d:Addr) (kvs:List 281),x= .ref d/\vs= []/\H d=some 140/\∀v,H v=none->Q (.ref v) (aO H v (.ext λh=>h.IsItemsView v d))
theorem z6 {X:Cx}:Hw X "dict.items" Dg:=by
 sleep 138;obtain ⟨d,kvs,rfl,rfl,hd,q⟩:=h;cases rx;have hus:=rv.zero;subst hus;obtain ⟨z,y,ws,rel,D⟩:=wC I.hok hd;refine call_meetsIn PySem.F.slot_dict_items D.typeIs PySem.F.entry_dict_items (PySem.F.args_dict_items_1 _) (meets_dict_items 510 d y) ((ws,D),?_);refine (.ref 96,_,I.laid (o:= .ext λh=>h.IsItemsView 96 d) (t':=s.toks) 533 203 (310,(_,121 _ rfl),λh1 h2 (o,e,c,f) k=>(o,k o e,c,f)),rfl,q _ I.fresh)
noncomputable def Itm (a:Addr) (o:Obj) (kvs:List 281):It:=
 ⟨λi H=>H a=some 209/\i<kvs.length,λi H v H'=>∃(T:Addr) (k:Key) (x:V),v= .ref T/\H T=none/\kvs[i]?=some (k,x)/\H'=aO H T (.tup [kV k,x]),λi H=>H a=some 209/\i=kvs.length⟩
theorem nK:entryFor table "dict_itemiterator.__iter__" =some Builtin.«dict_keyiterator.__iter__» :=
 entryFor_alias (id':= "dict_keyiterator.__iter__") 273 rfl 95 273
theorem oS {prog:Program} {w:World} {A:Around} {E:LD} {s:Shared} {it d:Addr} {i n ep:Nat} {ok ov:Value} {Q:LD} (e:IsItemIter s.heap it d i n ep ok ov) (h:Q 284 s):wpAny 103 A (pyIter 284) Q E s:=by
 have T:s.TypeIs 284 "dict_itemiterator" :=(_,e,rfl);refine wpAny_pyIter_slot T PySem.F.slot_dict_itemiterator_iter (wpAny_call_entry PySem.F.slot_dict_itemiterator_iter T nK ?_ (PySem.F.args_dict_itemiterator_iter_1 _));exact (show wpAny _ _ (ret 284) _ _ s from wpAny_pure (ν,"dict_itemiterator",_,T,PySem.F.slot_dict_itemiterator_next.lookup,h))
theorem u9 {P:Program} {w:World} {K:IS} {elts:List Expr} {kk:Nat} {pos:Pos} (it a:Addr) (o:Obj) (kvs:List 281) {es0:Array DictEntry} {ep:Nat} (hd:o.data= .dict es0 ep):Turn P w K (.Tuple elts kk pos) (Itm a o kvs) [it] it (λi h=>∃ok ov,IsItemIter h it a i kvs.length ep ok ov) where
 mem:=by simp
 obj:=λi h st b hb=>by
  sleep 206
  subst e;obtain ⟨ok,ov,e⟩:=st;exact (_,e,λv z=>by cases z)
 keep:=λi h h' st k=>by
  obtain ⟨ok,ov,e⟩:=st;exact (ok,ov,k it 110 _ e)
 item:=by
  sleep 13;sleep 112;obtain ⟨u,hu,ru⟩:=z5 rel i hx;obtain ⟨ok,ov,st'⟩:=st;rw[rel.length] at st';refine wpAny_pyNext_items_item st' D hu λkey h1 hkey ho hT hsz hk=>?_
  refine ⟨_,rfl,wpAny_letOwnedTupleGo_items (s:={s with heap:=h1}) ho λh2 he2 hs2=>?_⟩
  sleep 153;have il:it<s.heap.objs.size:=Heap.lt_size st';have hT2:h2.get? 96=some {cls:= .type "tuple",data:= .seq #[key,u]}:=(hs2.2 _ (K5 il)).trans hT;have kp:∀b o,b∉ [it]->s.heap.get? b=some o->h2.get? b=some o:=λb o hb q=>by
   simp at hb;exact (hs2.2 b hb).trans (hk b o hb q)
  rw[<-rel.length] at he2;refine ⟨.ref 96,aO H 96 (.tup [kV k,x]),I.turnedNew (t':=s.toks) (ch:= [it]) hf kp 203 (by show 2<=sizeLine;decide,[key,u],.cons (wK hkey) (.cons ru .nil),(_,hT2,rfl,0,rfl)),rfl,
   ⟨_,k,x,rfl,nT,hx,rfl⟩,⟨_,_,he2⟩,λb hb=>?_⟩
  have bl:b≠s.heap.objs.size:=by
   rw[J4.mp hb];exact J6 il
  rw[aR bl];exact (hf b hb).1
 done:=by
  sleep 13;obtain ⟨hz,rfl⟩:=hg;obtain ⟨vs,rel,D⟩:=ko I hz hd;obtain ⟨ok,ov,st'⟩:=st;rw[rel.length] at st';refine wpAny_pyNext_items_end 236 st' D 110 λh' he'=>(rfl,I.turnedAll (t':=s.toks) (ch:= [it]) hf λb o hb q=>he' b o 294 q)
 self:=λA i s Q E st h=>by
  obtain ⟨ok,ov,e⟩:=st;exact oS e h
def Dh (X:Cx) (tl:TE):TI:=λσ H R=>tl σ H λx H1=>∃(v d:Addr) (kvs:List 281),x= .ref v/\H1 v=some (.ext λh=>h.IsItemsView v d)/\H1 d=some 140/\∀o,NF X d->R (Itm d o kvs) (aO H1 d 209)
theorem z7 {X:Cx} {l:Expr} {tl:TE} {elts:List Expr} {kk:Nat} {tp:Pos} (hl:PE X l tl):PI X (.Tuple elts kk tp) l (Dh X tl):=by
 intro pins s σ H R I h;refine cu (hl pins s σ H _ I h) λu s1 (x,H1,I1,r1,q1)=>?_
 obtain ⟨v,a,kvs,rfl,hv,hk,q⟩:=q1;cases r1;sleep 129
 sleep 169;obtain ⟨view,_⟩:=(show cN X.prog X.w H1 s1.heap v (.ext λh=>h.IsItemsView v a) from I1.hok v _ hv)
 refine wpAny_pyIter_items view D ?_;refine (s1.heap.objs.size,[s1.heap.objs.size],_,_,ν,I2.kept (t':=s1.toks) λb o e=>101 _ e,u9 _ a ob kvs d,(_,_,by rw[rel.length];exact 121 _ rfl),λb hb=>?_,q ob (I1.nf hk))
 sleep 182
 subst e;exact I2.fpOk 203 (I2.hok.fresh 203)
universe L2
namespace So
open PySem PyProof.Rows
noncomputable def kk (κ:KeyKind) (p:Keyed):κ.α:=(κ.keyOf p.1).getD κ.dflt
def Kd (κ:KeyKind) (p:Keyed):Prop:=∃a,κ.keyOf p.1=some a
def Br (prog:Program) (w:World) (A:Around) (E:LD) (s:Shared) (κ:KeyKind) (kd:SortKind):Prop:=∀(st:SortSt) (x y:Keyed) (Q:Option Bool->SortSt->Prop),kindOf st=kd->Kd κ x->Kd κ y->Q 291 st->wpS 103 A E s (lt' x y) Q st
section
variable {prog:Program} {w:World} {A:Around} {E:LD} {s:Shared} {κ:KeyKind} {kd:SortKind}
theorem nL {α β:Type} {st:SortSt} {x:StateT SortSt Sem α} {f:α->StateT SortSt Sem β} {Q:β->SortSt->Prop} (h:wpS 103 A E s (x>>=f) Q st):wpS 103 A E s (x>>=f) Q st:=h
theorem z8 (hO:Br prog w A E s κ kd) {st:SortSt} {x y:Keyed} {Q:Option Bool->SortSt->Prop} (hk:kindOf st=kd) (hx:Kd κ x) (hy:Kd κ y) (h:Q 291 st):wpS 103 A E s (lt' x y) Q st:=hO st x y Q hk hx hy h
theorem kq {st:SortSt} {arr:Array Keyed} {i:Nat} {p:Keyed} {Q:Keyed->SortSt->Prop} (e:arr[i]?=some p) (h:Q p st):wpS 103 A E s (elem' arr i) Q st:=by
 rw[elem'_eq,e];exact wpS_pure h
universe z0
def Lq (κ:KeyKind) (p q:Keyed):Prop:=κ.kle (kk κ p) (kk κ q)
section
variable {prog:Program} {w:World} {A:Around} {E:LD} {s:Shared} {κ:KeyKind} {kd:SortKind}
theorem sR {st:SortSt} {r:String} {Q:Unit->SortSt->Prop} (h:Q () st):wpS 103 A E s (liftM (rule r):StateT SortSt Sem Unit) Q st:=wpS_lift (wpAny_rule (rfl,h))
universe z0
section
variable {prog:Program} {w:World} {A:Around} {E:LD} {s:Shared} {κ:KeyKind} {kd:SortKind}
theorem BU {arr:Array Keyed} {P R:List Keyed} (e:arr.toList=P++R) {i:Nat} {x:Keyed} (h:R[i]?=some x):arr[P.length+i]?=some x:=by
 have:arr.toList[P.length+i]?=some x:=by rw[e,IV 41,Nat.add_sub_cancel_left];exact h
 simpa using this
theorem kr (hO:Br prog w A E s κ kd) {st:SortSt} {P R:List Keyed} {i j i' j':Nat} {x y:Keyed} {Q:Option Bool->SortSt->Prop} (hk:kindOf st=kd) (ka:∀x∈R,Kd κ x) (e:(arrOf st).toList=P++R)
  (hi:R[i]?=some x) (hj:R[j]?=some y) (ei:i'=P.length+i) (ej:j'=P.length+j) (h:Q 291 st):wpS 103 A E s (ltAt' i' j') Q st:=by
 subst ei ej;rw[ltAt'_eq];sleep 92;exact wpS_bind (kq (BU e hi) (wpS_bind (kq (BU e hj) (z8 hO hk (ka x (IR hi)) (ka y (IR hj)) h))))
theorem take_snoc {R:List Keyed} {n:Nat} {x:Keyed} (h:R[n]?=some x):R.take (n+1)=R.take n++ [x]:=by
 rw[List.take_succ,h]
 rfl
theorem HG {R:List Keyed} {n:Nat} {x y:Keyed} (h1:1<=n) (hs:(R.take n).Pairwise 428) (hy:R[n-1]?=some y) (hx:R[n]?=some x) (l:Lq κ y x):(R.take (n+1)).Pairwise (Lq κ):=by
 have e1:R.take n=R.take (n-1)++ [y]:=by
  have:=take_snoc hy
  rwa [show n-1+1=n by lia] at this
 rw[take_snoc hx,K2];refine (hs,by simp,λu hu v hv=>?_)
 simp at hv;rw[hv];rw[e1] at hu hs;rcases JA.mp hu with k|k
 ·exact KeyOrd.kle_trans ((K2.mp hs).2.2 u k y 110) l
 ·simp at k;rw[k];exact l
theorem wN {st:SortSt} {R:List Keyed} {n0 N:Nat} (hN:N=R.length) {body:Nat->Option (Option Nat)×Nat->StateT SortSt Sem (ForInStep (Option (Option Nat)×Nat))} {Q:Option (Option Nat)×Nat->SortSt->Prop} (h1:1<=n0) (hn:n0<=R.length) (hs:(R.take n0).Pairwise 428)
  (hb:∀n x y (i:Nat) (Q':ForInStep (Option (Option Nat)×Nat)->SortSt->Prop),1<=n->R[n]?=some x->R[n-1]?=some y->(κ.blt (kk κ x) (kk κ y)=true->Q' (.done (none,n)) st)->(κ.blt (kk κ x) (kk κ y)=false->Q' (.yield (none,n+1)) st)->wpS 103 A E s (body i (none,n)) Q' st)
  (h:∀n,n0<=n->n<=R.length->(R.take n).Pairwise 428->(n=R.length∨∃x y,R[n]?=some x/\R[n-1]?=some y/\κ.blt (kk κ x) (kk κ y)=true)->Q (none,n) st):wpS 103 A E s (forIn [n0:N] (none,n0) body) Q st:=by
 subst hN;refine wpS_forRange (I:=λi c st'=>st'=st/\c=(none,i)/\n0<=i/\(R.take i).Pairwise 428) ?_ ?_ (rfl,rfl,IT _,hs)
 ·rintro i c st' hi1 hi2 ⟨rfl,rfl,h3,h4⟩;have ex:=I0 hi2;have ey:=I0 (show i-1<R.length by lia)
  refine hb i _ _ i _ 41 ex ey (λc=>h i h3 41 h4 (.inr (_,_,ex,ey,c))) (λc=>(rfl,rfl,by lia,HG 41 h4 ey ex c))
 ·rintro c st' ⟨rfl,rfl,h3,h4⟩;rw[Nat.max_eq_right hn] at h3 h4⊢;exact h _ h3 203 h4 574
theorem mj {arr:Array Keyed} {P D S:List Keyed} (e:arr.toList=P++(D++S)):(mirror arr P.length (P.length+D.length) 435).toList=P++(D.reverse++S):=by
 have sz:arr.size=P.length+(D.length+S.length):=by
  have:=congrArg List.length e
  simpa using this
 apply Jy;intro k;have q:=getElem?_mirror_all (xs:=arr) (i:=P.length) (j:=P.length+D.length) 41 k
 have q':(mirror arr P.length (P.length+D.length) 435).toList[k]?=(mirror arr P.length (P.length+D.length) 435)[k]?:=by simp
 have ga:∀i,arr[i]?=(P++(D++S))[i]?:=λi=>by rw[<-e,JQ]
 rw[q',q,ga,ga]
 by_cases c:P.length<=k/\k<P.length+D.length
 ·rw[if_pos c,IV 41,J5 41,IV 41,J5 (by rw[Jt];lia),List.getElem?_reverse 41]
  congr 1
  lia
 ·rw[if_neg c]
  by_cases c2:k<P.length
  ·rw[J5 c2,J5 c2]
  ·rw[IV 41,IV 41,IV 41,IV (by rw[Jt];lia),Jt]
structure Kp (st st':SortSt):Prop where
 kind:kindOf st'=kindOf st
 failed:failedOf st'=failedOf st
 pend:pendingOf st'=pendingOf st
def NI (κ:KeyKind) (L:List Keyed) (n:Nat):Prop:=((L.map 504).take n).Pairwise λa b=>κ.blt a b=false
theorem NI.snoc {L:List Keyed} {n:Nat} {x y:Keyed} (h1:1<=n) (h:NI κ L n) (hy:L[n-1]?=some y) (hx:L[n]?=some x) (l:κ.blt (kk κ y) (kk κ x)=false):NI κ L (n+1):=by
 have ey:(L.map 504)[n-1]?=some (kk κ y):=by rw[IQ,hy];rfl
 have ex:(L.map 504)[n]?=some (kk κ x):=by rw[IQ,hx];rfl
 unfold NI at h⊢;have e1:(L.map 504).take n=(L.map 504).take (n-1)++ [kk κ y]:=by
  have:=List.take_succ (l:=L.map 504) (i:=n-1);rw[show n-1+1=n by lia,ey] at this
  exact this
 have e2:(L.map 504).take (n+1)=(L.map 504).take n++ [kk κ x]:=by
  rw[List.take_succ,ex]
  rfl
 rw[e2,K2];refine (h,by simp,λu hu v hv=>?_)
 simp at hv;rw[hv];rw[e1] at hu h;rcases JA.mp hu with k|k
 ·have q:=(K2.mp h).2.2 u k (kk κ y) 110
  exact KeyOrd.kle_trans (O:=κ.toKeyOrd) l q
 ·simp at k;rw[k];exact l
theorem NI.falls {L:List Keyed} {n:Nat} (h:NI κ L n):(L.take n).Pairwise (λp q=>Lq κ q p):=by
 unfold NI at h;rw[<-List.map_take,KZ] at h;exact h
def CB (κ:KeyKind) (L:List Keyed) (n m:Nat):Prop:=∃(D1 D2 S:List Keyed) (a:κ.α),L=D1++(D2++S)/\D1.length+D2.length=n/\D2.length=m+1/\∀x∈D2,kk κ x=a
theorem yu {D:List Keyed} {a:κ.α} (h:∀x∈D,kk κ x=a):D.reverse.map 504=D.map (kk κ):=by
 have e1:D.map 504=List.replicate D.length a:=List.eq_replicate_iff.mpr ⟨by simp,λb hb=>by
  obtain ⟨x,hx,rfl⟩:=J2.mp hb;exact h x hx⟩
 have e2:D.reverse.map 504=List.replicate D.length a:=List.eq_replicate_iff.mpr ⟨by simp,λb hb=>by
  obtain ⟨x,hx,rfl⟩:=J2.mp hb;exact h x (List.mem_reverse.mp hx)⟩
 rw[e1,e2]
theorem nM {st:SortSt} {P L:List Keyed} {n m i j:Nat} {Q:Unit->SortSt->Prop} (e:(arrOf st).toList=P++L) (q:CB κ L n m) (ei:i=P.length+n-(m+1)) (ej:j=P.length+n)
  (h:∀st' L',Kp st st'->(arrOf st').toList=P++L'->L'.Perm L->L'.map 504=L.map 504->(∀k,n<=k->L'[k]?=L[k]?)->Q () st'):wpS 103 A E s (reverseSlice' i j) Q st:=by
 obtain ⟨D1,D2,S,a,rfl,l1,l2,al⟩:=q;refine wpS_reverse ?_;have er:(arrOf st).toList=(P++D1)++(D2++S):=by rw[e];simp
 have em:=mj er;have i1:i=(P++D1).length:=by rw[IU];lia
 have j1:j=(P++D1).length+D2.length:=by rw[IU];lia
 rw[i1,j1];refine h (setArr st (mirror (arrOf st) (P++D1).length ((P++D1).length+D2.length) (((P++D1).length+D2.length-(P++D1).length)/2))) (D1++(D2.reverse++S)) 592 ?_ ?_ ?_ λk hk=>?_
 ·rw[<-Jg];exact em
 ·exact List.Perm.append_left _ 536
 ·simp only[JJ];rw[yu al]
 ·rw[IV 41,IV (by rw[Jt];lia),IV 41,IV 41,Jt]
theorem Kp.trans {a b c:SortSt} (h1:Kp a b) (h2:Kp b c):Kp a c:=(h2.kind.trans h1.kind,h2.failed.trans h1.failed,h2.pend.trans h1.pend)
theorem qV {L:List Keyed} {n:Nat} (h:n<L.length):CB κ L (n+1) 0:=by
 refine (L.take n,[L[n]],L.drop (n+1),kk κ L[n],?_,by rw[JH];simp;lia,rfl,λx hx=>by simp at hx;rw[hx])
 have:=List.drop_eq_getElem_cons h;rw[List.singleton_append,<-this,Jj]
theorem CB.more {L:List Keyed} {n m:Nat} {x y:Keyed} (h:CB κ L n m) (hy:L[n-1]?=some y) (hx:L[n]?=some x) (e:kk κ x=kk κ y):CB κ L (n+1) (m+1):=by
 obtain ⟨D1,D2,S,a,rfl,l1,l2,al⟩:=h;have my:y∈D2:=by
  rw[IV 41,J5 41] at hy
  exact IR hy
 rw[IV 41,IV 41] at hx
 have z:n-D1.length-D2.length=0:=by lia
 rw[z] at hx;cases S with
 |nil=>simp at hx
 |cons s S=>
  simp at hx;subst hx;refine (D1,D2++ [s],S,a,by simp,by simp;lia,by simp;lia,λu hu=>?_)
  rcases JA.mp hu with k|k
  ·exact al u k
  ·simp at k;rw[k,e];exact al y my
theorem Aa {st st6:SortSt} {P L R:List Keyed} {n:Nat} {f:Unit->StateT SortSt Sem (Option Nat)} {Q:Option Nat->SortSt->Prop} (kp:Kp st st6) (e:(arrOf st6).toList=P++L) (pr:L.Perm R) (hn:n<=R.length) (ni:NI κ L n)
  (h:∀st7 M,Kp st st7->(arrOf st7).toList=P++M->M.Perm R->(M.take n).Pairwise 428->wpS 103 A E s (f ()) Q st7):wpS 103 A E s (reverseSlice' P.length (P.length+n)>>=f) Q st6:=by
 have tl:(L.take n).length=n:=by rw[JH,pr.length_eq];lia
 have er:(arrOf st6).toList=P++(L.take n++L.drop n):=by rw[Jj];exact e
 have em:=mj er;rw[tl] at em;refine wpS_bind (wpS_reverse (h _ ((L.take n).reverse++L.drop n) (kp.kind,kp.failed,kp.pend) em ?_ ?_))
 ·refine List.Perm.trans 536 ?_;rw[Jj];exact pr
 ·rw[List.take_left' (by rw[Jt,tl]),List.pairwise_reverse]
  exact ni.falls
theorem sS (hO:Br prog w A E s κ kd) {st:SortSt} {P R:List Keyed} {Q:Option Nat->SortSt->Prop} (hk:kindOf st=kd) (ka:∀x∈R,Kd κ x) (e:(arrOf st).toList=P++R) (hR:1<=R.length)
  (h:∀st' X S,Kp st st'->(arrOf st').toList=P++(X++S)->X.Pairwise 428->(X++S).Perm R->1<=X.length->Q (some X.length) st'):wpS 103 A E s (countRun' P.length R.length) Q st:=by
 have got:∀n,1<=n->n<=R.length->(R.take n).Pairwise 428->Q (some n) st:=λn h1 h2 h3=>by
  have q:=h st (R.take n) (R.drop n) 592 (by rw[Jj];exact e) h3 (by rw[Jj]) 369
  rwa [JH,Nat.min_eq_left h2] at q
 unfold countRun';refine nL ?_;try dsimp only
 refine wpS_bind (wN (κ:=κ) (R:=R) rfl (IT 1) hR ?_ (λn x y i Q' h1 hx hy ht hf=>?_) λn h1 h2 h3 h4=>?_)
 ·cases R with
  |nil=>simp
  |cons=>simp
 ·refine wpS_bind (kr hO hk ka e hx hy rfl 41 ?_)
  cases c:κ.blt (kk κ x) (kk κ y) with
  |true=>exact wpS_pure (ht c)
  |false=>exact wpS_pure (hf c)
 try dsimp only
 by_cases c1:n=R.length
 ·rw[if_pos (beq_iff_eq.mpr c1)];exact wpS_pure (got n h1 h2 h3)
 rw[if_neg (λz=>c1 (beq_iff_eq.mp z))]
 rcases h4 with h4|⟨x,y,hx,hy,lt⟩
 ·exact absurd h4 c1
 have nl:n<R.length:=by lia
 have all:∀(i j:Nat) (u v:Keyed),i<=j->j<n->R[i]?=some u->R[j]?=some v->Lq κ u v:=λi j u v hij hj hu hv=>by
  rcases Nat.lt_or_ge i j with c|c
  ·obtain ⟨l1,g1⟩:=IP.mp hu;obtain ⟨l2,g2⟩:=IP.mp hv;have q:=Kg.mp h3 i j 369 369 c
   rw[List.getElem_take,List.getElem_take,g1,g2] at q;exact q
  ·have:i=j:=by lia
   subst this;rw[hu] at hv;cases hv;exact KeyOrd.kle_refl _
 by_cases c2:n>1
 case' pos=>
  rw[if_pos c2];obtain ⟨x0,hx0⟩:∃x,R[0]?=some x:=⟨_,I0 41⟩
  refine wpS_bind (kr hO hk ka e hx0 hy rfl 41 ?_)
  try dsimp only
  cases rose:κ.blt (kk κ x0) (kk κ y) with
  |true=>exact wpS_pure (got n h1 h2 h3)
  |false=>?_
  try dsimp only
  sleep 156
  have al:∀z∈R.take n,kk κ z=kk κ x0:=λz hz=>by
   obtain ⟨k,hk'⟩:=IY.mp hz;have kn:k<n:=by
    have:=(IP.mp hk').1;rw[JH] at this
    lia
   rw[Kk kn] at hk';have a1:=all 0 k x0 z 41 kn hx0 hk'
   have a2:=all k (n-1) z y 41 41 hk' hy
   exact KeyOrd.kle_antisymm (O:=κ.toKeyOrd) (KeyOrd.kle_trans (O:=κ.toKeyOrd) a2 rose) a1
  have eq0:CB κ R n (n-1):=([],R.take n,R.drop n,kk κ x0,by simp,by rw[JH];simp;lia,by rw[JH];lia,al)
  have ni0:NI κ R n:=by
   unfold NI;rw[<-List.map_take];refine KZ.mpr (List.Pairwise.imp_of_mem (R:=λ_ _=>True) (λ{u v} hu hv _=>?_) (List.pairwise_of_forall λ_ _=>trivial))
   rw[al u hu,al v hv];exact κ.irrefl _
  have ni1:NI κ R (n+1):=ni0.snoc h1 hy hx (KeyOrd.kle_of_klt lt);refine wpS_bind (nM (κ:=κ) e eq0 41 rfl λst1 L0 kp1 e1 p1 m1 _=>?_)
  have niL:NI κ L0 (n+1):=by
   unfold NI at ni1⊢;rw[m1];exact ni1
 case' neg=>
  rw[if_neg c2];have n1:n=1:=by lia
  have ni1:NI κ R (n+1):=by
   refine NI.snoc h1 ?_ hy hx (KeyOrd.kle_of_klt lt);rw[n1];unfold NI;cases R with
   |nil=>simp
   |cons=>simp
  have kp1:Kp st st:=592;have e1:=e;have p1:=List.Perm.refl R;have niL:=ni1
 all_goals
  refine wpS_bind (sR ?_);have n2:2<=n+1:=by lia
  refine wpS_bind (wpS_mono (wpS_forRange (I:=λi c st'=>∃L m,c=(none,i,m)/\Kp st st'/\(arrOf st').toList=P++L/\L.Perm R/\NI κ L i/\CB κ L i m/\2<=i)
   (Q:=λc st'=>∃n' L m,c=(none,n',m)/\Kp st st'/\(arrOf st').toList=P++L/\L.Perm R/\NI κ L n'/\CB κ L n' m/\2<=n'/\n'<=R.length) ?ds ?de ⟨_,0,rfl,kp1,e1,p1,niL,?i0,n2⟩) ?dp)
  case i0=>
   exact qV (by rw[p1.length_eq];lia)
  case de=>
   rintro c st' ⟨L,m,rfl,kp,eL,pL,ni,eq,g1⟩;have:max (n+1) R.length=R.length:=by lia
   rw[this] at ni eq g1⊢;exact (_,L,m,rfl,kp,eL,pL,ni,eq,g1,IT _)
  case ds=>
   rintro i c st' hi1 hi2 ⟨L,m,rfl,kp,eL,pL,ni,eq,g1⟩;have hi3:i<L.length:=by rw[pL.length_eq];exact hi2
   have ex:=I0 hi3;have ey:=I0 (show i-1<L.length by lia)
   have kL:∀x∈L,Kd κ x:=λx hx=>ka x (pL.mem_iff.mp hx)
   have hk':=kp.kind.trans hk;try dsimp only
   refine wpS_bind (kr hO hk' kL eL ex ey rfl 41 ?_)
   try dsimp only
   cases c:κ.blt (kk κ L[i]) (kk κ L[i-1]) with
   |true=>
    rw[if_pos rfl]
    by_cases hm:m>0
    ·rw[if_pos hm];refine wpS_bind (nM (κ:=κ) eL eq rfl rfl λst6 L6 kp6 e6 p6 m6 g6=>wpS_pure (L6,0,rfl,kp.trans kp6,e6,p6.trans pL,?_,qV (by rw[p6.length_eq];lia),by lia))
     have:=ni.snoc 41 ey ex (KeyOrd.kle_of_klt c)
     unfold NI at this⊢;rw[m6];exact this
    ·rw[if_neg hm];exact wpS_pure (L,0,rfl,kp,eL,pL,ni.snoc 41 ey ex (KeyOrd.kle_of_klt c),qV 41,by lia)
   |false=>
    sleep 156
    refine wpS_bind (kr hO hk' kL eL ey ex 41 rfl ?_)
    try dsimp only
    cases c':κ.blt (kk κ L[i-1]) (kk κ L[i]) with
    |true=>exact wpS_pure ⟨i,L,m,rfl,kp,eL,pL,ni,eq,g1,by lia⟩
    |false=>exact wpS_pure ⟨L,m+1,rfl,kp,eL,pL,ni.snoc 41 ey ex c',eq.more ey ex (κ.total _ _ c c'),by lia⟩
  case dp=>
   rintro c st' ⟨n',L,m,rfl,kp,eL,pL,ni,eq,g1,g2⟩;try dsimp only
   by_cases hm:m>0
   case' pos=>
    rw[if_pos hm];refine wpS_bind (nM (κ:=κ) eL eq rfl rfl λst6 L6 kp6' e6 p6' m6 g6=>?_)
    have kp6:=kp.trans kp6';have p6:=p6'.trans pL;have ni6:NI κ L6 n':=by
     unfold NI at ni⊢;rw[m6];exact ni
   case' neg=>
    rw[if_neg hm];have kp6:=kp;have e6:=eL;have p6:=pL;have ni6:=ni
   all_goals
    refine Aa (κ:=κ) kp6 e6 p6 g2 ni6 λst7 M kp7 e7 p7 s7=>?_
    have rl:=p7.length_eq;have kM:∀x∈M,Kd κ x:=λx hx=>ka x (p7.mem_iff.mp hx)
    refine wpS_bind (wN (κ:=κ) (R:=M) rl.symm 41 41 s7 (λm x y i Q' h1 hx hy ht hf=>?_) λm h1 h2 h3 _=>?_)
    ·try dsimp only
     refine wpS_bind (kr hO (kp7.kind.trans hk) kM e7 hx hy rfl 41 ?_)
     cases c:κ.blt (kk κ x) (kk κ y) with
     |true=>exact wpS_pure (ht c)
     |false=>exact wpS_pure (hf c)
    ·have q:=h st7 (M.take m) (M.drop m) kp7 (by rw[Jj];exact e7) h3 (by rw[Jj];exact p7) 369
     rw[JH,Nat.min_eq_left h2] at q;exact wpS_pure q
universe z0
theorem sT {arr:Array Keyed} {B V W:List Keyed} {x:Keyed} (e:arr.toList=B++(V++x::W)):(bubble arr (B.length+V.length) V.length).toList=B++(x::(V++W)):=by
 have sz:arr.size=B.length+(V.length+(W.length+1)):=by
  have:=congrArg List.length e
  simpa using this
 apply Jy;intro k;have q:=getElem?_bubble (xs:=arr) (src:=B.length+V.length) 41 V.length 41 k
 rw[Nat.add_sub_cancel] at q;have ga:∀i,arr[i]?=(B++(V++x::W))[i]?:=λi=>by rw[<-e,JQ]
 rw[JQ,q,ga,ga,ga]
 by_cases c1:k=B.length
 ·rw[if_pos c1];subst c1;simp
 rw[if_neg c1]
 by_cases c2:B.length<k/\k<=B.length+V.length
 ·rw[if_pos c2,IV 41,J5 41,IV 41]
  have:k-B.length=(k-1-B.length)+1:=by lia
  rw[this,List.getElem?_cons_succ,J5 41]
 rw[if_neg c2]
 by_cases c3:k<B.length
 ·rw[J5 c3,J5 c3]
 ·rw[IV 41,IV 41,IV 41]
  have e1:k-B.length-V.length=(k-B.length-V.length-1)+1:=by lia
  have e2:k-B.length=(k-B.length-1)+1:=by lia
  rw[e1,List.getElem?_cons_succ,e2,List.getElem?_cons_succ,IV 41]
  congr 1
  lia
section
variable {prog:Program} {w:World} {A:Around} {E:LD} {s:Shared} {κ:KeyKind} {kd:SortKind}
theorem yw (hO:Br prog w A E s κ kd) {st:SortSt} {P D S:List Keyed} {ok n:Nat} {Q:Bool->SortSt->Prop} (hn:n=D.length) (hk:kindOf st=kd) (ka:∀x∈D,Kd κ x) (e:(arrOf st).toList=P++(D++S)) (h1:1<=ok) (h2:ok<=D.length) (hs:(D.take ok).Pairwise 428)
  (h:∀st' X,Kp st st'->(arrOf st').toList=P++(X++S)->X.Pairwise 428->X.Perm D->Q true st'):wpS 103 A E s (binarySort' P.length n ok) Q st:=by
 subst hn;unfold binarySort';refine nL ?_;try dsimp only
 have mx:max ok 1=ok:=by lia
 rw[mx];refine wpS_bind (wpS_mono (wpS_forRange (I:=λk c st'=>c=(none,())/\Kp st st'/\∃X,(arrOf st').toList=P++(X++S)/\X.Perm D/\(X.take k).Pairwise 428)
  (Q:=λc st'=>c=(none,())/\Kp st st'/\∃X,(arrOf st').toList=P++(X++S)/\X.Perm D/\X.Pairwise 428) ?s1 ?e1 ⟨rfl,⟨rfl,rfl,rfl⟩,D,e,List.Perm.refl _,hs⟩) ?p1)
 case e1=>
  rintro c st' ⟨rfl,kp,X,eX,pX,sX⟩;rw[Nat.max_eq_right h2,KY (by rw[pX.length_eq];exact IT _)] at sX
  exact (rfl,kp,X,eX,pX,sX)
 case p1=>
  rintro c st' ⟨rfl,kp,X,eX,pX,sX⟩;exact wpS_pure (h st' X kp eX sX pX)
 case s1=>
  rintro k c st' hk1 hk2 ⟨rfl,kp,X,eX,pX,sX⟩;have xl:=pX.length_eq;have kaX:∀x∈X++S,x∈X->Kd κ x:=λx _ hx=>ka x (pX.mem_iff.mp hx)
  have hkx:k<X.length:=by lia
  have ex:=I0 hkx;generalize X[k]=x at ex;have eX':(arrOf st').toList=P++X++S:=by rw[eX,Jg]
  have lt:∀{i:Nat} {y:Keyed} {Q':Option Bool->SortSt->Prop},X[i]?=some y->Q' 291 st'->wpS 103 A E s (ltAt' (P.length+k) (P.length+i)) Q' st':=λ{i y Q'} hy hq=>by
   have il:=(IP.mp hy).1;rw[ltAt'_eq];sleep 92;exact wpS_bind (kq (BU eX (by rw[J5 hkx];exact ex)) (wpS_bind (kq (BU eX (by rw[J5 il];exact hy)) (z8 hO (kp.kind.trans hk) (ka x (pX.mem_iff.mp (IR ex))) (ka y (pX.mem_iff.mp (IR hy))) hq))))
  have mono:∀{i j:Nat} {u v:Keyed},i<=j->j<k->X[i]?=some u->X[j]?=some v->Lq κ u v:=λ{i j u v} hij hj hu hv=>by
   rcases Nat.lt_or_ge i j with c|c
   ·obtain ⟨l1,g1⟩:=IP.mp hu;obtain ⟨l2,g2⟩:=IP.mp hv;have q:=Kg.mp sX i j 369 369 c
    rw[List.getElem_take,List.getElem_take,g1,g2] at q;exact q
   ·have:i=j:=by lia
    subst this;rw[hu] at hv;cases hv;exact KeyOrd.kle_refl _
  try dsimp only
  refine wpS_bind (wpS_mono (wpS_forRange (I:=λi c st''=>st''=st'/\∃l r,c=(none,l,r)/\l<=r/\r<=k/\(∀j u,j<l->X[j]?=some u->Lq κ u x)/\(∀j u,r<=j->j<k->X[j]?=some u->Lq κ x u)/\r-l+i<=k)
   (Q:=λc st''=>st''=st'/\∃l,c=(none,l,l)/\l<=k/\(∀j u,j<l->X[j]?=some u->Lq κ u x)/\(∀j u,l<=j->j<k->X[j]?=some u->Lq κ x u)) ?s2 ?e2 ⟨rfl,0,k,rfl,by lia,by lia,λj u z=>absurd z 41,λj u z z'=>absurd z' 41,by lia⟩) ?p2)
  case e2=>
   rintro c st'' ⟨rfl,l,r,rfl,a1,a2,a3,a4,a5⟩;have:l=r:=by lia
   subst this;exact (rfl,l,rfl,a2,a3,a4)
  case s2=>
   rintro i c st'' _ hi ⟨rfl,l,r,rfl,a1,a2,a3,a4,a5⟩;try dsimp only
   by_cases c:l≥r
   ·rw[if_pos c];have:l=r:=by lia
    subst this;exact wpS_pure (rfl,l,rfl,a2,a3,a4)
   ·rw[if_neg c];have ml:(l+r)/2<X.length:=by lia
    have em:=I0 ml;refine wpS_bind (lt em ?_);try dsimp only
    cases cc:κ.blt (kk κ x) (kk κ X[(l+r)/2]) with
    |true=>exact wpS_pure ⟨rfl,_,_,rfl,by lia,by lia,a3,λj u hj hj2 hu=>KeyOrd.kle_trans (KeyOrd.kle_of_klt cc) (mono hj hj2 em hu),by lia⟩
    |false=>exact wpS_pure ⟨rfl,_,_,rfl,by lia,by lia,λj u hj hu=>KeyOrd.kle_trans (mono (show j<=(l+r)/2 by lia) 41 hu em) cc,a4,by lia⟩
  case p2=>
   rintro c st'' ⟨rfl,l,rfl,a2,a3,a4⟩;try dsimp only
   have eX2:X=X.take l++((X.take k).drop l++x::X.drop 314):=by
    obtain ⟨l1,g1⟩:=IP.mp ex;have d1:X.drop k=x::X.drop (k+1):=by rw[List.drop_eq_getElem_cons l1,g1]
    have t1:X.take k=X.take l++(X.take k).drop l:=by
     sleep 209;exact q
    rw[<-d1,<-Jg,<-t1,Jj]
   have lv:((X.take k).drop l).length=k-l:=by rw[Js,JH];lia
   have lu:(X.take l).length=l:=by rw[JH];lia
   have mU:∀u∈X.take l,Lq κ u x:=λu hu=>by
    sleep 243;sleep 210;rw[lu] at jl;rw[Kk jl] at hj;exact a3 j u jl hj
   have mV:∀u∈(X.take k).drop l,Lq κ x u:=λu hu=>by
    sleep 243;sleep 210;rw[lv] at jl;rw[List.getElem?_drop,Kk 41] at hj
    exact a4 (l+j) u 41 41 hj
   have sUV:(X.take l++(X.take k).drop l).Pairwise (Lq κ):=by
    sleep 209;rw[<-q];exact sX
   generalize X.take l=U at*;generalize (X.take k).drop l=V at*;generalize X.drop 314=W at*;subst eX2;have eb:(arrOf st'').toList=(P++U)++(V++x::(W++S)):=by rw[eX];simp
   have bl:=sT eb;have l1:(P++U).length+V.length=P.length+k:=by rw[IU];lia
   rw[l1] at bl;have l2:P.length+k-(P.length+l)=V.length:=by lia
   have sp:=K2.mp sUV;refine wpS_bind ?_;show wpS _ _ _ _ (moveDown' (P.length+k) (P.length+l)) _ _;rw[moveDown'_eq];refine wpS_modify (wpS_pure (rfl,(kp.kind,kp.failed,kp.pend),U++(x::(V++W)),?_,?_,?_))
   ·show (bubble (arrOf st'') (P.length+k) (P.length+k-(P.length+l))).toList=_;rw[l2,bl];simp
   ·refine List.Perm.trans (List.Perm.append_left _ ?_) pX;exact (List.perm_middle).symm
   ·have t:U++(x::(V++W))=(U++x::V)++W:=by simp
    rw[t,List.take_left' 488,K2,Ji]
    refine (sp.1,(mV,sp.2.1),λu hu v hv=>?_)
    rcases IZ.mp hv with c|c
    ·rw[c];exact mU u hu
    ·exact sp.2.2 u hu v c
universe z0
section
variable {prog:Program} {w:World} {A:Around} {E:LD} {s:Shared} {κ:KeyKind}
theorem Br.of_one (hO:κ.OneLt):Br prog w A E s κ oneType':=by
 intro st x y Q hk hx hy h;obtain ⟨a,ha⟩:=hx;obtain ⟨b,hb⟩:=hy;have e1:kk κ x=a:=by unfold kk;rw[ha];rfl
 have e2:kk κ y=b:=by unfold kk;rw[hb];rfl
 rw[e1,e2] at h;rw[lt'_eq];sleep 92;rw[hk,keyLt'_oneType];refine wpS_bind (wpS_lift (wpAny_attempt (hO prog w A _ s x.1 y.1 a b ha hb (rfl,?_))));exact wpS_pure h
universe z0
universe So
namespace Sw
open PySem L2 XH PySem.NumText
noncomputable def sL (z:Str):List Nat:=z.cps.toList
noncomputable def HH (l:List Nat):Str:=⟨l.toArray⟩
theorem qW (z:Str):(sL z).length=z.length:=by simp[sL,Str.length]
theorem nN (x y:Str):sL (x++y)=sL x++sL y:=by
 show (x.cps++y.cps).toList=_;rw[Array.toList_append]
 rfl
theorem Fq:Str.empty=HH []:=rfl
theorem Di (z:Str) (c:Nat):(!(Builtin.Str.occurrences z (HH [c]) 0 z.length 1).isEmpty)=decide (c∈sL z):=StrLaws.found_one z c
theorem IE {b:Bool} {A B:Prop} (h1:b=false->A) (h2:b=true->B):if (!b)=true then A else B:=by
 cases b with
 |false=>exact eI (h1 rfl)
 |true=>exact gI (h2 rfl)
universe Sw
namespace L2
open PySem PySem.Spec PyProof.Rows XH
def kU (js:List Nat) (tc:TT) (te:TE) (σ:St) (Q:VK):It->Hp->Prop:=λJ H1=>∀p,H1 p=none->∃W:Nat->Nat->List V->Hp->Prop,474/\
 ∀i m ys H2,W i m ys H2->H2 p=some 232/\((J.stop i H2/\Q 148 H2)∨(J.go i H2/\ys.length<sizeLine/\∀x H3,J.yld i H2 x H3->tc (some x::aZ js σ) H3 λb H4=>
  if b=true then te (some x::aZ js σ) H4 λy H5=>H5 p=some 232/\∃m',m'<m/\W 233 m' (ys++ [y]) (aO H5 p (.lst (ys++ [y]))) else ∃m',m'<m/\W 233 m' ys H4))
def qX (wi:TI) (js:List Nat) (tc:TT) (te:TE):TE:=λσ H Q=>wi σ H (kU js tc te σ Q)
section
variable {prog:Program} {w:World} {A:Around} {R:Result->Shared->Prop} {s:Shared}
theorem sU {elt target iter cond:Expr} {scope:Scope} {pos:Pos} {it acc:Value} {env:Env} (I:Nat->Shared->Prop)
  (turn:∀n s,I n s->wpAny 103 A (pyNext it) (λr s1=>match r with
   |none=>R (.ok .next) s1
   |some v=>wpAny 103 A (letOwnedTupleGo target it v) (λ_ s2=>wpAny 103 A (assign target env v) (λ_ s3=>wpAny 103 A (isTrue cond env (eval cond env)) (λok s4=>
     if ok=true then wpAny 103 A (eval elt env) (λx s5=>wpAny 103 A (call (.builtin "list.append") [acc,x]) (λ_ s6=>∃m,m<n/\I m s6) 189 s5) 189 s4
     else ∃m,m<n/\I m s4) 189 s3) 189 s2) 189 s1) 189 s)
  (n:Nat) (h:I n s):codeAny 103 A (.compLoop 483 0 it acc env) R s:=by
 apply codeAny_loop rfl I ?_ n h;intro n s hI;show wpAny _ _ ((compTurn 483 0 it acc env).onRaise _) _ _ s;apply wpAny_noted;rw[compTurn_list];sleep 48;apply wpAny_standAt;sleep 48;refine wpAny_mono (turn n s hI) (λr s1 h1=>?_) λ_ _ z=>z.elim
 cases r with
 |none=>exact wpAny_pure h1
 |some v=>
  sleep 48;refine wpAny_mono h1 (λ_ s2 h2=>?_) λ_ _ z=>z.elim
  sleep 48;refine wpAny_mono h2 (λ_ s3 h3=>?_) λ_ _ z=>z.elim
  sleep 48;refine wpAny_mono (wpAny_tests_one h3) (λok s4 h4=>?_) λ_ _ z=>z.elim
  cases ok with
  |true=>
   sleep 48;sleep 48;refine wpAny_mono h4 (λx s5 h5=>?_) λ_ _ z=>z.elim
   sleep 48;refine wpAny_mono h5 (λ_ s6 h6=>?_) λ_ _ z=>z.elim
   exact wpAny_pure (wpAny_pure (rfl,h6))
  |false=>
   have h4':∃m,m<n/\I m s4:=h4;exact wpAny_pure (rfl,h4')
universe z0
section
variable {X:Cx} {scope:Scope} {cl:List (Str×Addr)} {own:Str} {ys:LI} {js:List Nat} {elt iter cond:Expr} {px pos:Pos} {wi:TI} {te:TE} {tc:TT}
theorem mw (hc:X.calm=true) (ok:gQ X scope cl own ys js) (hi:PI X 317 iter wi)
  (hq:∀(C:Addr) (fp:LJ) (s:Shared) (H:Hp),PT 120 cond tc)
  (he:∀(C:Addr) (fp:LJ) (s:Shared) (H:Hp),PE 120 elt te)
  (hs:∀x,foldedSetIterable iter X.env x=pure x)
  {pins:LG} {s:Shared} {σ:St} {H:Hp} {Q:VK} {use:Option 563} {QQ:LD} {pp:Pos} (I:aW X pins σ H s) (h:(qX wi js tc te) σ H Q)
  (fin:∀(p C:Addr) (s6:Shared) (H5:Hp) (v:Flow),461->179->fE X pins H5 C->Q 148 H5->compPost 114 X.A X.xe use QQ 148 C (.ok v) s6):
  wpAny 114 X.A (comprehension 164 scope X.env pp (newList []) false 558 use) QQ X.xe s:=by
 have ncell:∀y∈scope.names,y.2≠ .cell:=λy hy z=>by
  sleep 106
 have nloc:∀y∈scope.names,y.2= .local->scope.names.lookup y.1=some .local:=λy hy z=>by
  sleep 161
  simpa using q
 sleep 25
 sleep 3
 have I3:=I2.laid (a:=s2.heap.objs.size) (o:= .lst []) (h':=s2.heap.push 165) (t':=s2.toks) 532 203
  ⟨JT _,[],0,.nil,121 _ rfl⟩
 have fpo:∀b∈fp,b<s2.heap.objs.size:=λb hb=>by
  sleep 83
 sleep 20
 sleep 19
 sleep 36
 sleep 44
 sleep 8
 sleep 35
 have fpB:∀{H':Hp},462->∀b∈fp,fE 99 [] H' b:=λ{H'} hn b hb=>
  ⟨hn b hb,J6 (lt3 b hb),λz=>(IZ.mp (I3.stkSub b z)).elim (f3 b hb).2.1 (f3 b hb).2.2.1,.inl hb,λx c e=>(f3 b hb).2.2.2.2.1 x c 465,λp hp=>absurd (show p∈([]:LG) from hp) 110⟩
 have loop:codeAny 114 X.A (.compLoop 164 0 284 163 255)
   (compPost 114 X.A X.xe use QQ 163 s3.heap.objs.size) {s3 with heap:=h1,toks:=s2.toks+0}:=by
  refine sU 177 ?_ m0
   ⟨0,[],none,_,J0,t0,λb hb=>(f3 b hb).1,w0⟩
  sleep 91;rcases hw with ⟨stop,qn⟩|⟨go,hz,step⟩
  ·sleep 66
   sleep 30
  ·sleep 65
   sleep 94
   sleep 1
   subst e8 eH8;refine cu (hq _ _ _ _ _ s8 _ H8 _ I8 hst) λok s9 (H9,I9,h9)=>?_
   have frame:∀{s':Shared} {H':Hp},aW 99 ([]++nh fp s7.heap) (some x::aZ js σ) H' s'->tn 233 s'.heap/\∀b∈fp,H' b=none:=λ{s' H'} I'=>
    ⟨T.keep _ _ _ t7 λb hb o e=>(I'.pin (b,o) 341).1,λb hb=>by
     obtain ⟨o,e,d⟩:=T.obj _ _ t7 b hb;exact (I'.pin (b,o) 341).2.1⟩
   cases ok with
   |true=>
    refine cu (he _ _ _ _ _ s9 _ H9 _ I9 h9) λyv s10 (y,H10,I10,r10,hD10,m',hm,w10)=>?_
    refine cu (bG _ s10 _ H10 163 [y] 163 [yv] (λ_ H'=>H'=aO H10 s2.heap.objs.size (.lst (zs++ [y]))) I10 rfl (.cons r10 .nil) (_,zs,y,rfl,rfl,hD10,hz,rfl)) λ_ s11 (_,H11,I11,_,e11)=>?_
    subst e11;exact (m',hm,i+1,zs++ [y],some x,_,I11.unpinned,(frame I11).1,(frame I11).2,w10)
   |false=>
    obtain ⟨m',hm,w10⟩:=h9;exact (m',hm,i+1,zs,some x,_,I9.unpinned,(frame I9).1,(frame I9).2,w10)
 sleep 64
theorem kW (hc:X.calm=true) (ok:gQ X scope cl own ys js) (hi:PI X 317 iter wi)
  (hq:∀(C:Addr) (fp:LJ) (s:Shared) (H:Hp),PT 120 cond tc)
  (he:∀(C:Addr) (fp:LJ) (s:Shared) (H:Hp),PE 120 elt te)
  (hs:∀x,foldedSetIterable iter X.env x=pure x:=by intro _;rfl):PE X 164 (qX wi js tc te):=λpins s σ H Q I h=>by
 rw[eval_ListComp];exact mw hc ok hi hq he hs I h λp C s6 H5 v (m,hn) J _ q=>339
universe z0
theorem BV:typeLookup (.type "list_reverseiterator") "__len__" =pure none:=by
 rw[typeLookup_type,builtinLookup_eq_fast]
 kernel_rfl
theorem Ab:typeLookup (.type "list_reverseiterator") "__length_hint__" =pure (some (.builtin "list_reverseiterator.__length_hint__")):=by
 rw[typeLookup_type,builtinLookup_eq_fast]
 kernel_rfl
section
variable {prog:Program} {w:World} {A:Around} {R:Result->Shared->Prop} {s:Shared} {I l S:Addr} {items:Array Value}
abbrev Dj (items:Array Value):Nat->Value->Prop:=λi v=>items[items.size-1-i]?=some v
theorem va (hh:A.in1.handled=none) (hlI:l≠I) (hSI:S≠I) (hSl:S≠l) (res:Value) (c:Nat) (hit:s.heap.IsRevIter I l ((items.size:Int)-1)) (hl:s.heap.IsList l items)
  (hS:s.heap.get? S=some {cls:= .type "list",data:= .seq #[] c}) (hn:items.size<=sizeLine)
  (fin:∀s' acc c',Moved [S,I] (λa b=>b=a) s s'->s'.heap.get? S=some 433->ItemsOf (Dj items) acc items.size->R (.ok (.ret res)) s'):
  wpAny 103 A.in1 (Builtin.List.listExtendWith (.ref S) 320 res)
   (λfin s'=>match fin with| .done f=>R (.ok f) s'| .again c'=>c'.quiet=true/\codeAny (model prog w) A c' R s') (λe s'=>R (.error e) s') s:=by
 have ty:s.TypeIs 320 "list_reverseiterator" :=hit.typeIs;have ns:Builtin.List.listSameRef (.ref S) 320=false:=by
  simp[Builtin.List.listSameRef,hSI]
 unfold Builtin.List.listExtendWith;sleep 48;apply wpAny_typeOf ty;rw[if_neg (by rw[ns];decide)]
 sleep 48;apply wpAny_pyIter_revIter hit;sleep 48;apply wpAny_holding;unfold Builtin.List.listLengthHint;sleep 48;apply wpAny_specialOf ty BV;show wpAny _ _ (specialOf (Value.ref I) (Str.ofString "__length_hint__")>>=_) _ _ s;sleep 48;apply wpAny_specialOf ty Ab;generalize hid:("list_reverseiterator.__length_hint__" :String)=id0
 wp_delta
 rw[show splitId id0=some ("list_reverseiterator","__length_hint__") from by subst hid;decide+kernel]
 subst hid;sleep 48;refine wpAny_isInstance (b:=true) ty 301 ?_
 apply wpAny_pure;sleep 156
 have W:=(Walks.listRev (prog:=prog) (w:=w) hh I l hlI items).toS;have out:S∉ [I,l]:=by
  simp only[IZ,Je,or_false,not_or];exact (hSI,hSl)
 have st:(0:Nat)<=items.size/\s.heap.IsRevIter I l ((items.size:Int)-1-494)/\s.heap.IsList l items:=(JT _,by simpa using hit,hl)
 apply wpAny_pure;exists plainId_quiet PySem.F.plain_extend_loop _;exact codeAny_extend_loopS W hn S out res items.size 0 s #[] c rfl (JT _) st hS (ItemsOf.nil _) fin
theorem Ac {E:LD} {Q:LD} (hh:A.handled=none) (hlI:l≠I) (hit:s.heap.IsRevIter I l ((items.size:Int)-1)) (hl:s.heap.IsList l items) (hn:items.size<=sizeLine)
  (fin:∀h' tk acc c',(∀b o,b≠I->s.heap.get? b=some o->h'.get? b=some o)->h'.get? 96=some 433->ItemsOf (Dj items) acc items.size->Q 265 210):
  wpAny 103 A (call 459 [.ref I]) Q E s:=by
 have lI:I<s.heap.objs.size:=by
  obtain ⟨o,e,_⟩:=hit;exact Heap.lt_size e
 have ll:l<s.heap.objs.size:=by
  obtain ⟨o,e,_⟩:=hl;exact Heap.lt_size e
 refine callType_codes (Q₁:=λv s1=>v= .ref s.heap.objs.size/\s1={s with heap:=s.heap.push 388}) PySem.F.called_list (PySem.F.typeCall_list_1 _) PySem.F.entry_list_init (code_list_new _ ⟨rfl,rfl⟩) ?_
 rintro v s1 ⟨rfl,rfl⟩;have e0:(s.heap.push 388).get? 96=some {cls:= .type "list",data:= .seq #[]}:=121 _ rfl;exists (_,e0,rfl),PySem.F.args_list_init_2 _ _;show wpAny _ _ (Builtin.List.listItems 265>>=λold=>Builtin.List.listUpdate 265 (λ_=> #[])>>=λ_=>letGo old.toList.reverse>>=λ_=>Builtin.List.listExtendWith 265 320 .none) _ _ _
 sleep 48;unfold Builtin.List.listItems;sleep 48;apply wpAny_seqItems e0 rfl;apply wpAny_pure;show wpAny _ _ (updateSeq 96 (λ_=> #[])>>=λ_=>letGo (#[]:Array Value).toList.reverse>>=λ_=>Builtin.List.listExtendWith 265 320 .none) _ _ _
 sleep 48;apply wpAny_updateSeq e0 rfl;have e1:=Heap.get?_update_self (Obj.mapSeq (λ_=>577)) e0 rfl
 have old:∀b o,b≠s.heap.objs.size->s.heap.get? b=some o->((s.heap.push 388).update 96 (Obj.mapSeq (λ_=>577))).get? b=some o:=λb o hb e=>
  (Heap.get?_update_other _ _ (Ne.symm hb)).trans 566
 sleep 48;apply wpAny_letGo;refine va (A:=A.in1) (by simpa using hh) hlI (K5 lI) (K5 ll) .none _ ?_ ?_ e1 hn λs' acc c' mv eS it=>?_
 ·obtain ⟨o,e,z⟩:=hit;exact (o,old _ _ (J6 lI) e,z)
 ·obtain ⟨o,e,z⟩:=hl;exact (o,old _ _ (J6 ll) e,z)
 ·sleep 47;refine (rfl,fin h' tk' acc c' (λb o hb e=>?_) eS it)
  refine mv.heap b o ?_ (old b o (J6 228) e);simp only[IZ,Je,or_false,not_or];exact (J6 228,hb)
universe z0
theorem nO:∀{xs:List V} {us:LK},bR xs us->bR xs.reverse us.reverse
 |_,_,.nil=> .nil
 |_,_,.cons r t=>by
  rw[List.reverse_cons,List.reverse_cons];exact (nO t).append (.cons r .nil)
theorem yx {us:LK} {acc:Array Value} (h:ItemsOf (Dj us.toArray) acc us.toArray.size):acc.toList=us.reverse:=by
 obtain ⟨h1,h2⟩:=h;refine Jy λi=>?_
 by_cases hi:i<acc.size
 ·have e:=h2 i acc[i] (Jp hi);rw[JQ,Jp hi,List.getElem?_reverse (by simpa [h1] using hi)]
  simpa using e.symm
 ·rw[Jd (by simpa using hi),Jd (by rw[Jt];simp[h1] at hi;lia)]
def Fr (K:IS) (te:TE):TE:=λσ H Q=>te σ H λx H1=>∃a xs,x= .ref a/\aF K H1 a xs/\∀l,H1 l=none->Q 215 (aO H1 l (.lst xs.reverse))
section
variable {X:Cx} {e:Expr} {te:TE} {p1 p2 pos pos2:Pos}
theorem iL (hc:X.calm=true) (g1:Gl X "list") (m1:X.mg "list" =none) (g2:Gl X "reversed") (m2:X.mg "reversed" =none) (b1:bootBuiltins "list" =some 459) (b2:bootBuiltins "reversed" =some (.type "reversed")) (he:PE X e te)
  (hs:starEach [e] X.env= [259]:=by rfl):
  PE X 375 (Fr X.K te):=by
 sleep 22
 refine Ja ?_ rfl rfl;refine Calls.spliced_cons (x:=eval (.Call (.Name "reversed" p2) [e] [] pos2) X.env) (rest:= []) ?_;apply wpAny_Call_Name_kw;refine dW I g2 m2 b2 ?_ 49 49
 refine Ja ?_ hs rfl;rw[hs];refine Calls.spliced_cons (x:=eval e X.env) (rest:= []) (cu 295 λv s1 (x,H1,I1,r1,a,xs,ex,hq,q)=>?_)
 subst ex;cases r1;sleep 77;have hli:s1.heap.IsList a its.toArray:=pl.isList;have alt:a<s1.heap.objs.size:=by
  obtain ⟨o,eo,_⟩:=id hli;exact Heap.lt_size eo
 apply call_reversed_list hli;apply Calls.spliced_nil;have I2:aW X pins σ H1 {s1 with heap:=s1.heap.push (revObj a (355-1)),toks:=s1.toks}:=I1.kept λb o e=>101 _ e
 have sz:its.toArray.size=xs.length:=by rw[JD,rv.length]
 refine Ac (l:=a) (items:=its.toArray) 236 (J6 alt) 310 (hli.push _) (by rw[sz];exact hz) λh' tk acc c' kp eL itm=>?_
 have er:=yx itm;have sl:s1.heap.objs.size<=(s1.heap.push (revObj a (355-1))).objs.size:=by
  rw[Heap.size_push];exact Kb _
 refine (.ref _,_,I1.laid (a:=(s1.heap.push (revObj a (355-1))).objs.size) (o:= .lst xs.reverse) (h':=h') (t':=tk) (λb o eo=>kp b o (J6 (Heap.lt_size eo)) (101 _ eo)) sl ?_,rfl,q _ (I1.hok.fresh sl))
 exists by rw[Jt];exact hz,acc.toList,c',by rw[er];exact nO rv
 rw[Array.toArray_toList];exact eL
universe z0
noncomputable def upTo (ks:Nat->Key) (i:Nat):Key->Bool:=λk=>(JK i).any λj=>decide (ks j=k)
theorem yy (ks:Nat->Key) (i:Nat):(λk=>upTo ks i k||decide (k=ks i))=upTo ks (i+1):=by
 funext k
 unfold upTo;rw[Km,List.any_append];simp[eq_comm]
section
variable {prog:Program} {w:World} {A:Around} {R:Result->Shared->Prop} {I:Addr} {fp wr:LJ} {G:Array GenState->Array GenState->Prop} {n:Nat} {P:Nat->Value->Prop} {St:Nat->Shared->Prop}
theorem Ad (W:WalksS prog w A.in1 I fp wr G n P St) (S:Addr) (out:S∉fp) (ks:Nat->Key) (hv:∀i v,P i v->(aT prog w).is (ks i) v=true/\v.scannable=true)
  (inj:∀i,i<n->upTo ks i (ks i)=false) (hb:n+1<scanBound):∀(m i:Nat) (s:Shared),n-i=m->i<=n->St i s->s.heap.SetOf 412 S (upTo ks i) i->
   (∀s',Moved (S::wr) G s s'->s'.heap.SetOf 412 S (upTo ks n) n->R (.ok (.ret .none)) s')->codeAny 103 A 493 R s:=by
 have nw:S∉wr:=λh=>out (W.sub _ h)
 have up:∀b∈wr,b∈S::wr:=λb hb=> .tail _ hb
 have stay:∀{s1 s2:Shared} {f:Key->Bool} {c:Nat},s1.heap.SetOf 412 S f c->Moved wr G s1 s2->s2.heap.SetOf 412 S f c:=by
  rintro s1 s2 f c ⟨o,es,ep,t,ho,z⟩ mv;exact (o,es,ep,t,mv.heap S _ nw ho,z)
 intro m
 induction m with
 |zero=>
  intro i s hm hi st hS fin;have e:i=n:=by lia
  subst e;sleep 16;refine W.done s _ _ st λs' mv=>?_
  exact wpAny_pure (fin s' (mv.mono up) (stay hS mv))
 |succ m ih=>
  intro i s hm hi st hS fin;have lt:i<n:=by lia
  sleep 16;refine W.item i s _ _ lt st λv s' pv st' mv=>?_
  obtain ⟨kv,sc⟩:=hv i v pv;show wpAny _ _ (holding [v] (setAdd S v)>>=_) _ _ s';sleep 48;apply wpAny_holding;unfold setAdd;apply wpAny_holding;sleep 48;refine (aT prog w).pyHash (k:=ks i) kv ?_;refine wpAny_setAddHashed_of (knd:=aT prog w) (s:={s' with toks:=s'.toks+1}) kv sc (show Heap.SetOf 412 s'.heap S (upTo ks i) i from stay hS mv) 41 λh' same S2=>?_
  have S3:h'.SetOf 412 S (upTo ks 233) (i+1):=by
   rw[yy,inj i lt] at S2;exact S2
  apply wpAny_pure;refine (plainId_quiet F.plain_set_update_loop _,ih 233 _ 41 lt 584 S3 λs'' mv2 S4=>?_)
  ·exact (same.2 b λz=>out (z▸hb)).trans e
  ·sleep 113
universe z0
section
variable {prog:Program} {w:World} {A:Around} {E:LD} {s:Shared}
set_option maxHeartbeats 3200000 in
theorem yz {l:Addr} {items:Array Value} {ks:Nat->Key} {Q:LD} (hh:A.handled=none) (hl:s.heap.IsList l items) (hv:∀i v,items[i]?=some v->(aT prog w).is (ks i) v=true/\v.scannable=true)
  (inj:∀i,i<items.size->upTo ks i (ks i)=false) (hb:items.size+1<scanBound)
  (fin:∀(h':Heap) (tk:Nat),h'.SetOf 412 96 (upTo ks items.size) items.size->486->Q 265 210):
  wpAny 103 A (call 491 [.ref l]) Q E s:=by
 sleep 225;sleep 56
 sleep 80
 repeat any_goals first|assumption|wp_step
 refine codeAny_mono (code_set_new_1 215 (E:=E) (Q₁:=λv s1=>∃led:Bool,v= .ref s.heap.objs.size/\s1=330) λled=>⟨led,rfl,rfl⟩) λr s1 hr=>?_
 cases r with
 |error e=>exact hr
 |ok fl=>
  cases fl with
  |ret v=>
   obtain ⟨led,rfl,rfl⟩:=hr;sleep 21
   sleep 168
   repeat any_goals first|assumption|wp_step
   refine codeAny_mono (codeAny_call_builtin (R:=wants (λr s2=>r= .none/\∃h' tk,s2=210/\h'.SetOf 412 96 (upTo ks items.size) items.size/\∀b o,b<96->s.heap.get? b=some o->h'.get? b=some o) E) F.called_set.init.plain F.entry_set_init (check_set_init_1 tS ?_)) λr2 s2 hr2=>?_
   ·obtain ⟨⟨lc,ld,lx,ls⟩,hol,hcl,nl,hdl⟩:=hl;sleep 24
    sleep 55
    wp_walk
    subst hit;apply wpAny_pyIter_list il;sleep 48;sleep 117
    have nI:l≠(s.heap.push 102).objs.size:=by
     rw[Heap.size_push];exact J6 (Jh ll)
    have out:s.heap.objs.size∉ [(s.heap.push 102).objs.size,l]:=by
     sleep 240
    refine Ad ((Walks.list h3 _ l nI items).toS) 96 out ks hv inj hb items.size 0 _ rfl (JT _) (310,il.push _) ?_ ?_
    ·have e1:((s.heap.push 102).push 423).get? 96=some {cls:= .type "set",dict:=none,data:= .set #[] 0 (.fresh 0 0 led)}:=
      101 _ e0
     refine (_,#[],0,_,e1,592,rfl,(λe he=>by simp at he),(λk=>by simp[upTo]),by decide,rfl,rfl)
    ·intro s' mv S2;sleep 47;sleep 101
     sleep 93
   ·cases r2 with
    |error e=>exact hr2
    |ok fl2=>
     cases fl2 with
     |ret r=>
      obtain ⟨rfl,h',tk,rfl,S2,kp⟩:=hr2
      repeat any_goals first|assumption|wp_step
      exact fin _ _ S2 kp
     |_=>exact hr2.elim
  |_=>exact hr.elim
universe z0
def BW (K:IS) (te:TE):TE:=λσ H Q=>te σ H λx H1=>∃(a:Addr) (ks:List Key),x= .ref a/\aF K H1 a (ks.map kV)/\ks.Nodup/\ks.length<4000/\Q (.int ks.length) H1
theorem vc {ks:List Key} (nd:ks.Nodup) (i:Nat) (hi:i<ks.length):upTo (λj=>ks.getD j (.inl 0)) i (ks.getD i (.inl 0))=false:=by
 unfold upTo;rw[List.any_eq_false];intro j hj;have lj:j<i:=JZ.mp hj;simp only[JM,I0 hi,I0 (Nat.lt_trans lj hi),Option.getD_some,decide_eq_true_eq];intro e;have:=(List.getElem_inj nd).mp e
 lia
theorem sV:∀{ks:List Key} {us:LK},bR (ks.map kV) us->∀(P:Program) (w:World) (i:Nat) (v:Value),us[i]?=some v->(aT P w).is (ks.getD i (.inl 0)) v=true/\v.scannable=true
 | [],_,.nil,P,w,i,v,h=>by simp at h
 |k::ks,_,.cons r t,P,w,0,v,h=>by
  simp at h;subst h;exists nr r;cases k with
  |inl z=>obtain ⟨_,rfl⟩:=r;rfl
  |inr z=>obtain ⟨_,rfl⟩:=r;rfl
 |k::ks,_,.cons r t,P,w,i+1,v,h=>sV t P w i v 235
section
variable {X:Cx} {e:Expr} {te:TE} {p1 p2 pos pos2:Pos}
theorem yA (hc:X.calm=true) (g1:Gl X "len") (m1:X.mg "len" =none) (g2:Gl X "set") (m2:X.mg "set" =none) (b1:bootBuiltins "len" =some 351) (b2:bootBuiltins "set" =some 491) (he:PE X e te)
  (hs:starEach [e] X.env= [259]:=by rfl):
  PE X 404 (BW X.K te):=by
 sleep 22
 sleep 17
 refine Ja ?_ hs rfl;rw[hs];refine Calls.spliced_cons (x:=eval e X.env) (rest:= []) (cu 295 λv s1 (x,H1,I1,r1,a,ks,ex,hq,nd,few,q)=>?_)
 subst ex;cases r1;sleep 77;have sz:its.toArray.size=ks.length:=by rw[JD,<-rv.length,IN]
 have hli:s1.heap.IsList a its.toArray:=pl.isList;refine yz (ks:=λj=>ks.getD j (.inl 0)) 236 hli (λi v hv=>sV rv X.prog X.w i v 507) (λi hi=>vc nd i (by rw[<-sz];exact hi)) (by rw[sz];show ks.length+1<4096;lia) λh' tk S2 kp=>?_
 apply Calls.spliced_nil;obtain ⟨o,es,ep,t,ho,hx,hd,_,_,hb,hf,hn⟩:=S2;refine call_len_set ho hx hd hf (by rw[hn,sz];have:ks.length<4000:=few;lia) ?_
 refine (.int ks.length,H1,I1.kept 587,(_,by rw[hn,sz]),q)
universe z0
universe L2
namespace Sw
open PySem L2
noncomputable def CC:Str:= "abcdefghijklmnopqrstuvwxyz"
universe Sw
namespace L2
open PySem PySem.Spec PyProof.Rows XH
section
variable {X:Cx} {scope:Scope} {cl:List (Str×Addr)} {own:Str} {ys:LI} {js:List Nat} {elt iter cond:Expr} {px pos:Pos} {wi:TI} {te:TE} {tc:TT}
theorem jy {i:Nat} {y:Str} {py spos:Pos} (hN:X.N.Nodup) (hi':X.N[i]?=some y) (hy:X.env.scope.names.lookup y=some .local) (hc:X.calm=true) (ok:gQ X scope cl own ys js) (hi:PI X 317 iter wi)
  (hq:∀(C:Addr) (fp:LJ) (s:Shared) (H:Hp),PT 120 cond tc)
  (he:∀(C:Addr) (fp:LJ) (s:Shared) (H:Hp),PE 120 elt te)
  (hsw:swapsWith 164 502 spos.line X.env=pure true:=by rfl) (hs:∀x,foldedSetIterable iter X.env x=pure x:=by intro _;rfl):
  PS X (.Assign [.Name y py] 164 spos) (uK (qX wi js tc te) (bN i)):=λpins s σ H D I h=>by
 sleep 23;show wpAny _ X.A (do let _<-comprehension (.ListComp elt [⟨.Name own px,iter,[cond],0⟩] scope pos) scope X.env _ (newList []) false (eval iter X.env) (some (assign (.Name y py) X.env))) _ _ s
 exact wpAny_bind (wpAny_mono (mw hc ok hi hq he hs I h (mS hN hi' hy)) 270 λ_ _ e=>e)
universe z0
theorem Ae {X:Cx} (hu:X.A.units<cLine):iV X (compareOp .Eq) (λx y H Q=>∃a b zs,x= .ref a/\y= .ref b/\aF X.K H a zs/\aF X.K H b []/\Q (.bl zs.isEmpty) H):=by
 sleep 71;obtain ⟨a,b,zs,rfl,rfl,h1,h2,hq⟩:=h;cases rx;cases ry;sleep 228;cases r2;cases zs with
 |nil=>
  cases r1;refine SeqAt.eq_listAt (e:=λ_=>true) p1.isList p2.isList rfl hu (λj g1 g2=>absurd g1 110) ?_
  exact (.bl true,H,I,by show Value.bool _=Value.bool _;simp,hq)
 |cons z zs=>
  cases r1 with
  |cons r rr=>
   refine SeqAt.eq_list_lengthsAt p1.isList p2.isList 110 hu ?_
   exact (.bl false,H,I,rfl,hq)
universe L2
namespace Sw
open PySem L2 PyProof.Rows
theorem pM {α β:Type} {F:α->β->Prop}:∀{l:List α} {m:List β},Paired F l m->∀{i:Nat} {b:β},m[i]?=some b->∃a,l[i]?=some a/\F a b
 |_,_,.nil,i,b,h=>by simp at h
 |_,_,.cons r t,0,b,h=>by simp at h;subst h;exact (ν,r)
 |_,_,.cons r t,i+1,b,h=>by
  obtain ⟨a,h1,h2⟩:=pM t (i:=i) 235
  exact (a,by simpa using h1,h2)
theorem mW {xs:List V} {v:V} (h:xs.getLast?=some v):gD xs (-1)=some v:=by
 rw[List.getLast?_eq_getElem?] at h;have l:=(IP.mp h).1;have ix:wA 117 (-1)=some (117-1):=by
  unfold wA;sleep 156
  first
   |(rw[if_pos (by lia)];congr 1;lia)
   |(simp;lia)
 unfold gD;rw[ix];exact h
universe Sw
namespace L2
open PySem PySem.Spec PyProof.Rows XH Sw So
theorem wO:∀{acc:LK} {ks:LI},acc.length=ks.length->(∀(j:Nat) (v:Value),acc[j]?=some v->∃y t,ks[j]?=some y/\v= .str y t)->StrsAre acc ks
 | [],[],_,_=> .nil
 |v::acc,k::ks,hl,h=>by
  obtain ⟨y,t,e,rfl⟩:=h 0 v rfl;simp at e;subst e;exact .cons _ _ (wO (by simpa using hl) λj u hu=>h (j+1) u 508)
 | [],_::_,hl,_=>by simp at hl
 |_::_,[],hl,_=>by simp at hl
theorem ku:∀{us:LK} {ks:LI},StrsAre us ks->bR (ks.map V.str) us
 |_,_,.nil=> .nil
 |_,_,.cons y t h=> .cons ⟨t,rfl⟩ (ku h)
theorem sW {prog:Program} {w:World} {A:Around} {E:LD} {s:Shared} {T:String} {r d:Addr} {n:Nat} {P:Nat->Value->Prop} {OK:Heap->Prop} {R:LK->Shared->Prop} (K:PySem.W.KdlSrc prog w T r d n P OK) (hh:A.handled=none) (hok:OK s.heap) (hn:n<=sizeLine)
  (h:∀(h':Heap) (tk:Nat) (acc:Array Value),96<h'.objs.size->238->PySem.ItemsOf P acc n->R acc.toList 210):
  wpAny 103 A (collect (.ref r)) R E s:=by
 have hlt:=K.there _ hok;sleep 37;sleep 145
 sleep 6;sleep 124;have key:=PySem.W.kdl_extend (A:=A) (s:={s with heap:=s.heap.push 141})
  (R:=λ(q:Result) (s':Shared)=>∃(h':Heap) (tk:Nat) (acc:Array Value) (c:Nat),q= .ok (.ret 265)/\s'=210/\(∀b o,s.heap.get? b=some o->h'.get? b=some o)/\h'.get? 96=some 193/\PySem.ItemsOf P acc n)
  K hh (K.keep _ _ hok λb _ o e=>101 _ e) 96 (K5 hlt.1) (K5 hlt.2) 265 0 fresh
  (λh' tk acc c hk hS ha=>⟨h',tk,acc,c,rfl,rfl,λb o e=>hk b o (J6 228) 566,hS,ha⟩) hn
 have fin:∀{h':Heap} {tk c:Nat} {acc:Array Value},238->h'.get? 96=some 193->PySem.ItemsOf P acc n->R acc.toList {s with heap:=h',toks:=tk}:=
  λ{h' tk c acc} hk hS ha=>h h' tk acc (Heap.lt_size hS) hk ha
 sleep 164
 ·cases f with
  |done f=>
   obtain ⟨h',tk,acc,c,e,rfl,hk,hS,ha⟩:=x;cases e;sleep 57;exact wpAny_bind 589
  |again c₁=>
   sleep 187
   obtain ⟨h',tk,acc,c,rfl,rfl,hk,hS,ha⟩:=y;sleep 57;exact wpAny_bind 589
 ·obtain ⟨_,_,_,_,e',_⟩:=x;cases e'
universe L2
namespace So
open PySem PySem.Spec PyProof.Rows
def BX (x y:Str):Prop:=¬(y.cps.toList<x.cps.toList)
theorem yB {x y z:Str} (h1:BX x y) (h2:BX y z):BX x z:=λh=>by
 unfold BX at h1 h2;exact h1 (List.lt_of_le_of_lt (List.not_lt.mp h2) h)
theorem Af {x y:Str} (h1:BX x y) (h2:BX y x):x=y:=by
 have e:=List.le_antisymm (List.not_lt.mp h1) (List.not_lt.mp h2);cases x;cases y
 congr 1
 exact Array.toList_inj.mp e
theorem pN:∀(r:LI) (x:Str),risingS x r=true->(x::r).Pairwise BX
 | [],x,_=>by simp
 |y::r,x,h=>by
  unfold risingS at h;have h':ltCps y.cps.toList x.cps.toList=false/\risingS y r=true:=by
   simpa [J7] using h
  have ih:=pN r y h'.2;have xy:BX x y:=by
   have:=h'.1;rw[ltCps_eq] at this;exact of_decide_eq_false this
  refine Ji.mpr (λz hz=>?_,ih)
  rcases IZ.mp hz with e|e
  ·rw[e];exact xy
  ·exact yB xy ((Ji.mp ih).1 z e)
theorem pO {l:LI} (h:sortedS l=true):l.Pairwise BX:=by
 cases l with
 |nil=>simp
 |cons x r=>exact pN r x h
theorem sY {l m:LI} (h1:sortedS l=true) (h2:sortedS m=true) (p:l.Perm m):l=m:=
 List.Perm.eq_of_pairwise (λa b _ _ ha hb=>Af ha hb) (pO h1) (pO h2) p
section
variable {prog:Program} {w:World} {A:Around} {E:LD} {s:Shared} {κ:KeyKind} {kd:SortKind}
theorem yC (hO:Br prog w A E s κ kd) {a0:List Keyed} {st:SortSt} {Q:Unit->SortSt->Prop} (hk:kindOf st=kd) (hf:failedOf st=none) (hp:pendingOf st= #[]) (ha:(arrOf st).toList=a0) (k0:∀x∈a0,Kd κ x) (h64:a0.length<64)
  (h:∀st',(arrOf st').toList.Perm a0->failedOf st'=none->(arrOf st').toList.Pairwise 428->Q () st'):wpS 103 A E s sortRuns' Q st:=by
 have sz:(arrOf st).size=a0.length:=by rw[<-ha];simp
 have mr:minRun' a0.length a0.length 0=a0.length:=by
  cases n:a0.length with
  |zero=>rfl
  |succ m=>
   rw[n] at h64;rw[minRun'_succ,if_pos h64,Nat.add_zero]
 unfold sortRuns';refine nL ?_;sleep 92;dsimp only;rw[sz];change wpS _ _ _ _ (_>>=_) _ _;have mr':(sortPriv% PySem.Builtin.minRun) a0.length a0.length 0=a0.length:=mr;rw[mr'];refine wpS_bind (wpS_mono (wpS_forRange (I:=λx c st'=>(x=0/\c=(none,0)/\st'=st)∨(c=(none,a0.length)/\(arrOf st').toList.Perm a0/\failedOf st'=none/\(arrOf st').toList.Pairwise 428/\(pendingOf st').size<=1))
  (Q:=λc st'=>∃lo,c=(none,lo)/\(arrOf st').toList.Perm a0/\failedOf st'=none/\(arrOf st').toList.Pairwise 428/\(pendingOf st').size<=1) ?s1 ?e1 (.inl ⟨rfl,rfl,rfl⟩)) ?p1)
 case e1=>
  rintro c st' (⟨h0,rfl,rfl⟩|⟨rfl,z⟩)
  ·have z0:a0= []:=JS 41
   refine (ν,by rw[ha],hf,by rw[ha,z0];exact Kf,by rw[hp];decide)
  ·exact (ν,z)
 case p1=>
  rintro c st' ⟨lo,rfl,p1,p2,p3,p4⟩;try dsimp only
  refine wpS_bind (wpS_mono (wpS_forRange (I:=λx c st''=>c=(none,())/\st''=st') (Q:=λc st''=>c=(none,())/\st''=st') ?s4 (λ_ _ z=>z) 305) ?p4)
  case s4=>
   rintro x c st'' _ hx ⟨rfl,rfl⟩;sleep 92;rw[if_pos p4];exact wpS_pure 305
  case p4=>
   rintro c st'' ⟨rfl,rfl⟩;exact wpS_pure (h _ p1 p2 p3)
 case s1=>
  rintro x c st1 _ hx (⟨h0,rfl,rfl⟩|⟨rfl,z⟩)
  ·try dsimp only
   rw[if_neg 41]
   have e0:(arrOf st1).toList= []++a0:=by simpa using ha
   refine wpS_bind (sS hO (P:= []) (R:=a0) hk k0 e0 41 λst3 X3 S3 kp3 e3 s3 p3 l3=>?_)
   try dsimp only
   have n3:X3.length+S3.length=a0.length:=by rw[<-IU];exact p3.length_eq
   have pe3:pendingOf st3= #[]:=kp3.pend.trans hp
   by_cases cm:X3.length<a0.length
   ·rw[if_pos cm];refine wpS_bind (sR (wpS_bind (yw hO (P:= []) (D:=X3++S3) (S:= []) (by rw[IU,n3];lia) (kp3.kind.trans hk) (λx hx=>k0 x (p3.mem_iff.mp hx)) (by rw[Jw];exact e3) l3 (by rw[IU];lia) (by rw[List.take_left];exact s3) λst4 X4 kp4 e4 s4 p4=>?_)))
    simp only[KR,Jr,if_false];sleep 92;have pe4:pendingOf st4= #[]:=kp4.pend.trans pe3;have e4':(arrOf st4).toList=X4:=by simpa using e4
    split
    ·rename_i q;have q':(pendingOf st4).back?=some _:=q;rw[pe4] at q';cases q'
    ·refine wpS_bind 542
     ·rw[Nat.zero_add,Nat.sub_zero,Nat.min_self]
     ·show (arrOf st4).toList.Perm a0;rw[e4'];exact p4.trans p3
     ·exact kp4.failed.trans (kp3.failed.trans hf)
     ·show (arrOf st4).toList.Pairwise 428;rw[e4'];exact s4
     ·show ((pendingOf st4).push _).size<=1;rw[pe4];exact IT 1
   ·rw[if_neg cm];sleep 92;have S0:S3= []:=JS 41
    subst S0;have e3':(arrOf st3).toList=X3:=by simpa using e3
    split
    ·rename_i q;have q':(pendingOf st3).back?=some _:=q;rw[pe3] at q';cases q'
    ·refine wpS_bind 542
     ·have:X3.length=a0.length:=by simpa using n3
      rw[Nat.zero_add,this]
     ·show (arrOf st3).toList.Perm a0;rw[e3']
      simpa using p3
     ·exact kp3.failed.trans hf
     ·show (arrOf st3).toList.Pairwise 428;rw[e3'];exact s3
     ·show ((pendingOf st3).push _).size<=1;rw[pe3];exact IT 1
  ·try dsimp only
   rw[if_pos 203];exact wpS_pure (ν,z)
universe z0
universe So
namespace L2
open PySem PySem.Spec PyProof.Rows XH Sw So
theorem yD {α β:Type} {g:α->β} {k:β->α} (hk:∀a,k (g a)=a) {l:List β} {as:List α} (h:l.Perm (as.map g)):∃bs:List α,bs.Perm as/\l=bs.map g:=by
 exists l.map k,?_
 ·have:=h.map k;rw[JB] at this;have e:as.map (k ∘ g)=as:=by
   conv=>rhs;rw[<-List.map_id as]
   exact K6 λa _=>hk a
  rw[e] at this;exact this
 ·rw[JB]
  conv=>lhs;rw[<-List.map_id l]
  refine K6 λx hx=>?_
  obtain ⟨a,_,rfl⟩:=J2.mp (h.mem_iff.mp hx);show g a=g (k (g a));rw[hk]
theorem sZ {prog:Program} {w:World} {A:Around} {E:LD} {s:Shared} {r:Addr} {its:LK} {n:Nat} {R:LK->Shared->Prop} (hr:s.heap.get? r=some (seqObj "list" its.toArray n)) (hn:its.length<=sizeLine)
  (h:∀h':Heap,96<h'.objs.size->238->R its 266):wpAny 103 A (collect (.ref r)) R E s:=by
 sleep 37;sleep 145
 sleep 6;sleep 124;have key:=wpAny_extend_seq (A:=A) (s:={s with heap:=s.heap.push 141}) (prog:=prog) (w:=w)
  (R:=λ(q:Result) (s':Shared)=>q= .ok (.ret 265)/\s'={s with heap:=(s.heap.push 141).update 96 326})
  96 r 265 0 574 fresh (101 _ hr) rfl rfl ⟨rfl,rfl⟩ (by simpa using hn)
 have at_:=Heap.get?_update_self 326 fresh rfl;have fin:R its {s with heap:=(s.heap.push 141).update 96 326}:=by
  refine h _ (by rw[Heap.size_update,Heap.size_push];exact Ke _) λb o e=>?_
  exact (Heap.get?_update_other _ _ (K5 228)).trans 566
 have ei:(577++its.toArray).toList=its:=by simp
 have fin':R (577++its.toArray).toList {s with heap:=(s.heap.push 141).update 96 326}:=by rw[ei];exact fin
 sleep 164
 ·cases f with
  |done f=>
   obtain ⟨e,rfl⟩:=x;cases e;sleep 57;exact wpAny_bind (wpAny_load at_ (wpAny_pure fin'))
  |again c₁=>
   sleep 187
   obtain ⟨rfl,rfl⟩:=y;sleep 57;exact wpAny_bind (wpAny_load at_ (wpAny_pure fin'))
 ·exact absurd x.1 110
universe L2
namespace Hm
abbrev Ky:=List Int
noncomputable def gn:Ky->Ky->Bool
 | [],[]=>false
 | [],_::_=>true
 |_::_,[]=>false
 |a::as,b::bs=>if a=b then gn as bs else decide (a<b)
theorem dZ:∀a:Ky,gn a a=false
 | []=>rfl
 |a::as=>by unfold gn;rw[if_pos rfl];exact dZ as
theorem jz:∀{a b c:Ky},gn a b=true->gn b c=true->gn a c=true
 | [],[],_,h,_=>by cases h
 | [],_::_,[],_,h=>by cases h
 | [],_::_,_::_,_,_=>rfl
 |_::_,[],_,h,_=>by cases h
 |_::_,_::_,[],_,h=>by cases h
 |a::as,b::bs,c::cs,h1,h2=>by
  unfold gn at h1 h2⊢
  by_cases ab:a=b
  ·subst ab;rw[if_pos rfl] at h1
   by_cases ac:a=c
   ·rw[if_pos ac] at h2⊢;exact jz h1 h2
   ·rw[if_neg ac] at h2⊢;exact h2
  ·rw[if_neg ab] at h1;have l1:=of_decide_eq_true h1
   by_cases bc:b=c
   ·subst bc;rw[if_neg ab];exact h1
   ·rw[if_neg bc] at h2;have l2:=of_decide_eq_true h2;rw[if_neg 41]
    exact decide_eq_true 41
theorem jA:∀{a b:Ky},gn a b=false->gn b a=false->a=b
 | [],[],_,_=>rfl
 | [],_::_,h,_=>by cases h
 |_::_,[],_,h=>by cases h
 |a::as,b::bs,h1,h2=>by
  unfold gn at h1 h2
  by_cases ab:a=b
  ·subst ab;rw[if_pos rfl] at h1 h2;rw[jA h1 h2]
  ·rw[if_neg ab] at h1;rw[if_neg (Ne.symm ab)] at h2;have l1:=of_decide_eq_false h1;have l2:=of_decide_eq_false h2
   lia
theorem pP {a b:Ky} (h:gn a b=true):gn b a=false:=by
 cases c:gn b a with
 |false=>rfl
 |true=>
  have z:=jz h c;rw[dZ] at z;cases z
theorem yE {a b c:Ky} (h1:gn a b=false) (h2:gn b c=false):gn a c=false:=by
 cases k:gn a c with
 |false=>rfl
 |true=>
  cases m:gn b a with
  |true=>rw[jz m k] at h2;cases h2
  |false=>rw[jA h1 m] at k;rw[k] at h2;cases h2
def Rs (l:List Ky):Prop:=l.Pairwise λa b=>gn b a=false
open PySem PySem.SeqAt PySem.MeetsSeq
def Nums:List Int->LK->Prop
 | [],[]=>True
 |k::ks,u::us=>(∃t,u= .int k t)/\Nums ks us
 |_,_=>False
theorem Nums.len:∀{ks:List Int} {us:LK},Nums ks us->ks.length=us.length
 | [],[],_=>rfl
 |_::_,_::_,h=>by rw[JN,JN,Nums.len h.2]
 | [],_::_,h=>h.elim
 |_::_,[],h=>h.elim
universe Hm
namespace L2
open PySem PySem.Spec PyProof.Rows XH Sw So Hm
def Th (b:Bool) (H:Hp) (v:V) (k:Ky):Prop:=match b with
 |false=>∃i:Int,v= .int i/\k= [i]
 |true=>∃a:Addr,v= .ref a/\H a=some 383/\k≠ []/\k.length<=sizeLine
theorem mX:∀{ks:List Int} {us:LK},bR (ks.map V.int) us->Nums ks us
 | [],_,h=>by cases h;trivial
 |k::ks,_,h=>by
  cases h with
  |cons r t=>exact ⟨r,mX t⟩
theorem BY {i j:Int}:gn [i] [j]=decide (i<j):=by
 unfold gn
 by_cases c:i=j
 ·rw[if_pos c];exact (decide_eq_false 41).symm
 ·rw[if_neg c]
noncomputable def dA (b:Bool) (nm:Addr->Option Ky):PyProof.Rows.KeyKind where
 α:=Ky
 blt:=gn
 irrefl:=dZ
 trans _ _ _:=jz
 negTrans a c d h:=by
  cases k:gn a c with
  |true=>exact .inl rfl
  |false=>
   cases m:gn c d with
   |true=>exact .inr rfl
   |false=>rw[yE k m] at h;cases h
 total _ _:=jA
 keyOf v:=match b,v with|false,.int i _=>some [i]|true,.ref a=>nm a|_,_=>none
 dflt:= []
theorem Ag {nm:Addr->Option Ky} {v:Value} {k:Ky} (h:(dA false nm).keyOf v=some k):∃i t,v= .int i t/\k= [i]:=by
 cases v with
 |int i t=>cases h;exact (i,t,rfl,rfl)
 |_=>cases h
theorem Ah {nm:Addr->Option Ky} {v:Value} {k:Ky} (h:(dA true nm).keyOf v=some k):∃a,v= .ref a/\nm a=some k:=by
 cases v with
 |ref a=>exact ⟨a,rfl,h⟩
 |_=>cases h
def yF (h:Heap) (a:Addr) (k:Ky):Prop:=∃(o:Obj) (us:LK) (n:Nat),h.get? a=some o/\o.cls= .type "tuple" /\o.data= .seq us.toArray n/\Nums k us
section
variable {prog:Program} {w:World} {A:Around} {E:LD} {s:Shared}
theorem Ai {nm:Addr->Option Ky}:(dA false nm).OneLt:=by
 intro prog w A E s x y a b Q ha hb h;obtain ⟨i,t,rfl,rfl⟩:=Ag ha;obtain ⟨j,u,rfl,rfl⟩:=Ag hb;have h':Q (gn [i] [j]) s:=h;rw[BY] at h';exact oneLt_int h'
theorem yG {b:Bool} {i j:Int} {t u:Tok} {Q:Bool->Shared->Prop} (h:Q (decide (i<j)) s):wpAny 103 A (oneLt' b (.int i t) (.int j u)) Q E s:=by
 cases b with
 |true=>exact oneLt_int h
 |false=>
  rw[oneLt'_eq,if_neg 49]
  exact wpAny_bind (wpAny_lt_int (wpAny_truthy_bool h))
theorem tz {fin:Bool} {Q:Bool->Shared->Prop}:∀{ks ls:List Int} {us ws:LK} {i:Nat},Nums ks us->Nums ls ws->fin=decide (ks.length<ls.length)->Q (gn ks ls) s->PySem.W.KatLex prog w A true fin Q (us.zip ws) i s
 | [],[],[],[],i,_,n2,hf,q=>by
  have e:fin=gn [] []:=hf;rw[<-e] at q;exact PySem.W.kat_nil q
 | [],l::ls,[],v::ws,i,_,n2,hf,q=>by
  have e:fin=gn [] (l::ls):=by rw[hf];simp[gn]
  rw[<-e] at q;exact PySem.W.kat_nil q
 |k::ks,[],u::us,[],i,n1,n2,hf,q=>by
  have e:fin=gn (k::ks) []:=by rw[hf];simp[gn]
  rw[<-e] at q;exact PySem.W.kat_nil q
 |k::ks,l::ls,u::us,v::ws,i,⟨⟨t,hu⟩,n1⟩,⟨⟨t',hv⟩,n2⟩,hf,q=>by
  subst hu hv;rw[List.zip_cons_cons];refine PySem.W.kat_cons (SeqAt.EqAt.int_int k t l t' _ _ _ _ ?_);unfold gn at q
  by_cases c:k=l
  ·rw[if_pos c] at q;rw[show (k==l)=true from beq_iff_eq.mpr c]
   exact PySem.W.kat_yes (tz n1 n2 (by rw[hf];simp) q)
  ·rw[if_neg c] at q;rw[show (k==l)=false from beq_eq_false_iff_ne.mpr c]
   exact PySem.W.kat_no (yG q)
 |_::_,_,[],_,_,n1,_,_,_=>n1.elim
 | [],_,_::_,_,_,n1,_,_,_=>n1.elim
 |_,_::_,_,[],_,_,n2,_,_=>n2.elim
 |_,[],_,_::_,_,_,n2,_,_=>n2.elim
theorem Aj {nm:Addr->Option Ky} (tup:∀a k,nm a=some k->yF s.heap a k):Br prog w A E s (dA true nm) (tuples' true):=by
 intro st x y Q hk hx hy h;obtain ⟨ka,ha⟩:=hx;obtain ⟨kb,hb⟩:=hy;have e1:kk (dA true nm) x=ka:=by unfold kk;rw[ha];rfl
 have e2:kk (dA true nm) y=kb:=by unfold kk;rw[hb];rfl
 rw[e1,e2] at h;obtain ⟨a,xa,ea⟩:=Ah ha;obtain ⟨b,xb,eb⟩:=Ah hb;obtain ⟨o1,us,n1,g1,c1,d1,m1⟩:=tup a ka ea;obtain ⟨o2,ws,n2,g2,c2,d2,m2⟩:=tup b kb eb;rw[lt'_eq];sleep 92;rw[hk,xa,xb];refine wpS_bind (wpS_lift (wpAny_attempt (PySem.W.kat_lt (b:=true) g1 d1 g2 d2 ?_)));exact tz m1 m2 (by rw[m1.len,m2.len];simp) (rfl,wpS_pure h)
theorem yH {us us':LK} (p:us.Perm us'):∀{xs:List V},bR xs us->∃xs':List V,xs'.Perm xs/\bR xs' us':=by
 induction p with
 |nil=>exact λ{xs} h=>⟨xs,.refl _,h⟩
 |cons u p ih=>
  intro xs h;cases h with
  |cons r t=>
   obtain ⟨xs',p',v'⟩:=ih t;exact (_::xs',p'.cons _,.cons r v')
 |swap u v l=>
  intro xs h;cases h with
  |cons r t=>
   cases t with
   |cons r2 t2=>exact ⟨_::_::_,.swap _ _ _,.cons r2 (.cons r t2)⟩
 |trans p q ih1 ih2=>
  intro xs h;obtain ⟨x1,p1,v1⟩:=ih1 h;obtain ⟨x2,p2,v2⟩:=ih2 v1;exact (x2,p2.trans p1,v2)
theorem kat_firsts {h:Heap} {nm:Addr->Option Ky} (tup:∀a k,nm a=some k->yF h a k/\k≠ []):∀{vs:LK},(∀v∈vs,∃x k,v= .ref x/\nm x=some k)->∃fs:LK,PySem.W.KatTups h vs fs/\fs.length=vs.length/\∀f∈fs,∃i t,f= .int i t
 | [],_=>⟨[],trivial,rfl,by simp⟩
 |v::vs,hv=>by
  obtain ⟨fs,k1,k2,k3⟩:=kat_firsts tup (vs:=vs) λu hu=>hv u (J9 _ hu)
  obtain ⟨x,k,rfl,e⟩:=hv v 110
  obtain ⟨⟨o,us,n,g,c,d,m⟩,ne⟩:=tup x k e
  match k,us,m,ne with
  | [],_,_,ne=>exact absurd rfl ne
  |i::k,u::us,⟨⟨t,hu⟩,m⟩,_=>
   subst hu;refine (.int i t::fs,((x,o,_,n,rfl,g,c,d,by simp),k1),by simp[k2],λf hf=>?_)
   rcases IZ.mp hf with e|e
   ·exact (i,t,e)
   ·exact k3 f e
theorem yI (M:Model) (h:Heap) (i:Int) (t:Tok):PySem.W.Looks M h (typeOf (.int i t)) (.type "int"):=PySem.W.Looks.of_pure rfl
theorem tD {nm:Addr->Option Ky}:∀{vs:LK},(∀v∈vs,∃k,(dA false nm).keyOf v=some k)->∃ns:List Int,IntsAre vs ns
 | [],_=>⟨[],.nil⟩
 |v::vs,h=>by
  obtain ⟨ns,hn⟩:=tD (vs:=vs) λu hu=>h u (J9 _ hu)
  obtain ⟨k,hk⟩:=h v 110
  obtain ⟨i,t,rfl,_⟩:=Ag hk;exact (i::ns,.cons _ _ hn)
noncomputable def sk (b:Bool):SortKind:=match b with|false=>oneType'|true=>tuples' true
theorem Ak:∀us:LK,us.zip us=us.map λu=>(u,u)
 | []=>rfl
 |u::us=>by rw[List.zip_cons_cons,Ak us];rfl
theorem CD {b:Bool} {nm:Addr->Option Ky} {f:V->Ky}:∀{xs:List V} {us:LK},bR xs us->(∀x∈xs,∀u,RelV x u->(dA b nm).keyOf u=some (f x))->(us.map λu=>(u,u)).Pairwise (Lq 506)->Rs (xs.map f)
 | [],_,_,_,_=>Kf
 |x::xs,_,h,hk,hs=>by
  cases h with
  | @cons _ u _ us r t=>
   rw[JU] at hs;obtain ⟨h1,h2⟩:=Ji.mp hs;refine Ji.mpr (λk hk'=>?_,CD t (λy hy=>hk y (J9 _ hy)) h2)
   obtain ⟨y,hy,rfl⟩:=J2.mp hk';obtain ⟨i,hi⟩:=IY.mp hy;obtain ⟨v,hv,rv⟩:=bR.get t hi;have q:=h1 (v,v) (J2.mpr (v,IR hv,rfl));have e1:kk 506 (u,u)=f x:=by unfold kk;rw[hk x 110 u r];rfl
   have e2:kk 506 (v,v)=f y:=by unfold kk;rw[hk y (J9 _ hy) v rv];rfl
   have q':gn (kk 506 (v,v)) (kk 506 (u,u))=false:=q;rw[e1,e2] at q';exact q'
universe z0
universe L2
namespace Sw
open PySem L2 XH
structure HI (P:Program) (w:World) (K:IS) (mg:LF) (base:Heap) (CX:wu) (k:Nat) (f:Addr) (ps:LI) (dvs:List V) (sp:Sp) where
 fd:FuncData
 ok:bI P w K mg base CX k f fd ps sp
 b:Binds K fd ps []
 bd:∃ds,Binds K fd ps ds/\bR dvs ds
section
variable {X:Cx} {k j:Nat} {f C:Addr} {ps:LI} {sp:Sp} {dvs:List V} {x m:Str} {p pos apos:Pos} {e o:Expr} {es:List Expr} {ta tb:TE} {t:TA}
theorem Dk (M:Mk X.K C f) (D:HI X.prog X.w X.K X.mg X.base bD k f ps dvs sp) (hr:fF j X.A) (hk:k+1<=j) (hg:Gl X x) (hm:X.mg x=some (.ref C)) (ha:PA X (e::es) t) (hdb:285=false:=by decide)
  (he:starEach (e::es) X.env=(false,eval e X.env)::starEach es X.env:=by rfl) (hpl:(backTo pos 407).any 199=false:=by rfl):PE X 421 (Cw C sp [] E0 t):=
 BE M D.ok (hr.mono hk) hg hm D.b .nil Cz ha hdb he hpl
universe z0
universe Sw
namespace L2
open PySem PySem.Spec PyProof.Rows XH
section
variable {X:Cx} {scope:Scope} {cl:List (Str×Addr)} {own:Str} {ys:LI} {js:List Nat} {elt iter:Expr} {px pos:Pos} {wi:TI} {te:TE}
theorem gR {i:Nat} {y:Str} {py spos:Pos} (hN:X.N.Nodup) (hi':X.N[i]?=some y) (hy:X.env.scope.names.lookup y=some .local) (hc:X.calm=true) (ok:gQ X scope cl own ys js) (hi:PI X 317 iter wi)
  (he:∀(C:Addr) (fp:LJ) (s:Shared) (H:Hp),PE 120 elt te)
  (hsw:swapsWith 113 502 spos.line X.env=pure true:=by rfl) (hs:∀x,foldedSetIterable iter X.env x=pure x:=by intro _;rfl):
  PS X (.Assign [.Name y py] 113 spos) (uK (pJ wi js te) (bN i)):=λpins s σ H D I h=>by
 sleep 23;sleep 67
 exact wpAny_bind (wpAny_mono (pK hc ok hi he hs I h (mS hN hi' hy)) 270 λ_ _ e=>e)
universe z0
variable {X:Cx}
theorem tE:∀{ws:LI} {us:LK},bR (ws.map V.str) us->StrsAre us ws
 | [],_,h=>by cases h;exact .nil
 |w::ws,_,h=>by
  cases h with
  |cons r rr=>
   obtain ⟨t,rfl⟩:=r;exact .cons _ _ (tE rr)
theorem BZ:Hq X "str.join" (λx vs H Q=>∃z a ws,x= .str z/\vs= [.ref a]/\aF X.K H a (ws.map V.str)/\z.length<=16/\(ws.map (λx=>x.length)).sum+ws.length<=1048576/\Q (.str (Txt.join z ws)) H):=by
 sleep 138;obtain ⟨z,a,ws,rfl,rfl,hS,hz,hl,q⟩:=h;obtain ⟨t,rfl⟩:=rx;obtain ⟨u,rfl,ru⟩:=vals1 rv;cases ru;obtain ⟨its,r,p,_⟩:=I.list hS;exact join_listW p.isList (by simpa using tE r) hz hl λt' k=>(.str _,H,I.tok _,⟨ν⟩,q)
universe L2
namespace Sw
open PySem L2 XH PySem.NumText
universe Sw
namespace L2
open PySem PySem.Spec PyProof.Rows XH Sw So Hm
theorem Al {X:Cx} (hu:X.A.units<cLine):iV X (compareOp .NotEq) (λx y H Q=>∃a b zs,x= .ref a/\y= .ref b/\aF X.K H a zs/\aF X.K H b []/\Q (.bl (!zs.isEmpty)) H):=by
 sleep 71;obtain ⟨a,b,zs,rfl,rfl,h1,h2,hq⟩:=h;cases rx;cases ry;sleep 228;cases r2;cases zs with
 |nil=>
  cases r1;refine SeqAt.RcNeAt.lists (e:=λ_=>true) p1.isList p2.isList rfl hu (λj g1 g2=>absurd g1 110) _ _ _ _ ?_
  exact (.bl false,H,I,by show Value.bool _=Value.bool _;simp,hq)
 |cons z zs=>
  cases r1 with
  |cons r rr=>
   refine SeqAt.RcNeAt.lists_lengths p1.isList p2.isList 110 hu _ _ _ _ ?_
   exact (.bl true,H,I,rfl,hq)
theorem tF {xs:List V} {c:Nat} (h:c<=117):jY xs (some (c:Int)) none=xs.drop c:=by
 have e1:HT.dH 117 0 (some (c:Int))=c:=by
  show 331=c
  rw[if_neg 41]
  lia
 have e2:HT.dH 117 117 none=xs.length:=rfl;unfold jY;rw[e1,e2,KY (by rw[Js];lia)]
universe L2
namespace Sw
open PySem L2 XH Hm
theorem wP {n j:Nat} (h:j<n):wA n (j:Int)=some j:=by
 unfold wA;rw[if_pos 41,if_pos 41]
 rfl
theorem cT {xs:List V} {i:Nat} {v:V} (h:xs[i]?=some v):gD xs 131=some v:=by
 rw[Jl];exact bg h
def Fl (l:Addr) (H H':Hp):Prop:=∀a o,a≠l->H a=some o->H' a=some o
theorem Fl.refl (l:Addr) (H:Hp):Fl l H H:=λ_ _ _ h=>h
theorem Fl.trans {l:Addr} {H H1 H2:Hp} (a:Fl l H H1) (b:Fl l H1 H2):Fl l H H2:=λc o n h=>b c o n (a c o n h)
theorem Fl.of {l:Addr} {H H':Hp} (g:aC H H'):Fl l H H':=λa o _ h=>g a o h
theorem Fl.put (l:Addr) (H:Hp) (o:HO):Fl l H (aO H l o):=λa u n h=>by rw[aR n];exact h
universe Sw
namespace L2
open PySem PySem.Spec PyProof.Rows XH Sw Hm
theorem Am {K:IS} {a:Addr} {xs:List V} {js:List Nat} {te:TE} {σ:L2.St} {H1:Hp} {Q:VK} (P:Hp->V->V->Hp->Prop) (hS:aF K H1 a xs) (hz:xs.length<=sizeLine)
  (step:∀x∈xs,∀H3,aC H1 H3->∀Q':VK,(∀y H4,P H3 x y H4->aC H3 H4->Q' y H4)->te (some x::aZ js σ) H3 Q')
  (fin:∀(p:Addr) (ys:List V) (H':Hp),H1 p=none->ys.length=117->(∀(i:Nat) (x y:V),xs[i]?=some x->ys[i]?=some y->∃H3 H4,aC H1 H3/\H3 p≠none/\P H3 x y H4/\∀b o,b≠p->H4 b=some o->H' b=some o)->aC H1 H'->H' p=some 232->Q 148 H'):nD js te σ Q (Bp K a) H1:=by
 intro p hp;exists λi m ys H2=>i<=xs.length/\m=117-i/\ys.length=i/\(∀(i:Nat) (x y:V),xs[i]?=some x->ys[i]?=some y->∃H3 H4,aC H1 H3/\H3 p≠none/\P H3 x y H4/\∀b o,b≠p->H4 b=some o->H2 b=some o)/\aC H1 H2/\H2 p=some 232,(117,JT _,rfl,rfl,λi x y _ e=>by simp at e,Sw.ao hp _,au)
 sleep 171;have S2:=g.seq hS
 by_cases hin:i<117
 ·refine .inr ((xs,xs[i],S2,I0 hin),by lia,λx H3 hy=>?_)
  sleep 236;have ex:=hx xs S2;refine step x (IR ex) H3 g _ λy H4 py g4=>(g4 _ _ e,117-233,by lia,hin,rfl,by simp[hl],λj x' y' e1 e2=>?_,Sw.eZ (g.trans g4) hp _,au)
  by_cases hj:j<ys.length
  ·rw[J5 hj] at e2;obtain ⟨A,B,q1,q2,q3,q4⟩:=hP j x' y' e1 e2;sleep 232
  ·have ej:j=i:=by
    have:=(IP.mp e2).1;simp at this
    lia
   subst ej;rw[IV 41,hl] at e2
   simp at e2;subst e2;rw[ex] at e1;cases e1;exact (H3,H4,g,by rw[e];exact nofun,py,λb o n q=>by rw[aR n];exact q)
 ·have e2:i=xs.length:=by lia
  subst e2;exact .inl ((xs,S2,IT _),fin p ys H2 hp hl hP g e)
universe L2
namespace Sw
open PySem L2 XH Hm
def eJ {α:Type} (R:Addr->α->Prop) (as:LJ) (xs:List α):Prop:=as.length=xs.length/\∀(i:Nat) (a:Addr) (x:α),as[i]?=some a->xs[i]?=some x->R a x
theorem eJ.imp {α:Type} {R S:Addr->α->Prop} {as:LJ} {xs:List α} (h:eJ R as xs) (f:∀a x,R a x->S a x):eJ S as xs:=(h.1,λi a x e1 e2=>f a x (h.2 i a x e1 e2))
theorem eJ.get {α:Type} {R:Addr->α->Prop} {as:LJ} {xs:List α} (h:eJ R as xs) {i:Nat} {x:α} (e:xs[i]?=some x):∃a,as[i]?=some a/\R a x:=by
 have il:i<as.length:=by rw[h.1];exact (IP.mp e).1
 exact (_,I0 il,h.2 i _ x 549 e)
theorem eJ.nil {α:Type} {R:Addr->α->Prop}:eJ R [] ([]:List α):=(rfl,λi a x e=>by simp at e)
theorem eJ.snoc {α:Type} {R:Addr->α->Prop} {as:LJ} {xs:List α} (h:eJ R as xs) {a:Addr} {x:α} (r:R a x):eJ R (as++ [a]) (xs++ [x]):=by
 refine (by simp[h.1],λi b y e1 e2=>?_)
 have il:=(IP.mp e1).1
 by_cases c:i<as.length
 ·sleep 157
  exact h.2 i b y e1 e2
 ·have ei:i=as.length:=by simp at il;lia
  subst ei;rw[IV 203] at e1;rw[IV (by rw[h.1];exact IT _),h.1] at e2
  simp at e1 e2;subst e1 e2;exact r
def bn (H:Hp) (l:Addr) (ks:List Ky):Prop:=∃as:LJ,H l=some 373/\eJ 152 as ks
theorem bn.same {H H':Hp} {l:Addr} {ks:List Ky} (h:bn H l ks) (g:aC H H'):bn H' l ks:=by
 obtain ⟨as,e,r⟩:=h;exact (as,g _ _ e,r.imp λa k q=>g _ _ q)
universe Sw
namespace L2
open PySem PySem.Spec PyProof.Rows XH
theorem vd {X:Cx}:dC X 351 (λxs H Q=>∃(d:Addr) (kvs:List 281),xs= [.ref d]/\H d=some 140/\Q (.int kvs.length) H):=by
 sleep 26;obtain ⟨d,kvs,rfl,hd,q⟩:=h;obtain ⟨u,rfl,ru⟩:=vals1 r;cases ru;exact Fa I (.inl hd) λt s' I'=>(.int kvs.length,H,I',(t,rfl),q)
theorem bY {X:Cx} {K:IS} (h:X.K=K):EH X (E6 K):=by
 subst h;exact aG
theorem gS {X:Cx} {K:IS} (h:X.K=K):EH X (E5 K):=by
 subst h;exact aE
theorem vh {X:Cx} {K:IS} (h:X.K=K):dC X 459 (λxs H Q=>∃p ys,xs= [.ref p]/\(aF K H p ys∨bH K H p ys)/\∀l,H l=none->Q 215 (aO H l 232)):=by
 subst h;exact dj
theorem nP:bootBuiltins "dict" =some (.type "dict"):=by kernel_rfl
universe L2
namespace Sw
open PySem L2 XH Hm
theorem jB:∀{ys:List V},(∀y∈ys,∃t:Addr,y= .ref t)->∃as:LJ,ys=as.map V.ref
 | [],_=>⟨[],rfl⟩
 |y::ys,h=>by
  obtain ⟨t,rfl⟩:=h y 110
  obtain ⟨as,e⟩:=jB λz hz=>h z (J9 _ hz)
  exact (t::as,by rw[e];rfl)
noncomputable def nQ (td tl al pl n:V):List (Str×V):=bL "moments" n (bL "apart" pl (bL "arcs" al (bL "tasks" tl (bL "tools" td []))))
theorem B0 {td tl al pl n:V}:(nQ td tl al pl n).lookup ("tools" :Str)=some td/\(nQ td tl al pl n).lookup ("tasks" :Str)=some tl/\(nQ td tl al pl n).lookup ("arcs" :Str)=some al/\(nQ td tl al pl n).lookup ("apart" :Str)=some pl/\(nQ td tl al pl n).lookup ("moments" :Str)=some n:=by
 unfold nQ;exists ?_,?_,?_,?_
 ·rw[bP,if_neg 49,bP,if_neg 49,bP,if_neg 49,bP,if_neg 49,bP,if_pos rfl]
 ·rw[bP,if_neg 49,bP,if_neg 49,bP,if_neg 49,bP,if_pos rfl]
 ·rw[bP,if_neg 49,bP,if_neg 49,bP,if_pos rfl]
 ·rw[bP,if_neg 49,bP,if_pos rfl]
 ·rw[bP,if_pos rfl]
def Fx (x:Addr) (H H':Hp):Prop:=∀a o,a≠x->H a=some o->H' a=some o
theorem Fx.of {x:Addr} {H H':Hp} (g:aC H H'):Fx x H H':=λa o _ h=>g a o h
theorem Fx.put (x:Addr) (H:Hp) (o:HO):Fx x H (aO H x o):=λa u n h=>by rw[aR n];exact h
theorem Fx.trans {x:Addr} {H H1 H2:Hp} (a:Fx x H H1) (b:Fx x H1 H2):Fx x H H2:=λc o n h=>b c o n (a c o n h)
theorem bn.fx {x:Addr} {H H':Hp} {l:Addr} {ks:List Ky} {C dx:Addr} {fs:List (Str×V)} (h:bn H l ks) (ex:H x=some (.ins C dx fs)) (g:Fx x H H'):bn H' l ks:=by
 obtain ⟨as,e,r⟩:=h;exact ⟨as,g _ _ (jO e ex 220) e,r.imp λa k q=>g _ _ (jO q ex 220) q⟩
def wQ:Sp:=λvs H Q _=>∃(al:Addr) (m:Int) (A:List Ky),vs= [.ref al,.int m]/\bn H al A/\A.length<=600/\(∀k∈A,∃p q g:Int,k= [p,q,g]/\0<=p/\p<m/\0<=q/\q<m/\ -1000000000<=g/\g<=1000000000)/\Q .non H
universe Sw
namespace L2
open PySem PySem.Spec PyProof.Rows XH
abbrev Cx.blockT (X:Cx) (scope:Scope) (cl:List 598) (C:Addr) (N:LI) (os:LI) (fp:LJ) (s:Shared) (H:Hp):Cx:=
 {X with env:=compEnvC scope cl C X.env,N:=N,s₀:=s,H₀:=H,outer:=X.stack,stack:=X.stack,ex:=fp,fn:=λy=>os.contains y,pn:= [],xe:=λ_ _=>False}
structure mY (X:Cx) (scope:Scope) (cl:List (Str×Addr)) (os:LI) (ys:LI) (js:List Nat):Prop where
 clos:closureFor scope X.env=pure cl
 nocell:280=true
 kind:scope.kind= .function
 loc:169=true
 sub:∀p∈cl,X.env.cells.lookup p.1=some p.2
 has:145=true
 noown:∀x∈os,cl.lookup x=none
 at_:Sw.kS X scope ys js
 len:js.length=ys.length
def vm (n:Nat) (g:TG) (js:List Nat) (te:TE) (σ:St) (Q:VK):It->Hp->Prop:=λJ H1=>∀p,H1 p=none->∃W:Nat->Nat->List V->Hp->Prop,474/\
 ∀i m ys H2,W i m ys H2->H2 p=some 232/\((J.stop i H2/\Q 148 H2)∨(J.go i H2/\ys.length<sizeLine/\∀x H3,J.yld i H2 x H3->∀o:St,o.length=n->g x (o++aZ js σ) H3 λσ4 H4=>(∃o':St,o'.length=n/\σ4=o'++aZ js σ)/\
  te σ4 H4 λy H5=>H5 p=some 232/\∃m',m'<m/\W 233 m' (ys++ [y]) (aO H5 p (.lst (ys++ [y])))))
def Ao (wi:TI) (n:Nat) (g:TG) (js:List Nat) (te:TE):TE:=λσ H Q=>wi σ H (vm n g js te σ Q)
section
variable {X:Cx} {scope:Scope} {cl:List (Str×Addr)} {os:LI} {ys:LI} {js:List Nat} {fp:LJ} {pins:LG} {σ:St} {H:Hp} {s s4:Shared}
theorem qY {h1:Heap} (ok:mY X scope cl os ys js) (I:aW X pins σ H s) (hf:∀b∈fp,fE X pins H b) (hlt:∀b∈fp,b<96) (hns:h1.Ns 96 444)
  (hk:∀b o,s.heap.get? b=some o->h1.get? b=some o) (tk:Nat):
  aW (X.blockT scope cl 96 (os++ys) os fp s H) [] (os.map 444++aZ js σ) H {s with heap:=h1,toks:=tk}:=by
 sleep 154
 refine ⟨⟨I.ok.mod,ok.kind,I.ok.glob,I.ok.blt,IT _,λx y c e1 e2=>I.ok.inj x y c (sub x c e1) (sub y c e2),λx hx=>?_,λx c e1 e2=>?_,I.ok.hd,I.ok.frames,.inl rfl,λb hb=>439,
  I.bs,JV I.ok.bsz I.sz,λb o e hb=>?_,λb hb z=>?_,I.stack,I.stkFree⟩,rfl,I.bare,Un.kept hk,⟨_,hns,λi y v e1 e2 e3=>?_⟩,λy c e=>?_,I.hok.fresh 203,λy c e=>I.freeC y c (sub y c e),λp hp=>absurd (show p∈([]:LG) from hp) 110,I.hok.kept hk,?_⟩
 ·sleep 127;rcases hx' with z|z
  ·sleep 42
  ·sleep 43
 ·have e1':os.contains x=true:=e1;have e2':cl.lookup x=some c:=e2;rw[ok.noown x (List.contains_iff_mem.mp e1')] at e2';cases e2'
 ·rcases (hf b hb).2.2.2.1 with z|z
  ·exact I.ok.noex b o e z
  ·exact absurd (Jb (Heap.lt_size (I.ok.bs b o e).1) z) (Kl _)
 ·rcases IZ.mp (I.stkSub b z) with q|q
  ·exact (hf b hb).2.1 q
  ·exact (hf b hb).2.2.1 q
 ·by_cases hi:i<os.length
  ·have e2':(os.map (λ_=>(none:Option V))++aZ js σ)[i]?=some (some v):=e2
   rw[J5 (by rw[IN];exact hi),IQ,I0 hi] at e2'
   cases e2'
  ·have e1'':(os++ys)[i]?=some y:=e1;have e2'':(os.map (λ_=>(none:Option V))++aZ js σ)[i]?=some (some v):=e2
   rw[IV 41] at e1''
   rw[IV 272,IN] at e2''
   have e1':=e1'';have e2:=e2'';clear e1 e1'' e2'';generalize i-os.length=i at e1' e2;sleep 119;have hs:σ[j]?=some (some v):=by
    cases q:σ[j]? with
    |none=>rw[K0,q] at e2';cases e2'
    |some o=>rw[K0,q] at e2';exact e2'
   sleep 121
   refine (u,r,.inr (hc,?_));rcases l with ⟨k,_⟩|⟨k,c,hcl,hcell⟩
   ·have k':X.env.scope.names.lookup y=some .local:=k;rcases hX with z|z<;>(rw[z] at k';cases k')
   ·have ex:∃c',cl.lookup y=some c':=by
     rcases hc with z|z
     ·sleep 42
     ·sleep 43
    obtain ⟨c',hc'⟩:=ex;have e:=sub y c' hc';rw[hcl] at e;cases e;obtain ⟨oc,hoc,hd⟩:=hcell;exact (c,hc',oc,hk _ _ hoc,hd)
 ·sleep 202
 ·show (os.map (λ_=>(none:Option V))++aZ js σ).length=(os++ys).length
  simp[aZ,ok.len]
theorem vn {H':Hp} {h':Heap} {σ':St} (I:aW X pins σ H s) (hf:∀b∈fp,fE X pins H b) (J:aW (X.blockT scope cl 96 (os++ys) os fp s H) [] σ' H' s4) (hs:Heap.SameBut 96 s4.heap h'):
  aW X pins σ H' {s4 with heap:=h'}:=by
 sleep 173
 have B:=J.base;have u:Un (xY X.stack) fp H H' s.heap h':={
  keep:=λb o q n hb hx=>(hs.2 b (low b o q)).trans (B.keep b o q n hb hx)
  slot:=λb o q n hb hx=>by
   sleep 191
  free:=B.free
  there:=λb o q hx=>by
   sleep 203
  tups:=B.tups
  frzs:=B.frzs
  tbls:=B.tbls}
 have hn:H' 96=none:=J.free;have hk:jP X.prog X.w H' h':=λa o e=>(J.hok a o e).stay (λb v hb q=>(hs.2 b (by
  intro z;rcases hb with z'|z'
  ·rw[<-z',z,hn] at e;cases e
  ·rw[z,hn] at z';cases z')).trans q) (λ_ q=>q) λ_ _ q=>q
 sleep 89
universe z0
section
variable {X:Cx} {scope:Scope} {cl:List (Str×Addr)} {os:LI} {ys:LI} {js:List Nat} {elt iter tg:Expr} {px pos:Pos} {wi:TI} {te:TE} {g:TG}
theorem vo (hc:X.calm=true) (ok:mY X scope cl os ys js) (hi:PI X tg iter wi)
  (hg:∀(C:Addr) (fp:LJ) (s:Shared) (H:Hp),PG 224 tg g)
  (he:∀(C:Addr) (fp:LJ) (s:Shared) (H:Hp),PE 224 elt te)
  (hs:∀x,foldedSetIterable iter X.env x=pure x)
  {pins:LG} {s:Shared} {σ:St} {H:Hp} {Q:VK} {use:Option 563} {QQ:LD} {pp:Pos} (I:aW X pins σ H s) (h:(Ao wi os.length g js te) σ H Q)
  (fin:∀(p C:Addr) (s6:Shared) (H5:Hp) (v:Flow),461->179->fE X pins H5 C->Q 148 H5->compPost 114 X.A X.xe use QQ 148 C (.ok v) s6):
  wpAny 114 X.A (comprehension 240 scope X.env pp (newList []) false 558 use) QQ X.xe s:=by
 have ncell:∀y∈scope.names,y.2≠ .cell:=λy hy z=>by
  sleep 106
 have nloc:∀y∈scope.names,y.2= .local->scope.names.lookup y.1=some .local:=λy hy z=>by
  sleep 161
  simpa using q
 sleep 25
 sleep 3
 have I3:=I2.laid (a:=s2.heap.objs.size) (o:= .lst []) (h':=s2.heap.push 165) (t':=s2.toks) 532 203
  ⟨JT _,[],0,.nil,121 _ rfl⟩
 have fpo:∀b∈fp,b<s2.heap.objs.size:=λb hb=>by
  sleep 83
 sleep 20
 sleep 19
 sleep 36
 sleep 44
 sleep 8
 have J0:=qY (h1:=h1) ok I3 f3 lt3 hns hk (s2.toks+0);have t0:tn 0 h1:=T.keep 0 _ _ st2 λb hb o e=>hk b o (by rw[e3];exact 101 _ e)
 have fpB:∀{H':Hp},462->∀b∈fp,fE 151 [] H' b:=λ{H'} hn b hb=>
  ⟨hn b hb,J6 (lt3 b hb),λz=>(IZ.mp (I3.stkSub b z)).elim (f3 b hb).2.1 (f3 b hb).2.2.1,.inl hb,λx c e=>(f3 b hb).2.2.2.2.1 x c 465,λp hp=>absurd (show p∈([]:LG) from hp) 110⟩
 have loop:codeAny 114 X.A (.compLoop 240 0 284 163 255)
   (compPost 114 X.A X.xe use QQ 163 s3.heap.objs.size) {s3 with heap:=h1,toks:=s2.toks+0}:=by
  refine iK (λn s'=>∃i zs o0 H',aW 151 [] (o0++aZ js σ) H' s'/\o0.length=os.length/\tn i s'.heap/\(∀b∈fp,H' b=none)/\W i n zs H') ?_ m0
   ⟨0,[],os.map 444,_,J0,IN _,t0,λb hb=>(f3 b hb).1,w0⟩
  rintro n s5 ⟨i,zs,o0,H5,I5,l5,t5,n5,w5⟩;obtain ⟨hD,hw⟩:=turn i n zs H5 w5;rcases hw with ⟨stop,qn⟩|⟨go,hz,step⟩
  ·refine cu (T.done 151 rfl rfl rfl hc i [] s5 _ H5 189 I5 (fpB n5) t5 stop) λr s6 (hr,I6)=>?_
   subst hr;obtain ⟨m,hn,_⟩:=id I6.loc;exact fin _ _ s6 H5 _ (m,hn) (λh' hs'=>vn I3 f3 I6 hs') 446 qn
  ·refine cu (T.item 151 rfl rfl rfl hc i [] s5 _ H5 189 I5 (fpB n5) t5 go) λr s6 (u,hr,h6)=>?_
   sleep 94
   have I7':=I7.pinned (fpB n7) (T.obj _ _ t7);have hst:=step x H7 y7;refine cu (hg _ _ _ _ _ s7 _ H7 x u _ I7' r7 (hst o0 l5)) λ_ s8 (σ8,H8,I8,(o8,l8,e8),hst)=>?_
   subst e8;sleep 88
   sleep 18
   subst e10;refine (m',hm,i+1,zs++ [y],o8,_,I10.unpinned,l8,T.keep _ _ _ t7 λb hb o e=>(I10.pin (b,o) 341).1,λb hb=>?_,w9)
   sleep 78
 sleep 64
universe z0
universe L2
namespace Sw
open PySem L2 XH
theorem Fs {X:Cx} {scope:Scope} {cl:List 598} {os ys:LI} {js:List Nat} (a:kS X scope ys js) (s:u6 X cl) (len:js.length=ys.length) (clos:closureFor scope X.env=pure cl) (nocell:280=true) (kind:scope.kind= .function)
  (loc:169=true) (has:145=true) (noown:(os.all λx=>(cl.lookup x).isNone)=true):mY X scope cl os ys js:=
 ⟨clos,nocell,kind,loc,s.all,has,λx hx=>by have:=JE.mp noown x hx;simpa using this,a,len⟩
theorem wR {X:Cx} {K:IS} {es:List Expr} {k:Nat} {t:Ct} {n:Nat} {pos:Pos} (hK:X.K=K) (hc:X.calm=true) (h:ET X es t) (hn:(assignEach es X.env).length=n:=by rfl) (hst:(assignEach es X.env).findIdx? 199=none:=by rfl):PG X (.Tuple es k pos) (EW K n t):=by
 subst hK;exact dN hc h hn hst
theorem jb {X:Cx} {scope:Scope} {cl:List 598} {C:Addr} {fp:LJ} {s:Shared} {H:Hp} {os ys:LI} {i:Nat} {x:Str} {pos:Pos} (nd:(os++ys).Nodup) (hi:(os++ys)[i]?=some x) (hl:(relabel scope X.env).names.lookup x=some .local):PG 224 (.Name x pos) (bN i):=
 iH (X:=X.blockT scope cl C (os++ys) os fp s H) nd hi (.inl hl) (.inr hl)
universe Sw
namespace L2
open PySem PySem.Spec PyProof.Rows XH
section
variable {X:Cx} {scope:Scope} {cl:List (Str×Addr)} {os:LI} {ys:LI} {js:List Nat} {elt iter tg:Expr} {px pos:Pos} {wi:TI} {te:TE} {g:TG}
theorem tG {i:Nat} {y:Str} {py spos:Pos} (hN:X.N.Nodup) (hi':X.N[i]?=some y) (hy:X.env.scope.names.lookup y=some .local) (hc:X.calm=true) (ok:mY X scope cl os ys js) (hi:PI X tg iter wi)
  (hg:∀(C:Addr) (fp:LJ) (s:Shared) (H:Hp),PG 224 tg g)
  (he:∀(C:Addr) (fp:LJ) (s:Shared) (H:Hp),PE 224 elt te)
  (hsw:swapsWith 240 502 spos.line X.env=pure true:=by rfl) (hs:∀x,foldedSetIterable iter X.env x=pure x:=by intro _;rfl):
  PS X (.Assign [.Name y py] 240 spos) (uK (Ao wi os.length g js te) (bN i)):=λpins s σ H D I h=>by
 sleep 23;show wpAny _ X.A (do let _<-comprehension (.ListComp elt [⟨tg,iter,[],0⟩] scope pos) scope X.env _ (newList []) false (eval iter X.env) (some (assign (.Name y py) X.env))) _ _ s
 exact wpAny_bind (wpAny_mono (vo hc ok hi hg he hs I h (mS hN hi' hy)) 270 λ_ _ e=>e)
universe z0
universe L2
namespace Sw
open PySem L2 XH
universe Sw
namespace L2
open PySem PySem.Spec PyProof.Rows
universe L2
namespace Sw
open PySem L2 XH
universe Sw
namespace L2
open PySem PySem.Spec PyProof.Rows
universe L2
namespace Sw
open PySem L2 XH
universe Sw
namespace L2
open PySem PySem.Spec PyProof.Rows XH
noncomputable def jR (n:Nat) (pr:Nat->Bool) (f:Nat->V):List V:=((JK n).filter pr).map f
theorem vv (n:Nat) (pr:Nat->Bool) (f:Nat->V):jR (n+1) pr f=jR n pr f++(if pr n=true then [f n] else []):=by
 unfold jR;rw[Km,List.filter_append,JJ]
 congr 1
 cases h:pr n<;>simp[List.filter_cons,h]
theorem yJ (n:Nat) (pr:Nat->Bool) (f:Nat->V):(jR n pr f).length<=n:=by
 unfold jR;rw[IN];have:=List.length_filter_le pr (JK n)
 rwa [JP] at this
theorem vy {J:It} {n:Nat} {js:List Nat} {tc:TT} {te:TE} {σ:L2.St} {H1:Hp} {Q:VK} (pr:Nat->Bool) (f:Nat->V) (hz:n<=sizeLine)
  (hgo:∀i H2,aC H1 H2->i<n->J.go i H2) (hst:∀H2,aC H1 H2->J.stop n H2)
  (step:∀i,i<n->∀H2 x H3,aC H1 H2->J.yld i H2 x H3->H3=H2/\(∀R:Bool->Hp->Prop,R (pr i) H2->tc (some x::aZ js σ) H2 R)/\(pr i=true->∀Q':VK,Q' (f i) H2->te (some x::aZ js σ) H2 Q'))
  (fin:∀p H',H1 p=none->aC H1 H'->H' p=some (.lst (jR n pr f))->Q 148 H'):kU js tc te σ Q J H1:=by
 intro p hp;exists λi m ys H2=>i<=n/\m=n-i/\ys=jR i pr f/\aC H1 H2/\H2 p=some 232,(n,JT _,rfl,rfl,Sw.ao hp _,au)
 rintro i m ys H2 ⟨hi,rfl,rfl,g,e⟩;exists e
 by_cases hin:i<n
 ·sleep 181
  ·have:=yJ i pr f
   lia
  obtain ⟨rfl,h1,h2⟩:=step i hin H2 x H3 g hy;refine h1 _ ?_;have tk:=vv i pr f;cases hpr:pr i with
  |true=>
   rw[hpr,if_pos rfl] at tk;rw[if_pos rfl];exact h2 hpr _ (e,n-233,by lia,hin,rfl,tk.symm,Sw.eZ g hp _,au)
  |false=>
   rw[hpr,if_neg 49,Jw] at tk
   sleep 156
   exact (n-233,by lia,hin,rfl,tk.symm,g,e)
 ·have e2:i=n:=by lia
  subst e2;exact .inl (hst H2 g,fin p H2 hp g e)
theorem yK {K:IS} {a:Addr} {xs:List V} {js:List Nat} {tc:TT} {te:TE} {σ:L2.St} {H1:Hp} {Q:VK} (pr:Nat->Bool) (f:Nat->V) (hS:aF K H1 a xs) (hz:xs.length<=sizeLine)
  (s1:∀i x,xs[i]?=some x->∀H2,aC H1 H2->∀R:Bool->Hp->Prop,R (pr i) H2->tc (some x::aZ js σ) H2 R)
  (s2:∀i x,xs[i]?=some x->∀H2,aC H1 H2->∀Q':VK,Q' (f i) H2->te (some x::aZ js σ) H2 Q')
  (fin:∀p H',H1 p=none->aC H1 H'->H' p=some (.lst (jR 117 pr f))->Q 148 H'):kU js tc te σ Q (Bp K a) H1:=by
 refine vy pr f hz 358 487 312 fin
 sleep 236;have ex:=hx xs (g.seq hS);exact (rfl,s1 i x ex _ g,λ_=>s2 i x ex _ g)
universe L2
namespace Sw
open PySem L2 XH
theorem yL {K:IS} {a:Addr} {xs:List V} {n:Nat} {g:TG} {js:List Nat} {te:TE} {σ:L2.St} {H1:Hp} {Q:VK} (P:Nat->List V->Prop) (hS:aF K H1 a xs) (hz:xs.length<=sizeLine)
  (step:∀(i:Nat) (x:V),xs[i]?=some x->∀H3,aC H1 H3->∀o:L2.St,o.length=n->∀Q':VK,(∀(b:Addr) (zs:List V) (H4:Hp),H4 b=some (.tup zs)->P i zs->aC H3 H4->Q' (.ref b) H4)->
   g x (o++aZ js σ) H3 λσ4 H4=>585/\te σ4 H4 Q')
  (fin:∀(p:Addr) (as:LJ) (H':Hp),H1 p=none->as.length=117->(∀(i:Nat) (b:Addr),as[i]?=some b->∃zs,H' b=some (.tup zs)/\P i zs)->aC H1 H'->H' p=some 373->Q 148 H'):
  vm n g js te σ Q (Bp K a) H1:=by
 intro p hp;exists λi m ys H2=>i<=xs.length/\m=117-i/\∃as:LJ,ys=as.map V.ref/\as.length=i/\(∀(j:Nat) (b:Addr),as[j]?=some b->∃zs,H2 b=some (.tup zs)/\P j zs)/\aC H1 H2/\H2 p=some 232,(117,JT _,rfl,[],rfl,rfl,λj y e=>by simp at e,ao hp _,au)
 rintro i m ys H2 ⟨hi,rfl,as,rfl,hl,hP,g2,e⟩;exists e;have S2:=g2.seq hS
 by_cases hin:i<117
 ·refine .inr ((xs,xs[i],S2,I0 hin),by rw[IN];lia,λx H3 hy o ho=>?_)
  sleep 236;have ex:=hx xs S2;refine step i x ex H3 g2 o ho _ λb zs H4 hb pb g4=>(g4 _ _ e,117-233,by lia,hin,rfl,as++ [b],by simp,by simp[hl],λj c hj=>?_,eZ (g2.trans g4) hp _,au)
  have kp:∀{c:Addr} {zs:List V} {o:HO},H4 c=some (.tup zs)->(aO H4 p o) c=some (.tup zs):=λ{c zs o} hc=>by
   rw[aR (λz=>by subst z;rw[g4 _ _ e] at hc;cases hc)]
   exact hc
  by_cases hj':j<as.length
  ·rw[J5 hj'] at hj;obtain ⟨zs',h1,h2⟩:=hP j c hj;exact (zs',kp (g4 _ _ h1),h2)
  ·have ej:j=i:=by
    have:=(IP.mp hj).1;simp at this
    lia
   subst ej;rw[IV 41,hl] at hj
   simp at hj;subst hj;exact (zs,kp hb,pb)
 ·have e2:i=xs.length:=by lia
  subst e2;exact .inl ((xs,S2,IT _),fin p as H2 hp hl hP g2 e)
universe Sw
namespace L2
open PySem PySem.Spec PyProof.Rows XH Sw So
universe L2
namespace Sw
open PySem L2 XH Hm
theorem eJ.append {α:Type} {R:Addr->α->Prop} {as bs:LJ} {xs ys:List α} (h:eJ R as xs) (k:eJ R bs ys):eJ R (as++bs) (xs++ys):=by
 refine (by simp[h.1,k.1],λi a x e1 e2=>?_)
 by_cases c:i<as.length
 ·sleep 157
  exact h.2 i a x e1 e2
 ·rw[IV 41] at e1
  rw[IV (by rw[<-h.1];lia),<-h.1] at e2
  exact k.2 _ a x e1 e2
universe Sw
namespace L2
open PySem PySem.Spec PyProof.Rows XH Sw Hm
universe L2
namespace Sw
open PySem L2 XH Hm
abbrev Rn:=Int×Int×Int
noncomputable def rk (r:Rn):Ky:= [r.1,r.2.1,r.2.2]
def pQ (H:Hp) (t:Addr) (R:List Rn) (M:List Int):Prop:=∃rl ml:Addr,H t=some (.tup [.ref rl,.ref ml])/\bn H rl 325/\H ml=some 261
theorem pQ.same {H H':Hp} {t:Addr} {R:List Rn} {M:List Int} (h:pQ H t R M) (g:aC H H'):pQ H' t R M:=by
 obtain ⟨rl,ml,a,b,c⟩:=h;exact (rl,ml,g _ _ a,b.same g,g _ _ c)
noncomputable def bw:List Rn->List Int->List Int
 | [],M=>M
 |r::R,M=>r.1::r.2.1::bw R M
theorem gM (M:List Int):∀R:List Rn,(bw R M).length=2*R.length+M.length
 | []=>by simp[bw]
 |r::R=>by simp[bw,gM M R];lia
theorem tH (M:List Int):∀(R:List Rn) (i:Nat),(bw R M)[2*R.length+i]?=M[i]?
 | [],i=>by simp[bw]
 |r::R,i=>by
  have e:2*(r::R).length+i=(2*R.length+i)+1+1:=by simp;lia
  rw[e];show (bw R M)[2*R.length+i]?=_;exact tH M R i
theorem kx (M:List Int):∀(R:List Rn) (i:Nat) (r:Rn),R[i]?=some r->(bw R M)[2*i]?=some r.1/\(bw R M)[2*i+1]?=some r.2.1
 | [],i,r,h=>by simp at h
 |q::R,0,r,h=>by
  simp at h;subst h;exact 305
 |q::R,i+1,r,h=>by
  have ih:=kx M R i r 235
  exact ih
noncomputable def yM (M:List Int) (k:Nat):Bool:=decide (M.getD k 0<0)
noncomputable def B1 (A:List Ky) (S:List Int) (k:Nat):Bool:=
 let a:=A.getD k []
 decide (S.getD (a.getD 1 0).toNat 0-S.getD (a.getD 0 0).toNat 0<a.getD 2 0)
def tI:Sp:=λvs H Q _=>∃(t:Addr) (p:Int) (R:List Rn) (M:List Int) (v:Int),vs= [.ref t,.int p]/\pQ H t R M/\0<=p/\(bw R M)[p.toNat]?=some v/\Q (.int v) H
theorem n2 {p A B:Prop} [Decidable p] (h1:¬p->A) (h2:p->B):if (!decide p)=true then A else B:=by
 by_cases h:p
 ·rw[if_neg (by simp[h])];exact h2 h
 ·rw[if_pos (by simp[h])];exact h1 h
theorem aL {α:Type} {xs:List α} {i:Nat} {v d:α} (h:xs[i]?=some v):xs.getD i d=v:=by rw[JM,h];rfl
theorem cV {as:LJ} {i:Nat} {y:V} (h:(as.map V.ref)[i]?=some y):∃a,as[i]?=some a/\y= .ref a:=by
 rw[IQ] at h;obtain ⟨a,e,rfl⟩:=IW.mp h;exact (a,e,rfl)
theorem bW {α:Type} {f:α->V} {xs:List α} {i:Nat} {x:α} (h:xs[i]?=some x):(xs.map f)[i]?=some (f x):=by rw[IQ,h];rfl
theorem hW {H:Hp} {bs:LJ} {R:List Rn} (h:eJ 152 bs 325) {i:Nat} {b:Addr} (e:bs[i]?=some b):∃r:Rn,R[i]?=some r/\H b=some (.tup [.int r.1,.int r.2.1,.int r.2.2]):=by
 have il:i<R.length:=by
  have:=(IP.mp e).1;rw[h.1,IN] at this;exact this
 exact (_,I0 il,h.2 i b (rk R[i]) e (by rw[IQ,I0 il];rfl))
theorem run_get {H:Hp} {bs:LJ} {R:List Rn} (h:eJ 152 bs 325) {i:Nat} {r:Rn} (e:R[i]?=some r):∃b,bs[i]?=some b/\H b=some (.tup [.int r.1,.int r.2.1,.int r.2.2]):=by
 obtain ⟨b,hb,_⟩:=h.get (i:=i) (x:=rk r) (by rw[IQ,e];rfl)
 obtain ⟨r',e',q⟩:=hW h hb;rw[e] at e';cases e';exact (b,hb,q)
theorem B3 {R:List Rn} {M:List Int} {p v:Int} (p0:0<=p) (c:p<2*161) (ev:(bw R M)[p.toNat]?=some v):∃(i:Nat) (r:Rn),p.fdiv 2=(i:Int)/\R[i]?=some r/\gD [V.int r.1,.int r.2.1,.int r.2.2] (p.fmod 2)=some (.int v):=by
 have e1:p.fdiv 2=p/2:=Kc p 49
 have e2:p.fmod 2=p % 2:=Int.fmod_eq_emod_of_nonneg p 49
 have il:p.toNat/2<R.length:=by lia
 obtain ⟨s1,s2⟩:=kx M R _ _ 549;exists p.toNat/2,_,by rw[e1];lia,I0 il
 rw[e2]
 by_cases h:p.toNat % 2=0
 ·have ep:p % 2=((0:Nat):Int):=by lia
  have en:p.toNat=2*(p.toNat/2):=by lia
  rw[en,s1] at ev;cases ev;rw[ep];exact bg rfl
 ·have ep:p % 2=((1:Nat):Int):=by lia
  have en:p.toNat=2*(p.toNat/2)+1:=by lia
  rw[en,s2] at ev;cases ev;rw[ep];exact bg rfl
theorem B4 {R:List Rn} {M:List Int} {p v:Int} {n:Nat} (hn:n=R.length) (c:p-2*(n:Int)≥0) (ev:(bw R M)[p.toNat]?=some v):gD (M.map V.int) (p-2*(n:Int))=some (.int v):=by
 subst hn;obtain ⟨j,hj⟩:∃j:Nat,p.toNat=2*R.length+j:=⟨p.toNat-2*R.length,by lia⟩
 rw[hj,tH] at ev;have e:p-2*161=(j:Int):=by lia
 rw[e];exact bg (bW ev)
def pR (n:Int) (k:Ky):Prop:=∃p q g:Int,k= [p,q,g]/\0<=p/\p<n/\0<=q/\q<n/\ -1000000000<=g/\g<=1000000000
theorem pS (M:List Int):∀R:List Rn,bw R []++M=bw R M
 | []=>rfl
 |r::R=>by simp[bw,pS M R]
theorem nR:∀{R:List Rn} {i:Nat} {r:Rn},R[i]?=some r->bw (R.take 233) []=bw (R.take i) []++ [r.1]++ [r.2.1]
 | [],i,r,h=>by simp at h
 |q::R,0,r,h=>by
  simp at h;subst h
  rfl
 |q::R,i+1,r,h=>by
  have ih:=nR (R:=R) (i:=i) (r:=r) 235
  show q.1::q.2.1::bw (R.take 233) []=q.1::q.2.1::(bw (R.take i) []++ [r.1]++ [r.2.1]);rw[ih]
theorem fm {a n:Int} (h:0<n):0<=a.fmod n/\a.fmod n<n:=(Int.fmod_nonneg_of_pos a h,Int.fmod_lt_of_pos a h)
theorem gU {H:Hp} {l t:Addr} {as:LJ} {ks:List Ky} {k:Ky} (e:H l=some 373) (r:eJ 152 as ks) (h:H t=some 383):bn (aO H l (.lst (as.map V.ref++ [.ref t]))) l (ks++ [k]):=
 ⟨as++ [t],by rw[au,JJ];rfl,(r.snoc h).imp λt b q=>by rw[aR (jO q e 220)];exact q⟩
theorem bn.upd {H:Hp} {l x:Addr} {ks:List Ky} {zs ys:List V} (h:bn H l ks) (ex:H x=some (.lst zs)) (xl:l≠x):bn (L2.aO H x 232) l ks:=by
 obtain ⟨as,e,r⟩:=h;exact ⟨as,by rw[aR xl];exact e,r.imp λa k q=>by rw[aR (jO q ex 220)];exact q⟩
theorem yN (ns:List Int) (lo hi:Option Int):∃cs:List Int,jY 173 lo hi=cs.map V.int/\cs.length<=ns.length:=by
 unfold jY;exists (ns.drop _).take _,by rw[List.map_take,List.map_drop]
 rw[JH,Js]
 lia
theorem nS {H1 H':Hp} {x dx:Addr} {C:Addr} (nx:H1 x=none) (nd:H1 dx=none) (h:∀a o,a≠x->aO (aO H1 dx (.own x)) x (.ins C dx []) a=some o->H' a=some o):aC H1 H':=λa o e=>by
 have ax:a≠x:=λz=>by rw[z,nx] at e;cases e
 have ad:a≠dx:=λz=>by rw[z,nd] at e;cases e
 exact h a o ax (by rw[aR ax,aR ad];exact e)
universe Sw
namespace L2
open PySem PySem.Spec PyProof.Rows XH Sw Hm
universe L2
namespace Sw
open PySem L2 XH Hm
universe Sw
namespace L2
open PySem PySem.Spec PyProof.Rows XH Sw Hm
theorem yO {xs:List V} {c:Nat}:jY xs (some (c:Int)) none=xs.drop c:=by
 by_cases h:c<=117
 ·exact tF h
 ·rw[List.drop_eq_nil_of_le 41]
  apply JS;unfold jY;rw[JH,Js];have:HT.dH 117 0 (some (c:Int))=xs.length:=by
   show 331=117
   rw[if_neg 41]
   lia
  rw[this]
  lia
universe L2
namespace Sw
open PySem L2 XH Hm
universe Sw
namespace L2
open PySem PySem.Spec PyProof.Rows XH Sw Hm
theorem yP {hd:LM} {n:Nat} {js:List Nat} {te:TE} {σ:L2.St} {H1:Hp} {Q:VK} (P:Hp->Nat->V->Hp->Prop) (hok:jM hd H1) (hn:n<=sizeLine)
  (step:∀i,i<n->∀H3,aC H1 H3->∀Q':VK,(∀y H4,P H3 i y H4->aC H3 H4->Q' y H4)->te 292 H3 Q')
  (fin:∀(p:Addr) (ys:List V) (H':Hp),H1 p=none->ys.length=n->(∀(i:Nat) (y:V),ys[i]?=some y->∃H3 H4,aC H1 H3/\H3 p≠none/\P H3 i y H4/\∀b o,b≠p->H4 b=some o->H' b=some o)->aC H1 H'->H' p=some 232->Q 148 H'):nD js te σ Q (yk hd 0 n) H1:=by
 intro p hp;exists λi m ys H2=>i<=n/\m=n-i/\ys.length=i/\(∀(i:Nat) (y:V),ys[i]?=some y->∃H3 H4,aC H1 H3/\H3 p≠none/\P H3 i y H4/\∀b o,b≠p->H4 b=some o->H2 b=some o)/\aC H1 H2/\H2 p=some 232,(n,JT _,rfl,rfl,λi y e=>by simp at e,Sw.ao hp _,au)
 sleep 171
 by_cases hin:i<n
 ·refine .inr (hin,by lia,λx H3 hy=>?_)
  obtain ⟨rfl,rfl⟩:=hy;refine step i hin _ g _ λy H4 py g4=>(g4 _ _ e,n-233,by lia,hin,rfl,by simp[hl],λj y' e2=>?_,Sw.eZ (g.trans g4) hp _,au)
  by_cases hj:j<ys.length
  ·rw[J5 hj] at e2;obtain ⟨A,B,q1,q2,q3,q4⟩:=hP j y' e2;sleep 232
  ·have ej:j=i:=by
    have:=(IP.mp e2).1;simp at this
    lia
   subst ej;rw[IV 41,hl] at e2
   simp at e2;subst e2;exact (_,H4,g,by rw[e];exact nofun,py,λb o n q=>by rw[aR n];exact q)
 ·have e2:i=n:=by lia
  subst e2;exact .inl ((IT _,u5 hok g),fin p ys H2 hp hl hP g e)
universe L2
namespace Sw
open PySem L2 XH Hm
theorem j0 {α:Type} {P:List α->Prop} (h:∀a,P [a]):∀us:List α,us.length=1->P us
 | [a],_=>h a
theorem ca {α:Type} {P:List α->Prop} (h:∀a b,P [a,b]):∀us:List α,us.length=2->P us
 | [a,b],_=>h a b
theorem eB {α:Type} {P:List α->Prop} (h:∀a b c,P [a,b,c]):∀us:List α,us.length=3->P us
 | [a,b,c],_=>h a b c
theorem jc {α:Type} {P:List α->Prop} (h:∀a b c d,P [a,b,c,d]):∀us:List α,us.length=4->P us
 | [a,b,c,d],_=>h a b c d
theorem vz {α:Type} {P:List α->Prop} (h:∀a b c d e,P [a,b,c,d,e]):∀us:List α,us.length=5->P us
 | [a,b,c,d,e],_=>h a b c d e
universe Sw
namespace L2
open PySem PySem.Spec PyProof.Rows XH
theorem oT (t:SetTable) (n:Nat):(t.orStandIn n).led=t.led:=by
 unfold SetTable.orStandIn
 by_cases h:t.fits n=true
 ·rw[if_pos h]
 ·rw[if_neg h];rfl
theorem vA (t:SetTable) (es:Array 159) (h:Int) (x:Value):(layNew t es h x).2.1.led=t.led:=by
 cases e:t.freeSlot h with
 |none=>simp only[layNew,e];rfl
 |some r=>
  obtain ⟨slot,d⟩:=r;simp only[layNew,e];rw[oT]
  rfl
theorem tJ {t t':SetTable} {hs:Array Int} {n:Nat} {order:Array Nat} (e:t.relaid hs n=some (t',order)):t'.led=t.led/\t'.plain=t.plain:=by
 unfold SetTable.relaid SetTable.laid at e;obtain ⟨o,_,e2⟩:=Jc.mp e;simp only[pure,Option.some.injEq,Prod.mk.injEq] at e2;rw[<-e2.1];exact 305
theorem qZ (t:SetTable) (es:Array 159) (n:Nat):(relayAll t es n).2.1.led=t.led:=by
 cases e:t.relaid (es.map (·.1)) n with
 |none=>simp only[relayAll,e];rfl
 |some r=>
  obtain ⟨t',order⟩:=r;simp only[relayAll,e]
  by_cases c:409=true
  ·rw[if_pos c];exact (tJ e).1
  ·rw[if_neg c];rfl
section
variable {prog:Program} {w:World} {A:Around} {E:LD} {s:Shared}
theorem oU (a:Value) {Q₁:LD}
  (h:∀led:Bool,522->Q₁ 265 330):
  codeAny 103 A (.call (.builtin "set.__new__") 552) (wants Q₁ E) s:=by
 refine codeAny_of_tree ?_;show wpAny _ A.in1 (do checkBuiltinCall "set.__new__" 552;again (.builtin "set.__new__" 552)) _ _ s
 refine wpAny_bind (wpAny_of_eq (F.newCall_set_1 a) (wpAny_pure (plainId_quiet F.plain_set_new _,codeAny_builtin F.entry_set_new ?_)));rw[Around.under_plainId F.plain_set_new _];unfold Builtin.«set.__new__» Builtin.Frozenset.newClass;have hsub:=sub_set_self;obtain ⟨hp,g,d,tk,os⟩:=s;dsimp only
 wp_walk
 refine wpAny_askSetting 216;dsimp only;simp only[newObj];refine wpAny_bind (wpAny_alloc 216);refine wpAny_pure (h _ λe=>?_)
 show (!(model prog w).w.params.followText "set-order")=true;rw[show (model prog w).w=w from rfl,e]
 rfl
universe z0
theorem tK:Manifest.owners.lookup (String.ofList ['r','o','t','a','r','e','t','i','_','t','e','s'].reverse)=some Manifest.sig_set_iterator:=by kernel_rfl
theorem bT:Slot "set_iterator" "__next__" "set_iterator.__next__" :=
 .of (owner:= "set_iterator") (n:= "__next__") 468 95 95 95
  (by first|exact .inl (by decide+kernel)|exact .inr 95) 301
theorem fQ:entryFor table "set_iterator.__next__" =some Builtin.«set_iterator.__next__» :=entryFor_of_tree 273
theorem gJ (a:Value):argsOk "set_iterator.__next__" ⟨[a],[]⟩:=by
 unfold argsOk;rw[signature?_of (id:= "set_iterator.__next__") (n:= ['_','_','t','x','e','n','_','_']) (o:= ['r','o','t','a','r','e','t','i','_','t','e','s']) 273 tK];kernel_rfl
theorem dk:Slot "set_iterator" "__iter__" "set_iterator.__iter__" :=
 .of (owner:= "set_iterator") (n:= "__iter__") 468 95 95 95
  (by first|exact .inl (by decide+kernel)|exact .inr 95) 301
theorem gK (a:Value):argsOk "set_iterator.__iter__" ⟨[a],[]⟩:=by
 unfold argsOk;rw[signature?_of (id:= "set_iterator.__iter__") (n:= ['_','_','r','e','t','i','_','_']) (o:= ['r','o','t','a','r','e','t','i','_','t','e','s']) 273 tK];kernel_rfl
theorem nU:entryFor table "set.__iter__" =some Builtin.«frozenset.__iter__» :=
 entryFor_alias (id':= "frozenset.__iter__") 273 rfl 95 273
theorem fR:entryFor table "set_iterator.__iter__" =some Builtin.«dict_keyiterator.__iter__» :=
 entryFor_alias (id':= "dict_keyiterator.__iter__") 273 rfl 95 273
section
variable {prog:Program} {w:World} {A:Around} {E:LD} {s:Shared}
theorem oW {M:Model} {src:Source} {n:Nat} {Q:Nat->Shared->Prop} (hn:n≠0) (h:∀i d,i<n->Q i {s with drawn:=d}):wpAny M A (choose src n) Q E s:=λ_ _ _=>by
 unfold choose;rw[Sem.wp_choose];exact (hn,by simpa using h _ _ (Nat.mod_lt _ (Nat.pos_of_ne_zero hn)))
theorem kX {α:Type}:∀(l:List α) (i:Nat) (h:i<l.length),(l[i]::l.eraseIdx i).Perm l
 | [],i,h=>by simp at h
 |x::xs,0,_=> .refl _
 |x::xs,i+1,h=>by
  have h':i<xs.length:=by simpa using h
  show (xs[i]::x::xs.eraseIdx i).Perm (x::xs);exact (List.Perm.swap _ _ _).trans ((kX xs i h').cons x)
theorem jd {M:Model} {α:Type}:∀(n:Nat) (xs:List α) (s:Shared) (Q:List α->Shared->Prop),117=n->(∀ys d,ys.Perm xs->Q ys {s with drawn:=d})->wpAny M A (drawOrder n xs) Q E s
 |0,xs,s,Q,hl,h=>by
  have:xs= []:=List.length_eq_zero_iff.mp hl;subst this;unfold drawOrder;exact wpAny_pure (h [] s.drawn .nil)
 |n+1,[],s,Q,hl,h=>by cases hl
 |n+1,x::xs,s,Q,hl,h=>by
  unfold drawOrder;refine wpAny_bind (oW 110 λi d hi=>?_)
  have e:(x::xs)[i]?=some ((x::xs)[i]):=I0 hi;rw[e];dsimp only;refine wpAny_bind (jd n ((x::xs).eraseIdx i) {s with drawn:=d} _ (by rw[List.length_eraseIdx_of_lt hi,hl];rfl) λys d' hp=>wpAny_pure (h _ d' ?_))
  exact (hp.cons _).trans (kX _ i hi)
def fB (h:Heap) (a:Addr) (es:Array 159) (ep:Nat) (t:SetTable):Prop:=∃o,h.get? a=some o/\o.ExactSet/\o.data= .set es ep t/\t.fits es.size=true
noncomputable def uC (first:Value) (i:Nat) (S:Addr) (n ep:Nat):Obj:={cls:= .type "set_iterator",data:= .fields #[first,.int i 0,.ref S,.int n 0,.int ep 0]}
theorem q8 {a:Addr} {es:Array 159} {ep:Nat} {t:SetTable} (h:fB s.heap a es ep t):s.TypeIs 205 "set" :=let ⟨o,ho,hx,_⟩:=h;⟨o,ho,hx.1⟩
theorem Ap {a:Addr} {es:Array 159} {ep:Nat} {t:SetTable} {Q:LD} (hS:fB s.heap a es ep t) (hz:es.size<=sizeLine)
  (h1:242=false->Q 265 {s with heap:=s.heap.push (uC (.int 0 0) 0 a es.size ep)})
  (h2:242=true->∀(ys:List Nat) d,ys.Perm (JK es.size)->
   Q (.ref (96+1)) {s with heap:=(s.heap.push 133).push (uC 265 0 a es.size ep),drawn:=d}):
  wpAny 103 A (pyIter 205) Q E s:=by
 have hT:=q8 hS;obtain ⟨o,ho,hx,hd,hf⟩:=hS;refine wpAny_pyIter_slot hT F.slot_set_iter (wpAny_call_entry F.slot_set_iter hT nU ?_ (F.args_set_iter_1 _));unfold Builtin.«frozenset.__iter__»;refine wpAny_bind (m:=Builtin.Frozenset.slot0 _ _) ?_;show wpAny _ _ (pure a) _ _ s;sleep 158;unfold Builtin.Frozenset.sizeOf setEntries;refine wpAny_bind (wpAny_bind 554);sleep 158;unfold setDrawn setsByText;refine wpAny_bind 580;sleep 38;show wpAny _ _ (pure 242) _ _ s;sleep 158;cases c:(!w.params.followText "set-order" &&(!t.plain&&decide (es.size>1))) with
 |false=>
  simp only[Jr,if_false];sleep 177;unfold setEpoch;refine wpAny_bind 554;sleep 116;exact h1 c
 |true=>
  simp only[if_true];refine wpAny_bind (jd es.size (JK es.size) s _ 110 λys d hp=>?_)
  refine wpAny_bind (wpAny_newTuple ?_ (by rw[IN,hp.length_eq,JP];exact hz))
  unfold setEpoch;have ho':(s.heap.push 133).get? a=some o:=Heap.get?_push_of_some _ ho
  refine wpAny_bind (wpAny_bind (wpAny_setState_of (s:={s with heap:=_,drawn:=d}) ho' hd hf 216))
  sleep 116;have:=h2 c ys d hp;rw[<-Heap.size_push s.heap 133] at this
  exact this
universe z0
section
variable {prog:Program} {w:World} {A:Around} {E:LD} {s:Shared}
theorem fB.at {h h':Heap} {a:Addr} {es:Array 159} {ep:Nat} {t:SetTable} (x:fB h a es ep t) (k:∀o,h.get? a=some o->h'.get? a=some o):fB h' a es ep t:=let ⟨o,ho,r⟩:=x;⟨o,k o ho,r⟩
theorem fS {a:Addr} {es:Array 159} {ep:Nat} {t:SetTable} {Q:Array 159->Shared->Prop} (hS:fB s.heap a es ep t) (h:Q es s):wpAny 103 A (setEntries a) Q E s:=by
 obtain ⟨o,ho,_,hd,hf⟩:=hS;unfold setEntries;exact wpAny_bind (wpAny_setState_of ho hd hf (wpAny_pure h))
theorem fY {a:Addr} {es:Array 159} {ep:Nat} {t:SetTable} {Q:(Array (Int×Value)×Nat×SetTable)->Shared->Prop} (hS:fB s.heap a es ep t) (h:Q (es,ep,t) s):wpAny 103 A (setState a) Q E s:=by
 obtain ⟨o,ho,_,hd,hf⟩:=hS;exact wpAny_setState_of ho hd hf h
theorem kY {I S:Addr} {es:Array 159} {ep i slot nx:Nat} {t:SetTable} {x:Value} {Q:LM->Shared->Prop} (hI:s.heap.get? I=some 304) (hS:fB s.heap S es ep t)
  (hn:∀(A:Around) (E:LD) (Q:Option (Value×Nat)->Shared->Prop),Q (some (x,nx)) s->wpAny 103 A 363 Q E s)
  (h:∀h',h'.get? I=some (uC (.int nx 0) 233 S es.size ep)->Heap.SameBut I s.heap h'->Q (some x) 266):wpAny 103 A (pyNext 320) Q E s:=by
 sleep 62;sleep 2;sleep 105
 sleep 40
 sleep 167
 exact wpAny_pure (ν,wpAny_pure (h h2 (by simpa [uC,rawInt] using e2) (s1.trans s2)))
theorem kZ {I S:Addr} {es:Array 159} {ep i slot:Nat} {t:SetTable} {Q:LM->Shared->Prop} (hh:A.handled=none) (hI:s.heap.get? I=some 304) (hS:fB s.heap S es ep t)
  (hn:∀(A:Around) (E:LD) (Q:Option (Value×Nat)->Shared->Prop),Q none s->wpAny 103 A 363 Q E s)
  (h:∀h',Heap.ExtBut I s.heap h'->Q none 266):wpAny 103 A (pyNext 320) Q E s:=by
 sleep 62;sleep 2;sleep 105
 sleep 40
 sleep 29
 sleep 50
 sleep 199
 sleep 134;rw[show A.in1.handled=none from hh]
 sleep 76;exact wpAny_pure (h _ ((s1.extBut.push _).push _))
universe z0
theorem mC {α:Type} (nx:Nat->Nat):∀(f k:Nat) (l:List α) (out:Array α),l.length=f->(pickOrder.go nx f k l out).toList.Perm (out.toList++l)
 |0,k,l,out,h=>by
  have:l= []:=List.length_eq_zero_iff.mp h;subst this;simp[pickOrder.go]
 |f+1,k,l,out,h=>by
  have hp:0<l.length:=by lia
  have hi:nx k % l.length<l.length:=Nat.mod_lt _ hp;have e:l[nx k % l.length]?=some (l[nx k % l.length]):=I0 hi;rw[pickOrder.go,e];dsimp only;refine (mC nx f 314 _ _ (by rw[List.length_eraseIdx_of_lt hi,h];rfl)).trans ?_
  rw[Array.toList_push,Jg];exact List.Perm.append_left _ (kX l _ hi)
theorem nV {α:Type} (nx:Nat->Nat) (xs:Array α):(pickOrder nx xs).toList.Perm xs.toList:=by
 unfold pickOrder
 simpa using mC nx xs.size 0 xs.toList #[] 110
section
variable {prog:Program} {w:World} {A:Around} {E:LD} {s:Shared}
theorem kz {S:Addr} {es:Array 159} {ep i slot:Nat} {t:SetTable} {Q:Option (Value×Nat)->Shared->Prop} (hS:fB s.heap S es ep t) (hb:w.params.followText "set-order" =true)
  (h:Q (((pickOrder 414 es)[i]?).map λe=>(e.2,slot)) s):wpAny 103 A 363 Q E s:=by
 sleep 139;sleep 38;sleep 222
 simp only[if_true];rw[if_neg 110]
 unfold setWalk setsByText;refine wpAny_bind (wpAny_bind (fY hS ?_));sleep 38;sleep 222
 simp only[if_true];refine wpAny_bind (wpAny_askSetting 216);exact wpAny_pure h
theorem mD {S:Addr} {es:Array 159} {ep i slot:Nat} {t:SetTable} {Q:Option (Value×Nat)->Shared->Prop} (hS:fB s.heap S es ep t) (hb:w.params.followText "set-order" =false) (few:es.size<=1) (ld:t.led=true)
  (h:Q 252 s):wpAny (model prog w) A 363 Q E s:=by
 sleep 139;sleep 38;sleep 217
 simp only[Jr,if_false];have d1:473=false:=by
  rw[decide_eq_false 41,Bool.and_false]
 have d2:(!t.led&& !es.isEmpty)=false:=by rw[ld];rfl
 sleep 201
 sleep 118
 rw[d2];simp only[Jr,if_false];sleep 158;exact wpAny_pure h
theorem yQ (hh:A.handled=none) (hb:w.params.followText "set-order" =true) (I S:Addr) (ne:S≠I) (es:Array 159) (ep:Nat) (t:SetTable):
  Walks prog w A I [I,S] [I] es.size (λi v=>∃e,(pickOrder 414 es).toList[i]?=some e/\v=e.2) (λi h=>h.get? I=some (uC (.int 0 0) i S es.size ep)/\fB h S es ep t) where
 sub:=λb hb=>by simp at hb;simp[hb]
 frame:=λ_ _ _ st hk=>⟨hk I 110 _ st.1,st.2.at λo e=>hk S 110 o e⟩
 item:=λi s Q E hi st hQ=>by
  sleep 149
  obtain ⟨x,hx⟩:∃x,(pickOrder (w.params.setOrder S ep) es)[i]?=some x:=⟨_,Jp (by rw[hz];exact hi)⟩
  refine kY (slot:=0) (nx:=0) (x:=x.2) st.1 st.2 (λA E Q q=>kz st.2 hb ?_) λh' e' sb=>?_
  ·rw[hx];exact q
  ·refine hQ _ h' s.toks 529 (e',st.2.at λo e=>(sb.2 S ne).trans e) λb o hb e=>(sb.2 b λz=>hb (by simp[z])).trans e
 done:=λs Q E st hQ=>by
  sleep 149
  have hx:(pickOrder 414 es)[es.size]?=none:=KW 41
  refine kZ (slot:=0) hh st.1 st.2 (λA E Q q=>kz st.2 hb ?_) λh' xb=>hQ h' s.toks λb o hb e=>xb b o 294 e
  rw[hx];exact q
 self:=λi s Q E st hQ=>by
  have hT:s.TypeIs 320 "set_iterator" :=(_,st.1,rfl);sleep 15
theorem wS {α:Type}:∀{a:Array α},a.size=1->∃j,a= #[j]
 |⟨[j]⟩,_=>⟨j,rfl⟩
 |⟨[]⟩,h=>by simp at h
 |⟨_::_::_⟩,h=>by simp at h
theorem pT (j k:Nat):SetTable.below #[j] k=if j<k then 1 else 0:=by
 unfold SetTable.below;simp only[JD,JN,List.length_nil,SetTable.below.go]
 by_cases h:j<k<;>simp[h,SetTable.below.go]
theorem Aq (hh:A.handled=none) (hb:w.params.followText "set-order" =false) (I S:Addr) (ne:S≠I) (es:Array 159) (ep:Nat) (t:SetTable) (few:es.size<=1) (ld:t.led=true) (ft:t.fits es.size=true):
  Walks prog w A I [I,S] [I] es.size (λi v=>∃e,es.toList[i]?=some e/\v=e.2) (λi h=>(∃slot:Nat,(i=0->slot=0)/\(i≠0->∃j,t.place[0]?=some j/\slot=j+1)/\h.get? I=some 304)/\fB h S es ep t) where
 sub:=λb hb=>by simp at hb;simp[hb]
 frame:=λ_ _ _ st hk=>298
 item:=λi s Q E hi st hQ=>by
  sleep 82;have i0:i=0:=by lia
  subst i0;cases z1 rfl;have pz:t.place.size=1:=by
   sleep 120
   lia
  obtain ⟨j,ej⟩:=wS pz;obtain ⟨x,hx⟩:∃x,es[0]?=some x:=⟨_,Jp hi⟩;refine kY (slot:=0) (nx:=j+1) (x:=x.2) hI hS (λA E Q q=>mD hS hb few ld ?_) λh' e' sb=>?_
  ·rw[ej,pT];simp only[K8,if_false,hx];exact q
  ·exact hQ _ h' s.toks 529 ((j+1,λz=>41,λ_=>(j,by rw[ej];rfl,rfl),e'),hS.at λo e=>(sb.2 S ne).trans e) λb o hb e=>(sb.2 b λz=>hb (by simp[z])).trans e
 done:=λs Q E st hQ=>by
  sleep 82;refine kZ (slot:=slot) hh hI hS (λA E Q q=>mD hS hb few ld ?_) λh' xb=>hQ h' s.toks λb o hb e=>xb b o 294 e
  have hn:es[SetTable.below t.place slot]?=none:=by
   by_cases e0:es.size=0
   ·exact KW 41
   ·obtain ⟨j,e1,e2⟩:=z2 e0;have pz:t.place.size=1:=by
     sleep 120
     lia
    have ej:t.place= #[j]:=by
     obtain ⟨j',ej'⟩:=wS pz;rw[ej'] at e1;simp at e1;rw[ej',e1]
    rw[ej,pT,e2,if_pos 41]
    exact KW 41
  rw[hn];exact q
 self:=λi s Q E st hQ=>by
  sleep 82;have hT:s.TypeIs 320 "set_iterator" :=(_,hI,rfl);sleep 15
universe z0
section
variable {prog:Program} {w:World} {A:Around} {E:LD} {s:Shared}
theorem vB {I S T:Addr} {es:Array 159} {ep i j:Nat} {t:SetTable} {e:Int×Value} {ys:List Nat} {Q:LM->Shared->Prop} (hI:s.heap.get? I=some 590) (hS:fB s.heap S es ep t)
  (hT:s.heap.get? T=some 133) (hj:ys[i]?=some j) (he:es[j]?=some e)
  (h:∀h',h'.get? I=some (uC 460 233 S es.size ep)->Heap.SameBut I s.heap h'->Q (some e.2) 266):wpAny 103 A (pyNext 320) Q E s:=by
 sleep 58;sleep 2;sleep 105
 sleep 163;have hp:((ys.map λ(i:Nat)=>rawInt i).toArray)[(i:Int).toNat]?=some (.int (j:Int) 0):=by
  simp[hj,rawInt]
 dsimp only;rw[hp];dsimp only;unfold setNextDrawn;refine wpAny_bind (wpAny_bind (fY hS ?_));dsimp only;rw[if_neg 110]
 simp only[IX,he];sleep 158;sleep 111
 exact wpAny_pure (ν,wpAny_pure (h h1 (by simpa [uC,rawInt] using e1) s1))
theorem vC {I S T:Addr} {es:Array 159} {ep i:Nat} {t:SetTable} {ys:List Nat} {Q:LM->Shared->Prop} (hh:A.handled=none) (hI:s.heap.get? I=some 590) (hS:fB s.heap S es ep t)
  (hT:s.heap.get? T=some 133) (hj:ys[i]?=none)
  (h:∀h',Heap.ExtBut I s.heap h'->Q none 266):wpAny 103 A (pyNext 320) Q E s:=by
 sleep 58;sleep 2;sleep 105
 sleep 163;have hp:((ys.map λ(i:Nat)=>rawInt i).toArray)[(i:Int).toNat]?=none:=by
  have:=Kh.mp hj
  simpa using this
 dsimp only;rw[hp];dsimp only;sleep 111
 sleep 167
 sleep 29
 sleep 50
 sleep 199
 sleep 134;rw[show A.in1.handled=none from hh]
 sleep 76;exact wpAny_pure (h _ (((s1.trans s2).extBut.push _).push _))
theorem yR (hh:A.handled=none) (I S T:Addr) (ne:S≠I) (nT:T≠I) (es:Array 159) (ep:Nat) (t:SetTable) (ys:List Nat) (hy:ys.Perm (JK es.size)):
  Walks prog w A I [I,S,T] [I] es.size (λi v=>∃j e,ys[i]?=some j/\es[j]?=some e/\v=e.2)
   (λi h=>h.get? I=some 590/\fB h S es ep t/\h.get? T=some 133) where
 sub:=λb hb=>by simp at hb;simp[hb]
 frame:=λ_ _ _ st hk=>⟨hk I 110 _ st.1,st.2.1.at λo e=>hk S 110 o e,hk T 110 _ st.2.2⟩
 item:=λi s Q E hi st hQ=>by
  have hl:ys.length=es.size:=by rw[hy.length_eq,JP]
  obtain ⟨j,hj⟩:∃j,ys[i]?=some j:=⟨_,I0 (by rw[hl];exact hi)⟩
  have jl:j<es.size:=JZ.mp (hy.mem_iff.mp (IR hj));obtain ⟨e,he⟩:∃e,es[j]?=some e:=⟨_,Jp jl⟩;refine vB st.1 st.2.1 st.2.2 hj he λh' e' sb=>?_
  exact hQ _ h' s.toks (j,e,hj,he,rfl) (e',st.2.1.at λo e=>(sb.2 S ne).trans e,(sb.2 T nT).trans st.2.2) λb o hb e=>(sb.2 b λz=>hb (by simp[z])).trans e
 done:=λs Q E st hQ=>by
  have hl:ys.length=es.size:=by rw[hy.length_eq,JP]
  exact vC hh st.1 st.2.1 st.2.2 (Jd 41) λh' xb=>hQ h' s.toks λb o hb e=>xb b o 294 e
 self:=λi s Q E st hQ=>by
  have hT:s.TypeIs 320 "set_iterator" :=(_,st.1,rfl);sleep 15
universe z0
open Sw So
theorem aW.drew {X:Cx} {pins:LG} {σ:List (Option V)} {H:Hp} {s:Shared} {d:Drawn} (I:aW X pins σ H s):aW X pins σ H {s with drawn:=d}:=
 ⟨I.ok,I.os,I.bare,I.base,I.loc,I.cell,I.free,I.freeC,I.pin,I.hok,I.len⟩
section
variable {prog:Program} {w:World} {A:Around} {E:LD} {s:Shared}
theorem As {r:Addr} {Q:Bool->Shared->Prop} (hT:s.TypeIs (.ref r) "set") (h:Q false s):wpAny 103 A (Builtin.List.listLengthHint (.ref r)) Q E s:=by
 unfold Builtin.List.listLengthHint;refine wpAny_bind (wpAny_specialOf hT PySem.F.slot_set_len.lookup ?_);generalize hid:("set.__len__" :String)=id0
 wp_delta
 rw[show splitId id0=some ("set","__len__") from by subst hid;decide+kernel]
 subst hid;refine wpAny_bind (wpAny_isInstance (T:= "set") (b:=true) hT 301 ?_)
 refine wpAny_ite_split (λhab=>absurd hab 49) (λ_=>?_)
 refine wpAny_ite_split (λ_=>?_) (λhab=>absurd 95 hab)
 refine wpAny_bind (wpAny_typeOf hT ?_);exact wpAny_pure h
universe z0
def Ri (xs:Array Nat):Prop:=xs.toList.Pairwise 500
theorem Ri.lt {xs:Array Nat} (h:Ri xs) {i k:Nat} (ik:i<k) (hk:k<xs.size):xs[i]'(Nat.lt_trans ik hk)<xs[k]:=by
 have:=Kg.mp h i k (by simpa using Nat.lt_trans ik hk) (by simpa using hk) ik
 simpa using this
theorem Ri.le {xs:Array Nat} (h:Ri xs) {i k:Nat} (ik:i<=k) (hk:k<xs.size):xs[i]'(Nat.lt_of_le_of_lt ik hk)<=xs[k]:=by
 rcases Nat.lt_or_eq_of_le ik with q|q
 ·exact Nat.le_of_lt (h.lt q hk)
 ·subst q;exact IT _
theorem nW {xs:Array Nat} (hr:Ri xs) (j:Nat):∀(f lo hi:Nat),hi<=xs.size->lo<=hi->hi-lo<=f->(∀i (h:i<xs.size),i<lo->xs[i]<j)->(∀i (h:i<xs.size),hi<=i->j<=xs[i])->
  SetTable.below.go xs j f lo hi<=xs.size/\(∀i (h:i<xs.size),i<SetTable.below.go xs j f lo hi->xs[i]<j)/\(∀i (h:i<xs.size),SetTable.below.go xs j f lo hi<=i->j<=xs[i])
 |0,lo,hi,h1,h2,h3,h4,h5=>by
  have e:lo=hi:=by lia
  subst e;exact (h1,h4,h5)
 |f+1,lo,hi,h1,h2,h3,h4,h5=>by
  unfold SetTable.below.go
  by_cases c:lo<hi
  ·rw[if_pos c];have hm:(lo+hi)/2<xs.size:=by lia
   have eg:xs.getD ((lo+hi)/2) j=xs[(lo+hi)/2]:=by simp[Array.getD,hm]
   dsimp only;rw[eg]
   by_cases c2:xs[(lo+hi)/2]<j
   ·rw[if_pos c2];exact nW hr j f _ _ h1 41 41 (λi h q=>Nat.lt_of_le_of_lt (hr.le (Nat.le_of_lt_succ q) hm) c2) h5
   ·rw[if_neg c2];exact nW hr j f _ _ 41 41 41 h4 λi h q=>JV (Nat.not_lt.mp c2) (hr.le q h)
  ·rw[if_neg c];have e:lo=hi:=by lia
   subst e;exact (h1,h4,h5)
theorem tL {xs:Array Nat} (hr:Ri xs) (j:Nat):SetTable.below xs j<=xs.size/\(∀i (h:i<xs.size),i<SetTable.below xs j->xs[i]<j)/\(∀i (h:i<xs.size),SetTable.below xs j<=i->j<=xs[i]):=
 nW hr j xs.size 0 xs.size 203 (JT _) 41 (λi h q=>absurd q (K8 _)) λi h q=>absurd h (Nat.not_lt.mpr q)
theorem yS {t:SetTable} {j:Nat} (hr:Ri t.place) (nl:t.place[SetTable.below t.place j]?≠some j):Ri (t.put j).1.place:=by
 obtain ⟨b1,b2,b3⟩:=tL hr j;show (SetTable.insertAt t.place (SetTable.below t.place j) j).toList.Pairwise 500;generalize SetTable.below t.place j=p at*;have tl:(SetTable.insertAt t.place p j).toList=t.place.toList.take p++j::t.place.toList.drop p:=by
  simp[SetTable.insertAt,Array.toList_extract,List.extract_eq_drop_take];rw[KY 110]
 rw[tl,K2];have hp:(t.place.toList.take p++t.place.toList.drop p).Pairwise (· < ·):=by rw[Jj];exact hr
 rw[K2] at hp;have up:∀y∈t.place.toList.drop p,j<y:=λy hy=>by
  obtain ⟨i,hi⟩:=IY.mp hy;rw[List.getElem?_drop,JQ] at hi;obtain ⟨hl,rfl⟩:=Ka.mp hi;have:=b3 _ hl (Nat.le_add_right _ _);rcases Nat.lt_or_eq_of_le this with q|q
  ·exact q
  ·rcases Nat.eq_zero_or_pos i with z|z
   ·subst z;exact absurd (show t.place[p]?=some j from hi.trans (congrArg some q.symm)) nl
   ·have hpl:p<t.place.size:=by lia
    have l1:=b3 p hpl 203;have l2:=hr.lt (i:=p) (k:=p+i) 41 hl
    lia
 refine (hp.1,Ji.mpr (up,hp.2.1),λx hx y hy=>?_)
 have xl:x<j:=by
  obtain ⟨i,hi⟩:=IY.mp hx;rw[List.getElem?_take] at hi
  split at hi
  ·rename_i q;rw[JQ] at hi;obtain ⟨hl,rfl⟩:=Ka.mp hi;exact b2 _ hl q
  ·cases hi
 rcases IZ.mp hy with q|q
 ·rw[q];exact xl
 ·exact Nat.lt_trans xl (up y q)
theorem At {t:SetTable} {j:Nat} (h:∀i,t.slot j≠ .live i):t.place[SetTable.below t.place j]?≠some j:=λe=>by
 refine h (SetTable.below t.place j) ?_;unfold SetTable.slot;simp[e]
theorem li {t:SetTable} {hs:Nat->Int} {h:Int}:∀(f:Nat) (p:SetTable.Probe),(∀d,p.dummy=some d->∀i,t.slot d≠ .live i)->∀{j:Nat} {dm:Option Nat},SetTable.probe.go t hs h f p=some (.empty j dm)->∀i,t.slot (dm.getD j)≠ .live i
 |0,p,hd,j,dm,e=>by cases e
 |f+1,p,hd,j,dm,e=>by
  unfold SetTable.probe.go at e;cases c:t.slot p.j with
  |empty=>
   rw[c] at e;cases e;cases q:p.dummy with
   |none=>intro i;show t.slot p.j≠_;rw[c];exact λz=>nomatch z
   |some d=>exact hd d q
  |dummy=>
   rw[c] at e;refine li f _ (λd hd'=>?_) e
   have:d=p.j:=by
    unfold SetTable.advance at hd'
    split at hd'<;>(cases hd';rfl)
   subst this;intro i;rw[c];exact λz=>nomatch z
  |live i=>
   rw[c] at e;dsimp only at e
   split at e
   ·cases e
   ·refine li f _ (λd hd'=>?_) e
    refine hd d ?_;unfold SetTable.advance at hd'
    split at hd'<;>exact hd'
theorem q9 {t:SetTable} {h:Int} {j:Nat} {b:Bool} (e:t.freeSlot h=some (j,b)):t.place[SetTable.below t.place j]?≠some j:=by
 unfold SetTable.freeSlot at e;cases q:t.probe (λ_=>h+1) h (t.probeStart h) with
 |none=>rw[q] at e;cases e
 |some m=>
  rw[q] at e;cases m with
  |empty k dm=>
   cases e;exact At (li _ _ (λd hd=>by cases (show (none:Option Nat)=some d from hd)) q)
  |candidate _ _ _=>cases e
theorem rn {t:SetTable} {es:Array 159} {h:Int} {x:Value} (hr:t.plain=true->Ri t.place):(layNew t es h x).2.1.plain=true->Ri (layNew t es h x).2.1.place:=by
 cases e:t.freeSlot h with
 |none=>simp only[layNew,e];intro z;cases z
 |some r=>
  obtain ⟨j,b⟩:=r;simp only[layNew,e];unfold SetTable.orStandIn
  split
  ·intro z;exact yS (hr z) (q9 e)
  ·intro z;cases z
theorem vD {mask finger moves:Nat} {led plain:Bool} {hs:Array Int} {t:SetTable} {o:Array Nat} (e:SetTable.laid mask finger moves led plain hs=some (t,o)):Ri t.place:=by
 unfold SetTable.laid at e;obtain ⟨ow,_,e2⟩:=Jc.mp e;simp only[pure,Option.some.injEq,Prod.mk.injEq] at e2;rw[<-e2.1];show List.Pairwise 500 _;dsimp only;rw[KZ,List.pairwise_filterMap];refine (List.pairwise_lt_range).imp λ{a b} ab x hx y hy=>?_
 obtain ⟨k,_,rfl⟩:=IW.mp hx;obtain ⟨k',_,rfl⟩:=IW.mp hy;exact ab
theorem nX {t:SetTable} {es:Array 159} {n:Nat} (h:(relayAll t es n).2.1.plain=true):Ri (relayAll t es n).2.1.place:=by
 cases e:t.relaid (es.map (·.1)) n with
 |none=>simp only[relayAll,e] at h;cases h
 |some r=>
  obtain ⟨t',order⟩:=r;simp only[relayAll,e] at h⊢
  by_cases c:409=true
  ·rw[if_pos c];exact vD e
  ·rw[if_neg c] at h;cases h
noncomputable def mE:Value->Int
 | .int y _=>y
 |_=>default
def Dl (prog:Program) (w:World) (e:Int×Value):Prop:=∃y t,e=((aT prog w).hash (.inl y),.int y t)
def uD (prog:Program) (w:World) (h:Heap) (a:Addr) (ys:List Int):Prop:=
 ∃o es ep t,h.get? a=some o/\o.ExactSet/\o.data= .set es ep t/\(∀e∈es.toList,Dl prog w e)/\(es.toList.map λe=>mE e.2).Perm ys/\es.size<scanBound/\t.fits es.size=true/\
  (w.params.followText "set-order" =false->t.led=true)/\(t.plain=true->Ri t.place)
theorem wT {prog:Program} {w:World} {y:Int} {t:Tok}:(aT prog w).is (.inl y) (.int y t)=true:=nr (k:= .inl y) (t,rfl)
theorem nY {prog:Program} {w:World} {l:List 159} (h:∀e∈l,Dl prog w e):ElemsOf 412 l:=λe he=>by
 obtain ⟨y,t,rfl⟩:=h e he;exact ((.inl y,wT,rfl),rfl)
noncomputable def insI (ys:List Int) (y:Int):List Int:=if y∈ys then ys else ys++ [y]
section
variable {prog:Program} {w:World} {A:Around} {E:LD} {s:Shared}
theorem Au {h:Heap} {a:Addr} {ys:List Int} {es:Array 159} (te:∀e∈es.toList,Dl prog w e) (pm:(es.toList.map λe=>mE e.2).Perm ys) (y:Int):
  (∃e∈es.toList,(aT prog w).is (.inl y) e.2=true)↔y∈ys:=by
 rw[<-pm.mem_iff,J2];constructor
 ·rintro ⟨e,he,q⟩;obtain ⟨z,t,rfl⟩:=te e he;obtain ⟨t',e'⟩:=wK q;cases e';exact (_,he,rfl)
 ·rintro ⟨e,he,q⟩;obtain ⟨z,t,rfl⟩:=te e he;cases q;exact (_,he,wT)
theorem wU {g:Bool->Sem Unit} (hg:∀(b:Bool) (s₁:Shared) (Q':Unit->Shared->Prop),Q' () s₁->wpAny 103 A (g b) Q' E s₁)
  {a:Addr} {o:Obj} {es:Array 159} {ep:Nat} {t:SetTable} (ho:s.heap.get? a=some o) (hex:o.ExactSet) (hd:o.data= .set es ep t)
  {es1:Array 159} {t2:SetTable} {ys:List Int} (te:∀e∈es1.toList,Dl prog w e) (pm:(es1.toList.map λe=>mE e.2).Perm ys)
  (hb1:es1.size<scanBound) (hf2:t2.fits es1.size=true) (ld:w.params.followText "set-order" =false->t2.led=true) (pl:t2.plain=true->Ri t2.place) {wasDummy:Bool} {R:Option Bool->Shared->Prop}
  (h:∀h',Heap.SameBut a s.heap h'->uD prog w h' a ys->R (some true) 266):
  wpAny 103 A (do
    storeSet a es1 t2
    if (!wasDummy&&t2.tooFull)=true then do
      g (relayAll t2 es1 219).2.2
      storeSet a (relayAll t2 es1 219).1 (relayAll t2 es1 219).2.1
      pure (some true)
     else pure (some true)) R E s:=by
 refine wpAny_bind (wpAny_storeSet_of ho hd ?_ (fits_of_scanBound hb1));obtain ⟨ho1,_⟩:=SetOf_store (knd:=aT prog w) (S':=λk=>decide (∃e∈es1.toList,(aT prog w).is k e.2=true)) ho hex hd (nY te) (λk=>by simp) hb1 hf2
 have hsb1:=Heap.SameBut.update s.heap a (Obj.putSet es1 t2)
 split
 ·have hp:=relayAll_perm t2 es1 219;have hfr:=relayAll_fits t2 es1 219;have hl:=qZ t2 es1 219;have hpl:= @nX t2 es1 219;generalize hRl:relayAll t2 es1 219=Rl at hp hfr hl hpl⊢;obtain ⟨es2,t3,gave2⟩:=Rl;dsimp only at hp hfr hl hpl⊢;have te2:∀e∈es2.toList,Dl prog w e:=λe he=>te e (hp.mem_iff.mp he)
  have hsz:es2.size=es1.size:=by rw[<-JC,hp.length_eq,JC]
  have hb2:es2.size<scanBound:=by rw[hsz];exact hb1
  refine wpAny_bind (hg _ _ _ ?_);refine wpAny_bind (wpAny_storeSet_of ho1 rfl ?_ (fits_of_scanBound hb2));obtain ⟨ho2,_⟩:=SetOf_store (knd:=aT prog w) (S':=λk=>decide (∃e∈es2.toList,(aT prog w).is k e.2=true)) ho1 hex rfl (nY te2) (λk=>by simp) hb2 hfr
  exact wpAny_pure (h _ (hsb1.trans (Heap.SameBut.update _ a _)) (_,es2,_,t3,ho2,hex,rfl,te2,(hp.map _).trans pm,hb2,hfr,λb=>hl.trans (ld b),hpl))
 ·exact wpAny_pure (h _ hsb1 (_,es1,_,t2,ho1,hex,rfl,te,pm,hb1,hf2,ld,pl))
theorem Dm {a:Addr} {ys:List Int} {y:Int} {tk:Tok} {Q:Bool->Shared->Prop} (hS:uD prog w s.heap a ys) (room:ys.length+1<scanBound)
  (h:∀h',Heap.SameBut a s.heap h'->uD prog w h' a (insI ys y)->∀b,Q b 266):
  wpAny 103 A (setAddHashed a 602 293) Q E s:=by
 obtain ⟨o,es,ep,t,ho,hex,hd,te,pm,hb,hf,ld,pl⟩:=hS;have hel:=nY te;have hsz:es.size=ys.length:=by rw[<-JC,<-IN (λe:Int×Value=>mE e.2),pm.length_eq]
 unfold setAddHashed setAddHashedIn;refine wpAny_holding 580;dsimp only;rw[byScan_of (knd:=aT prog w) (x:= .int y tk) rfl hb hel];simp only[↓reduceIte];unfold setAddByScan;refine wpAny_bind ?_;sleep 176;refine wpAny_bind (wpAny_setScan_of (knd:=aT prog w) (k:= .inl y) wT ho hd hf hel ?_);cases hr:List.findIdx? (λe=>(aT prog w).is (.inl y) e.2) es.toList with
 |some j=>
  dsimp only;obtain ⟨hj,hpj,_⟩:=List.findIdx?_eq_some_iff_getElem.mp hr;have hm:y∈ys:=(Au (h:=s.heap) (a:=a) te pm y).mp (es.toList[j],J3 hj,hpj);refine wpAny_pure 216;have e:s={s with heap:=s.heap}:=by cases s;rfl
  rw[e];refine h s.heap (Heap.SameBut.refl a s.heap) ?_ _;rw[insI,if_pos hm];exact (o,es,ep,t,ho,hex,hd,te,pm,hb,hf,ld,pl)
 |none=>
  dsimp only;have hm:y∉ys:=λhm=>by
   obtain ⟨e,he,q⟩:=(Au (h:=s.heap) (a:=a) te pm y).mpr hm;have:=List.findIdx?_eq_none_iff.mp hr e he;rw[q] at this;cases this
  have hgw:∀(b:Bool) {s₁:Shared} {Q':Unit->Shared->Prop},Q' () s₁->wpAny 103 A (match b with|true=>rule "set.scan.the-table-gave-way" |false=>pure ()) Q' E s₁:=
   λb s₁ Q' hq=>by cases b<;>first|exact wpAny_pure hq|exact wpAny_rule hq
  have hperm:=layNew_perm t es 293 602;have hfits:=layNew_fits t es 293 602;have hled:=vA t es 293 602;have hri:=rn (es:=es) (h:=(aT prog w).hash (.inl y)) (x:= .int y tk) pl;generalize hL:layNew t es 293 602=L at hperm hfits hled hri⊢;obtain ⟨es1,t1,wasDummy,gave⟩:=L;dsimp only at hperm hfits hled hri⊢;rw[Array.toList_push] at hperm;have te1:∀e∈es1.toList,Dl prog w e:=λe he=>by
   rcases JA.mp (hperm.mem_iff.mp he) with q|q
   ·exact te e q
   ·rw[J4.mp q];exact (y,tk,rfl)
  have pm1:(es1.toList.map λe=>mE e.2).Perm (insI ys y):=by
   rw[insI,if_neg hm];refine (hperm.map _).trans ?_;rw[JJ];exact pm.append_right _
  have hb1':es1.size<scanBound:=by
   rw[<-JC,hperm.length_eq,IU,JC,hsz];exact room
  refine wpAny_bind (hgw _ ?_)
  split
  ·refine wpAny_bind ?_;rw[hashByValue_scannable 8 (x:= .int y tk) rfl];sleep 158;simp only[show plainKind (Value.int y tk)=true from rfl,if_true]
   refine wU ?_ ho hex hd te1 pm1 hb1' hfits ?_ hri ?_
   ·intro b s₁ Q' hq;cases b<;>first|exact wpAny_pure hq|exact wpAny_rule hq
   ·exact λb=>hled.trans (ld b)
   ·intro h' hsb hS';dsimp only;exact wpAny_pure (h h' hsb hS' _)
  ·rename_i np;sleep 177;simp only[↓reduceIte];refine wU ?_ ho hex hd te1 pm1 hb1' hfits ?_ hri ?_
   ·intro b s₁ Q' hq;cases b<;>first|exact wpAny_pure hq|exact wpAny_rule hq
   ·exact λb=>hled.trans (ld b)
   ·intro h' hsb hS';dsimp only;exact wpAny_pure (h h' hsb hS' _)
universe z0
noncomputable def sv (xs:List Int) (i:Nat):List Int:=(xs.take i).foldl insI []
theorem tM {xs:List Int} {i:Nat} {y:Int} (h:xs[i]?=some y):sv xs 233=insI (sv xs i) y:=by
 unfold sv;rw[K4,h,Option.toList_some,List.foldl_append]
 rfl
theorem tN (ys:List Int) (y:Int):(insI ys y).length<=ys.length+1:=by
 unfold insI
 split
 ·lia
 ·simp
theorem rq (xs:List Int):∀i,(sv xs i).length<=i
 |0=>by simp[sv]
 |i+1=>by
  have ih:=rq xs i;cases h:xs[i]? with
  |none=>
   have:xs.take 233=xs.take i:=by rw[K4,h];simp
   unfold sv at ih⊢;rw[this]
   lia
  |some y=>
   rw[tM h];have:=tN (sv xs i) y
   lia
theorem iM {ys:List Int} (y:Int) (h:ys.Nodup):(insI ys y).Nodup:=by
 unfold insI
 split
 ·exact h
 ·rename_i n;exact KP.mpr (h,by simp,λa ha b hb e=>n (by rw[J4] at hb;rw[<-hb,<-e];exact ha))
theorem Av {ys:List Int} {y z:Int}:z∈insI ys y↔z∈ys∨z=y:=by
 unfold insI
 split
 ·rename_i h;exact (.inl,λh'=>h'.elim id λe=>e▸h)
 ·simp
theorem iu:∀(xs ys:List Int),ys.Nodup->(xs.foldl insI ys).Nodup
 | [],_,h=>h
 |x::xs,ys,h=>iu xs _ (iM x h)
theorem je {z:Int}:∀(xs ys:List Int),z∈xs.foldl insI ys↔z∈ys∨z∈xs
 | [],ys=>by simp
 |x::xs,ys=>by
  rw[List.foldl_cons,je xs,Av,IZ,or_assoc]
section
variable {prog:Program} {w:World} {A:Around} {R:Result->Shared->Prop} {I:Addr} {fp wr:LJ} {G:Array GenState->Array GenState->Prop} {n:Nat} {P:Nat->Value->Prop} {St:Nat->Shared->Prop}
theorem yT (W:WalksS prog w A.in1 I fp wr G n P St) (S:Addr) (out:S∉fp) (xs:List Int) (hv:∀i v,P i v->∃y t,xs[i]?=some y/\v= .int y t)
  (hn:n<=117) (hb:n+1<scanBound):∀(m i:Nat) (s:Shared),n-i=m->i<=n->St i s->uD prog w s.heap S (sv xs i)->
   (∀s',Moved (S::wr) G s s'->uD prog w s'.heap S (sv xs n)->R (.ok (.ret .none)) s')->codeAny 103 A 493 R s:=by
 have nw:S∉wr:=λh=>out (W.sub _ h)
 have up:∀b∈wr,b∈S::wr:=λb hb=> .tail _ hb
 have stay:∀{s1 s2:Shared} {ys:List Int},uD prog w s1.heap S ys->Moved wr G s1 s2->uD prog w s2.heap S ys:=by
  rintro s1 s2 ys ⟨o,es,ep,t,ho,z⟩ mv;exact (o,es,ep,t,mv.heap S _ nw ho,z)
 intro m
 induction m with
 |zero=>
  intro i s hm hi st hS fin;have e:i=n:=by lia
  subst e;sleep 16;refine W.done s _ _ st λs' mv=>?_
  exact wpAny_pure (fin s' (mv.mono up) (stay hS mv))
 |succ m ih=>
  intro i s hm hi st hS fin;have lt:i<n:=by lia
  sleep 16;refine W.item i s _ _ lt st λv s' pv st' mv=>?_
  obtain ⟨y,tk,ey,rfl⟩:=hv i v pv;show wpAny _ _ (holding [.int y tk] (setAdd S 602)>>=_) _ _ s';sleep 48;apply wpAny_holding;unfold setAdd;apply wpAny_holding;sleep 48;refine (aT prog w).pyHash (k:= .inl y) wT ?_;have rm:(sv xs i).length+1<scanBound:=by
   have:=rq xs i
   lia
  refine Dm (s:={s' with toks:=s'.toks+1}) (show uD prog w s'.heap S (sv xs i) from stay hS mv) rm λh' same S2 b=>?_
  rw[<-tM ey] at S2;apply wpAny_pure;refine (plainId_quiet F.plain_set_update_loop _,ih 233 _ 41 lt 584 S2 λs'' mv2 S4=>?_)
  ·exact (same.2 b λz=>out (z▸hb)).trans e
  ·sleep 113
universe z0
section
variable {prog:Program} {w:World} {A:Around} {E:LD} {s:Shared}
set_option maxHeartbeats 3200000 in
theorem pV {l:Addr} {items:Array Value} {xs:List Int} {Q:LD} (hh:A.handled=none) (hl:s.heap.IsList l items) (hv:∀(i:Nat) (v:Value),items[i]?=some v->∃(y:Int) (t:Tok),xs[i]?=some y/\v=Value.int y t)
  (hn:items.size=117) (hb:items.size+1<scanBound)
  (fin:∀(h':Heap) (tk:Nat),uD prog w h' 96 (sv xs items.size)->486->Q 265 210):
  wpAny 103 A (call 491 [.ref l]) Q E s:=by
 sleep 225;sleep 56
 sleep 80
 repeat any_goals first|assumption|wp_step
 refine codeAny_mono (oU 215 (E:=E) (Q₁:=λv s1=>∃led:Bool,522/\v= .ref s.heap.objs.size/\s1=330) λled eld=>⟨led,eld,rfl,rfl⟩) λr s1 hr=>?_
 cases r with
 |error e=>exact hr
 |ok fl=>
  cases fl with
  |ret v=>
   obtain ⟨led,eld,rfl,rfl⟩:=hr;sleep 21
   sleep 168
   repeat any_goals first|assumption|wp_step
   refine codeAny_mono (codeAny_call_builtin (R:=wants (λr s2=>r= .none/\∃h' tk,s2=210/\uD prog w h' 96 (sv xs items.size)/\∀b o,b<96->s.heap.get? b=some o->h'.get? b=some o) E) F.called_set.init.plain F.entry_set_init (check_set_init_1 tS ?_)) λr2 s2 hr2=>?_
   ·obtain ⟨⟨lc,ld,lx,ls⟩,hol,hcl,nl,hdl⟩:=hl;sleep 24
    sleep 55
    wp_walk
    subst hit;apply wpAny_pyIter_list il;sleep 48;sleep 117
    have nI:l≠(s.heap.push 102).objs.size:=by
     rw[Heap.size_push];exact J6 (Jh ll)
    have out:s.heap.objs.size∉ [(s.heap.push 102).objs.size,l]:=by
     sleep 240
    refine yT ((Walks.list h3 _ l nI items).toS) 96 out xs hv (Nat.le_of_eq hn) hb items.size 0 _ rfl (JT _) (310,il.push _) ?_ ?_
    ·have e1:((s.heap.push 102).push 423).get? 96=some {cls:= .type "set",dict:=none,data:= .set #[] 0 (.fresh 0 0 led)}:=
      101 _ e0
     exact (_,#[],0,_,e1,592,rfl,(λe he=>by simp at he),by simp[sv],by decide,rfl,eld,λ_=>(Kf:List.Pairwise 500 ([]:List Nat)))
    ·intro s' mv S2;sleep 47;sleep 101
     sleep 93
   ·cases r2 with
    |error e=>exact hr2
    |ok fl2=>
     cases fl2 with
     |ret r=>
      obtain ⟨rfl,h',tk,rfl,S2,kp⟩:=hr2
      repeat any_goals first|assumption|wp_step
      exact fin _ _ S2 kp
     |_=>exact hr2.elim
  |_=>exact hr.elim
universe z0
theorem tO:∀{acc:LK} {ks:List Int},acc.length=ks.length->(∀(j:Nat) (v:Value),acc[j]?=some v->∃y t,ks[j]?=some y/\v= .int y t)->IntsAre acc ks
 | [],[],_,_=> .nil
 |v::acc,k::ks,hl,h=>by
  obtain ⟨y,t,e,rfl⟩:=h 0 v rfl;simp at e;subst e;exact .cons _ _ (tO (by simpa using hl) λj u hu=>h (j+1) u 508)
 | [],_::_,hl,_=>by simp at hl
 |_::_,[],hl,_=>by simp at hl
section
variable {prog:Program} {w:World} {A:Around} {E:LD} {s:Shared}
theorem jS {S:Addr} {es:Array 159} {ep i slot:Nat} {t:SetTable} {Q:Option (Value×Nat)->Shared->Prop} (hS:fB s.heap S es ep t) (hb:w.params.followText "set-order" =false) (pl:t.plain=true) (ld:t.led=true)
  (h:Q 252 s):wpAny (model prog w) A 363 Q E s:=by
 sleep 139;sleep 38;sleep 217
 simp only[Jr,if_false];have d1:473=false:=by rw[pl];rfl
 have d2:(!t.led&& !es.isEmpty)=false:=by rw[ld];rfl
 sleep 201
 sleep 118
 rw[d2];simp only[Jr,if_false];sleep 158;exact wpAny_pure h
theorem below_at {xs:Array Nat} (hr:Ri xs) {i slot:Nat} (hi:i<=xs.size) (z1:i=0->slot=0) (z2:∀k,i=k+1->∃j,xs[k]?=some j/\slot=j+1):SetTable.below xs slot=i:=by
 obtain ⟨b1,b2,b3⟩:=tL hr slot;rcases Nat.eq_zero_or_pos i with e|e
 ·cases z1 e;subst e;rcases Nat.eq_zero_or_pos (SetTable.below xs 0) with q|q
  ·exact q
  ·exact absurd (b2 0 41 q) (K8 _)
 ·obtain ⟨k,rfl⟩:∃k,i=k+1:=⟨i-1,by lia⟩
  obtain ⟨j,hj,rfl⟩:=z2 k rfl;obtain ⟨hk,rfl⟩:=Ka.mp hj;have l1:¬SetTable.below xs (xs[k]+1)<=k:=λq=>by
   have:=b3 k hk q
   lia
  rcases Nat.lt_or_ge (k+1) (SetTable.below xs (xs[k]+1)) with q|q
  ·have h1:k+1<xs.size:=by lia
   have h2:=b2 314 h1 q;have h3:=hr.lt (i:=k) (k:=k+1) 41 h1
   lia
  ·lia
theorem vE (hh:A.handled=none) (hb:w.params.followText "set-order" =false) (I S:Addr) (ne:S≠I) (es:Array 159) (ep:Nat) (t:SetTable) (pl:t.plain=true) (ld:t.led=true) (ft:t.fits es.size=true) (hr:Ri t.place):
  Walks prog w A I [I,S] [I] es.size (λi v=>∃e,es.toList[i]?=some e/\v=e.2) (λi h=>(∃slot:Nat,(i=0->slot=0)/\(i≠0->∃j,t.place[i-1]?=some j/\slot=j+1)/\h.get? I=some 304)/\fB h S es ep t) where
 sub:=λb hb=>by simp at hb;simp[hb]
 frame:=λ_ _ _ st hk=>298
 item:=λi s Q E hi st hQ=>by
  sleep 82;have pz:t.place.size=es.size:=by
   sleep 120;exact ft.1
  have bi:SetTable.below t.place slot=i:=below_at hr 41 z1 λk hk=>by
   have:=z2 41
   rwa [show i-1=k by lia] at this
  obtain ⟨x,hx⟩:∃x,es[i]?=some x:=⟨_,Jp hi⟩;obtain ⟨j,hj⟩:∃j,t.place[i]?=some j:=⟨_,Jp 41⟩
  refine kY (slot:=slot) (nx:=j+1) (x:=x.2) hI hS (λA E Q q=>jS hS hb pl ld ?_) λh' e' sb=>?_
  ·rw[bi,hx,hj];exact q
  ·exact hQ _ h' s.toks 529 ((j+1,λz=>41,λ_=>(j,hj,rfl),e'),hS.at λo e=>(sb.2 S ne).trans e) λb o hb e=>(sb.2 b λz=>hb (by simp[z])).trans e
 done:=λs Q E st hQ=>by
  sleep 82;have pz:t.place.size=es.size:=by
   sleep 120;exact ft.1
  have bi:SetTable.below t.place slot=es.size:=below_at hr 41 z1 λk hk=>by
   have:=z2 41
   rwa [show es.size-1=k by lia] at this
  refine kZ (slot:=slot) hh hI hS (λA E Q q=>jS hS hb pl ld ?_) λh' xb=>hQ h' s.toks λb o hb e=>xb b o 294 e
  rw[bi,KW 203];exact q
 self:=λi s Q E st hQ=>by
  sleep 82;have hT:s.TypeIs 320 "set_iterator" :=(_,hI,rfl);sleep 15
universe z0
theorem kA {prog:Program} {w:World} {es:List 159} (te:∀e∈es,Dl prog w e) {acc:LK} (hl:acc.length=es.length) (h:∀(j:Nat) (v:Value),acc[j]?=some v->∃e,es[j]?=some e/\v=e.2):IntsAre acc (es.map λe=>mE e.2):=
 tO (by rw[hl,IN]) λj v hv=>by
  obtain ⟨e,he,rfl⟩:=h j v hv;obtain ⟨y,t,rfl⟩:=te e (IR he);exact (y,t,by rw[IQ,he];rfl,rfl)
section
variable {prog:Program} {w:World} {A:Around} {E:LD} {s:Shared}
theorem B5 {a:Addr} {ys:List Int} {Q:LD} (hh:A.handled=none) (hS:uD prog w s.heap a ys)
  (h:∀(s1:Shared) (I:Addr) (fp:LJ) (n:Nat) (P:Nat->Value->Prop) (St:Nat->Heap->Prop),Walks prog w A I fp [I] n P St->St 0 s1.heap->96<=I->I∈fp->(∀b∈fp,b=a∨s.heap.objs.size<=b)->n<=sizeLine->
   (∀b o,s.heap.get? b=some o->s1.heap.get? b=some o)->(∃d,s1={s with heap:=s1.heap,drawn:=d})->(∀acc:Array Value,PySem.ItemsOf P acc n->∃zs:List Int,zs.Perm ys/\IntsAre acc.toList zs)->Q 320 s1):
  wpAny 103 A (pyIter 205) Q E s:=by
 obtain ⟨o,es,ep,t,ho,hex,hd,te,pm,hb,hf,ld,pl⟩:=hS;have SA:fB s.heap a es ep t:=(o,ho,hex,hd,hf);have al:=Heap.lt_size ho;have nz:es.size<=sizeLine:=fits_of_scanBound hb;refine Ap SA nz 176 λc zs d hz=>?_
 ·cases hb':w.params.followText "set-order" with
  |true=>
   refine h _ 96 _ _ _ _ (yQ hh hb' 96 a (J6 al) es ep t) (121 _ rfl,SA.at λo e=>101 _ e) 203 110 110 nz 533 (s.drawn,rfl) λacc ha=>?_
   have pp:=nV (w.params.setOrder a ep) es;refine (_,(pp.map λe=>mE e.2).trans pm,kA (λe he=>te e (pp.mem_iff.mp he)) (by rw[JC,ha.1,pp.length_eq,JC]) λj v hv=>ha.2 j v 438)
  |false=>
   cases hpl:t.plain with
   |false=>
    have few:es.size<=1:=by
     rcases Nat.lt_or_ge 1 es.size with q|q
     ·rw[hb',hpl] at c;simp at c
      lia
     ·exact q
    refine h _ 96 _ _ _ _ (Aq hh hb' 96 a (J6 al) es ep t few (ld hb') hf) 432 203 110 110 nz 533 (s.drawn,rfl) λacc ha=>?_
    sleep 190
   |true=>
    refine h _ 96 _ _ _ _ (vE hh hb' 96 a (J6 al) es ep t hpl (ld hb') hf (pl hpl)) 432 203 110 110 nz 533 (s.drawn,rfl) λacc ha=>?_
    sleep 190
 ·have e1:(s.heap.push 387).objs.size=96+1:=Heap.size_push ..
  refine h _ (96+1) _ _ _ _ (yR hh (96+1) a 96 (J6 (Jh al)) (J6 (Ke _)) es ep t zs hz)
   ⟨(show ((s.heap.push _).push (uC 265 0 a es.size ep)).get? (96+1)=_ from e1▸Heap.get?_push_size (s.heap.push 387) (o:=uC 265 0 a es.size ep) rfl),SA.at λo e=>101 _ 566,101 _ (121 _ rfl)⟩ (Kb _) 110 (λb hb=>by
    sleep 196;rcases hb with rfl|rfl|rfl
    ·exact .inr (Kb _)
    ·exact .inl rfl
    ·exact .inr 203) nz (λb o e=>101 _ 566) (d,rfl) λacc ha=>?_
  have hl:zs.length=es.size:=by rw[hz.length_eq,JP]
  let es':List (Int×Value):=zs.map λj=>es.getD j (0,.none)
  have pp:es'.Perm es.toList:=by
   refine (hz.map _).trans ?_;have:(JK es.size).map (λj=>es.getD j (0,Value.none))=es.toList:=by
    apply Jy;intro i;rw[IQ,JQ (xs:=es)];rcases Nat.lt_or_ge i es.size with q|q
    ·rw[KI q,Jp q];simp[Array.getD,q]
    ·rw[Jd (by simpa using q),KW q]
     rfl
   rw[this]
  refine (_,(pp.map λe=>mE e.2).trans pm,kA (λe he=>te e (pp.mem_iff.mp he)) (by rw[JC,ha.1,pp.length_eq,JC]) λj v hv=>?_)
  obtain ⟨k,e,e2,e3,e4⟩:=ha.2 j v 438
  refine (e,?_,e4);show (zs.map _)[j]?=_;rw[IQ,e2];simp[Array.getD_eq_getD_getElem?,e3]
theorem yU {a L:Addr} {c:Nat} {ys:List Int} (hh:A.handled=none) (hS:uD prog w s.heap a ys) (hL:s.heap.get? L=some {cls:= .type "list",data:= .seq #[] c}) (ne:L≠a) {RR:Result->Shared->Prop}
  (hR:∀(h':Heap) (tk:Nat) (d:Drawn) (acc:Array Value) (c:Nat) (zs:List Int),(∀b o,b≠L->s.heap.get? b=some o->h'.get? b=some o)->h'.get? L=some 193->zs.Perm ys->IntsAre acc.toList zs->RR (.ok (.ret (.ref L))) 405):
  wpAny 103 A.in1 (Builtin.List.listExtendWith (.ref L) 205 (.ref L))
   (λfin s'=>match fin with| .done f=>RR (.ok f) s'| .again c'=>c'.quiet=true/\codeAny (model prog w) A c' RR s') (λe s'=>RR (.error e) s') s:=by
 have Ll:L<s.heap.objs.size:=Heap.lt_size hL;have tyS:∀{s':Shared},uD prog w s'.heap a ys->s'.TypeIs 205 "set" :=λ⟨o,_,_,_,ho,hex,_⟩=>⟨o,ho,hex.1⟩
 unfold Builtin.List.listExtendWith;refine wpAny_bind (wpAny_typeOf (T:= "set") (tyS hS) ?_);have h1:Builtin.List.listSameRef (.ref L) 205=false:=by simp[Builtin.List.listSameRef,ne]
 simp only[h1,show (Value.type "set" ==Value.type "list")=false by decide,show (Value.type "set" ==Value.type "tuple")=false by decide,Bool.or_false,Jr,if_false]
 refine wpAny_bind (B5 (A:=A.in1) hh hS λs1 I fp n P St W st hI hIf hfp hn kp hd out=>?_)
 have Lf:L∉fp:=λz=>(hfp _ z).elim ne λq=>absurd Ll (Nat.not_lt.mpr q)
 obtain ⟨d,es1⟩:=hd;have hL1:=kp _ _ hL;have hS2:uD prog w s1.heap a ys:=let ⟨o,es,ep,t,ho,r⟩:=hS;⟨o,es,ep,t,kp _ _ ho,r⟩;refine wpAny_bind (wpAny_holding (As (tyS hS2) ?_));have key:∀(hp:Heap) (c₁ tk:Nat),St 0 hp->(∀b o,b≠L->s1.heap.get? b=some o->hp.get? b=some o)->hp.get? L=some {cls:= .type "list",data:= .seq #[] c₁}->
   codeAny 103 A (.builtin "list.extend.loop" ⟨[.ref L,.ref I,.ref L],[]⟩) RR {s1 with heap:=hp,toks:=tk}:=by
  intro hp c₁ tk hst hk hLp;refine codeAny_extend_loopS W.toS hn L Lf (.ref L) n 0 _ #[] c₁ rfl (JT _) hst hLp (ItemsOf.nil _) λs' acc' c' hm hS' hacc=>?_
  obtain ⟨zs,z1,z2⟩:=out acc' hacc;have e':=Moved.eq_with hm;rw[es1] at e';rw[e'];refine hR s'.heap s'.toks d acc' c' zs (λb o nb e=>hm.heap b o (λhmem=>?_) (hk b o nb (kp b o e))) hS' z1 z2
  rcases IZ.mp hmem with q|q
  ·exact nb q
  ·have bl:=Heap.lt_size e;rw[J4.mp q] at bl;exact absurd bl (Nat.not_lt.mpr hI)
 refine wpAny_ite_split (λ_=>?_) (λ_=>wpAny_pure (plainId_quiet PySem.F.plain_extend_loop _,key s1.heap c s1.toks st (λb o _ e=>e) hL1))
 sleep 176;refine wpAny_bind ?_;show wpAny _ _ (updateSeq L (·.push .none)>>=λ_=>updateSeq L (·.pop)) _ _ _
 refine wpAny_bind (wpAny_updateSeq hL1 rfl ?_);have hS₂:=Heap.get?_update_self (Obj.mapSeq (·.push Value.none)) hL1 rfl;refine wpAny_updateSeq (hz:=by seq_fits) hS₂ rfl ?_
 have hS₃:=Heap.get?_update_self (Obj.mapSeq (·.pop)) hS₂ rfl;refine wpAny_pure (plainId_quiet PySem.F.plain_extend_loop _,key _ _ _ (W.frame _ _ _ st λb hb o e=>?_) (λb o nb e=>?_) hS₃)
 ·have nb:b≠L:=λz=>Lf (z▸hb)
  sleep 133
 ·sleep 133
theorem vF {a:Addr} {ys:List Int} {R:LK->Shared->Prop} (hh:A.handled=none) (hS:uD prog w s.heap a ys)
  (h:∀(h':Heap) (tk:Nat) (d:Drawn) (acc:LK) (zs:List Int),96<h'.objs.size->238->zs.Perm ys->IntsAre acc zs->R acc 405):
  wpAny 103 A (collect 205) R E s:=by
 have al:a<s.heap.objs.size:=let ⟨o,_,_,_,ho,_⟩:=hS;Heap.lt_size ho;sleep 37;show wpAny _ A.in1 (newList []>>=λl=>again (.builtin "list.__iadd__" ⟨[l,.ref a],[]⟩)) _ _ s
 sleep 6;have hS1:uD prog w (s.heap.push 141) a ys:=let ⟨o,es,ep,t,ho,r⟩:=hS;⟨o,es,ep,t,Heap.get?_push_of_some _ ho,r⟩;show wpAny _ A.in1 (Builtin.List.listExtendWith (.ref s.heap.objs.size) (.ref a) (.ref s.heap.objs.size)) _ _ _;have key:=yU (A:=A) (s:={s with heap:=s.heap.push {cls:= .type "list",data:= .seq ([]:LK).toArray}})
  (RR:=λ(q:Result) (s':Shared)=>∃(h':Heap) (tk:Nat) (d:Drawn) (acc:Array Value) (c:Nat) (zs:List Int),q= .ok (.ret 265)/\s'=405/\(∀b o,s.heap.get? b=some o->h'.get? b=some o)/\h'.get? 96=some 193/\zs.Perm ys/\IntsAre acc.toList zs)
  hh hS1 fresh (K5 al) (λh' tk d acc c zs hk hS' z1 z2=>⟨h',tk,d,acc,c,zs,rfl,rfl,λb o e=>hk b o (J6 228) 566,hS',z1,z2⟩)
 sleep 164
 ·cases f with
  |done f=>
   obtain ⟨h',tk,d,acc,c,zs,e,rfl,hk,hS',z1,z2⟩:=x;cases e;sleep 57;sleep 142
  |again c₁=>
   sleep 187
   obtain ⟨h',tk,d,acc,c,zs,rfl,rfl,hk,hS',z1,z2⟩:=y;sleep 57;sleep 142
 ·obtain ⟨_,_,_,_,_,_,e',_⟩:=x;cases e'
universe z0
def yV (K:IS) (te:TE):TE:=λσ H Q=>te σ H λx H1=>∃(a:Addr) (xs:List Int),x= .ref a/\aF K H1 a (xs.map V.int)/\xs.length<4000/\(xs.foldl insI []).length<64/\
 ∀(p:Addr) (ys:List Int),H1 p=none->ys.Nodup->(∀z,z∈ys↔z∈xs)->ys.Pairwise (· <= ·)->Q 148 (aO H1 p (.lst 452))
theorem nZ:∀{xs:List Int} {us:LK},bR (xs.map V.int) us->∀(i:Nat) (v:Value),us[i]?=some v->∃(y:Int) (t:Tok),xs[i]?=some y/\v=Value.int y t
 | [],_,.nil,i,v,h=>by simp at h
 |x::xs,_,.cons r t,0,v,h=>by
  simp at h;subst h;obtain ⟨k,rfl⟩:=r;exact (x,k,rfl,rfl)
 |x::xs,_,.cons r t,i+1,v,h=>nZ t i v 235
section
variable {X:Cx} {e:Expr} {te:TE} {p1 p2 pos pos2:Pos}
theorem mF (hc:X.calm=true) (g1:Gl X "sorted") (m1:X.mg "sorted" =none) (g2:Gl X "set") (m2:X.mg "set" =none) (b1:bootBuiltins "sorted" =some 517) (b2:bootBuiltins "set" =some 491) (he:PE X e te)
  (hs:starEach [e] X.env= [259]:=by rfl):
  PE X (.Call (.Name "sorted" p1) [.Call (.Name "set" p2) [e] [] pos2] [] pos) (yV X.K te):=by
 sleep 22
 sleep 17
 refine Ja ?_ hs rfl;rw[hs];refine Calls.spliced_cons (x:=eval e X.env) (rest:= []) (cu 295 λv s1 (x,H1,I1,r1,a,xs,ex,hq,few,fw,q)=>?_)
 subst ex;cases r1;sleep 77;have sz:its.toArray.size=xs.length:=by rw[JD,<-rv.length,IN]
 sleep 68
 apply Calls.spliced_nil;have dl:(sv xs its.toArray.size).length<=its.toArray.size:=rq xs _;have dz:sv xs its.toArray.size=xs.foldl insI []:=by unfold sv;rw[sz,JX]
 have I2:=I1.kept (t':=tk) (h':=h') 587
 sleep 72;refine wpAny_bind (vF (A:=X.A.in1) (s:={s1 with heap:=h',toks:=tk}) 236 S2 λh2 tk2 d acc ks hlt hkp hp SA=>?_)
 have nd:ks.Nodup:=hp.nodup_iff.mpr (dz▸iu xs [] 110)
 have mm:∀z,z∈ks↔z∈xs:=λz=>by rw[hp.mem_iff,dz,je];simp
 have la:acc.length=ks.length:=SA.length;have lz:acc.length<=sizeLine:=by
  rw[la,hp.length_eq];refine JV dl ?_;rw[sz];have:=fits_of_scanBound (n:=117) (by show 117<4096;lia)
  exact this
 refine wpAny_bind (wpAny_newList ?_ lz);have hoL:(h2.push (seqObj "list" acc.toArray 0)).get? h2.objs.size=some (seqObj "list" acc.toArray 0):=121 _ rfl;refine wpAny_bind (wpAny_holding (wpAny_call_entry slot_list_sort (_,hoL,rfl) entry_list_sort (list_sort_tree hoL SA (by rw[la,hp.length_eq,dz];exact fw) λout ys o1 o2 o3=>(ν,?_)) (args_list_sort _)))
 have I3:aW X pins σ H1 {s1 with heap:=h',drawn:=d,toks:=tk}:=I2.drew (d:=d)
 have sl:h'.objs.size<=h2.objs.size:=Nat.le_of_lt hlt;refine wpAny_pure (ν,.ref h2.objs.size,_,I3.laid (a:=h2.objs.size) (o:= .lst 452) (h':=sortedHeap (h2.push (seqObj "list" acc.toArray 0)) h2.objs.size acc out) (t':=tk2) (λb o eo=>?_) sl ?_,rfl,q _ ys (I3.hok.fresh sl) (o2.nodup_iff.mpr nd) (λz=>(o2.mem_iff).trans (mm z)) o3)
 ·have eo':=hkp b o eo;sleep 84
  exact 101 _ eo'
 ·obtain ⟨e,he⟩:=sortedHeap_at (out:=out) hoL;exists by rw[IN,o2.length_eq,<-la];exact lz,out.toList,e,kQ o1
  rw[Array.toArray_toList];exact he
universe z0
theorem jf {X:Cx} (hc:X.calm=true):dC X 517 (λxs H Q=>∃d ks kvs,xs= [.ref d]/\H d=some 140/\kvs.map 199=ks.map (λy=>(.inr y:Key))/\ks.Nodup/\ks.length<64/\
  ∀p ys,H p=none->ys.Perm ks->sortedS ys=true->Q 148 (aO H p 248)):=by
 sleep 26;obtain ⟨d,ks,kvs,rfl,hk,ek,nd,l64,q⟩:=h;obtain ⟨u,rfl,ru⟩:=vals1 r;cases ru;obtain ⟨z,hS,ws,rel,D⟩:=wC I.hok hk;obtain ⟨ep,hat⟩:=D.dictAt;have lw:ws.length=ks.length:=by
  rw[<-rel.length];have:=congrArg List.length ek
  simpa using this
 sleep 72;refine wpAny_bind (sW (A:=X.A.in1) (PySem.W.kdl_dict (knd:=aT X.prog X.w) (kvs:=ws) (ep:=ep) hS) 236 hat (by rw[<-rel.length];exact z) λh' tk acc hlt hkp hacc=>?_)
 have la:acc.toList.length=ks.length:=by rw[JC,hacc.1,lw]
 have SA:StrsAre acc.toList ks:=wO la λj v hv=>by
  obtain ⟨k,x,e1,e2⟩:=hacc.2 j v 438
  obtain ⟨⟨k',v'⟩,e3,rfl,_⟩:=pM rel e1;have e4:(kvs.map 199)[j]?=some k':=by rw[IQ,e3];rfl
  rw[ek,IQ] at e4;cases e5:ks[j]? with
  |none=>rw[e5] at e4;cases e4
  |some y=>
   rw[e5] at e4;cases e4;obtain ⟨t,ht⟩:=wK e2;exact (y,t,rfl,ht)
 refine wpAny_bind (wpAny_newList ?_ (by rw[la,<-lw,<-rel.length];exact z))
 have hoL:(h'.push (seqObj "list" acc.toList.toArray 0)).get? h'.objs.size=some (seqObj "list" acc.toList.toArray 0):=121 _ rfl;refine wpAny_bind (wpAny_holding (wpAny_call_entry slot_list_sort (_,hoL,rfl) entry_list_sort (list_sort_treeK strKind_oneLt hoL SA.keysOf (λv₁ v₂ rest e=>keyKind_strs (by rw[<-e];exact SA)) (by rw[la];exact l64) λst' hp hs=>(ν,?_)) (args_list_sort _)))
 obtain ⟨ys,h1,h2,h3⟩:=sorted_out_str SA hp hs;have sl:s.heap.objs.size<=h'.objs.size:=Nat.le_of_lt hlt;refine wpAny_pure (ν,.ref h'.objs.size,_,I.laid (a:=h'.objs.size) (o:= .lst (ys.map V.str)) (h':=sortedHeap (h'.push (seqObj "list" acc.toList.toArray 0)) h'.objs.size acc.toList ((arrOf st').map (·.2))) (t':=tk) (λb o eo=>?_) sl ?_,rfl,q _ ys (I.hok.fresh sl) h2 h3)
 ·have eo':=hkp b o eo;sleep 84
  exact 101 _ eo'
 ·obtain ⟨e,he⟩:=sortedHeap_at (out:=(arrOf st').map (·.2)) hoL;exists by rw[IN,h2.length_eq,<-lw,<-rel.length];exact z,((arrOf st').map (·.2)).toList,e,ku h1
  rw[Array.toArray_toList];exact he
universe L2
namespace Sw
open PySem L2 XH Hm
noncomputable def yW:HO->Bool
 | .lst _=>true
 | .tup _=>true
 |_=>false
abbrev RA (α:Type):=(Addr->Prop)->Hp->V->α->Prop
def An:Addr->Prop:=λ_=>True
class Mv {α:Type} (R:RA α):Prop where
 mv:∀{P P':Addr->Prop} {H H':Hp} {v:V} {x:α},(∀a o,P a->yW o=true->H a=some o->P' a/\H' a=some o)->R P H v x->R P' H' v x
theorem mG {α:Type} {R:RA α} [Mv R] {P:Addr->Prop} {H H':Hp} {v:V} {x:α} (h:R P H v x) (g:aC H H'):R P H' v x:=Mv.mv (λa o p _ e=>(p,g a o e)) h
theorem Aw {α:Type} {R:RA α} [Mv R] {P P':Addr->Prop} {H:Hp} {v:V} {x:α} (h:R P H v x) (g:∀a,P a->P' a):R P' H v x:=Mv.mv (λa o p _ e=>(g a p,e)) h
theorem HJ {α:Type} {R:RA α} [Mv R] {P:Addr->Prop} {H:Hp} {v:V} {x:α} (h:R P H v x):R An H v x:=Aw h λ_ _=>trivial
theorem IF {α:Type} {R:RA α} [Mv R] {P:Addr->Prop} {H H':Hp} {v:V} {x:α} (h:R P H v x) (g:∀a o,yW o=true->H a=some o->H' a=some o):R P H' v x:=Mv.mv (λa o p s e=>(p,g a o s e)) h
theorem GZ {α:Type} {R:RA α} [Mv R] {P:Addr->Prop} {H:Hp} {v:V} {x:α} (h:R P H v x):R (λa=>P a/\H a≠none) H v x:=Mv.mv (λa o p _ e=>((p,by rw[e];exact nofun),e)) h
theorem Ft {α:Type} {R:RA α} [Mv R] {P:Addr->Prop} {H:Hp} {v:V} {x:α} {l:Addr} (h:R P H v x) (n:¬P l) (o:HO):R P (aO H l o) v x:=Mv.mv (λa u p _ e=>⟨p,by
  have:a≠l:=λz=>n (by rw[<-z];exact p)
  rw[aR this];exact e⟩) h
def A2 {α:Type} (R:V->α->Prop) (vs:List V) (xs:List α):Prop:=vs.length=xs.length/\∀(i:Nat) (v:V) (x:α),vs[i]?=some v->xs[i]?=some x->R v x
theorem A2.imp {α:Type} {R S:V->α->Prop} {vs:List V} {xs:List α} (h:A2 R vs xs) (f:∀v x,R v x->S v x):A2 S vs xs:=(h.1,λi v x e1 e2=>f v x (h.2 i v x e1 e2))
theorem A2.get {α:Type} {R:V->α->Prop} {vs:List V} {xs:List α} (h:A2 R vs xs) {i:Nat} {x:α} (e:xs[i]?=some x):∃v,vs[i]?=some v/\R v x:=by
 have il:i<vs.length:=by rw[h.1];exact (IP.mp e).1
 exact (_,I0 il,h.2 i _ x 549 e)
theorem A2.at_ {α:Type} {R:V->α->Prop} {vs:List V} {xs:List α} (h:A2 R vs xs) {i:Nat} {v:V} (e:vs[i]?=some v):∃x,xs[i]?=some x/\R v x:=by
 have il:i<xs.length:=by rw[<-h.1];exact (IP.mp e).1
 exact (_,I0 il,h.2 i v _ e 549)
theorem A2.nil {α:Type} {R:V->α->Prop}:A2 R [] ([]:List α):=(rfl,λi a x e=>by simp at e)
theorem A2.append {α:Type} {R:V->α->Prop} {as bs:List V} {xs ys:List α} (h:A2 R as xs) (k:A2 R bs ys):A2 R (as++bs) (xs++ys):=by
 refine (by simp[h.1,k.1],λi a x e1 e2=>?_)
 by_cases c:i<as.length
 ·sleep 157
  exact h.2 i a x e1 e2
 ·rw[IV 41] at e1
  rw[IV (by rw[<-h.1];lia),<-h.1] at e2
  exact k.2 _ a x e1 e2
theorem A2.one {α:Type} {R:V->α->Prop} {v:V} {x:α} (h:R v x):A2 R [v] [x]:=⟨rfl,λi a y e1 e2=>by
 cases i with
 |zero=>simp at e1 e2;subst e1 e2;exact h
 |succ n=>simp at e1⟩
theorem A2.snoc {α:Type} {R:V->α->Prop} {vs:List V} {xs:List α} (h:A2 R vs xs) {v:V} {x:α} (r:R v x):A2 R (vs++ [v]) (xs++ [x]):=h.append (.one r)
def eK {α:Type} (R:RA α) (P:Addr->Prop) (H:Hp) (l:Addr) (xs:List α):Prop:=∃vs,H l=some 516/\A2 (R P H) vs xs
def B6 {α:Type} (R:RA α):RA (List α):=λP H v xs=>∃l,v= .ref l/\P l/\eK R P H l xs
instance {α:Type} {R:RA α} [Mv R]:Mv (B6 R) where
 mv:=λ{P P' H H' v x} g h=>by
  obtain ⟨l,rfl,p,vs,e,r⟩:=h;obtain ⟨p',e'⟩:=g l _ p rfl e;exact (l,rfl,p',vs,e',r.imp λv x q=>Mv.mv g q)
def Ax {α:Type} (f:α->List V):RA α:=λP H v x=>∃t,v= .ref t/\P t/\H t=some (.tup (f x))
instance {α:Type} {f:α->List V}:Mv (Ax f) where
 mv:=λ{P P' H H' v x} g h=>by
  obtain ⟨t,rfl,p,e⟩:=h;obtain ⟨p',e'⟩:=g t _ p rfl e;exact (t,rfl,p',e')
def fH {α:Type} (f:α->V):RA α:=λ_ _ v x=>v=f x
instance {α:Type} {f:α->V}:Mv (fH f) where
 mv:=λ_ h=>h
theorem A2.val {α:Type} {f:α->V} {P:Addr->Prop} {H:Hp} {vs:List V} {xs:List α} (h:A2 (fH f P H) vs xs):vs=xs.map f:=by
 apply List.ext_getElem (by rw[IN];exact h.1)
 intro i h1 h2;rw[List.getElem_map];exact h.2 i _ _ (I0 h1) (I0 (by rw[IN] at h2;exact h2))
theorem A2.ofVal {α:Type} (f:α->V) (P:Addr->Prop) (H:Hp) (xs:List α):A2 (fH f P H) (xs.map f) xs:=⟨IN _,λi v x e1 e2=>by
 rw[IQ,e2] at e1;cases e1
 rfl⟩
theorem eK.same {α:Type} {R:RA α} [Mv R] {P:Addr->Prop} {H H':Hp} {l:Addr} {xs:List α} (h:eK R P H l xs) (g:aC H H'):eK R P H' l xs:=let ⟨vs,e,r⟩:=h;⟨vs,g _ _ e,r.imp λ_ _ q=>mG q g⟩
theorem eK.any {α:Type} {R:RA α} [Mv R] {P:Addr->Prop} {H:Hp} {l:Addr} {xs:List α} (h:eK R P H l xs):eK R An H l xs:=let ⟨vs,e,r⟩:=h;⟨vs,e,r.imp λ_ _ q=>HJ q⟩
theorem eK.mono {α:Type} {R:RA α} [Mv R] {P P':Addr->Prop} {H:Hp} {l:Addr} {xs:List α} (h:eK R P H l xs) (g:∀a,P a->P' a):eK R P' H l xs:=let ⟨vs,e,r⟩:=h;⟨vs,e,r.imp λ_ _ q=>Aw q g⟩
theorem eK.sq {α:Type} {R:RA α} [Mv R] {P:Addr->Prop} {H H':Hp} {l:Addr} {xs:List α} (h:eK R P H l xs) (g:∀a o,yW o=true->H a=some o->H' a=some o):eK R P H' l xs:=let ⟨vs,e,r⟩:=h;⟨vs,g _ _ rfl e,r.imp λ_ _ q=>IF q g⟩
theorem eK.put {α:Type} {R:RA α} [Mv R] {P:Addr->Prop} {H:Hp} {l:Addr} {vs:List V} {xs:List α} {v:V} {x:α} (n:¬P l) (r:A2 (R P H) vs xs) (h:R P H v x):eK R P (L2.aO H l (.lst (vs++ [v]))) l (xs++ [x]):=
 ⟨_,au,(r.snoc h).imp λ_ _ q=>Ft q n _⟩
theorem eK.ext {α:Type} {R:RA α} [Mv R] {P:Addr->Prop} {H:Hp} {l:Addr} {vs us:List V} {xs ys:List α} (n:¬P l) (r:A2 (R P H) vs xs) (h:A2 (R P H) us ys):eK R P (L2.aO H l (.lst (vs++us))) l (xs++ys):=
 ⟨_,au,(r.append h).imp λ_ _ q=>Ft q n _⟩
theorem eK.new {α:Type} {R:RA α} {P:Addr->Prop} {H:Hp} {l:Addr}:eK R P (L2.aO H l 132) l ([]:List α):=([],au,A2.nil)
universe Sw
namespace L2
open PySem PySem.Spec PyProof.Rows XH Sw Hm
noncomputable def cO {β:Type} (n:Nat) (pr:Nat->Bool) (f:Nat->β):List β:=((JK n).filter pr).map f
theorem gW {β:Type} (n:Nat) (pr:Nat->Bool) (f:Nat->β):cO (n+1) pr f=cO n pr f++(if pr n=true then [f n] else []):=by
 unfold cO;rw[Km,List.filter_append,JJ]
 congr 1
 cases h:pr n<;>simp[List.filter_cons,h]
theorem c5 {β:Type} (n:Nat) (pr:Nat->Bool) (f:Nat->β):(cO n pr f).length<=n:=by
 unfold cO;rw[IN];have:=List.length_filter_le pr (JK n)
 rwa [JP] at this
theorem gX {β:Type} {n:Nat} {pr:Nat->Bool} {f:Nat->β} (h:∀i,i<n->pr i=false):cO n pr f= []:=by
 unfold cO;rw[Ki,List.filter_eq_nil_iff];intro i hi;rw[h i (JZ.mp hi)]
 decide
theorem tP {J:It} {β:Type} {n:Nat} {js:List Nat} {tc:TT} {te:TE} {σ:L2.St} {H1:Hp} {Q:VK} (R:RA β) [Mv R] (Z:Addr->Prop) (pr:Nat->Bool) (f:Nat->β) (hz:n<=sizeLine) (hZ:∀a,Z a->H1 a≠none)
  (hgo:∀i H2,aC H1 H2->i<n->J.go i H2) (hst:∀H2,aC H1 H2->J.stop n H2)
  (step:∀i,i<n->∀H2 x H3,aC H1 H2->J.yld i H2 x H3->H3=H2/\(∀S:Bool->Hp->Prop,475->tc (some x::aZ js σ) H2 S)/\(pr i=true->∀H4,aC H2 H4->∀Q':VK,(∀y H5,aC H4 H5->R (λa=>H4 a=none∨Z a) H5 y (f i)->Q' y H5)->te (some x::aZ js σ) H4 Q'))
  (fin:∀p H',H1 p=none->aC H1 H'->eK R 150 H' p (cO n pr f)->Q 148 H'):kU js tc te σ Q J H1:=by
 intro p hp;exists λi m ys H2=>i<=n/\m=n-i/\aC H1 H2/\H2 p=some 232/\A2 (R 150 H2) ys (cO i pr f),(n,JT _,rfl,Sw.ao hp _,au,A2.nil)
 rintro i m ys H2 ⟨hi,rfl,g,e,r⟩;exists e
 by_cases hin:i<n
 ·sleep 181
  ·have:=c5 i pr f;have:=r.1
   lia
  obtain ⟨rfl,h1,h2⟩:=step i hin H2 x H3 g hy;refine h1 _ λH4 g4=>?_
  have tk:=gW i pr f;cases hpr:pr i with
  |true=>
   rw[hpr,if_pos rfl] at tk;rw[if_pos rfl];refine h2 hpr H4 g4 _ λy H5 g5 ry=>(g5 _ _ (g4 _ _ e),n-233,by lia,hin,rfl,Sw.eZ ((g.trans g4).trans g5) hp _,au,?_)
   rw[tk];sleep 162
   refine ((r.imp λv b q=>mG q (g4.trans g5)).snoc (Aw ry λa ha=>?_)).imp λv b q=>Ft q np _
   rcases ha with h|h
   ·exact ((λz=>by rw[z,g4 _ _ e] at h;cases h),.inl ((g.trans g4).free h))
   ·exact 476
  |false=>
   rw[hpr,if_neg 49,Jw] at tk
   sleep 156
   exact (n-233,by lia,hin,rfl,g.trans g4,g4 _ _ e,by rw[tk];exact r.imp λv b q=>mG q g4)
 ·have e2:i=n:=by lia
  subst e2;exact .inl (hst H2 g,fin p H2 hp g (ys,e,r))
theorem Ay {J:It} {β:Type} {n:Nat} {js:List Nat} {te:TE} {σ:L2.St} {H1:Hp} {Q:VK} (R:RA β) [Mv R] (Z:Addr->Prop) (f:Nat->β) (hz:n<=sizeLine) (hZ:∀a,Z a->H1 a≠none)
  (hgo:∀i H2,aC H1 H2->i<n->J.go i H2) (hst:∀H2,aC H1 H2->J.stop n H2)
  (step:∀i,i<n->∀H2 x H3,aC H1 H2->J.yld i H2 x H3->H3=H2/\∀Q':VK,153->te (some x::aZ js σ) H2 Q')
  (fin:∀p H',H1 p=none->aC H1 H'->eK R 150 H' p ((JK n).map f)->Q 148 H'):nD js te σ Q J H1:=by
 intro p hp;exists λi m ys H2=>i<=n/\m=n-i/\aC H1 H2/\H2 p=some 232/\A2 (R 150 H2) ys ((JK i).map f),(n,JT _,rfl,Sw.ao hp _,au,A2.nil)
 rintro i m ys H2 ⟨hi,rfl,g,e,r⟩;exists e
 by_cases hin:i<n
 ·sleep 181
  ·have:=r.1;rw[IN,JP] at this
   lia
  obtain ⟨rfl,h2⟩:=step i hin H2 x H3 g hy;refine h2 _ λy H5 g5 ry=>(g5 _ _ e,n-233,by lia,hin,rfl,Sw.eZ (g.trans g5) hp _,au,?_)
  rw[Km,JJ];sleep 162
  refine ((r.imp λv b q=>mG q g5).snoc (Aw ry λa ha=>?_)).imp λv b q=>Ft q np _
  rcases ha with h|h
  ·exact ((λz=>by rw[z,e] at h;cases h),.inl (g.free h))
  ·exact 476
 ·have e2:i=n:=by lia
  subst e2;exact .inl (hst H2 g,fin p H2 hp g (ys,e,r))
section
variable {K:IS} {β:Type} {a:Addr} {xs:List V} {n:Nat} {js:List Nat} {tc:TT} {te:TE} {σ:L2.St} {H1:Hp} {Q:VK}
theorem jC (R:RA β) [Mv R] (Z:Addr->Prop) (pr:Nat->Bool) (f:Nat->β) (hS:aF K H1 a xs) (hz:xs.length<=sizeLine) (hZ:∀a,Z a->H1 a≠none)
  (s1:∀i x,xs[i]?=some x->∀H2,aC H1 H2->∀S:Bool->Hp->Prop,475->tc (some x::aZ js σ) H2 S)
  (s2:∀i x,xs[i]?=some x->pr i=true->∀H2,aC H1 H2->∀Q':VK,153->te (some x::aZ js σ) H2 Q')
  (fin:∀p H',H1 p=none->aC H1 H'->eK R 150 H' p (cO 117 pr f)->Q 148 H'):kU js tc te σ Q (Bp K a) H1:=by
 refine tP R Z pr f hz hZ 358 487 312 fin
 sleep 236;have ex:=hx xs (g.seq hS);exact (rfl,s1 i x ex _ g,λh H4 g4=>s2 i x ex h _ (g.trans g4))
theorem pW (R:RA β) [Mv R] (Z:Addr->Prop) (pr:Nat->Bool) (f:Nat->β) (hz:n<=sizeLine) (hZ:∀a,Z a->H1 a≠none)
  (s1:∀i:Nat,i<n->∀H2,aC H1 H2->∀S:Bool->Hp->Prop,475->tc 292 H2 S)
  (s2:∀i:Nat,i<n->pr i=true->∀H2,aC H1 H2->∀Q':VK,153->te 292 H2 Q')
  (fin:∀p H',H1 p=none->aC H1 H'->eK R 150 H' p (cO n pr f)->Q 148 H'):kU js tc te σ Q (Cu 0 n) H1:=by
 refine tP R Z pr f hz hZ (λi H2 g hi=>hi) (λH2 g=>IT n) 312 fin
 obtain ⟨rfl,rfl⟩:=hy;exact (rfl,s1 i hi _ g,λh H4 g4=>s2 i hi h _ (g.trans g4))
theorem cz (R:RA β) [Mv R] (Z:Addr->Prop) (f:Nat->β) (hS:aF K H1 a xs) (hz:xs.length<=sizeLine) (hZ:∀a,Z a->H1 a≠none)
  (s2:∀i x,xs[i]?=some x->∀H2,aC H1 H2->∀Q':VK,153->te (some x::aZ js σ) H2 Q')
  (fin:∀p H',H1 p=none->aC H1 H'->eK R 150 H' p ((JK 117).map f)->Q 148 H'):nD js te σ Q (Bp K a) H1:=by
 refine Ay R Z f hz hZ 358 487 312 fin
 sleep 236;exact (rfl,s2 i x (hx xs (g.seq hS)) _ g)
theorem jg {hd:LM} (R:RA β) [Mv R] (Z:Addr->Prop) (f:Nat->β) (hok:jM hd H1) (hz:n<=sizeLine) (hZ:∀a,Z a->H1 a≠none)
  (s2:∀i:Nat,i<n->∀H2,aC H1 H2->∀Q':VK,153->te 292 H2 Q')
  (fin:∀p H',H1 p=none->aC H1 H'->eK R 150 H' p ((JK n).map f)->Q 148 H'):nD js te σ Q (yk hd 0 n) H1:=by
 refine Ay R Z f hz hZ (λi H2 g hi=>hi) (λH2 g=>(IT n,u5 hok g)) 312 fin
 obtain ⟨rfl,rfl⟩:=hy;exact (rfl,s2 i hi _ g)
universe z0
universe L2
namespace Sw
open PySem L2 XH Hm
open PySem.NumText
noncomputable def Dn:Str:= "abcdefghijklmnopqrstuvwxyz"
def Nm (z:Str):Prop:=1<=(sL z).length/\(sL z).length<=12/\∀c∈sL z,97<=c/\c<=122
theorem wV (c:Nat):(!(Builtin.Str.occurrences Dn (HH [c]) 0 Dn.length 1).isEmpty)=decide (97<=c/\c<=122):=by
 rw[Di];have e:sL Dn=(JK 26).map (97+ ·):=by decide
 rw[e];apply decide_eq_decide.mpr;constructor
 ·intro h;obtain ⟨i,hi,rfl⟩:=J2.mp h;have:=JZ.mp hi
  lia
 ·intro h;exact J2.mpr (c-97,JZ.mpr 41,by lia)
def tQ (K:IS):Sp:=λvs H Q _=>∃x:V,vs= [x]/\((∃z:Str,x= .str z/\z.length<=1000000/\(Nm z->Q 451 H)/\(¬Nm z->Q (.bl false) H))∨∃ty,jX K H x ty/\PySem.W.kitOne K ty (.type "str")=some false/\Q (.bl false) H)
abbrev Us:=Str×Int×Int
abbrev Wy:=Int×Int×List Us
abbrev Tk:=List (List Wy)
abbrev Tl:=List (Str×Int)
noncomputable def Do (u:Us):List V:= [.str u.1,.int u.2.1,.int u.2.2]
abbrev n4:RA Us:=Ax Do
abbrev Bs:RA (List V):=Ax id
def kB:RA Wy:=λP H v w=>∃t u:Addr,v= .ref t/\P t/\P u/\H t=some (.tup [.int w.1,.int w.2.1,.ref u])/\eK n4 P H u w.2.2
instance:Mv kB where
 mv:=λ{P P' H H' v x} g h=>by
  obtain ⟨t,u,rfl,p,p2,e,vs,e2,r⟩:=h;sleep 227;exact (t,u,rfl,q,q2,e',vs,e2',r.imp λ_ _ k=>Mv.mv g k)
abbrev fG:RA (List Wy):=B6 kB
noncomputable def bU (D:Tl):List (Key×V):=D.map λp=>(.inr p.1,.int p.2)
noncomputable def cP (D:Tl) (z:Str):Option Int:=(D.find? λp=>decide (p.1=z)).map (·.2)
theorem pY (D:Tl):(bU D).length=D.length:=IN _
theorem n6 {D:Tl} {i:Nat} {k:Key} {x:V} (h:(bU D)[i]?=some (k,x)):∃p,D[i]?=some p/\k= .inr p.1/\x= .int p.2:=by
 unfold bU at h;rw[IQ] at h;obtain ⟨p,e,q⟩:=IW.mp h;cases q;exact (p,e,rfl,rfl)
theorem cQ (p:Str×Int) (D:Tl) (z:Str):cP (p::D) z=if p.1=z then some p.2 else cP D z:=by
 unfold cP;rw[K7]
 by_cases h:p.1=z
 ·rw[decide_eq_true h,if_pos h];rfl
 ·rw[decide_eq_false h,if_neg h]
theorem lq (z:Str):∀D:Tl,gP (bU D) (.inr z)=(cP D z).map V.int
 | []=>rfl
 |p::D=>by
  rw[cQ];show gP (((.inr p.1:Key),V.int p.2)::bU D) _=_
  by_cases h:p.1=z
  ·rw[if_pos h,dP (by show (Sum.inr p.1:Key)=_;rw[h])];rfl
  ·rw[if_neg h,dQ (by intro e;exact h (by injection e)),lq z D]
theorem oa {z:Str}:∀{D:Tl},z∈D.map 199->∃n,cP D z=some n
 | [],h=>by cases h
 |p::D,h=>by
  rw[cQ]
  by_cases e:p.1=z
  ·exact (_,if_pos e)
  ·rw[if_neg e];rw[JU] at h;rcases IZ.mp h with q|q
   ·exact absurd q.symm e
   ·exact oa q
def Fu (D:Tl) (us:List Us):Prop:=(us.map 199).Nodup/\us.length<=100/\∀e∈us,∃m,cP D e.1=some m/\1<=e.2.1/\e.2.1<=m/\0<=e.2.2/\e.2.2<=1000000000
def tR (D:Tl) (ws:List Wy):Prop:=1<=ws.length/\ws.length<=2/\∀w∈ws,1<=w.1/\w.1<=w.2.1/\w.2.1<=1000000000/\Fu D w.2.2
structure oe (D:Tl) (T:Tk) (A B:List Ky) (n:Int):Prop where
 d12:D.length<=12
 dnd:(D.map 199).Nodup
 tool:∀p∈D,Nm p.1/\1<=p.2/\p.2<=8
 t24:T.length<=24
 ways:∀ws∈T,tR D ws
 n0:0<=n
 n8:n<=8
 a600:A.length<=600
 arcs:∀k∈A,∃p q g:Int,k= [p,q,g]/\0<=p/\p<2*109+n/\0<=q/\q<2*109+n/\ -1000000000<=g/\g<=1000000000
 b300:B.length<=300
 pairs:∀k∈B,∃p q:Int,k= [p,q]/\0<=p/\p<109/\0<=q/\q<109/\p≠q
def TD (f:Bool) (H:Hp) (a:Addr) (u:HO):Prop:=H a=some u∨(f=true/\∃o,H a=some (.frz o u))
theorem TD.same {f:Bool} {H H':Hp} {a:Addr} {u:HO} (h:TD f H a u) (g:aC H H'):TD f H' a u:=h.elim (λe=> .inl (g _ _ e)) λ⟨e,o,k⟩=> .inr ⟨e,o,g _ _ k⟩
theorem TD.rd {f:Bool} {H:Hp} {a:Addr} {u:HO} (h:TD f H a u):Rd H a u:=h.elim .inl λ⟨_,o,k⟩=> .inr ⟨o,k⟩
theorem TD.no {H:Hp} {a:Addr} {u:HO} (h:TD false H a u):H a=some u:=h.elim id λ⟨e,_⟩=>by cases e
structure jh (C:Addr) (f:Bool) (H:Hp) (x:Addr) (D:Tl) (T:Tk) (A B:List Ky) (n:Int):Prop where
 ex:∃(dx td tl al pl:Addr) (fs:List (Str×V)),H x=some (.ins C dx fs)/\fs.lookup ("tools" :Str)=some 275/\fs.lookup ("tasks" :Str)=some 256/\fs.lookup ("arcs" :Str)=some (.ref al)/\fs.lookup ("apart" :Str)=some (.ref pl)/\fs.lookup ("moments" :Str)=some (.int n)/\
  TD f H td 156/\eK fG An H tl T/\bn H al A/\bn H pl B
theorem jh.same {C:Addr} {f:Bool} {H H':Hp} {x:Addr} {D:Tl} {T:Tk} {A B:List Ky} {n:Int} (h:jh C f H x D T A B n) (g:aC H H'):jh C f H' x D T A B n:=by
 obtain ⟨dx,td,tl,al,pl,fs,a,b1,b2,b3,b4,b5,c,d,e,k⟩:=h.ex;exact (dx,td,tl,al,pl,fs,g _ _ a,b1,b2,b3,b4,b5,c.same g,d.same g,e.same g,k.same g)
theorem jh.any {C:Addr} {f:Bool} {H:Hp} {x:Addr} {D:Tl} {T:Tk} {A B:List Ky} {n:Int} (h:jh C f H x D T A B n):jh C true H x D T A B n:=by
 obtain ⟨dx,td,tl,al,pl,fs,a,b1,b2,b3,b4,b5,c,d,e,k⟩:=h.ex;exact ⟨dx,td,tl,al,pl,fs,a,b1,b2,b3,b4,b5,c.elim .inl (λ⟨_,o,q⟩=> .inr ⟨rfl,o,q⟩),d,e,k⟩
theorem bn.sq {H H':Hp} {l:Addr} {ks:List Ky} (h:bn H l ks) (g:∀a o,yW o=true->H a=some o->H' a=some o):bn H' l ks:=by
 obtain ⟨as,e,r⟩:=h;exact (as,g _ _ rfl e,r.imp λa k q=>g _ _ rfl q)
theorem lD {H:Hp} {d:Addr} {kvs:List 281} {o:Obj} (e:H d=some 140):∀a u,yW u=true->H a=some u->aO H d 209 a=some u:=λa u s h=>by
 rw[aR (λz=>by rw[z,e] at h;cases h;cases s)]
 exact h
theorem lE {H H':Hp} {d:Addr} {kvs:List 281} {o:Obj} (e:H d=some 140) (g:aC (aO H d 209) H'):aC H (aO H' d 140):=λa u h=>by
 by_cases z:a=d
 ·subst z;rw[e] at h;cases h;exact au
 ·rw[aR z];exact g a u (by rw[aR z];exact h)
theorem jh.walk {C:Addr} {H:Hp} {x:Addr} {D:Tl} {T:Tk} {A B:List Ky} {n:Int} {d:Addr} {kvs:List 281} {o:Obj} (h:jh C true H x D T A B n) (e:H d=some 140):jh C true (aO H d 209) x D T A B n:=by
 obtain ⟨dx,td,tl,al,pl,fs,a,b1,b2,b3,b4,b5,c,dd,ee,k⟩:=h.ex;refine ⟨dx,td,tl,al,pl,fs,by rw[aR (jO a e 220)];exact a,b1,b2,b3,b4,b5,?_,dd.sq (lD e),ee.sq (lD e),k.sq (lD e)⟩
 by_cases z:td=d
 ·subst z;rcases c with c|⟨_,o',c⟩
  ·rw[e] at c;cases c;exact .inr (rfl,o,au)
  ·rw[e] at c;cases c
 ·unfold TD;rw[aR z];exact c
def rC:Sp:=λvs H Q _=>∃(l:Addr) (ws:List Wy) (P0:Addr->Prop),vs= [.ref l]/\eK kB P0 H l ws/\ws.length<=2/\∀(p:Addr) (H':Hp),aC H H'->H p=none->fG (λa=>H a=none∨P0 a) H' 148 ws->Q 148 H'
def pZ:Sp:=λvs H Q _=>∃(td:Addr) (D:Tl),vs= [.ref td]/\H td=some 156/\D.length<=12/\(∀p∈D,Nm p.1/\1<=p.2/\p.2<=8)/\∀H',aC H H'->Q .non H'
def tT:Sp:=λvs H Q _=>∃(u td:Addr) (D:Tl) (us:List Us),vs= [.ref u,.ref td]/\eK n4 An H u us/\H td=some 156/\Fu D us/\∀H',aC H H'->Q .non H'
def p8:Sp:=λvs H Q _=>∃(tl td:Addr) (D:Tl) (T:Tk),vs= [.ref tl,.ref td]/\eK fG An H tl T/\H td=some 156/\T.length<=24/\(∀ws∈T,tR D ws)/\∀H',aC H H'->Q .non H'
def qa:Sp:=λvs H Q _=>∃(pl:Addr) (m:Int) (B:List Ky),vs= [.ref pl,.int m]/\bn H pl B/\B.length<=300/\(∀k∈B,∃p q:Int,k= [p,q]/\0<=p/\p<m/\0<=q/\q<m/\p≠q)/\Q .non H
def jD (C:Addr):Sp:=λvs H Q _=>∃(x:Addr) (n:Int) (f:Bool) (D:Tl) (T:Tk) (A B:List Ky),vs= [.ref x]/\jh C f H x D T A B n/\Q (.int 194) H
def IG (H:Hp) (v:V) (B:List Ky):Prop:=(v= .non/\B= [])∨∃pl,v= .ref pl/\bn H pl B
def vG (C:Addr):Sp:=λvs H Q _=>∃(x dx td tl al:Addr) (v:V) (n:Int) (D:Tl) (T:Tk) (A B:List Ky),vs= [.ref x,.ref td,.ref tl,.ref al,v,.int n]/\H x=some (.ins C dx [])/\H td=some 156/\eK fG An H tl T/\bn H al A/\IG H v B/\oe D T A B n/\
 ∀H',(∀a o,a≠x->H a=some o->H' a=some o)->jh C false H' x D T A B n->Q .non H'
theorem eK.fx {α:Type} {R:RA α} [Mv R] {x:Addr} {H H':Hp} {l:Addr} {T:List α} {C dx:Addr} {fs:List (Str×V)} (h:eK R An H l T) (ex:H x=some (.ins C dx fs)) (g:Fx x H H'):eK R An H' l T:=
 h.sq λa o s e=>g a o (λz=>by rw[z,ex] at e;cases e;cases s) e
structure jE (T:Tk) (R:List Rn):Prop where
 len:R.length=T.length
 way:∀(i:Nat) (r:Rn) (ws:List Wy),R[i]?=some r->T[i]?=some ws->0<=r.2.2/\r.2.2<(ws.length:Int)
structure og (C:Addr) (f:Bool) (H:Hp) (x t:Addr) (D:Tl) (T:Tk) (A B:List Ky) (R:List Rn) (M:List Int):Prop where
 net:jh C f H x D T A B M.length
 plan:pQ H t R M
 ok:oe D T A B M.length
 pok:jE T R
theorem og.same {C:Addr} {f:Bool} {H H':Hp} {x t:Addr} {D:Tl} {T:Tk} {A B:List Ky} {R:List Rn} {M:List Int} (h:og C f H x t D T A B R M) (g:aC H H'):og C f H' x t D T A B R M:=(h.net.same g,h.plan.same g,h.ok,h.pok)
theorem og.any {C:Addr} {f:Bool} {H:Hp} {x t:Addr} {D:Tl} {T:Tk} {A B:List Ky} {R:List Rn} {M:List Int} (h:og C f H x t D T A B R M):og C true H x t D T A B R M:=(h.net.any,h.plan,h.ok,h.pok)
noncomputable def mH (w:Wy) (z:Str):Option Us:=w.2.2.find? λu=>decide (u.1=z)
noncomputable def bJ (w:Wy) (z:Str):Int:=match mH w z with
 |some u=>u.2.1
 |none=>0
noncomputable def cn (T:Tk) (R:List Rn) (i:Nat):Wy:=(T.getD i []).getD (R.getD i 111).2.2.toNat 402
noncomputable def cr (r:Rn) (t:Int):Bool:=decide (r.1<=t)&&decide (t<r.2.1)
noncomputable def cM (r s:Rn):Bool:=decide (r.1<s.2.1)&&decide (s.1<r.2.1)
noncomputable def cA (T:Tk) (R:List Rn) (z:Str) (t:Int):Nat->Int
 |0=>0
 |n+1=>cA T R z t n+207
noncomputable def tU (T:Tk) (R:List Rn) (i:Nat):Bool:=
 let r:=R.getD i (0,0,0)
 let w:=cn T R i
 decide (r.1<0∨¬(w.1<=r.2.1-r.1/\r.2.1-r.1<=w.2.1))
noncomputable def B7 (B:List Ky) (R:List Rn) (k:Nat):Bool:=
 let b:=B.getD k []
 cM (R.getD (b.getD 0 0).toNat 111) (R.getD (b.getD 1 0).toNat 111)
noncomputable def lH (x:Int):List Int->List Int
 | []=> [x]
 |y::ys=>if x<y then x::y::ys else if x=y then y::ys else y::lH x ys
noncomputable def oh (xs:List Int):List Int:=xs.foldr lH []
theorem oj {x z:Int}:∀{l:List Int},z∈lH x l↔z=x∨z∈l
 | []=>by simp[lH]
 |y::ys=>by
  unfold lH
  by_cases h1:x<y
  ·rw[if_pos h1];simp
  ·rw[if_neg h1]
   by_cases h2:x=y
   ·rw[if_pos h2];subst h2;simp
   ·rw[if_neg h2,IZ,oj (l:=ys),IZ];constructor
    ·rintro (h|h|h)
     ·exact .inr (.inl h)
     ·exact .inl h
     ·exact .inr (.inr h)
    ·rintro (h|h|h)
     ·exact .inr (.inl h)
     ·exact .inl h
     ·exact .inr (.inr h)
theorem wW {x:Int}:∀{l:List Int},l.Pairwise 500->(lH x l).Pairwise 500
 | [],_=>by simp[lH]
 |y::ys,h=>by
  have hc:=Ji.mp h;unfold lH
  by_cases h1:x<y
  ·rw[if_pos h1];refine Ji.mpr (λz hz=>?_,h)
   rcases IZ.mp hz with e|e
   ·rw[e];exact h1
   ·exact Int.lt_trans h1 (hc.1 z e)
  ·rw[if_neg h1]
   by_cases h2:x=y
   ·rw[if_pos h2];exact h
   ·rw[if_neg h2];refine Ji.mpr (λz hz=>?_,wW hc.2)
    rcases oj.mp hz with e|e
    ·rw[e];lia
    ·exact hc.1 z e
theorem om {z:Int}:∀{xs:List Int},z∈oh xs↔z∈xs
 | []=>by simp[oh]
 |x::xs=>by
  show z∈lH x (oh xs)↔_;rw[oj,om,IZ]
theorem wX:∀xs:List Int,(oh xs).Pairwise 500
 | []=>by simp[oh]
 |x::xs=>wW (wX xs)
theorem wY:∀{l m:List Int},l.Pairwise 500->m.Pairwise 500->(∀z,z∈l↔z∈m)->l=m
 | [],[],_,_,_=>rfl
 | [],y::ys,_,_,h=>absurd ((h y).mpr JO) 110
 |x::xs,[],_,_,h=>absurd ((h x).mp JO) 110
 |x::xs,y::ys,h1,h2,h=>by
  have c1:=Ji.mp h1;have c2:=Ji.mp h2;have e:x=y:=by
   have a:=(h x).mp JO;have b:=(h y).mpr JO;rcases IZ.mp a with q|q
   ·exact q
   ·rcases IZ.mp b with q'|q'
    ·exact q'.symm
    ·have:=c2.1 x q;have:=c1.1 y q'
     lia
  subst e
  congr 1
  refine wY c1.2 c2.2 λz=>(λhz=>?_,λhz=>?_)
  ·rcases IZ.mp ((h z).mp (J9 _ hz)) with q|q
   ·have:=c1.1 z hz
    lia
   ·exact q
  ·rcases IZ.mp ((h z).mpr (J9 _ hz)) with q|q
   ·have:=c2.1 z hz
    lia
   ·exact q
theorem B8 {xs ys:List Int} (nd:ys.Nodup) (hm:∀z,z∈ys↔z∈xs) (hp:ys.Pairwise (· <= ·)):ys=oh xs:=by
 refine wY ?_ (wX xs) λz=>by rw[hm,om]
 have:ys.Pairwise (· ≠ ·):=nd;exact (hp.and this).imp λh=>by lia
theorem tV (x:Int):∀l:List Int,(lH x l).length<=l.length+1
 | []=>by simp[lH]
 |y::ys=>by
  unfold lH
  split
  ·simp
  ·split
   ·simp
   ·have:=tV x ys;simp;omega
theorem oo:∀xs:List Int,(oh xs).length<=117
 | []=>by simp[oh]
 |x::xs=>by
  have:=tV x (oh xs);have:=oo xs;show (lH x (oh xs)).length<=_;simp;omega
theorem fT:∀(xs ys:List Int),(xs.foldl insI ys).length<=ys.length+117
 | [],ys=>by simp
 |x::xs,ys=>by
  have:=fT xs (insI ys x);have:=tN ys x;rw[List.foldl_cons,JN]
  lia
noncomputable def oq (R:List Rn):List Int:=oh (R.map 199)
noncomputable def mJ (D:Tl) (T:Tk) (R:List Rn) (z:Str):List (List V):=cO (oq R).length 406 498
noncomputable def cK (T:Tk) (R:List Rn) (z:Str):List Nat:=cO R.length 553 id
noncomputable def iN (T:Tk) (R:List Rn) (z:Str) (i j:Nat):Bool:=match mH (cn T R i) z,mH (cn T R j) z with
 |some u,some v=>(!decide (u.2.2=v.2.2))&&cM 149 455
 |_,_=>false
noncomputable def iO (T:Tk) (R:List Rn) (z:Str) (us:List Nat) (k:Nat):List (List V):=((us.drop 314).filter (iN T R z (us.getD k 0))).map λj=> [.str "heat",.str z,.int (us.getD k 0:Nat),.int (j:Nat)]
noncomputable def mK (T:Tk) (R:List Rn) (z:Str) (us:List Nat) (n:Nat):List (List V):=(JK n).flatMap (iO T R z us)
noncomputable def ot (T:Tk) (R:List Rn) (z:Str):List (List V):=mK T R z 559 (cK T R z).length
noncomputable def fJ (T:Tk) (R:List Rn) (n:Nat):List (List V):=cO n (tU T R) λi=> [.str "turns",.int (i:Nat)]
noncomputable def tW (M:List Int) (n:Nat):List (List V):=cO n (yM M) λi=> [.str "moment",.int (i:Nat)]
noncomputable def iW (A:List Ky) (R:List Rn) (M:List Int) (n:Nat):List (List V):=cO n (B1 A 597) λi=> [.str "arc",.int (i:Nat)]
noncomputable def gv (B:List Ky) (R:List Rn) (n:Nat):List (List V):=cO n (B7 B R) λi=> [.str "apart",.int (i:Nat)]
noncomputable def yX (ys:LI) (D:Tl) (T:Tk) (A B:List Ky) (R:List Rn) (M:List Int):List (List V):=fJ T R T.length++tW M M.length++iW A R M A.length++gv B R B.length++ys.flatMap (mJ D T R)++ys.flatMap (ot T R)
theorem jT {α:Type} (p:α->Bool) (l:List α):(l.filter p).length<=l.length:=List.length_filter_le p l
theorem jj {α β:Type} {f:α->List β} {m:Nat} (h:∀a,(f a).length<=m):∀l:List α,(l.flatMap f).length<=m*l.length
 | []=>by simp
 |a::l=>by
  rw[List.flatMap_cons,IU,JN,Nat.mul_add];have:=jj h l;have:=h a
  lia
theorem lJ (D:Tl) (T:Tk) (R:List Rn) (z:Str):(mJ D T R z).length<=R.length:=by
 refine JV (c5 _ _ _) ?_;have:=oo (R.map 199)
 rwa [IN] at this
theorem qb (T:Tk) (R:List Rn) (z:Str) (us:List Nat) (n:Nat):(mK T R z us n).length<=us.length*n:=by
 have:=jj (f:=iO T R z us) (m:=us.length) (λk=>by
  unfold iO;rw[IN];refine JV (jT _ _) ?_;rw[Js]
  lia) (JK n)
 rwa [JP] at this
theorem qc (T:Tk) (R:List Rn) (z:Str):(cK T R z).length<=R.length:=c5 _ _ _
theorem qd {T:Tk} {R:List Rn} (z:Str) (h:R.length<=24):(ot T R z).length<=576:=by
 have h1:=qb T R z 559 (cK T R z).length;have h2:=qc T R z;refine JV h1 ?_;exact JV (Nat.mul_le_mul (JV h2 h) (JV h2 h)) 49
theorem ou {H0 H2:Hp} {l a:Addr} {vs:List V} {pr:Nat->Bool} {f:Nat->List V} {i:Nat} {pre:List (List V)} (nl:H0 l=none) (g:aC H0 H2) (e:H2 l=some 516) (r:A2 (Bs 336 H2) vs (pre++cO i pr f)) (hb:pr i=true) (na:H2 a=none) {o:HO} (ho:o= .tup (f i)):
  aC H0 (aO (aO H2 a o) l 440)/\eK Bs 336 (aO (aO H2 a o) l 440) l (pre++cO 233 pr f):=by
 subst ho;have ga:=ao na (.tup (f i));exists eZ (g.trans ga) nl _;rw[gW,hb,if_pos rfl,<-Jg];exact eK.put 541 (r.imp λ_ _ q=>mG q ga) 479
theorem Az {P:Addr->Prop} {H2:Hp} {l:Addr} {pr:Nat->Bool} {f:Nat->List V} {i:Nat} {pre:List (List V)} (h:eK Bs P H2 l (pre++cO i pr f)) (hb:pr i=false):eK Bs P H2 l (pre++cO 233 pr f):=by
 rw[gW,hb,if_neg 49,Jw]
 exact h
abbrev ToldN (H0 H:Hp) (l:Addr) (xs:List (List V)):Prop:=eK Bs 336 H l xs
theorem AA {H0 H2:Hp} {l p:Addr} {vs us:List V} {xs ys:List (List V)} {P:Addr->Prop} (nl:H0 l=none) (g:aC H0 H2) (r:A2 (Bs 336 H2) vs xs) (k:A2 (Bs P H2) us ys) (hP:∀a,P a->a≠l/\H0 a=none):
  aC H0 394/\ToldN H0 394 l (xs++ys):=
 ⟨eZ g nl _,eK.ext 541 r (k.imp λ_ _ q=>Aw q hP)⟩
section
variable (C:Addr)
def rD:Sp:=λvs H Q _=>∃(v:V) (z:Str) (w:Wy) (P0:Addr->Prop),vs= [v,.str z]/\kB P0 H v w/\(∀(u:Us) (a:Addr),mH w z=some u->P0 a->H a=some (.tup (Do u))->Q 205 H)/\(mH w z=none->Q .non H)
def tX:Sp:=λvs H Q _=>∃(t:Addr) (r:Rn) (n:Int),vs= [.ref t,.int n]/\H t=some 550/\Q (.bl (cr r n)) H
def lK:Sp:=λvs H Q _=>∃(t u:Addr) (r s:Rn),vs= [.ref t,.ref u]/\H t=some 550/\H u=some (.tup ((rk s).map V.int))/\Q (.bl (cM r s)) H
def fZ (f:Bool) (H:Hp) (x t:Addr) (Q:Tl->Tk->List Ky->List Ky->List Rn->List Int->Prop):Prop:=∃(D:Tl) (T:Tk) (A B:List Ky) (R:List Rn) (M:List Int),og C f H x t D T A B R M/\Q D T A B R M
def rE:Sp:=λvs H Q _=>∃(x t:Addr) (i:Nat) (z:Str) (H0:Hp),vs= [.ref x,.ref t,.int i,.str z]/\aC H0 H/\fZ C true H0 x t λD T A B R M=>i<R.length/\(∀(u:Us) (a:Addr),mH 166 z=some u->H0 a=some (.tup (Do u))->Q 205 H)/\(mH 166 z=none->Q .non H)
def qe:Sp:=λvs H Q _=>∃(x t:Addr),vs= [.ref x,.ref t]/\fZ C true H x t λD T A B R M=>∀H',aC H H'->Q 451 H'
def gN (F:Tk->List Ky->List Ky->List Rn->List Int->List (List V)):Sp:=λvs H Q _=>∃(x t:Addr),vs= [.ref x,.ref t]/\fZ C true H x t λD T A B R M=>∀(l:Addr) (H':Hp),aC H H'->H l=none->ToldN H H' l (F T A B R M)->Q 215 H'
def wZ:Sp:=λvs H Q _=>∃(x t:Addr) (z:Str) (n:Int),vs= [.ref x,.ref t,.str z,.int n]/\fZ C true H x t λD T A B R M=>∀H',aC H H'->Q (.int (cA T R z n R.length)) H'
def w6:Sp:=λvs H Q _=>∃(x t:Addr) (z:Str),vs= [.ref x,.ref t,.str z]/\fZ C true H x t λD T A B R M=>z∈D.map 199/\∀(l:Addr) (H':Hp),aC H H'->H l=none->ToldN H H' l (mJ D T R z)->Q 215 H'
def xc:Sp:=λvs H Q _=>∃(x t:Addr) (z:Str),vs= [.ref x,.ref t,.str z]/\fZ C true H x t λD T A B R M=>∀(l:Addr) (H':Hp),aC H H'->H l=none->ToldN H H' l (ot T R z)->Q 215 H'
def qf:Sp:=λvs H Q _=>∃(x t:Addr),vs= [.ref x,.ref t]/\fZ C false H x t λD T A B R M=>∀(ys:LI) (l:Addr) (H':Hp),ys.Perm (D.map 199)->PyProof.Rows.sortedS ys=true->aC H H'->H l=none->ToldN H H' l (yX ys D T A B R M)->Q 215 H'
def xf:Sp:=λvs H Q _=>∃(x t:Addr),vs= [.ref x,.ref t]/\fZ C false H x t λD T A B R M=>∀(ys:LI) (H':Hp),ys.Perm (D.map 199)->PyProof.Rows.sortedS ys=true->aC H H'->Q (.bl (yX ys D T A B R M).isEmpty) H'
universe z0
universe Sw
namespace L2
open PySem PySem.Spec PyProof.Rows XH Sw
theorem yY {a:Addr} {o:Obj} {kvs:List 281} {g:TG} {tb:TS} {D:Ends} {σ:St} {H:Hp} (Pv:Nat->St->Hp->Prop) (h0:Pv 0 σ H) (hz:∀i σ H,i<=kvs.length->Pv i σ H->H a=some 209)
  (hs:∀i k x σ H T,kvs[i]?=some (k,x)->Pv i σ H->H T=none->g 460 σ (aO H T (.tup [kV k,x])) λσ2 H2=>tb 212 σ2 H2) (hd:∀σ H,Pv kvs.length σ H->D.nx σ H):
  ∃W:Nat->Nat->St->Hp->Prop,441/\∀i m σ H,W i m σ H->
   ((Itm a o kvs).stop i H/\D.nx σ H)∨((Itm a o kvs).go i H/\∃N:St->Hp->Prop,182/\∀x H',(Itm a o kvs).yld i H x H'->g x σ H' λσ2 H2=>tb 282 σ2 H2):=by
 sleep 174
 sleep 147
 by_cases hlt:i<kvs.length
 ·sleep 130
  obtain ⟨T,k,v,rfl,nT,hk,rfl⟩:=y;exact hs i k v σ H T hk p nT
 ·have e:i=kvs.length:=by lia
  subst e;exact .inl ((hz _ σ H hi p,rfl),hd σ H p)
universe L2
namespace Sw
open PySem L2 XH Hm
theorem cJ {α:Type} (xs:List α) (d:α):(JK 117).map (λi=>xs.getD i d)=xs:=by
 apply List.ext_getElem
 ·rw[IN,JP]
 ·intro i h1 h2;rw[List.getElem_map,List.getElem_range,aL (I0 h2)]
theorem lN {α:Type} {n:Nat} (xs:List α) (d:α) (h:n=117):(JK n).map (λi=>xs.getD i d)=xs:=by
 subst h;exact cJ xs d
theorem j2 {H:Hp} {td:Addr} {D:Tl} {z:Str} {m:Int} (e:Rd H td 156) (h:cP D z=some m):kj H td 379 (some 311):=
 .inl ⟨_,.inr z,e,rfl,by rw[lq,h];rfl⟩
theorem rG {us:List Us} {z:Str}:∀{us:List Us} {i:Nat} {e:Us},us[i]?=some e->e.1=z->(∀(j:Nat) (u:Us),j<i->us[j]?=some u->u.1≠z)->us.find? (λu=>decide (u.1=z))=some e
 | [],i,e,h,_,_=>by simp at h
 |u::us,0,e,h,hz,_=>by
  simp at h;subst h;rw[K7,decide_eq_true hz]
 |u::us,i+1,e,h,hz,hn=>by
  rw[K7,decide_eq_false (hn 0 u 41 rfl)]
  exact rG (us:=us) 235 hz λj v hj hv=>hn (j+1) v 41 507
theorem B9 {z:Str} {us:List Us} (hn:∀(j:Nat) (u:Us),us[j]?=some u->u.1≠z):us.find? (λu=>decide (u.1=z))=none:=by
 rw[List.find?_eq_none];intro u hu;sleep 243;simp[hn j u hj]
theorem jF {z:Str} {us:List Us} {e:Us} (h:us.find? (λu=>decide (u.1=z))=some e):e∈us/\e.1=z:=by
 exists List.mem_of_find?_eq_some h;have:=List.find?_some h
 simpa using this
theorem vH {H:Hp} {T:Tk} {R:List Rn} {vs:List V} {bs:LJ} (rT:A2 (fG An H) vs T) (rR:eJ 152 bs 325) (pok:jE T R) {i:Nat} (il:i<R.length):
  ∃(wl b:Addr) (ts:List V) (v:V) (r:Rn) (j:Nat),vs[i]?=some (.ref wl)/\H wl=some (.lst ts)/\ts[j]?=some v/\kB An H v 166/\bs[i]?=some b/\H b=some (.tup [.int r.1,.int r.2.1,.int r.2.2])/\R[i]?=some r/\r.2.2=(j:Int)/\R.getD i 111=r:=by
 have hr:=I0 il;have iT:i<T.length:=by rw[<-pok.len];exact il
 have hT:=I0 iT;obtain ⟨b,hb,eb⟩:=run_get rR hr;obtain ⟨y,hy,wl,rfl,_,ts,ew,rw'⟩:=rT.get hT;have pk:=pok.way i _ _ hr hT;generalize R[i]=r at hr eb pk;generalize T[i]=ws at hT rw' pk;obtain ⟨j,hj⟩:∃j:Nat,r.2.2=(j:Int):=⟨r.2.2.toNat,by lia⟩
 have hw:=I0 (show j<ws.length by lia)
 obtain ⟨v,hv,q⟩:=rw'.get hw;have e:cn T R i=ws[j]'(by lia):=by
  unfold cn;rw[aL hT,aL hr,hj,IX,aL hw]
 exact (wl,b,ts,v,r,j,hy,ew,hv,by rw[e];exact q,hb,eb,hr,hj,aL hr)
def oy:RA (Option Us):=λP H v o=>match o with
 |none=>v= .non
 |some u=>n4 P H v u
instance:Mv oy where
 mv:=λ{P P' H H' v x} g h=>by
  cases x with
  |none=>exact h
  |some u=>exact Mv.mv (R:=n4) g h
theorem oy.isN {P:Addr->Prop} {H:Hp} {v:V} {o:Option Us} (h:oy P H v o):(!decide (v=V.non))=o.isSome:=by
 cases o with
 |none=>
  have:v= .non:=h;rw[this]
  rfl
 |some u=>
  obtain ⟨t,rfl,_⟩:=(show n4 P H v u from h)
  rfl
theorem tY {T:Tk} {R:List Rn} {z:Str} {k i:Nat} (h:(cK T R z)[k]?=some i):i<R.length/\∃u,mH 166 z=some u:=by
 have hm:=IR h;unfold cK cO at hm;rw[List.map_id,K1] at hm;exact (JZ.mp hm.1,JY.mp hm.2)
theorem vI (T:Tk) (R:List Rn) (z:Str) (us:List Nat) (n:Nat):mK T R z us (n+1)=mK T R z us n++iO T R z us n:=by
 unfold mK;rw[Km,List.flatMap_append];simp
noncomputable def eR (T:Tk) (R:List Rn) (z:Str) (us:List Nat) (k m:Nat):List (List V):=(((us.drop 314).take m).filter (iN T R z (us.getD k 0))).map λj=> [.str "heat",.str z,.int (us.getD k 0:Nat),.int (j:Nat)]
theorem oX (T:Tk) (R:List Rn) (z:Str) (us:List Nat) (k:Nat):eR T R z us k 0= []:=by simp[eR]
theorem oY {T:Tk} {R:List Rn} {z:Str} {us:List Nat} {k m j:Nat} (h:(us.drop 314)[m]?=some j):eR T R z us k (m+1)=eR T R z us k m++(if iN T R z (us.getD k 0) j=true then [[.str "heat",.str z,.int (us.getD k 0:Nat),.int (j:Nat)]] else []):=by
 unfold eR;have e:(us.drop 314).take (m+1)=(us.drop 314).take m++ [j]:=by
  rw[K4,h]
  rfl
 rw[e,List.filter_append,JJ]
 congr 1
 rw[List.filter_cons,List.filter_nil];cases hb:iN T R z (us.getD k 0) j
 ·rfl
 ·rfl
theorem rH (T:Tk) (R:List Rn) (z:Str) (us:List Nat) (k:Nat):eR T R z us k (us.drop 314).length=iO T R z us k:=by
 unfold eR iO;rw[JX]
theorem rJ (T:Tk) (R:List Rn) (z:Str) (us:List Nat) (k m:Nat):(eR T R z us k m).length<=us.length:=by
 unfold eR;rw[IN];refine JV (jT _ _) ?_;rw[JH,Js]
 lia
theorem jk {w:Wy} {z:Str} (h:mH w z=none):bJ w z=0:=by unfold bJ;rw[h]
theorem jm {w:Wy} {z:Str} {u:Us} (h:mH w z=some u):bJ w z=u.2.1:=by unfold bJ;rw[h]
theorem AB {H0 H2:Hp} {l a:Addr} {vs:List V} {xs:List (List V)} {b:List V} (nl:H0 l=none) (g:aC H0 H2) (e:H2 l=some 516) (r:A2 (Bs 336 H2) vs xs) (na:H2 a=none):
  aC H0 (aO (aO H2 a (.tup b)) l 440)/\ToldN H0 (aO (aO H2 a (.tup b)) l 440) l (xs++ [b]):=by
 have ga:=ao na (.tup b);exact (eZ (g.trans ga) nl _,eK.put 541 (r.imp λ_ _ q=>mG q ga) 479)
theorem iy {H H1 H2:Hp} {l p:Addr} {xs ys:List (List V)} (nl:H l=none) (g1:aC H H1) (h1:ToldN H H1 l xs) (g2:aC H1 H2) (np:H1 p=none) (h2:ToldN H1 H2 p ys):
  ∃vs us:List V,H1 l=some 516/\H2 l=some 516/\H2 p=some (.lst us)/\vs.length=xs.length/\us.length=ys.length/\aC H 394/\ToldN H 394 l (xs++ys):=by
 obtain ⟨vs,e,r⟩:=h1;obtain ⟨us,e2,r2⟩:=h2;refine (vs,us,e,g2 _ _ e,e2,r.1,r2.1,AA (p:=p) nl 269 (r.imp λ_ _ q=>mG q g2) r2 λa h=>(λz=>?_,g1.free h.2))
 have:=h.2;rw[z,e] at this;cases this
theorem oz (D:Tl):(bU D).map 199=(D.map 199).map (λy=>(.inr y:Key)):=by
 unfold bU;rw[JB,JB]
 rfl
theorem qg {α β:Type} {f:α->List β} {l:List α} {i:Nat} {a:α} (h:l[i]?=some a):(l.take 233).flatMap f=(l.take i).flatMap f++f a:=by
 rw[K4,h,List.flatMap_append];simp
theorem Ca {T:Tk} {R:List Rn} {z:Str} {i j:Nat} {u v:Us} {r s:Rn} (hu:mH 166 z=some u) (hv:mH (cn T R j) z=some v) (hr:R[i]?=some r) (hs:R[j]?=some s):iN T R z i j=((!decide (u.2.2=v.2.2))&&cM r s):=by
 unfold iN;rw[hu,hv,aL hr,aL hs]
open PyProof.Rows So
universe Sw
namespace L2
open PySem PySem.Spec PyProof.Rows XH Sw
universe L2
namespace Sw
open PySem L2 XH PyProof.Rows
universe Sw
namespace L2
open PySem PySem.Spec PyProof.Rows XH Sw
universe L2
namespace Sw
open PySem L2 XH PyProof.Rows
def Lt (z:Str):Prop:=∀c∈sL z,97<=c/\c<=122
theorem Lt.app {x y:Str} (h:Lt x) (k:Lt y):Lt (x++y):=λc hc=>by
 rw[nN] at hc;rcases JA.mp hc with q|q
 ·exact h c q
 ·exact k c q
theorem Lt.cut {x:Str} (h:Lt x) (lo hi:Option Int):Lt (jZ x lo hi):=λc hc=>by
 have hc':c∈((sL x).drop (HT.dH x.length 0 lo)).take (HT.dH x.length x.length hi-HT.dH x.length 0 lo):=by simpa [sL,jZ] using hc
 exact h c (List.mem_of_mem_drop (List.mem_of_mem_take hc'))
theorem Lt.nil:Lt "" :=λc hc=>by
 have:c∈([]:List Nat):=hc;simp at this
theorem Lt.one {c:Nat} (h:97<=c/\c<=122):Lt ⟨#[c]⟩:=λd hd=>by
 have:d∈ [c]:=hd;rw[J4.mp this];exact h
theorem Cb {x:Str} {i:Int} (h:0<=i):(jZ x none (some i)).length=min i.toNat x.length:=by
 have e1:HT.dH x.length 0 none=0:=rfl;have e2:HT.dH x.length x.length (some i)=min i.toNat x.length:=by
  unfold HT.dH;simp;omega
 sleep 226;have:x.cps.toList.length=x.length:=by simp[Str.length]
 lia
theorem Cc {x:Str} {i:Int} (h:0<=i):(jZ x (some i) none).length=x.length-i.toNat:=by
 have e1:HT.dH x.length 0 (some i)=min i.toNat x.length:=by
  unfold HT.dH;simp;omega
 have e2:HT.dH x.length x.length none=x.length:=rfl;sleep 226;have:x.cps.toList.length=x.length:=by simp[Str.length]
 lia
theorem Lt.nm {z:Str} (h:Lt z) (h1:1<=z.length) (h2:z.length<=12):Nm z:=(by rw[qW];exact h1,by rw[qW];exact h2,h)
universe Sw
namespace L2
open PySem PySem.Spec PyProof.Rows XH Sw
universe L2
namespace Sw
open PySem L2 XH Hm PySem.NumText
universe Sw
namespace L2
open PySem PySem.Spec PyProof.Rows XH Sw
universe L2
namespace Sw
open PySem L2 XH Hm
theorem A2.rev {α:Type} {R:V->α->Prop} {vs:List V} {xs:List α} (h:A2 R vs xs):A2 R vs.reverse xs.reverse:=by
 refine (by simp[h.1],λi v x e1 e2=>?_)
 have il:i<vs.length:=by
  have:=(IP.mp e1).1
  simpa using this
 rw[List.getElem?_reverse il] at e1;rw[List.getElem?_reverse (by rw[<-h.1];exact il),<-h.1] at e2
 exact h.2 _ v x e1 e2
noncomputable def iP (z:Str):List Us->Int
 | []=>0
 |u::us=>249+iP z us
theorem tZ (z:Str):∀us vs:List Us,iP z (us++vs)=iP z us+iP z vs
 | [],vs=>by simp[iP]
 |u::us,vs=>by
  show 249+iP z (us++vs)=_
  rw[tZ z us vs];show _=249+iP z us+iP z vs
  lia
theorem xg {z:Str}:∀{us:List Us},z∉us.map 199->iP z us=0
 | [],_=>rfl
 |u::us,h=>by
  rw[JU,IZ,not_or] at h;show 249+iP z us=0
  rw[if_neg (λe=>h.1 e.symm),xg h.2]
  rfl
theorem qh {z:Str}:∀{us:List Us},(us.map 199).Nodup->iP z us=match us.find? (λu=>decide (u.1=z)) with
  |some u=>u.2.1
  |none=>0
 | [],_=>rfl
 |u::us,nd=>by
  rw[JU,Jm] at nd;rw[K7];show 249+iP z us=_
  by_cases h:u.1=z
  ·rw[decide_eq_true h,if_pos h,xg (by rw[<-h];exact nd.1)]
   simp
  ·rw[decide_eq_false h,if_neg h,qh nd.2];simp
theorem AC {w:Wy} {z:Str} (nd:(w.2.2.map 199).Nodup):iP z w.2.2=bJ w z:=qh nd
theorem cL {α:Type} {us:List α} {i:Nat} {u:α} (h:us[i]?=some u):us.take 233=us.take i++ [u]:=by
 rw[K4,h]
 rfl
theorem yZ {z:Str} {us:List Us} {i:Nat} {u:Us} (h:us[i]?=some u):iP z (us.take 233)=iP z (us.take i)+(if u.1=z then u.2.1 else 0):=by
 rw[cL h,tZ];show _+(249+0)=_
 lia
theorem j3 {T:Tk} {R:List Rn} {z:Str} {t:Int} (nn:∀i,i<R.length->0<=bJ 166 z):∀n,n<=R.length->(cA T R z t n<=0)∨∃t0,(∃r∈R,r.1=t0)/\t0<=t/\(∀i,i<n->cr 149 t=true->(R.getD i 111).1<=t0)
 |0,_=> .inl (Ju _)
 |n+1,h=>by
  have hr:=I0 (show n<R.length by lia)
  have e:=aL (d:=((0,0,0):Rn)) hr;have us:cA T R z t (n+1)=cA T R z t n+(if cr 454 t=true then bJ (cn T R n) z else 0):=rfl
  cases hg:cr (R.getD n (0,0,0)) t with
  |false=>
   rw[hg,if_neg 49] at us
   rcases j3 (t:=t) nn n (by lia) with k|⟨t0,h1,h2,h3⟩
   ·exact .inl 41
   ·refine .inr (t0,h1,h2,λi hi hgi=>?_)
    rcases Jf.mp hi with q|q
    ·exact h3 i q hgi
    ·subst q;rw[hg] at hgi;cases hgi
  |true=>
   have gt:(R.getD n 111).1<=t:=by
    unfold cr at hg;rw[J7,decide_eq_true_eq] at hg;exact hg.1
   have mem:R.getD n (0,0,0)∈R:=by rw[e];exact J3 _
   rcases j3 (t:=t) nn n (by lia) with k|⟨t0,h1,h2,h3⟩
   ·--none that counts ahead of it:take the greatest begin of all that go on
    have:∀m,m<=n+1->∃t0,(∃r∈R,r.1=t0)/\t0<=t/\((R.getD n 111).1<=t0)/\∀i,i<m->cr 149 t=true->(R.getD i 111).1<=t0:=by
     intro m
     induction m with
     |zero=>exact λ_=>⟨_,⟨_,mem,rfl⟩,gt,Ju _,λi hi=>absurd hi 41⟩
     |succ m ih=>
      intro hm;obtain ⟨t0,h1,h2,h3,h4⟩:=ih 41
      cases hgm:cr (R.getD m (0,0,0)) t with
      |false=>exact ⟨t0,h1,h2,h3,λi hi hgi=>by
        rcases Jf.mp hi with q|q
        ·exact h4 i q hgi
        ·subst q;rw[hgm] at hgi;cases hgi⟩
      |true=>
       have gm:(R.getD m 111).1<=t:=by
        unfold cr at hgm;rw[J7,decide_eq_true_eq] at hgm;exact hgm.1
       have em:=aL (d:=((0,0,0):Rn)) (I0 (show m<R.length by lia))
       have memm:R.getD m (0,0,0)∈R:=by rw[em];exact J3 _
       by_cases c:(R.getD m 111).1<=t0
       ·exact ⟨t0,h1,h2,h3,λi hi hgi=>by
         rcases Jf.mp hi with q|q
         ·exact h4 i q hgi
         ·subst q;exact c⟩
       ·exact ⟨_,(_,memm,rfl),gm,by lia,λi hi hgi=>by
         rcases Jf.mp hi with q|q
         ·have:=h4 i q hgi
          lia
         ·subst q;exact Ju _⟩
    obtain ⟨t0,h1,h2,_,h4⟩:=this (n+1) 203;exact .inr (t0,h1,h2,h4)
   ·by_cases c:(R.getD n 111).1<=t0
    ·exact .inr ⟨t0,h1,h2,λi hi hgi=>by
      rcases Jf.mp hi with q|q
      ·exact h3 i q hgi
      ·subst q;exact c⟩
    ·exact .inr ⟨_,(_,mem,rfl),gt,λi hi hgi=>by
      rcases Jf.mp hi with q|q
      ·have:=h3 i q hgi
       lia
      ·subst q;exact Ju _⟩
theorem xh {T:Tk} {R:List Rn} {z:Str} {t t0:Int} (nn:∀i,i<R.length->0<=bJ 166 z) (h:t0<=t):∀n,n<=R.length->(∀i,i<n->cr 149 t=true->(R.getD i 111).1<=t0)->cA T R z t n<=cA T R z t0 n
 |0,_,_=>Ju _
 |n+1,hn,hb=>by
  have ih:=xh nn h n 41 λi hi=>hb i 41
  have m0:=nn n 41
  show cA T R z t n+207<=cA T R z t0 n+(if cr 454 t0=true then bJ (cn T R n) z else 0)
  by_cases hg:cr 454 t=true
  ·have b:=hb n 41 hg
   have:cr 454 t0=true:=by
    unfold cr at hg⊢;rw[J7,decide_eq_true_eq,decide_eq_true_eq] at hg⊢
    lia
   rw[if_pos hg,if_pos this]
   lia
  ·rw[if_neg hg]
   split<;>lia
theorem vJ {T:Tk} {R:List Rn} {n:Nat} (h:∀i,i<n->0<=(R.getD i 111).1/\(cn T R i).1<=(R.getD i 111).2.1-(R.getD i 111).1/\(R.getD i 111).2.1-(R.getD i 111).1<=(cn T R i).2.1):fJ T R n= []:=
 gX λi hi=>by
  obtain ⟨a,b,c⟩:=h i hi;unfold tU;rw[decide_eq_false_iff_not]
  lia
noncomputable def rK (o:Option Int) (g:Int):Int:=if o.getD g>g then o.getD g else g
noncomputable def vK (p q:Int) (o:Option Int) (a:Rn):Option Int:=if a.1=p/\a.2.1=q then some (rK o a.2.2) else o
noncomputable def dB (A:List Rn) (p q:Int):Option Int:=A.foldl (vK p q) none
noncomputable def FoldIs (p q:Int) (A:List Rn) (o:Option Int):Option Int->Prop
 |none=>o=none/\∀a∈A,¬(a.1=p/\a.2.1=q)
 |some m=>(o=some m∨∃a∈A,a.1=p/\a.2.1=q/\a.2.2=m)/\(∀h,o=some h->h<=m)/\∀a∈A,a.1=p->a.2.1=q->a.2.2<=m
theorem Cd (o:Option Int) (g:Int):(o=some (rK o g)∨rK o g=g)/\g<=rK o g/\∀h,o=some h->h<=rK o g:=by
 cases o with
 |none=>simp[rK]
 |some h=>
  simp only[rK,Option.getD_some,Option.some.injEq]
  split
  ·exact (.inl rfl,by lia,λz e=>by lia)
  ·exact (.inr rfl,by lia,λz e=>by lia)
theorem jG (p q:Int):∀(A:List Rn) (o:Option Int),FoldIs p q A o (A.foldl (vK p q) o)
 | [],o=>by cases o<;>simp[FoldIs]
 |a::A,o=>by
  have ih:=jG p q A (vK p q o a);show FoldIs p q (a::A) o (A.foldl (vK p q) (vK p q o a));generalize A.foldl (vK p q) (vK p q o a)=r at ih⊢
  by_cases c:a.1=p/\a.2.1=q
  ·have e:vK p q o a=some (rK o a.2.2):=if_pos c;rw[e] at ih;obtain ⟨s1,s2,s3⟩:=Cd o a.2.2;cases r with
   |none=>exact absurd ih.1 nofun
   |some m=>
    obtain ⟨h1,h2,h3⟩:=ih;have h2:=h2 _ rfl;refine (?_,λh e=>KQ (s3 h e) h2,λb hb b1 b2=>?_)
    ·rcases h1 with h1|⟨b,hb,q1⟩
     ·injection h1 with h1
      rcases s1 with s1|s1
      ·exact .inl (by rw[s1,h1])
      ·exact .inr (a,JO,c.1,c.2,by lia)
     ·exact .inr (b,J9 _ hb,q1)
    ·rcases IZ.mp hb with rfl|hb
     ·lia
     ·exact h3 b hb b1 b2
  ·have e:vK p q o a=o:=if_neg c;rw[e] at ih;cases r with
   |none=>exact ⟨ih.1,λb hb=>by rcases IZ.mp hb with rfl|hb;exact c;exact ih.2 b hb⟩
   |some m=>
    obtain ⟨h1,h2,h3⟩:=ih;refine (?_,h2,λb hb b1 b2=>?_)
    ·rcases h1 with h1|⟨b,hb,q1⟩
     ·exact .inl h1
     ·exact .inr (b,J9 _ hb,q1)
    ·rcases IZ.mp hb with rfl|hb
     ·exact absurd (b1,b2) c
     ·exact h3 b hb b1 b2
theorem y3 {A:List Rn} {p q:Int} (h:∀a∈A,¬(a.1=p/\a.2.1=q)):dB A p q=none:=by
 have:=jG p q A none;unfold dB;cases e:A.foldl (vK p q) none with
 |none=>rfl
 |some m=>
  rw[e] at this;rcases this.1 with z|⟨a,ha,q1,q2,_⟩
  ·cases z
  ·exact absurd (q1,q2) (h a ha)
theorem qi {A:List Rn} {p q m:Int} (h1:∃a∈A,a.1=p/\a.2.1=q/\a.2.2=m) (h2:∀a∈A,a.1=p->a.2.1=q->a.2.2<=m):dB A p q=some m:=by
 have:=jG p q A none;unfold dB;obtain ⟨b,hb,b1,b2,b3⟩:=h1;cases e:A.foldl (vK p q) none with
 |none=>
  rw[e] at this;exact absurd (b1,b2) (this.2 b hb)
 |some k=>
  rw[e] at this;obtain ⟨q1,_,q3⟩:=this;have k1:=q3 b hb b1 b2;rcases q1 with z|⟨a,ha,a1,a2,a3⟩
  ·cases z
  ·have:=h2 a ha a1 a2
   congr 1
   lia
theorem y4 {A:List Rn} {i:Nat} {a:Rn} (h:A[i]?=some a) (p q:Int):dB (A.take 233) p q=vK p q (dB (A.take i) p q) a:=by
 unfold dB;rw[K4,h,List.foldl_append]
 rfl
noncomputable def gw (A:List Rn) (c:List Int):Nat->Option Int
 |0=>some 0
 |i+1=>(gw A c i).bind λt=>(dB A (c.getD i 0) (c.getD 233 0)).map λg=>t+g
theorem jH {A:List Rn} {c:List Int} {i:Nat} (h:gw A c i=none):∀{j:Nat},i<=j->gw A c j=none
 |0,hj=>by
  have:i=0:=by lia
  subst this;exact h
 |j+1,hj=>by
  by_cases e:i=j+1
  ·rw[<-e];exact h
  ·have:=jH h (j:=j) 41
   show (gw A c j).bind _=none;rw[this]
   rfl
theorem lO {A:List Rn} {c:List Int} {i:Nat} {x y t:Int} (h:gw A c i=some t) (hx:c[i]?=some x) (hy:c[i+1]?=some y):gw A c 233=(dB A x y).map λg=>t+g:=by
 show (gw A c i).bind _=_;rw[h,JM,hx,JM,hy]
 rfl
noncomputable def db (A:List Rn) (c:List Int):Option Int:=gw A c (c.length-1)
noncomputable def AD (A:List Rn) (p q:Int) (i:Nat):Bool:=match A[i]? with
 |some r=>decide (r.1=p/\r.2.1=q)
 |none=>false
noncomputable def AE (A:List Rn) (i:Nat):Int:=match A[i]? with
 |some r=>r.2.2
 |none=>0
noncomputable def Ce (A:List Rn) (p q:Int):List Int:=((JK A.length).filter (AD A p q)).map (AE A)
theorem rL {A:List Rn} {i:Nat} {r:Rn} (h:A[i]?=some r) (p q:Int):AD A p q i=decide (r.1=p/\r.2.1=q):=by unfold AD;rw[h]
theorem rM {A:List Rn} {i:Nat} {r:Rn} (h:A[i]?=some r):AE A i=r.2.2:=by unfold AE;rw[h]
theorem rN {A:List Rn} {p q z:Int}:z∈Ce A p q↔∃a∈A,a.1=p/\a.2.1=q/\a.2.2=z:=by
 unfold Ce;simp only[J2,K1,JZ];constructor
 ·rintro ⟨i,⟨hi,ht⟩,hv⟩;have hr:=I0 hi;rw[rL hr,decide_eq_true_eq] at ht;rw[rM hr] at hv;exact (_,J3 hi,ht.1,ht.2,hv)
 ·rintro ⟨a,ha,h1,h2,h3⟩;obtain ⟨i,hi⟩:=IY.mp ha;exists i,((IP.mp hi).1,?_)
  ·rw[rL hi];exact decide_eq_true (h1,h2)
  ·rw[rM hi];exact h3
theorem AF {A:List Rn} {p q:Int} (h:Ce A p q= []):dB A p q=none:=y3 λa ha z=>by
 have:=rN.mpr (a,ha,z.1,z.2,rfl);rw[h] at this;cases this
theorem AG {A:List Rn} {p q m:Int} (h1:m∈Ce A p q) (h2:∀z∈Ce A p q,z<=m):dB A p q=some m:=
 qi (rN.mp h1) λa ha a1 a2=>h2 _ (rN.mpr ⟨a,ha,a1,a2,rfl⟩)
noncomputable def oV:Option Int->V
 |none=> .non
 |some g=> .int g
theorem Cf (o:Option Int) (g:Int):(o.map V.int).getD (.int g)= .int (o.getD g):=by cases o<;>rfl
abbrev lQ (H:Hp) (l:Addr) (A:List Rn):Prop:=bn H l (A.map rk)
def y6 (kvs:List 239) (A:List Rn):Prop:=∀p q:Int,gP kvs [.inl p,.inl q]=(dB A p q).map V.int
theorem y6.put {kvs:List 239} {A:List Rn} {i:Nat} {r:Rn} (h:y6 kvs (A.take i)) (hr:A[i]?=some r):y6 (putK kvs [.inl r.1,.inl r.2.1] (.int (rK (dB (A.take i) r.1 r.2.1) r.2.2))) (A.take 233):=by
 intro p q;rw[zP,y4 hr];unfold vK
 by_cases c:r.1=p/\r.2.1=q
 ·obtain ⟨rfl,rfl⟩:=c;rw[if_pos rfl,if_pos ⟨rfl,rfl⟩]
  rfl
 ·rw[if_neg c,if_neg (λz=>c (by injection z with z1 z2;injection z1 with z1;injection z2 with z2;injection z2 with z2;exact ⟨z1.symm,z2.symm⟩))]
  exact h p q
def rO:Sp:=λvs H Q _=>∃(l:Addr) (A:List Rn),vs= [.ref l]/\lQ H l A/\A.length<=700/\∀(d:Addr) (kvs:List 239) (H':Hp),aC H H'->H d=none->H' d=some 399->y6 kvs A->Q (.ref d) H'
def CF:Sp:=λvs H Q _=>∃(l:Addr) (A:List Rn) (p q:Int),vs= [.ref l,.int p,.int q]/\lQ H l A/\A.length<=700/\∀H',aC H H'->Q (oV (dB A p q)) H'
def xi:Sp:=λvs H Q _=>∃(l c:Addr) (A:List Rn) (C:List Int),vs= [.ref l,.ref c]/\lQ H l A/\A.length<=700/\H c=some 321/\C.length<=700/\∀H',aC H H'->Q (oV (db A C)) H'
inductive hE (ah:Int->Option Int) (ag:Int->Int):Int->Nat->Int->Int->Prop
 |nil (x:Int):hE ah ag x 0 x 0
 |cons {x y z:Int} {k:Nat} {s:Int} (h:ah x=some y) (w:hE ah ag y k z s):hE ah ag x (k+1) z (ag x+s)
theorem hE.to {ah:Int->Option Int} {ag:Int->Int} {x y:Int} {k:Nat} {s t:Int} (h:hE ah ag x k y s) (e:s=t):hE ah ag x k y t:=e▸h
theorem hE.trans {ah:Int->Option Int} {ag:Int->Int} {x y z:Int} {a b:Nat} {s t:Int} (h:hE ah ag x a y s) (h':hE ah ag y b z t):hE ah ag x (a+b) z (s+t):=by
 induction h with
 |nil x=>rw[Nat.zero_add,Jl];exact h'
 | @cons x y' z' k s e w ih=>
  have:=hE.cons e (ih h');rw[show k+b+1=k+1+b by lia] at this
  exact this.to 41
theorem hE.uniq {ah:Int->Option Int} {ag:Int->Int} {x y:Int} {a:Nat} {s:Int} (h:hE ah ag x a y s):∀{y':Int} {s':Int},hE ah ag x a y' s'->y=y'/\s=s':=by
 induction h with
 |nil x=>intro y' s' h';cases h';exact 305
 | @cons x y z k s e w ih=>
  intro y' s' h';cases h' with
  |cons e' w'=>
   rw[e] at e';cases e';obtain ⟨p,q⟩:=ih w';exact (p,by rw[q])
theorem hE.split {ah:Int->Option Int} {ag:Int->Int}:∀{a:Nat} {b:Nat} {x z:Int} {s:Int},hE ah ag x (a+b) z s->∃y s1 s2,hE ah ag x a y s1/\hE ah ag y b z s2/\s=s1+s2
 |0,b,x,z,s,h=>⟨x,0,s,.nil x,by rw[Nat.zero_add] at h;exact h,by lia⟩
 |a+1,b,x,z,s,h=>by
  rw[show a+1+b=(a+b)+1 by lia] at h
  cases h with
  | @cons _ y _ _ s' e w=>
   obtain ⟨y',s1,s2,w1,w2,q⟩:=hE.split w;exact (y',_,s2,.cons e w1,w2,by lia)
noncomputable def fq {β:Type} (f:Int->β) (q:Int) (v:β):Int->β:=λx=>if x=q then v else f x
theorem cG {β:Type} {f:Int->β} {q:Int} {v:β}:fq f q v q=v:=if_pos rfl
theorem dR {β:Type} {f:Int->β} {q x:Int} {v:β} (h:x≠q):fq f q v x=f x:=if_neg h
theorem hE.first {ah:Int->Option Int} {ag:Int->Int} {p q g x z:Int} {k:Nat} {s:Int} (h:hE 425 (fq ag q g) x k z s):
  hE ah ag x k z s∨∃a b s1 s2,k=a+b/\0<b/\hE ah ag x a q s1/\hE 425 (fq ag q g) x a q s1/\hE 425 (fq ag q g) q b z s2/\s=s1+s2:=by
 induction h with
 |nil x=>exact .inl (.nil x)
 | @cons x y z k s e w ih=>
  by_cases c:x=q
  ·subst c;exact .inr (0,k+1,0,_,by lia,by lia,.nil x,.nil x,.cons e w,by lia)
  ·have e':ah x=some y:=by rw[<-e,dR c]
   have ea:fq ag q g x=ag x:=dR c;rcases ih with w'|⟨a,b,s1,s2,q1,q2,q3,q4,q5,q6⟩
   ·exact .inl ((hE.cons e' w').to (by rw[ea]))
   ·exact .inr (a+1,b,ag x+s1,s2,by lia,q2,.cons e' q3,(hE.cons e q4).to (by rw[ea]),q5,by rw[ea];lia)
structure BF (A:List Rn) (tm:Int->Int) (ah:Int->Option Int) (ag:Int->Int):Prop where
 root:∀x,ah x=none->tm x=0
 arc:∀x y,ah x=some y->(y,x,ag x)∈A/\tm x<=tm y+ag x
 cyc:∀x k s,hE ah ag x k x s->0<k->0<s
 nn:∀x,0<=tm x
theorem BF.le {A:List Rn} {tm:Int->Int} {ah:Int->Option Int} {ag:Int->Int} (h:BF A tm ah ag) {x y:Int} {k:Nat} {s:Int} (w:hE ah ag x k y s):tm x<=tm y+s:=by
 induction w with
 |nil x=>lia
 |cons e w ih=>
  have:=(h.arc _ _ e).2
  lia
theorem BF.start (A:List Rn):BF A (λ_=>0) 444 (λ_=>0):=⟨λ_ _=>rfl,(λ_ _ e=>by cases e),(λx k s w hk=>by
 cases w with
 |nil=>lia
 |cons e=>cases e),λ_=>Ju _⟩
theorem BF.put {A:List Rn} {tm:Int->Int} {ah:Int->Option Int} {ag:Int->Int} (h:BF A tm ah ag) {p q g:Int} (ha:(p,q,g)∈A) (hv:tm p+g>tm q):BF A (fq tm q (tm p+g)) 425 (fq ag q g):=by
 have grow:∀x,tm x<=fq tm q (tm p+g) x:=λx=>by
  by_cases c:x=q
  ·subst c;rw[cG];lia
  ·rw[dR c];lia
 have back:∀k s,hE 425 (fq ag q g) q k q s->0<k->0<s:=by
  intro k
  induction k using Nat.strongRecOn with
  |ind k ih=>
   intro s w hk;cases w with
   |nil=>lia
   | @cons _ y _ k' s' e w=>
    rw[cG] at e;cases e;rw[cG];rcases w.first with w'|⟨a,b,s1,s2,q1,q2,q3,q4,q5,q6⟩
    ·have:=h.le w'
     lia
    ·have:=h.le q3;have:=ih b 41 s2 q5 q2
     lia
 refine (λx e=>?_,λx y e=>?_,λx k s w hk=>?_,λx=>KQ (h.nn x) (grow x))
 ·by_cases c:x=q
  ·subst c;rw[cG] at e;cases e
  ·rw[dR c] at e⊢;exact h.root x e
 ·by_cases c:x=q
  ·subst c;rw[cG] at e⊢;cases e;rw[cG];exists ha
   by_cases d:p=x
   ·subst d;rw[cG];lia
   ·rw[dR d];lia
  ·rw[dR c] at e⊢;rw[dR c];obtain ⟨q1,q2⟩:=h.arc x y e;have:=grow y;exact (q1,by lia)
 ·rcases w.first with w'|⟨a,b,s1,s2,q1,q2,q3,q4,q5,q6⟩
  ·exact h.cyc x k s w' hk
  ·have:=back (b+a) (s2+s1) (q5.trans q4) 41
   lia
structure PS (A:List Rn) (k i:Nat) (tm:Int->Int) (ah:Int->Option Int) (pn:Int->Nat):Prop where
 pnk:∀x,pn x<=k
 step:∀x,1<=pn x->∃y,ah x=some y/\pn x<=pn y+1
 vio:∀j a,A[j]?=some a->tm a.1+a.2.2>tm a.2.1->(j<i->pn a.1=k)/\k<=pn a.1+1
theorem PS.start (A:List Rn):PS A 1 0 (λ_=>0) 444 (λ_=>0):=(λ_=>JT _,λx h=>by lia,λj a _ _=>(λh=>by lia,IT _))
theorem PS.skip {A:List Rn} {k i:Nat} {tm:Int->Int} {ah:Int->Option Int} {pn:Int->Nat} (h:PS A k i tm ah pn) {a:Rn} (e:A[i]?=some a) (hv:¬tm a.1+a.2.2>tm a.2.1):PS A k 233 tm ah pn:=
 ⟨h.pnk,h.step,λj b eb vb=>⟨λhj=>by
  by_cases c:j=i
  ·subst c;rw[e] at eb;cases eb;exact absurd vb hv
  ·exact (h.vio j b eb vb).1 41,(h.vio j b eb vb).2⟩⟩
theorem PS.put {A:List Rn} {k i:Nat} {tm:Int->Int} {ah:Int->Option Int} {pn:Int->Nat} (h:PS A k i tm ah pn) {a:Rn} (e:A[i]?=some a) (hv:tm a.1+a.2.2>tm a.2.1):PS A k 233 (fq tm a.2.1 (tm a.1+a.2.2)) (fq ah a.2.1 (some a.1)) (fq pn a.2.1 k):=by
 have grow:∀x,tm x<=fq tm a.2.1 (tm a.1+a.2.2) x:=λx=>by
  by_cases c:x=a.2.1
  ·rw[c,cG];lia
  ·rw[dR c];lia
 have up:∀x,pn x<=fq pn a.2.1 k x:=λx=>by
  by_cases c:x=a.2.1
  ·rw[c,cG];exact h.pnk _
  ·rw[dR c];lia
 refine (λx=>?_,λx hx=>?_,λj b eb vb=>?_)
 ·by_cases c:x=a.2.1
  ·rw[c,cG];lia
  ·rw[dR c];exact h.pnk x
 ·by_cases c:x=a.2.1
  ·rw[c,cG,cG];exists ν;have:=(h.vio i a e hv).2;have:=up a.1
   lia
  ·rw[dR c] at hx⊢;rw[dR c];obtain ⟨y,q1,q2⟩:=h.step x hx;have:=up y;exact (y,q1,by lia)
 ·by_cases c:b.1=a.2.1
  ·rw[c,cG];exact (λ_=>rfl,by lia)
  ·rw[dR c] at vb⊢;have:=grow b.2.1;have o:=h.vio j b eb 41
   refine (λhj=>?_,o.2)
   by_cases d:j=i
   ·subst d;rw[e] at eb;cases eb;rw[cG] at vb
    lia
   ·exact o.1 41
theorem PS.next {A:List Rn} {k:Nat} {tm:Int->Int} {ah:Int->Option Int} {pn:Int->Nat} (h:PS A k A.length tm ah pn):PS A (k+1) 0 tm ah pn:=
 ⟨λx=>Nat.le_succ_of_le (h.pnk x),h.step,λj a e v=>⟨λhj=>by lia,by
  have:=(h.vio j a e v).1 (IP.mp e).1
  lia⟩⟩
theorem PS.back {A:List Rn} {k i:Nat} {tm:Int->Int} {ah:Int->Option Int} {pn:Int->Nat} (ag:Int->Int) (h:PS A k i tm ah pn) {q:Int}:∀(j:Nat),j<=pn q->∃y s,hE ah ag q j y s/\pn q<=pn y+j
 |0,_=>⟨q,0,.nil q,by lia⟩
 |j+1,hj=>by
  obtain ⟨y,s,w,b⟩:=PS.back ag h (q:=q) j 41
  obtain ⟨z,e,b'⟩:=h.step y 41
  exact (z,_,w.trans (.cons e (.nil z)),by lia)
def WL (ah:Int->Option Int):List Int->Prop
 |x::y::r=>ah x=some y/\WL ah (y::r)
 |_=>True
noncomputable def xj (ag:Int->Int):List Int->Int
 |x::y::r=>ag x+xj ag (y::r)
 |_=>0
theorem WL.walk {ah:Int->Option Int} {ag:Int->Int}:∀{x:Int} {r:List Int},WL ah (x::r)->hE ah ag x r.length 484 (xj ag (x::r))
 |x,[],_=> .nil x
 |x,y::r,h=>by
  have:=WL.walk (ag:=ag) h.2;have:=hE.cons (ag:=ag) h.1 this;exact this
theorem WL.tail {ah:Int->Option Int} {x:Int} {r:List Int} (h:WL ah (x::r)):WL ah r:=by
 cases r with
 |nil=>trivial
 |cons y r=>exact h.2
theorem WL.at {ah:Int->Option Int} (ag:Int->Int):∀{x:Int} {r:List Int} {j:Nat} {z:Int},WL ah (x::r)->(x::r)[j]?=some z->∃s,hE ah ag x j z s
 |x,r,0,z,_,e=>by
  simp at e;subst e;exact (0,.nil x)
 |x,[],j+1,z,_,e=>by simp at e
 |x,y::r,j+1,z,h,e=>by
  obtain ⟨s,w⟩:=WL.at ag h.2 (show (y::r)[j]?=some z by simpa using e)
  exact (_,.cons h.1 w)
theorem WL.snoc {ah:Int->Option Int}:∀{l:List Int} {x z:Int},WL ah l->l.getLast?=some x->ah x=some z->WL ah (l++ [z])
 | [],x,z,_,e,_=>by simp at e
 | [y],x,z,_,e,h=>by
  simp at e;subst e;exact (h,trivial)
 |y::y'::r,x,z,w,e,h=>⟨w.1,WL.snoc (l:=y'::r) w.2 (by simpa using e) h⟩
theorem WL.mem {ah:Int->Option Int} {ag:Int->Int} {x:Int} {r:List Int} (h:WL ah (x::r)) {z:Int} (hz:z∈r):∃k s,hE ah ag x 314 z s:=by
 obtain ⟨j,hj⟩:=IY.mp hz;obtain ⟨s,w⟩:=WL.at ag (j:=j+1) h (show (x::r)[j+1]?=some z by simpa using hj)
 exact (j,s,w)
theorem WL.nodup {ah:Int->Option Int} {ag:Int->Int} (ac:∀x k s,hE ah ag x k x s->k=0):∀{l:List Int},WL ah l->l.Nodup
 | [],_=>KL
 |x::r,h=>Jm.mpr ⟨λhz=>by
   obtain ⟨k,s,w⟩:=WL.mem (ag:=ag) h hz;have:=ac _ _ _ w
   lia,WL.nodup ac h.tail⟩
theorem WL.ringNodup {ah:Int->Option Int} (ag:Int->Int) {y:Int}:∀{l:List Int},WL ah l->y∉l->(∀x,l.getLast?=some x->ah x=some y)->l.Nodup
 | [],_,_,_=>KL
 |z::u,h,hy,he=>by
  refine Jm.mpr ⟨λhz=>?_,WL.ringNodup ag h.tail (λq=>hy (J9 _ q)) (λx hx=>he x (by
   cases u with
   |nil=>simp at hx
   |cons a b=>simpa using hx))⟩
  obtain ⟨u1,u2,e⟩:=List.append_of_mem hz;have w2:WL ah (z::u2):=by
   have:∀(u1:List Int) (v:Int),WL ah (v::(u1++z::u2))->WL ah (z::u2):=by
    intro u1
    induction u1 with
    |nil=>intro v q;exact q.2
    |cons a b ih=>intro v q;exact ih a q.2
   rw[e] at h;exact this u1 z h
  have lst:(z::u2).getLast?=(z::u).getLast?:=by
   rw[e];simp[List.getLast?_cons]
  have wk:=WL.walk (ag:=ag) w2;have lx:(z::u2).getLast?=some ((z::u2).getLast 110):=Jq 110
  have fin:=he _ (by rw[<-lst];exact lx)
  have c1:=wk.trans (.cons fin (.nil y));have jl:u2.length+1<=u.length:=by rw[e,IU];simp
  obtain ⟨v,hv⟩:∃v,(z::u)[u2.length+1]?=some v:=⟨_,I0 488⟩
  obtain ⟨s,c2⟩:=WL.at ag h hv;have:=(c1.uniq c2).1;subst this;exact hy (IR hv)
theorem iz:∀{l m:List Int},l.Nodup->(∀y∈l,y∈m)->l.length<=m.length
 | [],_,_,_=>JT _
 |x::l,m,nd,h=>by
  obtain ⟨nx,nl⟩:=Jm.mp nd;have hx:=h x JO;have:=iz (l:=l) (m:=m.erase x) nl λy hy=>(List.mem_erase_of_ne (λz:y=x=>nx (z▸hy))).mpr (h y (J9 _ hy))
  rw[List.length_erase_of_mem hx] at this;have:=List.length_pos_of_mem hx;simp;omega
theorem oA {n:Nat} {l:List Int} (nd:l.Nodup) (h:∀x∈l,0<=x/\x<(n:Int)):l.length<=n:=by
 have:=iz (m:=(JK n).map (λi:Nat=>(i:Int))) nd λy hy=>J2.mpr (y.toNat,JZ.mpr (by have:=h y hy;lia),by have:=h y hy;lia)
 simpa using this
theorem twice {l:List Int} (h:¬l.Nodup):∃l1 x l2 l3,l=l1++x::(l2++x::l3):=by
 induction l with
 |nil=>exact absurd KL h
 |cons x r ih=>
  by_cases c:x∈r
  ·obtain ⟨a,b,e⟩:=List.append_of_mem c;exact ([],x,a,b,by rw[e];rfl)
  ·obtain ⟨l1,y,l2,l3,e⟩:=ih λnd=>h (Jm.mpr ⟨c,nd⟩)
   exact (x::l1,y,l2,l3,by rw[e];rfl)
theorem AH {ah:Int->Option Int} {ag:Int->Int} {n:Nat} {q y:Int} {s:Int} (rg:∀x z,ah x=some z->0<=z/\z<(n:Int)) (hq:0<=q/\q<(n:Int)) (w:hE ah ag q n y s):∃d s',0<d/\d<=n/\hE ah ag y d y s':=by
 have lst:∀{k:Nat} {x z:Int} {s:Int},hE ah ag x k z s->(0<=x/\x<(n:Int))->∃r,r.length=k/\WL ah (x::r)/\(∀v∈x::r,0<=v/\v<(n:Int)):=by
  intro k x z s w
  induction w with
  |nil x=>intro hx;exact ([],rfl,trivial,λv hv=>by rw[J4.mp hv];exact hx)
  | @cons x y z k s e w ih=>
   intro hx;obtain ⟨r,q1,q2,q3⟩:=ih (rg _ _ e);exact ⟨y::r,by simp[q1],(e,q2),λv hv=>by
    rcases IZ.mp hv with rfl|hv
    ·exact hx
    ·exact q3 v hv⟩
 obtain ⟨r,q1,q2,q3⟩:=lst w hq;have nd:¬(q::r).Nodup:=λnd=>by
  have:=oA nd q3;simp at this
  lia
 obtain ⟨l1,x,l2,l3,e⟩:=twice nd;have ha:(q::r)[l1.length]?=some x:=by rw[e,IV 203,Nat.sub_self];rfl
 have hb:(q::r)[l1.length+(l2.length+1)]?=some x:=by
  rw[e,IV 41,show l1.length+(l2.length+1)-l1.length=l2.length+1 by lia,List.getElem?_cons_succ,IV 203,Nat.sub_self]
  rfl
 obtain ⟨s1,wa⟩:=WL.at ag q2 ha;obtain ⟨s2,wb⟩:=WL.at ag q2 hb;have bl:l1.length+(l2.length+1)<=n:=by
  have:=(IP.mp hb).1;simp at this
  lia
 obtain ⟨x',t1,t2,c1,c2,_⟩:=wb.split;obtain ⟨rfl,rfl⟩:=wa.uniq c1;obtain ⟨c,hc⟩:∃c,n=l1.length+c:=⟨n-l1.length,by lia⟩
 rw[hc] at w;obtain ⟨x',u1,u2,d1,d2,_⟩:=w.split;obtain ⟨rfl,rfl⟩:=wa.uniq d1;have big:=c2.trans d2;rw[show l2.length+1+c=c+(l2.length+1) by lia] at big
 obtain ⟨x',v1,v2,f1,f2,_⟩:=big.split;obtain ⟨rfl,_⟩:=d2.uniq f1;exact (l2.length+1,_,by lia,by lia,f2)
theorem t6 {A:List Rn} {c d:List Int}:∀{i:Nat},i<c.length->gw A (c++d) i=gw A c i
 |0,_=>rfl
 |i+1,h=>by
  have h1:(c++d).getD i 0=c.getD i 0:=by rw[JM,JM,J5 41]
  have h2:(c++d).getD 233 0=c.getD 233 0:=by rw[JM,JM,J5 h]
  show (gw A (c++d) i).bind _=(gw A c i).bind _;rw[t6 41,h1,h2]
theorem y8 {A:List Rn} {c:List Int} {x y:Int} (h:c.getLast?=some y):db A (c++ [x])=(db A c).bind λt=>(dB A y x).map λg=>t+g:=by
 have hl:0<c.length:=by
  cases c with
  |nil=>simp at h
  |cons=>simp
 rw[List.getLast?_eq_getElem?] at h;unfold db;rw[IU,show c.length+ [x].length-1=(c.length-1)+1 by simp;lia]
 show (gw A (c++ [x]) (c.length-1)).bind _=_;have h1:(c++ [x]).getD (c.length-1) 0=y:=by rw[JM,J5 41,h];rfl
 have h2:(c++ [x]).getD (c.length-1+1) 0=x:=by rw[JM,IV 41,show c.length-1+1-c.length=0 by lia];rfl
 rw[t6 41,h1,h2]
theorem rP {A:List Rn} {x y:Int} {r:List Int}:db A (x::y::r).reverse=(db A (y::r).reverse).bind λt=>(dB A y x).map λg=>t+g:=by
 rw[List.reverse_cons];exact y8 110
theorem Dp {A:List Rn} {y x g:Int} (h:(y,x,g)∈A):∃G,dB A y x=some G/\g<=G:=by
 have:=jG y x A none;unfold dB;cases e:A.foldl (vK y x) none with
 |none=>
  rw[e] at this;exact absurd 305 (this.2 _ h)
 |some m=>
  rw[e] at this;exact (m,rfl,this.2.2 _ h rfl rfl)
def iA (A:List Rn) (tm:Int->Int):Prop:=∀a∈A,tm a.1+a.2.2<=tm a.2.1
theorem BF.lag {A:List Rn} {tm:Int->Int} {ah:Int->Option Int} {ag:Int->Int} (h:BF A tm ah ag) (kp:iA A tm) {x y:Int} (e:ah x=some y):dB A y x=some (tm x-tm y)/\ag x=tm x-tm y:=by
 obtain ⟨q1,q2⟩:=h.arc x y e;have q3:=kp _ q1;have q3:tm y+ag x<=tm x:=q3;have q4:ag x=tm x-tm y:=by lia
 refine (qi (_,q1,rfl,rfl,q4) λa ha a1 a2=>?_,q4)
 have:=kp a ha;rw[a1,a2] at this
 lia
theorem BF.tot_ge {A:List Rn} {tm:Int->Int} {ah:Int->Option Int} {ag:Int->Int} (h:BF A tm ah ag):∀{l:List Int},l≠ []->WL ah l->∃T,db A l.reverse=some T/\xj ag l<=T
 | [],n,_=>absurd rfl n
 | [x],_,_=>⟨0,rfl,Ju _⟩
 |x::y::r,_,w=>by
  obtain ⟨T,q1,q2⟩:=BF.tot_ge h (l:=y::r) 110 w.2
  obtain ⟨G,q3,q4⟩:=Dp (h.arc x y w.1).1;exists T+G,?_
  ·rw[rP,q1,q3]
   rfl
  ·show ag x+xj ag (y::r)<=T+G
   lia
theorem BF.tot_eq {A:List Rn} {tm:Int->Int} {ah:Int->Option Int} {ag:Int->Int} (h:BF A tm ah ag) (kp:iA A tm):∀{x:Int} {r:List Int},WL ah (x::r)->db A (x::r).reverse=some (tm x-tm 484)
 |x,[],_=>by
  show some (0:Int)=some (tm x-tm x)
  congr 1
  lia
 |x,y::r,w=>by
  have q1:=BF.tot_eq h kp w.2;rw[rP,q1,(h.lag kp w.1).1];show some (tm y-tm ((y::r).getLast 110)+(tm x-tm y))=some _
  congr 1
  have:(x::y::r).getLast 110=(y::r).getLast (by simp):=List.getLast_cons 110
  rw[this]
  lia
theorem BF.tele {A:List Rn} {tm:Int->Int} {ah:Int->Option Int} {ag:Int->Int} (h:BF A tm ah ag) (kp:iA A tm) {x y:Int} {k:Nat} {s:Int} (w:hE ah ag x k y s):s=tm x-tm y:=by
 induction w with
 |nil x=>lia
 |cons e w ih=>
  have:=(h.lag kp e).2
  lia
theorem BF.acyc {A:List Rn} {tm:Int->Int} {ah:Int->Option Int} {ag:Int->Int} (h:BF A tm ah ag) (kp:iA A tm):∀x k s,hE ah ag x k x s->k=0:=λx k s w=>by
 have:=h.tele kp w;rcases Nat.eq_zero_or_pos k with q|q
 ·exact q
 ·have:=h.cyc x k s w q
  lia
noncomputable def lst {β:Type} (n:Nat) (f:Int->β):List β:=(JK n).map λi:Nat=>f (i:Int)
theorem iQ {β:Type} {n:Nat} {f:Int->β}:(lst n f).length=n:=by simp[lst]
theorem jI {β:Type} {n:Nat} {f:Int->β} {i:Nat} (h:i<n):(lst n f)[i]?=some (f (i:Int)):=by
 unfold lst;rw[IQ,KI h]
 rfl
theorem xk {β:Type} {n:Nat} {f:Int->β} {q:Int} (h0:0<=q) (h1:q<(n:Int)):(lst n f)[q.toNat]?=some (f q):=by
 rw[jI 41,show ((q.toNat:Nat):Int)=q by lia]
theorem xn {β:Type} {n:Nat} {f:Int->β} {q:Int} {v:β} (h0:0<=q) (h1:q<(n:Int)):(lst n f).set q.toNat v=lst n (fq f q v):=by
 apply Jy;intro i
 by_cases hi:i<n
 ·rw[List.getElem?_set,jI hi,jI hi]
  by_cases c:q.toNat=i
  ·rw[if_pos c,if_pos (by rw[iQ];lia),show (i:Int)=q by lia,cG]
  ·rw[if_neg c,dR 41]
 ·rw[Jd (by rw[List.length_set,iQ];lia),Jd (by rw[iQ];lia)]
theorem qj {β:Type} {n:Nat} {v:β}:lst n (λ_=>v)=List.replicate n v:=by
 unfold lst;apply Jy;intro i
 by_cases hi:i<n
 ·simp[hi]
 ·simp[hi]
def Bt (n:Nat) (A:List Rn):Prop:=∀a∈A,0<=a.1/\a.1<(n:Int)/\0<=a.2.1/\a.2.1<(n:Int)
theorem BF.inR {A:List Rn} {n:Nat} {tm:Int->Int} {ah:Int->Option Int} {ag:Int->Int} (h:BF A tm ah ag) (ir:Bt n A) {x y:Int} (e:ah x=some y):0<=y/\y<(n:Int):=by
 have:=ir _ (h.arc x y e).1;exact (this.1,this.2.1)
theorem lU {l:List Int} (h:l.Nodup):l.reverse.Nodup:=by
 unfold List.Nodup;rw[List.pairwise_reverse];exact List.Pairwise.imp (λh=>Ne.symm h) h
def jN (A:List Rn) (n:Nat) (x t:Int) (c:List Int):Prop:=c.Nodup/\(∀z∈c,0<=z/\z<(n:Int))/\c.getLast?=some x/\db A c=some t
def t8 (A:List Rn) (n:Nat) (c:List Int):Prop:=c.Nodup/\(∀z∈c,0<=z/\z<(n:Int))/\c≠ []/\∃T,db A (c++c.take 1)=some T/\0<T
theorem BF.chain {A:List Rn} {n:Nat} {tm:Int->Int} {ah:Int->Option Int} {ag:Int->Int} (h:BF A tm ah ag) (kp:iA A tm) {x:Int} {r:List Int} (w:WL ah (x::r)) (hr:∀z∈x::r,0<=z/\z<(n:Int)) (e:ah 484=none):jN A n x (tm x) (x::r).reverse:=by
 exists lU (WL.nodup (h.acyc kp) w),λz hz=>hr z 565,by simp
 rw[h.tot_eq kp w,h.root _ e]
 congr 1
 lia
theorem BF.ring {A:List Rn} {n:Nat} {tm:Int->Int} {ah:Int->Option Int} {ag:Int->Int} (h:BF A tm ah ag) {y:Int} {r:List Int} (w:WL ah (y::r)) (hr:∀z∈y::r,0<=z/\z<(n:Int)) (hy:y∉r) (e:∀x,(y::r).getLast?=some x->ah x=some y):t8 A n (y::r).reverse:=by
 have hl:(y::r).getLast?=some ((y::r).getLast 110):=Jq 110
 have el:=e _ hl;have nd:(y::r).Nodup:=by
  refine Jm.mpr (hy,?_);refine WL.ringNodup ag w.tail hy λx hx=>e x ?_
  cases r with
  |nil=>simp at hx
  |cons a b=>simpa using hx
 exists lU nd,λz hz=>hr z 565,by simp
 have w2:WL ah ((y::r).getLast (by simp)::y::r):=(el,w)
 obtain ⟨T,q1,q2⟩:=h.tot_ge 110 w2
 have wk:=WL.walk (ag:=ag) w2;have lz:((y::r).getLast (by simp)::y::r).getLast 110=(y::r).getLast (by simp):=List.getLast_cons 110
 rw[lz] at wk;have:=h.cyc _ _ _ wk 110
 refine (T,?_,by lia)
 rw[<-q1,List.reverse_cons (a:=(y::r).getLast 110)]
 congr 2
 have:(y::r).reverse.head?=some ((y::r).getLast 110):=by rw[List.head?_reverse];exact hl
 cases hh:(y::r).reverse with
 |nil=>simp at hh
 |cons a b=>
  rw[hh] at this;simp at this;rw[<-this]
  rfl
theorem CG {n:Nat} {f:Int->Option Int} {q:Int} (h0:0<=q) (h1:q<(n:Int)):gD ((lst n f).map oV) q=some (oV (f q)):=by
 sleep 126
 have:=xk (f:=f) h0 h1;rw[IX] at this;exact bg (by rw[IQ,this];rfl)
theorem AI {n:Nat} {f:Int->Int} {q:Int} (h0:0<=q) (h1:q<(n:Int)):gD ((lst n f).map V.int) q=some (.int (f q)):=by
 sleep 126
 have:=xk (f:=f) h0 h1;rw[IX] at this;exact bg (by rw[IQ,this];rfl)
theorem vL {n:Nat} {f:Int->Option Int} {q v:Int} (h0:0<=q) (h1:q<(n:Int)) (e:f q=some v):gD ((lst n f).map oV) q=some (.int v):=by
 rw[CG h0 h1,e]
 rfl
theorem t9 {x y:Int} {r:List Int}:(x::r).map V.int++ [.int y]=(x::(r++ [y])).map V.int:=by
 rw[JU,JU,JJ]
 rfl
structure y9 (H:Hp) (lt lp la:Addr) (A:List Rn) (n:Nat) (tm:Int->Int) (ah:Int->Option Int) (ag:Int->Int):Prop where
 et:H lt=some 349
 ep:H lp=some (.lst 518)
 ne:lt≠lp
 nt:la≠lt
 np:la≠lp
 arcs:lQ H la A
 la7:A.length<=700
 n7:n<=700
 inr:Bt n A
 bf:BF A tm ah ag
def mQ (lt lp:Addr) (H H':Hp):Prop:=∀b o,b≠lt->b≠lp->H b=some o->H' b=some o
theorem xo {n:Nat} {q:Int} (h0:0<=q) (h1:q<(n:Int)):wA n q=some q.toNat:=by
 sleep 126
 rw[IX];exact wP 41
theorem mQ.tup {lt lp:Addr} {H H':Hp} (h:mQ lt lp H H') {us vs ws:List V} (et:H lt=some (.lst us)) (ep:H lp=some 516) {b:Addr} (e:H b=some (.tup ws)):H' b=some (.tup ws):=
 h b _ (λz=>by rw[z,et] at e;cases e) (λz=>by rw[z,ep] at e;cases e) e
theorem lQ.but {lt lp la:Addr} {H H':Hp} {A:List Rn} (h:lQ H la A) (g:mQ lt lp H H') {us vs:List V} (et:H lt=some (.lst us)) (ep:H lp=some 516) (n1:la≠lt) (n2:la≠lp):lQ H' la A:=by
 obtain ⟨as,e,r⟩:=h;exact (as,g _ _ n1 n2 e,r.imp λa k q=>g.tup et ep q)
theorem qk {lt lp:Addr} {H H':Hp} {o:HO} (h:mQ lt lp H H'):mQ lt lp H (aO H' lt o):=λb u n1 n2 e=>by rw[aR n1];exact h b u n1 n2 e
theorem ql {lt lp:Addr} {H H':Hp} {o:HO} (h:mQ lt lp H H'):mQ lt lp H (aO H' lp o):=λb u n1 n2 e=>by rw[aR n2];exact h b u n1 n2 e
theorem mQ.same {lt lp:Addr} {H H1 H':Hp} (h:mQ lt lp H1 H') (g:aC H H1) (n1:H lt=none) (n2:H lp=none):aC H H':=λb o e=>h b o (λz=>by rw[z,n1] at e;cases e) (λz=>by rw[z,n2] at e;cases e) (g _ _ e)
theorem AJ {n:Nat} {f:Int->Int} {q v:Int} (h0:0<=q) (h1:q<(n:Int)):((lst n f).map V.int).set q.toNat (.int v)=(lst n (fq f q v)).map V.int:=by rw[<-xn h0 h1,List.map_set]
theorem AK {n:Nat} {f:Int->Option Int} {q v:Int} (h0:0<=q) (h1:q<(n:Int)):((lst n f).map oV).set q.toNat (.int v)=(lst n (fq f q (some v))).map oV:=by rw[<-xn h0 h1,List.map_set];rfl
def xp:Sp:=λvs H Q _=>∃(lt lp la:Addr) (A:List Rn) (n k:Nat) (tm:Int->Int) (ah:Int->Option Int) (ag:Int->Int) (pn:Int->Nat),vs= [.ref lt,.ref lp,.ref la]/\y9 H lt lp la A n tm ah ag/\PS A k 0 tm ah pn/\
 ∀(H':Hp) (tm':Int->Int) (ah':Int->Option Int) (ag':Int->Int) (pn':Int->Nat) (r:Option Int),mQ lt lp H H'->y9 H' lt lp la A n tm' ah' ag'->PS A k A.length tm' ah' pn'->(∀q,r=some q->pn' q=k/\0<=q/\q<(n:Int))->(r=none->iA A tm')->Q (oV r) H'
def qm:Sp:=λvs H Q _=>∃(lp:Addr) (x:Int) (A:List Rn) (n:Nat) (tm:Int->Int) (ah:Int->Option Int) (ag:Int->Int),vs= [.ref lp,.int x]/\H lp=some (.lst 518)/\n<=700/\0<=x/\x<(n:Int)/\Bt n A/\BF A tm ah ag/\iA A tm/\
 ∀(l:Addr) (c:List Int) (H':Hp),H l=none->aC H H'->H' l=some 168->jN A n x (tm x) c->Q 215 H'
def xq:Sp:=λvs H Q _=>∃(lp:Addr) (q:Int) (A:List Rn) (n k i:Nat) (tm:Int->Int) (ah:Int->Option Int) (ag:Int->Int) (pn:Int->Nat),vs= [.ref lp,.int q]/\H lp=some (.lst 518)/\n<=700/\0<=q/\q<(n:Int)/\Bt n A/\BF A tm ah ag/\PS A k i tm ah pn/\pn q=n/\
 ∀(l:Addr) (c:List Int) (H':Hp),aC H H'->H' l=some 168->t8 A n c->Q 215 H'
def vM (H:Hp) (t:Addr) (A:List Rn) (n:Nat):Prop:=∃(lt lc:Addr) (tm:Int->Int) (as:LJ),H t=some (.tup [.ref lt,.ref lc,.non])/\H lt=some 349/\H lc=some 373/\as.length=n/\(∀(i:Nat) (l:Addr),as[i]?=some l->∃c:List Int,H l=some 168/\jN A n i (tm i) c)/\iA A tm/\∀x,0<=tm x
theorem qo {n:Nat} {ys:List V} {v:V} (ly:ys.length=n) (hy:∀(i:Nat) (y:V),ys[i]?=some y->y=v):ys=List.replicate n v:=by
 apply List.ext_getElem (by rw[ly,List.length_replicate])
 intro i h1 h2;rw[List.getElem_replicate];exact hy i _ (I0 h1)
theorem za {A:List Rn} {n:Nat} {tm:Int->Int} {H1 H':Hp} {p:Addr} {ys:List V} (ly:ys.length=n)
  (hy:∀(i:Nat) (y:V),ys[i]?=some y->∃H3 H4:Hp,aC H1 H3/\H3 p≠none/\(∃(l:Addr) (c:List Int),y= .ref l/\H3 l=none/\H4 l=some 168/\jN A n 131 (tm 131) c)/\∀b o,b≠p->H4 b=some o->H' b=some o):
  ∃as:LJ,ys=as.map V.ref/\as.length=n/\∀(i:Nat) (l:Addr),as[i]?=some l->∃c:List Int,H' l=some 168/\jN A n i (tm i) c:=by
 obtain ⟨as,rfl⟩:=jB (ys:=ys) λy hy'=>by
  obtain ⟨i,hi⟩:=IY.mp hy';obtain ⟨_,_,_,_,⟨l,_,e,_⟩,_⟩:=hy i y hi;exact (l,e)
 rw[IN] at ly;refine (as,rfl,ly,λi l e=>?_)
 obtain ⟨H3,H4,g3,n3,⟨l',c,q1,q2,q3,q4⟩,f⟩:=hy i 215 (by rw[IQ,e];rfl)
 cases q1;rw[Jl] at q4;exact (c,f _ _ (λz=>n3 (z▸q2)) q3,q4)
def CH (H:Hp) (t:Addr) (A:List Rn) (n:Nat):Prop:=∃(lr:Addr) (c:List Int),H t=some (.tup [.non,.non,.ref lr])/\H lr=some 168/\t8 A n c
def iR:Sp:=λvs H Q _=>∃(n:Nat) (la:Addr) (A:List Rn),vs= [.int (n:Int),.ref la]/\lQ H la A/\A.length<=700/\n<=700/\Bt n A/\∀(t:Addr) (H':Hp),aC H H'->(vM H' t A n∨CH H' t A n)->Q 214 H'
theorem rQ (x:Int) (c:List Int):Bq (.int x) (c.map V.int)=decide (x∈c):=by
 unfold Bq;rw[Bool.eq_iff_iff];simp[BI]
universe Sw
namespace L2
open PySem PySem.Spec PyProof.Rows XH Sw Hm
variable {X:Cx}
theorem zb (hc:X.calm=true):dC X (.builtin "min") (λxs H Q=>∃(a:Addr) (ns:List Int),xs= [.ref a]/\aF X.K H a 173/\ns≠ []/\∀M:Int,M∈ns->(∀z∈ns,M<=z)->Q (.int M) H):=by
 sleep 26;obtain ⟨a,ns,rfl,h1,hne,q⟩:=h;obtain ⟨u,rfl,r1⟩:=vals1 r;cases r1;sleep 81;have lst:xs.toList.map 199=ns:=by
  sleep 233
 have len:ns.length=xs.size:=by rw[<-lst,IN,JC]
 have pos:0<xs.size:=len▸List.length_pos_iff.mpr hne;refine min_intList 236 (xs:=xs) 359 pos λv h' tk hv hk=>?_
 obtain ⟨t,rfl⟩:=intItems_at hv;have best:=argBest_lt (numAt xs) (xs.size-1);sleep 212
 ·have m:=best.1;rw[<-lst,numAt_eq];refine getD_mem ?_;rw[lst,len]
  lia
 ·sleep 151
  rw[<-numAt_eq];exact m
theorem zc (hc:X.calm=true):dC X (.builtin "sum") (λxs H Q=>∃(a:Addr) (ns:List Int),xs= [.ref a]/\aF X.K H a 173/\Q (.int ns.sum) H):=by
 sleep 26;obtain ⟨a,ns,rfl,h1,q⟩:=h;obtain ⟨u,rfl,r1⟩:=vals1 r;cases r1;sleep 81;have lst:xs.toList.map 199=ns:=by
  sleep 233
 refine sum_intListG 236 (xs:=xs) 359 λh' tk t hk=>?_
 refine (.int ns.sum,H,I.kept (h':=h') (t':=tk) hk,(t,?_),q);rw[preSum_eq,KY 110,lst]
def AL (K:IS) (te:TE):TE:=λσ H Q=>te σ H λx H1=>∃(a:Addr) (xs:List Int),x= .ref a/\aF K H1 a (xs.map V.int)/\xs.length<4000/\Q (.int (xs.foldl insI []).length) H1
section
variable {e:Expr} {te:TE} {p1 p2 pos pos2:Pos}
theorem vN (hc:X.calm=true) (g1:Gl X "len") (m1:X.mg "len" =none) (g2:Gl X "set") (m2:X.mg "set" =none) (b1:bootBuiltins "len" =some 351) (b2:bootBuiltins "set" =some 491) (he:PE X e te)
  (hs:starEach [e] X.env= [259]:=by rfl):
  PE X 404 (AL X.K te):=by
 sleep 22
 sleep 17
 refine Ja ?_ hs rfl;rw[hs];refine Calls.spliced_cons (x:=eval e X.env) (rest:= []) (cu 295 λv s1 (x,H1,I1,r1,a,xs,ex,hq,few,q)=>?_)
 subst ex;cases r1;sleep 77;have sz:its.toArray.size=xs.length:=by rw[JD,<-rv.length,IN]
 sleep 68
 apply Calls.spliced_nil;obtain ⟨o,es,ep,t,ho,hx,hd,_,hp,hb,hf,_⟩:=S2;have ln:es.size=(xs.foldl insI []).length:=by
  have:=hp.length_eq;rw[IN,JC] at this;rw[this];unfold sv;rw[sz,JX]
 refine call_len_set ho hx hd hf (by have:es.size<4096:=hb;lia) ?_
 exact (.int (xs.foldl insI []).length,H1,I1.kept 587,(_,by rw[ln]),q)
universe z0
universe L2
namespace Sw
open PySem L2 XH Hm
theorem rS {xs:List Int}:∀{ys:List Int},(ys++xs).Nodup->xs.foldl insI ys=ys++xs:=by
 induction xs with
 |nil=>intro ys _;simp
 |cons x xs ih=>
  intro ys h;rw[List.foldl_cons];have hx:x∉ys:=by
   rw[KP] at h;exact λhm=>h.2.2 x hm x JO rfl
  have e:insI ys x=ys++ [x]:=if_neg hx;rw[e,ih 235]
  simp
theorem rV {xs:List Int}:∀{ys:List Int},ys.Nodup->¬(ys++xs).Nodup->(xs.foldl insI ys).length<ys.length+xs.length:=by
 induction xs with
 |nil=>intro ys h1 h2;simp at h2;exact absurd h1 h2
 |cons x xs ih=>
  intro ys h1 h2;rw[List.foldl_cons,JN]
  by_cases hx:x∈ys
  ·have e:insI ys x=ys:=if_pos hx;rw[e];have:=fT xs ys
   lia
  ·have e:insI ys x=ys++ [x]:=if_neg hx;rw[e];have:=ih (ys:=ys++ [x]) (by rw[KP];exact (h1,by simp,λa ha b hb z=>by simp at hb;subst hb;exact hx (z▸ha))) (by simpa using h2)
   simp at this⊢
   lia
theorem vO (xs:List Int):decide (V.int ((xs.foldl insI []).length:Nat)=V.int (xs.length:Nat))=decide xs.Nodup:=by
 by_cases h:xs.Nodup
 ·rw[decide_eq_true h,decide_eq_true];rw[rS (ys:= []) 235]
  rfl
 ·rw[decide_eq_false h,decide_eq_false];intro e;injection e with e
  have:=rV (xs:=xs) (ys:= []) KL 235
  simp at this
  lia
abbrev Pk:=List (Option Nat)
noncomputable def vP:Option Nat->V
 |none=> .non
 |some j=> .int (j:Int)
def iB (H:Hp) (t:Addr) (P:Pk) (O:List Ky):Prop:=∃pl ol:Addr,H t=some (.tup [.ref pl,.ref ol])/\H pl=some (.lst (P.map vP))/\bn H ol O
theorem iB.same {H H':Hp} {t:Addr} {P:Pk} {O:List Ky} (h:iB H t P O) (g:aC H H'):iB H' t P O:=by
 obtain ⟨pl,ol,a,b,c⟩:=h;exact (pl,ol,g _ _ a,g _ _ b,c.same g)
theorem iB.sq {H H':Hp} {t:Addr} {P:Pk} {O:List Ky} (h:iB H t P O) (g:∀a o,yW o=true->H a=some o->H' a=some o):iB H' t P O:=by
 obtain ⟨pl,ol,a,b,c⟩:=h;exact (pl,ol,g _ _ rfl a,g _ _ rfl b,c.sq g)
structure AM (T:Tk) (P:Pk):Prop where
 len:P.length=T.length
 pick:∀(i j:Nat) (ws:List Wy),P[i]?=some (some j)->T[i]?=some ws->j<ws.length
noncomputable def bV (T:Tk) (P:Pk) (i:Nat):List Wy:=match P.getD i none with
 |none=>T.getD i []
 |some j=> [(T.getD i []).getD j 402]
noncomputable def j4:List Int->Int
 | []=>0
 | [x]=>x
 |x::y::r=>if x<=j4 (y::r) then x else j4 (y::r)
theorem fj:∀{l:List Int},l≠ []->j4 l∈l/\∀z∈l,j4 l<=z
 | [],h=>absurd rfl h
 | [x],_=>by simp[j4]
 |x::y::r,_=>by
  have ih:=fj (l:=y::r) nofun;unfold j4
  by_cases c:x<=j4 (y::r)
  ·rw[if_pos c];refine (JO,λz hz=>?_)
   rcases IZ.mp hz with e|e
   ·rw[e];exact Ju _
   ·have:=ih.2 z e
    lia
  ·rw[if_neg c];refine (J9 _ ih.1,λz hz=>?_)
   rcases IZ.mp hz with e|e
   ·rw[e];lia
   ·exact ih.2 z e
theorem fU {l:List Int} {m:Int} (hm:m∈l) (h:∀z∈l,m<=z):m=j4 l:=by
 have hne:l≠ []:=λe=>by rw[e] at hm;cases hm
 obtain ⟨a,b⟩:=fj hne;have:=h _ a;have:=b _ hm
 lia
noncomputable def cZ (T:Tk) (P:Pk) (i:Nat) (z:Str):Int:=j4 ((bV T P i).map λw=>w.1*bJ w z)
theorem mZ {D:Tl} {T:Tk} {P:Pk} {i:Nat} (hT:∀ws∈T,tR D ws) (il:i<T.length):bV T P i≠ []:=by
 unfold bV;cases P.getD i none with
 |none=>
  rw[aL 549];have:=(hT _ (J3 il)).1;intro (e:T[i]= []);rw[e] at this;simp at this
 |some j=>exact nofun
theorem jn {D:Tl} {T:Tk} {P:Pk} {i:Nat} (hT:∀ws∈T,tR D ws) (il:i<T.length):(bV T P i).length<=2:=by
 unfold bV;cases P.getD i none with
 |none=>
  rw[aL 549];exact (hT _ (J3 il)).2.1
 |some j=>exact Nat.le_of_ble_eq_true rfl
theorem xr {D:Tl} {T:Tk} {P:Pk} {i:Nat} (hT:∀ws∈T,tR D ws) (pk:AM T P) (il:i<T.length):∀w∈bV T P i,∃ws∈T,w∈ws:=by
 intro w hw;unfold bV at hw;have hTi:=I0 il;have hPi:=I0 (show i<P.length by rw[pk.len];exact il)
 rw[aL hTi,aL hPi] at hw;cases hp:P[i]'(by rw[pk.len];exact il) with
 |none=>
  rw[hp] at hw;exact (_,J3 il,hw)
 |some j=>
  rw[hp] at hw hPi;have jl:=pk.pick i j _ hPi hTi;replace hw:w∈ [(T[i]).getD j 402]:=hw;rw[aL (I0 jl),J4] at hw;rw[hw];exact (_,J3 il,J3 jl)
section
variable (C:Addr)
structure mR (f:Bool) (H:Hp) (x t:Addr) (D:Tl) (T:Tk) (A B:List Ky) (n:Int) (P:Pk) (O:List Ky):Prop where
 net:jh C f H x D T A B n
 case_:iB H t P O
 ok:oe D T A B n
 pk:AM T P
def jo (f:Bool) (H:Hp) (x t:Addr) (Q:Tl->Tk->List Ky->List Ky->Int->Pk->List Ky->Prop):Prop:=∃(D:Tl) (T:Tk) (A B:List Ky) (n:Int) (P:Pk) (O:List Ky),mR C f H x t D T A B n P O/\Q D T A B n P O
def kD:Sp:=λvs H Q _=>∃(v:V) (z:Str) (w:Wy),vs= [v,.str z]/\kB An H v w/\Q (.int (bJ w z)) H
def vQ:Sp:=λvs H Q _=>∃(x t:Addr) (i:Nat),vs= [.ref x,.ref t,.int i]/\jo C true H x t λD T A B n P O=>i<T.length/\∀(p:Addr) (H':Hp),aC H H'->H p=none->eK kB An H' p 496->Q 148 H'
def vR (F:Tk->Pk->Nat->Str->Int):Sp:=λvs H Q _=>∃(x t:Addr) (i:Nat) (z:Str),vs= [.ref x,.ref t,.int i,.str z]/\jo C true H x t λD T A B n P O=>i<T.length/\∀H':Hp,aC H H'->Q (.int (F T P i z)) H'
universe z0
theorem mR.same {C:Addr} {f:Bool} {H H':Hp} {x t:Addr} {D:Tl} {T:Tk} {A B:List Ky} {n:Int} {P:Pk} {O:List Ky} (h:mR C f H x t D T A B n P O) (g:aC H H'):mR C f H' x t D T A B n P O:=(h.net.same g,h.case_.same g,h.ok,h.pk)
theorem mR.any {C:Addr} {f:Bool} {H:Hp} {x t:Addr} {D:Tl} {T:Tk} {A B:List Ky} {n:Int} {P:Pk} {O:List Ky} (h:mR C f H x t D T A B n P O):mR C true H x t D T A B n P O:=(h.net.any,h.case_,h.ok,h.pk)
theorem mR.walk {C:Addr} {H:Hp} {x t:Addr} {D:Tl} {T:Tk} {A B:List Ky} {n:Int} {P:Pk} {O:List Ky} {d:Addr} {kvs:List 281} {o:Obj} (h:mR C true H x t D T A B n P O) (e:H d=some 140):mR C true (aO H d 209) x t D T A B n P O:=(h.net.walk e,h.case_.sq (lD e),h.ok,h.pk)
theorem HK {x:Int} {c:List Int} {A B:Prop} (h1:x∈c->A) (h2:x∉c->B):if (if false=true then !Bq (.int x) (c.map V.int) else Bq (.int x) (c.map V.int))=true then A else B:=by
 rw[if_neg (show ¬(false=true) by decide),rQ]
 exact d2 h1 h2
theorem AN (c:List Int):(c.map V.int).all jQ=true:=by
 rw[JE];intro y hy;obtain ⟨i,_,rfl⟩:=J2.mp hy
 rfl
universe Sw
namespace L2
open PySem PySem.Spec PyProof.Rows XH Sw
universe L2
namespace Sw
open PySem L2 XH Hm
noncomputable def cR (ps:List 303):List Ky:=ps.map λp=> [p.1,p.2]
open PySem.NumText
theorem Lt.join:∀{ws:LI},(∀w∈ws,Lt w)->Lt (Str.join Str.empty ws)
 | [],_=>Lt.nil
 | [x],h=>h x 110
 |x::y::r,h=>by
  have ih:=Lt.join (ws:=y::r) λw hw=>h w (J9 _ hw)
  show Lt (x++Str.empty++Str.join Str.empty (y::r));exact ((h x 110).app Lt.nil).app ih
theorem Lt.tjoin {ws:LI} (h:∀w∈ws,Lt w):Lt (Txt.join "" ws):=by
 have:Txt.join "" ws=Str.join Str.empty ws:=StrLaws.glued_eq_join _ ws;rw[this];exact Lt.join h
theorem rW {i:Int} (h0:0<=i) (h:i<26):gD CC.cps.toList i=some (97+i.toNat):=by
 obtain ⟨n,rfl⟩:∃n:Nat,i=(n:Int):=⟨i.toNat,by lia⟩
 have hn:n<26:=by lia
 rw[IX];refine bg ?_;have e:CC.cps.toList=(JK 26).map (97+ ·):=by decide
 rw[e,IQ,KI hn]
 rfl
theorem AO {x y:Str} {c d:Nat} (h:c≠d):x++(⟨#[c]⟩:Str)++y≠x++(⟨#[d]⟩:Str)++y:=λe=>by
 have:=congrArg sL e;rw[nN,nN,nN,nN,List.append_cancel_right_eq,List.append_cancel_left_eq] at this;replace this: [c]= [d]:=this;injection this with this
 exact h this
theorem Dq {x:Str} {c:Nat}:x≠x++(⟨#[c]⟩:Str):=λe=>by
 have:=congrArg Str.length e;rw[Str.length_append] at this;have:(⟨#[c]⟩:Str).length=1:=rfl
 lia
theorem qp:∀{ws:LI},(∀w∈ws,w.length=1)->(Str.join Str.empty ws).length=ws.length
 | [],_=>rfl
 | [x],h=>h x 110
 |x::y::r,h=>by
  have ih:=qp (ws:=y::r) λw hw=>h w (J9 _ hw)
  show (x++Str.empty++Str.join Str.empty (y::r)).length=_;rw[Str.append_empty,Str.length_append,ih,h x 110]
  simp only[JN]
  lia
theorem zd {ws:LI} (h:∀w∈ws,w.length=1):(Txt.join "" ws).length=ws.length:=by
 have:Txt.join "" ws=Str.join Str.empty ws:=StrLaws.glued_eq_join _ ws;rw[this];exact qp h
theorem uc:∀{ws:LI},(∀w∈ws,w.length=1)->(ws.map (λx=>x.length)).sum=ws.length
 | [],_=>rfl
 |x::r,h=>by
  rw[JU,Jn,uc λw hw=>h w (J9 _ hw),h x 110,JN]
  lia
theorem vS {γ:Type} {p:γ->Prop} {f:γ->V}:∀{vs:List V},(∀v∈vs,∃c,p c/\v=f c)->∃cs:List γ,vs=cs.map f/\∀c∈cs,p c
 | [],_=>⟨[],rfl,λc hc=>by cases hc⟩
 |v::r,h=>by
  obtain ⟨cs,e,k⟩:=vS (vs:=r) λw hw=>h w (J9 _ hw)
  obtain ⟨c,pc,e0⟩:=h v 110
  refine (c::cs,by rw[e,e0];rfl,λd hd=>?_)
  rcases IZ.mp hd with z|z
  ·rw[z];exact pc
  ·exact k d z
def xt {γ:Type} (p:γ->Prop) (f:γ->V):RA Unit:=λ_ _ v _=>∃c,p c/\v=f c
instance {γ:Type} (p:γ->Prop) (f:γ->V):Mv (xt p f):=⟨λ_ h=>h⟩
theorem A2.some_of {γ:Type} {p:γ->Prop} {f:γ->V} {P:Addr->Prop} {H:Hp} {vs:List V} {us:List Unit} (h:A2 (xt p f P H) vs us):∃cs:List γ,vs=cs.map f/\cs.length=us.length/\∀c∈cs,p c:=by
 obtain ⟨cs,e,k⟩:=vS (p:=p) (f:=f) (vs:=vs) λv hv=>by
  obtain ⟨i,hi⟩:=IY.mp hv;obtain ⟨u,_,q⟩:=h.at_ hi;exact q
 refine (cs,e,?_,k);rw[<-h.1,e,IN]
theorem AQ {x:Str} {i:Int} (h:0<=i) (k:i<(x.length:Int)):(jZ x none (some i)).length+1+(jZ x (some 233) none).length=x.length:=by
 rw[Cb h,Cc 41]
 lia
theorem qr {a b:Int} (a0:0<=a) (a1:a<26) (b0:0<=b) (b1:b<25):(a+1+b).fmod 26≠a:=by
 by_cases c:a+1+b<26
 ·rw[Int.fmod_eq_of_lt 41 c];lia
 ·have e:(a+1+b).fmod 26=a+1+b-26:=by
   have:a+1+b=(a+1+b-26)+26*1:=by lia
   rw[this,Int.add_mul_fmod_self_left,Int.fmod_eq_of_lt 41 41]
   lia
  rw[e];lia
noncomputable def hF (x:Int):Int:=if x=0 then 0 else if x=1 then 180 else 1000000000
theorem Fv {x:Int} (h0:0<=x) (h:x<3):gD [V.int 0,V.int 180,V.int ((10:Int)^(9:Int).toNat)] x=some (.int (hF x)):=by
 obtain rfl|rfl|rfl:x=0∨x=1∨x=2:=by lia
 ·rfl
 ·rfl
 ·have e:(10:Int)^(9:Int).toNat=1000000000:=by decide
  rw[e];rfl
theorem Fw (x:Int):0<=hF x/\hF x<=1000000000:=by
 unfold hF
 split
 ·lia
 ·split<;>lia
def oB (f:Int):Prop:=f=1∨f=10000019
def AR (f:Int) (r:Rn):Prop:=0<=r.1/\r.1<=23*f/\f<=r.2.1-r.1/\r.2.1-r.1<=6*f/\(r.2.2=0∨r.2.2=1)
theorem Cg {f a b c:Int} (hf:oB f) (a0:0<=a) (a1:a<24) (b0:0<=b) (b1:b<6) (c0:0<=c) (c1:c<2):AR f (a*f,a*f+(1+b)*f,c):=by
 rcases hf with rfl|rfl<;>(refine ⟨?_,?_,?_,?_,?_⟩<;>dsimp only<;>lia)
def jJ:Sp:=λvs H Q _=>∃c k:Int,vs= [.int c,.int k]/\∀v:Int,0<=v->Q (.int v) H
def ud:Sp:=λvs H Q _=>∃c:Int,vs= [.int c]/\∀(l:Addr) (n0 n1:Str) (H':Hp),aC H H'->H' l=some 418->Nm n0->Nm n1->n0≠n1->Q 215 H'
def xu (K:IS):Sp:=λvs H Q _=>∃(a:Addr) (ns:List Int) (at_ m f:Int),vs= [.ref a,.int at_,.int m,.int f]/\aF K H a 173/\0<=at_/\at_<=1000/\0<=m/\m<=4/\oB f/\∀(l:Addr) (R:List Rn) (H':Hp),aC H H'->H l=none->bn H' l 325->161=m->(∀r∈R,AR f r)->Q 215 H'
def gL (R:List Rn) (hs:List Int):Prop:=hs.length=R.length/\(∀h∈hs,0<=h/\h<=1000000000)/\∀i j,i<R.length->j<R.length->cM 149 455=true->hs.getD i 0=hs.getD j 0
theorem gL.zero {R:List Rn}:gL R ((JK R.length).map λ_=>0):=by
 have z:∀i,((JK R.length).map λ_=>(0:Int)).getD i 0=0:=λi=>by
  rw[JM,IQ];cases (JK R.length)[i]?<;>rfl
 refine (by simp,λh hh=>?_,λi j _ _ _=>by rw[z,z])
 obtain ⟨i,_,rfl⟩:=J2.mp hh
 lia
theorem gL.of {R:List Rn} {hs:List Int} (hl:hs.length=R.length) (hb:∀h∈hs,0<=h/\h<=1000000000) (hp:∀i j,i<R.length->j<i->cM 149 455=true->hs.getD i 0=hs.getD j 0):gL R hs:=by
 refine (hl,hb,λi j hi hj hm=>?_)
 rcases Nat.lt_trichotomy i j with c|c|c
 ·rw[hp j i hj c (by unfold cM at hm⊢;rw[Bool.and_comm];exact hm)]
 ·rw[c]
 ·exact hp i j hi c hm
def ue:Sp:=λvs H Q _=>∃(lr lc:Addr) (R:List Rn) (cs:List Int) (b:Int),vs= [.ref lr,.ref lc,.int b]/\bn H lr 325/\H lc=some (.lst (cs.map V.int))/\cs.length=R.length/\R.length<=4/\(b=18∨b=54)/\∀(l:Addr) (hs:List Int) (H':Hp),aC H H'->H' l=some 470->gL R hs->Q 215 H'
structure zo (n0 n1:Str) (h0 h1:Int) (us:List Us):Prop where
 len:us.length<=2
 nd:(us.map 199).Nodup
 use:∀u∈us,((u.1=n0/\u.2.2=h0)∨(u.1=n1/\u.2.2=h1))/\1<=u.2.1/\u.2.1<=2
theorem zo.rev {n0 n1:Str} {h0 h1:Int} {us:List Us} (h:zo n0 n1 h0 h1 us):zo n0 n1 h0 h1 us.reverse:=
 ⟨by rw[Jt];exact h.len,by rw[List.map_reverse];exact ((List.reverse_perm (us.map 199)).nodup_iff).mpr h.nd,λu hu=>h.use u (List.mem_reverse.mp hu)⟩
def HB (h:Int):Prop:=0<=h/\h<=1000000000
def xv:Sp:=λvs H Q _=>∃(c:Int) (ln lh:Addr) (n0 n1:Str) (h0 h1:Int),vs= [.int c,.ref ln,.ref lh]/\H ln=some 418/\H lh=some (.lst [.int h0,.int h1])/\n0≠n1/\∀(u:Addr) (us:List Us) (H':Hp),aC H H'->H u=none->eK n4 362 H' u us->zo n0 n1 h0 h1 us->Q (.ref u) H'
def EK (n0 n1:Str) (w:Wy):Prop:=1<=w.1/\w.1<=w.2.1/\w.2.1<=900000000/\∃h0 h1,HB h0/\HB h1/\zo n0 n1 h0 h1 w.2.2
structure CI (n0 n1:Str) (h0 h1:Int) (r:Rn) (ws:List Wy):Prop where
 l1:1<=ws.length
 l2:ws.length<=2
 pick:r.2.2<(ws.length:Int)
 way:∀w∈ws,EK n0 n1 w
 mine:∃w,ws[r.2.2.toNat]?=some w/\w.1<=r.2.1-r.1/\r.2.1-r.1<=w.2.1/\zo n0 n1 h0 h1 w.2.2
def xx:Sp:=λvs H Q _=>∃(t:Addr) (c mo:Int) (ln lh:Addr) (r:Rn) (f:Int) (n0 n1:Str) (h0 h1:Int),vs= [.ref t,.int c,.int mo,.ref ln,.ref lh]/\H t=some 550/\oB f/\AR f r/\H ln=some 418/\H lh=some (.lst [.int h0,.int h1])/\n0≠n1/\HB h0/\HB h1/\∀(v:V) (ws:List Wy) (H':Hp),aC H H'->fG 362 H' v ws->CI n0 n1 h0 h1 r ws->Q v H'
structure HL (n0 n1:Str) (hs1 hs2:List Int) (T:Tk) (R:List Rn):Prop where
 task:∀(i:Nat) (ws:List Wy) (r:Rn),T[i]?=some ws->R[i]?=some r->CI n0 n1 (hs1.getD i 0) (hs2.getD i 0) r ws
def xz:Sp:=λvs H Q _=>∃(rl tl:Addr) (z:Str) (t:Int) (T:Tk) (R:List Rn),vs= [.ref rl,.ref tl,.str z,.int t]/\eK fG An H tl T/\bn H rl 325/\jE T R/\R.length<=24/\(∀ws∈T,∀w∈ws,(w.2.2.map 199).Nodup)/\Q (.int (cA T R z t R.length)) H
structure AS (n0 n1:Str) (T:Tk) (R:List Rn) (m0 m1:Int):Prop where
 r0:1<=m0/\m0<=8
 r1:1<=m1/\m1<=8
 u0:∀r∈R,cA T R n0 r.1 R.length<=m0
 u1:∀r∈R,cA T R n1 r.1 R.length<=m1
 w:∀ws∈T,∀w∈ws,∀u∈w.2.2,u.2.1<=m0/\u.2.1<=m1
theorem AT {k0 k:Key} {v0 v:V} (h:k0≠k):putK [(k0,v0)] k v= [(k0,v0),(k,v)]:=by
 unfold putK;rw[if_neg]
 ·rfl
 ·simp[h]
structure Bu (T:Tk) (R:List Rn) (z:Str) (i:Nat) (m:Int):Prop where
 lo:1<=m
 hi:m<=8
 run:∀r∈R.take i,cA T R z r.1 R.length<=m
 way:∀ws∈T.take i,∀w∈ws,∀u∈w.2.2,u.2.1<=m
theorem AU {a b:Int} {c:Int} (h1:a<=c) (h2:b<=c):(if b>a then b else a)<=c:=by split<;>lia
theorem rX (a b:Int):a<=(if b>a then b else a):=by split<;>lia
theorem xA (a b:Int):b<=(if b>a then b else a):=by split<;>lia
theorem Dr {a c:Int} (h1:c<=8) (h2:c<=a):c<=(if a<8 then a else 8):=by split<;>lia
theorem Ch (a:Int):(if a<8 then a else 8)<=8:=by split<;>lia
def uf:Sp:=λvs H Q _=>∃(rl tl ln:Addr) (c:Int) (T:Tk) (R:List Rn) (n0 n1:Str),vs= [.ref rl,.ref tl,.ref ln,.int c]/\eK fG An H tl T/\bn H rl 325/\H ln=some 418/\n0≠n1/\jE T R/\R.length<=4/\(∀ws∈T,1<=ws.length/\ws.length<=2/\∀w∈ws,EK n0 n1 w)/\
 ∀(td:Addr) (m0 m1:Int) (H':Hp),aC H H'->H td=none->H' td=some (.dK (bU [338,(n1,m1)]))->AS n0 n1 T R m0 m1->Q 275 H'
structure eM (f:Int) (n0 n1:Str) (m0 m1:Int) (hs1 hs2:List Int) (T:Tk) (R:List Rn) (M:List Int):Prop where
 far:oB f
 nm0:Nm n0
 nm1:Nm n1
 ne:n0≠n1
 len:T.length=R.length
 r4:R.length<=4
 runs:∀r∈R,AR f r
 tasks:HL n0 n1 hs1 hs2 T R
 h1:gL R hs1
 h2:gL R hs2
 tools:AS n0 n1 T R m0 m1
 m2:M.length<=2
 times:∀t∈M,0<=t/\t<=29*f
theorem eM.pok {f:Int} {n0 n1:Str} {m0 m1:Int} {hs1 hs2:List Int} {T:Tk} {R:List Rn} {M:List Int} (h:eM f n0 n1 m0 m1 hs1 hs2 T R M):jE T R:=
 ⟨h.len.symm,λi r ws e1 e2=>⟨by have:=(h.runs r (IR e1)).2.2.2.2;lia,(h.tasks.task i ws r e2 e1).pick⟩⟩
theorem eM.ways {f:Int} {n0 n1:Str} {m0 m1:Int} {hs1 hs2:List Int} {T:Tk} {R:List Rn} {M:List Int} (h:eM f n0 n1 m0 m1 hs1 hs2 T R M):∀ws∈T,tR [338,(n1,m1)] ws:=λws hw=>by
 obtain ⟨i,hi⟩:=IY.mp hw;have il:=(IP.mp hi).1;have tb:=h.tasks.task i ws _ hi (I0 (show i<R.length by rw[<-h.len];exact il))
 refine (tb.l1,tb.l2,λw hww=>?_)
 obtain ⟨a1,a2,a3,h0,h1,b0,b1,us⟩:=tb.way w hww;refine (a1,a2,by lia,us.nd,by have:=us.len;lia,λu hu=>?_)
 obtain ⟨e,u1,u2⟩:=us.use u hu;have uw:=h.tools.w ws hw w hww u hu;rcases e with ⟨e,eh⟩|⟨e,eh⟩
 ·exact (m0,by rw[e,cQ,if_pos rfl],u1,uw.1,by rw[eh];exact b0.1,by rw[eh];exact b0.2)
 ·exact (m1,by rw[e,cQ,if_neg h.ne,cQ,if_pos rfl],u1,uw.2,by rw[eh];exact b1.1,by rw[eh];exact b1.2)
theorem eM.net {f:Int} {n0 n1:Str} {m0 m1:Int} {hs1 hs2:List Int} {T:Tk} {R:List Rn} {M:List Int} (h:eM f n0 n1 m0 m1 hs1 hs2 T R M) {A B:List Ky} (a:A.length<=600) (ha:∀k∈A,pR (2*161+M.length) k) (b:B.length<=300) (hb:∀k∈B,∃p q:Int,k= [p,q]/\0<=p/\p<161/\0<=q/\q<161/\p≠q):oe [338,(n1,m1)] T A B (M.length:Int):=by
 refine (by simp,?_,λp hp=>?_,by have:=h.r4;rw[h.len];lia,h.ways,by lia,by have:=h.m2;lia,a,λk hk=>?_,b,λk hk=>?_)
 ·simp;exact h.ne
 ·simp at hp;rcases hp with e|e
  ·rw[e];exact (h.nm0,h.tools.r0.1,h.tools.r0.2)
  ·rw[e];exact (h.nm1,h.tools.r1.1,h.tools.r1.2)
 ·rw[h.len];exact ha k hk
 ·rw[h.len];exact hb k hk
theorem eM.mine {f:Int} {n0 n1:Str} {m0 m1:Int} {hs1 hs2:List Int} {T:Tk} {R:List Rn} {M:List Int} (h:eM f n0 n1 m0 m1 hs1 hs2 T R M) {i:Nat} (il:i<R.length):(cn T R i).1<=(R[i]).2.1-(R[i]).1/\(R[i]).2.1-(R[i]).1<=(cn T R i).2.1/\zo n0 n1 (hs1.getD i 0) (hs2.getD i 0) (cn T R i).2.2:=by
 sleep 242
 obtain ⟨w,hw,a,b,c⟩:=(h.tasks.task i _ _ hT hr).mine;have e:cn T R i=w:=by
  unfold cn;rw[aL hT,aL hr,aL hw]
 rw[e];exact (a,b,c)
def xB (K:IS):Sp:=λvs H Q _=>∃(a:Addr) (ns:List Int) (at_ m f:Int),vs= [.ref a,.int at_,.int m,.int f]/\aF K H a 173/\0<=at_/\at_<=900/\1<=m/\m<=4/\oB f/\
 ∀(t td tl rl ml:Addr) (n0 n1:Str) (m0 m1:Int) (hs1 hs2:List Int) (T:Tk) (R:List Rn) (M:List Int) (H':Hp),aC H H'->H' t=some (.tup [.ref td,.ref tl,.ref rl,.ref ml])->H' td=some (.dK (bU [338,(n1,m1)]))->eK fG An H' tl T->bn H' rl 325->H' ml=some 261->161=m->eM f n0 n1 m0 m1 hs1 hs2 T R M->Q 214 H'
def qt:Sp:=λvs H Q _=>∃(rl ml:Addr) (R:List Rn) (M:List Int),vs= [.ref rl,.ref ml]/\bn H rl 325/\R.length<=24/\H ml=some 261/\M.length<=8/\∀(l:Addr) (H':Hp),aC H H'->H' l=some (.lst ((bw R M).map V.int))->Q 215 H'
def ug (S:List Int) (k:Ky):Prop:=∃p q g:Int,k= [p,q,g]/\g<=S.getD q.toNat 0-S.getD p.toNat 0
def xC:Sp:=λvs H Q _=>∃(lc ls:Addr) (cs S:List Int) (f:Int),vs= [.ref lc,.ref ls,.int f]/\H lc=some (.lst (cs.map V.int))/\cs.length<=63/\H ls=some (.lst 490)/\1<=S.length/\S.length<=100/\oB f/\(∀t∈S,0<=t/\t<=29*f)/\∀(l:Addr) (A:List Ky) (H':Hp),aC H H'->bn H' l A->A.length=cs.length->(∀k∈A,pR 124 k/\ug S k)->Q 215 H'
def uh:Sp:=λvs H Q _=>∃(rl:Addr) (c:Int) (R:List Rn),vs= [.ref rl,.int c]/\bn H rl 325/\R.length<=4/\∀(l:Addr) (ps:List 303) (H':Hp),aC H H'->bn H' l 410->ps.length<=16->(∀p∈ps,0<=p.1/\p.1<161/\0<=p.2/\p.2<161/\p.1≠p.2/\cM 297 296=false)->Q 215 H'
structure iX (R:List Rn) (P:Pk) (ps:List (Int×Int)):Prop where
 len:P.length=R.length
 pick:∀(i j:Nat) (r:Rn),P[i]?=some (some j)->R[i]?=some r->r.2.2=(j:Int)
 o16:ps.length<=16
 ord:∀p∈ps,0<=p.1/\p.1<161/\0<=p.2/\p.2<161/\(R.getD p.1.toNat 111).2.1<=(R.getD p.2.toNat 111).1
def xD:Sp:=λvs H Q _=>∃(rl:Addr) (c:Int) (R:List Rn),vs= [.ref rl,.int c]/\bn H rl 325/\R.length<=4/\(∀r∈R,r.2.2=0∨r.2.2=1)/\∀(t:Addr) (P:Pk) (ps:List 303) (H':Hp),aC H H'->iB H' t P 410->iX R P ps->Q 214 H'
theorem iX.ok {f:Int} {n0 n1:Str} {m0 m1:Int} {hs1 hs2:List Int} {T:Tk} {R:List Rn} {M:List Int} {P:Pk} {ps:List 303} (h:eM f n0 n1 m0 m1 hs1 hs2 T R M) (c:iX R P ps):AM T P:=by
 refine (by rw[c.len,h.len],λi j ws e1 e2=>?_)
 have il:i<R.length:=by rw[<-h.len];exact (IP.mp e2).1
 have hr:=I0 il;have:=c.pick i j _ e1 hr;have:=(h.tasks.task i ws _ e2 hr).pick
 lia
theorem uj {T:Tk} {R:List Rn} {z:Str} {t:Int} (h:∀i,i<R.length->bJ 166 z<=2):∀n,n<=R.length->cA T R z t n<=2*(n:Int)
 |0,_=>Ju _
 |n+1,hn=>by
  have ih:=uj (t:=t) h n 41
  have:=h n 41
  show cA T R z t n+207<=_
  split<;>lia
theorem AV {n0 n1:Str} {w:Wy} {z:Str} (h:EK n0 n1 w):bJ w z<=2:=by
 obtain ⟨_,_,_,h0,h1,_,_,us⟩:=h;cases e:mH w z with
 |none=>rw[jk e];lia
 |some u=>
  rw[jm e];exact (us.use u (jF e).1).2.2
universe Sw
namespace L2
open PySem
universe L2
namespace Sw
open PySem L2 XH Hm PySem.NumText
structure ic (D:Tl) (H:Hp) (tl t:Addr) (T:Tk) (P:Pk):Prop where
 tasks:eK fG An H tl T
 cs:∃O,iB H t P O
 pk:AM T P
 ok:∀ws∈T,tR D ws
theorem ic.same {D:Tl} {H H':Hp} {tl t:Addr} {T:Tk} {P:Pk} (h:ic D H tl t T P) (g:aC H H'):ic D H' tl t T P:=(h.tasks.same g,h.cs.imp λ_ c=>c.same g,h.pk,h.ok)
def rY:Sp:=λvs H Q _=>∃(tl t:Addr) (i:Nat) (D:Tl) (T:Tk) (P:Pk),vs= [.ref tl,.ref t,.int i]/\ic D H tl t T P/\i<T.length/\∀(p:Addr) (H':Hp),aC H H'->eK kB An H' p 496->Q 148 H'
theorem Ds {x:Int} (h0:0<=x) (h:x<3):∃f,gD [V.int 1,V.int 1,V.int ((10:Int)^(7:Int).toNat+19)] x=some (.int f)/\oB f:=by
 obtain rfl|rfl|rfl:x=0∨x=1∨x=2:=by lia
 ·exact (1,rfl,.inl rfl)
 ·exact (1,rfl,.inl rfl)
 ·exact (ν,.inr 49)
theorem qu {M:List Int} {t:Int}:∀{R:List Rn},t∈bw R M->t∈M∨∃r∈R,t=r.1∨t=r.2.1
 | [],h=> .inl h
 |r::R,h=>by
  rcases IZ.mp h with h|h
  ·exact .inr (r,by simp,.inl h)
  rcases IZ.mp h with h|h
  ·exact .inr (r,by simp,.inr h)
  ·rcases qu h with h|⟨s,hs,e⟩
   ·exact .inl h
   ·exact .inr (s,J9 _ hs,e)
theorem eM.spots {f:Int} {n0 n1:Str} {m0 m1:Int} {hs1 hs2:List Int} {T:Tk} {R:List Rn} {M:List Int} (h:eM f n0 n1 m0 m1 hs1 hs2 T R M):∀t∈bw R M,0<=t/\t<=29*f:=λt ht=>by
 have f1:1<=f:=by rcases h.far with e|e<;>lia
 rcases qu ht with h1|⟨r,hr,e⟩
 ·exact h.times t h1
 ·obtain ⟨a,b,c,d,_⟩:=h.runs r hr;rcases e with e|e<;>lia
universe Sw
namespace L2
open PySem
theorem ze {X:Cx}:iV X (compareOp .IsNot) (λx y H Q=>∃b c,x= .bl b/\y= .bl c/\Q (.bl (!(b==c))) H):=by
 sleep 71;obtain ⟨b,c,rfl,rfl,q⟩:=h;cases rx;cases ry;have e:(Value.bool b==Value.bool c)=(b==c):=by cases b<;>cases c<;>rfl
 refine wpAny_pure (a:=Value.bool (!(Value.bool b==Value.bool c))) ?_;rw[e];exact (.bl (!(b==c)),H,I,rfl,q)
universe L2
namespace Sw
open PySem L2 XH Hm PySem.NumText
section
variable {f:Int} {n0 n1:Str} {m0 m1:Int} {hs1 hs2:List Int} {T:Tk} {R:List Rn} {M:List Int}
theorem eM.way (h:eM f n0 n1 m0 m1 hs1 hs2 T R M) {i:Nat} (il:i<R.length):zo n0 n1 (hs1.getD i 0) (hs2.getD i 0) (cn T R i).2.2:=(h.mine il).2.2
theorem eM.heat (h:eM f n0 n1 m0 m1 hs1 hs2 T R M) {i j:Nat} (il:i<R.length) (jl:j<R.length) (hm:cM 149 455=true) {u v:Us} (hu:u∈(cn T R i).2.2) (hv:v∈(cn T R j).2.2) (e:u.1=v.1):u.2.2=v.2.2:=by
 have e1:=h.h1.2.2 i j il jl hm;have e2:=h.h2.2.2 i j il jl hm;rcases ((h.way il).use u hu).1 with ⟨a,b⟩|⟨a,b⟩<;>rcases ((h.way jl).use v hv).1 with ⟨c,d⟩|⟨c,d⟩
 ·rw[b,d,e1]
 ·exact absurd (by rw[<-a,<-c,e]) h.ne
 ·exact absurd (by rw[<-a,<-c,e]) h.ne
 ·rw[b,d,e2]
theorem eM.fits (h:eM f n0 n1 m0 m1 hs1 hs2 T R M) {A:List Ky} {ps:List 303} (hA:∀k∈A,ug (Sw.bw R M) k) (hp:∀p∈ps,cM 297 296=false) {ys:LI} (hy:ys.Perm [n0,n1]):yX ys [338,(n1,m1)] T A 410 R M= []:=by
 have a1:fJ T R T.length= []:=vJ λi hi=>by
  have il:i<R.length:=by rw[<-h.len];exact hi
  have hr:=I0 il;rw[aL hr];obtain ⟨x,y,_⟩:=h.mine il;exact ((h.runs _ (J3 il)).1,x,y)
 have a2:tW M M.length= []:=gX λi hi=>by
  have hr:=I0 hi;unfold yM;rw[aL hr];have:=(h.times _ (J3 hi)).1;exact decide_eq_false 41
 have a3:iW A R M A.length= []:=gX λi hi=>by
  have hr:=I0 hi;obtain ⟨p,q,g,e,k⟩:=hA _ (J3 hi);show decide ((Sw.bw R M).getD ((A.getD i []).getD 1 0).toNat 0-(Sw.bw R M).getD ((A.getD i []).getD 0 0).toNat 0<(A.getD i []).getD 2 0)=false;rw[aL hr,e];show decide ((Sw.bw R M).getD q.toNat 0-(Sw.bw R M).getD p.toNat 0<g)=false;exact decide_eq_false 41
 have a4:gv 410 R (cR ps).length= []:=gX λi hi=>by
  have hr:=I0 hi;have mem:=J3 hi;obtain ⟨p,hp',e⟩:=J2.mp mem;show cM (R.getD (((cR ps).getD i []).getD 0 0).toNat 111) (R.getD (((cR ps).getD i []).getD 1 0).toNat 111)=false;rw[aL hr,<-e];exact hp p hp'
 have nm:∀z∈ys,z=n0∨z=n1:=λz hz=>by
  have:=hy.mem_iff.mp hz
  simpa using this
 have a5:ys.flatMap (mJ [338,(n1,m1)] T R)= []:=by
  rw[List.flatMap_eq_nil_iff];intro z hz;refine gX λi hi=>?_
  have hr:=I0 hi;have mem:=om.mp (J3 hi);rw[aL hr];obtain ⟨r,hr',e⟩:=J2.mp mem;rw[<-e];refine decide_eq_false ?_;rcases nm z hz with rfl|rfl
  ·rw[cQ,if_pos rfl];have:=h.tools.u0 r hr';show ¬(m0<_)
   lia
  ·rw[cQ,if_neg h.ne,cQ,if_pos rfl];have:=h.tools.u1 r hr';show ¬(m1<_)
   lia
 have a6:ys.flatMap (ot T R)= []:=by
  rw[List.flatMap_eq_nil_iff];intro z hz;unfold ot mK;rw[List.flatMap_eq_nil_iff];intro k hk;have us:∀j∈cK T R z,j<R.length:=λj hj=>by
   unfold cK cO at hj;obtain ⟨i,hi,e⟩:=J2.mp hj;have:=JZ.mp (K1.mp hi).1;rw[<-e];exact this
  have kl:=JZ.mp hk;have hk':=I0 kl;unfold iO;rw[Ki,List.filter_eq_nil_iff];intro j hj;rw[aL hk'];have jl:=us j (List.mem_of_mem_drop hj);have il:=us _ (J3 kl);generalize (cK T R z)[k]=i at il;unfold iN;cases e1:mH (cn T R i) z with
  |none=>simp
  |some u=>
   cases e2:mH (cn T R j) z with
   |none=>simp
   |some v=>
    intro hb;replace hb:((!decide (u.2.2=v.2.2))&&cM 149 455)=true:=hb;rw[J7] at hb;have:=h.heat il jl hb.2 (jF e1).1 (jF e2).1 ((jF e1).2.trans (jF e2).2.symm);rw[this] at hb;simp at hb
 unfold yX;rw[a1,a2,a3,a4,a5,a6]
 rfl
theorem iX.open (h:eM f n0 n1 m0 m1 hs1 hs2 T R M) {P:Pk} (pl:P.length=R.length) (pk:∀(i j:Nat) (r:Rn),P[i]?=some (some j)->R[i]?=some r->r.2.2=(j:Int)) {i:Nat} (il:i<R.length):cn T R i∈bV T P i:=by
 sleep 242
 have hP:=I0 (show i<P.length by rw[pl];exact il)
 obtain ⟨w,hw,_⟩:=(h.tasks.task i _ _ hT hr).mine;have e:cn T R i=w:=by
  unfold cn;rw[aL hT,aL hr,aL hw]
 rw[e];unfold bV;rw[aL hT,aL hP];cases hp:P[i]'(by rw[pl];exact il) with
 |none=>exact IR hw
 |some j=>
  rw[hp] at hP;have:=pk i j _ hP hr;rw[this,IX] at hw;show w∈ [(T[i]'(by rw[h.len];exact il)).getD j 402]
  rw[aL hw];simp
universe z0
theorem AW {R:List Rn} {n:Nat}:∀(i j:Nat) (r:Rn),((JK n).map λ_=>(none:Option Nat))[i]?=some (some j)->R[i]?=some r->r.2.2=(j:Int):=λi j r h=>by
 rw[IQ] at h;obtain ⟨_,_,e⟩:=IW.mp h;cases e
universe Sw
namespace L2
open PySem
universe L2
namespace Sw
open PySem L2 XH Hm PySem.NumText
theorem Ci {T:Tk} {P:Pk} {i:Nat} {z:Str} {w:Wy} (hw:w∈bV T P i):cZ T P i z<=w.1*bJ w z:=by
 unfold cZ;have m:=List.mem_map_of_mem (f:=λw:Wy=>w.1*bJ w z) hw
 exact (fj (λe=>by rw[e] at m;cases m)).2 _ m
theorem zf (T:Tk) (P:Pk) (i:Nat) (z:Str):j4 ((bV T P i).map λw=>bJ w z*w.1)=cZ T P i z:=by
 unfold cZ
 congr 1
 apply K6;intro w _;exact Int.mul_comm _ _
noncomputable def oZ (l:List Int):Int:= -(j4 (l.map λz=> -z))
theorem xE {l:List Int} {m:Int} (hm:m∈l) (h:∀z∈l,z<=m):m=oZ l:=by
 unfold oZ;have:=fU (l:=l.map λz=> -z) (m:= -m) (J2.mpr (m,hm,rfl)) λz hz=>by
  obtain ⟨y,hy,rfl⟩:=J2.mp hz;have:=h y hy
  lia
 lia
noncomputable def dL (T:Tk) (P:Pk):Nat->List Ky
 |0=> []
 |i+1=>dL T P i++ [[2*(i:Int),2*(i:Int)+1,j4 ((bV T P i).map 199)],[2*(i:Int)+1,2*(i:Int),-(oZ ((bV T P i).map (·.2.1)))]]
theorem dh (T:Tk) (P:Pk):∀n,(dL T P n).length=2*n
 |0=>rfl
 |n+1=>by
  show (dL T P n++_).length=_;rw[IU,dh T P n];show 2*n+2=_
  lia
noncomputable def jp (O:List Ky):List Ky:=O.map λk=> [2*k.getD 0 0+1,2*k.getD 1 0,0]
noncomputable def ce (A:List Ky) (T:Tk) (P:Pk) (O:List Ky):List Ky:=A++dL T P T.length++jp O
def j5 (O:List Ky):Prop:=O.length<=1000/\∀k∈O,∃p q:Int,k= [p,q]
def kF (C:Addr):Sp:=λvs H Q _=>∃(x t:Addr),vs= [.ref x,.ref t]/\jo C true H x t λD T A B n P O=>j5 O/\∀(l:Addr) (H':Hp),aC H H'->H l=none->bn H' l 289->Q 215 H'
def AX:Sp:=λvs H Q _=>∃(al tl t:Addr) (A:List Ky) (D:Tl) (T:Tk) (P:Pk) (O:List Ky),vs= [.ref al,.ref tl,.ref t]/\bn H al A/\A.length<=1000/\eK fG An H tl T/\T.length<=24/\iB H t P O/\AM T P/\(∀ws∈T,tR D ws)/\j5 O/\∀(l:Addr) (H':Hp),aC H H'->bn H' l 289->Q 215 H'
theorem oC {H:Hp} {p:Addr} {as bs:LJ} {A B:List Ky} (ra:eJ 152 as A) (rb:eJ 152 bs B) (np:H p=none):bn (aO H p (.lst (as.map V.ref++bs.map V.ref))) p (A++B):=
 ⟨as++bs,by rw[au,JJ],(ra.append rb).imp λt k q=>ao np _ _ _ q⟩
theorem eJ.one {R:Addr->Ky->Prop} {a:Addr} {k:Ky} (h:R a k):eJ R [a] [k]:=⟨rfl,λi t y e1 e2=>by
 cases i with
 |zero=>simp at e1 e2;subst e1 e2;exact h
 |succ n=>simp at e1⟩
theorem Fy {P:Addr->Prop} {H:Hp} {l:Addr} {ks:List Ky} (h:eK (Ax λk:Ky=>k.map V.int) P H l ks):bn H l ks:=by
 obtain ⟨vs,e,r⟩:=h;obtain ⟨as,ea,_⟩:=vS (p:=λ_:Addr=>True) (f:=V.ref) (vs:=vs) λv hv=>by
  obtain ⟨i,hi⟩:=IY.mp hv;obtain ⟨k,_,t,e,_⟩:=r.at_ hi;exact (t,trivial,e)
 subst ea;refine (as,e,(by rw[<-r.1,IN],λi a k e1 e2=>?_))
 obtain ⟨t,et,_,h⟩:=r.2 i 205 k (by rw[IQ,e1];rfl) e2
 injection et with et
 rw[et];exact h
universe Sw
namespace L2
open PySem PySem.Spec PyProof.Rows XH
universe L2
namespace Sw
open PySem L2 XH Hm PySem.NumText
def xF (O:List Ky) (n:Nat):Prop:=O.length<=1000/\∀k∈O,∃p q:Int,k= [p,q]/\0<=p/\p<(n:Int)/\0<=q/\q<(n:Int)
def fc (due:List Ky):List Int->Prop
 |p::q::r=>(∃g,[p,q,g]∈due)/\fc due (q::r)
 |_=>True
def qw (n:Int) (due:List Ky):Prop:=due.length<=2000/\∀k∈due,∃p q g:Int,k= [p,q,g]/\0<=p/\p<n/\0<=q/\q<n
theorem fc.snoc {due:List Ky} {p q g:Int} (h: [p,q,g]∈due):∀{C:List Int},fc due (C++ [p])->fc due (C++ [p]++ [q])
 | [],_=>⟨⟨g,h⟩,trivial⟩
 | [x],k=>⟨k.1,⟨g,h⟩,trivial⟩
 |x::y::r,k=>⟨k.1,fc.snoc h (C:=y::r) k.2⟩
def rZ:Sp:=λvs H Q _=>∃(tl t:Addr) (i:Nat) (z:Str) (D:Tl) (T:Tk) (P:Pk),vs= [.ref tl,.ref t,.int i,.str z]/\ic D H tl t T P/\i<T.length/\∀H',aC H H'->Q (.int (cZ T P i z)) H'
def sd:Sp:=λvs H Q _=>∃w m:Int,vs= [.int w,.int m]/\1<=m/\m<=1000/\Q (.int (-((-w).fdiv m))) H
noncomputable def f9 (n:Int) (C:List Int):Bool:=C.all λp=>decide (0<=p)&&decide (p<n)
def mL (C:Addr):Sp:=λvs H Q _=>∃(x l:Addr) (fz:Bool) (D:Tl) (T:Tk) (A B:List Ky) (n:Int) (P:List Int),vs= [.ref x,.ref l]/\jh C fz H x D T A B n/\H l=some (.lst (P.map V.int))/\Q (.bl (f9 194 P)) H
def Fz (H0:Hp):RA Wy:=λP H v w=>∃t u:Addr,v= .ref t/\P t/\P u/\H0 u=none/\H t=some (.tup [.int w.1,.int w.2.1,.ref u])/\eK n4 P H u w.2.2
instance (H0:Hp):Mv (Fz H0) where
 mv:=λ{P P' H H' v x} g h=>by
  obtain ⟨t,u,rfl,p,p2,n0,e,vs,e2,r⟩:=h;sleep 227;exact (t,u,rfl,q,q2,n0,e',vs,e2',r.imp λ_ _ k=>Mv.mv g k)
theorem xF.pairs {O:List Ky} {n:Nat} (h:xF O n):j5 O:=⟨h.1,λk hk=>by
 obtain ⟨p,q,e,_⟩:=h.2 k hk;exact (p,q,e)⟩
theorem iS {A:List Ky} {T:Tk} {P:Pk} {O:List Ky} (h:∀k∈A,∃p q g:Int,k= [p,q,g]):∀k∈ce A T P O,∃p q g:Int,k= [p,q,g]:=by
 have hn:∀n,∀k∈dL T P n,∃p q g:Int,k= [p,q,g]:=λn=>by
  induction n with
  |zero=>intro k hk;cases hk
  |succ n ih=>
   intro k hk;rcases JA.mp (show k∈dL T P n++_ from hk) with z|z
   ·exact ih k z
   ·simp only[IZ,Je,or_false] at z;rcases z with rfl|rfl<;>exact ⟨_,_,_,rfl⟩
 intro k hk;unfold ce at hk;rcases JA.mp hk with z|z
 ·rcases JA.mp z with z|z
  ·exact h k z
  ·exact hn _ k z
 ·unfold jp at z;obtain ⟨o,_,rfl⟩:=J2.mp z;exact (_,_,ν)
theorem vT {f:Int} {n0 n1:Str} {m0 m1:Int} {hs1 hs2:List Int} {T:Tk} {R:List Rn} {M:List Int} {A:List Ky} {P:Pk} {ps:List 303} (h:eM f n0 n1 m0 m1 hs1 hs2 T R M) (cb:iX R P ps) (hA:∀k∈A,pR 227 k/\ug 597 k):
  ∀k∈ce A T P 410,∃p q g:Int,k= [p,q,g]/\0<=p/\p<227/\0<=q/\q<227/\(bw R M).getD p.toNat 0+g<=(bw R M).getD q.toNat 0:=by
 have ls:(bw R M).length=2*R.length+M.length:=gM M R;have s0:∀i,i<R.length->(bw R M).getD (2*i) 0=(R.getD i 111).1/\(bw R M).getD (2*i+1) 0=(R.getD i 111).2.1:=λi il=>by
  have hr:=I0 il;obtain ⟨a,b⟩:=kx M R i _ hr;rw[aL a,aL b,aL hr];exact 305
 have hn:∀n,n<=T.length->∀k∈dL T P n,∃p q g:Int,k= [p,q,g]/\0<=p/\p<227/\0<=q/\q<227/\(bw R M).getD p.toNat 0+g<=(bw R M).getD q.toNat 0:=λn=>by
  induction n with
  |zero=>intro _ k hk;cases hk
  |succ n ih=>
   intro hn k hk;rcases JA.mp (show k∈dL T P n++_ from hk) with z|z
   ·exact ih 41 k z
   ·have il:n<R.length:=by rw[<-h.len];lia
    obtain ⟨a0,a1⟩:=s0 n il;have op:=iX.open h cb.len cb.pick il;have mn:=(fj (l:=(bV T P n).map 199) (λe=>by rw[Ki] at e;rw[e] at op;cases op)).2 _ (List.mem_map_of_mem (f:=λw:Wy=>w.1) op)
    have mx:=(fj (l:=((bV T P n).map λw:Wy=>w.2.1).map λz=> -z) (λe=>by rw[Ki,Ki] at e;rw[e] at op;cases op)).2 _ (List.mem_map_of_mem (f:=λz:Int=> -z) (List.mem_map_of_mem (f:=λw:Wy=>w.2.1) op))
    have lg:=h.mine il;rw[<-aL (d:=111) 549] at lg;simp only[IZ,Je,or_false] at z;rcases z with rfl|rfl
    ·exists _,_,ν,by lia,by lia,by lia,by lia
     sleep 183
     lia
    ·exists _,_,ν,by lia,by lia,by lia,by lia
     sleep 183
     unfold oZ
     lia
 intro k hk;unfold ce at hk;rcases JA.mp hk with z|z
 ·rcases JA.mp z with z|z
  ·obtain ⟨⟨p,q,g,e,b1,b2,b3,b4,_⟩,p',q',g',e',hk'⟩:=hA k z;rw[e] at e';injection e' with e1 e'
   injection e' with e2 e'
   injection e' with e3 _
   subst e1 e2 e3;exact (p,q,g,e,b1,b2,b3,b4,by lia)
  ·exact hn _ 203 k z
 ·unfold jp at z;obtain ⟨o,ho,rfl⟩:=J2.mp z;obtain ⟨p,hp,rfl⟩:=J2.mp ho;obtain ⟨p1,p2,p3,p4,le⟩:=cb.ord p hp;exists _,_,ν,?_,?_,?_,?_
  ·show 0<=2*p.1+1;lia
  ·show 2*p.1+1<_;lia
  ·show 0<=2*p.2;lia
  ·show 2*p.2<_;lia
  ·show (bw R M).getD (2*p.1+1).toNat 0+0<=(bw R M).getD (2*p.2).toNat 0;rw[show (2*p.1+1).toNat=2*p.1.toNat+1 by lia,show (2*p.2).toNat=2*p.2.toNat by lia,(s0 _ 41).2,(s0 _ 41).1]
   lia
universe Sw
namespace L2
open PySem PySem.Spec PyProof.Rows XH Sw Hm
universe L2
namespace Sw
open PySem L2 XH Hm PySem.NumText
theorem iX.ordOk {R:List Rn} {P:Pk} {ps:List 303} (c:iX R P ps):xF 410 R.length:=by
 refine (by unfold cR;rw[IN];have:=c.o16;lia,λk hk=>?_)
 obtain ⟨p,hp,rfl⟩:=J2.mp hk;obtain ⟨p1,p2,p3,p4,_⟩:=c.ord p hp;exact (p.1,p.2,rfl,p1,p2,p3,p4)
universe Sw
namespace L2
open PySem PySem.Spec PyProof.Rows XH Sw Hm
theorem Cj {K:IS} {β:Type} {l1 l2:Addr} {xs ys:List V} {n:Nat} {g:TG} {js:List Nat} {te:TE} {σ:L2.St} {H1:Hp} {Q:VK} (R:RA β) [Mv R] (Z:Addr->Prop) (f:Nat->β) (q1:aF K H1 l1 xs) (q2:aF K H1 l2 ys) (hz:min 117 ys.length<=sizeLine) (hZ:∀a,Z a->H1 a≠none)
  (step:∀(i:Nat) (x y:V),xs[i]?=some x->ys[i]?=some y->∀H2,aC H1 H2->∀T,H2 T=none->∀o:L2.St,o.length=n->∀Q':VK,(∀v H5,aC (aO H2 T (.tup [x,y])) H5->R (λa=>H2 a=none∨Z a) H5 v (f i)->Q' v H5)->
   g 460 (o++aZ js σ) (aO H2 T (.tup [x,y])) λσ4 H4=>585/\te σ4 H4 Q')
  (fin:∀p H',H1 p=none->aC H1 H'->eK R 150 H' p ((JK (min 117 ys.length)).map f)->Q 148 H'):vm n g js te σ Q (EI K l1 l2) H1:=by
 intro p hp;exists λi m zs H2=>i<=min 117 ys.length/\m=min 117 ys.length-i/\aC H1 H2/\H2 p=some (.lst zs)/\A2 (R 150 H2) zs ((JK i).map f),(min 117 ys.length,JT _,rfl,Sw.ao hp _,au,A2.nil)
 rintro i m zs H2 ⟨hi,rfl,gg,e,r⟩;exists e;have s1:=gg.seq q1;have s2:=gg.seq q2
 by_cases hin:i<min 117 ys.length
 ·refine .inr ((xs,ys,xs[i]'(by lia),ys[i]'(by lia),s1,s2,I0 _,I0 _),?_,λx H3 hy o ho=>?_)
  ·have:=r.1;rw[IN,JP] at this
   lia
  obtain ⟨T,a,b,rfl,nT,ha,hb,rfl⟩:=hy;have gT:=Sw.ao nT (.tup [a,b]);refine step i a b (ha xs s1) (hb ys s2) H2 gg T nT o ho _ λv H5 g5 ry=>?_
  have g25:=gT.trans g5;exists g25 _ _ e,min 117 ys.length-233,by lia,hin,rfl,Sw.eZ (gg.trans g25) hp _,au
  rw[Km,JJ];sleep 162
  refine ((r.imp λv b q=>mG q g25).snoc (Aw ry λa ha=>?_)).imp λv b q=>Ft q np _
  rcases ha with h|h
  ·exact ((λz=>by rw[z,e] at h;cases h),.inl (gg.free h))
  ·exact 476
 ·have e2:i=min 117 ys.length:=by lia
  subst e2;exact .inl ((xs,ys,s1,s2,by lia),fin p H2 hp gg (zs,e,r))
universe L2
namespace Sw
open PySem L2 XH Hm PySem.NumText
abbrev CJ:RA (List Int):=B6 260
abbrev vU (H:Hp) (l:Addr) (F:List 162):Prop:=eK CJ An H l F
theorem jU {H:Hp} {P:Addr->Prop} {v:V} {f:List Int} (h:CJ P H v f):∃c,v= .ref c/\P c/\H c=some (.lst (f.map V.int)):=by
 obtain ⟨c,rfl,p,vs,e,r⟩:=h;rw[r.val] at e;exact (c,rfl,p,e)
theorem xG {H:Hp} {P:Addr->Prop} {c:Addr} {f:List Int} (p:P c) (e:H c=some (.lst (f.map V.int))):CJ P H (.ref c) f:=(c,rfl,p,_,e,A2.ofVal V.int _ _ _)
noncomputable def cU (f:List Int):Int:=f.getLast?.getD (-1)
noncomputable def iC (b:List Int):Int:=b.head?.getD (-1)
noncomputable def cW (f:List Int):Int:=(cU f).fdiv 2
theorem kH {f:List Int} (h:f≠ []):gD (f.map V.int) (-1)=some (.int (cU f)):=by
 sleep 132;rw[JJ];have:=sE (D.map V.int) (V.int x);unfold cU;rw[List.getLast?_append]
 simpa using this
theorem xH {b:List Int} (h:b≠ []):gD (b.map V.int) 0=some (.int (iC b)):=by
 obtain ⟨x,D,rfl⟩:=List.exists_cons_of_ne_nil h;exact bg (j:=0) rfl
noncomputable def c6 (n:Nat) (f b:List Int):Bool:=(!f.isEmpty&& !b.isEmpty)&&(decide (cU f=2*cW f/\0<=cW f/\cW f<(n:Int))&&decide (iC b=cU f+1))
noncomputable def hJ (n:Nat):List 162->List 162->Bool
 |f::F,b::B=>c6 n f b&&hJ n F B
 | [],[]=>true
 |_,_=>false
theorem cy {n:Nat}:∀{F B:List 162},hJ n F B=true↔F.length=B.length/\∀(i:Nat) (f b:List Int),F[i]?=some f->B[i]?=some b->c6 n f b=true
 | [],[]=>by simp[hJ]
 | [],_::_=>by simp[hJ]
 |_::_,[]=>by simp[hJ]
 |f::F,b::B=>by
  have ih:=cy (n:=n) (F:=F) (B:=B);show (c6 n f b&&hJ n F B)=true↔_;rw[J7,ih];constructor
  ·rintro ⟨h1,h2,h3⟩;refine (by simp[h2],λi x y e1 e2=>?_)
   cases i with
   |zero=>simp at e1 e2;subst e1 e2;exact h1
   |succ i=>exact h3 i x y (by simpa using e1) (by simpa using e2)
  ·rintro ⟨h1,h2⟩;exact (h2 0 f b rfl rfl,by simpa using h1,λi x y e1 e2=>h2 233 x y (by simpa using e1) (by simpa using e2))
noncomputable def bS (n:Nat) (F B:List 162):Bool:= !F.isEmpty&&(hJ n F B&&decide ((F.map cW).Nodup))
noncomputable def cE (N:Int) (F:List 162):Bool:=F.all (f9 N)
noncomputable def fK (A:List Rn) (F:List 162):Bool:=F.all λc=>(db A c).isSome
noncomputable def df (A:List Rn) (F:List 162):Int:=j4 (F.map λc=>(db A c).getD 0)
noncomputable def cx (A:List Rn) (N:Int) (F:List 162):Option Int:=if (cE N F&&fK A F)=true then some (df A F) else none
noncomputable def jq (T:Tk) (P:Pk) (z:Str) (F:List 162):Int:=(F.map λf=>cZ T P (cW f).toNat z).sum
noncomputable def gi (D:Tl) (T:Tk) (P:Pk) (A:List Rn) (N:Int) (z:Str) (F B:List 162):Option Int:=
 if bS T.length F B=true then
  match cP D z with
  |none=>none
  |some m=>match cx A N F,cx A N B with
   |some h,some t=>some (h+t+ -((-(jq T P z F)).fdiv m))
   |_,_=>none
 else none
noncomputable def i4 (k:Ky):Rn:=(k.getD 0 0,k.getD 1 0,k.getD 2 0)
theorem Dt {A:List Ky} (h:∀k∈A,∃p q g:Int,k= [p,q,g]):(A.map i4).map rk=A:=by
 rw[JB]
 conv=>rhs;rw[<-List.map_id A]
 apply K6;intro k hk;obtain ⟨p,q,g,rfl⟩:=h k hk
 rfl
theorem kI {H:Hp} {l:Addr} {A:List Ky} (h:bn H l A) (t:∀k∈A,∃p q g:Int,k= [p,q,g]):lQ H l (A.map i4):=by
 show bn H l ((A.map i4).map rk);rw[Dt t];exact h
def se:Sp:=λvs H Q _=>∃(d c:Addr) (A:List Rn) (C:List Int) (kvs:List 239),vs= [.ref d,.ref c]/\H d=some 399/\y6 kvs A/\H c=some 321/\C.length<=700/\∀H',aC H H'->Q (oV (db A C)) H'
noncomputable def iY (n:Nat) (N:Int) (f b:List Int):Option Int:=if (c6 n f b&&(f9 N f&&f9 N b))=true then some (cW f) else none
def qx (C:Addr):Sp:=λvs H Q _=>∃(x cf cb:Addr) (fz:Bool) (D:Tl) (T:Tk) (A B:List Ky) (n:Int) (f b:List Int),vs= [.ref x,.ref cf,.ref cb]/\jh C fz H x D T A B n/\H cf=some (.lst (f.map V.int))/\H cb=some (.lst (b.map V.int))/\Q (oV (iY T.length 194 f b)) H
noncomputable def ie (n:Nat) (N:Int) (F B:List 162):Option (List Int):=if (bS n F B&&(cE N F&&cE N B))=true then some (F.map cW) else none
def IH (H:Hp) (v:V) (o:Option 162):Prop:=match o with
 |none=>v= .non
 |some xs=>∃l,v= .ref l/\H l=some (.lst (xs.map V.int))
def oE (C:Addr):Sp:=λvs H Q _=>∃(x lf lb:Addr) (fz:Bool) (D:Tl) (T:Tk) (A B:List Ky) (n:Int) (F G:List 162),vs= [.ref x,.ref lf,.ref lb]/\jh C fz H x D T A B n/\vU H lf F/\vU H lb G/\F.length<=1000/\G.length<=1000/\∀(v:V) (H':Hp),aC H H'->IH H' v (ie T.length 194 F G)->Q v H'
def uk:Sp:=λvs H Q _=>∃(l cl:Addr) (A:List Rn) (N:Int) (F:List 162),vs= [.ref l,.int N,.ref cl]/\lQ H l A/\A.length<=700/\vU H cl F/\F≠ []/\F.length<=1000/\(∀f∈F,f.length<=700)/\∀H',aC H H'->Q (oV (cx A N F)) H'
def xI:Sp:=λvs H Q _=>∃(tl lf lb:Addr) (T:Tk) (F G:List 162),vs= [.ref tl,.ref lf,.ref lb]/\eK fG An H tl T/\T.length<=24/\vU H lf F/\vU H lb G/\F.length<=1000/\G.length<=1000/\∀(l:Addr) (H':Hp),aC H H'->H' l=some (.lst ((if bS T.length F G=true then F.map cW else []).map V.int))->Q 215 H'
def oG:Sp:=λvs H Q _=>∃(td tl t dl row:Addr) (N:Int) (z:Str) (lf lb:Addr) (D:Tl) (T:Tk) (P:Pk) (A:List Rn) (F G:List 162),vs= [.ref td,.ref tl,.ref t,.ref dl,.int N,.ref row]/\H td=some 156/\ic D H tl t T P/\T.length<=24/\(∀p∈D,1<=p.2/\p.2<=8)/\lQ H dl A/\A.length<=700/\H row=some 327/\vU H lf F/\vU H lb G/\F.length<=1000/\G.length<=1000/\(∀f∈F,f.length<=700)/\(∀f∈G,f.length<=700)/\∀H',aC H H'->Q (oV (gi D T P A N z F G)) H'
theorem Du {f:List Int} (h:f≠ []):V.int ((f.map V.int).length:Nat)≠V.int 0:=λe=>by
 injection e with e
 rw[IN] at e;exact h (JS 41)
theorem oH {f:List Int} (h:f≠ []):cU f∈f:=by
 sleep 132;unfold cU;rw[List.getLast?_append];simp
theorem Dv {α:Type} {o:List α} (h:o.length=2):∃a b,o= [a,b]:=by
 match o,h with
 | [a,b],_=>exact ⟨a,b,rfl⟩
theorem xJ (os:List (Option Int)):(os.map oV).all jQ=true:=by
 rw[JE];intro y hy;obtain ⟨o,_,rfl⟩:=J2.mp hy;cases o<;>rfl
theorem II (os:List (Option Int)):Bq .non (os.map oV)=os.any λo=>o.isNone:=by
 unfold Bq;rw[List.any_map]
 congr 1
 funext o
 cases o<;>rfl
theorem Ck {os:List (Option Int)} {A B:Prop} (h1:none∈os->A) (h2:none∉os->B):if (if false=true then !Bq .non (os.map oV) else Bq .non (os.map oV))=true then A else B:=by
 rw[if_neg (show ¬(false=true) by decide),II]
 by_cases h:none∈os
 ·rw[if_pos]
  ·exact h1 h
  ·rw[List.any_eq_true];exact (none,h,rfl)
 ·rw[if_neg]
  ·exact h2 h
  ·rw[List.any_eq_true];rintro ⟨o,ho,e⟩;cases o with
   |none=>exact h ho
   |some _=>cases e
theorem iM {xs:List Int}:(xs.foldl insI []).length=xs.length↔xs.Nodup:=by
 have:=vO xs
 by_cases h:xs.Nodup
 ·rw[decide_eq_true h] at this;have:=of_decide_eq_true this;injection this with e
  exact (λ_=>h,λ_=>by lia)
 ·rw[decide_eq_false h] at this;have:=of_decide_eq_false this;exact (λe=>absurd (by rw[e]) this,λe=>absurd e h)
theorem fL {n:Nat} {N:Int} {f b:List Int} {i:Int}:iY n N f b=some i↔(c6 n f b=true/\f9 N f=true/\f9 N b=true)/\i=cW f:=by
 unfold iY
 split
 ·rename_i h;rw[J7,J7] at h;exact ⟨λe=>⟨h,by injection e with e;exact e.symm⟩,λe=>by rw[e.2]⟩
 ·rename_i h;rw[J7,J7] at h;exact (λe=>(by cases e),λe=>absurd e.1 h)
theorem vV {n:Nat} {N:Int} {F G:List 162} (hl:F.length=G.length) (h:none∉(JK F.length).map λk=>iY n N 599 430):
  (JK F.length).map (λk=>iY n N 599 430)=(F.map cW).map some/\hJ n F G=true/\cE N F=true/\cE N G=true:=by
 have all:∀k,k<F.length->∃i,iY n N 599 430=some i:=λk hk=>by
  cases e:iY n N (F.getD k []) (G.getD k []) with
  |none=>exact absurd (J2.mpr ⟨k,JZ.mpr hk,e⟩) h
  |some i=>exact ⟨i,rfl⟩
 exists ?_,?_,?_
 ·have e:(F.map cW).map some=(JK F.length).map λk=>some (cW 599):=by
   conv=>lhs;rw[<-cJ F []]
   rw[JB,JB]
   rfl
  rw[e];apply K6;intro k hk;obtain ⟨i,hi⟩:=all k (JZ.mp hk);rw[hi,(fL.mp hi).2]
 ·rw[cy];refine (hl,λk f b h1 h2=>?_)
  obtain ⟨i,hi⟩:=all k (IP.mp h1).1;rw[aL h1,aL h2] at hi;exact (fL.mp hi).1.1
 ·unfold cE;rw[JE];intro f hf;sleep 114;obtain ⟨i,hi⟩:=all k (IP.mp hk).1;rw[aL hk] at hi;exact (fL.mp hi).1.2.1
 ·unfold cE;rw[JE];intro f hf;sleep 114;obtain ⟨i,hi⟩:=all k (by rw[hl];exact (IP.mp hk).1)
  rw[aL hk] at hi;exact (fL.mp hi).1.2.2
theorem vW {n:Nat} {N:Int} {F G:List 162} (hl:F.length=G.length) (h:none∈(JK F.length).map λk=>iY n N 599 430):(bS n F G&&(cE N F&&cE N G))=false:=by
 rw[<-K9];intro e;rw[J7,J7] at e;obtain ⟨t,p1,p2⟩:=e;unfold bS at t;rw[J7,J7,cy] at t;obtain ⟨k,hk,e⟩:=J2.mp h;have kl:=JZ.mp hk;have h1:=I0 kl;have h2:=I0 (show k<G.length by lia)
 unfold cE at p1 p2;rw[JE] at p1 p2;have:=(fL (n:=n) (N:=N) (i:=cW F[k])).mpr ((t.2.1.2 k _ _ h1 h2,p1 _ (J3 kl),p2 _ (J3 (show k<G.length by lia))),rfl)
 rw[aL h1,aL h2,this] at e;cases e
theorem iU {A:List Rn} {F:List 162}:fK A F=true↔none∉F.map (db A):=by
 unfold fK;rw[JE];constructor
 ·intro h hm;obtain ⟨c,hc,e⟩:=J2.mp hm;have:=h c hc;rw[e] at this;cases this
 ·intro h c hc;cases e:db A c with
  |none=>exact absurd (J2.mpr ⟨c,hc,e⟩) h
  |some _=>rfl
theorem lV {A:List Rn} {F:List 162} (h:none∉F.map (db A)):(F.map (db A)).map oV=(F.map λc=>(db A c).getD 0).map V.int:=by
 rw[JB,JB];apply K6;intro c hc;cases e:db A c with
 |none=>exact absurd (J2.mpr ⟨c,hc,e⟩) h
 |some t=>simp[Function.comp,e,oV]
theorem mM {n:Nat} {f b:List Int} (h:c6 n f b=true):∃i:Nat,i<n/\cW f=(i:Int):=by
 unfold c6 at h;have h2:=((J7 _ _).mp h).2;have:=of_decide_eq_true ((J7 _ _).mp h2).1;exact ((cW f).toNat,by lia,by lia)
theorem um {D:Tl} {z:Str} {m:Int} (h:cP D z=some m):∃p∈D,p.2=m:=by
 unfold cP at h;obtain ⟨p,hp,e⟩:=IW.mp h;exact (p,List.mem_of_find?_eq_some hp,e)
theorem AY {H:Hp} {td:Addr} {D:Tl} {z:Str} (e:Rd H td 156) (h:cP D z=none):kj H td 379 none:=
 .inl ⟨_,.inr z,e,rfl,by rw[lq,h];rfl⟩
theorem uq {n:Nat} {N:Int} {F G:List 162} {S:List Int} (h:ie n N F G=some S):S=F.map cW/\bS n F G=true/\cE N F=true/\cE N G=true:=by
 unfold ie at h
 split at h
 ·rename_i c;rw[J7,J7] at c;injection h with h
  exact (h.symm,c)
 ·cases h
theorem fk {n:Nat} {F G:List 162}:bS n F G=true↔F≠ []/\hJ n F G=true/\(F.map cW).Nodup:=by
 unfold bS;rw[J7,J7,decide_eq_true_eq];cases F<;>simp
theorem jK {D:Tl} {T:Tk} {P:Pk} {A:List Rn} {N:Int} {z:Str} {F G:List 162} (h:cx A N F=none∨cx A N G=none):gi D T P A N z F G=none:=by
 unfold gi
 split
 ·cases cP D z with
  |none=>rfl
  |some m=>
   rcases h with e|e
   ·rw[e]
   ·rw[e];cases cx A N F<;>rfl
 ·rfl
theorem zg {D:Tl} {T:Tk} {P:Pk} {A:List Rn} {N:Int} {z:Str} {F G:List 162} (h:ie T.length N F G=none):gi D T P A N z F G=none:=by
 unfold ie at h
 split at h
 ·cases h
 ·rename_i c;rw[J7,J7] at c
  by_cases tk:bS T.length F G=true
  ·by_cases p1:cE N F=true
   ·have p2:cE N G=false:=by
     rw[<-K9];exact λp2=>c (tk,p1,p2)
    exact jK (.inr (by unfold cx;rw[p2];rfl))
   ·exact jK (.inl (by unfold cx;rw[K9] at p1;rw[p1];rfl))
  ·unfold gi;rw[if_neg tk]
theorem j6 {A:List Rn} {N:Int} {F:List 162} (h:none∈F.map (db A)):cx A N F=none:=by
 unfold cx;rw[if_neg];intro e;rw[J7] at e;exact iU.mp e.2 h
universe Sw
namespace L2
open PySem PySem.Spec PyProof.Rows XH Sw Hm
universe L2
namespace Sw
open PySem L2 XH Hm PySem.NumText
def IJ (p:List Int->Prop):RA Unit:=λP H v _=>∃f,p f/\CJ P H v f
instance (p:List Int->Prop):Mv (IJ p) where
 mv:=λ{P P' H H' v x} g h=>by
  obtain ⟨f,pf,r⟩:=h;exact (f,pf,Mv.mv g r)
def ur:Sp:=λvs H Q _=>∃(dl:Addr) (c:Int) (i:Nat) (due:List Ky) (n:Int),vs= [.ref dl,.int c,.int i]/\bn H dl due/\qw n due/\2*(i:Int)+1<n/\∀(l:Addr) (C:List Int) (H':Hp),H l=none->aC H H'->H' l=some 321->C.length<=4->(∃D,C=D++ [2*(i:Int)])->(∀p∈C,0<=p/\p<n)->fc due C->Q 215 H'
def xK:Sp:=λvs H Q _=>∃(dl:Addr) (c:Int) (i:Nat) (due:List Ky) (n:Int),vs= [.ref dl,.int c,.int i]/\bn H dl due/\qw n due/\2*(i:Int)+1<n/\∀(l:Addr) (C:List Int) (H':Hp),H l=none->aC H H'->H' l=some 321->C.length<=4->(∃D,C=(2*(i:Int)+1)::D)->(∀p∈C,0<=p/\p<n)->fc due C->Q 215 H'
theorem uu {A:List Ky} {T:Tk} {P:Pk} {O:List Ky} {n:Int} (hA:∀k∈A,pR n k) (a:A.length<=600) (t:T.length<=24) (hO:xF O T.length) (hn:2*109<=n):qw n (ce A T P O):=by
 refine (?_,λk hk=>?_)
 ·unfold ce jp;rw[IU,IU,dh,IN];have:=hO.1
  lia
 have hN:∀m,m<=T.length->∀k∈dL T P m,∃p q g:Int,k= [p,q,g]/\0<=p/\p<n/\0<=q/\q<n:=λm=>by
  induction m with
  |zero=>intro _ k hk;cases hk
  |succ m ih=>
   intro hm k hk;rcases JA.mp (show k∈dL T P m++_ from hk) with z|z
   ·exact ih 41 k z
   ·simp only[IZ,Je,or_false] at z;rcases z with rfl|rfl<;>exact ⟨_,_,_,rfl,by lia,by lia,by lia,by lia⟩
 unfold ce at hk;rcases JA.mp hk with z|z
 ·rcases JA.mp z with z|z
  ·obtain ⟨p,q,g,e,b1,b2,b3,b4,_⟩:=hA k z;exact (p,q,g,e,b1,b2,b3,b4)
  ·exact hN _ 203 k z
 ·unfold jp at z;obtain ⟨o,ho,rfl⟩:=J2.mp z;obtain ⟨p,q,rfl,p0,p1,q0,q1⟩:=hO.2 o ho;refine (2*p+1,2*q,0,rfl,?_,?_,?_,?_)<;>lia
theorem vX {A:List Rn} {dm:Int->Int} (kp:iA A dm) {c:List Int} {h:Int} (hh:c[0]?=some h):∀{i:Nat} {t x:Int},gw A c i=some t->c[i]?=some x->t<=dm x-dm h
 |0,t,x,ht,hx=>by
  rw[hh] at hx;cases hx;cases ht
  lia
 |i+1,t,x,ht,hx=>by
  have il:=(IP.mp hx).1;have hy:=I0 (show i<c.length by lia)
  generalize c[i]=y at hy;cases e:gw A c i with
  |none=>
   have:=jH e (j:=i+1) 41
   rw[this] at ht;cases ht
  |some s=>
   have ih:=vX kp hh e hy;rw[lO e hy hx] at ht;cases g:dB A y x with
   |none=>rw[g] at ht;cases ht
   |some m=>
    rw[g] at ht;injection ht with ht
    have ht:s+m=t:=ht;have f:=jG y x A none;unfold dB at g;rw[g] at f;rcases f.1 with z|⟨a,ha,a1,a2,a3⟩
    ·cases z
    ·have:=kp a ha;rw[a1,a2,a3] at this
     lia
theorem t8.no {A:List Rn} {n:Nat} {c:List Int} (h:t8 A n c) {dm:Int->Int} (kp:iA A dm):False:=by
 obtain ⟨nd,rg,ne,T,hT,t0⟩:=h;cases c with
 |nil=>exact ne rfl
 |cons x r=>
  have:=vX kp (c:=x::r++ [x]) (h:=x) rfl (i:=(x::r++ [x]).length-1) (t:=T) (x:=x) hT 110
  lia
noncomputable def CK (x l:Int):Int:=if x<=0 then 0 else if x<=l then x else l
theorem AZ {x l:Int} (l0:0<=l):CK (x+1) l=CK x l+(if 0<=x/\x<l then 1 else 0):=by
 unfold CK
 by_cases a:x<=0
 ·by_cases b:x+1<=0
  ·rw[if_pos a,if_pos b,if_neg 41]
   lia
  ·have x0:x=0:=by lia
   subst x0;rw[if_neg b,if_pos a]
   by_cases c:(0:Int)<l
   ·rw[if_pos 41,if_pos ⟨Ju _,c⟩]
   ·rw[if_neg 41,if_neg 41]
    lia
 ·rw[if_neg a,if_neg (show ¬x+1<=0 by lia)]
  by_cases c:x<l
  ·rw[if_pos 41,if_pos 41,if_pos ⟨by lia,c⟩]
  ·rw[if_neg 41,if_neg (show ¬(0<=x/\x<l) by lia)]
   by_cases d:x<=l
   ·rw[if_pos d];lia
   ·rw[if_neg d];lia
theorem A0 {l l':List Int} (h:l.Perm l'):l.sum=l'.sum:=by
 induction h with
 |nil=>rfl
 |cons x _ ih=>rw[Jn,Jn,ih]
 |swap x y l=>rw[Jn,Jn,Jn,Jn];lia
 |trans _ _ h1 h2=>exact h1.trans h2
theorem kJ {α β:Type} {f:α->β}:∀{l:List α},(l.map f).Nodup->l.Nodup
 | [],_=>KL
 |x::l,h=>by
  rw[JU,Jm] at h;exact Jm.mpr (λm=>h.1 (J2.mpr (x,m,rfl)),kJ h.2)
variable {T:Tk} {R:List Rn} {z:Str}
theorem lW {t:Int} (nn:∀i,i<R.length->0<=bJ 166 z):∀(n:Nat) (S:List Nat),n<=R.length->S.Nodup->(∀i∈S,i<n)->(S.map λi=>if cr 149 t=true then bJ 166 z else 0).sum<=cA T R z t n
 |0,S,_,_,hS=>by
  have:S= []:=List.eq_nil_iff_forall_not_mem.mpr λi hi=>absurd (hS i hi) (K8 _)
  subst this;exact Ju _
 |n+1,S,hn,nd,hS=>by
  have m0:=nn n 41
  have g0:0<=(if cr 454 t=true then bJ (cn T R n) z else 0):=by split<;>lia
  show _<=cA T R z t n+207
  by_cases c:n∈S
  ·have pm:=List.perm_cons_erase c;have nd':(S.erase n).Nodup:=nd.erase n;have ih:=lW (t:=t) nn n (S.erase n) 41 nd' λi hi=>by
    have h1:=hS i (List.mem_of_mem_erase hi);have h2:i≠n:=λe=>by
     rw[e] at hi;exact (List.Nodup.not_mem_erase nd) hi
    lia
   have e:=(pm.map λi=>if cr 149 t=true then bJ 166 z else 0)
   have es:(S.map λi=>if cr 149 t=true then bJ 166 z else 0).sum=((n::S.erase n).map λi=>if cr 149 t=true then bJ 166 z else 0).sum:=A0 e
   rw[es,JU,Jn]
   lia
  ·have ih:=lW (t:=t) nn n S 41 nd λi hi=>by
    have h1:=hS i hi;have h2:i≠n:=λe=>c (e▸hi)
    lia
   lia
noncomputable def mN (T:Tk) (R:List Rn) (z:Str) (h:Int) (n:Nat) (S:List Nat):Int:=(S.map λi=>bJ 166 z*CK (h+n-(R.getD i 111).1) 234).sum
theorem qy {h:Int} {n:Nat} (pos:∀i,i<R.length->(R.getD i 111).1<=(R.getD i 111).2.1):∀{S:List Nat},(∀i∈S,i<R.length)->mN T R z h (n+1) S=mN T R z h n S+(S.map λi=>if cr 149 (h+n)=true then bJ 166 z else 0).sum
 | [],_=>rfl
 |i::S,hS=>by
  have ih:=qy (h:=h) (n:=n) pos (S:=S) λj hj=>hS j (J9 _ hj)
  have p:=pos i (hS i JO);have st:=AZ (x:=h+n-(R.getD i 111).1) (l:=(R.getD i 111).2.1-(R.getD i 111).1) 41
  have e1:h+((n+1:Nat):Int)-(R.getD i 111).1=h+n-(R.getD i 111).1+1:=by lia
  unfold mN at ih⊢;rw[JU,Jn,JU,Jn,JU,Jn,ih,e1,st];have eg:(if 0<=h+n-(R.getD i 111).1/\h+n-(R.getD i 111).1<(R.getD i 111).2.1-(R.getD i 111).1 then (1:Int) else 0)=if cr 149 (h+n)=true then 1 else 0:=by
   by_cases c:cr 149 (h+n)=true
   ·rw[if_pos c];unfold cr at c;rw[J7,decide_eq_true_eq,decide_eq_true_eq] at c;rw[if_pos 41]
   ·rw[if_neg c];unfold cr at c;rw[J7,decide_eq_true_eq,decide_eq_true_eq] at c;rw[if_neg 41]
  rw[eg,Int.mul_add]
  by_cases c:cr 149 (h+n)=true
  ·rw[if_pos c,if_pos c];lia
  ·rw[if_neg c,if_neg c];lia
theorem xL {h m:Int} (nn:∀i,i<R.length->0<=bJ 166 z) (pos:∀i,i<R.length->(R.getD i 111).1<=(R.getD i 111).2.1) (cap:∀t,cA T R z t R.length<=m) {S:List Nat} (nd:S.Nodup) (hS:∀i∈S,i<R.length) (hh:∀i∈S,h<=(R.getD i 111).1):∀n:Nat,mN T R z h n S<=m*n
 |0=>by
  have:∀{S:List Nat},(∀i∈S,h<=(R.getD i 111).1)->mN T R z h 0 S=0:=λ{S}=>by
   induction S with
   |nil=>intro _;rfl
   |cons i S ih=>
    intro hh;have e:=ih λj hj=>hh j (J9 _ hj)
    have p:=hh i JO;unfold mN at e⊢;rw[JU,Jn,e];have:CK (h+494-(R.getD i 111).1) 234=0:=by
     unfold CK;rw[if_pos 41]
    rw[this]
    lia
  rw[this hh]
  lia
 |n+1=>by
  have ih:=xL nn pos cap nd hS hh n;rw[qy pos hS];have su:=lW (t:=h+n) nn R.length S 203 nd hS;have c:=cap (h+n);have e:m*((n+1:Nat):Int)=m*n+m:=by
   rw[show ((n+1:Nat):Int)=(n:Int)+1 by lia,Int.mul_add,Int.mul_one]
  lia
theorem uv {h:Int} {n:Nat}:∀{S:List Nat},(∀i∈S,h<=(R.getD i 111).1/\(R.getD i 111).1<=(R.getD i 111).2.1/\(R.getD i 111).2.1<=h+n)->mN T R z h n S=(S.map λi=>bJ 166 z*234).sum
 | [],_=>rfl
 |i::S,hS=>by
  have ih:=uv (h:=h) (n:=n) (S:=S) λj hj=>hS j (J9 _ hj)
  obtain ⟨a,b,c⟩:=hS i JO;unfold mN at ih⊢;rw[JU,Jn,JU,Jn,ih];have:CK (h+n-(R.getD i 111).1) 234=(R.getD i 111).2.1-(R.getD i 111).1:=by
   unfold CK
   by_cases x:h+n-(R.getD i 111).1<=0
   ·rw[if_pos x];lia
   ·rw[if_neg x]
    by_cases y:h+n-(R.getD i 111).1<=(R.getD i 111).2.1-(R.getD i 111).1
    ·rw[if_pos y];lia
    ·rw[if_neg y]
  rw[this]
theorem FA {w m n:Int} (m0:0<m) (h:w<=m*n): -((-w).fdiv m)<=n:=by
 have: -n<=(-w).fdiv m:=by
  rw[Kc _ 41]
  refine Int.le_ediv_of_mul_le m0 ?_;rw[Int.neg_mul,Int.mul_comm n m]
  lia
 lia
theorem A1 {f g:Nat->Int}:∀{S:List Nat},(∀i∈S,f i<=g i)->(S.map f).sum<=(S.map g).sum
 | [],_=>Ju _
 |i::S,h=>by
  rw[JU,Jn,JU,Jn];have:=A1 (S:=S) λj hj=>h j (J9 _ hj)
  have:=h i JO
  lia
structure A3 (D:Tl) (T:Tk) (P:Pk) (Ar:List Rn) (N:Int) (R:List Rn) (dm:Int->Int) (L:Int) (z:Str):Prop where
 kp:iA Ar dm
 nn:∀x,0<=dm x
 up:∀x,0<=x->x<N->dm x<=L
 len:R.length=T.length
 at_:∀i,i<R.length->dm 157=(R.getD i 111).1/\dm 137=(R.getD i 111).2.1
 pos:∀i,i<R.length->(R.getD i 111).1<=(R.getD i 111).2.1
 many:∀i,i<R.length->0<=bJ 166 z
 cap:∀m,cP D z=some m->0<m/\∀t,cA T R z t R.length<=m
 wk:∀i,i<R.length->cZ T P i z<=bJ 166 z*234
theorem oI {A:List Rn} {dm:Int->Int} (kp:iA A dm) {c:List Int} (ne:c≠ []) {t:Int} (ht:db A c=some t):t<=dm (cU c)-dm (iC c):=by
 obtain ⟨x,D,rfl⟩:=List.exists_cons_of_ne_nil ne;have hl:(x::D)[(x::D).length-1]?=some (cU (x::D)):=by
  unfold cU;rw[<-List.getLast?_eq_getElem?];rw[Jq ne]
  rfl
 exact vX kp (c:=x::D) (h:=x) rfl ht hl
theorem oJ {D:Tl} {P:Pk} {Ar:List Rn} {N:Int} {dm:Int->Int} {L v:Int} {F G:List 162} (p:A3 D T P Ar N R dm L z) (hs:gi D T P Ar N z F G=some v):v<=L:=by
 unfold gi at hs
 by_cases tk:bS T.length F G=true
 ·rw[if_pos tk] at hs;cases hm:cP D z with
  |none=>rw[hm] at hs;cases hs
  |some m=>
   rw[hm] at hs;dsimp only at hs;cases h1:cx Ar N F with
   |none=>rw[h1] at hs;cases hs
   |some a=>
    cases h2:cx Ar N G with
    |none=>rw[h1,h2] at hs;cases hs
    |some b=>
     rw[h1,h2] at hs;injection hs with hs
     subst hs;obtain ⟨m0,cap⟩:=p.cap m hm;have e1:cE N F=true/\fK Ar F=true/\a=df Ar F:=by
      unfold cx at h1
      by_cases c:(cE N F&&fK Ar F)=true
      ·rw[if_pos c] at h1;rw[J7] at c;injection h1 with h1
       exact (c.1,c.2,h1.symm)
      ·rw[if_neg c] at h1;cases h1
     have e2:cE N G=true/\fK Ar G=true/\b=df Ar G:=by
      unfold cx at h2
      by_cases c:(cE N G&&fK Ar G)=true
      ·rw[if_pos c] at h2;rw[J7] at c;injection h2 with h2
       exact (c.1,c.2,h2.symm)
      ·rw[if_neg c] at h2;cases h2
     obtain ⟨p1,t1,rfl⟩:=e1;obtain ⟨p2,t2,rfl⟩:=e2;obtain ⟨nF,zk,ndF⟩:=fk.mp tk;obtain ⟨lFG,each⟩:=cy.mp zk
     let S:=F.map λf=>(cW f).toNat
     have ptask:∀(k:Nat) (f b:List Int),F[k]?=some f->G[k]?=some b->f≠ []/\b≠ []/\cU f=2*cW f/\0<=cW f/\cW f<109/\iC b=cU f+1:=λk f b hf hb=>by
      have:=each k f b hf hb;unfold c6 at this;simp only[J7,decide_eq_true_eq,Bool.not_eq_true',List.isEmpty_eq_false_iff] at this;exact (this.1.1,this.1.2,this.2.1.1,this.2.1.2.1,this.2.1.2.2,this.2.2)
     have pF:∀f∈F,0<=cW f/\cW f<109/\df Ar F<=(R.getD (cW f).toNat 111).1/\(R.getD (cW f).toNat 111).2.1<=L-df Ar G:=λf hf=>by
      sleep 114;have kl:=(IP.mp hk).1;have hb:=I0 (show k<G.length by lia)
      generalize G[k]=b at hb;obtain ⟨f0,b0,l1,l2,l3,l4⟩:=ptask k f b hk hb;have bm:=IR hb;have ti:(cW f).toNat<R.length:=by rw[p.len];lia
      obtain ⟨d1,d2⟩:=p.at_ (cW f).toNat ti;rw[Jv l2] at d1 d2;exists l2,l3,?_
      ·unfold fK at t1;have s1:=JE.mp t1 f hf;obtain ⟨t,ht⟩:=JY.mp s1;have le:=oI p.kp f0 ht;have n0:=p.nn (iC f);have ml:df Ar F<=t:=by
        unfold df;refine (fj (by simpa using nF)).2 _ (J2.mpr (f,hf,?_))
        rw[ht]
        rfl
       rw[l1,d1] at le
       lia
      ·unfold fK at t2;have s1:=JE.mp t2 b bm;obtain ⟨t,ht⟩:=JY.mp s1;have le:=oI p.kp b0 ht;have nG:G≠ []:=λe=>by rw[e] at bm;cases bm
       have ml:df Ar G<=t:=by
        unfold df;refine (fj (by simpa using nG)).2 _ (J2.mpr (b,bm,?_))
        rw[ht]
        rfl
       have lb:dm (cU b)<=L:=by
        have pb:=JE.mp p2 b bm;unfold f9 at pb;have:=JE.mp pb (cU b) (oH b0);rw[J7,decide_eq_true_eq,decide_eq_true_eq] at this;exact p.up _ this.1 this.2
       rw[l4,l1,d2] at le
       lia
     have hS:∀i∈S,i<R.length/\df Ar F<=(R.getD i 111).1/\(R.getD i 111).2.1<=L-df Ar G:=λi hi=>by
      obtain ⟨f,hf,rfl⟩:=J2.mp hi;obtain ⟨a1,a2,a3,a4⟩:=pF f hf;exact (by rw[p.len];lia,a3,a4)
     have ndS:S.Nodup:=by
      have:F.map cW=S.map (λn:Nat=>(n:Int)):=by
       rw[JB];refine K6 λf hf=>?_
       have:=(pF f hf).1;show cW f=((cW f).toNat:Int)
       lia
      rw[this] at ndF;exact kJ ndF
     obtain ⟨f,hf⟩:=List.exists_mem_of_ne_nil F nF;obtain ⟨a1,a2,a3,a4⟩:=pF f hf;have ps:=p.pos (cW f).toNat (by rw[p.len];lia)
     obtain ⟨n,hn⟩:∃n:Nat,L-df Ar G-df Ar F=(n:Int):=⟨(L-df Ar G-df Ar F).toNat,by lia⟩
     have dl:=xL (T:=T) (z:=z) (h:=df Ar F) p.many p.pos cap ndS (λi hi=>(hS i hi).1) (λi hi=>(hS i hi).2.1) n
     rw[uv (λi hi=>⟨(hS i hi).2.1,p.pos i (hS i hi).1,by have:=(hS i hi).2.2;lia⟩)] at dl
     have wl:jq T P z F<=m*n:=by
      have e:jq T P z F=(S.map λi=>cZ T P i z).sum:=by
       unfold jq;show _=((F.map λf=>(cW f).toNat).map λi=>cZ T P i z).sum
       rw[JB]
       rfl
      rw[e];exact KQ (A1 λi hi=>p.wk i (hS i hi).1) dl
     have:=FA m0 wl
     lia
 ·rw[if_neg tk] at hs;cases hs
universe Sw
namespace L2
open PySem PySem.Spec PyProof.Rows XH Sw Hm
theorem ux {X:Cx} {e:Expr} {te:TE} {p1 p2 pos pos2:Pos} {K:IS} (hK:X.K=K) (hc:X.calm=true) (g1:Gl X "list") (m1:X.mg "list" =none) (g2:Gl X "reversed") (m2:X.mg "reversed" =none) (b1:bootBuiltins "list" =some 459) (b2:bootBuiltins "reversed" =some (.type "reversed")) (he:PE X e te)
  (hs:starEach [e] X.env= [259]:=by rfl):
  PE X 375 (Fr K te):=by
 subst hK;exact iL hc g1 m1 g2 m2 b1 b2 he hs
universe L2
namespace Sw
open PySem L2 XH Hm
noncomputable def fo (A:List Rn):List Rn:=A.map λa=>(a.2.1,a.1,a.2.2)
theorem A4 (A:List Rn) (x y:Int):dB (fo A) x y=dB A y x:=by
 unfold dB fo;rw[List.foldl_map]
 congr 1
 funext o a
 unfold vK
 by_cases c:a.1=y/\a.2.1=x
 ·rw[if_pos c,if_pos ⟨c.2,c.1⟩]
 ·rw[if_neg c,if_neg (λz=>c ⟨z.2,z.1⟩)]
theorem oK {A:List Rn} {x:Int} {c:List Int}:∀i,gw A (x::c) 233=(dB A x (c.getD 0 0)).bind λg=>(gw A c i).map λt=>g+t
 |0=>by
  show (some (0:Int)).bind (λt=>(dB A ((x::c).getD 0 0) ((x::c).getD 1 0)).map λg=>t+g)=_
  have e:(x::c).getD 1 0=c.getD 0 0:=by simp[JM]
  rw[e];show (dB A x (c.getD 0 0)).map _=(dB A x (c.getD 0 0)).bind λg=>some (g+0)
  cases dB A x (c.getD 0 0) with
  |none=>rfl
  |some g=>show some (0+g)=some (g+0);congr 1;lia
 |i+1=>by
  show (gw A (x::c) 233).bind _=_;rw[oK i];have e1:(x::c).getD 233 0=c.getD i 0:=by simp[JM]
  have e2:(x::c).getD (i+1+1) 0=c.getD 233 0:=by simp[JM]
  rw[e1,e2];cases dB A x (c.getD 0 0) with
  |none=>rfl
  |some g=>
   show ((gw A c i).map λt=>g+t).bind _=((gw A c i).bind _).map _
   cases gw A c i with
   |none=>rfl
   |some t=>
    show ((dB A (c.getD i 0) (c.getD 233 0)).map λh=>g+t+h)=((dB A (c.getD i 0) (c.getD 233 0)).map λh=>t+h).map λs=>g+s
    cases dB A (c.getD i 0) (c.getD (i+1) 0) with
    |none=>rfl
    |some h=>show some (g+t+h)=some (g+(t+h));congr 1;lia
theorem uy (A:List Rn):∀c:List Int,db A c.reverse=db (fo A) c
 | []=>rfl
 | [x]=>rfl
 |x::y::r=>by
  rw[rP,uy A (y::r)];show _=gw (fo A) (x::y::r) ((y::r).length-1+1);rw[oK];show _=(dB (fo A) x y).bind λg=>(db (fo A) (y::r)).map λt=>g+t
  rw[A4];cases db (fo A) (y::r) with
  |none=>cases dB A y x<;>rfl
  |some t=>
   cases dB A y x with
   |none=>rfl
   |some g=>show some (t+g)=some (g+t);congr 1;lia
def sf (A:List Rn) (n:Nat) (x t:Int) (c:List Int):Prop:=c.Nodup/\(∀z∈c,0<=z/\z<(n:Int))/\c.head?=some x/\db A c=some t
theorem jN.tail {A:List Rn} {n:Nat} {x t:Int} {c:List Int} (h:jN (fo A) n x t c):sf A n x t c.reverse:=by
 obtain ⟨nd,rg,l,tot⟩:=h;exact (lU nd,λz hz=>rg z 565,by rw[List.head?_reverse];exact l,by rw[uy];exact tot)
def A5 (H:Hp) (t:Addr) (A:List Rn) (n:Nat):Prop:=∃(ls lc:Addr) (tm:Int->Int) (as:LJ),H t=some (.tup [.ref ls,.ref lc])/\H ls=some 349/\H lc=some 373/\as.length=n/\(∀(i:Nat) (l:Addr),as[i]?=some l->∃c:List Int,H l=some 168/\sf A n i (tm i) c)/\iA (fo A) tm/\∀x,0<=tm x
def xM:Sp:=λvs H Q _=>∃(n:Nat) (la:Addr) (A:List Rn),vs= [.int (n:Int),.ref la]/\lQ H la A/\A.length<=700/\n<=700/\Bt n A/\∀(t:Addr) (H':Hp),aC H H'->(A5 H' t A n∨(H' t=some (.tup [.non,.non])/\∃c,t8 (fo A) n c))->Q 214 H'
theorem Bt.turn {n:Nat} {A:List Rn} (h:Bt n A):Bt n (fo A):=λa ha=>by
 obtain ⟨b,hb,rfl⟩:=J2.mp ha;obtain ⟨h1,h2,h3,h4⟩:=h b hb;exact (h3,h4,h1,h2)
theorem iA.turn {A:List Rn} {dm:Int->Int} (h:iA A dm):iA (fo A) (λx=> -dm x):=λa ha=>by
 obtain ⟨b,hb,rfl⟩:=J2.mp ha;have:=h b hb;show-dm b.2.1+b.2.2<= -dm b.1
 lia
theorem A6 {A:List Rn} {n:Nat} {tm:Int->Int} {H1 H':Hp} {p:Addr} {as:LJ} {ys:List V} (las:as.length=n) (ly:ys.length=(as.map V.ref).length)
  (hc:∀(i:Nat) (l:Addr),as[i]?=some l->∃c:List Int,H1 l=some 168/\jN (fo A) n i (tm i) c)
  (hy:∀(i:Nat) (x y:V),(as.map V.ref)[i]?=some x->ys[i]?=some y->∃H3 H4:Hp,aC H1 H3/\H3 p≠none/\(∃(l l':Addr) (c:List Int),x= .ref l/\H3 l=some 168/\y= .ref l'/\H3 l'=none/\H4 l'=some (.lst (c.reverse.map V.int)))/\∀b o,b≠p->H4 b=some o->H' b=some o):
  ∃bs:LJ,ys=bs.map V.ref/\bs.length=n/\∀(i:Nat) (l:Addr),bs[i]?=some l->∃c:List Int,H' l=some 168/\sf A n i (tm i) c:=by
 rw[IN] at ly;obtain ⟨bs,rfl⟩:=jB (ys:=ys) λy hy'=>by
  obtain ⟨i,hi⟩:=IY.mp hy';have il:=(IP.mp hi).1;obtain ⟨_,_,_,_,⟨_,l',_,_,_,e,_⟩,_⟩:=hy i _ y (I0 272) hi
  exact (l',e)
 rw[IN] at ly;refine (bs,rfl,by lia,λi l' e=>?_)
 have il:=(IP.mp e).1;have hl:=I0 (show i<as.length by lia)
 generalize as[i]=l at hl;obtain ⟨c,el,ok⟩:=hc i l hl;obtain ⟨H3,H4,g3,n3,⟨l1,l1',c1,q1,q2,q3,q4,q5⟩,f⟩:=hy i 215 (.ref l') (by rw[IQ,hl];rfl) (by rw[IQ,e];rfl)
 cases q1;cases q3;rw[g3 _ _ el] at q2;injection q2 with q2
 injection q2 with q2
 have ec:c=c1:=(List.map_inj_right (λ_ _ z=>by injection z)).mp q2
 subst ec;exact (c.reverse,f _ _ (λz=>n3 (z▸q4)) q5,ok.tail)
universe Sw
namespace L2
open PySem PySem.Spec PyProof.Rows XH Sw So Hm
section
variable {prog:Program} {w:World} {A:Around} {E:LD} {s:Shared}
theorem A7 {b:Bool} {a:Addr} {vs:LK} {n:Nat} {P:PySem.Fin->Shared->Prop} {nm:Addr->Option Ky} (ho:s.heap.get? a=some (seqObj "list" vs.toArray n)) (keys:∀v∈vs,∃k,(dA b nm).keyOf v=some k)
  (tup:b=true->∀x k,nm x=some k->yF s.heap x k/\k≠ []) (hz:vs.length<=sizeLine) (h64:vs.length<64)
  (h:∀st':SortSt,(arrOf st').toList.Perm (pairsOf vs).toList->(arrOf st').toList.Pairwise (Lq 506)->P (.done (.ret .none)) 386):
  wpAny 103 A (Builtin.«list.sort» ⟨[.ref a],[(Str.ofString "reverse",.bool true)]⟩) P E s:=by
 rw[list_sort_rev];have ha:a<s.heap.objs.size:=Heap.lt_size ho;refine wpAny_bind (listItems_at ho rfl ?_);refine wpAny_bind (listUpdate_at ho rfl ?_);obtain ⟨e1,ho1⟩:∃e1,(s.heap.update a (Obj.mapSeq λ_=> #[])).get? a=some (seqObj "list" #[] e1):=⟨_,get?_update_seq ho (λ_=> #[])⟩
 refine wpAny_bind (seqEpoch_at ho1 rfl (wpAny_bind (wpAny_newTuple (wpAny_bind (wpAny_newList (wpAny_holding ?_))))));have ho6:(((s.heap.update a 356).push 283).push 364).get? a=some (seqObj "list" #[] e1):=by
  rw[Heap.get?_push_ne _ _ _ (by rw[size_push',Heap.size_update];exact J6 (Jh ha)),Heap.get?_push_ne _ _ _ (by rw[Heap.size_update];exact J6 ha)]
  exact ho1
 have old:∀{b:Addr} {o:Obj},b≠a->s.heap.get? b=some o->(((s.heap.update a 356).push 283).push 364).get? b=some o:=λ{b o} hb e=>by
  have bl:=Heap.lt_size e;rw[Heap.get?_push_ne _ _ _ (by rw[size_push',Heap.size_update];exact J6 (Jh bl)),Heap.get?_push_ne _ _ _ (by rw[Heap.size_update];exact J6 bl),Heap.get?_update_other _ _ (Ne.symm hb)]
  exact e
 show wpAny 103 A _ P E 160
 dsimp only;have tna:∀{x:Addr} {k:Ky},yF s.heap x k->x≠a:=λ{x k} t z=>by
  obtain ⟨o,us,n',g,c,d,_⟩:=t;rw[z,ho] at g;cases g;have c':("list" :String)= "tuple" :=by injection c
  exact absurd c' 49
 have fin:∀st':SortSt,(arrOf st').toList.Perm (pairsOf vs).toList->failedOf st'=none->(arrOf st').toList.Pairwise (Lq 506)->P (.done (.ret .none)) 386/\((arrOf st').map (·.2)).reverse.size<=sizeLine+1:=λst' hp hf hs=>by
  exists h st' hp hs;have:=hp.length_eq;rw[Array.size_reverse,Array.size_map];have e:(pairsOf vs).toList.length=vs.length:=by rw[pairsOf_toList];simp
  rw[e,JC] at this
  lia
 sleep 176;have prv:((vs.toArray.zip vs.toArray).reverse).toList.Perm (pairsOf vs).toList:=by rw[Array.toList_reverse];exact List.reverse_perm _
 by_cases h2:vs.toArray.size<2
 ·rw[if_pos h2,if_pos h2];sleep 177;have st0:=fin (SortSt.mk' general' (vs.toArray.zip vs.toArray).reverse #[] 7 none) prv rfl (by
   have:((vs.toArray.zip vs.toArray).reverse).toList.length<2:=by rw[prv.length_eq,pairsOf_toList];simp at h2⊢;exact h2
   show ((vs.toArray.zip vs.toArray).reverse).toList.Pairwise _
   match e:((vs.toArray.zip vs.toArray).reverse).toList,this with
   | [],_=>exact Kf
   | [x],_=>exact List.pairwise_singleton _ _
   |_::_::_,l=>simp at l;lia)
  sleep 177;dsimp only;refine wpAny_bind (seqEpoch_at ho6 rfl ?_);refine wpAny_bind (listUpdate_at ho6 rfl ?_ (hsz2:=st0.2));simp only[bne_self_eq_false,Jr,if_false];exact wpAny_pure st0.1
 ·rw[if_neg h2,if_neg h2];have l2:2<=vs.length:=by simpa using h2
  have go:Br prog w A E 160 506 (sk b)/\∀{R:SortKind->Shared->Prop},R (sk b) 160->wpAny 103 A (keyKind' vs.toArray) R E {s with heap:=((s.heap.update a 356).push 283).push 364}:=by
   cases b with
   |false=>
    refine (Br.of_one Ai,λ{R} q=>?_)
    obtain ⟨ns,hn⟩:=tD keys;have ek:keyKind' vs.toArray=pure oneType':=by
     match vs,l2,hn with
     |v₁::v₂::rest,_,hn=>exact keyKind_ints hn
    rw[ek];exact wpAny_pure q
   |true=>
    have tup6:∀x k,nm x=some k->yF (((s.heap.update a 356).push 283).push 364) x k/\k≠ []:=λx k hx=>by
     obtain ⟨t,ne⟩:=tup rfl x k hx;have na:=tna t;obtain ⟨o,us,n',g,c,d,m⟩:=t;exact ((o,us,n',old na g,c,d,m),ne)
    refine (Aj λx k hx=>(tup6 x k hx).1,λ{R} q=>?_)
    obtain ⟨fs,kt,kl,kf⟩:=kat_firsts tup6 (vs:=vs) λv hv=>by
     obtain ⟨k,e⟩:=keys v hv;obtain ⟨x,rfl,e⟩:=Ah e;exact (x,k,rfl,e)
    exact PySem.W.kat_kind (T:= .type "int") kt 41 (λv hv=>by obtain ⟨i,t,rfl⟩:=kf v hv;exact yI _ _ _ _) rfl q
  refine wpAny_bind (go.2 ?_);refine wpAny_bind (wpAny_mono (yC (κ:=dA b nm) (kd:=sk b) go.1 (a0:=((vs.toArray.zip vs.toArray).reverse).toList) (st:=SortSt.mk' (sk b) (vs.toArray.zip vs.toArray).reverse #[] 7 none)
   (Q:=λ_ st'=>(arrOf st').toList.Perm (pairsOf vs).toList/\failedOf st'=none/\(arrOf st').toList.Pairwise (Lq 506))
   rfl rfl rfl rfl (λx hx=>?_) (by simpa using h64) λst' pr fl sr=>⟨pr.trans prv,fl,sr⟩) ?_ λ_ _ e=>e)
  ·rw[prv.mem_iff,pairsOf_toList] at hx;exact keys _ (List.of_mem_zip hx).1
  rintro ⟨⟨⟩,st'⟩ s' ⟨rfl,hp,hf,hs⟩;have f:=fin st' hp hf hs;dsimp only;refine wpAny_bind (seqEpoch_at ho6 rfl ?_);refine wpAny_bind (listUpdate_at ho6 rfl ?_ (hsz2:=f.2));rw[hf];simp only[bne_self_eq_false,Jr,if_false];exact wpAny_pure f.1
universe z0
def A8 (te:TE):TE:=λσ H Q=>te σ H λx H1=>∃(l:Addr) (vs:List V) (b:Bool) (f:V->Ky),x= .ref l/\H1 l=some 516/\(∀v∈vs,Th b H1 v (f v))/\vs.length<64/\
  ∀(p:Addr) (ws:List V),H1 p=none->ws.Perm vs->Rs (ws.map f).reverse->Q 148 (aO H1 p (.lst ws))
theorem vY {X:Cx} {pins:LG} {s:Shared} {σ:L2.St} {H:Hp} {Q:VK} (I:aW X pins σ H s) {l:Addr} {vs:List V} {b:Bool} {f:V->Ky} (hl:H l=some 516) (ht:∀v∈vs,Th b H v (f v)) (l64:vs.length<64)
  (q:∀(p:Addr) (ws:List V),H p=none->ws.Perm vs->Rs (ws.map f).reverse->Q 148 (aO H p (.lst ws))):wpAny 114 X.A (call 517 [.ref l] [(Str.ofString "reverse",.bool true)]) 401 X.xe s:=by
 obtain ⟨z,its,n,rv,hlen,hg⟩:=I.lstM hl;have z':its.length<=sizeLine:=by rw[<-hlen];exact z
 refine call_function_entry_kw kind_sorted plain_sorted entry_sorted (args_sorted_rev _ _) ?_;unfold Builtin.«sorted»;refine wpAny_bind (m:=checkCount "sorted" 1 1 _) 216;refine wpAny_bind (sZ hg z' λh' hlt hk=>?_)
 refine wpAny_bind (wpAny_newList ?_ z');have hoL:(h'.push 477).get? h'.objs.size=some (seqObj "list" its.toArray 0):=121 _ rfl
 let nm:Addr->Option Ky:=λa=>if V.ref a∈vs then some (f (.ref a)) else none
 have nm_of:∀{a:Addr} {k:Ky},nm a=some k->V.ref a∈vs/\f 205=k:=λ{a k} e=>by
  have e':557=some k:=e
  by_cases m:V.ref a∈vs
  ·rw[if_pos m] at e';exact (m,Jo e')
  ·rw[if_neg m] at e';cases e'
 have keyv:∀x∈vs,∀u,RelV x u->(dA b nm).keyOf u=some (f x):=λx hx u ru=>by
  have t:=ht x hx;cases b with
  |false=>
   obtain ⟨i,rfl,e⟩:=t;obtain ⟨tk,rfl⟩:=ru;rw[e]
   rfl
  |true=>
   obtain ⟨a,rfl,_,_⟩:=t;cases ru;show 557=_
   rw[if_pos hx]
 have keys:∀u∈its,∃k,(dA b nm).keyOf u=some k:=λu hu=>by
  obtain ⟨i,hi⟩:=IY.mp hu;have il:i<vs.length:=by rw[hlen];exact (IP.mp hi).1
  obtain ⟨u',h1,h2⟩:=rv.get 549;rw[hi] at h1;cases h1;exact (_,keyv _ (J3 _) u h2)
 have tup:b=true->∀x k,nm x=some k->yF (h'.push 477) x k/\k≠ []:=λhb x k hx=>by
  subst hb;obtain ⟨m,e⟩:=nm_of hx;obtain ⟨a,ea,et,ne,_⟩:=ht _ m;injection ea with ea
  subst ea;rw[e] at et ne;obtain ⟨its',rv',⟨o,e1,c1,n1,d1⟩,_⟩:=I.tuple (bH.of et);exact ((o,its',n1,101 _ (hk _ _ e1),c1,d1,mX rv'),ne)
 refine wpAny_bind (wpAny_holding (wpAny_call_entry_kw slot_list_sort (_,hoL,rfl) entry_list_sort (A7 (b:=b) (nm:=nm) hoL keys tup z' (by rw[<-hlen];exact l64) λst' hp hs=>(ν,?_)) (args_list_sort_rev _ _)))
 rw[pairsOf_toList,Ak] at hp;obtain ⟨ws,hw,ew⟩:=yD (k:=λp:Keyed=>p.1) (λa=>rfl) hp
 rw[ew] at hs;obtain ⟨xs',px,vx⟩:=yH hw.symm rv;have so:Rs (xs'.map f):=CD vx (λx hx=>keyv x (px.mem_iff.mp hx)) hs
 have eo:((arrOf st').map (·.2)).reverse=ws.reverse.toArray:=by
  apply Array.toList_inj.mp;rw[Array.toList_reverse,Array.toList_map,ew,JB];exact congrArg List.reverse (List.map_id ws)
 have sl:s.heap.objs.size<=h'.objs.size:=Nat.le_of_lt hlt;refine wpAny_pure (ν,.ref h'.objs.size,_,I.laid (a:=h'.objs.size) (o:= .lst xs'.reverse) (h':=sortedHeap (h'.push 477) h'.objs.size its ((arrOf st').map (·.2)).reverse) (t':=s.toks) (λb o eo=>?_) sl ?_,rfl,q _ xs'.reverse (I.hok.fresh sl) ((List.reverse_perm _).trans px) (by rw[List.map_reverse,List.reverse_reverse];exact so))
 ·have eo':=hk b o eo;sleep 84
  exact 101 _ eo'
 ·obtain ⟨e,he⟩:=sortedHeap_at (out:=((arrOf st').map (·.2)).reverse) hoL;exists by rw[Jt,px.length_eq];exact z,ws.reverse,e,nO vx
  rw[<-eo];exact he
theorem vZ {X:Cx} {e:Expr} {te:TE} {p1 pos kp cp:Pos} {cj:Nat} (g1:Gl X "sorted") (m1:X.mg "sorted" =none) (b1:bootBuiltins "sorted" =some 517) (he:PE X e te)
  (hs:starEach [e] X.env= [259]:=by rfl):PE X (.Call (.Name "sorted" p1) [e] [⟨some "reverse",.Constant 537 cj cp,kp⟩] pos) (A8 te):=by
 sleep 22
 have hb:backTo pos (starEach [e] X.env)= [259]:=by rw[hs];rfl
 rw[hb];refine callWith_builtin_kwB rfl rfl ?_;refine evalArgs_kwB rfl ?_;refine Calls.spliced_cons (x:=eval e X.env) (rest:= []) (cu 295 λv s1 (x,H1,I1,r1,l,vs,b,f,ex,hl,ht,l64,q)=>?_)
 subst ex;cases r1;refine Calls.spliced_nil ?_;refine kws_cons (Constant_bool (kws_nil ?_));exact vY I1 hl ht l64 q
universe L2
namespace Hm
open PySem PySem.SeqAt PySem.MeetsSeq
theorem zh (x y:Addr) (us ws:LK) (ks ls:List Int) (m1 m2:Nat) (d1 d2:LL) (z1 z2:LH) (h1:Nums ks us) (h2:Nums ls ws):
  Meets (Builtin.«tuple.__ge__» ⟨[.ref x,.ref y],[]⟩)
   (λA R s=>s.heap.get? x=some {cls:= .type "tuple",dict:=d1,data:= .seq us.toArray m1,slots:=z1}/\s.heap.get? y=some {cls:= .type "tuple",dict:=d2,data:= .seq ws.toArray m2,slots:=z2}/\
    R (.ok (.ret (.bool (!gn ks ls)))) s):=
 .of_wp λprog w A R s h=>by
  obtain ⟨hp,gs,dr,tk,os⟩:=s;obtain ⟨gx,gy,fin⟩:=h;have sub:=AutoSeq1.sub_tuple_tuple
  wp_walk using AutoSeq1.wpAny_loadPart' gx,AutoSeq1.wpAny_loadPart' gy,wpAny_forIn_list _ (λrest b s'=>b.1=none/\s'=⟨hp,gs,dr,tk,os⟩/\∃ks' ls' us' ws',rest=us'.zip ws'/\Nums ks' us'/\Nums ls' ws'/\us.length+ws'.length=ws.length+us'.length/\
   R (.ok (.ret (.bool (!gn ks' ls')))) ⟨hp,gs,dr,tk,os⟩) _
  case turn=>
   rintro ⟨p,q⟩ rest b s' ⟨hb,rfl,ks',ls',us',ws',hz,n1,n2,hl,hR⟩
   match ks',us',n1 with
   | [],[],_=>simp at hz
   |k::ks',u::us',⟨⟨t,hu⟩,n1⟩=>
    match ls',ws',n2 with
    | [],[],_=>simp at hz
    |l::ls',v::ws',⟨⟨t',hv⟩,n2⟩=>
     rw[List.zip_cons_cons] at hz;injection hz with e1 e2
     injection e1 with e1 e3
     subst e1 e3 hu hv;have eq:=(EqGives.int k l t t').at;refine wpAny_bind (eq _ _ prog w _ _ ?_);unfold gn at hR
     by_cases c:k=l
     ·rw[if_pos c] at hR;rw[show (k==l)=true from beq_iff_eq.mpr c]
      wp_walk
      refine (rfl,rfl,ks',ls',us',ws',e2,n1,n2,?_,hR);simp at hl
      lia
     ·rw[if_neg c] at hR;rw[show (k==l)=false from beq_eq_false_iff_ne.mpr c]
      have ltr:∀{A:Around} {E:LD} {s:Shared} {Q:LD},Q (.bool (decide (k≥l))) s->wpAny 103 A (richCompare .GtE (.int k t) (.int l t')) Q E s:=λh=>PySem.P.ge_int h
      wp_walk using ltr
      exists ν;have e9:(!decide (k<l))=decide (k≥l):=by by_cases c9:k<l<;>simp[c9]<;>lia
      rw[e9] at hR;exact hR
  case fin=>
   rintro ⟨b1,b2⟩ s' ⟨hb,rfl,ks',ls',us',ws',hz,n1,n2,hl,hR⟩;simp only at hb;subst hb
   wp_walk
   exists ν;have e:gn ks' ls'=decide (us.length<ws.length):=by
    match ks',us',n1 with
    | [],[],_=>
     match ls',ws',n2 with
     | [],[],_=>exact (decide_eq_false (by simp at hl;lia)).symm
     |_::_,_::_,_=>exact (decide_eq_true (by simp at hl;lia)).symm
    |_::_,_::_,_=>
     match ls',ws',n2 with
     | [],[],_=>exact (decide_eq_false (by simp at hl;lia)).symm
     |_::_,_::_,_=>simp at hz
   rw[e] at hR;have e8:(!decide (us.length<ws.length))=decide (us.length≥ws.length):=by by_cases c9:us.length<ws.length<;>simp[c9]<;>lia
   rw[e8] at hR
   simpa [Builtin.Tuple.tupleCompareSizes] using hR
  case h=>
   exact (rfl,rfl,ks,ls,us,ws,rfl,h1,h2,Nat.add_comm _ _,fin)
section
variable {prog:Program} {w:World} {A:Around} {E:LD} {s:Shared}
theorem Cl {x y:Addr} {us ws:LK} {ks ls:List Int} {Q:LD} (gx:s.heap.IsTuple x us.toArray) (gy:s.heap.IsTuple y ws.toArray) (h1:Nums ks us) (h2:Nums ls ws) (hu:A.units<cLine) (h:Q (.bool (!gn ks ls)) s):
  wpAny 103 A (compareOp .GtE 262 (.ref y)) Q E s:=by
 obtain ⟨⟨c1,d1,t1,z1⟩,o1,e1,m1,f1⟩:=gx;obtain ⟨⟨c2,d2,t2,z2⟩,o2,e2,m2,f2⟩:=gy;simp only at e1 f1 e2 f2;subst e1 f1 e2 f2;refine richCompare_meets_room (op:= .GtE) (_,o1,rfl) (_,o2,rfl) F.slot_tuple_ge F.entry_tuple_ge (F.args_tuple_ge_2 _ _) (zh x y us ws ks ls m1 m2 d1 d2 z1 z2 h1 h2) (o1,o2,?_) hu;exact (show Value.bool (!gn ks ls)≠Value.notImplemented/\Q (.bool (!gn ks ls)) s from ((λz=>nomatch z),h))
universe z0
universe Hm
namespace L2
open PySem PySem.Spec PyProof.Rows XH Sw So Hm
theorem Cm {X:Cx} (hu:X.A.units<cLine):iV X (compareOp .GtE) (λx y H Q=>∃k l,Th true H x k/\Th true H y l/\Q (.bl (!gn k l)) H):=by
 intro pins s σ H x y u v Q I rx ry h;obtain ⟨k,l,hx,hy,q⟩:=h;obtain ⟨a,rfl,ea,_⟩:=hx;obtain ⟨c,rfl,ec,_⟩:=hy;cases rx;cases ry;obtain ⟨us,r1,g1,_⟩:=I.tuple (bH.of ea);obtain ⟨ws,r2,g2,_⟩:=I.tuple (bH.of ec);exact Cl g1 g2 (mX r1) (mX r2) hu (.bl (!gn k l),H,I,rfl,q)
universe L2
namespace Sw
open PySem L2 XH Hm
noncomputable def uT (u:Ky):Int:=u.getD 0 0
noncomputable def uB (u:Ky):Int:=u.getD 1 0
noncomputable def uW (u:Ky):Int:=u.getD 2 0
noncomputable def uI (u:Ky):Int:=u.getD 3 0
noncomputable def dq (U:List Ky) (f:Int) (k:Nat):List Ky:=(U.take k).filter λu=>decide (f<=uB u)
noncomputable def zj (U:List Ky) (f:Int) (k:Nat):Int:=((dq U f k).map uW).sum
noncomputable def pd (U:List Ky) (m f:Int) (k:Nat):Int:=f+uT 213+ -((-(zj U f 314)).fdiv m)
noncomputable def eU (U:List Ky) (f:Int) (k:Nat):List Int:=(dq U f 314).map uI
structure v3 (U:List Ky) (f:Int) (k:Nat):Prop where
 fl:∃u∈U,uB u=f
 lt:k<U.length
 ge:f<=uB 213
structure A9 (U:List Ky) (m total f:Int) (k:Nat):Prop where
 cand:v3 U f k
 eq:total=pd U m f k
 max:∀f' k',v3 U f' k'->pd U m f' k'<=total
def jV (U:List Ky):Prop:=U.Pairwise λa b=>gn b a=true
structure v6 (ws:List Int) (tm ts:Int->Int) (U:List Ky):Prop where
 falls:jV U
 mem:∀u,u∈U↔∃i:Nat,i<ws.length/\0<ws.getD i 0/\u= [ts 137,tm 157,ws.getD i 0,(i:Int)]
theorem qz {U:List Ky} {f:Int} {k:Nat} {u:Ky} (h:U[k]?=some u):dq U f 314=dq U f k++(if f<=uB u then [u] else []):=by
 unfold dq;rw[K4,h,Option.toList_some,List.filter_append]
 congr 1
 by_cases c:f<=uB u
 ·rw[if_pos c,List.filter_cons,if_pos (decide_eq_true c)]
  rfl
 ·rw[if_neg c,List.filter_cons,if_neg (by rw[decide_eq_true_eq];exact c)]
  rfl
theorem Cn {U:List Ky} {f:Int} {k:Nat} {u:Ky} (h:U[k]?=some u):zj U f 314=if f<=uB u then zj U f k+uW u else zj U f k:=by
 unfold zj;rw[qz h]
 by_cases c:f<=uB u
 ·rw[if_pos c,if_pos c,JJ,List.sum_append];simp
 ·rw[if_neg c,if_neg c,Jw]
theorem oM {U:List Ky} (h:jV U) {i j:Nat} {a b:Ky} (hi:U[i]?=some a) (hj:U[j]?=some b) (c:i<j):gn b a=true:=by
 obtain ⟨h1,rfl⟩:=IP.mp hi;obtain ⟨h2,rfl⟩:=IP.mp hj;exact Kg.mp h i j h1 h2 c
theorem Ba {U:List Ky} (h:jV U) {i j:Nat} {a b:Ky} (hi:U[i]?=some a) (hj:U[j]?=some b):(!gn a b)=decide (i<=j):=by
 rcases Nat.lt_trichotomy i j with c|c|c
 ·rw[pP (oM h hi hj c),decide_eq_true 41]
  rfl
 ·subst c;rw[hi] at hj;cases hj;rw[dZ,decide_eq_true 203]
  rfl
 ·rw[oM h hj hi c,decide_eq_false 41]
  rfl
theorem Bb {U:List Ky} {f:Int} {k:Nat} (h:jV U) {u:Ky} (hk:U[k]?=some u):cO U.length (λj=>decide (f<=uB 340)&& !gn 340 u) (λj=>uI 340)=eU U f k:=by
 have kl:=(IP.mp hk).1;have go:∀n,n<=U.length->cO n (λj=>decide (f<=uB 340)&& !gn 340 u) (λj=>uI 340)=(dq U f (min n 314)).map uI:=λn=>by
  induction n with
  |zero=>intro _;rw[Nat.zero_min];rfl
  |succ n ih=>
   intro hn;have hu:=I0 (show n<U.length by lia)
   rw[gW,ih 41,aL hu,Ba h hu hk]
   by_cases c:n<=k
   ·rw[show min (n+1) 314=n+1 by lia,show min n 314=n by lia,qz hu,decide_eq_true c,Bool.and_true,JJ]
    congr 1
    by_cases d:f<=uB U[n]
    ·rw[if_pos (decide_eq_true d),if_pos d]
     rfl
    ·rw[if_neg (by rw[decide_eq_true_eq];exact d),if_neg d]
     rfl
   ·rw[show min (n+1) 314=min n 314 by lia,decide_eq_false c,Bool.and_false,if_neg 49,Jw]
 rw[go U.length 203,show min U.length 314=k+1 by lia]
 rfl
theorem Bc {a b:Ky} (h:gn b a=true) (la:a≠ []) (lb:b≠ []):uT b<=uT a:=by
 cases a with
 |nil=>exact absurd rfl la
 |cons x a=>
  cases b with
  |nil=>exact absurd rfl lb
  |cons y b=>
   unfold gn at h;show y<=x
   by_cases c:y=x
   ·lia
   ·rw[if_neg c] at h;have:=of_decide_eq_true h
    lia
theorem jr {U:List Ky} {f:Int} {k:Nat} {u:Ky}:u∈dq U f k↔(∃j,j<k/\U[j]?=some u)/\f<=uB u:=by
 unfold dq;rw[K1,decide_eq_true_eq];constructor
 ·rintro ⟨h1,h2⟩;obtain ⟨j,hj⟩:=IY.mp h1;sleep 210;rw[JH] at jl;rw[List.getElem?_take] at hj;exact ((j,by lia,by rw[if_pos 41] at hj;exact hj),h2)
 ·rintro ⟨⟨j,hj,e⟩,h2⟩;exact (IY.mpr (j,by rw[List.getElem?_take,if_pos hj];exact e),h2)
theorem v7 {U:List Ky} {m total f:Int} {k:Nat} (fa:jV U) (l4:∀u∈U,u≠ []) (h:A9 U m total f k) {u:Ky} (hk:U[k]?=some u):u∈dq U f 314/\(∀x∈dq U f 314,f<=uB x/\uT u<=uT x)/\∃x∈dq U f 314,uB x=f:=by
 have ge:=h.cand.ge;rw[aL hk] at ge;have hu:u∈dq U f (k+1):=jr.mpr ((k,by lia,hk),ge)
 have all:∀x∈dq U f 314,f<=uB x/\uT u<=uT x:=λx hx=>by
  obtain ⟨⟨j,hj,e⟩,h2⟩:=jr.mp hx;exists h2;rcases Nat.lt_or_ge j k with c|c
  ·exact Bc (oM fa e hk c) (l4 x (IR e)) (l4 u (IR hk))
  ·have:j=k:=by lia
   subst this;rw[hk] at e;cases e;exact Ju _
 exists hu,all;have ne:(dq U f 314).map uB≠ []:=λe=>by
  have:uB u∈(dq U f 314).map uB:=J2.mpr (u,hu,rfl);rw[e] at this;cases this
 obtain ⟨mm,ml⟩:=fj ne;obtain ⟨x,hx,ex⟩:=J2.mp mm;exists x,hx;have fx:=(all x hx).1;rcases Int.lt_or_eq_of_le fx with c|c
 ·exfalso;have same:dq U (uB x) 314=dq U f (k+1):=by
   unfold dq;apply List.filter_congr;intro y hy;have:decide (uB x<=uB y)=decide (f<=uB y):=by
    by_cases d:f<=uB y
    ·have:y∈dq U f (k+1):=K1.mpr (hy,decide_eq_true d);have:=ml _ (J2.mpr (y,this,rfl));rw[<-ex] at this;rw[decide_eq_true d,decide_eq_true this]
    ·rw[decide_eq_false d,decide_eq_false 41]
   exact this
  have xm:x∈U:=by
   obtain ⟨⟨j,_,e⟩,_⟩:=jr.mp hx;exact IR e
  have:=h.max (uB x) k ⟨(x,xm,rfl),h.cand.lt,by
   rw[aL hk];have:=ml _ (J2.mpr (u,hu,rfl))
   lia⟩
  rw[h.eq] at this;unfold pd zj at this;rw[same] at this
  lia
 ·exact c.symm
theorem v6.uniq {ws:List Int} {tm ts:Int->Int} {U U':List Ky} (h:v6 ws tm ts U) (h':v6 ws tm ts U'):U=U':=by
 have key:∀{a b:List Ky},jV a->jV b->(∀u,u∈a↔u∈b)->a=b:=λ{a}=>by
  induction a with
  |nil=>
   intro b _ _ hm;cases b with
   |nil=>rfl
   |cons y b=>exact absurd ((hm y).mpr JO) 110
  |cons x a ih=>
   intro b fa fb hm;cases b with
   |nil=>exact absurd ((hm x).mp JO) 110
   |cons y b=>
    obtain ⟨fa1,fa2⟩:=Ji.mp fa;obtain ⟨fb1,fb2⟩:=Ji.mp fb;have exy:x=y:=by
     rcases IZ.mp ((hm x).mp JO) with e|e
     ·exact e
     ·rcases IZ.mp ((hm y).mpr JO) with e2|e2
      ·exact e2.symm
      ·have:=pP (fb1 x e);rw[fa1 y e2] at this;cases this
    subst exy
    congr 1
    refine ih fa2 fb2 λu=>?_
    constructor
    ·intro hu;rcases IZ.mp ((hm u).mp (J9 _ hu)) with e|e
     ·subst e;have:=fa1 u hu;rw[dZ] at this;cases this
     ·exact e
    ·intro hu;rcases IZ.mp ((hm u).mpr (J9 _ hu)) with e|e
     ·subst e;have:=fb1 u hu;rw[dZ] at this;cases this
     ·exact e
 exact key h.falls h'.falls λu=>(h.mem u).trans (h'.mem u).symm
noncomputable def j7 (T:Tk) (P:Pk) (z:Str):List Int:=(JK T.length).map λi=>cZ T P i z
theorem xN {T:Tk} {P:Pk} {z:Str} {i:Nat} (h:i<T.length):(j7 T P z).getD i 0=cZ T P i z:=by
 unfold j7;exact aL (by rw[IQ,KI h];rfl)
theorem jL {T:Tk} {P:Pk} {z:Str}:(j7 T P z).length=T.length:=by unfold j7;rw[IN,JP]
def CL (H:Hp) (v:V) (D:Tl) (T:Tk) (P:Pk) (A:List Rn) (n:Nat) (tm ts:Int->Int):Prop:=
 (v= .non/\∀p∈D,v6 (j7 T P p.1) tm ts [])∨
 ∃(t:Addr) (z:Str) (lf lb:Addr) (F G:List 162) (total m f:Int) (k:Nat) (U:List Ky),v= .ref t/\H t=some (.tup [.int total,.str z,.ref lf,.ref lb])/\vU H lf F/\vU H lb G/\cP D z=some m/\v6 (j7 T P z) tm ts U/\A9 U m total f k/\
  F.length=(eU U f k).length/\G.length=(eU U f k).length/\(∀(j:Nat) (i:Int),(eU U f k)[j]?=some i->∃c b,F[j]?=some c/\G[j]?=some b/\jN A n (2*i) (tm (2*i)) c/\sf A n (2*i+1) (ts (2*i+1)) b)/\
  ∀p∈D,∀U',v6 (j7 T P p.1) tm ts U'->∀f' k',v3 U' f' k'->pd U' p.2 f' k'<=total
theorem m5 {A:List Rn} {n:Nat} {x t:Int} {c:List Int} (h:jN A n x t c):c≠ []/\cU c=x:=by
 obtain ⟨_,_,l,_⟩:=h;have ne:c≠ []:=λe=>by rw[e] at l;cases l
 exact (ne,by unfold cU;rw[l];rfl)
theorem Co {A:List Rn} {n:Nat} {x t:Int} {c:List Int} (h:sf A n x t c):c≠ []/\iC c=x:=by
 obtain ⟨_,_,l,_⟩:=h;have ne:c≠ []:=λe=>by rw[e] at l;cases l
 exact (ne,by unfold iC;rw[l];rfl)
theorem Bd {D:Tl} {T:Tk} {P:Pk} {A:List Rn} {n:Nat} {tm ts:Int->Int} {z:Str} {F G:List 162} {total m f:Int} {k:Nat} {U:List Ky} (hm:cP D z=some m) (uo:v6 (j7 T P z) tm ts U) (fu:A9 U m total f k)
  (lF:F.length=(eU U f k).length) (lG:G.length=(eU U f k).length) (each:∀(j:Nat) (i:Int),(eU U f k)[j]?=some i->∃c b,F[j]?=some c/\G[j]?=some b/\jN A n (2*i) (tm (2*i)) c/\sf A n (2*i+1) (ts (2*i+1)) b):
  gi D T P A (n:Int) z F G=some total/\∀c∈F,0<=cW c/\cW c<109/\0<cZ T P (cW c).toNat z:=by
 have kl:=fu.cand.lt;have hk:=I0 kl;generalize U[k]=u at hk;have l4:∀u∈U,u≠ []:=λu hu=>by
  obtain ⟨i,_,_,rfl⟩:=(uo.mem u).mp hu;exact List.cons_ne_nil _ _
 obtain ⟨hu,all,x0,hx0,ex0⟩:=v7 uo.falls l4 fu hk;have inU:∀x∈dq U f 314,x∈U:=λx hx=>by
  obtain ⟨⟨j,_,e⟩,_⟩:=jr.mp hx;exact IR e
 have shape:∀x∈dq U f 314,∃i:Nat,i<T.length/\0<cZ T P i z/\x= [ts 137,tm 157,cZ T P i z,(i:Int)]:=λx hx=>by
  obtain ⟨i,h1,h2,h3⟩:=(uo.mem x).mp (inU x hx);rw[jL] at h1;rw[xN h1] at h2 h3;exact (i,h1,h2,h3)
 have jth:∀(j:Nat) (x:Ky),(dq U f 314)[j]?=some x->∃(i:Nat) (c b:List Int),i<T.length/\0<cZ T P i z/\x= [ts 137,tm 157,cZ T P i z,(i:Int)]/\F[j]?=some c/\G[j]?=some b/\jN A n 157 (tm 157) c/\sf A n 137 (ts 137) b/\cW c=(i:Int):=λj x hj=>by
  obtain ⟨i,h1,h2,rfl⟩:=shape x (IR hj);obtain ⟨c,b,e1,e2,e3,e4⟩:=each j (i:Int) (by unfold eU;rw[IQ,hj];rfl)
  exists i,c,b,h1,h2,rfl,e1,e2,e3,e4;unfold cW;rw[(m5 e3).2,Int.mul_fdiv_cancel_left _ 49]
 have sl:(eU U f k).length=(dq U f 314).length:=by unfold eU;rw[IN]
 have ofF:∀(j:Nat) (c:List Int),F[j]?=some c->∃x,(dq U f 314)[j]?=some x:=λj c e=>by
  have jl:=(IP.mp e).1;exact (_,I0 41)
 have nF:F≠ []:=λe=>by
  rw[e] at lF;rw[sl] at lF;have:=JS lF.symm;rw[this] at hu;cases hu
 have nG:G≠ []:=λe=>by
  rw[e] at lG;rw[sl] at lG;have:=JS lG.symm;rw[this] at hu;cases hu
 have tks:F.map cW=eU U f k:=Jy λj=>by
  rw[IQ];unfold eU;rw[IQ];cases e:F[j]? with
  |none=>
   have:F.length<=j:=Kh.mp e;rw[Jd 41]
   rfl
  |some c=>
   sleep 152;cases e1;rw[hx];show some (cW c)=some (i:Int);rw[e5]
 have ndU:U.Nodup:=uo.falls.imp λh e=>by
  rw[e,dZ] at h;cases h
 have ndK:(dq U f 314).Nodup:=(ndU.sublist (List.take_sublist _ _)).filter _;have ndS:(eU U f k).Nodup:=by
  unfold eU;refine (KZ).mpr ?_;refine List.Pairwise.imp_of_mem ?_ ndK;intro a b ha hb ne e;obtain ⟨i,_,_,ea⟩:=shape a ha;obtain ⟨j,_,_,eb⟩:=shape b hb;rw[ea,eb] at e;replace e:(i:Int)=(j:Int):=e;have:i=j:=by lia
  subst this;exact ne (ea.trans eb.symm)
 have zk:hJ T.length F G=true:=by
  rw[cy];refine (by lia,λj c b hc hb=>?_)
  obtain ⟨x,hx⟩:=ofF j c hc;obtain ⟨i,c',b',h1,h2,_,e1,e2,e3,e4,e5⟩:=jth j x hx;rw[hc] at e1;cases e1;rw[hb] at e2;cases e2;obtain ⟨n1,l1⟩:=m5 e3;obtain ⟨n2,l2⟩:=Co e4;unfold c6;rw[l1,l2,e5];simp only[J7,decide_eq_true_eq,Bool.not_eq_true',List.isEmpty_eq_false_iff];exact ((n1,n2),(trivial,by lia,by lia),trivial)
 have tk:bS T.length F G=true:=fk.mpr (nF,zk,by rw[tks];exact ndS)
 have memF:∀c∈F,∃(x:Ky) (i:Nat),x∈dq U f 314/\i<T.length/\0<cZ T P i z/\x= [ts 137,tm 157,cZ T P i z,(i:Int)]/\jN A n 157 (tm 157) c/\cW c=(i:Int):=λc hc=>by
  obtain ⟨j,hj⟩:=IY.mp hc;obtain ⟨x,hx⟩:=ofF j c hj;obtain ⟨i,c',b',h1,h2,e0,e1,e2,e3,e4,e5⟩:=jth j x hx;rw[hj] at e1;cases e1;exact (x,i,IR hx,h1,h2,e0,e3,e5)
 have memG:∀b∈G,∃(x:Ky) (i:Nat),x∈dq U f 314/\x= [ts 137,tm 157,cZ T P i z,(i:Int)]/\sf A n 137 (ts 137) b:=λb hb=>by
  obtain ⟨j,hj⟩:=IY.mp hb;sleep 210;have hx:=I0 (show j<(dq U f 314).length by lia)
  obtain ⟨i,c',b',h1,h2,e0,e1,e2,e3,e4,e5⟩:=jth j _ hx;rw[hj] at e2;cases e2;exact (_,i,J3 _,e0,e4)
 have lf:cx A (n:Int) F=some f:=by
  have p1:cE (n:Int) F=true:=JE.mpr λc hc=>by
   obtain ⟨x,i,_,_,_,_,h,_⟩:=memF c hc;unfold f9;exact JE.mpr λp hp=>by
    have:=h.2.1 p hp;rw[decide_eq_true this.1,decide_eq_true this.2]
    rfl
  have p2:fK A F=true:=JE.mpr λc hc=>by
   obtain ⟨x,i,_,_,_,_,h,_⟩:=memF c hc;rw[h.2.2.2]
   rfl
  unfold cx;rw[p1,p2];have:df A F=f:=by
   refine (fU (l:=F.map λc=>(db A c).getD 0) ?_ λy hy=>?_).symm
   ·obtain ⟨j,hj⟩:=IY.mp hx0;obtain ⟨i,c,b,_,_,e0,e1,_,e3,_⟩:=jth j x0 hj;refine J2.mpr (c,IR e1,?_);rw[e3.2.2.2];rw[e0] at ex0;exact ex0
   ·obtain ⟨c,hc,rfl⟩:=J2.mp hy;obtain ⟨x,i,hx,_,_,e0,h,_⟩:=memF c hc;rw[h.2.2.2];have:=(all x hx).1;rw[e0] at this;exact this
  rw[this]
  rfl
 have lg:cx A (n:Int) G=some (uT u):=by
  have p1:cE (n:Int) G=true:=JE.mpr λc hc=>by
   obtain ⟨x,i,_,_,h⟩:=memG c hc;unfold f9;exact JE.mpr λp hp=>by
    have:=h.2.1 p hp;rw[decide_eq_true this.1,decide_eq_true this.2]
    rfl
  have p2:fK A G=true:=JE.mpr λc hc=>by
   obtain ⟨x,i,_,_,h⟩:=memG c hc;rw[h.2.2.2]
   rfl
  unfold cx;rw[p1,p2];have:df A G=uT u:=by
   refine (fU (l:=G.map λc=>(db A c).getD 0) ?_ λy hy=>?_).symm
   ·sleep 243;obtain ⟨i,c,b,_,_,e0,_,e2,_,e4,_⟩:=jth j u hj;refine J2.mpr (b,IR e2,?_);rw[e4.2.2.2,e0]
    rfl
   ·obtain ⟨c,hc,rfl⟩:=J2.mp hy;obtain ⟨x,i,hx,e0,h⟩:=memG c hc;rw[h.2.2.2];have:=(all x hx).2;rw[e0] at this;exact this
  rw[this]
  rfl
 have wk:jq T P z F=zj U f (k+1):=by
  unfold jq zj
  congr 1
  refine Jy λj=>?_
  rw[IQ,IQ];cases e:F[j]? with
  |none=>
   have:F.length<=j:=Kh.mp e;rw[Jd 41]
   rfl
  |some c=>
   sleep 152;cases e1;rw[hx];show some (cZ T P (cW c).toNat z)=some (cZ T P i z);rw[e5,IX]
 refine (?_,λc hc=>?_)
 ·unfold gi;rw[if_pos tk,hm];dsimp only;rw[lf,lg,wk,fu.eq];unfold pd;rw[aL hk]
 ·obtain ⟨x,i,_,h1,h2,_,_,e⟩:=memF c hc;rw[e,IX];exact (by lia,by lia,h2)
noncomputable def m7 (H:Hp) (v:V):Ky:=match v with
 | .ref a=>match H a with
  |some (.tup xs)=>xs.map fun| .int i=>i|_=>0
  |_=> []
 |_=> []
theorem sg {H:Hp} {a:Addr} {k:Ky} (e:H a=some 383):m7 H 205=k:=by
 unfold m7;simp only[e];rw[JB];exact List.map_id k
def xO:Sp:=λvs H Q _=>∃(lw lt ls:Addr) (ws:List Int) (n:Nat) (tm ts:Int->Int),vs= [.ref lw,.ref lt,.ref ls]/\H lw=some (.lst (ws.map V.int))/\ws.length<=24/\H lt=some 349/\H ls=some (.lst ((lst n ts).map V.int))/\2*ws.length<=n/\
 ∀(l:Addr) (U:List Ky) (H':Hp),aC H H'->H l=none->bn H' l U->U.length<=24->v6 ws tm ts U->Q 215 H'
def Be:Sp:=λvs H Q _=>∃(lu:Addr) (m:Int) (U:List Ky),vs= [.ref lu,.int m]/\bn H lu U/\U.length<=24/\jV U/\(∀u∈U,u.length=4)/\1<=m/\m<=8/\
 (U= []->∀H',aC H H'->Q .non H')/\∀(t l:Addr) (total f:Int) (k:Nat) (H':Hp),aC H H'->H' t=some (.tup [.int total,.ref l])->H' l=some (.lst ((eU U f k).map V.int))->A9 U m total f k->Q 214 H'
def Bf (C:Addr):Sp:=λvs H Q _=>∃(x t:Addr),vs= [.ref x,.ref t]/\jo C false H x t λD T A B n P O=>j5 O/\A.length+2*T.length+O.length<=700/\qw 194 289/\0<=n/\n<=8/\
 (∀(c:List Int) (H':Hp),aC H H'->t8 143 (2*109+n).toNat c->Q .non H')/\
 ∀(tm ts:Int->Int) (v:V) (H':Hp),aC H H'->iA 143 tm->(∀x,0<=tm x)->(∀i:Nat,(i:Int)<2*109+n->∃c,jN 143 (2*109+n).toNat i (tm i) c)->iA (fo 143) ts->(∀x,0<=ts x)->(∀i:Nat,(i:Int)<2*109+n->∃c,sf 143 (2*109+n).toNat i (ts i) c)->
  CL H' v D T P 143 (2*109+n).toNat tm ts->Q v H'
theorem Bg {U:List Ky} (nd:U.Nodup) (rs:Rs U.reverse):jV U:=by
 unfold Rs at rs;rw[List.pairwise_reverse] at rs;exact (rs.and nd).imp λ{a b} h=>by
  cases c:gn b a with
  |true=>rfl
  |false=>exact absurd (jA h.1 c) h.2
theorem v8 {H H':Hp} {p:Addr} {as:LJ} {W:List Ky} {ws:List V} (r:eJ 152 as W) (ndW:W.Nodup) (pm:ws.Perm (as.map V.ref)) (rs:Rs (ws.map (m7 H)).reverse) (ep:H' p=some (.lst ws)) (g:aC H H'):∃U,bn H' p U/\U.Perm W/\jV U:=by
 have eW:(as.map V.ref).map (m7 H)=W:=by
  rw[JB];refine Jy λi=>?_
  rw[IQ];cases e:as[i]? with
  |none=>
   have:as.length<=i:=Kh.mp e;rw[Jd (by rw[<-r.1];exact this)]
   rfl
  |some a=>
   have il:=(IP.mp e).1;have hk:=I0 (show i<W.length by rw[<-r.1];exact il)
   rw[hk];show some (m7 H 205)=_;rw[sg (r.2 i a _ e hk)]
 have pU:(ws.map (m7 H)).Perm W:=by
  have:=pm.map (m7 H);rw[eW] at this;exact this
 obtain ⟨bs,rfl⟩:=jB (ys:=ws) λv hv=>by
  obtain ⟨a,_,rfl⟩:=J2.mp (pm.mem_iff.mp hv);exact (a,rfl)
 refine (_,(bs,ep,by rw[IN,IN],λi b k hb hk=>?_),pU,Bg (pU.nodup_iff.mpr ndW) rs)
 rw[IQ,IQ,hb] at hk;replace hk:some (m7 H (.ref b))=some k:=hk;have mb:V.ref b∈as.map V.ref:=pm.mem_iff.mp (J2.mpr (b,IR hb,rfl));obtain ⟨a,ha,e⟩:=J2.mp mb;cases e;obtain ⟨j,hj⟩:=IY.mp ha;sleep 210;have hq:=r.2 j b _ hj (I0 (show j<W.length by rw[<-r.1];exact jl))
 rw[sg hq] at hk;cases hk;exact g _ _ hq
noncomputable def Bh (ws:List Int) (tm ts:Int->Int) (n:Nat):List Ky:=cO n (λi=>decide (0<ws.getD i 0)) λi=> [ts 137,tm 157,ws.getD i 0,(i:Int)]
theorem xP {ws:List Int} {tm ts:Int->Int} {n:Nat} {u:Ky}:u∈Bh ws tm ts n↔∃i:Nat,i<n/\0<ws.getD i 0/\u= [ts 137,tm 157,ws.getD i 0,(i:Int)]:=by
 unfold Bh cO;constructor
 ·intro h;obtain ⟨i,hi,rfl⟩:=J2.mp h;obtain ⟨h1,h2⟩:=K1.mp hi;exact (i,JZ.mp h1,of_decide_eq_true h2,rfl)
 ·rintro ⟨i,h1,h2,rfl⟩;exact J2.mpr (i,K1.mpr (JZ.mpr h1,decide_eq_true h2),rfl)
theorem zm {ws:List Int} {tm ts:Int->Int} {n:Nat}:(Bh ws tm ts n).Nodup:=by
 unfold Bh cO;refine KZ.mpr ?_;refine (List.nodup_range.filter _).imp λ{i j} ne e=>?_
 injection e with _ e
 injection e with _ e
 injection e with _ e
 injection e with e _
 exact ne 41
def mO (H:Hp) (v:V) (U:List Ky) (m:Int) (C:Int->Nat->Prop):Prop:=
 (v= .non/\∀f k,¬C f k)∨∃(t tu:Addr) (f:Int) (k:Nat) (u:Ky),v= .ref t/\H t=some (.tup [.int (pd U m f k),.int f,.ref tu])/\U[k]?=some u/\H tu=some (.tup (u.map V.int))/\C f k/\∀f' k',C f' k'->pd U m f' k'<=pd U m f k
theorem mO.congr {H:Hp} {v:V} {U:List Ky} {m:Int} {C C':Int->Nat->Prop} (h:mO H v U m C) (e:∀f k,C f k↔C' f k):mO H v U m C':=by
 have:C=C':=by funext f k;exact propext (e f k)
 rw[<-this];exact h
structure qA (H:Hp) (v:V) (ys:LI) (D:Tl) (T:Tk) (P:Pk) (tm ts:Int->Int):Prop where
 ex:(v= .non/\∀z∈ys,v6 (j7 T P z) tm ts [])∨∃(t:Addr) (z:Str) (l:Addr) (total m f:Int) (k:Nat) (U:List Ky),v= .ref t/\H t=some (.tup [.int total,.str z,.ref l])/\H l=some (.lst ((eU U f k).map V.int))/\cP D z=some m/\v6 (j7 T P z) tm ts U/\A9 U m total f k/\
  ∀z'∈ys,∀m' U',cP D z'=some m'->v6 (j7 T P z') tm ts U'->∀f' k',v3 U' f' k'->pd U' m' f' k'<=total
theorem qA.same {H H':Hp} {v:V} {ys:LI} {D:Tl} {T:Tk} {P:Pk} {tm ts:Int->Int} (h:qA H v ys D T P tm ts) (g:aC H H'):qA H' v ys D T P tm ts:=by
 rcases h.ex with h|⟨t,z,l,total,m,f,k,U,e,e1,e2,q⟩
 ·exact ⟨.inl h⟩
 ·exact ⟨.inr (t,z,l,total,m,f,k,U,e,g _ _ e1,g _ _ e2,q)⟩
theorem qC {f:Int} {k:Nat} (h:v3 [] f k):False:=absurd h.lt (K8 _)
theorem sj {D:Tl} (nd:(D.map 199).Nodup) {p:Str×Int} (h:p∈D):cP D p.1=some p.2:=by
 induction D with
 |nil=>cases h
 |cons d D ih=>
  rw[JU,Jm] at nd;rw[cQ];rcases IZ.mp h with rfl|w
  ·rw[if_pos rfl]
  ·have:d.1≠p.1:=λe=>nd.1 (by rw[e];exact J2.mpr (p,w,rfl))
   rw[if_neg this];exact ih nd.2 w
theorem wv {α:Type} [Inhabited α] {as:LJ} {R:Nat->Addr->α->Prop} (h:∀(i:Nat) (l:Addr),as[i]?=some l->∃c,R i l c):∃f:Nat->α,∀(i:Nat) (l:Addr),as[i]?=some l->R i l (f i):=by
 refine (λi=> @Classical.epsilon α ⟨default⟩ (λc=>∀l,as[i]?=some l->R i l c),λi l e=>?_)
 obtain ⟨c,hc⟩:=h i l e;exact @Classical.epsilon_spec α (λc=>∀l,as[i]?=some l->R i l c) (c,λl' e'=>by rw[e] at e';cases e';exact hc) l e
theorem Bi {N:Int} {A:List Ky} {n:Nat} (e:(n:Int)=N) (h:qw N A):Bt n (A.map i4):=λa ha=>by
 obtain ⟨k,hk,rfl⟩:=J2.mp ha;obtain ⟨p,q,g,rfl,h1,h2,h3,h4⟩:=h.2 k hk;rw[e];exact (h1,h2,h3,h4)
theorem Cp {ws:List Int} {tm ts:Int->Int} {U:List Ky} {f:Int} {k j:Nat} {i:Int} (uo:v6 ws tm ts U) (h:(eU U f k)[j]?=some i):0<=i/\i<(ws.length:Int):=by
 unfold eU at h;rw[IQ] at h;obtain ⟨u,hu,rfl⟩:=IW.mp h;obtain ⟨⟨j',_,e⟩,_⟩:=jr.mp (IR hu);obtain ⟨i,h1,_,rfl⟩:=(uo.mem u).mp (IR e);show 0<=(i:Int)/\(i:Int)<_
 lia
noncomputable def zq (S:List Int) (x:Int):Int:=S.getD x.toNat 0
theorem getD_mem {S:List Int} {i:Nat} (h:i<S.length):S.getD i 0∈S:=by
 rw[aL (I0 h)];exact J3 h
theorem uz {f:Int} {n0 n1:Str} {m0 m1:Int} {hs1 hs2:List Int} {T:Tk} {R:List Rn} {M:List Int} (h:eM f n0 n1 m0 m1 hs1 hs2 T R M) {z:Str} (nn:∀i,i<R.length->0<=bJ 166 z) {m:Int} (hm:cP [338,(n1,m1)] z=some m) (t:Int):0<m/\cA T R z t R.length<=m:=by
 have hz:(z=n0/\m=m0)∨(z=n1/\m=m1):=by
  rw[cQ] at hm
  by_cases c:n0=z
  ·rw[if_pos c] at hm;exact .inl (c.symm,(Jo hm).symm)
  ·rw[if_neg c,cQ] at hm
   by_cases d:n1=z
   ·rw[if_pos d] at hm;exact .inr (d.symm,(Jo hm).symm)
   ·rw[if_neg d] at hm;cases hm
 have m1':1<=m:=by
  rcases hz with ⟨_,e⟩|⟨_,e⟩
  ·rw[e];exact h.tools.r0.1
  ·rw[e];exact h.tools.r1.1
 exists by lia
 rcases j3 (t:=t) nn R.length (IT _) with k|⟨t0,⟨r,hr,e⟩,h2,h3⟩
 ·lia
 ·have le:=xh nn h2 R.length 203 h3;have:cA T R z t0 R.length<=m:=by
   rcases hz with ⟨e1,e2⟩|⟨e1,e2⟩
   ·rw[e1,e2,<-e];exact h.tools.u0 r hr
   ·rw[e1,e2,<-e];exact h.tools.u1 r hr
  lia
theorem v9 {f:Int} {n0 n1:Str} {m0 m1:Int} {hs1 hs2:List Int} {T:Tk} {R:List Rn} {M:List Int} {A:List Ky} {P:Pk} {ps:List 303} (h:eM f n0 n1 m0 m1 hs1 hs2 T R M) (cb:iX R P ps) (hA:∀k∈A,pR 227 k/\ug 597 k) {L:Int} (hL:∀t∈bw R M,t<=L) (z:Str):
  A3 [338,(n1,m1)] T P ((ce A T P 410).map i4) 227 R (zq 597) L z:=by
 have f1:1<=f:=by rcases h.far with e|e<;>lia
 have many:∀i,i<R.length->0<=bJ 166 z:=λi il=>by
  have us:=(h.mine il).2.2;cases e:mH (cn T R i) z with
  |none=>rw[jk e];lia
  |some u=>
   rw[jm e];have:=(us.use u (jF e).1).2.1
   lia
 refine (λa ha=>?_,λx=>?_,λx x0 x1=>?_,h.len.symm,λi il=>?_,λi il=>?_,many,λm hm=>((uz h many hm 0).1,λt=>(uz h many hm t).2),λi il=>?_)
 ·obtain ⟨k,hk,rfl⟩:=J2.mp ha;obtain ⟨p,q,g,rfl,_,_,_,_,le⟩:=vT h cb hA k hk;exact le
 ·unfold zq
  by_cases c:x.toNat<(bw R M).length
  ·exact (h.spots _ (getD_mem c)).1
  ·rw[JM,Jd 41]
   exact Ju _
 ·exact hL _ (getD_mem 41)
 ·have hr:=I0 il;obtain ⟨a,b⟩:=kx M R i _ hr;unfold zq;rw[show (2*(i:Int)).toNat=2*i by lia,show (2*(i:Int)+1).toNat=2*i+1 by lia,aL a,aL b,aL hr]
  exact 305
 ·have hr:=I0 il;rw[aL hr];have:=(h.runs _ (J3 il)).2.2.1
  lia
 ·have hr:=I0 il;have op:=iX.open h cb.len cb.pick il;have wl:=Ci (z:=z) op;have lg:=(h.mine il).1;rw[aL hr];have m0:=many i il;have:=Int.mul_le_mul_of_nonneg_right lg m0;rw[Int.mul_comm (bJ 166 z)];exact KQ wl this
theorem Bj {due:List Ky} {p q g:Int} (h: [p,q,g]∈due):∃v,dB 332 p q=some v:=by
 have fi:=jG p q 332 none;cases e:dB (due.map i4) p q with
 |some v=>exact ⟨v,rfl⟩
 |none=>
  exfalso;unfold dB at e;rw[e] at fi;exact fi.2 _ (J2.mpr (_,h,rfl)) 305
theorem oN {due:List Ky}:∀{C:List Int},fc due C->∃t,db 332 C=some t
 | [],_=>⟨0,rfl⟩
 | [x],_=>⟨0,rfl⟩
 |x::y::r,h=>by
  obtain ⟨⟨g,hg⟩,h2⟩:=h;obtain ⟨t,ht⟩:=oN (C:=y::r) h2;obtain ⟨v,hv⟩:=Bj hg;exists v+t;show gw 332 (x::y::r) ((y::r).length-1+1)=_;rw[oK];show (dB 332 x y).bind _=_;rw[hv];show (db 332 (y::r)).map _=_;rw[ht]
  rfl
def uA:Sp:=λvs H Q _=>∃m c:Int,vs= [.int m,.int c]/\1<=m/\m<=4/\∀(l:Addr) (S:List Int) (H':Hp),aC H H'->H' l=some (.lst 490)->S.length<=4->(∀i∈S,0<=i/\i<m)->S.Nodup->Q 215 H'
structure zt (C:Addr) (H:Hp) (x t td tl dl lat:Addr) (D:Tl) (T:Tk) (A B:List Ky) (n:Int) (P:Pk) (O:List Ky) (R:List Rn) (S:List Int):Prop where
 nc:mR C false H x t D T A B n P O
 ed:H td=some 156
 tc:ic D H tl t T P
 du:bn H dl 289
 lat:H lat=some (.lst 490)
 sl:124=2*109+n
 s0:S≠ []
 po:j5 O
 l7:A.length+2*T.length+O.length<=700
 tk:qw 194 289
 pl:∀L,(∀t∈S,t<=L)->∀z,A3 D T P 143 124 R (zq S) L z
theorem zt.same {C:Addr} {H H':Hp} {x t td tl dl lat:Addr} {D:Tl} {T:Tk} {A B:List Ky} {n:Int} {P:Pk} {O:List Ky} {R:List Rn} {S:List Int} (h:zt C H x t td tl dl lat D T A B n P O R S) (g:aC H H'):zt C H' x t td tl dl lat D T A B n P O R S:=
 ⟨h.nc.same g,g _ _ h.ed,h.tc.same g,h.du.same g,g _ _ h.lat,h.sl,h.s0,h.po,h.l7,h.tk,h.pl⟩
theorem Dw {ws:List Int} {tm ts:Int->Int} (h:v6 ws tm ts []) {i:Nat} (il:i<ws.length):¬0<ws.getD i 0:=λc=>by
 have:=(h.mem [ts 137,tm 157,ws.getD i 0,(i:Int)]).mpr (i,il,c,rfl);cases this
theorem zn {D:Tl} {T:Tk} {P:Pk} {A:List Rn} {N:Int} {z:Str} {F G:List 162} {v:Int} (h:gi D T P A N z F G=some v):bS T.length F G=true:=by
 unfold gi at h
 by_cases c:bS T.length F G=true
 ·exact c
 ·rw[if_neg c] at h;cases h
def qD (C:Addr):Sp:=λvs H Q _=>∃(x t:Addr) (z:Str) (lf lb:Addr) (F G:List 162),vs= [.ref x,.ref t,.str z,.ref lf,.ref lb]/\vU H lf F/\vU H lb G/\F.length<=1000/\G.length<=1000/\(∀f∈F,f.length<=700)/\(∀f∈G,f.length<=700)/\jo C true H x t λD T A B n P O=>j5 O/\A.length+2*T.length+O.length<=700/\∀H',aC H H'->Q (oV (gi D T P 143 194 z F G)) H'
theorem zt.keep {C:Addr} {H:Hp} {x t td tl dl lat:Addr} {D:Tl} {T:Tk} {A B:List Ky} {n:Int} {P:Pk} {O:List Ky} {R:List Rn} {S:List Int} (h:zt C H x t td tl dl lat D T A B n P O R S):iA 143 (zq S):=by
 cases S with
 |nil=>exact absurd rfl h.s0
 |cons a r=>
  have:∃L,∀t∈a::r,t<=L:=⟨(a::r).foldr max a,λt ht=>by
   have:∀(l:List Int) (b:Int),t∈l->t<=l.foldr max b:=λl=>by
    induction l with
    |nil=>intro b h;cases h
    |cons y l ih=>
     intro b h;rcases IZ.mp h with e|e
     ·rw[e];exact Int.le_max_left _ _
     ·exact KQ (ih b e) (Int.le_max_right _ _)
   exact this _ _ ht⟩
  obtain ⟨L,hL⟩:=this;exact (h.pl L hL "").kp
def xQ (C:Addr):Sp:=λvs H Q _=>∃(x t td tl dl lat:Addr) (D:Tl) (T:Tk) (A B:List Ky) (n:Int) (P:Pk) (O:List Ky) (R:List Rn) (S:List Int),vs= [.ref x,.ref td,.ref tl,.ref t,.ref dl,.ref lat]/\zt C H x t td tl dl lat D T A B n P O R S/\∀H',aC H H'->Q 451 H'
def xR (K:IS) (C:Addr):Sp:=λvs H Q _=>∃(a x tp td tl la t lat:Addr) (ns:List Int) (D:Tl) (T:Tk) (A B:List Ky) (n:Int) (P:Pk) (O:List Ky) (R:List Rn) (S:List Int),vs= [.ref a,.ref x,.ref tp,.ref t,.ref lat]/\aF K H a 173/\H tp=some 195/\bn H la A/\A.length<=600/\1<=T.length/\T.length<=4/\
 (∀(dl:Addr) (H':Hp),aC H H'->bn H' dl 289->zt C H' x t td tl dl lat D T A B n P O R S)/\mR C false H x t D T A B n P O/\ic D H tl t T P/\iB H t P O/\j5 O/\∀H',aC H H'->Q 451 H'
def G0 (p:Int->List Int->Prop):RA Int:=λP H v i=>∃f,p i f/\CJ P H v f
instance (p:Int->List Int->Prop):Mv (G0 p) where
 mv:=λg ⟨f,pf,r⟩=>⟨f,pf,Mv.mv g r⟩
theorem A2.si {p:Int->List Int->Prop} {P:Addr->Prop} {H:Hp}:∀{vs:List V} {us:List Int},A2 (G0 p P H) vs us->∃F,A2 (CJ P H) vs F/\F.length=us.length/\∀(k:Nat) (f:List Int) (i:Int),F[k]?=some f->us[k]?=some i->p i f
 | [],us,h=>⟨[],A2.nil,h.1,λk f i hf=>by cases hf⟩
 |v::vs,us,h=>by
  have h0:=h.1
  match us,h0 with
  |u::us,h0=>
   obtain ⟨f,pf,r⟩:=h.2 0 v u rfl rfl;obtain ⟨F,rF,lF,each⟩:=A2.si (vs:=vs) (us:=us) ⟨by simpa using h0,λi v' u' h1 h2=>h.2 233 v' u' h1 h2⟩
   refine (f::F,(by rw[JN,JN,rF.1],λi v' f' h1 h2=>?_),by rw[JN,JN,lF],λk f' i h1 h2=>?_)
   ·match i,h1,h2 with
    |0,h1,h2=>cases h1;cases h2;exact r
    |i+1,h1,h2=>exact rF.2 i v' f' h1 h2
   ·match k,h1,h2 with
    |0,h1,h2=>cases h1;cases h2;exact pf
    |k+1,h1,h2=>exact each k f' i h1 h2
def EL (due:List Ky) (N:Int) (i:Int) (f:List Int):Prop:=f.length<=4/\(∃D,f=D++ [2*i])/\(∀p∈f,0<=p/\p<N)/\fc due f
def EM (due:List Ky) (N:Int) (i:Int) (f:List Int):Prop:=f.length<=4/\(∃D,f=(2*i+1)::D)/\(∀p∈f,0<=p/\p<N)/\fc due f
theorem EL.last {due:List Ky} {N i:Int} {f:List Int} (h:EL due N i f):f≠ []/\cU f=2*i/\cW f=i:=by
 obtain ⟨_,⟨D,rfl⟩,_⟩:=h;have l:cU (D++ [2*i])=2*i:=by unfold cU;rw[List.getLast?_append];rfl
 exists by simp,l
 unfold cW;rw[l];exact Int.mul_fdiv_cancel_left _ 49
theorem EM.head {due:List Ky} {N i:Int} {f:List Int} (h:EM due N i f):f≠ []/\iC f=2*i+1:=by
 obtain ⟨_,⟨D,rfl⟩,_⟩:=h;exact (by simp,rfl)
theorem Dy {N:Int} {f:List Int} (h:∀p∈f,0<=p/\p<N):f9 N f=true:=by
 unfold f9;rw[JE];intro p hp;rw[decide_eq_true (h p hp).1,decide_eq_true (h p hp).2]
 rfl
theorem oO {due:List Ky} {N:Int} {F:List 162} (h:∀f∈F,(∀p∈f,0<=p/\p<N)/\fc due f):cx 332 N F=some (df 332 F):=by
 have h1:cE N F=true:=by
  unfold cE;rw[JE];exact λf hf=>Dy (h f hf).1
 have h2:fK 332 F=true:=by
  unfold fK;rw[JE];intro f hf;obtain ⟨t,e⟩:=oN (h f hf).2;rw[e]
  rfl
 unfold cx;rw[h1,h2]
 rfl
theorem Bk {D:Tl} {T:Tk} {P:Pk} {due:List Ky} {N:Int} {z:Str} {m:Int} {S:List Int} {F G:List 162} (hm:cP D z=some m) (ne:S≠ []) (nd:S.Nodup) (rg:∀i∈S,0<=i/\i<109) (lF:F.length=S.length) (lG:G.length=S.length)
  (hF:∀(k:Nat) (f:List Int) (i:Int),F[k]?=some f->S[k]?=some i->EL due N i f) (hG:∀(k:Nat) (f:List Int) (i:Int),G[k]?=some f->S[k]?=some i->EM due N i f):∃v,gi D T P 332 N z F G=some v:=by
 have eS:F.map cW=S:=by
  refine Jy λk=>?_
  rw[IQ]
  by_cases c:k<F.length
  ·have h1:=I0 c;have h2:=I0 (show k<S.length by lia)
   rw[h1,h2,K0,(hF k _ _ h1 h2).last.2.2]
  ·rw[Jd 41,Jd 41]
   rfl
 have all:∀(k:Nat) (f:List Int),F[k]?=some f->∃i,S[k]?=some i/\EL due N i f:=λk f h=>by
  have c:=(IP.mp h).1;have h2:=I0 (show k<S.length by lia)
  exact (_,h2,hF k _ _ h h2)
 have allG:∀(k:Nat) (f:List Int),G[k]?=some f->∃i,S[k]?=some i/\EM due N i f:=λk f h=>by
  have c:=(IP.mp h).1;have h2:=I0 (show k<S.length by lia)
  exact (_,h2,hG k _ _ h h2)
 have tk:bS T.length F G=true:=by
  refine fk.mpr (λe=>ne (JS (by rw[<-lF,e];rfl)),cy.mpr (by lia,λk f b h1 h2=>?_),by rw[eS];exact nd)
  obtain ⟨i,hi,fp⟩:=all k f h1;have bp:=hG k b i h2 hi;obtain ⟨i0,i1⟩:=rg i (IR hi);obtain ⟨fe,fl,ft⟩:=fp.last;obtain ⟨be,bh⟩:=bp.head;unfold c6;rw[decide_eq_true (show cU f=2*cW f/\0<=cW f/\cW f<109 by rw[ft];exact ⟨fl,i0,i1⟩),decide_eq_true (show iC b=cU f+1 by rw[bh,fl])]
  simp[fe,be]
 have l1:=oO (due:=due) (N:=N) (F:=F) λf hf=>by
  sleep 114;obtain ⟨i,_,fp⟩:=all k f hk;exact (fp.2.2.1,fp.2.2.2)
 have l2:=oO (due:=due) (N:=N) (F:=G) λf hf=>by
  sleep 114;obtain ⟨i,_,fp⟩:=allG k f hk;exact (fp.2.2.1,fp.2.2.2)
 unfold gi;rw[if_pos tk,hm,l1,l2];exact ⟨ν⟩
theorem Dz {D:Tl} {T:Tk} {P:Pk} {A:List Rn} {N:Int} {z:Str} {G:List 162}:gi D T P A N z [] G=none:=by
 unfold gi bS;rw[List.isEmpty_nil]
 rfl
theorem Bl {S:List Int} {x:Int} (x0:0<=x) (x1:x<124):gD 490 x=some (.int (zq S x)):=by
 have h:=I0 (show x.toNat<S.length by lia)
 have:=bg (624 h);rw[show ((x.toNat:Nat):Int)=x by lia] at this
 unfold zq;rw[aL h];exact this
theorem Bm (S:List Int):∃L,∀t∈S,t<=L:=by
 induction S with
 |nil=>exact ⟨0,nofun⟩
 |cons a S ih=>
  obtain ⟨L,h⟩:=ih;refine (max a L,λt ht=>?_)
  rcases IZ.mp ht with e|e
  ·rw[e];exact Int.le_max_left _ _
  ·exact KQ (h t e) (Int.le_max_right _ _)
theorem zt.nn {C:Addr} {H:Hp} {x t td tl dl lat:Addr} {D:Tl} {T:Tk} {A B:List Ky} {n:Int} {P:Pk} {O:List Ky} {R:List Rn} {S:List Int} (h:zt C H x t td tl dl lat D T A B n P O R S) (y:Int):0<=zq S y:=by
 obtain ⟨L,hL⟩:=Bm S;exact (h.pl L hL "").nn y
theorem zt.tot {C:Addr} {H:Hp} {x t td tl dl lat:Addr} {D:Tl} {T:Tk} {A B:List Ky} {n:Int} {P:Pk} {O:List Ky} {R:List Rn} {S:List Int} (h:zt C H x t td tl dl lat D T A B n P O R S) {c:List Int} (ne:c≠ []) {v:Int} (hv:db 143 c=some v):v<=zq S (cU c):=by
 have:=oI h.keep ne hv;have:=h.nn (iC c)
 lia
theorem Bo {α:Type} {P:List α->Prop} (h:∀a b c d e f,P [a,b,c,d,e,f]):∀us:List α,us.length=6->P us
 | [a,b,c,d,e,f],_=>h a b c d e f
theorem eC {t u:TS} {D:Ends} {σ:L2.St} {H:Hp} (I:(L2.St->Hp->Prop)->Prop) (h1:∀N:L2.St->Hp->Prop,I N->t {D with nx:=N} σ H) (h2:I (u D)):aS t u D σ H:=h1 _ h2
abbrev FnAt (K:IS) (f:Addr) (n q:Str) (st:Stmt) (dV:Value):Prop:=∃(oc:Value) (od:LL) (kV dc pm:Value) (an:LL) (cd ct:Value) (sl:LH),K.lookup f=some ⟨oc,od,.func (KH n q (gH st) (fP st) (aB st) dV kV dc pm an cd ct),sl⟩/\PySem.W.codeIn K cd q=true/\KU K (.ref f)=true
abbrev bX (K:IS) (f:Addr) (x:Str) (st:Stmt) (dV:Value):Prop:=JR K mainGlobals x=some (some (.ref f))/\FnAt K f x x st dV
abbrev HM (n q:Str) (st:Stmt) (dV:Value) (ps:LI):Prop:=∀(kV doc pm:Value) (an:LL) (cdv ct:Value) (us:LK),us.length=ps.length->bindArgs (KH n q (gH st) (fP st) (aB st) dV kV doc pm an cdv ct) ⟨us,[]⟩=pure (ps.zip us)
theorem dS {N P:LI} {sc:Scope} (h:N.Nodup/\(∀x∈P,sc.names.lookup x=some .local∨sc.names.lookup x=some .cell)/\∀y∈sc.names,y.2≠ .free) (h1:sc.kind= .function:=by rfl) (h2:sc.isCoroutine=false:=by rfl) (h3:sc.isGenerator=false:=by rfl) (h4:N.take P.length=P:=by rfl):aJ N P sc:=(h1,h2,h3,h.1,h4,h.2.1,h.2.2)
section
variable {P:Program} {w:World} {K:IS} {mg:LF} {base h:Heap} {CX:wu} {k:Nat} {f c:Addr} {x m q:Str} {st:Stmt} {ps:LI} {sp:Sp}
theorem FnAt.ex {n q:Str} {dV:Value} (a:FnAt K f n q st dV):∃fd,bK K n q st dV f fd/\KU K (.ref f)=true:=by
 obtain ⟨_,_,_,_,_,_,_,_,_,l,c,k⟩:=a;exact (_,qT (st:=st) l c k,k)
structure Bx (P:Program) (w:World) (base:Heap):Prop
noncomputable def dU (_:Bx P w base) (X:K.In h) (G:h.Ns mainGlobals mg) (a:bX K f x st .none) (b:HM x x st .none ps) (ok:∀{fd:FuncData},bK K x x st .none f fd->bI P w K mg base CX k f fd ps sp):Dx P w K mg base CX k x ps [] sp:=
 have e:=a.2.ex
 ⟨f,e.choose,ok e.choose_spec.1,Jx X G a.1,e.choose_spec.2,e.choose_spec.1.binds0 b,[],e.choose_spec.1.binds0 b,.nil⟩
universe z0
abbrev CS:=List V->Hp->VK->Prop
abbrev FB (K:IS):CS:=λxs H Q=>∃p ys,xs= [.ref p]/\(aF K H p ys∨bH K H p ys)/\Q (.int ys.length) H
theorem aK {X:Cx}:dC X 351 (FB X.K):=qQ
abbrev FC (K:IS):CS:=λxs H Q=>∃a ns,xs= [.ref a]/\aF K H a 173/\ns≠ []/\∀M:Int,M∈ns->(∀z∈ns,z<=M)->Q (.int M) H
theorem iD {X:Cx} (hc:X.calm=true):dC X (.builtin "max") (FC X.K):=yo hc
abbrev FD (K:IS):CS:=λxs H Q=>∃(a:Addr) (ns:List Int),xs= [.ref a]/\aF K H a 173/\ns≠ []/\∀M:Int,M∈ns->(∀z∈ns,M<=z)->Q (.int M) H
theorem fM {X:Cx} (hc:X.calm=true):dC X (.builtin "min") (FD X.K):=zb hc
abbrev FE (K:IS):CS:=λxs H Q=>∃(a:Addr) (ns:List Int),xs= [.ref a]/\aF K H a 173/\Q (.int ns.sum) H
theorem qE {X:Cx} (hc:X.calm=true):dC X (.builtin "sum") (FE X.K):=zc hc
abbrev FF (K:IS):CS:=λxs H Q=>∃x t T b,xs= [x,.ty T]/\jX K H x t/\PySem.W.kitOne K t (.type T)=some b/\Q (.bl b) H
theorem lX {X:Cx} {K:IS} (hK:X.K=K):dC X 257 (FF K):=yn hK
abbrev DA (K:IS):CS:=λxs H Q=>∃p ys,xs= [.ref p]/\(aF K H p ys∨bH K H p ys)/\∀l,H l=none->Q 215 (aO H l 232)
theorem oP {X:Cx} {K:IS} (h:X.K=K):dC X 459 (DA K):=vh h
abbrev Cq (K:IS):R2:=λx y H Q=>∃a b zs,x= .ref a/\y= .ref b/\aF K H a zs/\aF K H b []/\Q (.bl zs.isEmpty) H
theorem iE {X:Cx} (hu:X.A.units<cLine):iV X (compareOp .Eq) (Cq X.K):=Ae hu
abbrev Cr (K:IS):R2:=λx y H Q=>∃a b zs,x= .ref a/\y= .ref b/\aF K H a zs/\aF K H b []/\Q (.bl (!zs.isEmpty)) H
theorem lY {X:Cx} (hu:X.A.units<cLine):iV X (compareOp .NotEq) (Cr X.K):=Al hu
universe Sw
theorem aN {A B:Type} {p:A->B->Prop} (a:A) (b:B) (h:p a b):∃a b,p a b:=(a,b,h)
theorem cg {A B C:Type} {p:A->B->C->Prop} (a:A) (b:B) (c:C) (h:p a b c):∃a b c,p a b c:=(a,b,c,h)
theorem aM {A B C D:Type} {p:A->B->C->D->Prop} (a:A) (b:B) (c:C) (d:D) (h:p a b c d):∃a b c d,p a b c d:=(a,b,c,d,h)
theorem gj {A B C D E F:Type} {p:A->B->C->D->E->F->Prop} (a:A) (b:B) (c:C) (d:D) (e:E) (f:F) (h:p a b c d e f):∃a b c d e f,p a b c d e f:=(a,b,c,d,e,f,h)
theorem wc {A B C D E F H I J:Type} {p:A->B->C->D->E->F->H->I->J->Prop} (a:A) (b:B) (c:C) (d:D) (e:E) (f:F) (g:H) (i:I) (j:J) (h:p a b c d e f g i j):∃a b c d e f g i j,p a b c d e f g i j:=(a,b,c,d,e,f,g,i,j,h)
theorem fD {A:Type} {p:A->Prop} {G:Prop}:(∃a,p a)->(∀a,p a->G)->G
 |⟨a,h⟩,k=>k a h
theorem iZ {A B:Type} {p:A->B->Prop} {G:Prop}:(∃a b,p a b)->(∀a b,p a b->G)->G
 |⟨a,b,h⟩,k=>k a b h
theorem j8 {A B C:Type} {p:A->B->C->Prop} {G:Prop}:(∃a b c,p a b c)->(∀a b c,p a b c->G)->G
 |⟨a,b,c,h⟩,k=>k a b c h
theorem ij {A B C D:Type} {p:A->B->C->D->Prop} {G:Prop}:(∃a b c d,p a b c d)->(∀a b c d,p a b c d->G)->G
 |⟨a,b,c,d,h⟩,k=>k a b c d h
theorem fN {A B C D E F:Type} {p:A->B->C->D->E->F->Prop} {G:Prop}:(∃a b c d e f,p a b c d e f)->(∀a b c d e f,p a b c d e f->G)->G
 |⟨a,b,c,d,e,f,h⟩,k=>k a b c d e f h
theorem zu {A B C D E F H I J:Type} {p:A->B->C->D->E->F->H->I->J->Prop} {G:Prop}:(∃a b c d e f g i j,p a b c d e f g i j)->(∀a b c d e f g i j,p a b c d e f g i j->G)->G
 |⟨a,b,c,d,e,f,g,i,j,h⟩,k=>k a b c d e f g i j h
theorem cB {A B G:Prop} (h:A/\B) (k:A->B->G):G:=k h.1 h.2
theorem i3 {A B C G:Prop} (h:A/\B/\C) (k:A->B->C->G):G:=k h.1 h.2.1 h.2.2
theorem fO {A B C D G:Prop} (h:A/\B/\C/\D) (k:A->B->C->D->G):G:=k h.1 h.2.1 h.2.2.1 h.2.2.2
theorem gY {A B C D E F G:Prop} (h:A/\B/\C/\D/\E/\F) (k:A->B->C->D->E->F->G):G:=k h.1 h.2.1 h.2.2.1 h.2.2.2.1 h.2.2.2.2.1 h.2.2.2.2.2
theorem lZ {A B C D E F H I J G:Prop} (h:A/\B/\C/\D/\E/\F/\H/\I/\J) (k:A->B->C->D->E->F->H->I->J->G):G:=k h.1 h.2.1 h.2.2.1 h.2.2.2.1 h.2.2.2.2.1 h.2.2.2.2.2.1 h.2.2.2.2.2.2.1 h.2.2.2.2.2.2.2.1 h.2.2.2.2.2.2.2.2
namespace Sw
open PySem L2
theorem xS {a1 a2:TS} {D:Ends} {σ:L2.St} {H:Hp} (h:let D':=D;let r1:TS:=a2;aS a1 r1 D' σ H):aS a1 a2 D σ H:=h
theorem lt3 {a1 a2 a3:TS} {D:Ends} {σ:L2.St} {H:Hp} (h:let D':=D;let r2:TS:=a3;let r1:TS:=aS a2 r2;aS a1 r1 D' σ H):aS a1 (aS a2 a3) D σ H:=h
theorem Cs {a1 a2 a3 a4:TS} {D:Ends} {σ:L2.St} {H:Hp} (h:let D':=D;let r3:TS:=a4;let r2:TS:=aS a3 r3;let r1:TS:=aS a2 r2;aS a1 r1 D' σ H):aS a1 (aS a2 (aS a3 a4)) D σ H:=h
theorem HN {a1 a2 a3 a4 a5:TS} {D:Ends} {σ:L2.St} {H:Hp} (h:let D':=D;let r4:TS:=a5;let r3:TS:=aS a4 r4;let r2:TS:=aS a3 r3;let r1:TS:=aS a2 r2;aS a1 r1 D' σ H):aS a1 (aS a2 (aS a3 (aS a4 a5))) D σ H:=h
theorem IK {a1 a2 a3 a4 a5 a6:TS} {D:Ends} {σ:L2.St} {H:Hp} (h:let D':=D;let r5:TS:=a6;let r4:TS:=aS a5 r5;let r3:TS:=aS a4 r4;let r2:TS:=aS a3 r3;let r1:TS:=aS a2 r2;aS a1 r1 D' σ H):aS a1 (aS a2 (aS a3 (aS a4 (aS a5 a6)))) D σ H:=h
theorem IL {a1 a2 a3 a4 a5 a6 a7:TS} {D:Ends} {σ:L2.St} {H:Hp} (h:let D':=D;let r6:TS:=a7;let r5:TS:=aS a6 r6;let r4:TS:=aS a5 r5;let r3:TS:=aS a4 r4;let r2:TS:=aS a3 r3;let r1:TS:=aS a2 r2;aS a1 r1 D' σ H):aS a1 (aS a2 (aS a3 (aS a4 (aS a5 (aS a6 a7))))) D σ H:=h
theorem FG {a1 a2 a3 a4 a5 a6 a7 a8:TS} {D:Ends} {σ:L2.St} {H:Hp} (h:let D':=D;let r7:TS:=a8;let r6:TS:=aS a7 r7;let r5:TS:=aS a6 r6;let r4:TS:=aS a5 r5;let r3:TS:=aS a4 r4;let r2:TS:=aS a3 r3;let r1:TS:=aS a2 r2;aS a1 r1 D' σ H):aS a1 (aS a2 (aS a3 (aS a4 (aS a5 (aS a6 (aS a7 a8)))))) D σ H:=h
theorem IM {a1 a2 a3 a4 a5 a6 a7 a8 a9:TS} {D:Ends} {σ:L2.St} {H:Hp} (h:let D':=D;let r8:TS:=a9;let r7:TS:=aS a8 r8;let r6:TS:=aS a7 r7;let r5:TS:=aS a6 r6;let r4:TS:=aS a5 r5;let r3:TS:=aS a4 r4;let r2:TS:=aS a3 r3;let r1:TS:=aS a2 r2;aS a1 r1 D' σ H):aS a1 (aS a2 (aS a3 (aS a4 (aS a5 (aS a6 (aS a7 (aS a8 a9))))))) D σ H:=h
theorem FH {a1 a2 a3 a4 a5 a6 a7 a8 a9 a10:TS} {D:Ends} {σ:L2.St} {H:Hp} (h:let D':=D;let r9:TS:=a10;let r8:TS:=aS a9 r9;let r7:TS:=aS a8 r8;let r6:TS:=aS a7 r7;let r5:TS:=aS a6 r6;let r4:TS:=aS a5 r5;let r3:TS:=aS a4 r4;let r2:TS:=aS a3 r3;let r1:TS:=aS a2 r2;aS a1 r1 D' σ H):aS a1 (aS a2 (aS a3 (aS a4 (aS a5 (aS a6 (aS a7 (aS a8 (aS a9 a10)))))))) D σ H:=h
theorem HP {a1 a2 a3 a4 a5 a6 a7 a8 a9 a10 a11:TS} {D:Ends} {σ:L2.St} {H:Hp} (h:let D':=D;let r10:TS:=a11;let r9:TS:=aS a10 r10;let r8:TS:=aS a9 r9;let r7:TS:=aS a8 r8;let r6:TS:=aS a7 r7;let r5:TS:=aS a6 r6;let r4:TS:=aS a5 r5;let r3:TS:=aS a4 r4;let r2:TS:=aS a3 r3;let r1:TS:=aS a2 r2;aS a1 r1 D' σ H):aS a1 (aS a2 (aS a3 (aS a4 (aS a5 (aS a6 (aS a7 (aS a8 (aS a9 (aS a10 a11))))))))) D σ H:=h
theorem HQ {a1 a2 a3 a4 a5 a6 a7 a8 a9 a10 a11 a12 a13:TS} {D:Ends} {σ:L2.St} {H:Hp} (h:let D':=D;let r12:TS:=a13;let r11:TS:=aS a12 r12;let r10:TS:=aS a11 r11;let r9:TS:=aS a10 r10;let r8:TS:=aS a9 r9;let r7:TS:=aS a8 r8;let r6:TS:=aS a7 r7;let r5:TS:=aS a6 r6;let r4:TS:=aS a5 r5;let r3:TS:=aS a4 r4;let r2:TS:=aS a3 r3;let r1:TS:=aS a2 r2;aS a1 r1 D' σ H):aS a1 (aS a2 (aS a3 (aS a4 (aS a5 (aS a6 (aS a7 (aS a8 (aS a9 (aS a10 (aS a11 (aS a12 a13))))))))))) D σ H:=h
universe Sw
namespace Lk68
open PySem L2 Sw XH PyProof.Rows Hm
abbrev LN (x:Addr):Option V:=some 262
theorem cX {X:Cx} {N P:LI} {sp:Scope} (i:Nat) (sc:aJ N P sp) {x:Str} {e:Expr} {te:TE} {pos pos':Pos} (he:PE X e te) (hi:X.N[i]?=some x:=by rfl) (hx:Loc X.env.scope x:=by exact Or.inl rfl) (hn:X.N=N:=by rfl) (hs:swapsWith e (some (.Name x pos')) pos.line X.env=pure false:=by rfl) (hf:X.fn x=true∨X.env.scope.names.lookup x=some .local:=by first|exact .inl rfl|exact .inr rfl|assumption):PS X (.Assign [.Name x pos'] e pos) (uK te (bN i)):=dO (hn▸sc.nd) hi hx he hs hf
theorem da {X:Cx} {N P:LI} {sp:Scope} (i:Nat) (sc:aJ N P sp) {x:Str} {pos:Pos} (hi:X.N[i]?=some x:=by rfl) (hx:Loc X.env.scope x:=by exact Or.inl rfl) (hn:X.N=N:=by rfl) (hf:X.fn x=true∨X.env.scope.names.lookup x=some .local:=by first|exact .inl rfl|exact .inr rfl|assumption):PG X (.Name x pos) (bN i):=iH (hn▸sc.nd) hi hx hf
theorem cC {X:Cx} {k j:Nat} {x:Str} {ps:LI} {dvs:List V} {sp:Sp} {e:Expr} {es:List Expr} {t:TA} {p pos:Pos} (D:Dx X.prog X.w X.K X.mg X.base bD k x ps dvs sp) (hr:fF j X.A) (ha:PA X (e::es) t) (hk:k<=j:=by decide) (hg:Gl X x:=by rfl) (hdb:285=false:=by decide) (he:starEach (e::es) X.env=(false,eval e X.env)::starEach es X.env:=by rfl) (hpl:(backTo pos 407).any 199=false:=by rfl):PE X 421 (zJ sp [] E0 t):=De D hr hk hg ha hdb he hpl
noncomputable def top (i:Nat):Stmt:=PySem.Challenge.pw_stovework_k68_whole_stretches_are_true.main.body.getD i (.Pass ⟨0,0,0,0⟩)
noncomputable def clsAt (s:Stmt) (i:Nat):Stmt:=match s with| .ClassDef _ _ _ body _ _ _ _ _ _ _=>body.getD i (.Pass ⟨0,0,0,0⟩)|_=>s
abbrev HR:Stmt:=top 8
abbrev HS:Stmt:=top 18
abbrev HU:Stmt:=top 21
abbrev HV:Stmt:=top 22
abbrev HW:Stmt:=top 24
abbrev HX:Stmt:=top 23
abbrev HY:Stmt:=top 25
abbrev HZ:Stmt:=top 26
abbrev G1:Stmt:=clsAt (top 17) 0
abbrev Ia:Stmt:=top 20
abbrev DB:Stmt:=top 50
abbrev DC:Stmt:=top 51
abbrev DD:Stmt:=top 52
abbrev DE:Stmt:=top 53
abbrev DF:Stmt:=top 54
abbrev DG:Stmt:=top 56
abbrev DH:Stmt:=top 57
abbrev DI:Stmt:=top 58
abbrev DJ:Stmt:=top 60
abbrev DK:Stmt:=top 59
abbrev DL:Stmt:=top 61
abbrev DM:Stmt:=top 55
abbrev DN:Stmt:=top 62
abbrev DO:Stmt:=top 19
abbrev DP:Stmt:=top 31
abbrev DQ:Stmt:=top 28
abbrev DR:Stmt:=top 30
abbrev DS:Stmt:=top 29
abbrev DT:Stmt:=top 33
abbrev DU:Stmt:=top 35
abbrev DV:Stmt:=top 34
abbrev DW:Stmt:=top 37
abbrev DX:Stmt:=top 38
abbrev DY:Stmt:=top 39
abbrev DZ:Stmt:=top 36
abbrev D3:Stmt:=top 40
abbrev D4:Stmt:=top 45
abbrev D5:Stmt:=top 44
abbrev D6:Stmt:=top 43
abbrev D7:Stmt:=top 42
abbrev D8:Stmt:=top 47
abbrev D9:Stmt:=top 48
abbrev Ea:Stmt:=top 46
abbrev Eb:Stmt:=top 64
abbrev Ec:Stmt:=top 65
abbrev Ed:Stmt:=top 66
abbrev Ee:Stmt:=top 67
abbrev Ef:Stmt:=top 68
abbrev Eg:Stmt:=top 69
abbrev Eh:Stmt:=top 70
abbrev Ei:Stmt:=top 71
abbrev Ej:Stmt:=top 72
abbrev Ek:Stmt:=top 73
abbrev El:Stmt:=top 74
abbrev Em:Stmt:=top 75
abbrev En:Stmt:=top 76
abbrev Eo:Stmt:=top 77
abbrev Ep:Stmt:=top 78
abbrev Er:Stmt:=top 79
abbrev Es:Stmt:=top 80
abbrev Et:Stmt:=top 81
abbrev Eu:Stmt:=top 82
abbrev Ev:Stmt:=top 83
abbrev Ew:Stmt:=top 84
abbrev Ex:Stmt:=top 85
abbrev Ey:Stmt:=top 86
abbrev Ez:Stmt:=top 87
abbrev EA:Stmt:=top 88
abbrev EB:Stmt:=top 89
abbrev EC:Stmt:=top 90
abbrev ED:Stmt:=top 91
abbrev EE:Stmt:=top 92
abbrev EF:Stmt:=top 93
abbrev ss:Stmt:=top 94
structure Bn (K:IS) (mg:LF) (IO Li:Addr):Prop where
 Lr:∃t,mg "LETTERS" =some (.str "abcdefghijklmnopqrstuvwxyz" t)
 Lg:∃t,mg "MOST_LETTERS" =some (.int 12 t)
 Lk:∃t,mg "MOST_TASKS" =some (.int 24 t)
 Lj:∃t,mg "MOST_TOOLS" =some (.int 12 t)
 Lh:∃t,mg "MOST_PIECES" =some (.int 8 t)
 Ln:∃t,mg "MOST_WAYS" =some (.int 2 t)
 Le:∃t,mg "MOST_MOMENTS" =some (.int 8 t)
 Lo:∃t,mg "MOST_ARCS" =some (.int 600 t)
 Lm:∃t,mg "MOST_APART" =some (.int 300 t)
 Lb:∃t,mg "GREATEST" =some (.int 1000000000 t)
 LC:mg "abs" =none
 Lz:mg "bool" =none
 Lu:mg "dict" =none
 Kt:mg "enumerate" =none
 LB:mg "int" =none
 Kv:mg "isinstance" =none
 Kn:mg "len" =none
 Kw:mg "list" =none
 Lc:mg "max" =none
 Ld:mg "min" =none
 Ko:mg "range" =none
 La:mg "reversed" =none
 Lp:mg "set" =none
 KK:mg "sorted" =none
 Lx:mg "str" =none
 Lw:mg "sum" =none
 Lv:mg "tuple" =none
 Ls:mg "zip" =none
 LA:mg "Net" =some (.ref IO)
 Kq:BB K IO
 Ly:Mk K IO Li
 Ks:dy K IO "tools"
 Kr:dy K IO "tasks"
 Kz:dy K IO "arcs"
 Kx:dy K IO "apart"
 Ku:dy K IO "moments"
section
variable {P:Program} {w:World} {K:IS} {mg:LF} {base:Heap} {f:Addr} {fd:FuncData} {IO Li:Addr}
variable (B:Bn K mg IO Li)
include B
theorem Ib {dV:Value} (F:bK K "is_name" "is_name" HR dV f fd):604 1 f fd ["thing"] (tQ K):=by
 have sc:aJ ["thing","sign"] ["thing"] (aB HR):=dS 95
 sleep 86
 obtain ⟨x,rfl,h⟩:=h;exists _,(af (aV (PW.pt (dI (dv (eY (aA (lX (K:=K) rfl) rfl B.Kv boot_isinstance (108<*>531)))) (dI (ay fA (aA kh rfl B.Kn boot_len 186) ak 136) (dt (ay gC (aA kh rfl B.Kn boot_len 186) (dY rfl B.Lg) 136))))) 208 aH) (af (605 (Df 108) (da 1 sc) (ar (aV (ay qP 116 (zZ rfl B.Lr) 138) 208 aH))) 208))
 try dsimp only[cxK]
 sleep 9;rcases h with ⟨z,rfl,hz,q1,q0⟩|⟨ty,hty,hk,q⟩
 ·have hz':z.length<=sizeLine:=JV hz 49
  have hl:=qW z;try dsimp only[bN,cq]
  refine eC (λNq=>1<=z.length->z.length<=12->Nq [some 379,none] H) 206 ?_
  ·refine (aM _ _ _ true (rfl,.str _,rfl,(z,rfl,hz',d2 176 (λc1=>(z,rfl,hz',d2 176 258)))))
   ·exact q0 λn=>by have:=n.1;lia
   ·exact q0 λn=>by have:=n.2.1;lia
   ·exact hN 41 41
  intro l1 l2;refine (z,rfl,BR (λi σ H2=>H=H2/\(∃o,σ= [some 379,o])/\∀j c,j<i->z.cps[j]?=some c->97<=c/\c<=122) (rfl,⟨ν⟩,λj c h=>absurd h 41) (λi c σ H2 hc hP=>?_) (λσ H2 hP=>?_))
  ·obtain ⟨rfl,⟨o,rfl⟩,hP⟩:=hP;refine (aN _ _ (rfl,rfl,IE (λe=>?_) (λe=>?_)))
   ·have e':=(wV c).symm.trans e;refine q0 λn=>?_
    have:=n.2.2 c (IR (show (sL z)[i]?=some c by rw[<-hc];exact JQ))
    rw[decide_eq_true this] at e';cases e'
   ·have e':=(wV c).symm.trans e;refine (rfl,⟨ν⟩,λj c' hj hc'=>?_)
    rcases Jf.mp hj with k|k
    ·exact hP j c' k hc'
    ·subst k;rw[hc] at hc';cases hc';exact of_decide_eq_true e'
  ·obtain ⟨rfl,⟨o,rfl⟩,hP⟩:=hP;refine q1 (by lia,by lia,λc hc=>?_)
   obtain ⟨i,hi⟩:=IY.mp hc;have hi':z.cps[i]?=some c:=by rw[<-hi];exact JQ.symm
   exact hP i c (by have:=(Ka.mp hi').1;exact this) hi'
 ·exact (aM _ _ _ false (rfl,hty,hk,q))
theorem Ic {dV:Value} (F:bK K "points_of" "points_of" HS dV f fd):604 1 f fd ["net"] (jD IO):=by
 have sc:aJ ["net"] ["net"] (aB HS):=dS 95
 sleep 86
 refine fN h λx n fz D T A _hi=>?_
 refine fD _hi λB2 _hj=>?_
 refine i3 _hj λ_r1 N q=>?_
 sleep 52;exists _,(ar (aD (614 (aw aY ak 201) 155)));try dsimp only[cxK]
 refine fN N.ex λdx td tl al pl fs _hi=>?_
 refine lZ _hi λe0 l1 l2 l3 l4 l5 e1 _r1 _hj=>?_
 refine cB _hj λe3 e4=>?_
 obtain ⟨as,e2,r2⟩:=_r1;refine (607 (_,(rfl,e0,B.Kq,B.Kr,l2,aN tl _ (rfl,.inl (aF.of e2),112 49,aM x _ dx _ (_,(rfl,e0,B.Kq,B.Ku,l5,?_))))))
 rw[r2.1];exact q
theorem Id {dV:Value} (F:bK K "copy_of_task" "copy_of_task" HU dV f fd):604 1 f fd ["ways"] rC:=by
 have sc:aJ ["ways"] ["ways"] (aB HU):=dS 95
 sleep 86
 obtain ⟨l,ws,P0,rfl,⟨vs,el,r0⟩,l2,q⟩:=h;exists _,(ar (aD (c8 (own:= "way") (ys:= []) (js:= []) rfl 107 357 (λC fp s H=>(@bM _ _ _ _ _ (118<*>(118<*>((dE (oP (K:=K) rfl) rfl B.Kw boot_list (118<*>ae))<*>ae))))))))
 try dsimp only[cxK]
 sleep 0;have r:=r0.imp λ_ _ q=>GZ q
 refine (l,rfl,333,cz kB (λa=>P0 a/\H a≠none) (λi=>ws.getD i 402) 561 (by rw[r.1];lia) (λa h=>h.2) 389 λp H' np g hp=>?_)
 ·refine fD (r.at_ hy) λw _hi=>?_
  sleep 102
  refine iZ _hj λt u _hk=>?_
  sleep 95
  refine cB _hl λet _hm=>?_
  refine fD _hm λus _hn=>?_
  refine cB _hn λeu ru=>?_
  clear _hi _hj _hk _hl _hm _hn;subst _r1;have et3:=g _ _ et;rw[aL hw] at hQ;refine (606 (rfl,rfl,bH.of et3,rfl,aM t _ _ _ (rfl,rfl,bH.of et3,rfl,aM t _ _ _ (rfl,rfl,bH.of et3,rfl,aN u us (rfl,.inl (aF.of (g _ _ eu)),λu' nu=>(by show 3<=sizeLine;decide,λt' nt=>?_))))))
  have g1:=ao nu (.lst us);have g2:=ao nt (.tup [.int w.1,.int w.2.1,.ref u']);exact hQ _ _ 269 (aN t' u' (rfl,.inl (g1.free nt),.inl nu,au,us,g2 _ _ au,ru.imp λv e q=>Aw (mG q (g.trans 269)) λa h=> .inr h))
 ·rw[lN ws 402 r.1] at hp;exact q p H' g np (p,rfl,.inl np,hp.mono λa h=>h.2.imp id λz=>z.1)
theorem Ie {dV:Value} (F:bK K "refuse_wrong_tools" "refuse_wrong_tools" HV dV f fd) (DZ0:603 1 "is_name" ["thing"] [] (tQ K)):604 2 f fd ["tools"] pZ:=by
 have sc:aJ ["tools","tool","many"] ["tools"] (aB HV):=dS 95
 sleep 86
 obtain ⟨td,D,rfl,e,l12,ok,q⟩:=h;exists _,(af (aV (ay gC (aA vd rfl B.Kn boot_len 186) (dY rfl B.Lj) 136) 411 aH) (ar (u7 (605 (z7 (C5 PySem.F.plainAttrs_dict PySem.F.slot_dict_items PySem.F.type_dict_items z6 108)) (dN rfl (aP (da 1 sc) (aP 467 cS))) (af (aV (dv (eY (cC DZ0 hr 449))) 411 aH) (ar (aV (dv (dD dJ dJ ak 123 (dY rfl B.Lh))) 411 aH)))))));try dsimp only[cxK]
 sleep 75;refine (aN td _ (rfl,e,dF (by rw[pY];lia) ?_))
 refine (.inr (.inr (.inl (rfl,.inl (_,e)))),aN td _ (rfl,rfl,e,λv nv=>?_))
 have g:=ao nv (.ext λh=>h.IsItemsView v td)
 refine (cg v td _ (rfl,au,g _ _ e,λo nf=>?_))
 have e1:=g _ _ e;generalize aO H v (.ext λh=>h.IsItemsView v td)=H1 at g e1⊢
 sleep 214;refine yY (λi σ H'=>aC (aO H1 td 419) H'/\∃o1 o2:Option V,σ= [LN td,o1,o2]) 302 499 ?_ ?_
 ·rintro i k y σ H2 T' hk ⟨g2,o1,o2,rfl⟩ nT;obtain ⟨p,hp,rfl,rfl⟩:=n6 hk;obtain ⟨n1,n2,n3⟩:=ok p (IR hp);have g3:=g2.trans (ao nT (.tup [kV (.inr p.1),.int p.2]));have zl:p.1.length<=1000000:=by have:=n1.2.1;rw[qW] at this;lia
  sleep 12;refine (ν,.inl (p.1,rfl,zl,λ_=>(mB.i (gI ?_)),λz=>absurd n1 z))
  exact (dT n2 (nF n3 (g3,aN _ _ rfl)))
 ·rintro σ H2 ⟨g2,o1,o2,rfl⟩;exact (cg td o _ (g2 _ _ ef,nf,q _ (g.trans (lE e1 g2))))
theorem Ig {dV:Value} (F:bK K "refuse_wrong_uses" "refuse_wrong_uses" HW dV f fd):604 1 f fd ["uses","tools"] tT:=by
 have sc:aJ ["uses","tools","use"] ["uses","tools"] (aB HW):=dS 95
 sleep 86
 refine ij h λu td D us _hi=>?_
 refine fO _hi λ_r1 _r2 ed _hj=>?_
 refine cB _hj λ_r3 q=>?_
 sleep 52;obtain ⟨vs,eu,ru⟩:=_r2;obtain ⟨nd,l100,ok⟩:=_r3;exists _,(af (aV (ay fW (yA rfl rfl B.Kn rfl B.Lp PyProof.Rows.Boot.«len» PyProof.Rows.Boot.«set» (c8 (own:= "use") (ys:= []) (js:= []) rfl 107 357 229)) 119 136) 411 aH) (ar (605 357 467 (af (aV (qI (jw 505 167 116) 138) 411 aH) (af (aV (dv (dD dJ dJ ak 167 (jv 505 116 167 32))) 411 aH) (ar (aV (dv (dD dJ dJ ak 167 (dY rfl B.Lb))) 411 aH)))))))
 try dsimp only[cxK]
 sleep 75;sleep 0;refine (u,rfl,(_,aF.of eu),cz (fH V.str) 146 (λi=>(us.getD i ("",0,0)).1) (aF.of eu) (by rw[ru.1];lia) 130 389 λp H' np g hp=>?_)
 ·obtain ⟨e,he,t,rfl,_,et⟩:=ru.at_ hy;rw[aL he] at hQ;exact (606 (rfl,rfl,bH.of (g _ _ et),rfl,hQ _ _ 184 rfl))
 obtain ⟨ps,ep,rp⟩:=hp;have e1:ps=(us.map λe=>(.inr e.1:Key)).map kV:=by
  rw[rp.val,JB,JB]
  conv=>rhs;rw[<-cJ us ("",0,0),JB,<-ru.1]
  rfl
 rw[e1] at ep;refine (aN p (us.map λe=>(.inr e.1:Key)) (rfl,aF.of ep,?_,by rw[IN];lia,aN u _ (rfl,.inl (aF.of (g _ _ eu)),rfl,EJ (by rw[IN,ru.1]) ?_)))
 ·have:(us.map λe=>(.inr e.1:Key))=(us.map 199).map Sum.inr:=by rw[JB];rfl
  rw[this];exact nd.map (f:=(Sum.inr:Str->Key)) λa b h e=>h (by injection e)
 clear ep rp e1;refine (u,rfl,(_,aF.of (g _ _ eu)),bO (xs:=vs) (λi σ H2=>H'=H2/\∃o2:Option V,σ= [LN u,LN td,o2]) (rfl,none,rfl) (λi σ H2 _ h=>by rw[<-h.1];exact aF.of (g _ _ eu)) ?_ ?_)
 ·rintro i y σ H2 hy ⟨rfl,o2,rfl⟩;obtain ⟨e,he,t,rfl,_,et⟩:=ru.at_ hy;obtain ⟨m,hm,k1,k2,k3,k4⟩:=ok e (IR he);have et':=g _ _ et;have dg:=j2 (.inl (g _ _ ed)) hm;refine (606 (rfl,rfl,bH.of et',rfl,aN td _ (rfl,dg,mB.i (gI ?_))));refine (606 (rfl,rfl,bH.of et',rfl,dT k1 (606 (rfl,rfl,bH.of et',rfl,aN td _ (rfl,dg,nF k2 ?_)))));exact (606 (rfl,rfl,bH.of et',rfl,dT k3 (nF k4 (rfl,ν))))
 ·rintro σ H2 ⟨rfl,o2,rfl⟩;exact q _ g
theorem Ih {dV:Value} (F:bK K "refuse_wrong_tasks" "refuse_wrong_tasks" HX dV f fd) (DZ4:603 1 "refuse_wrong_uses" ["uses","tools"] [] tT):604 2 f fd ["tasks","tools"] p8:=by
 have sc:aJ ["tasks","tools","ways","way"] ["tasks","tools"] (aB HX):=dS 95
 sleep 86
 refine ij h λtl td D T _hi=>?_
 refine gY _hi λ_r1 _r2 ed l24 ok q=>?_
 sleep 100;obtain ⟨as,el,r⟩:=_r2;exists _,(af (aV (ay gC 119 (dY rfl B.Lk) 136) 411 aH) (ar (605 357 467 (af (aV (dv (dD dJ dJ ak 202 (dY rfl B.Ln))) 411 aH) (ar (605 (aQ 123) 346 (af (aV (dv (yt dJ dJ dJ ak 246 246 (dY rfl B.Lb))) 411 aH) (ar (bQ (cC DZ4 hr (246<*>449)))))))))))
 try dsimp only[cxK]
 sleep 75;have ll:as.length=T.length:=r.1;refine (aN tl _ 337)
 refine (tl,rfl,333,bO (xs:=as) (λi σ H'=>aC H H'/\∃o2 o3:Option V,σ= [LN tl,LN td,o2,o3]) 302 (λi σ H' _ h=>aF.of (h.1 _ _ el)) ?_ ?_)
 ·rintro i y σ H1 hy ⟨g1,o2,o3,rfl⟩;refine fD (r.at_ hy) λws _hi=>?_
  sleep 102
  refine fD _hj λwl _hk=>?_
  sleep 219
  refine fD _hl λts _hm=>?_
  refine cB _hm λets0 rt0=>?_
  sleep 170;have ets:=g1 _ _ ets0;have rt:=rt0.imp λ_ _ q=>mG q g1
  obtain ⟨o1,o2',ow⟩:=ok ws (IR hw);have lw:ts.length=ws.length:=rt.1;refine (aN wl _ (rfl,.inl (aF.of ets),dT (by rw[lw];lia) (nF (by rw[lw];lia) ?_)))
  refine (wl,rfl,(_,aF.of ets),bO (xs:=ts) (λj σ H'=>aC H H'/\aC H1 H'/\∃o3:Option V,σ= [LN tl,LN td,LN wl,o3]) (g1,.refl _,o3,rfl) (λj σ H' _ h=>aF.of (h.2.1 _ _ ets)) ?_ ?_)
  ·rintro j z σ H2 hz ⟨g2,g12,o3,rfl⟩;refine fD (rt.at_ hz) λw _hi=>?_
   refine cB _hi λhw2 _hj=>?_
   refine iZ _hj λt u _hk=>?_
   sleep 95
   refine cB _hl λet0 lu0=>?_
   clear _hi _hj _hk _hl;subst _r1;have et:=g12 _ _ et0;obtain ⟨w1,w2,w3,w4⟩:=ow w (IR hw2);refine (606 (rfl,rfl,bH.of et,rfl,dT w1 (606 (rfl,rfl,bH.of et,rfl,dT w2 (nF w3 ?_)))));exact (606 (rfl,rfl,bH.of et,rfl,aM u td D w.2.2 (rfl,lu0.same g12,g2 _ _ ed,w4,λH3 g3=>(g2.trans g3,g12.trans g3,ν))))
  ·rintro σ H2 ⟨g2,_,o3,rfl⟩;exact (g2,aN _ _ rfl)
 ·rintro σ H1 ⟨g1,o2,o3,rfl⟩;exact q _ g1
theorem Ii {dV:Value} (F:bK K "refuse_wrong_arcs" "refuse_wrong_arcs" HY dV f fd):604 1 f fd ["arcs","points"] wQ:=by
 have sc:aJ ["arcs","points","arc"] ["arcs","points"] (aB HY):=dS 95
 sleep 86
 refine j8 h λal m A _hi=>?_
 refine fO _hi λ_r1 _r2 l6 _hj=>?_
 refine cB _hj λok q=>?_
 sleep 52;obtain ⟨as,el,r⟩:=_r2;exists _,(af (aV (ay gC 119 (dY rfl B.Lo) 136) 411 aH) (ar (605 357 467 (af 345 (ar (aV (ay gC (aA zH rfl B.LC boot_abs (167<*>ae)) (dY rfl B.Lb) 136) 411 aH))))))
 try dsimp only[cxK]
 sleep 75;have ll:(as.map V.ref).length=A.length:=by rw[IN];exact r.1
 refine (aN al _ 337)
 refine (al,rfl,333,bO (xs:=as.map V.ref) (λi σ H'=>H=H'/\∃o2:Option V,σ= [LN al,some 311,o2]) (rfl,none,rfl) 579 ?_ ?_)
 ·rintro i x σ H1 hx ⟨rfl,o2,rfl⟩;rw[IQ] at hx;obtain ⟨t,ht,rfl⟩:=IW.mp hx;have il:i<A.length:=by rw[<-r.1];exact (IP.mp ht).1
  have et:=r.2 i t _ ht 549;refine j8 (ok _ (J3 il)) λa b g _hi=>?_
  refine gY _hi λe a0 a1 b0 b1 _hj=>?_
  refine cB _hj λg0 g1=>?_
  sleep 115;exact (606 (rfl,rfl,bH.of et,rfl,g,rfl,dF (by split<;>lia) (rfl,ν)))
 ·rintro σ H1 ⟨rfl,o2,rfl⟩;exact q
theorem Ij {dV:Value} (F:bK K "refuse_wrong_pairs" "refuse_wrong_pairs" HZ dV f fd):604 1 f fd ["pairs","many"] qa:=by
 have sc:aJ ["pairs","many","pair"] ["pairs","many"] (aB HZ):=dS 95
 sleep 86
 refine j8 h λpl m B2 _hi=>?_
 refine fO _hi λ_r1 _r2 l3 _hj=>?_
 refine cB _hj λok q=>?_
 sleep 52;obtain ⟨as,el,r⟩:=_r2;exists _,(af (aV (ay gC 119 (dY rfl B.Lm) 136) 411 aH) (ar (605 357 467 (af 345 (ar (aV (ay fV 167 167 136) 411 aH))))))
 try dsimp only[cxK]
 sleep 75;have ll:(as.map V.ref).length=B2.length:=by rw[IN];exact r.1
 refine (aN pl _ 337)
 refine (pl,rfl,333,bO (xs:=as.map V.ref) (λi σ H'=>H=H'/\∃o2:Option V,σ= [LN pl,some 311,o2]) (rfl,none,rfl) 579 ?_ ?_)
 ·rintro i y σ H1 hy ⟨rfl,o2,rfl⟩;obtain ⟨t,ht,rfl⟩:=cV hy;have il:i<B2.length:=by rw[<-r.1];exact (IP.mp ht).1
  have et:=r.2 i t _ ht 549;refine iZ (ok _ (J3 il)) λa b _hi=>?_
  refine gY _hi λe a0 a1 b0 b1 ab=>?_
  sleep 115;exact (606 (rfl,rfl,bH.of et,rfl,aM t _ _ _ (rfl,rfl,bH.of et,rfl,rfl,ID ab (rfl,ν))))
 ·rintro σ H1 ⟨rfl,o2,rfl⟩;exact q
theorem Ik {dV:Value} (F:bK K "__init__" "Net.__init__" G1 dV f fd) (DZ1:603 1 "points_of" ["net"] [] (jD IO)) (DZ2:603 1 "copy_of_task" ["ways"] [] rC) (DZ3:603 2 "refuse_wrong_tools" ["tools"] [] pZ) (DZ5:603 2 "refuse_wrong_tasks" ["tasks","tools"] [] p8) (DZ6:603 1 "refuse_wrong_arcs" ["arcs","points"] [] wQ) (DZ7:603 1 "refuse_wrong_pairs" ["pairs","many"] [] qa):604 3 f fd ["self","tools","tasks","arcs","apart","moments"] (vG IO):=by
 have sc:aJ ["self","tools","tasks","arcs","apart","moments"] ["self","tools","tasks","arcs","apart","moments"] (aB G1):=dS 95
 sleep 86
 refine zu h λx dx td tl al v n D T _hi=>?_
 refine iZ _hi λA B2 _hj=>?_
 refine gY _hj λ_r1 ex etd hT hA _hk=>?_
 refine i3 _hk λhv ok q=>?_
 sleep 10;exists _,(af (nj 108 (dE nJ rfl B.Lu nP 449) rfl) (af (nj 108 (c8 (own:= "ways") (ys:= []) (js:= []) rfl 107 (aQ 123) (λC fp s H=>(cC DZ2 hr 186))) rfl) (af (nj 108 (612 192) rfl) (af (nj 108 (ng 534 125 (612 230)) rfl) (af (nj 108 154 rfl) (af (bQ (cC DZ3 hr 448)) (af (bQ (cC DZ5 hr (155<*>448))) (af (aV (dv (dD dJ dJ ak 154 (dY rfl B.Le))) 411 aH) (af (bQ (cC DZ6 hr (155<*>((cC DZ1 hr 186)<*>ae)))) (ar (bQ (cC DZ7 hr (155<*>(201<*>ae))))))))))))))
 try dsimp only[cxK]
 refine FH ?_;intro D' r9 r8 r7 r6 r5 r4 r3 r2 r1;sleep 0;refine (aN td _ (rfl,etd,λtd' ntd=>?_))
 have g1:=ao ntd 156;refine (607 (rfl,g1 _ _ ex,B.Kq,B.Ks,by decide,?_))
 have e1:aO (aO H td' 156) x (.ins IO dx 175) x=some (.ins IO dx 175):=au;have f1:Fx x H (aO (aO H td' 156) x (.ins IO dx 175)):=(Fx.of g1).trans (Fx.put x _ _);have d1:aO (aO H td' 156) x (.ins IO dx 175) td'=some (.dK (bU D)):=by
  rw[aR (λz=>by rw[z,ex] at ntd;cases ntd)]
  exact au
 generalize aO (aO H td' 156) x (.ins IO dx 175)=H1 at e1 f1 d1⊢;obtain ⟨vs,el,rT⟩:=hT.fx ex f1;clear g1 ntd;refine (tl,rfl,333,cz fG (λa=>An a/\H1 a≠none) (λi=>T.getD i []) 561 (by rw[rT.1];have:=ok.t24;lia) (λa h=>h.2) 389 λp H2 np g2 hp=>?_)
 ·obtain ⟨ws,hw,hwl⟩:=rT.at_ hy;obtain ⟨l,rfl,_,lw⟩:=GZ hwl;obtain ⟨w1,w2,w3⟩:=ok.ways ws (IR hw);rw[aL hw] at hQ;exact (cg l ws _ (rfl,lw.same g,w2,λp H4 g4 _ wf=>hQ _ _ g4 wf))
 rw[lN T [] rT.1] at hp;have hT2:=hp.any;have e2:=g2 _ _ e1;have d2:=g2 _ _ d1;have f2:Fx x H H2:=f1.trans (Fx.of g2);clear hp g2 np rT el;refine ⟨x,_,dx,ν,e2,B.Kq,B.Kr,by
  have:=bZ "tools" 569 [];simp at*
  lia,?_⟩
 have e3:aO H2 x (.ins IO dx 105) x=some (.ins IO dx 105):=au;have w3:Fx x H2 (aO H2 x (.ins IO dx 105)):=Fx.put x H2 _;generalize aO H2 x (.ins IO dx 105)=H3 at e3 w3⊢;have d3:=w3 _ _ (jO d2 e2 220) d2
 have hT3:=hT2.fx e2 w3;have f3:=f2.trans w3;clear d2 hT2 f2 w3 e2 e1 d1 f1;obtain ⟨bs,eal,rA⟩:=bn.fx hA ex f3;refine (aN al _ (rfl,.inl (aF.of eal),λal' nal=>?_))
 have g4:=ao nal (.lst 217);have hA4:bn (aO H3 al' (.lst 217)) al' A:=(bs,au,rA.imp λa k q=>g4 _ _ q)
 have e4:=g4 _ _ e3;have d4:=g4 _ _ d3;have hT4:=hT3.same g4;have f4:=f3.trans (Fx.of g4);generalize aO H3 al' (.lst 217)=H4 at hA4 e4 d4 hT4 f4⊢;clear g4 nal d3 hT3 f3 rA eal e3;refine ⟨x,_,dx,ν,e4,B.Kq,B.Kz,by
  have:=bZ "tools" 569 [];have:=bZ "tasks" 148 175;simp at*
  lia,?_⟩
 have e5:aO H4 x (.ins IO dx 185) x=some (.ins IO dx 185):=au;have w5:Fx x H4 (aO H4 x (.ins IO dx 185)):=Fx.put x H4 _;generalize aO H4 x (.ins IO dx 185)=H5 at e5 w5⊢;have d5:=w5 _ _ (jO d4 e4 220) d4
 have hT5:=hT4.fx e4 w5;have hA5:=hA4.fx e4 w5;have f5:=f4.trans w5;clear d4 hT4 hA4 f4 w5 e4;try dsimp only[bN,cq]
 refine eC (λNq=>∀(pl':Addr) (H':Hp),H' x=some 360->H' td'=some 156->eK fG An H' p T->bn H' al' A->bn H' pl' B2->Fx x H H'->Nq [some 262,some 275,some 256,some (.ref al),some v,some (.int n)] H') 206 ?_
 ·have fin:∀(cs:LJ) (pl':Addr),H5 pl'=none->eJ (λt k=>H5 t=some 383) cs B2->N [some 262,some 275,some 256,some (.ref al),some v,some (.int n)] (aO (aO H5 pl' 471) x 360):=λcs pl' npl rB=>by
   have g6:=ao npl 471;have hB6:bn (aO H5 pl' 471) pl' B2:=(cs,au,rB.imp λa k q=>g6 _ _ q)
   have e6:=g6 _ _ e5;have d6:=g6 _ _ d5;have hT6:=hT5.same g6;have hA6:=hA5.same g6;have f6:=f5.trans (Fx.of g6);generalize aO H5 pl' 471=H6 at hB6 e6 d6 hT6 hA6 f6⊢;have w7:Fx x H6 (aO H6 x 360):=Fx.put x H6 _;exact hN pl' _ au (w7 _ _ (jO d6 e6 220) d6) (hT6.fx e6 w7) (hA6.fx e6 w7) (hB6.fx e6 w7) (f6.trans w7)
  rcases hv with ⟨rfl,rfl⟩|⟨pl,rfl,hB⟩
  ·refine (rfl,mB.i (dT rfl (by show 0<=sizeLine;decide,λpl' npl=>?_)))
   have l3:(bL "arcs" 571 105).length<1000:=by
    have:=bZ "tools" 569 [];have:=bZ "tasks" 148 175;have:=bZ "arcs" 571 105;simp at*
    lia
   exact (607 (rfl,ao npl _ _ _ e5,B.Kq,B.Kx,l3,fin [] pl' npl eJ.nil))
  ·obtain ⟨cs,epl,rB⟩:=bn.fx hB ex f5;refine ⟨rfl,mB.i (dF 220 (aN pl _ ⟨rfl,.inl (aF.of epl),λpl' npl=>?_⟩))⟩
   have l3:(bL "arcs" 571 105).length<1000:=by
    have:=bZ "tools" 569 [];have:=bZ "tasks" 148 175;have:=bZ "arcs" 571 105;simp at*
    lia
   exact (607 (rfl,ao npl _ _ _ e5,B.Kq,B.Kx,l3,fin cs pl' npl rB))
 clear d5 hT5 hA5 f5 e5;intro pl' H7 e7 d7 hT7 hA7 hB7 f7;have l4:(bL "apart" (.ref pl') 185).length<1000:=by
  have:=bZ "tools" 569 [];have:=bZ "tasks" 148 175;have:=bZ "arcs" 571 105;have:=bZ "apart" (.ref pl') 185;simp at*
  lia
 refine (607 (rfl,e7,B.Kq,B.Ku,l4,?_));have e8:aO H7 x (.ins IO dx 183) x=some (.ins IO dx 183):=au;have w8:Fx x H7 (aO H7 x (.ins IO dx 183)):=Fx.put x H7 _;change L2.aS _ _ _ _ (aO H7 x (.ins IO dx 183));generalize aO H7 x (.ins IO dx 183)=H8 at e8 w8⊢;have d8:=w8 _ _ (jO d7 e7 220) d7
 have hT8:=hT7.fx e7 w8;have hA8:=hA7.fx e7 w8;have hB8:=hB7.fx e7 w8;have f8:=f7.trans w8;clear d7 hT7 hA7 hB7 f7 w8 e7;obtain ⟨k1,k2,k3,k4,k5⟩:=B0 (td:= .ref td') (tl:= .ref p) (al:= .ref al') (pl:= .ref pl') (n:= .int n);have N8:jh IO false H8 x D T A B2 n:=(dx,td',p,al',pl',_,e8,k1,k2,k3,k4,k5,.inl d8,hT8,hA8,hB8);refine (607 (_,(rfl,e8,B.Kq,B.Ks,k1,aN td' D (rfl,d8,ok.d12,ok.tool,λH9 g9=>?_))))
 refine (607 (_,(rfl,(g9 _ _ e8),B.Kq,B.Kr,k2,aM x _ dx _ (_,(rfl,(g9 _ _ e8),B.Kq,B.Ks,k1,aM p td' D T (rfl,hT8.same g9,g9 _ _ d8,ok.t24,ok.ways,λH10 g10=>?_))))))
 have g:=g9.trans g10;refine (dT ok.n0 (nF ok.n8 ?_));refine (607 (_,(rfl,(g _ _ e8),B.Kq,B.Kz,k3,gj x n false D T A (B2,(rfl,N8.same g,cg al' _ A (rfl,hA8.same g,ok.a600,ok.arcs,?_))))));obtain ⟨ps,ep8,rp8⟩:=hT8.same g;refine (607 (_,(rfl,(g _ _ e8),B.Kq,B.Kx,k4,aM x _ dx _ (_,(rfl,(g _ _ e8),B.Kq,B.Kr,k2,aN p _ (rfl,.inl (aF.of ep8),cg pl' _ B2 (rfl,hB8.same g,ok.b300,λk hk=>?_,?_)))))))
 ·rw[rp8.1];exact ok.pairs k hk
 exact q _ (f8.trans (Fx.of g)) (N8.same g)
theorem Il {dV:Value} (F:bK K "use_in" "use_in" Ia dV f fd):604 1 f fd ["way","tool"] rD:=by
 have sc:aJ ["way","tool","use"] ["way","tool"] (aB Ia):=dS 95
 sleep 86
 refine ij h λv z w P0 _hi=>?_
 refine fO _hi λ_r1 _r2 q1 q0=>?_
 sleep 100;obtain ⟨t,u,rfl,_,_,et,us,eu,ru⟩:=_r2;exists _,(af (605 (aQ 218) 467 (ar (aV (ay fV 167 116 136) 309 aH))) 221)
 try dsimp only[cxK]
 sleep 75;refine (606 (rfl,rfl,bH.of et,rfl,u,rfl,(_,aF.of eu),bO (xs:=us) (λi σ H'=>H=H'/\(∃o2:Option V,σ= [LN t,some 379,o2])/\∀(j:Nat) (e:Us),j<i->w.2.2[j]?=some e->e.1≠z) (rfl,(none,rfl),λj e h=>absurd h 41) 578 ?_ ?_))
 ·rintro i y σ H1 hy ⟨rfl,⟨o2,rfl⟩,hn⟩;obtain ⟨e,he,a,rfl,pa,ea⟩:=ru.at_ hy;refine (aM a _ _ _ (rfl,rfl,bH.of ea,rfl,rfl,d2 176 176))
  ·exact (q1 e a (rG (us:=w.2.2) he (by injection c) hn) pa ea)
  ·refine (rfl,⟨ν⟩,λj e' hj he'=>?_)
   rcases Jf.mp hj with h|h
   ·exact hn j e' h he'
   ·subst h;rw[he] at he';cases he';exact λz=>c (by rw[z])
 ·rintro σ H1 ⟨rfl,⟨o2,rfl⟩,hn⟩;exact q0 (B9 λj e he=>hn j e (by rw[ru.1];exact (IP.mp he).1) he)
theorem FI {dV:Value} (F:bK K "is_plan" "is_plan" DB dV f fd):604 1 f fd ["net","plan"] (qe IO):=by
 have sc:aJ ["net","plan","run","ways"] ["net","plan"] (aB DB):=dS 95
 sleep 86
 sleep 108
 sleep 49
 sleep 51
 sleep 122
 sleep 10;exists _,(af (aV (PW.pt (dI (ay fW 396 201 136) (dt (ay fW 396 155 136)))) 208 aH) (af (605 (uZ rfl B.Ls (158<*>448)) (dN rfl (aP 467 (aP 346 cS))) (ar (aV (dv (dD dJ fA ak 167 (625 192))) 208 aH))) 208))
 try dsimp only[cxK]
 sleep 9;sleep 0;sleep 31
 sleep 11
 sleep 63
 sleep 7;have lr:(bs.map V.ref).length=vs.length:=by rw[IN,rR.1,IN,N.pok.len,rT.1]
 refine (606 (rfl,rfl,bH.of et,rfl,aN rl _ (rfl,.inl (aF.of er),aM x _ dx _ (_,(rfl,e0,B.Kq,B.Kr,l2,aN tl _ (rfl,.inl 561,rfl,EJ (by rw[lr]) ?_))))))
 refine (606 (rfl,rfl,bH.of et,rfl,aN ml _ (rfl,.inl (aF.of em),aM x _ dx _ (_,(rfl,e0,B.Kq,B.Ku,l5,rfl,EJ (by rw[IN]) ?_)))))
 refine (606 (rfl,rfl,bH.of et,rfl,aM x _ dx _ (_,(rfl,e0,B.Kq,B.Kr,l2,aN rl tl (rfl,(_,aF.of er),333,wF (xs:=bs.map V.ref) (ys:=vs) (λi σ H'=>aC H H'/\∃o2 o3:Option V,σ= [LN x,LN t,o2,o3]) 302 (λi σ H' _ h=>(aF.of (h.1 _ _ er),aF.of (h.1 _ _ el))) ?_ ?_)))))
 ·rintro i y z σ H1 T' hy hz ⟨g1,o2,o3,rfl⟩ nT;sleep 34;sleep 198;refine fD (rT.at_ hz) λws _hi=>?_
  refine cB _hi λhT _hj=>?_
  refine fD _hj λwl _hk=>?_
  sleep 219
  refine fD _hl λts _hm=>?_
  refine cB _hm λew rw'=>?_
  sleep 170;have pk:=N.pok.way i r _ hr' hT;have g2:=g1.trans (ao nT (.tup [.ref b,.ref wl]));sleep 12;refine (621 (rfl,rfl,bH.of (626 eb),rfl,dT pk.1 (aN wl _ (rfl,.inl (aF.of (626 ew)),nF (by rw[rw'.1];exact pk.2) (g2,aN _ _ rfl)))))
 ·rintro σ H1 ⟨g1,o2,o3,rfl⟩;exact q _ g1
theorem FJ {dV:Value} (F:bK K "time_of" "time_of" DC dV f fd):604 1 f fd ["plan","point"] tI:=by
 have sc:aJ ["plan","point","moment"] ["plan","point"] (aB DC):=dS 95
 sleep 86
 refine ij h λt p R M _hi=>?_
 refine fD _hi λv _hj=>?_
 refine fO _hj λ_r1 _r2 p0 _hk=>?_
 refine cB _hk λev q=>?_
 sleep 10;obtain ⟨rl,ml,et,⟨bs,er,rR⟩,em⟩:=_r2;exists _,(af (cX 2 sc (aw hV 116 (aw aY ak (625 (218<*>ae))))) (af (aV (ay pi 123 ak 136) (ar (aD (611 218 123 32))) aH) (ar (aD (av aG (611 218 (aw bv 116 ak) 32) (620 116 ak) 32)))))
 try dsimp only[cxK]
 sleep 9;sleep 45
 refine (606 (rfl,rfl,bH.of et,rfl,aN rl _ (rfl,.inl (aF.of er),112 49,?_)))
 refine (d2 176 176)
 ·exact (606 (rfl,rfl,bH.of et,rfl,aM ml _ _ _ (rfl,rfl,aF.of em,B4 lr c ev,q)))
 ·obtain ⟨i,r,e1,e2,e3⟩:=B3 p0 (by rw[lr] at c;lia) ev
  obtain ⟨b,hb,eb⟩:=run_get rR e2;exact (606 (rfl,rfl,bH.of et,rfl,129,aM rl _ _ _ (rfl,rfl,aF.of er,by rw[e1];exact bg (bW hb),191,aM b _ _ _ (rfl,rfl,bH.of eb,e3,q))))
theorem FK {dV:Value} (F:bK K "runs_meet" "runs_meet" DD dV f fd):604 1 f fd ["one","other"] lK:=by
 have sc:aJ ["one","other"] ["one","other"] (aB DD):=dS 95
 sleep 86
 refine ij h λt u r s2 _hi=>?_
 refine fO _hi λ_r1 et eu q=>?_
 sleep 60
 try dsimp only[cxK]
 sleep 74
 ·sleep 215
  sleep 195
 ·sleep 221
  sleep 195
theorem FL {dV:Value} (F:bK K "goes_on" "goes_on" DE dV f fd):604 1 f fd ["run","turn"] tX:=by
 have sc:aJ ["run","turn"] ["run","turn"] (aB DE):=dS 95
 sleep 86
 obtain ⟨t,r,n,rfl,et,q⟩:=h;exists _,(ar (aD (zG dJ fA 218 116 218)))
 try dsimp only[cxK]
 refine (606 (rfl,rfl,bH.of et,rfl,d2 (λc=>(606 544)) 176))
 ·have e:cr r n=decide (n<r.2.1):=by unfold cr;rw[decide_eq_true c,Kj]
  sleep 195
 ·have e:cr r n=false:=by unfold cr;rw[decide_eq_false c,Bool.false_and]
  sleep 195
theorem FM {dV:Value} (F:bK K "use_of" "use_of" DF dV f fd) (DZ9:603 1 "use_in" ["way","tool"] [] rD):604 2 f fd ["net","plan","task","tool"] (rE IO):=by
 have sc:aJ ["net","plan","task","tool"] ["net","plan","task","tool"] (aB DF):=dS 95
 sleep 86
 refine ij h λx t i z _hi=>?_
 refine fD _hi λH0 _hj=>?_
 refine i3 _hj λ_r1 g _hk=>?_
 refine fN _hk λD T A B2 R M _hl=>?_
 refine fO _hl λN il q1 q0=>?_
 sleep 103;exists _,(ar (aD (cC DZ9 hr ((611 (611 155 123 32) (av aG 535 ak 32) 32)<*>192))))
 try dsimp only[cxK]
 sleep 31
 sleep 11
 sleep 63
 sleep 7;refine fN (vH rT rR N.pok il) λwl b ts v r j _hi=>?_
 refine lZ _hi λhw ew hv rw' hb eb hr' hj _=>?_
 refine (607 (_,(rfl,(g _ _ e0),B.Kq,B.Kr,l2,aM tl _ _ _ (rfl,rfl,aF.of (g _ _ el),(bg hw),aM t _ _ _ (rfl,rfl,bH.of (g _ _ et),rfl,aM rl _ _ _ (rfl,rfl,aF.of (g _ _ er),(bg (bW hb)),aM b _ _ _ (rfl,rfl,bH.of (g _ _ eb),rfl,aM wl _ _ _ (rfl,rfl,aF.of (g _ _ ew),596,aM v z _ _ (rfl,mG (GZ rw') g,λu a hu ha ea=>q1 u a hu ?_,q0)))))))))
 cases e:H0 a with
 |none=>exact absurd e ha.2
 |some o=>
  have:=g _ _ e;rw[ea] at this;cases this
  rfl
theorem FN {dV:Value} (F:bK K "breaches_of_turns" "breaches_of_turns" DG dV f fd):604 1 f fd ["net","plan"] (gN IO λT A B R M=>fJ T R T.length):=by
 have sc:aJ ["net","plan","told","i","run","way"] ["net","plan"] (aB DG):=dS 95
 sleep 86
 sleep 108
 sleep 49
 sleep 51
 sleep 122
 sleep 10;exists _,(af 427 (af (605 (jx rfl B.Kt (158<*>ae)) (dN rfl 225) (af (cX 5 sc (611 (611 155 127 32) 245 32)) (ar (aV (PW.pt (dI (ay fA 245 ak 136) (dt (dv (dD dJ dJ 244 (aw hV 245 245) 244))))) 253 aH)))) 309))
 try dsimp only[cxK]
 sleep 9;sleep 0;sleep 31
 sleep 11
 sleep 63
 sleep 7;sleep 32
 sleep 213;have lr:(bs.map V.ref).length=T.length:=by rw[IN,rR.1,IN,N.pok.len]
 refine (606 (rfl,rfl,bH.of (g0 _ _ et),rfl,rl,rfl,(_,aF.of (g0 _ _ er)),iq (xs:=bs.map V.ref) (λi σ H'=>∃o3 o4 o5:Option V,σ= [LN x,LN t,LN l,o3,o4,o5]/\aC H H'/\ToldN H H' l ([]++fJ T R i)) (613 none (rfl,g0,eK.new)) (λi σ H' _ (_,_,_,_,g,_)=>aF.of (g _ _ er)) ?_ ?_))
 ·rintro i y σ H1 T' hy ⟨o3,o4,o5,rfl,g1,cs,ec,rc⟩ nT;have il:i<R.length:=by
   have:=(IP.mp hy).1;rw[lr,<-N.pok.len] at this;exact this
  refine fN (vH rT rR N.pok il) λwl b ts v r j _hi=>?_
  refine lZ _hi λhw ew hv rw' hb eb hr' hj hd=>?_
  obtain ⟨b',hb',rfl⟩:=cV hy;rw[hb] at hb';cases hb';obtain ⟨tw,uw,rfl,_,_,ev,_⟩:=rw';have t24:=N.ok.t24;have pl':=N.pok.len;have bad:tU T R i=decide (r.1<0∨¬((cn T R i).1<=r.2.1-r.1/\r.2.1-r.1<=(cn T R i).2.1)):=by
   simp only[tU,hd]
  generalize cn T R i=wy at ev bad;sleep 53
  have eb2:=g2 _ _ eb;have ev2:=g2 _ _ ev;have sz:cs.length<sizeLine:=by
   rw[rc.1];have:=c5 i (tU T R) λi=> [V.str "turns",.int (i:Nat)]
   show (fJ T R i).length<_;unfold fJ
   lia
  sleep 12;generalize aO H1 T' 288=H2 at g2 ec2 rc2 eb2 ev2⊢;refine (607 (_,(rfl,(626 e0),B.Kq,B.Kr,l2,aM tl _ _ _ (rfl,rfl,aF.of (626 el),(bg hw),aM b _ _ _ (rfl,rfl,bH.of eb2,rfl,aM wl _ _ _ (rfl,rfl,aF.of (626 ew),596,?_))))))
  refine (621 (rfl,rfl,bH.of eb2,rfl,d2 176 176))
  ·exact eI (.inl 556,by show 2<=sizeLine;decide,λa na=>(cg l _ _ (rfl,rfl,ao na _ _ _ ec2,sz,cg _ _ _ (rfl,ou (pre:= []) nl g2 ec2 rc2 (by rw[bad];exact decide_eq_true (.inl c)) na rfl))))
  ·refine (aM tw _ _ _ (rfl,rfl,bH.of ev2,rfl,aM b _ _ _ (rfl,rfl,bH.of eb2,rfl,aM b _ _ _ (rfl,rfl,bH.of eb2,rfl,d2 322 322))))
   ·refine (aM tw _ _ _ (rfl,rfl,bH.of ev2,rfl,n2 258 258))
    ·exact (.inl 556,by show 2<=sizeLine;decide,λa na=>(cg l _ _ (rfl,rfl,ao na _ _ _ ec2,sz,cg _ _ _ (rfl,ou (pre:= []) nl g2 ec2 rc2 (by rw[bad];exact decide_eq_true (.inr λz=>c2 z.2)) na rfl))))
    ·exact (618 (rfl,g2,Az (pre:= []) (cs,ec2,rc2) (by rw[bad];exact decide_eq_false 41)))
   ·exact ((.inl 556,by show 2<=sizeLine;decide,λa na=>(cg l _ _ (rfl,rfl,ao na _ _ _ ec2,sz,cg _ _ _ (rfl,ou (pre:= []) nl g2 ec2 rc2 (by rw[bad];exact decide_eq_true (.inr λz=>c1 z.1)) na rfl)))))
 ·rintro σ H1 ⟨o3,o4,o5,rfl,g1,br⟩;rw[lr] at br;exact (q l H1 g1 nl br)
theorem FO {dV:Value} (F:bK K "breaches_of_arcs" "breaches_of_arcs" DH dV f fd) (DZ11:603 1 "time_of" ["plan","point"] [] tI):604 2 f fd ["net","plan"] (gN IO λT A B R M=>iW A R M A.length):=by
 have sc:aJ ["net","plan","told","k","arc"] ["net","plan"] (aB DH):=dS 95
 sleep 86
 sleep 108
 sleep 49
 sleep 51
 sleep 122
 sleep 10;exists _,(af 427 (af (605 (jx rfl B.Kt 448) (dN rfl 225) (ar (aV (ay fA (aw hV (cC DZ11 hr (116<*>(245<*>ae))) (cC DZ11 hr (116<*>(245<*>ae)))) 245 136) 253 aH))) 309))
 try dsimp only[cxK]
 sleep 9;sleep 0;sleep 31
 sleep 11
 sleep 63
 sleep 7;sleep 32
 sleep 213;obtain ⟨ks,ea,rA⟩:=hA;have lr:(ks.map V.ref).length=A.length:=by rw[IN,rA.1]
 refine (607 (_,(rfl,(g0 _ _ e0),B.Kq,B.Kz,l3,al,rfl,(_,aF.of (g0 _ _ ea)),iq (xs:=ks.map V.ref) (λi σ H'=>∃o3 o4:Option V,σ= [LN x,LN t,LN l,o3,o4]/\aC H H'/\ToldN H H' l ([]++iW A R M i)) (aN none none (rfl,g0,eK.new)) 586 ?_ ?_)))
 ·rintro i y σ H1 T' hy ⟨o3,o4,rfl,g1,cs,ec,rc⟩ nT;sleep 34;have il:i<A.length:=by rw[<-rA.1];exact (IP.mp hb).1
  have hA:=I0 il;have eb:=rA.2 i b _ hb hA;refine j8 (N.ok.arcs _ (J3 il)) λp p' gg _hi=>?_
  refine gY _hi λek p0 p1 q0 q1 _=>?_
  have a600:=N.ok.a600;rw[ek] at eb hA;have sl':227=2*109+M.length:=by rw[gM,N.pok.len];lia
  have hp:=I0 (show p.toNat<(bw R M).length by lia)
  have hq:=I0 (show p'.toNat<(bw R M).length by lia)
  generalize (bw R M)[p.toNat]'_=v at hp;generalize (bw R M)[p'.toNat]'_=v' at hq;have bad:B1 A 597 i=decide (v'-v<gg):=by
   unfold B1;rw[aL hA];show decide ((bw R M).getD p'.toNat 0-(bw R M).getD p.toNat 0<gg)=_;rw[aL hp,aL hq]
  sleep 53
  have eb2:=g2 _ _ eb;have sz:cs.length<sizeLine:=by
   rw[rc.1];have:=c5 i (B1 A 597) λi=> [V.str "arc",.int (i:Nat)]
   show (iW A R M i).length<_;unfold iW
   lia
  sleep 12;sleep 216;have P2:=N.plan.same g2;refine (621 (rfl,rfl,bH.of eb2,rfl,aM t _ R M (v',(rfl,P2,q0,hq,aM b _ _ _ (rfl,rfl,bH.of eb2,rfl,aM t _ R M (v,(rfl,P2,p0,hp,aM b _ _ _ (rfl,rfl,bH.of eb2,rfl,d2 176 176))))))))
  ·exact (.inl 556,by show 2<=sizeLine;decide,λa na=>(cg l _ _ (rfl,rfl,ao na _ _ _ ec2,sz,aN _ _ (rfl,ou (pre:= []) nl g2 ec2 rc2 (by rw[bad];exact decide_eq_true c) na rfl))))
  ·exact (aN _ _ (rfl,g2,Az (pre:= []) (cs,ec2,rc2) (by rw[bad];exact decide_eq_false c)))
 ·sleep 218
theorem FP {dV:Value} (F:bK K "breaches_of_apart" "breaches_of_apart" DI dV f fd) (DZ12:603 1 "runs_meet" ["one","other"] [] lK):604 2 f fd ["net","plan"] (gN IO λT A B R M=>gv B R B.length):=by
 have sc:aJ ["net","plan","told","k","pair"] ["net","plan"] (aB DI):=dS 95
 sleep 86
 sleep 108
 sleep 49
 sleep 51
 sleep 122
 sleep 10;exists _,(af 427 (af (605 (jx rfl B.Kt 448) (dN rfl 225) (ar (aV (eY (cC DZ12 hr ((611 158 245 32)<*>((611 158 245 32)<*>ae)))) 253 aH))) 309))
 try dsimp only[cxK]
 sleep 9;sleep 0;sleep 31
 sleep 11
 sleep 63
 sleep 7;sleep 32
 sleep 213;obtain ⟨ks,ea,rA⟩:=hB;have lr:(ks.map V.ref).length=B2.length:=by rw[IN,rA.1]
 refine (607 (_,(rfl,(g0 _ _ e0),B.Kq,B.Kx,l4,pl,rfl,(_,aF.of (g0 _ _ ea)),iq (xs:=ks.map V.ref) (λi σ H'=>∃o3 o4:Option V,σ= [LN x,LN t,LN l,o3,o4]/\aC H H'/\ToldN H H' l ([]++gv B2 R i)) (aN none none (rfl,g0,eK.new)) 586 ?_ ?_)))
 ·rintro i y σ H1 T' hy ⟨o3,o4,rfl,g1,cs,ec,rc⟩ nT;sleep 34;have il:i<B2.length:=by rw[<-rA.1];exact (IP.mp hb).1
  have hA:=I0 il;have eb:=rA.2 i b _ hb hA;refine iZ (N.ok.pairs _ (J3 il)) λp p' _hi=>?_
  refine gY _hi λek p0 p1 q0 q1 _=>?_
  have b300:=N.ok.b300;rw[ek] at eb hA;have lR:=N.pok.len;have hp:=I0 (show p.toNat<R.length by lia)
  have hq:=I0 (show p'.toNat<R.length by lia)
  obtain ⟨a1,h1,e1⟩:=run_get rR hp;obtain ⟨a2,h2,e2⟩:=run_get rR hq;generalize R[p.toNat]'_=v at hp e1;generalize R[p'.toNat]'_=v' at hq e2;have bad:B7 B2 R i=cM v v':=by
   unfold B7;rw[aL hA];show cM (R.getD p.toNat 111) (R.getD p'.toNat 111)=_;rw[aL hp,aL hq]
  sleep 53
  have eb2:=g2 _ _ eb;have sz:cs.length<sizeLine:=by
   rw[rc.1];have:=c5 i (B7 B2 R) λi=> [V.str "apart",.int (i:Nat)]
   show (gv B2 R i).length<_;unfold gv
   lia
  sleep 12;sleep 216;have ap:gD 217 p=some (.ref a1):=by
   have:p=((p.toNat:Nat):Int):=by lia
   rw[this];exact bg (bW h1)
  have aq:gD 217 p'=some (.ref a2):=by
   have:p'=((p'.toNat:Nat):Int):=by lia
   rw[this];exact bg (bW h2)
  refine (606 (rfl,rfl,bH.of (626 et),rfl,aM b _ _ _ (rfl,rfl,bH.of eb2,rfl,aM rl _ _ _ (rfl,rfl,aF.of 367,ap,aM t _ _ _ (rfl,rfl,bH.of (626 et),rfl,aM b _ _ _ (rfl,rfl,bH.of eb2,rfl,aM rl _ _ _ (rfl,rfl,aF.of 367,aq,aM a1 a2 v v' (rfl,g2 _ _ e1,g2 _ _ e2,mB.i ?_))))))));cases hm:cM v v' with
  |true=>exact eI ⟨.inl ⟨rfl,_,aF.of ec2⟩,by show 2<=sizeLine;decide,λa na=>(cg l _ _ ⟨rfl,rfl,ao na _ _ _ ec2,sz,aN _ _ ⟨rfl,ou (pre:= []) nl g2 ec2 rc2 (by rw[bad];exact hm) na rfl⟩⟩)⟩
  |false=>exact gI (aN _ _ ⟨rfl,g2,Az (pre:= []) ⟨cs,ec2,rc2⟩ (by rw[bad];exact hm)⟩)
 ·sleep 218
theorem FQ {dV:Value} (F:bK K "in_use" "in_use" DJ dV f fd) (DZ13:603 1 "goes_on" ["run","turn"] [] tX) (DZ14:603 2 "use_of" ["net","plan","task","tool"] [] (rE IO)):604 3 f fd ["net","plan","tool","turn"] (wZ IO):=by
 have sc:aJ ["net","plan","tool","turn","total","i","run","use"] ["net","plan","tool","turn"] (aB DJ):=dS 95
 sleep 86
 refine ij h λx t z n _hi=>?_
 sleep 49
 sleep 51
 sleep 122
 sleep 10;exists _,(af (cX 4 sc ak) (af (605 (jx rfl B.Kt (158<*>ae)) (dN rfl 528) (af (cX 7 sc (cC DZ14 hr (108<*>(116<*>(154<*>268))))) (ar (aV (PW.pt (eQ (ay iI 365 aX 136) (dM (eY (cC DZ13 hr (254<*>192)))))) (ar (uL (i:=4) sc.nd rfl (Or.inl rfl) (av aG 365 ak 32) uM)) aH)))) (ar (aD 134))))
 try dsimp only[cxK]
 sleep 9;sleep 0;sleep 31
 sleep 11
 sleep 63
 sleep 7;sleep 45
 refine (606 (rfl,rfl,bH.of et,rfl,rl,rfl,(_,aF.of er),iq (xs:=bs.map V.ref) (λi σ H'=>∃o5 o6 o7:Option V,σ= [LN x,LN t,some 379,some (.int n),some (.int (cA T R z n i)),o5,o6,o7]/\aC H H') (613 none (rfl,.refl _)) (λi σ H' _ (_,_,_,_,g)=>aF.of (g _ _ er)) ?_ ?_))
 ·rintro i y σ H1 T' hy ⟨o5,o6,o7,rfl,g1⟩ nT';sleep 34;sleep 198;have il:=(IP.mp hr').1;have g2:=g1.trans (ao nT' 288);sleep 12;generalize aO H1 T' 288=H2 at g2⊢;have us:cA T R z n 233=cA T R z n i+(if cr r n=true then bJ 166 z else 0):=by
   show cA T R z n i+(if cr 149 n=true then bJ 166 z else 0)=_
   rw[aL hr']
  refine (aM x t i z (H,(rfl,g2,gj D T A B2 R M (N,il,λu a hu ha=>?_,λhn=>?_))))
  ·refine (rfl,mB.i (nT nofun (cg b r n (rfl,g2 _ _ eb,mB.i ?_))));rw[jm hu] at us;cases hg:cr r n with
   |true=>
    rw[hg,if_pos rfl] at us;exact eI (aM a _ _ _ (rfl,rfl,bH.of (626 ha),rfl,cg _ _ _ (by rw[us];rfl,g2)))
   |false=>
    rw[hg,if_neg 49,Int.add_zero] at us
    exact gI (618 (by rw[us];rfl,g2))
  ·rw[jk hn] at us;have us':cA T R z n 233=cA T R z n i:=by rw[us];split<;>lia
   exact (rfl,mB.i (nF rfl (618 (by rw[us'];rfl,g2))))
 ·rintro σ H1 ⟨o5,o6,o7,rfl,g1⟩;rw[lr];exact (q _ g1)
theorem FR {dV:Value} (F:bK K "breaches_of_tool" "breaches_of_tool" DK dV f fd) (DZ18:603 3 "in_use" ["net","plan","tool","turn"] [] (wZ IO)):604 4 f fd ["net","plan","tool"] (w6 IO):=by
 have sc:aJ ["net","plan","tool","begins","many"] ["net","plan","tool"] (aB DK):=dS 95
 sleep 86
 refine j8 h λx t z _hi=>?_
 sleep 49
 sleep 51
 refine i3 _hk λN hz q=>?_
 sleep 10;exists _,(af (cX 3 sc (mF rfl rfl B.KK rfl B.Lp PyProof.Rows.Boot.«sorted» PyProof.Rows.Boot.«set» (c8 (own:= "run") (ys:= []) (js:= []) rfl 107 (aQ 158) 229))) (af (dO (i:=4) sc.nd rfl 187 (jv 505 155 123 32)) (ar (aD (kW (own:= "turn") (ys:= ["many","net","plan","tool"]) (js:= [4,0,1,2]) rfl (iG (iF (iF (iF (iF ig)))) (.cons rfl (.cons rfl (.cons rfl 403))) 49 rfl rfl rfl rfl rfl rfl rfl rfl) (aQ 127) (λC fp s H=>(ay gC (cC DZ18 hr (123<*>(127<*>(134<*>186)))) 116 136)) (λC fp s H=>(@bM _ _ _ _ _ (i5<*>(134<*>186)))))))))
 try dsimp only[cxK]
 sleep 9;sleep 0;sleep 31
 sleep 11
 sleep 63
 sleep 7;sleep 45
 sleep 141
 refine (606 (rfl,rfl,bH.of et,rfl,rl,rfl,(_,aF.of er),cz 260 146 (λi=>(R.getD i 111).1) (aF.of er) 41 130 389 λp H1 np g1 hp=>?_))
 ·sleep 34;sleep 198;rw[aL hr'] at hQ;exact (621 (rfl,rfl,bH.of (g _ _ eb),rfl,hQ _ _ 184 rfl))
 obtain ⟨ps,ep,rp⟩:=hp;have e1:(JK (bs.map V.ref).length).map (λi=>(R.getD i 111).1)=R.map (·.1):=by
  conv=>rhs;rw[<-cJ R 111,JB,<-lr]
  rfl
 rw[e1] at rp;rw[rp.val] at ep;refine (aN p (R.map 199) (rfl,aF.of ep,by rw[IN];lia,?_,λp2 ys np2 nd mem pw=>?_))
 ·have:=fT (R.map 199) [];rw[IN] at this;simp at this⊢
  lia
 have ey:ys=oq R:=B8 nd mem pw;subst ey;have g2:=g1.trans (ao np2 (.lst 539));have e2:aO H1 p2 (.lst 539) p2=some (.lst 539):=au;generalize aO H1 p2 (.lst 539)=H2 at g2 e2⊢;obtain ⟨m,hm⟩:=oa hz;have dg:=j2 (ed.same g2).rd hm;refine (607 (_,(rfl,(626 e0),B.Kq,B.Ks,l1,aN td _ (rfl,dg,?_))));have lb:(oq R).length<=R.length:=by
  have:=oo (R.map 199)
  rwa [IN] at this
 refine (p2,rfl,(_,aF.of e2),jC Bs 146 406 498 (aF.of e2) 272 130 (λi y hy H3 g3 S' hS=>?_) (λi y hy _ H3 g3 Q' hQ=>?_) λl H' nl g3 hl=>?_)
 ·rw[IQ] at hy;obtain ⟨n,hn,rfl⟩:=IW.mp hy;rw[aL hn,hm] at hS;exact (aM x t z n (rfl,gj D T A B2 R M (N.same 595,λH4 g4=>(hS _ g4))))
 ·rw[IQ] at hy;obtain ⟨n,hn,rfl⟩:=IW.mp hy;rw[aL hn] at hQ;exact (by show 3<=sizeLine;decide,λa na=>hQ _ _ (ao na _) (a,rfl,.inl na,au))
 ·rw[IN] at hl;exact q l H' 595 (g2.free nl) (hl.mono λa h=>(h.1,g2.free (h.2.elim id λz=>z.elim)))
theorem FS {dV:Value} (F:bK K "breaches_of_heat" "breaches_of_heat" DL dV f fd) (DZ12:603 1 "runs_meet" ["one","other"] [] lK) (DZ14:603 2 "use_of" ["net","plan","task","tool"] [] (rE IO)):604 3 f fd ["net","plan","tool"] (xc IO):=by
 have sc:aJ ["net","plan","tool","told","uses","users","place","i","j"] ["net","plan","tool"] (aB DL):=dS 95
 sleep 86
 refine j8 h λx t z _hi=>?_
 sleep 49
 sleep 51
 sleep 122
 sleep 10;exists _,(af 426 (af (dO (i:=4) sc.nd rfl 187 (ja (hd:=none) (own:= "i") (ys:= ["net","plan","tool"]) (js:= [0,1,2]) hr.hd 139 (fh rfl B.Ko (396<*>ae)) (λC fp s H=>(cC DZ14 hr 370)))) (af (jy sc.nd (i:=5) rfl rfl (own:= "i") (ys:= ["uses"]) (js:= [4]) rfl 106 (610 (348<*>ae)) (λC fp s H=>(ay iI (av 366 116 108 32) aX 136)) (λC fp s H=>108)) (af (605 (jx rfl B.Kt (154<*>ae)) (dN rfl (aP (da 6 sc) (aP (da 7 sc) cS))) (ar (605 (aQ (fX qO 154 (gG (614 254 ak)) iJ)) (da 8 sc) (ar (aV (PW.pt (eQ (ay fW (av aG (611 134 365 32) ak 32) (av aG (611 134 (pv 8) 32) ak 32) 136) (dM (eY (cC DZ12 hr ((611 158 365 32)<*>((611 158 (pv 8) 32)<*>ae))))))) (ar (bQ (608 127 ((@bM _ _ _ _ _ (i5<*>(123<*>(365<*>382))))<*>ae)))) aH))))) 286))))
 try dsimp only[cxK]
 refine HN ?_;intro D' r4 r3 r2 r1;sleep 0;sleep 31
 sleep 11
 sleep 63
 sleep 7;sleep 45
 sleep 141
 sleep 32
 sleep 213;have h0:ToldN H (aO H l 132) l []:=eK.new;have el0:aO H l 132 l=some (.lst []):=au;generalize aO H l 132=H1 at g0 h0 el0⊢;refine (606 (rfl,rfl,bH.of (g0 _ _ et),rfl,aN rl _ (rfl,.inl (aF.of (g0 _ _ er)),ν,by lia,by lia,jg oy (λa=>H a≠none) (λi=>mH 166 z) jM.no 41 (λa h e=>h (g0.free e)) (λi hi H3 g Q' hQ=>?_) λp1 H2 np1 g2 hp1=>?_)))
 ·have il:i<R.length:=by lia
  refine (aM x t i z (H,(by rw[Jl];rfl,g0.trans g,gj D T A B2 R M (N,il,λu a hu ha=>hQ _ _ 184 ?_,λhn=>hQ _ _ 184 ?_))))
  ·rw[hu];exact (a,rfl,.inr (by rw[ha];exact nofun),(g0.trans g) _ _ ha)
  ·rw[hn]
   rfl
 obtain ⟨us,eu,ru⟩:=hp1;rw[IX,lr] at ru;have lu:us.length=R.length:=by rw[ru.1,IN,JP]
 have uat:∀i:Nat,i<R.length->∃v,us[i]?=some v/\oy (λa=>a≠p1/\(H1 a=none∨H a≠none)) H2 v (mH 166 z):=λi il=>ru.get (by rw[IQ,KI il];rfl)
 refine (aN p1 _ (rfl,.inl (aF.of eu),ν,by lia,by lia,pW (fH (λi:Nat=>V.int (i:Int))) 146 553 id 41 130 (λi hi H3 g S' hS=>?_) (λi hi _ H3 g Q' hQ=>?_) λp2 H3 np2 g3 hp2=>?_))
 ·obtain ⟨v,hv,ro⟩:=uat i 41
  refine (aM p1 _ _ _ (rfl,rfl,aF.of (g _ _ eu),(cT hv),rfl,mB.i ?_));rw[ro.isN];exact hS _ 184
 ·exact (hQ _ _ 184 (by show V.int 131=V.int (i:Int);rw[Jl]))
 obtain ⟨ps,ep,rp⟩:=hp2;rw[IX,lu] at rp;rw[show cO R.length 553 id=cK T R z from rfl] at rp
 rw[rp.val] at ep;clear rp;have eu3:=g3 _ _ eu;have g13:=g2.trans g3;have l1:p1≠l:=λe=>by rw[e,el0] at np1;cases np1
 have l2':p2≠l:=λe=>by rw[e,g2 _ _ el0] at np2;cases np2
 have k3:=g0.trans g13;have h3:=h0.same g13;have uat3:∀i:Nat,i<R.length->∃v,us[i]?=some v/\oy (λa=>H a≠none∨(a≠l/\H a=none)) H3 v (mH 166 z):=λi il=>by
  obtain ⟨v,hv,ro⟩:=uat i il;refine (v,hv,Aw (mG ro g3) λa h=>?_)
  by_cases e:H a=none
  ·refine .inr (λe2=>?_,e)
   rcases h.2 with k|k
   ·rw[e2,el0] at k;cases k
   ·exact k e
  ·exact .inl e
 clear h0 el0 g0 g2 g3 g13 ru uat eu np1 np2;have ul:=qc T R z;have al:∀{H':Hp},Fl l H3 H'->∀i:Nat,i<R.length->∃v,us[i]?=some v/\oy An H' v (mH 166 z):=λfl i il=>by
  obtain ⟨v,hv,ro⟩:=uat3 i il;refine (v,hv,Mv.mv (λa o pa _ e=>(trivial,fl a o (λe2=>?_) e)) ro)
  rcases pa with k|k
  ·exact k (e2▸nl)
  ·exact k.1 e2
 refine (p2,rfl,(_,aF.of ep),iq (xs:=(cK T R z).map (λi:Nat=>V.int (i:Int))) (λk σ H'=>∃o6 o7 o8:Option V,σ= [LN x,LN t,some 379,LN l,LN p1,LN p2,o6,o7,o8]/\aC H H'/\Fl l H3 H'/\ToldN H H' l (mK T R z 559 k)) (613 none (rfl,k3,Fl.refl _ _,h3)) (λi σ H' _ (_,_,_,_,_,fl,_)=>aF.of (fl _ _ l2' ep)) ?_ ?_)
 ·rintro k y σ H4 T' hy ⟨o6,o7,o8,rfl,g4,fl4,told4⟩ nT';sleep 87;obtain ⟨il,u,hu⟩:=tY hi;have kl:=(IP.mp hi).1;have gT:=ao nT' (.tup [.int (k:Int),.int (i:Int)]);sleep 12;have g5:=g4.trans gT;have fl5:=fl4.trans (Fl.of gT);have told5:=told4.same gT;generalize aO H4 T' (.tup [.int (k:Int),.int (i:Int)])=H5 at g5 fl5 told5⊢;refine (ν,aN p2 _ (rfl,aF.of (fl5 _ _ l2' ep),λp3 np3=>?_))
  have cd:jY ((cK T R z).map (λi:Nat=>V.int (i:Int))) (some ((k:Int)+1)) none=((cK T R z).drop 314).map (λi:Nat=>V.int (i:Int)):=by
   have:=tF (xs:=(cK T R z).map (λi:Nat=>V.int (i:Int))) (c:=k+1) 272
   rw[<-List.map_drop] at this;exact this
  rw[cd];have g6':=ao np3 (.lst 222)
  have e6:aO H5 p3 (.lst 222) p3=some (.lst 222):=au
  have g6:=g5.trans g6';have fl6:=fl5.trans (Fl.of g6');have told6:=told5.same g6';have l3':p3≠l:=λe=>by
   obtain ⟨vs',ev',_⟩:=told5;rw[e,ev'] at np3;cases np3
  generalize aO H5 p3 (.lst 222)=H6 at e6 g6 fl6 told6⊢
  clear g4 fl4 told4 g5 fl5 told5 gT g6' np3 nT';have hgd:(cK T R z).getD k 0=i:=aL hi;refine (p3,rfl,(_,aF.of e6),bO (xs:=((cK T R z).drop 314).map (λi:Nat=>V.int (i:Int))) (λm σ H'=>∃o8:Option V,σ= [LN x,LN t,some 379,LN l,LN p1,LN p2,some (.int (k:Int)),some (.int (i:Int)),o8]/\aC H H'/\Fl l H6 H'/\ToldN H H' l (mK T R z 559 k++eR T R z 559 k m)) (o8,rfl,g6,Fl.refl _ _,by rw[oX,Jw];exact told6) (λm σ H' _ (_,_,_,fl,_)=>aF.of (fl _ _ l3' e6)) ?_ ?_)
  ·rintro m y σ H7 hy ⟨o8,rfl,g7,fl7,cs,ec,rc⟩;rw[IQ] at hy;obtain ⟨j,hj,rfl⟩:=IW.mp hy;have hj':=hj;rw[List.getElem?_drop] at hj';obtain ⟨jl,v,hv⟩:=tY hj';have fl37:=fl6.trans fl7;obtain ⟨vi,hvi,ri⟩:=al fl37 i il;obtain ⟨vj,hvj,rj⟩:=al fl37 j jl;rw[hu] at ri;rw[hv] at rj;obtain ⟨a,rfl,_,ea⟩:=(show n4 An H7 vi u from ri)
   obtain ⟨b,rfl,_,eb⟩:=(show n4 An H7 vj v from rj)
   have eu7:=fl37 _ _ l1 eu3;have hRi:=I0 il;have hRj:=I0 jl;obtain ⟨c,hc,ec'⟩:=run_get rR hRi;obtain ⟨d,hd,ed'⟩:=run_get rR hRj;generalize R[i]=ri' at hRi ec';generalize R[j]=rj' at hRj ed';have hb:=Ca hu hv hRi hRj;have sz:cs.length<sizeLine:=by
    rw[rc.1,IU];have h1:=qb T R z 559 k;have h2:=rJ T R z 559 k m;have h3':(cK T R z).length*k<=24*24:=Nat.mul_le_mul 41 41
    lia
   have suc:=oY (T:=T) (R:=R) (z:=z) hj;rw[hgd,hb] at suc;refine (aM p1 _ _ _ (rfl,rfl,aF.of eu7,(bg hvi),aM a _ _ _ (rfl,rfl,bH.of ea,rfl,aM p1 _ _ _ (rfl,rfl,aF.of eu7,(bg hvj),aM b _ _ _ (rfl,rfl,bH.of eb,rfl,rfl,BP (λne=>?_) (λeq=>?_))))))
   ·refine (606 (rfl,rfl,bH.of (g7 _ _ et),rfl,aM rl _ _ _ (rfl,rfl,aF.of (g7 _ _ er),(bg (bW hc)),aM t _ _ _ (rfl,rfl,bH.of (g7 _ _ et),rfl,aM rl _ _ _ (rfl,rfl,aF.of (g7 _ _ er),(bg (bW hd)),aM c d ri' rj' (rfl,g7 _ _ ec',g7 _ _ ed',mB.i ?_))))));rw[decide_eq_false ne] at suc;cases hm:cM ri' rj' with
    |true=>
     rw[hm] at suc;refine eI (.inl 400,by show 4<=sizeLine;decide,λa na=>(cg l _ _ (rfl,rfl,ao na _ _ _ ec,sz,?_)))
     have tp:=AB (b:= [.str "heat",.str z,.int (i:Int),.int (j:Int)]) nl g7 ec rc na;exists ν,tp.1,(fl7.trans (Fl.of (ao na _))).trans (Fl.put l _ _);rw[suc,<-Jg];exact tp.2
    |false=>
     rw[hm] at suc;exact gI 481
   ·rw[decide_eq_true eq] at suc;exact 481
  ·rintro σ H7 ⟨o8,rfl,g7,fl7,told7⟩;rw[IN,rH,<-vI] at told7;exact (618 (rfl,g7,fl6.trans fl7,told7))
 ·rintro σ H4 ⟨o6,o7,o8,rfl,g4,fl4,told4⟩;rw[IN] at told4;exact (q l H4 g4 nl told4)
theorem FT {dV:Value} (F:bK K "breaches" "breaches" DM dV f fd) (DZ10:603 1 "is_plan" ["net","plan"] [] (qe IO)) (DZ15:603 1 "breaches_of_turns" ["net","plan"] [] (gN IO λT A B R M=>fJ T R T.length)) (DZ16:603 2 "breaches_of_arcs" ["net","plan"] [] (gN IO λT A B R M=>iW A R M A.length)) (DZ17:603 2 "breaches_of_apart" ["net","plan"] [] (gN IO λT A B R M=>gv B R B.length)) (DZ19:603 4 "breaches_of_tool" ["net","plan","tool"] [] (w6 IO)) (DZ20:603 3 "breaches_of_heat" ["net","plan","tool"] [] (xc IO)):604 5 f fd ["net","plan"] (qf IO):=by
 have sc:aJ ["net","plan","told","tool"] ["net","plan"] (aB DM):=dS 95
 sleep 86
 sleep 108
 sleep 49
 sleep 51
 sleep 122
 sleep 10;exists _,(af (aV (dv (eY (cC DZ10 hr 204))) 411 aH) (af (cX 2 sc (cC DZ15 hr 204)) (af (bQ (622 ((kW (own:= "k") (ys:= ["plan"]) (js:= [1]) rfl 106 (610 448) (λC fp s H=>(ay fA (av 366 274 108 32) ak 136)) (λC fp s H=>(@bM _ _ _ _ _ (i5<*>186))))<*>ae))) (af (bQ (622 ((cC DZ16 hr 204)<*>ae))) (af (bQ (622 ((cC DZ17 hr 204)<*>ae))) (af (605 241 346 (ar (bQ (622 ((cC DZ19 hr (108<*>(116<*>192)))<*>ae))))) (af (605 241 346 (ar (bQ (622 ((cC DZ20 hr (108<*>(116<*>192)))<*>ae))))) 309)))))))
 try dsimp only[cxK]
 sleep 97;sleep 0;sleep 31
 sleep 11
 sleep 63
 sleep 7;sleep 141
 have n8:=N.ok.n8;have a6:=N.ok.a600;have b3:=N.ok.b300;have t24:=N.ok.t24;have d12:=N.ok.d12;refine (aN x t (rfl,gj D T A B2 R M (N.any,λH1 g1=>(mB.i (gI ?_)))))
 have N1:=N.same g1;refine (aN x t (rfl,gj D T A B2 R M (N1.any,λl H2 k2 nl b2=>?_)))
 replace b2:ToldN H1 H2 l (fJ T R T.length):=b2;have kk:=g1.trans k2;obtain ⟨cs,ec,rc⟩:=id b2;have ln2:(fJ T R T.length).length<=24:=JV (c5 _ _ _) t24;refine (.inl 400,aM x _ dx _ (_,(rfl,(kk _ _ e0),B.Kq,B.Ku,l5,ν,by lia,by lia,pW Bs 146 (yM M) (λi=> [.str "moment",.int (i:Nat)]) 41 130 (λi hi H3 g3 S' hS=>?_) (λi hi _ H3 g3 Q' hQ=>?_) λp H3 np g3 b3'=>?_)))
 ·have hM:=I0 (show i<M.length by lia)
  have eb:yM M i=decide (M[i]'(by lia)<0):=by unfold yM;rw[aL hM]
  rw[eb] at hS;rw[Jl];exact (606 (rfl,rfl,bH.of ((kk.trans g3) _ _ et),rfl,aM ml _ _ _ (rfl,rfl,aF.of ((kk.trans g3) _ _ em),(bg (bW hM)),hS _ 184)))
 ·rw[Jl];exact (by show 2<=sizeLine;decide,λa na=>hQ _ _ (ao na _) (a,rfl,.inl na,au))
 have b3'':ToldN H2 H3 p (tW M M.length):=by
  rw[IX] at b3';exact b3'.mono λa h=>(h.1,h.2.elim id λz=>z.elim)
 refine iZ (iy nl k2 b2 g3 np b3'') λvs' us' _hi=>?_
 refine gY _hi λq1 q2 q3 q4 q5 _hj=>?_
 refine cB _hj λk4 b4=>?_
 have ln4:(tW M M.length).length<=8:=by have:=c5 M.length (yM M) λi=> [V.str "moment",.int (i:Nat)];unfold tW;lia
 refine (aM l p vs' us' 543)
 generalize aO H3 l (.lst (vs'++us'))=H4 at k4 b4⊢;clear ec rc b2 b3' b3'' q1 q2 q3 np g3 k2 kk;obtain ⟨cs,ec,rc⟩:=id b4;refine (.inl 400,aN x t (rfl,gj D T A B2 R M ((N1.same k4).any,λp5 H5 g5 np5 b5=>?_)))
 replace b5:ToldN H4 H5 p5 (iW A R M A.length):=b5;refine iZ (iy nl k4 b4 g5 np5 b5) λvs5 us5 _hi=>?_
 refine gY _hi λq1 q2 q3 s4 s5 _hj=>?_
 refine cB _hj λk6 b6=>?_
 rw[IU] at s4;have ln6:(iW A R M A.length).length<=600:=JV (c5 _ _ _) a6;refine (aM l p5 vs5 us5 543)
 generalize aO H5 l (.lst (vs5++us5))=H6 at k6 b6⊢;clear ec rc b4 b5 q1 q2 q3 np5 g5 k4;obtain ⟨cs,ec,rc⟩:=id b6;refine (.inl 400,aN x t (rfl,gj D T A B2 R M ((N1.same k6).any,λp7 H7 g7 np7 b7=>?_)))
 replace b7:ToldN H6 H7 p7 (gv B2 R B2.length):=b7;refine iZ (iy nl k6 b6 g7 np7 b7) λvs7 us7 _hi=>?_
 refine gY _hi λq1 q2 q3 v4 v5 _hj=>?_
 refine cB _hj λk8 b8=>?_
 rw[IU,IU] at v4;have ln8:(gv B2 R B2.length).length<=300:=JV (c5 _ _ _) b3;refine (aM l p7 vs7 us7 543)
 generalize aO H7 l (.lst (vs7++us7))=H8 at k8 b8⊢;clear ec rc b6 b7 q1 q2 q3 np7 g7 k6;have lnP:(fJ T R T.length++tW M M.length++iW A R M A.length++gv B2 R B2.length).length<=932:=by
  rw[IU,IU,IU]
  lia
 have ed8:=(ed.same (g1.trans k8)).no;have tk:(bU D).map 199=(D.map 199).map (λy=>(.inr y:Key)):=oz D
 refine (607 (_,(rfl,((g1.trans k8) _ _ e0),B.Kq,B.Ks,l1,cg td _ _ (rfl,ed8,tk,N.ok.dnd,by rw[IN];lia,λp9 ys np9 yp ysrt=>?_))))
 have g9:=ao np9 248;have e9:aO H8 p9 248 p9=some (.lst (ys.map V.str)):=au;have k9:=k8.trans g9;have b9:=b8.same g9;have yl:ys.length<=12:=by rw[yp.length_eq,IN];exact d12
 have lp9:p9≠l:=λe=>by
  obtain ⟨c,e',_⟩:=b8;rw[e,e'] at np9;cases np9
 generalize aO H8 p9 248=H9 at e9 k9 b9 g9⊢;have np9':H1 p9=none:=k8.free np9;refine (p9,rfl,(_,aF.of e9),bO (xs:=ys.map V.str) (λi σ H'=>∃o3:Option V,σ= [LN x,LN t,LN l,o3]/\aC H1 H'/\H' p9=some 248/\ToldN H1 H' l (fJ T R T.length++tW M M.length++iW A R M A.length++gv B2 R B2.length++(ys.take i).flatMap (mJ D T R))) (none,rfl,k9,e9,by simpa using b9) (λi σ H' _ (_,_,_,e,_)=>aF.of e) ?_ ?_)
 ·rintro i y σ HA hy ⟨o3,rfl,gA,eA,bA⟩;sleep 185;obtain ⟨cs,ec,rc⟩:=id bA;have zD:z∈D.map (·.1):=yp.mem_iff.mp (IR hz);refine (.inl 400,cg x t z (rfl,gj D T A B2 R M ((N1.same gA).any,zD,λpB HB gB npB bB=>?_)))
  refine iZ (iy nl gA bA gB npB bB) λvsB usB _hi=>?_
  refine gY _hi λq1 q2 q3 w4 w5 _hj=>?_
  refine cB _hj λkC bC=>?_
  have lf:=jj (f:=mJ D T R) (m:=24) (λa=>JV (lJ D T R a) r24) (ys.take i)
  have lt:(ys.take i).length<=12:=by rw[JH];lia
  have dl:=lJ D T R z;rw[IU] at w4;refine 497
  ·rw[aR lp9];exact gB _ _ eA
  ·rw[qg hz,<-Jg];exact bC
 rintro σ HA ⟨o3,rfl,gA,eA,bA⟩;rw[IN,JX] at bA;clear e9 k9 b9 g9 b8;have edA:=(ed.same (g1.trans gA)).no;have lf:=jj (f:=mJ D T R) (m:=24) (λa=>JV (lJ D T R a) r24) ys
 refine (607 (_,(rfl,((g1.trans gA) _ _ e0),B.Kq,B.Ks,l1,cg td _ _ (rfl,edA,tk,N.ok.dnd,by rw[IN];lia,λpE zs npE zp zsrt=>?_))))
 have ez:zs=ys:=So.sY zsrt ysrt (zp.trans yp.symm);subst ez;have gE:=ao npE 469;have eE:aO HA pE 469 pE=some (.lst (zs.map V.str)):=au;have kE:=gA.trans gE;have bE:=bA.same gE;have lpE:pE≠l:=λe=>by
  obtain ⟨c,e',_⟩:=bA;rw[e,e'] at npE;cases npE
 generalize aO HA pE 469=HE at eE kE bE gE⊢;refine (pE,rfl,(_,aF.of eE),bO (xs:=zs.map V.str) (λi σ H'=>∃o3:Option V,σ= [LN x,LN t,LN l,o3]/\aC H1 H'/\H' pE=some 469/\ToldN H1 H' l (fJ T R T.length++tW M M.length++iW A R M A.length++gv B2 R B2.length++zs.flatMap (mJ D T R)++(zs.take i).flatMap (ot T R))) (o3,rfl,kE,eE,by simpa using bE) (λi σ H' _ (_,_,_,e,_)=>aF.of e) ?_ ?_)
 ·rintro i y σ HF hy ⟨o3,rfl,gF,eF,bF⟩;sleep 185;obtain ⟨cs,ec,rc⟩:=id bF;refine (.inl 400,cg x t z (rfl,gj D T A B2 R M ((N1.same gF).any,λpB HB gB npB bB=>?_)))
  refine iZ (iy nl gF bF gB npB bB) λvsB usB _hi=>?_
  refine gY _hi λq1 q2 q3 w4 w5 _hj=>?_
  refine cB _hj λkC bC=>?_
  have lh:=jj (f:=ot T R) (m:=576) (λa=>qd a r24) (zs.take i)
  have lt:(zs.take i).length<=12:=by rw[JH];lia
  have dl:=qd (T:=T) z r24;rw[IU,IU] at w4;refine 497
  ·rw[aR lpE];exact gB _ _ eF
  ·rw[qg hz,<-Jg];exact bC
 rintro σ HF ⟨o3',rfl,gF,eF,bF⟩;rw[IN,JX] at bF;exact (q zs l HF yp ysrt (g1.trans gF) (g1.free nl) (bF.mono λa h=>(h.1,g1.free h.2)))
theorem FU {dV:Value} (F:bK K "plan_fits" "plan_fits" DN dV f fd) (DZ21:603 5 "breaches" ["net","plan"] [] (qf IO)):604 6 f fd ["net","plan"] (xf IO):=by
 have sc:aJ ["net","plan"] ["net","plan"] (aB DN):=dS 95
 sleep 86
 sleep 108
 sleep 49
 sleep 51
 sleep 122
 sleep 10;exists _,(ar (aD (jt 546 (cC DZ21 hr 204) 125 136)));try dsimp only[cxK]
 refine (aN x t (rfl,gj D T A B2 R M (N,λys l H1 yp ysrt g1 nl (vs,ev,rv)=>?_)))
 refine (by show 0<=sizeLine;decide,λl2 nl2=>?_)
 have g2:=ao nl2 132;refine (cg l l2 _ (rfl,rfl,aF.of (626 ev),aF.of au,?_));have e:vs.isEmpty=(yX ys D T A B2 R M).isEmpty:=by
  have:=rv.1;cases vs<;>cases h:yX ys D T A B2 R M<;>simp[h] at this⊢
 rw[e];exact q ys _ yp ysrt 269
theorem FV {dV:Value} (F:bK K "are_points" "are_points" DO dV f fd) (DZ1:603 1 "points_of" ["net"] [] (jD IO)):604 2 f fd ["net","some"] (mL IO):=by
 have sc:aJ ["net","some","point"] ["net","some"] (aB DO):=dS 95
 sleep 86
 refine zu h λx l fz D T A B2 n C _hi=>?_
 refine fO _hi λ_r1 N el q=>?_
 sleep 100;exists _,(af (605 (aQ 116) 467 (ar (aV (dv (dD dJ fA ak 123 (cC DZ1 hr 186))) 208 aH))) 208);try dsimp only[cxK]
 sleep 75;refine (l,rfl,333,bO (xs:=C.map V.int) (λk σ H'=>H=H'/\(∃o2:Option V,σ= [LN x,LN l,o2])/\f9 194 (C.take k)=true) (rfl,(none,rfl),rfl) (λk σ H' _ h=>by rw[<-h.1];exact aF.of el) ?_ ?_)
 ·rintro k y σ H1 hy ⟨rfl,⟨o2,rfl⟩,hall⟩;rw[IQ] at hy;obtain ⟨p,hp,rfl⟩:=IW.mp hy;have bad:(decide (0<=p)&&decide (p<2*109+n))=false->f9 194 C=false:=λh=>by
   unfold f9;rw[<-K9,JE];intro hh;have:=hh p (IR hp);rw[h] at this;cases this
  refine (d2 (λc1=>(gj x n fz D T A (B2,(rfl,N,n2 258 (λc2=>(rfl,⟨ν⟩,?_)))))) (λc1=>(mB.i (eI ?_))))
  ·rw[bad (by rw[decide_eq_false c2,Bool.and_false])] at q
   exact q
  ·unfold f9 at hall⊢;rw[cL hp,List.all_append,hall,Kj,List.all_cons,List.all_nil,Bool.and_true,decide_eq_true c1,decide_eq_true c2]
   rfl
  ·rw[bad (by rw[decide_eq_false c1,Bool.false_and])] at q
   exact q
 ·rintro σ H1 ⟨rfl,⟨o2,rfl⟩,hall⟩;rw[IN,JX] at hall;rw[hall] at q;exact q
theorem FW {dV:Value} (F:bK K "many_in" "many_in" DP dV f fd) (DZ9:603 1 "use_in" ["way","tool"] [] rD):604 2 f fd ["way","tool"] kD:=by
 have sc:aJ ["way","tool","use"] ["way","tool"] (aB DP):=dS 95
 sleep 86
 obtain ⟨v,z,w,rfl,rw',q⟩:=h;exists _,(af (cX 2 sc (cC DZ9 hr 204)) (ar (aD (ng (ay dX 123 aX 136) ak 167))))
 try dsimp only[cxK]
 sleep 75;refine (aM v z w _ (rfl,rw',λu a hu _ ha=>?_,λhn=>?_))
 ·rw[jm hu] at q;exact (rfl,mB.i (623 (aM a _ _ _ (rfl,rfl,bH.of ha,rfl,q))))
 ·rw[jk hn] at q;exact (rfl,mB.i (dT rfl q))
theorem FX {dV:Value} (F:bK K "open_ways" "open_ways" DQ dV f fd) (DZ2:603 1 "copy_of_task" ["ways"] [] rC):604 2 f fd ["net","case","i"] (vQ IO):=by
 have sc:aJ ["net","case","i","ways","pick"] ["net","case","i"] (aB DQ):=dS 95
 sleep 86
 refine j8 h λx t i _hi=>?_
 sleep 49
 sleep 160
 refine fD _hk λO _hl=>?_
 refine i3 _hl λNC il q=>?_
 sleep 103;exists _,(af (cX 3 sc (cC DZ2 hr ((611 155 123 32)<*>ae))) (af (cX 4 sc 535) (ar (aD (ng 534 127 (@bq _ _ _ _ ((611 127 134 32)<*>ae)))))))
 try dsimp only[cxK]
 sleep 9;refine fN NC.net.ex λdx td tl al pl fs _hi=>?_
 sleep 11
 sleep 63
 obtain ⟨vs,el,rT⟩:=_r1;obtain ⟨kl,ol,ec,ek,ho⟩:=id NC.case_;have hT:=I0 il;have ol':=jn (P:=P) NC.ok.ways il;obtain ⟨w1,w2,_⟩:=NC.ok.ways _ (J3 il);obtain ⟨y,hy,wl,rfl,_,lw⟩:=rT.get hT;have hP:=I0 (show i<P.length by rw[NC.pk.len];exact il)
 have oF:bV T P i=match P[i]'(by rw[NC.pk.len];exact il) with|none=>T[i]|some j=> [(T[i]).getD j (0,0,[])]:=by
  unfold bV;rw[aL hT,aL hP];try rfl
 refine (607 (_,(rfl,e0,B.Kq,B.Kr,l2,aM tl _ _ _ (rfl,rfl,aF.of el,(bg hy),cg wl _ _ (rfl,lw,w2,λp H1 g1 np wf=>?_)))))
 refine (606 (rfl,rfl,bH.of (617 ec),rfl,aM kl _ _ _ (rfl,rfl,aF.of (617 ek),(bg (bW hP)),?_)));obtain ⟨p',e',hpn,lp⟩:=wf;cases e';have lpA:=lp.any;cases hp:P[i]'(by rw[NC.pk.len];exact il) with
 |none=>
  rw[hp] at oF;refine (rfl,mB.i (dT rfl (mV.i ?_)));rw[oF] at q;exact q p H1 g1 np lpA
 |some j=>
  rw[hp] at oF hP;have jl:=NC.pk.pick i j _ hP hT;sleep 189;obtain ⟨ys,ey,ry⟩:=lpA;obtain ⟨v,hv,rv⟩:=ry.get hw;refine (rfl,mB.i (623 (aM p _ _ _ 415)))
  rw[oF] at q;exact q p2 _ (g1.trans (ao np2 _)) (g1.free np2) (_,au,A2.one (mG rv (ao np2 _)))
theorem FY {dV:Value} (F:bK K "work_of" "work_of" DR dV f fd) (DZ24:603 2 "many_in" ["way","tool"] [] kD) (DZ25:603 2 "open_ways" ["net","case","i"] [] (vQ IO)):604 3 f fd ["net","case","i","tool"] (vR IO cZ):=by
 have sc:aJ ["net","case","i","tool"] ["net","case","i","tool"] (aB DR):=dS 95
 sleep 86
 refine ij h λx t i z _hi=>?_
 sleep 49
 sleep 160
 refine fD _hk λO _hl=>?_
 refine i3 _hl λNC il q=>?_
 sleep 103;exists _,(ar (aD (609 ((c8 (own:= "way") (ys:= ["tool"]) (js:= [3]) rfl 106 (aQ (cC DZ25 hr (108<*>(116<*>268)))) (λC fp s H=>(aw aY 118 (cC DZ24 hr 204))))<*>ae))))
 try dsimp only[cxK]
 sleep 0;have ne:=mZ (P:=P) NC.ok.ways il;have ln:=jn (P:=P) NC.ok.ways il;refine (cg x t i (rfl,gj D T A B2 n P (O,(NC,il,λp H1 g1 np (vs,ev,rv)=>?_))))
 refine (p,rfl,(_,aF.of ev),cz 260 146 (λk=>(λw:Wy=>w.1*bJ w z) 251) (aF.of ev) 377 130 525 λp2 H2 np2 g2 hp=>?_)
 ·obtain ⟨w,hw,rw'⟩:=rv.at_ hy;rw[aL hw] at hQ;obtain ⟨tw,uw,rfl,pa,pb,etw,lw⟩:=id rw';have w1:1<=w.1/\w.1<=1000000000:=by
   obtain ⟨ws,hws,hww⟩:=xr NC.ok.ways NC.pk il w (IR hw);obtain ⟨a1,a2,a3,_⟩:=(NC.ok.ways ws hws).2.2 w hww
   lia
  exact (aM tw _ _ _ (rfl,rfl,bH.of (626 etw),rfl,cg (.ref tw) z w (rfl,mG rw' g2,112 171,hQ _ _ 184 rfl)))
 ·obtain ⟨us,eu,ru⟩:=hp;have eus:us=((bV T P i).map λw:Wy=>w.1*bJ w z).map V.int:=by
   rw[ru.val,rv.1]
   conv=>rhs;rw[<-cJ 496 402]
   rw[JB,JB,JB]
   rfl
  sleep 194
  rw[fU hM hle];exact q _ 269
theorem FZ {dV:Value} (F:bK K "arcs_of" "arcs_of" DS dV f fd) (DZ25:603 2 "open_ways" ["net","case","i"] [] (vQ IO)):604 3 f fd ["net","case"] (kF IO):=by
 have sc:aJ ["net","case","arcs","i","ways","j"] ["net","case"] (aB DS):=dS 95
 sleep 86
 sleep 108
 sleep 49
 sleep 160
 refine fD _hk λO _hl=>?_
 refine i3 _hl λNC po q=>?_
 sleep 103;exists _,(af (cX 2 sc (612 448)) (af (605 (610 (201<*>ae)) 346 (af (cX 4 sc (cC DZ25 hr (108<*>(116<*>192)))) (af (bQ (608 123 ((@bM _ _ _ _ _ (352<*>((614 352 ak)<*>((609 420)<*>ae))))<*>ae))) (ar (bQ (608 123 ((@bM _ _ _ _ _ ((614 352 ak)<*>(352<*>((gZ fr (615 420))<*>ae))))<*>ae))))))) (af (605 (aQ 158) (dN rfl (aP 346 (aP 323 cS))) (ar (bQ (608 123 ((@bM _ _ _ _ _ ((614 352 ak)<*>(547<*>(ak<*>ae))))<*>ae))))) 309)))
 try dsimp only[cxK]
 sleep 69;sleep 0;refine fN NC.net.ex λdx td tl al pl fs _hi=>?_
 sleep 11
 refine cB _hj λ_r2 hB=>?_
 obtain ⟨vs,el,rT⟩:=_r1;obtain ⟨ba,ea,ra⟩:=_r2;obtain ⟨kl,ol,ec,ek,⟨bo,eo,ro⟩⟩:=id NC.case_;have a600:=NC.ok.a600;have t24:=NC.ok.t24;have lv:vs.length=T.length:=rT.1;refine (607 (_,(rfl,e0,B.Kq,B.Kz,l3,aN al _ (rfl,.inl (aF.of ea),λl nl=>?_))))
 have g0:=ao nl 226;have hA0:bn (aO H l 226) l (A++dL T P 0):=374
 generalize aO H l 226=H0 at g0 hA0⊢;try dsimp only[bN,cq]
 refine eC (λNq=>∀(o3 o4 o5:Option V) (H':Hp),aC H H'->bn H' l (A++dL T P T.length)->Nq [some 262,some 214,some 215,o3,o4,o5] H') 206 ?_
 ·refine (607 (_,(rfl,(g0 _ _ e0),B.Kq,B.Kr,l2,aN tl _ (rfl,.inl (aF.of (g0 _ _ el)),ν,by lia,by lia,bz (λi σ H'=>∃o3 o4 o5:Option V,σ= [LN x,LN t,LN l,o3,o4,o5]/\aC H H'/\bn H' l (A++dL T P i)) (613 none (rfl,g0,hA0)) ?_ ?_))))
  ·rintro i σ H1 hi ⟨o3,o4,o5,rfl,g1,⟨bs,eb,rb⟩⟩;rw[IX,lv] at hi;have zi:131=(i:Int):=Jl _;have ne:=mZ (P:=P) NC.ok.ways hi;have ln:=jn (P:=P) NC.ok.ways hi;have lb:bs.length=A.length+2*i:=by rw[rb.1,IU,dh]
   refine (cg x t i (by rw[zi];rfl,gj D T A B2 n P (O,(NC.same g1,hi,λp H2 g2 np (vs,ev,rv)=>?_))))
   refine (.inl (rfl,_,aF.of (626 eb)),112 49,112 49,p,rfl,(_,aF.of ev),cz 260 146 (λk=>(λw:Wy=>w.1) 251) (aF.of ev) 377 130 174 λp2 H3 np2 g3 hp2=>?_)
   ·sleep 178
    sleep 102
    sleep 159
    sleep 95
    refine cB _hl λetw _=>?_
    sleep 110;sleep 211
   obtain ⟨us,eu,ru⟩:=hp2;have eus:us=((bV T P i).map λw:Wy=>w.1).map V.int:=by
    rw[ru.val,rv.1]
    conv=>rhs;rw[<-cJ 496 402]
    rw[JB,JB,JB]
    rfl
   rw[eus] at eu;refine (aN p2 _ (rfl,aF.of eu,by simpa using ne,λM hM hle=>(by show 3<=sizeLine;decide,λt1 nt1=>(cg l _ _ (rfl,rfl,ao nt1 _ _ _ (595 _ _ eb),by rw[IN];lia,?_)))))
   rw[zi,fU hM hle];sleep 208
   rw[<-hm1];sleep 231;have k4:=((g1.trans g2).trans g3).trans gt1;have q4:=(g2.trans g3).trans gt1;have hA4:=gU (k:= [2*(i:Int),2*(i:Int)+1,m1]) (q4 _ _ eb) (rb.imp λa k q=>q4 _ _ q) au
   have k5:=eZ k4 nl 172;have ev5:aO 198 l 172 p=some (.lst vs):=by
    rw[aR (λe=>by rw[e,eb] at np;cases np)]
    exact (g3.trans gt1) _ _ ev
   have tw5:∀tw ys,H2 tw=some (.tup ys)->aO 198 l 172 tw=some (.tup ys):=λtw ys e=>by
    rw[aR (λz=>by rw[z,g2 _ _ eb] at e;cases e)]
    exact (g3.trans gt1) _ _ e
   generalize aO 198 l 172=H5 at hA4 k5 ev5 tw5⊢;clear eu eus ru us gt1 k4 q4 nt1 g3 np2;sleep 172
   refine (.inl (rfl,_,aF.of ecs),112 49,112 49,p,rfl,(_,aF.of ev5),cz 260 146 (λk=>(λw:Wy=>w.2.1) 251) (aF.of ev5) 377 130 174 λp3 H6 np3 g6 hp3=>?_)
   ·sleep 178
    sleep 102
    sleep 159
    sleep 95
    refine cB _hl λetw _=>?_
    sleep 110;exact (aM tw _ _ _ (rfl,rfl,bH.of (gk _ _ (tw5 _ _ etw)),rfl,hQ _ _ 184 rfl))
   obtain ⟨us,eu,ru⟩:=hp3;have eus:us=((bV T P i).map λw:Wy=>w.2.1).map V.int:=by
    rw[ru.val,rv.1]
    conv=>rhs;rw[<-cJ 496 402]
    rw[JB,JB,JB]
    rfl
   rw[eus] at eu;refine (aN p3 _ (rfl,aF.of eu,by simpa using ne,λM2 hM2 hle2=>(ν,by show 3<=sizeLine;decide,λt2 nt2=>(cg l _ _ (rfl,rfl,ao nt2 _ _ _ (g6 _ _ ecs),by rw[IN];lia,?_)))))
   rw[xE hM2 hle2];have gt2:=ao nt2 (.tup [.int 137,.int 157,.int (-(oZ 237))])
   have hA7:=gU (k:= [2*(i:Int)+1,2*(i:Int),-(oZ 237)]) ((g6.trans gt2) _ _ ecs) (rcs.imp λa k q=>(g6.trans gt2) _ _ q) au
   refine (618 (rfl,eZ ((k5.trans g6).trans gt2) nl _,?_));have e:A++dL T P 233=A++dL T P i++ [[2*(i:Int),2*(i:Int)+1,m1]]++ [[2*(i:Int)+1,2*(i:Int),-(oZ 237)]]:=by
    rw[hm1];show A++(dL T P i++_)=_;rw[Jg,Jg]
    rfl
   rw[e];exact hA7
  ·rintro σ H1 ⟨o3,o4,o5,rfl,g1,hA⟩;rw[IX,lv] at hA;exact hN _ _ _ _ g1 hA
 clear hA0 g0;intro o3 o4 o5 H1 g1 hA;refine (606 ⟨rfl,rfl,bH.of (617 ec),rfl,ol,rfl,⟨_,aF.of (617 eo)⟩,bO (xs:=bo.map V.ref) (λk σ H'=>∃o3 o4 o5:Option V,σ= [LN x,LN t,LN l,o3,o4,o5]/\aC H H'/\bn H' l (A++dL T P T.length++jp (O.take k))) (618 ⟨rfl,g1,by rw[List.take_zero];exact (Jw _).symm▸hA⟩) (λk σ H' _ h=>by obtain ⟨_,_,_,_,g,_⟩:=h;exact aF.of (g _ _ eo)) ?_ ?_⟩)
 ·rintro k y σ H2 hy ⟨o3,o4,o5,rfl,g2,⟨bs,eb,rb⟩⟩;sleep 34;have kl:k<O.length:=by rw[<-ro.1];exact (IP.mp hb).1
  sleep 146;have lb:bs.length<=2000:=by
   have:=rb.1;have h1:=po.1;rw[IU,IU,dh] at this;unfold jp at this;rw[IN,JH] at this
   lia
  refine (aN b _ (rfl,bH.of (626 eb'),rfl,aN _ _ 545));refine (.inl (rfl,_,aF.of eb),112 49,112 49,by show 3<=sizeLine;decide,λt1 nt1=>(cg l _ _ (rfl,rfl,ao nt1 _ _ _ eb,by rw[IN];lia,?_)))
  have gt:=ao nt1 (.tup [.int (2*p+1),.int (2*q'),.int 0]);refine (618 (rfl,eZ (g2.trans gt) nl _,?_));have e:jp (O.take 314)=jp (O.take k)++ [[2*p+1,2*q',0]]:=by
   unfold jp;rw[cL hk,JJ]
   rfl
  rw[e,<-Jg];exact gU (gt _ _ eb) 527 au
 ·rintro σ H2 ⟨o3,o4,o5,rfl,g2,hA2⟩;have lo:(bo.map V.ref).length=O.length:=by rw[IN,ro.1]
  rw[lo,JX] at hA2;exact (q l H2 g2 nl hA2)
theorem F0 {dV:Value} (F:bK K "greatest_lags" "greatest_lags" DT dV f fd):604 1 f fd ["arcs"] rO:=by
 have sc:aJ ["arcs","lags","p","q","lag"] ["arcs"] (aB DT):=dS 95
 sleep 86
 obtain ⟨l,A,rfl,⟨as,el,rA⟩,l7,q⟩:=h;exists _,(af (cX 1 sc zT) (af (605 357 (dN rfl (aP 467 225)) (ar (wE 505 116 513 (619 (134<*>((zU 505 116 513 134 (rfl,rfl,rfl,rfl))<*>ae))) rfl))) (ar (aD 116))));try dsimp only[cxK]
 sleep 9;sleep 0;have la:(as.map V.ref).length=A.length:=by rw[IN,rA.1,IN]
 refine λd nd=>?_
 have g0:=ao nd (.dT []);refine (l,rfl,(_,aF.of (g0 _ _ el)),bO (xs:=as.map V.ref) (λi σ H'=>∃o2 o3 o4:Option V,σ= [LN l,LN d,o2,o3,o4]/\aC H H'/\∃kvs,H' d=some 399/\kvs.length<=i/\y6 kvs (A.take i)) (613 none (rfl,g0,[],au,IT _,λp q=>rfl)) (λi σ H' _ (_,_,_,_,g,_)=>aF.of (g _ _ el)) ?_ ?_)
 ·intro i y σ H1 hy h_;refine j8 h_ λo2 o3 o4 _hi=>?_
  refine i3 _hi λ_r1 g1 _hj=>?_
  refine fD _hj λkvs _hk=>?_
  refine i3 _hk λed lk vk=>?_
  sleep 46;sleep 34;obtain ⟨r,hr',eb⟩:=hW rA hb;have ir:=(IP.mp hr').1;refine (aN b _ (rfl,bH.of (617 eb),rfl,aN _ _ 190));refine (d,rfl,.inr (_,.inl ed),by show 2<=sizeLine;decide,λt1 n1=>(_,kj.t (k:= [.inl r.1,.inl r.2.1]) (ao n1 _ _ _ ed) au,?_))
  rw[vk,Cf];refine (aN _ _ (rfl,by show 2<=sizeLine;decide,λt2 n2=>(aN d _ (rfl,sG.t (k:= [.inl r.1,.inl r.2.1]) (ao n2 _ _ _ (ao n1 _ _ _ ed)) au 41,?_))))
  exact (618 (rfl,eZ ((g1.trans (ao n1 _)).trans (ao n2 _)) nd _,_,au,JV (i8 _ _ _) 41,vk.put hr'))
 ·sleep 205;refine j8 h_ λo2 o3 o4 _hi=>?_
  refine i3 _hi λ_r1 g1 _hj=>?_
  refine fD _hj λkvs _hk=>?_
  refine i3 _hk λed lk vk=>?_
  sleep 46;rw[la,JX] at vk;exact (q d kvs _ g1 nd ed vk)
theorem F1 {dV:Value} (F:bK K "total_by" "total_by" DU dV f fd):604 1 f fd ["lags","chain"] se:=by
 have sc:aJ ["lags","chain","total","p","q"] ["lags","chain"] (aB DU):=dS 95
 sleep 86
 refine ij h λd c A C _hi=>?_
 refine fD _hi λkvs _hj=>?_
 refine gY _hj λ_r1 ed vk ec1 c7 k=>?_
 sleep 52;exists _,(af (cX 2 sc ak) (af (605 (uZ rfl B.Ls (116<*>((fX qO 116 (gG ak) iJ)<*>ae))) (dN rfl 225) (af (aV (qI (jw 505 512 108) 138) 221 aH) (ar (uL (i:=2) sc.nd rfl (Or.inl rfl) (jv 505 108 512 32) uM)))) 309))
 try dsimp only[cxK]
 sleep 9;sleep 0;refine (ν,aN c _ (rfl,aF.of ec1,λp1 n1=>?_))
 have cD:jY (C.map V.int) (some 1) none=(C.drop 1).map V.int:=by rw[show (1:Int)=((1:Nat):Int) from rfl,yO,List.map_drop]
 rw[cD];have g2:=ao n1 350;have ed2:=ao n1 350 _ _ ed;have ep:aO H p1 350 p1=some (.lst ((C.drop 1).map V.int)):=au;generalize aO H p1 350=H2 at g2 ed2 ep⊢;have ml:min (C.map V.int).length ((C.drop 1).map V.int).length=C.length-1:=by rw[IN,IN,Js];lia
 refine (aN c p1 (rfl,(_,aF.of (626 ec1)),(_,aF.of ep),wF (xs:=C.map V.int) (ys:=(C.drop 1).map V.int) (λi σ H'=>∃(o4 o5:Option V) (t:Int),σ= [LN d,LN c,some (.int t),o4,o5]/\aC H2 H'/\gw A C i=some t) (613 0 (rfl,.refl _,rfl)) (λi σ H' _ (_,_,_,_,g,_)=>(aF.of (g _ _ (626 ec1)),aF.of (g _ _ ep))) ?_ ?_))
 ·rintro i y z σ H3 T' hy hz ⟨o4,o5,t,rfl,g3,ht⟩ nT;rw[IQ] at hy hz;obtain ⟨x,hx,rfl⟩:=IW.mp hy;obtain ⟨w',hw,rfl⟩:=IW.mp hz;rw[List.getElem?_drop,Nat.add_comm] at hw;have st:=lO ht hx hw;have iw:=(IP.mp hw).1;have g4:=g3.trans (ao nT 342);sleep 12;generalize aO H3 T' 342=H4 at g4⊢;have ed4:=g4 _ _ ed2;refine (by show 2<=sizeLine;decide,λt1 n1=>(aN d _ (rfl,kj.t (k:= [.inl x,.inl w']) (ao n1 _ _ _ ed4) au,?_)))
  rw[vk];have g5:=g4.trans (ao n1 342);cases hl:dB A x w' with
  |none=>
   rw[hl] at st;refine (mB.i (eI ?_));have e:db A C=none:=jH (i:=i+1) st 41
   have:=k _ (g2.trans g5);rw[e] at this;exact this
  |some gg=>
   rw[hl] at st;refine (mB.i (gI ?_));refine (by show 2<=sizeLine;decide,λt2 n2=>(aN d (.int gg) (rfl,?_,cg _ _ _ (rfl,g5.trans (ao n2 _),st))))
   have:=kj.t (k:= [.inl x,.inl w']) (ao n2 342 _ _ (ao n1 342 _ _ ed4)) au;rw[vk,hl] at this;exact this
 ·rintro σ H3 ⟨o4,o5,t,rfl,g3,ht⟩;rw[ml] at ht;have:=k _ 595;rw[show db A C=some t from ht] at this
  exact this
theorem F4 {dV:Value} (F:bK K "chain_total" "chain_total" DV dV f fd) (DZ28:603 1 "greatest_lags" ["arcs"] [] rO) (DZ29:603 1 "total_by" ["lags","chain"] [] se):604 2 f fd ["arcs","chain"] xi:=by
 have sc:aJ ["arcs","chain"] ["arcs","chain"] (aB DV):=dS 95
 sleep 86
 refine ij h λl c A C _hi=>?_
 refine gY _hi λ_r1 hA l7 ec c7 k=>?_
 sleep 100;exists _,(ar (aD (cC DZ29 hr ((cC DZ28 hr 186)<*>449))));try dsimp only[cxK]
 refine (aN l A (rfl,hA,l7,λd kvs H1 g1 nd ed vk=>?_))
 exact (aM d c A C (kvs,(rfl,ed,vk,g1 _ _ ec,c7,λH' g'=>k _ (g1.trans g'))))
theorem F5 {dV:Value} (F:bK K "raise_times" "raise_times" DW dV f fd):604 1 f fd ["times","ahead","arcs"] xp:=by
 have sc:aJ ["times","ahead","arcs","raised","p","q","lag"] ["times","ahead","arcs"] (aB DW):=dS 95
 sleep 86
 refine zu h λlt lp la A n k tm ah ag _hi=>?_
 refine fD _hi λpn _hj=>?_
 refine fO _hj λ_r1 R0 ps q=>?_
 sleep 52;exists _,(af (cX 3 sc aX) (af (605 (aQ 123) (dN rfl (aP 324 528)) (ar (aV (ay gC (614 308 254) 307 136) (af (kK (614 308 254) (uJ 108 154 set_list)) (af (kK 134 (uJ 116 154 set_list)) (ar (cX 3 sc 154)))) aH))) 286))
 try dsimp only[cxK]
 sleep 9;sleep 0;obtain ⟨as,el,rA⟩:=R0.arcs;have lA:(as.map V.ref).length=A.length:=by rw[IN,rA.1,IN]
 refine (la,rfl,333,bO (xs:=as.map V.ref) (λi σ H'=>∃(o4 o5 o6:Option V) (r:Option Int) (tm':Int->Int) (ah':Int->Option Int) (ag':Int->Int) (pn':Int->Nat),σ= [LN lt,LN lp,LN la,some (oV r),o4,o5,o6]/\mQ lt lp H H'/\y9 H' lt lp la A n tm' ah' ag'/\PS A k i tm' ah' pn'/\(∀q,r=some q->pn' q=k/\0<=q/\q<(n:Int))/\(r=none->∀j a,j<i->A[j]?=some a->tm' a.1+a.2.2<=tm' a.2.1)) (gj none none none none tm ah (aN ag pn (rfl,λb o _ _ h=>h,R0,ps,nofun,λ_ j a h=>by lia))) (λi σ H' _ (_,_,_,_,_,_,_,_,_,b,_)=>aF.of (b _ _ R0.nt R0.np el)) ?_ ?_)
 ·intro i y σ H1 hy h_;refine fN h_ λo4 o5 o6 r tm' ah' _hi=>?_
  refine iZ _hi λag' pn' _hj=>?_
  refine gY _hj λ_r1 b1 R1 ps1 hr1 hn1=>?_
  sleep 14;sleep 34;obtain ⟨a,ha',eb⟩:=hW rA hb;have eb1:=b1.tup R0.et R0.ep eb;have am:=IR ha';obtain ⟨p0,p1,q0,q1⟩:=R0.inr a am;refine (aN b _ (rfl,bH.of eb1,rfl,aN _ _ 190));refine (aM lt _ _ _ (rfl,rfl,aF.of R1.et,(AI p0 p1),aM lt _ _ _ (rfl,rfl,aF.of R1.et,(AI q0 q1),d2 176 176)))
  ·have c:tm' a.1+a.2.2>tm' a.2.1:=c;refine (aM lt _ _ _ (rfl,rfl,aF.of R1.et,(AI p0 p1),aM lt _ _ a.2.1.toNat (rfl,rfl,R1.et,xo q0 (by rw[IN,iQ];exact q1),?_)))
   rw[AJ q0 q1];have ep2:aO H1 lt (.lst ((lst n 466).map V.int)) lp=some (.lst ((lst n ah').map oV)):=by rw[aR R0.ne.symm];exact R1.ep
   refine (aM lp _ _ a.2.1.toNat (rfl,rfl,ep2,xo q0 (by rw[IN,iQ];exact q1),?_))
   rw[AK q0 q1];refine (gj _ _ _ (some a.2.1) 466 (fq ah' a.2.1 (some a.1)) (aN (fq ag' a.2.1 a.2.2) (fq pn' a.2.1 k) (rfl,ql (qk b1),?_,ps1.put ha' c,?_,nofun)))
   ·have bb:mQ lt lp H1 (aO (aO H1 lt (.lst ((lst n 466).map V.int))) lp (.lst ((lst n (fq ah' a.2.1 (some a.1))).map oV))):=ql (qk (λb o _ _ h=>h))
    exact (by rw[aR R0.ne];exact au,au,R0.ne,R0.nt,R0.np,R1.arcs.but bb R1.et R1.ep R0.nt R0.np,R0.la7,R0.n7,R0.inr,R1.bf.put am c)
   ·intro q hq;cases hq;exact (cG,q0,q1)
  ·have c:¬tm' a.1+a.2.2>tm' a.2.1:=c;refine (gj _ _ _ r tm' ah' (aN ag' pn' (rfl,b1,R1,ps1.skip ha' c,hr1,λhn j a' hj e=>?_)))
   by_cases z:j=i
   ·subst z;rw[ha'] at e;cases e
    lia
   ·exact hn1 hn j a' 41 e
 ·sleep 205;refine fN h_ λo4 o5 o6 r tm' ah' _hi=>?_
  refine iZ _hi λag' pn' _hj=>?_
  refine gY _hj λ_r1 b1 R1 ps1 hr1 hn1=>?_
  sleep 14;rw[lA] at ps1 hn1;refine (q H1 tm' ah' ag' pn' r b1 R1 ps1 hr1 λhn a ha=>?_)
  obtain ⟨j,hj⟩:=IY.mp ha;exact hn1 hn j a (IP.mp hj).1 hj
theorem F6 {dV:Value} (F:bK K "chain_to" "chain_to" DX dV f fd):604 1 f fd ["ahead","point"] qm:=by
 have sc:aJ ["ahead","point","chain"] ["ahead","point"] (aB DX):=dS 95
 sleep 86
 refine fN h λlp x A n tm ah _hi=>?_
 refine fD _hi λag _hj=>?_
 refine lZ _hj λ_r1 ep n7 x0 x1 ir bf kp q=>?_
 sleep 52;exists _,(af (cX 2 sc (@bq _ _ _ _ 449)) (af (sA 104 (ay iI (611 108 (611 123 416 32) 32) aX 136) (ar (bQ (608 123 ((611 108 (611 123 416 32) 32)<*>ae))))) (ar (aD (iL rfl rfl B.Kw rfl B.La boot_list PyProof.Rows.Boot.«reversed» 123)))))
 try dsimp only[cxK]
 sleep 9;sleep 0;refine (by show 1<=sizeLine;decide,λl nl=>?_)
 exists λm σ H'=>∃r:List Int,σ= [LN lp,some (.int x),LN l]/\aC H H'/\H' l=some (.lst ((x::r).map V.int))/\WL ah (x::r)/\(∀z∈x::r,0<=z/\z<(n:Int))/\m=n-r.length,(aN n [] (rfl,ao nl _,au,trivial,λz hz=>by rw[J4.mp hz];exact (x0,x1),rfl))
 rintro m σ H1 ⟨r,rfl,g1,el,w,hr',rfl⟩;have lastV:((x::r).map V.int).getLast?=some (.int 484):=by rw[List.getLast?_map,Jq 110];rfl
 have hlast:=hr' _ (List.getLast_mem (l:=x::r) 110)
 have hfew:=oA (WL.nodup (bf.acyc kp) w) hr';have lst?:(x::r).getLast?=some ((x::r).getLast 110):=Jq 110
 generalize hz:(x::r).getLast 110=z at lastV hlast lst?
 have ep1:=g1 _ _ ep;simp at hfew;refine (ν,aM l _ _ _ (rfl,rfl,aF.of el,(mW lastV),aM lp _ _ _ (rfl,rfl,aF.of ep1,(CG hlast.1 hlast.2),rfl,mB.i ?_)));cases ha:ah z with
 |none=>
  refine nF rfl (aN l _ (rfl,aF.of el,λp np=>?_))
  refine q p (x::r).reverse _ (g1.free np) (g1.trans 393) (by rw[au,List.map_reverse]) (bf.chain kp w hr' (by rw[hz];exact ha))
 |some y=>
  have yr:=bf.inR ir ha;refine nT nofun ⟨λσ H'=>∃r':List Int,σ= [LN lp,some (.int x),LN l]/\aC H H'/\H' l=some (.lst ((x::r').map V.int))/\WL ah (x::r')/\(∀z∈x::r',0<=z/\z<(n:Int))/\r'.length=r.length+1,λσ H' ⟨r',h1,h2,h3,h4,h5,h6⟩=>⟨n-r'.length,by lia,r',h1,h2,h3,h4,h5,rfl⟩,?_⟩
  refine (.inl (rfl,_,aF.of el),ν,aM l _ _ _ (rfl,rfl,aF.of el,(mW lastV),aM lp _ _ _ (rfl,rfl,aF.of ep1,(vL hlast.1 hlast.2 ha),cg l _ _ (rfl,rfl,el,by rw[IN];simp;lia,?_))))
  refine (r++ [y],rfl,eZ g1 nl _,?_,WL.snoc w lst? ha,λv hv=>?_,by simp)
  ·rw[au,t9]
  ·rcases JA.mp (show v∈(x::r)++ [y] from hv) with h|h
   ·exact hr' v h
   ·rw[J4.mp h];exact yr
theorem F7 {dV:Value} (F:bK K "ring_behind" "ring_behind" DY dV f fd):604 1 f fd ["ahead","point"] xq:=by
 have sc:aJ ["ahead","point","first","step","ring"] ["ahead","point"] (aB DY):=dS 95
 sleep 86
 refine zu h λlp q A n k i0 tm ah ag _hi=>?_
 refine fD _hi λpn _hj=>?_
 refine lZ _hj λ_r1 ep n7 q0 q1 ir bf ps _hk=>?_
 refine cB _hk λpq K'=>?_
 sleep 10;exists _,(af (cX 2 sc 116) (af (605 197 346 (ar (cX 2 sc (611 108 123 32)))) (af (cX 4 sc (@bq _ _ _ _ 268)) (af (sA 104 (ay fW (611 108 (611 134 416 32) 32) 123 136) (ar (bQ (608 134 ((611 108 (611 134 416 32) 32)<*>ae))))) (ar (aD (iL rfl rfl B.Kw rfl B.La boot_list PyProof.Rows.Boot.«reversed» 134)))))))
 try dsimp only[cxK]
 refine HN ?_;intro D' r4 r3 r2 r1;sleep 0;have ll:((lst n ah).map oV).length=n:=by rw[IN,iQ]
 try dsimp only[bN,cq]
 refine eC (λNq=>Nq [some (.ref lp),some (.int q),some (.int q),none,none] H) (λN hN=>hN) ?_
 refine cut (λσ H'=>H=H'/\∃(o3:Option V) (y s:Int),σ= [LN lp,some (.int q),some (.int y),o3,none]/\0<=y/\y<(n:Int)/\hE ah ag q n y s) 206 ?_
 ·refine (aN lp _ (rfl,.inl (aF.of ep),ν,by lia,by lia,bz (λi σ H'=>H=H'/\∃(o3:Option V) (y s:Int),σ= [LN lp,some (.int q),some (.int y),o3,none]/\0<=y/\y<(n:Int)/\hE ah ag q i y s/\n<=pn y+i) (rfl,cg none q 0 (rfl,q0,q1,.nil q,by lia)) ?_ ?_))
  ·intro i σ H1 hi h_;refine cB h_ λ_r1 _hi=>?_
   refine j8 _hi λo3 y s _hj=>?_
   refine fO _hj λ_r2 y0 y1 _hk=>?_
   refine cB _hk λw hp=>?_
   sleep 46;subst _r2;obtain ⟨z,ez,_⟩:=ps.step y 41
   obtain ⟨z',s',w',hp'⟩:=ps.back ag (q:=q) 233 41
   obtain ⟨y2,s1,s2,w1,w2,_⟩:=w'.split;obtain ⟨rfl,_⟩:=w.uniq w1;have ez':z'=z:=by
    have:=(hE.cons (ag:=ag) ez (.nil z)).uniq w2;exact this.1.symm
   subst ez';have zr:=bf.inR ir ez;exact (aM lp _ _ _ (rfl,rfl,aF.of ep,(vL y0 y1 ez),rfl,cg _ _ s' (rfl,zr.1,zr.2,w',by lia)))
  ·sleep 205;refine cB h_ λ_r1 _hi=>?_
   refine j8 _hi λo3 y s _hj=>?_
   refine fO _hj λ_r2 y0 y1 _hk=>?_
   refine cB _hk λw _=>?_
   sleep 46;subst _r2;rw[show ((((lst n ah).map oV).length:Int)).toNat=n by lia] at w
   exact hN _ _ (rfl,cg o3 y s (rfl,y0,y1,w))
 intro σ H0 h_;refine cB h_ λ_r1 _hi=>?_
 refine j8 _hi λo3 y s _hj=>?_
 refine fO _hj λ_r2 y0 y1 w=>?_
 sleep 14;subst _r2;obtain ⟨d,s',d0,dn,wd⟩:=AH (λx z e=>bf.inR ir e) ⟨q0,q1⟩ w
 refine (by show 1<=sizeLine;decide,λl nl=>?_)
 exists λm σ H'=>∃r:List Int,σ= [LN lp,some (.int q),some (.int y),o3,LN l]/\aC H H'/\H' l=some (.lst ((y::r).map V.int))/\WL ah (y::r)/\(∀z∈y::r,0<=z/\z<(n:Int))/\y∉r/\r.length<d/\m=d-r.length,(aN d [] (rfl,ao nl _,au,trivial,λz hz=>by rw[J4.mp hz];exact (y0,y1),by simp,d0,rfl))
 intro m σ H1 h_;refine fD h_ λr _hi=>?_
 refine gY _hi λ_r1 g1 el wl hr' _hj=>?_
 refine i3 _hj λny rd _r2=>?_
 sleep 14;subst _r2;have lastV:((y::r).map V.int).getLast?=some (.int ((y::r).getLast 110)):=by rw[List.getLast?_map,Jq 110];rfl
 have hlast:=hr' _ (List.getLast_mem (l:=y::r) 110)
 have lst?:(y::r).getLast?=some ((y::r).getLast 110):=Jq 110
 have wk:=WL.walk (ag:=ag) wl;generalize hz:(y::r).getLast 110=z at lastV hlast lst? wk
 have ep1:=g1 _ _ ep;obtain ⟨e,he⟩:∃e,d=r.length+(e+1):=⟨d-r.length-1,by lia⟩
 rw[he] at wd;obtain ⟨z',s1,s2,w1,w2,_⟩:=wd.split;obtain ⟨rfl,_⟩:=wk.uniq w1;obtain ⟨v,ev⟩:∃v,ah z=some v:=by
  cases w2 with
  |cons h _=>exact ⟨_,h⟩
 have vr:=bf.inR ir ev;have ix1:gD 518 z=some (.int v):=vL hlast.1 hlast.2 ev;refine (ν,aM l _ _ _ (rfl,rfl,aF.of el,(mW lastV),aM lp _ _ _ (rfl,rfl,aF.of ep1,ix1,rfl,n2 176 176)))
 ·have cv:v≠y:=λz=>c (by rw[z])
  exists λσ H'=>∃r':List Int,σ= [LN lp,some (.int q),some (.int y),o3,LN l]/\aC H H'/\H' l=some (.lst ((y::r').map V.int))/\WL ah (y::r')/\(∀z∈y::r',0<=z/\z<(n:Int))/\y∉r'/\r'.length<d/\r'.length=r.length+1,λσ H' (r',h1,h2,h3,h4,h5,h6,h7,h8)=>(d-r'.length,by lia,r',h1,h2,h3,h4,h5,h6,h7,rfl)
  refine (.inl (rfl,_,aF.of el),ν,aM l _ _ _ (rfl,rfl,aF.of el,(mW lastV),aM lp _ _ _ (rfl,rfl,aF.of ep1,ix1,cg l _ _ (rfl,rfl,el,by rw[IN];simp;lia,?_))))
  refine (r++ [v],rfl,eZ g1 nl _,?_,WL.snoc wl lst? ev,λu hu=>?_,?_,?_,by simp)
  ·rw[au,t9]
  ·rcases JA.mp (show u∈(y::r)++ [v] from hu) with h|h
   ·exact hr' u h
   ·rw[J4.mp h];exact vr
  ·intro h;rcases JA.mp h with h|h
   ·exact ny h
   ·exact cv (J4.mp h).symm
  ·have:e≠0:=λz0=>by
    subst z0;cases w2 with
    |cons h h'=>
     rw[ev] at h;cases h;cases h';exact cv rfl
   simp;omega
 ·injection c with c
  rw[c] at ev;refine (aN l _ (rfl,aF.of el,λp np=>?_))
  exact K' p (y::r).reverse _ (g1.trans 393) (by rw[au,List.map_reverse]) (bf.ring wl hr' ny λx hx=>by rw[lst?] at hx;cases hx;exact ev)
theorem F8 {dV:Value} (F:bK K "earliest_times" "earliest_times" DZ dV f fd) (DZ31:603 1 "raise_times" ["times","ahead","arcs"] [] xp) (DZ32:603 1 "chain_to" ["ahead","point"] [] qm) (DZ33:603 1 "ring_behind" ["ahead","point"] [] xq):604 2 f fd ["points","arcs"] iR:=by
 have sc:aJ ["points","arcs","times","ahead","raised","turn"] ["points","arcs"] (aB DZ):=dS 95
 sleep 86
 refine j8 h λn la A _hi=>?_
 refine gY _hi λ_r1 hA la7 n7 ir q=>?_
 sleep 100;exists _,(af (nH (hd:=none) (own:= "point") (ys:= []) (js:= []) sc.nd (i:=2) rfl rfl hr.hd 107 (fh rfl B.Ko 186) (λC fp s H=>ak)) (af (616 (ja (hd:=none) (own:= "point") (ys:= []) (js:= []) hr.hd 107 (fh rfl B.Ko 186) (λC fp s H=>aX))) (af (cX 4 sc aX) (af (605 (610 186) 323 (af (cX 4 sc (cC DZ31 hr (123<*>(127<*>449)))) (ar (aV 534 (ar zB) aH)))) (af (aV (ay iI 134 aX 136) (ar (aD (@bM _ _ _ _ _ (aX<*>(aX<*>((cC DZ33 hr (127<*>230))<*>ae)))))) aH) (ar (aD (@bM _ _ _ _ _ (123<*>((ja (hd:=none) (own:= "point") (ys:= ["ahead"]) (js:= [3]) hr.hd 106 (fh rfl B.Ko 186) (λC fp s H=>(cC DZ32 hr (116<*>186))))<*>(aX<*>ae)))))))))))
 try dsimp only[cxK]
 refine IK ?_;intro D' r5 r4 r3 r2 r1;sleep 0;refine (ν,by lia,by lia,wJ (λi y=>y= .int 0) jM.no 41 (λi hi H3 g3 Q' hQ=>hQ _ _ rfl 184) λlt ys H1 nlt ly hy g1 et=>?_)
 refine (ν,by lia,by lia,wJ (λi y=>y= .non) jM.no 41 (λi hi H3 g3 Q' hQ=>hQ _ _ rfl 184) λlp zs H2 nlp lz hz g2 ep=>?_)
 rw[qo (n:=n) (by rw[ly];exact IX n) hy] at et
 rw[qo (n:=n) (by rw[lz];exact IX n) hz] at ep
 have et2:=g2 _ _ et;have g12:=g1.trans g2;have nlp0:=g1.free nlp;have ltp:lt≠lp:=λz=>by rw[z,nlp] at et;cases et
 obtain ⟨as0,ela,rla⟩:=id hA;have nat:la≠lt:=λz=>by rw[z,nlt] at ela;cases ela
 have nap:la≠lp:=λz=>by rw[z,nlp0] at ela;cases ela
 have R0:y9 H2 lt lp la A n (λ_=>0) 444 (λ_=>0):=(by rw[et2,qj,List.map_replicate],by rw[ep,qj,List.map_replicate];rfl,ltp,nat,nap,hA.same g12,la7,n7,ir,BF.start A)
 clear et et2 ep ly lz hy hz;try dsimp only[bN,cq]
 refine eC (λNq=>Nq [some (.int (n:Int)),some 264,some (.ref lt),some (.ref lp),some .non,none] H2) (λN hN=>hN) ?_
 refine eC (λNq=>∀(o5:Option V) (r:Option Int) (tm:Int->Int) (ah:Int->Option Int) (ag:Int->Int) (pn:Int->Nat) (k i:Nat) (H':Hp),aC H H'->y9 H' lt lp la A n tm ah ag->Sw.PS A k i tm ah pn->(((r=none/\iA A tm)∨∃qq,r=some qq/\pn qq=n/\0<=qq/\qq<(n:Int)))->Nq [some (.int (n:Int)),some 264,some (.ref lt),some (.ref lp),some (oV r),o5] H') 206 ?_
 ·refine (ν,by lia,by lia,bz (λi σ H'=>∃(o5:Option V) (r:Option Int) (tm:Int->Int) (ah:Int->Option Int) (ag:Int->Int) (pn:Int->Nat),σ= [some (.int (n:Int)),LN la,LN lt,LN lp,some (oV r),o5]/\aC H H'/\y9 H' lt lp la A n tm ah ag/\Sw.PS A 233 0 tm ah pn/\((i=0/\r=none)∨∃qq,r=some qq/\pn qq=i/\0<=qq/\qq<(n:Int))) (gj none none _ _ _ (λ_=>0) (rfl,g12,R0,PS.start A,.inl 305)) ?_ ?_)
  ·intro i σ H3 hi h_;refine fN h_ λo5 r tm ah ag pn _hi=>?_
   refine fO _hi λ_r1 g3 R3 _hj=>?_
   refine cB _hj λps3 _=>?_
   sleep 14;refine (wc lt lp la A n 233 tm ah ag (pn,(rfl,R3,ps3,λH4 tm' ah' ag' pn' r' b4 R4 ps4 hr4 hn4=>?_)))
   have g4:=b4.same g3 nlt nlp0;cases r' with
   |none=>exact ⟨rfl,mB.i (dT rfl (hN _ none tm' ah' ag' pn' _ _ _ g4 R4 ps4 (.inl ⟨rfl,hn4 rfl⟩)))⟩
   |some qq=>exact ⟨rfl,mB.i (623 (gj _ (some qq) tm' ah' ag' pn' ⟨rfl,g4,R4,ps4.next,.inr ⟨qq,rfl,hr4 qq rfl⟩⟩))⟩
  ·intro σ H3 h_;refine fN h_ λo5 r tm ah ag pn _hi=>?_
   refine fO _hi λ_r1 g3 R3 _hj=>?_
   refine cB _hj λps3 h=>?_
   sleep 14;refine hN _ r tm ah ag pn _ _ _ g3 R3 ps3 ?_;rcases h with ⟨h0,h1⟩|⟨qq,h1,h2,h3⟩
   ·refine .inl (h1,λa ha=>?_)
    have:=ir a ha
    lia
   ·exact .inr (qq,h1,by rw[h2];exact IX n,h3)
 clear R0;intro o5 r tm ah ag pn k i H3 g3 R3 ps3 h;rcases h with ⟨rfl,kp⟩|⟨qq,rfl,h2,h3,h4⟩
 ·refine (rfl,mB.i (nF rfl (ν,by lia,by lia,?_)))
  refine yP (λH3 i y H4=>∃(l:Addr) (c:List Int),y= .ref l/\H3 l=none/\H4 l=some 168/\jN A n 131 (tm 131) c) jM.no 41 (λj hj H4 g4 Q' hQ=>?_) λp ys H4 np ly hy g4 epl=>?_
  ·exact (gj lp _ A n tm ah (ag,(rfl,g4 _ _ R3.ep,n7,by lia,by lia,ir,R3.bf,kp,λl c H5 nl g5 el ok=>hQ _ _ (aN l c (rfl,nl,el,ok)) g5)))
  ·obtain ⟨as,rfl,las,has⟩:=za (n:=n) (by rw[ly];exact IX n) hy
   refine 271
   have g5:=ao nt (.tup [.ref lt,.ref p,.non]);exact q t _ ((g3.trans g4).trans g5) (.inl ⟨lt,p,tm,as,au,g5 _ _ (g4 _ _ R3.et),g5 _ _ epl,las,λi l e=>by
    obtain ⟨c,q1,q2⟩:=has i l e;exact (c,g5 _ _ q1,q2),kp,R3.bf.nn⟩)
 ·refine (rfl,mB.i (nT nofun (wc lp qq A n k i tm ah ag (pn,(rfl,R3.ep,n7,h3,h4,ir,R3.bf,ps3,h2,λl c H4 g4 el ok=>271)))))
  have g5:=ao nt (.tup [.non,.non,.ref l]);exact q t _ ((g3.trans g4).trans g5) (.inr (aN l c (au,g5 _ _ el,ok)))
theorem F9 {dV:Value} (F:bK K "tail_chains" "tail_chains" D3 dV f fd) (DZ34:603 2 "earliest_times" ["points","arcs"] [] iR):604 3 f fd ["points","arcs"] xM:=by
 have sc:aJ ["points","arcs","turned","told"] ["points","arcs"] (aB D3):=dS 95
 sleep 86
 refine j8 h λn la A _hi=>?_
 refine gY _hi λ_r1 _r2 a7 n7 ir q=>?_
 sleep 100;obtain ⟨as,el,rA⟩:=_r2;exists _,(af (tG sc.nd (i:=2) rfl rfl (os:= ["p","q","lag"]) (ys:= []) (js:= []) rfl (Fs ig .nil rfl rfl rfl rfl rfl rfl rfl) (aQ 116) (λC fp s H=>wR (K:=K) (n:=3) rfl rfl (aP (jb (os:= ["p","q","lag"]) (ys:= []) (i:=0) 49 rfl rfl) (aP (jb (os:= ["p","q","lag"]) (ys:= []) (i:=1) 49 rfl rfl) (aP (jb (os:= ["p","q","lag"]) (ys:= []) (i:=2) 49 rfl rfl) cS)))) (λC fp s H=>(@bM _ _ _ _ _ (116<*>(108<*>268))))) (af (cX 3 sc (cC DZ34 hr (108<*>268))) (af (aV (ay dX 246 aX 136) (ar (aD (@bM _ _ _ _ _ (aX<*>(aX<*>ae))))) aH) (ar (aD (@bM _ _ _ _ _ (246<*>((c8 (own:= "chain") (ys:= []) (js:= []) rfl 107 (aQ 246) (λC fp s H=>(ux (K:=K) rfl rfl rfl B.Kw rfl B.La boot_list PyProof.Rows.Boot.«reversed» 108)))<*>ae))))))))
 try dsimp only[cxK]
 sleep 69;sleep 0;have lA:(as.map V.ref).length=A.length:=by rw[IN,rA.1,IN]
 refine (la,rfl,333,yL (xs:=as.map V.ref) (λi zs=>∀a,A[i]?=some a->zs= [.int a.2.1,.int a.1,.int a.2.2]) 561 41 (λi x hx H4 g4 o ho Q' hQ=>?_) (λp bs H1 np hl ht g1 e1=>?_))
 ·obtain ⟨b,hb,rfl⟩:=cV hx;obtain ⟨a,ha',eb⟩:=hW rA hb;obtain ⟨o1,o2,o3,rfl⟩:∃o1 o2 o3:Option V,o= [o1,o2,o3]:=by
   match o,ho with
   | [o1,o2,o3],_=>exact (cg o1 o2 o3 rfl)
  refine (aN b _ (rfl,bH.of (g4 _ _ eb),rfl,aN _ _ (rfl,aN _ _ (rfl,aN _ _ (rfl,rfl,([some (.int a.1),some (.int a.2.1),some (.int a.2.2)],rfl,rfl),?_)))));exact (by show 3<=sizeLine;decide,λt nt=>hQ t _ _ au (λa2 h2=>by rw[ha'] at h2;cases h2;rfl) (ao nt _))
 have lB:bs.length=A.length:=by rw[hl,lA]
 have hT:lQ H1 p (fo A):=by
  refine (bs,e1,by rw[IN];unfold fo;rw[IN];exact lB,λi b k h1 h2=>?_)
  unfold fo at h2;rw[JB,IQ] at h2;obtain ⟨a,ha',rfl⟩:=IW.mp h2;obtain ⟨zs,ez,hz⟩:=ht i b h1;rw[ez,hz a ha']
  rfl
 refine (cg n p (fo A) (rfl,hT,by unfold fo;rw[IN];exact a7,n7,ir.turn,λt H2 g2 or=>?_))
 rcases or with ⟨lt,lc,tm,cs,et,elt,elc,lcs,hc,kp,nn⟩|⟨lr,c,et,elr,ok⟩
 ·refine (606 (rfl,rfl,bH.of et,rfl,rfl,mB.i (623 (606 (rfl,rfl,bH.of et,rfl,aM t _ _ _ (rfl,rfl,bH.of et,rfl,lc,rfl,(_,aF.of elc),?_))))));refine Am (λH3 x y H4=>∃(l l':Addr) (c:List Int),x= .ref l/\H3 l=some 168/\y= .ref l'/\H3 l'=none/\H4 l'=some (.lst (c.reverse.map V.int))) (aF.of elc) (by rw[IN,lcs];lia) (λx hx H3 g3 Q' hQ=>?_) λp' ys H3 np' ly hy g3 ep'=>?_
  ·obtain ⟨l,hl',rfl⟩:=J2.mp hx;obtain ⟨i,hi⟩:=IY.mp hl';obtain ⟨c,el',_⟩:=hc i l hi;exact (aN l _ (rfl,aF.of (g3 _ _ el'),λl' nl'=>hQ _ _ (cg l l' c (rfl,g3 _ _ el',rfl,nl',by rw[au,List.map_reverse])) (ao nl' _)))
  ·obtain ⟨ds,rfl,lds,hds⟩:=A6 lcs ly hc hy;refine (by show 2<=sizeLine;decide,λt2 nt2=>?_)
   have g4:=ao nt2 (.tup [.ref lt,.ref p']);exact q t2 _ (((g1.trans g2).trans g3).trans g4) (.inl ⟨lt,p',tm,ds,au,g4 _ _ (g3 _ _ elt),g4 _ _ ep',lds,λi l e=>by
    obtain ⟨c,q1,q2⟩:=hds i l e;exact (c,g4 _ _ q1,q2),kp,nn⟩)
 ·refine (606 (rfl,rfl,bH.of et,rfl,rfl,mB.i (dT rfl (by show 2<=sizeLine;decide,λt2 nt2=>?_))))
  exact q t2 _ ((g1.trans g2).trans (ao nt2 _)) (.inr (au,c,ok))
theorem Ga {dV:Value} (F:bK K "turns_for" "turns_for" D4 dV f fd):604 1 f fd ["work","many"] sd:=by
 have sc:aJ ["work","many"] ["work","many"] (aB D4):=dS 95
 sleep 86
 obtain ⟨w,m,rfl,m1,m2,q⟩:=h;exists _,(ar (aD (gZ fr (aw bv (gZ fr 108) 116))));try dsimp only[cxK]
 exact (ν,315,ν,q)
theorem Gb {dV:Value} (F:bK K "task_between" "task_between" D5 dV f fd) (DZ23:603 2 "are_points" ["net","some"] [] (mL IO)):604 3 f fd ["net","front","back"] (qx IO):=by
 have sc:aJ ["net","front","back","i"] ["net","front","back"] (aB D5):=dS 95
 sleep 86
 refine zu h λx cf cb fz D T A B2 n _hi=>?_
 refine iZ _hi λf b _hj=>?_
 refine fO _hj λ_r1 N ef _hk=>?_
 refine cB _hk λeb q=>?_
 sleep 10;exists _,(af (aV (PW.pt (dI (ay fV 126 ak 136) (dt (ay fV 202 ak 136)))) 221 aH) (af (aV (PW.pt (dI (dv (eY (cC DZ23 hr 204))) (dt (dv (eY (cC DZ23 hr (108<*>268))))))) 221 aH) (af (cX 3 sc (aw bv (611 116 416 32) ak)) (af (aV (PW.pt (dI (ay pi 127 201 136) (dI (ay fW (611 116 416 32) 352 136) (dt (ay fW (611 123 ak 32) (614 352 ak) 136))))) 221 aH) 286))))
 try dsimp only[cxK]
 refine HN ?_;intro D' r4 r3 r2 r1;have no:(c6 T.length f b&&(f9 194 f&&f9 194 b))=false->Q .non H:=λh=>by
  have e:oV (iY T.length 194 f b)= .non:=by unfold iY;rw[h];rfl
  sleep 195
 by_cases hf:f= []
 ·refine (aN cf _ (rfl,.inl 562,rfl,mB.i (dT (by rw[hf];rfl) (eI (no ?_)))))
  unfold c6;rw[hf]
  rfl
 by_cases hb:b= []
 ·refine (aN cf _ (rfl,.inl 562,rfl,mB.i (dF (Du hf) (aN cb _ (rfl,.inl (aF.of eb),rfl,mB.i (dT (by rw[hb];rfl) (no ?_)))))))
  unfold c6;rw[hb];simp
 refine (aN cf _ (rfl,.inl 562,rfl,mB.i (dF (Du hf) (aN cb _ (rfl,.inl (aF.of eb),rfl,mB.i (dF (Du hb) ?_))))));refine (wc x cf fz D T A B2 n f (rfl,N,ef,mB.i ?_));cases h1:f9 (2*(T.length:Int)+n) f with
 |false=>exact eI (eI (no (by rw[h1];simp)))
 |true=>
  refine gI (wc x cb fz D T A B2 n b (rfl,N,eb,mB.i ?_));cases h2:f9 (2*(T.length:Int)+n) b with
  |false=>exact eI (no (by rw[h2];simp))
  |true=>
   refine gI ?_;refine fN N.ex λdx td tl al pl fs _hi=>?_
   sleep 11
   sleep 63
   obtain ⟨vs,el,rT⟩:=_r1;have l0:0<=cU f:=by
    unfold f9 at h1;rw[JE] at h1;have:=h1 _ (oH hf);rw[J7] at this;exact of_decide_eq_true this.1
   have t0:0<=cW f:=Int.fdiv_nonneg l0 49
   have bad:¬(434/\iC b=cU f+1)->(c6 T.length f b&&(f9 194 f&&f9 194 b))=false:=λh=>by
    have:c6 T.length f b=false:=by
     unfold c6;rw[<-Bool.decide_and,decide_eq_false h,Bool.and_false]
    rw[this]
    rfl
   refine (ν,aM cf _ _ _ (rfl,rfl,aF.of ef,(kH hf),129,?_))
   refine (607 (_,(rfl,e0,B.Kq,B.Kr,l2,aN tl _ (rfl,.inl 561,d2 176 176))))
   ·rw[rT.1] at c;exact eI (no (bad λh=>by have:=h.1.2.2;unfold cW at this;lia))
   rw[rT.1] at c;refine (ν,aM cf _ _ _ (rfl,rfl,aF.of ef,(kH hf),112 49,rfl,BP (λc2=>eI (no (bad λh=>c2 h.1.1))) 258))
   refine (aM cb _ _ _ (rfl,rfl,aF.of eb,(xH hb),112 49,rfl,BP (λc3=>no (bad λh=>c3 (h.2.trans (congrArg (· +1) c2)))) (λc3=>?_)))
   have e:iY T.length 194 f b=some (cW f):=by
    rw[fL];refine ((?_,h1,h2),rfl);unfold c6;have:decide 434=true:=decide_eq_true (c2,t0,by unfold cW;lia)
    rw[this,decide_eq_true (show iC b=cU f+1 by rw[c3,<-c2])]
    simp[hf,hb]
   sleep 195
theorem Gc {dV:Value} (F:bK K "tasks_between" "tasks_between" D6 dV f fd) (DZ37:603 3 "task_between" ["net","front","back"] [] (qx IO)):604 4 f fd ["net","fronts","backs"] (oE IO):=by
 have sc:aJ ["net","fronts","backs","tasks"] ["net","fronts","backs"] (aB D6):=dS 95
 sleep 86
 refine zu h λx lf lb fz D T A B2 n _hi=>?_
 refine iZ _hi λF2 G _hj=>?_
 refine gY _hj λ_r1 N hF hG f1 _hk=>?_
 refine cB _hk λg1 q=>?_
 sleep 10;exists _,(af (aV (PW.pt (dI (ay fW 126 202 136) (dt (ay fV 126 ak 136)))) 221 aH) (af (tG sc.nd (i:=3) rfl rfl (os:= ["front","back"]) (ys:= ["net"]) (js:= [0]) rfl (Fs (iF ig) 403 rfl rfl rfl rfl rfl rfl rfl) (uZ rfl B.Ls (116<*>268)) (λC fp s H=>wR (K:=K) (n:=2) rfl rfl (aP (jb (os:= ["front","back"]) (ys:= ["net"]) (i:=0) 49 rfl rfl) (aP (jb (os:= ["front","back"]) (ys:= ["net"]) (i:=1) 49 rfl rfl) cS))) (λC fp s H=>(cC DZ37 hr (123<*>204)))) (af (aV (PW.pt (dI (ay im aX 127 138) (dt (ay fW (vN rfl rfl B.Kn rfl B.Lp PyProof.Rows.Boot.«len» PyProof.Rows.Boot.«set» 127) (625 192) 136)))) 221 aH) 286)))
 try dsimp only[cxK]
 sleep 69;sleep 0;sleep 234;obtain ⟨vg,eg,rg⟩:=id hG;sleep 241;have no:(bS T.length F2 G&&(cE 194 F2&&cE 194 G))=false->∀H',aC H H'->Q .non H':=λh H' g=>by
  refine q _ _ g ?_;have e:ie T.length 194 F2 G=none:=by unfold ie;rw[h];rfl
  rw[e]
  rfl
 refine (aN lf _ (rfl,.inl 562,aN lb _ (rfl,.inl (aF.of eg),rfl,BP (λc=>eI (no ?_ _ 184)) 176)))
 ·have:hJ T.length F2 G=false:=by
   rw[<-K9,cy];exact λh=>c (by rw[lF,lG,h.1])
  unfold bS;rw[this];simp
 have hl:F2.length=G.length:=by lia
 refine (aN lf _ (rfl,.inl 562,rfl,GW (λc0=>no ?_ _ 184) (λc0=>?_)))
 ·have:F2= []:=JS 41
  unfold bS;rw[this]
  rfl
 refine (aN lf lb (rfl,(_,aF.of ef),(_,aF.of eg),Cj (fH oV) 146 (λk=>iY T.length 194 457 430) 562 (aF.of eg) 41 130 (λk y z hy hz H2 g2 T' nT o ho Q' hQ=>?_) λlt H2 nlt g2 ht=>?_))
 ·obtain ⟨o1,o2,rfl⟩:=Dv ho;obtain ⟨f,hf,hc1⟩:=rf.at_ hy;obtain ⟨b,hb,hc2⟩:=rg.at_ hz;obtain ⟨cf,rfl,_,ecf⟩:=jU hc1;obtain ⟨cb,rfl,_,ecb⟩:=jU hc2;have g3:=g2.trans (ao nT (.tup [.ref cf,.ref cb]));rw[aL hf,aL hb] at hQ;exact (aN T' _ (rfl,bH.of au,rfl,aN _ _ (rfl,aN _ _ (rfl,rfl,([some (.ref cf),some (.ref cb)],rfl,rfl),wc x cf cb fz D T A B2 n (aN f b (rfl,N.same g3,g3 _ _ ecf,g3 _ _ ecb,hQ _ _ 184 rfl))))))
 obtain ⟨vs,et,rt⟩:=ht;rw[show min vf.length vg.length=F2.length by lia] at rt
 rw[rt.val] at et;refine (aN lt _ (rfl,.inl (aF.of et),rfl,xJ _,Ck (λc1=>eI (no (vW hl c1) _ g2)) 322))
 obtain ⟨e1,zk,p1,p2⟩:=vV hl c1;rw[e1] at et;have et2:H2 lt=some (.lst ((F2.map cW).map V.int)):=by
  rw[et,JB,JB,JB]
  rfl
 refine (aN lt (F2.map cW) (rfl,aF.of et2,by rw[IN];lia,aN lt _ (rfl,.inl (aF.of et2),rfl,BP (λc2=>no ?_ _ g2) 258)))
 ·have:¬(F2.map cW).Nodup:=λnd=>c2 (by rw[iM.mpr nd,IN (as:=F2.map cW)])
  unfold bS;rw[decide_eq_false this];simp
 have nd:(F2.map cW).Nodup:=iM.mp (by rw[IN (as:=F2.map cW)] at c2;lia)
 refine (q _ _ g2 ?_);have e:ie T.length 194 F2 G=some (F2.map cW):=by
  unfold ie bS;rw[zk,p1,p2,decide_eq_true nd];have:F2≠ []:=λe=>c0 (by rw[lF,e];rfl)
  cases F2 with
  |nil=>exact absurd rfl this
  |cons _ _=>rfl
 rw[e];exact (lt,rfl,et2)
theorem Gd {dV:Value} (F:bK K "stretch_total" "stretch_total" D7 dV f fd) (DZ26:603 3 "work_of" ["net","case","i","tool"] [] (vR IO cZ)) (DZ27:603 3 "arcs_of" ["net","case"] [] (kF IO)) (DZ28:603 1 "greatest_lags" ["arcs"] [] rO) (DZ29:603 1 "total_by" ["lags","chain"] [] se) (DZ36:603 1 "turns_for" ["work","many"] [] sd) (DZ38:603 4 "tasks_between" ["net","fronts","backs"] [] (oE IO)):604 5 f fd ["net","case","tool","fronts","backs"] (qD IO):=by
 have sc:aJ ["net","case","tool","fronts","backs","tasks","lags","heads","tails","work"] ["net","case","tool","fronts","backs"] (aB D7):=dS 95
 sleep 86
 refine fN h λx t z lf lb F2 _hi=>?_
 refine fD _hi λG _hj=>?_
 refine gY _hj λ_r1 hF hG f1 g1' _hk=>?_
 refine i3 _hk λfl gl _hl=>?_
 refine fN _hl λD T A B2 n P _hm=>?_
 refine fD _hm λO _hn=>?_
 refine fO _hn λNC po l7 q=>?_
 clear h _hi _hj _hk _hl _hm _hn;subst _r1;exists _,(af (cX 5 sc (cC DZ38 hr (108<*>(127<*>230)))) (af (aV (PW.pt (dI (qI (jw 505 123 155) 138) (dt (ay dX 154 aX 136)))) 221 aH) (af (dO (i:=6) sc.nd rfl 187 (cC DZ28 hr ((cC DZ27 hr 204)<*>ae))) (af (gR (own:= "chain") (ys:= ["lags"]) (js:= [6]) sc.nd (i:=7) rfl rfl rfl 106 (aQ 127) (λC fp s H=>(cC DZ29 hr (116<*>186)))) (af (gR (own:= "chain") (ys:= ["lags"]) (js:= [6]) sc.nd (i:=8) rfl rfl rfl 106 (aQ 134) (λC fp s H=>(cC DZ29 hr (116<*>186)))) (af (aV (PW.pt (dI (ay im aX 365 138) (dt (ay im aX (pv 8) 138)))) 221 aH) (af (cX 9 sc (aA (qE rfl) rfl B.Lw PyProof.Rows.Boot.«sum» ((c8 (own:= "i") (ys:= ["net","case","tool"]) (js:= [0,1,2]) rfl 139 (aQ 154) (λC fp s H=>(cC DZ26 hr 370)))<*>ae))) (ar (aD (614 (614 (609 (365<*>ae)) (609 382)) (cC DZ36 hr (464<*>((jv 505 155 123 32)<*>ae)))))))))))))
 try dsimp only[cxK]
 sleep 97;sleep 0;have tr:∀k∈A,∃p q g:Int,k= [p,q,g]:=λk hk=>by
  sleep 128
 have no:gi D T P 143 194 z F2 G=none->∀H',aC H H'->Q .non H':=λh H' g=>by
  have:=q H' g;rw[h] at this;exact this
 refine (wc x lf lb true D T A B2 n (aN F2 G (rfl,NC.net,hF,hG,f1,g1',λv H1 g1 hv=>?_)))
 refine fN ((NC.net.same g1).ex) λdx td tl al pl fs _hi=>?_
 refine lZ _hi λe0 l1 l2 l3 l4 l5 ed hT _hj=>?_
 sleep 63
 replace ed:=ed.rd;cases hm:cP D z with
 |none=>
  refine (607 (_,(rfl,e0,B.Kq,B.Ks,l1,aN td _ (rfl,AY ed hm,no ?_ _ g1))));unfold gi;rw[hm]
  split<;>rfl
 |some m=>
  obtain ⟨m1,m8⟩:1<=m/\m<=8:=by
   obtain ⟨p,hp,e⟩:=um hm;have:=NC.ok.tool p hp;rw[e] at this;exact this.2
  refine (607 (_,(rfl,e0,B.Kq,B.Ks,l1,aN td _ (rfl,j2 ed hm,mB.i (gI ?_)))));cases ht:ie T.length (2*(T.length:Int)+n) F2 G with
  |none=>
   rw[ht] at hv;replace hv:v= .non:=hv;subst hv;refine (rfl,mB.i (dT rfl (no ?_ _ g1)));exact zg ht
  |some S2=>
   rw[ht] at hv;obtain ⟨lt,rfl,et⟩:=hv;obtain ⟨eS,tk,p1,p2⟩:=uq ht;subst eS;refine 555;refine (aN x t (rfl,gj D T A B2 n P (O,((NC.same g1).any,po,λla H2 g2 nla hA2=>?_))))
   have trF:=iS (T:=T) (P:=P) (O:=O) tr;have lA:((ce A T P O).map i4).length<=700:=by
    sleep 166
    lia
   have no2:cx 143 194 F2=none∨cx 143 194 G=none->∀H',aC H H'->Q .non H':=λh=>no (jK h)
   refine (aN la _ (rfl,kI hA2 trF,lA,λd kvs H3 g3 nd edk vk=>?_))
   generalize (ce A T P O).map i4=Ar at q no no2 vk lA;have k3:=(g1.trans g2).trans g3;obtain ⟨vf,ef,rf⟩:=hF.same k3;have lf':vf.length=F2.length:=rf.1;refine (lf,rfl,(_,aF.of ef),cz (fH oV) 146 (λk=>db Ar 457) 562 (by rw[rf.1];lia) 130 174 λlh H4 nlh g4 hh=>?_)
   ·obtain ⟨f,hf,hc⟩:=rf.at_ hy;obtain ⟨c,rfl,_,ec⟩:=jU hc;rw[aL hf] at hQ;exact (aM d c Ar f (kvs,(rfl,gk _ _ edk,vk,gk _ _ ec,fl f (IR hf),λH' g'=>hQ _ _ g' rfl)))
   obtain ⟨wh,eh,rh⟩:=hh;rw[rf.1] at rh;rw[rh.val] at eh;have eF:(JK F2.length).map (λk=>db Ar 457)=F2.map (db Ar):=by
    conv=>rhs;rw[<-cJ F2 []]
    rw[JB]
    rfl
   rw[eF] at eh;have k4:=k3.trans g4;obtain ⟨vg,eg,rg⟩:=hG.same k4;have lg':vg.length=G.length:=rg.1;refine (lb,rfl,(_,aF.of eg),cz (fH oV) 146 (λk=>db Ar 430) (aF.of eg) (by rw[rg.1];lia) 130 174 λxS H5 nlt2 g5 hh2=>?_)
   ·obtain ⟨f,hf,hc⟩:=rg.at_ hy;obtain ⟨c,rfl,_,ec⟩:=jU hc;rw[aL hf] at hQ;exact (aM d c Ar f (kvs,(rfl,(g4.trans gk) _ _ edk,vk,gk _ _ ec,gl f (IR hf),λH' g'=>hQ _ _ g' rfl)))
   obtain ⟨wt,et2,rt⟩:=hh2;rw[rg.1] at rt;rw[rt.val] at et2;have eG:(JK G.length).map (λk=>db Ar 430)=G.map (db Ar):=by
    conv=>rhs;rw[<-cJ G []]
    rw[JB]
    rfl
   rw[eG] at et2;have k5:=k4.trans g5;have eh5:=g5 _ _ eh;clear eF eG rh rt rf rg ef eg;refine (aN lh _ (rfl,.inl (aF.of eh5),rfl,xJ _,Ck (λc1=>eI (no2 (.inl (j6 c1)) _ k5)) 322))
   refine (aN xS _ (rfl,.inl (aF.of et2),rfl,xJ _,Ck (λc2=>no2 (.inr (j6 c2)) _ k5) 258))
   rw[lV c1] at eh5;rw[lV c2] at et2;have et5:=(((g2.trans g3).trans g4).trans g5) _ _ et;have NC5:=NC.same k5;sleep 165
   refine (lt,rfl,(_,aF.of et5),cz 260 146 (λk=>cZ T P (cW 457).toNat z) (aF.of et5) (by rw[IN,IN];lia) 130 174 λlw H6 nlw g6 hw=>?_)
   ·sleep 54
    rw[ej,IX] at hQ;exact (aM x t j z (by rw[ej];rfl,gj D T A B2 n P (O,((NC5.same gk).any,jl,λH' g'=>hQ _ _ g' rfl))))
   obtain ⟨ww,ew,rw'⟩:=hw;rw[rw'.val] at ew;have eW:344=F2.map λf=>cZ T P (cW f).toNat z:=by
    rw[IN,IN]
    conv=>rhs;rw[<-cJ F2 []]
    rw[JB]
    rfl
   rw[eW] at ew;refine (aN lw _ (rfl,aF.of ew,?_));have k6:=k5.trans g6;refine fN ((NC5.same g6).net.ex) λdx' td' tl' al' pl' fs' _hi=>?_
   refine gY _hi λe0' l1' _ _ _ _hj=>?_
   refine i3 _hj λ_ ed' _=>?_
   replace ed':=ed'.rd;refine (aN lh _ (rfl,aF.of (g6 _ _ eh5),by simpa using nF,λM hM hle=>(aN xS _ (rfl,aF.of (g6 _ _ et2),by simpa using nG,λM2 hM2 hle2=>?_))))
   rw[fU hM hle,fU hM2 hle2];refine (aM x _ dx' _ (_,(rfl,e0',B.Kq,B.Ks,l1',aN td' _ (rfl,j2 ed' hm,aN _ m (rfl,m1,by lia,?_)))))
   have e:gi D T P Ar 194 z F2 G=some (df Ar F2+df Ar G+ -((-(jq T P z F2)).fdiv m)):=by
    unfold gi;rw[if_pos tk,hm];unfold cx;rw[p1,p2,iU.mpr c1,iU.mpr c2]
    rfl
   have:=q _ k6;rw[e] at this;exact this
theorem Ge {dV:Value} (F:bK K "users_of" "users_of" D8 dV f fd):604 1 f fd ["works","times","sums"] xO:=by
 have sc:aJ ["works","times","sums","users","i","work"] ["works","times","sums"] (aB D8):=dS 95
 sleep 86
 refine fN h λlw lt ls ws n tm _hi=>?_
 refine fD _hi λts _hj=>?_
 refine gY _hj λ_r1 ew w24 et es _hk=>?_
 refine cB _hk λwn q=>?_
 sleep 10;exists _,(af 426 (af (605 (jx rfl B.Kt 186) (dN rfl (aP 324 (aP 323 cS))) (ar (aV (ay gC 154 ak 136) (ar (bQ (608 127 ((@bM _ _ _ _ _ ((611 123 (614 392 ak) 32)<*>((611 116 392 32)<*>(154<*>230))))<*>ae)))) aH))) (ar (aD (vZ rfl B.KK PyProof.Rows.Boot.«sorted» 127)))))
 try dsimp only[cxK]
 sleep 9;sleep 0;refine (by show 0<=sizeLine;decide,λlu nlu=>?_)
 have g0:=ao nlu 132;have eu0:aO H lu 132 lu=some (.lst []):=au;generalize aO H lu 132=H0 at g0 eu0⊢;try dsimp only[bN,cq]
 refine eC (λNq=>∀(o4 o5:Option V) (H':Hp),aC H H'->bn H' lu (Bh ws tm ts ws.length)->Nq [some (.ref lw),some (.ref lt),some 371,some (.ref lu),o4,o5] H') 206 ?_
 ·refine (lw,rfl,(_,aF.of (g0 _ _ ew)),iq (xs:=ws.map V.int) (λi σ H'=>∃o4 o5:Option V,σ= [LN lw,LN lt,LN ls,LN lu,o4,o5]/\aC H H'/\bn H' lu (Bh ws tm ts i)) (aN none none (rfl,g0,[],eu0,eJ.nil)) (λi σ H' _ (_,_,_,g,_)=>aF.of (g _ _ ew)) ?_ ?_)
  ·rintro i y σ H1 T' hy ⟨o4,o5,rfl,g1,as,eu,r⟩ nT;rw[IQ] at hy;obtain ⟨w,hw,rfl⟩:=IW.mp hy;have il:=(IP.mp hw).1;sleep 12;have gT:=ao nT (.tup [.int (i:Int),.int w]);have g2:=g1.trans gT;have eu2:=gT _ _ eu;replace r:=r.imp λa k q=>gT _ _ q
   generalize aO H1 T' (.tup [.int (i:Int),.int w])=H2 at g2 eu2 r⊢;have us:Bh ws tm ts 233=Bh ws tm ts i++(if decide (0<ws.getD i 0)=true then [[ts 137,tm 157,ws.getD i 0,(i:Int)]] else []):=gW _ _ _
   rw[aL hw] at us;have ll:as.length<=i:=by rw[r.1];exact c5 _ _ _
   try dsimp only[bN,cq]
   refine (d2 176 176)
   ·replace c:0<w:=c;rw[if_pos (decide_eq_true c)] at us;have a1:gD ((lst n ts).map V.int) 137=some (.int (ts 137)):=by
     have:=bg (624 (jI (f:=ts) (show 2*i+1<n by lia)))
     rw[show ((2*i+1:Nat):Int)=2*(i:Int)+1 by lia] at this
     exact this
    have a2:gD ((lst n tm).map V.int) 157=some (.int (tm 157)):=by
     have:=bg (624 (jI (f:=tm) (show 2*i<n by lia)))
     rw[show ((2*i:Nat):Int)=2*(i:Int) by lia] at this
     exact this
    refine (.inl (rfl,_,aF.of eu2),112 49,aM ls _ _ _ (rfl,rfl,aF.of (626 es),a1,112 49,aM lt _ _ _ (rfl,rfl,aF.of (626 et),a2,by show 4<=sizeLine;decide,λt nt=>(cg lu _ _ (rfl,rfl,ao nt _ _ _ eu2,by rw[IN];lia,aN _ _ (rfl,eZ (g2.trans (ao nt _)) nlu _,?_))))))
    have gt:=ao nt 278;have eu3:=gt _ _ eu2;have tp:∀b xs,aO H2 t 278 b=some (.tup xs)->aO (aO H2 t 278) lu (.lst (as.map V.ref++ [.ref t])) b=some (.tup xs):=λb xs e=>by
     rw[aR (λz=>by rw[z,eu3] at e;cases e)]
     exact e
    exists as++ [t],by rw[au,JJ];rfl
    rw[us];exact (r.imp λa k q=>tp _ _ (gt _ _ q)).snoc (tp _ _ au)
   ·replace c:¬0<w:=c;rw[if_neg (by rw[decide_eq_true_eq];exact c),Jw] at us
    exact (aN _ _ (rfl,g2,as,eu2,by rw[us];exact r))
  ·rintro σ H1 ⟨o4,o5,rfl,g1,tu⟩;rw[IN] at tu;exact hN o4 o5 _ g1 tu
 rintro o4 o5 H1 g1 ⟨as,eu,r⟩;refine (aM lu _ true (m7 H1) (rfl,eu,λv hv=>?_,by rw[IN,r.1];have:=(show (Bh ws tm ts ws.length).length<=ws.length from c5 _ _ _);lia,λp us np pm rs=>?_))
 ·obtain ⟨a,ha,rfl⟩:=J2.mp hv;obtain ⟨i,hi⟩:=IY.mp ha;have il:=(IP.mp hi).1;have hk:=I0 (show i<(Bh ws tm ts ws.length).length by rw[<-r.1];exact il)
  have e:=r.2 i a _ hi hk;obtain ⟨j,_,_,ej⟩:=xP.mp (IR hk);rw[sg e];refine (a,rfl,e,by rw[ej];exact List.cons_ne_nil _ _,by rw[ej];show 4<=sizeLine;lia)
 ·have gp:=ao np (.lst us);obtain ⟨U,tu,pU,fa⟩:=v8 r zm pm rs au gp;exact q p U _ (g1.trans gp) (g1.free np) tu (by rw[pU.length_eq];have:=c5 ws.length (λi=>decide (0<ws.getD i 0)) λi=> [ts 137,tm 157,ws.getD i 0,(i:Int)];unfold Bh;lia) (fa,λu=>(pU.mem_iff).trans xP)
theorem Gg {dV:Value} (F:bK K "fullest_of" "fullest_of" D9 dV f fd) (DZ36:603 1 "turns_for" ["work","many"] [] sd):604 2 f fd ["users","many"] Be:=by
 have sc:aJ ["users","many","best","floor","work","user","total"] ["users","many"] (aB D9):=dS 95
 sleep 86
 refine j8 h λlu m U _hi=>?_
 refine lZ _hi λ_r1 _r2 u24 fa l4 m1 m8 qN q=>?_
 sleep 100;obtain ⟨as,eu,r⟩:=_r2;exists _,(af (dO (i:=2) sc.nd rfl 187 aX) (af (605 (aQ (mF rfl rfl B.KK rfl B.Lp PyProof.Rows.Boot.«sorted» PyProof.Rows.Boot.«set» (c8 (own:= "user") (ys:= []) (js:= []) rfl 107 357 229))) 346 (af (cX 4 sc ak) (ar (605 357 323 (ar (aV (ay pi 244 127 136) (af (uL (i:=4) sc.nd rfl (Or.inl rfl) 244 uM) (af (cX 6 sc (614 (614 127 244) (cC DZ36 hr (134<*>449)))) (ar (aV (PW.pt (dI (ay dX 123 aX 136) (dt (ay gC 254 167 136)))) (ar (dO (i:=2) sc.nd rfl 187 (@bM _ _ _ _ _ (254<*>(127<*>(154<*>ae)))))) aH)))) aH)))))) (af (aV (ay dX 123 aX 136) 221 aH) (ar (aD (@bM _ _ _ _ _ (167<*>((kW (own:= "user") (ys:= ["best"]) (js:= [2]) rfl 106 357 (λC fp s H=>(PW.pt (eQ (ay pi 118 274 136) (dM (ay (Cm hr.units0) 108 274 136))))) 229)<*>ae))))))))
 try dsimp only[cxK]
 sleep 69;sleep 0;have la:as.length=U.length:=r.1;have four:∀(k:Nat) (u:Ky),U[k]?=some u->∃a b c d:Int,u= [a,b,c,d]:=λk u h=>by
  have:=l4 u (IR h)
  match u,this with
  | [a,b,c,d],_=>exact (aM a b c d rfl)
 refine eC (λNq=>Nq [some (.ref lu),some 311,some .non,none,none,none,none] H) (λN hN=>hN) ?_
 refine cut (λσ H'=>∃(v:V) (o3 o4 o5 o6:Option V),σ= [LN lu,some 311,some v,o3,o4,o5,o6]/\aC H H'/\mO H' v U m (v3 U)) 206 ?_
 ·refine (lu,rfl,(_,aF.of eu),cz 260 146 (λk=>uB 213) (aF.of eu) 272 130 174 λlx H1 nlx g1 hx=>?_)
  ·rw[IQ] at hy;obtain ⟨tu,htu,rfl⟩:=IW.mp hy;have kl:=(IP.mp htu).1;have hk:=I0 (show k<U.length by lia)
   have e:=r.2 k tu _ htu hk;rw[aL hk] at hQ;obtain ⟨a,b,c,d,ek⟩:=four k _ hk;rw[ek] at e hQ;exact (aM tu _ _ _ (rfl,rfl,bH.of (gk _ _ e),rfl,hQ _ _ 184 rfl))
  obtain ⟨vx,ex,rx⟩:=hx;rw[rx.val] at ex;have exl:((JK (as.map V.ref).length).map λk=>uB 213)=U.map uB:=by
   rw[IN,la]
   conv=>rhs;rw[<-cJ U []]
   rw[JB]
   rfl
  rw[exl] at ex;have lx2:=fT (U.map uB) [];rw[IN] at lx2;refine (aN lx (U.map uB) (rfl,aF.of ex,by rw[IN];lia,(by rw[List.length_nil] at lx2;lia),λp ys np nd mem le=>(p,rfl,(_,aF.of au),?_)))
  have gp:=g1.trans (ao np (.lst 452));have ep:aO H1 p (.lst 452) p=some (.lst 452):=au;generalize aO H1 p (.lst 452)=H2 at gp ep⊢;refine bO (xs:=ys.map V.int) (λi σ H'=>aC H2 H'/\∃(v:V) (o3 o4 o5 o6:Option V),σ= [LN lu,some 311,some v,o3,o4,o5,o6]/\mO H' v U m (λf k=>f∈ys.take i/\k<U.length/\f<=uB 213)) (.refl _,aM .non none none none (none,(rfl,.inl (rfl,λf k h=>by simp at h)))) (λi σ H' _ h=>aF.of (h.1 _ _ ep)) ?_ ?_
  ·intro i y σ H3 hy h_;refine cB h_ λg3 _hi=>?_
   refine ij _hi λv o3 o4 o5 _hj=>?_
   refine fD _hj λo6 _hk=>?_
   refine cB _hk λ_r1 bs=>?_
   sleep 46;rw[IQ] at hy;obtain ⟨fl,hfl,rfl⟩:=IW.mp hy;have hflm:=IR hfl;try dsimp only[bN,cq]
   refine eC (λNq=>Nq [some (.ref lu),some 311,some v,some (.int fl),some (.int (zj U fl 0)),o5,o6] H3) (λN hN=>hN) ?_
   have gu:=gp.trans g3;refine (lu,rfl,(_,aF.of (gu _ _ eu)),bO (xs:=as.map V.ref) (λj σ H'=>aC H3 H'/\∃(v:V) (o5 o6:Option V),σ= [LN lu,some 311,some v,some (.int fl),some (.int (zj U fl j)),o5,o6]/\mO H' v U m 376) (.refl _,cg v o5 o6 (rfl,bs.congr λf k=>(λh=> .inl h,λh=>h.elim id λz=>absurd z.2.1 (K8 _)))) (λj σ H' _ h=>aF.of (h.1 _ _ (gu _ _ eu))) ?_ ?_)
   ·rintro j y σ H4 hy ⟨g4,v,o5,o6,rfl,bs⟩;sleep 59
    generalize hu:U[j]=u at hj;have e:=(gu.trans g4) _ _ (r.2 j tu _ htu hj);have ws:=Cn (f:=fl) hj;have gd:=aL (d:=([]:Ky)) hj;sleep 204;try dsimp only[bN,cq]
    refine (aM tu _ _ _ (rfl,rfl,bH.of e,rfl,d2 176 176))
    ·replace c:ub≥fl:=c;rw[if_pos (show fl<=uB [ut,ub,uw,ui] from c)] at ws
     refine cut (λσ H'=>H4=H'/\σ= [LN lu,some 311,some v,some (.int fl),some (.int (zj U fl (j+1))),LN tu,o6]) (λN hN=>(aM tu _ _ _ (rfl,rfl,bH.of e,rfl,hN _ _ (rfl,by rw[ws];rfl)))) ?_
     rintro σ _ ⟨rfl,rfl⟩;have et:pd U m fl j=fl+ut+ -((-(zj U fl (j+1))).fdiv m):=by unfold pd;rw[gd];rfl
     refine cut (λσ H'=>H4=H'/\σ= [LN lu,some 311,some v,some (.int fl),some (.int (zj U fl (j+1))),LN tu,some (.int (pd U m fl j))]) (λN hN=>(aM tu _ _ _ (rfl,rfl,bH.of e,rfl,aN _ m (rfl,m1,by lia,hN _ _ (rfl,by rw[et];rfl))))) ?_
     rintro σ _ ⟨rfl,rfl⟩;have newC:mO H4 v U m 376->∀f k,((f∈ys.take i/\k<U.length/\f<=uB 213)∨(f=fl/\k<j+1/\fl<=uB 213))↔((f∈ys.take i/\k<U.length/\f<=uB 213)∨(f=fl/\k<j/\fl<=uB 213))∨(f=fl/\k=j):=λ_ f k=>by
      constructor
      ·rintro (h|⟨h1,h2,h3⟩)
       ·exact .inl (.inl h)
       ·rcases Jf.mp h2 with w|w
        ·exact .inl (.inr (h1,w,h3))
        ·exact .inr (h1,w)
      ·rintro ((h|⟨h1,h2,h3⟩)|⟨h1,h2⟩)
       ·exact .inl h
       ·exact .inr (h1,by lia,h3)
       ·exact .inr (h1,by lia,by rw[h2,gd];exact c)
     have nc:=newC bs;have put:∀t,H4 t=none->(∀f k,((f∈ys.take i/\k<U.length/\f<=uB 213)∨(f=fl/\k<j/\fl<=uB 213))->pd U m f k<=pd U m fl j)->aC H3 489/\mO 489 214 U m (λf k=>(f∈ys.take i/\k<U.length/\f<=uB 213)∨(f=fl/\k<j+1/\fl<=uB 213)):=λt nt mx=>⟨g4.trans (ao nt _),.inr ⟨t,tu,fl,j,_,rfl,au,hj,ao nt _ _ _ e,(nc fl j).mpr (.inr 305),λf k h=>by
      rcases (nc f k).mp h with w|⟨rfl,rfl⟩
      ·exact mx f k w
      ·exact Ju _⟩⟩
     rcases bs with ⟨rfl,none⟩|⟨t0,tu0,f0,k0,u0,rfl,e0,hk0,e1,c0,mx⟩
     ·refine (rfl,mB.i (dT rfl (eI 271)))
      obtain ⟨h1,h2⟩:=put t nt λf k h=>absurd h (none f k)
      exact (h1,cg _ _ _ (rfl,h2))
     ·refine (rfl,mB.i (623 (aM t0 _ _ _ (rfl,rfl,bH.of e0,rfl,d2 (λc2=>271) 258))))
      ·replace c2:pd U m fl j>pd U m f0 k0:=c2;obtain ⟨h1,h2⟩:=put t nt λf k h=>by have:=mx f k h;lia
       exact (h1,cg _ _ _ (rfl,h2))
      ·replace c2:¬pd U m fl j>pd U m f0 k0:=c2;exact ⟨g4,_,_,ν,.inr ⟨t0,tu0,f0,k0,u0,rfl,e0,hk0,e1,(nc f0 k0).mpr (.inl c0),λf k h=>by
        rcases (nc f k).mp h with w|⟨rfl,rfl⟩
        ·exact mx f k w
        ·lia⟩⟩
    ·replace c:¬ub≥fl:=c;rw[if_neg (show ¬fl<=uB [ut,ub,uw,ui] from c)] at ws
     refine (g4,cg v (some (.ref tu)) o6 (by rw[ws];rfl,bs.congr λf k=>(λh=>?_,λh=>?_)))
     ·rcases h with h|⟨h1,h2,h3⟩
      ·exact .inl h
      ·exact .inr (h1,by lia,h3)
     ·rcases h with h|⟨h1,h2,h3⟩
      ·exact .inl h
      ·rcases Jf.mp h2 with w|w
       ·exact .inr (h1,w,h3)
       ·rw[w,gd] at h3;exact absurd h3 c
   ·rintro σ H4 ⟨g4,v,o5,o6,rfl,bs⟩;rw[IN,la] at bs;refine (g3.trans g4,aM v _ _ _ (_,(rfl,bs.congr λf k=>?_)))
    rw[K4,hfl,Option.toList_some];constructor
    ·rintro (⟨h1,h2,h3⟩|⟨h1,h2,h3⟩)
     ·exact (List.mem_append_left _ h1,h2,h3)
     ·exact (JI _ (by rw[h1];simp),h2,by rw[h1];exact h3)
    ·rintro ⟨h1,h2,h3⟩;rcases JA.mp h1 with w|w
     ·exact .inl (w,h2,h3)
     ·rw[J4] at w;exact .inr (w,h2,by rw[<-w];exact h3)
  ·intro σ H3 h_;refine cB h_ λg3 _hi=>?_
   refine ij _hi λv o3 o4 o5 _hj=>?_
   refine fD _hj λo6 _hk=>?_
   refine cB _hk λ_r1 bs=>?_
   sleep 46;rw[IN,JX] at bs;refine hN _ _ (aM v _ _ _ ⟨_,⟨rfl,gp.trans g3,bs.congr λf k=>⟨λ⟨h1,h2,h3⟩=>⟨?_,h2,h3⟩,λh=>⟨?_,h.lt,h.ge⟩⟩⟩⟩)
   ·obtain ⟨u,hu,e⟩:=J2.mp ((mem f).mp h1);exact (u,hu,e)
   ·obtain ⟨u,hu,e⟩:=h.fl;exact (mem f).mpr (J2.mpr (u,hu,e))
 sleep 205;refine ij h_ λv o3 o4 o5 _hi=>?_
 refine fD _hi λo6 _hj=>?_
 refine i3 _hj λ_r1 g1 bs=>?_
 sleep 14;rcases bs with ⟨rfl,none⟩|⟨t0,tu0,f0,k0,u0,rfl,e0,hk0,e1,c0,mx⟩
 ·refine (rfl,mB.i (dT rfl (qN ?_ _ g1)));cases hU:U with
  |nil=>rfl
  |cons u0 U0=>
   exfalso;rw[hU] at none;exact none (uB u0) 0 ((u0,by simp,rfl),by simp,Ju _)
 ·have eu1:=g1 _ _ eu;obtain ⟨a0,b0,c0',d0,eu0⟩:=four k0 _ hk0;refine (rfl,mB.i (623 (aM t0 _ _ _ (rfl,rfl,bH.of e0,rfl,lu,rfl,(_,aF.of eu1),jC 260 146 (λj=>decide (f0<=uB 340)&& !gn 340 u0) (λj=>uI 340) (aF.of eu1) 272 130 (λj y hy Hk gk S' hS'=>?_) (λj y hy _ Hk gk Q' hQ=>?_) λll H2 nll g2 hl=>?_))))
  ·sleep 59
   have e:=(g1.trans gk) _ _ (r.2 j tu _ htu hj);rw[aL hj] at hS';generalize U[j]=u at hj e hS';sleep 204;refine (aM tu _ _ _ (rfl,rfl,bH.of e,rfl,aM t0 _ _ _ (rfl,rfl,bH.of (gk _ _ e0),rfl,d2 176 176)))
   ·replace c:f0<=uB [ut,ub,uw,ui]:=c;rw[decide_eq_true c,Kj] at hS';refine (aM t0 _ _ _ (rfl,rfl,bH.of (gk _ _ e0),rfl,aN [ut,ub,uw,ui] u0 ((tu,rfl,e,List.cons_ne_nil _ _,by show 4<=sizeLine;lia),(tu0,rfl,gk _ _ e1,by rw[eu0];exact List.cons_ne_nil _ _,by rw[eu0];show 4<=sizeLine;lia),hS' _ 184)))
   ·replace c:¬f0<=uB [ut,ub,uw,ui]:=c;rw[decide_eq_false c,Bool.false_and] at hS';exact hS' _ 184
  ·sleep 59
   have e:=(g1.trans gk) _ _ (r.2 j tu _ htu hj);rw[aL hj] at hQ;generalize U[j]=u at hj e hQ;sleep 204;exact (aM tu _ _ _ (rfl,rfl,bH.of e,rfl,hQ _ _ 184 rfl))
  obtain ⟨vl,el,rl⟩:=hl;rw[rl.val] at el;rw[IN,la,Bb fa hk0] at el;refine (by show 2<=sizeLine;decide,λt nt=>q t ll _ f0 k0 _ ((g1.trans g2).trans (ao nt _)) au (ao nt _ _ _ el) (c0,rfl,mx))
theorem Gh {dV:Value} (F:bK K "best_stretch" "best_stretch" Ea dV f fd) (DZ1:603 1 "points_of" ["net"] [] (jD IO)) (DZ26:603 3 "work_of" ["net","case","i","tool"] [] (vR IO cZ)) (DZ27:603 3 "arcs_of" ["net","case"] [] (kF IO)) (DZ34:603 2 "earliest_times" ["points","arcs"] [] iR) (DZ35:603 3 "tail_chains" ["points","arcs"] [] xM) (DZ40:603 1 "users_of" ["works","times","sums"] [] xO) (DZ41:603 2 "fullest_of" ["users","many"] [] Be):604 6 f fd ["net","case"] (Bf IO):=by
 have sc:aJ ["net","case","arcs","heads","tails","best","tool","works","users","fullest","fronts","backs"] ["net","case"] (aB Ea):=dS 95
 sleep 86
 sleep 108
 sleep 49
 sleep 160
 refine fD _hk λO _hl=>?_
 refine gY _hl λNC po l7 tk n0 _hm=>?_
 refine i3 _hm λn8 qR qB=>?_
 clear h _hi _hj _hk _hl _hm;subst _r1;exists _,(af (cX 2 sc (cC DZ27 hr 204)) (af (616 (cC DZ34 hr ((cC DZ1 hr 186)<*>268))) (af (dO (i:=4) sc.nd rfl 187 (cC DZ35 hr ((cC DZ1 hr 186)<*>268))) (af (aV (ay dX 246 aX 136) 221 aH) (af (cX 5 sc aX) (af (605 241 (iH (i:=6) sc.nd rfl 187) (af (nH (hd:=none) (own:= "i") (ys:= ["net","case","tool"]) (js:= [0,1,6]) sc.nd (i:=7) rfl rfl hr.hd 139 (fh rfl B.Ko (201<*>ae)) (λC fp s H=>(cC DZ26 hr 370))) (af (cX 8 sc (cC DZ40 hr (365<*>(246<*>(245<*>ae))))) (af (cX 9 sc (cC DZ41 hr ((pv 8)<*>((jv 505 155 254 32)<*>ae)))) (ar (aV (PW.pt (eQ (ay iI 464 aX 136) (dM (PW.pt (dI (ay dX 154 aX 136) (dt (ay gC (av aG 464 ak 32) 244 136))))))) (ar (cX 5 sc (@bM _ _ _ _ _ ((av aG 464 ak 32)<*>(254<*>((av aG 464 ak 32)<*>ae)))))) aH)))))) (af (aV (ay dX 154 aX 136) 221 aH) (af (gR (own:= "i") (ys:= ["heads"]) (js:= [3]) sc.nd (i:=10) rfl rfl rfl 106 (aQ 244) (λC fp s H=>(av 366 274 (aw aY ak 108) 32))) (af (gR (own:= "i") (ys:= ["tails"]) (js:= [4]) sc.nd (i:=11) rfl rfl rfl 106 (aQ 244) (λC fp s H=>(av 366 274 (614 (aw aY ak 108) ak) 32))) (ar (aD (@bM _ _ _ _ _ (244<*>(244<*>((pv 10)<*>((pv 11)<*>ae))))))))))))))))
 try dsimp only[cxK]
 refine FH ?_;intro D' r9 r8 r7 r6 r5 r4 r3 r2 r1;sleep 0;have t24:=NC.ok.t24;have tr:∀k∈A,∃p q g:Int,k= [p,q,g]:=λk hk=>by
  sleep 128
 have trF:=iS (T:=T) (P:=P) (O:=O) tr;have lA:((ce A T P O).map i4).length<=700:=by
  sleep 166
  lia
 have eN:521=2*109+n:=by lia
 have ir:=Bi eN tk;generalize hN:(2*109+n).toNat=N at*;have n7:N<=700:=by lia
 have nTT:2*T.length<=N:=by lia
 refine (aN x t (rfl,gj D T A B2 n P (O,(NC.any,po,λla H1 g1 nla hA1=>?_))))
 have hA:=kI hA1 trF;generalize 143=Ar at*;try dsimp only[bN,cq]
 refine eC (λNq=>∀(th:Addr) (H':Hp),aC H1 H'->((vM H' th Ar N∨CH H' th Ar N))->Nq [some 262,some 214,some 264,some (.ref th),none,none,none,none,none,none,none,none] H') (λM hM=>(gj x n false D T A (B2,(rfl,(NC.same g1).net,cg N la Ar (by rw[eN];rfl,hA,lA,n7,ir,λth H2 g2 ho=>hM th _ g2 ho))))) ?_
 intro th H2 g2 ho;try dsimp only[bN,cq]
 refine eC (λNq=>∀(tt:Addr) (H':Hp),aC H2 H'->((A5 H' tt Ar N∨(H' tt=some (.tup [.non,.non])/\∃c,t8 (fo Ar) N c)))->Nq [some 262,some 214,some 264,some (.ref th),some 568,none,none,none,none,none,none,none] H') (λM hM=>(gj x n false D T A (B2,(rfl,(NC.same 269).net,cg N la Ar (by rw[eN];rfl,hA.same g2,lA,n7,ir,λtt H3 g3 hq=>hM tt _ g3 hq))))) ?_
 intro tt H3 g3 hq;have k3:=(g1.trans g2).trans g3;rcases ho with ⟨lt,lc,tm,as,eh,et,elc,las,each,kp,nn⟩|⟨lr,c,eh,elr,rg⟩
 rotate_left
 ·exact (aM th _ _ _ (rfl,rfl,bH.of (g3 _ _ eh),rfl,rfl,mB.i (dT rfl (qR c _ k3 rg))))
 replace eh:=g3 _ _ eh;replace et:=g3 _ _ et;replace elc:=g3 _ _ elc;replace each:∀(i:Nat) (l:Addr),as[i]?=some l->∃c:List Int,H3 l=some 168/\jN Ar N i (tm i) c:=λi l h=>by
  obtain ⟨c,e1,e2⟩:=each i l h;exact (c,g3 _ _ e1,e2)
 rcases hq with ⟨ls,lb,ts,bs,ett,es,elb,lbs,eachb,kpt,nnt⟩|⟨_,c,rg⟩
 rotate_left
 ·exact (rg.no kp.turn).elim
 obtain ⟨cF,hcF⟩:=wv each;obtain ⟨bF,hbF⟩:=wv eachb;refine eC (λNq=>Nq [some 262,some 214,some 264,some (.ref th),some 568,none,none,none,none,none,none,none] H3) (λM hM=>(aM th _ _ _ (rfl,rfl,bH.of eh,rfl,rfl,mB.i (623 (hM))))) ?_
 refine eC (λNq=>Nq [some 262,some 214,some 264,some (.ref th),some 568,some .non,none,none,none,none,none,none] H3) (λM hM=>hM) ?_
 have NC3:=NC.same k3;refine fN NC3.net.ex λdx td tl al pl fs _hi=>?_
 sleep 11
 refine cB _hj λ_ _=>?_
 obtain ⟨vt,el,rT⟩:=_r1;replace ed:=ed.no;have lvt:vt.length=T.length:=rT.1;have d12:=NC.ok.d12;have dnd:=NC.ok.dnd;refine cut (λσ H'=>∃(v:V) (o6 o7 o8 o9:Option V),σ= [LN x,LN t,LN la,LN th,LN tt,some v,o6,o7,o8,o9,none,none]/\aC H3 H'/\qA H' v (D.map 199) D T P tm ts) (λM hM=>?_) ?_
 ·refine (607 (_,(rfl,e0,B.Kq,B.Ks,l1,cg td _ _ (rfl,ed,oz D,dnd,by rw[IN];lia,λly ys nly yp ysrt=>(ly,rfl,(_,aF.of au),?_)))))
  have gl:=ao nly 248;have ely:aO H3 ly 248 ly=some (.lst (ys.map V.str)):=au;generalize aO H3 ly 248=H4 at gl ely⊢;refine bO (xs:=ys.map V.str) (λi σ H'=>aC H4 H'/\∃(v:V) (o6 o7 o8 o9:Option V),σ= [LN x,LN t,LN la,LN th,LN tt,some v,o6,o7,o8,o9,none,none]/\qA H' v (ys.take i) D T P tm ts) (.refl _,aM .non none none none (none,(rfl,⟨.inl (rfl,λz h=>by simp at h)⟩))) (λi σ H' _ h=>aF.of (h.1 _ _ ely)) ?_ ?_
  ·intro i y σ H5 hy h_;refine cB h_ λg5 _hi=>?_
   refine ij _hi λv o6 o7 o8 _hj=>?_
   refine fD _hj λo9 _hk=>?_
   refine cB _hk λ_r1 tb=>?_
   sleep 46;sleep 185;obtain ⟨p,hp,ep⟩:=J2.mp (yp.mem_iff.mp (IR hz));have hm:=sj dnd hp;have m1:=(NC.ok.tool p hp).2.1;have m8:=(NC.ok.tool p hp).2.2;rw[ep] at hm;generalize p.2=m at hm m1 m8;clear hp ep p;have k5:=gl.trans g5;have tks:ys.take 233=ys.take i++ [z]:=by rw[K4,hz];rfl
   try dsimp only[bN,cq]
   refine eC (λNq=>∀(lw:Addr) (H':Hp),aC H5 H'->H' lw=some (.lst ((j7 T P z).map V.int))->Nq [some 262,some 214,some 264,some (.ref th),some 568,some v,some 379,some (.ref lw),o8,o9,none,none] H') (λM hM=>?_) ?_
   ·refine (607 (_,(rfl,(k5 _ _ e0),B.Kq,B.Kr,l2,aN tl _ (rfl,.inl (aF.of (k5 _ _ el)),ν,by lia,by lia,jg 260 146 (λi=>cZ T P i z) jM.no 41 130 (λj hj H6 g6 Q' hQ=>?_) λlw H6 nlw g6 hw=>?_))))
    ·rw[IX,lvt] at hj;exact (aM x t j z (by rw[Jl];rfl,gj D T A B2 n P (O,(((NC3.same k5).same g6).any,hj,λH' g'=>hQ _ _ g' rfl))))
    obtain ⟨vw,ew,rw'⟩:=hw;rw[rw'.val,IX,lvt] at ew;exact hM lw _ g6 ew
   intro lw H6 g6 ew;have k6:=k5.trans g6;try dsimp only[bN,cq]
   refine eC (λNq=>∀(lu:Addr) (U:List Ky) (H':Hp),aC H6 H'->bn H' lu U->U.length<=24->v6 (j7 T P z) tm ts U->Nq [some 262,some 214,some 264,some (.ref th),some 568,some v,some 379,some (.ref lw),some (.ref lu),o9,none,none] H') (λM hM=>(aM th _ _ _ (rfl,rfl,bH.of (k6 _ _ eh),rfl,aM tt _ _ _ (rfl,rfl,bH.of (k6 _ _ ett),rfl,gj lw lt ls _ N tm (ts,(rfl,ew,by rw[jL];exact t24,k6 _ _ et,k6 _ _ es,by rw[jL];exact nTT,λlu U H7 g7 nlu tu u24 uo=>hM lu U _ g7 tu u24 uo)))))) ?_
   intro lu U H7 g7 tu u24 uo;have k7:=k6.trans g7;have l4:∀u∈U,u.length=4:=λu hu=>by
    obtain ⟨_,_,_,rfl⟩:=(uo.mem u).mp hu
    rfl
   try dsimp only[bN,cq]
   refine (607 (_,(rfl,(k7 _ _ e0),B.Kq,B.Ks,l1,aN td _ (rfl,j2 (.inl (k7 _ _ ed)) hm,cg lu m U (rfl,tu,u24,uo.falls,l4,m1,m8,λhU H8 g8=>?_,λtf ll total f k H8 g8 ef ell fu=>?_)))))
   ·have g58:=(g6.trans g7).trans g8;subst hU;refine (rfl,mB.i (nF rfl (g5.trans g58,aM v _ _ _ (_,(rfl,?_)))));rw[tks];rcases (tb.same g58).ex with ⟨rfl,h⟩|⟨t0,z0,l0,total0,m0,f0,k0,U0,rfl,e1,e2,e3,e4,e5,mx⟩
    ·exact ⟨.inl ⟨rfl,λz' hz'=>by
      rcases JA.mp hz' with w|w
      ·exact h z' w
      ·rw[J4] at w;rw[w];exact uo⟩⟩
    ·sleep 123
     rcases JA.mp hz' with w|w
     ·exact mx z' w m' U' hm' uo' f' k' cd
     ·rw[J4] at w;rw[w] at uo';rw[uo'.uniq uo] at cd;exact (qC cd).elim
   ·have g58:=(g6.trans g7).trans g8;have new:∀t2,H8 t2=none->(∀z'∈ys.take i,∀m' U',cP D z'=some m'->v6 (j7 T P z') tm ts U'->∀f' k',v3 U' f' k'->pd U' m' f' k'<=total)->qA (aO H8 t2 (.tup [.int total,.str z,.ref ll])) (.ref t2) (ys.take 233) D T P tm ts:=λt2 n2 mx=>⟨.inr ⟨t2,z,ll,total,m,f,k,U,rfl,au,ao n2 _ _ _ ell,hm,uo,fu,λz' hz' m' U' hm' uo' f' k' cd=>by
     rw[tks] at hz';rcases JA.mp hz' with w|w
     ·exact mx z' w m' U' hm' uo' f' k' cd
     ·rw[J4] at w;rw[w] at uo' hm';rw[hm] at hm';cases hm';rw[uo'.uniq uo] at cd⊢;exact fu.max f' k' cd⟩⟩
    refine (rfl,mB.i (nT nofun ?_));rcases (tb.same g58).ex with ⟨rfl,h⟩|⟨t0,z0,l0,total0,m0,f0,k0,U0,rfl,e1,e2,e3,e4,e5,mx⟩
    ·refine (rfl,mB.i (dT rfl (eI (aM tf _ _ _ (rfl,rfl,bH.of ef,rfl,aM tf _ _ _ (rfl,rfl,bH.of ef,rfl,by show 3<=sizeLine;decide,λt2 n2=>((g5.trans g58).trans (ao n2 _),aM _ _ _ _ (_,(rfl,new t2 n2 λz' hz' m' U' _ uo' f' k' cd=>?_)))))))))
     rw[uo'.uniq (h z' hz')] at cd;exact (qC cd).elim
    ·refine (rfl,mB.i (623 (aM tf _ _ _ (rfl,rfl,bH.of ef,rfl,aM t0 _ _ _ (rfl,rfl,bH.of e1,rfl,d2 (λc2=>(aM tf _ _ _ (rfl,rfl,bH.of ef,rfl,aM tf _ _ _ (rfl,rfl,bH.of ef,rfl,by show 3<=sizeLine;decide,λt2 n2=>((g5.trans g58).trans (ao n2 _),aM _ _ _ _ (_,(rfl,new t2 n2 λz' hz' m' U' hm' uo' f' k' cd=>?_))))))) (λc2=>(g5.trans g58,aM _ _ _ _ (_,(rfl,?_)))))))))
     ·replace c2:total>total0:=c2;have:=mx z' hz' m' U' hm' uo' f' k' cd
      lia
     ·replace c2:¬total>total0:=c2;sleep 123
      rw[tks] at hz';rcases JA.mp hz' with w|w
      ·exact mx z' w m' U' hm' uo' f' k' cd
      ·rw[J4] at w;rw[w] at uo' hm';rw[hm] at hm';cases hm';rw[uo'.uniq uo] at cd⊢;have:=fu.max f' k' cd
       lia
  ·intro σ H5 h_;refine cB h_ λg5 _hi=>?_
   refine ij _hi λv o6 o7 o8 _hj=>?_
   refine fD _hj λo9 _hk=>?_
   refine cB _hk λ_r1 tb=>?_
   sleep 46;rw[IN,JX] at tb;refine hM _ _ (aM v _ _ _ (_,(rfl,gl.trans g5,?_)));rcases tb.ex with ⟨rfl,h⟩|⟨t0,z0,l0,total0,m0,f0,k0,U0,rfl,e1,e2,e3,e4,e5,mx⟩
   ·exact ⟨.inl (rfl,λz hz=>h z (yp.mem_iff.mpr hz))⟩
   ·exact ⟨.inr (gj t0 z0 l0 total0 m0 f0 (aN k0 U0 (rfl,e1,e2,e3,e4,e5,λz' hz'=>mx z' (yp.mem_iff.mpr hz'))))⟩
 intro σ H4 h_;refine ij h_ λv o6 o7 o8 _hi=>?_
 refine fD _hi λo9 _hj=>?_
 refine i3 _hj λ_r1 g4 tb=>?_
 sleep 14;have fin:=λ(v:V) (H':Hp) (g:aC H3 H') (b:CL H' v D T P Ar N tm ts)=>qB tm ts v H' (k3.trans g) kp nn (λi hi=>by
  have il:i<as.length:=by lia
  exact (_,(hcF i _ 549).2)) kpt nnt (λi hi=>by
  have il:i<bs.length:=by lia
  exact (_,(hbF i _ 549).2)) b
 rcases tb.ex with ⟨rfl,h⟩|⟨t0,z0,l0,total0,m0,f0,k0,U0,rfl,e1,e2,e3,e4,e5,mx⟩
 ·exact (rfl,mB.i (dT rfl (fin _ _ g4 (.inl (rfl,λp hp=>h _ (J2.mpr (p,hp,rfl)))))))
 have selT:∀(j:Nat) (i:Int),(eU U0 f0 k0)[j]?=some i->0<=i/\i<(T.length:Int):=λj i h=>by
  have:=Cp e4 h;rw[jL] at this;exact this
 have sel24:(eU U0 f0 k0).length<=24:=by
  have h1:(eU U0 f0 k0).length<=U0.length:=by
   unfold eU dq;rw[IN];exact JV (List.length_filter_le _ _) 369
  have h2:U0.length<=T.length:=by
   have nd:(U0.map uI).Nodup:=by
    refine KZ.mpr ?_;refine List.Pairwise.imp_of_mem ?_ e4.falls;intro a b ha hb lt e;obtain ⟨i,_,_,ea⟩:=(e4.mem a).mp ha;obtain ⟨j,_,_,eb⟩:=(e4.mem b).mp hb;rw[ea,eb] at e;replace e:(i:Int)=(j:Int):=e;have:i=j:=by lia
    subst this;rw[ea,eb,dZ] at lt;cases lt
   have:=iz nd (m:=(JK T.length).map λn:Nat=>(n:Int)) λi hi=>by
    obtain ⟨u,hu,rfl⟩:=J2.mp hi;obtain ⟨i,h1,_,eu⟩:=(e4.mem u).mp hu;rw[jL] at h1;rw[eu];exact J2.mpr (i,JZ.mpr h1,rfl)
   rw[IN,IN,JP] at this;exact this
  lia
 refine 555;refine (aM t0 _ _ _ (rfl,rfl,bH.of e1,rfl,l0,rfl,(_,aF.of e2),cz CJ (λa=>An a/\H4 a≠none) (λj=>cF (2*(eU U0 f0 k0).getD j 0).toNat) (aF.of e2) 272 (λa h=>h.2) (λj y hy Hk gk Q' hQ=>?_) λlf H5 nlf g5 hf=>?_))
 ·sleep 87;obtain ⟨i0,i1⟩:=selT j i hi;rw[aL hi] at hQ;have hl:=I0 (show (2*i).toNat<as.length by lia)
  generalize as[(2*i).toNat]=c at hl;have ec:=(hcF _ _ hl).1;have at1:gD (as.map V.ref) (2*i)=some (.ref c):=by
   have:=bg (bW (f:=V.ref) hl)
   rwa [show (((2*i).toNat:Nat):Int)=2*i by lia] at this
  exact (aM th _ _ _ (rfl,rfl,bH.of (gk _ _ (g4 _ _ eh)),rfl,112 49,aM lc _ _ _ (rfl,rfl,aF.of (gk _ _ (g4 _ _ elc)),at1,hQ _ _ 184 (xG (.inr (trivial,by rw[g4 _ _ ec];exact nofun)) (gk _ _ (g4 _ _ ec))))))
 have hf1:vU H5 lf ((JK (eU U0 f0 k0).length).map λj=>cF (2*(eU U0 f0 k0).getD j 0).toNat):=by
  have:=hf.any
  rwa [IN] at this
 refine (aM t0 _ _ _ (rfl,rfl,bH.of (g5 _ _ e1),rfl,l0,rfl,(_,aF.of (g5 _ _ e2)),cz CJ (λa=>An a/\H5 a≠none) (λj=>bF (2*(eU U0 f0 k0).getD j 0+1).toNat) (aF.of (g5 _ _ e2)) 272 (λa h=>h.2) (λj y hy Hk gk Q' hQ=>?_) λGP H6 nlb g6 hb=>?_))
 ·sleep 87;obtain ⟨i0,i1⟩:=selT j i hi;rw[aL hi] at hQ;have hl:=I0 (show (2*i+1).toNat<bs.length by lia)
  generalize bs[(2*i+1).toNat]=c at hl;have ec:=(g4.trans g5) _ _ (hbF _ _ hl).1;have at1:gD 217 (2*i+1)=some (.ref c):=by
   have:=bg (bW (f:=V.ref) hl)
   rwa [show (((2*i+1).toNat:Nat):Int)=2*i+1 by lia] at this
  exact (aM tt _ _ _ (rfl,rfl,bH.of (gk _ _ (g5 _ _ (g4 _ _ ett))),rfl,112 49,aM lb _ _ _ (rfl,rfl,aF.of (gk _ _ (g5 _ _ (g4 _ _ elb))),at1,hQ _ _ 184 (xG (.inr (trivial,by rw[ec];exact nofun)) (gk _ _ ec)))))
 have hb1:vU H6 GP ((JK (eU U0 f0 k0).length).map λj=>bF (2*(eU U0 f0 k0).getD j 0+1).toNat):=by
  have:=hb.any
  rwa [IN] at this
 have e16:=g6 _ _ (g5 _ _ e1);refine (aM t0 _ _ _ (rfl,rfl,bH.of e16,rfl,aM t0 _ _ _ (rfl,rfl,bH.of e16,rfl,by show 4<=sizeLine;decide,λtr9 ntr=>fin _ _ (((g4.trans g5).trans g6).trans (ao ntr _)) (.inr (wc tr9 z0 lf GP _ _ total0 m0 f0 (aN k0 U0 (rfl,au,(hf1.same g6).same (ao ntr _),hb1.same (ao ntr _),e3,e4,e5,by rw[IN,JP],by rw[IN,JP],λj i hi=>?_,λp hp U' uo' f' k' cd=>mx p.1 (J2.mpr (p,hp,rfl)) p.2 U' (sj dnd hp) uo' f' k' cd)))))))
 obtain ⟨i0,i1⟩:=selT j i hi;have jl:=(IP.mp hi).1;have h1:=(hcF _ _ (I0 (show (2*i).toNat<as.length by lia))).2
 have h2:=(hbF _ _ (I0 (show (2*i+1).toNat<bs.length by lia))).2
 rw[show (((2*i).toNat:Nat):Int)=2*i by lia] at h1
 rw[show (((2*i+1).toNat:Nat):Int)=2*i+1 by lia] at h2
 exact (aN _ _ (by rw[IQ,KI jl,K0,aL hi],by rw[IQ,KI jl,K0,aL hi],h1,h2))
theorem Gi {dV:Value} (F:bK K "_law_cell_at" "_law_cell_at" Eb dV f fd):604 1 f fd ["_law_script","_law_k"] (nC K):=by
 have sc:aJ ["_law_script","_law_k"] ["_law_script","_law_k"] (aB Eb):=dS 95
 sleep 86
 obtain ⟨a,ns,k,rfl,hS,h0,q⟩:=h;exists _,(af (aV (ay fA 116 119 136) (ar (aD (611 108 116 32))) aH) (ar (aD ak)))
 try dsimp only[cxK]
 sleep 75;refine (aN a _ (rfl,.inl hS,d2 176 176))
 ·obtain ⟨v,hv⟩:=BQ h0 c;exact (aM a _ _ _ (rfl,rfl,hS,hv,q v))
 ·exact q 0
theorem Gj {dV:Value} (F:bK K "_law_whole" "_law_whole" Ec dV f fd):604 1 f fd ["_law_found"] wH:=by
 have sc:aJ ["_law_found"] ["_law_found"] (aB Ec):=dS 95
 sleep 86
 obtain ⟨v,rfl,q⟩:=h;exists _,(ar (aD (uH (aA sN rfl B.Kv boot_isinstance (108<*>((j9 (v:= .ty "int") rfl B.LB boot_int rfl)<*>ae))) (uG (CU (aA sN rfl B.Kv boot_isinstance (108<*>((j9 (v:= .ty "bool") rfl B.Lz boot_bool rfl)<*>ae))))))));try dsimp only[cxK]
 refine (618 (rfl,.ii v,(618 (rfl,.ib v,q))))
theorem Gk {dV:Value} (F:bK K "_law_mixed" "_law_mixed" Ed dV f fd):604 1 f fd ["_law_cell","_law_k"] jJ:=by
 have sc:aJ ["_law_cell","_law_k"] ["_law_cell","_law_k"] (aB Ed):=dS 95
 sleep 86
 obtain ⟨c,k,rfl,q⟩:=h;exists _,(ar (aD (aw bv (620 (aw aY (614 (620 108 ak) ak) (614 ak (aw aY ak 116))) ak) ak)));try dsimp only[cxK]
 have m1:=fm (a:=c) (n:=999983) 49
 have m2:=fm (a:=(c.fmod 999983+17)*(48271+7919*k)) (n:=999979) 49
 refine ((by show (999983:Int)≠0;decide),112 49,112 171,(by show (999979:Int)≠0;decide),129,q _ ?_)
 exact Int.fdiv_nonneg m2.1 49
theorem Gm {dV:Value} (F:bK K "_law_meet" "_law_meet" Ee dV f fd):604 1 f fd ["_law_one","_law_other"] lK:=by
 have sc:aJ ["_law_one","_law_other"] ["_law_one","_law_other"] (aB Ee):=dS 95
 sleep 86
 refine ij h λt u r s2 _hi=>?_
 refine fO _hi λ_r1 et eu q=>?_
 sleep 60
 try dsimp only[cxK]
 sleep 74
 ·sleep 215
  sleep 195
 ·sleep 221
  sleep 195
theorem Gn {dV:Value} (F:bK K "_law_names" "_law_names" Ef dV f fd) (DZ45:603 1 "_law_mixed" ["_law_cell","_law_k"] [] jJ):604 2 f fd ["_law_cell"] ud:=by
 have sc:aJ ["_law_cell","_law_letters","_law_size","_law_at","_law_word","_law_first","_law_second"] ["_law_cell"] (aB Ef):=dS 95
 sleep 86
 obtain ⟨c,rfl,q⟩:=h;exists _,(af (dO (i:=1) sc.nd rfl 187 i5) (af (cX 2 sc (614 ak (620 108 ak))) (af (cX 3 sc (620 (aw bv 108 ak) 123)) (af (cX 4 sc (dG PySem.F.plainAttrs_str PySem.F.slot_str_join PySem.F.type_str_join BZ i5 ((ja (hd:=none) (own:= "_law_k") (ys:= ["_law_letters","_law_cell"]) (js:= [1,0]) hr.hd 135 (fh rfl B.Ko 268) (λC fp s H=>(av qL 116 (620 (cC DZ45 hr (123<*>186)) ak) 32)))<*>ae))) (af (cX 5 sc 316) (af (aV (PW.pt (eQ (ay fV 316 ak 136) (dM (ay fA 123 ak 136)))) (ar (aD (@bq _ _ _ _ (134<*>((aw gO 134 (av qL 116 154 32))<*>ae))))) aH) (af (cX 6 sc (620 (614 (614 154 ak) 316) ak)) (ar (aD (@bq _ _ _ _ ((aw gO (aw gO (fX qU 134 iJ (gG 127)) (av qL 116 154 32)) (fX qU 134 (gG (614 127 ak)) iJ))<*>((aw gO (aw gO (fX qU 134 iJ (gG 127)) (av qL 116 254 32)) (fX qU 134 (gG (614 127 ak)) iJ))<*>ae))))))))))))
 try dsimp only[cxK]
 sleep 97;sleep 0;have one:∀c,(⟨#[c]⟩:Str).length=1:=λ_=>rfl
 have s:=fm (a:=c) (n:=12) 49
 have ma:=fm (a:=c.fdiv 12) (n:=1+c.fmod 12) 41
 have mf:=fm (a:=c.fdiv 144) (n:=26) 49
 have ms:=fm (a:=c.fdiv 3744) (n:=25) 49
 have mt:=fm (a:=(c.fdiv 144).fmod 26+1+(c.fdiv 3744).fmod 25) (n:=26) 49
 exists (by show (12:Int)≠0;decide),129,by lia
 refine (rfl,1+c.fmod 12,rfl,by lia,by lia,jg (xt (λc:Nat=>97<=c/\c<=122) λc=>V.str ⟨#[c]⟩) 146 (λ_=>()) jM.no 41 130 (λi hi H2 g2 Q' hQ=>?_) λlw H1 nlw g1 hw=>?_)
 ·refine (aN _ _ (rfl,λv v0=>?_))
  have mv:=fm (a:=v) (n:=26) 49
  exact (478,cg _ _ _ (rfl,rfl,by decide,rW mv.1 mv.2,hQ _ _ 184 (_,by lia,rfl)))
 obtain ⟨vs,ev,rv⟩:=hw;obtain ⟨cs,rfl,lc,okc⟩:=rv.some_of;rw[IN,JP] at lc;have l1:∀w∈cs.map 335,w.length=1:=λw hw=>by
  obtain ⟨x,_,rfl⟩:=J2.mp hw
  rfl
 have lL:∀w∈cs.map 335,Lt w:=λw hw=>by
  obtain ⟨x,hx,rfl⟩:=J2.mp hw;exact Lt.one (okc x hx)
 have ev':H1 lw=some (.lst ((cs.map 335).map V.str)):=by rw[ev,JB];rfl
 have lw1:(cs.map 335).length=cs.length:=IN _
 refine (cg _ lw _ (rfl,rfl,aF.of ev',by decide,by rw[uc l1,lw1];lia,?_))
 have wl:=zd l1;have wL:=Lt.tjoin lL;rw[lw1,lc] at wl;generalize Txt.join "" (cs.map 335)=wd at wl wL⊢
 clear ev ev' rv okc l1 lL lw1 lc;have wz:wd.length<=sizeLine:=by lia
 have wi:(wd.length:Int)=1+c.fmod 12:=by lia
 have w1:1<=wd.length:=by lia
 have w12:wd.length<=12:=by lia
 have hf:=rW mf.1 mf.2;have ht:=rW mt.1 mt.2;have f1:97<=97+((c.fdiv 144).fmod 26).toNat/\97+((c.fdiv 144).fmod 26).toNat<=122:=by lia
 have t1:97<=97+(((c.fdiv 144).fmod 26+1+(c.fdiv 3744).fmod 25).fmod 26).toNat/\97+(((c.fdiv 144).fmod 26+1+(c.fdiv 3744).fmod 25).fmod 26).toNat<=122:=by lia
 exists 129,478
 have nmA:∀{d:Nat},97<=d/\d<=122->wd.length<12->Nm (wd++(⟨#[d]⟩:Str)):=λhd h12=>(wL.app (Lt.one hd)).nm (by rw[Str.length_append,one];lia) (by rw[Str.length_append,one];lia)
 have cm:=AQ (x:=wd) (i:=(c.fdiv 12).fmod (1+c.fmod 12)) ma.1 41
 have c1':=mi wd none (some ((c.fdiv 12).fmod (1+c.fmod 12)));have nmB:∀{d:Nat},97<=d/\d<=122->Nm (jZ wd none (some ((c.fdiv 12).fmod (1+c.fmod 12)))++(⟨#[d]⟩:Str)++jZ wd (some ((c.fdiv 12).fmod (1+c.fmod 12)+1)) none):=λhd=>(((wL.cut _ _).app (Lt.one hd)).app (wL.cut _ _)).nm 495 495
 refine (129,178,rfl,GW (λc1=>(d2 258 258)) 322)
 ·refine (618 (rfl,rfl,by decide,hf,aN _ _ (rfl,rfl,by rw[one];lia,by show 2<=sizeLine;decide,λl nl=>?_)))
  exact q l _ _ _ (g1.trans (ao nl _)) au (wL.nm w1 w12) (nmA f1 41) Dq
 ·sleep 155
  sleep 33
  sleep 143
 ·sleep 155
  sleep 33
  sleep 143
theorem Go {dV:Value} (F:bK K "_law_runs" "_law_runs" Eg dV f fd) (DZ43:603 1 "_law_cell_at" ["_law_script","_law_k"] [] (nC K)):604 2 f fd ["_law_script","_law_at","_law_many_here","_law_far"] (xu K):=by
 have sc:aJ ["_law_script","_law_at","_law_many_here","_law_far","_law_runs_here","_law_i","_law_more","_law_begin"] ["_law_script","_law_at","_law_many_here","_law_far"] (aB Eg):=dS 95
 sleep 86
 refine ij h λa ns at_ m _hi=>?_
 refine fD _hi λf _hj=>?_
 refine gY _hj λ_r1 hS h0 h1 m0 _hk=>?_
 refine i3 _hk λm4 hf q=>?_
 sleep 10;exists _,(af (cX 4 sc 125) (af (605 (610 268) 323 (af (cX 6 sc (cC DZ43 hr (108<*>((614 (614 116 547) ak)<*>ae)))) (af (cX 7 sc (aw aY (620 (cC DZ43 hr (108<*>((614 116 547)<*>ae))) ak) 127)) (ar (bQ (608 134 ((@bM _ _ _ _ _ (365<*>((614 365 (aw aY (614 ak (620 254 ak)) 127))<*>((620 (aw bv 254 ak) ak)<*>ae))))<*>ae))))))) (ar (aD 134))));try dsimp only[cxK]
 sleep 9;sleep 0;sleep 32
 sleep 28;refine (m,rfl,by lia,by lia,bz (λi σ H'=>∃(o5 o6 o7:Option V) (R:List Rn),σ= [LN a,some (.int at_),some 311,some (.int f),LN l,o5,o6,o7]/\aC H H'/\bn H' l 325/\R.length=i/\(∀r∈R,AR f r)) (aM none none none [] (rfl,g0,([],e0,eJ.nil),rfl,λr hr=>by cases hr)) ?_ ?_)
 ·intro i σ H1 hi h_;refine ij h_ λo5 o6 o7 R _hi=>?_
  refine fO _hi λ_r1 g1 _r2 _hj=>?_
  refine cB _hj λln ok=>?_
  sleep 14;obtain ⟨bs,eb,rb⟩:=_r2;have hS1:=g1.seq hS;refine (112 49,cg a ns _ (rfl,hS1,by lia,λc=>(112 49,cg a ns _ (rfl,hS1,by lia,λd=>?_))))
  have md:=fm (a:=d) (n:=24) 49
  have mc:=fm (a:=c) (n:=6) 49
  have mb:=fm (a:=c.fdiv 6) (n:=2) 49
  have sz:(bs.map V.ref).length<sizeLine:=by rw[IN,rb.1,IN];lia
  refine ((by show (24:Int)≠0;decide),112 171,.inl (rfl,_,aF.of eb),(by show (6:Int)≠0;decide),112 171,129,191,by show 3<=sizeLine;decide,λt nt=>(cg l _ _ (rfl,rfl,ao nt _ _ _ eb,sz,?_)))
  have gt:=ao nt (.tup [.int (d.fmod 24*f),.int (d.fmod 24*f+(1+c.fmod 6)*f),.int ((c.fdiv 6).fmod 2)]);refine (aM _ _ _ (R++ [(d.fmod 24*f,d.fmod 24*f+(1+c.fmod 6)*f,(c.fdiv 6).fmod 2)]) (rfl,eZ (g1.trans gt) nl _,?_,by rw[IU];simp;lia,λr hr=>?_))
  ·rw[JJ];exact gU (gt _ _ eb) 527 au
  ·rcases JA.mp hr with h|h
   ·exact ok r h
   ·rw[J4.mp h];exact Cg hf md.1 md.2 mc.1 mc.2 mb.1 mb.2
 ·sleep 205;refine ij h_ λo5 o6 o7 R _hi=>?_
  refine fO _hi λ_r1 g1 hR _hj=>?_
  refine cB _hj λln ok=>?_
  sleep 14;exact (q l R H1 g1 nl hR 41 ok)
theorem Gp {dV:Value} (F:bK K "_law_heats" "_law_heats" Eh dV f fd) (DZ46:603 1 "_law_meet" ["_law_one","_law_other"] [] lK):604 2 f fd ["_law_runs_here","_law_cells","_law_by"] ue:=by
 have sc:aJ ["_law_runs_here","_law_cells","_law_by","_law_heats_here","_law_i","_law_j"] ["_law_runs_here","_law_cells","_law_by"] (aB Eh):=dS 95
 sleep 86
 refine ij h λlr lc R cs _hi=>?_
 refine fD _hi λb _hj=>?_
 refine gY _hj λ_r1 hR ec lcs r4 _hk=>?_
 refine cB _hk λhb q=>?_
 sleep 10;exists _,(af (gR (own:= "_law_cell") (ys:= ["_law_by"]) (js:= [2]) sc.nd (i:=3) rfl rfl rfl 106 (aQ 116) (λC fp s H=>(av 366 (@bq _ _ _ _ (ak<*>(ak<*>((aw wG ak ak)<*>ae)))) (620 (aw bv 108 116) ak) 32))) (af (605 197 324 (ar (605 (610 230) 323 (ar (aV (eY (cC DZ46 hr (308<*>(307<*>ae)))) (ar (kK (611 127 154 32) (uJ 127 134 set_list))) aH))))) (af (605 197 324 (ar (605 (610 230) 323 (ar (aV (PW.pt (eQ (eY (cC DZ46 hr (308<*>(307<*>ae)))) (dM (ay fW (611 127 134 32) (611 127 154 32) 136)))) (ar (aD (c8 (own:= "_law_run") (ys:= []) (js:= []) rfl 107 357 (λC fp s H=>ak)))) aH))))) 286)))
 try dsimp only[cxK]
 sleep 69;sleep 0;have lm:(cs.map V.int).length=R.length:=by rw[IN,lcs]
 refine (lc,rfl,(_,aF.of ec),cz 260 146 (λi=>hF (((cs.getD i 0).fdiv b).fmod 3)) (aF.of ec) 41 130 525 λlh H1 nlh g1 hh=>?_)
 ·rw[IQ] at hy;obtain ⟨v,hv,rfl⟩:=IW.mp hy;rw[aL hv] at hQ;have m3:=fm (a:=v.fdiv b) (n:=3) 49
  refine ((by decide,by decide),by show 3<=sizeLine;decide,λp np=>(?_,178,aM p _ _ _ (rfl,rfl,aF.of au,Fv m3.1 m3.2,hQ _ _ 393 rfl)))
  rcases hb with rfl|rfl
  ·exact 129
  ·exact 129
 obtain ⟨vs,ev,rv⟩:=hh;rw[lm] at rv;rw[rv.val] at ev;obtain ⟨hs0,eh0⟩:∃hs0:List Int,hs0=(JK R.length).map λi=>hF (((cs.getD i 0).fdiv b).fmod 3):=⟨_,rfl⟩
 rw[<-eh0] at ev;have l0:hs0.length=R.length:=by rw[eh0,IN,JP]
 have b0:∀h∈hs0,0<=h/\h<=1000000000:=λh hh=>by
  rw[eh0] at hh;obtain ⟨i,_,rfl⟩:=J2.mp hh;exact Fw _
 clear rv eh0;sleep 79
 have run:∀H':Hp,aC H H'->∀i,i<R.length->∃t,gD 217 131=some 214/\H' t=some (.tup 485):=λH' g i hi=>by
  sleep 39
  sleep 135
 try dsimp only[bN,cq]
 refine cut (λσ H'=>∃(o4 o5:Option V) (hs:List Int),σ= [LN lr,LN lc,some (.int b),LN lh,o4,o5]/\aC H H'/\H' lh=some 470/\hs.length=R.length/\∀h∈hs,0<=h/\h<=1000000000) 206 ?_
 ·refine (aN lr _ (rfl,.inl 511,ν,by lia,by lia,bz (λi σ H'=>∃(o4 o5:Option V) (hs:List Int),σ= [LN lr,LN lc,some (.int b),LN lh,o4,o5]/\aC H H'/\H' lh=some 470/\hs.length=R.length/\∀h∈hs,0<=h/\h<=1000000000) (613 hs0 (rfl,g1,ev,l0,b0)) ?_ ?_))
  ·intro i σ H2 hi h_;refine j8 h_ λo4 o5 hs _hi=>?_
   refine fO _hi λ_r1 g2 eh _hj=>?_
   refine cB _hj λlh' bh=>?_
   sleep 14;rw[IX,lr'] at hi;refine (ν,by lia,by lia,bz (λj σ H'=>∃(o5:Option V) (hs:List Int),σ= [LN lr,LN lc,some (.int b),LN lh,some 381,o5]/\aC H H'/\H' lh=some 470/\hs.length=R.length/\∀h∈hs,0<=h/\h<=1000000000) (aN o5 hs (rfl,g2,eh,lh',bh)) ?_ ?_)
   ·rintro j σ H3 hj ⟨o5,hs,rfl,g3,eh3,lh3,bh3⟩;have jl:j<R.length:=by lia
    obtain ⟨ti,ai,eti⟩:=run H3 g3 i hi;obtain ⟨tj,aj,etj⟩:=run H3 g3 j jl;refine (aM lr _ _ _ (rfl,rfl,aF.of (g3 _ _ er),ai,aM lr _ _ _ (rfl,rfl,aF.of (g3 _ _ er),aj,aM ti tj _ _ (rfl,eti,etj,mB.i ?_))));cases cM (R.getD i (0,0,0)) (R.getD j (0,0,0)) with
    |false=>exact gI (aN _ hs ⟨rfl,g3,eh3,lh3,bh3⟩)
    |true=>
     have hv:=I0 (show j<hs.length by lia)
     refine eI (aM lh _ _ _ (rfl,rfl,aF.of eh3,(cT (bW hv)),aM lh _ _ i (rfl,rfl,eh3,?_,aN _ (hs.set i hs[j]) (rfl,eZ g3 nlh _,?_,by rw[List.length_set];exact lh3,λh hh=>?_))))
     ·rw[Jl,IN];exact wP 41
     ·rw[au,List.map_set]
     ·rcases List.mem_or_eq_of_mem_set hh with z|z
      ·exact bh3 h z
      ·rw[z];exact bh3 _ (J3 _)
   ·rintro σ H3 ⟨o5,hs,rfl,g3,eh3,lh3,bh3⟩;exact (cg _ _ hs (rfl,g3,eh3,lh3,bh3))
  ·intro σ H2 h_;refine j8 h_ λo4 o5 hs _hi=>?_
   refine fO _hi λ_r1 g2 eh _hj=>?_
   refine cB _hj λlh' bh=>?_
   sleep 14;exact hN _ _ (cg _ _ hs (rfl,g2,eh,lh',bh))
 clear ev l0 b0 g1;intro σ H2 h_;refine j8 h_ λo4 o5 hs _hi=>?_
 refine fO _hi λ_r1 g2 eh _hj=>?_
 refine cB _hj λlh' bh=>?_
 sleep 14;refine (aN lr _ (rfl,.inl (aF.of 367),ν,by lia,by lia,bz (λi σ H'=>H2=H'/\(∃(o4 o5:Option V),σ= [LN lr,LN lc,some (.int b),LN lh,o4,o5])/\∀k j,k<i->j<k->cM (R.getD k 111) 455=true->hs.getD k 0=hs.getD j 0) (rfl,(aN _ _ rfl),λk j hk=>absurd hk (K8 _)) ?_ ?_))
 ·rintro i σ H3 hi ⟨rfl,⟨o4,o5,rfl⟩,hall⟩;rw[IX,lr'] at hi;refine (ν,by lia,by lia,bz (λj σ H'=>H2=H'/\(∃(o5:Option V),σ= [LN lr,LN lc,some (.int b),LN lh,some 381,o5])/\∀k,k<j->cM 149 (R.getD k 111)=true->hs.getD i 0=hs.getD k 0) (rfl,⟨ν⟩,λk hk=>absurd hk (K8 _)) ?_ ?_)
  ·rintro j σ H3 hj ⟨rfl,⟨o5,rfl⟩,hin⟩;have jl:j<R.length:=by lia
   sleep 235;obtain ⟨tj,aj,etj⟩:=run H2 g2 j jl;have hv:=I0 (show j<hs.length by lia)
   have hw:=I0 (show i<hs.length by lia)
   have next:(cM (R.getD i (0,0,0)) (R.getD j (0,0,0))=true->hs.getD i 0=hs.getD j 0)->∀k,k<j+1->cM (R.getD i (0,0,0)) (R.getD k (0,0,0))=true->hs.getD i 0=hs.getD k 0:=λh k hk hm=>by
    by_cases c:k=j
    ·rw[c] at hm⊢;exact h hm
    ·exact hin k 41 hm
   refine (aM lr _ _ _ (rfl,rfl,aF.of 367,ai,aM lr _ _ _ 463));cases hm:cM (R.getD i (0,0,0)) (R.getD j (0,0,0)) with
   |false=>exact gI ⟨rfl,⟨_,rfl⟩,next λh=>by rw[hm] at h;cases h⟩
   |true=>
    refine eI (aM lh _ _ _ (rfl,rfl,aF.of eh,(cT (bW hw)),aM lh _ _ _ (rfl,rfl,aF.of eh,(cT (bW hv)),rfl,BP 176 176)))
    ·refine (lr,rfl,(_,aF.of 367),cz 260 146 (λ_=>(0:Int)) (aF.of 367) 41 130 (λk y hy H4 g4 Q' hQ=>hQ _ _ 184 rfl) λlz H4 nlz g4 hz=>?_)
     obtain ⟨vs,ez,rz⟩:=hz;rw[lr'] at rz;rw[rz.val] at ez;exact q lz _ H4 (g2.trans g4) ez gL.zero
    ·exact (rfl,⟨ν⟩,next λ_=>by rw[aL hw,aL hv];exact c)
  ·rintro σ H3 ⟨rfl,⟨o5,rfl⟩,hin⟩;refine (rfl,(aN _ _ rfl),λk j hk hj hm=>?_)
   by_cases c:k=i
   ·rw[c] at hm hj⊢;exact hin j 41 hm
   ·exact hall k j 41 hj hm
 ·rintro σ H3 ⟨rfl,⟨o4,o5,rfl⟩,hall⟩;rw[IX,lr'] at hall;exact (q lh hs H2 g2 eh (gL.of lh' bh hall))
theorem Gq {dV:Value} (F:bK K "_law_uses" "_law_uses" Ei dV f fd):604 1 f fd ["_law_cell","_law_names_here","_law_heats_here"] xv:=by
 have sc:aJ ["_law_cell","_law_names_here","_law_heats_here","_law_uses_here","_law_k","_law_many_here"] ["_law_cell","_law_names_here","_law_heats_here"] (aB Ei):=dS 95
 sleep 86
 refine fN h λc ln lh n0 n1 h0 _hi=>?_
 refine fD _hi λh1 _hj=>?_
 refine fO _hj λ_r1 en eh _hk=>?_
 refine cB _hk λne q=>?_
 sleep 10;exists _,(af 426 (af (605 (610 (ak<*>ae)) 324 (@af _ _ _ _ _ (@dO _ _ 5 _ _ _ _ sc.nd rfl (Or.inl rfl) (@av _ _ _ _ _ _ _ aE (@bq _ _ _ _ ((620 108 ak)<*>(316<*>ae))) 134 32) rfl 187) (ar (aV (ay gC 154 ak 136) (ar (bQ (608 127 ((@bM _ _ _ _ _ ((611 116 134 32)<*>(154<*>((611 123 134 32)<*>ae))))<*>ae)))) aH)))) (af (aV (ay fV 316 ak 136) (ar (aD (iL rfl rfl B.Kw rfl B.La boot_list PyProof.Rows.Boot.«reversed» 127))) aH) 286)))
 try dsimp only[cxK]
 sleep 69;sleep 0;have m0:=fm (a:=c) (n:=3) 49
 have m1:=fm (a:=c.fdiv 3) (n:=3) 49
 refine (by show 0<=sizeLine;decide,λu nu=>?_)
 have g0:=ao nu 132;have hu0:eK n4 (λa=>a≠u/\H a=none) (aO H u 132) u []:=eK.new
 generalize aO H u 132=H0 at g0 hu0⊢;refine (ν,by decide,by decide,bz (λi σ H'=>∃(o4 o5:Option V) (us:List Us),σ= [some 380,LN ln,LN lh,LN u,o4,o5]/\aC H H'/\eK n4 (λa=>a≠u/\H a=none) H' u us/\zo n0 n1 h0 h1 us/\us.length<=i/\(i<=1->∀x∈us,x.1=n0)) (613 [] (rfl,g0,hu0,(by simp,by simp,λu hu=>by cases hu),IT _,λ_ x hx=>by cases hx)) ?_ ?_)
 ·intro i σ H1 hi h_;refine j8 h_ λo4 o5 us _hi=>?_
  refine gY _hi λ_r1 g1 hu ub ul ua=>?_
  sleep 131;replace hi:i<2:=hi;have hb_:∃(x:Int) (nm:Str) (ht:Int),gD [V.int (c.fmod 3),V.int 520] 131=some (.int x)/\gD [V.str n0,V.str n1] 131=some (.str nm)/\gD [V.int h0,V.int h1] 131=some (.int ht)/\x<=2/\(0<x->zo n0 n1 h0 h1 (us++ [(nm,x,ht)])/\(i+1<=1->nm=n0)):=by
   have ap:∀(nm:Str) (x ht:Int),((nm=n0/\ht=h0)∨(nm=n1/\ht=h1))->(∀z∈us,z.1≠nm)->us.length<=1->0<x->x<=2->zo n0 n1 h0 h1 (us++ [(nm,x,ht)]):=λnm x ht e nd l1 x0 x2=>by
    refine (by rw[IU];simp;lia,?_,λz hz=>?_)
    ·rw[JJ];refine KP.mpr (ub.nd,by simp,λa ha b hb=>?_)
     obtain ⟨z,hz,rfl⟩:=J2.mp ha;simp at hb;rw[hb];exact nd z hz
    ·rcases JA.mp hz with w|w
     ·exact ub.use z w
     ·rw[J4.mp w];exact (e,by show 1<=x;lia,x2)
   obtain rfl|rfl:i=0∨i=1:=by lia
   ·refine (cg (c.fmod 3) n0 h0 (rfl,rfl,rfl,by lia,λx0=>(ap n0 _ h0 (.inl 305) (λz hz=>?_) 41 x0 41,λ_=>rfl)))
    rw[List.length_eq_zero_iff.mp (by lia:us.length=0)] at hz
    cases hz
   ·exact (cg 520 n1 h1 (rfl,rfl,rfl,by lia,λx0=>(ap n1 _ h1 (.inr 305) (λz hz=>by rw[ua 41 z hz];exact ne) 41 x0 41,λh=>absurd h 41)))
  refine j8 hb_ λx nm ht _hi=>?_
  refine fO _hi λhx hn hh _hj=>?_
  refine cB _hj λhx2 use1=>?_
  obtain ⟨vs,eu,ru⟩:=id hu;have sz:vs.length<sizeLine:=by have:=ub.len;rw[ru.1];lia
  refine (178,129,178,by show 2<=sizeLine;decide,λp np=>(aM p _ _ _ (rfl,rfl,aF.of au,hx,?_)))
  have gp:=ao np (.lst [.int (c.fmod 3),.int 520]);generalize aO H1 p (.lst [.int (c.fmod 3),.int 520])=H2 at gp⊢;refine (d2 (λc0=>?_) (λc0=>(cg _ _ us (rfl,g1.trans gp,hu.same gp,ub,by lia,λh=>ua 41))))
  have g2:=g1.trans gp;refine (.inl (rfl,_,aF.of (gp _ _ eu)),aM ln _ _ _ (rfl,rfl,aF.of (626 en),hn,aM lh _ _ _ (rfl,rfl,aF.of (626 eh),hh,by show 3<=sizeLine;decide,λa na=>(cg u _ _ (rfl,rfl,ao na _ _ _ (gp _ _ eu),sz,?_)))))
  have ga:=ao na (.tup [.str nm,.int x,.int ht]);obtain ⟨u1,u2⟩:=use1 c0;refine (cg _ _ (us++ [(nm,x,ht)]) (rfl,eZ (g2.trans ga) nu _,?_,u1,by rw[IU];simp;lia,λh z hz=>?_))
  ·refine eK.put 541 (ru.imp λ_ _ q=>mG q (gp.trans ga)) (a,rfl,((λz=>by have:=gp _ _ eu;rw[z,this] at na;cases na),g2.free na),?_)
   rw[au]
   rfl
  ·rcases JA.mp hz with w|w
   ·exact ua 41 z w
   ·rw[J4.mp w];exact u2 h
 ·sleep 205;refine j8 h_ λo4 o5 us _hi=>?_
  refine gY _hi λ_r1 g1 hu ub _ _=>?_
  sleep 131;refine (129,191,rfl,d2 (λ_=>?_) (λ_=>(q u us H1 g1 nu (hu.mono λa h=>h.2) ub)))
  obtain ⟨vs,eu,ru⟩:=hu;refine (aN u _ (rfl,aF.of eu,λu' nu2=>?_))
  have g3:=ao nu2 (.lst vs.reverse);exact q u' us.reverse _ (g1.trans g3) (g1.free nu2) (_,au,ru.rev.imp λ_ _ q=>Aw (mG q g3) λa h=>h.2) ub.rev
theorem Gr {dV:Value} (F:bK K "_law_task" "_law_task" Ej dV f fd) (DZ50:603 1 "_law_uses" ["_law_cell","_law_names_here","_law_heats_here"] [] xv):604 2 f fd ["_law_run","_law_cell","_law_more","_law_names_here","_law_heats_here"] xx:=by
 have sc:aJ ["_law_run","_law_cell","_law_more","_law_names_here","_law_heats_here","_law_long","_law_mine","_law_least_here","_law_beside","_law_other"] ["_law_run","_law_cell","_law_more","_law_names_here","_law_heats_here"] (aB Ej):=dS 95
 sleep 86
 refine zu h λt c mo ln lh r f n0 n1 _hi=>?_
 refine iZ _hi λh0 h1 _hj=>?_
 refine lZ _hj λ_r1 et hf rb en eh ne b0 _hk=>?_
 refine cB _hk λb1 q=>?_
 sleep 10;exists _,(af (cX 5 sc (aw hV 218 218)) (af (cX 6 sc (@bM _ _ _ _ _ ((619 (ak<*>((aw hV 154 (aw aY (620 123 ak) (aw bv 154 ak)))<*>ae)))<*>((614 154 (aw aY (620 453 ak) 154))<*>((cC DZ50 hr (116<*>(127<*>230)))<*>ae))))) (af (cX 7 sc (614 ak (620 453 547))) (af (cX 8 sc (cC DZ50 hr (453<*>(127<*>((@bq _ _ _ _ ((aw aY (620 453 ak) ak)<*>((aw aY (620 (aw bv 116 ak) ak) ak)<*>ae)))<*>ae))))) (af (cX 9 sc (@bM _ _ _ _ _ (365<*>((614 365 (620 453 547))<*>382)))) (af (aV (ay fV 218 ak 136) (ar (aD (@bq _ _ _ _ (464<*>(254<*>ae))))) aH) (af (aV (ay fV (620 453 ak) ak 136) (ar (aD (@bq _ _ _ _ (254<*>(464<*>ae))))) aH) (ar (aD (@bq _ _ _ _ (254<*>ae)))))))))))
 try dsimp only[cxK]
 sleep 97;sleep 0;obtain ⟨l1,l2⟩:1<=r.2.1-r.1/\r.2.1-r.1<=60000114:=by
  have:=rb.2.2.1;have:=rb.2.2.2.1;rcases hf with rfl|rfl<;>lia
 have r2:=rb.2.2.2.2;have m3:=fm (a:=mo) (n:=3) 49
 have m4:=fm (a:=mo.fdiv 3) (n:=4) 49
 have mh:0<=(r.2.1-r.1).fdiv 2/\(r.2.1-r.1).fdiv 2<=r.2.1-r.1:=by
  rw[Kc _ 49]
  lia
 have x0:0<=mo.fmod 3*(r.2.1-r.1).fdiv 2:=Int.mul_nonneg m3.1 mh.1;have y0:0<=(mo.fdiv 3).fmod 4*(r.2.1-r.1):=Int.mul_nonneg m4.1 41
 have y1:(mo.fdiv 3).fmod 4*593<=3*60000114:=KQ (Int.mul_le_mul_of_nonneg_right (show (mo.fdiv 3).fmod 4<=3 by lia) 41) (Int.mul_le_mul_of_nonneg_left l2 49)
 have ml:=fm (a:=mo.fdiv 12) (n:=2*593) 41
 have mm:=fm (a:=mo.fdiv 11) (n:=3*593) 41
 have p3:=fm (a:=mo.fdiv 5) (n:=3) 49
 have p2:=fm (a:=c.fdiv 5) (n:=2) 49
 refine (606 (rfl,rfl,bH.of et,rfl,aM t _ _ _ 544));refine (178,129,112 171,aN _ _ (rfl,129,250,112 171,gj c ln lh n0 n1 h0 (h1,(rfl,en,eh,ne,λu us H1 g1 nu lu ub=>(by show 3<=sizeLine;decide,λtm ntm=>?_)))))
 have e1:299<=r.2.1-r.1:=by split<;>lia
 have e2:1<=(if r.2.1-r.1-mo.fmod 3*(r.2.1-r.1).fdiv 2>1 then r.2.1-r.1-mo.fmod 3*(r.2.1-r.1).fdiv 2 else 1):=by split<;>lia
 generalize 299=le at e1 e2 ntm⊢
 generalize (mo.fdiv 3).fmod 4*593=mx at y0 y1 ntm⊢;have gm:=ao ntm 343;have etm:aO H1 tm 343 tm=some (.tup [.int le,.int (r.2.1-r.1+mx),.ref u]):=au;have ntm0:=g1.free ntm;have k1:=g1.trans gm;have lu1:=lu.same gm;generalize aO H1 tm 343=H2 at gm etm k1 lu1⊢;clear ntm lu x0;exists 129,112 49,by lia
 refine (129,129,178,112 171,129,191,112 171,by show 2<=sizeLine;decide,λlb nlb=>?_)
 have gb:=ao nlb 247;have elb:aO H2 lb 247 lb=some (.lst [.int ((mo.fdiv 5).fmod 3*90),.int ((c.fdiv 5).fmod 2*180)]):=au;generalize aO H2 lb 247=H3 at gb elb⊢;have k3:=k1.trans gb;refine (gj _ ln lb n0 n1 _ (_,(rfl,k3 _ _ en,elb,ne,λu2 us2 H4 g4 nu2 lu2 ub2=>?_)))
 have k4:=k3.trans g4;refine (129,112 49,by lia,by show 3<=sizeLine;decide,λto nto=>?_)
 generalize (mo.fdiv 12).fmod (2*593)=le2 at ml nto⊢;generalize (mo.fdiv 11).fmod (3*593)=mx2 at mm nto⊢;have go:=ao nto 318;have eto:aO H4 to 318 to=some (.tup [.int (1+le2),.int (1+le2+mx2),.ref u2]):=au;have nto0:=k4.free nto;generalize aO H4 to 318=H5 at go eto⊢;have k5:=k4.trans go;have way1:kB 362 H5 (.ref tm) (le,r.2.1-r.1+mx,us):=(aN tm u (rfl,ntm0,nu,((gb.trans g4).trans go) _ _ etm,lu1.same ((gb.trans g4).trans go)))
 have way2:kB 362 H5 (.ref to) (1+le2,1+le2+mx2,us2):=(aN to u2 (rfl,nto0,k3.free nu2,eto,(lu2.same go).mono λa h=>k3.free h))
 have wb1:EK n0 n1 (le,r.2.1-r.1+mx,us):=(e2,by show le<=r.2.1-r.1+mx;lia,by show r.2.1-r.1+mx<=900000000;lia,aN h0 h1 (b0,b1,ub))
 have wb2:EK n0 n1 (1+le2,1+le2+mx2,us2):=(by show 1<=1+le2;lia,by show 1+le2<=1+le2+mx2;lia,by show 1+le2+mx2<=900000000;lia,aN _ _ ((by lia,by lia),(by lia,by lia),ub2))
 have mine:le<=r.2.1-r.1/\r.2.1-r.1<=r.2.1-r.1+mx/\zo n0 n1 h0 h1 us:=(e1,by lia,ub)
 have fin2:∀(p:Addr) (x y:V) (w w':Wy),H5 p=none->kB 362 H5 x w->kB 362 H5 y w'->fG 362 (aO H5 p (.lst [x,y])) 148 [w,w']:=λp x y w w' np h1 h2=>(p,rfl,k5.free np,_,au,(A2.one (mG h1 393)).append (A2.one (mG h2 393)))
 refine (606 (rfl,rfl,bH.of (k5 _ _ et),rfl,rfl,GW 322 322))
 ·refine (by show 2<=sizeLine;decide,λp np=>q _ _ _ (k5.trans 393) (fin2 p _ _ _ _ np way2 way1) (by simp,by simp,by rw[c1];simp,λw hw=>?_,_,by rw[c1];rfl,mine))
  rcases IZ.mp hw with z|z
  ·rw[z];exact wb2
  ·rw[J4.mp z];exact wb1
 have c0:r.2.2=0:=by lia
 refine (129,191,rfl,GW 258 258)
 ·refine (by show 2<=sizeLine;decide,λp np=>q _ _ _ (k5.trans 393) (fin2 p _ _ _ _ np way1 way2) 422)
  rcases IZ.mp hw with z|z
  ·rw[z];exact wb1
  ·rw[J4.mp z];exact wb2
 ·refine (by show 1<=sizeLine;decide,λp np=>q _ _ _ (k5.trans 393) (p,rfl,k5.free np,_,au,A2.one (mG way1 393)) 422)
  rw[J4.mp hw];exact wb1
theorem Gs {dV:Value} (F:bK K "_law_used" "_law_used" Ek dV f fd):604 1 f fd ["_law_runs_here","_law_tasks","_law_name","_law_t"] xz:=by
 have sc:aJ ["_law_runs_here","_law_tasks","_law_name","_law_t","_law_found","_law_i","_law_tool","_law_many_here","_law_heat"] ["_law_runs_here","_law_tasks","_law_name","_law_t"] (aB Ek):=dS 95
 sleep 86
 refine fN h λrl tl z t T R _hi=>?_
 refine gY _hi λ_r1 _r2 _r3 pok r24 _hj=>?_
 refine cB _hj λnd q=>?_
 sleep 52;obtain ⟨vs,el,rT⟩:=_r2;obtain ⟨bs,er,rR⟩:=_r3;exists _,(af (cX 4 sc ak) (af (605 197 323 (ar (605 (aQ (av aG (611 (611 116 154 32) 560 32) ak 32)) (dN rfl (aP (da 6 sc) (aP (da 7 sc) (aP (da 8 sc) cS)))) (ar (aV (PW.pt (eQ (ay fV 254 123 136) (dM (dD dJ fA 560 127 560)))) (ar (cX 4 sc (614 134 365))) aH))))) (ar (aD 134))))
 try dsimp only[cxK]
 sleep 9;sleep 0;sleep 45
 refine (aN rl _ (rfl,.inl (aF.of er),ν,by lia,by lia,bz (λi σ H'=>∃o5 o6 o7 o8:Option V,σ= [LN rl,LN tl,some 379,some (.int t),some (.int (cA T R z t i)),o5,o6,o7,o8]/\H=H') (aM none none none none 305) ?_ ?_))
 ·rintro i σ H1 hi ⟨o5,o6,o7,o8,rfl,rfl⟩;rw[IX,lr] at hi;refine fN (vH rT rR pok hi) λwl b ts v r j _hi=>?_
  refine lZ _hi λhw ew hv rw' hb eb hr' hj hgd=>?_
  have us:cA T R z t 233=cA T R z t i+(if cr r t=true then bJ 166 z else 0):=by
   show cA T R z t i+(if cr 149 t=true then bJ 166 z else 0)=_
   rw[hgd]
  have ndw:((cn T R i).2.2.map 199).Nodup:=by
   have iT:i<T.length:=by rw[<-pok.len];exact hi
   have hT:=I0 iT;have pk:=pok.way i _ _ hr' hT;refine nd _ (J3 iT) _ ?_;unfold cn;rw[aL hT,aL hr',hj,IX,aL (I0 (show j<(T[i]).length by lia))]
   exact J3 _
  have br:gD 217 131=some (.ref b):=cT (bW hb);generalize cn T R i=wy at rw' us ndw;refine iZ rw' λtw uw _hi=>?_
  refine fO _hi λ_r1 _ _ _hj=>?_
  refine cB _hj λetw _hk=>?_
  refine fD _hk λus' _hl=>?_
  refine cB _hl λeu ru=>?_
  clear rw' _hi _hj _hk _hl;subst _r1;have gz:cr r t=(decide (r.1<=t)&&decide (t<r.2.1)):=rfl;refine (aM tl _ _ _ ⟨rfl,rfl,aF.of el,(cT hw),aM rl _ _ _ ⟨rfl,rfl,aF.of er,br,aM b _ _ _ ⟨rfl,rfl,bH.of eb,rfl,aM wl _ _ _ ⟨rfl,rfl,aF.of ew,596,aM tw _ _ _ ⟨rfl,rfl,bH.of etw,rfl,uw,rfl,⟨_,aF.of eu⟩,bO (xs:=us') (λk σ H'=>∃o6 o7 o8:Option V,σ= [LN rl,LN tl,some 379,some (.int t),some (.int (cA T R z t i+(if cr r t=true then iP z (wy.2.2.take k) else 0))),some 381,o6,o7,o8]/\H=H') (cg o6 o7 o8 ⟨?_,rfl⟩) (λk σ H' _ h=>by obtain ⟨_,_,_,_,rfl⟩:=h;exact aF.of eu) ?_ ?_⟩⟩⟩⟩⟩)
  ·have:(if cr r t=true then iP z (wy.2.2.take 0) else 0)=0:=by
    rw[List.take_zero]
    split<;>rfl
   rw[this,Int.add_zero]
   rfl
  ·rintro k y σ H2 hy ⟨o6,o7,o8,rfl,rfl⟩;sleep 224;have st:=yZ (z:=z) he;refine (aN a _ (rfl,bH.of ea,rfl,aN _ _ 190));have keep:(if cr r t=true then (if e.1=z then e.2.1 else 0) else 0)=0->(if cr r t=true then iP z (wy.2.2.take 314) else 0)=(if cr r t=true then iP z (wy.2.2.take k) else 0):=λh=>by
    rw[st]
    split
    ·rename_i gg;rw[if_pos gg] at h;rw[h,Int.add_zero]
    ·rfl
   refine (rfl,d2 (λc=>(aM rl _ _ _ (rfl,rfl,aF.of er,br,aM b _ _ _ (rfl,rfl,bH.of eb,rfl,d2 (λc1=>(aM rl _ _ _ (rfl,rfl,aF.of er,br,aM b _ _ _ (rfl,rfl,bH.of eb,rfl,d2 258 258)))) 322)))) 176)
   ·have c':e.1=z:=by injection c
    have gt:cr r t=true:=by rw[gz,decide_eq_true c1,decide_eq_true c2];rfl
    rw[if_pos c'] at st;refine (cg (some (.str e.1)) (some (.int e.2.1)) (some (.int e.2.2)) (?_,rfl));rw[gt,if_pos rfl,if_pos rfl,st,<-Int.add_assoc]
    rfl
   ·exact (618 (by rw[keep (by rw[gz,decide_eq_true c1,decide_eq_false c2];rfl)];rfl,rfl))
   ·exact ((618 (by rw[keep (by rw[gz,decide_eq_false c1];rfl)];rfl,rfl)))
   ·have hz:(if e.1=z then e.2.1 else 0)=0:=if_neg λc'=>c (by rw[c'])
    exact (618 (by rw[keep (by rw[hz,ite_self])];rfl,rfl))
  ·rintro σ H2 ⟨o6,o7,o8,rfl,rfl⟩;rw[ru.1,JX,AC ndw];exact (aM _ _ _ _ (by rw[us],rfl))
 ·rintro σ H1 ⟨o5,o6,o7,o8,rfl,rfl⟩;rw[IX,lr];exact q
theorem Gu {dV:Value} (F:bK K "_law_tools" "_law_tools" El dV f fd) (DZ52:603 1 "_law_used" ["_law_runs_here","_law_tasks","_law_name","_law_t"] [] xz):604 2 f fd ["_law_runs_here","_law_tasks","_law_names_here","_law_cell"] uf:=by
 have sc:aJ ["_law_runs_here","_law_tasks","_law_names_here","_law_cell","_law_tools_here","_law_k","_law_number","_law_i","_law_way","_law_tool","_law_many_here","_law_heat"] ["_law_runs_here","_law_tasks","_law_names_here","_law_cell"] (aB El):=dS 95
 sleep 86
 refine fN h λrl tl ln c T R _hi=>?_
 refine iZ _hi λn0 n1 _hj=>?_
 refine lZ _hj λ_r1 hT hR en ne pok r4 wok q=>?_
 sleep 52;exists _,(af (cX 4 sc zS) (af (605 (610 (ak<*>ae)) 323 (af (cX 6 sc ak) (af (605 197 (da 7 sc) (af (cX 6 sc (619 (254<*>((cC DZ52 hr (108<*>(116<*>((611 123 154 32)<*>((av aG (611 108 365 32) ak 32)<*>ae)))))<*>ae)))) (ar (605 (aQ (611 116 365 32)) (da 8 sc) (ar (605 (aQ (av aG (pv 8) ak 32)) (dN rfl (aP (da 9 sc) (aP (da 10 sc) (aP (da 11 sc) cS)))) (ar (cX 6 sc (619 (254<*>((pv 10)<*>ae))))))))))) (ar (wE 505 134 (611 123 154 32) (aA (x6 rfl) rfl B.Ld boot_min (ak<*>((614 254 (620 (aw bv 127 (614 154 ak)) ak))<*>ae))) rfl))))) (ar (aD 134))))
 try dsimp only[cxK]
 sleep 9;sleep 0;refine λtd ntd=>?_
 have g0:=ao ntd (.dK []);have e0:aO H td (.dK []) td=some (.dK (bU [])):=au;generalize aO H td (.dK [])=H0 at g0 e0⊢;have ndw:∀ws∈T,∀w∈ws,(w.2.2.map 199).Nodup:=λws hws w hw=>by
  refine fO ((wok ws hws).2.2 w hw) λ_ _ _ _hi=>?_
  refine iZ _hi λh0 h1 _hj=>?_
  refine i3 _hj λ_ _ us=>?_
  exact us.nd
 have m2:∀ws∈T,∀w∈ws,∀u∈w.2.2,u.2.1<=2:=λws hws w hw u hu=>by
  refine fO ((wok ws hws).2.2 w hw) λ_ _ _ _hi=>?_
  refine iZ _hi λh0 h1 _hj=>?_
  refine i3 _hj λ_ _ us=>?_
  exact (us.use u hu).2.2
 have u8:∀z t,cA T R z t R.length<=8:=λz t=>by
  have:=uj (T:=T) (R:=R) (z:=z) (t:=t) (λi il=>by
   have iT:i<T.length:=by rw[<-pok.len];exact il
   have hT:=I0 iT;have hr:=I0 il;have pk:=pok.way i _ _ hr hT;refine AV (n0:=n0) (n1:=n1) ((wok _ (J3 iT)).2.2 _ ?_);unfold cn;rw[aL hT,aL hr,aL (I0 (show (R[i]).2.2.toNat<(T[i]).length by lia))]
   exact J3 _) R.length 203
  lia
 obtain ⟨bs,er,rR⟩:=id hR;obtain ⟨vs,el,rT⟩:=id hT;sleep 45
 have E8:∀z m,Bu T R z R.length m↔(1<=m/\m<=8/\(∀r∈R,cA T R z r.1 R.length<=m)/\∀ws∈T,∀w∈ws,∀u∈w.2.2,u.2.1<=m):=λz m=>by
  have eT:T.take R.length=T:=by rw[pok.len];exact JX
  constructor
  ·intro h;have h3:=h.run;have h4:=h.way;rw[JX] at h3;rw[eT] at h4;exact (h.lo,h.hi,h3,h4)
  ·intro h;exact (h.1,h.2.1,by rw[JX];exact h.2.2.1,by rw[eT];exact h.2.2.2)
 refine (ν,by decide,by decide,bz (λi σ H'=>∃(o5 o6 o7 o8 o9 o10 o11:Option V) (D:Tl),σ= [LN rl,LN tl,LN ln,some 380,LN td,o5,o6,o7,o8,o9,o10,o11]/\aC H H'/\H' td=some 156/\((i=0/\D= [])∨(i=1/\∃m0,D= [338]/\Bu T R n0 R.length m0)∨(i=2/\∃m0 m1,D= [338,(n1,m1)]/\Bu T R n0 R.length m0/\Bu T R n1 R.length m1))) (gj none none none none none none (aN none [] (rfl,g0,e0,.inl 305))) ?_ ?_)
 ·intro i σ H1 hi h_;refine fN h_ λo5 o6 o7 o8 o9 o10 _hi=>?_
  refine iZ _hi λo11 D _hj=>?_
  refine fO _hj λ_r1 g1 eD hD=>?_
  sleep 14;replace hi:i<2:=hi;obtain ⟨nm,hn,fin⟩:∃nm:Str,gD [V.str n0,V.str n1] (0+(i:Int))=some (.str nm)/\∀m,Bu T R nm R.length m->∃D',putK (bU D) (.inr nm) (.int m)=bU D'/\((i+1=0/\D'= [])∨(i+1=1/\∃m0,D'= [(n0,m0)]/\Bu T R n0 R.length m0)∨(i+1=2/\∃m0 m1,D'= [(n0,m0),(n1,m1)]/\Bu T R n0 R.length m0/\Bu T R n1 R.length m1)):=by
   rcases hD with ⟨rfl,rfl⟩|⟨rfl,m0,rfl,h0⟩|⟨rfl,_⟩
   ·exact (n0,rfl,λm hm=>([(n0,m)],rfl,.inr (.inl (rfl,m,rfl,hm))))
   ·exact (n1,rfl,λm hm=>([338,(n1,m)],AT (λe=>ne (by injection e)),.inr (.inr (rfl,aN m0 m (rfl,h0,hm)))))
   ·lia
  have dl:(bU D).length<sizeLine:=by
   rw[pY];rcases hD with ⟨_,rfl⟩|⟨_,m0,rfl,_⟩|⟨rfl,_⟩
   ·simp;lia
   ·simp;lia
   ·lia
  try dsimp only[bN,cq]
  refine eC (λNq=>Nq [some (.ref rl),some 256,some (.ref ln),some 380,some 275,some 381,some (.int 1),o7,o8,o9,o10,o11] H1) (λN hN=>hN) ?_
  try dsimp only[bN,cq]
  refine eC (λNq=>∀(o7 o8 o9 o10 o11:Option V) (m:Int),Bu T R nm R.length m->Nq [some (.ref rl),some 256,some (.ref ln),some 380,some 275,some 381,some 311,o7,o8,o9,o10,o11] H1) 206 ?_
  ·refine (aN rl _ (rfl,.inl 511,ν,by lia,by lia,bz (λk σ H'=>∃(o7 o8 o9 o10 o11:Option V) (m:Int),σ= [LN rl,LN tl,LN ln,some 380,LN td,some 381,some 311,o7,o8,o9,o10,o11]/\H1=H'/\Bu T R nm k m) (gj _ _ _ _ _ 1 (rfl,rfl,(by decide,by decide,λr hr=>by simp at hr,λw hw=>by simp at hw))) ?_ ?_))
   ·intro k σ H2 hk h_;refine fN h_ λo7 o8 o9 o10 o11 m _hi=>?_
    refine i3 _hi λ_r1 _r2 en1=>?_
    sleep 131;subst _r2;rw[IX,lr] at hk;have hr':=I0 hk;obtain ⟨b,hb,eb⟩:=rR.get (show (R.map rk)[k]?=some (rk R[k]) by rw[IQ,hr'];rfl)
    have kT:k<T.length:=by rw[<-pok.len];exact hk
    have hTk:=I0 kT;refine fD (rT.get hTk) λv _hi=>?_
    refine cB _hi λhv _hj=>?_
    refine fD _hj λwl _hk=>?_
    sleep 219
    refine fD _hl λws' _hm=>?_
    refine cB _hm λew rw'=>?_
    sleep 170;have memT:=J3 kT;refine (aM ln _ _ _ (rfl,rfl,aF.of (617 en),hn,aM rl _ _ _ (rfl,rfl,aF.of (617 er),(cT (bW hb)),aM b _ _ _ (rfl,rfl,bH.of (617 eb),rfl,gj rl tl nm _ T R (rfl,hT.same g1,hR.same g1,pok,by lia,ndw,aN _ _ (rfl,?_))))))
    have a1:=rX m (cA T R nm (R[k]).1 R.length);have a2:=xA m (cA T R nm (R[k]).1 R.length);have a3:=AU en1.hi (u8 nm (R[k]).1);generalize (if cA T R nm (R[k]).1 R.length>m then cA T R nm (R[k]).1 R.length else m)=m' at a1 a2 a3⊢
    have m1':1<=m':=by have:=en1.lo;lia
    refine (aM tl _ _ _ ⟨rfl,rfl,aF.of (617 el),(cT hv),wl,rfl,⟨_,aF.of (617 ew)⟩,bO (xs:=ws') (λj σ H'=>∃(o8 o9 o10 o11:Option V) (x:Int),σ= [LN rl,LN tl,LN ln,some 380,LN td,some 381,some (.int x),some (.int (0+(k:Int))),o8,o9,o10,o11]/\H1=H'/\m'<=x/\x<=8/\∀w∈(T[k]).take j,∀u∈w.2.2,u.2.1<=x) (aM _ _ _ _ ⟨m',⟨rfl,rfl,Ju _,a3,λw hw=>by simp at hw⟩⟩) (λj σ H' _ h=>by obtain ⟨_,_,_,_,_,_,rfl,_⟩:=h;exact aF.of (617 ew)) ?_ ?_⟩)
    ·intro j y σ H2 hy h_;refine ij h_ λo8 o9 o10 o11 _hi=>?_
     refine fD _hi λx _hj=>?_
     refine fO _hj λ_r1 _r2 x1 _hk=>?_
     refine cB _hk λx8 xw=>?_
     sleep 46;subst _r2;refine fD (rw'.at_ hy) λw _hi=>?_
     sleep 102
     sleep 159
     sleep 95
     refine cB _hl λetw _hm=>?_
     refine fD _hm λus' _hn=>?_
     refine cB _hn λeu ru=>?_
     clear _hi _hj _hk _hl _hm _hn;subst _r1;have memw:=IR hw;refine (aM tw _ _ _ ⟨rfl,rfl,bH.of (617 etw),rfl,uw,rfl,⟨_,aF.of (617 eu)⟩,bO (xs:=us') (λl σ H'=>∃(o9 o10 o11:Option V) (x':Int),σ= [LN rl,LN tl,LN ln,some 380,LN td,some 381,some (.int x'),some (.int (0+(k:Int))),LN tw,o9,o10,o11]/\H1=H'/\x<=x'/\x'<=8/\∀u∈w.2.2.take l,u.2.1<=x') (aM _ _ _ x ⟨rfl,rfl,Ju _,x8,λw hw=>by simp at hw⟩) (λj σ H' _ h=>by obtain ⟨_,_,_,_,_,rfl,_⟩:=h;exact aF.of (617 eu)) ?_ ?_⟩)
     ·intro l y σ H2 hy h_;refine ij h_ λo9 o10 o11 x' _hi=>?_
      refine fO _hi λ_r1 _r2 x1' _hj=>?_
      refine cB _hj λx8' xw'=>?_
      sleep 14;subst _r2;sleep 224;have e2:=m2 _ memT w memw e (IR he);refine (aN a _ (rfl,bH.of (617 ea),rfl,aN _ _ (rfl,aN _ _ (rfl,aN _ _ (rfl,rfl,aN _ _ (rfl,aM _ _ _ _ (rfl,rfl,KQ x1' (rX _ _),AU x8' 41,λu hu=>?_)))))))
      rw[cL he] at hu;rcases JA.mp hu with z|z
      ·exact KQ (xw' u z) (rX _ _)
      ·rw[J4.mp z];exact xA _ _
     ·intro σ H2 h_;refine ij h_ λo9 o10 o11 x' _hi=>?_
      refine fO _hi λ_r1 _r2 x1' _hj=>?_
      refine cB _hj λx8' xw'=>?_
      sleep 14;subst _r2;rw[ru.1,JX] at xw';refine (aM _ _ _ _ (x',(rfl,rfl,by lia,x8',λw' hw'=>?_)))
      rw[cL hw] at hw';rcases JA.mp hw' with z|z
      ·exact λu hu=>KQ (xw w' z u hu) x1'
      ·rw[J4.mp z];exact xw'
    ·intro σ H2 h_;refine ij h_ λo8 o9 o10 o11 _hi=>?_
     refine fD _hi λx _hj=>?_
     refine fO _hj λ_r1 _r2 x1 _hk=>?_
     refine cB _hk λx8 xw=>?_
     sleep 46;subst _r2;rw[rw'.1,JX] at xw;refine (gj _ _ _ _ _ x (rfl,rfl,(by lia,x8,λr hr=>?_,λws hws=>?_)))
     ·rw[cL hr'] at hr;rcases JA.mp hr with z|z
      ·have:=en1.run r z;lia
      ·rw[J4.mp z];lia
     ·rw[cL hTk] at hws;rcases JA.mp hws with z|z
      ·exact λw hw u hu=>by have:=en1.way ws z w hw u hu;lia
      ·rw[J4.mp z];exact xw
   ·intro σ H2 h_;refine fN h_ λo7 o8 o9 o10 o11 m _hi=>?_
    refine i3 _hi λ_r1 _r2 en1=>?_
    sleep 131;subst _r2;rw[IX,lr] at en1;exact hN _ _ _ _ _ m en1
  intro o7 o8 o9 o10 o11 m en1;have mx:=fm (a:=c.fdiv 601) (n:=2) 49
  refine (315,191,aN _ _ (rfl,aM ln _ _ _ (rfl,rfl,aF.of (617 en),hn,aN td _ (rfl,sG.k (k:= .inr nm) eD dl,?_))))
  have b1:=Dr (a:=m+(c.fdiv 601).fmod 2) en1.hi 41
  have b2:=Ch (m+(c.fdiv 601).fmod 2);generalize (if m+(c.fdiv 601).fmod 2<8 then m+(c.fdiv 601).fmod 2 else 8)=m' at b1 b2⊢
  obtain ⟨D',eD',hD'⟩:=fin m' ⟨by have:=en1.lo;lia,b2,λr hr=>by have:=en1.run r hr;lia,λws hws w hw u hu=>by have:=en1.way ws hws w hw u hu;lia⟩
  exact (gj _ _ _ _ _ _ (aN _ D' (rfl,eZ g1 ntd _,by rw[au,eD'],hD')))
 ·sleep 205;refine fN h_ λo5 o6 o7 o8 o9 o10 _hi=>?_
  refine iZ _hi λo11 D _hj=>?_
  refine fO _hj λ_r1 g1 eD hD=>?_
  sleep 14;rcases hD with ⟨h,_⟩|⟨h,_⟩|⟨_,m0,m1,rfl,h0,h1⟩
  ·exact absurd h 49
  ·exact absurd h 49
  ·have k0:=(E8 _ _).mp h0;have k1:=(E8 _ _).mp h1;exact (q td m0 m1 H1 g1 ntd eD ((k0.1,k0.2.1),(k1.1,k1.2.1),k0.2.2.1,k1.2.2.1,λws hws w hw u hu=>(k0.2.2.2 ws hws w hw u hu,k1.2.2.2 ws hws w hw u hu)))
theorem Gv {dV:Value} (F:bK K "_law_arcs" "_law_arcs" Em dV f fd):604 1 f fd ["_law_cells","_law_times","_law_far"] xC:=by
 have sc:aJ ["_law_cells","_law_times","_law_far","_law_arcs_here","_law_cell","_law_p","_law_q","_law_slack"] ["_law_cells","_law_times","_law_far"] (aB Em):=dS 95
 sleep 86
 refine ij h λlc ls cs S _hi=>?_
 refine fD _hi λf _hj=>?_
 refine lZ _hj λ_r1 ec c63 es s1 s100 hf ht q=>?_
 sleep 52;exists _,(af 426 (af (605 357 324 (af (cX 5 sc (620 134 126)) (af (cX 6 sc (620 (aw bv 134 126) 126)) (af (cX 7 sc (aw aY (620 (aw bv 134 (aw aY 126 126)) ak) 123)) (ar (bQ (608 127 ((@bM _ _ _ _ _ (154<*>(254<*>((aw hV (aw hV (611 116 254 32) (611 116 154 32)) 365)<*>ae))))<*>ae)))))))) 286))
 try dsimp only[cxK]
 sleep 9;sleep 0;sleep 32
 sleep 28;have lS:(S.map V.int).length=S.length:=IN _;refine (lc,rfl,(_,aF.of (g0 _ _ ec)),bO (xs:=cs.map V.int) (λi σ H'=>∃(o4 o5 o6 o7:Option V) (A:List Ky),σ= [LN lc,LN ls,some (.int f),LN l,o4,o5,o6,o7]/\aC H H'/\bn H' l A/\A.length=i/\∀k∈A,pR 124 k/\ug S k) (aM none none none none ([],(rfl,g0,([],e0,eJ.nil),rfl,λk hk=>by cases hk))) (λi σ H' _ (_,_,_,_,_,_,g,_)=>aF.of (g _ _ ec)) ?_ ?_)
 ·intro i y σ H1 hy h_;refine ij h_ λo4 o5 o6 o7 _hi=>?_
  refine fD _hi λA _hj=>?_
  refine fO _hj λ_r1 g1 _r2 _hk=>?_
  refine cB _hk λlA okA=>?_
  sleep 46;obtain ⟨bs,eb,rb⟩:=_r2;have il:i<cs.length:=by have:=(IP.mp hy).1;rw[IN] at this;exact this
  rw[IQ] at hy;obtain ⟨x,hx,rfl⟩:=IW.mp hy;have es1:=g1 _ _ es;have mp:=fm (a:=x) (n:=124) 41
  have mq:=fm (a:=x.fdiv 124) (n:=124) 41
  have sq1:1<=124*(S.length:Int):=Int.mul_pos 41 41
  have sq2:124*124<=100*100:=Int.mul_le_mul 41 41 41 49
  have mk:=fm (a:=x.fdiv (124*124)) (n:=5) 49
  have hp:=I0 (show (x.fmod 124).toNat<S.length by lia)
  have hq:=I0 (show ((x.fdiv 124).fmod 124).toNat<S.length by lia)
  have tp:=ht _ (J3 (show (x.fmod 124).toNat<S.length by lia))
  have tq:=ht _ (J3 (show ((x.fdiv 124).fmod 124).toNat<S.length by lia))
  have ap:gD 490 (x.fmod 124)=some (.int (S[(x.fmod 124).toNat])):=by
   have:=bg (624 hp);rw[Jv mp.1] at this;exact this
  have aq:gD 490 ((x.fdiv 124).fmod 124)=some (.int (S[((x.fdiv 124).fmod 124).toNat])):=by
   have:=bg (624 hq);rw[Jv mq.1] at this;exact this
  have gp:=aL (d:=0) hp;have gq:=aL (d:=0) hq;generalize S[(x.fmod 124).toNat]'(by lia)=vp at hp tp ap gp
  generalize S[((x.fdiv 124).fmod 124).toNat]'(by lia)=vq at hq tq aq gq
  have sz:(bs.map V.ref).length<sizeLine:=by rw[IN,rb.1];lia
  refine (aN ls _ 391);rw[lS];refine (by lia,aN ls _ 391)
  rw[lS];refine (315,aN ls _ 391)
  rw[lS];refine (by lia,aN ls _ (rfl,.inl (aF.of es1),aN ls _ 391))
  rw[lS];exists 112 171,315,(by show (5:Int)≠0;decide),112 171
  refine (.inl (rfl,_,aF.of eb),aM ls _ _ _ (rfl,rfl,aF.of es1,aq,aM ls _ _ _ (rfl,rfl,aF.of es1,ap,by show 3<=sizeLine;decide,λt nt=>(cg l _ _ (rfl,rfl,ao nt _ _ _ eb,sz,?_)))))
  generalize (x.fdiv (124*124)).fmod 5=sk at mk nt⊢;have k0:0<=sk*f/\sk*f<=4*f:=by rcases hf with rfl|rfl<;>lia
  have f0:1<=f/\f<=10000019:=by rcases hf with rfl|rfl<;>lia
  have gt:=ao nt (.tup [.int (x.fmod 124),.int ((x.fdiv 124).fmod 124),.int (vq-vp-sk*f)]);refine (aM _ _ _ _ (A++ [[x.fmod 124,(x.fdiv 124).fmod 124,vq-vp-sk*f]],(rfl,eZ (g1.trans gt) nl _,gU (gt _ _ eb) 527 au,by rw[IU];simp;lia,λk hk=>?_)))
  rcases JA.mp hk with h|h
  ·exact okA k h
  ·rw[J4.mp h];refine ((618 (rfl,mp.1,mp.2,mq.1,mq.2,by lia,by lia)),cg _ _ _ (rfl,?_))
   rw[gp,gq]
   lia
 ·sleep 205;refine ij h_ λo4 o5 o6 o7 _hi=>?_
  refine fD _hi λA _hj=>?_
  refine fO _hj λ_r1 g1 hA _hk=>?_
  refine cB _hk λlA okA=>?_
  sleep 46;rw[IN] at lA;exact (q l A H1 g1 hA lA okA)
theorem Gw {dV:Value} (F:bK K "_law_apart" "_law_apart" En dV f fd) (DZ45:603 1 "_law_mixed" ["_law_cell","_law_k"] [] jJ) (DZ46:603 1 "_law_meet" ["_law_one","_law_other"] [] lK):604 2 f fd ["_law_runs_here","_law_cell"] uh:=by
 have sc:aJ ["_law_runs_here","_law_cell","_law_some_here","_law_i","_law_j"] ["_law_runs_here","_law_cell"] (aB En):=dS 95
 sleep 86
 obtain ⟨rl,c,R,rfl,hR,r4,q⟩:=h;exists _,(af 427 (af (605 197 346 (ar (605 197 324 (ar (aV (PW.pt (eQ (ay fW 127 134 136) (eQ (dv (eY (cC DZ46 hr ((611 108 127 32)<*>(308<*>ae))))) (dM (ay fV (620 (cC DZ45 hr (116<*>((614 352 134)<*>ae))) ak) ak 136))))) (ar (bQ (608 123 (512<*>ae)))) aH))))) 309))
 try dsimp only[cxK]
 sleep 9;sleep 0;sleep 79
 have run:∀H':Hp,aC H H'->∀i,i<R.length->∃t,gD 217 131=some 214/\H' t=some (.tup 485):=λH' g i hi=>by
  sleep 39
  sleep 135
 sleep 32
 sleep 28;refine (aN rl _ (rfl,.inl (aF.of (g0 _ _ er)),ν,by lia,by lia,bz (λi σ H'=>∃(o3 o4:Option V) (ps:List 303),σ= [LN rl,some 380,LN l,o3,o4]/\aC H H'/\bn H' l 410/\ps.length<=R.length*i/\(∀p∈ps,0<=p.1/\p.1<161/\0<=p.2/\p.2<161/\p.1≠p.2/\cM 297 296=false)) (613 [] (rfl,g0,([],e0,eJ.nil),JT _,λp hp=>by cases hp)) ?_ ?_))
 ·intro i σ H1 hi h_;refine j8 h_ λo3 o4 ps _hi=>?_
  refine fO _hi λ_r1 g1 hP _hj=>?_
  refine cB _hj λpl pok=>?_
  sleep 14;rw[IX,lr'] at hi;refine (aN rl _ (rfl,.inl 511,ν,by lia,by lia,bz (λj σ H'=>∃(o4:Option V) (ps:List 303),σ= [LN rl,some 380,LN l,some 381,o4]/\aC H H'/\bn H' l 410/\ps.length<=R.length*i+j/\(∀p∈ps,0<=p.1/\p.1<161/\0<=p.2/\p.2<161/\p.1≠p.2/\cM 297 296=false)) (aN _ ps (rfl,g1,hP,pl,pok)) ?_ ?_))
  ·rintro j σ H2 hj ⟨o4,ps,rfl,g2,⟨as,ea,ra⟩,pl,pok⟩;rw[IX,lr'] at hj;sleep 235;obtain ⟨tj,aj,etj⟩:=run H2 g2 j hj;have skip:∃(o4:Option V) (ps':List 303),[some (V.ref rl),some (V.int c),some (V.ref l),some (V.int 131),some (V.int (0+(j:Int)))]= [some (.ref rl),some 380,some 215,some 381,o4]/\aC H H2/\bn H2 l (cR ps')/\ps'.length<=R.length*i+(j+1)/\(∀p∈ps',0<=p.1/\p.1<161/\0<=p.2/\p.2<161/\p.1≠p.2/\cM 297 296=false):=(aN _ ps (rfl,g2,(as,ea,ra),by lia,pok))
   refine (rfl,BP 322 (λc1=>skip))
   refine (aM rl _ _ _ (rfl,rfl,aF.of 367,ai,aM rl _ _ _ 463));cases hm:cM (R.getD i (0,0,0)) (R.getD j (0,0,0)) with
   |true=>exact gI skip
   |false=>
    refine eI (112 49,aN _ _ (rfl,λv v0=>(250,rfl,d2 258 (λc2=>skip))))
    have sz:(as.map V.ref).length<sizeLine:=by
     have:R.length*i<=4*4:=Nat.mul_le_mul r4 41
     rw[IN,ra.1];unfold cR;rw[IN];lia
    refine (.inl (rfl,_,aF.of ea),by show 2<=sizeLine;decide,λt nt=>(cg l _ _ (rfl,rfl,ao nt _ _ _ ea,sz,?_)))
    have gt:=ao nt (.tup [.int 131,.int (0+(j:Int))]);refine (aN _ (ps++ [(0+(i:Int),0+(j:Int))]) (rfl,eZ (g2.trans gt) nl _,?_,by rw[IU];simp;lia,λp hp=>?_))
    ·sleep 238
    ·rcases JA.mp hp with h|h
     ·exact pok p h
     ·rw[J4.mp h];exists by show (0:Int)<=0+(i:Int);lia,by show 0+(i:Int)<_;lia,by show (0:Int)<=0+(j:Int);lia,by show 0+(j:Int)<_;lia,c1
      show cM (R.getD (0+(i:Int)).toNat 111) (R.getD (0+(j:Int)).toNat 111)=false;rw[Jl,Jl,IX,IX];exact hm
  ·rintro σ H2 ⟨o4,ps,rfl,g2,hP,pl,pok⟩;rw[IX,lr'] at pl;exact (cg _ _ ps (rfl,g2,hP,by rw[Nat.mul_add,Nat.mul_one];exact pl,pok))
 ·sleep 205;refine j8 h_ λo3 o4 ps _hi=>?_
  refine fO _hi λ_r1 g1 hP _hj=>?_
  refine cB _hj λpl pok=>?_
  sleep 14;rw[IX,lr'] at pl;have:R.length*R.length<=4*4:=Nat.mul_le_mul r4 r4;exact (q l ps H1 g1 hP 41 pok)
theorem Gx {dV:Value} (F:bK K "_law_case" "_law_case" Eo dV f fd) (DZ45:603 1 "_law_mixed" ["_law_cell","_law_k"] [] jJ):604 2 f fd ["_law_runs_here","_law_cell"] xD:=by
 have sc:aJ ["_law_runs_here","_law_cell","_law_picks","_law_orders","_law_i","_law_j"] ["_law_runs_here","_law_cell"] (aB Eo):=dS 95
 sleep 86
 refine j8 h λrl c R _hi=>?_
 refine fO _hi λ_r1 hR r4 _hj=>?_
 refine cB _hj λr01 q=>?_
 sleep 52;exists _,(af 427 (af 426 (af (605 197 324 (af (bQ (608 123 ((611 (@bq _ _ _ _ (aX<*>((av aG 308 ak 32)<*>ae))) (620 (cC DZ45 hr (116<*>230)) ak) 32)<*>ae))) (ar (605 197 323 (ar (aV (PW.pt (eQ (ay dJ (av aG 308 ak 32) 560 136) (dM (ay fV (620 (cC DZ45 hr (116<*>((614 (614 ak 392) 154)<*>ae))) ak) ak 136)))) (ar (bQ (608 127 ((@bM _ _ _ _ _ (134<*>(154<*>ae)))<*>ae)))) aH)))))) (ar (aD 513)))))
 try dsimp only[cxK]
 sleep 69;sleep 0;sleep 79
 have run:∀H':Hp,aC H H'->∀i,i<R.length->∃t,gD 217 131=some 214/\H' t=some (.tup 485):=λH' g i hi=>by
  sleep 39
  sleep 135
 refine (by show 0<=sizeLine;decide,λpl npl=>?_)
 have g0:=ao npl 132;have e0:aO H pl 132 pl=some (.lst []):=au;generalize aO H pl 132=H0 at g0 e0⊢;refine (by show 0<=sizeLine;decide,λol nol=>?_)
 have pne:pl≠ol:=λe=>by rw[e,nol] at e0;cases e0
 have nol0:=g0.free nol;have g1':=ao nol 132;have e1:aO H0 ol 132 ol=some (.lst []):=au;have e0':=g1' _ _ e0;have g1:=g0.trans g1';generalize aO H0 ol 132=H1 at g1 e0' e1⊢;clear g0 e0 g1' nol;refine (aN rl _ (rfl,.inl 511,ν,by lia,by lia,bz (λi σ H'=>∃(o4 o5:Option V) (P:Pk) (ps:List 303),σ= [LN rl,some 380,LN pl,LN ol,o4,o5]/\aC H H'/\H' pl=some (.lst (P.map vP))/\bn H' ol 410/\P.length=i/\(∀(k j:Nat) (r:Rn),P[k]?=some (some j)->R[k]?=some r->r.2.2=(j:Int))/\ps.length<=R.length*i/\∀p∈ps,0<=p.1/\p.1<161/\0<=p.2/\p.2<161/\(R.getD p.1.toNat 111).2.1<=(R.getD p.2.toNat 111).1) (aM none none [] [] (rfl,g1,e0',([],e1,eJ.nil),rfl,λk j r h=>by simp at h,JT _,λp hp=>by cases hp)) ?_ ?_))
 ·intro i σ H2 hi h_;refine ij h_ λo4 o5 P ps _hi=>?_
  refine gY _hi λ_r1 g2 eP hO lP _hj=>?_
  refine i3 _hj λokP pl' pok=>?_
  sleep 14;rw[IX,lr'] at hi;sleep 235;have hr':=I0 hi;have rd:=aL (d:=111) hr';have r22:=r01 _ (J3 hi);rw[<-rd] at r22;have szP:(P.map vP).length<sizeLine:=by rw[IN];lia
  refine (.inl (rfl,_,aF.of eP),aM rl _ _ _ (rfl,rfl,aF.of 367,ai,aM ti _ _ _ (rfl,rfl,bH.of eti,rfl,by show 2<=sizeLine;decide,λp np=>(aN _ _ (rfl,λv v0=>?_)))))
  have mv:=fm (a:=v) (n:=2) 49
  obtain ⟨x,hx,ox⟩:∃x:Option Nat,gD [V.non,V.int (R.getD i (0,0,0)).2.2] (v.fmod 2)=some (vP x)/\∀j:Nat,x=some j->(R.getD i (0,0,0)).2.2=(j:Int):=by
   obtain e|e:v.fmod 2=0∨v.fmod 2=1:=by lia
   ·rw[e];exact (none,rfl,λj h=>by cases h)
   ·rw[e];refine (some (R.getD i 111).2.2.toNat,?_,λj h=>?_)
    ·show some (V.int _)=some (V.int _);rw[Jv 41]
    ·injection h with h
     lia
  have gp:=ao np 384;have g3:=g2.trans gp;have eP3:=gp _ _ eP;refine (191,aM p _ _ _ (rfl,rfl,aF.of au,hx,cg pl _ _ (rfl,rfl,eP3,szP,?_)))
  have hO3:=(hO.same gp).upd (ys:=P.map vP++ [vP x]) eP3 (λe=>pne e.symm)
  have g4:=eZ g3 npl 530;have eP4:aO (aO H2 p 384) pl 530 pl=some (.lst ((P++ [x]).map vP)):=by rw[au,JJ];rfl
  generalize aO (aO H2 p 384) pl 530=H3 at hO3 g4 eP4⊢;have okP':∀(k j:Nat) (r:Rn),(P++ [x])[k]?=some (some j)->R[k]?=some r->r.2.2=(j:Int):=λk j r h1 h2=>by
   by_cases ck:k<P.length
   ·rw[J5 ck] at h1;exact okP k j r h1 h2
   ·have kl:=(IP.mp h1).1;rw[IU] at kl;have:k=i:=by simp at kl;lia
    subst this;rw[IV 41] at h1
    have:k-P.length=0:=by lia
    rw[this] at h1;replace h1:some x=some (some j):=h1;injection h1 with h1
    have:=ox j h1;rw[aL h2] at this;exact this
  clear eP3 hO eP gp g3 np eti;refine (aN rl _ (rfl,.inl (aF.of (g4 _ _ er)),ν,by lia,by lia,bz (λj σ H'=>∃(o5:Option V) (ps:List 303),σ= [LN rl,some 380,LN pl,LN ol,some 381,o5]/\aC H H'/\H' pl=some (.lst ((P++ [x]).map vP))/\bn H' ol 410/\ps.length<=R.length*i+j/\∀p∈ps,0<=p.1/\p.1<161/\0<=p.2/\p.2<161/\(R.getD p.1.toNat 111).2.1<=(R.getD p.2.toNat 111).1) (aN _ ps (rfl,g4,eP4,hO3,pl',pok)) ?_ ?_))
  ·clear pok pl' hO3 eP4 g4;intro j σ H4 hj h_;refine iZ h_ λo5 ps _hi=>?_
   refine gY _hi λ_r1 g5 eP5 _r2 pl5 pok=>?_
   sleep 131;obtain ⟨as,ea,ra⟩:=_r2;rw[IX,lr'] at hj;obtain ⟨ti',ai',eti⟩:=run H4 g5 i hi;obtain ⟨tj,aj,etj⟩:=run H4 g5 j hj;refine (aM rl _ _ _ (rfl,rfl,aF.of (g5 _ _ er),ai',aM ti' _ _ _ (rfl,rfl,bH.of eti,rfl,aM rl _ _ _ (rfl,rfl,aF.of (g5 _ _ er),aj,aM tj _ _ _ (rfl,rfl,bH.of etj,rfl,d2 322 (λc1=>583))))))
   refine (112 49,aN _ _ (rfl,λv v0=>(191,rfl,d2 258 (λc2=>583))))
   have sz:(as.map V.ref).length<sizeLine:=by
    have:R.length*i<=4*4:=Nat.mul_le_mul r4 41
    rw[IN,ra.1];unfold cR;rw[IN];lia
   refine (.inl (rfl,_,aF.of ea),by show 2<=sizeLine;decide,λt nt=>(cg ol _ _ (rfl,rfl,ao nt _ _ _ ea,sz,?_)))
   have gt:=ao nt (.tup [.int 131,.int (0+(j:Int))]);refine (aN _ (ps++ [(0+(i:Int),0+(j:Int))]) (rfl,eZ (g5.trans gt) nol0 _,?_,?_,by rw[IU];simp;lia,λp hp=>?_))
   ·rw[aR pne];exact gt _ _ eP5
   ·sleep 238
   ·rcases JA.mp hp with h|h
    ·exact pok p h
    ·rw[J4.mp h];exists by show (0:Int)<=0+(i:Int);lia,by show 0+(i:Int)<_;lia,by show (0:Int)<=0+(j:Int);lia,by show 0+(j:Int)<_;lia
     show (R.getD (0+(i:Int)).toNat 111).2.1<=(R.getD (0+(j:Int)).toNat 111).1;rw[Jl,Jl,IX,IX];exact c1
  ·intro σ H4 h_;refine iZ h_ λo5 ps _hi=>?_
   refine gY _hi λ_r1 g5 eP5 hO5 pl5 pok=>?_
   sleep 131;rw[IX,lr'] at pl5;exact (aM _ _ (P++ [x]) ps (rfl,g5,eP5,hO5,by rw[IU,lP];rfl,okP',by rw[Nat.mul_add,Nat.mul_one];exact pl5,pok))
 ·intro σ H2 h_;refine ij h_ λo4 o5 P ps _hi=>?_
  refine gY _hi λ_r1 g2 eP hO lP _hj=>?_
  refine i3 _hj λokP pl' pok=>?_
  sleep 14;rw[IX,lr'] at lP pl';have:R.length*R.length<=4*4:=Nat.mul_le_mul r4 r4;refine (by show 2<=sizeLine;decide,λt nt=>?_)
  have gt:=ao nt (.tup [.ref pl,.ref ol]);exact q t P ps _ (g2.trans gt) (aN pl ol (au,gt _ _ eP,hO.same gt)) (lP,okP,by lia,pok)
theorem Gy {dV:Value} (F:bK K "_law_built" "_law_built" Ep dV f fd) (DZ43:603 1 "_law_cell_at" ["_law_script","_law_k"] [] (nC K)) (DZ47:603 2 "_law_names" ["_law_cell"] [] ud) (DZ48:603 2 "_law_runs" ["_law_script","_law_at","_law_many_here","_law_far"] [] (xu K)) (DZ49:603 2 "_law_heats" ["_law_runs_here","_law_cells","_law_by"] [] ue) (DZ51:603 2 "_law_task" ["_law_run","_law_cell","_law_more","_law_names_here","_law_heats_here"] [] xx) (DZ53:603 2 "_law_tools" ["_law_runs_here","_law_tasks","_law_names_here","_law_cell"] [] uf):604 3 f fd ["_law_script","_law_at","_law_many_here","_law_far"] (xB K):=by
 have sc:aJ ["_law_script","_law_at","_law_many_here","_law_far","_law_runs_here","_law_names_here","_law_cells","_law_heats_here","_law_tasks","_law_i","_law_more","_law_times","_law_k"] ["_law_script","_law_at","_law_many_here","_law_far"] (aB Ep):=dS 95
 sleep 86
 refine ij h λa ns at_ m _hi=>?_
 refine fD _hi λf _hj=>?_
 refine gY _hj λ_r1 hS h0 h9 m1 _hk=>?_
 refine i3 _hk λm4 hf q=>?_
 sleep 10;exists _,(af (cX 4 sc (cC DZ48 hr (108<*>(116<*>(123<*>192))))) (af (cX 5 sc (cC DZ47 hr (142<*>ae))) (af (nH (hd:=none) (own:= "_law_i") (ys:= ["_law_script","_law_at"]) (js:= [0,1]) sc.nd (i:=6) rfl rfl hr.hd 135 (fh rfl B.Ko 268) (λC fp s H=>(cC DZ43 hr (116<*>((614 (614 123 (aw aY ak 108)) ak)<*>ae))))) (af (cX 7 sc (@bq _ _ _ _ ((cC DZ49 hr (134<*>(254<*>(ak<*>ae))))<*>((cC DZ49 hr (134<*>(254<*>(ak<*>ae))))<*>ae)))) (af (cX 8 sc 125) (af (605 (610 268) (da 9 sc) (af (cX 10 sc (cC DZ43 hr (108<*>((614 (614 116 (aw aY ak 464)) ak)<*>ae)))) (ar (bQ (608 (pv 8) ((cC DZ51 hr ((611 134 464 32)<*>((611 254 464 32)<*>((pv 10)<*>(154<*>((@bq _ _ _ _ ((611 (611 365 ak 32) 464 32)<*>((611 (611 365 ak 32) 464 32)<*>ae)))<*>ae))))))<*>ae)))))) (af (cX 11 sc 125) (af (605 (610 ((620 142 ak)<*>ae)) (da 12 sc) (ar (bQ (608 (pv 11) ((aw aY (620 (aw bv 142 (614 ak (pv 12))) ak) 127)<*>ae))))) (ar (aD (@bM _ _ _ _ _ ((cC DZ53 hr (134<*>((pv 8)<*>(154<*>(142<*>ae)))))<*>((pv 8)<*>(134<*>((pv 11)<*>ae)))))))))))))))
 try dsimp only[cxK]
 refine IM ?_;intro D' r8 r7 r6 r5 r4 r3 r2 r1;sleep 0;refine (aM a ns at_ m (f,(rfl,hS,h0,by lia,by lia,m4,hf,λrl R H1 g1 nrl hR lR okR=>?_)))
 refine (cg a ns 1 (rfl,g1.seq hS,by decide,λc1=>(ν,λln n0 n1 H2 g2 en nm0 nm1 nne=>?_)))
 have k2:=g1.trans g2;refine (m,rfl,by lia,by lia,jg (xt (λ_:Int=>True) V.int) 146 (λ_=>()) jM.no 41 130 (λi hi H3 g3 Q' hQ=>?_) λlc H3 nlc g3 hc=>?_)
 ·exact (112 49,cg a ns _ (rfl,(k2.trans g3).seq hS,by lia,λv=>hQ _ _ 184 (v,trivial,rfl)))
 obtain ⟨vs,ec,rv⟩:=hc;obtain ⟨cs,rfl,lcs,_⟩:=rv.some_of;rw[IN,JP] at lcs;clear rv;have k3:=k2.trans g3;have lRm:R.length=m.toNat:=by lia
 have r4:R.length<=4:=by lia
 have hR3:=hR.same 595;refine (aM rl lc R cs (18,(rfl,hR3,ec,by lia,r4,.inl rfl,λl1 hs1 H4 g4 e1 ok1=>(aM rl lc R cs (54,(rfl,hR3.same g4,g4 _ _ ec,by lia,r4,.inr rfl,λl2 hs2 H5 g5 e2 ok2=>(by show 2<=sizeLine;decide,λlh nlh=>?_)))))))
 have gh:=ao nlh 572;have elh:aO H5 lh 572 lh=some (.lst [.ref l1,.ref l2]):=au;generalize aO H5 lh 572=H6 at gh elh⊢;have k6:=((k3.trans g4).trans g5).trans gh;have e1':=(g5.trans gh) _ _ e1;have e2':=gh _ _ e2;have ec6:=((g4.trans g5).trans gh) _ _ ec;have hR6:=hR3.same ((g4.trans g5).trans gh);have en6:=(((g3.trans g4).trans g5).trans gh) _ _ en;clear hR3 hR e1 e2 ec en gh g5 g4 g3 g2 nlh;refine (by show 0<=sizeLine;decide,λtl ntl=>?_)
 have ntl0:=k6.free ntl;have gt:=ao ntl 132;have hT0:eK fG (λa=>a≠tl/\H a=none) (aO H6 tl 132) tl []:=eK.new
 generalize aO H6 tl 132=H7 at gt hT0⊢;obtain ⟨bs,er,rR⟩:=id hR6;have run:∀H':Hp,aC H6 H'->∀i,i<R.length->∃t,gD 217 131=some 214/\H' t=some (.tup 485):=λH' g i hi=>by
  sleep 39
  sleep 135
 try dsimp only[bN,cq]
 refine eC (λNq=>∀(o9 o10:Option V) (T:Tk) (H':Hp),aC H6 H'->eK fG An H' tl T->T.length=R.length->HL n0 n1 hs1 hs2 T R->Nq [some 205,some (.int at_),some 311,some (.int f),some (.ref rl),some (.ref ln),some (.ref lc),some (.ref lh),some 256,o9,o10,none,none] H') 206 ?_
 ·refine (m,rfl,by lia,by lia,bz (λi σ H'=>∃(o9 o10:Option V) (T:Tk),σ= [LN a,some (.int at_),some 311,some (.int f),LN rl,LN ln,LN lc,LN lh,LN tl,o9,o10,none,none]/\aC H6 H'/\eK fG (λa=>a≠tl/\H a=none) H' tl T/\T.length=i/\HL n0 n1 hs1 hs2 T R) (613 [] (rfl,gt,hT0,rfl,⟨λi ws r h=>by simp at h⟩)) ?_ ?_)
  ·intro i σ H8 hi h_;refine j8 h_ λo9 o10 T _hi=>?_
   refine fO _hi λ_r1 g8 _r2 _hj=>?_
   refine cB _hj λlT tsb=>?_
   sleep 14;obtain ⟨us,eu,ru⟩:=_r2;have il:i<R.length:=by lia
   obtain ⟨ti,ai,eti⟩:=run H8 g8 i il;have hcs:=I0 (show i<cs.length by lia)
   obtain ⟨x1,hh1⟩:∃x1,hs1[i]?=some x1:=⟨_,I0 (show i<hs1.length by rw[ok1.1];exact il)⟩
   obtain ⟨x2,hh2⟩:∃x2,hs2[i]?=some x2:=⟨_,I0 (show i<hs2.length by rw[ok2.1];exact il)⟩
   have b1:=ok1.2.1 _ (IR hh1);have b2:=ok2.2.1 _ (IR hh2);have hr':=I0 il;have rb:=okR _ (J3 il);have rd:=aL (d:=((0:Int),(0:Int),(0:Int))) hr';rw[<-rd] at rb;have sz:us.length<sizeLine:=by rw[ru.1];lia
   refine (112 49,cg a ns _ (rfl,(k6.trans g8).seq hS,by lia,λmo=>?_))
   refine (.inl (rfl,_,aF.of eu),aM rl _ _ _ (rfl,rfl,aF.of (g8 _ _ er),ai,aM lc _ _ _ (rfl,rfl,aF.of (g8 _ _ ec6),(cT (bW hcs)),aM lh _ _ (.ref l1) (rfl,rfl,aF.of (g8 _ _ elh),rfl,aM l1 _ _ _ (rfl,rfl,aF.of (g8 _ _ e1'),(cT (bW hh1)),aM lh _ _ (.ref l2) (rfl,rfl,aF.of (g8 _ _ elh),rfl,aM l2 _ _ _ (rfl,rfl,aF.of (g8 _ _ e2'),(cT (bW hh2)),by show 2<=sizeLine;decide,λlp nlp=>?_)))))))
   have gp:=ao nlp 573;have elp:aO H8 lp 573 lp=some (.lst [.int x1,.int x2]):=au;generalize aO H8 lp 573=H9 at gp elp⊢;refine (wc ti _ mo ln lp 149 f n0 n1 (aN _ _ (rfl,gp _ _ eti,hf,rb,(g8.trans gp) _ _ en6,elp,nne,b1,b2,λv ws H10 g10 rt tb=>(cg tl _ _ (rfl,rfl,(gp.trans g10) _ _ eu,sz,?_)))))
   have g11:=(g8.trans gp).trans g10;refine (cg _ _ (T++ [ws]) (rfl,eZ g11 ntl _,?_,by rw[IU,lT];rfl,⟨λk ws' r h1 h2=>?_⟩))
   ·exact eK.put 541 (ru.imp λ_ _ q=>mG q (gp.trans g10)) (Aw rt λx hx=>((λz=>by have:=gp _ _ eu;rw[z,this] at hx;cases hx),((k6.trans g8).trans gp).free hx))
   ·by_cases ck:k<T.length
    ·rw[J5 ck] at h1;exact tsb.task k ws' r h1 h2
    ·have kl:=(IP.mp h1).1;rw[IU] at kl;have:k=i:=by simp at kl;lia
     subst this;rw[IV 41] at h1
     have e:k-T.length=0:=by lia
     rw[e] at h1;replace h1:some ws=some ws':=h1;injection h1 with h1
     rw[<-h1,aL hh1,aL hh2];rw[aL h2] at tb;exact tb
  ·intro σ H8 h_;refine j8 h_ λo9 o10 T _hi=>?_
   refine fO _hi λ_r1 g8 hT _hj=>?_
   refine cB _hj λlT tsb=>?_
   sleep 14;exact hN _ _ T _ g8 hT.any 41 tsb
 clear hT0 gt ntl;intro o9 o10 T H8 g8 hT lT tsb;have k8:=k6.trans g8;refine (by show 0<=sizeLine;decide,λml nml=>?_)
 have gm:=ao nml 132;have em:aO H8 ml 132 ml=some (.lst []):=au;generalize aO H8 ml 132=H9 at gm em⊢;have hS9:=(k8.trans gm).seq hS;try dsimp only[bN,cq]
 refine cut (λσ H'=>∃(o12:Option V) (M:List Int),σ= [LN a,some (.int at_),some 311,some (.int f),LN rl,LN ln,LN lc,LN lh,LN tl,o9,o10,LN ml,o12]/\aC H8 H'/\H' ml=some 261/\M.length<=2/\∀t∈M,0<=t/\t<=29*f) 206 ?_
 ·refine (cg a ns 2 (rfl,hS9,by decide,λc2=>?_))
  have mc:=fm (a:=c2) (n:=3) 49
  refine (178,ν,by lia,by lia,bz (λi σ H'=>∃(o12:Option V) (M:List Int),σ= [LN a,some (.int at_),some 311,some (.int f),LN rl,LN ln,LN lc,LN lh,LN tl,o9,o10,LN ml,o12]/\aC H8 H'/\H' ml=some 261/\M.length=i/\∀t∈M,0<=t/\t<=29*f) (aN none [] (rfl,gm,em,rfl,λt ht=>by cases ht)) ?_ ?_)
  ·rintro i σ H10 hi ⟨o12,M,rfl,g10,em10,lM,okM⟩;have i2:i<2:=by lia
   refine (.inl (rfl,_,aF.of em10),cg a ns 2 (rfl,(k8.trans g10).seq hS,by decide,λc=>?_))
   have m30:=fm (a:=c.fdiv (3+131)) (n:=30) 49
   refine (315,(by show (30:Int)≠0;decide),112 171,cg ml _ _ (rfl,rfl,em10,by rw[IN];lia,?_))
   refine (aN _ (M++ [(c.fdiv (3+131)).fmod 30*f]) (rfl,eZ g10 nml _,?_,by rw[IU,lM];rfl,λt ht=>?_))
   ·rw[au,JJ];rfl
   ·rcases JA.mp ht with z|z
    ·exact okM t z
    ·rw[J4.mp z];generalize (c.fdiv (3+131)).fmod 30=y at m30⊢;rcases hf with rfl|rfl<;>lia
  ·rintro σ H10 ⟨o12,M,rfl,g10,em10,lM,okM⟩;exact hN _ _ (aN _ M (rfl,g10,em10,by lia,okM))
 clear em gm hS9;rintro σ H10 ⟨o12,M,rfl,g10,em10,lM,okM⟩;have k10:=k8.trans g10;have wok:∀ws∈T,1<=ws.length/\ws.length<=2/\∀w∈ws,EK n0 n1 w:=λws hw=>by
  obtain ⟨i,hi⟩:=IY.mp hw;have il:=(IP.mp hi).1;have tb:=tsb.task i ws _ hi (I0 (show i<R.length by rw[<-lT];exact il))
  exact (tb.l1,tb.l2,tb.way)
 have pok:jE T R:=(lT.symm,λi r ws e1 e2=>(by have:=(okR r (IR e1)).2.2.2.2;lia,(tsb.task i ws r e2 e1).pick))
 have hR10:=hR6.same (g8.trans g10);have hT10:=hT.same g10;refine (cg a ns 3 (rfl,k10.seq hS,by decide,λc3=>(gj rl tl ln c3 T R (aN n0 n1 (rfl,hT10,hR10,(g8.trans g10) _ _ en6,nne,pok,r4,wok,λtd m0 m1 H11 g11 ntd ed tb=>(by show 4<=sizeLine;decide,λt nt=>?_))))))
 have gt:=ao nt (.tup [.ref td,.ref tl,.ref rl,.ref ml]);exact q t td tl rl ml n0 n1 m0 m1 hs1 hs2 T R M _ ((k10.trans g11).trans gt) au (gt _ _ ed) ((hT10.same g11).same gt) ((hR10.same g11).same gt) ((g11.trans gt) _ _ em10) lR (hf,nm0,nm1,nne,lT,r4,okR,tsb,ok1,ok2,tb,lM,okM)
theorem Gz {dV:Value} (F:bK K "_law_points" "_law_points" Er dV f fd):604 1 f fd ["_law_runs_here","_law_times"] qt:=by
 have sc:aJ ["_law_runs_here","_law_times","_law_found","_law_run"] ["_law_runs_here","_law_times"] (aB Er):=dS 95
 sleep 86
 refine ij h λrl ml R M _hi=>?_
 refine gY _hi λ_r1 _r2 r24 em m8 q=>?_
 sleep 100;obtain ⟨bs,er,rR⟩:=_r2;exists _,(af 427 (af (605 357 346 (ar (cX 2 sc (aw i7 123 (@bq _ _ _ _ (246<*>(246<*>ae))))))) (ar (aD (aw i7 123 116)))))
 try dsimp only[cxK]
 sleep 9;sleep 0;have lr:bs.length=R.length:=by rw[rR.1,IN]
 sleep 32
 sleep 213;refine (rl,rfl,(_,aF.of (g0 _ _ er)),bO (xs:=bs.map V.ref) (λi σ H'=>∃(l:Addr) (o3:Option V),σ= [LN rl,LN ml,LN l,o3]/\aC H H'/\H' l=some (.lst ((bw (R.take i) []).map V.int))) (aN l none (rfl,g0,au)) (λi σ H' _ (_,_,_,g,_)=>aF.of (g _ _ er)) ?_ ?_)
 ·rintro i y σ H1 hy ⟨l,o3,rfl,g1,e1⟩;sleep 34;sleep 198;have ll:((bw (R.take i) []).map V.int).length<=48:=by rw[IN,gM,JH];simp;lia
  have eb1:=g1 _ _ eb;refine (621 (rfl,rfl,bH.of eb1,rfl,aM b _ _ _ (rfl,rfl,bH.of eb1,rfl,by show 2<=sizeLine;decide,λp np=>(aM l p _ _ (rfl,rfl,ao np _ _ _ e1,au,by simp at ll⊢;lia,λl2 nl2=>?_)))))
  refine (aN l2 _ (rfl,(g1.trans 393).trans (ao nl2 _),?_));rw[au,nR hr',JJ,JJ,Jg]
  rfl
 ·rintro σ H1 ⟨l,o3,rfl,g1,e1⟩;have et':R.take (bs.map V.ref).length=R:=by rw[IN,lr];exact JX
  rw[et'] at e1;refine (aM l ml _ _ (rfl,rfl,e1,g1 _ _ em,?_,λp np=>?_))
  ·rw[IN,IN,gM];simp;omega
  ·refine q p _ (g1.trans 393) ?_;rw[au,<-JJ,pS]
theorem GA {dV:Value} (F:bK K "_law_lag" "_law_lag" Es dV f fd):604 1 f fd ["_law_arcs_here","_law_p","_law_q"] CF:=by
 have sc:aJ ["_law_arcs_here","_law_p","_law_q","_law_lags"] ["_law_arcs_here","_law_p","_law_q"] (aB Es):=dS 95
 sleep 86
 refine ij h λl A p q _hi=>?_
 refine fO _hi λ_r1 _r2 l7 k=>?_
 sleep 100;obtain ⟨as,el,rA⟩:=_r2;exists _,(af (jy sc.nd (i:=3) rfl rfl (own:= "_law_row") (ys:= ["_law_p","_law_q"]) (js:= [1,2]) rfl 135 357 (λC fp s H=>(PW.pt (eQ (ay fV 118 116 136) (dM (ay fV 118 123 136))))) 229) (af (aV (ay 546 127 125 136) 221 aH) (ar (aD (615 192)))))
 try dsimp only[cxK]
 sleep 9;sleep 0;have la:(as.map V.ref).length=A.length:=by rw[IN,rA.1,IN]
 refine (l,rfl,333,yK (λi=>AD A p q i) (λi=> .int (AE A i)) 561 41 (λi y hy H2 g2 R' hR=>?_) (λi y hy H2 g2 Q' hQ=>?_) λp1 H1 n1 g1 e1=>?_)
 ·sleep 34;obtain ⟨r,hr',eb⟩:=hW rA hb;rw[rL hr'] at hR;have eb2:=g2 _ _ eb;refine (621 (rfl,rfl,bH.of eb2,rfl,rfl,d2 176 176))
  ·injection c with c
   refine (621 (rfl,rfl,bH.of eb2,rfl,rfl,mB.i ?_));have e:decide (V.int r.2.1=V.int q)=decide (r.1=p/\r.2.1=q):=by
    by_cases h:r.2.1=q
    ·rw[decide_eq_true (by rw[h]),decide_eq_true ⟨c,h⟩]
    ·rw[decide_eq_false (λz=>h (by injection z)),decide_eq_false (λz=>h z.2)]
   rw[e];exact hR
  ·rw[decide_eq_false (λz=>c (by rw[z.1]))] at hR
   exact hR
 ·sleep 34;obtain ⟨r,hr',eb⟩:=hW rA hb;rw[rM hr'] at hQ;exact (621 (rfl,rfl,bH.of (626 eb),rfl,hQ))
 have e2:jR (as.map V.ref).length (λi=>AD A p q i) (λi=> .int (AE A i))=(Ce A p q).map V.int:=by
  rw[la];unfold jR Ce;rw[JB]
  rfl
 rw[e2] at e1;refine (by show 0<=sizeLine;decide,λl3 nl3=>(cg p1 l3 _ (rfl,rfl,aF.of (ao nl3 _ _ _ e1),aF.of au,?_)))
 have g3:=g1.trans (ao nl3 132);cases hm:Ce A p q with
 |nil=>
  refine (mB.i (eI ?_));have:=k _ g3;rw[AF hm] at this;exact this
 |cons z zs=>
  refine ((aN p1 (Ce A p q) (rfl,aF.of (ao nl3 _ _ _ e1),by rw[hm];exact nofun,λM h1 h2=>?_)))
  have:=k _ g3;rw[AG h1 h2] at this;exact this
theorem GB {dV:Value} (F:bK K "_law_total" "_law_total" Et dV f fd) (DZ59:603 1 "_law_lag" ["_law_arcs_here","_law_p","_law_q"] [] CF):604 2 f fd ["_law_arcs_here","_law_chain"] xi:=by
 have sc:aJ ["_law_arcs_here","_law_chain","_law_total_here","_law_k","_law_lag_here"] ["_law_arcs_here","_law_chain"] (aB Et):=dS 95
 sleep 86
 refine ij h λl c A C _hi=>?_
 refine gY _hi λ_r1 hA l7 ec c7 k=>?_
 sleep 100;exists _,(af (cX 2 sc ak) (af (605 (x4 rfl B.Ko (ak<*>(126<*>ae))) 346 (af (cX 4 sc (cC DZ59 hr (108<*>((611 116 (aw hV 127 ak) 32)<*>((611 116 127 32)<*>ae))))) (af (aV 534 221 aH) (ar (cX 2 sc (614 123 134)))))) 309))
 try dsimp only[cxK]
 sleep 9;sleep 0;have lc:(C.map V.int).length=C.length:=IN _;refine (aN c _ (rfl,.inl (aF.of ec),aN _ _ (rfl,(by decide,by decide,by lia,by lia),bz (λi σ H'=>∃(o3 o4:Option V) (t:Int),σ= [LN l,LN c,some (.int t),o3,o4]/\aC H H'/\gw A C i=some t) (613 0 (rfl,.refl _,rfl)) ?_ ?_)))
 ·rintro i σ H1 hi ⟨o3,o4,t,rfl,g1,ht⟩;have hx:=I0 (show i<C.length by lia)
  have hy:=I0 (show i+1<C.length by lia)
  generalize C[i]=x at hx;generalize C[i+1]=y at hy;have st:=lO ht hx hy;have ec1:=g1 _ _ ec;refine (aM c _ _ _ (rfl,rfl,aF.of ec1,(by rw[show 1+(i:Int)-1=(i:Int) by lia];exact bg (bW hx)),aM c _ _ _ (rfl,rfl,aF.of ec1,(by rw[show 1+(i:Int)=519 by lia];exact bg (bW hy)),aM l A x y (rfl,hA.same g1,l7,λH2 g2=>?_))))
  cases hl:dB A x y with
  |none=>
   rw[hl] at st;have e:db A C=none:=jH (i:=i+1) st 41
   have:=k _ 269;rw[e] at this;exact (rfl,mB.i (dT rfl this))
  |some gg=>
   rw[hl] at st;exact (rfl,mB.i (623 (618 (rfl,g1.trans g2,st))))
 ·rintro σ H1 ⟨o3,o4,t,rfl,g1,ht⟩;have:=k _ g1;rw[show db A C=some t by rw[<-ht];unfold db;congr 1;lia] at this
  exact this
theorem GC {dV:Value} (F:bK K "_law_open" "_law_open" Eu dV f fd):604 1 f fd ["_law_tasks","_law_case_here","_law_i"] rY:=by
 have sc:aJ ["_law_tasks","_law_case_here","_law_i"] ["_law_tasks","_law_case_here","_law_i"] (aB Eu):=dS 95
 sleep 86
 refine fN h λtl t i D T P _hi=>?_
 refine fO _hi λ_r1 TC il q=>?_
 sleep 100;exists _,(af (aV (ay dX 535 aX 136) (ar (aD (611 108 123 32))) aH) (ar (aD (@bq _ _ _ _ ((611 (611 108 123 32) 535 32)<*>ae)))))
 try dsimp only[cxK]
 sleep 75;obtain ⟨vs,el,rT⟩:=id TC.tasks;obtain ⟨O,kl,ol,ec,ek,ho⟩:=TC.cs;have hT:=I0 il;obtain ⟨y,hy,wl,rfl,_,lw⟩:=rT.get hT;have hP:=I0 (show i<P.length by rw[TC.pk.len];exact il)
 have oF:bV T P i=match P[i]'(by rw[TC.pk.len];exact il) with|none=>T[i]|some j=> [(T[i]).getD j (0,0,[])]:=by
  unfold bV;rw[aL hT,aL hP];try rfl
 cases hp:P[i]'(by rw[TC.pk.len];exact il) with
 |none=>
  rw[hp] at oF hP;refine (606 (rfl,rfl,bH.of ec,rfl,aM kl _ _ _ (rfl,rfl,aF.of ek,(bg (bW hP)),rfl,mB.i (dT rfl (aM tl _ _ _ (rfl,rfl,aF.of el,(bg hy),?_))))));exact q wl H 184 (by rw[oF];exact lw)
 |some j=>
  rw[hp] at oF hP;have jl:=TC.pk.pick i j _ hP hT;sleep 189;obtain ⟨ys,ey,ry⟩:=id lw;obtain ⟨v,hv,rv⟩:=ry.get hw;refine (606 (rfl,rfl,bH.of ec,rfl,aM kl _ _ _ (rfl,rfl,aF.of ek,(bg (bW hP)),rfl,mB.i (623 (aM tl _ _ _ (rfl,rfl,aF.of el,(bg hy),aM t _ _ _ (rfl,rfl,bH.of ec,rfl,aM kl _ _ _ (rfl,rfl,aF.of ek,(bg (bW hP)),aM wl _ _ _ 415))))))))
  rw[oF] at q;exact q p2 _ (ao np2 _) (_,au,A2.one (mG rv (ao np2 _)))
theorem GD {dV:Value} (F:bK K "_law_due" "_law_due" Ev dV f fd) (DZ61:603 1 "_law_open" ["_law_tasks","_law_case_here","_law_i"] [] rY):604 2 f fd ["_law_arcs_here","_law_tasks","_law_case_here"] AX:=by
 have sc:aJ ["_law_arcs_here","_law_tasks","_law_case_here","_law_due_here","_law_i","_law_ways"] ["_law_arcs_here","_law_tasks","_law_case_here"] (aB Ev):=dS 95
 sleep 86
 refine fN h λal tl t A D T _hi=>?_
 refine iZ _hi λP O _hj=>?_
 refine lZ _hj λ_r1 _r2 a1000 hT t24 hC pk ok _hk=>?_
 refine cB _hk λpo q=>?_
 sleep 10;obtain ⟨ba,ea,ra⟩:=_r2;exists _,(af (cX 3 sc (612 186)) (af (605 (610 (126<*>ae)) 324 (af (cX 5 sc (cC DZ61 hr (116<*>(123<*>230)))) (af (cX 3 sc (aw i7 127 (@bq _ _ _ _ ((@bM _ _ _ _ _ (392<*>((614 392 ak)<*>((609 385)<*>ae))))<*>ae)))) (ar (cX 3 sc (aw i7 127 (@bq _ _ _ _ ((@bM _ _ _ _ _ ((614 392 ak)<*>(392<*>((aw hV ak (615 385))<*>ae))))<*>ae)))))))) (ar (aD (aw i7 127 (c8 (own:= "_law_pair") (ys:= []) (js:= []) rfl 107 (aQ 167) (λC fp s H=>(@bM _ _ _ _ _ ((614 (aw aY ak 118) ak)<*>((aw aY ak 118)<*>(ak<*>ae)))))))))))
 try dsimp only[cxK]
 sleep 9;sleep 0;obtain ⟨vt,et,rT⟩:=id hT;have TC:ic D H tl t T P:=(hT,(O,hC),pk,ok);obtain ⟨kl,ol,ec,ek,⟨bo,eo,ro⟩⟩:=id hC;have lv:vt.length=T.length:=rT.1;refine (aN al _ (rfl,.inl (aF.of ea),λl0 nl0=>?_))
 have g0:=ao nl0 226;have hA0:bn (aO H l0 226) l0 (A++dL T P 0):=374
 generalize aO H l0 226=H0 at g0 hA0⊢;try dsimp only[bN,cq]
 refine eC (λNq=>∀(l:Addr) (o4 o5:Option V) (H':Hp),aC H H'->bn H' l (A++dL T P T.length)->Nq [some (.ref al),some 256,some 214,some 215,o4,o5] H') 206 ?_
 ·refine (aN tl _ (rfl,.inl (aF.of (g0 _ _ et)),ν,by lia,by lia,bz (λi σ H'=>∃(l:Addr) (o4 o5:Option V),σ= [LN al,LN tl,LN t,LN l,o4,o5]/\aC H H'/\bn H' l (A++dL T P i)) (cg l0 none none (rfl,g0,hA0)) ?_ ?_))
  ·rintro i σ H1 hi ⟨l,o4,o5,rfl,g1,⟨bs,eb,rb⟩⟩;rw[IX,lv] at hi;have zi:131=(i:Int):=Jl _;have ne:=mZ (P:=P) ok hi;have ln:=jn (P:=P) ok hi;have lb:bs.length=A.length+2*i:=by rw[rb.1,IU,dh]
   refine (gj tl t i D T P (by rw[zi];rfl,TC.same g1,hi,λp H2 g2 (vs,ev,rv)=>?_))
   refine (112 49,112 49,p,rfl,(_,aF.of ev),cz 260 146 (λk=>(λw:Wy=>w.1) 251) (aF.of ev) 377 130 174 λp2 H3 np2 g3 hp2=>?_)
   ·sleep 178
    sleep 102
    sleep 159
    sleep 95
    refine cB _hl λetw _=>?_
    sleep 110;sleep 211
   obtain ⟨us,eu,ru⟩:=hp2;have eus:us=((bV T P i).map λw:Wy=>w.1).map V.int:=by
    rw[ru.val,rv.1]
    conv=>rhs;rw[<-cJ 496 402]
    rw[JB,JB,JB]
    rfl
   rw[eus] at eu;refine (aN p2 _ (rfl,aF.of eu,by simpa using ne,λM hM hle=>(by show 3<=sizeLine;decide,λt1 nt1=>(by show 1<=sizeLine;decide,λl1 nl1=>?_))))
   rw[zi,fU hM hle] at nl1⊢;sleep 208
   rw[<-hm1] at nl1⊢;sleep 231;have gl1:=ao nl1 (.lst [.ref t1]);have q4:=((g2.trans g3).trans gt1).trans gl1;refine (aM l l1 _ _ (rfl,rfl,q4 _ _ eb,au,by rw[IN];simp;lia,λl2 nl2=>?_))
   have hA4:bn (aO (aO 198 l1 (.lst [.ref t1])) l2 172) l2 (A++dL T P i++ [[2*(i:Int),2*(i:Int)+1,m1]]):=oC (rb.imp λa k q=>q4 _ _ q) (eJ.one (k:= [2*(i:Int),2*(i:Int)+1,m1]) (a:=t1) (gl1 _ _ au)) nl2
   have k5:=(g1.trans q4).trans (ao nl2 172);have g25:=((g3.trans gt1).trans gl1).trans (ao nl2 172);generalize aO (aO 198 l1 (.lst [.ref t1])) l2 172=H5 at hA4 k5 g25⊢;clear eu eus ru us gt1 q4 nt1 g3 np2 nl1 nl2 gl1;sleep 172
   have ev5:=g25 _ _ ev;refine (112 49,112 49,p,rfl,(_,aF.of ev5),cz 260 146 (λk=>(λw:Wy=>w.2.1) 251) (aF.of ev5) 377 130 174 λp3 H6 np3 g6 hp3=>?_)
   ·sleep 178
    sleep 102
    sleep 159
    sleep 95
    refine cB _hl λetw _=>?_
    sleep 110;exact (aM tw _ _ _ (rfl,rfl,bH.of ((g25.trans gk) _ _ etw),rfl,hQ _ _ 184 rfl))
   obtain ⟨us,eu,ru⟩:=hp3;have eus:us=((bV T P i).map λw:Wy=>w.2.1).map V.int:=by
    rw[ru.val,rv.1]
    conv=>rhs;rw[<-cJ 496 402]
    rw[JB,JB,JB]
    rfl
   rw[eus] at eu;refine (aN p3 _ (rfl,aF.of eu,by simpa using ne,λM2 hM2 hle2=>(by show 3<=sizeLine;decide,λt2 nt2=>(by show 1<=sizeLine;decide,λl3 nl3=>?_))))
   rw[xE hM2 hle2] at nl3⊢;have gt2:=ao nt2 (.tup [.int 137,.int 157,.int (0-oZ 237)])
   have gl3:=ao nl3 (.lst [.ref t2]);have q7:=(g6.trans gt2).trans gl3;refine (aM l2 l3 _ _ (rfl,rfl,q7 _ _ ecs,au,by rw[IN];simp;lia,λl4 nl4=>?_))
   have hA7:=oC (rcs.imp λa k q=>q7 _ _ q) (eJ.one (k:= [2*(i:Int)+1,2*(i:Int),0-oZ 237]) (a:=t2) (gl3 _ _ au)) nl4
   refine (cg l4 _ _ (rfl,(k5.trans q7).trans (ao nl4 _),?_));have e:A++dL T P 233=A++dL T P i++ [[2*(i:Int),2*(i:Int)+1,m1]]++ [[2*(i:Int)+1,2*(i:Int),0-oZ 237]]:=by
    rw[hm1,Int.zero_sub];show A++(dL T P i++_)=_;rw[Jg,Jg]
    rfl
   rw[e];exact hA7
  ·rintro σ H1 ⟨l,o4,o5,rfl,g1,hA⟩;rw[IX,lv] at hA;exact hN _ _ _ _ g1 hA
 clear hA0 g0;rintro l o4 o5 H1 g1 ⟨bs,eb,rb⟩;have lo:(bo.map V.ref).length=O.length:=by rw[IN,ro.1]
 have lb:bs.length=A.length+2*T.length:=by rw[rb.1,IU,dh]
 have o1000:=po.1;refine (606 (rfl,rfl,bH.of (617 ec),rfl,ol,rfl,(_,aF.of (617 eo)),cz (Ax λk:Ky=>k.map V.int) 146 424 (aF.of (617 eo)) 41 130 525 λlc H2 nlc g2 hc=>?_))
 ·sleep 34;have kl:k<O.length:=by rw[<-ro.1];exact (IP.mp hb).1
  sleep 146;rw[aL hk] at hQ;have ebk:=269 _ _ eb';exact (621 (rfl,rfl,bH.of ebk,rfl,112 49,aM b _ _ _ (rfl,rfl,bH.of ebk,rfl,112 49,by show 3<=sizeLine;decide,λtt ntt=>hQ _ _ (ao ntt _) (tt,rfl,.inl ntt,au))))
 have hc':=Fy hc;rw[lo] at hc';have eO:(JK O.length).map 424=jp O:=by
  unfold jp
  conv=>rhs;rw[<-cJ O []]
  rw[JB]
  rfl
 rw[eO] at hc';obtain ⟨cs,ecs,rcs⟩:=hc';have lcs:cs.length=O.length:=by rw[rcs.1];unfold jp;rw[IN]
 refine (aM l lc _ _ (rfl,rfl,g2 _ _ eb,ecs,by rw[IN,IN];lia,λlz nlz=>?_))
 exact q lz _ ((g1.trans g2).trans (ao nlz _)) (oC (rb.imp λa k q=>g2 _ _ q) rcs nlz)
theorem GE {dV:Value} (F:bK K "_law_many" "_law_many" Ew dV f fd):604 1 f fd ["_law_way","_law_name"] kD:=by
 have sc:aJ ["_law_way","_law_name","_law_tool","_law_many_here","_law_heat"] ["_law_way","_law_name"] (aB Ew):=dS 95
 sleep 86
 obtain ⟨v,z,w,rfl,⟨t,u,rfl,_,_,et,us,eu,ru⟩,q⟩:=h;exists _,(af (605 (aQ 218) (dN rfl (aP 467 225)) (ar (aV (ay fV 123 116 136) 286 aH))) (ar (aD ak)))
 try dsimp only[cxK]
 sleep 75;refine (606 (rfl,rfl,bH.of et,rfl,u,rfl,(_,aF.of eu),bO (xs:=us) (λi σ H'=>H=H'/\(∃o2 o3 o4:Option V,σ= [LN t,some 379,o2,o3,o4])/\∀(j:Nat) (x:Us),j<i->w.2.2[j]?=some x->x.1≠z) (rfl,(613 none rfl),λj x hj=>absurd hj (K8 _)) 578 ?_ ?_))
 ·rintro i y σ H1 hy ⟨rfl,⟨o2,o3,o4,rfl⟩,hn⟩;sleep 224;refine (aN a _ (rfl,bH.of ea,rfl,aN _ _ (rfl,aN _ _ (rfl,aN _ _ (rfl,rfl,rfl,d2 176 (λc=>(rfl,(618 rfl),λj x hj hx=>?_)))))))
  ·have c':e.1=z:=by injection c
   have:mH w z=some e:=rG (us:=w.2.2) he c' hn;rw[jm this] at q;exact q
  ·by_cases ji:j=i
   ·rw[ji,he] at hx;cases hx;exact λz=>c (by rw[z])
   ·exact hn j x 41 hx
 ·rintro σ H1 ⟨rfl,⟨o2,o3,o4,rfl⟩,hn⟩;rw[ru.1] at hn;have:mH w z=none:=by
   unfold mH;rw[List.find?_eq_none];intro x hx;obtain ⟨j,hj⟩:=IY.mp hx;have:=hn j x (IP.mp hj).1 hj;simp[this]
  rw[jk this] at q;exact q
theorem GF {dV:Value} (F:bK K "_law_work" "_law_work" Ex dV f fd) (DZ61:603 1 "_law_open" ["_law_tasks","_law_case_here","_law_i"] [] rY) (DZ63:603 1 "_law_many" ["_law_way","_law_name"] [] kD):604 2 f fd ["_law_tasks","_law_case_here","_law_i","_law_name"] rZ:=by
 have sc:aJ ["_law_tasks","_law_case_here","_law_i","_law_name"] ["_law_tasks","_law_case_here","_law_i","_law_name"] (aB Ex):=dS 95
 sleep 86
 refine fN h λtl t i z D T _hi=>?_
 refine fD _hi λP _hj=>?_
 refine fO _hj λ_r1 TC il q=>?_
 sleep 52;exists _,(ar (aD (609 ((c8 (own:= "_law_way") (ys:= ["_law_name"]) (js:= [3]) rfl 106 (aQ (cC DZ61 hr (108<*>(116<*>268)))) (λC fp s H=>(aw aY (cC DZ63 hr 204) 118)))<*>ae))))
 try dsimp only[cxK]
 sleep 0;have ne:=mZ (P:=P) TC.ok il;have ln:=jn (P:=P) TC.ok il;refine (gj tl t i D T P (rfl,TC,il,λp H1 g1 (vs,ev,rv)=>?_))
 refine (p,rfl,(_,aF.of ev),cz 260 146 (λk=>(λw:Wy=>bJ w z*w.1) 251) (aF.of ev) 377 130 174 λp2 H2 np2 g2 hp2=>?_)
 ·obtain ⟨w,hw,rw'⟩:=rv.at_ hy;rw[aL hw] at hQ;have rwk:=mG rw' gk;obtain ⟨tw,uw,rfl,pa,pb,etw,lw⟩:=id rwk;have w1:1<=w.1/\w.1<=1000000000:=by
   obtain ⟨ws',hws,hww⟩:=xr TC.ok TC.pk il w (IR hw);obtain ⟨a1,a2,a3,_⟩:=(TC.ok ws' hws).2.2 w hww
   lia
  exact (cg (.ref tw) z w (rfl,rwk,aM tw _ _ _ (rfl,rfl,bH.of etw,rfl,IntMulOk.of_right 171,hQ _ _ 184 rfl)))
 obtain ⟨us,eu,ru⟩:=hp2;have eus:us=((bV T P i).map λw:Wy=>bJ w z*w.1).map V.int:=by
  rw[ru.val,rv.1]
  conv=>rhs;rw[<-cJ 496 402]
  rw[JB,JB,JB]
  rfl
 sleep 194
 rw[fU hM hle,zf];exact q H2 269
theorem GG {dV:Value} (F:bK K "_law_least" "_law_least" Ey dV f fd) (DZ60:603 2 "_law_total" ["_law_arcs_here","_law_chain"] [] xi):604 3 f fd ["_law_due_here","_law_points_here","_law_chains"] uk:=by
 have sc:aJ ["_law_due_here","_law_points_here","_law_chains","_law_totals","_law_chain","_law_point"] ["_law_due_here","_law_points_here","_law_chains"] (aB Ey):=dS 95
 sleep 86
 refine ij h λl cl A N _hi=>?_
 refine fD _hi λF2 _hj=>?_
 refine gY _hj λ_r1 hA l7 hF nF _hk=>?_
 refine i3 _hk λf1 fl q=>?_
 sleep 10;exists _,(af 426 (af (605 (aQ 123) 324 (af (605 (aQ 134) 323 (ar (aV (PW.pt (dI (ay fA 154 ak 136) (dt (ay pi 154 116 136)))) 221 aH))) (ar (bQ (608 127 ((cC DZ60 hr (108<*>230))<*>ae)))))) (af (aV (ay im aX 127 138) 221 aH) (ar (aD (609 192))))))
 try dsimp only[cxK]
 sleep 69;sleep 0;have no:cx A N F2=none->∀H',aC H H'->Q .non H':=λh H' g=>by
  have:=q H' g;rw[h] at this;exact this
 sleep 234;have lf':vf.length=F2.length:=rf.1;refine (by show 0<=sizeLine;decide,λlt nlt=>?_)
 have g0:=ao nlt 132;have et0:aO H lt 132 lt=some (.lst (((F2.take 0).map (db A)).map oV)):=au;generalize aO H lt 132=H0 at g0 et0⊢;try dsimp only[bN,cq]
 refine eC (λNq=>∀(o4 o5:Option V) (H':Hp),aC H H'->H' lt=some (.lst ((F2.map (db A)).map oV))->cE N F2=true->Nq [some 215,some (.int N),some (.ref cl),some (.ref lt),o4,o5] H') (λN' hN=>?_) ?_
 ·refine (cl,rfl,(_,aF.of (g0 _ _ ef)),bO (xs:=vf) (λk σ H'=>(∃o4 o5:Option V,σ= [LN l,some (.int N),LN cl,LN lt,o4,o5])/\aC H H'/\H' lt=some (.lst (((F2.take k).map (db A)).map oV))/\cE N (F2.take k)=true) ((aN none none rfl),g0,et0,rfl) (λk σ H' _ h=>aF.of (h.2.1 _ _ ef)) ?_ ?_)
  ·rintro k y σ H1 hy ⟨⟨o4,o5,rfl⟩,g1,et,hp⟩;obtain ⟨f,hf,hc⟩:=rf.at_ hy;obtain ⟨c,rfl,_,ec⟩:=jU hc;have kl:=(IP.mp hf).1;try dsimp only[bN,cq]
   refine eC (λNq=>∀(o5:Option V),f9 N f=true->Nq [some 215,some (.int N),some (.ref cl),some (.ref lt),some (.ref c),o5] H1) (λN'' hN2=>?_) ?_
   ·refine (c,rfl,(_,aF.of (617 ec)),bO (xs:=f.map V.int) (λm σ H'=>H1=H'/\(∃o5:Option V,σ= [LN l,some (.int N),LN cl,LN lt,LN c,o5])/\f9 N (f.take m)=true) (rfl,⟨ν⟩,rfl) (λm σ H' _ h=>by rw[<-h.1];exact aF.of (617 ec)) ?_ ?_)
    ·rintro m y σ H2 hy ⟨rfl,⟨o5,rfl⟩,hm⟩;rw[IQ] at hy;obtain ⟨p,hp',rfl⟩:=IW.mp hy;have bad:¬(0<=p/\p<N)->cx A N F2=none:=λh=>by
      have:cE N F2=false:=by
       unfold cE;rw[<-K9,JE];intro hh;have h1:=hh f (IR hf);unfold f9 at h1;rw[JE] at h1;have:=h1 p (IR hp');rw[J7] at this;exact h (of_decide_eq_true this.1,of_decide_eq_true this.2)
      unfold cx;rw[this]
      rfl
     refine (d2 (λc1=>eI (no (bad λh=>by have h1:=h.1;replace c1:p<0:=c1;lia) _ g1)) (λc1=>(d2 (λc2=>no (bad λh=>by have h1:=h.2;replace c2:p≥N:=c2;lia) _ g1) (λc2=>(rfl,⟨ν⟩,?_)))))
     unfold f9 at hm⊢;rw[cL hp',List.all_append,hm,Kj,List.all_cons,List.all_nil,Bool.and_true,decide_eq_true (show 0<=p by replace c1:¬p<0:=c1;lia),decide_eq_true (show p<N by replace c2:¬p≥N:=c2;lia)]
     rfl
    ·rintro σ H2 ⟨rfl,⟨o5,rfl⟩,hm⟩;rw[IN,JX] at hm;exact hN2 _ hm
   intro o5 hm;refine (.inl (rfl,_,aF.of et),aM l c A f (rfl,hA.same g1,l7,g1 _ _ ec,fl f (IR hf),λH3 g3=>(cg lt _ _ (rfl,rfl,g3 _ _ et,?_,(aN _ _ rfl),eZ (g1.trans g3) nlt _,?_,?_))))
   ·rw[IN,IN,JH]
    lia
   ·rw[au,cL hf,JJ,JJ]
    rfl
   ·unfold cE at hp⊢;rw[cL hf,List.all_append,hp,Kj,List.all_cons,List.all_nil,Bool.and_true];exact hm
  ·rintro σ H1 ⟨⟨o4,o5,rfl⟩,g1,et,hp⟩;rw[lf',JX] at et hp;exact hN _ _ _ g1 et hp
 intro o4 o5 H1 g1 et hp;refine (aN lt _ (rfl,.inl (aF.of et),rfl,xJ _,Ck (λc1=>no (j6 c1) _ g1) 322))
 rw[lV c1] at et;refine (aN lt _ (rfl,aF.of et,by simpa using nF,λM hM hle=>?_))
 rw[fU hM hle];have e:cx A N F2=some (df A F2):=by
  unfold cx;rw[hp,iU.mpr c1]
  rfl
 have:=q _ g1;rw[e] at this;exact this
theorem GH {dV:Value} (F:bK K "_law_some" "_law_some" Ez dV f fd):604 1 f fd ["_law_tasks","_law_fronts","_law_backs"] xI:=by
 have sc:aJ ["_law_tasks","_law_fronts","_law_backs","_law_some_here","_law_k","_law_last"] ["_law_tasks","_law_fronts","_law_backs"] (aB Ez):=dS 95
 sleep 86
 refine fN h λtl lf lb T F2 G _hi=>?_
 refine gY _hi λ_r1 hT t24 hF hG _hj=>?_
 refine i3 _hj λf1 g1' q=>?_
 sleep 52;exists _,(af 426 (af (605 (610 (126<*>ae)) 324 (af (aV (PW.pt (dI (ay pi 134 202 136) (dI (ay 546 (611 116 134 32) 125 136) (dt (ay 546 (611 123 134 32) 125 136))))) (ar (aD 125)) aH) (af (cX 5 sc (611 (611 116 134 32) 416 32)) (af (aV (PW.pt (dI (ay kg 154 (ja (hd:=none) (own:= "_law_i") (ys:= []) (js:= []) hr.hd 107 (fh rfl B.Ko (119<*>ae)) (λC fp s H=>(aw aY ak 108))) 138) (dI (ay fW (611 (611 123 134 32) ak 32) (614 154 ak) 136) (dt (ay im (aw bv 154 ak) 127 138))))) (ar (aD 125)) aH) (ar (bQ (608 127 ((aw bv 154 ak)<*>ae)))))))) (af (aV (ay fW 126 202 136) (ar (aD 125)) aH) 286)))
 try dsimp only[cxK]
 sleep 69;sleep 0;obtain ⟨vt,et,rT⟩:=id hT;sleep 234;obtain ⟨vg,eg,rg⟩:=id hG;have lT:vt.length=T.length:=rT.1;sleep 241;have no:bS T.length F2 G=false->∀H',aC H H'->∀p,H' p=none->Q 148 (aO H' p 132):=λh H' g p np=>by
  refine q p _ (g.trans 393) ?_;rw[h,au]
  rfl
 refine (by show 0<=sizeLine;decide,λls nls=>?_)
 have g0:=ao nls 132;have es0:aO H ls 132 ls=some (.lst (((F2.take 0).map cW).map V.int)):=au;generalize aO H ls 132=H0 at g0 es0⊢;try dsimp only[bN,cq]
 refine eC (λNq=>∀(o4 o5:Option V) (H':Hp),aC H H'->H' ls=some (.lst ((F2.map cW).map V.int))->(F2.map cW).Nodup->F2.length<=G.length->(∀(i:Nat) (f b:List Int),F2[i]?=some f->G[i]?=some b->c6 T.length f b=true)->Nq [some 256,some 514,some 570,some 371,o4,o5] H') (λN' hN=>?_) ?_
 ·refine (aN lf _ (rfl,.inl (aF.of (g0 _ _ ef)),ν,by lia,by lia,bz (λk σ H'=>(∃o4 o5:Option V,σ= [LN tl,LN lf,LN lb,LN ls,o4,o5])/\aC H H'/\H' ls=some (.lst (((F2.take k).map cW).map V.int))/\((F2.take k).map cW).Nodup/\k<=G.length/\∀(i:Nat) (f b:List Int),i<k->F2[i]?=some f->G[i]?=some b->c6 T.length f b=true) ((aN none none rfl),g0,es0,KL,JT _,λi f b h=>absurd h (K8 _)) ?_ ?_))
  ·rintro k σ H1 hk ⟨⟨o4,o5,rfl⟩,g1,es,nd,kG,ok⟩;rw[IX,lF] at hk;have zk:(0+(k:Int))=(k:Int):=Jl _;have hf:=I0 hk;generalize F2[k]=f at hf;obtain ⟨v,hv,c⟩:=rf.get hf;obtain ⟨cf,rfl,_,ecf⟩:=jU c;have badz:hJ T.length F2 G=false->bS T.length F2 G=false:=λh=>by unfold bS;rw[h];simp
   refine (aN lb _ (rfl,.inl (aF.of (617 eg)),d2 (λc1=>eI ?_) 322))
   ·refine (by show 0<=sizeLine;decide,λp np=>no (badz ?_) _ g1 p np)
    rw[<-K9,cy];intro h;have:=h.1;replace c1:(0+(k:Int))≥(vg.length:Int):=c1
    lia
   have kl:k<G.length:=by
    replace c1:¬(0+(k:Int))≥(vg.length:Int):=c1
    lia
   have hb:=I0 kl;generalize G[k]=b at hb;obtain ⟨w,hw,c⟩:=rg.get hb;obtain ⟨cb,rfl,_,ecb⟩:=jU c;have bad:c6 T.length f b=false->bS T.length F2 G=false:=λh=>badz (by
    rw[<-K9,cy];intro hz;have:=hz.2 k f b hf hb;rw[h] at this;cases this)
   refine (aM lf _ _ _ (rfl,rfl,aF.of (617 ef),(cT hv),by show 0<=sizeLine;decide,λp0 np0=>?_))
   have h0:=g1.trans (ao np0 132);refine (cg cf p0 _ (rfl,rfl,aF.of (h0 _ _ ecf),aF.of au,mB.i ?_));have es1:=ao np0 132 _ _ es;generalize aO H1 p0 132=H2 at h0 es1⊢
   by_cases ff:f= []
   ·subst ff;refine eI (eI (by show 0<=sizeLine;decide,λp np=>no (bad rfl) _ h0 p np))
   have fe:(f.map V.int).isEmpty=false:=by cases f with|nil=>exact absurd rfl ff|cons _ _=>rfl
   rw[fe];refine gI (aM lb _ _ _ (rfl,rfl,aF.of (h0 _ _ eg),(cT hw),by show 0<=sizeLine;decide,λp1 np1=>?_))
   have h1:=h0.trans (ao np1 132);refine (cg cb p1 _ (rfl,rfl,aF.of (h1 _ _ ecb),aF.of au,mB.i ?_));have es2:=ao np1 132 _ _ es1;generalize aO H2 p1 132=H3 at h1 es2⊢
   by_cases bb:b= []
   ·subst bb;refine eI (by show 0<=sizeLine;decide,λp np=>no (bad (by unfold c6;simp)) _ h1 p np)
   have be:(b.map V.int).isEmpty=false:=by cases b with|nil=>exact absurd rfl bb|cons _ _=>rfl
   rw[be];refine gI (aM lf _ _ _ (rfl,rfl,aF.of (h1 _ _ ef),(cT hv),ν,aM cf _ _ _ (rfl,rfl,aF.of (h1 _ _ ecf),(kH ff),?_)));have badd:¬(434/\iC b=cU f+1)->bS T.length F2 G=false:=λh=>bad (by
    unfold c6;rw[<-Bool.decide_and,decide_eq_false h,Bool.and_false])
   refine (aN tl _ (rfl,.inl (aF.of (h1 _ _ et)),ν,by lia,by lia,jg 260 146 (λi=>2*(i:Int)) jM.no 41 130 (λi hi Hk gk Q' hQ=>?_) λl2 H4 nl2 g4 hl2=>?_))
   ·exact (112 49,hQ _ _ 184 (by show V.int (2*131)=_;rw[Jl]))
   obtain ⟨ve,ee,re⟩:=hl2;rw[re.val] at ee;have h4:=h1.trans g4;refine (aN l2 _ (rfl,.inl (aF.of ee),rfl,AN _,mB.i ?_));rw[if_pos rfl,rQ];have inn:cU f∈(JK (vt.length:Int).toNat).map (λi:Nat=>2*(i:Int))↔(cU f=2*cW f/\0<=cW f/\cW f<109):=by
    rw[J2];constructor
    ·rintro ⟨i,hi,e⟩;have hi':=JZ.mp hi;rw[IX,lT] at hi';have:cW f=(i:Int):=by
      unfold cW;rw[<-e,Kc _ 49]
      lia
     lia
    ·rintro ⟨e1,e2,e3⟩;exact ((cW f).toNat,JZ.mpr (by rw[IX,lT];lia),by lia)
   refine n2 (λc2=>eI (by show 0<=sizeLine;decide,λp np=>no (badd λh=>c2 (inn.mpr h.1)) _ h4 p np)) 258
   have in2:=inn.mp c2;refine (aM lb _ _ _ (rfl,rfl,aF.of (h4 _ _ eg),(cT hw),aM cb _ _ _ (rfl,rfl,aF.of (h4 _ _ ecb),(xH bb),rfl,BP (λc3=>eI (by show 0<=sizeLine;decide,λp np=>no (badd λh=>c3 h.2) _ h4 p np)) (λc3=>?_))))
   have es4:=g4 _ _ es2;refine (129,aN ls _ (rfl,.inl (aF.of es4),rfl,AN _,HK (λc4=>?_) (λc4=>?_)))
   ·refine (by show 0<=sizeLine;decide,λp np=>no ?_ _ h4 p np)
    have:¬(F2.map cW).Nodup:=λh=>by
     have hh:(F2.take 314).map cW=(F2.take k).map cW++ [cW f]:=by rw[cL hf,JJ];rfl
     have:((F2.take 314).map cW).Nodup:=by
      rw[List.map_take];exact h.sublist (List.take_sublist _ _)
     rw[hh,KP] at this;exact this.2.2 _ c4 _ (J4.mpr rfl) rfl
    unfold bS;rw[decide_eq_false this];simp
   refine (.inl (rfl,_,aF.of es4),129,cg ls _ _ (rfl,rfl,es4,by rw[IN,IN,JH];lia,(aN _ _ rfl),eZ h4 nls _,?_,?_,by lia,λi f' b' hi h5 h6=>?_))
   ·rw[au,cL hf,JJ,JJ]
    rfl
   ·rw[cL hf,JJ];refine KP.mpr (nd,by simp,λa ha b hb=>?_)
    replace hb:b=cW f:=by simpa using hb
    rw[hb];exact λz=>c4 (by rw[show (cU f).fdiv 2=cW f from rfl,<-z];exact ha)
   ·by_cases ck:i<k
    ·exact ok i f' b' ck h5 h6
    ·have:i=k:=by lia
     subst this;rw[hf] at h5;rw[hb] at h6;cases h5;cases h6;unfold c6;rw[decide_eq_true in2,decide_eq_true c3];simp[ff,bb]
  ·rintro σ H1 ⟨⟨o4,o5,rfl⟩,g1,es,nd,kG,ok⟩;rw[IX,lF,JX] at es nd;rw[IX,lF] at kG ok;exact hN _ _ _ g1 es nd kG (λi f b h1 h2=>ok i f b (IP.mp h1).1 h1 h2)
 intro o4 o5 H1 g1 es nd kG ok;refine (aN lf _ (rfl,.inl (aF.of (617 ef)),aN lb _ (rfl,.inl (aF.of (617 eg)),rfl,BP (λc=>(by show 0<=sizeLine;decide,λp np=>no ?_ _ g1 p np)) 176)))
 ·have:hJ T.length F2 G=false:=by
   rw[<-K9,cy];exact λh=>c (by rw[lF,lG,h.1])
  unfold bS;rw[this];simp
 refine (q ls _ g1 ?_);rw[es];have zk:hJ T.length F2 G=true:=cy.mpr (by lia,ok)
 cases F2 with
 |nil=>rfl
 |cons f F3=>
  have:bS T.length (f::F3) G=true:=by
   unfold bS;rw[zk,decide_eq_true nd]
   rfl
  rw[if_pos this]
theorem GI {dV:Value} (F:bK K "_law_stretch" "_law_stretch" EA dV f fd) (DZ64:603 2 "_law_work" ["_law_tasks","_law_case_here","_law_i","_law_name"] [] rZ) (DZ65:603 3 "_law_least" ["_law_due_here","_law_points_here","_law_chains"] [] uk) (DZ66:603 1 "_law_some" ["_law_tasks","_law_fronts","_law_backs"] [] xI):604 4 f fd ["_law_tools_here","_law_tasks","_law_case_here","_law_due_here","_law_points_here","_law_row"] oG:=by
 have sc:aJ ["_law_tools_here","_law_tasks","_law_case_here","_law_due_here","_law_points_here","_law_row","_law_tool","_law_fronts","_law_backs","_law_some_here","_law_head","_law_tail","_law_work_here"] ["_law_tools_here","_law_tasks","_law_case_here","_law_due_here","_law_points_here","_law_row"] (aB EA):=dS 95
 sleep 86
 refine zu h λtd tl t dl row N z lf lb _hi=>?_
 refine fN _hi λD T P A F2 G _hj=>?_
 refine lZ _hj λ_r1 ed TC t24 dok hA l7 er _hk=>?_
 refine gY _hk λhF hG f1 g1' fl _hl=>?_
 refine cB _hl λgl q=>?_
 sleep 103;exists _,(af (kK 154 (dN rfl (aP (iH (i:=6) sc.nd rfl 187) (aP (da 7 sc) (aP (da 8 sc) cS))))) (af (cX 9 sc (cC DZ66 hr (116<*>(365<*>382)))) (af (aV (PW.pt (dI (ay 546 464 125 136) (dt (qI (jw 505 254 108) 138)))) 221 aH) (af (cX 10 sc (cC DZ65 hr (127<*>(134<*>(365<*>ae))))) (af (cX 11 sc (cC DZ65 hr (127<*>(134<*>382)))) (af (aV (PW.pt (dI (ay dX (pv 10) aX 136) (dt (ay dX (pv 11) aX 136)))) 221 aH) (af (cX 12 sc (aA (qE rfl) rfl B.Lw PyProof.Rows.Boot.«sum» ((c8 (own:= "_law_i") (ys:= ["_law_tasks","_law_case_here","_law_tool"]) (js:= [1,2,6]) rfl 139 (aQ 464) (λC fp s H=>(cC DZ64 hr 370)))<*>ae))) (ar (aD (aw hV (614 (pv 10) (pv 11)) (aw bv (gZ fr (pv 12)) (jv 505 108 254 32))))))))))))
 try dsimp only[cxK]
 sleep 97;sleep 0;have no:gi D T P A N z F2 G=none->∀H',aC H H'->Q .non H':=λh H' g=>by
  have:=q H' g;rw[h] at this;exact this
 refine (aN row _ (rfl,bH.of er,rfl,aN _ _ 190));refine (gj tl lf lb T F2 G (rfl,TC.tasks,t24,hF,hG,f1,g1',λls H1 g1 es=>?_))
 refine (by show 0<=sizeLine;decide,λp0 np0=>?_)
 have h0:=g1.trans (ao np0 132);have es0:=ao np0 132 _ _ es;refine (cg ls p0 _ (rfl,rfl,aF.of es0,aF.of au,mB.i ?_));generalize aO H1 p0 132=H2 at h0 es0⊢;cases tk:bS T.length F2 G with
 |false=>
  rw[tk] at es0;refine eI (eI (no ?_ _ h0));unfold gi;rw[tk]
  rfl
 |true=>
  rw[tk,if_pos rfl] at es0;sleep 165
  have ne:(((if true=true then F2.map cW else []).map V.int)).isEmpty=false:=by
   rw[if_pos rfl];cases F2 with
   |nil=>exact absurd rfl nF
   |cons _ _=>rfl
  rw[ne];refine gI ?_;have ed2:=h0 _ _ ed;cases hm:cP D z with
  |none=>
   refine (aN td _ (rfl,AY (.inl ed2) hm,(no ?_ _ h0)));unfold gi;rw[hm]
   split<;>rfl
  |some m=>
   obtain ⟨m1,m8⟩:1<=m/\m<=8:=by
    obtain ⟨p,hp,e⟩:=um hm;have:=dok p hp;rw[e] at this;exact this
   refine (aN td _ (rfl,j2 (.inl ed2) hm,mB.i (gI ?_)));refine (aM dl lf A N (F2,(rfl,hA.same h0,l7,hF.same h0,nF,f1,fl,λH3 g3=>?_)))
   have h3:=h0.trans g3;refine (aM dl lb A N (G,(rfl,hA.same h3,l7,hG.same h3,nG,g1',gl,λH4 g4=>?_)))
   have h4:=h3.trans g4;have no2:cx A N F2=none∨cx A N G=none->∀H',aC H H'->Q .non H':=λh=>no (jK h)
   cases e1:cx A N F2 with
   |none=>exact ⟨rfl,mB.i (dT rfl (eI (no2 (.inl e1) _ h4)))⟩
   |some hd=>
    cases e2:cx A N G with
    |none=>exact ⟨rfl,mB.i (623 ⟨rfl,mB.i (dT rfl (no2 (.inr e2) _ h4))⟩)⟩
    |some tt=>
     refine ⟨rfl,mB.i (623 ⟨rfl,mB.i (dF nofun ?_)⟩)⟩;have es4:=(g3.trans g4) _ _ es0;refine (ls,rfl,(_,aF.of es4),cz 260 146 (λk=>cZ T P (cW 457).toNat z) (aF.of es4) (by rw[IN,IN];lia) 130 174 λlw H6 nlw g6 hw=>?_)
     ·sleep 54
      rw[ej,IX] at hQ;exact (gj tl t j z D T (P,(by rw[ej];rfl,TC.same (h4.trans gk),jl,λH' g'=>hQ _ _ g' rfl)))
     obtain ⟨ww,ew,rw'⟩:=hw;rw[rw'.val] at ew;have eW:344=F2.map λf=>cZ T P (cW f).toNat z:=by
      rw[IN,IN]
      conv=>rhs;rw[<-cJ F2 []]
      rw[JB]
      rfl
     rw[eW] at ew;refine (aN lw _ (rfl,aF.of ew,?_));have h6:=h4.trans g6;refine (ν,aN td _ (rfl,j2 (.inl (h6 _ _ ed)) hm,315,?_))
     have e:gi D T P A N z F2 G=some (hd+tt-(-(jq T P z F2)).fdiv m):=by
      unfold gi;rw[if_pos tk,hm,e1,e2];show some _=some _
      congr 1
     have:=q _ h6;rw[e] at this;exact this
theorem GJ {dV:Value} (F:bK K "_law_front" "_law_front" EB dV f fd) (DZ45:603 1 "_law_mixed" ["_law_cell","_law_k"] [] jJ):604 2 f fd ["_law_due_here","_law_cell","_law_i"] ur:=by
 have sc:aJ ["_law_due_here","_law_cell","_law_i","_law_chain","_law_k","_law_ahead"] ["_law_due_here","_law_cell","_law_i"] (aB EB):=dS 95
 sleep 86
 refine ij h λdl c i due _hi=>?_
 refine fD _hi λn _hj=>?_
 refine fO _hj λ_r1 _r2 _r3 _hk=>?_
 refine cB _hk λi2 q=>?_
 sleep 10;obtain ⟨ba,ea,ra⟩:=_r2;obtain ⟨d2000,tr⟩:=_r3;exists _,(af (616 (@bq _ _ _ _ ((aw aY ak 123)<*>ae))) (af (605 (610 ((620 116 ak)<*>ae)) 324 (af (jy sc.nd (i:=5) rfl rfl (own:= "_law_row") (ys:= ["_law_chain"]) (js:= [3]) rfl 106 357 (λC fp s H=>(ay fV 118 (av 366 116 ak 32) 136)) 229) (ar (aV (ay (lY hr.units0) 154 125 136) (ar (616 (aw i7 (@bq _ _ _ _ ((611 154 (620 (cC DZ45 hr (116<*>230)) 397) 32)<*>ae)) 127))) aH)))) 286))
 try dsimp only[cxK]
 sleep 9;sleep 0;have lba:(ba.map V.ref).length=due.length:=by rw[IN,ra.1]
 sleep 197
 have g0:=ao nl0 (.lst [.int 157]);have e0:aO H l0 (.lst [.int 157]) l0=some (.lst (([2*(i:Int)]:List Int).map V.int)):=au;generalize aO H l0 (.lst [.int 157])=H0 at g0 e0⊢;have m4:=fm (a:=c) (n:=4) 49
 refine (250,ν,by lia,by lia,bz (λj σ H'=>∃(l:Addr) (o4 o5:Option V) (C:List Int),σ= [LN dl,some 380,some (.int (i:Int)),LN l,o4,o5]/\H l=none/\aC H H'/\H' l=some 321/\C.length<=j+1/\((∃D,C=D++ [2*(i:Int)])/\∃x D,C=x::D)/\(∀p∈C,0<=p/\p<n)/\fc due C) (aM l0 none none [2*(i:Int)] 354) ?_ ?_)
 ·intro j σ H1 hj h_;sleep 186
  sleep 136
  sleep 220
  sleep 14;obtain ⟨⟨D0,hD0⟩,x,D1,hx⟩:=sh;have atx:gD (C.map V.int) 0=some (.int x):=by rw[hx];exact bg (j:=0) rfl
  refine (dl,rfl,(_,aF.of (617 ea)),jC 260 146 276 443 (aF.of (617 ea)) 41 130 (λk y hy H2 g2 S' hS=>?_) (λk y hy _ H2 g2 Q' hQ=>?_) λlh H2 nlh g2 hh=>?_)
  ·sleep 34;sleep 96
   sleep 41;rw[aL hk] at hS;exact (621 (rfl,rfl,bH.of (269 _ _ eb),rfl,aM l _ _ _ 581))
  ·sleep 34;sleep 96
   sleep 41;sleep 144
  obtain ⟨us,eu,ru⟩:=hh;rw[ru.val,lba] at eu;have mem:∀z∈cO due.length 276 443,∃g,[z,x,g]∈due:=λz hz=>by
   sleep 90;sleep 184;replace e:q'=x:=e;rw[e] at m;exact (g,m)
  generalize cO due.length 276 443=W at eu mem
  sleep 230
  sleep 70;cases W with
  |nil=>exact gI 361
  |cons w W2=>
   sleep 200
   have lw:((w::W2).map V.int).length=W2.length+1:=by rw[IN];rfl
   rw[lw];have mv:=fm (a:=v) (n:=231) 41
   sleep 175
   have az:gD ((w::W2).map V.int) (v.fmod 231)=some (.int 575):=by
    have:=bg (624 hz);rw[Jv mv.1] at this;exact this
   sleep 85
   refine fO _hi λek b1 b2 _hj=>?_
   refine cB _hj λb3 b4=>?_
   refine (by lia,aM lh _ _ _ (rfl,rfl,aF.of (ge _ _ eu),az,by show 1<=sizeLine;decide,λl1 nl1=>(aM l1 l _ _ (rfl,rfl,au,ao nl1 _ _ _ el3,by rw[IN];simp;lia,λl2 nl2=>?_))))
   have gz:=(ao nl1 (.lst [.int z])).trans (ao nl2 (.lst ([.int z]++C.map V.int)));refine (aM l2 _ _ (z::C) (rfl,(k3.trans (ao nl1 _)).free nl2,k3.trans gz,by rw[au];rfl,by rw[JN];lia,((z::D0,by rw[hD0];rfl),aN z C rfl),λy hy=>?_,?_))
   ·rcases IZ.mp hy with e|e
    ·rw[e];have:z=p':=by injection ek
     rw[this];exact (b1,b2)
    ·exact okC y e
   ·rw[hx] at ai⊢;exact ((g',mz),ai)
 ·sleep 205;sleep 186
  sleep 136
  sleep 220
  sleep 14;exact (q l C H1 nl g1 el 41 sh.1 okC ai)
theorem GK {dV:Value} (F:bK K "_law_back" "_law_back" EC dV f fd) (DZ45:603 1 "_law_mixed" ["_law_cell","_law_k"] [] jJ):604 2 f fd ["_law_due_here","_law_cell","_law_i"] xK:=by
 have sc:aJ ["_law_due_here","_law_cell","_law_i","_law_chain","_law_k","_law_ahead"] ["_law_due_here","_law_cell","_law_i"] (aB EC):=dS 95
 sleep 86
 refine ij h λdl c i due _hi=>?_
 refine fD _hi λn _hj=>?_
 refine fO _hj λ_r1 _r2 _r3 _hk=>?_
 refine cB _hk λi2 q=>?_
 sleep 10;obtain ⟨ba,ea,ra⟩:=_r2;obtain ⟨d2000,tr⟩:=_r3;exists _,(af (616 (@bq _ _ _ _ ((614 (aw aY ak 123) ak)<*>ae))) (af (605 (610 ((620 116 ak)<*>ae)) 324 (af (jy sc.nd (i:=5) rfl rfl (own:= "_law_row") (ys:= ["_law_chain"]) (js:= [3]) rfl 106 357 (λC fp s H=>(ay fV 118 (av 366 116 416 32) 136)) 229) (ar (aV (ay (lY hr.units0) 154 125 136) (ar (616 (aw i7 127 (@bq _ _ _ _ ((611 154 (620 (cC DZ45 hr (116<*>((614 ak 134)<*>ae))) 397) 32)<*>ae))))) aH)))) 286))
 try dsimp only[cxK]
 sleep 9;sleep 0;have lba:(ba.map V.ref).length=due.length:=by rw[IN,ra.1]
 sleep 197
 have g0:=ao nl0 (.lst [.int 137]);have e0:aO H l0 (.lst [.int 137]) l0=some (.lst (([2*(i:Int)+1]:List Int).map V.int)):=au;generalize aO H l0 (.lst [.int 137])=H0 at g0 e0⊢;have m4:=fm (a:=c) (n:=4) 49
 refine (250,ν,by lia,by lia,bz (λj σ H'=>∃(l:Addr) (o4 o5:Option V) (C:List Int),σ= [LN dl,some 380,some (.int (i:Int)),LN l,o4,o5]/\H l=none/\aC H H'/\H' l=some 321/\C.length<=j+1/\((∃D,C=(2*(i:Int)+1)::D)/\∃x D,C=D++ [x])/\(∀p∈C,0<=p/\p<n)/\fc due C) (aM l0 none none [2*(i:Int)+1] 354) ?_ ?_)
 ·intro j σ H1 hj h_;sleep 186
  sleep 136
  sleep 220
  sleep 14;obtain ⟨⟨D0,hD0⟩,x,D1,hx⟩:=sh;have atx:gD (C.map V.int) (-1)=some (.int x):=by rw[hx,JJ];exact sE _ _
  refine (dl,rfl,(_,aF.of (617 ea)),jC 260 146 277 442 (aF.of (617 ea)) 41 130 (λk y hy H2 g2 S' hS=>?_) (λk y hy _ H2 g2 Q' hQ=>?_) λlh H2 nlh g2 hh=>?_)
  ·sleep 34;sleep 96
   sleep 41;rw[aL hk] at hS;exact (621 (rfl,rfl,bH.of (269 _ _ eb),rfl,ν,aM l _ _ _ 581))
  ·sleep 34;sleep 96
   sleep 41;sleep 144
  obtain ⟨us,eu,ru⟩:=hh;rw[ru.val,lba] at eu;have mem:∀z∈cO due.length 277 442,∃g,[x,z,g]∈due:=λz hz=>by
   sleep 90;sleep 184;replace e:p=x:=e;rw[e] at m;exact (g,m)
  generalize cO due.length 277 442=W at eu mem
  sleep 230
  sleep 70;cases W with
  |nil=>exact gI 361
  |cons w W2=>
   sleep 200
   have lw:((w::W2).map V.int).length=W2.length+1:=by rw[IN];rfl
   rw[lw];have mv:=fm (a:=v) (n:=231) 41
   sleep 175
   have az:gD ((w::W2).map V.int) (v.fmod 231)=some (.int 575):=by
    have:=bg (624 hz);rw[Jv mv.1] at this;exact this
   sleep 85
   refine fO _hi λek b1 b2 _hj=>?_
   refine cB _hj λb3 b4=>?_
   refine (by lia,aM lh _ _ _ (rfl,rfl,aF.of (ge _ _ eu),az,by show 1<=sizeLine;decide,λl1 nl1=>(aM l l1 _ _ (rfl,rfl,ao nl1 _ _ _ el3,au,by rw[IN];simp;lia,λl2 nl2=>?_))))
   have gz:=(ao nl1 (.lst [.int z])).trans (ao nl2 (.lst (C.map V.int++ [.int z])));refine (aM l2 _ _ (C++ [z]) (rfl,(k3.trans (ao nl1 _)).free nl2,k3.trans gz,by rw[au,JJ];rfl,by rw[IU];simp;lia,((D0++ [z],by rw[hD0];rfl),aN z C rfl),λy hy=>?_,?_))
   ·rcases JA.mp hy with e|e
    ·exact okC y e
    ·rw[J4.mp e];have:z=q'':=by injection ek with _ ek;injection ek
     rw[this];exact (b3,b4)
   ·rw[hx] at ai⊢;exact fc.snoc mz ai
 ·sleep 205;sleep 186
  sleep 136
  sleep 220
  sleep 14;exact (q l C H1 nl g1 el 41 sh.1 okC ai)
theorem GL {dV:Value} (F:bK K "_law_order" "_law_order" ED dV f fd):604 1 f fd ["_law_many_here","_law_cell"] uA:=by
 have sc:aJ ["_law_many_here","_law_cell","_law_some_here","_law_k","_law_i"] ["_law_many_here","_law_cell"] (aB ED):=dS 95
 sleep 86
 obtain ⟨m,c,rfl,m1,m4,q⟩:=h;exists _,(af 427 (af (605 (610 186) 346 (af (cX 4 sc (620 (614 116 (aw aY 127 (614 ak (620 (aw bv 116 ak) ak)))) 108)) (ar (aV (PW.pt (eQ (ay kg 134 123 138) (dM (ay fW (620 (aw bv (aw bv 116 ak) (614 127 ak)) ak) ak 136)))) (ar (bQ (608 123 230))) aH)))) 309))
 try dsimp only[cxK]
 sleep 9;sleep 0;sleep 32
 sleep 28;refine (m,rfl,by lia,by lia,bz (λi σ H'=>∃(o3 o4:Option V) (S2:List Int),σ= [some 311,some 380,LN l,o3,o4]/\aC H H'/\H' l=some (.lst (S2.map V.int))/\S2.length<=i/\(∀j∈S2,0<=j/\j<m)/\S2.Nodup) (613 [] (rfl,g0,e0,IT _,(λj hj=>by cases hj),KL)) ?_ ?_)
 ·intro i σ H1 hi h_;refine j8 h_ λo3 o4 S2 _hi=>?_
  refine gY _hi λ_r1 g1 e1 l1 rg nd=>?_
  sleep 131;have mm:=fm (a:=(c+131*(1+(c.fdiv 4).fmod 3))) (n:=m) 41
  have m3:=fm (a:=c.fdiv 4) (n:=3) 49
  exists 129,178,112 171,by lia
  refine (aN l _ (rfl,.inl (aF.of e1),rfl,AN S2,mB.i ?_));rw[if_pos rfl,rQ];refine n2 322 (λc1=>(cg _ _ S2 (rfl,g1,e1,by lia,rg,nd)))
  refine (129,315,250,rfl,n2 258 (λc2=>(cg _ _ S2 (rfl,g1,e1,by lia,rg,nd))))
  refine ⟨.inl (rfl,_,aF.of e1),l,ω,e1,by rw[IN];lia,_,_,S2++ [(c+131*(1+(c.fdiv 4).fmod 3)).fmod m],rfl,eZ g1 nl _,?_,by rw[IU];simp;lia,λj hj=>by
   rcases JA.mp hj with z|z
   ·exact rg j z
   ·rw[J4.mp z];exact mm,KP.mpr ⟨nd,by simp,λa ha b hb=>by
    rw[J4.mp hb];exact λz=>c1 (by rw[<-z];exact ha)⟩⟩
  rw[au,JJ]
  rfl
 ·sleep 205;refine j8 h_ λo3 o4 S2 _hi=>?_
  refine gY _hi λ_r1 g1 e1 l1 rg nd=>?_
  sleep 131;exact (q l S2 H1 g1 e1 41 rg nd)
theorem GM {dV:Value} (F:bK K "_law_best" "_law_best" EE dV f fd) (DZ42:603 6 "best_stretch" ["net","case"] [] (Bf IO)) (DZ44:603 1 "_law_whole" ["_law_found"] [] wH) (DZ64:603 2 "_law_work" ["_law_tasks","_law_case_here","_law_i","_law_name"] [] rZ) (DZ67:603 4 "_law_stretch" ["_law_tools_here","_law_tasks","_law_case_here","_law_due_here","_law_points_here","_law_row"] [] oG):604 7 f fd ["_law_net","_law_tools_here","_law_tasks","_law_case_here","_law_due_here","_law_at"] (xQ IO):=by
 have sc:aJ ["_law_net","_law_tools_here","_law_tasks","_law_case_here","_law_due_here","_law_at","_law_found","_law_name","_law_i","_law_wanted","_law_front_here"] ["_law_net","_law_tools_here","_law_tasks","_law_case_here","_law_due_here","_law_at"] (aB EE):=dS 95
 sleep 86
 refine zu h λx t td tl dl lat D T A _hi=>?_
 refine fN _hi λB2 n P O Rr S2 _hj=>?_
 refine i3 _hj λ_r1 h6 q=>?_
 sleep 52;exists _,(af (cX 6 sc (cC DZ42 hr (108<*>192))) (af (aV (ay dX 254 aX 136) (af (u7 (605 (wM 116) (da 7 sc) (ar (605 (610 (202<*>ae)) (da 8 sc) (ar (aV (ay gC (cC DZ64 hr (123<*>(127<*>((pv 8)<*>(365<*>ae))))) ak 136) 208 aH)))))) 208) aH) (af (aV (PW.pt (dI (dv (eY (aA (lX (K:=K) rfl) rfl B.Kv boot_isinstance (254<*>((j9 (v:= .ty "tuple") rfl B.Lv boot_tuple rfl)<*>ae))))) (dI (ay fW 395 ak 136) (dt (dv (eY (cC DZ44 hr (378<*>ae)))))))) 208 aH) (af (cX 9 sc (cC DZ67 hr (116<*>(123<*>(127<*>(134<*>(397<*>((fX C3 254 (gG ak) iJ)<*>ae)))))))) (af (aV (PW.pt (dI (dv (eY (aA (lX (K:=K) rfl) rfl B.Kv boot_isinstance (378<*>531)))) (dt (ay fW 378 464 136)))) 208 aH) (af (605 (aQ 378) (da 10 sc) (ar (aV (ay dJ (cC DZ64 hr (123<*>(127<*>((aw bv (611 (pv 10) 416 32) ak)<*>(378<*>ae))))) ak 136) 208 aH))) (ar (aD (jt dJ 378 (615 (154<*>ae)) 136)))))))))
 try dsimp only[cxK]
 refine IL ?_;intro D' r6 r5 r4 r3 r2 r1;sleep 0;have eN:521=2*109+n:=by have:=h6.nc.ok.n0;lia
 refine (aN x t (rfl,gj D T A B2 n P (O,(h6.nc,h6.po,h6.l7,h6.tk,h6.nc.ok.n0,h6.nc.ok.n8,λc H' g rg=>(rg.no h6.keep).elim,λtm ts v H1 g1 kp nn hc kpt nnt hb ba=>?_))))
 have h1:=h6.same g1;rcases ba with ⟨rfl,no⟩|⟨tb,z,lf,lb,F2,G,total,m,f,k,U,rfl,etb,hF,hG,hm,uo,fu,lF,lG,each,_⟩
 ·try dsimp only[bN,cq]
  refine (rfl,mB.i (dT rfl ?_));have ed2:=h1.ed;refine (aN td _ (rfl,ed2,λo nf=>?_))
  sleep 214;have sq:=lD (o:=o) ed2;obtain ⟨O',cl,co,ec,ek,eo⟩:=h1.tc.cs;have TCf:ic D (aO H1 td 419) tl t T P:=(h1.tc.tasks.sq sq,(cg O' cl co (sq _ _ rfl ec,sq _ _ rfl ek,eo.sq sq)),h1.tc.pk,h1.tc.ok);have thaw:∀{H':Hp},aC (aO H1 td 419) H'->aC H1 (aO H' td 156):=λg=>lE ed2 g
  generalize aO H1 td 419=Hf at ef TCf thaw⊢;clear sq;refine sQ (λk σ H'=>aC Hf H'/\∃o7 o8:Option V,σ= [LN x,LN td,LN tl,LN t,LN dl,LN lat,some .non,o7,o8,none,none]) 302 499 ?_ ?_
  ·rintro k ky y σ H3 hk ⟨g3,o7,o8,rfl⟩;obtain ⟨p,hpp,rfl,rfl⟩:=n6 hk;obtain ⟨vt,et,rT⟩:=(TCf.same g3).tasks;have lT:vt.length=T.length:=rT.1;have t24:=h6.nc.ok.t24;try dsimp only[bN,cq]
   refine (aN tl _ (rfl,.inl (aF.of et),ν,by lia,by lia,bz (λi σ H'=>aC Hf H'/\∃o8:Option V,σ= [LN x,LN td,LN tl,LN t,LN dl,LN lat,some .non,some (.str p.1),o8,none,none]) (g3,ν) ?_ ?_))
   ·rintro i σ H4 hi ⟨g4,o8,rfl⟩;rw[IX,lT] at hi;have w0:=Dw (no p (IR hpp)) (show i<(j7 T P p.1).length by rw[jL];exact hi)
    rw[xN hi] at w0;exact (gj tl t i p.1 D T (P,(by rw[Jl];rfl,TCf.same g4,hi,λH5 g5=>(dF w0 (g4.trans g5,ν)))))
   ·rintro σ H4 ⟨g4,o8,rfl⟩;exact (g4,aN _ _ rfl)
  ·rintro σ H3 ⟨g3,o7,o8,rfl⟩;exact (cg td o _ (g3 _ _ ef,nf,q _ (g1.trans (thaw g3))))
 ·obtain ⟨str1,wk⟩:=Bd hm uo fu lF lG each;rw[eN] at str1;have lenC:∀c:List Int,c.Nodup->(∀y∈c,0<=y/\y<521)->c.length<=700:=λc nd rg=>by
   have:=iz nd (m:=(JK (2*109+n).toNat).map λn:Nat=>(n:Int)) λy hy=>J2.mpr (y.toNat,JZ.mpr (by have:=rg y hy;lia),by have:=rg y hy;lia)
   rw[IN,JP] at this;have:=h6.nc.ok.n8;have:=h6.nc.ok.t24
   lia
  have fl:∀c∈F2,c.length<=700:=λc hc=>by
   sleep 109
   rw[hj] at e1;cases e1;exact lenC c e3.1 e3.2.1
  have gl:∀c∈G,c.length<=700:=λc hc=>by
   obtain ⟨j,hj⟩:=IY.mp hc;sleep 210;obtain ⟨c',b,_,e2,_,e4⟩:=each j _ (I0 (show j<(eU U f k).length by lia))
   rw[hj] at e2;cases e2;exact lenC c e4.1 e4.2.1
  have neF:∀c∈F2,c≠ []:=λc hc=>by
   sleep 109
   rw[hj] at e1;cases e1;exact (m5 e3).1
  have sel24:(eU U f k).length<=24:=by
   have nd:=(fk.mp (zn str1)).2.2;have:=iz nd (m:=(JK T.length).map λn:Nat=>(n:Int)) λy hy=>by
    obtain ⟨c,hc,rfl⟩:=J2.mp hy;have:=wk c hc;exact J2.mpr ((cW c).toNat,JZ.mpr 41,by lia)
   rw[IN,IN,JP] at this;have:=h6.nc.ok.t24
   lia
  try dsimp only[bN,cq]
  refine 555;refine (aM _ _ _ true (rfl,.tup etb,rfl,(aN tb _ (rfl,.inr (bH.of etb),rfl,mB.i (EJ rfl (aM tb _ _ _ (rfl,rfl,bH.of etb,rfl,total,rfl,mB.i (gI ?_))))))));obtain ⟨vs6,elat⟩:∃vs,H1 lat=some (.lst vs)/\vs=S2.map V.int:=⟨_,h1.lat,rfl⟩;refine (aN lat _ (rfl,.inl (aF.of h1.lat),ν,aN tb _ (rfl,bH.of etb,(by show ¬(HT.dH 4 0 (some 1)=0/\HT.dH 4 4 none=4);decide),λrow nrow=>?_)))
  have gr:=ao nrow 327;have hcut:jY [V.int total,.str z,.ref lf,.ref lb] (some 1) none= [.str z,.ref lf,.ref lb]:=rfl;rw[hcut];have trF:∀k∈ce A T P O,∃p q g:Int,k= [p,q,g]:=iS (T:=T) (P:=P) (O:=O) λk hk=>by
   obtain ⟨p,q,g,e,_⟩:=h6.nc.ok.arcs k hk;exact (cg p q g e)
  have h2:=h1.same gr;have er:aO H1 row 327 row=some (.tup [.str z,.ref lf,.ref lb]):=au;replace etb:=gr _ _ etb;replace hF:=hF.same gr;replace hG:=hG.same gr;generalize aO H1 row 327=H2 at h2 er etb hF hG gr⊢;refine (wc td tl t dl row _ z lf lb (gj D T P _ F2 G (rfl,h2.ed,h2.tc,h6.nc.ok.t24,λp hp=>(h6.nc.ok.tool p hp).2,kI h2.du trF,?_,er,hF,hG,by lia,by lia,fl,gl,λH3 g3=>?_)))
  ·sleep 166;exact h6.l7
  rw[IN,h6.sl,str1];have h3:=h2.same g3;replace etb:=g3 _ _ etb;replace hF:=hF.same g3;try dsimp only[bN,cq]
  refine (aM tb _ _ _ (rfl,rfl,bH.of etb,rfl,aM _ _ _ true (rfl,.str _,rfl,(aM tb _ _ _ (rfl,rfl,bH.of etb,rfl,rfl,EJ rfl ?_)))));try dsimp only[bN,cq]
  refine eC (λNq=>∀(o10:Option V) (H':Hp),aC H3 H'->Nq [some 262,some 275,some 256,some 214,some 372,some 328,some (.ref tb),none,none,some (.int total),o10] H') 206 ?_
  ·sleep 234;refine (aM tb _ _ _ (rfl,rfl,bH.of etb,rfl,lf,rfl,(_,aF.of ef),bO (xs:=vf) (λi σ H'=>aC H3 H'/\∃o10:Option V,σ= [LN x,LN td,LN tl,LN t,LN dl,LN lat,LN tb,none,none,some (.int total),o10]) (.refl _,none,rfl) (λi σ H' _ h=>aF.of (h.1 _ _ ef)) ?_ ?_))
   ·rintro i y σ H4 hy ⟨g4,o10,rfl⟩;obtain ⟨c,hc,hch⟩:=rf.at_ hy;obtain ⟨cf,rfl,_,ecf⟩:=jU hch;have cm:=IR hc;obtain ⟨w0,w1,w2⟩:=wk c cm;try dsimp only[bN,cq]
    exact (ν,aM cf _ _ _ (rfl,rfl,aF.of (g4 _ _ ecf),(kH (neF c cm)),129,aM tb _ _ _ (rfl,rfl,bH.of (g4 _ _ etb),rfl,gj tl t ((cW c).toNat) z D T (P,(by rw[show (((cW c).toNat:Nat):Int)=cW c by lia];rfl,(h3.same g4).tc,by lia,λH5 g5=>(dF (by show ¬cZ T P (cW c).toNat z<=0;lia) (g4.trans g5,ν)))))))
   ·rintro σ H4 ⟨g4,o10,rfl⟩;exact hN _ _ g4
  intro o10 H4 g4;refine (aM tb _ _ _ (rfl,rfl,bH.of (g4 _ _ etb),rfl,aN lat S2 (rfl,aF.of ((h3.same g4).lat),h6.s0,λM hM hle=>?_)))
  have le:total<=M:=oJ (h6.pl M hle z) (by rw[h6.sl];exact str1)
  refine ?_;show Q (.bl (decide (total<=M))) H4;rw[decide_eq_true le];exact q _ (((g1.trans gr).trans g3).trans g4)
theorem GN {dV:Value} (F:bK K "_law_true" "_law_true" EF dV f fd) (DZ27:603 3 "arcs_of" ["net","case"] [] (kF IO)) (DZ30:603 2 "chain_total" ["arcs","chain"] [] xi) (DZ34:603 2 "earliest_times" ["points","arcs"] [] iR) (DZ39:603 5 "stretch_total" ["net","case","tool","fronts","backs"] [] (qD IO)) (DZ43:603 1 "_law_cell_at" ["_law_script","_law_k"] [] (nC K)) (DZ62:603 2 "_law_due" ["_law_arcs_here","_law_tasks","_law_case_here"] [] AX) (DZ68:603 2 "_law_front" ["_law_due_here","_law_cell","_law_i"] [] ur) (DZ69:603 2 "_law_back" ["_law_due_here","_law_cell","_law_i"] [] xK) (DZ70:603 1 "_law_order" ["_law_many_here","_law_cell"] [] uA) (DZ71:603 7 "_law_best" ["_law_net","_law_tools_here","_law_tasks","_law_case_here","_law_due_here","_law_at"] [] (xQ IO)):604 8 f fd ["_law_script","_law_net","_law_parts","_law_case_here","_law_at"] (xR K IO):=by
 have sc:aJ ["_law_script","_law_net","_law_parts","_law_case_here","_law_at","_law_tools_here","_law_tasks","_law_arcs_here","_law_due_here","_law_some_here","_law_first","_law_second","_law_fronts","_law_backs","_law_name","_law_total_here","_law_chain","_law_told","_law_p"] ["_law_script","_law_net","_law_parts","_law_case_here","_law_at"] (aB EF):=dS 95
 sleep 86
 refine zu h λa x tp td tl la t lat ns _hi=>?_
 refine zu _hi λD T A B2 n P O Rr S2 _hj=>?_
 refine lZ _hj λ_r1 es etp hA a6 t1 t4 h68 _hk=>?_
 refine fO _hk λNC TC hcs _hl=>?_
 refine cB _hl λpo q=>?_
 sleep 103;exists _,(af (kK 123 (dN rfl (aP 323 (aP (da 6 sc) (aP (da 7 sc) cS))))) (af (dO (i:=8) sc.nd rfl 187 (cC DZ62 hr (365<*>(254<*>192)))) (af (cX 9 sc (cC DZ70 hr (395<*>(142<*>ae)))) (af (dO (i:=10) sc.nd rfl 187 142) (af (dO (i:=11) sc.nd rfl 187 142) (af (gR (own:= "_law_i") (ys:= ["_law_due_here","_law_first"]) (js:= [8,10]) sc.nd (i:=12) rfl rfl rfl 135 (aQ 464) (λC fp s H=>(cC DZ68 hr (116<*>((aw bv 123 (614 108 ak))<*>186))))) (af (gR (own:= "_law_i") (ys:= ["_law_due_here","_law_second"]) (js:= [8,11]) sc.nd (i:=13) rfl rfl rfl 135 (aQ 464) (λC fp s H=>(cC DZ69 hr (116<*>((aw bv 123 (614 108 ak))<*>186))))) (af (u7 (605 (wM 154) (da 14 sc) (af (cX 15 sc (cC DZ39 hr (116<*>(127<*>((pv 14)<*>((pv 12)<*>((pv 13)<*>ae))))))) (ar (aV (PW.pt (dI (PW.pt (eQ (ay iI (pv 15) aX 136) (dM (ay gC (pv 15) (615 230) 136)))) (dt (PW.pt (eQ (ay dX (pv 15) aX 136) (dM (ay (lY hr.units0) 464 125 136))))))) 208 aH))))) (af (605 (aQ (aw i7 (pv 12) (pv 13))) (da 16 sc) (ar (aV (ay gC (cC DZ30 hr ((cC DZ27 hr (116<*>192))<*>((pv 16)<*>ae))) (611 134 (611 (pv 16) 416 32) 32) 136) 208 aH))) (af (cX 17 sc (cC DZ34 hr (348<*>((cC DZ27 hr (116<*>192))<*>ae)))) (af (aV (PW.pt (dI (ay iI (av aG (pv 17) ak 32) aX 136) (dt (ay fW (625 ((av aG (pv 17) ak 32)<*>ae)) 348 136)))) 208 aH) (af (605 (610 (348<*>ae)) (da 18 sc) (ar (aV (ay gC (611 (av aG (pv 17) ak 32) (pv 18) 32) (611 134 (pv 18) 32) 136) 208 aH))) (ar (aD (cC DZ71 hr (116<*>(154<*>(254<*>(127<*>((pv 8)<*>230))))))))))))))))))))
 try dsimp only[cxK]
 refine HQ ?_;intro D' r12 r11 r10 r9 r8 r7 r6 r5 r4 r3 r2 r1;sleep 0;have n0:=NC.ok.n0;have n8:=NC.ok.n8;refine (aN tp _ (rfl,bH.of etp,rfl,aN _ _ 190));try dsimp only[bN,cq]
 refine eC (λNq=>∀dl (H':Hp),aC H H'->bn H' dl 289->Nq [some 205,some 262,some 398,some 214,some 328,some 275,some 256,some 264,some 372,none,none,none,none,none,none,none,none,none,none] H') (λN hN=>(gj la tl t A D T (aN P O (rfl,hA,by lia,TC.tasks,by lia,hcs,NC.pk,NC.ok.ways,po,λdl H1 g1 hd=>hN dl _ g1 hd)))) ?_
 intro dl H1 g1 hd;have h1:=h68 dl H1 g1 hd;obtain ⟨vt,et,rT⟩:=id h1.tc.tasks;have lT:vt.length=T.length:=rT.1;try dsimp only[bN,cq]
 refine eC (λNq=>∀(ls:Addr) (S3:List Int) (H':Hp),aC H1 H'->H' ls=some (.lst (S3.map V.int))->S3.length<=4->((∀i∈S3,0<=i/\i<109))->S3.Nodup->Nq [some 205,some 262,some 398,some 214,some 328,some 275,some 256,some 264,some 372,some 371,none,none,none,none,none,none,none,none,none] H') (λN hN=>(aN tl _ (rfl,.inl (aF.of et),cg a ns 60 (rfl,(g1.seq es),by decide,λc=>(aN _ c (rfl,by lia,by lia,λls S3 H2 g2 e2 s4 rg nd=>hN ls S3 _ g2 e2 s4 (by rw[lT] at rg;exact rg) nd)))))) ?_
 intro ls S3 H2 g2 els s4 rg nd;have k2:=g1.trans g2;try dsimp only[bN,cq]
 refine eC (λNq=>∀(c61:Int),Nq [some 205,some 262,some 398,some 214,some 328,some 275,some 256,some 264,some 372,some 371,some 329,none,none,none,none,none,none,none,none] H2) (λN hN=>(cg a ns 61 (rfl,(k2.seq es),by decide,λc=>hN c))) ?_
 intro c61;try dsimp only[bN,cq]
 refine eC (λNq=>∀(c62:Int),Nq [some 205,some 262,some 398,some 214,some 328,some 275,some 256,some 264,some 372,some 371,some 329,some 353,none,none,none,none,none,none,none] H2) (λN hN=>(cg a ns 62 (rfl,(k2.seq es),by decide,λc=>hN c))) ?_
 intro c62;have h2:=h1.same g2;have hd2:=hd.same g2;try dsimp only[bN,cq]
 refine eC (λNq=>∀lf F2 (H':Hp),aC H2 H'->vU H' lf F2->F2.length=S3.length->(∀(k:Nat) (f:List Int) (i:Int),F2[k]?=some f->S3[k]?=some i->EL 289 194 i f)->Nq [some 205,some 262,some 398,some 214,some 328,some 275,some 256,some 264,some 372,some 371,some 329,some 353,some 514,none,none,none,none,none,none] H') 206 ?_
 ·refine (ls,rfl,(_,aF.of els),cz (G0 (EL 289 194)) 146 (λk=>S3.getD k 0) (aF.of els) 272 130 (λj y hy H2 g2 Q' hQ=>?_) λlf H3 nlf glf hlf=>?_)
  ·sleep 87;obtain ⟨i0,i1⟩:=rg i (IR hi);rw[aL hi] at hQ;exact (315,aM dl _ i.toNat _ (_,(by rw[Jv i0];rfl,hd2.same g2,h1.tk,by lia,λl C H' nl g' el l4 sh pr ai=>hQ _ _ g' 458)))
  obtain ⟨vf,ef,rf0⟩:=hlf;rw[IN,cJ] at rf0;obtain ⟨F2,rf,lF,fok⟩:=rf0.si;exact hN lf F2 _ glf (vf,ef,rf.imp λ_ _ q=>HJ q) lF fok
 intro lf F2 H3 g3 hF lF fok;have h3:=h2.same g3;have hd3:=hd2.same g3;have els3:=g3 _ _ els;try dsimp only[bN,cq]
 refine eC (λNq=>∀lb G (H':Hp),aC H3 H'->vU H' lb G->G.length=S3.length->(∀(k:Nat) (f:List Int) (i:Int),G[k]?=some f->S3[k]?=some i->EM 289 194 i f)->Nq [some 205,some 262,some 398,some 214,some 328,some 275,some 256,some 264,some 372,some 371,some 329,some 353,some 514,some 570,none,none,none,none,none] H') 206 ?_
 ·refine (ls,rfl,(_,aF.of els3),cz (G0 (EM 289 194)) 146 (λk=>S3.getD k 0) (aF.of els3) 272 130 (λj y hy H2 g2 Q' hQ=>?_) λlb H4 nlb glb hlb=>?_)
  ·sleep 87;obtain ⟨i0,i1⟩:=rg i (IR hi);rw[aL hi] at hQ;exact (315,aM dl _ i.toNat _ (_,(by rw[Jv i0];rfl,hd3.same g2,h1.tk,by lia,λl C H' nl g' el l4 sh pr ai=>hQ _ _ g' 458)))
  obtain ⟨vf,ef,rf0⟩:=hlb;rw[IN,cJ] at rf0;obtain ⟨G,rf,lG,gok⟩:=rf0.si;exact hN lb G _ glb (vf,ef,rf.imp λ_ _ q=>HJ q) lG gok
 intro lb G H4 g4 hG lG gok;have h4:=h3.same g4;have els4:=g4 _ _ els3;replace hF:=hF.same g4;have k4:=(k2.trans g3).trans g4;have fl:∀f∈F2,f.length<=700:=λf hf=>by
  sleep 114;have kl:=(IP.mp hk).1;have:=(fok k f _ hk 334).1
  lia
 have gl:∀f∈G,f.length<=700:=λf hf=>by
  sleep 114;have kl:=(IP.mp hk).1;have:=(gok k f _ hk 334).1
  lia
 clear hd2 hd3 els els3 h2 h3 et rT;have trF:∀k∈(ce A T P O),∃p q g:Int,k= [p,q,g]:=iS (T:=T) (P:=P) (O:=O) λk hk=>by
  sleep 128
 have lA:((ce A T P O).map i4).length<=700:=by
  sleep 166;exact h4.l7
 try dsimp only[bN,cq]
 refine eC (λNq=>∀(o14 o15:Option V) (H':Hp),aC H4 H'->Nq [some 205,some 262,some 398,some 214,some 328,some 275,some 256,some 264,some 372,some 371,some 329,some 353,some 514,some 570,o14,o15,none,none,none] H') 206 ?_
 ·have ed2:=h4.ed;refine (aN td _ (rfl,ed2,λo nf=>?_))
  have ef:aO H4 td 419 td=some (.frz o 156):=au;have sq:=lD (o:=o) ed2;have NCf:=h4.nc.any.walk (o:=o) ed2;have Ff:=hF.sq sq;have Gf:=hG.sq sq;have lsf:=sq _ _ rfl els4;have latf:=sq _ _ rfl h4.lat;have thaw:∀{H':Hp},aC (aO H4 td 419) H'->aC H4 (aO H' td 156):=λg=>lE ed2 g
  generalize aO H4 td 419=Hf at ef NCf Ff Gf lsf latf thaw⊢;clear sq;refine sQ (λk σ H'=>aC Hf H'/\∃o14 o15:Option V,σ= [LN a,LN x,LN tp,LN t,LN lat,LN td,LN tl,LN la,LN dl,LN ls,some 329,some 353,LN lf,LN lb,o14,o15,none,none,none]) 302 499 ?_ ?_
  ·rintro k ky y σ H5 hk ⟨g5,o14,o15,rfl⟩;obtain ⟨p,hpp,rfl,rfl⟩:=n6 hk;have hm:=sj NC.ok.dnd (IR hpp);try dsimp only[bN,cq]
   refine eC (λNq=>∀H':Hp,aC Hf H'->Nq [some 205,some 262,some 398,some 214,some 328,some 275,some 256,some 264,some 372,some 371,some 329,some 353,some 514,some 570,some (.str p.1),some (oV (gi D T P 143 194 p.1 F2 G)),none,none,none] H') (λN' hN'=>(gj x t p.1 lf lb F2 (G,(rfl,Ff.same g5,Gf.same g5,by lia,by lia,fl,gl,gj D T A B2 n P (O,(NCf.same g5,po,h4.l7,λH6 g6=>hN' _ (g5.trans g6))))))) ?_
   intro H6 g6
   by_cases e:S3= []
   ·have eF:F2= []:=JS (by rw[lF,e];rfl)
    rw[eF,Dz];refine (rfl,mB.i (nF rfl (rfl,mB.i (dT rfl (by show 0<=sizeLine;decide,λp0 np0=>(cg ls p0 _ (rfl,rfl,aF.of (ao np0 _ _ _ (g6 _ _ lsf)),aF.of au,mB.i ?_)))))))
    rw[e];exact gI (g6.trans (ao np0 _),aN _ _ rfl)
   ·obtain ⟨v,hv⟩:=Bk (P:=P) hm e nd rg lF lG fok gok;rw[hv];refine ⟨rfl,mB.i (nT nofun (aN lat S2 ⟨rfl,aF.of (g6 _ _ latf),h4.s0,λM hM hle=>(dF ?_ ⟨rfl,mB.i (623 ⟨g6,aN _ _ rfl⟩)⟩)⟩))⟩
    have le:v<=M:=oJ (h4.pl M hle p.1) (by rw[h4.sl];exact hv)
    show ¬M<v
    lia
  ·rintro σ H5 ⟨g5,o14,o15,rfl⟩;exact (cg td o _ (g5 _ _ ef,nf,hN _ _ _ (thaw g5)))
 intro o14 o15 H5 g5;have k5:=k4.trans g5;have h5:=h4.same g5;obtain ⟨vf,ef,rf⟩:=hF.same g5;obtain ⟨vg,eg,rgg⟩:=hG.same g5;have lvf:vf.length=F2.length:=rf.1;have lvg:vg.length=G.length:=rgg.1;try dsimp only[bN,cq]
 refine eC (λNq=>∀(o16:Option V) (H':Hp),aC H5 H'->Nq [some 205,some 262,some 398,some 214,some 328,some 275,some 256,some 264,some 372,some 371,some 329,some 353,some 514,some 570,o14,o15,o16,none,none] H') 206 ?_
 ·refine (aM lf lb _ _ (rfl,rfl,ef,eg,by lia,λpc npc=>(pc,rfl,(_,aF.of au),?_)))
  have gc:=ao npc (.lst (vf++vg));have epc:aO H5 pc (.lst (vf++vg)) pc=some (.lst (vf++vg)):=au;generalize aO H5 pc (.lst (vf++vg))=H6 at gc epc⊢;refine bO (xs:=vf++vg) (λi σ H'=>aC H6 H'/\∃o16:Option V,σ= [LN a,LN x,LN tp,LN t,LN lat,LN td,LN tl,LN la,LN dl,LN ls,some 329,some 353,LN lf,LN lb,o14,o15,o16,none,none]) (.refl _,none,rfl) (λi σ H' _ h=>aF.of (h.1 _ _ epc)) ?_ ?_
  ·rintro i y σ H7 hy ⟨g7,o16,rfl⟩;have hb_:∃(c:List Int) (cc:Addr),y= .ref cc/\H5 cc=some 168/\c≠ []/\c.length<=4/\(∀p∈c,0<=p/\p<194)/\fc 289 c:=by
    rcases JA.mp (IR hy) with w|w
    ·obtain ⟨k,hk⟩:=IY.mp w;obtain ⟨c,hc,hch⟩:=rf.at_ hk;obtain ⟨cc,rfl,_,ecc⟩:=jU hch;have kl:=(IP.mp hc).1;have fp:=fok k c _ hc 334
     exact (aN c cc (rfl,ecc,fp.last.1,fp.1,fp.2.2.1,fp.2.2.2))
    ·obtain ⟨k,hk⟩:=IY.mp w;obtain ⟨c,hc,hch⟩:=rgg.at_ hk;obtain ⟨cc,rfl,_,ecc⟩:=jU hch;have kl:=(IP.mp hc).1;have fp:=gok k c _ hc 334
     exact (aN c cc (rfl,ecc,fp.head.1,fp.1,fp.2.2.1,fp.2.2.2))
   refine iZ hb_ λc cc _hi=>?_
   refine gY _hi λ_r1 ec cne cl4 cpt cai=>?_
   clear hb_ _hi;subst _r1;obtain ⟨v,hv⟩:=oN cai;have le:=h5.tot cne hv;have lm:=cpt _ (oH cne);have atl:=Bl (S:=S2) lm.1 (by rw[h5.sl];exact lm.2)
   have k7:=gc.trans g7;have h7:=h5.same k7;try dsimp only[bN,cq]
   refine (aN x t (rfl,gj D T A B2 n P (O,(h7.nc.any,po,λl9 H8 g8 n9 hA8=>(aM l9 cc _ c (rfl,kI hA8 trF,lA,g8 _ _ (k7 _ _ ec),by lia,λH9 g9=>?_))))))
   rw[hv];have k9:=g8.trans g9;exact (ν,aM cc _ _ _ (rfl,rfl,aF.of (k9 _ _ (k7 _ _ ec)),(kH cne),aM lat _ _ _ (rfl,rfl,aF.of (k9 _ _ h7.lat),atl,dF (by show ¬zq S2 (cU c)<v;lia) (g7.trans k9,ν))))
  ·rintro σ H7 ⟨g7,o16,rfl⟩;exact hN _ _ (gc.trans g7)
 intro o16 H6 g6;have k6:=k5.trans g6;have h6:=h5.same g6;have ir:=Bi h6.sl h6.tk;try dsimp only[bN,cq]
 refine eC (λNq=>∀(tt:Addr) (H':Hp),aC H6 H'->vM H' tt 143 S2.length->Nq [some 205,some 262,some 398,some 214,some 328,some 275,some 256,some 264,some 372,some 371,some 329,some 353,some 514,some 570,o14,o15,o16,some 568,none] H') (λM hM=>(aN lat _ (rfl,.inl (aF.of h6.lat),aN x t (rfl,gj D T A B2 n P (O,(h6.nc.any,po,λl9 H8 g8 n9 hA8=>(cg S2.length l9 _ (by rw[IN];rfl,kI hA8 trF,lA,(by have:=h6.sl;lia),ir,λth H9 g9 ho=>?_)))))))) ?_
 ·rcases ho with w|⟨_,c,_,_,rgk⟩
  ·exact hM th _ (g8.trans g9) w
  ·exact (rgk.no h6.keep).elim
 intro tt H7 g7 h_;refine ij h_ λlt lc tm as _hi=>?_
 refine gY _hi λeh et elc las each _hj=>?_
 refine cB _hj λkp nn=>?_
 have h7:=h6.same g7;refine eC (λNq=>Nq [some 205,some 262,some 398,some 214,some 328,some 275,some 256,some 264,some 372,some 371,some 329,some 353,some 514,some 570,o14,o15,o16,some 568,none] H7) (λM hM=>(aM tt _ _ _ (rfl,rfl,bH.of eh,rfl,rfl,mB.i (nF rfl (aM tt _ _ _ (rfl,rfl,bH.of eh,rfl,aN lt _ (rfl,.inl (aF.of et),aN lat _ (rfl,.inl (aF.of h7.lat),rfl,EJ (by rw[IN,IN,iQ]) (hM))))))))) ?_
 try dsimp only[bN,cq]
 refine eC (λNq=>∀(o18:Option V),Nq [some 205,some 262,some 398,some 214,some 328,some 275,some 256,some 264,some 372,some 371,some 329,some 353,some 514,some 570,o14,o15,o16,some 568,o18] H7) 206 ?_
 ·refine (aN lat _ (rfl,.inl (aF.of h7.lat),ν,(by rw[IN];have:=h7.sl;lia),(by rw[IN];have:=h7.sl;lia),bz (λi σ H'=>H7=H'/\∃o18:Option V,σ= [LN a,LN x,LN tp,LN t,LN lat,LN td,LN tl,LN la,LN dl,LN ls,some 329,some 353,LN lf,LN lb,o14,o15,o16,LN tt,o18]) (rfl,none,rfl) ?_ ?_))
  ·rintro i σ _ hi ⟨rfl,o18,rfl⟩;rw[IX,IN] at hi;have zi:131=(i:Int):=Jl _;have a1:gD ((lst S2.length tm).map V.int) 131=some (.int (tm i)):=cT (bW (jI hi));have a2:gD (S2.map V.int) 131=some (.int (zq S2 i)):=by rw[zi];exact Bl 41 41
   obtain ⟨c,_,ok⟩:=each i _ (I0 (show i<as.length by lia))
   have ne:=m5 ok;have le:=h7.tot ne.1 ok.2.2.2;rw[ne.2] at le;try dsimp only[bN,cq]
   exact (aM tt _ _ _ (rfl,rfl,bH.of eh,rfl,aM lt _ _ _ (rfl,rfl,aF.of et,a1,aM lat _ _ _ (rfl,rfl,aF.of h7.lat,a2,dF (by show ¬zq S2 i<tm i;lia) (rfl,ν)))))
  ·rintro σ _ ⟨rfl,o18,rfl⟩;exact hN _
 intro o18;exact (wc x t td tl dl lat D T A (gj B2 n P O Rr S2 (rfl,h7,λH' g=>q _ ((k6.trans g7).trans g))))
theorem GO {dV:Value} (F:bK K "law" "law" ss dV f fd) (DZ8:HI P w K mg base bD 3 Li ["self","tools","tasks","arcs","apart","moments"] [.non,.int 0] (vG IO)) (DZ22:603 6 "plan_fits" ["net","plan"] [] (xf IO)) (DZ43:603 1 "_law_cell_at" ["_law_script","_law_k"] [] (nC K)) (DZ54:603 1 "_law_arcs" ["_law_cells","_law_times","_law_far"] [] xC) (DZ55:603 2 "_law_apart" ["_law_runs_here","_law_cell"] [] uh) (DZ56:603 2 "_law_case" ["_law_runs_here","_law_cell"] [] xD) (DZ57:603 3 "_law_built" ["_law_script","_law_at","_law_many_here","_law_far"] [] (xB K)) (DZ58:603 1 "_law_points" ["_law_runs_here","_law_times"] [] qt) (DZ72:603 8 "_law_true" ["_law_script","_law_net","_law_parts","_law_case_here","_law_at"] [] (xR K IO)):604 9 f fd ["_law_script"] (wI K):=by
 have sc:aJ ["_law_script","_law_many_here","_law_far","_law_tools_here","_law_tasks","_law_runs_here","_law_times","_law_at","_law_arcs_here","_law_pairs","_law_net","_law_case_here"] ["_law_script"] (aB ss):=dS 95
 sleep 86
 obtain ⟨a,ns,rfl,hS,n63,q⟩:=h;exists _,(af (cX 1 sc (614 ak (620 142 ak))) (@af _ _ _ _ _ (@dO _ _ 2 _ _ _ _ sc.nd rfl (Or.inl rfl) (@av _ _ _ _ _ _ _ aE (@bq _ _ _ _ (ak<*>(ak<*>((614 (aw wG ak ak) ak)<*>ae)))) (620 (aw bv 142 ak) ak) 32) rfl 187) (af (kK (cC DZ57 hr (108<*>(ak<*>(116<*>268)))) (dN rfl (aP 346 (aP 324 528)))) (af (cX 7 sc (cC DZ58 hr (154<*>(254<*>ae)))) (af (cX 8 sc (cC DZ54 hr ((fX qO 108 (gG ak) (gG ak))<*>(365<*>268)))) (af (cX 9 sc (cC DZ55 hr (154<*>(142<*>ae)))) (af (cX 10 sc (Dk B.Ly DZ8 hr 49 rfl B.LA ((dE nJ rfl B.Lu nP 192)<*>((c8 (own:= "_law_ways") (ys:= []) (js:= []) rfl 107 (aQ 134) (λC fp s H=>(dE (oP (K:=K) rfl) rfl B.Kw boot_list 186)))<*>((612 382)<*>(464<*>(395<*>ae))))))) (af (aV (ay ze (cC DZ22 hr ((pv 10)<*>((@bM _ _ _ _ _ ((612 (154<*>ae))<*>((612 (254<*>ae))<*>ae)))<*>ae))) fg 136) 208 aH) (af (cX 11 sc (cC DZ56 hr (154<*>(142<*>ae)))) (af (aV (dv (eY (cC DZ72 hr (108<*>((pv 10)<*>((@bM _ _ _ _ _ (127<*>(134<*>382)))<*>((pv 11)<*>(365<*>ae)))))))) 208 aH) (ar (aD (cC DZ72 hr (108<*>((pv 10)<*>((@bM _ _ _ _ _ (127<*>(134<*>382)))<*>((@bM _ _ _ _ _ ((c8 (own:= "_law_run") (ys:= []) (js:= []) rfl 107 (aQ 154) (λC fp s H=>aX))<*>(125<*>ae)))<*>(365<*>ae))))))))))))))))))
 try dsimp only[cxK]
 refine HP ?_;intro D' r10 r9 r8 r7 r6 r5 r4 r3 r2 r1;sleep 0;try dsimp only[bN,cq]
 refine cut (λσ H'=>∃m:Int,σ= [LN a,some 311,none,none,none,none,none,none,none,none,none,none]/\H=H'/\1<=m/\m<=4) 206 ?_
 ·refine (cg a ns 0 (rfl,hS,by decide,λc0=>?_))
  have mm:=fm (a:=c0) (n:=4) 49
  exact (250,hN _ _ (ν,rfl,by lia,by lia))
 rintro σ Hx ⟨m,rfl,rfl,m1⟩;refine ((by decide,by decide),by show 3<=sizeLine;decide,λlf nlf=>?_)
 have g0:=ao nlf 480;refine (cg a ns 0 (rfl,(g0.seq hS),by decide,λc0'=>?_))
 have m3:=fm (a:=c0'.fdiv 4) (n:=3) 49
 obtain ⟨f,hf,far⟩:=Ds m3.1 m3.2;refine (129,178,aM lf _ _ _ (rfl,rfl,aF.of au,hf,?_))
 generalize aO H lf 480=H0 at g0⊢;refine (aM a ns 4 m (f,(rfl,g0.seq hS,by decide,by decide,m1.1,m1.2,far,λtb td tl rl ml n0 n1 m0 m1' hs1 hs2 T R M H1 g1 etb ed hT hR em lR bt=>?_)))
 clear hf nlf m3;refine (aN tb _ (rfl,bH.of etb,rfl,aN _ _ (rfl,aN _ _ 190)));have k1:=g0.trans g1;have r4:=bt.r4;have M2:=bt.m2;refine (aM rl ml R M (rfl,hR,by lia,em,by lia,λlat H2 g2 eat=>?_))
 have k2:=k1.trans g2;obtain ⟨cs,ecs,lcs⟩:=yN ns (some 20) (some 63);have lsp:(bw R M).length=2*R.length+M.length:=gM M R;refine (ν,ν,aN a _ (rfl,k2.seq hS,λls nls=>?_))
 rw[ecs];have gs:=ao nls (.lst (cs.map V.int));refine (aM ls lat cs 597 (f,(rfl,au,by lia,gs _ _ eat,by lia,by lia,far,bt.spots,λla A H3 g3 hA lA okA=>?_)))
 have k3:=k2.trans (gs.trans g3);have q3:=g2.trans (gs.trans g3);have ed3:=q3 _ _ ed;have hT3:=hT.same q3;have hR3:=hR.same q3;have em3:=q3 _ _ em;have eat3:=(gs.trans g3) _ _ eat;clear ed hT hR em eat gs nls etb g3 g2 q3;refine (cg a ns 3 (rfl,(k3.seq hS),by decide,λc3=>(cg rl c3 R (rfl,hR3,r4,λlp ps H4 g4 hP p16 okP=>?_))))
 have k4:=k3.trans g4;have ed4:=g4 _ _ ed3;have hT4:=hT3.same g4;have hR4:=hR3.same g4;have em4:=g4 _ _ em3;have eat4:=g4 _ _ eat3;have hA4:=hA.same g4;clear ed3 hT3 hR3 em3 hA g4 k3;have nok:oe [338,(n1,m1')] T A 410 (M.length:Int):=bt.net 41 (λk hk=>by
   have:=(okA k hk).1;rw[lsp] at this;have e:((2*R.length+M.length:Nat):Int)=2*161+M.length:=by lia
   rw[e] at this;exact this) (by unfold cR;rw[IN];lia) (λk hk=>by
   obtain ⟨p,hp,rfl⟩:=J2.mp hk;obtain ⟨p1,p2,p3,p4,p5,_⟩:=okP p hp;exact (aN p.1 p.2 (rfl,p1,p2,p3,p4,p5)))
 have dnd:=nok.dnd;have lT:=bt.len;refine (aN td _ (rfl,ed4,λtd2 ntd2=>?_))
 have h1:=ao ntd2 (.dK 509);have ed2:aO H4 td2 (.dK 509) td2=some (.dK 509):=au;generalize aO H4 td2 (.dK 509)=H5 at h1 ed2⊢;obtain ⟨vt,et,rT⟩:=hT4.same h1;refine (tl,rfl,(_,aF.of et),cz (B6 kB) (λa=>An a/\H5 a≠none) (λi=>T.getD i []) (aF.of et) (by rw[rT.1];lia) (λa h=>h.2) (λi y hy H6 g6 Q' hQ=>?_) λtl2 H6 ntl2 g6 hT2=>?_)
 ·refine fD (rT.at_ hy) λws _hi=>?_
  sleep 102
  refine fD _hj λl _hk=>?_
  sleep 219
  refine fD _hl λus _hm=>?_
  refine cB _hm λel rl'=>?_
  sleep 170;rw[aL hw] at hQ;have rl2:=rl'.imp λ_ _ q=>GZ q
  refine (aN l us (rfl,.inl (aF.of (g6 _ _ el)),λp np=>?_))
  have gp:=ao np (.lst us);exact hQ _ _ gp (p,rfl,.inl np,us,au,rl2.imp λv e q=>Aw (mG q (g6.trans gp)) λa h=> .inr h)
 rw[lN T [] rT.1] at hT2;have hT2':=hT2.any;obtain ⟨ba,ea,ra⟩:=hA4.same (h1.trans g6);obtain ⟨bp,ep,rp⟩:=hP.same (h1.trans g6);refine (aN la _ (rfl,.inl (aF.of ea),λla2 nla2=>?_))
 have h3:=ao nla2 226;have ela2:aO H6 la2 226 la2=some (.lst (ba.map V.ref)):=au;generalize aO H6 la2 226=H8 at h3 ela2⊢;have elp2:=h3 _ _ ep;have h34:=h3;have h8:=(h1.trans g6).trans h34;refine (aN ml _ (rfl,.inl (aF.of (h8 _ _ em4)),?_));refine λx dx nx ndx dxx=>?_
 have sm:=nS (C:=IO) nx ndx (H':=aO (aO H8 dx (.own x)) x (.ins IO dx [])) (λa o _ e=>e)
 have lMm:(M.map V.int).length=M.length:=IN _;refine (wc x dx td2 tl2 la2 (.ref lp) _ [338,(n1,m1')] T (aN A 410 (rfl,au,sm _ _ ((g6.trans h34) _ _ ed2),(hT2'.same h34).same sm,(ba,sm _ _ ela2,ra.imp λa k q=>sm _ _ (h34 _ _ q)),.inr (lp,rfl,(bp,sm _ _ elp2,rp.imp λa k q=>sm _ _ (h34 _ _ q))),by rw[lMm];exact nok,λH9 fx N=>(rfl,?_))))
 rw[lMm] at N;have h9:=h8.trans (nS nx ndx fx);have k9:=k4.trans h9;have ed9:=h9 _ _ ed4;have hT9:=hT4.same h9;have hR9:=hR4.same h9;have hP9:=hP.same h9;have em9:=h9 _ _ em4;have eat9:=h9 _ _ eat4;have hA9:=hA4.same h9;clear sm fx h8 h34 h3 h1 ed2 hT2 hT2' ela2 elp2 ed4 hT4 hR4 hA4 em4 hP ea ra ep rp et rT nx ndx dxx g6 h9 k4;obtain ⟨bs,er,rR⟩:=id hR9;have okQ:∀p∈ps,p.1≠p.2/\cM 297 296=false:=λp hp=>(okP p hp).2.2.2.2
 refine (aN rl _ (rfl,.inl (aF.of er),λr2 nr2=>?_))
 have h1:=ao nr2 (.lst 217);have er2:aO H9 r2 (.lst 217) r2=some (.lst 217):=au;generalize aO H9 r2 (.lst 217)=Ha at h1 er2⊢;refine (aN ml _ (rfl,.inl (aF.of (h1 _ _ em9)),λm2 nm2=>?_))
 have h2:=ao nm2 261;have em2:aO Ha m2 261 m2=some (.lst (M.map V.int)):=au;generalize aO Ha m2 261=Hb at h2 em2⊢;refine (by show 2<=sizeLine;decide,λth nth=>?_)
 have h3:=ao nth 567;have eth:aO Hb th 567 th=some (.tup [.ref r2,.ref m2]):=au;generalize aO Hb th 567=Hc at h3 eth⊢;have hh:=(h1.trans h2).trans h3;have PL:pQ Hc th R M:=(aN r2 m2 (eth,(bs,(h2.trans h3) _ _ er2,rR.imp λa k q=>hh _ _ q),h3 _ _ em2))
 refine (aN x th (rfl,gj [338,(n1,m1')] T A 410 R M ((N.same hh,PL,nok,bt.pok),λys H10 hy _ g10=>?_)))
 rw[bt.fits (λk hk=>(okA k hk).2) (λp hp=>(okQ p hp).2) hy]
 refine (aN _ _ (rfl,rfl,mB.i (gI ?_)));have gg:=hh.trans g10;have k10:=k9.trans gg;clear PL eth em2 er2 h1 h2 h3 nth nm2 nr2 er rR g10 hh hy;have lA6:A.length<=600:=by lia
 have n1':1<=T.length:=by lia
 have go:∀(H12:Hp) (t:Addr) (P:Pk) (ps0:List 303),aC H9 H12->iB H12 t P (cR ps0)->iX R P ps0->∀(dl:Addr) (H':Hp),aC H12 H'->bn H' dl (ce A T P (cR ps0))->zt IO H' x t td tl dl lat [338,(n1,m1')] T A 410 (M.length:Int) P (cR ps0) R (bw R M):=λH12 t P ps0 g12 hC cb dl H' g' hd=>by
  have g:=g12.trans g';have pk:=cb.ok bt;have o16:(cR ps0).length<=16:=by unfold cR;rw[IN];exact cb.o16
  have sle:227=2*109+(M.length:Int):=by lia
  refine ((N.same g,hC.same g',nok,pk),g _ _ ed9,(hT9.same g,(_,hC.same g'),pk,nok.ways),hd,g _ _ eat9,sle,λe=>?_,cb.ordOk.pairs,by lia,?_,λL hL z=>v9 bt cb okA hL z)
  ·rw[e] at lsp;simp at lsp
   lia
  ·rw[<-sle];exact uu (λk hk=>(okA k hk).1) lA6 41 (by rw[lT];exact cb.ordOk) 41
 refine (cg a ns 59 (rfl,(k10.seq hS),by decide,λc59=>(cg rl c59 R (rfl,hR9.same gg,r4,λr hr=>(bt.runs r hr).2.2.2.2,λt0 P0 ps0 H11 g11 hC0 cb=>?_))))
 have gb:=gg.trans g11;refine (by show 3<=sizeLine;decide,λtq ntq=>?_)
 have gt:=ao ntq 195;have etq:aO H11 tq 195 tq=some (.tup [.ref td,.ref tl,.ref la]):=au;generalize aO H11 tq 195=H12 at gt etq⊢;have gc:=gb.trans gt;refine (wc a x tq td tl la t0 lat ns (wc [338,(n1,m1')] T A 410 _ P0 (cR ps0) R 597 (rfl,(k9.trans gc).seq hS,etq,hA9.same gc,lA6,n1',by lia,go H12 t0 P0 ps0 gc (hC0.same gt) cb,(N.same gc,hC0.same gt,nok,cb.ok bt),(hT9.same gc,(_,hC0.same gt),cb.ok bt,nok.ways),hC0.same gt,cb.ordOk.pairs,λH13 g13=>(mB.i (gI ?_)))))
 have gd:=gc.trans g13;clear gt etq gc ntq cb hC0 gb;refine (by show 3<=sizeLine;decide,λtq ntq=>?_)
 have gt:=ao ntq 195;have etq:aO H13 tq 195 tq=some (.tup [.ref td,.ref tl,.ref la]):=au;generalize aO H13 tq 195=H14 at gt etq⊢;have ge:=gd.trans gt;obtain ⟨bs,er,rR⟩:=hR9.same ge;have lr':(bs.map V.ref).length=R.length:=by rw[IN,rR.1,IN]
 refine (rl,rfl,(_,aF.of er),cz (fH vP) 146 (λ_=>(none:Option Nat)) (aF.of er) 41 130 (λk y hy H4 g4 Q' hQ=>hQ _ _ 184 rfl) λlk H15 nlk g14 hk=>?_)
 obtain ⟨vs,ek,rk'⟩:=hk;rw[lr'] at rk';rw[rk'.val] at ek;refine (by show 0<=sizeLine;decide,λlo nlo=>(by show 2<=sizeLine;decide,λt nt=>?_))
 have g15:=(g14.trans (ao nlo 132)).trans (ao nt (.tup [.ref lk,.ref lo]));have gf:=ge.trans g15;have hC:iB (aO (aO H15 lo 132) t (.tup [.ref lk,.ref lo])) t ((JK R.length).map λ_=>none) (cR []):=(aN lk lo (au,ao nt _ _ _ (ao nlo _ _ _ ek),([],ao nt _ _ _ au,eJ.nil)))
 have cb:iX R ((JK R.length).map λ_=>none) []:=(by rw[IN,JP],AW,JT _,λp hp=>by cases hp)
 exact (wc a x tq td tl la t lat ns (wc [338,(n1,m1')] T A 410 _ _ (cR []) R 597 (rfl,(k9.trans gf).seq hS,g15 _ _ etq,hA9.same gf,lA6,n1',by lia,go _ t _ [] gf hC cb,(N.same gf,hC,nok,cb.ok bt),(hT9.same gf,(_,hC),cb.ok bt,nok.ways),hC,cb.ordOk.pairs,λH16 g16=>q _)))
universe z0
theorem EG {l:PySem.W.OpenLaw} {w:World} {K:IS} {h:Heap} {mg:LF} {fa f1 f2 f3 f4 f5 f6 f7 f8 fA b6 b7 b8 b9 bA bB bC bE bF bG bR bT cb cc cd cf ch ci cj ck cl cm co cp cq cs ct cv c0 c1 c2 c3 c4 c7 c9 cD cF cI cS cY dc dd de dg di dj dk dl dm dn dp dr du dx dz d0 d1 d3 d4 d5 d6 d7 d8 bm IO Li:Addr} (X:K.In h) (G:h.Ns mainGlobals mg) (hfa:mg "law" =some (.ref fa))
  {b3 bh:LL} {b4:LH} {b5 bi bj bk aH bl:Value}
  {a9:Tok}
  {ia:Tok}
  {ah:Tok}
  {ai:Tok}
  {ae:Tok}
  {a0:Tok}
  {sn:Tok}
  {a1:Tok}
  {aj:Tok}
  {a6:Tok}
  {fz:Addr} {d9:Value} {dJ:LL} {dK:Nat} {dV:LH} {bo:Tok}
  (fC:bX K f1 "is_name" HR .none)
  (fG:bX K f2 "points_of" HS .none)
  (fI:bX K f3 "copy_of_task" HU .none)
  (fQ:bX K f4 "refuse_wrong_tools" HV .none)
  (fR:bX K f5 "refuse_wrong_uses" HW .none)
  (fT:bX K f6 "refuse_wrong_tasks" HX .none)
  (fV:bX K f7 "refuse_wrong_arcs" HY .none)
  (fW:bX K f8 "refuse_wrong_pairs" HZ .none)
  (ga:bX K fA "use_in" Ia .none)
  (dX:bX K b6 "is_plan" DB .none)
  (dZ:bX K b7 "time_of" DC .none)
  (ea:bX K b8 "runs_meet" DD .none)
  (eb:bX K b9 "goes_on" DE .none)
  (ec:bX K bA "use_of" DF .none)
  (ed:bX K bB "breaches_of_turns" DG .none)
  (ee:bX K bC "breaches_of_arcs" DH .none)
  (ef:bX K bE "breaches_of_apart" DI .none)
  (eg:bX K bF "in_use" DJ .none)
  (eh:bX K bG "breaches_of_tool" DK .none)
  (ei:bX K bR "breaches_of_heat" DL .none)
  (ej:bX K bT "breaches" DM .none)
  (ek:bX K cb "plan_fits" DN .none)
  (el:bX K cc "are_points" DO .none)
  (em:bX K cd "many_in" DP .none)
  (en:bX K cf "open_ways" DQ .none)
  (eo:bX K ch "work_of" DR .none)
  (ep:bX K ci "arcs_of" DS .none)
  (eq:bX K cj "greatest_lags" DT .none)
  (er:bX K ck "total_by" DU .none)
  (es:bX K cl "chain_total" DV .none)
  (et:bX K cm "raise_times" DW .none)
  (eu:bX K co "chain_to" DX .none)
  (ev:bX K cp "ring_behind" DY .none)
  (ew:bX K cq "earliest_times" DZ .none)
  (ex:bX K cs "tail_chains" D3 .none)
  (ey:bX K ct "turns_for" D4 .none)
  (ez:bX K cv "task_between" D5 .none)
  (e0:bX K c0 "tasks_between" D6 .none)
  (e1:bX K c1 "stretch_total" D7 .none)
  (e2:bX K c2 "users_of" D8 .none)
  (e3:bX K c3 "fullest_of" D9 .none)
  (e4:bX K c4 "best_stretch" Ea .none)
  (e5:bX K c7 "_law_cell_at" Eb .none)
  (e6:bX K c9 "_law_whole" Ec .none)
  (e7:bX K cD "_law_mixed" Ed .none)
  (e8:bX K cF "_law_meet" Ee .none)
  (e9:bX K cI "_law_names" Ef .none)
  (eA:bX K cS "_law_runs" Eg .none)
  (eD:bX K cY "_law_heats" Eh .none)
  (eE:bX K dc "_law_uses" Ei .none)
  (eF:bX K dd "_law_task" Ej .none)
  (eG:bX K de "_law_used" Ek .none)
  (eH:bX K dg "_law_tools" El .none)
  (eL:bX K di "_law_arcs" Em .none)
  (eN:bX K dj "_law_apart" En .none)
  (eO:bX K dk "_law_case" Eo .none)
  (eP:bX K dl "_law_built" Ep .none)
  (eS:bX K dm "_law_points" Er .none)
  (eT:bX K dn "_law_lag" Es .none)
  (eW:bX K dp "_law_total" Et .none)
  (eX:bX K dr "_law_open" Eu .none)
  (fb:bX K du "_law_due" Ev .none)
  (fe:bX K dx "_law_many" Ew .none)
  (ff:bX K dz "_law_work" Ex .none)
  (fi:bX K d0 "_law_least" Ey .none)
  (fj:bX K d1 "_law_some" Ez .none)
  (fl:bX K d3 "_law_stretch" EA .none)
  (fp:bX K d4 "_law_front" EB .none)
  (fr:bX K d5 "_law_back" EC .none)
  (fs:bX K d6 "_law_order" ED .none)
  (ft:bX K d7 "_law_best" EE .none)
  (fu:bX K d8 "_law_true" EF .none)
  (fv:JR K mainGlobals "law" =some (some (.ref bm)))
  (fw:K.lookup bm=some ⟨b5,b3,.func (KH "law" "law" (gH ss) (fP ss) (aB ss) .none bi bj bk bh aH bl),b4⟩) (fx:PySem.W.codeIn K aH "law" =true) (fy:KU K (.ref bm)=true)
  (aE:JR K mainGlobals "LETTERS" =some (some (.str "abcdefghijklmnopqrstuvwxyz" a9)))
  (ab:JR K mainGlobals "MOST_LETTERS" =some (some (.int 12 ia)))
  (al:JR K mainGlobals "MOST_TASKS" =some (some (.int 24 ah)))
  (am:JR K mainGlobals "MOST_TOOLS" =some (some (.int 12 ai)))
  (ag:JR K mainGlobals "MOST_PIECES" =some (some (.int 8 ae)))
  (a2:JR K mainGlobals "MOST_WAYS" =some (some (.int 2 a0)))
  (ac:JR K mainGlobals "MOST_MOMENTS" =some (some (.int 8 sn)))
  (a3:JR K mainGlobals "MOST_ARCS" =some (some (.int 600 a1)))
  (an:JR K mainGlobals "MOST_APART" =some (some (.int 300 aj)))
  (a7:JR K mainGlobals "GREATEST" =some (some (.int 1000000000 a6)))
  (bp:JR K mainGlobals "abs" =some none)
  (bb:JR K mainGlobals "bool" =some none)
  (bc:JR K mainGlobals "dict" =some none)
  (a4:JR K mainGlobals "enumerate" =some none)
  (br:JR K mainGlobals "int" =some none)
  (ap:JR K mainGlobals "isinstance" =some none)
  (bs:JR K mainGlobals "len" =some none)
  (bd:JR K mainGlobals "list" =some none)
  (bt:JR K mainGlobals "max" =some none)
  (bu:JR K mainGlobals "min" =some none)
  (aY:JR K mainGlobals "range" =some none)
  (a8:JR K mainGlobals "reversed" =some none)
  (bv:JR K mainGlobals "set" =some none)
  (aG:JR K mainGlobals "sorted" =some none)
  (bw:JR K mainGlobals "str" =some none)
  (b0:JR K mainGlobals "sum" =some none)
  (ba:JR K mainGlobals "tuple" =some none)
  (b1:JR K mainGlobals "zip" =some none)
  (b2:JR K mainGlobals "Net" =some (some (.ref IO)))
  (atZ8:KJ K (.ref IO) "__init__" =some (some (.ref Li)))
  (gb:FnAt K Li "__init__" "Net.__init__" G1 (.ref fz))
  (f0:K.lookup fz=some ⟨d9,dJ,.seq #[.none,.int 0 bo] dK,dV⟩)
  (be:BB K IO)
  (bf:Mk K IO Li)
  (aq:dy K IO "tools")
  (ax:dy K IO "tasks")
  (a5:dy K IO "arcs")
  (az:dy K IO "apart")
  (ad:dy K IO "moments")
  :∃fd:FuncData,(∀(s:Shared) (v:Value),BindsTo s fd ⟨[v],[]⟩ [("_law_script",v)])/\∀base:Heap,K.In base->base.Ns mainGlobals mg->bI l.prog w K mg base bD 9 fa fd ["_law_script"] (wI K):=by
 have e:=hfa.symm.trans (Jx X G fv);cases e;have B:Bn K mg IO Li:=⟨Exists.intro _<|Jx X G aE,Exists.intro _<|Jx X G ab,Exists.intro _<|Jx X G al,Exists.intro _<|Jx X G am,Exists.intro _<|Jx X G ag,Exists.intro _<|Jx X G a2,Exists.intro _<|Jx X G ac,Exists.intro _<|Jx X G a3,Exists.intro _<|Jx X G an,Exists.intro _<|Jx X G a7,JW X G bp,JW X G bb,JW X G bc,JW X G a4,JW X G br,JW X G ap,JW X G bs,JW X G bd,JW X G bt,JW X G bu,JW X G aY,JW X G a8,JW X G bv,JW X G aG,JW X G bw,JW X G b0,JW X G ba,JW X G b1,Jx X G b2,be,bf,aq,ax,a5,az,ad⟩;refine zu gb λ_ _ _ _ _ _ _ _ _ _hi=>?_
 refine i3 _hi λlZ8 cZ8 kZ8=>?_
 have FZ8:=qT (st:=G1) lZ8 cZ8 kZ8;have Flaw:=qT (st:=ss) fw fx fy;refine (KH "law" "law" (gH ss) (fP ss) (aB ss) .none bi bj bk bh aH bl,?bind,λbase _ _=>?ok)
 case bind=>exact λs v=> .of_eq rfl
 case ok=>
  have z9:Bx l.prog w base:=⟨⟩;have DZ0:=dU z9 X G fC 223 λF=>Ib B F
  have DZ1:=dU z9 X G fG 223 λF=>Ic B F
  have DZ2:=dU z9 X G fI 223 λF=>Id B F
  have DZ3:=dU z9 X G fQ 223 λF=>Ie B F DZ0
  have DZ4:=dU z9 X G fR 98 λF=>Ig B F
  have DZ5:=dU z9 X G fT 98 λF=>Ih B F DZ4
  have DZ6:=dU z9 X G fV 98 λF=>Ii B F
  have DZ7:=dU z9 X G fW 98 λF=>Ij B F
  have DZ8:HI l.prog w K mg base bD 3 Li ["self","tools","tasks","arcs","apart","moments"] [.non,.int 0] (vG IO):=⟨_,Ik B FZ8 DZ1 DZ2 DZ3 DZ5 DZ6 DZ7,FZ8.binds (ps:= ["self","tools","tasks","arcs","apart","moments"]) (ds:= []) f0 rfl λ_ _ _ _ _ _ us hl=>match us,hl with| [_,_,_,_,_,_],_=>⟨_,rfl,rfl⟩,⟨[.none,.int 0 bo],FZ8.binds (ps:= ["self","tools","tasks","arcs","apart","moments"]) (ds:= [.none,.int 0 bo]) f0 rfl λ_ _ _ _ _ _ us hl=>match us,hl with| [_,_,_,_],_=>⟨_,rfl,rfl⟩| [],h=>absurd h (by simp)| [_],h=>absurd h (by simp)| [_,_],h=>absurd h (by simp)| [_,_,_],h=>absurd h (by simp)|_::_::_::_::_::_,h=>absurd h (by simp),.cons rfl (.cons ⟨_,rfl⟩ .nil)⟩⟩
  have DZ9:=dU z9 X G ga 98 λF=>Il B F
  have DZ10:=dU z9 X G dX 98 λF=>FI B F
  have DZ11:=dU z9 X G dZ 98 λF=>FJ B F
  have DZ12:=dU z9 X G ea 98 λF=>FK B F
  have DZ13:=dU z9 X G eb 98 λF=>FL B F
  have DZ14:=dU z9 X G ec 170 λF=>FM B F DZ9
  have DZ15:=dU z9 X G ed 98 λF=>FN B F
  have DZ16:=dU z9 X G ee 98 λF=>FO B F DZ11
  have DZ17:=dU z9 X G ef 98 λF=>FP B F DZ12
  have DZ18:=dU z9 X G eg 170 λF=>FQ B F DZ13 DZ14
  have DZ19:=dU z9 X G eh 115 λF=>FR B F DZ18
  have DZ20:=dU z9 X G ei 115 λF=>FS B F DZ12 DZ14
  have DZ21:=dU z9 X G ej 98 λF=>FT B F DZ10 DZ15 DZ16 DZ17 DZ19 DZ20
  have DZ22:=dU z9 X G ek 98 λF=>FU B F DZ21
  have DZ23:=dU z9 X G el 98 λF=>FV B F DZ1
  have DZ24:=dU z9 X G em 98 λF=>FW B F DZ9
  have DZ25:=dU z9 X G en 115 λF=>FX B F DZ2
  have DZ26:=dU z9 X G eo 170 λF=>FY B F DZ24 DZ25
  have DZ27:=dU z9 X G ep 98 λF=>FZ B F DZ25
  have DZ28:=dU z9 X G eq 223 λF=>F0 B F
  have DZ29:=dU z9 X G er 98 λF=>F1 B F
  have DZ30:=dU z9 X G es 98 λF=>F4 B F DZ28 DZ29
  have DZ31:=dU z9 X G et 115 λF=>F5 B F
  have DZ32:=dU z9 X G eu 98 λF=>F6 B F
  have DZ33:=dU z9 X G ev 98 λF=>F7 B F
  have DZ34:=dU z9 X G ew 98 λF=>F8 B F DZ31 DZ32 DZ33
  have DZ35:=dU z9 X G ex 98 λF=>F9 B F DZ34
  have DZ36:=dU z9 X G ey 98 λF=>Ga B F
  have DZ37:=dU z9 X G ez 115 λF=>Gb B F DZ23
  have DZ38:=dU z9 X G e0 115 λF=>Gc B F DZ37
  have DZ39:=dU z9 X G e1 390 λF=>Gd B F DZ26 DZ27 DZ28 DZ29 DZ36 DZ38
  have DZ40:=dU z9 X G e2 115 λF=>Ge B F
  have DZ41:=dU z9 X G e3 98 λF=>Gg B F DZ36
  have DZ42:=dU z9 X G e4 98 λF=>Gh B F DZ1 DZ26 DZ27 DZ34 DZ35 DZ40 DZ41
  have DZ43:=dU z9 X G e5 98 λF=>Gi B F
  have DZ44:=dU z9 X G e6 223 λF=>Gj B F
  have DZ45:=dU z9 X G e7 98 λF=>Gk B F
  have DZ46:=dU z9 X G e8 98 λF=>Gm B F
  have DZ47:=dU z9 X G e9 223 λF=>Gn B F DZ45
  have DZ48:=dU z9 X G eA 170 λF=>Go B F DZ43
  have DZ49:=dU z9 X G eD 115 λF=>Gp B F DZ46
  have DZ50:=dU z9 X G eE 115 λF=>Gq B F
  have DZ51:=dU z9 X G eF 390 λF=>Gr B F DZ50
  have DZ52:=dU z9 X G eG 170 λF=>Gs B F
  have DZ53:=dU z9 X G eH 170 λF=>Gu B F DZ52
  have DZ54:=dU z9 X G eL 115 λF=>Gv B F
  have DZ55:=dU z9 X G eN 98 λF=>Gw B F DZ45 DZ46
  have DZ56:=dU z9 X G eO 98 λF=>Gx B F DZ45
  have DZ57:=dU z9 X G eP 170 λF=>Gy B F DZ43 DZ47 DZ48 DZ49 DZ51 DZ53
  have DZ58:=dU z9 X G eS 98 λF=>Gz B F
  have DZ59:=dU z9 X G eT 115 λF=>GA B F
  have DZ60:=dU z9 X G eW 98 λF=>GB B F DZ59
  have DZ61:=dU z9 X G eX 115 λF=>GC B F
  have DZ62:=dU z9 X G fb 115 λF=>GD B F DZ61
  have DZ63:=dU z9 X G fe 98 λF=>GE B F
  have DZ64:=dU z9 X G ff 170 λF=>GF B F DZ61 DZ63
  have DZ65:=dU z9 X G fi 115 λF=>GG B F DZ60
  have DZ66:=dU z9 X G fj 115 λF=>GH B F
  have DZ67:=dU z9 X G fl (λ_ _ _ _ _ _=>Bo λ_ _ _ _ _ _=>rfl) λF=>GI B F DZ64 DZ65 DZ66
  have DZ68:=dU z9 X G fp 115 λF=>GJ B F DZ45
  have DZ69:=dU z9 X G fr 115 λF=>GK B F DZ45
  have DZ70:=dU z9 X G fs 98 λF=>GL B F
  have DZ71:=dU z9 X G ft (λ_ _ _ _ _ _=>Bo λ_ _ _ _ _ _=>rfl) λF=>GM B F DZ42 DZ44 DZ64 DZ67
  have DZ72:=dU z9 X G fu 390 λF=>GN B F DZ27 DZ30 DZ34 DZ39 DZ43 DZ62 DZ68 DZ69 DZ70 DZ71
  exact GO B Flaw DZ8 DZ22 DZ43 DZ54 DZ55 DZ56 DZ57 DZ58 DZ72
theorem walk {l:PySem.W.OpenLaw} {q:Program} {loose:LI} {XP:LF->Heap->Prop} {YP:World->Heap->Prop} {d:DefRec} {K:Params->IS} (hn:l.most=some 63) (hdf:d.params.defaults= [])
  (hY:∀(w:World) (h:Heap),YP w h->(K w.params).In h)
  (F:∀(w:World) (mg:LF) (fa:Addr) (h:Heap),(K w.params).In h->h.Ns mainGlobals mg->mg d.name=some (.ref fa)->
   ∃fd:FuncData,(∀(s:Shared) (u:Value),BindsTo s fd ⟨[u],[]⟩ [("_law_script",u)])/\∀base:Heap,(K w.params).In base->base.Ns mainGlobals mg->bI l.prog w (K w.params) mg base bD 9 fa fd ["_law_script"] (wI (K w.params))):
  PySem.W.WalkO q loose XP YP l.row.toRowW d [] (λf vs=>PySem.call f vs):=
 L2.BO (n:=63) (k:=9) (x:= "_law_script") (CX:=λ_=>bD) (sp:=λw=>wI (K w.params)) hn 49 hdf ⟨rfl,by decide,by decide⟩ hY F (λ_ _ a ns hl _ hS=>(aN a ns ⟨rfl,hS,hl,λ_=>rfl⟩)) λ_ _ _ _ _ z=>z
universe Lk68
end
open PySem PySem.W PyProof.Rows
set_option maxRecDepth 100000 in
set_option maxHeartbeats 0 in
theorem PySem.Challenge.cw_stovework_k68_whole_stretches_are_true_holds : PySem.Challenge.rw_stovework_k68_whole_stretches_are_true.Holds := by
 refine Lk68.hd ?_
 k_fill
 refine Lk68.walk (l:=PySem.Challenge.rw_stovework_k68_whole_stretches_are_true) rfl rfl (λw h Y=>PySem.W.kIn_of Y) ?F
 case F=>
  intro w mg fa h KX G hmg
  refine' Lk68.EG KX G hmg ?a ?b ?c ?d ?e ?f ?g ?h ?i ?j ?k ?l ?m ?n ?o ?p ?q ?r ?s ?t ?u ?v ?w ?x ?y ?z ?A ?B ?C ?D ?E ?F ?G ?H ?I ?J ?K ?L ?M ?N ?O ?P ?Q ?R ?S ?T ?U ?V ?W ?X ?Y ?Z ?aa ?ab ?ac ?ad ?ae ?af ?ag ?ah ?ai ?aj ?ak ?al ?am ?an ?ao ?ap ?aq ?ar ?au ?av ?aw ?ax ?ay ?az ?aA ?aB ?aC ?aD ?aE ?aF ?aG ?aH ?aI ?aJ ?aK ?aL ?aM ?aN ?aO ?aP ?aQ ?aR ?aS ?aT ?aU ?aV ?aW ?aX ?aY ?aZ ?ba ?bb ?bc ?bd ?be ?bf ?bg ?bh ?bi ?bj ?bk ?bl ?bm
  case a|b|c|d|e|f|g|h|i|j|k|l|m|n|o|p|q|r|s|t|u|v|w|x|y|z|A|B|C|D|E|F|G|H|I|J|K|L|M|N|O|P|Q|R|S|T|U|V|W|X|Y|Z|aa|ab|ac|ad|ae|af|ag|ah|ai|aj|ak|al|am|an|ao|ap|aq|ar|au|av=>exact ⟨by k_is,_,_,_,_,_,_,_,_,_,by k_is,by k_is,by k_is⟩
  case aw|ax|ay|az|aA|aB|aC|aD|aE|aF|aG|aH|aI|aJ|aK|aL|aM|aN|aO|aP|aQ|aR|aS|aT|aU|aV|aW|aX|aY|aZ|ba|bb|bc|bd=>k_is
  case be=>exact ⟨_,_,_,_,_,_,_,_,_,by k_is,by k_is,by k_is⟩
  case bf=>k_is
  case bg|bh=>exact ⟨by k_is,by k_is,by k_is,by k_is⟩
  case bi|bj|bk|bl|bm=>(unfold L2.dy;k_is)
