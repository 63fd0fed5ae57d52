import PyProof.Rows.All
import Wide.All
import OpenK.AllK
import Wide.FinOn
import Lean
import PyProof.EqAt
import PyProof.EqKinds
import PyProof.TupleCall
import PyProof.NeKinds
import PyProof.StationsW
import PyProof.RulesAs
import PyProof.ExcArgsOwn
import PyProof.CompFree
import PyProof.ExcInit
import PyProof.ConsumeWalk
import PyProof.Rows.SeqGen
import PyProof.StrWalks
import PyProof.SliceStr2
import PyProof.MeetsStr
import KE.KIntText
import PyProof.Rows.FStr
import PyProof.StrCalls6
import PyProof.StrBlockL
import PyProof.ToksMono
import PyProof.WalkInts
import PyProof.Rows.MinMaxN
import PyProof.StrLawsReplace
import PyProof.StrLawsTight
import PyProof.Rows.StrLawsPart
import PyProof.DictWalks
import KE.KEqDict
import KE.KDictLaws
import KE.KRevIter
import PyProof.ListCopy
import PyProof.CollectIter
import PyProof.Rows.SetFrom
import PyProof.Rows.SortShellK
import PyProof.Rows.SortStr
import PyProof.Rows.SortWalk
import KE.KDictSum
import KE.KSortTup
import PyProof.TupleOfSeq
import PyProof.Rows.SortRuns
import PyProof.FactsAll.tuple_2
import PyProof.WalksEnum
import PyProof.EnumMake
import PyProof.EnumFor
import PyProof.ZipIter
import KE.KDictOf
import PyProof.DictItems
import PyProof.FactsAll.dict_itemiterator_1
import PyProof.Rows.StrMul
import KE.KDictList
import PyProof.Rows.SumAny
import KE.KIsAll
import PyProof.StrLaws
import PyProof.FactsAll.list_3
import KE.KUnpack
import PyProof.Rows.CallKwBuiltin
import PySem.Challenge.RW_stovework_k35_recipe_read
set_option maxHeartbeats 4000000
noncomputable section
abbrev Ik:=PySem.Value->PySem.Shared->Prop
abbrev Il:=PySem.Str->Option PySem.Value
abbrev Im:=List (PySem.Addr×PySem.Obj)
abbrev Io:=Array (Option PySem.Value)
abbrev Ip:=List PySem.Str
abbrev Iq:=List PySem.Addr
abbrev Ir:=List PySem.Value
abbrev Iu:=Option PySem.Addr
abbrev Iv:=Option PySem.Value
open Array renaming getElem?_toList → FA, length_toList → FQ, getElem?_eq_some_iff → FX
open Bool renaming false_ne_true → EM
open Int renaming fmod_nonneg_of_pos → EH, fmod_lt_of_pos → Ec, natCast_mul → Et, le_of_lt → F8, fdiv_eq_ediv_of_nonneg → F9, mul_le_mul_of_nonneg_right → FU, mul_ediv_cancel_left → Fd
open List renaming getElem?_eq_getElem → E1, mem_cons → E3, mem_of_getElem? → E4, length_map → E5, mem_cons_of_mem → E6, getElem?_map → E7, getElem?_eq_some_iff → E8, not_mem_nil → E9, getElem?_append_right → EA, mem_singleton → EC, mem_iff_getElem? → ED, mem_append_right → EE, getElem?_append_left → EF, length_append → EG, mem_append → EI, length_take → EK, mem_map → EO, length_cons → EQ, size_toArray → ES, take_append_drop → EZ, nodup_cons → Ee, length_drop → Eo, mem_cons_self → Er, append_assoc → Es, nodup_append → Ew, mem_flatten → Ey, mem_append_left → Ez, pairwise_map → FE, ext_getElem? → FF, range → FG, map_append → FH, take_of_length_le → FJ, drop_eq_getElem_cons → FN, pairwise_append → FO, getElem?_take_of_lt → FP, map_congr_left → FR, length_reverse → FS, eq_nil_of_length_eq_zero → FV, getElem?_eq_none → FW, map_map → FY, all_eq_true → FZ, filterMap_cons → Fa, map_cons → Fc
open Nat renaming le_refl → EB, lt_of_lt_of_le → ER, lt_trans → ET, ne_of_lt → EU, le_trans → EV, lt_of_le_of_lt → Ef, zero_le → F0, gcd → FC, ne_of_gt → FK, add_lt_add_left → FT
open Option renaming map_eq_some_iff → Ed, bind_eq_some_iff → En, isSome_iff_exists → FB
open Option.some renaming inj → EL
open PyProof renaming noPylong_small → Eb
open PyProof.Rows renaming callWith_type1 → FD
open PySem renaming mem_of_lookup → Eu
open PySem.F renaming type_list_append → EW, slot_list_append → EX, plainAttrs_list → EY, plainAttrs_str → FI
open PySem.W renaming Frag → D9, kitOne → EJ, nsIn → EN, mg_of → Ea, findIn → Em, mg_none_of → Ep, kia_one → Ex, fnOf → F5, keepIn → F6, emptyDict → F7, instObj → FM, callWith_K → Fb
open PySem.W.Fast renaming te14364793385576792824 → Eg, te14289696077712309145 → Eh, te11892475500146522536 → Ei, te10274390034422433532 → Ej, te10156331382660048174 → Ek, te6613529449190102663 → El
namespace Ht
open PySem PySem.W PyProof.Rows
noncomputable def oh (ok:Thread->Bool) (st:SharedT->Thread->Option (SharedT×Thread)) (n:Nat):SharedT->Thread->Option SharedT:=
 Nat.rec (motive:=fun _=>SharedT->Thread->Option SharedT) (fun _ _=>none) (fun _ ih s t=>
  Bool.rec (motive:=fun _=>Option SharedT)
   (Bool.rec (motive:=fun _=>Option SharedT) none (Option.rec (motive:=fun _=>Option SharedT) none (fun r=>Prod.rec (motive:=fun _=>Option SharedT) (fun s' t'=>ih s' t') r) (st s t)) (ok t))
   (some s) (through t)) n
theorem pR {tb:String->Option Builtin} {p:Program} {w:World} {m:Nat} {ann:Iv}:∀{n:Nat} {s s':SharedT} {t:Thread},oh (stepOk m ann) (stepT (denote tb) p w) n s t=some s'->topRun tb p w m ann n s.abs t=some s'.abs
 |0,_,_,_,h=>by cases h
 |n+1,s,s',t,h=>by
  unfold topRun;have h':Bool.rec (motive:=fun _=>Option SharedT)
   (Bool.rec (motive:=fun _=>Option SharedT) none (Option.rec (motive:=fun _=>Option SharedT) none (fun r=>Prod.rec (motive:=fun _=>Option SharedT) (fun s' t'=>oh (stepOk m ann) (stepT (denote tb) p w) n s' t') r) (stepT (denote tb) p w s t)) (stepOk m ann t))
   (some s) (through t)=some s':=h
  cases ht:through t with
  |true=>rw[ht] at h';cases h';rfl
  |false=>
   rw[ht] at h';cases hk:stepOk m ann t with
   |false=>rw[hk] at h';cases h'
   |true=>
    rw[hk] at h';cases hs:stepT (denote tb) p w s t with
    |none=>rw[hs] at h';cases h'
    |some r=>
     obtain ⟨s₂,t₂⟩:=r;rw[hs] at h';dsimp only;rw[stepT_spec hs];exact pR h'
noncomputable def grow (l:List Obj):Nat->BT->Option BT:=
 List.rec (motive:=fun _=>Nat->BT->Option BT) (fun _ t=>some t) (fun o _ ih n t=>
  Bool.rec (motive:=fun _=>Option BT) none (ih (n+1) (t.ins n o)) ((t.ins n o).get n).isSome) l
theorem pS {life:Life}:∀{l:List Obj} {n:Nat} {t t':BT},grow l n t=some t'->absHeap t' (n+l.length) life=⟨(absHeap t n life).objs++l.toArray,life⟩
 | [],n,t,t',h=>by
  cases h;simp[absHeap]
 |o::l,n,t,t',h=>by
  have h':Bool.rec (motive:=fun _=>Option BT) none (grow l (n+1) (t.ins n o)) ((t.ins n o).get n).isSome=some t':=h
  cases e:((t.ins n o).get n).isSome with
  |false=>rw[e] at h';cases h'
  |true=>
   rw[e] at h';have z:=pS (life:=life) h';rw[absHeap_ins e] at z;rw[show n+(o::l).length=n+1+l.length by rw[EQ];omega,z]
   simp[Heap.push]
noncomputable def treeOf (s:Shared):Option SharedT:=
 Option.rec (motive:=fun _=>Option SharedT) none (fun t=>some ⟨t,s.heap.objs.size,s.heap.life,s.gens,s.drawn,s.toks,s.os⟩) (grow s.heap.objs.toList 0 .nil)
theorem om {s:Shared} {s':SharedT} (h:treeOf s=some s'):s'.abs=s:=by
 have h':Option.rec (motive:=fun _=>Option SharedT) none (fun t=>some ⟨t,s.heap.objs.size,s.heap.life,s.gens,s.drawn,s.toks,s.os⟩) (grow s.heap.objs.toList 0 .nil)=some s':=h
 cases e:grow s.heap.objs.toList 0 .nil with
 |none=>rw[e] at h';cases h'
 |some t=>
  rw[e] at h';cases h';have z:=pS (life:=s.heap.life) e;obtain ⟨⟨objs,life⟩,gens,drawn,toks,os⟩:=s;simp only[SharedT.abs];have z':absHeap t objs.size life=⟨objs,life⟩:=by
   simpa [absHeap,BT.list] using z
  rw[z']
noncomputable def sI (ok:Nat->Iv->Thread->Bool) (st:SharedT->Thread->Option (SharedT×Thread)) (p:Program) (N:Nat) (s₀:Shared):Option Shared:=
 Bool.rec (motive:=fun _=>Option Shared) none
  ((treeOf s₀).bind fun t₀=>(oh (ok s₀.heap.objs.size (s₀.heap.nsMap mainGlobals "__annotations__")) st N t₀ (topStub p)).bind fun t₁=>
   (fun s₁=>Bool.rec (motive:=fun _=>Option Shared) none (some s₁) (staticsOk (importedModules p.main.body) s₀.heap s₁.heap&&namesBound p s₁.heap&&gensDone s₁&&laidKept s₀.heap s₁.heap)) t₁.abs)
  (s₀.heap.isNs mainGlobals&&s₀.gens.size==0)
theorem sJ {tb:String->Option Builtin} {p:Program} {w:World} {N:Nat} {s₀ s:Shared} (h:sI stepOk (stepT (denote tb) p w) p N s₀=some s):topFrom tb p w N s₀=some s:=by
 unfold sI at h;unfold topFrom;cases e:s₀.heap.isNs mainGlobals&&s₀.gens.size==0 with
 |false=>rw[e] at h;cases h
 |true=>
  rw[e] at h;obtain ⟨t₀,e0,h⟩:=En.mp h;obtain ⟨t₁,e1,h⟩:=En.mp h;have r:=pR e1;rw[om e0] at r;dsimp only;rw[r];dsimp only at h;show (match staticsOk (importedModules p.main.body) s₀.heap t₁.abs.heap&&namesBound p t₁.abs.heap&&gensDone t₁.abs&&laidKept s₀.heap t₁.abs.heap with|true=>some t₁.abs|false=>none)=some s
  cases q:staticsOk (importedModules p.main.body) s₀.heap t₁.abs.heap&&namesBound p t₁.abs.heap&&gensDone t₁.abs&&laidKept s₀.heap t₁.abs.heap with
  |false=>rw[q] at h;cases h
  |true=>rw[q] at h;exact h
noncomputable def jD (ok:Nat->Iv->Thread->Bool) (st:SharedT->Thread->Option (SharedT×Thread)) (p:Program) (N:Nat) (s₀:Shared):Option Shared:=
 (treeOf s₀).bind fun t₀=>(oh (ok s₀.heap.objs.size (s₀.heap.nsMap mainGlobals "__annotations__")) st N t₀ (topStub p)).map fun t₁=>t₁.abs
def q8 (p:Program) (s₀ s₁:Shared):Bool:=(s₀.heap.isNs mainGlobals&&s₀.gens.size==0)&&(staticsOk (importedModules p.main.body) s₀.heap s₁.heap&&namesBound p s₁.heap&&gensDone s₁&&laidKept s₀.heap s₁.heap)
theorem sK {tb:String->Option Builtin} {p:Program} {w:World} {N:Nat} {s₀ s:Shared} (h:jD stepOk (stepT (denote tb) p w) p N s₀=some s) (c:q8 p s₀ s=true):topFrom tb p w N s₀=some s:=by
 apply sJ;unfold jD at h;obtain ⟨t₀,e0,h⟩:=En.mp h;obtain ⟨t₁,e1,rfl⟩:=Ed.mp h;unfold q8 at c;rw[Bool.and_eq_true] at c;unfold sI;rw[c.1];show ((treeOf s₀).bind fun t₀=>_)=_
 rw[e0];show ((oh _ _ N t₀ (topStub p)).bind fun t₁=>_)=_
 rw[e1];show (Bool.rec (motive:=fun _=>Option Shared) none (some t₁.abs) (staticsOk (importedModules p.main.body) s₀.heap t₁.abs.heap&&namesBound p t₁.abs.heap&&gensDone t₁.abs&&laidKept s₀.heap t₁.abs.heap):Option Shared)=_
 rw[c.2]
abbrev Look (p:Program) (N:Nat) {α:Type} (f:Shared->Shared->α) (v:World->α):Prop:=∀w:World,((importEnds treeTable (opening p) w N (start (opening p)).1 (start (opening p)).2).bind fun s=>(fenceModules? p s).bind fun s₀=>(jD stepOk (stepT (denote treeTable) p w) p N s₀).map fun s₁=>f s₀ s₁)=some (v w)
theorem Look.at_ {p:Program} {N:Nat} {α:Type} {f:Shared->Shared->α} {v:World->α} (h:Look p N f v) (w:World) {s s₀ s₁:Shared} (a:importEnds treeTable (opening p) w N (start (opening p)).1 (start (opening p)).2=some s) (b:fenceModules? p s=some s₀) (c:jD stepOk (stepT (denote treeTable) p w) p N s₀=some s₁):f s₀ s₁=v w:=by
 have:=h w;rw[a] at this;replace this:((fenceModules? p s).bind fun s₀=>(jD stepOk (stepT (denote treeTable) p w) p N s₀).map fun s₁=>f s₀ s₁)=some (v w):=this
 rw[b] at this;replace this:((jD stepOk (stepT (denote treeTable) p w) p N s₀).map fun s₁=>f s₀ s₁)=some (v w):=this
 rw[c] at this;injection this
theorem sM {p q:Program} {loose:Ip} {Xt:Shared->Bool} {α:Type} {Yf:Shared->α} {Ya:World->α} {N:Nat} {g0:Bool} (hc:Look p N (fun s₀ s₁=>q8 p s₀ s₁) fun _=>true)
  (h1:Look p N (fun _ s=>openSeen q loose (importedModules p.main.body) Xt g0 s) fun _=>openGood q loose) (h2:Look p N (fun _ s=>Yf s) Ya):LeftO p q loose Xt Yf Ya N g0:=fun w=>by
 obtain ⟨s,a,e⟩:=En.mp (hc w);obtain ⟨s₀,b,e⟩:=En.mp e;obtain ⟨s₁,c,e⟩:=Ed.mp e;have z:openEnds treeTable p w N=some s₁:=by
  unfold openEnds fencedOpening;rw[a];show (fenceModules? p s).bind _=_;rw[b];exact sK c e
 rw[z];show some (_,_)=some (_,_);rw[h1.at_ w a b c,h2.at_ w a b c]
def dB (p:Program) (N:Nat) {α:Type} (f:Shared->Shared->α) (v:World->α) (w:World):Prop:=((importEnds treeTable (opening p) w N (start (opening p)).1 (start (opening p)).2).bind fun s=>(fenceModules? p s).bind fun s₀=>(jD stepOk (stepT (denote treeTable) p w) p N s₀).map fun s₁=>f s₀ s₁)=some (v w)
noncomputable def pT (t:SharedT) (a:Addr):Option Obj:=Bool.rec (motive:=fun _=>Option Obj) none ((fun o=>Bool.rec (motive:=fun _=>Option Obj) (some o) none (Obj.isFreed o)) ((t.tree.get a).getD default)) (Nat.blt a t.n)
theorem re (t:SharedT) (a:Addr):pT t a=t.abs.heap.get? a:=by
 unfold pT SharedT.abs Heap.get?;dsimp only;rw[absHeap_at];cases h:Nat.blt a t.n with
 |false=>
  rw[if_neg fun z=>by rw[Nat.blt_eq.mpr z] at h;cases h]
 |true=>
  rw[if_pos (Nat.blt_eq.mp h)];obtain ⟨cls,dict,data,slots⟩:=(t.tree.get a).getD default;cases data<;>rfl
theorem rf {p:Program} {N:Nat} {as:Iq} {v:World->List (Option Obj)}
  (h:∀w:World,((importEnds treeTable (opening p) w N (start (opening p)).1 (start (opening p)).2).bind fun s=>(fenceModules? p s).bind fun s₀=>(treeOf s₀).bind fun t₀=>(oh (stepOk s₀.heap.objs.size (s₀.heap.nsMap mainGlobals "__annotations__")) (stepT (denote treeTable) p w) N t₀ (topStub p)).map fun t₁=>as.map (pT t₁))=some (v w)):
  Look p N (fun _ s=>as.map s.heap.get?) v:=fun w=>by
 obtain ⟨s,a,e⟩:=En.mp (h w);obtain ⟨s₀,b,e⟩:=En.mp e;obtain ⟨t₀,c,e⟩:=En.mp e;obtain ⟨t₁,d,e⟩:=Ed.mp e;rw[a];show (fenceModules? p s).bind _=_;rw[b];show (jD stepOk (stepT (denote treeTable) p w) p N s₀).map _=_;unfold jD;rw[c];show ((oh _ _ N t₀ (topStub p)).map fun t₁=>t₁.abs).map _=_
 rw[d];show some (as.map t₁.abs.heap.get?)=_;rw[<-e,show (as.map (pT t₁))=as.map t₁.abs.heap.get? from FR fun a _=>re t₁ a]
theorem xE {p:Program} {N:Nat} {α β γ δ:Type} {f:Shared->Shared->α×β×γ×δ} {v:World->α×β×γ×δ} (h1:Look p N (fun a b=>((f a b).1,(f a b).2.1,(f a b).2.2.1)) fun w=>((v w).1,(v w).2.1,(v w).2.2.1)) (h2:Look p N (fun a b=>(f a b).2.2.2) fun w=>(v w).2.2.2):Look p N f v:=fun w=>by
 obtain ⟨s,a,e⟩:=En.mp (h1 w);obtain ⟨s₀,b,e⟩:=En.mp e;obtain ⟨s₁,c,e⟩:=Ed.mp e;have e1:=h1.at_ w a b c;have e2:=h2.at_ w a b c;rw[a];show (fenceModules? p s).bind _=_;rw[b];show (jD stepOk (stepT (denote treeTable) p w) p N s₀).map _=_;rw[c];obtain ⟨f1,f2⟩:=Prod.mk.inj e1;obtain ⟨f2,f3⟩:=Prod.mk.inj f2;have f4:f s₀ s₁=v w:=Prod.ext f1 (Prod.ext f2 (Prod.ext f3 e2));exact congrArg some f4
end Ht
set_option Elab.async false
set_option linter.all false
set_option maxRecDepth 100000
namespace Lk35
open PySem PySem.W PyProof.Rows
def qv:Program:={PySem.Challenge.pw_stovework_k35_recipe_read with main:={PySem.Challenge.pw_stovework_k35_recipe_read.main with body:=([1,2,3,4,5,6,7,9,10,11,13,14,17,18,19,20,21,23,24,25,26,28,29,30,32,33,35,36,37,38,40,41,42,43,44,46,48,49,50,51,52,53,54,55,56,57,58,59,60,61,62,63,64,65,66,67,68,69,71,72,73,74,75,76,77,78,79,80,81,82,83,84,85,86,87,88,89]:List Nat).filterMap fun i=>PySem.Challenge.pw_stovework_k35_recipe_read.main.body[i]?}}
def lo:Ip:= ["fraction","BOUNDS","Warm","FORMS"]
theorem head {α:Type} {Yf:Shared->α} {Ya:World->α} {YP:World->Heap->Prop} {d:DefRec} {kwd:List (Str×Expr)} (left:LeftO PySem.Challenge.pw_stovework_k35_recipe_read qv lo (fun s=>xlAt qv [] s&&recOk [] s) Yf Ya 10714)
  (hY:∀w s,Yf s=Ya w->YP w s.heap) (hYk:∀w h h',YP w h->(∀b o,h.get? b=some o->h'.get? b=some o)->YP w h') (hd:defOf qv PySem.Challenge.rw_stovework_k35_recipe_read.row.name=some (d,kwd))
  (hp:PySem.Challenge.rw_stovework_k35_recipe_read.row.prog.theDef PySem.Challenge.rw_stovework_k35_recipe_read.row.name=some (d.params,d.body,d.scope)) (hk:kwWritten? d.params.kwonlyargs d.params.kw_defaults=some kwd)
  (said:PySem.Challenge.rw_stovework_k35_recipe_read.row.wellSaid=true) (hw:PySem.Challenge.rw_stovework_k35_recipe_read.row.toRowW.promised) (call:WalkO qv lo (XL qv []) YP PySem.Challenge.rw_stovework_k35_recipe_read.row.toRowW d kwd fun f vs=>PySem.call f vs):PySem.Challenge.rw_stovework_k35_recipe_read.row.Holds:=
 holds_open left hY hYk (fun s e=>xl_of s (Bool.and_eq_true_iff.mp e).1) XL.keeps hd hp hk (fun s e=>recFacts_of (Bool.and_eq_true_iff.mp e).2) rfl said (by decide+kernel) ⟨rfl,rfl,rfl,rfl,rfl,by decide+kernel⟩ hw call
set_option maxHeartbeats 0 in
theorem DI:∀w:World,Ht.dB PySem.Challenge.pw_stovework_k35_recipe_read 10714 (fun s₀ s₁=>Ht.q8 PySem.Challenge.pw_stovework_k35_recipe_read s₀ s₁) (fun _=>true) (w.withFollow "special-get-raises" false):=by
 intro w;unfold Ht.dB;rw[Ej,Eh,El,Ek,Ei,Eg]
 kernel_rfl
set_option maxHeartbeats 0 in
theorem DJ:∀w:World,Ht.dB PySem.Challenge.pw_stovework_k35_recipe_read 10714 (fun s₀ s₁=>Ht.q8 PySem.Challenge.pw_stovework_k35_recipe_read s₀ s₁) (fun _=>true) (w.withFollow "special-get-raises" true):=by
 intro w;unfold Ht.dB;rw[Ej,Eh,El,Ek,Ei,Eg]
 kernel_rfl
theorem la:Ht.Look PySem.Challenge.pw_stovework_k35_recipe_read 10714 (fun s₀ s₁=>Ht.q8 PySem.Challenge.pw_stovework_k35_recipe_read s₀ s₁) (fun _=>true):=PySem.W.byRow2 "special-get-raises" DI DJ
set_option maxHeartbeats 0 in
theorem Cs:∀w:World,Ht.dB PySem.Challenge.pw_stovework_k35_recipe_read 10714 (fun _ s=>((openSeen qv lo (importedModules PySem.Challenge.pw_stovework_k35_recipe_read.main.body) (fun s=>xlAt qv [] s&&recOk [] s) true s).1,(openSeen qv lo (importedModules PySem.Challenge.pw_stovework_k35_recipe_read.main.body) (fun s=>xlAt qv [] s&&recOk [] s) true s).2.1,(openSeen qv lo (importedModules PySem.Challenge.pw_stovework_k35_recipe_read.main.body) (fun s=>xlAt qv [] s&&recOk [] s) true s).2.2.1)) (fun _=>((openGood qv lo).1,(openGood qv lo).2.1,(openGood qv lo).2.2.1)) (w.withFollow "special-get-raises" false):=by
 intro w;unfold Ht.dB;dsimp only[openSeen,openGood];rw[Ej,Eh,El,Ek,Ei,Eg]
 kernel_rfl
set_option maxHeartbeats 0 in
theorem Ct:∀w:World,Ht.dB PySem.Challenge.pw_stovework_k35_recipe_read 10714 (fun _ s=>((openSeen qv lo (importedModules PySem.Challenge.pw_stovework_k35_recipe_read.main.body) (fun s=>xlAt qv [] s&&recOk [] s) true s).1,(openSeen qv lo (importedModules PySem.Challenge.pw_stovework_k35_recipe_read.main.body) (fun s=>xlAt qv [] s&&recOk [] s) true s).2.1,(openSeen qv lo (importedModules PySem.Challenge.pw_stovework_k35_recipe_read.main.body) (fun s=>xlAt qv [] s&&recOk [] s) true s).2.2.1)) (fun _=>((openGood qv lo).1,(openGood qv lo).2.1,(openGood qv lo).2.2.1)) (w.withFollow "special-get-raises" true):=by
 intro w;unfold Ht.dB;dsimp only[openSeen,openGood];rw[Ej,Eh,El,Ek,Ei,Eg]
 kernel_rfl
theorem DK:Ht.Look PySem.Challenge.pw_stovework_k35_recipe_read 10714 (fun _ s=>((openSeen qv lo (importedModules PySem.Challenge.pw_stovework_k35_recipe_read.main.body) (fun s=>xlAt qv [] s&&recOk [] s) true s).1,(openSeen qv lo (importedModules PySem.Challenge.pw_stovework_k35_recipe_read.main.body) (fun s=>xlAt qv [] s&&recOk [] s) true s).2.1,(openSeen qv lo (importedModules PySem.Challenge.pw_stovework_k35_recipe_read.main.body) (fun s=>xlAt qv [] s&&recOk [] s) true s).2.2.1)) (fun _=>((openGood qv lo).1,(openGood qv lo).2.1,(openGood qv lo).2.2.1)):=PySem.W.byRow2 "special-get-raises" Cs Ct
set_option maxHeartbeats 0 in
theorem Cu:∀w:World,Ht.dB PySem.Challenge.pw_stovework_k35_recipe_read 10714 (fun _ s=>(openSeen qv lo (importedModules PySem.Challenge.pw_stovework_k35_recipe_read.main.body) (fun s=>xlAt qv [] s&&recOk [] s) true s).2.2.2) (fun _=>(openGood qv lo).2.2.2) (w.withFollow "special-get-raises" false):=by
 intro w;unfold Ht.dB;dsimp only[openSeen,openGood];rw[Ej,Eh,El,Ek,Ei,Eg]
 kernel_rfl
set_option maxHeartbeats 0 in
theorem Cv:∀w:World,Ht.dB PySem.Challenge.pw_stovework_k35_recipe_read 10714 (fun _ s=>(openSeen qv lo (importedModules PySem.Challenge.pw_stovework_k35_recipe_read.main.body) (fun s=>xlAt qv [] s&&recOk [] s) true s).2.2.2) (fun _=>(openGood qv lo).2.2.2) (w.withFollow "special-get-raises" true):=by
 intro w;unfold Ht.dB;dsimp only[openSeen,openGood];rw[Ej,Eh,El,Ek,Ei,Eg]
 kernel_rfl
theorem DL:Ht.Look PySem.Challenge.pw_stovework_k35_recipe_read 10714 (fun _ s=>(openSeen qv lo (importedModules PySem.Challenge.pw_stovework_k35_recipe_read.main.body) (fun s=>xlAt qv [] s&&recOk [] s) true s).2.2.2) (fun _=>(openGood qv lo).2.2.2):=PySem.W.byRow2 "special-get-raises" Cu Cv
theorem lb:Ht.Look PySem.Challenge.pw_stovework_k35_recipe_read 10714 (fun _ s=>(openSeen qv lo (importedModules PySem.Challenge.pw_stovework_k35_recipe_read.main.body) (fun s=>xlAt qv [] s&&recOk [] s) true s)) (fun _=>(openGood qv lo)):=Ht.xE DK DL
end Lk35
local macro_rules| `(tactic|o_head $H)=> `(tactic|(refine Lk35.head (Yf:=PySem.W.Hook.obs $H) (Ya:=PySem.W.Hook.val $H) (YP:=PySem.W.Hook.says $H) ?hl (PySem.W.Hook.of $H) (PySem.W.Hook.keeps $H) (by rfl) (by rfl) (by rfl) (by assumption) ?hw ?hc;(case hl=>(refine Ht.sM Lk35.la Lk35.lb ?c;(case c=>(refine Ht.rf ?c2;(case c2=>(refine PySem.W.byRow2 "special-get-raises" (fun w=>?_) (fun w=>?_)<;>(rw[Ej,Eh,El,Ek,Ei,Eg];kernel_rfl)))))))))
namespace PySem.W.Fast
def tw7305081249037415899:PySem.Program:=PySem.Challenge.pw_stovework_k35_recipe_read
theorem te7305081249037415899:PySem.Challenge.pw_stovework_k35_recipe_read=tw7305081249037415899:=rfl
end PySem.W.Fast
set_option maxHeartbeats 0 in
open_top Lk35.hd for PySem.Challenge.rw_stovework_k35_recipe_read
namespace L2
open PySem PySem.Spec PyProof.Rows
abbrev Key:=Sum Int Str
def jL:Key->Value->Bool
 | .inl k,v=>Value.isInt k v
 | .inr x,v=>Value.isStrOf x v
def Cw (w:World):Key->Int
 | .inl k=>hashInt k
 | .inr x=>hashStr w x
theorem b6:∀{k:Key} {v:Value},jL k v=true->(∃i t,k=Sum.inl i/\v=Value.int i t)∨(∃x t,k=Sum.inr x/\v=Value.str x t)
 | .inl i,v,h=>by
  obtain ⟨t,e⟩:=Value.isInt_shape (k:=i) (v:=v) h;exact .inl ⟨i,t,rfl,e⟩
 | .inr x,v,h=>by
  obtain ⟨t,e⟩:=Value.isStrOf_shape (x:=x) (v:=v) h;exact .inr ⟨x,t,rfl,e⟩
theorem rg (i:Int) (t:Tok):jL (.inl i) (.int i t)=true:=by simp[jL,Value.isInt]
theorem rh (x:Str) (t:Tok):jL (.inr x) (.str x t)=true:=by simp[jL,Value.isStrOf]
theorem xF (a b:Int):decide ((Sum.inl a:Key)=Sum.inl b)=(a==b):=by
 by_cases e:a=b
 ·subst e;simp
 ·have h:¬(Sum.inl a:Key)=Sum.inl b:=fun q=>e (Sum.inl.inj q)
  rw[decide_eq_false h];exact (beq_eq_false_iff_ne.mpr e).symm
theorem xG (a b:Str):decide ((Sum.inr a:Key)=Sum.inr b)=decide (a=b):=by
 by_cases e:a=b
 ·subst e;simp
 ·have h:¬(Sum.inr a:Key)=Sum.inr b:=fun q=>e (Sum.inr.inj q)
  rw[decide_eq_false h,decide_eq_false e]
theorem xH (a:Int) (b:Str):decide ((Sum.inl a:Key)=Sum.inr b)=false:=decide_eq_false (fun q=>nomatch q)
theorem xI (a:Str) (b:Int):decide ((Sum.inr a:Key)=Sum.inl b)=false:=decide_eq_false (fun q=>nomatch q)
def dH (prog:Program) (w:World):PySem.KeyKind prog w Key where
 is:=jL
 hash:=Cw w
 inj:=fun v a b ha hb=>by
  rcases b6 ha with ⟨i,t,rfl,rfl⟩|⟨x,t,rfl,rfl⟩
  ·rcases b6 hb with ⟨j,u,rfl,e⟩|⟨y,u,rfl,e⟩
   ·injection e with e1 _;rw[e1]
   ·exact nomatch e
  ·rcases b6 hb with ⟨j,u,rfl,e⟩|⟨y,u,rfl,e⟩
   ·exact nomatch e
   ·injection e with e1 _;rw[e1]
 byValue:=fun k v h=>by
  rcases b6 h with ⟨i,t,rfl,rfl⟩|⟨x,t,rfl,rfl⟩<;>rfl
 pyHash:=fun hv h=>by
  rcases b6 hv with ⟨i,t,rfl,rfl⟩|⟨x,t,rfl,rfl⟩
  ·exact wpAny_pyHash_int h
  ·exact wpAny_pyHash_str h
 eqBool:=fun hu hv h=>by
  rcases b6 hu with ⟨i,t,rfl,rfl⟩|⟨x,t,rfl,rfl⟩
  ·rcases b6 hv with ⟨j,u,rfl,rfl⟩|⟨y,u,rfl,rfl⟩
   ·rw[xF] at h;exact wpAny_eqBool_int h
   ·rw[xH] at h;exact SeqAt.EqAt.int_str i t y u _ _ _ _ h
  ·rcases b6 hv with ⟨j,u,rfl,rfl⟩|⟨y,u,rfl,rfl⟩
   ·rw[xI] at h;exact SeqAt.EqAt.str_int x t j u _ _ _ _ h
   ·rw[xG] at h;exact wpAny_eqBool_str h
 «strs» :=fun k x t v h=>by
  rcases b6 h with ⟨i,u,rfl,e⟩|⟨y,u,rfl,e⟩
  ·exact nomatch e
  ·injection e with e1 _
   subst e1;cases v<;>rfl
theorem l8 (prog:Program) (w:World) (i:Int) (t:Tok):(dH prog w).is (.inl i) (.int i t)=true:=rg i t
theorem l9 (prog:Program) (w:World) (x:Str) (t:Tok):(dH prog w).is (.inr x) (.str x t)=true:=rh x t
inductive V where
 |non|bl (b:Bool)|int (i:Int)|str (x:Str)|byt (b:Array UInt8)|flt (b:UInt64)|ref (a:Addr)|ty (n:String)
 deriving DecidableEq
def RelV:V->Value->Prop
 | .non,u=>u=Value.none
 | .bl b,u=>u=Value.bool b
 | .int i,u=>∃t,u=Value.int i t
 | .str x,u=>∃t,u=Value.str x t
 | .byt b,u=>∃t,u=Value.bytes b t
 | .flt b,u=>∃t,u=Value.float b t
 | .ref a,u=>u=Value.ref a
 | .ty n,u=>u=Value.type n
abbrev a9:List V->Ir->Prop:=Paired RelV
theorem a9.length {xs:List V} {us:Ir} (r:a9 xs us):xs.length=us.length:=Paired.length r
theorem a9.get:∀{xs:List V} {us:Ir} {i:Nat} {x:V},a9 xs us->xs[i]?=some x->∃u,us[i]?=some u/\RelV x u
 |_,_,_,_,.nil,e=>by simp at e
 |_,_,0,_,.cons r _,e=>by simp at e;subst e;exact ⟨_,rfl,r⟩
 |_,_,i+1,x,.cons _ t,e=>by
  obtain ⟨u,h1,h2⟩:=a9.get (i:=i) (x:=x) t (by simpa using e)
  exact ⟨u,by simpa using h1,h2⟩
theorem a9.set {x:V} {u:Value} (r:RelV x u):∀{xs:List V} {us:Ir} (i:Nat),a9 xs us->a9 (xs.set i x) (us.set i u)
 |_,_,_,.nil=> .nil
 |_,_,0,.cons _ t=> .cons r t
 |_,_,i+1,.cons q t=> .cons q (a9.set r i t)
theorem a9.append:∀{xs ys:List V} {us ws:Ir},a9 xs us->a9 ys ws->a9 (xs++ys) (us++ws)
 |_,_,_,_,.nil,s=>s
 |_,_,_,_,.cons r t,s=> .cons r (a9.append t s)
theorem a9.take:∀{xs:List V} {us:Ir} (n:Nat),a9 xs us->a9 (xs.take n) (us.take n)
 |_,_,0,_=> .nil
 |_,_,_+1,.nil=> .nil
 |_,_,n+1,.cons r t=> .cons r (a9.take n t)
theorem a9.drop:∀{xs:List V} {us:Ir} (n:Nat),a9 xs us->a9 (xs.drop n) (us.drop n)
 |_,_,0,r=>r
 |_,_,_+1,.nil=> .nil
 |_,_,n+1,.cons _ t=>a9.drop n t
def jE:Option V->Iv->Prop
 |some v,some u=>RelV v u
 |none,none=>True
 |_,_=>False
def KV {κ:Type}:List (κ×V)->List (κ×Value)->Prop:=Paired fun (p:κ×V) (q:κ×Value)=>p.1=q.1/\RelV p.2 q.2
def kV:Key->V
 | .inl i=> .int i
 | .inr x=> .str x
inductive HO where
  |lst (xs:List V)
  |tup (xs:List V)
  |dK (kvs:List (Key×V))|dT (kvs:List (List Key×V))
  |set (S:Int->Bool) (n:Nat)
  |ins (C dx:Addr) (fs:List (Str×V))
  |own (x:Addr)
  |xd (fs:List (Str×V))
  |met (f x:Addr)
  |rng (lo hi:Int)
  |frz (o:Obj) (u:HO)
  |tbl (ps:Array Value)
  |ext (φ:Heap->Prop)
abbrev Hp:=Addr->Option HO
def aS (H:Hp) (a:Addr) (o:HO):Hp:=fun b=>if b=a then some o else H b
theorem af {H:Hp} {a:Addr} {o:HO}:aS H a o a=some o:=by unfold aS;rw[if_pos rfl]
theorem az {H:Hp} {a b:Addr} {o:HO} (h:b≠a):aS H a o b=H b:=by unfold aS;rw[if_neg h]
theorem aM {H:Hp} {a b:Addr} {o:HO} (h:H a=some o) (h':H b=none):a≠b:=by
 intro e;subst e;rw[h] at h';cases h'
section
variable (P:Program) (w:World)
def cx (H:Hp) (h:Heap) (a:Addr):HO->Prop
 | .lst xs=>xs.length<=sizeLine/\∃(its:Ir) (n:Nat),a9 xs its/\h.get? a=some {cls:= .type "list",data:= .seq its.toArray n}
 | .tup xs=>xs.length<=sizeLine/\∃its:Ir,a9 xs its/\IsTup h a its.toArray
 | .dK kvs=>kvs.length<=sizeLine/\(a==sysModules)=false/\∃vs,KV kvs vs/\h.DictOf (dH P w) a vs
 | .dT kvs=>kvs.length<=sizeLine/\(a==sysModules)=false/\∃xs:List (List Key×Addr×Value),
   Paired (fun (p:List Key×V) (q:List Key×Addr×Value)=>p.1=q.1/\H q.2.1=some (.tup (p.1.map kV))/\RelV p.2 q.2.2) kvs xs/\
   ∃o es ep,h.get? a=some o/\o.ExactDict/\o.data= .dict es ep/\es.toList=xs.map (entryOfKey (tupleKind (dH P w)))/\(xs.map (·.1)).Nodup
 | .set S n=>h.SetOf (intKind P w) a S n
 | .ins C dx fs=>H dx=some (.own a)/\fs.length<=1000/\dx≠a/\h.get? a=some (FM C dx)/\
   ∃mA,h.Ns1 dx mA/\(∀f,jE (fs.lookup f) (mA f))/\PySem.Within mA (fs.map (·.1))
 | .own _=>∃o,h.get? a=some o
 | .xd fs=>∃mA,h.Ns1 a mA/\∀f,jE (fs.lookup f) (mA f)
 | .rng lo hi=>∃t u v,h.get? a=some {cls:= .type "range",data:= .fields #[.int lo t,.int hi u,.int 1 v]}
 | .frz o u=>h.get? a=some o/\cx H h a u
 | .tbl ps=>h.get? a=some {cls:= .none,data:= .fields ps}
 | .met f x=>h.get? a=some (PySem.W.methodObj (.ref f) (.ref x))
 | .ext φ=>φ h/\(∃o,h.get? a=some o)/\∀h1 h2:Heap,φ h1->(∀o,h1.get? a=some o->h2.get? a=some o)->φ h2
def f8 (H:Hp) (h:Heap):Prop:=∀a o,H a=some o->cx P w H h a o
end
section
variable {P:Program} {w:World} {H H':Hp} {h h':Heap} {a:Addr} {o:HO}
theorem cx.lt (x:cx P w H h a o):a<h.objs.size:=by
 cases o with
 |lst xs=>obtain ⟨_,_,_,_,e⟩:=x;exact Heap.lt_size e
 |tup xs=>obtain ⟨_,_,_,p⟩:=x;exact p.lt
 |dK kvs=>obtain ⟨_,_,_,_,o,_,_,e,_⟩:=x;exact Heap.lt_size e
 |dT kvs=>obtain ⟨_,_,_,_,o,_,_,e,_⟩:=x;exact Heap.lt_size e
 |set S n=>obtain ⟨o,_,_,_,e,_⟩:=x;exact Heap.lt_size e
 |ins C dx fs=>obtain ⟨_,_,_,e,_⟩:=x;exact Heap.lt_size e
 |own y=>obtain ⟨_,e⟩:=x;exact Heap.lt_size e
 |xd fs=>obtain ⟨_,⟨_,_,_,e,_⟩,_⟩:=x;exact Heap.lt_size e
 |rng lo hi=>obtain ⟨_,_,_,e⟩:=x;exact Heap.lt_size e
 |frz ob u=>obtain ⟨e,_⟩:=x;exact Heap.lt_size e
 |tbl ps=>exact Heap.lt_size (show h.get? a=some _ from x)
 |met f y=>exact Heap.lt_size (show h.get? a=some _ from x)
 |ext φ=>obtain ⟨_,⟨_,e⟩,_⟩:=x;exact Heap.lt_size e
theorem Paired.mapP {α β:Type} {F G:α->β->Prop}:∀{l₁:List α} {l₂:List β},Paired F l₁ l₂->(∀a b,F a b->G a b)->Paired G l₁ l₂
 |_,_,.nil,_=> .nil
 |_,_,.cons r t,f=> .cons (f _ _ r) (Paired.mapP t f)
theorem cx.stay (x:cx P w H h a o) (k:∀b u,(b=a∨H b=some (.own a))->h.get? b=some u->h'.get? b=some u)
  (ho:∀b,H b=some (.own a)->H' b=some (.own a)) (ht:∀b xs,H b=some (.tup xs)->H' b=some (.tup xs)):cx P w H' h' a o:=by
 induction o with
 |lst xs=>obtain ⟨z,its,n,r,e⟩:=x;exact ⟨z,its,n,r,k _ _ (.inl rfl) e⟩
 |tup xs=>obtain ⟨z,its,r,ob,e,c⟩:=x;exact ⟨z,its,r,ob,k _ _ (.inl rfl) e,c⟩
 |dK kvs=>obtain ⟨z,y,vs,r,ob,es,ep,e,c⟩:=x;exact ⟨z,y,vs,r,ob,es,ep,k _ _ (.inl rfl) e,c⟩
 |dT kvs=>
  obtain ⟨z,y,xs,r,ob,es,ep,e,c⟩:=x;exact ⟨z,y,xs,Paired.mapP r fun p q z=>⟨z.1,ht _ _ z.2.1,z.2.2⟩,ob,es,ep,k _ _ (.inl rfl) e,c⟩
 |set S n=>obtain ⟨ob,es,ep,t,e,c⟩:=x;exact ⟨ob,es,ep,t,k _ _ (.inl rfl) e,c⟩
 |ins C dx fs=>
  obtain ⟨d,z,ne,e,mA,⟨od,es,ep,e2,c⟩,r⟩:=x;exact ⟨ho _ d,z,ne,k _ _ (.inl rfl) e,mA,⟨od,es,ep,k _ _ (.inr d) e2,c⟩,r⟩
 |own y=>obtain ⟨ob,e⟩:=x;exact ⟨ob,k _ _ (.inl rfl) e⟩
 |xd fs=>obtain ⟨mA,⟨od,es,ep,e,c⟩,r⟩:=x;exact ⟨mA,⟨od,es,ep,k _ _ (.inl rfl) e,c⟩,r⟩
 |rng lo hi=>obtain ⟨t,u,v,e⟩:=x;exact ⟨t,u,v,k _ _ (.inl rfl) e⟩
 |frz ob u ih=>obtain ⟨e,q⟩:=x;exact ⟨k _ _ (.inl rfl) e,ih q⟩
 |tbl ps=>
  have e:h.get? a=some {cls:= .none,data:= .fields ps}:=x;show h'.get? a=some {cls:= .none,data:= .fields ps};exact k a _ (.inl rfl) e
 |met f y=>
  have e:h.get? a=some (PySem.W.methodObj (.ref f) (.ref y)):=x;show h'.get? a=some (PySem.W.methodObj (.ref f) (.ref y));exact k a _ (.inl rfl) e
 |ext φ=>obtain ⟨p,⟨o,e⟩,st⟩:=x;exact ⟨st _ _ p fun o q=>k _ _ (.inl rfl) q,⟨o,k _ _ (.inl rfl) e⟩,st⟩
theorem f8.lt (x:f8 P w H h) (e:H a=some o):a<h.objs.size:=(x a o e).lt
theorem f8.fresh (x:f8 P w H h) (e:h.objs.size<=a):H a=none:=by
 cases q:H a with
 |none=>rfl
 |some u=>exact absurd (ER (x.lt q) e) (Nat.lt_irrefl _)
theorem f8.kept (x:f8 P w H h) (k:∀b u,h.get? b=some u->h'.get? b=some u):f8 P w H h':=fun a o e=>
 (x a o e).stay (fun b u _ q=>k b u q) (fun _ q=>q) fun _ _ q=>q
theorem f8.laid (x:f8 P w H h) (k:∀b u,h.get? b=some u->h'.get? b=some u) (hp:h.objs.size<=a) (new:cx P w (aS H a o) h' a o):f8 P w (aS H a o) h':=fun b u e=>by
 have hn:=x.fresh hp
 by_cases hb:b=a
 ·subst hb;rw[af] at e;cases e;exact new
 ·rw[az hb] at e;exact (x b u e).stay (fun c v _ q=>k c v q) (fun c q=>by rw[az (aM q hn)];exact q) fun c xs q=>by rw[az (aM q hn)];exact q
end
def Rd (H:Hp) (a:Addr) (u:HO):Prop:=H a=some u∨∃o,H a=some (.frz o u)
theorem Rd.ok {P:Program} {w:World} {H:Hp} {h:Heap} {a:Addr} {u:HO} (r:Rd H a u) (x:f8 P w H h):cx P w H h a u:=by
 rcases r with r|⟨o,r⟩
 ·exact x a u r
 ·obtain ⟨_,q⟩:=x a _ r;exact q
def Cd:Option HO->Prop
 |some (.lst _)=>True
 |some (.dK _)=>True
 |some (.dT _)=>True
 |some (.set _ _)=>True
 |some (.ins _ _ _)=>True
 |some (.ext _)=>True
 |_=>False
section
variable {P:Program} {w:World} {H:Hp} {h h':Heap} {x e:Addr} {o':HO}
theorem f8.write (ok:f8 P w H h) (mu:Cd (H x)) (he:e=x∨H e=some (.own x)) (k:∀b u,b≠e->h.get? b=some u->h'.get? b=some u) (heo:∃u,h'.get? e=some u)
  (new:cx P w (aS H x o') h' x o'):f8 P w (aS H x o') h':=fun b u q=>by
 have nown:∀c y,H c=some (.own y)->c≠x:=fun c y r z=>by subst z;rw[r] at mu;exact mu
 have ntup:∀c xs,H c=some (.tup xs)->c≠x:=fun c xs r z=>by subst z;rw[r] at mu;exact mu
 by_cases hb:b=x
 ·subst hb;rw[af] at q;cases q;exact new
 ·rw[az hb] at q
  by_cases hbe:b=e
  ·have q':H b=some (.own x):=by
    rcases he with z|z
    ·exact absurd (hbe.trans z) hb
    ·rw[hbe];exact z
   rw[q] at q';cases q';obtain ⟨v,hv⟩:=heo;exact ⟨v,by rw[hbe];exact hv⟩
  ·refine (ok b u q).stay (fun c v hc r=>k c v ?_ r) (fun c r=>by rw[az (nown c b r)];exact r) fun c xs r=>by rw[az (ntup c xs r)];exact r
   rcases hc with rfl|hc
   ·exact hbe
   ·rintro rfl;rcases he with z|z
    ·exact nown c b hc z
    ·rw[hc] at z;cases z;exact hb rfl
end
structure Un (fs ex:Iq) (H H':Hp) (h h':Heap):Prop where
 keep:∀b o,h.get? b=some o->H b=none->b∉fs->b∉ex->h'.get? b=some o
 slot:∀b o,h.get? b=some o->H b=none->b∈fs->b∉ex->∃sl,h'.get? b=some {o with slots:=sl}
 free:∀b o,h.get? b=some o->H b=none->b∉ex->H' b=none
 there:∀b o,h.get? b=some o->b∉ex->∃o',h'.get? b=some o'
 tups:∀b xs,H b=some (.tup xs)->H' b=some (.tup xs)
 frzs:∀b o u,H b=some (.frz o u)->H' b=some (.frz o u)
 tbls:∀b ps,H b=some (.tbl ps)->∃more,H' b=some (.tbl (ps++more))
section
variable {fs fs' ex ex':Iq} {H H1 H2:Hp} {h h1 h2 h':Heap} {a x e:Addr} {o:HO}
theorem Un.any (u:Un fs ex H H1 h h1) {b:Addr} {ob:Obj} (q:h.get? b=some ob) (n:H b=none) (hx:b∉ex):∃sl,h1.get? b=some {ob with slots:=sl}:=by
 by_cases hb:b∈fs
 ·exact u.slot b ob q n hb hx
 ·exact ⟨ob.slots,u.keep b ob q n hb hx⟩
theorem Un.kept (k:∀b u,h.get? b=some u->h'.get? b=some u):Un fs ex H H h h':=
 ⟨fun b ob q _ _ _=>k b ob q,fun b ob q _ _ _=>⟨ob.slots,k b ob q⟩,fun _ _ _ n _=>n,fun b ob q _=>⟨ob,k b ob q⟩,fun _ _ q=>q,fun _ _ _ q=>q,fun _ ps q=>⟨#[],by rw[q];simp⟩⟩
theorem Un.refl:Un fs ex H H h h:=Un.kept fun _ _ q=>q
theorem Un.laid (k:∀b u,h.get? b=some u->h'.get? b=some u) (hp:h.objs.size<=a) (hn:H a=none):Un fs ex H (aS H a o) h h' where
 keep:=fun b u q _ _ _=>k b u q
 slot:=fun b u q _ _ _=>⟨u.slots,k b u q⟩
 free:=fun b u q n _=>by rw[az (EU (ER (Heap.lt_size q) hp))];exact n
 there:=fun b u q _=>⟨u,k b u q⟩
 tups:=fun b xs q=>by rw[az (aM q hn)];exact q
 frzs:=fun b u xs q=>by rw[az (aM q hn)];exact q
 tbls:=fun b ps q=>⟨#[],by rw[az (aM q hn),q];simp⟩
theorem Un.write (mu:Cd (H x)) (he:e=x∨H e=some (.own x)) (k:∀b u,b≠e->h.get? b=some u->h'.get? b=some u) (heo:∃u,h'.get? e=some u):Un fs ex H (aS H x o) h h':=by
 have hx:∀b,H b=none->b≠x:=fun b n z=>by subst z;rw[n] at mu;exact mu
 have hb:∀b,H b=none->b≠e:=fun b n z=>by
  subst z;rcases he with r|r
  ·exact hx b n r
  ·rw[n] at r;cases r
 have hm:∀b u,H b=some u->¬Cd (some u)->b≠x:=fun b u q nm z=>by subst z;rw[q] at mu;exact nm mu
 refine ⟨fun b u q n _ _=>k b u (hb b n) q,fun b u q n _ _=>⟨u.slots,k b u (hb b n) q⟩,fun b u q n _=>by rw[az (hx b n)];exact n,fun b u q _=>?_,
  fun b xs q=>by rw[az (hm b _ q fun z=>z)];exact q,fun b u xs q=>by rw[az (hm b _ q fun z=>z)];exact q,fun b ps q=>⟨#[],by rw[az (hm b _ q fun z=>z),q];simp⟩⟩
 by_cases hbe:b=e
 ·subst hbe;exact heo
 ·exact ⟨u,k b u hbe q⟩
end
def Ce (h:Heap) (H:Hp):Iq:=(FG h.objs.size).filter fun a=>(H a).isSome
def kO (h:Heap) (H:Hp):Heap:=PySem.W.hideAll h (Ce h H)
theorem rj (h:Heap) (H:Hp):(kO h H).objs.size=h.objs.size:=PySem.W.hideAll_size _ _
theorem sN {h:Heap} {H:Hp} {b:Addr} {o:Obj} (e:h.get? b=some o) (n:H b=none):(kO h H).get? b=some o:=
 PySem.W.hideAll_get _ e fun hm=>by
  have q:(H b).isSome=true:=(List.mem_filter.mp hm).2;rw[n] at q;simp at q
theorem vx {h:Heap} {H:Hp} {b:Addr} {o:Obj} (e:(kO h H).get? b=some o):h.get? b=some o/\H b=none:=by
 have e':h.get? b=some o:=PySem.W.of_hideAll (Ce h H) e;refine ⟨e',?_⟩;cases q:H b with
 |none=>rfl
 |some x=>
  have hm:b∈Ce h H:=List.mem_filter.mpr ⟨List.mem_range.mpr (Heap.lt_size e'),by simp[q]⟩
  have z:(kO h H).get? b=none:=PySem.W.hideAll_none (Ce h H) hm;rw[z] at e;cases e
structure Mod (K:D9) (mg:Il) (base:Heap):Prop where
 kin:K.In base
 glob:base.Ns mainGlobals mg
 blt:∃mb,base.Ns builtinsNs mb/\∀x:Str,x≠ "__name__" ->mb x=bootBuiltins x
 nolimit:base.NoLimit
structure Cx where
 prog:Program
 w:World
 K:D9
 mg:Str->Iv
 base:Heap
 A:Around
 N:Ip
 s₀:Shared
 H₀:Hp
 env:Env
 outer:List Env
 stack:List Env
 ex:Iq
 fn:Str->Bool
 calm:Bool
 pn:Im
 xe:Value->Shared->Prop
def iU (l:List Env):Iq:=l.filterMap (·.frame)
abbrev Cx.fs (X:Cx):Iq:=iU X.outer
def Cy (sc:Scope) (x:Str):Prop:=sc.names.lookup x=some .local∨sc.names.lookup x=some .cell∨sc.names.lookup x=some .free
def Loc (sc:Scope) (x:Str):Prop:=sc.names.lookup x=some .local∨sc.names.lookup x=some .cell
def Look (env:Env) (h:Heap) (m:Il) (x:Str) (u:Value):Prop:=
 (env.kindOf x=some .local/\m x=some u)∨((env.kindOf x=some .cell∨env.kindOf x=some .free)/\∃c,env.cells.lookup x=some c/\h.IsCell c (some u))
structure Cx.Ok (X:Cx):Prop where
 mod:Mod X.K X.mg X.base
 kind:X.env.scope.kind= .function
 glob:X.env.globals=mainGlobals
 blt:X.env.builtins=builtinsNs
 above:X.s₀.heap.objs.size<=X.env.locals
 inj:∀x y c,X.env.cells.lookup x=some c->X.env.cells.lookup y=some c->x=y
 has:∀x,(X.env.kindOf x=some .cell∨X.env.kindOf x=some .free)->∃c,X.env.cells.lookup x=some c
 cab:∀x c,X.fn x=true->X.env.cells.lookup x=some c->X.s₀.heap.objs.size<=c
 hd:X.calm=true->X.A.handled=none
 frames:X.A.frames=some X.stack
 stk:X.stack=X.outer∨(X.stack=X.env::X.outer/\X.env.frame=some X.env.locals)
 exf:∀b∈X.ex,b≠X.env.locals/\∀x c,X.env.cells.lookup x=some c->c≠b
 bs:∀b o,X.base.get? b=some o->X.s₀.heap.get? b=some o/\X.H₀ b=none
 bsz:X.base.objs.size<=X.s₀.heap.objs.size
 noex:∀b o,X.base.get? b=some o->b∉X.ex
 exfs:∀b∈X.ex,b∉X.fs
 funs:X.s₀.heap.FunFrames X.base X.outer
 frf:∀b∈X.fs,X.H₀ b=none
structure aR (X:Cx) (pins:Im) (σ:List (Option V)) (H:Hp) (s:Shared):Prop where
 ok:X.Ok
 os:s.os=X.s₀.os
 bare:AllBare s.gens
 base:Un X.fs X.ex X.H₀ H X.s₀.heap s.heap
 loc:∃m,s.heap.Ns X.env.locals m/\∀(i:Nat) (x:Str) (v:V),X.N[i]?=some x->σ[i]?=some (some v)->Cy X.env.scope x->∃u,RelV v u/\Look X.env s.heap m x u
 cell:∀x c,X.env.cells.lookup x=some c->∃v,s.heap.IsCell c v
 free:H X.env.locals=none
 freeC:∀x c,X.env.cells.lookup x=some c->H c=none
 pin:∀p∈X.pn++pins,s.heap.get? p.1=some p.2/\H p.1=none/\p.1≠X.env.locals/\p.1∉X.fs/\∀v,p.2.data≠ .cell v
 hok:f8 X.prog X.w H s.heap
 len:σ.length=X.N.length
section
variable {X:Cx} {pins:Im} {σ:List (Option V)} {H H':Hp} {s:Shared} {h':Heap}
theorem Cx.Ok.nofr (ok:X.Ok) {b:Addr} {o:Obj} (e:X.base.get? b=some o):b∉X.fs:=fun hb=>by
 have:=(ok.funs.mem hb).1;rw[e] at this;cases this
theorem aR.bs (I:aR X pins σ H s):∀b o,X.base.get? b=some o->s.heap.get? b=some o/\H b=none:=fun b o e=>
 ⟨I.base.keep b o (I.ok.bs b o e).1 (I.ok.bs b o e).2 (I.ok.nofr e) (I.ok.noex b o e),I.base.free b o (I.ok.bs b o e).1 (I.ok.bs b o e).2 (I.ok.noex b o e)⟩
theorem aR.bk (I:aR X pins σ H s):∀b o,X.base.get? b=some o->s.heap.get? b=some o:=fun b o e=>(I.bs b o e).1
theorem aR.mod (I:aR X pins σ H s):Mod X.K X.mg X.base:=I.ok.mod
theorem aR.kIn (I:aR X pins σ H s):X.K.In s.heap:=I.ok.mod.kin.keeps I.bk
theorem aR.lt (I:aR X pins σ H s):X.env.locals<s.heap.objs.size:=let ⟨_,hn,_⟩:=I.loc;hn.lt
theorem aR.sz (I:aR X pins σ H s):X.s₀.heap.objs.size<=s.heap.objs.size:=EV I.ok.above (Nat.le_of_lt I.lt)
theorem aR.nofs (I:aR X pins σ H s) {a:Addr} (h:s.heap.objs.size<=a):a∉X.fs:=fun hb=>by
 obtain ⟨_,o,ho,_⟩:=I.ok.funs.mem hb;exact absurd (ER (Heap.lt_size ho) (EV I.sz h)) (Nat.lt_irrefl _)
theorem aR.cne (I:aR X pins σ H s):∀x c,X.env.cells.lookup x=some c->c≠X.env.locals:=fun x c e z=>by
 obtain ⟨v,o,ho,hd⟩:=I.cell x c e;obtain ⟨m,⟨o',es,ep,ho',hd',_⟩,_⟩:=I.loc;rw[z,ho'] at ho;cases ho;rw[hd'] at hd;cases hd
theorem aR.funs (I:aR X pins σ H s):s.heap.FunFrames X.base X.outer:=by
 have all:∀(l:List Env),(∀b∈iU l,b∈X.fs)->X.s₀.heap.FunFrames X.base l->s.heap.FunFrames X.base l:=by
  intro l
  induction l with
  |nil=>intro _ _;trivial
  |cons env r ih=>
   intro hs hl;obtain ⟨hk,⟨L,o,hf,hn,ho,hd⟩,hr⟩:=hl;have hL:L∈X.fs:=hs L (by unfold iU;rw[Fa,hf];exact Er)
   obtain ⟨sl,e⟩:=I.base.slot L o ho (I.ok.frf L hL) hL fun z=>I.ok.exfs L z hL
   exact ⟨hk,⟨L,_,hf,hn,e,hd⟩,ih (fun b hb=>hs b (by unfold iU;rw[Fa,hf];exact E6 _ hb)) hr⟩
 exact all X.outer (fun _ hb=>hb) I.ok.funs
theorem aR.stack (I:aR X pins σ H s):s.heap.FunFrames X.base X.stack:=by
 rcases I.ok.stk with e|⟨e,hf⟩
 ·rw[e];exact I.funs
 ·rw[e];obtain ⟨m,hn,_⟩:=I.loc;refine .cons (by rw[I.ok.kind];decide) hf hn ?_ I.funs
  exact Heap.get?_none_of_le (EV I.ok.bsz I.ok.above)
theorem aR.stkSub (I:aR X pins σ H s):∀b∈iU X.stack,b∈X.env.locals::X.fs:=fun b hb=>by
 rcases I.ok.stk with e|⟨e,hf⟩
 ·rw[e] at hb;exact E6 _ hb
 ·rw[e] at hb;unfold iU at hb;rw[Fa,hf] at hb;exact hb
theorem aR.stkFree (I:aR X pins σ H s):∀b∈iU X.stack,H b=none:=fun b hb=>by
 rcases E3.mp (I.stkSub b hb) with e|hb
 ·rw[e];exact I.free
 ·obtain ⟨_,o,ho,_⟩:=I.ok.funs.mem hb;exact I.base.free b o ho (I.ok.frf b hb) fun z=>I.ok.exfs b z hb
theorem aR.step {g':Array GenState} {t':Nat} {d':Drawn} {ch:Iq} (I:aR X pins σ H s)
  (hch:∀b∈ch,(b∈X.ex∨X.s₀.heap.objs.size<=b)/\b≠X.env.locals/\(∀x c,X.env.cells.lookup x=some c->c≠b)/\∀p∈X.pn++pins,p.1≠b)
  (keep:∀b o,b≠X.env.locals->b∉X.fs->b∉ch->s.heap.get? b=some o->H b=none->h'.get? b=some o)
  (slot:∀b o,b≠X.env.locals->b∈X.fs->b∉ch->s.heap.get? b=some o->H b=none->∃sl,h'.get? b=some {o with slots:=sl}) (free:∀b o,b∉ch->s.heap.get? b=some o->H b=none->H' b=none)
  (there:∀b o,b∉ch->s.heap.get? b=some o->∃o',h'.get? b=some o')
  (tups:∀b xs,H b=some (.tup xs)->H' b=some (.tup xs)) (frzs:∀b o u,H b=some (.frz o u)->H' b=some (.frz o u)) (tbls:∀b ps,H b=some (.tbl ps)->∃more,H' b=some (.tbl (ps++more)))
  (ns:∀m,s.heap.Ns X.env.locals m->h'.Ns X.env.locals m) (hok:f8 X.prog X.w H' h') (hg:AllBare g'):
  aR X pins σ H' {s with heap:=h',gens:=g',drawn:=d',toks:=t'}:=by
 have neL:∀b o,X.s₀.heap.get? b=some o->b≠X.env.locals:=fun b o e=>EU (ER (Heap.lt_size e) I.ok.above)
 have neC:∀b o,X.s₀.heap.get? b=some o->b∉X.ex->b∉ch:=fun b o e hx hb=>by
  rcases (hch b hb).1 with z|z
  ·exact hx z
  ·exact absurd (ER (Heap.lt_size e) z) (Nat.lt_irrefl _)
 have cellK:∀x c,X.env.cells.lookup x=some c->∀v,s.heap.IsCell c v->h'.IsCell c v:=fun x c e v ⟨o,ho,hd⟩=>by
  have nch:c∉ch:=fun z=>(hch c z).2.2.1 x c e rfl
  by_cases hc:c∈X.fs
  ·obtain ⟨sl,q⟩:=slot c o (I.cne x c e) hc nch ho (I.freeC x c e);exact ⟨_,q,hd⟩
  ·exact ⟨o,keep c o (I.cne x c e) hc nch ho (I.freeC x c e),hd⟩
 refine ⟨I.ok,I.os,hg,⟨fun b o e n hb hx=>?_,fun b o e n hb hx=>?_,fun b o e n hx=>?_,fun b o e hx=>?_,fun b xs e=>tups b xs (I.base.tups b xs e),fun b o xs e=>frzs b o xs (I.base.frzs b o xs e),fun b ps e=>?_⟩,?_,fun x c e=>?_,?_,fun x c e=>?_,fun p hp=>?_,hok,I.len⟩
 ·exact keep b o (neL b o e) hb (neC b o e hx) (I.base.keep b o e n hb hx) (I.base.free b o e n hx)
 ·obtain ⟨sl,e1⟩:=I.base.slot b o e n hb hx;obtain ⟨sl',e2⟩:=slot b _ (neL b o e) hb (neC b o e hx) e1 (I.base.free b o e n hx);exact ⟨sl',e2⟩
 ·obtain ⟨o',e1⟩:=I.base.there b o e hx;exact free b o' (neC b o e hx) e1 (I.base.free b o e n hx)
 ·obtain ⟨o',e1⟩:=I.base.there b o e hx;exact there b o' (neC b o e hx) e1
 ·obtain ⟨m1,e1⟩:=I.base.tbls b ps e;obtain ⟨m2,e2⟩:=tbls b _ e1;exact ⟨m1++m2,by rw[e2,Array.append_assoc]⟩
 ·obtain ⟨m,hn,hl⟩:=I.loc;refine ⟨m,ns m hn,fun i x v e1 e2 e3=>?_⟩
  obtain ⟨u,r,l⟩:=hl i x v e1 e2 e3;refine ⟨u,r,?_⟩;rcases l with l|⟨k,c,e,z⟩
  ·exact .inl l
  ·exact .inr ⟨k,c,e,cellK x c e _ z⟩
 ·obtain ⟨v,z⟩:=I.cell x c e;exact ⟨v,cellK x c e v z⟩
 ·obtain ⟨m,⟨o,_,_,ho,_⟩,_⟩:=I.loc;exact free _ o (fun z=>(hch _ z).2.1 rfl) ho I.free
 ·obtain ⟨v,o,ho,hd⟩:=I.cell x c e;exact free c o (fun z=>(hch c z).2.2.1 x c e rfl) ho (I.freeC x c e)
 ·obtain ⟨e,n,ne,nf,d⟩:=I.pin p hp;have nch:p.1∉ch:=fun z=>(hch p.1 z).2.2.2 p hp rfl
  exact ⟨keep p.1 p.2 ne nf nch e n,free p.1 p.2 nch e n,ne,nf,d⟩
theorem aR.un {t':Nat} (I:aR X pins σ H s) (u:Un X.fs [] H H' s.heap h') (hok:f8 X.prog X.w H' h'):aR X pins σ H' {s with heap:=h',toks:=t'}:=by
 obtain ⟨m,⟨o,es,ep,ho,r⟩,_⟩:=id I.loc;obtain ⟨sl,hL⟩:=u.any ho I.free (by simp)
 exact I.step (g':=s.gens) (d':=s.drawn) (ch:= []) (fun _ z=>nomatch z) (fun b o _ hb _ e n=>u.keep b o e n hb (by simp)) (fun b o _ hb _ e n=>u.slot b o e n hb (by simp)) (fun b o _ e n=>u.free b o e n (by simp)) (fun b o _ e=>u.there b o e (by simp)) u.tups u.frzs u.tbls (fun m' hm=>by
  obtain ⟨o',es',ep',ho',r'⟩:=hm;rw[ho] at ho';cases ho';exact ⟨_,es',ep',hL,r'⟩) hok I.bare
theorem aR.call {g':Array GenState} {t':Nat} {d':Drawn} {ch:Iq} (I:aR X pins σ H s) (u:Un (iU X.stack) ch H H' s.heap h') (hok:f8 X.prog X.w H' h') (hg:AllBare g')
  (hch:∀b∈ch,(b∈X.ex∨X.s₀.heap.objs.size<=b)/\b≠X.env.locals/\(∀x c,X.env.cells.lookup x=some c->c≠b)/\∀p∈X.pn++pins,p.1≠b):
  aR X pins σ H' {s with heap:=h',gens:=g',drawn:=d',toks:=t'}:=by
 obtain ⟨m,⟨o,es,ep,ho,r⟩,_⟩:=id I.loc;obtain ⟨sl,hL⟩:=u.any ho I.free fun z=>(hch _ z).2.1 rfl
 exact I.step (ch:=ch) hch (fun b o hL hb hc e n=>u.keep b o e n (fun z=>(E3.mp (I.stkSub b z)).elim hL hb) hc) (fun b o _ _ hc e n=>u.any e n hc) (fun b o hc e n=>u.free b o e n hc) (fun b o hc e=>u.there b o e hc) u.tups u.frzs u.tbls (fun m' hm=>by
  obtain ⟨o',es',ep',ho',r'⟩:=hm;rw[ho] at ho';cases ho';exact ⟨_,es',ep',hL,r'⟩) hok hg
theorem aR.turned {t':Nat} {it:Addr} (I:aR X pins σ H s) (k:∀b o,b≠it->s.heap.get? b=some o->h'.get? b=some o) (hn:H it=none) (hL:it≠X.env.locals)
  (h1:it∈X.ex∨X.s₀.heap.objs.size<=it) (h2:∀x c,X.env.cells.lookup x=some c->c≠it) (h3:∀p∈X.pn++pins,p.1≠it):aR X pins σ H {s with heap:=h',toks:=t'}:=by
 have nit:∀b u,H b=some u->b≠it:=fun b u e z=>by rw[z,hn] at e;cases e
 refine I.step (g':=s.gens) (d':=s.drawn) (ch:= [it]) (fun b hb=>?_) (fun b o _ _ hc e _=>k b o (fun z=>hc (by simp[z])) e) (fun b o _ _ hc e _=>⟨o.slots,k b o (fun z=>hc (by simp[z])) e⟩) (fun _ _ _ _ n=>n)
  (fun b o hc e=>⟨o,k b o (fun z=>hc (by simp[z])) e⟩) (fun _ _ e=>e) (fun _ _ _ e=>e) (fun b ps e=>⟨#[],by rw[e];simp⟩) (fun m hm=>?_) (fun b u e=>?_) I.bare
 ·have e:b=it:=by simpa using hb
  subst e;exact ⟨h1,hL,h2,h3⟩
 ·obtain ⟨o,es,ep,ho,r⟩:=hm;exact ⟨o,es,ep,k _ o (Ne.symm hL) ho,r⟩
 ·refine (I.hok b u e).stay (fun c v hc q=>k c v ?_ q) (fun _ q=>q) fun _ _ q=>q
  rcases hc with z|z
  ·rw[z];exact nit b u e
  ·exact nit c _ z
theorem aR.tok (I:aR X pins σ H s) (t:Nat):aR X pins σ H {s with toks:=t}:=I.un (h':=s.heap) (t':=t) Un.refl I.hok
theorem aR.kept {t':Nat} (I:aR X pins σ H s) (k:∀b u,s.heap.get? b=some u->h'.get? b=some u):aR X pins σ H {s with heap:=h',toks:=t'}:=I.un (Un.kept k) (I.hok.kept k)
theorem aR.laid {a:Addr} {o:HO} {t':Nat} (I:aR X pins σ H s) (k:∀b u,s.heap.get? b=some u->h'.get? b=some u) (hp:s.heap.objs.size<=a) (new:cx X.prog X.w (aS H a o) h' a o):
  aR X pins σ (aS H a o) {s with heap:=h',toks:=t'}:=I.un (Un.laid k hp (I.hok.fresh hp)) (I.hok.laid k hp new)
theorem aR.write {x e:Addr} {o:HO} {t':Nat} (I:aR X pins σ H s) (mu:Cd (H x)) (he:e=x∨H e=some (.own x)) (k:∀b u,b≠e->s.heap.get? b=some u->h'.get? b=some u) (heo:∃u,h'.get? e=some u)
  (new:cx X.prog X.w (aS H x o) h' x o):aR X pins σ (aS H x o) {s with heap:=h',toks:=t'}:=I.un (Un.write mu he k heo) (I.hok.write mu he k heo new)
theorem aR.pins_of {pins':Im} (I:aR X pins σ H s) (h:∀p∈pins',s.heap.get? p.1=some p.2/\H p.1=none/\p.1≠X.env.locals/\p.1∉X.fs/\∀v,p.2.data≠ .cell v):aR X pins' σ H s:=
 ⟨I.ok,I.os,I.bare,I.base,I.loc,I.cell,I.free,I.freeC,fun p hp=>(EI.mp hp).elim (fun z=>I.pin p (Ez _ z)) (h p),I.hok,I.len⟩
theorem md {N:Ip} (hN:N.Nodup) {i j:Nat} {x:Str} (a:N[i]?=some x) (b:N[j]?=some x):i=j:=by
 obtain ⟨h1,e1⟩:=E8.mp a;obtain ⟨h2,e2⟩:=E8.mp b;exact (List.getElem_inj hN).mp (e1.trans e2.symm)
theorem rq {M:Model} {A:Around} {E:Ik} {i:Nat} {x:Str} {v:V} {u:Value} {Q:Unit->Shared->Prop} (I:aR X pins σ H s) (hN:X.N.Nodup) (hi:X.N[i]?=some x) (hx:Loc X.env.scope x) (r:RelV v u)
  (h:∀s',aR X pins (σ.set i (some v)) H s'->(∃a,Heap.SameBut a s.heap s'.heap/\(a=X.env.locals∨X.env.cells.lookup x=some a))->Q () s') (hf:X.fn x=true∨X.env.scope.names.lookup x=some .local:=by first|exact .inl rfl|exact .inr rfl|assumption):wpAny M A (storeName X.env x u) Q E s:=by
 obtain ⟨m,hn,hl⟩:=id I.loc;have hcls:(X.env.scope.kind== .class||(X.env.scope.kind== .module&&X.env.locals !=X.env.globals))=false:=by rw[I.ok.kind];rfl
 have hiσ:i<σ.length:=by rw[I.len];exact (E8.mp hi).1
 have cne:=I.cne;have tracked:∀{a:Addr} {h':Heap},(∃o,s.heap.get? a=some o/\H a=none)->Heap.SameBut a s.heap h'->f8 X.prog X.w H h':=fun {a h'} ha hs b ob e=>by
  obtain ⟨_,_,hfree⟩:=ha;refine (I.hok b ob e).stay (fun c w' hc q=>(hs.2 c ?_).trans q) (fun _ q=>q) fun _ _ q=>q
  rintro rfl;rcases hc with rfl|hc
  ·rw[hfree] at e;cases e
  ·rw[hfree] at hc;cases hc
 rcases hx with hk|hk
 ·refine wpAny_storeName_local hk hn (fun h' hn' hs=>?_) hcls
  obtain ⟨oL,_,_,hoL,_⟩:=id hn;refine h _ ⟨I.ok,I.os,I.bare,⟨fun b o e n hb hx=>?_,fun b o e n hb hx=>?_,I.base.free,fun b o e hx=>?_,I.base.tups,I.base.frzs,I.base.tbls⟩,⟨_,hn',fun j y v' e1 e2 e3=>?_⟩,fun y c e=>?_,I.free,I.freeC,fun p hp=>?_,tracked ⟨oL,hoL,I.free⟩ hs,by simpa using I.len⟩ ⟨_,hs,.inl rfl⟩
  ·exact (hs.2 b (EU (ER (Heap.lt_size e) I.ok.above))).trans (I.base.keep b o e n hb hx)
  ·obtain ⟨sl,e1⟩:=I.base.slot b o e n hb hx;exact ⟨sl,(hs.2 b (EU (ER (Heap.lt_size e) I.ok.above))).trans e1⟩
  ·obtain ⟨o',e1⟩:=I.base.there b o e hx;exact ⟨o',(hs.2 b (EU (ER (Heap.lt_size e) I.ok.above))).trans e1⟩
  ·by_cases hj:j=i
   ·subst hj;rw[hi] at e1;cases e1;rw[List.getElem?_set_self hiσ] at e2;cases e2;exact ⟨u,r,.inl ⟨hk,by simp⟩⟩
   ·rw[List.getElem?_set_ne (Ne.symm hj)] at e2;obtain ⟨u',r',q⟩:=hl j y v' e1 e2 e3;refine ⟨u',r',?_⟩;rcases q with ⟨k,e⟩|⟨k,c,e,z⟩
    ·refine .inl ⟨k,?_⟩;have:y≠x:=fun e=>hj (md hN e1 (e▸hi))
     simp[this,e]
    ·exact .inr ⟨k,c,e,z.sameBut hs (cne y c e)⟩
  ·obtain ⟨w',z⟩:=I.cell y c e;exact ⟨w',z.sameBut hs (cne y c e)⟩
  ·obtain ⟨e,n,ne,nf,d⟩:=I.pin p hp;exact ⟨(hs.2 p.1 ne).trans e,n,ne,nf,d⟩
 ·have hfn:X.fn x=true:=by
   rcases hf with z|z
   ·exact z
   ·rw[z] at hk;cases hk
  obtain ⟨c,hc⟩:=I.ok.has x (.inl hk);obtain ⟨w',z⟩:=I.cell x c hc;refine wpAny_storeName_cell I.ok.kind hk hc z (fun h' hc' hs=>?_)
  obtain ⟨oc,hoc,hocd⟩:=id z;refine h {s with heap:=h'} ⟨I.ok,I.os,I.bare,⟨fun b o e n hb hx=>?_,fun b o e n hb hx=>?_,I.base.free,fun b o e hx=>?_,I.base.tups,I.base.frzs,I.base.tbls⟩,⟨m,hn.sameBut hs (Ne.symm (cne x c hc)),fun j y v' e1 e2 e3=>?_⟩,fun y c' e=>?_,I.free,I.freeC,fun p hp=>?_,tracked ⟨oc,hoc,I.freeC x c hc⟩ hs,by simpa using I.len⟩ ⟨c,hs,.inr hc⟩
  ·exact (hs.2 b (EU (ER (Heap.lt_size e) (I.ok.cab x c hfn hc)))).trans (I.base.keep b o e n hb hx)
  ·obtain ⟨sl,e1⟩:=I.base.slot b o e n hb hx;exact ⟨sl,(hs.2 b (EU (ER (Heap.lt_size e) (I.ok.cab x c hfn hc)))).trans e1⟩
  ·obtain ⟨o',e1⟩:=I.base.there b o e hx;exact ⟨o',(hs.2 b (EU (ER (Heap.lt_size e) (I.ok.cab x c hfn hc)))).trans e1⟩
  ·by_cases hj:j=i
   ·subst hj;rw[hi] at e1;cases e1;rw[List.getElem?_set_self hiσ] at e2;cases e2;exact ⟨u,r,.inr ⟨.inl hk,c,hc,hc'⟩⟩
   ·rw[List.getElem?_set_ne (Ne.symm hj)] at e2;obtain ⟨u',r',q⟩:=hl j y v' e1 e2 e3;refine ⟨u',r',?_⟩;rcases q with q|⟨k,c',e,z'⟩
    ·exact .inl q
    ·refine .inr ⟨k,c',e,z'.sameBut hs ?_⟩;rintro rfl;exact hj (md hN e1 (I.ok.inj _ _ _ e hc▸hi))
  ·by_cases hcc:c'=c
   ·subst hcc;exact ⟨_,hc'⟩
   ·obtain ⟨w2,z2⟩:=I.cell y c' e;exact ⟨w2,z2.sameBut hs hcc⟩
  ·obtain ⟨e,n,ne,nf,d⟩:=I.pin p hp;refine ⟨(hs.2 p.1 ?_).trans e,n,ne,nf,d⟩;intro q;rw[q,hoc] at e;have q':oc=p.2:=EL e;exact d w' (by rw[<-q'];exact hocd)
theorem me {M:Model} {A:Around} {E:Ik} {i:Nat} {x:Str} {v:V} {u:Value} {Q:Unit->Shared->Prop} (I:aR X pins σ H s) (hN:X.N.Nodup) (hi:X.N[i]?=some x) (hx:Loc X.env.scope x) (r:RelV v u)
  (h:∀s',aR X pins (σ.set i (some v)) H s'->Q () s') (hf:X.fn x=true∨X.env.scope.names.lookup x=some .local:=by first|exact .inl rfl|exact .inr rfl|assumption):wpAny M A (storeName X.env x u) Q E s:=
 rq I hN hi hx r (fun s' I' _=>h s' I') hf
theorem aR.call' {s':Shared} {ch:Iq} (I:aR X pins σ H s) (ho:s'.os=s.os) (u:Un (iU X.stack) ch H H' s.heap s'.heap) (hok:f8 X.prog X.w H' s'.heap) (hg:AllBare s'.gens)
  (hch:∀b∈ch,(b∈X.ex∨X.s₀.heap.objs.size<=b)/\b≠X.env.locals/\(∀x c,X.env.cells.lookup x=some c->c≠b)/\∀p∈X.pn++pins,p.1≠b):aR X pins σ H' s':=by
 obtain ⟨h',g',d',t',o'⟩:=s';have e:o'=s.os:=ho;subst e;exact I.call (g':=g') (t':=t') (d':=d') u hok hg hch
end
abbrev XK:=Value->Iu->Hp->Prop
abbrev St:=List (Option V)
abbrev VK:=V->Hp->Prop
abbrev TE:=St->Hp->VK->Prop
abbrev TT:=St->Hp->(Bool->Hp->Prop)->Prop
abbrev TA:=St->Hp->(List V->Hp->Prop)->Prop
structure Ends where
 nx:St->Hp->Prop
 rt:VK
 bk:St->Hp->Prop:=fun _ _=>False
 ct:St->Hp->Prop:=fun _ _=>False
abbrev TS:=Ends->St->Hp->Prop
def EP (X:Cx) (pins:Im) (σ:St) (Q:VK) (u:Value) (s':Shared):Prop:=∃v H',aR X pins σ H' s'/\RelV v u/\Q v H'
def TP (X:Cx) (pins:Im) (σ:St) (Q:Bool->Hp->Prop) (b:Bool) (s':Shared):Prop:=∃H',aR X pins σ H' s'/\Q b H'
def AP (X:Cx) (pins:Im) (σ:St) (Q:List V->Hp->Prop) (us:Ir) (s':Shared):Prop:=∃vs H',aR X pins σ H' s'/\a9 vs us/\Q vs H'
def SP (X:Cx) (pins:Im) (D:Ends) (f:Flow) (s':Shared):Prop:=
 match f with
 | .next=>∃σ' H',aR X pins σ' H' s'/\D.nx σ' H'
 | .brk=>∃σ' H',aR X pins σ' H' s'/\D.bk σ' H'
 | .cont=>∃σ' H',aR X pins σ' H' s'/\D.ct σ' H'
 | .ret u=>∃v σ' H',aR X pins σ' H' s'/\RelV v u/\D.rt v H'
def PE (X:Cx) (e:Expr) (t:TE):Prop:=
 ∀(pins:Im) (s:Shared) (σ:St) (H:Hp) (Q:VK),aR X pins σ H s->t σ H Q->wpAny (model X.prog X.w) X.A (eval e X.env) (EP X pins σ Q) X.xe s
def PT (X:Cx) (e:Expr) (t:TT):Prop:=
 ∀(pins:Im) (s:Shared) (σ:St) (H:Hp) (Q:Bool->Hp->Prop),aR X pins σ H s->t σ H Q->wpAny (model X.prog X.w) X.A (isTrue e X.env (eval e X.env)) (TP X pins σ Q) X.xe s
def PW (X:Cx) (e:Expr) (t:TT):Prop:=
 ∀(whole:Sem Value) (pins:Im) (s:Shared) (σ:St) (H:Hp) (Q:Bool->Hp->Prop),aR X pins σ H s->t σ H Q->wpAny (model X.prog X.w) X.A (isTrue e X.env whole) (TP X pins σ Q) X.xe s
theorem PW.pt {X:Cx} {e:Expr} {t:TT} (h:PW X e t):PT X e t:=h _
def PA (X:Cx) (es:List Expr) (t:TA):Prop:=
 ∀(pos:Pos) (pins:Im) (s:Shared) (σ:St) (H:Hp) (Q:List V->Hp->Prop),aR X pins σ H s->t σ H Q->wpAny (model X.prog X.w) X.A (spliced (backTo pos (starEach es X.env))) (AP X pins σ Q) X.xe s
def PS (X:Cx) (st:Stmt) (t:TS):Prop:=
 ∀(pins:Im) (s:Shared) (σ:St) (H:Hp) (D:Ends),aR X pins σ H s->t D σ H->wpAny (model X.prog X.w) X.A (exec st X.env) (SP X pins D) X.xe s
def iV (X:Cx) (st:List Stmt) (t:TS):Prop:=
 ∀(pins:Im) (s:Shared) (σ:St) (H:Hp) (D:Ends),aR X pins σ H s->t D σ H->wpAny (model X.prog X.w) X.A (execs st X.env) (SP X pins D) X.xe s
theorem b8 {α:Type} {t:Sem α} {Q Q':α->Shared->Prop} {M:Model} {A:Around} {E:Ik} {s:Shared} (h:wpAny M A t Q E s) (hQ:∀a s,Q a s->Q' a s):wpAny M A t Q' E s:=wpAny_mono h hQ fun _ _ x=>x
section
variable {X:Cx}
def mf (i:Nat):TE:=fun σ H Q=>∃v,σ[i]?=some (some v)/\Q v H
def tC (v:V):TE:=fun _ H Q=>Q v H
theorem xJ {i:Nat} {x:Str} {pos:Pos} (hN:X.N[i]?=some x) (hv:Cy X.env.scope x) (hd:(x==("__debug__" :Str))=false:=by decide) (hcd:(x==("__classdict__" :Str))=false:=by decide):PE X (.Name x pos) (mf i):=by
 intro pins s σ H Q I h;obtain ⟨v,e,h⟩:=h;obtain ⟨m,hn,hl⟩:=I.loc;obtain ⟨u,r,l⟩:=hl i x v hN e hv;have fin:EP X pins σ Q u s:=⟨v,H,I,r,h⟩;rcases l with ⟨hk,hm⟩|⟨hk,c,hc,hcell⟩
 ·exact wpAny_Name (wpAny_loadName_local I.ok.kind hk hn hm fin) hd
 ·rcases hk with hk|hk
  ·exact wpAny_Name (wpAny_loadName_cell I.ok.kind hk hc hcell fin) hd
  ·exact wpAny_Name (wpAny_loadName_free I.ok.kind hk hc hcell fin hcd) hd
theorem ac {i j pos}:PE X (.Constant (.int i) j pos) (tC (.int i)):=fun _ _ _ H _ I h=>wpAny_Constant_int ⟨.int i,H,I.tok _,⟨_,rfl⟩,h⟩
theorem cK {b j pos}:PE X (.Constant (.bool b) j pos) (tC (.bl b)):=fun _ _ _ H _ I h=>Constant_bool ⟨.bl b,H,I,rfl,h⟩
theorem bj {j pos}:PE X (.Constant .none j pos) (tC .non):=fun _ _ _ H _ I h=>Constant_none ⟨.non,H,I,rfl,h⟩
theorem aE {x j pos}:PE X (.Constant (.str x) j pos) (tC (.str x)):=fun _ _ _ H _ I h=>Calls.Constant_str ⟨.str x,H,I.tok _,⟨_,rfl⟩,h⟩
def Gl (X:Cx) (x:Str):Prop:=X.env.kindOf x=some .globalImplicit
theorem eS {E:Ik} {pins:Im} {s:Shared} {σ:St} {H:Hp} {x:Str} {u:Value} {pos:Pos} {Q:Ik} (I:aR X pins σ H s) (hg:Gl X x) (hm:X.mg x=some u) (h:Q u s)
  (hd:(x==("__debug__" :Str))=false:=by decide):wpAny (model X.prog X.w) X.A (eval (.Name x pos) X.env) Q E s:=
 Calls.Name_function_global I.ok.kind hg (Calls.loadGlobal_global (by rw[I.ok.glob];exact I.mod.glob.keeps I.bk) hm h) hd
theorem fj {E:Ik} {pins:Im} {s:Shared} {σ:St} {H:Hp} {x:Str} {u:Value} {pos:Pos} {Q:Ik} (I:aR X pins σ H s) (hg:Gl X x) (hm:X.mg x=none) (hv:bootBuiltins x=some u) (h:Q u s)
  (hn:x≠ "__name__" :=by decide) (hd:(x==("__debug__" :Str))=false:=by decide):wpAny (model X.prog X.w) X.A (eval (.Name x pos) X.env) Q E s:=by
 obtain ⟨mb,h1,h2⟩:=I.mod.blt;exact Calls.Name_function_global I.ok.kind hg (Calls.loadGlobal_builtin (by rw[I.ok.glob];exact I.mod.glob.keeps I.bk) hm (by rw[I.ok.blt];exact h1.keeps I.bk) ((h2 x hn).trans hv) h) hd
theorem cD {x:Str} {v:V} {u:Value} {pos:Pos} (hg:Gl X x) (hm:X.mg x=some u) (r:RelV v u) (hd:(x==("__debug__" :Str))=false:=by decide):PE X (.Name x pos) (tC v):=
 fun _ _ _ H _ I h=>eS I hg hm ⟨v,H,I,r,h⟩ hd
theorem ca {x:Str} {v:V} {u:Value} {pos:Pos} (hg:Gl X x) (hm:X.mg x=none) (hv:bootBuiltins x=some u) (r:RelV v u) (hn:x≠ "__name__" :=by decide) (hd:(x==("__debug__" :Str))=false:=by decide):PE X (.Name x pos) (tC v):=
 fun _ _ _ H _ I h=>fj I hg hm hv ⟨v,H,I,r,h⟩ hn hd
variable {a b:Expr} {ta tb:TE} {pos:Pos}
def tB (t:TE):TT:=fun σ H Q=>t σ H fun x H1=>∃c,x= .bl c/\Q c H1
theorem bR {e:Expr} {t:TE} (h:PE X e t) (he:∀whole,isTrue e X.env whole=(do let v<-whole;standAt e.pos;holding [v] (truthy v)):=by intro _;rfl):PT X e (tB t):=by
 intro pins s σ H Q I hw;refine isTrue_plain (b8 (h pins s σ H _ I hw) fun v s1 ⟨x,H1,I1,r1,q1⟩=>?_) (he _)
 obtain ⟨d,rfl,q⟩:=q1;cases r1;exact wpAny_truthy_bool ⟨H1,I1,q⟩
variable {tA tB':TT} {rest:List Expr}
def Cz (t u:TT):TT:=fun σ H Q=>t σ H fun c H1=>if c=true then u σ H1 Q else Q false H1
def DM (t u:TT):TT:=fun σ H Q=>t σ H fun c H1=>if c=true then Q true H1 else u σ H1 Q
def CA (t:TT):TT:=fun σ H Q=>t σ H fun c H1=>Q (!c) H1
theorem kP (ha:PT X a tA):PW X (.BoolOp .And [a] pos) tA:=by
 intro wh pins s σ H Q I h;refine isTrue_and (b8 (ha pins s σ H Q I h) fun c s1 e=>?_)
 cases c with
 |true=>exact isTrue_and_nil e
 |false=>exact e
theorem bN (ha:PT X a tA):PW X (.BoolOp .Or [a] pos) tA:=by
 intro wh pins s σ H Q I h;refine isTrue_or (b8 (ha pins s σ H Q I h) fun c s1 e=>?_)
 cases c with
 |false=>exact isTrue_or_nil e
 |true=>exact e
theorem oo (ha:PT X a tA) (hb:PW X (.BoolOp .And (b::rest) pos) tB'):PW X (.BoolOp .And (a::b::rest) pos) (Cz tA tB'):=by
 intro wh pins s σ H Q I h;refine isTrue_and (b8 (ha pins s σ H _ I h) fun c s1 ⟨H1,I1,q1⟩=>?_)
 cases c with
 |true=>exact hb wh pins s1 σ H1 Q I1 q1
 |false=>exact ⟨H1,I1,q1⟩
theorem bU (ha:PT X a tA) (hb:PW X (.BoolOp .Or (b::rest) pos) tB'):PW X (.BoolOp .Or (a::b::rest) pos) (DM tA tB'):=by
 intro wh pins s σ H Q I h;refine isTrue_or (b8 (ha pins s σ H _ I h) fun c s1 ⟨H1,I1,q1⟩=>?_)
 cases c with
 |true=>exact ⟨H1,I1,q1⟩
 |false=>exact hb wh pins s1 σ H1 Q I1 q1
theorem bV (ha:PT X a tA):PT X (.UnaryOp .Not a pos) (CA tA):=by
 intro pins s σ H Q I h;exact isTrue_not (ha pins s σ H (fun c H1=>Q (!c) H1) I h)
def Aj (ta tb:TE):TE:=fun σ H Q=>ta σ H fun x H1=>∃c,x= .bl c/\if c=true then tb σ H1 Q else Q (.bl false) H1
def Ak (ta:TE):TE:=fun σ H Q=>ta σ H fun x H1=>∃c,x= .bl c/\Q (.bl (!c)) H1
theorem kQ {op} {t:TE} (h:PE X a t):PE X (.BoolOp op [a] pos) t:=fun pins s σ H Q I hw=>BoolOp_one (h pins s σ H Q I hw)
theorem kR (ha:PE X a ta) (hb:PE X (.BoolOp .And (b::rest) pos) tb):PE X (.BoolOp .And (a::b::rest) pos) (Aj ta tb):=by
 intro pins s σ H Q I h;refine BoolOp_and (b8 (ha pins s σ H _ I h) fun v s1 ⟨x,H1,I1,r1,q1⟩=>?_)
 obtain ⟨c,rfl,q1⟩:=q1;cases r1;refine wpAny_truthy_bool ?_;cases c with
 |true=>exact hb pins s1 σ H1 Q I1 q1
 |false=>exact ⟨.bl false,H1,I1,rfl,q1⟩
theorem sO (ha:PE X a ta):PE X (.UnaryOp .Not a pos) (Ak ta):=by
 intro pins s σ H Q I h;refine UnaryOp_ (b8 (ha pins s σ H _ I h) fun v s1 ⟨x,H1,I1,r1,q1⟩=>?_)
 obtain ⟨c,rfl,q1⟩:=q1;cases r1;exact not_of (wpAny_truthy_bool ⟨.bl (!c),H1,I1,rfl,q1⟩)
def DN (t:TT) (ta tb:TE):TE:=fun σ H Q=>t σ H fun c H1=>if c=true then ta σ H1 Q else tb σ H1 Q
theorem eJ {c:Expr} (hc:PT X c tA) (ha:PE X a ta) (hb:PE X b tb):PE X (.IfExp c a b pos) (DN tA ta tb):=by
 intro pins s σ H Q I h;refine wpAny_IfExp (b8 (hc pins s σ H _ I h) fun d s1 ⟨H1,I1,q1⟩=>?_)
 cases d with
 |true=>exact ha pins s1 σ H1 Q I1 q1
 |false=>exact hb pins s1 σ H1 Q I1 q1
end
def aH (K:D9) (H:Hp) (a:Addr) (xs:List V):Prop:=
 Rd H a (.lst xs)∨
  ∃(o:Obj) (its:Array Value) (n:Nat),K.lookup a=some o/\o.cls= .type "list" /\o.dict=none/\o.data= .seq its n/\its.size<=sizeLine/\a9 xs its.toList
def bZ (K:D9) (H:Hp) (a:Addr) (xs:List V):Prop:=
 Rd H a (.tup xs)∨
  ∃(o:Obj) (its:Array Value) (n:Nat),K.lookup a=some o/\o.cls= .type "tuple" /\o.data= .seq its n/\its.size<=sizeLine/\a9 xs its.toList
def CB:Value->Option V
 | .none=>some .non
 | .bool b=>some (.bl b)
 | .int i _=>some (.int i)
 | .str x _=>some (.str x)
 | .bytes b _=>some (.byt b)
 | .float b _=>some (.flt b)
 | .ref a=>some (.ref a)
 | .type n=>some (.ty n)
 |_=>none
theorem RelV.abs {x:V} {u:Value} (r:RelV x u):CB u=some x:=by
 cases x with
 |non=>cases r;rfl
 |bl _=>cases r;rfl
 |int _=>obtain ⟨t,rfl⟩:=r;rfl
 |str _=>obtain ⟨t,rfl⟩:=r;rfl
 |byt _=>obtain ⟨t,rfl⟩:=r;rfl
 |flt _=>obtain ⟨t,rfl⟩:=r;rfl
 |ref _=>cases r;rfl
 |ty _=>cases r;rfl
theorem RelV.inj {x y:V} {u:Value} (r:RelV x u) (q:RelV y u):x=y:=EL (r.abs.symm.trans q.abs)
theorem a9.inj:∀{xs ys:List V} {us:Ir},a9 xs us->a9 ys us->xs=ys
 |_,_,_,.nil,.nil=>rfl
 |_,_,_,.cons r t,.cons r' t'=>by rw[r.inj r',a9.inj t t']
section
variable {X:Cx} {pins:Im} {σ:St} {H:Hp} {s:Shared} {a:Addr} {xs ys:List V}
theorem aH.of {K:D9} (h:H a=some (.lst xs)):aH K H a xs:= .inl (.inl h)
theorem bZ.of {K:D9} (h:H a=some (.tup xs)):bZ K H a xs:= .inl (.inl h)
theorem aR.list (I:aR X pins σ H s) (h:aH X.K H a xs):∃its:Ir,a9 xs its/\PlainL s.heap a its.toArray/\xs.length<=sizeLine:=by
 rcases h with h|⟨o,its,n,hk,hc,hd,hs,hz,r⟩
 ·obtain ⟨z,its,n,r,e⟩:=h.ok I.hok;exact ⟨its,r,⟨_,n,e,rfl,rfl,rfl⟩,z⟩
 ·refine ⟨its.toList,r,⟨o,n,I.kIn a o hk,hc,hd,by simpa using hs⟩,?_⟩
  have e:=r.length;simp only[FQ] at e;omega
theorem aR.tuple (I:aR X pins σ H s) (h:bZ X.K H a xs):∃its:Ir,a9 xs its/\IsTup s.heap a its.toArray/\xs.length<=sizeLine:=by
 rcases h with h|⟨o,its,n,hk,hc,hs,hz,r⟩
 ·obtain ⟨z,its,r,p⟩:=h.ok I.hok;exact ⟨its,r,p,z⟩
 ·refine ⟨its.toList,r,⟨o,I.kIn a o hk,hc,n,by simpa using hs⟩,?_⟩
  have e:=r.length;simp only[FQ] at e;omega
theorem aR.list_inj (I:aR X pins σ H s) (h:aH X.K H a xs) (h':aH X.K H a ys):xs=ys:=by
 obtain ⟨its,r,⟨o,n,e,_,_,d⟩,_⟩:=I.list h;obtain ⟨its',r',⟨o',n',e',_,_,d'⟩,_⟩:=I.list h';rw[e] at e';cases e';rw[d] at d';injection d' with d1 _
 have:its=its':=by simpa using congrArg Array.toList d1
 subst this;exact r.inj r'
theorem aR.tuple_inj (I:aR X pins σ H s) (h:bZ X.K H a xs) (h':bZ X.K H a ys):xs=ys:=by
 obtain ⟨its,r,⟨o,e,_,n,d⟩,_⟩:=I.tuple h;obtain ⟨its',r',⟨o',e',_,n',d'⟩,_⟩:=I.tuple h';rw[e] at e';cases e';rw[d] at d';injection d' with d1 _
 have:its=its':=by simpa using congrArg Array.toList d1
 subst this;exact r.inj r'
end
abbrev Cx.wish (X:Cx) (E:Ik):Cx:={X with xe:=E}
abbrev Cx.nox (X:Cx):Cx:=X.wish fun _ _=>False
theorem Cx.Ok.wish {X:Cx} (ok:X.Ok) (E:Ik):(X.wish E).Ok:=
 ⟨ok.mod,ok.kind,ok.glob,ok.blt,ok.above,ok.inj,ok.has,ok.cab,ok.hd,ok.frames,ok.stk,ok.exf,ok.bs,ok.bsz,ok.noex,ok.exfs,ok.funs,ok.frf⟩
theorem Cx.Ok.unwish {X:Cx} {E:Ik} (ok:(X.wish E).Ok):X.Ok:=
 ⟨ok.mod,ok.kind,ok.glob,ok.blt,ok.above,ok.inj,ok.has,ok.cab,ok.hd,ok.frames,ok.stk,ok.exf,ok.bs,ok.bsz,ok.noex,ok.exfs,ok.funs,ok.frf⟩
section
variable {X:Cx} {pins:Im} {σ:St} {H:Hp} {s:Shared} {E:Ik}
theorem aR.wish (I:aR X pins σ H s) (E:Ik):aR (X.wish E) pins σ H s:=⟨I.ok.wish E,I.os,I.bare,I.base,I.loc,I.cell,I.free,I.freeC,I.pin,I.hok,I.len⟩
theorem aR.unwish (I:aR (X.wish E) pins σ H s):aR X pins σ H s:=⟨I.ok.unwish,I.os,I.bare,I.base,I.loc,I.cell,I.free,I.freeC,I.pin,I.hok,I.len⟩
theorem SP.unwish {D:Ends} {f:Flow} {s':Shared} (h:SP (X.wish E) pins D f s'):SP X pins D f s':=by
 cases f with
 |next=>obtain ⟨σ',H',I,q⟩:=h;exact ⟨σ',H',I.unwish,q⟩
 |brk=>obtain ⟨σ',H',I,q⟩:=h;exact ⟨σ',H',I.unwish,q⟩
 |cont=>obtain ⟨σ',H',I,q⟩:=h;exact ⟨σ',H',I.unwish,q⟩
 |ret u=>obtain ⟨v,σ',H',I,r,q⟩:=h;exact ⟨v,σ',H',I.unwish,r,q⟩
theorem iV.nox {st:List Stmt} {t:TS} (h:iV X.nox st t):iV X st t:=fun pins s σ H D I hw=>
 wpAny_mono (h pins s σ H D (I.wish _) hw) (fun _ _ q=>q.unwish) fun _ _ z=>False.elim z
end
section
variable {X:Cx} {st:Stmt} {rest:List Stmt} {t u:TS} {e:Expr} {te:TE} {pos:Pos}
def a6:TS:=fun D σ H=>D.nx σ H
def ou (t u:TS):TS:=fun D σ H=>t {D with nx:=u D} σ H
theorem ay:iV X [] a6:=fun _ _ σ H _ I h=>wpAny_execs_nil ⟨σ,H,I,h⟩
theorem ad (h1:PS X st t) (h2:iV X rest u):iV X (st::rest) (ou t u):=by
 intro pins s σ H D I h;refine wpAny_execs_cons (b8 (h1 pins s σ H {D with nx:=u D} I h) fun f s1 q=>?_)
 cases f with
 |next=>
  obtain ⟨σ',H',I',q⟩:=q;exact h2 pins s1 σ' H' D I' q
 |ret v=>exact q
 |brk=>exact q
 |cont=>exact q
theorem ah (h1:PS X st t):iV X [st] t:=by
 intro pins s σ H D I h;refine wpAny_execs_cons (b8 (h1 pins s σ H D I h) fun f s1 q=>?_)
 cases f with
 |next=>exact wpAny_execs_nil q
 |ret v=>exact q
 |brk=>exact q
 |cont=>exact q
theorem aR.quiet {pins:Im} {σ:St} {H:Hp} {s:Shared} (I:aR X pins σ H s):interactive X.env=false:=by simp[interactive,I.ok.kind]
def Al (te:TE):TS:=fun D σ H=>te σ H fun _ H1=>D.nx σ H1
theorem bw (he:PE X e te) (hs:swapsWith e none pos.line X.env=pure false:=by rfl):PS X (.Expr e pos) (Al te):=by
 intro pins s σ H D I h;exact wpAny_Expr_any (b8 (he pins s σ H _ I h) fun v s1 ⟨x,H1,I1,r1,q1⟩=>⟨σ,H1,I1,q1⟩) I.quiet hs
def vy (te:TE):TS:=fun D σ H=>te σ H D.rt
theorem ax (he:PE X e te):PS X (.Return (some e) pos) (vy te):=by
 intro pins s σ H D I h;exact wpAny_Return_some (b8 (he pins s σ H _ I h) fun v s1 ⟨x,H1,I1,r1,q1⟩=>⟨x,σ,H1,I1,r1,q1⟩)
def Ao (c:TT) (t u:TS):TS:=fun D σ H=>c σ H fun b H1=>if b=true then t D σ H1 else u D σ H1
theorem aL {c:Expr} {a b:List Stmt} {tc:TT} (hc:PT X c tc) (ha:iV X a t) (hb:iV X b u):PS X (.If c a b pos) (Ao tc t u):=by
 intro pins s σ H D I h;refine wpAny_If (b8 (hc pins s σ H _ I h) fun d s1 ⟨H1,I1,q1⟩=>?_)
 cases d with
 |true=>exact ha pins s1 σ H1 D I1 q1
 |false=>exact hb pins s1 σ H1 D I1 q1
def xK:TS:=fun _ _ _=>False
theorem cP:PS X st xK:=fun _ _ _ _ _ _ h=>h.elim
end
abbrev TG:=V->St->Hp->(St->Hp->Prop)->Prop
abbrev vz:=List V->St->Hp->(St->Hp->Prop)->Prop
def PG (X:Cx) (target:Expr) (t:TG):Prop:=
 ∀(pins:Im) (s:Shared) (σ:St) (H:Hp) (v:V) (u:Value) (Q:St->Hp->Prop),aR X pins σ H s->RelV v u->t v σ H Q->
  wpAny (model X.prog X.w) X.A (assign target X.env u) (fun _ s'=>∃σ' H',aR X pins σ' H' s'/\Q σ' H') X.xe s
def Ap (X:Cx) (ts:List Expr) (t:vz):Prop:=
 ∀(pins:Im) (s:Shared) (σ:St) (H:Hp) (vs:List V) (us:Ir) (Q:St->Hp->Prop),aR X pins σ H s->a9 vs us->t vs σ H Q->
  wpAny (model X.prog X.w) X.A (assignInOrder ((assignEach ts X.env).map (·.2)) us) (fun _ s'=>∃σ' H',aR X pins σ' H' s'/\Q σ' H') X.xe s
abbrev xL:=V->V->V->Hp->(Hp->Prop)->Prop
def Aq (X:Cx) (t:xL):Prop:=
 ∀(pins:Im) (s:Shared) (σ:St) (H:Hp) (o i v:V) (ov iv u:Value) (Q:Hp->Prop),aR X pins σ H s->RelV o ov->RelV i iv->RelV v u->t o i v H Q->
  wpAny (model X.prog X.w) X.A (setItem ov iv u) (fun _ s'=>∃H',aR X pins σ H' s'/\Q H') X.xe s
section
variable {X:Cx} {pos:Pos}
def aX (i:Nat):TG:=fun v σ H Q=>Q (σ.set i (some v)) H
theorem kS {i:Nat} {x:Str} (hN:X.N.Nodup) (hi:X.N[i]?=some x) (hx:Loc X.env.scope x) (hf:X.fn x=true∨X.env.scope.names.lookup x=some .local:=by first|exact .inl rfl|exact .inr rfl|assumption):PG X (.Name x pos) (aX i):=by
 intro pins s σ H v u Q I r h;exact wpAny_assign_Name (me I hN hi hx r (fun s' I'=>⟨_,H,I',h⟩) hf)
def CC:vz:=fun vs σ H Q=>vs= []/\Q σ H
def Ar (t:TG) (u:vz):vz:=fun vs σ H Q=>∃v r,vs=v::r/\t v σ H fun σ' H'=>u r σ' H' Q
theorem dY:Ap X [] CC:=by
 intro pins s σ H vs us Q I r h;obtain ⟨e,h⟩:=h;subst e;cases r;exact assignInOrder_nil ⟨σ,H,I,h⟩
theorem bo {e:Expr} {es:List Expr} {t:TG} {u:vz} (h1:PG X e t) (h2:Ap X es u)
  (hs:(assignEach (e::es) X.env).map (·.2)=assign e X.env::(assignEach es X.env).map (·.2):=by rfl):Ap X (e::es) (Ar t u):=by
 intro pins s σ H vs us Q I r h;obtain ⟨v,vr,e1,h⟩:=h;subst e1;cases r with
 |cons r rr=>
  rw[hs];refine assignInOrder_cons (b8 (h1 pins s σ H _ _ _ I r h) fun _ s1 ⟨σ1,H1,I1,q1⟩=>?_)
  exact h2 pins s1 σ1 H1 _ _ Q I1 rr q1
def CD (K:D9) (n:Nat) (t:vz):TG:=fun v σ H Q=>∃a xs,v= .ref a/\bZ K H a xs/\xs.length=n/\t xs σ H Q
theorem iW {es:List Expr} {k:Nat} {t:vz} {n:Nat} (hc:X.calm=true) (h:Ap X es t)
  (hn:(assignEach es X.env).length=n:=by rfl) (hst:(assignEach es X.env).findIdx? (·.1)=none:=by rfl):PG X (.Tuple es k pos) (CD X.K n t):=by
 intro pins s σ H v u Q I r hw;obtain ⟨a,xs,e1,hq,hl,hw⟩:=hw;subst e1;cases r;obtain ⟨its,rv,ht,hz⟩:=I.tuple hq;refine assign_Tuple_tuple (I.ok.hd hc) ht (by simp[hn,<-hl,rv.length]) hst fun h' hx=>?_
 have I1:aR X pins σ H {s with heap:=h'}:=I.kept (t':=s.toks) fun b o e=>hx b o (EU (Heap.lt_size e)) e
 exact h pins _ σ H xs _ Q I1 (by simpa using rv) hw
def CF (to ti:TE) (t:xL):TG:=fun v σ H Q=>to σ H fun o H1=>ti σ H1 fun i H2=>t o i v H2 fun H3=>Q σ H3
theorem xM {o i:Expr} {to ti:TE} {t:xL} (ho:PE X o to) (hi:PE X i ti) (hs:Aq X t)
  (ha:∀v,assign (.Subscript o i pos) X.env v=(do
   let ov<-holding [v] (eval o X.env)
   let iv<-holding [v,ov] (eval i X.env)
   standAt pos
   holding [v,ov,iv] (setItem ov iv v)
   release [v,ov,iv] []):=by intro _;rfl):PG X (.Subscript o i pos) (CF to ti t):=by
 intro pins s σ H v u Q I r h;rw[ha];refine wpAny_bind (wpAny_holding (b8 (ho pins s σ H _ I h) fun ov s1 ⟨x,H1,I1,r1,q1⟩=>?_))
 refine wpAny_bind (wpAny_holding (b8 (hi pins s1 σ H1 _ I1 q1) fun iv s2 ⟨y,H2,I2,r2,q2⟩=>?_))
 refine wpAny_bind (wpAny_standAt (wpAny_bind (wpAny_holding (b8 (hs pins s2 σ H2 x y v ov iv u _ I2 r1 r2 r q2) fun _ s3 ⟨H3,I3,q3⟩=>?_))))
 exact wpAny_release ⟨σ,H3,I3,q3⟩
def sP (te:TE) (g:TG):TS:=fun D σ H=>te σ H fun x H1=>g x σ H1 D.nx
theorem hU {tg e:Expr} {te:TE} {g:TG} (he:PE X e te) (hg:PG X tg g) (hs:swapsWithSole [tg] e pos.line X.env=pure false:=by rfl) (hw:swappedStores [tg] e X.env=pure none:=by rfl)
  (h1:(assignEach [tg] X.env).map (·.2)= [assign tg X.env]:=by rfl):PS X (.Assign [tg] e pos) (sP te g):=by
 intro pins s σ H D I h;refine wpAny_Assign_stores (b8 (he pins s σ H _ I h) fun v s1 ⟨x,H1,I1,r1,q1⟩=>?_) hs hw
 rw[h1];exact b8 (hg pins s1 σ H1 x v _ I1 r1 q1) fun _ s2 q=>q
theorem fk {i:Nat} {x:Str} {e:Expr} {te:TE} {pos':Pos} (hN:X.N.Nodup) (hi:X.N[i]?=some x) (hx:Loc X.env.scope x) (he:PE X e te) (hs:swapsWith e (some (.Name x pos')) pos.line X.env=pure false:=by rfl) (hf:X.fn x=true∨X.env.scope.names.lookup x=some .local:=by first|exact .inl rfl|exact .inr rfl|assumption):
  PS X (.Assign [.Name x pos'] e pos) (sP te (aX i)):=by
 intro pins s σ H D I h;refine wpAny_Assign_Name (b8 (he pins s σ H _ I h) fun v s1 ⟨y,H1,I1,r1,q1⟩=>?_) hs
 exact me I1 hN hi hx r1 (fun s2 I2=>⟨_,H1,I2,q1⟩) hf
end
section
variable {X:Cx} {pos:Pos}
def sQ (c:TT) (tb:TS):TS:=fun D σ H=>∃W:Nat->St->Hp->Prop,(∃m,W m σ H)/\∀m σ H,W m σ H->
 c σ H fun b H1=>if b=true then ∃N:St->Hp->Prop,(∀σ' H',N σ' H'->∃m',m'<m/\W m' σ' H')/\tb {D with nx:=N,ct:=N,bk:=D.nx} σ H1 else D.nx σ H1
theorem mh {c:Expr} {body:List Stmt} {tc:TT} {tb:TS} (hp:PassesOwn (model X.prog X.w) X.A X.env X.xe) (hc:PT X c tc) (hb:iV X body tb):PS X (.While c body [] pos) (sQ tc tb):=by
 intro pins s σ H D I h;obtain ⟨W,⟨m0,w0⟩,turn⟩:=h;refine wpAny_While (codeAny_whileLoop (fun n s'=>∃σ' H',aR X pins σ' H' s'/\W n σ' H') ?_ m0 ⟨σ,H,I,w0⟩)
 rintro n s1 ⟨σ1,H1,I1,w1⟩;refine wpAny_passesOwn hp (b8 (hc pins s1 σ1 H1 _ I1 (turn n σ1 H1 w1)) fun b s2 ⟨H2,I2,q2⟩=>?_)
 cases b with
 |true=>
  obtain ⟨N,hN,q2⟩:=q2;rw[if_pos rfl];refine wpAny_passesOwn hp (b8 (hb pins s2 σ1 H2 _ I2 q2) fun f s3 q3=>?_)
  cases f with
  |next=>
   obtain ⟨σ3,H3,I3,n3⟩:=q3;obtain ⟨m',hm,w3⟩:=hN σ3 H3 n3;exact ⟨m',hm,σ3,H3,I3,w3⟩
  |cont=>
   obtain ⟨σ3,H3,I3,n3⟩:=q3;obtain ⟨m',hm,w3⟩:=hN σ3 H3 n3;exact ⟨m',hm,σ3,H3,I3,w3⟩
  |brk=>exact q3
  |ret v=>exact q3
 |false=>
  rw[if_neg EM];exact wpAny_execs_nil ⟨σ1,H2,I2,q2⟩
end
structure It where
 go:Nat->Hp->Prop
 yld:Nat->Hp->V->Hp->Prop
 stop:Nat->Hp->Prop
def fu (X:Cx) (pins:Im) (H:Hp) (b:Addr):Prop:=
 H b=none/\b≠X.env.locals/\b∉X.fs/\(b∈X.ex∨X.s₀.heap.objs.size<=b)/\(∀x c,X.env.cells.lookup x=some c->c≠b)/\∀p∈X.pn++pins,p.1≠b
theorem aR.fpOk {X:Cx} {pins:Im} {σ:St} {H H':Hp} {s:Shared} {b:Addr} (I:aR X pins σ H s) (hb:s.heap.objs.size<=b) (hn:H' b=none):fu X pins H' b:=by
 refine ⟨hn,FK (ER I.lt hb),I.nofs hb,.inr (EV I.sz hb),fun x c e z=>?_,fun p hp z=>?_⟩
 ·obtain ⟨v,q⟩:=I.cell x c e;exact absurd (ER q.lt (by rw[z];exact hb)) (Nat.lt_irrefl _)
 ·exact absurd (ER (Heap.lt_size (I.pin p hp).1) (by rw[z];exact hb)) (Nat.lt_irrefl _)
structure Turn (P:Program) (w:World) (K:D9) (tg:Expr) (J:It) (fp:Iq) (it:Addr) (tn:Nat->Heap->Prop):Prop where
 mem:it∈fp
 obj:∀i h,tn i h->∀b∈fp,∃o,h.get? b=some o/\∀v,o.data≠ .cell v
 keep:∀i h h',tn i h->(∀b∈fp,∀o,h.get? b=some o->h'.get? b=some o)->tn i h'
 item:∀(X:Cx),X.prog=P->X.w=w->X.K=K->X.calm=true->∀(i:Nat) (pins:Im) (s:Shared) (σ:St) (H:Hp) (E:Ik),aR X pins σ H s->(∀b∈fp,fu X pins H b)->tn i s.heap->J.go i H->
  wpAny (model P w) X.A (pyNext (.ref it)) (fun r s1=>∃u,r=some u/\
   wpAny (model P w) X.A (letOwnedTupleGo tg (.ref it) u) (fun _ s2=>∃x H',aR X pins σ H' s2/\RelV x u/\J.yld i H x H'/\tn (i+1) s2.heap/\∀b∈fp,H' b=none) E s1) E s
 done:∀(X:Cx),X.prog=P->X.w=w->X.K=K->X.calm=true->∀(i:Nat) (pins:Im) (s:Shared) (σ:St) (H:Hp) (E:Ik),aR X pins σ H s->(∀b∈fp,fu X pins H b)->tn i s.heap->J.stop i H->
  wpAny (model P w) X.A (pyNext (.ref it)) (fun r s1=>r=none/\aR X pins σ H s1) E s
 self:∀(A:Around) (i:Nat) (s:Shared) (Q:Ik) (E:Ik),tn i s.heap->Q (.ref it) s->wpAny (model P w) A (pyIter (.ref it)) Q E s
abbrev TI:=St->Hp->(It->Hp->Prop)->Prop
def CG (X:Cx) (pins:Im) (σ:St) (tg:Expr) (R:It->Hp->Prop) (itv:Value) (s2:Shared):Prop:=
 ∃(it:Addr) (fp:Iq) (tn:Nat->Heap->Prop) (J:It) (H':Hp),itv= .ref it/\aR X pins σ H' s2/\Turn X.prog X.w X.K tg J fp it tn/\tn 0 s2.heap/\(∀b∈fp,fu X pins H' b)/\R J H'
def PI (X:Cx) (tg iter:Expr) (wi:TI):Prop:=
 ∀(pins:Im) (s:Shared) (σ:St) (H:Hp) (R:It->Hp->Prop),aR X pins σ H s->wi σ H R->
  wpAny (model X.prog X.w) X.A (eval iter X.env) (fun v s1=>wpAny (model X.prog X.w) X.A (pyIter v) (CG X pins σ tg R) X.xe s1) X.xe s
theorem pU {M:Model} {A:Around} {E:Ik} {s:Shared} {tg:Expr} {it:Addr} {u:Value} {o:Obj} {n:String} {vs:Array Value} {Q:Unit->Shared->Prop} (ho:s.heap.get? it=some o) (hc:o.cls= .type n) (hd:o.data= .fields vs)
    (hn: ["enumerate","zip","dict_itemiterator","dict_reverseitemiterator","odict_iterator","itertools.zip_longest","itertools.pairwise"].contains n=false) (hQ:Q () s):wpAny M A (letOwnedTupleGo tg (.ref it) u) Q E s:=by
  unfold letOwnedTupleGo;cases tg<;>first
    |exact wpAny_pure hQ
    | (cases u<;>first
        |exact wpAny_pure hQ
        | (refine wpAny_bind (wpAny_load ho ?_)
           rw[hc,hd];show wpAny M A (if (["enumerate","zip","dict_itemiterator","dict_reverseitemiterator","odict_iterator","itertools.zip_longest","itertools.pairwise"].contains n&&vs[0]?==some (rawInt _))=true then _ else _) Q E s
           rw[if_neg (by intro h;rw[hn,Bool.false_and] at h;cases h)]
           exact wpAny_pure hQ))
def xN (K:D9) (a:Addr):It:=
 ⟨fun i H=>∃xs x,aH K H a xs/\xs[i]?=some x,fun i H x H'=>H'=H/\∀xs,aH K H a xs->xs[i]?=some x,fun i H=>∃xs,aH K H a xs/\xs.length<=i⟩
def Ac (lo:Int) (n:Nat):It:=⟨fun i _=>i<n,fun i H x H'=>H'=H/\x= .int (lo+i),fun i _=>n<=i⟩
theorem rz {P:Program} {w:World} {K:D9} {tg:Expr} (a it:Addr):Turn P w K tg (xN K a) [it] it (fun i h=>h.IsListIter it a i) where
 mem:=by simp
 obj:=fun i h st b hb=>by
  have e:b=it:=by simpa using hb
  subst e;obtain ⟨o,e,c,d⟩:=st;exact ⟨o,e,fun v z=>by rw[d] at z;cases z⟩
 keep:=fun i h h' st k=>st.at fun o e=>k it (by simp) o e
 item:=by
  intro X hP hw hK hc i pins s σ H E I hf st hg;subst hP hw hK;obtain ⟨xs,x,hq,hx⟩:=hg;obtain ⟨its,rv,p,hz⟩:=I.list hq;obtain ⟨u,hu,ru⟩:=rv.get hx;obtain ⟨f0,f1,f2,f3,f4,f5⟩:=hf it (by simp)
  refine wpAny_pyNext_list_item st p.isList (x:=u) (by simpa using hu) fun h' st' sb=>?_
  have I1:aR X pins σ H {s with heap:=h'}:=I.turned (t':=s.toks) (fun b o hb e=>(sb.2 b hb).trans e) f0 f1 f3 f4 f5
  obtain ⟨o,e,c,d⟩:=id st';exact ⟨u,rfl,pU (s:={s with heap:=h'}) e c d (by decide) ⟨x,H,I1,ru,⟨rfl,fun ys hy=>by rw[I.list_inj hy hq];exact hx⟩,st',fun b hb=>(hf b hb).1⟩⟩
 done:=by
  intro X hP hw hK hc i pins s σ H E I hf st hg;subst hP hw hK;obtain ⟨xs,hq,hx⟩:=hg;obtain ⟨its,rv,p,hz⟩:=I.list hq;obtain ⟨f0,f1,f2,f3,f4,f5⟩:=hf it (by simp)
  have hl:=rv.length;exact wpAny_pyNext_list_end (I.ok.hd hc) st p.isList (by simp;omega) fun h' eb=>⟨rfl,I.turned (t':=s.toks) (fun b o hb e=>eb b o hb e) f0 f1 f3 f4 f5⟩
 self:=fun _ _ _ _ _ st h=>wpAny_pyIter_listiter st h
theorem ow {P:Program} {w:World} {K:D9} {tg:Expr} (it:Addr) (lo:Int) (n:Nat):Turn P w K tg (Ac lo n) [it] it (fun i h=>IsRangeIter h it (lo+(i:Nat)*1) ((n:Int)-(i:Nat)) 1) where
 mem:=by simp
 obj:=fun i h st b hb=>by
  have e:b=it:=by simpa using hb
  subst e;exact ⟨_,st,fun v z=>by
   have z':Data.fields _=Data.cell v:=z;cases z'⟩
 keep:=fun i h h' st k=>k it (by simp) _ st
 item:=by
  intro X hP hw hK hc i pins s σ H E I hf st hg;subst hP hw hK;obtain ⟨f0,f1,f2,f3,f4,f5⟩:=hf it (by simp)
  have W:=Walks.range (prog:=X.prog) (w:=X.w) (I.ok.hd hc) it lo 1 n;refine W.item i s _ _ hg st fun v h' tk hv st' kk=>?_
  obtain ⟨t,rfl⟩:=hv;have I1:aR X pins σ H {s with heap:=h',toks:=tk}:=I.turned (fun b o hb e=>kk b o (by simpa using hb) e) f0 f1 f3 f4 f5
  refine ⟨_,rfl,pU (s:={s with heap:=h',toks:=tk}) (n:= "range_iterator") st' rfl rfl (by decide) ⟨.int (lo+i),H,I1,⟨t,?_⟩,⟨rfl,rfl⟩,st',fun b hb=>(hf b hb).1⟩⟩
  rw[Int.mul_one]
 done:=by
  intro X hP hw hK hc i pins s σ H E I hf st hg;subst hP hw hK;obtain ⟨f0,f1,f2,f3,f4,f5⟩:=hf it (by simp)
  exact wpAny_pyNext_range_end (I.ok.hd hc) st (by have:n<=i:=hg;omega) fun h' eb=>⟨rfl,I.turned (t':=s.toks) (fun b o hb e=>eb b o hb e) f0 f1 f3 f4 f5⟩
 self:=fun _ _ _ _ _ st h=>wpAny_pyIter_rangeiter st h
variable {X:Cx} {tg:Expr}
def As (K:D9) (tl:TE):TI:=fun σ H R=>tl σ H fun x H1=>∃a,x= .ref a/\(∃xs,aH K H1 a xs)/\R (xN K a) H1
theorem gF {l:Expr} {tl:TE} (hl:PE X l tl):PI X tg l (As X.K tl):=by
 intro pins s σ H R I h;refine b8 (hl pins s σ H _ I h) fun v s1 ⟨x,H1,I1,r1,q1⟩=>?_
 obtain ⟨a,e,⟨xs,hq⟩,q⟩:=q1;subst e;cases r1;obtain ⟨its,rv,p,hz⟩:=I1.list hq;refine wpAny_pyIter_list p.isList ?_;refine ⟨s1.heap.objs.size,[s1.heap.objs.size],_,_,H1,rfl,I1.kept (t':=s1.toks) fun b o e=>Heap.get?_push_of_some _ e,rz a _,⟨_,Heap.get?_push_size _ rfl,rfl,rfl⟩,fun b hb=>?_,q⟩
 have e:b=s1.heap.objs.size:=by simpa using hb
 subst e;exact I1.fpOk (EB _) (I1.hok.fresh (EB _))
theorem sR {pins:Im} {σ:St} {H:Hp} {s:Shared} {R:It->Hp->Prop} {E:Ik} {lo hi:Int} {t u v:Tok} {tk:Nat} (I:aR X pins σ H s) (h1: -(2^62)<=lo) (h2:lo<2^62) (h3: -(2^62)<=hi) (h4:hi<2^62)
  (q:R (Ac lo (hi-lo).toNat) H):wpAny (model X.prog X.w) X.A (pyIter (.ref s.heap.objs.size)) (CG X pins σ tg R) E {s with heap:=s.heap.push {cls:= .type "range",data:= .fields #[.int lo t,.int hi u,.int 1 v]},toks:=tk}:=by
 refine wpAny_pyIter_range (IsRange.new ..) (small_one h1 h2 h3 h4) ?_;have I1:aR X pins σ H {s with heap:=s.heap.push {cls:= .type "range",data:= .fields #[.int lo t,.int hi u,.int 1 v]},toks:=tk}:=I.kept fun b o e=>Heap.get?_push_of_some _ e
 refine ⟨(s.heap.push {cls:= .type "range",data:= .fields #[.int lo t,.int hi u,.int 1 v]}).objs.size,[(s.heap.push {cls:= .type "range",data:= .fields #[.int lo t,.int hi u,.int 1 v]}).objs.size],_,_,H,rfl,
  I1.kept (t':=tk) fun b o e=>Heap.get?_push_of_some _ e,ow _ lo (hi-lo).toNat,?_,fun b hb=>?_,q⟩
 ·have e1:lo+((0:Nat):Int)*1=lo:=by simp
  have e2:(((hi-lo).toNat:Nat):Int)-((0:Nat):Int)=Builtin.Range.rangeSize lo hi 1:=by rw[rangeSize_one];split<;>omega
  show IsRangeIter _ _ (lo+((0:Nat):Int)*1) ((((hi-lo).toNat:Nat):Int)-((0:Nat):Int)) 1;rw[e1,e2];exact Heap.get?_push_size _ rfl
 ·have e:b=(s.heap.push {cls:= .type "range",data:= .fields #[.int lo t,.int hi u,.int 1 v]}).objs.size:=by simpa using hb
  subst e;exact I1.fpOk (EB _) (I1.hok.fresh (EB _))
def At (ta:TA):TI:=fun σ H R=>ta σ H fun vs H1=>∃j:Int,vs= [.int j]/\ -(2^62)<=j/\j<2^62/\R (Ac 0 j.toNat) H1
theorem fL {a:Expr} {ta:TA} {p pos:Pos} (hg:Gl X "range") (hm:X.mg "range" =none) (ha:PA X [a] ta) (hs:starEach [a] X.env= [(false,eval a X.env)]:=by rfl):PI X tg (.Call (.Name "range" p) [a] [] pos) (At ta):=by
 intro pins s σ H R I h;refine Call_ (fj I hg hm boot_range (FD (b8 (ha pos pins s σ H _ I h) fun us s1 ⟨vs,H1,I1,r1,q1⟩=>?_) hs rfl))
 obtain ⟨j,e,q1,q2,q⟩:=q1;subst e;cases r1 with
 |cons r rr=>
  cases rr;obtain ⟨t,rfl⟩:=r;exact call_range_1 (sR I1 (by omega) (by omega) q1 q2 (by simpa using q))
def CH (wi:TI) (g:TG) (tb:TS):TS:=fun D σ H=>wi σ H fun J H1=>∃W:Nat->Nat->St->Hp->Prop,(∃m,W 0 m σ H1)/\∀i m σ H,W i m σ H->
 (J.stop i H/\D.nx σ H)∨(J.go i H/\∃N:St->Hp->Prop,(∀σ' H',N σ' H'->∃m',m'<m/\W (i+1) m' σ' H')/\∀x H',J.yld i H x H'->g x σ H' fun σ2 H2=>tb {D with nx:=N,ct:=N,bk:=D.nx} σ2 H2)
def kT (fp:Iq) (h:Heap):Im:=fp.filterMap fun b=>(h.get? b).map fun o=>(b,o)
theorem dn {fp:Iq} {h:Heap} {b:Addr} {o:Obj} (hb:b∈fp) (e:h.get? b=some o):(b,o)∈kT fp h:=List.mem_filterMap.mpr ⟨b,hb,by rw[e];rfl⟩
theorem rA {fp:Iq} {h:Heap} {p:Addr×Obj} (hp:p∈kT fp h):p.1∈fp/\h.get? p.1=some p.2:=by
 obtain ⟨b,hb,e⟩:=List.mem_filterMap.mp hp;cases q:h.get? b with
 |none=>rw[q] at e;cases e
 |some o=>
  rw[q] at e;have e':(b,o)=p:=EL e;subst e';exact ⟨hb,q⟩
theorem aR.pinned {pins:Im} {σ:St} {H:Hp} {s:Shared} {fp:Iq} (I:aR X pins σ H s) (hf:∀b∈fp,fu X pins H b) (ho:∀b∈fp,∃o,s.heap.get? b=some o/\∀v,o.data≠ .cell v):aR X (pins++kT fp s.heap) σ H s:=
 I.pins_of fun p hp=>(EI.mp hp).elim (fun z=>I.pin p (EE _ z)) fun z=>by
  obtain ⟨hb,e⟩:=rA z;obtain ⟨f0,f1,f2,_⟩:=hf p.1 hb;obtain ⟨o,e',d⟩:=ho p.1 hb;rw[e] at e';cases e';exact ⟨e,f0,f1,f2,d⟩
theorem aR.unpinned {pins pl:Im} {σ:St} {H:Hp} {s:Shared} (I:aR X (pins++pl) σ H s):aR X pins σ H s:=I.pins_of fun p hp=>I.pin p (EE _ (Ez _ hp))
theorem eG {iter:Expr} {body:List Stmt} {wi:TI} {g:TG} {tb:TS} {pos:Pos} (hp:PassesOwn (model X.prog X.w) X.A X.env X.xe) (hc:X.calm=true) (hi:PI X tg iter wi) (hg:PG X tg g) (hb:iV X body tb)
  (hs:∀x,foldedSetIterable iter X.env x=pure x:=by intro _;rfl):PS X (.For tg iter body [] pos) (CH wi g tb):=by
 intro pins s σ H D I h;refine wpAny_For (b8 (hi pins s σ H _ I h) fun v s1 h1=>b8 h1 fun itv s2 h2=>?_) hs
 obtain ⟨it,fp,tn,J,H2,e,I2,T,st2,f2,W,⟨m0,w0⟩,turn⟩:=h2;subst e;have stat:∀{H':Hp},(∀b∈fp,H' b=none)->∀b∈fp,fu X pins H' b:=fun hn b hb=>⟨hn b hb,(f2 b hb).2⟩
 refine codeAny_forLoop_any (fun n s'=>∃i σ' H',aR X pins σ' H' s'/\tn i s'.heap/\(∀b∈fp,H' b=none)/\W i n σ' H') ?_ m0 ⟨0,σ,H2,I2,st2,fun b hb=>(f2 b hb).1,w0⟩
 rintro n s3 ⟨i,σ3,H3,I3,st3,fr3,w3⟩;rcases turn i n σ3 H3 w3 with ⟨stop,qn⟩|⟨go,N,hN,step⟩
 ·refine wpAny_passesOwn hp (b8 (T.done X rfl rfl rfl hc i pins s3 σ3 H3 X.xe I3 (stat fr3) st3 stop) fun r s4 ⟨hr,I4⟩=>?_)
  subst hr;exact wpAny_execs_nil ⟨σ3,H3,I4,qn⟩
 ·refine wpAny_passesOwn hp (b8 (T.item X rfl rfl rfl hc i pins s3 σ3 H3 X.xe I3 (stat fr3) st3 go) fun r s4 ⟨u,hr,h4⟩=>?_)
  subst hr;refine wpAny_passesOwn hp (b8 h4 fun _ s5 ⟨x,H5,I5,r5,y5,st5,fr5⟩=>?_)
  have I5':=I5.pinned (stat fr5) (T.obj _ _ st5);refine wpAny_passesOwn hp (b8 (hg _ s5 σ3 H5 x u _ I5' r5 (step x H5 y5)) fun _ s6 ⟨σ6,H6,I6,q6⟩=>?_)
  refine wpAny_passesOwn hp (b8 (hb _ s6 σ6 H6 _ I6 q6) fun f s7 q7=>?_)
  have again:∀{σ7:St} {H7:Hp},aR X (pins++kT fp s5.heap) σ7 H7 s7->N σ7 H7->∃m,m<n/\∃i σ' H',aR X pins σ' H' s7/\tn i s7.heap/\(∀b∈fp,H' b=none)/\W i m σ' H':=fun {σ7 H7} I7 n7=>by
   obtain ⟨m',hm,w7⟩:=hN σ7 H7 n7;refine ⟨m',hm,i+1,σ7,H7,I7.unpinned,T.keep _ _ _ st5 fun b hb o e=>(I7.pin (b,o) (EE _ (EE _ (dn hb e)))).1,fun b hb=>?_,w7⟩
   obtain ⟨o,e,d⟩:=T.obj _ _ st5 b hb;exact (I7.pin (b,o) (EE _ (EE _ (dn hb e)))).2.1
  cases f with
  |next=>obtain ⟨σ7,H7,I7,n7⟩:=q7;exact again I7 n7
  |cont=>obtain ⟨σ7,H7,I7,n7⟩:=q7;exact again I7 n7
  |brk=>obtain ⟨σ7,H7,I7,q7⟩:=q7;exact ⟨σ7,H7,I7.unpinned,q7⟩
  |ret v=>obtain ⟨x7,σ7,H7,I7,r7,q7⟩:=q7;exact ⟨x7,σ7,H7,I7.unpinned,r7,q7⟩
theorem sS {K:D9} {a:Addr} {xs:List V} {g:TG} {tb:TS} {D:Ends} {σ:St} {H:Hp} (Pv:Nat->St->Hp->Prop) (h0:Pv 0 σ H) (hl:∀i σ H,i<=xs.length->Pv i σ H->aH K H a xs)
  (hs:∀i x σ H,xs[i]?=some x->Pv i σ H->g x σ H fun σ2 H2=>tb {D with nx:=Pv (i+1),ct:=Pv (i+1),bk:=D.nx} σ2 H2) (hd:∀σ H,Pv xs.length σ H->D.nx σ H):
  ∃W:Nat->Nat->St->Hp->Prop,(∃m,W 0 m σ H)/\∀i m σ H,W i m σ H->
   ((xN K a).stop i H/\D.nx σ H)∨((xN K a).go i H/\∃N:St->Hp->Prop,(∀σ' H',N σ' H'->∃m',m'<m/\W (i+1) m' σ' H')/\∀x H',(xN K a).yld i H x H'->g x σ H' fun σ2 H2=>tb {D with nx:=N,ct:=N,bk:=D.nx} σ2 H2):=by
 refine ⟨fun i m σ H=>m=xs.length-i/\i<=xs.length/\Pv i σ H,⟨xs.length,by simp,F0 _,h0⟩,?_⟩
 rintro i m σ H ⟨rfl,hi,p⟩;have q:=hl i σ H hi p
 by_cases hlt:i<xs.length
 ·refine .inr ⟨⟨xs,xs[i],q,by simp[hlt]⟩,Pv (i+1),fun σ' H' p'=>⟨xs.length-(i+1),by omega,rfl,hlt,p'⟩,fun x H' y=>?_⟩
  obtain ⟨e,y⟩:=y;subst e;exact hs i x σ _ (y xs q) p
 ·have e:i=xs.length:=by omega
  subst e;exact .inl ⟨⟨xs,q,EB _⟩,hd σ H p⟩
theorem fM {lo:Int} {n:Nat} {g:TG} {tb:TS} {D:Ends} {σ:St} {H:Hp} (Pv:Nat->St->Hp->Prop) (h0:Pv 0 σ H)
  (hs:∀i σ H,i<n->Pv i σ H->g (.int (lo+i)) σ H fun σ2 H2=>tb {D with nx:=Pv (i+1),ct:=Pv (i+1),bk:=D.nx} σ2 H2) (hd:∀σ H,Pv n σ H->D.nx σ H):
  ∃W:Nat->Nat->St->Hp->Prop,(∃m,W 0 m σ H)/\∀i m σ H,W i m σ H->
   ((Ac lo n).stop i H/\D.nx σ H)∨((Ac lo n).go i H/\∃N:St->Hp->Prop,(∀σ' H',N σ' H'->∃m',m'<m/\W (i+1) m' σ' H')/\∀x H',(Ac lo n).yld i H x H'->g x σ H' fun σ2 H2=>tb {D with nx:=N,ct:=N,bk:=D.nx} σ2 H2):=by
 refine ⟨fun i m σ H=>m=n-i/\i<=n/\Pv i σ H,⟨n,by simp,F0 _,h0⟩,?_⟩
 rintro i m σ H ⟨rfl,hi,p⟩
 by_cases hlt:i<n
 ·refine .inr ⟨hlt,Pv (i+1),fun σ' H' p'=>⟨n-(i+1),by omega,rfl,hlt,p'⟩,fun x H' y=>?_⟩
  obtain ⟨e,y⟩:=y;subst e y;exact hs i σ _ hlt p
 ·have e:i=n:=by omega
  subst e;exact .inl ⟨EB _,hd σ H p⟩
theorem mm {c:TT} {tb:TS} {D:Ends} {σ:St} {H:Hp} (Pv:St->Hp->Prop) (μ:St->Hp->Nat) (h0:Pv σ H)
  (hs:∀σ H,Pv σ H->c σ H fun b H1=>if b=true then tb {D with nx:=fun σ' H'=>Pv σ' H'/\μ σ' H'<μ σ H,ct:=fun σ' H'=>Pv σ' H'/\μ σ' H'<μ σ H,bk:=D.nx} σ H1 else D.nx σ H1)
  (mono:∀σ H Q Q',(∀b H1,Q b H1->Q' b H1)->c σ H Q->c σ H Q'):sQ c tb D σ H:=by
 refine ⟨fun m σ H=>m=μ σ H/\Pv σ H,⟨_,rfl,h0⟩,?_⟩
 rintro m σ H ⟨rfl,p⟩;refine mono σ H _ _ (fun b H1 q=>?_) (hs σ H p)
 cases b with
 |true=>exact ⟨_,fun σ' H' ⟨p',l⟩=>⟨_,l,rfl,p'⟩,q⟩
 |false=>exact q
abbrev R2:=V->V->Hp->VK->Prop
def gb (X:Cx) (f:Value->Value->Sem Value) (r:R2):Prop:=
 ∀(pins:Im) (s:Shared) (σ:St) (H:Hp) (x y:V) (v u:Value) (Q:VK),aR X pins σ H s->RelV x v->RelV y u->r x y H Q->
  wpAny (model X.prog X.w) X.A (f v u) (EP X pins σ Q) X.xe s
def CI (X:Cx) (f:Value->Sem Value) (r:V->Hp->VK->Prop):Prop:=
 ∀(pins:Im) (s:Shared) (σ:St) (H:Hp) (x:V) (v:Value) (Q:VK),aR X pins σ H s->RelV x v->r x H Q->
  wpAny (model X.prog X.w) X.A (f v) (EP X pins σ Q) X.xe s
def dG (X:Cx) (f:Value) (r:List V->Hp->VK->Prop):Prop:=
 ∀(pins:Im) (s:Shared) (σ:St) (H:Hp) (xs:List V) (us:Ir) (Q:VK),aR X pins σ H s->a9 xs us->r xs H Q->
  wpAny (model X.prog X.w) X.A (call f us) (EP X pins σ Q) X.xe s
def xO (r:R2) (ta tb:TE):TE:=fun σ H Q=>ta σ H fun x H1=>tb σ H1 fun y H2=>r x y H2 Q
def DO (r:V->Hp->VK->Prop) (ta:TE):TE:=fun σ H Q=>ta σ H fun x H1=>r x H1 Q
def rI (C:Int->Int->Prop) (g:Int->Int->V):R2:=fun x y H Q=>∃i j,x= .int i/\y= .int j/\C i j/\Q (g i j) H
def vA (g:Int->Int->V):R2:=fun x y H Q=>∃i j,x= .int i/\y= .int j/\Q (g i j) H
def rU (g:Int->V):V->Hp->VK->Prop:=fun x H Q=>∃i,x= .int i/\Q (g i) H
section
variable {a b c:Expr} {ta tb tc:TE} {pos:Pos}
theorem xP (ha:PE X a ta) (hb:PE X b tb) {pins:Im} {s:Shared} {σ:St} {H:Hp} {R:V->V->Hp->Prop} (I:aR X pins σ H s)
  (h:ta σ H fun x H1=>tb σ H1 fun y H2=>R x y H2) {Q:Ik} {f:Value->Value->Sem Value}
  (hf:∀v u s2 x y H2,aR X pins σ H2 s2->RelV x v->RelV y u->R x y H2->wpAny (model X.prog X.w) X.A (f v u) Q X.xe s2):
  wpAny (model X.prog X.w) X.A (eval a X.env) (fun v s₁=>wpAny (model X.prog X.w) X.A (eval b X.env) (fun u s₂=>wpAny (model X.prog X.w) X.A (f v u) Q X.xe s₂) X.xe s₁) X.xe s:=by
 refine b8 (ha pins s σ H _ I h) fun v s1 ⟨x,H1,I1,r1,q1⟩=>?_
 refine b8 (hb pins s1 σ H1 _ I1 q1) fun u s2 ⟨y,H2,I2,r2,q2⟩=>?_
 exact hf v u s2 x y H2 I2 r1 r2 q2
theorem aw {op:Operator} {r:R2} (ho:gb X (binaryOp op) r) (ha:PE X a ta) (hb:PE X b tb):PE X (.BinOp a op b pos) (xO r ta tb):=by
 intro pins s σ H Q I h;exact wpAny_BinOp (xP ha hb I h fun v u s2 x y H2 I2 rx ry q=>ho pins s2 σ H2 x y v u Q I2 rx ry q)
theorem jM {op:UnaryOp} {r:V->Hp->VK->Prop} (ho:CI X (unaryOp op) r) (ha:PE X a ta):PE X (.UnaryOp op a pos) (DO r ta):=by
 intro pins s σ H Q I h;exact UnaryOp_ (b8 (ha pins s σ H _ I h) fun v s1 ⟨x,H1,I1,r1,q1⟩=>ho pins s1 σ H1 x v Q I1 r1 q1)
theorem Cf {f:Value->Value->Sem Value} {C:Int->Int->Prop} {g:Int->Int->Int}
  (rule:∀(i j:Int) (t u:Tok) (s:Shared) (Q:Ik) (E:Ik),C i j->Q (.int (g i j) s.toks) {s with toks:=s.toks+1}->wpAny (model X.prog X.w) X.A (f (.int i t) (.int j u)) Q E s):
  gb X f (rI C fun i j=> .int (g i j)):=by
 intro pins s σ H x y v u Q I rx ry h;obtain ⟨i,j,rfl,rfl,hc,q⟩:=h;obtain ⟨t,rfl⟩:=rx;obtain ⟨t',rfl⟩:=ry;exact rule i j t t' s _ _ hc ⟨.int (g i j),H,I.tok _,⟨_,rfl⟩,q⟩
theorem Au {f:Value->Value->Sem Value} {g:Int->Int->Int}
  (rule:∀(i j:Int) (t u:Tok) (s:Shared) (Q:Ik) (E:Ik),Q (.int (g i j) s.toks) {s with toks:=s.toks+1}->wpAny (model X.prog X.w) X.A (f (.int i t) (.int j u)) Q E s):
  gb X f (vA fun i j=> .int (g i j)):=by
 intro pins s σ H x y v u Q I rx ry h;obtain ⟨i,j,rfl,rfl,q⟩:=h;obtain ⟨t,rfl⟩:=rx;obtain ⟨t',rfl⟩:=ry;exact rule i j t t' s _ _ ⟨.int (g i j),H,I.tok _,⟨_,rfl⟩,q⟩
theorem vB {f:Value->Value->Sem Value} {g:Int->Int->Bool}
  (rule:∀(i j:Int) (t u:Tok) (s:Shared) (Q:Ik) (E:Ik),Q (.bool (g i j)) s->wpAny (model X.prog X.w) X.A (f (.int i t) (.int j u)) Q E s):
  gb X f (vA fun i j=> .bl (g i j)):=by
 intro pins s σ H x y v u Q I rx ry h;obtain ⟨i,j,rfl,rfl,q⟩:=h;obtain ⟨t,rfl⟩:=rx;obtain ⟨t',rfl⟩:=ry;exact rule i j t t' s _ _ ⟨.bl (g i j),H,I,rfl,q⟩
theorem bW:gb X (binaryOp .Add) (vA fun i j=> .int (i+j)):=Au fun _ _ _ _ _ _ _ q=>add_int q
theorem hV:gb X (binaryOp .Sub) (vA fun i j=> .int (i-j)):=Au fun _ _ _ _ _ _ _ q=>sub_int q
theorem aN:gb X (binaryOp .Mod) (rI (fun _ j=>j≠0) fun i j=> .int (i.fmod j)):=Cf fun _ _ _ _ _ _ _ hc q=>mod_int' hc q
theorem DP {f:Value->Sem Value} {g:Int->Int}
  (rule:∀(i:Int) (t:Tok) (s:Shared) (Q:Ik) (E:Ik),Q (.int (g i) s.toks) {s with toks:=s.toks+1}->wpAny (model X.prog X.w) X.A (f (.int i t)) Q E s):
  CI X f (rU fun i=> .int (g i)):=by
 intro pins s σ H x v Q I rx h;obtain ⟨i,rfl,q⟩:=h;obtain ⟨t,rfl⟩:=rx;exact rule i t s _ _ ⟨.int (g i),H,I.tok _,⟨_,rfl⟩,q⟩
theorem hW:CI X (unaryOp .USub) (rU fun i=> .int (-i)):=DP fun _ _ _ _ _ q=>neg_int q
end
def Av:V->V->Bool
 | .non,.non=>true| .non,.int _=>true| .int _,.non=>true| .non,.bl _=>true| .bl _,.non=>true| .non,.str _=>true| .str _,.non=>true
 | .int _,.int _=>true| .bl _,.bl _=>true| .str _,.str _=>true| .byt _,.byt _=>true
 | .int _,.str _=>true| .str _,.int _=>true| .bl _,.str _=>true| .str _,.bl _=>true
 |_,_=>false
def DQ:R2:=fun x y H Q=>Av x y=true/\Q (.bl (decide (x=y))) H
def DR:R2:=fun x y H Q=>Av x y=true/\Q (.bl (!decide (x=y))) H
theorem pV {i j:Int}:decide (V.int i=V.int j)=(i==j):=by
 rw[Bool.eq_iff_iff];simp
theorem sT {i j:Bool}:decide (V.bl i=V.bl j)=(i==j):=by
 rw[Bool.eq_iff_iff];simp
theorem pW {i j:Str}:decide (V.str i=V.str j)=(i==j):=by
 rw[Bool.eq_iff_iff];simp
theorem pY {i j:Array UInt8}:decide (V.byt i=V.byt j)=(i.toList==j.toList):=by
 rw[Bool.eq_iff_iff];cases i;cases j;simp
section
variable {a b c:Expr} {ta tb tc:TE} {pos:Pos}
theorem bD {pins:Im} {σ:St} {H:Hp} {s:Shared} {Q:VK} {k k':Bool} (I:aR X pins σ H s) (q:Q (.bl k) H) (e:k=k'):EP X pins σ Q (.bool k') s:=by
 subst e;exact ⟨.bl k,H,I,rfl,q⟩
theorem bF:gb X (compareOp .Eq) DQ:=by
 intro pins s σ H x y v u Q I rx ry h;obtain ⟨hs,q⟩:=h;cases x with
 |non=>
  cases rx;cases y with
  |non=>cases ry;exact PySem.EqNone.eq_none_none (bD I q (by simp))
  |bl j=>cases ry;exact PySem.EqNone.eq_none_bool (bD I q (by simp))
  |int j=>obtain ⟨t',rfl⟩:=ry;exact PySem.EqNone.eq_none_int (bD I q (by simp))
  |str j=>obtain ⟨t',rfl⟩:=ry;exact PySem.EqNone.eq_none_str (bD I q (by simp))
  |_=>exact absurd (show false=true from hs) EM
 |bl i=>
  cases rx;cases y with
  |non=>cases ry;exact PySem.EqNone.eq_bool_none (bD I q (by simp))
  |bl j=>cases ry;exact eq_bool (bD I q sT)
  |str j=>obtain ⟨t',rfl⟩:=ry;exact PySem.EqMixed.eq_bool_str (bD I q (by simp))
  |_=>exact absurd (show false=true from hs) EM
 |int i=>
  obtain ⟨t,rfl⟩:=rx;cases y with
  |non=>cases ry;exact PySem.EqNone.eq_int_none (bD I q (by simp))
  |int j=>obtain ⟨t',rfl⟩:=ry;exact eq_int (bD I q pV)
  |str j=>obtain ⟨t',rfl⟩:=ry;exact PySem.EqMixed.eq_int_str (bD I q (by simp))
  |_=>exact absurd (show false=true from hs) EM
 |str i=>
  obtain ⟨t,rfl⟩:=rx;cases y with
  |non=>cases ry;exact PySem.EqNone.eq_str_none (bD I q (by simp))
  |bl j=>cases ry;exact PySem.EqMixed.eq_str_bool (bD I q (by simp))
  |int j=>obtain ⟨t',rfl⟩:=ry;exact PySem.EqMixed.eq_str_int (bD I q (by simp))
  |str j=>obtain ⟨t',rfl⟩:=ry;exact eq_str (bD I q pW)
  |_=>exact absurd (show false=true from hs) EM
 |byt i=>
  obtain ⟨t,rfl⟩:=rx;cases y with
  |byt j=>obtain ⟨t',rfl⟩:=ry;exact PySem.W.eq_bytes (bD I q pY)
  |_=>exact absurd (show false=true from hs) EM
 |_=>cases y<;>exact absurd (show false=true from hs) EM
theorem dZ:gb X (compareOp .NotEq) DR:=by
 intro pins s σ H x y v u Q I rx ry h;obtain ⟨hs,q⟩:=h;cases x with
 |non=>
  cases rx;cases y with
  |non=>cases ry;exact PySem.EqNone.ne_none_none (bD I q (by simp))
  |bl j=>cases ry;exact PySem.EqNone.ne_none_bool (bD I q (by simp))
  |int j=>obtain ⟨t',rfl⟩:=ry;exact PySem.EqNone.ne_none_int (bD I q (by simp))
  |str j=>obtain ⟨t',rfl⟩:=ry;exact PySem.EqNone.ne_none_str (bD I q (by simp))
  |_=>exact absurd (show false=true from hs) EM
 |bl i=>
  cases rx;cases y with
  |non=>cases ry;exact PySem.EqNone.ne_bool_none (bD I q (by simp))
  |bl j=>cases ry;exact ne_bool (bD I q (congrArg not sT))
  |str j=>obtain ⟨t',rfl⟩:=ry;exact PySem.EqMixed.ne_bool_str (bD I q (by simp))
  |_=>exact absurd (show false=true from hs) EM
 |int i=>
  obtain ⟨t,rfl⟩:=rx;cases y with
  |non=>cases ry;exact PySem.EqNone.ne_int_none (bD I q (by simp))
  |int j=>obtain ⟨t',rfl⟩:=ry;exact ne_int (bD I q (congrArg not pV))
  |str j=>obtain ⟨t',rfl⟩:=ry;exact PySem.EqMixed.ne_int_str (bD I q (by simp))
  |_=>exact absurd (show false=true from hs) EM
 |str i=>
  obtain ⟨t,rfl⟩:=rx;cases y with
  |non=>cases ry;exact PySem.EqNone.ne_str_none (bD I q (by simp))
  |bl j=>cases ry;exact PySem.EqMixed.ne_str_bool (bD I q (by simp))
  |int j=>obtain ⟨t',rfl⟩:=ry;exact PySem.EqMixed.ne_str_int (bD I q (by simp))
  |str j=>obtain ⟨t',rfl⟩:=ry;exact ne_str (bD I q (congrArg not pW))
  |_=>exact absurd (show false=true from hs) EM
 |byt i=>
  obtain ⟨t,rfl⟩:=rx;cases y with
  |byt j=>obtain ⟨t',rfl⟩:=ry;exact PySem.W.ne_bytes (bD I q (congrArg not pY))
  |_=>exact absurd (show false=true from hs) EM
 |_=>cases y<;>exact absurd (show false=true from hs) EM
theorem iX:gb X (compareOp .Lt) (vA fun i j=> .bl (decide (i<j))):=vB fun _ _ _ _ _ _ _ q=>lt_int q
theorem Aw:gb X (compareOp .LtE) (vA fun i j=> .bl (decide (i<=j))):=vB fun _ _ _ _ _ _ _ q=>le_int q
theorem mn:gb X (compareOp .Gt) (vA fun i j=> .bl (decide (j<i))):=vB fun _ _ _ _ _ _ _ q=>gt_int q
theorem Ax:gb X (compareOp .GtE) (vA fun i j=> .bl (decide (j<=i))):=vB fun _ _ _ _ _ _ _ q=>ge_int q
theorem cN:gb X (compareOp .Is) (fun x y H Q=>y= .non/\Q (.bl (decide (x= .non))) H):=by
 intro pins s σ H x y v u Q I rx ry h;obtain ⟨rfl,q⟩:=h;cases ry;refine is_none_gen (bD I q ?_);cases x<;>first
  |(cases rx;rfl)
  |(obtain ⟨t,rfl⟩:=rx;rfl)
theorem iN:gb X (compareOp .IsNot) (fun x y H Q=>y= .non/\Q (.bl (!decide (x= .non))) H):=by
 intro pins s σ H x y v u Q I rx ry h;obtain ⟨rfl,q⟩:=h;cases ry;refine isnot_none_gen (bD I q ?_);cases x<;>first
  |(cases rx;rfl)
  |(obtain ⟨t,rfl⟩:=rx;rfl)
theorem aA (b:Expr) {op:CmpOp} (h:op≠ .In:=by decide) (h2:op≠ .NotIn:=by decide):behindInMarks op b=false:=by
 have e1:(op==CmpOp.In)=false:=by cases op<;>first|rfl|exact absurd rfl h
 have e2:(op==CmpOp.NotIn)=false:=by cases op<;>first|rfl|exact absurd rfl h2
 cases b<;>simp[behindInMarks,e1,e2]
theorem eT {op:CmpOp} {r:R2} (ho:gb X (compareOp op) r) (ha:PE X a ta) (hb:PE X b tb) (hm:behindInMarks op b=false):PE X (.Compare a [op] [b] pos) (xO r ta tb):=by
 intro pins s σ H Q I h;exact wpAny_Compare1 (xP ha hb I h fun v u s2 x y H2 I2 rx ry q=>ho pins s2 σ H2 x y v u Q I2 rx ry q) hm
def Ay (t:TE):TT:=fun σ H Q=>t σ H fun x H'=>∃k,x= .bl k/\Q k H'
theorem ar {op:CmpOp} {r:R2} (ho:gb X (compareOp op) r) (ha:PE X a ta) (hb:PE X b tb) (hm:behindInMarks op b=false):PT X (.Compare a [op] [b] pos) (Ay (xO r ta tb)):=by
 intro pins s σ H Q I h;refine wpAny_isTrue_Compare1 (b8 (ha pins s σ H _ I h) fun v s1 ⟨x,H1,I1,r1,q1⟩=>b8 (hb pins s1 σ H1 _ I1 q1) fun u s2 ⟨y,H2,I2,r2,q2⟩=>
  b8 (ho pins s2 σ H2 x y v u _ I2 r1 r2 q2) fun c s3 ⟨z,H3,I3,r3,k,e,q3⟩=>?_) hm
 subst e;cases r3;exact wpAny_truthy_bool ⟨H3,I3,q3⟩
theorem ic:(sizeLine:Nat)<2^63:=by rw[sizeLine_eq];decide
theorem aD:gb X (binaryOp .Add) (fun x y H Q=>∃i j,x= .str i/\y= .str j/\i.length+j.length<=sizeLine/\Q (.str (i++j)) H):=by
 intro pins s σ H x y v u Q I rx ry h;obtain ⟨i,j,rfl,rfl,hz,q⟩:=h;obtain ⟨t,rfl⟩:=rx;obtain ⟨t',rfl⟩:=ry;exact add_str (fun t' tk=>⟨.str (i++j),H,I.tok _,⟨_,rfl⟩,q⟩) hz
theorem vals1 {x:V} {us:Ir} (r:a9 [x] us):∃u,us= [u]/\RelV x u:=by
 cases r with
 |cons r1 r2=>cases r2;exact ⟨_,rfl,r1⟩
theorem vals2 {x y:V} {us:Ir} (r:a9 [x,y] us):∃u w',us= [u,w']/\RelV x u/\RelV y w':=by
 cases r with
 |cons r1 r2=>
  cases r2 with
  |cons r3 r4=>cases r4;exact ⟨_,_,rfl,r1,r3⟩
theorem mq:dG X (.builtin "abs") (fun xs H Q=>∃i,xs= [.int i]/\Q (.int (if i<0 then-i else i)) H):=by
 intro pins s σ H xs us Q I r h;obtain ⟨i,rfl,q⟩:=h;obtain ⟨u,rfl,t,rfl⟩:=vals1 r;exact call_abs_int fun u tk=>⟨.int (if i<0 then-i else i),H,I.tok _,⟨_,rfl⟩,q⟩
theorem bh:dG X (.type "str") (fun xs H Q=>∃i,xs= [.int i]/\i.natAbs.log2<1920/\Q (.str (toString i)) H):=by
 intro pins s σ H xs us Q I r h;obtain ⟨i,rfl,hz,q⟩:=h;obtain ⟨u,rfl,t,rfl⟩:=vals1 r;exact PySem.P.str_of_int hz ⟨.str _,H,I.tok _,⟨_,rfl⟩,q⟩
end
structure oz (h:Heap) (x dx C:Addr) (mA:Il):Prop where
 obj:h.get? x=some (FM C dx)
 ns:h.Ns1 dx mA
 ne:dx≠x
theorem rB {h:Heap} {dx:Addr} {mA:Il} (n:h.Ns1 dx mA):∃od,h.get? dx=some od/\∀name,PySem.W.lookIn name od=some (mA name):=by
 obtain ⟨o,es,ep,ho,hd,hk,_,hm⟩:=n;refine ⟨o,ho,fun name=>?_⟩
 have e:=hm name;unfold nsFind findBy at e;rw[<-Array.find?_toList] at e;unfold PySem.W.lookIn;rw[hd];dsimp only
 split
 ·rename_i y q;rw[q] at e;exact congrArg some e
 ·rename_i q;rw[q] at e;have a:es.toList.any (·.refKey)=false:=by
   rw[List.any_eq_false];intro y hy;obtain ⟨z,t,hkey⟩:=hk y (Array.mem_toList_iff.mp hy);simp[DictEntry.refKey,hkey]
  have a':¬es.toList.any (·.refKey)=true:=by rw[a];exact EM
  rw[if_neg a'];exact congrArg some e
theorem oz.look {h:Heap} {x dx C:Addr} {mA:Il} (I:oz h x dx C mA):∃od,PySem.W.InstAt h x (FM C dx) C (some od)/\∀name,PySem.W.lookIn name od=some (mA name):=
 let ⟨od,ho,hl⟩:=rB I.ns
 ⟨od,⟨I.obj,rfl,rfl,ho⟩,hl⟩
section
variable {prog:Program} {w:World} {A:Around} {E:Ik} {s:Shared} {K:D9} {x dx C f:Addr} {mA:Il} {name:Str} {v:Value}
theorem vC {expr:Bool} {Q:Ik} (X:K.In s.heap) (I:oz s.heap x dx C mA) (hg:PySem.W.plainGet K C name=true) (hh:PySem.W.hasDictIn K C=true)
  (ha:Em K (.ref C) name=some none) (hv:mA name=some v) (hv':PySem.W.handedIn v=true) (h:Q v {s with toks:=s.toks+1}):
  wpAny (model prog w) A (getAttr (.ref x) name expr) Q E s:=by
 obtain ⟨od,J,hl⟩:=I.look;exact PySem.W.get_value X J (PySem.W.plainGet_of hg).1 (PySem.W.findObj_own hh ha rfl (by rw[hl,hv])) hv' h
theorem sU {pl:Sem Bool} {Q:Value×Ir->Shared->Prop} (X:K.In s.heap) (I:oz s.heap x dx C mA) (hg:PySem.W.plainGet K C name=true)
  (hf:Em K (.ref C) name=some (some (.ref f))) (ht:PySem.W.isFn K (.ref f)=true) (hv:mA name=none) (h:Q (.ref f,[.ref x]) s):
  wpAny (model prog w) A (getMethod (.ref x) name pl) Q E s:=by
 obtain ⟨od,J,hl⟩:=I.look;exact PySem.W.method_fn X J (PySem.W.plainGet_of hg).1 (PySem.W.plainGet_of hg).2 hf (beq_iff_eq.mp ht) (by show (PySem.W.lookIn name od).map (·.isSome)=some false;rw[hl,hv];rfl) h
theorem vD {ns:Ip} {Q:Unit->Shared->Prop} (X:K.In s.heap) (I:oz s.heap x dx C mA)
  (hs:Em K (.ref C) "__setattr__" =some (some (.builtin "object.__setattr__"))) (hp:PySem.W.plainOver K C=true) (ht:PySem.W.takerIn K C name=some none) (hh:PySem.W.hasDictIn K C=true)
  (hw:PySem.Within mA ns) (hsz:ns.length<=sizeLine)
  (h:∀h',oz h' x dx C (fun y=>if y=name then some v else mA y)->Heap.SameBut dx s.heap h'->Q () {s with heap:=h',toks:=s.toks+2}):
  wpAny (model prog w) A (setAttr (.ref x) name v) Q E s:=by
 obtain ⟨od,J,hl⟩:=I.look;refine PySem.W.set_plain X J hs (PySem.W.osa_open (s:={s with toks:=s.toks+1}) (r:=none) X J hp ht fun b=>?_)
 obtain ⟨cd,hc,hd'⟩:=PySem.W.any_some hh;have hx:s.heap.get? x=some ⟨.ref C,some dx,.plain,#[]⟩:=I.obj;refine wpAny_bind (wpAny_pure (wpAny_bind (wpAny_bind (wpAny_loadPart hx (wpAny_bind (PySem.W.Looks.here (s:={s with toks:=s.toks+1}) (PySem.W.looks_clsIn X hc) ?_))))))
 rw[hd'];refine wpAny_pure (a:=some dx) (wpAny_bind (wpAny_pure (wpAny_bind ?_)));refine wpAny_nsSet1 (s:={s with toks:=s.toks+1}) I.ns fun h' hn2 hs2=>?_
 obtain ⟨oD,esD,epD,hoD,hdD,hcD⟩:=hn2.count (PySem.Within.cons name v hw);refine wpAny_bind (wpAny_lookBehind hoD (by rw[hdD];exact pastItsLine_dict (EV hcD (by rw[EQ];omega))) ?_)
 exact wpAny_pure (h _ ⟨(hs2.2 _ (Ne.symm I.ne)).trans I.obj,hn2,I.ne⟩ hs2)
theorem sV {R:Result->Shared->Prop} {vs:Ir} {kw:List (Str×Value)} (X:K.In s.heap) (hm:PySem.W.makesIn K C=true)
  (hi:Em K (.ref C) "__init__" =some (some (.ref f))) (hf:PySem.W.typeIn K (.ref f)=some (.type "function"))
  (h:codeAny (model prog w) (A.under (.builtin "type.__call__" ⟨.ref C::vs,kw⟩)) (.call (.ref f) ⟨.ref (s.heap.objs.size+1)::vs,kw⟩) (PySem.W.InitBack (s.heap.objs.size+1) R)
   {s with heap:=(s.heap.push F7).push (FM C s.heap.objs.size)}):
  codeAny (model prog w) A (.call (.ref C) ⟨vs,kw⟩) R s:=by
 obtain ⟨hh,g,d,t,os⟩:=s;exact PySem.W.make_core (PySem.W.makes_of X hm) (PySem.W.looks_findIn X hi) (fun self=>PySem.W.bind_fn X self hf) (.inl rfl) h
end
def aO (f:Str) (v:V):List (Str×V)->List (Str×V)
 | []=> [(f,v)]
 |(g,x)::r=>if g=f then (g,v)::r else (g,x)::aO f v r
theorem bC (f g:Str) (v:V):∀fs:List (Str×V),(aO f v fs).lookup g=if g=f then some v else fs.lookup g
 | []=>by
  show List.lookup g [(f,v)]=_
  by_cases h:g=f
  ·have hb:(g==f)=true:=beq_iff_eq.mpr h;simp only[List.lookup,hb,if_pos h]
  ·have hb:(g==f)=false:=beq_eq_false_iff_ne.mpr h;simp only[List.lookup,hb,if_neg h]
 |(k,x)::r=>by
  have ih:=bC f g v r;rw[show aO f v ((k,x)::r)=(if k=f then (k,v)::r else (k,x)::aO f v r) from rfl]
  by_cases hk:k=f
  ·rw[if_pos hk]
   by_cases h:g=k
   ·have hb:(g==k)=true:=beq_iff_eq.mpr h;simp only[List.lookup,hb,if_pos (h.trans hk)]
   ·have hb:(g==k)=false:=beq_eq_false_iff_ne.mpr h;simp only[List.lookup,hb,if_neg (fun e:g=f=>h (e.trans hk.symm))]
  ·rw[if_neg hk]
   by_cases h:g=k
   ·have hb:(g==k)=true:=beq_iff_eq.mpr h;simp only[List.lookup,hb,if_neg (fun e:g=f=>hk (h.symm.trans e))]
   ·have hb:(g==k)=false:=beq_eq_false_iff_ne.mpr h;simp only[List.lookup,hb];exact ih
theorem ie (f:Str) (v:V):∀fs:List (Str×V),f∈(aO f v fs).map (·.1)/\∀g,g∈fs.map (·.1)->g∈(aO f v fs).map (·.1)
 | []=>⟨by simp[aO],fun g h=>by simp at h⟩
 |(k,x)::r=>by
  obtain ⟨i1,i2⟩:=ie f v r;rw[show aO f v ((k,x)::r)=(if k=f then (k,v)::r else (k,x)::aO f v r) from rfl]
  by_cases hk:k=f
  ·rw[if_pos hk];subst hk;exact ⟨by simp,fun g h=>by simpa using h⟩
  ·rw[if_neg hk];refine ⟨?_,fun g h=>?_⟩
   ·rw[Fc];exact E6 _ i1
   ·rw[Fc] at h⊢;rcases E3.mp h with e|e
    ·exact E3.mpr (.inl e)
    ·exact E6 _ (i2 g e)
theorem aW (f:Str) (v:V):∀fs:List (Str×V),(aO f v fs).length<=fs.length+1
 | []=>by simp[aO]
 |(k,x)::r=>by
  have ih:=aW f v r;rw[show aO f v ((k,x)::r)=(if k=f then (k,v)::r else (k,x)::aO f v r) from rfl]
  by_cases hk:k=f
  ·rw[if_pos hk,EQ,EQ];omega
  ·rw[if_neg hk,EQ,EQ];omega
theorem jE.some_of {v:V} {o:Iv} (r:jE (some v) o):∃u,o=some u/\RelV v u:=by
 cases o with
 |none=>exact (show False from r).elim
 |some u=>exact ⟨u,rfl,r⟩
theorem jE.none_of {o:Iv} (r:jE none o):o=none:=by
 cases o with
 |none=>rfl
 |some u=>exact (show False from r).elim
theorem rC {v:V} {u:Value} (r:RelV v u):PySem.W.handedIn u=true:=by
 cases v with
 |non=>cases (show u=Value.none from r);rfl
 |bl b=>cases (show u=Value.bool b from r);rfl
 |int i=>obtain ⟨t,e⟩:=(show ∃t,u=Value.int i t from r);cases e;rfl
 |str x=>obtain ⟨t,e⟩:=(show ∃t,u=Value.str x t from r);cases e;rfl
 |byt b=>obtain ⟨t,e⟩:=(show ∃t,u=Value.bytes b t from r);cases e;rfl
 |flt b=>obtain ⟨t,e⟩:=(show ∃t,u=Value.float b t from r);cases e;rfl
 |ref a=>cases (show u=Value.ref a from r);rfl
 |ty n=>cases (show u=Value.type n from r);rfl
section
variable {P:Program} {w:World} {H H':Hp} {h h':Heap} {a C dx:Addr} {fs fs':List (Str×V)}
theorem iO (hok:f8 P w H h) (e:H a=some (.ins C dx fs)):∃mA,oz h a dx C mA/\(∀f,jE (fs.lookup f) (mA f))/\PySem.Within mA (fs.map (·.1))/\fs.length<=1000/\H dx=some (.own a):=by
 obtain ⟨d,z,ne,ob,mA,n,r,q⟩:=(show cx P w H h a (.ins C dx fs) from hok a _ e)
 exact ⟨mA,⟨ob,n,ne⟩,r,q,z,d⟩
end
structure iY (K:D9) (C:Addr):Prop where
 pg:PySem.W.plainGet K C Str.empty=true
 hd:PySem.W.hasDictIn K C=true
 po:PySem.W.plainOver K C=true
 sa:Em K (.ref C) "__setattr__" =some (some (.builtin "object.__setattr__"))
theorem iY.get {K:D9} {C:Addr} (c:iY K C) (f:Str):PySem.W.plainGet K C f=true:=c.pg
def aG (K:D9) (C:Addr) (f:Str):Prop:=Em K (.ref C) f=some none
theorem aG.taker {K:D9} {C:Addr} {f:Str} (n:aG K C f):PySem.W.takerIn K C f=some none:=by
 unfold PySem.W.takerIn;rw[show Em K (.ref C) f=some none from n]
 rfl
structure b7 (K:D9) (C:Addr) (m:Str) (f:Addr):Prop where
 at_:Em K (.ref C) m=some (some (.ref f))
 fn:PySem.W.isFn K (.ref f)=true
 kp:F6 K (.ref f)=true
section
variable {pins:Im} {σ:St} {H:Hp} {s:Shared} {a C dx:Addr} {fs:List (Str×V)} {f:Str} {v:V} {A:Around} {E:Ik}
theorem oA {b:Bool} {Q:Ik} (I:aR X pins σ H s) (e:H a=some (.ins C dx fs)) (c:iY X.K C) (n:aG X.K C f) (l:fs.lookup f=some v)
  (h:∀u s',aR X pins σ H s'->RelV v u->Q u s'):wpAny (model X.prog X.w) A (getAttr (.ref a) f b) Q E s:=by
 obtain ⟨mA,O,r,_,_,_⟩:=iO I.hok e;obtain ⟨u,hu,ru⟩:=jE.some_of (v:=v) (o:=mA f) (by rw[<-l];exact r f)
 exact vC I.kIn O (c.get f) c.hd n hu (rC ru) (h u _ (I.tok _) ru)
theorem iZ {m:Str} {g:Addr} {pl:Sem Bool} {Q:Value×Ir->Shared->Prop} (I:aR X pins σ H s) (e:H a=some (.ins C dx fs)) (c:iY X.K C) (k:b7 X.K C m g) (l:fs.lookup m=none)
  (h:Q (.ref g,[.ref a]) s):wpAny (model X.prog X.w) A (getMethod (.ref a) m pl) Q E s:=by
 obtain ⟨mA,O,r,_,_,_⟩:=iO I.hok e;have hn:mA m=none:=jE.none_of (by rw[<-l];exact r m)
 exact sU I.kIn O (c.get m) k.at_ k.fn hn h
theorem oB {y:V} {u:Value} {Q:Unit->Shared->Prop} (I:aR X pins σ H s) (e:H a=some (.ins C dx fs)) (c:iY X.K C) (n:aG X.K C f) (hl:fs.length<1000) (ry:RelV y u)
  (h:∀s',aR X pins σ (aS H a (.ins C dx (aO f y fs))) s'->Q () s'):wpAny (model X.prog X.w) A (setAttr (.ref a) f u) Q E s:=by
 obtain ⟨mA,O,r,wi,_,ho⟩:=iO I.hok e;have hz:(fs.map (·.1)).length<=sizeLine:=by rw[E5,sizeLine_eq];omega
 refine vD I.kIn O c.sa c.po n.taker c.hd wi hz fun h' O' sb=>h _ ?_
 have hd:∃o,h'.get? dx=some o:=let ⟨o,_,_,e',_⟩:=O'.ns;⟨o,e'⟩;refine I.write (x:=a) (e:=dx) (by rw[e];exact True.intro) (.inr ho) (fun b q hb z=>(sb.2 b hb).trans z) hd ?_
 refine ⟨by rw[az O.ne];exact ho,?_,O.ne,O'.obj,_,O'.ns,fun g=>?_,fun g hg=>?_⟩
 ·have:=aW f y fs;omega
 ·show jE ((aO f y fs).lookup g) (if g=f then some u else mA g)
  rw[bC]
  by_cases q:g=f
  ·rw[if_pos q,if_pos q];exact ry
  ·rw[if_neg q,if_neg q];exact r g
 ·by_cases q:g=f
  ·rw[q];exact (ie f y fs).1
  ·refine (ie f y fs).2 g (wi g fun z=>hg ?_)
   show (if g=f then some u else mA g)=none
   rw[if_neg q];exact z
theorem aR.made (I:aR X pins σ H s):aR X pins σ (aS (aS H s.heap.objs.size (.own (s.heap.objs.size+1))) (s.heap.objs.size+1) (.ins C s.heap.objs.size []))
  {s with heap:=(s.heap.push F7).push (FM C s.heap.objs.size)}:=by
 have e1:(s.heap.push F7).get? s.heap.objs.size=some F7:=Heap.get?_push_size s.heap rfl;have e2:((s.heap.push F7).push (FM C s.heap.objs.size)).get? (s.heap.objs.size+1)=some (FM C s.heap.objs.size):=by
  have:=Heap.get?_push_size (s.heap.push F7) (o:=FM C s.heap.objs.size) rfl
  rwa [Heap.size_push] at this
 have e3:(s.heap.push F7).Ns s.heap.objs.size (fun _=>none):=⟨F7,#[],_,e1,rfl,(fun e he=>absurd he (by simp)),fun _=>rfl⟩
 have I1:=I.laid (a:=s.heap.objs.size) (o:= .own (s.heap.objs.size+1)) (h':=s.heap.push F7) (t':=s.toks) (fun b u q=>Heap.get?_push_of_some _ q) (EB _) ⟨_,e1⟩
 refine I1.laid (a:=s.heap.objs.size+1) (o:= .ins C s.heap.objs.size []) (t':=s.toks) (fun b u q=>Heap.get?_push_of_some _ q) (Nat.le_of_eq (Heap.size_push _ _)) ?_
 have ne:s.heap.objs.size≠s.heap.objs.size+1:=EU (Nat.lt_succ_self _);refine ⟨by rw[az ne,af],F0 _,ne,e2,fun _=>none,(Heap.Ns1.of_empty e3).at fun o q=>Heap.get?_push_of_some _ q,fun _=>True.intro,fun y hy=>absurd rfl hy⟩
theorem vE {prog:Program} {w:World} {env:Env} {e:Expr} {f:Str} {pos:Pos} {s:Shared} {Q:Ik} (hb:attributeBase e f env (eval e env)=eval e env)
  (h:wpAny (model prog w) A (eval e env) (fun o s₁=>wpAny (model prog w) A (getAttr o f true) Q E s₁) E s):wpAny (model prog w) A (eval (.Attribute e f pos) env) Q E s:=
 Attribute_any_ h (by rw[arm_eval_Attribute,hb])
end
def Az (K:D9) (ta:TE) (f:Str):TE:=fun σ H Q=>ta σ H fun x H1=>∃a C dx fs v,x= .ref a/\H1 a=some (.ins C dx fs)/\iY K C/\aG K C f/\fs.lookup f=some v/\Q v H1
def CJ (K:D9) (ta tv:TE) (f:Str):TS:=fun D σ H=>tv σ H fun y H1=>ta σ H1 fun x H2=>∃a C dx fs,x= .ref a/\H2 a=some (.ins C dx fs)/\iY K C/\aG K C f/\fs.length<1000/\
 D.nx σ (aS H2 a (.ins C dx (aO f y fs)))
section
variable {o e value:Expr} {f:Str} {pos pos' tpos:Pos} {ta tv:TE}
theorem aU (he:PE X e ta) (hb:attributeBase e f X.env (eval e X.env)=eval e X.env):PE X (.Attribute e f pos) (Az X.K ta f):=by
 intro pins s σ H Q I h;refine vE hb (b8 (he pins s σ H _ I h) fun u s1 ⟨x,H1,I1,rx,a,C,dx,fs,v,ex,ea,c,n,l,q⟩=>?_)
 subst ex;obtain rfl:u=Value.ref a:=rx;exact oA I1 ea c n l fun u' s2 I2 ru=>⟨v,H1,I2,ru,q⟩
theorem dC (ha:PE X o ta) (hv:PE X value tv) (hs:swapsWith value (some (.Attribute o f pos')) pos.line X.env=pure false):PS X (.Assign [.Attribute o f pos'] value pos) (CJ X.K ta tv f):=by
 intro pins s σ H D I h;refine plainObj_wpAny_Assign_Attribute (b8 (hv pins s σ H _ I h) fun u s1 ⟨y,H1,I1,ry,q⟩=>b8 (ha pins s1 σ H1 _ I1 q) fun ov s2 ⟨x,H2,I2,rx,a,C,dx,fs,ex,ea,c,n,l,q2⟩=>?_) hs
 subst ex;obtain rfl:ov=Value.ref a:=rx;exact oB I2 ea c n l ry fun s3 I3=>⟨σ,_,I3,q2⟩
end
section
variable {pins:Im} {σ:St} {H:Hp} {s:Shared} {A:Around} {E:Ik} {Q:Ik} {c:Value} {b:Bool}
inductive gu (K:D9) (H:Hp):V->Value->Prop where
 |non:gu K H .non (.type "NoneType")
 |bl (x:Bool):gu K H (.bl x) (.type "bool")
 |int (i:Int):gu K H (.int i) (.type "int")
 |str (x:Str):gu K H (.str x) (.type "str")
 |flt (x:UInt64):gu K H (.flt x) (.type "float")
 |lst {a:Addr} {xs:List V} (e:H a=some (.lst xs)):gu K H (.ref a) (.type "list")
 |frz {a:Addr} {o:Obj} {xs:List V} (e:H a=some (.frz o (.lst xs))):gu K H (.ref a) (.type "list")
 |tup {a:Addr} {xs:List V} (e:H a=some (.tup xs)):gu K H (.ref a) (.type "tuple")
 |dK {a:Addr} {kvs:List (Key×V)} (e:H a=some (.dK kvs)):gu K H (.ref a) (.type "dict")
 |dT {a:Addr} {kvs:List (List Key×V)} (e:H a=some (.dT kvs)):gu K H (.ref a) (.type "dict")
 |ins {a C dx:Addr} {fs:List (Str×V)} (e:H a=some (.ins C dx fs)) (cl:iY K C) (ha:Em K (.ref C) "__class__" =some (some (.builtin "object.__class__")))
   (hn:PySem.W.specialIn K (.builtin "object.__class__") "__get__" =some (some (.builtin "getset_descriptor.__get__"))) (htk:PySem.W.takesIn K (.builtin "object.__class__")=some true)
   (hm:PySem.W.mroIn K C (.type "object")=some true):gu K H (.ref a) (.ref C)
theorem jN {x:V} {u t:Value} (I:aR X pins σ H s) (rx:RelV x u) (ty:gu X.K H x t) (e:EJ X.K t c=some b) (h:∀tk,Q (.bool b) {s with toks:=tk}):
  wpAny (model X.prog X.w) A (call (.builtin "isinstance") [u,c]) Q E s:=by
 cases ty with
 |non=>cases (show u=Value.none from rx);exact Ex PySem.W.kitx_none I.kIn True.intro e (fun z=>nomatch z) h
 |bl y=>cases (show u=Value.bool y from rx);exact Ex PySem.W.kitx_bool I.kIn True.intro e (fun z=>nomatch z) h
 |int i=>obtain ⟨t,q⟩:=(show ∃t,u=Value.int i t from rx);cases q;exact Ex PySem.W.kitx_int I.kIn True.intro e (fun z=>nomatch z) h
 |str y=>obtain ⟨t,q⟩:=(show ∃t,u=Value.str y t from rx);cases q;exact Ex PySem.W.kitx_str I.kIn True.intro e (fun z=>nomatch z) h
 |flt y=>obtain ⟨t,q⟩:=(show ∃t,u=Value.float y t from rx);cases q;exact Ex PySem.W.kitx_float I.kIn True.intro e (fun z=>nomatch z) h
 | @lst a xs ea=>
  cases (show u=Value.ref a from rx)
  obtain ⟨_,_,n,_,h1⟩:=(show cx X.prog X.w H s.heap a (.lst xs) from I.hok a _ ea)
  exact Ex PySem.W.kitx_list I.kIn ⟨_,h1,rfl⟩ e (fun z=>nomatch z) h
 | @frz a ob xs ea=>
  cases (show u=Value.ref a from rx)
  obtain ⟨_,_,_,n,_,h1⟩:=(show cx X.prog X.w H s.heap a (.frz ob (.lst xs)) from I.hok a _ ea)
  exact Ex PySem.W.kitx_list I.kIn ⟨_,h1,rfl⟩ e (fun z=>nomatch z) h
 | @tup a xs ea=>
  cases (show u=Value.ref a from rx)
  obtain ⟨_,_,_,p⟩:=(show cx X.prog X.w H s.heap a (.tup xs) from I.hok a _ ea)
  obtain ⟨o,h1,h2,_⟩:=p;exact Ex PySem.W.kitx_tuple I.kIn ⟨o,h1,h2⟩ e (fun z=>nomatch z) h
 | @dK a kvs ea=>
  cases (show u=Value.ref a from rx)
  obtain ⟨_,_,vs,_,p⟩:=(show cx X.prog X.w H s.heap a (.dK kvs) from I.hok a _ ea)
  obtain ⟨o,es,ep,h1,h2,_⟩:=p;exact Ex PySem.W.kitx_dict I.kIn ⟨o,h1,h2.1⟩ e (fun z=>nomatch z) h
 | @dT a kvs ea=>
  cases (show u=Value.ref a from rx)
  obtain ⟨_,_,xs,_,o,es,ep,h1,h2,_⟩:=(show cx X.prog X.w H s.heap a (.dT kvs) from I.hok a _ ea)
  exact Ex PySem.W.kitx_dict I.kIn ⟨o,h1,h2.1⟩ e (fun z=>nomatch z) h
 | @ins a C dx fs ea cl ha hn htk hm=>
  cases (show u=Value.ref a from rx)
  obtain ⟨mA,O,_⟩:=iO I.hok ea;obtain ⟨od,J,_⟩:=O.look;exact Ex (PySem.W.kitx_own (cl.get _) cl.hd ha hn htk hm) I.kIn J e (fun z=>nomatch z) h
end
structure cn (k:Nat) (A:Around):Prop where
 hd:A.handled=none
 dp:A.depth+3*k+5<recursionLimit
 un:A.units+16*k+200<cLine
theorem cn.mono {j k:Nat} {A:Around} (r:cn k A) (h:j<=k):cn j A:=⟨r.hd,by have:=r.dp;omega,by have:=r.un;omega⟩
theorem cn.deeper {k:Nat} {A:Around} (r:cn (k+1) A) (env:Env):cn k (A.deeper env):=
 ⟨r.hd,by have:=r.dp;show A.depth+1+3*k+5<_;omega,by have:=r.un;show A.units+3+16*k+200<_;omega⟩
theorem oC {A:Around} {C:Addr} {us:Ir} {kw:List (Str×Value)}:(A.under (.builtin "type.__call__" ⟨.ref C::us,kw⟩)).depth=A.depth+1:=by
 first|rfl|simp[Around.under,Code.weight,Code.isCreation,Code.isGuard,Code.isCaller,Code.frames,Code.isFrame,guardIds]
theorem oE {A:Around} {C:Addr} {us:Ir} {kw:List (Str×Value)}:(A.under (.builtin "type.__call__" ⟨.ref C::us,kw⟩)).units=A.units+1:=by
 first|rfl|simp[Around.under,Code.cUnits,Code.frames,Code.isFrame]
theorem cn.make {k:Nat} {A:Around} (r:cn (k+1) A) (C:Addr) (us:Ir) (kw:List (Str×Value)):cn k (A.under (.builtin "type.__call__" ⟨.ref C::us,kw⟩)):=
 ⟨r.hd,by have:=r.dp;rw[oC];omega,by have:=r.un;rw[oE];omega⟩
theorem cn.depth {k:Nat} {A:Around} (r:cn k A):A.depth<recursionLimit:=by have:=r.dp;omega
theorem cn.units {k:Nat} {A:Around} (r:cn k A):A.units+64<cLine:=by have:=r.un;omega
theorem cn.units0 {k:Nat} {A:Around} (r:cn k A):A.units<cLine:=by have:=r.un;omega
def vF:TA:=fun _ H Q=>Q [] H
def jO (ta:TE) (tr:TA):TA:=fun σ H Q=>ta σ H fun x H1=>tr σ H1 fun xs H2=>Q (x::xs) H2
section
variable {e:Expr} {es:List Expr} {te:TE} {t:TA} {pos:Pos}
theorem ae:PA X [] vF:=fun _ _ _ _ H Q I h=>Calls.spliced_nil ⟨[],H,I,.nil,h⟩
theorem aa (ha:PE X e te) (hr:PA X es t) (hs:starEach (e::es) X.env=(false,eval e X.env)::starEach es X.env:=by rfl):PA X (e::es) (jO te t):=by
 intro pos pins s σ H Q I h;rw[hs];show wpAny _ _ (spliced ((false,eval e X.env)::backTo pos (starEach es X.env))) _ _ s;refine Calls.spliced_cons (b8 (ha pins s σ H _ I h) fun u s1 ⟨x,H1,I1,r1,q1⟩=>?_)
 exact b8 (hr pos pins s1 σ H1 _ I1 q1) fun us s2 ⟨xs,H2,I2,r2,q2⟩=>⟨x::xs,H2,I2,.cons r1 r2,q2⟩
def CK (t:TA):TE:=fun σ H Q=>t σ H fun xs H1=>xs.length<=sizeLine/\∀p,H1 p=none->Q (.ref p) (aS H1 p (.tup xs))
def AA (t:TA):TE:=fun σ H Q=>t σ H fun xs H1=>xs.length<=sizeLine/\∀p,H1 p=none->Q (.ref p) (aS H1 p (.lst xs))
theorem bI {x1} (h:PA X es t):PE X (.Tuple es x1 pos) (CK t):=by
 intro pins s σ H Q I hq;refine wpAny_Tuple_spliced (b8 (h pos pins s σ H _ I hq) fun us s1 ⟨xs,H1,I1,r,z,q⟩=>⟨by rw[<-r.length];exact z,?_⟩)
 have hf:H1 s1.heap.objs.size=none:=I1.hok.fresh (EB _);refine ⟨.ref s1.heap.objs.size,aS H1 s1.heap.objs.size (.tup xs),I1.laid (t':=s1.toks) (fun b u e=>Heap.get?_push_of_some _ e) (EB _) ?_,rfl,q _ hf⟩
 exact ⟨z,us,r,⟨_,Heap.get?_push_size _ rfl,rfl,_,rfl⟩⟩
theorem bi (h:PA X es t):PE X (.List es pos) (AA t):=by
 intro pins s σ H Q I hq;refine wpAny_List_spliced (b8 (h pos pins s σ H _ I hq) fun us s1 ⟨xs,H1,I1,r,z,q⟩=>⟨by rw[<-r.length];exact z,?_⟩)
 have hf:H1 s1.heap.objs.size=none:=I1.hok.fresh (EB _);refine ⟨.ref s1.heap.objs.size,aS H1 s1.heap.objs.size (.lst xs),I1.laid (t':=s1.toks) (fun b u e=>Heap.get?_push_of_some _ e) (EB _) ?_,rfl,q _ hf⟩
 exact ⟨z,us,0,r,Heap.get?_push_size _ rfl⟩
end
abbrev Sp:=List V->Hp->VK->XK->Prop
abbrev oF:=List Env->Hp->Shared->XK->Value->Shared->Prop
structure oG (P:Program) (w:World) (K:D9) (mg:Il) (base:Heap) (A:Around) (outer:List Env) (s:Shared) (H:Hp):Prop where
 frames:A.frames=some outer
 mod:Mod K mg base
 bs:∀b o,base.get? b=some o->s.heap.get? b=some o/\H b=none
 bsz:base.objs.size<=s.heap.objs.size
 funs:s.heap.FunFrames base outer
 frf:∀b∈iU outer,H b=none
 hok:f8 P w H s.heap
 bare:AllBare s.gens
def CE (outer:List Env) (P:Program) (w:World) (H:Hp) (s:Shared) (Q:VK) (u:Value) (s':Shared):Prop:=
 ∃v H',s'.os=s.os/\AllBare s'.gens/\Un (iU outer) [] H H' s.heap s'.heap/\f8 P w H' s'.heap/\RelV v u/\Q v H'
def CR (CX:oF) (outer:List Env) (P:Program) (w:World) (H:Hp) (s:Shared) (Q:VK) (E:XK) (r:Result) (s':Shared):Prop:=
 match r with
 | .ok (.ret u)=>CE outer P w H s Q u s'
 | .ok _=>False
 | .error e=>CX outer H s E e s'
structure aY (P:Program) (w:World) (K:D9) (mg:Il) (base:Heap) (CX:oF) (k:Nat) (f:Addr) (fd:FuncData) (ps:Ip) (sp:Sp):Prop where
 len:∀vs H Q E,sp vs H Q E->vs.length=ps.length
 run:∀(A:Around) (outer:List Env) (s:Shared) (H:Hp) (args:Args) (us:Ir) (vs:List V) (Q:VK) (E:XK),cn k A->oG P w K mg base A outer s H->BindsTo s fd args (ps.zip us)->a9 vs us->sp vs H Q E->
  codeAny (model P w) A (.call (.ref f) args) (CR CX outer P w H s Q E) s
theorem oG.make {P:Program} {w:World} {K:D9} {mg:Il} {base:Heap} {A:Around} {outer:List Env} {s:Shared} {H:Hp} (e:oG P w K mg base A outer s H) (C:Addr) (us:Ir) (kw:List (Str×Value)):
  oG P w K mg base (A.under (.builtin "type.__call__" ⟨.ref C::us,kw⟩)) outer s H:=⟨by first|exact e.frames|(simpa [Around.under,Code.envs,Code.isFrame,pushEnvs] using e.frames),e.mod,e.bs,e.bsz,e.funs,e.frf,e.hok,e.bare⟩
section
variable {pins:Im} {σ:St} {H:Hp} {s s':Shared}
theorem aR.env0 (I:aR X pins σ H s):oG X.prog X.w X.K X.mg X.base X.A X.stack s H:=
 ⟨I.ok.frames,I.ok.mod,I.bs,EV I.ok.bsz I.sz,I.stack,I.stkFree,I.hok,I.bare⟩
theorem aR.after {Q:VK} {u:Value} (I:aR X pins σ H s) (h:CE X.stack X.prog X.w H s Q u s'):EP X pins σ Q u s':=by
 obtain ⟨v,H',os,bare,un,hok,r,q⟩:=h;obtain ⟨hh,g,d,t,os'⟩:=s';obtain rfl:os'=s.os:=os;exact ⟨v,H',I.call (h':=hh) (g':=g) (d':=d) (t':=t) (ch:= []) un hok bare (fun b z=>absurd z (by simp)),r,q⟩
end
def jP (sp:Sp) (dvs:List V) (E:XK) (t:TA):TE:=fun σ H Q=>t σ H fun vs H1=>sp (vs++dvs) H1 Q E
def sW (C:Addr) (sp:Sp) (dvs:List V) (E:XK) (t:TA):TE:=fun σ H Q=>t σ H fun vs H1=>∀x dx,H1 x=none->H1 dx=none->dx≠x->
 sp (.ref x::(vs++dvs)) (aS (aS H1 dx (.own x)) x (.ins C dx [])) (fun v H2=>v= .non/\Q (.ref x) H2) E
def Binds (K:D9) (fd:FuncData) (ps:Ip) (ds:Ir):Prop:=
 ∀(s:Shared) (us:Ir),K.In s.heap->(us++ds).length=ps.length->BindsTo s fd ⟨us,[]⟩ (ps.zip (us++ds))
theorem Binds.all {K:D9} {fd:FuncData} {ps:Ip} (h:∀us:Ir,us.length=ps.length->bindArgs fd ⟨us,[]⟩=pure (ps.zip us)):Binds K fd ps []:=fun s us _ hl=>by
 rw[List.append_nil] at hl⊢;exact .of_eq (h us hl)
def i3 (CX:oF) (X:Cx) (E:XK):Prop:=∀(pins:Im) (σ:St) (H:Hp) (s:Shared) (e:Value) (s':Shared),aR X pins σ H s->CX X.stack H s E e s'->X.xe e s'
section
variable {CX:oF} {k:Nat} {f C:Addr} {fd:FuncData} {ps:Ip} {sp:Sp} {dvs:List V} {ds:Ir} {E:XK} {x m:Str} {p pos apos:Pos} {e o:Expr} {es:List Expr} {ta:TE} {t:TA}
theorem kU {pins:Im} {σ:St} {H:Hp} {s:Shared} {Q:VK} {us:Ir} {vs:List V} (F:aY X.prog X.w X.K X.mg X.base CX k f fd ps sp) (hr:cn k X.A) (hb:Binds X.K fd ps ds) (hd:a9 dvs ds) (hx:i3 CX X E)
  (I:aR X pins σ H s) (r:a9 vs us) (h:sp (vs++dvs) H Q E):wpAny (model X.prog X.w) X.A (call (.ref f) us) (EP X pins σ Q) X.xe s:=by
 have r2:a9 (vs++dvs) (us++ds):=r.append hd;have hl:(us++ds).length=ps.length:=by rw[<-r2.length];exact F.len _ _ _ _ h
 refine wpAny_call (codeAny_mono (F.run X.A X.stack s H ⟨us,[]⟩ (us++ds) (vs++dvs) Q E hr I.env0 (hb s us I.kIn hl) r2 h) fun r s' hq=>?_)
 cases r with
 |error e=>exact hx pins σ H s e s' I hq
 |ok fl=>
  cases fl with
  |ret u=>exact I.after hq
  |next=>exact False.elim hq
  |brk=>exact False.elim hq
  |cont=>exact False.elim hq
theorem pZ (F:aY X.prog X.w X.K X.mg X.base CX k f fd ps sp) (hr:cn k X.A) (hg:Gl X x) (hm:X.mg x=some (.ref f)) (hk:F6 X.K (.ref f)=true) (hb:Binds X.K fd ps ds) (hd:a9 dvs ds) (hx:i3 CX X E)
  (ha:PA X (e::es) t) (hdb:(x==("__debug__" :Str))=false:=by decide) (he:starEach (e::es) X.env=(false,eval e X.env)::starEach es X.env:=by rfl) (hpl:(backTo pos (starEach es X.env)).any (·.1)=false:=by rfl):
  PE X (.Call (.Name x p) (e::es) [] pos) (jP sp dvs E t):=by
 intro pins s σ H Q I h;refine wpAny_Call_Name_kw (eS I hg hm ?_ hdb);refine Fb (h₀:=X.base) I.ok.mod.kin hk (b8 (ha pos pins s σ H _ I h) fun us s1 ⟨vs,H1,I1,r,q⟩=>⟨I1.kIn,?_⟩) he hpl
 exact kU F hr hb hd hx I1 r q
structure Mk (K:D9) (C f:Addr):Prop where
 makes:PySem.W.makesIn K C=true
 init:Em K (.ref C) "__init__" =some (some (.ref f))
 fn:PySem.W.isFn K (.ref f)=true
 kp:F6 K (.ref C)=true
theorem sY {pins:Im} {σ:St} {H:Hp} {s:Shared} {Q:VK} {us:Ir} {vs:List V} (M:Mk X.K C f) (F:aY X.prog X.w X.K X.mg X.base CX k f fd ps sp) (hr:cn (k+1) X.A) (hb:Binds X.K fd ps ds) (hd:a9 dvs ds)
  (hx:i3 CX X E) (I:aR X pins σ H s) (r:a9 vs us)
  (h:∀x dx,H x=none->H dx=none->dx≠x->sp (.ref x::(vs++dvs)) (aS (aS H dx (.own x)) x (.ins C dx [])) (fun v H2=>v= .non/\Q (.ref x) H2) E):
  wpAny (model X.prog X.w) X.A (call (.ref C) us) (EP X pins σ Q) X.xe s:=by
 have hq:=h (s.heap.objs.size+1) s.heap.objs.size (I.hok.fresh (Nat.le_succ _)) (I.hok.fresh (EB _)) (EU (Nat.lt_succ_self _));have I2:=aR.made (C:=C) I;have r2:a9 (V.ref (s.heap.objs.size+1)::(vs++dvs)) (Value.ref (s.heap.objs.size+1)::(us++ds)):= .cons rfl (r.append hd);have hl:(Value.ref (s.heap.objs.size+1)::us++ds).length=ps.length:=by
  have e:=r2.length;rw[F.len _ _ _ _ hq] at e;exact e.symm
 refine wpAny_call (sV (f:=f) I.kIn M.makes M.init (beq_iff_eq.mp M.fn) (codeAny_mono (F.run _ X.stack _ _ ⟨Value.ref (s.heap.objs.size+1)::us,[]⟩ (Value.ref (s.heap.objs.size+1)::(us++ds)) _ _ E (hr.make C us [])
  (I2.env0.make C us []) (hb _ (Value.ref (s.heap.objs.size+1)::us) I2.kIn hl) r2 hq) fun r s' hq'=>?_))
 cases r with
 |error e=>exact hx pins σ _ _ e s' I2 hq'
 |ok fl=>
  cases fl with
  |ret u=>
   obtain ⟨v,H',I3,rv,ev,q3⟩:=I2.after hq';subst ev;exact ⟨rv,⟨V.ref (s.heap.objs.size+1),H',I3,rfl,q3⟩⟩
  |next=>exact False.elim hq'
  |brk=>exact False.elim hq'
  |cont=>exact False.elim hq'
theorem p9 (M:Mk X.K C f) (F:aY X.prog X.w X.K X.mg X.base CX k f fd ps sp) (hr:cn (k+1) X.A) (hg:Gl X x) (hm:X.mg x=some (.ref C)) (hb:Binds X.K fd ps ds) (hd:a9 dvs ds) (hx:i3 CX X E)
  (ha:PA X (e::es) t) (hdb:(x==("__debug__" :Str))=false:=by decide) (he:starEach (e::es) X.env=(false,eval e X.env)::starEach es X.env:=by rfl) (hpl:(backTo pos (starEach es X.env)).any (·.1)=false:=by rfl):
  PE X (.Call (.Name x p) (e::es) [] pos) (sW C sp dvs E t):=by
 intro pins s σ H Q I h;refine wpAny_Call_Name_kw (eS I hg hm ?_ hdb);refine Fb (h₀:=X.base) I.ok.mod.kin M.kp (b8 (ha pos pins s σ H _ I h) fun us s1 ⟨vs,H1,I1,r,q⟩=>⟨I1.kIn,?_⟩) he hpl
 exact sY M F hr hb hd hx I1 r q
end
structure aB (N P:Ip) (sc:Scope):Prop where
 kind:sc.kind= .function
 co:sc.isCoroutine=false
 gen:sc.isGenerator=false
 nd:N.Nodup
 pre:N.take P.length=P
 par:∀x∈P,sc.names.lookup x=some .local∨sc.names.lookup x=some .cell
 nofree:∀y∈sc.names,y.2≠ .free
theorem jQ {kindOf:Str->Option NameKind} {x:Str}:∀{binds:List (Str×Value)} {m:Il},(∀v,(x,v)∉binds)->bindL kindOf binds m x=m x
 | [],_,_=>rfl
 |(n,v)::r,m,h=>by
  unfold bindL;rw[jQ fun w hw=>h w (E6 _ hw)]
  split
  ·have:x≠n:=by rintro rfl;exact h v Er
   simp[this]
  ·rfl
theorem jR {kindOf:Str->Option NameKind} {x:Str}:∀{binds:List (Str×Value)} {m:Il},(∀v,(x,v)∉binds)->bindC kindOf binds m x=m x
 | [],_,_=>rfl
 |(n,v)::r,m,h=>by
  unfold bindC;rw[jR fun w hw=>h w (E6 _ hw)]
  split
  ·rfl
  ·have:x≠n:=by rintro rfl;exact h v Er
   simp[this]
theorem jS {kindOf:Str->Option NameKind} {x:Str} {v:Value}:∀{P:Ip} {vs:Ir} {i:Nat} {m:Il},P.Nodup->P[i]?=some x->vs[i]?=some v->kindOf x=some .local->
  bindL kindOf (P.zip vs) m x=some v
 | [],_,_,_,_,h,_,_=>by simp at h
 |_::_,[],_,_,_,_,h,_=>by simp at h
 |p::P,w::vs,0,m,nd,h1,h2,hk=>by
  simp at h1 h2;subst h1;subst h2;show bindL kindOf ((p,w)::P.zip vs) m p=_;unfold bindL;rw[jQ fun v hv=>(Ee.mp nd).1 (List.of_mem_zip hv).1,if_pos hk]
  simp
 |p::P,w::vs,i+1,m,nd,h1,h2,hk=>by
  show bindL kindOf ((p,w)::P.zip vs) m x=_;unfold bindL;exact jS (i:=i) (Ee.mp nd).2 (by simpa using h1) (by simpa using h2) hk
theorem jT {kindOf:Str->Option NameKind} {x:Str} {v:Value}:∀{P:Ip} {vs:Ir} {i:Nat} {m:Il},P.Nodup->P[i]?=some x->vs[i]?=some v->kindOf x≠some .local->
  bindC kindOf (P.zip vs) m x=some v
 | [],_,_,_,_,h,_,_=>by simp at h
 |_::_,[],_,_,_,_,h,_=>by simp at h
 |p::P,w::vs,0,m,nd,h1,h2,hk=>by
  simp at h1 h2;subst h1;subst h2;show bindC kindOf ((p,w)::P.zip vs) m p=_;unfold bindC;rw[jR fun v hv=>(Ee.mp nd).1 (List.of_mem_zip hv).1,if_neg hk]
  simp
 |p::P,w::vs,i+1,m,nd,h1,h2,hk=>by
  show bindC kindOf ((p,w)::P.zip vs) m x=_;unfold bindC;exact jT (i:=i) (Ee.mp nd).2 (by simpa using h1) (by simpa using h2) hk
def start (N:Ip) (vs:List V):St:=vs.map some++List.replicate (N.length-vs.length) none
def iI (CX:oF) (P:Program) (w:World) (K:D9) (mg:Il) (base:Heap) (N:Ip) (qual:Str) (scope:Scope) (f:Addr) (cd:Value) (A:Around) (outer:List Env) (s:Shared) (H:Hp) (E:XK):Cx where
 prog:=P
 w:=w
 K:=K
 mg:=mg
 base:=base
 A:=A.deeper (envOfC qual scope s.heap.objs.size f cd)
 N:=N
 s₀:=s
 H₀:=H
 env:=envOfC qual scope s.heap.objs.size f cd
 outer:=outer
 stack:=envOfC qual scope s.heap.objs.size f cd::outer
 ex:= []
 calm:=true
 fn:=fun _=>true
 pn:= []
 xe:=fun e s'=>wpAny (model P w) (A.deeper (envOfC qual scope s.heap.objs.size f cd)) (leaving (envOfC qual scope s.heap.objs.size f cd) e) (fun _ s''=>CX outer H s E e s'') (fun e' s''=>CX outer H s E e' s'') s'
theorem mw {sc:Scope} {n:Nat} {x:Str} (h:sc.names.lookup x=some .cell):∃c,(cellsFrom n sc.names []).lookup x=some c:=by
 have q:=PySem.W.cellsFrom_some sc.names n [] (.inl h);exact FB.mp q
theorem rD {CX:oF} {P:Program} {w:World} {K:D9} {mg:Il} {base:Heap} {N ps:Ip} {qual:Str} {scope:Scope} {f:Addr} {cd:Value} {A:Around} {outer:List Env} {s s1:Shared} {H:Hp} {E:XK} {us:Ir} {vs:List V}
  (S:aB N ps scope) (hd:A.handled=none) (e0:oG P w K mg base A outer s H) (hl:vs.length=ps.length) (r:a9 vs us)
  (x:InCallC s s.heap.objs.size (bindL (envOfC qual scope s.heap.objs.size f cd).kindOf (ps.zip us) fun _=>none) (cellsFrom (s.heap.objs.size+1) scope.names []) (bindC (envOfC qual scope s.heap.objs.size f cd).kindOf (ps.zip us) fun _=>none) s1):
  aR (iI CX P w K mg base N qual scope f cd A outer s H E) [] (start N vs) H s1:=by
 have hpl:ps.length<=N.length:=by have:=congrArg List.length S.pre;rw[EK] at this;omega
 obtain ⟨h1,tk,rfl,hk⟩:=x.done;have noA:∀b:Addr,b∉(iI CX P w K mg base N qual scope f cd A outer s H E).ex:=fun b z=>absurd (show b∈([]:Iq) from z) (by simp)
 refine ⟨⟨e0.mod,S.kind,rfl,rfl,EB _,fun y z c h1 h2=>?_,fun y hy=>?_,fun y c _ h=>?_,fun _=>hd,Around.frames_deeper e0.frames,.inr ⟨rfl,rfl⟩,fun b z=>absurd z (noA b),e0.bs,e0.bsz,fun b _ _=>noA b,fun b z=>absurd z (noA b),e0.funs,e0.frf⟩,
  rfl,e0.bare,Un.kept hk,⟨_,x.toInCall.ns,fun i y v h1 h2 h3=>?_⟩,fun y c h=>⟨_,x.cell y c h⟩,e0.hok.fresh (EB _),fun y c h=>?_,fun p hp=>absurd (show p∈([]:Im) from hp) (by simp),e0.hok.kept hk,?_⟩
 ·exact name_of_addr x.apart (Eu h1) (Eu h2)
 ·have hy:scope.names.lookup y=some .cell∨scope.names.lookup y=some .free:=hy;rcases hy with hy|hy
  ·exact mw hy
  ·exact absurd rfl (S.nofree _ (Eu hy))
 ·exact Nat.le_of_lt (x.above y c (Eu h))
 ·have hi:i<vs.length:=by
   unfold start at h2
   by_cases hi:i<vs.length
   ·exact hi
   ·rw[EA (by simpa using hi)] at h2
    rw[List.getElem?_replicate] at h2
    split at h2<;>cases h2
  have ha:vs[i]?=some v:=by
   unfold start at h2;rw[EF (by simpa using hi),E7] at h2
   cases e:vs[i]? with
   |none=>rw[e] at h2;cases h2
   |some a=>rw[e] at h2;cases h2;rfl
  obtain ⟨u,hu,rv⟩:=r.get ha;have hp:ps[i]?=some y:=by
   rw[<-S.pre,FP (by omega)];exact h1
  have ndP:ps.Nodup:=by rw[<-S.pre];exact S.nd.sublist (List.take_sublist _ _)
  refine ⟨u,rv,?_⟩;rcases S.par y (E4 hp) with k|k
  ·exact .inl ⟨k,jS ndP hp hu k⟩
  ·obtain ⟨c,e⟩:=mw (n:=s.heap.objs.size+1) k;refine .inr ⟨.inl k,c,e,?_⟩;have q:=x.cell y c e;rw[jT ndP hp hu (by show scope.names.lookup y≠_;rw[k];decide)] at q
   exact q
 ·exact e0.hok.fresh (Nat.le_of_lt (x.above y c (Eu h)))
 ·unfold start;show _=N.length;rw[EG,E5,List.length_replicate];omega
theorem wZ {CX:oF} {P:Program} {w:World} {K:D9} {mg:Il} {base:Heap} {k:Nat} {f:Addr} {name qual:Str} {params:Arguments} {body:List Stmt} {scope:Scope} {dV kV doc pm cdv ct oc:Value} {an od:Iu}
  {osl:Io} {N ps:Ip} {sp:Sp} (lk:K.lookup f=some ⟨oc,od,.func (F5 name qual params body scope dV kV doc pm an cdv ct),osl⟩) (hcd:PySem.W.codeIn K cdv qual=true) (S:aB N ps scope)
  (len:∀vs H Q E,sp vs H Q E->vs.length=ps.length)
  (hbody:∀(A:Around) (outer:List Env) (s:Shared) (H:Hp) (vs:List V) (Q:VK) (E:XK),cn k (A.deeper (envOfC qual scope s.heap.objs.size f cdv))->sp vs H Q E->
   ∃t,iV (iI CX P w K mg base N qual scope f cdv A outer s H E) body t/\t {nx:=fun _ H'=>Q .non H',rt:=Q} (start N vs) H):
  aY P w K mg base CX (k+1) f (F5 name qual params body scope dV kV doc pm an cdv ct) ps sp:=by
 refine ⟨len,fun A outer s H args us vs Q E hr e0 hb r hsp=>?_⟩
 have hl:=len _ _ _ _ hsp;have KX:K.In s.heap:=e0.mod.kin.keeps fun b o e=>(e0.bs b o e).1
 have lim:s.heap.NoLimit:=e0.mod.nolimit.keeps fun b o e=>(e0.bs b o e).1
 have hkind:∀y∈ps.zip us,scope.names.lookup y.1=some .local∨(scope.names.lookup y.1=some .cell/\((cellsFrom (s.heap.objs.size+1) scope.names []).lookup y.1).isSome=true):=fun ⟨n,v⟩ hy=>by
  rcases S.par n (List.of_mem_zip hy).1 with q|q
  ·exact .inl q
  ·exact .inr ⟨q,PySem.W.cellsFrom_some _ _ _ (.inl q)⟩
 refine codeAny_call_function hr.depth (KX _ _ lk) rfl S.co S.gen rfl (PySem.W.codeRec_of KX hcd) (hb _ _ _ _ ?_);refine wpAny_newFunctionEnv_cells S.kind hkind fun env he s1 x=>?_
 subst he;refine ⟨lim.keeps x.toInCall.keep,codeAny_func ?_⟩;obtain ⟨t,ht,hq⟩:=hbody A outer s H vs Q E (hr.deeper _) hsp;have I:aR (iI CX P w K mg base N qual scope f cdv A outer s H E) [] (start N vs) H s1:=rD S hr.hd e0 hl r x;refine wpAny_mono (ht [] s1 (start N vs) H _ I hq) (fun fl s' hs=>?_) fun e s' hs=>hs
 have fin:∀{σ':St} {H':Hp} {v:V} {u:Value},aR (iI CX P w K mg base N qual scope f cdv A outer s H E) [] σ' H' s'->RelV v u->Q v H'->CE outer P w H s Q u s':=
  fun {σ' H' v u} J rv q=>⟨v,H',J.os,J.bare,J.base,J.hok,rv,q⟩
 cases fl with
 |ret u=>
  obtain ⟨v,σ',H',J,rv,q⟩:=hs;exact fin J rv q
 |next=>
  obtain ⟨σ',H',J,q⟩:=hs;exact fin (v:=V.non) (u:=Value.none) J rfl q
 |brk=>
  obtain ⟨_,_,_,q⟩:=hs;exact False.elim q
 |cont=>
  obtain ⟨_,_,_,q⟩:=hs;exact False.elim q
section
variable {x:Str} {p pos:Pos} {e:Expr} {es:List Expr} {t:TA} {id T:String} {r:List V->Hp->VK->Prop}
def Dz (r:List V->Hp->VK->Prop) (t:TA):TE:=fun σ H Q=>t σ H fun vs H1=>r vs H1 Q
theorem aK (hc:dG X (.builtin id) r) (hg:Gl X x) (hm:X.mg x=none) (hv:bootBuiltins x=some (.builtin id)) (ha:PA X (e::es) t) (hn:x≠ "__name__" :=by decide) (hdb:(x==("__debug__" :Str))=false:=by decide)
  (he:starEach (e::es) X.env=(false,eval e X.env)::starEach es X.env:=by rfl) (hpl:(backTo pos (starEach es X.env)).any (·.1)=false:=by rfl):PE X (.Call (.Name x p) (e::es) [] pos) (Dz r t):=by
 intro pins s σ H Q I h;refine wpAny_Call_Name_kw (fj I hg hm hv ?_ hn hdb);exact PyProof.Rows.callWith_builtin1 (b8 (ha pos pins s σ H _ I h) fun us s1 ⟨vs,H1,I1,r1,q1⟩=>hc pins s1 σ H1 vs us Q I1 r1 q1) he hpl
theorem bv (hc:dG X (.type T) r) (hg:Gl X x) (hm:X.mg x=none) (hv:bootBuiltins x=some (.type T)) (ha:PA X (e::es) t) (hn:x≠ "__name__" :=by decide) (hdb:(x==("__debug__" :Str))=false:=by decide)
  (he:starEach (e::es) X.env=(false,eval e X.env)::starEach es X.env:=by rfl) (hpl:(backTo pos (starEach es X.env)).any (·.1)=false:=by rfl):PE X (.Call (.Name x p) (e::es) [] pos) (Dz r t):=by
 intro pins s σ H Q I h;refine wpAny_Call_Name_kw (fj I hg hm hv ?_ hn hdb);exact FD (b8 (ha pos pins s σ H _ I h) fun us s1 ⟨vs,H1,I1,r1,q1⟩=>hc pins s1 σ H1 vs us Q I1 r1 q1) he hpl
end
end L2
namespace HT
open PySem PyProof.Rows
section
variable {prog:Program} {w:World} {A:Around} {E:Ik} {s:Shared}
def cZ (n d:Nat):Option Int->Nat
 |none=>d
 |some v=>if v<0 then (v+(n:Int)).toNat else min v.toNat n
end
end HT
namespace L2
open PySem PySem.Spec PyProof.Rows
abbrev TO:=St->Hp->(Option Int->Hp->Prop)->Prop
def PO (X:Cx) (e:Option Expr) (t:TO):Prop:=
 ∀(pins:Im) (s:Shared) (σ:St) (H:Hp) (Q:Option Int->Hp->Prop),aR X pins σ H s->t σ H Q->
  wpAny (model X.prog X.w) X.A (evalPart e X.env) (fun u s'=>∃o H',aR X pins σ H' s'/\IsPart u o/\Q o H') X.xe s
def vG:TO:=fun _ H Q=>Q none H
def AB (t:TE):TO:=fun σ H Q=>t σ H fun x H1=>∃i,x= .int i/\Q (some i) H1
section
variable {X:Cx} {e:Expr} {te:TE} {lo hi:Option Expr} {tl th:TO} {pos p2:Pos}
theorem eA:PO X none vG:=by
 intro pins s σ H Q I h;rw[evalPart_none];exact wpAny_pure ⟨none,H,I,.none,h⟩
theorem cE (h:PE X e te):PO X (some e) (AB te):=by
 intro pins s σ H Q I hw;rw[evalPart_some];refine b8 (h pins s σ H _ I hw) fun u s1 ⟨x,H1,I1,r1,q1⟩=>?_
 obtain ⟨i,rfl,q⟩:=q1;obtain ⟨t,rfl⟩:=r1;exact ⟨some i,H1,I1,.int i t,q⟩
def CL (X:Cx) (r:V->Option Int->Option Int->Hp->VK->Prop):Prop:=
 ∀(pins:Im) (s:Shared) (σ:St) (H:Hp) (x:V) (v vl vu:Value) (lo hi:Option Int) (sl:Addr) (Q:VK),aR X pins σ H s->RelV x v->s.heap.IsSliceOf sl vl vu .none->IsPart vl lo->IsPart vu hi->r x lo hi H Q->
  ∃T id,typeLookup (.type T) "__getitem__" =pure (some (.builtin id))/\s.TypeIs v T/\wpAny (model X.prog X.w) X.A (getItem v (.ref sl)) (EP X pins σ Q) X.xe s
def DS (r:V->Option Int->Option Int->Hp->VK->Prop) (te:TE) (tl th:TO):TE:=fun σ H Q=>te σ H fun x H1=>tl σ H1 fun l H2=>th σ H2 fun u H3=>r x l u H3 Q
theorem cG {r:V->Option Int->Option Int->Hp->VK->Prop} (hr:CL X r) (he:PE X e te) (hl:PO X lo tl) (hu:PO X hi th):PE X (.Subscript e (.Slice lo hi none p2) pos) (DS r te tl th):=by
 intro pins s σ H Q I h;refine Subscript_ (b8 (he pins s σ H _ I h) fun v s1 ⟨x,H1,I1,r1,q1⟩=>?_)
 refine wpAny_Slice (b8 (hl pins s1 σ H1 _ I1 q1) fun vl s2 ⟨l,H2,I2,pl,q2⟩=>b8 (hu pins s2 σ H2 _ I2 q2) fun vu s3 ⟨u,H3,I3,pu,q3⟩=>?_)
 rw[evalPart_none];refine wpAny_pure ?_;have I4:aR X pins σ H3 {s3 with heap:=s3.heap.push {cls:= .type "slice",data:= .fields #[vl,vu,.none]}}:=I3.kept (t':=s3.toks) fun b ob q=>Heap.get?_push_of_some _ q
 obtain ⟨T,id,hT,ht,hg⟩:=hr pins {s3 with heap:=s3.heap.push {cls:= .type "slice",data:= .fields #[vl,vu,.none]}} σ H3 x v vl vu l u s3.heap.objs.size Q I4 r1 (Heap.IsSliceOf.new ..) pl pu q3
 show wpAny (model X.prog X.w) X.A (subscriptTail e (.Slice lo hi none p2) v (.ref s3.heap.objs.size)) (EP X pins σ Q) X.xe {s3 with heap:=s3.heap.push {cls:= .type "slice",data:= .fields #[vl,vu,.none]}}
 exact tail_any (ops:= [.ref s3.heap.objs.size,v]) ht hT hg (by with_unfolding_all rfl)
def dy (xs:List V) (lo hi:Option Int):List V:=(xs.drop (HT.cZ xs.length 0 lo)).take (HT.cZ xs.length xs.length hi-HT.cZ xs.length 0 lo)
theorem mz (xs:List V) (lo hi:Option Int):(dy xs lo hi).length<=xs.length:=by
 unfold dy;rw[EK,Eo];omega
end
def vH (n:Nat) (i:Int):Option Nat:=if 0<=i then (if i<n then some i.toNat else none) else if-(n:Int)<=i then some (i+n).toNat else none
def ig {α:Type} (xs:List α) (i:Int):Option α:=(vH xs.length i).bind fun j=>xs[j]?
theorem qa {n:Nat} {i:Int} {j:Nat} (h:vH n i=some j):seqIndex? i n=some j/\j<n/\ -(n:Int)<=i/\i<n:=by
 unfold vH at h
 by_cases h0:0<=i
 ·rw[if_pos h0] at h
  by_cases h1:i<n
  ·rw[if_pos h1] at h;have e:i.toNat=j:=EL h;exact ⟨by rw[seqIndex_of h0 h1,e],by omega,by omega,h1⟩
  ·rw[if_neg h1] at h;cases h
 ·rw[if_neg h0] at h
  by_cases h1: -(n:Int)<=i
  ·rw[if_pos h1] at h;have e:(i+n).toNat=j:=EL h;exact ⟨by rw[seqIndex_neg (by omega) h1,e],by omega,h1,by omega⟩
  ·rw[if_neg h1] at h;cases h
theorem kW {α:Type} {xs:List α} {i:Int} {v:α} (h:ig xs i=some v):∃j,seqIndex? i xs.length=some j/\xs[j]?=some v/\j<xs.length/\ -(xs.length:Int)<=i/\i<xs.length:=by
 unfold ig at h;cases e:vH xs.length i with
 |none=>rw[e] at h;cases h
 |some j=>
  rw[e] at h;obtain ⟨h1,h2,h3,h4⟩:=qa e;exact ⟨j,h1,h,h2,h3,h4⟩
theorem aF {α:Type} {xs:List α} {j:Nat} {v:α} (h:xs[j]?=some v):ig xs (j:Int)=some v:=by
 have hj:j<xs.length:=(E8.mp h).1;have e:vH xs.length (j:Int)=some j:=by
  unfold vH;rw[if_pos (by omega),if_pos (by omega)];simp
 unfold ig;rw[e];exact h
def vI (b:Expr):Prop:=∀o i,subscripted b false o i=operate [o,i] (getItem o i)
def AC (X:Cx) (r:R2):Prop:=
 ∀(value slice:Expr) (pins:Im) (s:Shared) (σ:St) (H:Hp) (x y:V) (v u:Value) (Q:VK),aR X pins σ H s->RelV x v->RelV y u->r x y H Q->
  subscripted slice false v u=operate [v,u] (getItem v u)->wpAny (model X.prog X.w) X.A (subscriptTail value slice v u) (EP X pins σ Q) X.xe s
def Cg (X:Cx) (id:String) (r:V->List V->Hp->VK->Prop):Prop:=
 ∀(pins:Im) (s:Shared) (σ:St) (H:Hp) (x:V) (xs:List V) (v:Value) (us:Ir) (Q:VK),aR X pins σ H s->RelV x v->a9 xs us->r x xs H Q->
  wpAny (model X.prog X.w) X.A (call (.builtin id) (v::us)) (EP X pins σ Q) X.xe s
section
variable {X:Cx} {a b:Expr} {ta tb:TE} {pos:Pos}
theorem ao {r:R2} (hr:AC X r) (ha:PE X a ta) (hb:PE X b tb) (hs:vI b):PE X (.Subscript a b pos) (xO r ta tb):=by
 intro pins s σ H Q I h;exact Subscript_ (xP ha hb I h fun v u s2 x y H2 I2 rx ry q=>hr a b pins s2 σ H2 x y v u Q I2 rx ry q (hs _ _))
def xQ (K:D9):R2:=fun x y H Q=>∃p xs i v,x= .ref p/\y= .int i/\aH K H p xs/\ig xs i=some v/\Q v H
def AD (K:D9):R2:=fun x y H Q=>∃p xs i v,x= .ref p/\y= .int i/\bZ K H p xs/\ig xs i=some v/\Q v H
def CM:R2:=fun x y H Q=>∃z i c,x= .str z/\y= .int i/\z.length<=sizeLine/\ig z.cps.toList i=some c/\Q (.str ⟨#[c]⟩) H
theorem ai:AC X (xQ X.K):=by
 intro value slice pins s σ H x y v u Q I rx ry h hs;obtain ⟨p,xs,i,z,rfl,rfl,hq,he,q⟩:=h;cases rx;obtain ⟨t,rfl⟩:=ry;obtain ⟨its,r,pl,hz⟩:=I.list hq;obtain ⟨j,h1,h2,h3,h4,h5⟩:=kW he;obtain ⟨w,ew,rw'⟩:=r.get h2;have hl:=r.length;have hn:=ic;have fin:EP X pins σ Q w s:=⟨z,H,I,rw',q⟩
 by_cases h0:0<=i
 ·have hj:i.toNat=j:=by
   rw[seqIndex_of h0 h5] at h1;exact EL h1
  exact item_listR pl.isList h0 (by omega) (by rw[hj];simpa using ew) fin hs
 ·have hj:(i+(its.toArray.size:Int)).toNat=j:=by
   rw[seqIndex_neg (by omega) h4] at h1
   rw[ES,<-hl];exact EL h1
  exact subscriptTail_builtinR (x:=w) pl.isList.typeIs slot_list_getitem.lookup
   (wpAny_getItem_list_neg (Q:=fun r s'=>r=w/\EP X pins σ Q r s') pl.isList (by omega) (by rw[ES]<;>omega) (by omega) (by rw[hj];simpa using ew) ⟨rfl,fin⟩) hs
theorem aT:AC X (AD X.K):=by
 intro value slice pins s σ H x y v u Q I rx ry h hs;obtain ⟨p,xs,i,z,rfl,rfl,hq,he,q⟩:=h;cases rx;obtain ⟨t,rfl⟩:=ry;obtain ⟨its,r,pl,hz⟩:=I.tuple hq;obtain ⟨j,h1,h2,h3,h4,h5⟩:=kW he;obtain ⟨w,ew,rw'⟩:=r.get h2;have hl:=r.length;have hn:=ic;have fin:EP X pins σ Q w s:=⟨z,H,I,rw',q⟩;exact subscriptTail_builtinR (x:=w) pl.typeIs slot_tuple_getitem.lookup
  (getItem_tuple (j:=j) (Q:=fun r s'=>r=w/\EP X pins σ Q r s') pl (by omega) (by omega) (by rw[ES,<-hl];exact h1) (by simpa using ew) ⟨rfl,fin⟩) hs
theorem oH:AC X CM:=by
 intro value slice pins s σ H x y v u Q I rx ry h hs;obtain ⟨z,i,c,rfl,rfl,hz,he,q⟩:=h;obtain ⟨t,rfl⟩:=rx;obtain ⟨t',rfl⟩:=ry;obtain ⟨j,h1,h2,h3,h4,h5⟩:=kW he;have hl:z.cps.toList.length=z.length:=by simp[Str.length]
 rw[hl] at h1 h4 h5;have hn:=ic;exact tail_any (typeIs_str s z t) slot_str_getitem.lookup (getItem_str (c:=c) (by
  have e1:decide (i< -(2^63:Int))=false:=decide_eq_false (by omega)
  have e2:decide (i≥2^63)=false:=decide_eq_false (by omega)
  rw[e1,e2,Bool.or_false]) (by rw[h1];simpa using h2) ⟨.str ⟨#[c]⟩,H,I.tok _,⟨_,rfl⟩,q⟩) hs
theorem oI (its:Ir) (n j:Nat) (u:Value):Obj.mapSeq (·.setIfInBounds j u) {cls:= .type "list",data:= .seq its.toArray n}={cls:= .type "list",data:= .seq (its.set j u).toArray n}:=by
 simp[Obj.mapSeq]
theorem aR.lst {pins:Im} {σ:St} {H:Hp} {s:Shared} {p:Addr} {xs:List V} (I:aR X pins σ H s) (h:H p=some (.lst xs)):
  ∃(its:Ir) (n:Nat),a9 xs its/\s.heap.get? p=some {cls:= .type "list",data:= .seq its.toArray n}/\xs.length<=sizeLine:=by
 obtain ⟨z,its,n,r,e⟩:=I.hok p _ h;exact ⟨its,n,r,e,z⟩
theorem aR.lstUpd {pins:Im} {σ:St} {H:Hp} {s:Shared} {p:Addr} {xs ys:List V} {its its':Ir} {n n':Nat} {f:Obj->Obj} (I:aR X pins σ H s) (h:H p=some (.lst xs))
  (ho:s.heap.get? p=some {cls:= .type "list",data:= .seq its.toArray n}) (hf:f {cls:= .type "list",data:= .seq its.toArray n}={cls:= .type "list",data:= .seq its'.toArray n'}) (r:a9 ys its') (hz:ys.length<=sizeLine) (t:Nat):
  aR X pins σ (aS H p (.lst ys)) {s with heap:=s.heap.update p f,toks:=t}:=by
 have e:(s.heap.update p f).get? p=some {cls:= .type "list",data:= .seq its'.toArray n'}:=by
  rw[Heap.get?_update_self f ho (by rw[hf]<;>rfl),hf]
 refine I.write (x:=p) (e:=p) (by rw[h];trivial) (.inl rfl) (fun b u hb q=>(Heap.get?_update_other _ _ (Ne.symm hb)).trans q) ⟨_,e⟩ ?_
 exact ⟨hz,its',n',r,e⟩
def AE:V->V->V->Hp->(Hp->Prop)->Prop:=fun o i v H Q=>∃p xs k j,o= .ref p/\i= .int k/\H p=some (.lst xs)/\vH xs.length k=some j/\Q (aS H p (.lst (xs.set j v)))
theorem set_list:Aq X AE:=by
 intro pins s σ H o i v ov iv u Q I ro ri rv h;obtain ⟨p,xs,k,j,rfl,rfl,hp,hj,q⟩:=h;cases ro;obtain ⟨t,rfl⟩:=ri;obtain ⟨its,n,r,ho,hz⟩:=I.lst hp;obtain ⟨h1,h2,h3,h4⟩:=qa hj;have hl:=r.length;have hn:=ic;have I':aR X pins σ (aS H p (.lst (xs.set j v))) {s with heap:=s.heap.update p (Obj.mapSeq (·.setIfInBounds j u))}:=
  I.lstUpd hp ho (oI its n j u) (r.set rv j) (by rw[List.length_set];exact hz) s.toks
 by_cases h0:0<=k
 ·have hk:k.toNat=j:=by
   rw[seqIndex_of h0 h4] at h1;exact EL h1
  exact PySem.W.ki_setAt ho h0 (by omega) (by rw[ES,<-hl];exact h4) (by rw[hk];exact ⟨_,I',q⟩)
 ·have hk:(k+(its.toArray.size:Int)).toNat=j:=by
   rw[seqIndex_neg (by omega) h3] at h1
   rw[ES,<-hl];exact EL h1
  exact PySem.W.ki_setBack ho (by omega) (by rw[ES,<-hl];exact h3) (by omega) (by rw[hk];exact ⟨_,I',q⟩)
theorem kX (lo hi:Option Int) (n:Nat):(sliceBounds lo hi none n).1=((HT.cZ n 0 lo:Nat):Int)/\(sliceBounds lo hi none n).2.1=((HT.cZ n n hi:Nat):Int)/\(sliceBounds lo hi none n).2.2=1:=by
 refine ⟨?_,?_,rfl⟩
 ·cases lo with
  |none=>simp[sliceBounds,HT.cZ]
  |some i=>
   simp only[sliceBounds,HT.cZ,Option.getD_none,show (1:Int)>0 by decide,if_true]
   by_cases h:i<0
   ·simp only[h,if_true]<;>omega
   ·simp only[h,if_false]<;>omega
 ·cases hi with
  |none=>simp[sliceBounds,HT.cZ]
  |some i=>
   simp only[sliceBounds,HT.cZ,Option.getD_none,show (1:Int)>0 by decide,if_true]
   by_cases h:i<0
   ·simp only[h,if_true]<;>omega
   ·simp only[h,if_false]<;>omega
theorem jF (its:Ir) (lo hi:Option Int):slicePick its.toArray lo hi none=((its.drop (HT.cZ its.length 0 lo)).take (HT.cZ its.length its.length hi-HT.cZ its.length 0 lo)).toArray:=by
 obtain ⟨h1,h2,h3⟩:=kX lo hi its.toArray.size;unfold slicePick;rw[h1,h2,h3];simp only[sliceRange_one,pick_run,ES]<;>rfl
def CN (K:D9):V->Option Int->Option Int->Hp->VK->Prop:=fun x lo hi H Q=>∃a xs,x= .ref a/\aH K H a xs/\∀p,H p=none->Q (.ref p) (aS H p (.lst (dy xs lo hi)))
theorem eB:CL X (CN X.K):=by
 intro pins s σ H x v vl vu lo hi sl Q I rx hs pl pu h;obtain ⟨a,xs,rfl,hx,q⟩:=h;cases rx;obtain ⟨its,r,ht,hz⟩:=I.list hx;have hlen:=r.length;refine ⟨"list",_,slot_list_getitem.lookup,ht.isList.typeIs,?_⟩;refine wpAny_getItem_list_slice ht.isList hs pl pu .none (by simp) ?_ (by rw[ES]<;>omega)
 rw[jF,<-hlen];refine ⟨.ref s.heap.objs.size,_,I.laid (t':=s.toks) (o:= .lst (dy xs lo hi)) (fun b ob q=>Heap.get?_push_of_some _ q) (EB _) ?_,rfl,q _ (I.hok.fresh (EB _))⟩
 exact ⟨EV (mz xs lo hi) hz,_,0,(r.drop (HT.cZ xs.length 0 lo)).take (HT.cZ xs.length xs.length hi-HT.cZ xs.length 0 lo),Heap.get?_push_size _ rfl⟩
def gG:V->Bool
 | .non=>true
 | .bl _=>true
 | .int _=>true
 | .str _=>true
 |_=>false
def vJ:V->V->Bool
 | .non,.non=>true
 | .bl a,.bl b=>a==b
 | .bl a,.int b=>(if a then 1 else 0)==b
 | .int a,.bl b=>a==(if b then 1 else 0)
 | .int a,.int b=>a==b
 | .str a,.str b=>a==b
 |_,_=>false
theorem xR {A:Around} {s:Shared} {y x:V} {u v:Value} (ry:RelV y u) (rx:RelV x v) (fy:gG y=true) (fx:gG x=true):SeqAt.EqAt A s u v (vJ y x):=by
 cases y with
 |non=>
  cases ry;cases x with
  |non=>cases rx;exact SeqAt.EqAt.same _
  |bl b=>cases rx;exact SeqAt.EqAt.none_bool b
  |int b=>obtain ⟨t,rfl⟩:=rx;exact SeqAt.EqAt.none_int b t
  |str b=>obtain ⟨t,rfl⟩:=rx;exact SeqAt.EqAt.none_str b t
  |_=>exact absurd (show false=true from fx) EM
 |bl a=>
  cases ry;cases x with
  |non=>cases rx;exact SeqAt.EqAt.bool_none a
  |bl b=>cases rx;exact SeqAt.EqAt.bool_bool a b
  |int b=>obtain ⟨t,rfl⟩:=rx;exact SeqAt.EqAt.bool_int a b t
  |str b=>obtain ⟨t,rfl⟩:=rx;exact SeqAt.EqAt.bool_str a b t
  |_=>exact absurd (show false=true from fx) EM
 |int a=>
  obtain ⟨t',rfl⟩:=ry;cases x with
  |non=>cases rx;exact SeqAt.EqAt.int_none a t'
  |bl b=>cases rx;exact SeqAt.EqAt.int_bool a t' b
  |int b=>obtain ⟨t,rfl⟩:=rx;exact SeqAt.EqAt.int_int a t' b t
  |str b=>obtain ⟨t,rfl⟩:=rx;exact SeqAt.EqAt.int_str a t' b t
  |_=>exact absurd (show false=true from fx) EM
 |str a=>
  obtain ⟨t',rfl⟩:=ry;cases x with
  |non=>cases rx;exact SeqAt.EqAt.str_none a t'
  |bl b=>cases rx;exact SeqAt.EqAt.str_bool a t' b
  |int b=>obtain ⟨t,rfl⟩:=rx;exact SeqAt.EqAt.str_int a t' b t
  |str b=>obtain ⟨t,rfl⟩:=rx;exact SeqAt.EqAt.str_str a t' b t
  |_=>exact absurd (show false=true from fx) EM
 |_=>exact absurd (show false=true from fy) EM
def vK (x:V) (u:Value):Bool:=match u with
 | .none=>vJ .non x
 | .bool b=>vJ (.bl b) x
 | .int i _=>vJ (.int i) x
 | .str z _=>vJ (.str z) x
 |_=>false
theorem sZ {x y:V} {u:Value} (r:RelV y u) (f:gG y=true):vK x u=vJ y x:=by
 cases y with
 |non=>cases r;rfl
 |bl b=>cases r;rfl
 |int i=>obtain ⟨t,rfl⟩:=r;rfl
 |str z=>obtain ⟨t,rfl⟩:=r;rfl
 |_=>exact absurd (show false=true from f) EM
theorem kY {x:V}:∀{xs:List V} {us:Ir},a9 xs us->xs.all gG=true->us.any (vK x)=xs.any fun y=>vJ y x
 |_,_,.nil,_=>rfl
 |y::xs,u::us,.cons r t,f=>by
  rw[List.all_cons,Bool.and_eq_true] at f;rw[List.any_cons,List.any_cons,sZ r f.1,kY t f.2]
theorem i4 {A:Around} {s:Shared} {x:V} {v:Value} (rx:RelV x v) (fx:gG x=true):∀{xs:List V} {us:Ir},a9 xs us->xs.all gG=true->∀u∈us,SeqAt.EqAt A s u v (vK x u)
 |_,_,.nil,_=>fun u hu=>by cases hu
 |y::xs,u::us,.cons r t,f=>fun u' hu=>by
  rw[List.all_cons,Bool.and_eq_true] at f;rcases E3.mp hu with rfl|hu
  ·rw[sZ r f.1];exact xR r rx f.1 fx
  ·exact i4 rx fx t f.2 u' hu
def Ad (x:V) (xs:List V):Bool:=xs.any fun y=>vJ y x
def DT (K:D9) (neg:Bool):R2:=fun x y H Q=>∃p xs,y= .ref p/\(aH K H p xs∨bZ K H p xs)/\gG x=true/\xs.all gG=true/\Q (.bl (if neg then !Ad x xs else Ad x xs)) H
theorem dN:gb X (compareOp .In) (DT X.K false):=by
 intro pins s σ H x y v u Q I rx ry h;obtain ⟨p,xs,rfl,hq,fx,fs,q⟩:=h;cases ry;rcases hq with hq|hq
 ·obtain ⟨its,r,pl,hz⟩:=I.list hq;refine SeqAt.in_listAt (vK x) pl.isList (fun w hw=>i4 rx fx r fs w (by simpa using hw)) ⟨.bl _,H,I,rfl,?_⟩
  rw[show its.toArray.any (vK x)=its.any (vK x) by simp,kY r fs]
  exact q
 ·obtain ⟨its,r,pl,hz⟩:=I.tuple hq;refine SeqAt.in_tupleAt (vK x) pl (fun w hw=>i4 rx fx r fs w (by simpa using hw)) ⟨.bl _,H,I,rfl,?_⟩
  rw[show its.toArray.any (vK x)=its.any (vK x) by simp,kY r fs]
  exact q
theorem dI:gb X (compareOp .NotIn) (fun x y H Q=>∃i j,x= .str i/\y= .str j/\Q (.bl (!(!(Builtin.Str.occurrences j i 0 j.length 1).isEmpty))) H):=by
 intro pins s σ H x y v u Q I rx ry h;obtain ⟨i,j,rfl,rfl,q⟩:=h;obtain ⟨t,rfl⟩:=rx;obtain ⟨t',rfl⟩:=ry;exact notIn_str ⟨.bl _,H,I,rfl,q⟩
theorem aV:dG X (.builtin "len") (fun xs H Q=>∃p ys,xs= [.ref p]/\(aH X.K H p ys∨bZ X.K H p ys)/\Q (.int ys.length) H):=by
 intro pins s σ H xs us Q I r h;obtain ⟨p,ys,rfl,hq,q⟩:=h;obtain ⟨u,rfl,rx⟩:=vals1 r;cases rx;have hn:=ic;rcases hq with hq|hq
 ·obtain ⟨its,r',pl,hz⟩:=I.list hq;have hlen:=r'.length;exact Calls.call_len_list pl.isList (by simp only[ES]<;>omega) ⟨.int ys.length,H,I.tok _,⟨s.toks+1,by rw[ES,hlen]⟩,q⟩
 ·obtain ⟨its,r',pl,hz⟩:=I.tuple hq;have hlen:=r'.length;exact len_tuple pl (by simp only[ES]<;>omega) ⟨.int ys.length,H,I.tok _,⟨s.toks+1,by rw[ES,hlen]⟩,q⟩
theorem dJ:dG X (.builtin "len") (fun xs H Q=>∃z,xs= [.str z]/\z.length<=sizeLine/\Q (.int z.length) H):=by
 intro pins s σ H xs us Q I r h;obtain ⟨z,rfl,hz,q⟩:=h;obtain ⟨u,rfl,t,rfl⟩:=vals1 r;have hn:=ic;exact len_str (by omega) ⟨.int z.length,H,I.tok _,⟨_,rfl⟩,q⟩
theorem dh:dG X (.type "list") (fun xs H Q=>∃p ys,xs= [.ref p]/\(aH X.K H p ys∨bZ X.K H p ys)/\∀l,H l=none->Q (.ref l) (aS H l (.lst ys))):=by
 intro pins s σ H xs us Q I r h;obtain ⟨p,ys,rfl,hq,q⟩:=h;obtain ⟨u,rfl,rx⟩:=vals1 r;cases rx;have fin:∀(its:Ir),a9 ys its->ys.length<=sizeLine->∀(h':Heap) (c':Nat),(∀b o',s.heap.get? b=some o'->h'.get? b=some o')->
   h'.get? s.heap.objs.size=some {cls:= .type "list",dict:=none,data:= .seq its.toArray c',slots:= #[]}->EP X pins σ Q (.ref s.heap.objs.size) {s with heap:=h'}:=fun its r' hz h' c' kp e=>
  ⟨.ref s.heap.objs.size,_,I.laid (t':=s.toks) kp (EB _) (show cx X.prog X.w _ h' _ (.lst ys) from ⟨hz,its,c',r',e⟩),rfl,q _ (I.hok.fresh (EB _))⟩
 rcases hq with hq|hq
 ·obtain ⟨its,r',pl,hz⟩:=I.list hq;have hlen:=r'.length;obtain ⟨o,ho,hc,n,hd⟩:=pl.isList;exact call_list_seq p (.inl rfl) ho hc hd (fun h' c' kp e=>fin its r' hz h' c' kp e) (by simp only[ES]<;>omega)
 ·obtain ⟨its,r',pl,hz⟩:=I.tuple hq;have hlen:=r'.length;obtain ⟨o,ho,hc,n,hd⟩:=pl;exact call_list_seq p (.inr rfl) ho hc hd (fun h' c' kp e=>fin its r' hz h' c' kp e) (by simp only[ES]<;>omega)
def DA (K:D9) (T:String) (x:V) (H:Hp):Prop:=match x with
 | .str _=>T= "str"
 | .int _=>T= "int"
 | .ref p=>(T= "list" /\∃xs,aH K H p xs)∨(T= "tuple" /\∃o,K.lookup p=some o/\o.cls= .type "tuple" /\o.dict=none)∨
   (T= "dict" /\((∃kvs,H p=some (.dK kvs))∨∃kvs,H p=some (.dT kvs)))∨(T= "set" /\∃S n,H p=some (.set S n))
 |_=>False
theorem xS {pins:Im} {σ:St} {H:Hp} {s:Shared} {T:String} {x:V} {v:Value} (I:aR X pins σ H s) (r:RelV x v) (ty:DA X.K T x H):
  s.TypeIs v T/\∀a,v= .ref a->∃ob,s.heap.get? a=some ob/\ob.dict=none:=by
 cases x with
 |str z=>
  obtain ⟨t,rfl⟩:=r;cases (show T= "str" from ty)
  exact ⟨typeIs_str s z t,fun _ e=>nomatch e⟩
 |int i=>
  obtain ⟨t,rfl⟩:=r;cases (show T= "int" from ty)
  exact ⟨typeIs_int s i t,fun _ e=>nomatch e⟩
 |ref p=>
  cases r;rcases ty with ⟨rfl,xs,hq⟩|⟨rfl,o,hk,hc,hd⟩|⟨rfl,hk⟩|⟨rfl,S,n,hk⟩
  ·obtain ⟨its,_,pl,_⟩:=I.list hq;refine ⟨pl.isList.typeIs,fun a e=>?_⟩
   cases e;obtain ⟨o,n,e,c,hd,_⟩:=pl;exact ⟨o,e,hd⟩
  ·refine ⟨⟨o,I.kIn p o hk,hc⟩,fun a e=>?_⟩
   cases e;exact ⟨o,I.kIn _ o hk,hd⟩
  ·have z:∃o,s.heap.get? p=some o/\o.ExactDict:=by
    rcases hk with ⟨kvs,hk⟩|⟨kvs,hk⟩
    ·obtain ⟨_,_,_,_,o,_,_,e,ex,_⟩:=I.hok p _ hk;exact ⟨o,e,ex⟩
    ·obtain ⟨_,_,_,_,o,_,_,e,ex,_⟩:=I.hok p _ hk;exact ⟨o,e,ex⟩
   obtain ⟨o,e,ex⟩:=z;refine ⟨⟨o,e,ex.1⟩,fun a e2=>?_⟩
   cases e2;exact ⟨o,e,ex.2.1⟩
  ·obtain ⟨o,_,_,_,e,ex,_⟩:=I.hok p _ hk;refine ⟨⟨o,e,ex.1⟩,fun a e2=>?_⟩
   cases e2;exact ⟨o,e,ex.2.1⟩
 |_=>exact False.elim ty
def DU (K:D9) (T:String) (r:V->List V->Hp->VK->Prop) (to:TE) (t:TA):TE:=fun σ H Q=>to σ H fun x H1=>DA K T x H1/\t σ H1 fun xs H2=>r x xs H2 Q
variable {o e:Expr} {es:List Expr} {to:TE} {t:TA} {name:Str} {apos cpos:Pos} {T id:String} {r:V->List V->Hp->VK->Prop}
theorem c6 (pa:PlainAttrs T) (slot:Slot T name id) (hty:typeOf (.builtin id)=pure (.type "method_descriptor")) (hm:Cg X id r) (ho:PE X o to) (ha:PA X (e::es) t)
  (hbase:attributeBase o name X.env (eval o X.env)=eval o X.env:=by rfl)
  (hfew:((backTo cpos (starEach (e::es) X.env)).all (fun x=> !x.1)&&(backToKw cpos (keywordEach [] X.env)).all (fun x=>x.1.isSome)
   &&decide ((e::es).length+([]:List Keyword).length+(if ([]:List Keyword).isEmpty then 0 else 1)<30))=true:=by rfl)
  (hline:(apos.endLine==cpos.line)=true:=by rfl) (hs:starEach (e::es) X.env=(false,eval e X.env)::starEach es X.env:=by rfl) (hplain:(backTo cpos (starEach es X.env)).any (·.1)=false:=by rfl):
  PE X (.Call (.Attribute o name apos) (e::es) [] cpos) (DU X.K T r to t):=by
 intro pins s σ H Q I h;refine wpAny_Call_method_late hbase hfew hline rfl (b8 (ho pins s σ H _ I h) fun v s1 ⟨x,H1,I1,r1,ty,q1⟩=>?_)
 obtain ⟨h1,h2⟩:=xS I1 r1 ty;refine ⟨T,id,pa,slot,hty,h1,h2,?_⟩;have hA:=ha cpos pins s1 σ H1 _ I1 q1;rw[hs] at hA⊢;refine Calls.callWith_builtin (by show (false||(backTo cpos (starEach es X.env)).any (·.1))=false;rw[hplain]<;>rfl) (Calls.evalArgs_plain ?_)
 exact b8 hA fun us s2 ⟨vs,H2,I2,r2,q2⟩=>hm pins s2 σ H2 x vs v us Q I2 r1 r2 q2
end
def DV (X:Cx) (id:String) (r:V->List V->Hp->VK->Prop):Prop:=
 ∀(pins:Im) (s:Shared) (σ:St) (H:Hp) (x:V) (xs:List V) (v:Value) (us:Ir) (Q:VK),aR X pins σ H s->RelV x v->a9 xs us->r x xs H Q->
  wpAny (model X.prog X.w) X.A (call (.builtin id) (v::us)) (EP X pins σ Q) X.xe s
theorem a9.one:∀{x:V} {us:Ir},a9 [x] us->∃u,us= [u]/\RelV x u
 |_,_,.cons r .nil=>⟨_,rfl,r⟩
section
variable {X:Cx} {pins:Im} {σ:St} {H:Hp} {s:Shared} {l b:Addr} {xs ys zs:List V}
theorem aR.lset {its its':Ir} {n:Nat} {f:Array Value->Array Value} {t':Nat} (I:aR X pins σ H s) (hH:H l=some (.lst xs))
  (e:s.heap.get? l=some {cls:= .type "list",data:= .seq its.toArray n}) (hf:f its.toArray=its'.toArray) (hv:a9 ys its') (hz:ys.length<=sizeLine):
  aR X pins σ (aS H l (.lst ys)) {s with heap:=s.heap.update l (Obj.mapSeq f),toks:=t'}:=by
 have q:=PySem.IsL.update e f;rw[hf] at q;refine I.write (x:=l) (e:=l) (by rw[hH];exact trivial) (.inl rfl) (fun b' u hb hu=>(Heap.get?_update_other s.heap (Obj.mapSeq f) (Ne.symm hb)).trans hu) ⟨_,q⟩ ?_
 exact ⟨hz,its',_,hv,q⟩
theorem aR.lnew {its:Ir} {t':Nat} (I:aR X pins σ H s) (hv:a9 ys its) (hz:ys.length<=sizeLine):
  aR X pins σ (aS H s.heap.objs.size (.lst ys)) {s with heap:=s.heap.push {cls:= .type "list",data:= .seq its.toArray},toks:=t'}:=
 I.laid (fun _ _ q=>Heap.get?_push_of_some _ q) (EB _) ⟨hz,its,0,hv,Heap.get?_push_size _ rfl⟩
theorem aR.fresh (I:aR X pins σ H s):H s.heap.objs.size=none:=I.hok.fresh (EB _)
theorem aR.lstM (I:aR X pins σ H s) (hH:H l=some (.lst xs)):xs.length<=sizeLine/\∃(its:Ir) (n:Nat),a9 xs its/\xs.length=its.length/\s.heap.get? l=some {cls:= .type "list",data:= .seq its.toArray n}:=by
 obtain ⟨z,its,n,r,e⟩:=I.hok l _ hH;exact ⟨z,its,n,r,r.length,e⟩
end
variable {X:Cx}
def vL:V->List V->Hp->VK->Prop:=fun x vs H Q=>∃l xs y,x= .ref l/\vs= [y]/\H l=some (.lst xs)/\xs.length<sizeLine/\Q .non (aS H l (.lst (xs++ [y])))
theorem bG:DV X "list.append" vL:=by
 intro pins s σ H x vs v us Q I rx rv h;obtain ⟨l,xs,y,rfl,rfl,hH,hz,q⟩:=h;cases rx;obtain ⟨u,rfl,ru⟩:=rv.one;obtain ⟨z,its,n,r,hl,e⟩:=I.lstM hH;refine call_meets F.slot_list_append ⟨_,e,rfl⟩ F.entry_list_append (F.args_list_append_2 _ _) (PySem.list_append l its.toArray n u (by rw[ES];omega)) ⟨e,?_⟩
 refine ⟨.non,_,I.lset (its':=its++ [u]) hH e (by simp) (r.append (.cons ru .nil)) ?_,rfl,q⟩
 rw[EG,List.length_singleton];omega
def CO:R2:=fun x y H Q=>∃l b xs zs,x= .ref l/\y= .ref b/\H l=some (.lst xs)/\H b=some (.lst zs)/\xs.length+zs.length<=sizeLine/\∀p,H p=none->Q (.ref p) (aS H p (.lst (xs++zs)))
theorem xT:gb X (binaryOp .Add) CO:=by
 intro pins s σ H x y v u Q I rx ry h;obtain ⟨l,b,xs,zs,rfl,rfl,hH,hB,hz,q⟩:=h;cases rx;cases ry;obtain ⟨z,its,n,r,hl,e⟩:=I.lstM hH;obtain ⟨z2,its2,n2,r2,hl2,e2⟩:=I.lstM hB;refine PySem.P.add_list e e2 ?_ (by rw[ES,ES];omega)
 have ea:its.toArray++its2.toArray=(its++its2).toArray:=by simp
 rw[ea];exact ⟨.ref _,_,I.lnew (t':=s.toks) (r.append r2) (by rw[EG];omega),rfl,q _ I.fresh⟩
theorem qb {P:Program} {w:World} {k:Key} {u:Value} (r:RelV (kV k) u):(dH P w).is k u=true:=by
 cases k with
 |inl i=>obtain ⟨t,e⟩:=(show ∃t,u=Value.int i t from r);subst e;exact l8 P w i t
 |inr x=>obtain ⟨t,e⟩:=(show ∃t,u=Value.str x t from r);subst e;exact l9 P w x t
def AF (i:Expr):Prop:=∀ov iv,subscripted i false ov iv=operate [ov,iv] (getItem ov iv)
theorem vM {prog:Program} {w:World} {A:Around} {E:Ik} {s:Shared} {env:Env} {value slice:Expr} {pos:Pos} {T id:String} {Q:Ik}
  (hl:typeLookup (.type T) "__getitem__" =pure (some (.builtin id))) (hs:AF slice)
  (h:wpAny (model prog w) A (eval value env) (fun o s₁=>wpAny (model prog w) A (eval slice env) (fun i s₂=>s₂.TypeIs o T/\wpAny (model prog w) A (getItem o i) Q E s₂) E s₁) E s):
  wpAny (model prog w) A (eval (.Subscript value slice pos) env) Q E s:=by
 refine Subscript_ (wpAny_mono h (fun o s₁ h₁=>wpAny_mono h₁ (fun i s₂ h₂=>?_) fun _ _ x=>x) fun _ _ x=>x)
 obtain ⟨hT,h₂⟩:=h₂;unfold subscriptTail;refine wpAny_bind ?_;rw[getitemInPython_of_ne hT.not_modules];refine wpAny_bind (wpAny_specialOf hT hl ?_);have fin:wpAny (model prog w) A (subscripted slice false o i) (fun r s₃=>wpAny (model prog w) A (letTemporaryGo value o r>>=fun _=>pure r) Q E s₃) E s₂:=by
  rw[hs o i];exact wpAny_operating (wpAny_mono h₂ (fun r s₃ h₃=>wpAny_bind (wpAny_letTemporaryGo (wpAny_pure h₃))) fun _ _ x=>x)
 first
  |exact wpAny_pure (wpAny_bind fin)
  |exact wpAny_bind (wpAny_pure (wpAny_bind fin))
  |exact wpAny_bind fin
end L2
namespace Att
open PySem PySem.W PySem.Calls PyProof.Rows
theorem iJ {P:Params} {h:Heap}:∀(ns:List Int) (vs:Ir),WellAll P h vs (ns.map WData.int)->IntsAre vs ns:=by
 intro ns
 induction ns with
 |nil=>
  intro vs w;rw[List.map_nil] at w;cases w;exact .nil
 |cons n ns ih=>
  intro vs w;rw[Fc] at w;cases w with
  |cons a b=>
   cases a;exact .cons _ _ (ih _ b)
theorem rE {l:OpenLaw} {n:Nat} (hn:l.most=some n) {P:Params} {h:Heap} {args:List WData} {vals:Ir}
  (hpre:l.row.toRowW.claim.pre args=true) (hwl:WellAll P h vals args):
  ∃a vs ns,vals= [Value.ref a]/\args= [WData.list (ns.map WData.int)]/\h.get? a=some {cls:= .type "list",data:= .seq vs.toArray}/\IntsAre vs ns/\ns.length<=n:=by
 have hsh:WShape.hasAll [] args [.list .int]=true:=(pre_splitW hpre).1;have hc:l.pre.holds [] {args:=args}=true:=(pre_splitW hpre).2;obtain ⟨d,r,rfl,h1,h2⟩:=hasAllW_cons hsh;obtain rfl:=hasAllW_nil h2;obtain ⟨xs,rfl,h3⟩:=hasW_list h1;obtain ⟨ns,rfl⟩:=items_int h3;have hlen:ns.length<=n:=by
  unfold OpenLaw.pre at hc;have h4:(WTm.not (.lt (.lit (.int (n:Int))) (.len (.arg 0)))).holds [] {args:= [.list (ns.map .int)]}=true:=by
   have h4:=(holds_andW hc).1;rw[hn] at h4;exact h4
  have h5:=condW_of h4 (w_not (w_lt w_lit (w_len_list (w_arg rfl))));rw[E5] at h5;refine Nat.le_of_not_lt fun q=>?_
  have q':(n:Int)<((ns.length:Nat):Int):=by omega
  first
   |(rw[decide_eq_true q'] at h5;exact absurd h5 (by decide))
   |(simp at h5;omega)
 cases hwl with
 |cons w1 w2=>
  cases w2;cases w1 with
  |list ho hall=>exact ⟨_,_,ns,rfl,rfl,ho,iJ ns _ hall,hlen⟩
theorem rF (l:OpenLaw) (args:List WData):l.row.toRowW.claim.post args (.bool true) args=true:=
 postW_of (r:=l.row.toRowW) (X:=(true==true))
  (show WShape.has [] (.bool true) .bool=true by first|rfl|decide|simp[WShape.has,WShape.arms,WShape.armsAll])
  (show (WTm.eq .res (.lit (.bool true))).value [] {args:=args,res:=some (.bool true),after:=args}=some (.bool (true==true)) from w_eq_bool (w_res rfl) w_lit) rfl
theorem mB {l:OpenLaw} {n:Nat} {q:Program} {loose:Ip} {XP:Il->Heap->Prop} {YP:World->Heap->Prop} {d:DefRec}
  (hn:l.most=some n) (hdf:d.params.defaults= [])
  (call:∀(w:World) (s₀ s₁:Shared) (mg mb:Il) (fa:Addr) (o:Obj) (pm cd doc:Value) (a:Addr) (vs:Ir) (ns:List Int),
   Ground q loose [] XP w s₀ mg mb s₁.heap->YP w s₁.heap->
   s₁.heap.get? fa=some o->o.data= .func (docDef d.name d.params d.body d.scope pm cd doc)->s₁.heap.CodeRec cd d.name->mg d.name=some (.ref fa)->
   s₁.heap.get? a=some {cls:= .type "list",data:= .seq vs.toArray}->IntsAre vs ns->ns.length<=n->s₁.gens= #[]->
   codeAny (model l.prog w) callerA (.call (.ref fa) ⟨[.ref a],[]⟩) (fun r s'=>r= .ok (.ret (.bool true))/\OldK s₁.heap s'.heap/\s'.os=s₁.os/\AllBare s'.gens) s₁):
  WalkO q loose XP YP l.row.toRowW d [] (fun f vs=>PySem.call f vs):=by
 intro w s₀ s₁ mg mb G Y fa o pm cd doc dV kV ho hd hcd hD hmg hg args vals as hpre hlay hrd hwl hlo;obtain rfl:dV= .none:=Dflts.none hD hdf;obtain rfl:kV= .none:=Dflts.noKw hD;obtain ⟨a,vs,ns,rfl,rfl,hobj,hints,hlen⟩:=rE hn hpre hwl;refine enter_call (codeAny_mono (call w s₀ s₁ mg mb fa o pm cd doc a vs ns G Y ho (fd_plain hd) hcd hmg hobj hints hlen hg) fun r s' hq=>?_)
 obtain ⟨rfl,h2,h3,h4⟩:=hq;exact ⟨.inl ⟨.bool true,.bool true,[],rfl,fun _=>rfl,.bool true,rF l _,fun _=>⟨List.Pairwise.nil,fun _ hm=>(nomatch hm)⟩⟩,h2,h3,h4⟩
end Att
namespace L2
open PySem PySem.Spec PyProof.Rows
theorem jU:∀{vs:Ir} {ns:List Int},IntsAre vs ns->a9 (ns.map V.int) vs
 |_,_,.nil=> .nil
 |_,_,.cons n t h=> .cons ⟨t,rfl⟩ (jU h)
def xU (H:Hp):Prop:=∀b,H b=none∨∃o xs,H b=some (.frz o (.lst xs))
theorem tj {P:Program} {w:World} {K:D9} {mg mb:Il} {CX:oF} {k:Nat} {fa a:Addr} {fd:FuncData} {x:Str} {sp:Sp} {s₁:Shared} {vs:Ir} {ns:List Int}
  (KX:K.In s₁.heap) (hns:s₁.heap.Ns mainGlobals mg) (hb:s₁.heap.Ns builtinsNs mb) (hbb:∀x:Str,x≠ "__name__" ->mb x=bootBuiltins x) (hlim:s₁.heap.NoLimit) (hg:s₁.gens= #[])
  (ha:s₁.heap.get? a=some {cls:= .type "list",data:= .seq vs.toArray}) (hi:IntsAre vs ns) (hl:ns.length<=sizeLine) (hr:cn k callerA)
  (F:∀base:Heap,K.In base->base.Ns mainGlobals mg->aY P w K mg base CX k fa fd [x] sp) (hbind:∀(s:Shared) (u:Value),BindsTo s fd ⟨[u],[]⟩ [(x,u)])
  (hsp:∀H:Hp,xU H->aH K H a (ns.map V.int)->sp [.ref a] H (fun v _=>v= .bl true) fun _ _ _=>False)
  (hCX:∀H e s',CX [] H s₁ (fun _ _ _=>False) e s'->False):
  codeAny (model P w) callerA (.call (.ref fa) ⟨[.ref a],[]⟩) (fun r s'=>r= .ok (.ret (.bool true))/\OldK s₁.heap s'.heap/\s'.os=s₁.os/\AllBare s'.gens) s₁:=by
 have rv:=jU hi;have lenV:=hi.length;have core:∀H:Hp,xU H->aH K H a (ns.map V.int)->f8 P w H s₁.heap->(∀b,H b≠none->b=a)->(H a≠none->K.lookup a=none)->
   codeAny (model P w) callerA (.call (.ref fa) ⟨[.ref a],[]⟩) (fun r s'=>r= .ok (.ret (.bool true))/\OldK s₁.heap s'.heap/\s'.os=s₁.os/\AllBare s'.gens) s₁:=by
  intro H hO hS hok hA hK;have base_of:∀{b:Addr} {o:Obj},s₁.heap.get? b=some o->H b=none->(kO s₁.heap H).get? b=some o:=fun e n=>sN e n
  have noA:∀{b:Addr} {o:Obj} {es:Array DictEntry} {ep:Nat},s₁.heap.get? b=some o->o.data= .dict es ep->H b=none:=fun {b o es ep} e d=>by
   cases q:H b with
   |none=>rfl
   |some u=>
    have e':b=a:=hA b (by rw[q];simp)
    subst e';rw[ha] at e;cases e;have d':Data.seq vs.toArray _=Data.dict es ep:=d;cases d'
  have nsK:∀{b:Addr} {m:Il},s₁.heap.Ns b m->(kO s₁.heap H).Ns b m:=fun {b m} ⟨o,es,ep,e,d,r⟩=>⟨o,es,ep,base_of e (noA e d),d,r⟩
  have hKb:K.In (kO s₁.heap H):=fun b o e=>base_of (KX b o e) (by
   cases q:H b with
   |none=>rfl
   |some u=>
    have e':b=a:=hA b (by rw[q];simp)
    subst e';rw[hK (by rw[q];simp)] at e;cases e)
  have hM:Mod K mg (kO s₁.heap H):=⟨hKb,nsK hns,⟨mb,nsK hb,hbb⟩,let ⟨mc,h1,h2⟩:=hlim;⟨mc,nsK h1,h2⟩⟩;have e0:oG P w K mg (kO s₁.heap H) callerA [] s₁ H:=⟨rfl,hM,fun b o e=>vx e,Nat.le_of_eq (rj _ _),trivial,fun b hb=>absurd (show b∈([]:Iq) from hb) (by simp),hok,.of_eq hg⟩
  refine codeAny_mono ((F _ hKb (nsK hns)).run callerA [] s₁ H ⟨[.ref a],[]⟩ [.ref a] [.ref a] _ _ hr e0 (hbind s₁ (.ref a)) (.cons rfl .nil) (hsp H hO hS)) fun r s' h=>?_
  cases r with
  |error e=>exact (hCX H e s' h).elim
  |ok fl=>
   cases fl with
   |next=>exact False.elim h
   |brk=>exact False.elim h
   |cont=>exact False.elim h
   |ret u=>
    obtain ⟨v,H',os,bare,un,hok',r',q⟩:=h;have q':v= .bl true:=q;subst q';obtain rfl:u=Value.bool true:=r';refine ⟨rfl,OldK.of_keep fun b o e=>?_,os,bare⟩
    cases q:H b with
    |none=>exact un.keep b o e q (by intro z;exact absurd (show b∈([]:Iq) from z) (by simp)) (by simp)
    |some u=>
     rcases hO b with z|⟨ob,xs,z⟩
     ·rw[q] at z;cases z
     ·have z2:=un.frzs b ob _ z;obtain ⟨e1,_⟩:=hok b _ z;obtain ⟨e2,_⟩:=hok' b _ z2;rw[e] at e1;cases e1;exact e2
 cases hk:K.lookup a with
 |some o=>
  have e:=KX a o hk;rw[ha] at e;cases e;refine core (fun _=>none) (fun _=> .inl rfl) (.inr ⟨_,vs.toArray,_,hk,rfl,rfl,rfl,by rw[ES,lenV];exact hl,by simpa using rv⟩) (fun b u z=>by have z':(none:Option HO)=some u:=z;cases z') (fun b z=>absurd rfl z) fun z=>absurd rfl z
 |none=>
  refine core (fun b=>if b=a then some (.frz {cls:= .type "list",data:= .seq vs.toArray} (.lst (ns.map V.int))) else none) (fun b=>?_) (.inl (.inr ⟨{cls:= .type "list",data:= .seq vs.toArray},if_pos rfl⟩)) (fun b u z=>?_) (fun b z=>?_) fun _=>hk
  ·by_cases hb:b=a
   ·exact .inr ⟨_,_,if_pos hb⟩
   ·exact .inl (if_neg hb)
  ·by_cases hb:b=a
   ·have z':=(if_pos hb).symm.trans z;cases z';subst hb;exact ⟨ha,by rw[E5];exact hl,vs,_,rv,ha⟩
   ·have z':=(if_neg hb).symm.trans z;cases z'
  ·by_cases hb:b=a
   ·exact hb
   ·exact absurd (if_neg hb) z
theorem vO {l:PySem.W.OpenLaw} {n k:Nat} {q:Program} {loose:Ip} {XP:Il->Heap->Prop} {YP:World->Heap->Prop} {d:DefRec} {K:Params->D9} {CX:World->oF} {sp:World->Sp} {x:Str}
  (hn:l.most=some n) (hn2:n<=sizeLine) (hdf:d.params.defaults= []) (hr:cn k callerA)
  (hY:∀(w:World) (h:Heap),YP w h->(K w.params).In h)
  (F:∀(w:World) (mg:Il) (fa:Addr) (h:Heap),(K w.params).In h->h.Ns mainGlobals mg->mg d.name=some (.ref fa)->
   ∃fd:FuncData,(∀(s:Shared) (u:Value),BindsTo s fd ⟨[u],[]⟩ [(x,u)])/\
    ∀base:Heap,(K w.params).In base->base.Ns mainGlobals mg->aY l.prog w (K w.params) mg base (CX w) k fa fd [x] (sp w))
  (hsp:∀(w:World) (H:Hp) (a:Addr) (ns:List Int),ns.length<=n->xU H->aH (K w.params) H a (ns.map V.int)->sp w [.ref a] H (fun v _=>v= .bl true) fun _ _ _=>False)
  (hCX:∀(w:World) (H:Hp) (s:Shared) (e:Value) (s':Shared),CX w [] H s (fun _ _ _=>False) e s'->False):
  PySem.W.WalkO q loose XP YP l.row.toRowW d [] (fun f vs=>PySem.call f vs):=by
 refine Att.mB hn hdf fun w s₀ s₁ mg mb fa o pm cd doc a vs ns G Y ho hd hcd hmg hobj hints hlen hg=>?_
 have KX:=hY w _ Y;obtain ⟨fd,hb,hF⟩:=F w mg fa _ KX G.T.g hmg;exact tj KX G.T.g G.T.b G.T.builtins G.T.nolimit hg hobj hints (EV hlen hn2) hr hF hb (fun H hO hS=>hsp w H a ns hlen hO hS) fun H e s'=>hCX w H s₁ e s'
def dL (s:Stmt):Arguments:=match s with
 | .FunctionDef _ a _ _ _ _ _ _ _ _=>a
 |_=>{posonlyargs:= [],args:= [],vararg:=none,kwonlyargs:= [],kw_defaults:= [],kwarg:=none,defaults:= []}
def di (s:Stmt):List Stmt:=match s with
 | .FunctionDef _ _ b _ _ _ _ _ _ _=>b
 |_=> []
def av (s:Stmt):Scope:=match s with
 | .FunctionDef _ _ _ _ _ _ sc _ _ _=>sc
 |_=>{kind:= .function,names:= [],isGenerator:=false,isCoroutine:=false}
abbrev a7:oF:=fun _ _ _ _ _ _=>False
abbrev E0:XK:=fun _ _ _=>False
theorem i7 {X:Cx}:i3 a7 X E0:=fun _ _ _ _ _ _ _ h=>h.elim
theorem AG {A:Around} {k:Nat} (hr:cn k A):A.units+1<cLine:=Ef (Nat.add_le_add_left (by decide:1<=64) _) hr.units
variable {X:Cx}
theorem pv (i:Nat) {x:Str} {pos:Pos} (hN:X.N[i]?=some x:=by rfl) (hv:Cy X.env.scope x:=by first|exact Or.inl rfl|exact Or.inr (Or.inl rfl)|exact Or.inr (Or.inr rfl)) (hd:(x==("__debug__" :Str))=false:=by decide)
  (hcd:(x==("__classdict__" :Str))=false:=by decide):PE X (.Name x pos) (mf i):=xJ hN hv hd hcd
theorem cq {A B:Prop} (h:B):if false=true then A else B:=by
 rw[if_neg EM];exact h
theorem kZ {A B:Prop} (h:A):if true=true then A else B:=by
 rw[if_pos rfl];exact h
def aJ (H H':Hp):Prop:=∀b o,H b=some o->H' b=some o
theorem aJ.refl (H:Hp):aJ H H:=fun _ _ h=>h
theorem aJ.trans {H H1 H2:Hp} (a:aJ H H1) (b:aJ H1 H2):aJ H H2:=fun c o h=>b c o (a c o h)
theorem aJ.free {H H':Hp} (e:aJ H H') {l:Addr} (h:H' l=Option.none):H l=Option.none:=by
 cases q:H l with
 |none=>rfl
 |some o=>
  rw[e l o q] at h;cases h
theorem aJ.seq {K:D9} {H H':Hp} {a:Addr} {xs:List V} (e:aJ H H') (h:aH K H a xs):aH K H' a xs:=by
 rcases h with (h|⟨o,h⟩)|h
 ·exact .inl (.inl (e _ _ h))
 ·exact .inl (.inr ⟨o,e _ _ h⟩)
 ·exact .inr h
theorem bS:gb X (binaryOp .Mult) (rI (fun i j=>IntMulOk i j) fun i j=> .int (i*j)):=Cf fun _ _ _ _ _ _ _ hc q=>mul_int q hc
theorem bJ:gb X (binaryOp .FloorDiv) (rI (fun i j=>j≠0/\Builtin.divisionGoesByPylong i j=false) fun i j=> .int (i.fdiv j)):=Cf fun _ _ _ _ _ _ _ hc q=>floordiv_int hc.1 q (.inl hc.2)
theorem vP:gb X (binaryOp .Pow) (rI (fun i j=>0<=j/\(Builtin.Int.intBits i:Int)*j<=2^27) fun i j=> .int (i^j.toNat)):=Cf fun _ _ _ _ _ _ _ hc q=>pow_int hc.1 hc.2 q
theorem mC:dG X (.builtin "isinstance") (fun xs H Q=>∃i,xs= [.int i,.ty "int"]/\Q (.bl true) H):=by
 intro pins s σ H xs us Q I r h;obtain ⟨i,rfl,q⟩:=h;obtain ⟨u,w',rfl,⟨t,rfl⟩,e2⟩:=vals2 r;cases e2;exact PySem.call_isinstance (PySem.isinstance_true (Tx:= "int") PySem.F.isi_meta_int PySem.F.isi_self_int) ⟨rfl,⟨.bl true,H,I,rfl,q⟩⟩
theorem k7:dG X (.builtin "isinstance") (fun xs H Q=>∃i,xs= [.int i,.ty "bool"]/\Q (.bl false) H):=by
 intro pins s σ H xs us Q I r h;obtain ⟨i,rfl,q⟩:=h;obtain ⟨u,w',rfl,⟨t,rfl⟩,e2⟩:=vals2 r;cases e2;exact PySem.call_isinstance (PySem.isinstance_false_int (T:= "bool") (by decide) PySem.F.isi_meta_bool PySem.F.sub_int_bool) ⟨.bl false,H,I.tok _,rfl,q⟩
theorem mD:dG X (.builtin "isinstance") (fun xs H Q=>∃i,xs= [.bl i,.ty "bool"]/\Q (.bl true) H):=by
 intro pins s σ H xs us Q I r h;obtain ⟨i,rfl,q⟩:=h;obtain ⟨u,w',rfl,e1,e2⟩:=vals2 r;cases e1;cases e2;exact PySem.call_isinstance (PySem.isinstance_true (Tx:= "bool") PySem.F.isi_meta_bool PySem.F.isi_self_bool) ⟨rfl,⟨.bl true,H,I,rfl,q⟩⟩
theorem mE:dG X (.builtin "isinstance") (fun xs H Q=>∃a ys,xs= [.ref a,.ty "tuple"]/\bZ X.K H a ys/\Q (.bl true) H):=by
 intro pins s σ H xs us Q I r h;obtain ⟨a,ys,rfl,hs,q⟩:=h;obtain ⟨u,w',rfl,e1,e2⟩:=vals2 r;cases e1;cases e2;obtain ⟨its,_,p1,_⟩:=I.tuple hs;exact PySem.call_isinstance (PySem.isinstance_true (Tx:= "tuple") PySem.F.isi_meta_tuple PySem.F.isi_self_tuple) ⟨p1.typeIs,⟨.bl true,H,I,rfl,q⟩⟩
end L2
namespace Sw
open PySem
def Bd (n:Nat) (x:Int):Prop:=x.natAbs<2^n
theorem Bd.mono {m n:Nat} {x:Int} (h:Bd m x) (e:m<=n):Bd n x:=ER h (Nat.pow_le_pow_right (by decide) e)
theorem Bd.of_le {n:Nat} {x y:Int} (h:Bd n y) (e:x.natAbs<=y.natAbs):Bd n x:=Ef e h
theorem Bd.neg {n:Nat} {x:Int} (h:Bd n x):Bd n (-x):=h.of_le (by omega)
theorem Bd.mul {m n:Nat} {x y:Int} (h:Bd m x) (g:Bd n y):Bd (m+n) (x*y):=by
 unfold Bd at*;rw[Int.natAbs_mul,Nat.pow_add];exact Nat.mul_lt_mul_of_lt_of_le h (Nat.le_of_lt g) (Ef (F0 _) g)
theorem Bd.add {k:Nat} {x y:Int} (h:Bd k x) (g:Bd k y):Bd (k+1) (x+y):=by
 unfold Bd at*;rw[Nat.pow_succ];generalize 2^k=p at h g⊢;omega
theorem Bd.ok {m n:Nat} {x y:Int} (h:Bd m x) (g:Bd n y) (e:m+n<=134217728:=by decide):IntMulOk x y:=
 IntMulOk.of_le (intBits_le_iff.mpr h) (intBits_le_iff.mpr g) e
theorem Bd.div {n:Nat} {x y:Int} (h:Bd n y) (y0:y≠0) (e:n<=9000:=by decide):Builtin.divisionGoesByPylong x y=false:=by
 refine PyProof.noPylong_of_log2 ((Nat.log2_lt (by omega)).mpr ?_)
 exact ER h (Nat.pow_le_pow_right (by decide) e)
theorem Bd.one:Bd 1 1:=by unfold Bd;decide
def bA (a b:Int):Int:=((Int.gcd a b:Nat):Int)
theorem k8 (a b:Int):0<=bA a b:=Int.natCast_nonneg _
theorem oJ (a b:Int):bA (-a) b=bA a b:=by unfold bA;rw[Int.neg_gcd]
theorem oK (a b:Int):bA a (-b)=bA a b:=by unfold bA;rw[Int.gcd_neg]
theorem jV {g l:Int} (hl:0<l):bA l (g.fmod l)=bA g l:=by
 unfold bA;have e:g.fmod l=g-(g.fdiv l)*l:=by rw[Int.fmod_def,Int.mul_comm]
 rw[e,Int.gcd_comm l,Int.gcd_sub_mul_right_left]
def tm (i:Int):Int:=if i<0 then-i else i
theorem qc (i:Int):0<=tm i:=by unfold tm;split<;>omega
theorem tq (a b:Int):bA (tm a) (tm b)=bA a b:=by
 unfold tm
 split<;>split<;>simp only[oJ,oK]
theorem jW {g:Int} (h:0<=g):bA g 0=g:=by
 unfold bA;rw[Int.gcd_zero_right];omega
theorem eV {a b:Int} (h:bA a b=0):a=0/\b=0:=by
 unfold bA at h;exact Int.gcd_eq_zero_iff.mp (by omega)
theorem dO (a b:Int):bA a b∣a:=Int.gcd_dvd_left ..
theorem dP (a b:Int):bA a b∣b:=Int.gcd_dvd_right ..
theorem tu {a b:Int} (h:bA a b≠0):bA (a.fdiv (bA a b)) (b.fdiv (bA a b))=1:=by
 have p:0<bA a b:=by have:=k8 a b;omega
 rw[F9 a (F8 p),F9 b (F8 p)];obtain ⟨x,hx⟩:=dO a b;obtain ⟨y,hy⟩:=dP a b;have e1:a/bA a b=x:=by
  conv=>lhs;arg 1;rw[hx]
  exact Fd x h
 have e2:b/bA a b=y:=by
  conv=>lhs;arg 1;rw[hy]
  exact Fd y h
 rw[e1,e2];have m:bA (bA a b*x) (bA a b*y)=bA a b*bA x y:=by
  show ((Int.gcd _ _:Nat):Int)=_*((Int.gcd x y:Nat):Int);rw[Int.gcd_mul_left,Et]
  congr 1
 rw[<-hx,<-hy] at m;have:=Int.eq_one_of_mul_eq_self_right h m.symm;exact this
structure Fr (p q a b:Int):Prop where
 pos:0<q
 low:bA p q=1
 same:p*b=a*q
 bt:p.natAbs<=a.natAbs
 bb:q.natAbs<=b.natAbs
structure Ch (p q:Int):Prop where
 pos:0<q
 low:bA p q=1
theorem Fr.to {p q a b:Int} (h:Fr p q a b):Ch p q:=⟨h.pos,h.low⟩
theorem iz {p q k:Int} (h:bA p q=1) (d:q∣p*k):q∣k:=by
 have c:Int.gcd q p=1:=by unfold bA at h;rw[Int.gcd_comm];omega
 have d':q.natAbs∣p.natAbs*k.natAbs:=by rw[<-Int.natAbs_mul];exact Int.natAbs_dvd_natAbs.mpr d
 exact Int.natAbs_dvd_natAbs.mp (Nat.Coprime.dvd_of_dvd_mul_left (show Nat.Coprime q.natAbs p.natAbs from c) d')
theorem oM {p q p' q':Int} (h:Ch p q) (h':Ch p' q') (e:p*q'=p'*q):p=p'/\q=q':=by
 have d1:q∣q':=iz h.low (by rw[e];exact Int.dvd_mul_left ..)
 have d2:q'∣q:=iz h'.low (by rw[<-e];exact Int.dvd_mul_left ..)
 have eq:q=q':=by
  have n1:=Int.le_of_dvd h'.pos d1;have n2:=Int.le_of_dvd h.pos d2;omega
 subst eq;exact ⟨Int.eq_of_mul_eq_mul_right (by have:=h.pos;omega) e,rfl⟩
def jX (a b:Int):Int:=if b<0 then-bA a b else bA a b
theorem tw {a b:Int} (h:b≠0):jX a b≠0:=by
 have g:bA a b≠0:=fun z=>h (eV z).2
 unfold jX;split<;>omega
theorem AH {a b:Int} (h:b≠0):Fr (a.fdiv (jX a b)) (b.fdiv (jX a b)) a b:=by
 have g:bA a b≠0:=fun z=>h (eV z).2
 have p:0<bA a b:=by have:=k8 a b;omega
 have c0:=tw (a:=a) h;have da:jX a b∣a:=by
  unfold jX;split
  ·exact Int.neg_dvd.mpr (dO a b)
  ·exact dO a b
 have db:jX a b∣b:=by
  unfold jX;split
  ·exact Int.neg_dvd.mpr (dP a b)
  ·exact dP a b
 obtain ⟨x,hx⟩:=da;obtain ⟨y,hy⟩:=db;have ex:a.fdiv (jX a b)=x:=by
  conv=>lhs;arg 1;rw[hx]
  exact Int.mul_fdiv_cancel_left x c0
 have ey:b.fdiv (jX a b)=y:=by
  conv=>lhs;arg 1;rw[hy]
  exact Int.mul_fdiv_cancel_left y c0
 rw[ex,ey];have yp:0<y:=by
  have e:=hy;unfold jX at e;rcases (by omega:y<0∨y=0∨0<y) with q|q|q
  ·exfalso
   split at e
   ·rename_i hb;have:=Int.mul_neg_of_pos_of_neg p q;rw[Int.neg_mul] at e;omega
   ·have:=Int.mul_neg_of_pos_of_neg p q;omega
  ·rw[q] at hy;omega
  ·exact q
 have lowx:bA x y=1:=by
  have m:bA (jX a b*x) (jX a b*y)=bA a b*bA x y:=by
   show ((Int.gcd _ _:Nat):Int)=_*((Int.gcd x y:Nat):Int);rw[Int.gcd_mul_left,Et]
   congr 1
   unfold jX;split<;>omega
  rw[<-hx,<-hy] at m;exact Int.eq_one_of_mul_eq_self_right g m.symm
 refine ⟨yp,lowx,?_,?_,?_⟩
 ·conv=>lhs;rw[hy]
  conv=>rhs;rw[hx]
  rw[<-Int.mul_assoc,Int.mul_comm x]
 ·have:a.natAbs=(jX a b).natAbs*x.natAbs:=by conv=>lhs;rw[hx];rw[Int.natAbs_mul]
  rw[this];exact Nat.le_mul_of_pos_left _ (by omega)
 ·have:b.natAbs=(jX a b).natAbs*y.natAbs:=by conv=>lhs;rw[hy];rw[Int.natAbs_mul]
  rw[this];exact Nat.le_mul_of_pos_left _ (by omega)
end Sw
namespace L2
open PySem
inductive AI (K:D9) (H:Hp):V->String->Bool->Prop where
 |ii (i:Int):AI K H (.int i) "int" true
 |ib (i:Int):AI K H (.int i) "bool" false
 |bb (b:Bool):AI K H (.bl b) "bool" true
 |tt (a:Addr) (ys:List V) (h:bZ K H a ys):AI K H (.ref a) "tuple" true
theorem gH {X:Cx}:dG X (.builtin "isinstance") (fun xs H Q=>∃x T b,xs= [x,.ty T]/\AI X.K H x T b/\Q (.bl b) H):=by
 intro pins s σ H xs us Q I r h;obtain ⟨x,T,b,rfl,i,q⟩:=h;cases i with
 |ii i=>exact mC pins s σ H _ us Q I r ⟨i,rfl,q⟩
 |ib i=>exact k7 pins s σ H _ us Q I r ⟨i,rfl,q⟩
 |bb i=>exact mD pins s σ H _ us Q I r ⟨i,rfl,q⟩
 |tt a ys h=>exact mE pins s σ H _ us Q I r ⟨a,ys,rfl,h,q⟩
end L2
namespace Sw
open PySem L2
theorem dT {p A B:Prop} [Decidable p] (h:p) (a:A):if decide p=true then A else B:=by rw[if_pos (decide_eq_true h)];exact a
theorem dF {p A B:Prop} [Decidable p] (h:¬p) (b:B):if decide p=true then A else B:=by rw[if_neg (by simp[h])];exact b
theorem d2 {p A B:Prop} [Decidable p] (h1:p->A) (h2:¬p->B):if decide p=true then A else B:=by
 by_cases h:p
 ·exact dT h (h1 h)
 ·exact dF h (h2 h)
theorem nT {p A B:Prop} [Decidable p] (h:¬p) (a:A):if (!decide p)=true then A else B:=by rw[if_pos (by simp[h])];exact a
theorem nF {p A B:Prop} [Decidable p] (h:p) (b:B):if (!decide p)=true then A else B:=by rw[if_neg (by simp[h])];exact b
theorem vi {a b:Int} (h:a=b):V.int a=V.int b:=by rw[h]
theorem vj {a b:Int} (h:V.int a=V.int b):a=b:=by cases h;rfl
theorem lZ {a b:Int} {A B:Prop} (h1:a=b->A) (h2:a≠b->B):if decide (V.int a=V.int b)=true then A else B:=d2 (fun h=>h1 (vj h)) fun h=>h2 fun e=>h (vi e)
theorem DW {a b:Int} {A B:Prop} (h1:a≠b->A) (h2:a=b->B):if (!decide (V.int a=V.int b))=true then A else B:=by
 by_cases h:a=b
 ·exact nF (vi h) (h2 h)
 ·exact nT (fun e=>h (vj e)) (h1 h)
theorem DX {a b:Int} {A B:Prop} (h:a≠b) (x:B):if decide (V.int a=V.int b)=true then A else B:=dF (fun e=>h (vj e)) x
def w6:Sp:=fun vs H Q _=>∃a b:Int,vs= [.int a,.int b]/\Q (.int (bA a b)) H
def tz (K:D9):Sp:=fun vs H Q _=>∃(a:Addr) (ns:List Int) (k:Int),vs= [.ref a,.int k]/\aH K H a (ns.map V.int)/\0<=k/\∀v:Int,Q (.int v) H
def gI:Sp:=fun vs H Q _=>∃v:Int,vs= [.int v]/\Q (.bl true) H
def qd (K:D9):Sp:=fun vs H Q _=>∃(a:Addr) (ns:List Int),vs= [.ref a]/\aH K H a (ns.map V.int)/\ns.length<=63/\∀H',Q (.bl true) H'
theorem qe {ns:List Int} {k:Int} (h0:0<=k) (h:k<(((ns.map V.int).length:Nat):Int)):∃v:Int,ig (ns.map V.int) k=some (.int v):=by
 rw[E5] at h;have hk:k.toNat<ns.length:=by omega
 have ek:k=((k.toNat:Nat):Int):=by omega
 have q:ig (ns.map V.int) ((k.toNat:Nat):Int)=some (.int ns[k.toNat]):=aF (by rw[E7,E1 hk]<;>rfl)
 rw[<-ek] at q;exact ⟨_,q⟩
theorem cut {t u:TS} {D:Ends} {σ:L2.St} {H:Hp} (I:L2.St->Hp->Prop) (h1:∀N:L2.St->Hp->Prop,(∀σ H,I σ H->N σ H)->t {D with nx:=N} σ H) (h2:∀σ H,I σ H->u D σ H):ou t u D σ H:=h1 _ h2
theorem AJ {K:D9} {H H':Hp} {a:Addr} {xs:List V} (e:aJ H H') (h:bZ K H a xs):bZ K H' a xs:=by
 rcases h with (h|⟨o,h⟩)|h
 ·exact .inl (.inl (e _ _ h))
 ·exact .inl (.inr ⟨o,e _ _ h⟩)
 ·exact .inr h
theorem aj {H:Hp} {p:Addr} (h:H p=none) (o:HO):aJ H (aS H p o):=fun b u q=>by rw[az (aM q h)];exact q
theorem xV {n:Nat} {a b:Int} (b0:b≠0) (h:Bd n b):Bd n (jX a b):=by
 have d:bA a b∣b:=dP a b;have k:=Nat.le_of_dvd (by omega) (Int.natAbs_dvd_natAbs.mpr d)
 refine h.of_le ?_;unfold jX
 split<;>omega
def Pair (H:Hp) (Q:VK) (p q:Int):Prop:=∀(t:Addr) (H':Hp),aJ H H'->H' t=some (.tup [.int p,.int q])->Q (.ref t) H'
def oN:Sp:=fun vs H Q _=>∃a b:Int,vs= [.int a,.int b]/\b≠0/\Bd 8500 b/\∀p q:Int,Fr p q a b->Pair H Q p q
structure cQ (K:D9) (n:Nat) (H:Hp) (t:Addr) (p q:Int):Prop where
 at_:bZ K H t [.int p,.int q]
 pos:0<q
 bp:Bd n p
 bq:Bd n q
theorem cQ.same {K:D9} {n:Nat} {H H':Hp} {t:Addr} {p q:Int} (h:cQ K n H t p q) (e:aJ H H'):cQ K n H' t p q:=⟨AJ e h.at_,h.pos,h.bp,h.bq⟩
theorem cQ.mono {K:D9} {m n:Nat} {H:Hp} {t:Addr} {p q:Int} (h:cQ K m H t p q) (e:m<=n):cQ K n H t p q:=⟨h.at_,h.pos,h.bp.mono e,h.bq.mono e⟩
theorem cQ.of {K:D9} {n:Nat} {H:Hp} {t:Addr} {p q a b:Int} (f:Fr p q a b) (ha:Bd n a) (hb:Bd n b) (e:H t=some (.tup [.int p,.int q])):cQ K n H t p q:=⟨bZ.of e,f.pos,ha.of_le f.bt,hb.of_le f.bb⟩
def xW (K:D9):Sp:=fun vs H Q _=>∃(t:Addr) (p q:Int),vs= [.ref t]/\cQ K 8000 H t p q/\Q (.int (-((-p).fdiv q))) H
def tD (K:D9):Sp:=fun vs H Q _=>∃(t:Addr) (p q:Int),vs= [.ref t]/\cQ K 8000 H t p q/\Q (.int (p.fdiv q)) H
theorem mF {p q:Int} (h:0<q):p.fdiv q*q<=p/\p<(p.fdiv q+1)*q:=by
 have e:=Int.fmod_def p q;have h1:=EH p h;have h2:=Ec p h;have e2:p.fdiv q*q=q*p.fdiv q:=Int.mul_comm ..;have e3:(p.fdiv q+1)*q=q*p.fdiv q+q:=by rw[Int.add_mul,e2,Int.one_mul]
 omega
theorem jY {p q:Int} (h:0<q):p<= -((-p).fdiv q)*q/\(-((-p).fdiv q)-1)*q<p:=by
 have b:=mF (p:= -p) h;have e1: -((-p).fdiv q)*q= -((-p).fdiv q*q):=Int.neg_mul ..;have e2:(-((-p).fdiv q)-1)*q= -(((-p).fdiv q+1)*q):=by rw[<-Int.neg_mul];congr 1;omega
 omega
theorem qf {n:Nat} {p q:Int} (h:Bd n p):Bd n (p.fdiv q):=h.of_le (natAbs_fdiv_le p q)
structure br (K:D9) (x qual:Str) (st:Stmt) (dV:Value) (f:Addr) (fd:FuncData):Prop where
 ex:∃(oc:Value) (od:Iu) (kV doc pm:Value) (an:Iu) (cdv ct:Value) (osl:Io),
  fd=F5 x qual (dL st) (di st) (av st) dV kV doc pm an cdv ct/\K.lookup f=some ⟨oc,od,.func fd,osl⟩/\PySem.W.codeIn K cdv qual=true
 kp:F6 K (.ref f)=true
section
variable {P:Program} {w:World} {K:D9} {mg:Il} {base:Heap}
theorem br.ok {x qual:Str} {st:Stmt} {dV:Value} {f:Addr} {fd:FuncData} {N ps:Ip} {k:Nat} {sp:Sp} (F:br K x qual st dV f fd) (S:aB N ps (av st)) (len:∀vs H Q E,sp vs H Q E->vs.length=ps.length)
  (hbody:∀(cdv:Value) (A:Around) (outer:List Env) (s:Shared) (H:Hp) (vs:List V) (Q:VK) (E:XK),cn k (A.deeper (PyProof.Rows.envOfC qual (av st) s.heap.objs.size f cdv))->sp vs H Q E->
   ∃t,iV (iI a7 P w K mg base N qual (av st) f cdv A outer s H E).nox (di st) t/\t {nx:=fun _ H'=>Q .non H',rt:=Q} (start N vs) H):aY P w K mg base a7 (k+1) f fd ps sp:=by
 obtain ⟨oc,od,kV,doc,pm,an,cdv,ct,osl,rfl,lk,hcd⟩:=F.ex;refine wZ lk hcd S len fun A outer s H vs Q E hr hsp=>?_
 obtain ⟨t,h,q⟩:=hbody cdv A outer s H vs Q E hr hsp;exact ⟨t,h.nox,q⟩
theorem br.binds {x qual:Str} {st:Stmt} {T:Addr} {f:Addr} {fd:FuncData} {ps:Ip} {o:Obj} {items:Array Value} {n:Nat} {ds:Ir} (F:br K x qual st (.ref T) f fd) (ho:K.lookup T=some o) (hs:o.data= .seq items n)
  (h:∀(kV doc pm:Value) (an:Iu) (cdv ct:Value) (us:Ir),(us++ds).length=ps.length->∃k:Option (Array Value)->Sem (List (Str×Value)),bindArgs (F5 x qual (dL st) (di st) (av st) (.ref T) kV doc pm an cdv ct) ⟨us,[]⟩=seqItems? (.ref T)>>=k/\k (some items)=pure (ps.zip (us++ds))):Binds K fd ps ds:=by
 obtain ⟨oc,od,kV,doc,pm,an,cdv,ct,osl,rfl,lk,hcd⟩:=F.ex;intro s us KX hl;obtain ⟨k,h1,h2⟩:=h kV doc pm an cdv ct us hl;exact PySem.W.binds_K KX rfl ho hs h1 h2
theorem br.binds0 {x qual:Str} {st:Stmt} {dV:Value} {f:Addr} {fd:FuncData} {ps:Ip} (F:br K x qual st dV f fd)
  (h:∀(kV doc pm:Value) (an:Iu) (cdv ct:Value) (us:Ir),us.length=ps.length->bindArgs (F5 x qual (dL st) (di st) (av st) dV kV doc pm an cdv ct) ⟨us,[]⟩=pure (ps.zip us)):Binds K fd ps []:=by
 obtain ⟨oc,od,kV,doc,pm,an,cdv,ct,osl,rfl,lk,hcd⟩:=F.ex;exact .all (h kV doc pm an cdv ct)
theorem gJ {x qual:Str} {st:Stmt} {f:Addr} {oc dV:Value} {od an:Iu} {osl:Io} {kV doc pm cdv ct:Value} (l:K.lookup f=some ⟨oc,od,.func (F5 x qual (dL st) (di st) (av st) dV kV doc pm an cdv ct),osl⟩)
  (c:PySem.W.codeIn K cdv qual=true) (k:F6 K (.ref f)=true):br K x qual st dV f (F5 x qual (dL st) (di st) (av st) dV kV doc pm an cdv ct):=⟨⟨oc,od,kV,doc,pm,an,cdv,ct,osl,rfl,l,c⟩,k⟩
end
def tE (K:D9):Sp:=fun vs H Q _=>∃(t t':Addr) (p q p' q':Int),vs= [.ref t,.ref t']/\cQ K 4000 H t p q/\cQ K 4000 H t' p' q'/\∀r s:Int,Fr r s (p*q'+p'*q) (q*q')->Pair H Q r s
def oO (K:D9):Sp:=fun vs H Q _=>∃(t t':Addr) (p q p' q':Int),vs= [.ref t,.ref t']/\cQ K 4000 H t p q/\cQ K 4000 H t' p' q'/\∀r s:Int,Fr r s (p*p') (q*q')->Pair H Q r s
def tF (K:D9):Sp:=fun vs H Q _=>∃(t t':Addr) (p q p' q':Int),vs= [.ref t,.ref t']/\cQ K 4000 H t p q/\cQ K 4000 H t' p' q'/\p'≠0/\∀r s:Int,Fr r s (p*q') (q*p')->Pair H Q r s
theorem tG {x y k:Int} (h:x*k=y*k) (k0:k≠0):x=y:=Int.eq_of_mul_eq_mul_right k0 h
theorem oP {x y:Int} (h:0<x) (g:0<y):x*y≠0:=by have:=Int.mul_pos h g;omega
theorem tH {p q p' q' a b c d r s:Int} (h1:p*b=a*q) (h2:p'*d=c*q') (q0:0<q) (q1:0<q') (h:r*(q*q')=(p*q'+p'*q)*s):r*(b*d)=(a*d+c*b)*s:=by
 refine tG (k:=q*q') ?_ (oP q0 q1)
 grind
end Sw
namespace XH
open PySem
structure Mv (fs ch:Iq) (h h':Heap):Prop where
 keep:∀b o,b∉fs->b∉ch->h.get? b=some o->h'.get? b=some o
 slot:∀b o,b∈fs->b∉ch->h.get? b=some o->∃sl,h'.get? b=some {o with slots:=sl}
 there:∀b o,h.get? b=some o->∃o',h'.get? b=some o'
theorem Mv.refl (fs ch:Iq) (h:Heap):Mv fs ch h h:=⟨fun _ _ _ _ q=>q,fun _ o _ _ q=>⟨o.slots,q⟩,fun _ o q=>⟨o,q⟩⟩
theorem Mv.trans {fs c1 c2 ch:Iq} {h h1 h2:Heap} (x:Mv fs c1 h h1) (y:Mv fs c2 h1 h2) (k1:∀b,b∈c1->b∈ch) (k2:∀b,b∈c2->b∈ch):Mv fs ch h h2 where
 keep:=fun b o hf hc q=>y.keep b o hf (fun z=>hc (k2 b z)) (x.keep b o hf (fun z=>hc (k1 b z)) q)
 slot:=fun b o hf hc q=>by
  obtain ⟨sl,q1⟩:=x.slot b o hf (fun z=>hc (k1 b z)) q
  obtain ⟨sl2,q2⟩:=y.slot b _ hf (fun z=>hc (k2 b z)) q1
  exact ⟨sl2,q2⟩
 there:=fun b o q=>by
  obtain ⟨o1,q1⟩:=x.there b o q;exact y.there b o1 q1
inductive w8 where
 |new
 |fl (v:Value)
def w8.Is (F:Addr->Prop) (h:Heap) (e:Addr) (vs:Array Value):w8->Prop
 | .new=>vs[1]?=some .none
 | .fl v=>∃T oT ts,vs[1]?=some (.ref T)/\F T/\T≠e/\h.get? T=some oT/\oT.data= .fields ts/\ts[3]?=some v
def Fz (vs:Array Value):Prop:=1<vs.size/\vs[2]?=some .none
theorem Fz.set {vs:Array Value} (h:Fz vs) (v:Value):Fz (vs.setIfInBounds 1 v):=⟨by simpa using h.1,by rw[Array.getElem?_setIfInBounds];simp[h.2]⟩
structure XO (F:Addr->Prop) (h:Heap) (e:Addr) (cls:Value) (dx:Iu) (st:w8):Prop where
 ex:∃oe vs,h.get? e=some oe/\oe.cls=cls/\oe.dict=dx/\oe.data= .fields vs/\Fz vs/\st.Is F h e vs
 fr:F e
theorem XO.mono {F G:Addr->Prop} {h:Heap} {e:Addr} {cls:Value} {dx:Iu} {st:w8} (x:XO F h e cls dx st) (k:∀b,F b->G b):XO G h e cls dx st:=by
 obtain ⟨⟨oe,vs,a,b,c,d,f,g⟩,fr⟩:=x;refine ⟨⟨oe,vs,a,b,c,d,f,?_⟩,k _ fr⟩;cases st with
 |new=>exact g
 |fl v=>
  obtain ⟨T,oT,ts,g1,g2,g3⟩:=g;exact ⟨T,oT,ts,g1,k _ g2,g3⟩
theorem jZ (o:Obj) (f:Array Value->Array Value):(o.mapFields f).dict=o.dict:=by
 obtain ⟨c,d,dt,sl⟩:=o;cases dt<;>rfl
section
variable {M:Model} {A:Around} {E:Ik} {s:Shared}
theorem mG {base:Heap} {env:Env} {outer:List Env} {L e:Addr} {oe:Obj} {vs:Array Value} {head:Value} {had:Bool} {Q:Unit->Shared->Prop}
  (hfr:A.frames=some (env::outer)) (hl:s.heap.FunFrames base (env::outer)) (hf:env.frame=some L) (he:s.heap.get? e=some oe) (hd:oe.data= .fields vs) (hsz:1<vs.size)
  (h:∀h' T,Mv ((env::outer).filterMap (·.frame)) [e] s.heap h'->s.heap.get? T=none->T≠e->h'.get? e=some (oe.mapFields (·.setIfInBounds 1 (.ref T)))->
   (∃oT ts,h'.get? T=some oT/\oT.data= .fields ts/\ts[3]?=some (rawInt L))->Q () {s with heap:=h'}):
  wpAny M A (do let a<-frameOf env;let pl<-entryPlaceOf L had;let b<-EntryCells.newEntry head a .none (rawInt L) .none pl;setField (.ref e) 1 b) Q E s:=by
 have hne:e∉(env::outer).filterMap (·.frame):=by
  intro hm;obtain ⟨_,o,ho,hnf⟩:=hl.mem hm;rw[he] at ho;cases ho;exact hnf vs hd
 apply wpAny_bind;apply wpAny_frameOf_fun hfr hl hf;intro h1 hs;apply wpAny_bind;apply wpAny_entryPlaceOf;intro pl hpl;unfold EntryCells.newEntry newFields;apply wpAny_bind;refine wpAny_newObj_type ?_ (hpl.sizeOk5 ..);have e1:h1.get? e=some oe:=(hs.2.1 e hne).trans he;generalize hob:({cls:= .type "traceback",dict:=none,data:= .fields ([head,.ref L,.none,rawInt L,.none]++(if pl.isEmpty then List.replicate 6 Value.none else pl)).toArray}:Obj)=ob
 have e2:=Heap.get?_push_of_some (h:=h1) ob e1;refine wpAny_setField e2 hd hsz ?_;have hTe:h1.objs.size≠e:=FK (Heap.lt_size e1);have d3:=Obj.data_mapFields hd (·.setIfInBounds 1 (Value.ref h1.objs.size));have e3:=Heap.get?_update_self (Obj.mapFields (·.setIfInBounds 1 (Value.ref h1.objs.size))) e2 (Obj.isFreed_of_fields d3);have kp:∀b o,b≠e->h1.get? b=some o->((h1.push ob).update e (Obj.mapFields (·.setIfInBounds 1 (Value.ref h1.objs.size)))).get? b=some o:=by
  intro b o hb q;rw[Heap.get?_update_other _ _ (Ne.symm hb)];exact Heap.get?_push_of_some _ q
 have t3:((h1.push ob).update e (Obj.mapFields (·.setIfInBounds 1 (Value.ref h1.objs.size)))).get? h1.objs.size=some ob:=by
  rw[Heap.get?_update_other _ _ (Ne.symm hTe)];exact Heap.get?_push_size h1 (by rw[<-hob];rfl)
 refine h _ h1.objs.size ⟨?_,?_,?_⟩ ?_ hTe e3 ?_
 ·intro b o hb hc q;exact kp b o (fun z=>hc (by rw[z];exact EC.mpr rfl)) ((hs.2.1 b hb).trans q)
 ·intro b o hb hc q;obtain ⟨sl,q1⟩:=hs.2.2 b o q;exact ⟨sl,kp b _ (fun z=>hc (by rw[z];exact EC.mpr rfl)) q1⟩
 ·intro b o q
  by_cases hb:b=e
  ·subst hb;exact ⟨_,e3⟩
  ·obtain ⟨sl,q1⟩:=hs.2.2 b o q;exact ⟨_,kp b _ hb q1⟩
 ·exact Heap.get?_none_of_le (by rw[hs.1];exact EB _)
 ·subst hob;refine ⟨_,_,t3,rfl,?_⟩;rcases hpl with rfl|⟨_,_,_,_,_,_,_,rfl⟩<;>simp
theorem rG {F:Addr->Prop} {e:Addr} {cls v:Value} {dx fl:Iu} {Q:Unit->Shared->Prop} (x:XO F s.heap e cls dx (.fl v))
  (h:∀h' T,F T->Mv [] [T] s.heap h'->XO F h' e cls dx (.fl (fl.elim .none fun f=>rawInt f))->Q () {s with heap:=h'}):wpAny M A (setFlight (.ref e) fl) Q E s:=by
 obtain ⟨⟨oe,vs,he,hc,hdx,hd,hsz,T,oT,ts,h1,hF,hTe,hT,hdT,h3⟩,fr⟩:=x;have z3:3<ts.size:=(FX.mp h3).1;have oth:∀b,b≠T->(s.heap.update T (Obj.mapFields (·.setIfInBounds 3 (fl.elim Value.none fun f=>rawInt f)))).get? b=s.heap.get? b:=fun b hb=>Heap.get?_update_other _ _ (Ne.symm hb)
 have t4:=Heap.get?_update_self (Obj.mapFields (·.setIfInBounds 3 (fl.elim Value.none fun f=>rawInt f))) hT (Obj.isFreed_of_fields (Obj.data_mapFields hdT _))
 unfold setFlight;apply wpAny_bind;apply wpAny_field he hd h1;rw[if_pos (by simp)]
 apply wpAny_setField hT hdT z3;refine h _ T hF ⟨?_,fun b o hb=>absurd hb (by simp),?_⟩ ⟨⟨oe,vs,(oth e (Ne.symm hTe)).trans he,hc,hdx,hd,hsz,T,_,_,h1,hF,hTe,t4,Obj.data_mapFields hdT _,by simp[z3]⟩,fr⟩
 ·intro b o _ hb q;exact (oth b (fun z=>hb (by rw[z];exact EC.mpr rfl))).trans q
 ·intro b o q
  by_cases hb:b=T
  ·subst hb;exact ⟨_,t4⟩
  ·exact ⟨o,(oth b hb).trans q⟩
theorem vQ {F:Addr->Prop} {base:Heap} {env:Env} {outer:List Env} {L e:Addr} {cls:Value} {dx:Iu} {st:w8} {Q:Unit->Shared->Prop}
  (hfr:A.frames=some (env::outer)) (hl:s.heap.FunFrames base (env::outer)) (hf:env.frame=some L) (x:XO F s.heap e cls dx st)
  (h:∀h' ch,(∀b∈ch,F b)->Mv ((env::outer).filterMap (·.frame)) ch s.heap h'->XO (fun b=>F b∨s.heap.get? b=none) h' e cls dx (.fl (rawInt L))->Q () {s with heap:=h'}):wpAny M A (noteFrame (.ref e) env) Q E s:=by
 obtain ⟨⟨oe,vs,he,hc,hdx,hd,hsz,hst⟩,fr⟩:=x;unfold noteFrame;simp only[hf];cases st with
 |new=>
  apply wpAny_bind;apply wpAny_field he hd hst;rw[if_neg (by decide)]
  refine mG hfr hl hf he hd hsz.1 fun h' T mv tn tne he' ⟨oT,ts,hT,hdT,h3⟩=>?_
  refine h h' [e] (fun b hb=>by rw[EC.mp hb];exact fr) mv ⟨⟨_,_,he',?_,?_,Obj.data_mapFields hd _,hsz.set _,T,oT,ts,by simp[hsz.1],.inr tn,tne,hT,hdT,h3⟩,.inl fr⟩
  ·rw[Obj.cls_mapFields];exact hc
  ·rw[jZ];exact hdx
 |fl v=>
  obtain ⟨T,oT,ts,h1,hF,hTe,hT,hdT,h3⟩:=hst;have z3:3<ts.size:=(FX.mp h3).1;apply wpAny_bind;apply wpAny_field he hd h1;rw[if_pos (by simp)]
  apply wpAny_bind;apply wpAny_field hT hdT h3
  by_cases hv:(v==rawInt L)=true
  ·rw[if_pos hv];have ev:v=rawInt L:=beq_iff_eq.mp hv;subst ev;refine wpAny_pure (h s.heap [] (fun b hb=>absurd hb (by simp)) (.refl ..) ⟨⟨oe,vs,he,hc,hdx,hd,hsz,T,oT,ts,h1,.inl hF,hTe,hT,hdT,h3⟩,.inl fr⟩)
  ·rw[if_neg hv];apply wpAny_bind;apply wpAny_setField hT hdT z3;have oth:∀b,b≠T->(s.heap.update T (Obj.mapFields (·.setIfInBounds 3 Value.none))).get? b=s.heap.get? b:=fun b hb=>Heap.get?_update_other _ _ (Ne.symm hb)
   have t4:=Heap.get?_update_self (Obj.mapFields (·.setIfInBounds 3 Value.none)) hT (Obj.isFreed_of_fields (Obj.data_mapFields hdT _));have nrec:∀b o,s.heap.get? b=some o->(∀vs,o.data≠ .fields vs)->b≠T:=by
    intro b o hb hn z;rw[z,hT] at hb;cases hb;exact hn ts hdT
   have mv1:Mv ((env::outer).filterMap (·.frame)) [T] s.heap (s.heap.update T (Obj.mapFields (·.setIfInBounds 3 Value.none))):=by
    refine ⟨fun b o _ hb q=>(oth b (fun z=>hb (by rw[z];exact EC.mpr rfl))).trans q,fun b o _ hb q=>⟨o.slots,(oth b (fun z=>hb (by rw[z];exact EC.mpr rfl))).trans q⟩,fun b o q=>?_⟩
    by_cases hb:b=T
    ·subst hb;exact ⟨_,t4⟩
    ·exact ⟨o,(oth b hb).trans q⟩
   refine mG (s:={s with heap:=s.heap.update T (Obj.mapFields (·.setIfInBounds 3 Value.none))}) hfr (hl.of_keeps fun b o hb hn=>⟨o,(oth b (nrec b o hb hn)).trans hb,rfl⟩) hf ((oth e (Ne.symm hTe)).trans he) hd hsz.1 fun h' T2 mv tn tne he' ⟨oT2,ts2,hT2,hdT2,h32⟩=>?_
   refine h h' [T,e] ?_ (mv1.trans mv (fun b hb=>by simp at hb;simp[hb]) (fun b hb=>by simp at hb;simp[hb])) ⟨⟨_,_,he',?_,?_,Obj.data_mapFields hd _,hsz.set _,T2,oT2,ts2,by simp[hsz.1],.inr ?_,tne,hT2,hdT2,h32⟩,.inl fr⟩
   ·intro b hb;simp at hb;rcases hb with rfl|rfl
    ·exact hF
    ·exact fr
   ·rw[Obj.cls_mapFields];exact hc
   ·rw[jZ];exact hdx
   ·cases q:s.heap.get? T2 with
    |none=>rfl
    |some o=>
     obtain ⟨o',q'⟩:=mv1.there T2 o q;rw[q'] at tn;cases tn
end
end XH
namespace L2
open PySem PySem.Spec PyProof.Rows XH
structure gK (P:Program) (w:World) (outer:List Env) (H:Hp) (s:Shared) (a:Addr) (H':Hp) (cls:Value) (dx:Iu) (st:w8) (s':Shared):Prop where
 os:s'.os=s.os
 bare:AllBare s'.gens
 un:Un (iU outer) [] H H' s.heap s'.heap
 hok:f8 P w H' s'.heap
 xo:XO (fun b=>s.heap.get? b=none/\H' b=none) s'.heap a cls dx st
def k9 (P:Program) (w:World):oF:=fun outer H s E e s'=>∃a H' cls dx st,e= .ref a/\gK P w outer H s a H' cls dx st s'/\E cls dx H'
section
variable {P:Program} {w:World} {H H':Hp} {h h' h0:Heap} {fs ch:Iq} {a:Addr} {o:HO}
theorem cx.there (x:cx P w H h a o):∃u,h.get? a=some u:=by
 cases o with
 |lst xs=>obtain ⟨_,_,_,_,e⟩:=x;exact ⟨_,e⟩
 |tup xs=>obtain ⟨_,_,_,_,e,_⟩:=x;exact ⟨_,e⟩
 |dK kvs=>obtain ⟨_,_,_,_,_,_,_,e,_⟩:=x;exact ⟨_,e⟩
 |dT kvs=>obtain ⟨_,_,_,_,_,_,_,e,_⟩:=x;exact ⟨_,e⟩
 |set S n=>obtain ⟨_,_,_,_,e,_⟩:=x;exact ⟨_,e⟩
 |ins C dx fs=>obtain ⟨_,_,_,e,_⟩:=x;exact ⟨_,e⟩
 |own y=>exact x
 |xd fs=>obtain ⟨_,⟨_,_,_,e,_⟩,_⟩:=x;exact ⟨_,e⟩
 |rng lo hi=>obtain ⟨_,_,_,e⟩:=x;exact ⟨_,e⟩
 |frz ob u=>obtain ⟨e,_⟩:=x;exact ⟨_,e⟩
 |tbl ps=>exact ⟨_,show h.get? a=some _ from x⟩
 |met f y=>exact ⟨_,show h.get? a=some _ from x⟩
 |ext φ=>obtain ⟨_,⟨_,e⟩,_⟩:=x;exact ⟨_,e⟩
theorem f8.none_of (k:f8 P w H h) (q:h.get? a=none):H a=none:=by
 cases r:H a with
 |none=>rfl
 |some o=>
  obtain ⟨u,e⟩:=(k a o r).there;rw[q] at e;cases e
theorem xc (u:Un fs [] H H' h0 h) (m:Mv fs ch h h') (hc:∀b∈ch,h0.get? b=none):Un fs [] H H' h0 h' where
 keep:=fun b o q n hb hx=>m.keep b o hb (fun z=>by rw[hc b z] at q;cases q) (u.keep b o q n hb hx)
 slot:=fun b o q n hb hx=>by
  obtain ⟨sl,q1⟩:=u.slot b o q n hb hx;obtain ⟨sl2,q2⟩:=m.slot b _ hb (fun z=>by rw[hc b z] at q;cases q) q1
  exact ⟨sl2,q2⟩
 free:=u.free
 there:=fun b o q hx=>by
  obtain ⟨o1,q1⟩:=u.there b o q hx;exact m.there b o1 q1
 tups:=u.tups
 frzs:=u.frzs
 tbls:=u.tbls
theorem tI (k:f8 P w H h) (m:Mv fs ch h h') (hc:∀b∈ch,H b=none) (hf:∀b∈fs,H b=none):f8 P w H h':=fun a o e=>
 (k a o e).stay (fun b u hb q=>by
  have t:H b≠none:=by
   rcases hb with z|z
   ·rw[z,e];exact fun y=>nomatch y
   ·rw[z];exact fun y=>nomatch y
  exact m.keep b u (fun z=>t (hf b z)) (fun z=>t (hc b z)) q) (fun _ q=>q) fun _ _ q=>q
theorem _root_.XH.Mv.wider (m:Mv [] ch h h'):Mv fs ch h h':=⟨fun b o _ hc q=>m.keep b o (by simp) hc q,fun b o _ hc q=>⟨o.slots,m.keep b o (by simp) hc q⟩,m.there⟩
theorem qg {base:Heap} (u:Un fs [] H H' h h'):∀{l:List Env},h.FunFrames base l->(∀b∈iU l,b∈fs/\H b=none)->h'.FunFrames base l
 | [],_,_=>trivial
 |env::r,⟨hk,⟨L,o,hf,hn,ho,hd⟩,hr⟩,hs=>by
  have hL:L∈iU (env::r):=by unfold iU;rw[Fa,hf];exact Er
  obtain ⟨sl,e⟩:=u.slot L o ho (hs L hL).2 (hs L hL).1 (by simp)
  exact ⟨hk,⟨L,_,hf,hn,e,hd⟩,qg u hr fun b hb=>hs b (by unfold iU;rw[Fa,hf];exact E6 _ hb)⟩
end
section
variable {P:Program} {w:World} {H H':Hp} {s s':Shared} {a L:Addr} {cls v:Value} {dx:Iu} {st:w8} {env:Env} {outer:List Env} {base:Heap} {M:Model} {A:Around} {Z:Ik} {Q:Unit->Shared->Prop}
theorem gK.frees (c:gK P w outer H s a H' cls dx st s') (hl:s.heap.FunFrames base outer) (hH:∀b∈iU outer,H b=none):∀b∈iU outer,H' b=none:=fun b hb=>by
 obtain ⟨_,o,ho,_⟩:=hl.mem hb;exact c.un.free b o ho (hH b hb) (by simp)
theorem gK.note (c:gK P w (env::outer) H s a H' cls dx st s') (hfr:A.frames=some (env::outer)) (hf:env.frame=some L) (hl:s.heap.FunFrames base (env::outer)) (hH:∀b∈iU (env::outer),H b=none)
  (h:∀s'',gK P w (env::outer) H s a H' cls dx (.fl (rawInt L)) s''->Q () s''):wpAny M A (noteFrame (.ref a) env) Q Z s':=by
 refine vQ hfr (qg c.un hl fun b hb=>⟨hb,hH b hb⟩) hf c.xo fun h' ch hch mv x=>h _ ?_
 refine ⟨c.os,c.bare,xc c.un mv fun b hb=>(hch b hb).1,tI c.hok mv (fun b hb=>(hch b hb).2) (c.frees hl hH),x.mono ?_⟩
 rintro b (q|q)
 ·exact q
 ·refine ⟨?_,c.hok.none_of q⟩;cases r:s.heap.get? b with
  |none=>rfl
  |some o=>
   obtain ⟨o',r'⟩:=c.un.there b o r (by simp)
   rw[r'] at q;cases q
theorem gK.flight {fl:Iu} (c:gK P w outer H s a H' cls dx (.fl v) s') (hl:s.heap.FunFrames base outer) (hH:∀b∈iU outer,H b=none)
  (h:∀s'',gK P w outer H s a H' cls dx (.fl (fl.elim .none fun f=>rawInt f)) s''->Q () s''):wpAny M A (setFlight (.ref a) fl) Q Z s':=by
 refine rG c.xo fun h' T hT mv x=>h _ ⟨c.os,c.bare,xc c.un mv.wider fun b hb=>?_,tI c.hok (mv.wider (fs:=iU outer)) (fun b hb=>?_) (c.frees hl hH),x⟩
 ·rw[EC.mp hb];exact hT.1
 ·rw[EC.mp hb];exact hT.2
end
def XS (X:Cx) (E:St->XK):Value->Shared->Prop:=fun e s'=>∃σ H0 s0,aR X [] σ H0 s0/\k9 X.prog X.w X.stack H0 s0 (E σ) e s'
def mH (X:Cx) (E:St->XK):Prop:=∀(pins:Im) (σ:St) (H:Hp) (s:Shared) (e:Value) (s':Shared),aR X pins σ H s->k9 X.prog X.w X.stack H s (E σ) e s'->X.xe e s'
theorem tJ {X:Cx} {E:St->XK}:mH (X.wish (XS X E)) E:=fun pins σ H s e s' I c=>⟨σ,H,s,I.unwish.pins_of (fun p hp=>absurd hp (by simp)),c⟩
def tK (sp:Sp) (dvs:List V) (E:St->XK) (t:TA):TE:=fun σ H Q=>t σ H fun vs H1=>sp (vs++dvs) H1 Q (E σ)
section
variable {X:Cx} {k:Nat} {f C:Addr} {fd:FuncData} {ps:Ip} {sp:Sp} {dvs:List V} {ds:Ir} {E:St->XK} {x m:Str} {p pos apos:Pos} {e o:Expr} {es:List Expr} {ta:TE} {t:TA}
theorem vR {pins:Im} {σ:St} {H:Hp} {s:Shared} {Q:VK} {us:Ir} {vs:List V} (F:aY X.prog X.w X.K X.mg X.base (k9 X.prog X.w) k f fd ps sp) (hr:cn k X.A) (hb:Binds X.K fd ps ds) (hd:a9 dvs ds) (hx:mH X E)
  (I:aR X pins σ H s) (r:a9 vs us) (h:sp (vs++dvs) H Q (E σ)):wpAny (model X.prog X.w) X.A (call (.ref f) us) (EP X pins σ Q) X.xe s:=by
 have r2:a9 (vs++dvs) (us++ds):=r.append hd;have hl:(us++ds).length=ps.length:=by rw[<-r2.length];exact F.len _ _ _ _ h
 refine wpAny_call (codeAny_mono (F.run X.A X.stack s H ⟨us,[]⟩ (us++ds) (vs++dvs) Q (E σ) hr I.env0 (hb s us I.kIn hl) r2 h) fun r s' hq=>?_)
 cases r with
 |error e=>exact hx pins σ H s e s' I hq
 |ok fl=>
  cases fl with
  |ret u=>exact I.after hq
  |next=>exact False.elim hq
  |brk=>exact False.elim hq
  |cont=>exact False.elim hq
theorem tL (F:aY X.prog X.w X.K X.mg X.base (k9 X.prog X.w) k f fd ps sp) (hr:cn k X.A) (hg:Gl X x) (hm:X.mg x=some (.ref f)) (hk:F6 X.K (.ref f)=true) (hb:Binds X.K fd ps ds) (hd:a9 dvs ds) (hx:mH X E)
  (ha:PA X (e::es) t) (hdb:(x==("__debug__" :Str))=false:=by decide) (he:starEach (e::es) X.env=(false,eval e X.env)::starEach es X.env:=by rfl) (hpl:(backTo pos (starEach es X.env)).any (·.1)=false:=by rfl):
  PE X (.Call (.Name x p) (e::es) [] pos) (tK sp dvs E t):=by
 intro pins s σ H Q I h;refine wpAny_Call_Name_kw (eS I hg hm ?_ hdb);refine Fb (h₀:=X.base) I.ok.mod.kin hk (b8 (ha pos pins s σ H _ I h) fun us s1 ⟨vs,H1,I1,r,q⟩=>⟨I1.kIn,?_⟩) he hpl
 exact vR F hr hb hd hx I1 r q
end
theorem iV.toX {X:Cx} {E':Ik} {st:List Stmt} {t:TS} (h:iV (X.wish E') st t) (k:∀e s,E' e s->X.xe e s):iV X st t:=fun pins s σ H D I hw=>
 wpAny_mono (h pins s σ H D (I.wish _) hw) (fun _ _ q=>q.unwish) fun e s z=>k e s z
section
variable {P:Program} {w:World} {K:D9} {mg:Il} {base:Heap}
theorem tM {N:Ip} {qual:Str} {scope:Scope} {f:Addr} {cd:Value} {A:Around} {outer:List Env} {s:Shared} {H:Hp} {E:XK} {e:Value} {s':Shared}
  (h:XS (iI (k9 P w) P w K mg base N qual scope f cd A outer s H E) (fun _=>E) e s'):(iI (k9 P w) P w K mg base N qual scope f cd A outer s H E).xe e s':=by
 obtain ⟨σ,H0,s0,I,a,H',cls,dx,st,rfl,c,hE⟩:=h;show wpAny (model P w) (A.deeper (envOfC qual scope s.heap.objs.size f cd)) (leaving (envOfC qual scope s.heap.objs.size f cd) (.ref a)) (fun _ s''=>k9 P w outer H s E (.ref a) s'') (fun e' s''=>k9 P w outer H s E e' s'') s'
 unfold leaving;apply wpAny_bind;refine c.note (L:=s.heap.objs.size) I.ok.frames rfl I.stack I.stkFree fun s1 c1=>?_
 refine c1.flight I.stack I.stkFree fun s2 c2=>?_
 have J:=I.call' c2.os c2.un c2.hok c2.bare (fun b z=>absurd z (by simp))
 refine ⟨a,H',cls,dx,_,rfl,⟨J.os,c2.bare,J.base,c2.hok,c2.xo.mono fun b q=>⟨?_,q.2⟩⟩,hE⟩
 cases r:s.heap.get? b with
 |none=>rfl
 |some o=>
  obtain ⟨o',r'⟩:=I.base.there b o r (fun z=>absurd (show b∈([]:Iq) from z) (by simp))
  rw[q.1] at r';cases r'
theorem xX {k:Nat} {f:Addr} {name qual:Str} {params:Arguments} {body:List Stmt} {scope:Scope} {dV kV doc pm cdv ct oc:Value} {an od:Iu}
  {osl:Io} {N ps:Ip} {sp:Sp} (lk:K.lookup f=some ⟨oc,od,.func (F5 name qual params body scope dV kV doc pm an cdv ct),osl⟩) (hcd:PySem.W.codeIn K cdv qual=true) (S:aB N ps scope)
  (len:∀vs H Q E,sp vs H Q E->vs.length=ps.length)
  (hbody:∀(A:Around) (outer:List Env) (s:Shared) (H:Hp) (vs:List V) (Q:VK) (E:XK),cn k (A.deeper (envOfC qual scope s.heap.objs.size f cdv))->sp vs H Q E->
   ∃t,iV ((iI (k9 P w) P w K mg base N qual scope f cdv A outer s H E).wish (XS (iI (k9 P w) P w K mg base N qual scope f cdv A outer s H E) fun _=>E)) body t/\t {nx:=fun _ H'=>Q .non H',rt:=Q} (start N vs) H):
  aY P w K mg base (k9 P w) (k+1) f (F5 name qual params body scope dV kV doc pm an cdv ct) ps sp:=by
 refine wZ lk hcd S len fun A outer s H vs Q E hr hsp=>?_
 obtain ⟨t,h,q⟩:=hbody A outer s H vs Q E hr hsp;exact ⟨t,h.toX fun e s' z=>tM z,q⟩
theorem aY.noraise {k:Nat} {f:Addr} {fd:FuncData} {ps:Ip} {sp sp0:Sp} (F:aY P w K mg base (k9 P w) k f fd ps sp) (h:∀vs H Q E,sp0 vs H Q E->sp vs H Q E0):aY P w K mg base a7 k f fd ps sp0:=
 ⟨fun vs H Q E q=>F.len vs H Q E0 (h _ _ _ _ q),fun A outer s H args us vs Q E hr he hb hv hs=>codeAny_mono (F.run A outer s H args us vs Q E0 hr he hb hv (h _ _ _ _ hs)) fun r s' hq=>by
  cases r with
  |error e=>obtain ⟨_,_,_,_,_,_,_,z⟩:=hq;exact z.elim
  |ok fl=>cases fl<;>exact hq⟩
end
abbrev Cx.tried (X:Cx) (pins:Im):Cx:={X with pn:=X.pn++pins}
abbrev Cx.suite (X:Cx) (pins:Im) (a:Addr):Cx:={X with A:=X.A.mark (some (.ref a)),calm:=false,pn:=X.pn++pins,xe:=fun _ _=>False}
def vS (n:Bool) (a:Addr) (cls:Value) (dx:Iu):HO:= .ext fun h=>∃ox vs,h.get? a=some ox/\ox.cls=cls/\ox.dict=dx/\ox.data= .fields vs/\vs[2]?=some .none/\(n=true->1<vs.size/\vs[1]?=some .none)
abbrev xY:=vS false
theorem vT {P:Program} {w:World} {H:Hp} {h:Heap} {n:Bool} {a:Addr} {cls:Value} {dx:Iu} {ox:Obj} {vs:Array Value} (h1:h.get? a=some ox) (h2:ox.cls=cls) (h3:ox.dict=dx) (h4:ox.data= .fields vs) (h6:vs[2]?=some .none) (h5:n=true->1<vs.size/\vs[1]?=some .none):cx P w H h a (vS n a cls dx):=
 ⟨⟨ox,vs,h1,h2,h3,h4,h6,h5⟩,⟨ox,h1⟩,fun _ _ ⟨oy,ws,q,r⟩ kp=>⟨oy,ws,kp _ q,r⟩⟩
abbrev TH:=Ends->St->Value->Iu->Hp->Addr->Prop
def PH (X:Cx) (hs:List ExceptHandler) (th:TH):Prop:=
 ∀(pins:Im) (σ:St) (H0:Hp) (s0:Shared) (D:Ends) (a:Addr) (H':Hp) (cls v:Value) (dx:Iu) (s':Shared),aR X pins σ H0 s0->gK X.prog X.w X.stack H0 s0 a H' cls dx (.fl v) s'->th D σ cls dx H' a->
  wpAny (model X.prog X.w) X.A (handleBy (.ref a) X.env hs) (SP X pins D) X.xe s'
section
variable {X:Cx} {pins:Im} {σ:St} {H H':Hp} {s s':Shared}
theorem aR.tried (I:aR X pins σ H s):aR (X.tried pins) [] σ H s:=
 ⟨⟨I.ok.mod,I.ok.kind,I.ok.glob,I.ok.blt,I.ok.above,I.ok.inj,I.ok.has,I.ok.cab,I.ok.hd,I.ok.frames,I.ok.stk,I.ok.exf,I.ok.bs,I.ok.bsz,I.ok.noex,I.ok.exfs,I.ok.funs,I.ok.frf⟩,
  I.os,I.bare,I.base,I.loc,I.cell,I.free,I.freeC,fun p hp=>I.pin p (by simpa using hp),I.hok,I.len⟩
theorem aR.untried (I:aR (X.tried pins) [] σ H s):aR X pins σ H s:=
 ⟨⟨I.ok.mod,I.ok.kind,I.ok.glob,I.ok.blt,I.ok.above,I.ok.inj,I.ok.has,I.ok.cab,I.ok.hd,I.ok.frames,I.ok.stk,I.ok.exf,I.ok.bs,I.ok.bsz,I.ok.noex,I.ok.exfs,I.ok.funs,I.ok.frf⟩,
  I.os,I.bare,I.base,I.loc,I.cell,I.free,I.freeC,fun p hp=>I.pin p (by simpa using hp),I.hok,I.len⟩
theorem aR.insuite (I:aR X pins σ H s) (a:Addr):aR (X.suite pins a) [] σ H s:=
 ⟨⟨I.ok.mod,I.ok.kind,I.ok.glob,I.ok.blt,I.ok.above,I.ok.inj,I.ok.has,I.ok.cab,fun z=>(Bool.noConfusion z),I.ok.frames,I.ok.stk,I.ok.exf,I.ok.bs,I.ok.bsz,I.ok.noex,I.ok.exfs,I.ok.funs,I.ok.frf⟩,
  I.os,I.bare,I.base,I.loc,I.cell,I.free,I.freeC,fun p hp=>I.pin p (by simpa using hp),I.hok,I.len⟩
theorem aR.outsuite {a:Addr} (ok:X.Ok) (I:aR (X.suite pins a) [] σ H s):aR X pins σ H s:=
 ⟨ok,I.os,I.bare,I.base,I.loc,I.cell,I.free,I.freeC,fun p hp=>I.pin p (by simpa using hp),I.hok,I.len⟩
theorem tN {fs:Iq} {h0 h:Heap} {a:Addr} {o:HO} (u:Un fs [] H H' h0 h) (n0:h0.get? a=none) (na:H' a=none):Un fs [] H (aS H' a o) h0 h where
 keep:=u.keep
 slot:=u.slot
 free:=fun b ob q n hx=>by
  have:b≠a:=fun z=>by rw[z,n0] at q;cases q
  rw[az this];exact u.free b ob q n hx
 there:=u.there
 tups:=fun b xs e=>by
  have q:=u.tups b xs e;rw[az (aM q na)];exact q
 frzs:=fun b o' w' e=>by
  have q:=u.frzs b o' w' e;rw[az (aM q na)];exact q
 tbls:=fun b ps e=>by
  obtain ⟨mo,q⟩:=u.tbls b ps e;exact ⟨mo,by rw[az (aM q na)];exact q⟩
theorem rH {P:Program} {w:World} {h:Heap} {a:Addr} {o:HO} (k:f8 P w H h) (na:H a=none) (new:cx P w (aS H a o) h a o):f8 P w (aS H a o) h:=fun b u e=>by
 by_cases hb:b=a
 ·subst hb;rw[af] at e;cases e;exact new
 ·rw[az hb] at e;exact (k b u e).stay (fun c v _ q=>q) (fun c q=>by rw[az (aM q na)];exact q) fun c xs q=>by rw[az (aM q na)];exact q
theorem gK.caught {a:Addr} {cls:Value} {dx:Iu} {st:w8} (I:aR X pins σ H s) (c:gK X.prog X.w X.stack H s a H' cls dx st s'):aR X pins σ (aS H' a (xY a cls dx)) s':=by
 obtain ⟨⟨oe,vs,he,hc,hd,hda,hz,_⟩,n0,na⟩:=c.xo;refine I.call' c.os (tN c.un n0 na) (rH c.hok na (vT he hc hd hda hz.2 fun z=>nomatch z)) c.bare fun b z=>absurd z (by simp)
end
section
variable {X:Cx} {body:List Stmt} {h₀:ExceptHandler} {hs:List ExceptHandler} {pos:Pos} {th:TH}
def CP (tb:(St->XK)->TS) (th:TH):TS:=fun D σ H=>tb (fun σ' cls dx H'=>∀a,H' a=none->th D σ' cls dx H' a) D σ H
theorem SP.untried {pins:Im} {E:Ik} {D:Ends} {f:Flow} {s':Shared} (h:SP ((X.tried pins).wish E) [] D f s'):SP X pins D f s':=by
 cases f with
 |next=>obtain ⟨σ',H',I,q⟩:=h;exact ⟨σ',H',I.unwish.untried,q⟩
 |brk=>obtain ⟨σ',H',I,q⟩:=h;exact ⟨σ',H',I.unwish.untried,q⟩
 |cont=>obtain ⟨σ',H',I,q⟩:=h;exact ⟨σ',H',I.unwish.untried,q⟩
 |ret u=>obtain ⟨v,σ',H',I,r,q⟩:=h;exact ⟨v,σ',H',I.unwish.untried,r,q⟩
theorem xZ {tb:(St->XK)->TS} (hstk:X.stack=X.env::X.outer) (hfm:X.env.frame=some X.env.locals)
  (hb:∀(pins:Im) (E:St->XK),iV ((X.tried pins).wish (XS (X.tried pins) E)) body (tb E)) (hh:PH X (h₀::hs) th):PS X (.Try body (h₀::hs) [] [] pos) (CP tb th):=by
 intro pins s σ H D I h;refine wpAny_Try_except ?_;refine wpAny_mono (hb pins _ [] s σ H D (I.tried.wish _) h) (fun f s1 q=>?_) fun e s1 hx=>?_
 ·have q:=q.untried;cases f with
  |next=>exact wpAny_execs_nil q
  |brk=>exact q
  |cont=>exact q
  |ret u=>exact q
 ·obtain ⟨σ',H0,s0,I0,a,H',cls,dx,st,rfl,c,hE⟩:=hx;have c':gK X.prog X.w (X.env::X.outer) H0 s0 a H' cls dx st s1:=hstk▸c;have J:=I0.untried;have fr:X.A.frames=some (X.env::X.outer):=by rw[<-hstk];exact J.ok.frames
  have st1:s0.heap.FunFrames X.base (X.env::X.outer):=by rw[<-hstk];exact J.stack
  have sf:∀b∈iU (X.env::X.outer),H0 b=none:=by rw[<-hstk];exact J.stkFree
  refine c'.note fr hfm st1 sf fun s2 c2=>?_
  refine c2.flight st1 sf fun s3 c3=>?_
  exact hh pins σ' H0 s0 D a H' cls _ dx s3 J (hstk▸c3) (hE a c3.xo.fr.2)
theorem x6:PH X [] (fun _ _ _ _ _ _=>False):=fun _ _ _ _ _ _ _ _ _ _ _ _ _ h=>h.elim
end
structure XT (K:D9) (C:Addr):Prop where
 ty:PySem.W.typeIn K (.ref C)=some (.type "type")
 cl:(PySem.W.clsIn K C).isSome=true
 ex:PySem.W.subIn K (.ref C) (.type "BaseException")=some true
theorem ld {K:D9} {M:Model} {h:Heap} {C:Addr} (X:K.In h) (e:(PySem.W.clsIn K C).isSome=true):PySem.W.Looks M h (isType (.ref C)) true:=by
 unfold PySem.W.clsIn at e
 split at e
 ·rename_i ho;intro A' Q' E' s' k q;unfold isType loadHead;exact wpAny_bind (wpAny_loadPart (k _ _ (X _ _ ho)) (wpAny_pure q))
 ·cases e
structure XG (K:D9) (C:Addr):Prop where
 ga:Em K (.ref C) "__getattribute__" =some (some (.builtin "BaseException.__getattribute__"))
 gt:Em K (.ref C) "__getattr__" =some none
 be:PySem.W.mroIn K C (.type "BaseException")=some true
section
variable {prog:Program} {w:World} {A:Around} {E:Ik} {K:D9}
theorem oQ {h:Heap} {g:Array GenState} {d:Drawn} {t:Nat} {os:OsState} {e C C':Addr} {oe:Obj} {b:Bool} {Q:Bool->Shared->Prop} (KX:K.In h) (he:h.get? e=some oe) (hc:oe.cls= .ref C) (T:XT K C')
  (hsub:PySem.W.subIn K (.ref C) (.ref C')=some b) (hq:Q b ⟨h,g,d,t,os⟩):wpAny (model prog w) A (excMatches (.ref e) (.ref C')) Q E ⟨h,g,d,t,os⟩:=by
 have l1:=PySem.W.looks_typeIn (M:=model prog w) KX T.ty;have l2:=PySem.W.looks_subIn (M:=model prog w) KX T.ex;have l3:=PySem.W.looks_subIn (M:=model prog w) KX hsub;have l4:=ld (M:=model prog w) KX T.cl;have l5:PySem.W.Looks (model prog w) h (isInstance (.ref C') (.type "tuple")) false:=l1.andThen (PySem.W.Looks.of_pure tc_notTuple);have l6:PySem.W.Looks (model prog w) h (isExcClass (.ref C')) true:=by
  unfold isExcClass;refine l4.andThen ?_;exact l2
 unfold excMatches
 repeat (first|with_reducible refine wpAny_bind (l5.at ?_)|with_reducible refine wpAny_bind (l6.at ?_)|with_reducible refine wpAny_bind (l3.at ?_)|(with_reducible refine wpAny_loadPart_at he ?_;rw[hc])|wp_step)
 cases b<;>(wp_walk;exact hq)
end
def CQ (K:D9) (C':Addr) (t:TS) (r:TH):TH:=fun D σ cls dx H a=>∃C b,cls= .ref C/\PySem.W.subIn K (.ref C) (.ref C')=some b/\
 if b=true then t D σ (aS H a (xY a cls dx)) else r D σ cls dx H a
section
variable {X:Cx} {x n:Str} {np pos:Pos} {b0:Stmt} {suite:List Stmt} {rest:List ExceptHandler} {i:Nat} {C':Addr} {t:TS} {th:TH}
theorem SP.outsuite {pins:Im} {a:Addr} {D:Ends} {f:Flow} {s:Shared} (ok:X.Ok) (h:SP (X.suite pins a) [] D f s):SP X pins D f s:=by
 cases f with
 |next=>obtain ⟨σ',H',I,q⟩:=h;exact ⟨σ',H',I.outsuite ok,q⟩
 |brk=>obtain ⟨σ',H',I,q⟩:=h;exact ⟨σ',H',I.outsuite ok,q⟩
 |cont=>obtain ⟨σ',H',I,q⟩:=h;exact ⟨σ',H',I.outsuite ok,q⟩
 |ret u=>obtain ⟨v,σ',H',I,r,q⟩:=h;exact ⟨v,σ',H',I.outsuite ok,r,q⟩
theorem AK (T:XT X.K C') (hg:Gl X x) (hm:X.mg x=some (.ref C'))
  (hs:∀(pins:Im) (a:Addr),iV (X.suite pins a) (b0::suite) t) (hrest:PH X rest th) (hd:(x==("__debug__" :Str))=false:=by decide):
  PH X (.ExceptHandler (some (.Name x np)) none (b0::suite) pos::rest) (CQ X.K C' t th):=by
 intro pins σ H0 s0 D a H' cls v dx s' I c h;obtain ⟨C,b,rfl,hsub,h⟩:=h;have J:aR X pins σ H' s':=I.call' c.os c.un c.hok c.bare (fun b z=>absurd z (by simp))
 obtain ⟨oe,vs,he,hc,_,_,_⟩:=c.xo.ex;refine wpAny_handleBy_cons (codeAny_handlers_test (eS (X:=X.suite pins a) (J.insuite a) hg hm ?_ hd)) (by intro q;cases q)
 have KX:=J.kIn;obtain ⟨hh,g,d,tk,os⟩:=s';refine oQ KX he hc T hsub ?_;cases b with
 |false=>exact hrest pins σ H0 s0 D a H' _ v dx _ I c h
 |true=>
  refine codeAny_handlers_suite ?_;refine c.flight I.stack I.stkFree fun s2 c2=>?_
  have J2:=(c2.caught I).insuite a;refine wpAny_mono (hs pins a [] s2 _ _ _ J2 h) (fun f s4 q=>?_) fun _ _ z=>z.elim
  exact q.outsuite I.ok
end
def CS:Ir:= [.type "ValueError",.type "Exception",.type "BaseException",.type "object"]
theorem x8 {K:D9} {h:Heap} {C:Addr} {bmB:Ir} {nw:String} (X:K.In h) (q:PySem.W.excIn K C bmB nw=true):
  ∃bm N nm qn bs hdct sn sub ab col dd k0 k1 k2 k3 k5 mN,h.get? C=some (excClassObj nm qn C N bs bm hdct sn sub ab col dd k0 k1 k2 k3 k5 nw)/\h.Ns N mN/\mN "__init__" =none/\OwnTail h bmB bm:=by
 unfold PySem.W.excIn at q
 split at q
 ·rename_i dd cd sl ho
  split at q
  ·rename_i C' bm k0 k1 k2 k3 n k5 hm hs;simp only[Bool.and_eq_true,beq_iff_eq,Bool.not_eq_true'] at q;obtain ⟨⟨⟨⟨⟨e1,e2⟩,hdel⟩,ht⟩,hok⟩,hni⟩:=q;subst e1 e2;obtain ⟨nm,bs,mro,ns,qn,hd,sn,sub,ab,col,del⟩:=cd;dsimp only at hm hdel hok hni;subst hm hdel;obtain ⟨l⟩:=sl;have hl:l= [k0,k1,k2,k3,some (.builtin n),k5]:=hs;subst hl;exact ⟨bm,ns,nm,qn,bs,hd,sn,sub,ab,col,dd,k0,k1,k2,k3,k5,_,X _ _ ho,.of_isNs (PySem.W.isNs_of_in X hok),PySem.W.nsMap_none_of_in X hok hni,PySem.W.tail_of_in X ht⟩
  ·cases q
 ·cases q
def x9 (C:Addr) (E:St->XK) (t:TA):TS:=fun _ σ H=>t σ H fun vs H1=>vs.length<=sizeLine/\E σ (.ref C) none H1
section
variable {X:Cx} {x:Str} {np cpos pos:Pos} {e₀:Expr} {rest:List Expr} {C:Addr} {t:TA} {E:St->XK}
theorem vU {pins:Im} {σ:St} {H:Hp} {s:Shared} {h':Heap} {e:Addr} {us:Ir} (I:aR X pins σ H s) (mk:Heap.MadeExcOf s.heap h' e (.ref C) us):gK X.prog X.w X.stack H s e H (.ref C) none .new {s with heap:=h'}:=by
 obtain ⟨t,ht,_,_⟩:=mk.there;exact ⟨rfl,I.bare,Un.kept mk.keeps,I.hok.kept mk.keeps,⟨⟨_,_,ht,rfl,rfl,rfl,⟨by show 1<6;decide,rfl⟩,rfl⟩,mk.new,I.hok.none_of mk.new⟩⟩
theorem mI (q:PySem.W.excIn X.K C CS "ValueError.__new__" =true) (hg:Gl X x) (hm:X.mg x=some (.ref C)) (hc:X.calm=true) (hp:mH X E) (ha:PA X (e₀::rest) t) (hd:(x==("__debug__" :Str))=false:=by decide)
  (he:starEach (e₀::rest) X.env=(false,eval e₀ X.env)::starEach rest X.env:=by rfl) (hpl:(backTo cpos (starEach rest X.env)).any (·.1)=false:=by rfl):
  PS X (.Raise (some (.Call (.Name x np) (e₀::rest) [] cpos)) none pos) (x9 C E t):=by
 intro pins s σ H D I h;obtain ⟨bm,N,nm,qn,bs,hdct,sn,sub,ab,col,dd,k0,k1,k2,k3,k5,mN,hC,hN,hni,TL⟩:=x8 I.ok.mod.kin q;have F:=PySem.F.excBase_ValueError;have W:=ha cpos pins s σ H _ I h;refine wpAny_Raise_call_subT (C:=C) (nm:=nm) (q:=qn) (N:=N) (bs:=bs) (bm:=bm) (hdct:=hdct) (sn:=sn) (sub:=sub) (ab:=ab) (col:=col) (dd:=dd) (k0:=k0) (k1:=k1) (k2:=k2) (k3:=k3) (k5:=k5) (mN:=mN)
  F (TL.hasType F.hasBase) (I.ok.hd hc) (by rw[he];exact hpl) hni (eS I hg hm ⟨rfl,?_⟩ hd)
 rw[he] at W⊢;refine Calls.evalArgs_plain (b8 W fun us s2 ⟨vs,H1,I1,r,hl,z⟩=>⟨rfl,by rw[<-r.length];exact hl,I1.bk _ _ hC,hN.keeps I1.bk,TL.keeps I1.bk,fun h' e mk=>?_⟩)
 exact hp pins σ H1 s2 _ _ I1 ⟨e,H1,.ref C,none,.new,rfl,vU I1 mk,z⟩
end
structure XI (K:D9) (C:Addr):Prop where
 gg:XG K C
 cl:(PySem.W.clsIn K C).isSome=true
 at_:Em K (.ref C) "__class__" =some (some (.builtin "object.__class__"))
 gt:PySem.W.specialIn K (.builtin "object.__class__") "__get__" =some (some (.builtin "getset_descriptor.__get__"))
 tk:PySem.W.takesIn K (.builtin "object.__class__")=some true
 ob:PySem.W.mroIn K C (.type "object")=some true
abbrev Cx.block (X:Cx) (scope:Scope) (cl:List (Str×Addr)) (C:Addr) (N:Ip) (own:Str) (fp:Iq) (s:Shared) (H:Hp):Cx:=
 {X with env:=compEnvC scope cl C X.env,N:=N,s₀:=s,H₀:=H,outer:=X.stack,stack:=X.stack,ex:=fp,fn:=fun y=>y==own,pn:= [],xe:=fun _ _=>False}
structure lf (X:Cx) (scope:Scope) (cl:List (Str×Addr)) (own:Str) (ys:Ip) (js:List Nat):Prop where
 clos:closureFor scope X.env=pure cl
 nocell:(scope.names.all fun p=> !(p.2== .cell))=true
 kind:scope.kind= .function
 loc:(scope.names.all fun p=> !(p.2== .local)||scope.names.lookup p.1==some .local)=true
 ownL:scope.names.lookup own=some .local
 sub:∀p∈cl,X.env.cells.lookup p.1=some p.2
 has:((relabel scope X.env).names.all fun p=> !(p.2== .cell||p.2== .free)||(cl.lookup p.1).isSome)=true
 noown:cl.lookup own=none
 nd:(own::ys).Nodup
 at_:∀(i:Nat) (y:Str),ys[i]?=some y->∃j:Nat,js[i]?=some j/\X.N[j]?=some y/\(X.env.scope.names.lookup y=some .cell∨X.env.scope.names.lookup y=some .free)/\((relabel scope X.env).names.lookup y=some .cell∨(relabel scope X.env).names.lookup y=some .free)
 len:js.length=ys.length
def cF (js:List Nat) (σ:St):St:=js.map fun j=>(σ[j]?).getD none
def mJ (js:List Nat) (te:TE) (σ:St) (Q:VK):It->Hp->Prop:=fun J H1=>∀p,H1 p=none->∃W:Nat->Nat->List V->Hp->Prop,(∃m,W 0 m [] (aS H1 p (.lst [])))/\
 ∀i m ys H2,W i m ys H2->H2 p=some (.lst ys)/\((J.stop i H2/\Q (.ref p) H2)∨(J.go i H2/\ys.length<sizeLine/\∀x H3,J.yld i H2 x H3->te (some x::cF js σ) H3 fun y H4=>H4 p=some (.lst ys)/\∃m',m'<m/\W (i+1) m' (ys++ [y]) (aS H4 p (.lst (ys++ [y])))))
def xf (wi:TI) (js:List Nat) (te:TE):TE:=fun σ H Q=>wi σ H (mJ js te σ Q)
theorem lookup_all {α:Type} {f:Str×α->Bool} {x:Str} {a:α}:∀{l:List (Str×α)},l.all f=true->l.lookup x=some a->f (x,a)=true:=by
 intro l h e;exact FZ.mp h _ (Eu e)
section
variable {prog:Program} {w:World} {A:Around} {R:Result->Shared->Prop} {s:Shared}
theorem gL {elt target iter:Expr} {scope:Scope} {pos:Pos} {it acc:Value} {env:Env} (I:Nat->Shared->Prop)
  (turn:∀n s,I n s->wpAny (model prog w) A (pyNext it) (fun r s1=>match r with
   |none=>R (.ok .next) s1
   |some v=>wpAny (model prog w) A (letOwnedTupleGo target it v) (fun _ s2=>wpAny (model prog w) A (assign target env v) (fun _ s3=>wpAny (model prog w) A (eval elt env) (fun x s4=>
     wpAny (model prog w) A (call (.builtin "list.append") [acc,x]) (fun _ s5=>∃m,m<n/\I m s5) (fun _ _=>False) s4) (fun _ _=>False) s3) (fun _ _=>False) s2) (fun _ _=>False) s1) (fun _ _=>False) s)
  (n:Nat) (h:I n s):codeAny (model prog w) A (.compLoop (.ListComp elt [⟨target,iter,[],0⟩] scope pos) 0 it acc env) R s:=by
 apply codeAny_loop rfl I ?_ n h;intro n s hI;show wpAny _ _ ((compTurn (.ListComp elt [⟨target,iter,[],0⟩] scope pos) 0 it acc env).onRaise _) _ _ s;apply wpAny_noted;rw[compTurn_list1];apply wpAny_bind;apply wpAny_standAt;apply wpAny_bind;refine wpAny_mono (turn n s hI) (fun r s1 h1=>?_) fun _ _ z=>z.elim
 cases r with
 |none=>exact wpAny_pure h1
 |some v=>
  apply wpAny_bind;refine wpAny_mono h1 (fun _ s2 h2=>?_) fun _ _ z=>z.elim
  apply wpAny_bind;refine wpAny_mono h2 (fun _ s3 h3=>?_) fun _ _ z=>z.elim
  apply wpAny_bind;apply wpAny_bind;refine wpAny_mono h3 (fun x s4 h4=>?_) fun _ _ z=>z.elim
  apply wpAny_bind;refine wpAny_mono h4 (fun _ s5 h5=>?_) fun _ _ z=>z.elim
  exact wpAny_pure (wpAny_pure ⟨rfl,h5⟩)
end
section
variable {X:Cx} {scope:Scope} {cl:List (Str×Addr)} {own:Str} {ys:Ip} {js:List Nat} {fp:Iq} {pins:Im} {σ:St} {H:Hp} {s s4:Shared}
theorem iA {h1:Heap} (ok:lf X scope cl own ys js) (I:aR X pins σ H s) (hf:∀b∈fp,fu X pins H b) (hlt:∀b∈fp,b<s.heap.objs.size) (hns:h1.Ns s.heap.objs.size (fun _=>none))
  (hk:∀b o,s.heap.get? b=some o->h1.get? b=some o) (tk:Nat):
  aR (X.block scope cl s.heap.objs.size (own::ys) own fp s H) [] (none::cF js σ) H {s with heap:=h1,toks:=tk}:=by
 have sub:∀y c,cl.lookup y=some c->X.env.cells.lookup y=some c:=fun y c e=>ok.sub (y,c) (Eu e)
 refine ⟨⟨I.ok.mod,ok.kind,I.ok.glob,I.ok.blt,EB _,fun x y c e1 e2=>I.ok.inj x y c (sub x c e1) (sub y c e2),fun x hx=>?_,fun x c e1 e2=>?_,I.ok.hd,I.ok.frames,.inl rfl,fun b hb=>⟨EU (hlt b hb),fun x c e=>(hf b hb).2.2.2.2.1 x c (sub x c e)⟩,
  I.bs,EV I.ok.bsz I.sz,fun b o e hb=>?_,fun b hb z=>?_,I.stack,I.stkFree⟩,rfl,I.bare,Un.kept hk,⟨_,hns,fun i y v e1 e2 e3=>?_⟩,fun y c e=>?_,I.hok.fresh (EB _),fun y c e=>I.freeC y c (sub y c e),fun p hp=>absurd (show p∈([]:Im) from hp) (by simp),I.hok.kept hk,?_⟩
 ·have hx':(relabel scope X.env).names.lookup x=some .cell∨(relabel scope X.env).names.lookup x=some .free:=hx;rcases hx' with z|z
  ·have q:=lookup_all ok.has z;simp only[beq_self_eq_true,Bool.true_or,Bool.not_true,Bool.false_or] at q;exact FB.mp q
  ·have q:=lookup_all ok.has z;simp only[beq_self_eq_true,Bool.or_true,Bool.not_true,Bool.false_or] at q;exact FB.mp q
 ·have e1':(x==own)=true:=e1;have e:x=own:=beq_iff_eq.mp e1';have e2':cl.lookup x=some c:=e2;rw[e,ok.noown] at e2';cases e2'
 ·rcases (hf b hb).2.2.2.1 with z|z
  ·exact I.ok.noex b o e z
  ·exact absurd (ER (Heap.lt_size (I.ok.bs b o e).1) z) (Nat.lt_irrefl _)
 ·rcases E3.mp (I.stkSub b z) with q|q
  ·exact (hf b hb).2.1 q
  ·exact (hf b hb).2.2.1 q
 ·cases i with
  |zero=>cases e2
  |succ i=>
   have e1':ys[i]?=some y:=e1;obtain ⟨j,hj,hN,hX,hc⟩:=ok.at_ i y e1';have e2':(cF js σ)[i]?=some (some v):=e2;unfold cF at e2';rw[E7,hj] at e2';have hs:σ[j]?=some (some v):=by
    cases q:σ[j]? with
    |none=>rw[Option.map_some,q] at e2';cases e2'
    |some o=>rw[Option.map_some,q] at e2';exact e2'
   obtain ⟨m,hn,hl⟩:=I.loc;obtain ⟨u,r,l⟩:=hl j y v hN hs (hX.elim (fun z=> .inr (.inl z)) fun z=> .inr (.inr z))
   refine ⟨u,r,.inr ⟨hc,?_⟩⟩;rcases l with ⟨k,_⟩|⟨k,c,hcl,hcell⟩
   ·have k':X.env.scope.names.lookup y=some .local:=k;rcases hX with z|z<;>(rw[z] at k';cases k')
   ·have ex:∃c',cl.lookup y=some c':=by
     rcases hc with z|z
     ·have q:=lookup_all ok.has z;simp only[beq_self_eq_true,Bool.true_or,Bool.not_true,Bool.false_or] at q;exact FB.mp q
     ·have q:=lookup_all ok.has z;simp only[beq_self_eq_true,Bool.or_true,Bool.not_true,Bool.false_or] at q;exact FB.mp q
    obtain ⟨c',hc'⟩:=ex;have e:=sub y c' hc';rw[hcl] at e;cases e;obtain ⟨oc,hoc,hd⟩:=hcell;exact ⟨c,hc',oc,hk _ _ hoc,hd⟩
 ·obtain ⟨v,oc,hoc,hd⟩:=I.cell y c (sub y c e);exact ⟨v,oc,hk _ _ hoc,hd⟩
 ·show (none::cF js σ).length=(own::ys).length;simp[cF,ok.len]
theorem j6 {H':Hp} {h':Heap} {σ':St} (I:aR X pins σ H s) (hf:∀b∈fp,fu X pins H b) (J:aR (X.block scope cl s.heap.objs.size (own::ys) own fp s H) [] σ' H' s4) (hs:Heap.SameBut s.heap.objs.size s4.heap h'):
  aR X pins σ H' {s4 with heap:=h'}:=by
 have low:∀b o,s.heap.get? b=some o->b≠s.heap.objs.size:=fun b o e=>EU (Heap.lt_size e)
 have B:=J.base;have u:Un (iU X.stack) fp H H' s.heap h':={
  keep:=fun b o q n hb hx=>(hs.2 b (low b o q)).trans (B.keep b o q n hb hx)
  slot:=fun b o q n hb hx=>by
   obtain ⟨sl,e⟩:=B.slot b o q n hb hx;exact ⟨sl,(hs.2 b (low b o q)).trans e⟩
  free:=B.free
  there:=fun b o q hx=>by
   obtain ⟨o',e⟩:=B.there b o q hx;exact ⟨o',(hs.2 b (low b o q)).trans e⟩
  tups:=B.tups
  frzs:=B.frzs
  tbls:=B.tbls}
 have hn:H' s.heap.objs.size=none:=J.free;have hk:f8 X.prog X.w H' h':=fun a o e=>(J.hok a o e).stay (fun b v hb q=>(hs.2 b (by
  intro z;rcases hb with z'|z'
  ·rw[<-z',z,hn] at e;cases e
  ·rw[z,hn] at z';cases z')).trans q) (fun _ q=>q) fun _ _ q=>q
 exact I.call' (s':={s4 with heap:=h'}) (ch:=fp) J.os u hk J.bare fun b hb=>⟨(hf b hb).2.2.2.1,(hf b hb).2.1,(hf b hb).2.2.2.2.1,(hf b hb).2.2.2.2.2⟩
end
section
variable {X:Cx} {scope:Scope} {cl:List (Str×Addr)} {own:Str} {ys:Ip} {js:List Nat} {elt iter:Expr} {px pos:Pos} {wi:TI} {te:TE}
theorem iP (hc:X.calm=true) (ok:lf X scope cl own ys js) (hi:PI X (.Name own px) iter wi)
  (he:∀(C:Addr) (fp:Iq) (s:Shared) (H:Hp),PE (X.block scope cl C (own::ys) own fp s H) elt te)
  (hs:∀x,foldedSetIterable iter X.env x=pure x:=by intro _;rfl):PE X (.ListComp elt [⟨.Name own px,iter,[],0⟩] scope pos) (xf wi js te):=by
 intro pins s σ H Q I h;rw[eval_ListComp];have ncell:∀y∈scope.names,y.2≠ .cell:=fun y hy z=>by
  have q:=FZ.mp ok.nocell y hy;rw[z] at q;simp at q
 have nloc:∀y∈scope.names,y.2= .local->scope.names.lookup y.1=some .local:=fun y hy z=>by
  have q:=FZ.mp ok.loc y hy;rw[z] at q
  simpa using q
 refine wpAny_comprehension_free (use:=none) rfl hs ok.clos ok.kind nloc (b8 (hi pins s σ H _ I h) fun v s1 h1=>b8 h1 fun itv s2 h2=>?_)
 obtain ⟨it,fp,tn,J,H2,rfl,I2,T,st2,f2,q2⟩:=h2;obtain ⟨W,⟨m0,w0⟩,turn⟩:=q2 s2.heap.objs.size (I2.hok.fresh (EB _));refine wpAny_newObj_type (wpAny_newFunctionEnv ncell (by intro y hy;simp at hy) (fun h1 hns hsb=>?_) ok.kind)
 have I3:=I2.laid (a:=s2.heap.objs.size) (o:= .lst []) (h':=s2.heap.push {cls:= .type "list",dict:=none,data:= .seq ([]:Ir).toArray}) (t':=s2.toks) (fun b u q=>Heap.get?_push_of_some _ q) (EB _)
  ⟨F0 _,[],0,.nil,Heap.get?_push_size _ rfl⟩
 have fpo:∀b∈fp,b<s2.heap.objs.size:=fun b hb=>by
  obtain ⟨o,e,_⟩:=T.obj 0 _ st2 b hb;exact Heap.lt_size e
 have f3:∀b∈fp,fu X pins (aS H2 s2.heap.objs.size (.lst [])) b:=fun b hb=>⟨by rw[az (EU (fpo b hb))];exact (f2 b hb).1,(f2 b hb).2⟩
 generalize hs3:({s2 with heap:=s2.heap.push {cls:= .type "list",dict:=none,data:= .seq ([]:Ir).toArray},toks:=s2.toks}:Shared)=s3 at I3
 have e3:s3.heap=s2.heap.push {cls:= .type "list",dict:=none,data:= .seq ([]:Ir).toArray}:=by rw[<-hs3]
 have lt3:∀b∈fp,b<s3.heap.objs.size:=fun b hb=>by rw[e3,Heap.size_push];exact Nat.lt_succ_of_lt (fpo b hb)
 dsimp only at hns hsb⊢;rw[<-e3] at hns hsb;have hk:∀b o,s3.heap.get? b=some o->h1.get? b=some o:=fun b o e=>hsb.extBut b o (EU (Heap.lt_size e)) (Heap.get?_push_of_some _ e)
 have J0:=iA (h1:=h1) ok I3 f3 lt3 hns hk (s2.toks+0);have t0:tn 0 h1:=T.keep 0 _ _ st2 fun b hb o e=>hk b o (by rw[e3];exact Heap.get?_push_of_some _ e)
 have fpB:∀{H':Hp},(∀b∈fp,H' b=none)->∀b∈fp,fu (X.block scope cl s3.heap.objs.size (own::ys) own fp s3 (aS H2 s2.heap.objs.size (.lst []))) [] H' b:=fun {H'} hn b hb=>
  ⟨hn b hb,EU (lt3 b hb),fun z=>(E3.mp (I3.stkSub b z)).elim (f3 b hb).2.1 (f3 b hb).2.2.1,.inl hb,fun x c e=>(f3 b hb).2.2.2.2.1 x c (ok.sub (x,c) (Eu e)),fun p hp=>absurd (show p∈([]:Im) from hp) (by simp)⟩
 have loop:codeAny (model X.prog X.w) X.A (.compLoop (.ListComp elt [⟨.Name own px,iter,[],0⟩] scope pos) 0 (.ref it) (.ref s2.heap.objs.size) (compEnvC scope cl s3.heap.objs.size X.env))
   (compPost (model X.prog X.w) X.A X.xe none (EP X pins σ Q) (.ref s2.heap.objs.size) s3.heap.objs.size) {s3 with heap:=h1,toks:=s2.toks+0}:=by
  refine gL (fun n s'=>∃i zs o0 H',aR (X.block scope cl s3.heap.objs.size (own::ys) own fp s3 (aS H2 s2.heap.objs.size (.lst []))) [] (o0::cF js σ) H' s'/\tn i s'.heap/\(∀b∈fp,H' b=none)/\W i n zs H') ?_ m0
   ⟨0,[],none,_,J0,t0,fun b hb=>(f3 b hb).1,w0⟩
  rintro n s5 ⟨i,zs,o0,H5,I5,t5,n5,w5⟩;obtain ⟨hD,hw⟩:=turn i n zs H5 w5;rcases hw with ⟨stop,qn⟩|⟨go,hz,step⟩
  ·refine b8 (T.done (X.block scope cl s3.heap.objs.size (own::ys) own fp s3 (aS H2 s2.heap.objs.size (.lst []))) rfl rfl rfl hc i [] s5 _ H5 (fun _ _=>False) I5 (fpB n5) t5 stop) fun r s6 ⟨hr,I6⟩=>?_
   subst hr;obtain ⟨m,hn,_⟩:=id I6.loc;exact ⟨m,hn,fun h' hs'=>⟨V.ref s2.heap.objs.size,H5,j6 I3 f3 I6 hs',rfl,qn⟩⟩
  ·refine b8 (T.item (X.block scope cl s3.heap.objs.size (own::ys) own fp s3 (aS H2 s2.heap.objs.size (.lst []))) rfl rfl rfl hc i [] s5 _ H5 (fun _ _=>False) I5 (fpB n5) t5 go) fun r s6 ⟨u,hr,h6⟩=>?_
   subst hr;refine b8 h6 fun _ s7 ⟨x,H7,I7,r7,y7,t7,n7⟩=>?_
   have I7':=I7.pinned (fpB n7) (T.obj _ _ t7);have hst:=step x H7 y7;have own':(relabel scope X.env).names.lookup own=some .local:=lookup_relabel_local ok.ownL;refine b8 (kS (X:=X.block scope cl s3.heap.objs.size (own::ys) own fp s3 (aS H2 s2.heap.objs.size (.lst []))) (i:=0) (x:=own) (pos:=px) ok.nd rfl (.inl own') (.inr own') _ s7 _ H7 x u (fun σ' H'=>σ'=some x::cF js σ/\H'=H7) I7' r7 ⟨rfl,rfl⟩) fun _ s8 ⟨σ8,H8,I8,e8,eH8⟩=>?_
   subst e8 eH8;refine b8 (he _ _ _ _ _ s8 _ H8 _ I8 hst) fun yv s9 ⟨y,H9,I9,r9,hD9,m',hm,w9⟩=>?_
   refine b8 (bG _ s9 _ H9 (.ref s2.heap.objs.size) [y] (.ref s2.heap.objs.size) [yv] (fun _ H'=>H'=aS H9 s2.heap.objs.size (.lst (zs++ [y]))) I9 rfl (.cons r9 .nil) ⟨_,zs,y,rfl,rfl,hD9,hz,rfl⟩) fun _ s10 ⟨_,H10,I10,_,e10⟩=>?_
   subst e10;refine ⟨m',hm,i+1,zs++ [y],some x,_,I10.unpinned,T.keep _ _ _ t7 fun b hb o e=>(I10.pin (b,o) (EE _ (EE _ (dn hb e)))).1,fun b hb=>?_,w9⟩
   obtain ⟨o,e,d⟩:=T.obj _ _ t7 b hb;exact (I10.pin (b,o) (EE _ (EE _ (dn hb e)))).2.1
 subst hs3;exact codeAny_compStart_list loop (T.self _ 0 _ _ _ t0 loop)
end
open PySem.Builtin PySem.Builtin.ObjectAttr
theorem jG:entryFor table "proto.unchain" =some Builtin.«proto.unchain» :=entryFor_of_fast (by kernel_rfl)
def oR (hd:Iv) (H:Hp):Prop:=∀v,hd=some v->∃a n cls dx,v= .ref a/\H a=some (vS n a cls dx)
theorem oR.no {H:Hp}:oR none H:=fun _ z=>nomatch z
section
variable {prog:Program} {w:World} {A:Around} {E:Ik} {s:Shared}
theorem oS {it hx:Addr} {ox:Obj} {vs:Array Value} {x left step:Int} {Q:Iv->Shared->Prop} (hh:A.handled=some (.ref hx)) (ho:s.heap.get? hx=some ox) (hd:ox.data= .fields vs) (h2:vs[2]?=some .none)
  (hit:IsRangeIter s.heap it x left step) (hleft:left<=0) (hQ:∀h',Heap.ExtBut it s.heap h'->Q none {s with heap:=h'}):wpAny (model prog w) A (pyNext (.ref it)) Q E s:=by
 have hT:s.TypeIs (.ref it) "range_iterator" :=⟨_,hit,rfl⟩;unfold pyNext;refine wpAny_bind (wpAny_attempt (wpAny_callSpecial?_slot (name:=Str.ofString "__next__") hT F.slot_range_iterator_next
  (wpAny_call_entry F.slot_range_iterator_next hT F.entry_range_iterator_next ?_ (F.args_range_iterator_next_1 _))))
 show wpAny _ _ (field (.ref it) 0>>=_) _ _ s;refine wpAny_bind (wpAny_field hit rfl (x:=rawInt x) rfl ?_);show wpAny _ _ (field (.ref it) 1>>=_) _ _ s;refine wpAny_bind (wpAny_field hit rfl (x:=rawInt left) rfl ?_);show wpAny _ _ (field (.ref it) 2>>=_) _ _ s;refine wpAny_bind (wpAny_field hit rfl (x:=rawInt step) rfl ?_);show wpAny _ _ (if left<=0 then _ else _) _ _ s
 rw[if_pos hleft];refine wpAny_bind (wpAny_rule ?_);refine wpAny_bind ?_;show wpAny _ _ (newExc (.type "StopIteration") []>>=_) _ _ _;refine wpAny_bind ?_;simp only[newExc,newTuple];refine wpAny_bind (wpAny_newObj_type ?_ (by size_fits))
 refine wpAny_bind (m:=firstArgMember _ _) (wpAny_of_eq (a:=Value.none) (by first|rfl|(simp only[firstArgMember];rfl)) ?_)
 refine wpAny_newObj_type ?_ (by size_fits)
 simp only[raiseNew];refine wpAny_bind (wpAny_handled ?_);rw[show A.in1.handled=some (.ref hx) from hh]
 have g0:s.heap.get? (s.heap.push {cls:= .type "tuple",dict:=none,data:= .seq ([]:Ir).toArray}).objs.size=none:=Heap.get?_none_of_le (by rw[Heap.size_push];omega)
 have ne:hx≠(s.heap.push {cls:= .type "tuple",dict:=none,data:= .seq ([]:Ir).toArray}).objs.size:=fun z=>by
  rw[z,g0] at ho;cases ho
 dsimp only;rw[if_pos (bne_iff_ne.mpr fun z=>ne (Value.ref.inj z))]
 refine wpAny_bind (wpAny_holding (wpAny_runValue (codeAny_builtin jG ?_)));show wpAny _ _ (field (.ref hx) 2>>=_) _ _ _;refine wpAny_bind (wpAny_field (Heap.get?_push_of_some _ (Heap.get?_push_of_some _ ho)) hd h2 ?_);rw[if_pos (by rfl)]
 refine wpAny_bind (wpAny_pure (wpAny_pure ?_));refine wpAny_bind (m:=updateField _ 2 _) (wpAny_setField (Heap.get?_push_size _ rfl) rfl (by show 2<6;decide) ?_)
 refine wpAny_throw ?_;refine wpAny_bind (wpAny_isInstance (T:= "StopIteration") (b:=true) ⟨_,Heap.get?_update_self _ (Heap.get?_push_size _ rfl) rfl,rfl⟩ isSubtype_stop ?_);refine wpAny_pure (hQ _ fun b o hb e=>?_)
 rw[Heap.get?_update_other _ _ (by
  intro z;rw[z] at g0;rw[g0] at e;cases e)]
 exact Heap.get?_push_of_some _ (Heap.get?_push_of_some _ e)
end
structure xg (hd:Iv) (P:Program) (w:World) (K:D9) (tg:Expr) (J:It) (fp:Iq) (it:Addr) (tn:Nat->Heap->Prop):Prop where
 mem:it∈fp
 obj:∀i h,tn i h->∀b∈fp,∃o,h.get? b=some o/\∀v,o.data≠ .cell v
 keep:∀i h h',tn i h->(∀b∈fp,∀o,h.get? b=some o->h'.get? b=some o)->tn i h'
 item:∀(X:Cx),X.prog=P->X.w=w->X.K=K->X.A.handled=hd->∀(i:Nat) (pins:Im) (s:Shared) (σ:St) (H:Hp) (E:Ik),aR X pins σ H s->(∀b∈fp,fu X pins H b)->tn i s.heap->J.go i H->
  wpAny (model P w) X.A (pyNext (.ref it)) (fun r s1=>∃u,r=some u/\
   wpAny (model P w) X.A (letOwnedTupleGo tg (.ref it) u) (fun _ s2=>∃x H',aR X pins σ H' s2/\RelV x u/\J.yld i H x H'/\tn (i+1) s2.heap/\∀b∈fp,H' b=none) E s1) E s
 done:∀(X:Cx),X.prog=P->X.w=w->X.K=K->X.A.handled=hd->∀(i:Nat) (pins:Im) (s:Shared) (σ:St) (H:Hp) (E:Ik),aR X pins σ H s->(∀b∈fp,fu X pins H b)->tn i s.heap->J.stop i H->
  wpAny (model P w) X.A (pyNext (.ref it)) (fun r s1=>r=none/\aR X pins σ H s1) E s
 self:∀(A:Around) (i:Nat) (s:Shared) (Q:Ik) (E:Ik),tn i s.heap->Q (.ref it) s->wpAny (model P w) A (pyIter (.ref it)) Q E s
def AL (hd:Iv) (X:Cx) (pins:Im) (σ:St) (tg:Expr) (R:It->Hp->Prop) (itv:Value) (s2:Shared):Prop:=
 ∃(it:Addr) (fp:Iq) (tn:Nat->Heap->Prop) (J:It) (H':Hp),itv= .ref it/\aR X pins σ H' s2/\xg hd X.prog X.w X.K tg J fp it tn/\tn 0 s2.heap/\(∀b∈fp,fu X pins H' b)/\R J H'
def DB (hd:Iv) (X:Cx) (tg iter:Expr) (wi:TI):Prop:=
 ∀(pins:Im) (s:Shared) (σ:St) (H:Hp) (R:It->Hp->Prop),aR X pins σ H s->wi σ H R->
  wpAny (model X.prog X.w) X.A (eval iter X.env) (fun v s1=>wpAny (model X.prog X.w) X.A (pyIter v) (AL hd X pins σ tg R) X.xe s1) X.xe s
def vV (hd:Iv) (lo:Int) (n:Nat):It:=⟨fun i _=>i<n,fun i H x H'=>H'=H/\x= .int (lo+i),fun i H=>n<=i/\oR hd H⟩
theorem mK {hd:Iv} {P:Program} {w:World} {K:D9} {tg:Expr} (it:Addr) (lo:Int) (n:Nat):xg hd P w K tg (vV hd lo n) [it] it (fun i h=>IsRangeIter h it (lo+(i:Nat)*1) ((n:Int)-(i:Nat)) 1) where
 mem:=by simp
 obj:=fun i h st b hb=>by
  have e:b=it:=by simpa using hb
  subst e;exact ⟨_,st,fun v z=>by
   have z':Data.fields _=Data.cell v:=z;cases z'⟩
 keep:=fun i h h' st k=>k it (by simp) _ st
 item:=by
  intro X hP hw hK hA i pins s σ H E I hf st hg;subst hP hw hK;obtain ⟨f0,f1,f2,f3,f4,f5⟩:=hf it (by simp)
  have hg':i<n:=hg;refine wpAny_pyNext_range_item st (by omega) fun h' st' sb=>?_
  have I1:aR X pins σ H {s with heap:=h',toks:=s.toks+1}:=I.turned (fun b o hb e=>(sb.2 b hb).trans e) f0 f1 f3 f4 f5
  have st2:IsRangeIter h' it (lo+((i+1:Nat):Int)*1) ((n:Int)-((i+1:Nat):Int)) 1:=by
   have e1:lo+((i+1:Nat):Int)*1=lo+(i:Int)*1+1:=by push_cast;omega
   have e2:(n:Int)-((i+1:Nat):Int)=(n:Int)-(i:Int)-1:=by push_cast;omega
   rw[e1,e2];exact st'
  refine ⟨_,rfl,pU (s:={s with heap:=h',toks:=s.toks+1}) (n:= "range_iterator") st2 rfl rfl (by decide) ⟨.int (lo+i),H,I1,⟨s.toks,?_⟩,⟨rfl,rfl⟩,st2,fun b hb=>(hf b hb).1⟩⟩
  rw[Int.mul_one]
 done:=by
  intro X hP hw hK hA i pins s σ H E I hf st hg;subst hP hw hK;obtain ⟨f0,f1,f2,f3,f4,f5⟩:=hf it (by simp)
  obtain ⟨hl,hk⟩:=hg;cases hd with
  |none=>exact wpAny_pyNext_range_end hA st (by omega) fun h' eb=>⟨rfl,I.turned (t':=s.toks) (fun b o hb e=>eb b o hb e) f0 f1 f3 f4 f5⟩
  |some v=>
   obtain ⟨a,m,cls,dx,rfl,e⟩:=hk v rfl;obtain ⟨⟨ox,vs,h1,h2,h3,h4,h6,h5⟩,_⟩:=(show cx X.prog X.w H s.heap a (vS m a cls dx) from I.hok a _ e)
   exact oS hA h1 h4 h6 st (by omega) fun h' eb=>⟨rfl,I.turned (t':=s.toks) (fun b o hb e=>eb b o hb e) f0 f1 f3 f4 f5⟩
 self:=fun _ _ _ _ _ st h=>wpAny_pyIter_rangeiter st h
def AM (hd:Iv) (ta:TA):TI:=fun σ H R=>ta σ H fun vs H1=>∃j:Int,vs= [.int j]/\ -(2^62)<=j/\j<2^62/\R (vV hd 0 j.toNat) H1
section
variable {X:Cx} {tg:Expr} {hd:Iv}
theorem rJ {pins:Im} {σ:St} {H:Hp} {s:Shared} {R:It->Hp->Prop} {E:Ik} {lo hi:Int} {t u v:Tok} {tk:Nat} (I:aR X pins σ H s) (h1: -(2^62)<=lo) (h2:lo<2^62) (h3: -(2^62)<=hi) (h4:hi<2^62)
  (q:R (vV hd lo (hi-lo).toNat) H):wpAny (model X.prog X.w) X.A (pyIter (.ref s.heap.objs.size)) (AL hd X pins σ tg R) E {s with heap:=s.heap.push {cls:= .type "range",data:= .fields #[.int lo t,.int hi u,.int 1 v]},toks:=tk}:=by
 refine wpAny_pyIter_range (IsRange.new ..) (small_one h1 h2 h3 h4) ?_;have I1:aR X pins σ H {s with heap:=s.heap.push {cls:= .type "range",data:= .fields #[.int lo t,.int hi u,.int 1 v]},toks:=tk}:=I.kept fun b o e=>Heap.get?_push_of_some _ e
 refine ⟨(s.heap.push {cls:= .type "range",data:= .fields #[.int lo t,.int hi u,.int 1 v]}).objs.size,[(s.heap.push {cls:= .type "range",data:= .fields #[.int lo t,.int hi u,.int 1 v]}).objs.size],_,_,H,rfl,
  I1.kept (t':=tk) fun b o e=>Heap.get?_push_of_some _ e,mK _ lo (hi-lo).toNat,?_,fun b hb=>?_,q⟩
 ·have e1:lo+((0:Nat):Int)*1=lo:=by simp
  have e2:(((hi-lo).toNat:Nat):Int)-((0:Nat):Int)=Builtin.Range.rangeSize lo hi 1:=by rw[rangeSize_one];split<;>omega
  show IsRangeIter _ _ (lo+((0:Nat):Int)*1) ((((hi-lo).toNat:Nat):Int)-((0:Nat):Int)) 1;rw[e1,e2];exact Heap.get?_push_size _ rfl
 ·have e:b=(s.heap.push {cls:= .type "range",data:= .fields #[.int lo t,.int hi u,.int 1 v]}).objs.size:=by simpa using hb
  subst e;exact I1.fpOk (EB _) (I1.hok.fresh (EB _))
theorem rK {a:Expr} {ta:TA} {p pos:Pos} (hg:Gl X "range") (hm:X.mg "range" =none) (ha:PA X [a] ta) (hs:starEach [a] X.env= [(false,eval a X.env)]:=by rfl):DB hd X tg (.Call (.Name "range" p) [a] [] pos) (AM hd ta):=by
 intro pins s σ H R I h;refine Call_ (fj I hg hm boot_range (FD (b8 (ha pos pins s σ H _ I h) fun us s1 ⟨vs,H1,I1,r1,q1⟩=>?_) hs rfl))
 obtain ⟨j,e,q1,q2,q⟩:=q1;subst e;cases r1 with
 |cons r rr=>
  cases rr;obtain ⟨t,rfl⟩:=r;exact call_range_1 (rJ I1 (by omega) (by omega) q1 q2 (by simpa using q))
end
section
variable {X:Cx} {scope:Scope} {cl:List (Str×Addr)} {own:Str} {ys:Ip} {js:List Nat} {elt iter:Expr} {px pos:Pos} {wi:TI} {te:TE} {hd:Iv}
theorem tO (hA:X.A.handled=hd) (ok:lf X scope cl own ys js) (hi:DB hd X (.Name own px) iter wi)
  (he:∀(C:Addr) (fp:Iq) (s:Shared) (H:Hp),PE (X.block scope cl C (own::ys) own fp s H) elt te)
  (hs:∀x,foldedSetIterable iter X.env x=pure x:=by intro _;rfl):PE X (.ListComp elt [⟨.Name own px,iter,[],0⟩] scope pos) (xf wi js te):=by
 intro pins s σ H Q I h;rw[eval_ListComp];have ncell:∀y∈scope.names,y.2≠ .cell:=fun y hy z=>by
  have q:=FZ.mp ok.nocell y hy;rw[z] at q;simp at q
 have nloc:∀y∈scope.names,y.2= .local->scope.names.lookup y.1=some .local:=fun y hy z=>by
  have q:=FZ.mp ok.loc y hy;rw[z] at q
  simpa using q
 refine wpAny_comprehension_free (use:=none) rfl hs ok.clos ok.kind nloc (b8 (hi pins s σ H _ I h) fun v s1 h1=>b8 h1 fun itv s2 h2=>?_)
 obtain ⟨it,fp,tn,J,H2,rfl,I2,T,st2,f2,q2⟩:=h2;obtain ⟨W,⟨m0,w0⟩,turn⟩:=q2 s2.heap.objs.size (I2.hok.fresh (EB _));refine wpAny_newObj_type (wpAny_newFunctionEnv ncell (by intro y hy;simp at hy) (fun h1 hns hsb=>?_) ok.kind)
 have I3:=I2.laid (a:=s2.heap.objs.size) (o:= .lst []) (h':=s2.heap.push {cls:= .type "list",dict:=none,data:= .seq ([]:Ir).toArray}) (t':=s2.toks) (fun b u q=>Heap.get?_push_of_some _ q) (EB _)
  ⟨F0 _,[],0,.nil,Heap.get?_push_size _ rfl⟩
 have fpo:∀b∈fp,b<s2.heap.objs.size:=fun b hb=>by
  obtain ⟨o,e,_⟩:=T.obj 0 _ st2 b hb;exact Heap.lt_size e
 have f3:∀b∈fp,fu X pins (aS H2 s2.heap.objs.size (.lst [])) b:=fun b hb=>⟨by rw[az (EU (fpo b hb))];exact (f2 b hb).1,(f2 b hb).2⟩
 generalize hs3:({s2 with heap:=s2.heap.push {cls:= .type "list",dict:=none,data:= .seq ([]:Ir).toArray},toks:=s2.toks}:Shared)=s3 at I3
 have e3:s3.heap=s2.heap.push {cls:= .type "list",dict:=none,data:= .seq ([]:Ir).toArray}:=by rw[<-hs3]
 have lt3:∀b∈fp,b<s3.heap.objs.size:=fun b hb=>by rw[e3,Heap.size_push];exact Nat.lt_succ_of_lt (fpo b hb)
 dsimp only at hns hsb⊢;rw[<-e3] at hns hsb;have hk:∀b o,s3.heap.get? b=some o->h1.get? b=some o:=fun b o e=>hsb.extBut b o (EU (Heap.lt_size e)) (Heap.get?_push_of_some _ e)
 have J0:=iA (h1:=h1) ok I3 f3 lt3 hns hk (s2.toks+0);have t0:tn 0 h1:=T.keep 0 _ _ st2 fun b hb o e=>hk b o (by rw[e3];exact Heap.get?_push_of_some _ e)
 have fpB:∀{H':Hp},(∀b∈fp,H' b=none)->∀b∈fp,fu (X.block scope cl s3.heap.objs.size (own::ys) own fp s3 (aS H2 s2.heap.objs.size (.lst []))) [] H' b:=fun {H'} hn b hb=>
  ⟨hn b hb,EU (lt3 b hb),fun z=>(E3.mp (I3.stkSub b z)).elim (f3 b hb).2.1 (f3 b hb).2.2.1,.inl hb,fun x c e=>(f3 b hb).2.2.2.2.1 x c (ok.sub (x,c) (Eu e)),fun p hp=>absurd (show p∈([]:Im) from hp) (by simp)⟩
 have loop:codeAny (model X.prog X.w) X.A (.compLoop (.ListComp elt [⟨.Name own px,iter,[],0⟩] scope pos) 0 (.ref it) (.ref s2.heap.objs.size) (compEnvC scope cl s3.heap.objs.size X.env))
   (compPost (model X.prog X.w) X.A X.xe none (EP X pins σ Q) (.ref s2.heap.objs.size) s3.heap.objs.size) {s3 with heap:=h1,toks:=s2.toks+0}:=by
  refine gL (fun n s'=>∃i zs o0 H',aR (X.block scope cl s3.heap.objs.size (own::ys) own fp s3 (aS H2 s2.heap.objs.size (.lst []))) [] (o0::cF js σ) H' s'/\tn i s'.heap/\(∀b∈fp,H' b=none)/\W i n zs H') ?_ m0
   ⟨0,[],none,_,J0,t0,fun b hb=>(f3 b hb).1,w0⟩
  rintro n s5 ⟨i,zs,o0,H5,I5,t5,n5,w5⟩;obtain ⟨hD,hw⟩:=turn i n zs H5 w5;rcases hw with ⟨stop,qn⟩|⟨go,hz,step⟩
  ·refine b8 (T.done (X.block scope cl s3.heap.objs.size (own::ys) own fp s3 (aS H2 s2.heap.objs.size (.lst []))) rfl rfl rfl hA i [] s5 _ H5 (fun _ _=>False) I5 (fpB n5) t5 stop) fun r s6 ⟨hr,I6⟩=>?_
   subst hr;obtain ⟨m,hn,_⟩:=id I6.loc;exact ⟨m,hn,fun h' hs'=>⟨V.ref s2.heap.objs.size,H5,j6 I3 f3 I6 hs',rfl,qn⟩⟩
  ·refine b8 (T.item (X.block scope cl s3.heap.objs.size (own::ys) own fp s3 (aS H2 s2.heap.objs.size (.lst []))) rfl rfl rfl hA i [] s5 _ H5 (fun _ _=>False) I5 (fpB n5) t5 go) fun r s6 ⟨u,hr,h6⟩=>?_
   subst hr;refine b8 h6 fun _ s7 ⟨x,H7,I7,r7,y7,t7,n7⟩=>?_
   have I7':=I7.pinned (fpB n7) (T.obj _ _ t7);have hst:=step x H7 y7;have own':(relabel scope X.env).names.lookup own=some .local:=lookup_relabel_local ok.ownL;refine b8 (kS (X:=X.block scope cl s3.heap.objs.size (own::ys) own fp s3 (aS H2 s2.heap.objs.size (.lst []))) (i:=0) (x:=own) (pos:=px) ok.nd rfl (.inl own') (.inr own') _ s7 _ H7 x u (fun σ' H'=>σ'=some x::cF js σ/\H'=H7) I7' r7 ⟨rfl,rfl⟩) fun _ s8 ⟨σ8,H8,I8,e8,eH8⟩=>?_
   subst e8 eH8;refine b8 (he _ _ _ _ _ s8 _ H8 _ I8 hst) fun yv s9 ⟨y,H9,I9,r9,hD9,m',hm,w9⟩=>?_
   refine b8 (bG _ s9 _ H9 (.ref s2.heap.objs.size) [y] (.ref s2.heap.objs.size) [yv] (fun _ H'=>H'=aS H9 s2.heap.objs.size (.lst (zs++ [y]))) I9 rfl (.cons r9 .nil) ⟨_,zs,y,rfl,rfl,hD9,hz,rfl⟩) fun _ s10 ⟨_,H10,I10,_,e10⟩=>?_
   subst e10;refine ⟨m',hm,i+1,zs++ [y],some x,_,I10.unpinned,T.keep _ _ _ t7 fun b hb o e=>(I10.pin (b,o) (EE _ (EE _ (dn hb e)))).1,fun b hb=>?_,w9⟩
   obtain ⟨o,e,d⟩:=T.obj _ _ t7 b hb;exact (I10.pin (b,o) (EE _ (EE _ (dn hb e)))).2.1
 subst hs3;exact codeAny_compStart_list loop (T.self _ 0 _ _ _ t0 loop)
end
end L2
namespace Sw
open PySem L2 XH
structure Dx (P:Program) (w:World) (K:D9) (mg:Il) (base:Heap) (CX:oF) (k:Nat) (x:Str) (ps:Ip) (dvs:List V) (sp:Sp) where
 f:Addr
 fd:FuncData
 ok:aY P w K mg base CX k f fd ps sp
 m:mg x=some (.ref f)
 q:F6 K (.ref f)=true
 b:Binds K fd ps []
 bd:∃ds,Binds K fd ps ds/\a9 dvs ds
def Dx.calm {P:Program} {w:World} {K:D9} {mg:Il} {base:Heap} {k:Nat} {x:Str} {ps:Ip} {dvs:List V} {sp sp0:Sp} (D:Dx P w K mg base (k9 P w) k x ps dvs sp) (h:∀vs H Q E,sp0 vs H Q E->sp vs H Q E0):Dx P w K mg base a7 k x ps dvs sp0:=
 ⟨D.f,D.fd,D.ok.noraise h,D.m,D.q,D.b,D.bd⟩
section
variable {X:Cx} {k j:Nat} {x:Str} {ps:Ip} {sp:Sp} {p pos:Pos} {e:Expr} {es:List Expr} {t:TA} {dvs:List V} {E:St->XK}
theorem ya (D:Dx X.prog X.w X.K X.mg X.base a7 k x ps dvs sp) (hr:cn j X.A) (hk:k<=j) (hg:Gl X x) (ha:PA X (e::es) t) (hdb:(x==("__debug__" :Str))=false:=by decide)
  (he:starEach (e::es) X.env=(false,eval e X.env)::starEach es X.env:=by rfl) (hpl:(backTo pos (starEach es X.env)).any (·.1)=false:=by rfl):
  PE X (.Call (.Name x p) (e::es) [] pos) (jP sp [] E0 t):=
 pZ D.ok (hr.mono hk) hg D.m D.q D.b .nil i7 ha hdb he hpl
theorem vW (D:Dx X.prog X.w X.K X.mg X.base a7 k x ps dvs sp) (hr:cn j X.A) (hk:k<=j) (hg:Gl X x) (ha:PA X (e::es) t) (hdb:(x==("__debug__" :Str))=false:=by decide)
  (he:starEach (e::es) X.env=(false,eval e X.env)::starEach es X.env:=by rfl) (hpl:(backTo pos (starEach es X.env)).any (·.1)=false:=by rfl):
  PE X (.Call (.Name x p) (e::es) [] pos) (jP sp dvs E0 t):=by
 obtain ⟨ds,hb,hv⟩:=D.bd;exact pZ D.ok (hr.mono hk) hg D.m D.q hb hv i7 ha hdb he hpl
theorem yb (D:Dx X.prog X.w X.K X.mg X.base (k9 X.prog X.w) k x ps dvs sp) (hr:cn j X.A) (hk:k<=j) (hg:Gl X x) (hx:mH X E) (ha:PA X (e::es) t) (hdb:(x==("__debug__" :Str))=false:=by decide)
  (he:starEach (e::es) X.env=(false,eval e X.env)::starEach es X.env:=by rfl) (hpl:(backTo pos (starEach es X.env)).any (·.1)=false:=by rfl):
  PE X (.Call (.Name x p) (e::es) [] pos) (tK sp [] E t):=
 tL D.ok (hr.mono hk) hg D.m D.q D.b .nil hx ha hdb he hpl
end
theorem br.okX {P:Program} {w:World} {K:D9} {mg:Il} {base:Heap} {x qual:Str} {st:Stmt} {dV:Value} {f:Addr} {fd:FuncData} {N ps:Ip} {k:Nat} {sp:Sp} (F:br K x qual st dV f fd) (S:aB N ps (av st)) (len:∀vs H Q E,sp vs H Q E->vs.length=ps.length)
  (hbody:∀(cdv:Value) (A:Around) (outer:List Env) (s:Shared) (H:Hp) (vs:List V) (Q:VK) (E:XK),cn k (A.deeper (PyProof.Rows.envOfC qual (av st) s.heap.objs.size f cdv))->sp vs H Q E->
   ∃t,iV ((iI (k9 P w) P w K mg base N qual (av st) f cdv A outer s H E).wish (XS (iI (k9 P w) P w K mg base N qual (av st) f cdv A outer s H E) fun _=>E)) (di st) t/\t {nx:=fun _ H'=>Q .non H',rt:=Q} (start N vs) H):aY P w K mg base (k9 P w) (k+1) f fd ps sp:=by
 obtain ⟨oc,od,kV,doc,pm,an,cdv,ct,osl,rfl,lk,hcd⟩:=F.ex;exact xX lk hcd S len fun A outer s H vs Q E hr hsp=>hbody cdv A outer s H vs Q E hr hsp
end Sw
namespace L2
open PySem PySem.Spec PyProof.Rows XH
theorem b4 {X:Cx} {K:D9} (hK:X.K=K):dG X (.builtin "isinstance") (fun xs H Q=>∃x t T b,xs= [x,.ty T]/\gu K H x t/\EJ K t (.type T)=some b/\Q (.bl b) H):=by
 subst hK;intro pins s σ H xs us Q I r h;obtain ⟨x,t,T,b,rfl,ty,e,q⟩:=h;obtain ⟨u,w',rfl,e1,e2⟩:=vals2 r;cases e2;exact jN I e1 ty e fun tk=>⟨.bl b,H,I.tok tk,rfl,q⟩
end L2
namespace Sw
open PySem L2 XH
end Sw
namespace L2
open PySem PySem.Spec PyProof.Rows XH
def Ae:V->Prop
 | .bl _=>True
 | .int _=>True
 | .str _=>True
 | .non=>True
 |_=>False
theorem mM {A:Around} {s:Shared} {v:V} {u w:Value} (h:Ae v) (r1:RelV v u) (r2:RelV v w):SeqAt.EqAt A s u w true:=by
 cases v with
 |bl b=>
  cases r1;cases r2;have z:=SeqAt.EqAt.bool_bool (A:=A) (s:=s) b b;rw[beq_self_eq_true] at z;exact z
 |int i=>
  obtain ⟨t,rfl⟩:=r1;obtain ⟨t',rfl⟩:=r2;have z:=SeqAt.EqAt.int_int (A:=A) (s:=s) i t i t';rw[beq_self_eq_true] at z;exact z
 |str i=>
  obtain ⟨t,rfl⟩:=r1;obtain ⟨t',rfl⟩:=r2;have z:=SeqAt.EqAt.str_str (A:=A) (s:=s) i t i t';rw[beq_self_eq_true] at z;exact z
 |non=>
  cases r1;cases r2;exact SeqAt.EqAt.same _
 |_=>exact absurd h (fun z=>z)
theorem j7 {A:Around} {s:Shared}:∀{zs:List V} {us ws:Ir},(∀z∈zs,Ae z)->a9 zs us->a9 zs ws->∀j (h1:j<us.length) (h2:j<ws.length),SeqAt.EqAt A s us[j] ws[j] true
 |_,_,_,_,.nil,.nil,j,h1,_=>absurd h1 (by simp)
 |_,_,_,hs,.cons r1 _,.cons r2 _,0,_,_=>mM (hs _ (Er)) r1 r2
 |_,_,_,hs,.cons _ t1,.cons _ t2,j+1,h1,h2=>j7 (fun z hz=>hs z (E6 _ hz)) t1 t2 j (by simpa using h1) (by simpa using h2)
theorem tP {X:Cx} (hu:X.A.units<cLine):gb X (compareOp .NotEq) (fun x y H Q=>∃a b zs,x= .ref a/\y= .ref b/\aH X.K H a zs/\aH X.K H b zs/\(∀z∈zs,Ae z)/\Q (.bl false) H):=by
 intro pins s σ H x y v u Q I rx ry h;obtain ⟨a,b,zs,rfl,rfl,h1,h2,hs,hq⟩:=h;cases rx;cases ry;obtain ⟨i1,r1,p1,_⟩:=I.list h1;obtain ⟨i2,r2,p2,_⟩:=I.list h2;refine SeqAt.RcNeAt.lists (e:=fun _=>true) p1.isList p2.isList (by simp[<-r1.length,<-r2.length]) hu (fun j g1 g2=>?_) _ _ _ _ ⟨.bl false,H,I,by show Value.bool _=Value.bool _;simp,hq⟩
 exact j7 (A:=X.A.in1) (s:=s) hs r1 r2 j (by simpa using g1) (by simpa using g2)
end L2
namespace Sw
open PySem L2 XH PyProof.Rows
theorem yc {hd:Iv} {H H':Hp} (h:oR hd H) (g:aJ H H'):oR hd H':=fun v e=>by
 obtain ⟨a,n,cls,dx,e1,e2⟩:=h v e;exact ⟨a,n,cls,dx,e1,g _ _ e2⟩
theorem oU {H H':Hp} {p:Addr} (g:aJ H H') (h:H p=none) (o:HO):aJ H (aS H' p o):=fun b u q=>by
 rw[az (aM q h)];exact g b u q
theorem vX {hd:Iv} {n:Nat} {js:List Nat} {te:TE} {σ:L2.St} {H1:Hp} {Q:VK} (P:Nat->V->Prop) (hok:oR hd H1) (hn:n<=sizeLine)
  (step:∀i,i<n->∀H3,aJ H1 H3->∀Q':VK,(∀y H4,P i y->aJ H3 H4->Q' y H4)->te (some (.int (0+(i:Int)))::cF js σ) H3 Q')
  (fin:∀p ys H',H1 p=none->ys.length=n->(∀i y,ys[i]?=some y->P i y)->aJ H1 H'->H' p=some (.lst ys)->Q (.ref p) H'):
  mJ js te σ Q (vV hd 0 n) H1:=by
 intro p hp;refine ⟨fun i m ys H2=>i<=n/\m=n-i/\ys.length=i/\(∀j y,ys[j]?=some y->P j y)/\aJ H1 H2/\H2 p=some (.lst ys),⟨n,F0 _,rfl,rfl,fun j y e=>by simp at e,aj hp _,af⟩,?_⟩
 rintro i m ys H2 ⟨hi,rfl,hl,hP,g,e⟩;refine ⟨e,?_⟩
 by_cases hin:i<n
 ·refine .inr ⟨hin,by omega,fun x H3 hy=>?_⟩
  obtain ⟨rfl,rfl⟩:=hy;refine step i hin H3 g _ fun y H4 py g4=>⟨g4 _ _ e,n-(i+1),by omega,hin,rfl,by simp[hl],fun j z ez=>?_,oU (g.trans g4) hp _,af⟩
  by_cases hj:j<ys.length
  ·rw[EF hj] at ez;exact hP j z ez
  ·rw[EA (by omega)] at ez
   have h0:j-ys.length=0:=by
    rcases Nat.eq_zero_or_pos (j-ys.length) with q|q
    ·exact q
    ·rw[FW (by simp;omega)] at ez;cases ez
   rw[h0] at ez;have hji:j=i:=by omega
   subst hji;cases ez;exact py
 ·have e2:i=n:=by omega
  subst e2;exact .inl ⟨⟨EB _,yc hok g⟩,fin p ys H2 hp hl hP g e⟩
def lh (X:Cx) (scope:Scope) (ys:Ip) (js:List Nat):Prop:=∀(i:Nat) (y:Str),ys[i]?=some y->∃j:Nat,js[i]?=some j/\X.N[j]?=some y/\(X.env.scope.names.lookup y=some .cell∨X.env.scope.names.lookup y=some .free)/\((relabel scope X.env).names.lookup y=some .cell∨(relabel scope X.env).names.lookup y=some .free)
theorem AN {X:Cx} {scope:Scope}:lh X scope [] []:=fun i y h=>by simp at h
theorem DC {X:Cx} {scope:Scope} {ys:Ip} {js:List Nat} {y:Str} {j:Nat} (t:lh X scope ys js) (h1:X.N[j]?=some y:=by rfl) (h2:X.env.scope.names.lookup y=some .cell∨X.env.scope.names.lookup y=some .free:=by first|exact Or.inl rfl|exact Or.inr rfl)
  (h3:(relabel scope X.env).names.lookup y=some .cell∨(relabel scope X.env).names.lookup y=some .free:=by first|exact Or.inl rfl|exact Or.inr rfl):lh X scope (y::ys) (j::js):=fun i z h=>by
 cases i with
 |zero=>
  cases h;exact ⟨j,rfl,h1,h2,h3⟩
 |succ i=>exact t i z h
inductive rL (X:Cx):List (Str×Addr)->Prop where
 |nil:rL X []
 |cons {y:Str} {c:Addr} {cl:List (Str×Addr)} (h:X.env.cells.lookup y=some c) (t:rL X cl):rL X ((y,c)::cl)
theorem rL.all {X:Cx} {cl:List (Str×Addr)} (h:rL X cl):∀p∈cl,X.env.cells.lookup p.1=some p.2:=by
 induction h with
 |nil=>intro p hp;simp at hp
 |cons h _ ih=>
  intro p hp;rcases E3.mp hp with e|e
  ·rw[e];exact h
  ·exact ih p e
theorem AO {X:Cx} {scope:Scope} {cl:List (Str×Addr)} {own:Str} {ys:Ip} {js:List Nat} (a:lh X scope ys js) (s:rL X cl) (nd:(own::ys).Nodup) (len:js.length=ys.length) (clos:closureFor scope X.env=pure cl) (nocell:(scope.names.all fun p=> !(p.2== .cell))=true) (kind:scope.kind= .function)
  (loc:(scope.names.all fun p=> !(p.2== .local)||scope.names.lookup p.1==some .local)=true) (ownL:scope.names.lookup own=some .local) (has:((relabel scope X.env).names.all fun p=> !(p.2== .cell||p.2== .free)||(cl.lookup p.1).isSome)=true) (noown:cl.lookup own=none):lf X scope cl own ys js:=
 ⟨clos,nocell,kind,loc,ownL,s.all,has,noown,nd,a,len⟩
structure jH (P:Program) (w:World) (K:D9) (mg:Il) (base:Heap) (CX:oF) (k:Nat) (f:Addr) (ps:Ip) (dvs:List V) (sp:Sp) where
 fd:FuncData
 ok:aY P w K mg base CX k f fd ps sp
 b:Binds K fd ps []
 bd:∃ds,Binds K fd ps ds/\a9 dvs ds
def tQ (K:D9) (m:Str) (f:Addr) (sp:Sp) (dvs:List V) (ta:TE) (t:TA):TE:=fun σ H Q=>ta σ H fun x H1=>∃a C dx fs,x= .ref a/\H1 a=some (.ins C dx fs)/\iY K C/\b7 K C m f/\fs.lookup m=none/\
 t σ H1 fun vs H2=>sp (x::(vs++dvs)) H2 Q E0
structure yd (K:D9) (C:Addr) (m:Str) (f:Addr):Prop where
 sp:PySem.W.specialIn K (.ref C) "__getattribute__" =some (some (.builtin "type.__getattribute__"))
 rd:PySem.W.readsIn K C (.type "type")=true
 fc:PySem.W.findCls K (.ref C) (.type "type") m=some (.val (.ref f))
 kp:F6 K (.ref f)=true
section
variable {X:Cx} {k j:Nat} {f C:Addr} {ps:Ip} {sp:Sp} {dvs:List V} {x m:Str} {p pos apos:Pos} {e o:Expr} {es:List Expr} {ta tb:TE} {t:TA}
theorem ye (M:Mk X.K C f) (D:jH X.prog X.w X.K X.mg X.base a7 k f ps dvs sp) (hr:cn j X.A) (hk:k+1<=j) (hg:Gl X x) (hm:X.mg x=some (.ref C)) (ha:PA X (e::es) t) (hdb:(x==("__debug__" :Str))=false:=by decide)
  (he:starEach (e::es) X.env=(false,eval e X.env)::starEach es X.env:=by rfl) (hpl:(backTo pos (starEach es X.env)).any (·.1)=false:=by rfl):PE X (.Call (.Name x p) (e::es) [] pos) (sW C sp [] E0 t):=
 p9 M D.ok (hr.mono hk) hg hm D.b .nil i7 ha hdb he hpl
theorem lm (M:Mk X.K C f) (D:jH X.prog X.w X.K X.mg X.base a7 k f ps dvs sp) (hr:cn j X.A) (hk:k+1<=j) (hg:Gl X x) (hm:X.mg x=some (.ref C)) (ha:PA X (e::es) t) (hdb:(x==("__debug__" :Str))=false:=by decide)
  (he:starEach (e::es) X.env=(false,eval e X.env)::starEach es X.env:=by rfl) (hpl:(backTo pos (starEach es X.env)).any (·.1)=false:=by rfl):PE X (.Call (.Name x p) (e::es) [] pos) (sW C sp dvs E0 t):=by
 obtain ⟨ds,hb,hv⟩:=D.bd;exact p9 M D.ok (hr.mono hk) hg hm hb hv i7 ha hdb he hpl
theorem tR {pins:Im} {σ:L2.St} {H1:Hp} {s1:Shared} {Q:VK} {a dx:Addr} {fs:List (Str×V)} {pl:Sem Bool} {ds:Ir} (F:aY X.prog X.w X.K X.mg X.base a7 k f fd ps sp) (hr:cn k X.A) (hb:Binds X.K fd ps ds) (hd:a9 dvs ds) (ha:PA X (e::es) t)
  (hst:starEach (e::es) X.env=(false,eval e X.env)::starEach es X.env) (hpl:(backTo pos (starEach es X.env)).any (·.1)=false)
  (I1:aR X pins σ H1 s1) (ea:H1 a=some (.ins C dx fs)) (c:iY X.K C) (hm:b7 X.K C m f) (l:fs.lookup m=none) (q:t σ H1 fun vs H2=>sp (.ref a::(vs++dvs)) H2 Q E0):
  wpAny (model X.prog X.w) X.A (getMethod (.ref a) m pl) (fun fx s2=>wpAny (model X.prog X.w) X.A (callWith pos fx.1 fx.2 (backTo pos (starEach (e::es) X.env)) (backToKw pos (keywordEach [] X.env))) (EP X pins σ Q) X.xe s2) X.xe s1:=by
 refine iZ I1 ea c hm l ?_;refine Fb (first:= [.ref a]) (h₀:=X.base) I1.ok.mod.kin hm.kp (b8 (ha pos pins s1 σ H1 _ I1 q) fun us s2 ⟨vs,H2,I2,r,q2⟩=>⟨I2.kIn,?_⟩) hst hpl
 exact kU (us:= .ref a::us) (vs:= .ref a::vs) F hr hb hd i7 I2 (.cons rfl r) q2
theorem gv {pl:Sem Bool} (he:PE X o ta) (D:jH X.prog X.w X.K X.mg X.base a7 k f ps dvs sp) (hr:cn j X.A) (hk:k<=j) (ha:PA X (e::es) t)
  (hst:starEach (e::es) X.env=(false,eval e X.env)::starEach es X.env:=by rfl) (hpl:(backTo pos (starEach es X.env)).any (·.1)=false:=by rfl)
  (ht:eval (.Call (.Attribute o m apos) (e::es) [] pos) X.env=(do
   let ov<-eval o X.env
   standAt apos.atName
   let (f,first)<-holding [ov] (getMethod ov m pl)
   callWith pos f first (backTo pos (starEach (e::es) X.env)) (backToKw pos (keywordEach [] X.env))):=by rfl):
  PE X (.Call (.Attribute o m apos) (e::es) [] pos) (tQ X.K m f sp [] ta t):=by
 intro pins s σ H Q I h;refine PySem.W.methodCall_KW (pl:=pl) (b8 (he pins s σ H _ I h) fun u s1 ⟨x,H1,I1,rx,a,C,dx,fs,ex,ea,c,hm,l,q⟩=>?_) ht
 subst ex;obtain rfl:u=Value.ref a:=rx;exact tR D.ok (hr.mono hk) D.b .nil ha hst hpl I1 ea c hm l q
theorem oV {pl:Sem Bool} (he:PE X o ta) (D:jH X.prog X.w X.K X.mg X.base a7 k f ps dvs sp) (hr:cn j X.A) (hk:k<=j)
  (ht:eval (.Call (.Attribute o m apos) [] [] pos) X.env=(do
   let ov<-eval o X.env
   standAt apos.atName
   let (f,first)<-holding [ov] (getMethod ov m pl)
   callWith pos f first (backTo pos (starEach [] X.env)) (backToKw pos (keywordEach [] X.env))):=by rfl):
  PE X (.Call (.Attribute o m apos) [] [] pos) (tQ X.K m f sp [] ta vF):=by
 intro pins s σ H Q I h;refine PySem.W.methodCall_KW (pl:=pl) (b8 (he pins s σ H _ I h) fun u s1 ⟨x,H1,I1,rx,a,C,dx,fs,ex,ea,c,hm,l,q⟩=>?_) ht
 subst ex;obtain rfl:u=Value.ref a:=rx;refine iZ I1 ea c hm l ?_;exact PySem.W.callWith_K0 (first:= [.ref a]) I1.kIn hm.kp (kU (us:= [.ref a]) (vs:= [.ref a]) D.ok (hr.mono hk) D.b .nil i7 I1 (.cons rfl .nil) q)
theorem AQ {pl:Sem Bool} (M:yd X.K C m f) (D:jH X.prog X.w X.K X.mg X.base a7 k f ps dvs sp) (hr:cn j X.A) (hk:k<=j) (hg:Gl X x) (hm:X.mg x=some (.ref C)) (ha:PA X (e::es) t) (hdb:(x==("__debug__" :Str))=false:=by decide)
  (hst:starEach (e::es) X.env=(false,eval e X.env)::starEach es X.env:=by rfl) (hpl:(backTo pos (starEach es X.env)).any (·.1)=false:=by rfl)
  (ht:eval (.Call (.Attribute (.Name x p) m apos) (e::es) [] pos) X.env=(do
   let ov<-eval (.Name x p) X.env
   standAt apos.atName
   let (f,first)<-holding [ov] (getMethod ov m pl)
   callWith pos f first (backTo pos (starEach (e::es) X.env)) (backToKw pos (keywordEach [] X.env))):=by rfl):
  PE X (.Call (.Attribute (.Name x p) m apos) (e::es) [] pos) (jP sp [] E0 t):=by
 intro pins s σ H Q I h;refine PySem.W.methodCall_KW (pl:=pl) (eS I hg hm ?_ hdb) ht;refine PySem.W.method_cls I.kIn M.sp (PySem.W.cls_value I.kIn M.rd M.fc rfl ?_);have I1:=I.tok (s.toks+1);refine Fb (first:= []) (h₀:=X.base) I.ok.mod.kin M.kp (b8 (ha pos pins _ σ H _ I1 h) fun us s2 ⟨vs,H2,I2,r,q2⟩=>⟨I2.kIn,?_⟩) hst hpl
 exact kU D.ok (hr.mono hk) D.b .nil i7 I2 r q2
theorem fN {e:Expr} (h1:PE X e ta) (h2:PE X e tb):PE X e (fun σ H Q=>ta σ H Q∨tb σ H Q):=fun pins s σ H Q I h=>h.elim (h1 pins s σ H Q I) (h2 pins s σ H Q I)
end
end Sw
namespace L2
open PySem PySem.Spec PyProof.Rows
section
variable {X:Cx} {pins:Im} {σ:St} {H:Hp} {s:Shared} {h':Heap}
theorem aR.turnedNew {ch:Iq} {T:Addr} {o:HO} {t':Nat} (I:aR X pins σ H s) (hf:∀b∈ch,fu X pins H b) (k:∀b u,b∉ch->s.heap.get? b=some u->h'.get? b=some u) (hp:s.heap.objs.size<=T) (new:cx X.prog X.w (aS H T o) h' T o):
  aR X pins σ (aS H T o) {s with heap:=h',toks:=t'}:=by
 have nT:H T=none:=I.hok.fresh hp;have ne:∀b u,H b=some u->b≠T:=fun b u e z=>by rw[z,nT] at e;cases e
 have nch:∀b u,H b=some u->b∉ch:=fun b u e z=>by rw[(hf b z).1] at e;cases e
 have up:∀b u,H b=some u->aS H T o b=some u:=fun b u e=>by rw[az (ne b u e)];exact e
 refine I.step (g':=s.gens) (d':=s.drawn) (ch:=ch) (fun b hb=>?_) (fun b u _ _ hc e _=>k b u hc e) (fun b u _ _ hc e _=>⟨u.slots,k b u hc e⟩) (fun b u _ e n=>?_)
  (fun b u hc e=>⟨u,k b u hc e⟩) (fun b xs e=>up b _ e) (fun b u v e=>up b _ e) (fun b ps e=>⟨#[],by rw[up b _ e];simp⟩) (fun m hm=>?_) (fun b u e=>?_) I.bare
 ·obtain ⟨f0,f1,f2,f3,f4,f5⟩:=hf b hb;exact ⟨f3,f1,f4,f5⟩
 ·have:b≠T:=EU (ER (Heap.lt_size e) hp);rw[az this];exact n
 ·obtain ⟨u,es,ep,ho,r⟩:=hm;exact ⟨u,es,ep,k _ u (fun z=>(hf _ z).2.1 rfl) ho,r⟩
 ·by_cases c:b=T
  ·subst c;rw[af] at e;cases e;exact new
  ·rw[az c] at e;refine (I.hok b u e).stay (fun c' v hc q=>k c' v ?_ q) (fun _ q=>up _ _ q) fun _ _ q=>up _ _ q
   rcases hc with z|z
   ·rw[z];exact nch b u e
   ·exact nch c' _ z
theorem aR.turnedAll {ch:Iq} {t':Nat} (I:aR X pins σ H s) (hf:∀b∈ch,fu X pins H b) (k:∀b u,b∉ch->s.heap.get? b=some u->h'.get? b=some u):aR X pins σ H {s with heap:=h',toks:=t'}:=by
 have nch:∀b u,H b=some u->b∉ch:=fun b u e z=>by rw[(hf b z).1] at e;cases e
 refine I.step (g':=s.gens) (d':=s.drawn) (ch:=ch) (fun b hb=>?_) (fun b u _ _ hc e _=>k b u hc e) (fun b u _ _ hc e _=>⟨u.slots,k b u hc e⟩) (fun b u _ e n=>n)
  (fun b u hc e=>⟨u,k b u hc e⟩) (fun b xs e=>e) (fun b u v e=>e) (fun b ps e=>⟨#[],by rw[e];simp⟩) (fun m hm=>?_) (fun b u e=>?_) I.bare
 ·obtain ⟨f0,f1,f2,f3,f4,f5⟩:=hf b hb;exact ⟨f3,f1,f4,f5⟩
 ·obtain ⟨u,es,ep,ho,r⟩:=hm;exact ⟨u,es,ep,k _ u (fun z=>(hf _ z).2.1 rfl) ho,r⟩
 ·refine (I.hok b u e).stay (fun c' v hc q=>k c' v ?_ q) (fun _ q=>q) fun _ _ q=>q
  rcases hc with z|z
  ·rw[z];exact nch b u e
  ·exact nch c' _ z
end
def AR (K:D9) (l:Addr):It:=
 ⟨fun i H=>∃xs x,aH K H l xs/\xs[i]?=some x,fun i H v H'=>∃(T:Addr) (x:V),v= .ref T/\H T=none/\(∀xs,aH K H l xs->xs[i]?=some x)/\H'=aS H T (.tup [.int i,x]),fun i H=>∃xs,aH K H l xs/\xs.length<=i⟩
theorem rM {P:Program} {w:World} {K:D9} {elts:List Expr} {k:Nat} {pos:Pos} (l e it:Addr) (ne:e≠it):Turn P w K (.Tuple elts k pos) (AR K l) [e,it] e (fun i h=>(∃old,IsEnum h e it i old)/\h.IsListIter it l i) where
 mem:=by simp
 obj:=fun i h st b hb=>by
  obtain ⟨⟨old,he⟩,o,e1,c,d⟩:=st;rcases E3.mp hb with z|z
  ·subst z;exact ⟨_,he,fun v z=>by cases z⟩
  ·rw[EC.mp z];exact ⟨o,e1,fun v z=>by rw[d] at z;cases z⟩
 keep:=fun i h h' st k=>⟨let ⟨old,he⟩:=st.1;⟨old,k e (by simp) _ he⟩,st.2.at fun o q=>k it (by simp) o q⟩
 item:=by
  intro X hP hw hK hc i pins s σ H E I hf st hg;subst hP hw hK;obtain ⟨xs,x,hq,hx⟩:=hg;obtain ⟨its,rv,p,hz⟩:=I.list hq;obtain ⟨u,hu,ru⟩:=rv.get hx;obtain ⟨⟨old,he⟩,hit⟩:=st;refine wpAny_pyNext_enum_item he hit p.isList (x:=u) (by simpa using hu) ne fun h1 ho hit' hT hsz hk=>?_
  refine ⟨_,rfl,wpAny_letOwnedTupleGo_enum (s:={s with heap:=h1,toks:=s.toks+1}) ho fun h2 he2 hs2=>?_⟩
  have nT:H s.heap.objs.size=none:=I.hok.fresh (EB _);have el:e<s.heap.objs.size:=Heap.lt_size he;have il:it<s.heap.objs.size:=by obtain ⟨_,q,_⟩:=hit;exact Heap.lt_size q
  have hT2:h2.get? s.heap.objs.size=some {cls:= .type "tuple",data:= .seq #[.int i s.toks,u]}:=(hs2.2 _ (FK el)).trans hT;have kp:∀b o,b∉ [e,it]->s.heap.get? b=some o->h2.get? b=some o:=fun b o hb q=>by
   simp at hb;exact (hs2.2 b hb.1).trans (hk b o hb.1 hb.2 q)
  refine ⟨.ref s.heap.objs.size,aS H s.heap.objs.size (.tup [.int i,x]),I.turnedNew (t':=s.toks+1) (ch:= [e,it]) hf kp (EB _) ⟨by show 2<=sizeLine;decide,[.int i s.toks,u],.cons ⟨_,rfl⟩ (.cons ru .nil),⟨_,hT2,rfl,0,rfl⟩⟩,rfl,
   ⟨_,x,rfl,nT,fun ys hy=>by rw[I.list_inj hy hq];exact hx,rfl⟩,⟨⟨u,?_⟩,?_⟩,fun b hb=>?_⟩
  ·simpa using he2
  ·exact hit'.at fun o q=>(hs2.2 it (Ne.symm ne)).trans q
  ·have bl:b≠s.heap.objs.size:=by
    rcases E3.mp hb with z|z
    ·rw[z];exact EU el
    ·rw[EC.mp z];exact EU il
   rw[az bl];exact (hf b hb).1
 done:=by
  intro X hP hw hK hc i pins s σ H E I hf st hg;subst hP hw hK;obtain ⟨xs,hq,hx⟩:=hg;obtain ⟨its,rv,p,hz⟩:=I.list hq;obtain ⟨⟨old,he⟩,hit⟩:=st;have hl:=rv.length;exact wpAny_pyNext_enum_end (I.ok.hd hc) he hit p.isList (by simp;omega) fun h' eb=>⟨rfl,I.turnedAll (t':=s.toks) (ch:= [e,it]) hf fun b o hb q=>eb b o (fun z=>hb (by simp[z])) q⟩
 self:=fun _ _ _ _ _ st h=>let ⟨_,he⟩:=st.1;wpAny_pyIter_enum he h
def AS (K:D9) (ta:TA):TI:=fun σ H R=>ta σ H fun vs H1=>∃l:Addr,vs= [.ref l]/\(∃xs,aH K H1 l xs)/\R (AR K l) H1
theorem boot_enumerate:bootBuiltins "enumerate" =some (.type "enumerate"):=by kernel_rfl
theorem vY {X:Cx} {a:Expr} {ta:TA} {elts:List Expr} {k:Nat} {tp p pos:Pos} (hg:Gl X "enumerate") (hm:X.mg "enumerate" =none) (ha:PA X [a] ta) (hs:starEach [a] X.env= [(false,eval a X.env)]:=by rfl):PI X (.Tuple elts k tp) (.Call (.Name "enumerate" p) [a] [] pos) (AS X.K ta):=by
 intro pins s σ H R I h;refine Call_ (fj I hg hm boot_enumerate (FD (b8 (ha pos pins s σ H _ I h) fun us s1 ⟨vs,H1,I1,r1,q1⟩=>?_) hs rfl))
 obtain ⟨l,e,⟨xs,hq⟩,q⟩:=q1;subst e;cases r1 with
 |cons r rr=>
  cases rr;cases r;obtain ⟨its,rv,p1,hz⟩:=I1.list hq;refine call_enumerate_list p1.isList fun h' he hit hsz hk=>?_
  refine wpAny_pyIter_enum (s:={s1 with heap:=h'}) he ?_
  have I2:aR X pins σ H1 {s1 with heap:=h'}:=I1.kept (t':=s1.toks) hk
  refine ⟨s1.heap.objs.size+1,[s1.heap.objs.size+1,s1.heap.objs.size],_,_,H1,rfl,I2,rM l _ _ (Nat.succ_ne_self _),⟨⟨_,by simpa using he⟩,hit⟩,fun b hb=>?_,q⟩
  have bl:s1.heap.objs.size<=b:=by
   rcases E3.mp hb with z|z
   ·rw[z];exact Nat.le_succ _
   ·rw[EC.mp z];exact EB _
  exact I1.fpOk bl (I1.hok.fresh bl)
theorem tS {K:D9} {a:Addr} {xs:List V} {g:TG} {tb:TS} {D:Ends} {σ:St} {H:Hp} (Pv:Nat->St->Hp->Prop) (h0:Pv 0 σ H) (hl:∀i σ H,i<=xs.length->Pv i σ H->aH K H a xs)
  (hs:∀i x σ H (T:Addr),xs[i]?=some x->Pv i σ H->H T=none->g (.ref T) σ (aS H T (.tup [.int i,x])) fun σ2 H2=>tb {D with nx:=Pv (i+1),ct:=Pv (i+1),bk:=D.nx} σ2 H2) (hd:∀σ H,Pv xs.length σ H->D.nx σ H):
  ∃W:Nat->Nat->St->Hp->Prop,(∃m,W 0 m σ H)/\∀i m σ H,W i m σ H->
   ((AR K a).stop i H/\D.nx σ H)∨((AR K a).go i H/\∃N:St->Hp->Prop,(∀σ' H',N σ' H'->∃m',m'<m/\W (i+1) m' σ' H')/\∀x H',(AR K a).yld i H x H'->g x σ H' fun σ2 H2=>tb {D with nx:=N,ct:=N,bk:=D.nx} σ2 H2):=by
 refine ⟨fun i m σ H=>m=xs.length-i/\i<=xs.length/\Pv i σ H,⟨xs.length,by simp,F0 _,h0⟩,?_⟩
 rintro i m σ H ⟨rfl,hi,p⟩;have q:=hl i σ H hi p
 by_cases hlt:i<xs.length
 ·refine .inr ⟨⟨xs,xs[i],q,by simp[hlt]⟩,Pv (i+1),fun σ' H' p'=>⟨xs.length-(i+1),by omega,rfl,hlt,p'⟩,fun x H' y=>?_⟩
  obtain ⟨T,z,rfl,nT,hz,rfl⟩:=y;exact hs i z σ H T (hz xs q) p nT
 ·have e:i=xs.length:=by omega
  subst e;exact .inl ⟨⟨xs,q,EB _⟩,hd σ H p⟩
theorem gM {h:Heap} {l b:Addr} {its:Array Value} {o:Obj} {n:String} (hl:h.IsList l its) (e:h.get? b=some o) (c:o.cls= .type n) (ne:n≠ "list"):l≠b:=fun z=>by
 obtain ⟨o',e',c',_⟩:=hl;rw[z,e] at e';cases e';rw[c] at c';injection c' with c'
 exact ne c'
theorem yf (n:Nat): [n+4,n+2,n+3,n,n+1].Nodup:=by
 simp
theorem boot_zip:bootBuiltins "zip" =some (.type "zip"):=by kernel_rfl
open XH
def AT (x:Str):It:=⟨fun i _=>i<x.cps.size,fun i H v H'=>H'=H/\∃c,x.cps[i]?=some c/\v= .str ⟨#[c]⟩,fun i _=>i=x.cps.size⟩
theorem tT {P:Program} {w:World} {K:D9} {tg:Expr} {ty:String} (hty:ty= "str_ascii_iterator" ∨ty= "str_iterator") (it:Addr) (x:Str) (t:Tok):Turn P w K tg (AT x) [it] it (fun i h=>h.IsStrIter it ty x t i) where
 mem:=by simp
 obj:=fun i h st b hb=>by
  have e:b=it:=by simpa using hb
  subst e;obtain ⟨o,e,c,d⟩:=st;exact ⟨o,e,fun v z=>by rw[d] at z;cases z⟩
 keep:=fun i h h' st k=>by
  obtain ⟨o,e,c,d⟩:=st;exact ⟨o,k it (by simp) o e,c,d⟩
 item:=by
  intro X hP hw hK hc i pins s σ H E I hf st hg;subst hP hw hK;obtain ⟨f0,f1,f2,f3,f4,f5⟩:=hf it (by simp)
  have W:Walks X.prog X.w X.A it [it] [it] x.cps.size (SignAt x) (fun i h=>h.IsStrIter it ty x t i):=by
   rcases hty with rfl|rfl
   ·exact Walks.strAscii (I.ok.hd hc) it x t
   ·exact Walks.strWide (I.ok.hd hc) it x t
  refine W.item i s _ _ hg st fun v h' tk hv st' kk=>?_
  obtain ⟨c,u,hc',rfl⟩:=hv;have I1:aR X pins σ H {s with heap:=h',toks:=tk}:=I.turned (fun b o hb e=>kk b o (by simpa using hb) e) f0 f1 f3 f4 f5
  obtain ⟨o,e,c1,d1⟩:=id st';refine ⟨_,rfl,pU (s:={s with heap:=h',toks:=tk}) (n:=ty) e c1 d1 (by rcases hty with rfl|rfl<;>decide) ⟨.str ⟨#[c]⟩,H,I1,⟨u,rfl⟩,⟨rfl,c,hc',rfl⟩,st',fun b hb=>(hf b hb).1⟩⟩
 done:=by
  intro X hP hw hK hc i pins s σ H E I hf st hg;subst hP hw hK;obtain ⟨f0,f1,f2,f3,f4,f5⟩:=hf it (by simp)
  have W:Walks X.prog X.w X.A it [it] [it] x.cps.size (SignAt x) (fun i h=>h.IsStrIter it ty x t i):=by
   rcases hty with rfl|rfl
   ·exact Walks.strAscii (I.ok.hd hc) it x t
   ·exact Walks.strWide (I.ok.hd hc) it x t
  have hg':i=x.cps.size:=hg;subst hg';exact W.done s _ _ st fun h' tk kk=>⟨rfl,I.turned (fun b o hb e=>kk b o (by simpa using hb) e) f0 f1 f3 f4 f5⟩
 self:=fun _ _ _ _ _ st h=>by
  rcases hty with rfl|rfl
  ·exact wpAny_pyIter_striter_ascii st h
  ·exact wpAny_pyIter_striter_wide st h
def CT (tl:TE):TI:=fun σ H R=>tl σ H fun x H1=>∃z,x= .str z/\R (AT z) H1
variable {X:Cx} {tg:Expr}
theorem tU {l:Expr} {tl:TE} (hl:PE X l tl):PI X tg l (CT tl):=by
 intro pins s σ H R I h;refine b8 (hl pins s σ H _ I h) fun v s1 ⟨x,H1,I1,r1,q1⟩=>?_
 obtain ⟨z,rfl,q⟩:=q1;obtain ⟨t,rfl⟩:=r1;have fin:∀{ty:String} {o:Obj},(ty= "str_ascii_iterator" ∨ty= "str_iterator")->(s1.heap.push o).IsStrIter s1.heap.objs.size ty z t 0->CG X pins σ tg R (.ref s1.heap.objs.size) {s1 with heap:=s1.heap.push o}:=fun {ty o} hty st=>by
  refine ⟨s1.heap.objs.size,[s1.heap.objs.size],_,_,H1,rfl,I1.kept (t':=s1.toks) fun b o e=>Heap.get?_push_of_some _ e,tT hty _ z t,st,fun b hb=>?_,q⟩
  have e:b=s1.heap.objs.size:=by simpa using hb
  subst e;exact I1.fpOk (EB _) (I1.hok.fresh (EB _))
 cases ha:z.cps.all (· <128)
 ·exact wpAny_pyIter_wide ha (fin (.inr rfl) ⟨_,Heap.get?_push_size _ rfl,rfl,rfl⟩)
 ·exact wpAny_pyIter_ascii ha (fin (.inl rfl) ⟨_,Heap.get?_push_size _ rfl,rfl,rfl⟩)
theorem qh {z:Str} {g:TG} {tb:TS} {D:Ends} {σ:St} {H:Hp} (Pv:Nat->St->Hp->Prop) (h0:Pv 0 σ H)
  (hs:∀i c σ H,z.cps[i]?=some c->Pv i σ H->g (.str ⟨#[c]⟩) σ H fun σ2 H2=>tb {D with nx:=Pv (i+1),ct:=Pv (i+1),bk:=D.nx} σ2 H2) (hd:∀σ H,Pv z.cps.size σ H->D.nx σ H):
  ∃W:Nat->Nat->St->Hp->Prop,(∃m,W 0 m σ H)/\∀i m σ H,W i m σ H->
   ((AT z).stop i H/\D.nx σ H)∨((AT z).go i H/\∃N:St->Hp->Prop,(∀σ' H',N σ' H'->∃m',m'<m/\W (i+1) m' σ' H')/\∀x H',(AT z).yld i H x H'->g x σ H' fun σ2 H2=>tb {D with nx:=N,ct:=N,bk:=D.nx} σ2 H2):=by
 refine ⟨fun i m σ H=>m=z.cps.size-i/\i<=z.cps.size/\Pv i σ H,⟨z.cps.size,by simp,F0 _,h0⟩,?_⟩
 rintro i m σ H ⟨rfl,hi,p⟩
 by_cases hlt:i<z.cps.size
 ·refine .inr ⟨hlt,Pv (i+1),fun σ' H' p'=>⟨z.cps.size-(i+1),by omega,rfl,hlt,p'⟩,fun x H' y=>?_⟩
  obtain ⟨e,c,hc,rfl⟩:=y;subst e;exact hs i c σ _ hc p
 ·have e:i=z.cps.size:=by omega
  subst e;exact .inl ⟨rfl,hd σ H p⟩
def f7 (x:Str) (lo hi:Option Int):Str:=⟨((x.cps.toList.drop (HT.cZ x.length 0 lo)).take (HT.cZ x.length x.length hi-HT.cZ x.length 0 lo)).toArray⟩
theorem AU (lo hi:Option Int) (n:Nat):Builtin.Str.strSliceIndices lo hi 1 n=(FG (HT.cZ n n hi-HT.cZ n 0 lo)).map (HT.cZ n 0 lo+ ·):=by
 have h1:(match lo with|none=>(0:Int)|some i=>max 0 (min (if i<0 then i+(n:Int) else i) n))=((HT.cZ n 0 lo:Nat):Int):=by
  cases lo with
  |none=>simp[HT.cZ]
  |some i=>
   simp only[HT.cZ]
   by_cases h:i<0
   ·simp only[h,if_true]<;>omega
   ·simp only[h,if_false]<;>omega
 have h2:(match hi with|none=>(n:Int)|some i=>max 0 (min (if i<0 then i+(n:Int) else i) n))=((HT.cZ n n hi:Nat):Int):=by
  cases hi with
  |none=>simp[HT.cZ]
  |some i=>
   simp only[HT.cZ]
   by_cases h:i<0
   ·simp only[h,if_true]<;>omega
   ·simp only[h,if_false]<;>omega
 rw[<-sliceRange_one,<-h1,<-h2];cases lo<;>cases hi<;>rfl
theorem mO (x:Str) (l u:Option (Int×Tok)):(⟨((slicePicked x l u none).filterMap (x.cps[·]?)).toArray⟩:Str)=f7 x (l.map (·.1)) (u.map (·.1)):=by
 show (⟨((Builtin.Str.strSliceIndices (l.map (·.1)) (u.map (·.1)) 1 x.length).filterMap (x.cps[·]?)).toArray⟩:Str)=_;rw[AU,pick_run]
 rfl
theorem fv (x:Str) (lo hi:Option Int):(f7 x lo hi).length<=x.length:=by
 show ((x.cps.toList.drop _).take _).toArray.size<=x.cps.size;rw[ES,EK,Eo];simp only[FQ];omega
theorem oW (x:Str) (l u:Option (Int×Tok)) (h:(slicePicked x l u none).length=x.length):f7 x (l.map (·.1)) (u.map (·.1))=x:=by
 have h':(Builtin.Str.strSliceIndices (l.map (·.1)) (u.map (·.1)) 1 x.length).length=x.length:=h;rw[AU,E5,List.length_range] at h';have hs:HT.cZ x.length x.length (u.map (·.1))<=x.length∨x.length<HT.cZ x.length x.length (u.map (·.1)):=by omega
 have hu:HT.cZ x.length x.length (u.map (·.1))<=x.length:=by
  cases u with
  |none=>exact EB _
  |some p=>
   show (if p.1<0 then (p.1+(x.length:Int)).toNat else min p.1.toNat x.length)<=x.length
   by_cases hp:p.1<0
   ·rw[if_pos hp];omega
   ·rw[if_neg hp];omega
 unfold f7
 by_cases hx:x.length=0
 ·have e:x.cps.toList= []:=by
   have:x.cps.toList.length=0:=by rw[FQ];exact hx
   exact FV this
  rw[e,List.drop_nil,List.take_nil];obtain ⟨c⟩:=x;have e':c= #[]:=Array.toList_inj.mp (by simpa using e)
  rw[e']
 ·have h0:HT.cZ x.length 0 (l.map (·.1))=0:=by omega
  rw[h0,List.drop_zero,FJ (by rw[FQ];show x.length<=_;omega)]
theorem part_of {v:Value} {o:Option Int} (p:IsPart v o):∃l:Option (Int×Tok),partValue l=v/\l.map (·.1)=o:=by
 cases p with
 |none=>exact ⟨none,rfl,rfl⟩
 |int i t=>exact ⟨some (i,t),rfl,rfl⟩
theorem oX {X:Cx}:CL X (fun x lo hi H Q=>∃z,x= .str z/\z.length<=sizeLine/\Q (.str (f7 z lo hi)) H):=by
 intro pins s σ H x v vl vu lo hi sl Q I rx hs pl pu h;obtain ⟨z,rfl,hz,q⟩:=h;obtain ⟨t,rfl⟩:=rx;obtain ⟨l,rfl,rfl⟩:=part_of pl;obtain ⟨u,rfl,rfl⟩:=part_of pu;refine ⟨"str",_,slot_str_getitem.lookup,typeIs_str s z t,?_⟩;refine wpAny_getItem_str_slice (l:=l) (u:=u) (st:=none) hs rfl ?_;unfold sliceMade
 by_cases hw:(slicePicked z l u none).length=z.length
 ·rw[if_pos (by simp[hw])]
  refine ⟨.str (f7 z (l.map (·.1)) (u.map (·.1))),H,I,⟨t,by rw[oW z l u hw]⟩,q⟩
 ·rw[if_neg (by simp[hw])]
  rw[mO];exact ⟨EV (fv _ _ _) hz,.str (f7 z (l.map (·.1)) (u.map (·.1))),H,I.tok _,⟨_,rfl⟩,q⟩
open Builtin.Str in
def qi (z y:Str):List V:=match occurrences z y 0 z.length 1 with
 |i::_=> [.str (strSub z 0 i),.str y,.str (strSub z (i+y.length) z.length)]
 | []=> [.str z,.str Str.empty,.str Str.empty]
theorem gN {X:Cx}:Cg X "str.partition" (fun x vs H Q=>∃z y,x= .str z/\vs= [.str y]/\y.length≠0/\z.length<=sizeLine/\∀p,H p=none->Q (.ref p) (aS H p (.tup (qi z y)))):=by
 intro pins s σ H x vs v us Q I rx rv h;obtain ⟨z,y,rfl,rfl,hy,hz,q⟩:=h;obtain ⟨t,rfl⟩:=rx;cases rv with
 |cons r rr=>
  cases rr;obtain ⟨u,rfl⟩:=r;refine call_meets F.slot_str_partition (typeIs_str s z t) F.entry_str_partition (F.args_str_partition_2 _ _) (meets_str_partition z y t u (by simpa using hy) hz) ?_
  have q':=q s.heap.objs.size (I.hok.fresh (EB _));unfold qi at q';cases ho:Builtin.Str.occurrences z y 0 z.length 1 with
  |nil=>
   rw[ho] at q';refine ⟨.ref s.heap.objs.size,_,I.laid (t':=s.toks+1) (fun b ob e=>Heap.get?_push_of_some _ e) (EB _) ?_,rfl,q'⟩
   exact ⟨by show 3<=sizeLine;decide,_,.cons ⟨_,rfl⟩ (.cons ⟨_,rfl⟩ (.cons ⟨_,rfl⟩ .nil)),_,Heap.get?_push_size _ rfl,rfl,0,rfl⟩
  |cons i r=>
   rw[ho] at q';refine ⟨.ref s.heap.objs.size,_,I.laid (t':=s.toks+1+1) (fun b ob e=>Heap.get?_push_of_some _ e) (EB _) ?_,rfl,q'⟩
   exact ⟨by show 3<=sizeLine;decide,_,.cons ⟨_,rfl⟩ (.cons ⟨_,rfl⟩ (.cons ⟨_,rfl⟩ .nil)),_,Heap.get?_push_size _ rfl,rfl,0,rfl⟩
end L2
namespace Sw
open PySem PySem.NumText
def dg (n:Nat):List Nat:=(Nat.toDigits 10 n).map Char.toNat
theorem oY (n:Nat):digitsVal (dg n)=n:=PySem.W.KIN.val_back n
theorem dQ {n:Nat} (h:n<10):dg n= [48+n]:=by
 unfold dg;rw[Nat.toDigits_of_lt_base h]
 revert h
 revert n
 decide
theorem lq {n:Nat} (h:10<=n):dg n=dg (n/10)++ [48+n % 10]:=by
 have hm:n % 10<10:=Nat.mod_lt _ (by decide)
 rw[<-dQ hm];unfold dg;rw[<-FH,Nat.toDigits_append_toDigits (by decide) (by omega) hm,Nat.div_add_mod]
theorem dR (n:Nat):AllDigits (dg n):=by
 induction n using Nat.strongRecOn with
 |_ n ih=>
  by_cases h:n<10
  ·rw[dQ h];intro c hc;simp at hc;omega
  ·rw[lq (by omega)]
   intro c hc;rcases EI.mp hc with z|z
   ·exact ih (n/10) (by omega) c z
   ·simp at z;omega
theorem qk (n:Nat):dg n≠ []:=by
 by_cases h:n<10
 ·rw[dQ h];simp
 ·rw[lq (by omega)];simp
theorem ql (n:Nat):(dg n).head?=some 48->n=0:=by
 induction n using Nat.strongRecOn with
 |_ n ih=>
  intro e
  by_cases h:n<10
  ·rw[dQ h] at e;simp at e;exact e
  ·rw[lq (by omega),List.head?_append] at e
   cases q:(dg (n/10)).head? with
   |none=>exact absurd (List.head?_eq_none_iff.mp q) (qk _)
   |some c=>
    rw[q] at e;simp at e;subst e;have:=ih (n/10) (by omega) q
    omega
theorem lr:dg 0= [48]:=dQ (by decide)
theorem tV:dg 1= [49]:=dQ (by decide)
theorem dD {n:Nat}:∀{k:Nat},n<10^(k+1)->(dg n).length<=k+1:=by
 induction n using Nat.strongRecOn with
 |_ n ih=>
  intro k hk
  by_cases h:n<10
  ·rw[dQ h];simp
  ·rw[lq (by omega),EG]
   cases k with
   |zero=>omega
   |succ k=>
    have h1:n/10<10^(k+1):=by
     rw[Nat.pow_succ 10 (k+1)] at hk;generalize 10^(k+1)=m at*;omega
    have:=ih (n/10) (by omega) h1
    simp;omega
theorem AV {l:List Nat} (h:AllDigits l) (ne:l≠ []) (hd:l.head?≠some 48∨l= [48]):dg (digitsVal l)=l:=by
 rcases hd with hd|hd
 ·cases l with
  |nil=>exact absurd rfl ne
  |cons c r=>
   have hc:=h.head;have c9:49<=c:=by
    simp at hd;omega
   unfold dg;rw[toDigits_digitsVal r.length (c::r) rfl h (.inr ⟨c,r,rfl,c9⟩),FY];refine (FR fun x hx=>?_).trans (List.map_id _)
   have hx':=h x hx;have:∀y,y<58->(Char.ofNat y).toNat=y:=by decide
   exact this x (by omega)
 ·subst hd;exact lr
theorem fz {n c:Nat} (h:c<48):c∉dg n:=fun z=>by have:=(dR n c z).1;omega
def vZ (l:List Nat):Prop:=1<=l.length/\l.length<=30/\(l.head?≠some 48∨l= [48])/\AllDigits l
open Classical in
noncomputable def df (l:List Nat):Option Nat:=if vZ l then some (digitsVal l) else none
theorem i8 {l:List Nat} {n:Nat} (h:df l=some n):l=dg n/\(dg n).length<=30:=by
 unfold df at h
 split at h
 ·rename_i f;obtain ⟨h1,h2,h3,h4⟩:=f;have e:dg (digitsVal l)=l:=AV h4 (fun z=>by rw[z] at h1;simp at h1) h3
  cases h;rw[e];exact ⟨rfl,h2⟩
 ·cases h
theorem dS {n:Nat} (h:(dg n).length<=30):df (dg n)=some n:=by
 unfold df;rw[if_pos,oY];refine ⟨?_,h,?_,dR n⟩
 ·have:=qk n;cases q:dg n with
  |nil=>exact absurd q this
  |cons=>simp
 ·by_cases z:(dg n).head?=some 48
  ·exact .inr (by rw[ql n z];exact lr)
  ·exact .inl z
theorem eK {n:Nat} (h:30<(dg n).length):df (dg n)=none:=by
 unfold df;rw[if_neg];rintro ⟨_,h2,_⟩;omega
theorem oZ {l:List Nat} (h:vZ l):df l=some (digitsVal l):=if_pos h
theorem fO {l:List Nat} (h:¬vZ l):df l=none:=if_neg h
theorem ik {l:List Nat} {n:Nat} (h:df l=some n):n<10^30:=by
 obtain ⟨e,hl⟩:=i8 h;rw[<-oY n];have gen:∀(l:List Nat) (a:Nat),AllDigits l->l.foldl (fun acc c=>acc*10+(c-48)) a<(a+1)*10^l.length:=by
  intro l
  induction l with
  |nil=>intro a _;simp
  |cons c l ih=>
   intro a h;have h1:=ih (a*10+(c-48)) h.tail;have h2:=h.head;rw[List.foldl_cons,EQ,Nat.pow_succ];refine ER h1 ?_;rw[Nat.mul_comm (10^l.length) 10,<-Nat.mul_assoc];exact Nat.mul_le_mul_right _ (by omega)
 have g:=gen _ 0 (dR n);rw[Nat.zero_add,Nat.one_mul] at g;exact ER g (Nat.pow_le_pow_right (by decide) hl)
def cA (c:Nat) (l:List Nat):List Nat×List Nat:=(l.takeWhile (· !=c),(l.dropWhile (· !=c)).tail)
theorem dM {c:Nat} {a b:List Nat} (h:c∉a):cA c (a++c::b)=(a,b):=by
 unfold cA;have p:∀x∈a,(x !=c)=true:=fun x hx=>by
  rw[bne_iff_ne];exact fun z=>h (z▸hx)
 rw[List.takeWhile_append_of_pos p,List.dropWhile_append_of_pos p];simp
theorem qm {c:Nat}:∀{l:List Nat},c∈l->l=(cA c l).1++c::(cA c l).2/\c∉(cA c l).1:=by
 intro l h;obtain ⟨a,b,e⟩:=List.append_of_mem h
 induction l generalizing a b with
 |nil=>simp at h
 |cons x l ih=>
  by_cases z:x=c
  ·subst z;have:=dM (c:=x) (a:= []) (b:=l) (by simp)
   simp only[List.nil_append] at this;rw[this];simp
  ·have hl:c∈l:=by
    rcases E3.mp h with q|q
    ·exact absurd q.symm z
    ·exact q
   obtain ⟨a',b',e'⟩:=List.append_of_mem hl;obtain ⟨i1,i2⟩:=ih hl a' b' e';have ex:cA c (x::l)=(x::(cA c l).1,(cA c l).2):=by
    unfold cA;rw[List.takeWhile_cons_of_pos (by simpa using z),List.dropWhile_cons_of_pos (by simpa using z)]
   rw[ex];refine ⟨?_,?_⟩
   ·show x::l=x::((cA c l).1++c::(cA c l).2);rw[<-i1]
   ·show c∉x::(cA c l).1;intro q;rcases E3.mp q with q|q
    ·exact z q.symm
    ·exact i2 q
noncomputable def cL (a b:List Nat):Option (Nat×Nat):=match df a,df b with
 |some n,some m=>if m=0 then none else some (n,m)
 |_,_=>none
noncomputable def c7 (l:List Nat):Option (Nat×Nat):=if 47∈l then cL (cA 47 l).1 (cA 47 l).2 else cL l [49]
noncomputable def ly (x y:Option (Nat×Nat)):Option (Nat×Nat):=match x,y with
 |some (n,m),some (n',m')=>some (n*m'+n'*m,m*m')
 |_,_=>none
noncomputable def dr (l:List Nat):Option (Nat×Nat):=if 43∈l then ly (c7 (cA 43 l).1) (c7 (cA 43 l).2) else c7 l
def cV (p q:Nat):List Nat:=if p % q=0 then dg (p/q) else if p/q=0 then dg (p % q)++47::dg q else dg (p/q)++43::(dg (p % q)++47::dg q)
structure Reads (l:List Nat) (p q:Nat):Prop where
 pos:0<q
 low:FC p q=1
 ex:∃n m,dr l=some (n,m)/\p*m=n*q
 wr:cV p q=l
noncomputable def Ci (a:Nat) (r:List Nat):Option (Nat×Nat):=match df (cA 47 r).1,df (cA 47 r).2 with
 |some t,some b=>if t=0∨b<=t∨FC b t≠1 then none else some (a*b+t,b)
 |_,_=>none
noncomputable def v4 (l:List Nat):Option (Nat×Nat):=if 43∈l then
    (match df (cA 43 l).1 with
     |some a=>if a=0 then none else if 47∈(cA 43 l).2 then Ci a (cA 43 l).2 else none
     |none=>none)
  else if 47∈l then Ci 0 l else (df l).map fun n=>(n,1)
theorem tW (n:Nat):c7 (dg n)=(df (dg n)).map fun n=>(n,1):=by
 unfold c7;rw[if_neg (fz (by decide))]
 unfold cL;have e:df [49]=some 1:=by rw[<-tV];exact dS (by rw[tV];decide)
 rw[e];cases df (dg n)<;>simp
theorem qo (t b:Nat):c7 (dg t++47::dg b)=cL (dg t) (dg b):=by
 unfold c7;rw[if_pos (by simp),dM (fz (by decide))]
theorem lA (n:Nat):dr (dg n)=(df (dg n)).map fun n=>(n,1):=by
 unfold dr;rw[if_neg (fz (by decide)),tW]
theorem fP (t b:Nat):43∉dg t++47::dg b:=by
 intro z;rcases EI.mp z with q|q
 ·exact fz (by decide) q
 ·rcases E3.mp q with q|q
  ·cases q
  ·exact fz (by decide) q
theorem i9 (t b:Nat):dr (dg t++47::dg b)=cL (dg t) (dg b):=by
 unfold dr;rw[if_neg (fP t b),qo]
theorem im (w t b:Nat):dr (dg w++43::(dg t++47::dg b))=ly ((df (dg w)).map fun n=>(n,1)) (cL (dg t) (dg b)):=by
 unfold dr;rw[if_pos (by simp),dM (fz (by decide)),tW,qo]
theorem qp {t b:Nat} (ht:(dg t).length<=30) (hb:(dg b).length<=30) (b0:b≠0):cL (dg t) (dg b)=some (t,b):=by
 unfold cL;rw[dS ht,dS hb];simp[b0]
theorem eM {t b:Nat} (h:30<(dg t).length∨30<(dg b).length):cL (dg t) (dg b)=none:=by
 unfold cL;rcases h with h|h
 ·rw[eK h]
 ·rw[eK h];cases df (dg t)<;>rfl
theorem j8 {t b n m:Nat} (h:cL (dg t) (dg b)=some (n,m)):(dg t).length<=30/\(dg b).length<=30:=by
 by_cases h1:30<(dg t).length
 ·rw[eM (.inl h1)] at h;cases h
 ·by_cases h2:30<(dg b).length
  ·rw[eM (.inr h2)] at h;cases h
  ·omega
theorem xh {a t b:Nat} (ht:(dg t).length<=30) (hb:(dg b).length<=30) (t0:t≠0) (hlt:t<b) (g:FC b t=1):Ci a (dg t++47::dg b)=some (a*b+t,b):=by
 unfold Ci;rw[dM (fz (by decide)),dS ht,dS hb]
 simp only;rw[if_neg];rintro (z|z|z)
 ·exact t0 z
 ·omega
 ·exact z g
theorem j9 {l:List Nat} {p q:Nat} (h:Reads l p q):v4 l=some (p,q):=by
 obtain ⟨q0,g,⟨n,m,hl,hv⟩,w⟩:=h;unfold cV at w
 split at w
 ·rename_i z;have q1:q=1:=by
   have d:q∣p:=Nat.dvd_of_mod_eq_zero z;have:FC p q=q:=Nat.gcd_eq_right d;omega
  subst q1;rw[Nat.div_one] at w;subst w;rw[lA] at hl;have hp:(dg p).length<=30:=by
   apply Nat.le_of_not_lt;intro y;rw[eK y] at hl;cases hl
  unfold v4;rw[if_neg (fz (by decide)),if_neg (fz (by decide)),dS hp]
  rfl
 ·rename_i z
  split at w
  ·rename_i z2;have hlt:p<q:=(Nat.div_eq_zero_iff_lt q0).mp z2;rw[Nat.mod_eq_of_lt hlt] at w z;subst w;rw[i9] at hl;obtain ⟨h1,h2⟩:=j8 hl;unfold v4;rw[if_neg (fP p q),if_pos (by simp),xh h1 h2 z hlt (by rw[Nat.gcd_comm];exact g)]
   simp
  ·rename_i z2;subst w;rw[im] at hl;have hw:(dg (p/q)).length<=30:=by
    apply Nat.le_of_not_lt;intro y;rw[eK y] at hl;cases hl
   have hp:∃a b,cL (dg (p % q)) (dg q)=some (a,b):=by
    cases y:cL (dg (p % q)) (dg q) with
    |none=>rw[y] at hl;rw[dS hw] at hl;cases hl
    |some ab=>exact ⟨ab.1,ab.2,rfl⟩
   obtain ⟨a,b,hp⟩:=hp;obtain ⟨h1,h2⟩:=j8 hp;have hlt:p % q<q:=Nat.mod_lt _ q0;unfold v4;rw[if_pos (by simp),dM (fz (by decide)),dS hw]
   simp only;rw[if_neg z2,if_pos (by simp),xh h1 h2 z hlt (by rw[Nat.gcd_comm,<-Nat.gcd_rec,Nat.gcd_comm]<;>exact g),Nat.mul_comm,Nat.div_add_mod]
end Sw
namespace L2
open PySem PySem.Spec PyProof.Rows XH
section
variable {X:Cx} {a b e o:Expr} {es:List Expr} {t te to:TE} {ta:TA} {pos apos cpos:Pos} {x y:Str}
def CU (t:TE):TE:=fun σ H Q=>t σ H fun x H1=>(∃i,x= .int i/\i.natAbs.log2<1920/\Q (.str (toString i)) H1)∨∃z,x= .str z/\z.length<=sizeLine/\Q (.str z) H1
theorem io (h:PE X e t):PE X (.FormattedValue e (-1) none pos) (CU t):=by
 intro pins s σ H Q I q;refine FormattedValue_plain (b8 (h pins s σ H _ I q) fun v s1 ⟨x,H1,I1,r1,q1⟩=>?_)
 rcases q1 with ⟨i,rfl,hi,q⟩|⟨z,rfl,hz,q⟩
 ·obtain ⟨t,rfl⟩:=r1;exact formatField_int_small hi ⟨.str _,H1,I1.tok _,⟨_,rfl⟩,q⟩
 ·obtain ⟨t,rfl⟩:=r1;exact formatField_str (fun t' tk=>⟨.str z,H1,I1.tok _,⟨_,rfl⟩,q⟩) hz
def PJ (X:Cx) (es:List Expr) (t:Str->TE):Prop:=∀(out:Str) (pins:Im) (s:Shared) (σ:St) (H:Hp) (Q:VK),aR X pins σ H s->t out σ H Q->
 wpAny (model X.prog X.w) X.A (joinParts out (evalEach es X.env)) (EP X pins σ Q) X.xe s
def CV:Str->TE:=fun out σ H Q=>out.length<=sizeLine/\Q (.str out) H
theorem o9:PJ X [] CV:=fun out pins s σ H Q I h=>joinParts_nil ⟨.str out,H,I.tok _,⟨_,rfl⟩,h.2⟩ h.1
def AW (te:TE) (tr:Str->TE):Str->TE:=fun out σ H Q=>te σ H fun x H1=>∃y,x= .str y/\(out++y).length<=sizeLine/\tr (out++y) σ H1 Q
theorem dv {tr:Str->TE} (he:PE X e te) (hr:PJ X es tr):PJ X (e::es) (AW te tr):=by
 intro out pins s σ H Q I h;refine joinParts_cons (b8 (he pins s σ H _ I h) fun v s1 ⟨x,H1,I1,r1,y,e,hz,q⟩=>?_)
 subst e;obtain ⟨t,rfl⟩:=r1;exact ⟨hz,hr _ pins s1 σ H1 Q I1 q⟩
def AX (t:Str->TE):TE:=t Str.empty
theorem lB {t:Str->TE} (h:PJ X (a::b::es) t):PE X (.JoinedStr (a::b::es) pos) (AX t):=fun pins s σ H Q I q=>JoinedStr_many (h Str.empty pins s σ H Q I q)
theorem lC:dG X (.type "int") (fun xs H Q=>∃z n,xs= [.str z]/\intText? z=some n/\z.length<=640/\Q (.int n) H):=by
 intro pins s σ H xs us Q I r h;obtain ⟨z,n,rfl,hn,hl,q⟩:=h;obtain ⟨u,rfl,t,rfl⟩:=vals1 r;exact PySem.W.KIN.call_text hn hl ⟨.int n,H,I.tok _,⟨_,rfl⟩,q⟩
theorem mP {z:Str} {p:Pos} (hg:Gl X x) (h:∃t,X.mg x=some (.str z t)) (hd:(x==("__debug__" :Str))=false:=by decide):PE X (.Name x p) (tC (.str z)):=by
 obtain ⟨t,h⟩:=h;exact cD hg h ⟨t,rfl⟩ hd
theorem eN {i:Int} {p:Pos} (hg:Gl X x) (h:∃t,X.mg x=some (.int i t)) (hd:(x==("__debug__" :Str))=false:=by decide):PE X (.Name x p) (tC (.int i)):=by
 obtain ⟨t,h⟩:=h;exact cD hg h ⟨t,rfl⟩ hd
theorem kc:∀(l:Ip) (n:Nat),a9 (l.map V.str) (strsFrom n l)
 | [],_=> .nil
 |x::l,n=> .cons ⟨_,rfl⟩ (kc l (n+1))
theorem mQ:Cg X "str.split" (fun x vs H Q=>∃z c,x= .str z/\vs= [.str ⟨#[c]⟩]/\z.length+2<=sizeLine/\∀p,H p=none->Q (.ref p) (aS H p (.lst ((Txt.split z ⟨#[c]⟩).map V.str)))):=by
 intro pins s σ H x vs v us Q I rx rv h;obtain ⟨z,c,rfl,rfl,hz,q⟩:=h;obtain ⟨t,rfl⟩:=rx;obtain ⟨u,rfl,t',rfl⟩:=vals1 rv;have q':=q s.heap.objs.size (I.hok.fresh (EB _));have hn:(Builtin.Str.occurrences z ⟨#[c]⟩ 0 z.length (z.length+1)).length<=z.length+1:=StrLaws.occ_length_le _ _ _ _ _;unfold Txt.split at q';cases h1:(decide (z.length<(⟨#[c]⟩:Str).length)||decide (Builtin.Str.strKind z<Builtin.Str.strKind ⟨#[c]⟩)) with
 |true=>
  rw[h1] at q';refine call_meets F.slot_str_split (typeIs_str s z t) F.entry_str_split (F.args_str_split_2 _ _) (meets_str_split_cannot_occur z ⟨#[c]⟩ t t' h1) ?_;exact ⟨.ref s.heap.objs.size,_,I.laid (o:= .lst [.str z]) (t':=s.toks) (fun b ob e=>Heap.get?_push_of_some _ e) (EB _) ⟨by show 1<=sizeLine;decide,[.str z t],0,.cons ⟨_,rfl⟩ .nil,Heap.get?_push_size _ rfl⟩,rfl,q'⟩
 |false=>
  rw[h1] at q';cases hf:(Builtin.Str.occurrences z ⟨#[c]⟩ 0 z.length (z.length+1)).isEmpty with
  |true=>
   rw[hf] at q';refine call_meets F.slot_str_split (typeIs_str s z t) F.entry_str_split (F.args_str_split_2 _ _) (meets_str_split_not_found z ⟨#[c]⟩ t t' h1 rfl hf) ?_;exact ⟨.ref s.heap.objs.size,_,I.laid (o:= .lst [.str z]) (t':=s.toks) (fun b ob e=>Heap.get?_push_of_some _ e) (EB _) ⟨by show 1<=sizeLine;decide,[.str z t],0,.cons ⟨_,rfl⟩ .nil,Heap.get?_push_size _ rfl⟩,rfl,q'⟩
  |false=>
   rw[hf] at q';have hp:(Builtin.Str.partsBetween z (Builtin.Str.occurrences z ⟨#[c]⟩ 0 z.length (z.length+1)) (⟨#[c]⟩:Str).length).length<=sizeLine:=by
    unfold Builtin.Str.partsBetween;simp only[E5,List.length_zip,EQ,EG,List.length_nil];omega
   refine call_meets F.slot_str_split (typeIs_str s z t) F.entry_str_split (F.args_str_split_2 _ _) (meets_str_split_sep z ⟨#[c]⟩ t t' h1 rfl hf (by omega) hp) ?_
   exact ⟨.ref s.heap.objs.size,_,I.laid (o:= .lst ((Builtin.Str.partsBetween z (Builtin.Str.occurrences z ⟨#[c]⟩ 0 z.length (z.length+1)) (⟨#[c]⟩:Str).length).map V.str)) (fun b ob e=>Heap.get?_push_of_some _ e) (EB _) ⟨by rw[E5];exact hp,_,0,kc _ _,Heap.get?_push_size _ rfl⟩,rfl,q'⟩
end
end L2
namespace So
open PySem PyProof.Rows
def kk (κ:KeyKind) (p:Keyed):κ.α:=(κ.keyOf p.1).getD κ.dflt
def Kd (κ:KeyKind) (p:Keyed):Prop:=∃a,κ.keyOf p.1=some a
def Af (prog:Program) (w:World) (A:Around) (E:Ik) (s:Shared) (κ:KeyKind) (kd:SortKind):Prop:=∀(st:SortSt) (x y:Keyed) (Q:Option Bool->SortSt->Prop),kindOf st=kd->Kd κ x->Kd κ y->Q (some (κ.blt (kk κ x) (kk κ y))) st->wpS (model prog w) A E s (lt' x y) Q st
section
variable {prog:Program} {w:World} {A:Around} {E:Ik} {s:Shared} {κ:KeyKind} {kd:SortKind}
theorem ja {α β:Type} {st:SortSt} {x:StateT SortSt Sem α} {f:α->StateT SortSt Sem β} {Q:β->SortSt->Prop} (h:wpS (model prog w) A E s (x>>=f) Q st):wpS (model prog w) A E s (x>>=f) Q st:=h
theorem tX (hO:Af prog w A E s κ kd) {st:SortSt} {x y:Keyed} {Q:Option Bool->SortSt->Prop} (hk:kindOf st=kd) (hx:Kd κ x) (hy:Kd κ y) (h:Q (some (κ.blt (kk κ x) (kk κ y))) st):wpS (model prog w) A E s (lt' x y) Q st:=hO st x y Q hk hx hy h
theorem gO {st:SortSt} {arr:Array Keyed} {i:Nat} {p:Keyed} {Q:Keyed->SortSt->Prop} (e:arr[i]?=some p) (h:Q p st):wpS (model prog w) A E s (elem' arr i) Q st:=by
 rw[elem'_eq,e];exact wpS_pure h
end
def Lq (κ:KeyKind) (p q:Keyed):Prop:=κ.kle (kk κ p) (kk κ q)
section
variable {prog:Program} {w:World} {A:Around} {E:Ik} {s:Shared} {κ:KeyKind} {kd:SortKind}
theorem mR {st:SortSt} {r:String} {Q:Unit->SortSt->Prop} (h:Q () st):wpS (model prog w) A E s (liftM (rule r):StateT SortSt Sem Unit) Q st:=wpS_lift (wpAny_rule ⟨rfl,h⟩)
end
section
variable {prog:Program} {w:World} {A:Around} {E:Ik} {s:Shared} {κ:KeyKind} {kd:SortKind}
theorem v6 {arr:Array Keyed} {P R:List Keyed} (e:arr.toList=P++R) {i:Nat} {x:Keyed} (h:R[i]?=some x):arr[P.length+i]?=some x:=by
 have:arr.toList[P.length+i]?=some x:=by rw[e,EA (by omega),Nat.add_sub_cancel_left];exact h
 simpa using this
theorem gP (hO:Af prog w A E s κ kd) {st:SortSt} {P R:List Keyed} {i j i' j':Nat} {x y:Keyed} {Q:Option Bool->SortSt->Prop} (hk:kindOf st=kd) (ka:∀x∈R,Kd κ x) (e:(arrOf st).toList=P++R)
  (hi:R[i]?=some x) (hj:R[j]?=some y) (ei:i'=P.length+i) (ej:j'=P.length+j) (h:Q (some (κ.blt (kk κ x) (kk κ y))) st):wpS (model prog w) A E s (ltAt' i' j') Q st:=by
 subst ei ej;rw[ltAt'_eq];refine wpS_bind (wpS_get ?_);exact wpS_bind (gO (v6 e hi) (wpS_bind (gO (v6 e hj) (tX hO hk (ka x (E4 hi)) (ka y (E4 hj)) h))))
theorem take_snoc {R:List Keyed} {n:Nat} {x:Keyed} (h:R[n]?=some x):R.take (n+1)=R.take n++ [x]:=by
 rw[List.take_succ,h]
 rfl
theorem CW {R:List Keyed} {n:Nat} {x y:Keyed} (h1:1<=n) (hs:(R.take n).Pairwise (Lq κ)) (hy:R[n-1]?=some y) (hx:R[n]?=some x) (l:Lq κ y x):(R.take (n+1)).Pairwise (Lq κ):=by
 have e1:R.take n=R.take (n-1)++ [y]:=by
  have:=take_snoc hy
  rwa [show n-1+1=n by omega] at this
 rw[take_snoc hx,FO];refine ⟨hs,by simp,fun u hu v hv=>?_⟩
 simp at hv;rw[hv];rw[e1] at hu hs;rcases EI.mp hu with k|k
 ·exact KeyOrd.kle_trans ((FO.mp hs).2.2 u k y (by simp)) l
 ·simp at k;rw[k];exact l
theorem qr {st:SortSt} {R:List Keyed} {n0 N:Nat} (hN:N=R.length) {body:Nat->Option (Option Nat)×Nat->StateT SortSt Sem (ForInStep (Option (Option Nat)×Nat))} {Q:Option (Option Nat)×Nat->SortSt->Prop} (h1:1<=n0) (hn:n0<=R.length) (hs:(R.take n0).Pairwise (Lq κ))
  (hb:∀n x y (i:Nat) (Q':ForInStep (Option (Option Nat)×Nat)->SortSt->Prop),1<=n->R[n]?=some x->R[n-1]?=some y->(κ.blt (kk κ x) (kk κ y)=true->Q' (.done (none,n)) st)->(κ.blt (kk κ x) (kk κ y)=false->Q' (.yield (none,n+1)) st)->wpS (model prog w) A E s (body i (none,n)) Q' st)
  (h:∀n,n0<=n->n<=R.length->(R.take n).Pairwise (Lq κ)->(n=R.length∨∃x y,R[n]?=some x/\R[n-1]?=some y/\κ.blt (kk κ x) (kk κ y)=true)->Q (none,n) st):wpS (model prog w) A E s (forIn [n0:N] (none,n0) body) Q st:=by
 subst hN;refine wpS_forRange (I:=fun i c st'=>st'=st/\c=(none,i)/\n0<=i/\(R.take i).Pairwise (Lq κ)) ?_ ?_ ⟨rfl,rfl,EB _,hs⟩
 ·rintro i c st' hi1 hi2 ⟨rfl,rfl,h3,h4⟩;have ex:=E1 hi2;have ey:=E1 (show i-1<R.length by omega)
  refine hb i _ _ i _ (by omega) ex ey (fun c=>h i h3 (by omega) h4 (.inr ⟨_,_,ex,ey,c⟩)) (fun c=>⟨rfl,rfl,by omega,CW (by omega) h4 ey ex c⟩)
 ·rintro c st' ⟨rfl,rfl,h3,h4⟩;rw[Nat.max_eq_right hn] at h3 h4⊢;exact h _ h3 (EB _) h4 (.inl rfl)
theorem iB {arr:Array Keyed} {P D S:List Keyed} (e:arr.toList=P++(D++S)):(mirror arr P.length (P.length+D.length) ((P.length+D.length-P.length)/2)).toList=P++(D.reverse++S):=by
 have sz:arr.size=P.length+(D.length+S.length):=by
  have:=congrArg List.length e
  simpa using this
 apply FF;intro k;have q:=getElem?_mirror_all (xs:=arr) (i:=P.length) (j:=P.length+D.length) (by omega) k
 have q':(mirror arr P.length (P.length+D.length) ((P.length+D.length-P.length)/2)).toList[k]?=(mirror arr P.length (P.length+D.length) ((P.length+D.length-P.length)/2))[k]?:=by simp
 have ga:∀i,arr[i]?=(P++(D++S))[i]?:=fun i=>by rw[<-e,FA]
 rw[q',q,ga,ga]
 by_cases c:P.length<=k/\k<P.length+D.length
 ·rw[if_pos c,EA (by omega),EF (by omega),EA (by omega),EF (by rw[FS];omega),List.getElem?_reverse (by omega)]
  congr 1
  omega
 ·rw[if_neg c]
  by_cases c2:k<P.length
  ·rw[EF c2,EF c2]
  ·rw[EA (by omega),EA (by omega),EA (by omega),EA (by rw[FS];omega),FS]
structure Kp (st st':SortSt):Prop where
 kind:kindOf st'=kindOf st
 failed:failedOf st'=failedOf st
 pend:pendingOf st'=pendingOf st
def NI (κ:KeyKind) (L:List Keyed) (n:Nat):Prop:=((L.map (kk κ)).take n).Pairwise fun a b=>κ.blt a b=false
theorem NI.snoc {L:List Keyed} {n:Nat} {x y:Keyed} (h1:1<=n) (h:NI κ L n) (hy:L[n-1]?=some y) (hx:L[n]?=some x) (l:κ.blt (kk κ y) (kk κ x)=false):NI κ L (n+1):=by
 have ey:(L.map (kk κ))[n-1]?=some (kk κ y):=by rw[E7,hy];rfl
 have ex:(L.map (kk κ))[n]?=some (kk κ x):=by rw[E7,hx];rfl
 unfold NI at h⊢;have e1:(L.map (kk κ)).take n=(L.map (kk κ)).take (n-1)++ [kk κ y]:=by
  have:=List.take_succ (l:=L.map (kk κ)) (i:=n-1);rw[show n-1+1=n by omega,ey] at this
  exact this
 have e2:(L.map (kk κ)).take (n+1)=(L.map (kk κ)).take n++ [kk κ x]:=by
  rw[List.take_succ,ex]
  rfl
 rw[e2,FO];refine ⟨h,by simp,fun u hu v hv=>?_⟩
 simp at hv;rw[hv];rw[e1] at hu h;rcases EI.mp hu with k|k
 ·have q:=(FO.mp h).2.2 u k (kk κ y) (by simp)
  exact KeyOrd.kle_trans (O:=κ.toKeyOrd) l q
 ·simp at k;rw[k];exact l
theorem NI.falls {L:List Keyed} {n:Nat} (h:NI κ L n):(L.take n).Pairwise (fun p q=>Lq κ q p):=by
 unfold NI at h;rw[<-List.map_take,FE] at h;exact h
def xi (κ:KeyKind) (L:List Keyed) (n m:Nat):Prop:=∃(D1 D2 S:List Keyed) (a:κ.α),L=D1++(D2++S)/\D1.length+D2.length=n/\D2.length=m+1/\∀x∈D2,kk κ x=a
theorem rN {D:List Keyed} {a:κ.α} (h:∀x∈D,kk κ x=a):D.reverse.map (kk κ)=D.map (kk κ):=by
 have e1:D.map (kk κ)=List.replicate D.length a:=List.eq_replicate_iff.mpr ⟨by simp,fun b hb=>by
  obtain ⟨x,hx,rfl⟩:=EO.mp hb;exact h x hx⟩
 have e2:D.reverse.map (kk κ)=List.replicate D.length a:=List.eq_replicate_iff.mpr ⟨by simp,fun b hb=>by
  obtain ⟨x,hx,rfl⟩:=EO.mp hb;exact h x (List.mem_reverse.mp hx)⟩
 rw[e1,e2]
theorem jb {st:SortSt} {P L:List Keyed} {n m i j:Nat} {Q:Unit->SortSt->Prop} (e:(arrOf st).toList=P++L) (q:xi κ L n m) (ei:i=P.length+n-(m+1)) (ej:j=P.length+n)
  (h:∀st' L',Kp st st'->(arrOf st').toList=P++L'->L'.Perm L->L'.map (kk κ)=L.map (kk κ)->(∀k,n<=k->L'[k]?=L[k]?)->Q () st'):wpS (model prog w) A E s (reverseSlice' i j) Q st:=by
 obtain ⟨D1,D2,S,a,rfl,l1,l2,al⟩:=q;refine wpS_reverse ?_;have er:(arrOf st).toList=(P++D1)++(D2++S):=by rw[e];simp
 have em:=iB er;have i1:i=(P++D1).length:=by rw[EG];omega
 have j1:j=(P++D1).length+D2.length:=by rw[EG];omega
 rw[i1,j1];refine h (setArr st (mirror (arrOf st) (P++D1).length ((P++D1).length+D2.length) (((P++D1).length+D2.length-(P++D1).length)/2))) (D1++(D2.reverse++S)) ⟨rfl,rfl,rfl⟩ ?_ ?_ ?_ fun k hk=>?_
 ·rw[<-Es];exact em
 ·exact List.Perm.append_left _ (List.Perm.append_right _ (List.reverse_perm _))
 ·simp only[FH];rw[rN al]
 ·rw[EA (by omega),EA (by rw[FS];omega),EA (by omega),EA (by omega),FS]
theorem Kp.trans {a b c:SortSt} (h1:Kp a b) (h2:Kp b c):Kp a c:=⟨h2.kind.trans h1.kind,h2.failed.trans h1.failed,h2.pend.trans h1.pend⟩
theorem lD {L:List Keyed} {n:Nat} (h:n<L.length):xi κ L (n+1) 0:=by
 refine ⟨L.take n,[L[n]],L.drop (n+1),kk κ L[n],?_,by rw[EK];simp;omega,rfl,fun x hx=>by simp at hx;rw[hx]⟩
 have:=FN h;rw[List.singleton_append,<-this,EZ]
theorem xi.more {L:List Keyed} {n m:Nat} {x y:Keyed} (h:xi κ L n m) (hy:L[n-1]?=some y) (hx:L[n]?=some x) (e:kk κ x=kk κ y):xi κ L (n+1) (m+1):=by
 obtain ⟨D1,D2,S,a,rfl,l1,l2,al⟩:=h;have my:y∈D2:=by
  rw[EA (by omega),EF (by omega)] at hy
  exact E4 hy
 rw[EA (by omega),EA (by omega)] at hx
 have z:n-D1.length-D2.length=0:=by omega
 rw[z] at hx;cases S with
 |nil=>simp at hx
 |cons s S=>
  simp at hx;subst hx;refine ⟨D1,D2++ [s],S,a,by simp,by simp;omega,by simp;omega,fun u hu=>?_⟩
  rcases EI.mp hu with k|k
  ·exact al u k
  ·simp at k;rw[k,e];exact al y my
theorem tY {st st6:SortSt} {P L R:List Keyed} {n:Nat} {f:Unit->StateT SortSt Sem (Option Nat)} {Q:Option Nat->SortSt->Prop} (kp:Kp st st6) (e:(arrOf st6).toList=P++L) (pr:L.Perm R) (hn:n<=R.length) (ni:NI κ L n)
  (h:∀st7 M,Kp st st7->(arrOf st7).toList=P++M->M.Perm R->(M.take n).Pairwise (Lq κ)->wpS (model prog w) A E s (f ()) Q st7):wpS (model prog w) A E s (reverseSlice' P.length (P.length+n)>>=f) Q st6:=by
 have tl:(L.take n).length=n:=by rw[EK,pr.length_eq];omega
 have er:(arrOf st6).toList=P++(L.take n++L.drop n):=by rw[EZ];exact e
 have em:=iB er;rw[tl] at em;refine wpS_bind (wpS_reverse (h _ ((L.take n).reverse++L.drop n) ⟨kp.kind,kp.failed,kp.pend⟩ em ?_ ?_))
 ·refine List.Perm.trans (List.Perm.append_right _ (List.reverse_perm _)) ?_;rw[EZ];exact pr
 ·rw[List.take_left' (by rw[FS,tl]),List.pairwise_reverse]
  exact ni.falls
theorem mS (hO:Af prog w A E s κ kd) {st:SortSt} {P R:List Keyed} {Q:Option Nat->SortSt->Prop} (hk:kindOf st=kd) (ka:∀x∈R,Kd κ x) (e:(arrOf st).toList=P++R) (hR:1<=R.length)
  (h:∀st' X S,Kp st st'->(arrOf st').toList=P++(X++S)->X.Pairwise (Lq κ)->(X++S).Perm R->1<=X.length->Q (some X.length) st'):wpS (model prog w) A E s (countRun' P.length R.length) Q st:=by
 have got:∀n,1<=n->n<=R.length->(R.take n).Pairwise (Lq κ)->Q (some n) st:=fun n h1 h2 h3=>by
  have q:=h st (R.take n) (R.drop n) ⟨rfl,rfl,rfl⟩ (by rw[EZ];exact e) h3 (by rw[EZ]) (by rw[EK];omega)
  rwa [EK,Nat.min_eq_left h2] at q
 unfold countRun';refine ja ?_;try dsimp only
 refine wpS_bind (qr (κ:=κ) (R:=R) rfl (EB 1) hR ?_ (fun n x y i Q' h1 hx hy ht hf=>?_) fun n h1 h2 h3 h4=>?_)
 ·cases R with
  |nil=>simp
  |cons=>simp
 ·refine wpS_bind (gP hO hk ka e hx hy rfl (by omega) ?_)
  cases c:κ.blt (kk κ x) (kk κ y) with
  |true=>exact wpS_pure (ht c)
  |false=>exact wpS_pure (hf c)
 try dsimp only
 by_cases c1:n=R.length
 ·rw[if_pos (beq_iff_eq.mpr c1)];exact wpS_pure (got n h1 h2 h3)
 rw[if_neg (fun z=>c1 (beq_iff_eq.mp z))]
 rcases h4 with h4|⟨x,y,hx,hy,lt⟩
 ·exact absurd h4 c1
 have nl:n<R.length:=by omega
 have all:∀(i j:Nat) (u v:Keyed),i<=j->j<n->R[i]?=some u->R[j]?=some v->Lq κ u v:=fun i j u v hij hj hu hv=>by
  rcases Nat.lt_or_ge i j with c|c
  ·obtain ⟨l1,g1⟩:=E8.mp hu;obtain ⟨l2,g2⟩:=E8.mp hv;have q:=List.pairwise_iff_getElem.mp h3 i j (by rw[EK];omega) (by rw[EK];omega) c
   rw[List.getElem_take,List.getElem_take,g1,g2] at q;exact q
  ·have:i=j:=by omega
   subst this;rw[hu] at hv;cases hv;exact KeyOrd.kle_refl _
 by_cases c2:n>1
 case' pos=>
  rw[if_pos c2];obtain ⟨x0,hx0⟩:∃x,R[0]?=some x:=⟨_,E1 (by omega)⟩
  refine wpS_bind (gP hO hk ka e hx0 hy rfl (by omega) ?_)
  try dsimp only
  cases rose:κ.blt (kk κ x0) (kk κ y) with
  |true=>exact wpS_pure (got n h1 h2 h3)
  |false=>?_
  try dsimp only
  rw[if_neg (by decide)]
  have al:∀z∈R.take n,kk κ z=kk κ x0:=fun z hz=>by
   obtain ⟨k,hk'⟩:=ED.mp hz;have kn:k<n:=by
    have:=(E8.mp hk').1;rw[EK] at this;omega
   rw[FP kn] at hk';have a1:=all 0 k x0 z (by omega) kn hx0 hk'
   have a2:=all k (n-1) z y (by omega) (by omega) hk' hy
   exact KeyOrd.kle_antisymm (O:=κ.toKeyOrd) (KeyOrd.kle_trans (O:=κ.toKeyOrd) a2 rose) a1
  have eq0:xi κ R n (n-1):=⟨[],R.take n,R.drop n,kk κ x0,by simp,by rw[EK];simp;omega,by rw[EK];omega,al⟩
  have ni0:NI κ R n:=by
   unfold NI;rw[<-List.map_take];refine FE.mpr (List.Pairwise.imp_of_mem (R:=fun _ _=>True) (fun {u v} hu hv _=>?_) (List.pairwise_of_forall fun _ _=>trivial))
   rw[al u hu,al v hv];exact κ.irrefl _
  have ni1:NI κ R (n+1):=ni0.snoc h1 hy hx (KeyOrd.kle_of_klt lt);refine wpS_bind (jb (κ:=κ) e eq0 (by omega) rfl fun st1 L0 kp1 e1 p1 m1 _=>?_)
  have niL:NI κ L0 (n+1):=by
   unfold NI at ni1⊢;rw[m1];exact ni1
 case' neg=>
  rw[if_neg c2];have n1:n=1:=by omega
  have ni1:NI κ R (n+1):=by
   refine NI.snoc h1 ?_ hy hx (KeyOrd.kle_of_klt lt);rw[n1];unfold NI;cases R with
   |nil=>simp
   |cons=>simp
  have kp1:Kp st st:=⟨rfl,rfl,rfl⟩;have e1:=e;have p1:=List.Perm.refl R;have niL:=ni1
 all_goals
  refine wpS_bind (mR ?_);have n2:2<=n+1:=by omega
  refine wpS_bind (wpS_mono (wpS_forRange (I:=fun i c st'=>∃L m,c=(none,i,m)/\Kp st st'/\(arrOf st').toList=P++L/\L.Perm R/\NI κ L i/\xi κ L i m/\2<=i)
   (Q:=fun c st'=>∃n' L m,c=(none,n',m)/\Kp st st'/\(arrOf st').toList=P++L/\L.Perm R/\NI κ L n'/\xi κ L n' m/\2<=n'/\n'<=R.length) ?ds ?de ⟨_,0,rfl,kp1,e1,p1,niL,?i0,n2⟩) ?dp)
  case i0=>
   exact lD (by rw[p1.length_eq];omega)
  case de=>
   rintro c st' ⟨L,m,rfl,kp,eL,pL,ni,eq,g1⟩;have:max (n+1) R.length=R.length:=by omega
   rw[this] at ni eq g1⊢;exact ⟨_,L,m,rfl,kp,eL,pL,ni,eq,g1,EB _⟩
  case ds=>
   rintro i c st' hi1 hi2 ⟨L,m,rfl,kp,eL,pL,ni,eq,g1⟩;have hi3:i<L.length:=by rw[pL.length_eq];exact hi2
   have ex:=E1 hi3;have ey:=E1 (show i-1<L.length by omega)
   have kL:∀x∈L,Kd κ x:=fun x hx=>ka x (pL.mem_iff.mp hx)
   have hk':=kp.kind.trans hk;try dsimp only
   refine wpS_bind (gP hO hk' kL eL ex ey rfl (by omega) ?_)
   try dsimp only
   cases c:κ.blt (kk κ L[i]) (kk κ L[i-1]) with
   |true=>
    rw[if_pos rfl]
    by_cases hm:m>0
    ·rw[if_pos hm];refine wpS_bind (jb (κ:=κ) eL eq rfl rfl fun st6 L6 kp6 e6 p6 m6 g6=>wpS_pure ⟨L6,0,rfl,kp.trans kp6,e6,p6.trans pL,?_,lD (by rw[p6.length_eq];omega),by omega⟩)
     have:=ni.snoc (by omega) ey ex (KeyOrd.kle_of_klt c)
     unfold NI at this⊢;rw[m6];exact this
    ·rw[if_neg hm];exact wpS_pure ⟨L,0,rfl,kp,eL,pL,ni.snoc (by omega) ey ex (KeyOrd.kle_of_klt c),lD (by omega),by omega⟩
   |false=>
    rw[if_neg (by decide)]
    refine wpS_bind (gP hO hk' kL eL ey ex (by omega) rfl ?_)
    try dsimp only
    cases c':κ.blt (kk κ L[i-1]) (kk κ L[i]) with
    |true=>exact wpS_pure ⟨i,L,m,rfl,kp,eL,pL,ni,eq,g1,by omega⟩
    |false=>exact wpS_pure ⟨L,m+1,rfl,kp,eL,pL,ni.snoc (by omega) ey ex c',eq.more ey ex (κ.total _ _ c c'),by omega⟩
  case dp=>
   rintro c st' ⟨n',L,m,rfl,kp,eL,pL,ni,eq,g1,g2⟩;try dsimp only
   by_cases hm:m>0
   case' pos=>
    rw[if_pos hm];refine wpS_bind (jb (κ:=κ) eL eq rfl rfl fun st6 L6 kp6' e6 p6' m6 g6=>?_)
    have kp6:=kp.trans kp6';have p6:=p6'.trans pL;have ni6:NI κ L6 n':=by
     unfold NI at ni⊢;rw[m6];exact ni
   case' neg=>
    rw[if_neg hm];have kp6:=kp;have e6:=eL;have p6:=pL;have ni6:=ni
   all_goals
    refine tY (κ:=κ) kp6 e6 p6 g2 ni6 fun st7 M kp7 e7 p7 s7=>?_
    have rl:=p7.length_eq;have kM:∀x∈M,Kd κ x:=fun x hx=>ka x (p7.mem_iff.mp hx)
    refine wpS_bind (qr (κ:=κ) (R:=M) rl.symm (by omega) (by omega) s7 (fun m x y i Q' h1 hx hy ht hf=>?_) fun m h1 h2 h3 _=>?_)
    ·try dsimp only
     refine wpS_bind (gP hO (kp7.kind.trans hk) kM e7 hx hy rfl (by omega) ?_)
     cases c:κ.blt (kk κ x) (kk κ y) with
     |true=>exact wpS_pure (ht c)
     |false=>exact wpS_pure (hf c)
    ·have q:=h st7 (M.take m) (M.drop m) kp7 (by rw[EZ];exact e7) h3 (by rw[EZ];exact p7) (by rw[EK];omega)
     rw[EK,Nat.min_eq_left h2] at q;exact wpS_pure q
end
theorem mT {arr:Array Keyed} {B V W:List Keyed} {x:Keyed} (e:arr.toList=B++(V++x::W)):(bubble arr (B.length+V.length) V.length).toList=B++(x::(V++W)):=by
 have sz:arr.size=B.length+(V.length+(W.length+1)):=by
  have:=congrArg List.length e
  simpa using this
 apply FF;intro k;have q:=getElem?_bubble (xs:=arr) (src:=B.length+V.length) (by omega) V.length (by omega) k
 rw[Nat.add_sub_cancel] at q;have ga:∀i,arr[i]?=(B++(V++x::W))[i]?:=fun i=>by rw[<-e,FA]
 rw[FA,q,ga,ga,ga]
 by_cases c1:k=B.length
 ·rw[if_pos c1];subst c1;simp
 rw[if_neg c1]
 by_cases c2:B.length<k/\k<=B.length+V.length
 ·rw[if_pos c2,EA (by omega),EF (by omega),EA (by omega)]
  have:k-B.length=(k-1-B.length)+1:=by omega
  rw[this,List.getElem?_cons_succ,EF (by omega)]
 rw[if_neg c2]
 by_cases c3:k<B.length
 ·rw[EF c3,EF c3]
 ·rw[EA (by omega),EA (by omega),EA (by omega)]
  have e1:k-B.length-V.length=(k-B.length-V.length-1)+1:=by omega
  have e2:k-B.length=(k-B.length-1)+1:=by omega
  rw[e1,List.getElem?_cons_succ,e2,List.getElem?_cons_succ,EA (by omega)]
  congr 1
  omega
section
variable {prog:Program} {w:World} {A:Around} {E:Ik} {s:Shared} {κ:KeyKind} {kd:SortKind}
theorem rO (hO:Af prog w A E s κ kd) {st:SortSt} {P D S:List Keyed} {ok n:Nat} {Q:Bool->SortSt->Prop} (hn:n=D.length) (hk:kindOf st=kd) (ka:∀x∈D,Kd κ x) (e:(arrOf st).toList=P++(D++S)) (h1:1<=ok) (h2:ok<=D.length) (hs:(D.take ok).Pairwise (Lq κ))
  (h:∀st' X,Kp st st'->(arrOf st').toList=P++(X++S)->X.Pairwise (Lq κ)->X.Perm D->Q true st'):wpS (model prog w) A E s (binarySort' P.length n ok) Q st:=by
 subst hn;unfold binarySort';refine ja ?_;try dsimp only
 have mx:max ok 1=ok:=by omega
 rw[mx];refine wpS_bind (wpS_mono (wpS_forRange (I:=fun k c st'=>c=(none,())/\Kp st st'/\∃X,(arrOf st').toList=P++(X++S)/\X.Perm D/\(X.take k).Pairwise (Lq κ))
  (Q:=fun c st'=>c=(none,())/\Kp st st'/\∃X,(arrOf st').toList=P++(X++S)/\X.Perm D/\X.Pairwise (Lq κ)) ?s1 ?e1 ⟨rfl,⟨rfl,rfl,rfl⟩,D,e,List.Perm.refl _,hs⟩) ?p1)
 case e1=>
  rintro c st' ⟨rfl,kp,X,eX,pX,sX⟩;rw[Nat.max_eq_right h2,FJ (by rw[pX.length_eq];exact EB _)] at sX
  exact ⟨rfl,kp,X,eX,pX,sX⟩
 case p1=>
  rintro c st' ⟨rfl,kp,X,eX,pX,sX⟩;exact wpS_pure (h st' X kp eX sX pX)
 case s1=>
  rintro k c st' hk1 hk2 ⟨rfl,kp,X,eX,pX,sX⟩;have xl:=pX.length_eq;have kaX:∀x∈X++S,x∈X->Kd κ x:=fun x _ hx=>ka x (pX.mem_iff.mp hx)
  have hkx:k<X.length:=by omega
  have ex:=E1 hkx;generalize X[k]=x at ex;have eX':(arrOf st').toList=P++X++S:=by rw[eX,Es]
  have lt:∀{i:Nat} {y:Keyed} {Q':Option Bool->SortSt->Prop},X[i]?=some y->Q' (some (κ.blt (kk κ x) (kk κ y))) st'->wpS (model prog w) A E s (ltAt' (P.length+k) (P.length+i)) Q' st':=fun {i y Q'} hy hq=>by
   have il:=(E8.mp hy).1;rw[ltAt'_eq];refine wpS_bind (wpS_get ?_);exact wpS_bind (gO (v6 eX (by rw[EF hkx];exact ex)) (wpS_bind (gO (v6 eX (by rw[EF il];exact hy)) (tX hO (kp.kind.trans hk) (ka x (pX.mem_iff.mp (E4 ex))) (ka y (pX.mem_iff.mp (E4 hy))) hq))))
  have mono:∀{i j:Nat} {u v:Keyed},i<=j->j<k->X[i]?=some u->X[j]?=some v->Lq κ u v:=fun {i j u v} hij hj hu hv=>by
   rcases Nat.lt_or_ge i j with c|c
   ·obtain ⟨l1,g1⟩:=E8.mp hu;obtain ⟨l2,g2⟩:=E8.mp hv;have q:=List.pairwise_iff_getElem.mp sX i j (by rw[EK];omega) (by rw[EK];omega) c
    rw[List.getElem_take,List.getElem_take,g1,g2] at q;exact q
   ·have:i=j:=by omega
    subst this;rw[hu] at hv;cases hv;exact KeyOrd.kle_refl _
  try dsimp only
  refine wpS_bind (wpS_mono (wpS_forRange (I:=fun i c st''=>st''=st'/\∃l r,c=(none,l,r)/\l<=r/\r<=k/\(∀j u,j<l->X[j]?=some u->Lq κ u x)/\(∀j u,r<=j->j<k->X[j]?=some u->Lq κ x u)/\r-l+i<=k)
   (Q:=fun c st''=>st''=st'/\∃l,c=(none,l,l)/\l<=k/\(∀j u,j<l->X[j]?=some u->Lq κ u x)/\(∀j u,l<=j->j<k->X[j]?=some u->Lq κ x u)) ?s2 ?e2 ⟨rfl,0,k,rfl,by omega,by omega,fun j u z=>absurd z (by omega),fun j u z z'=>absurd z' (by omega),by omega⟩) ?p2)
  case e2=>
   rintro c st'' ⟨rfl,l,r,rfl,a1,a2,a3,a4,a5⟩;have:l=r:=by omega
   subst this;exact ⟨rfl,l,rfl,a2,a3,a4⟩
  case s2=>
   rintro i c st'' _ hi ⟨rfl,l,r,rfl,a1,a2,a3,a4,a5⟩;try dsimp only
   by_cases c:l≥r
   ·rw[if_pos c];have:l=r:=by omega
    subst this;exact wpS_pure ⟨rfl,l,rfl,a2,a3,a4⟩
   ·rw[if_neg c];have ml:(l+r)/2<X.length:=by omega
    have em:=E1 ml;refine wpS_bind (lt em ?_);try dsimp only
    cases cc:κ.blt (kk κ x) (kk κ X[(l+r)/2]) with
    |true=>exact wpS_pure ⟨rfl,_,_,rfl,by omega,by omega,a3,fun j u hj hj2 hu=>KeyOrd.kle_trans (KeyOrd.kle_of_klt cc) (mono hj hj2 em hu),by omega⟩
    |false=>exact wpS_pure ⟨rfl,_,_,rfl,by omega,by omega,fun j u hj hu=>KeyOrd.kle_trans (mono (show j<=(l+r)/2 by omega) (by omega) hu em) cc,a4,by omega⟩
  case p2=>
   rintro c st'' ⟨rfl,l,rfl,a2,a3,a4⟩;try dsimp only
   have eX2:X=X.take l++((X.take k).drop l++x::X.drop (k+1)):=by
    obtain ⟨l1,g1⟩:=E8.mp ex;have d1:X.drop k=x::X.drop (k+1):=by rw[FN l1,g1]
    have t1:X.take k=X.take l++(X.take k).drop l:=by
     have q:=(EZ l (X.take k)).symm;rw[List.take_take,Nat.min_eq_left a2] at q;exact q
    rw[<-d1,<-Es,<-t1,EZ]
   have lv:((X.take k).drop l).length=k-l:=by rw[Eo,EK];omega
   have lu:(X.take l).length=l:=by rw[EK];omega
   have mU:∀u∈X.take l,Lq κ u x:=fun u hu=>by
    obtain ⟨j,hj⟩:=ED.mp hu;have jl:=(E8.mp hj).1;rw[lu] at jl;rw[FP jl] at hj;exact a3 j u jl hj
   have mV:∀u∈(X.take k).drop l,Lq κ x u:=fun u hu=>by
    obtain ⟨j,hj⟩:=ED.mp hu;have jl:=(E8.mp hj).1;rw[lv] at jl;rw[List.getElem?_drop,FP (by omega)] at hj
    exact a4 (l+j) u (by omega) (by omega) hj
   have sUV:(X.take l++(X.take k).drop l).Pairwise (Lq κ):=by
    have q:=(EZ l (X.take k)).symm;rw[List.take_take,Nat.min_eq_left a2] at q;rw[<-q];exact sX
   generalize X.take l=U at*;generalize (X.take k).drop l=V at*;generalize X.drop (k+1)=W at*;subst eX2;have eb:(arrOf st'').toList=(P++U)++(V++x::(W++S)):=by rw[eX];simp
   have bl:=mT eb;have l1:(P++U).length+V.length=P.length+k:=by rw[EG];omega
   rw[l1] at bl;have l2:P.length+k-(P.length+l)=V.length:=by omega
   have sp:=FO.mp sUV;refine wpS_bind ?_;show wpS _ _ _ _ (moveDown' (P.length+k) (P.length+l)) _ _;rw[moveDown'_eq];refine wpS_modify (wpS_pure ⟨rfl,⟨kp.kind,kp.failed,kp.pend⟩,U++(x::(V++W)),?_,?_,?_⟩)
   ·show (bubble (arrOf st'') (P.length+k) (P.length+k-(P.length+l))).toList=_;rw[l2,bl];simp
   ·refine List.Perm.trans (List.Perm.append_left _ ?_) pX;exact (List.perm_middle).symm
   ·have t:U++(x::(V++W))=(U++x::V)++W:=by simp
    rw[t,List.take_left' (by simp;omega),FO,List.pairwise_cons]
    refine ⟨sp.1,⟨mV,sp.2.1⟩,fun u hu v hv=>?_⟩
    rcases E3.mp hv with c|c
    ·rw[c];exact mU u hu
    ·exact sp.2.2 u hu v c
end
end So
namespace Sw
open PySem L2 XH PySem.NumText
def sL (z:Str):List Nat:=z.cps.toList
def bH (l:List Nat):Str:=⟨l.toArray⟩
theorem bx (l:List Nat):sL (bH l)=l:=by simp[sL,bH]
theorem tZ (z:Str):bH (sL z)=z:=by simp[sL,bH]
theorem fA {x y:Str} (h:sL x=sL y):x=y:=by rw[<-tZ x,<-tZ y,h]
theorem cX (z:Str):(sL z).length=z.length:=by simp[sL,Str.length]
theorem cr (l:List Nat):(bH l).length=l.length:=by rw[<-cX,bx]
theorem bO (x y:Str):sL (x++y)=sL x++sL y:=by
 show (x.cps++y.cps).toList=_;rw[Array.toList_append]
 rfl
theorem cH (a b:List Nat):bH a++bH b=bH (a++b):=fA (by rw[bO,bx,bx,bx])
theorem iQ (n:Nat):Str.ofString (toString ((n:Nat):Int))=bH (dg n):=fA (by rw[bx];exact PySem.W.KIN.signs_num n)
theorem mW:Str.empty=bH []:=rfl
theorem ph (c:Nat):(⟨#[c]⟩:Str)=bH [c]:=rfl
theorem dz:(Str.ofString "/")=bH [47]:=by decide
theorem fQ:(Str.ofString "+")=bH [43]:=by decide
theorem mX (z:Str) (c:Nat):qi z (bH [c])=if c∈sL z then [.str (bH (cA c (sL z)).1),.str (bH [c]),.str (bH (cA c (sL z)).2)] else [.str z,.str Str.empty,.str Str.empty]:=by
 unfold qi;rcases StrLaws.occ_head z (bH [c]) 1 (EB _) with ⟨h0,hn⟩|⟨i,r,h0,ha,hn⟩
 ·rw[h0,if_neg];intro hc;obtain ⟨i,hi⟩:=ED.mp hc;exact hn i ((StrLaws.subAt_one z c i).mpr hi)
 ·have hi:(sL z)[i]?=some c:=(StrLaws.subAt_one z c i).mp ha;have hlt:i<(sL z).length:=(E8.mp hi).1;have hc:c∈sL z:=E4 hi;have hno:c∉(sL z).take i:=by
   intro q;obtain ⟨k,hk⟩:=ED.mp q;have kl:k<i:=by
    have:=(E8.mp hk).1;rw[EK] at this;omega
   rw[FP kl] at hk;exact hn k kl ((StrLaws.subAt_one z c k).mpr hk)
  have e:sL z=(sL z).take i++c::(sL z).drop (i+1):=by
   have:=(E8.mp hi).2;rw[<-this,List.getElem_cons_drop hlt,EZ]
  have ec:cA c (sL z)=((sL z).take i,(sL z).drop (i+1)):=by
   conv=>lhs;rw[e]
   exact dM hno
  rw[h0,if_pos hc,ec];have e1:Builtin.Str.strSub z 0 i=bH ((sL z).take i):=fA (by
   rw[bx];show (Builtin.Str.strSub z 0 i).cps.toList=_;rw[StrLaws.strSub_toList,List.drop_zero,Nat.sub_zero]
   rfl)
  have e2:Builtin.Str.strSub z (i+(bH [c]).length) z.length=bH ((sL z).drop (i+1)):=fA (by
   rw[bx];show (Builtin.Str.strSub z (i+1) z.length).cps.toList=_;rw[StrLaws.strSub_toList,FJ]
   ·rfl
   ·rw[Eo];exact EB _)
  show [V.str (Builtin.Str.strSub z 0 i),V.str (bH [c]),V.str (Builtin.Str.strSub z (i+(bH [c]).length) z.length)]=_;rw[e1,e2]
theorem ip (z:Str) (c:Nat):(!(Builtin.Str.occurrences z (bH [c]) 0 z.length 1).isEmpty)=decide (c∈sL z):=StrLaws.found_one z c
theorem jc (s x y:Str) (r:Ip):Str.join s (x::y::r)=x++s++Str.join s (y::r):=rfl
theorem mY (c:Nat):∀(xs ys:Ip),xs≠ []->ys≠ []->(∀x∈xs,c∉sL x)->(∀y∈ys,c∉sL y)->Str.join (bH [c]) xs=Str.join (bH [c]) ys->xs=ys
 | [],_,h,_,_,_,_=>absurd rfl h
 |_,[],_,h,_,_,_=>absurd rfl h
 | [x],[y],_,_,_,_,e=>by
  have e':x=y:=e;rw[e']
 | [x],y::z::r,_,_,hx,_,e=>by
  exfalso;have e':x=y++bH [c]++Str.join (bH [c]) (z::r):=e;refine hx x (by simp) ?_
  rw[e',bO,bO,bx];simp
 |x::z::r,[y],_,_,_,hy,e=>by
  exfalso;have e':x++bH [c]++Str.join (bH [c]) (z::r)=y:=e;refine hy y (by simp) ?_
  rw[<-e',bO,bO,bx];simp
 |x::x'::r,y::y'::r',_,_,hx,hy,e=>by
  rw[jc,jc] at e;have e1:=congrArg sL e;rw[bO,bO,bO,bO,bx,Es,Es] at e1;have e2:=congrArg (cA c) e1;simp only[List.cons_append,List.nil_append] at e2;rw[dM (hx x (by simp)),dM (hy y (by simp))] at e2
  injection e2 with e3 e4
  have ih:=mY c (x'::r) (y'::r') (by simp) (by simp) (fun z hz=>hx z (by simp at hz⊢;exact .inr hz)) (fun z hz=>hy z (by simp at hz⊢;exact .inr hz)) (fA e4)
  rw[fA e3,ih]
theorem mZ (x:Str) (c:Nat):Txt.split x (bH [c])≠ []:=by
 unfold Txt.split
 split
 ·simp
 ·split
  ·simp
  ·rw[StrLaws.partsBetween_eq];obtain ⟨p,r,e⟩:=StrLaws.partsFrom_ne x (bH [c]).length 0 (Builtin.Str.occurrences x (bH [c]) 0 x.length (x.length+1));rw[e];simp
theorem eO {c:Nat} {ws:Ip} (ne:ws≠ []) (free:∀w∈ws,c∉sL w):Txt.split (Str.join (bH [c]) ws) (bH [c])=ws:=
 mY c _ _ (mZ _ c) ne (StrLaws.split_free _ c) free (StrLaws.join_split _ _)
theorem pi {c:Nat} {w:Str} (h:c∉sL w):Txt.split w (bH [c])= [w]:=eO (ws:= [w]) (by simp) (by simpa using h)
theorem lE {c:Nat} {ws:Ip} (z:Str) (ne:ws≠ []) (free:∀w∈ws,c∉sL w):Txt.replace (Str.join (bH [c]) ws) (bH [c]) z=Str.join z ws:=by
 show Txt.replace (Str.join (bH [c]) ws) ⟨#[c]⟩ z=_;rw[StrLaws.replace_one];show Str.join z (Txt.split _ (bH [c]))=_;rw[eO ne free]
theorem fR {c:Nat} {w:Str} (z:Str) (h:c∉sL w):Txt.replace w (bH [c]) z=w:=lE (ws:= [w]) z (by simp) (by simpa using h)
def yg:Str:= "0123456789"
theorem qt (c:Nat):(!(Builtin.Str.occurrences yg (bH [c]) 0 yg.length 1).isEmpty)=decide (48<=c/\c<=57):=by
 rw[ip];have e:sL yg= [48,49,50,51,52,53,54,55,56,57]:=by decide
 rw[e,decide_eq_decide];simp;omega
def pj:Sp:=fun vs H Q _=>∃z:Str,vs= [.str z]/\z.length<=1000000/\(df (sL z)=none->Q .non H)/\∀n:Nat,df (sL z)=some n->Q (.int n) H
def t6:Sp:=fun vs H Q _=>∃z:Str,vs= [.str z]/\z.length<=900000/\(c7 (sL z)=none->∀H',aJ H H'->Q .non H')/\∀(n m:Nat) (p q:Int),c7 (sL z)=some (n,m)->m≠0->n<10^30->m<10^30->Fr p q n m->Pair H Q p q
def qu:Sp:=fun vs H Q _=>∃z:Str,vs= [.str z]/\z.length<=800000/\(dr (sL z)=none->∀H',aJ H H'->Q .non H')/\
 ∀(n m:Nat) (p q:Int),dr (sL z)=some (n,m)->Ch p q->p*m=n*q->m≠0->Bd 400 p->Bd 400 q->Pair H Q p q
def xj (K:D9):Sp:=fun vs H Q _=>∃(t:Addr) (p q:Nat),vs= [.ref t]/\cQ K 1900 H t p q/\Q (.str (bH (cV p q))) H
def pk (c:Addr):Sp:=fun vs H Q E=>∃z:Str,vs= [.str z]/\z.length<=800000/\(∀p q:Nat,Reads (sL z) p q->Pair H Q p q)/\((∀p q,¬Reads (sL z) p q)->∀H',aJ H H'->E (.ref c) none H')
def qw:Sp:=fun vs H Q _=>∃z:Str,vs= [.str z]/\z.length<=800000/\∃p q:Nat,Reads (sL z) p q/\Pair H Q p q
theorem iq {l:List Nat} {p q p' q':Nat} (h:Reads l p q) (h':Reads l p' q'):p=p'/\q=q':=by
 have e:=(j9 h).symm.trans (j9 h');cases e;exact ⟨rfl,rfl⟩
theorem t8 {c:Addr}:∀vs H Q E,qw vs H Q E->pk c vs H Q E0:=by
 rintro vs H Q E ⟨z,e,hz,p,q,r,k⟩;refine ⟨z,e,hz,fun p' q' r'=>?_,fun n=>absurd r (n p q)⟩
 obtain ⟨rfl,rfl⟩:=iq r r';exact k
theorem int_text {z:Str} (h:vZ (sL z)):intText? z=some ((digitsVal (sL z):Nat):Int):=by
 refine intText_digits h.2.2.2 (fun e=>?_) ?_
 ·have:=h.1;rw[show sL z= [] from e] at this
  simp at this
 ·have:=h.2.1;rw[cX] at this;omega
theorem t9 {a b:Str} {A B:Prop} (h1:a≠b->A) (h2:a=b->B):if (!decide (V.str a=V.str b))=true then A else B:=by
 by_cases e:a=b
 ·exact nF (by rw[e]) (h2 e)
 ·exact nT (fun z=>by cases z;exact e rfl) (h1 e)
theorem yh {a b:Str} {A B:Prop} (h1:a=b->A) (h2:a≠b->B):if decide (V.str a=V.str b)=true then A else B:=by
 by_cases e:a=b
 ·exact dT (by rw[e]) (h1 e)
 ·exact dF (fun z=>by cases z;exact e rfl) (h2 e)
theorem Cj {b:Bool} {A B:Prop} (h1:b=false->A) (h2:b=true->B):if (!b)=true then A else B:=by
 cases b with
 |false=>exact kZ (h1 rfl)
 |true=>exact cq (h2 rfl)
theorem iR:(Str.ofString "0")=bH [48]:=by decide
theorem lg {n:Nat} (h:n<2^1900):(n:Int).natAbs.log2<1920:=by
 rw[Int.natAbs_natCast]
 by_cases z:n=0
 ·subst z;decide
 ·exact ET ((Nat.log2_lt z).mpr h) (by decide)
theorem cu {n:Nat} (h:n<2^1900):(dg n).length<=600:=dD (k:=599) (ER h (by decide))
theorem m3 (p q:Nat):(p:Int).fdiv q=((p/q:Nat):Int):=by
 rw[F9 _ (Int.natCast_nonneg q)]
 rfl
theorem v7 (p q:Nat):(p:Int)-((p/q:Nat):Int)*(q:Int)=((p % q:Nat):Int):=by
 have h:=Nat.div_add_mod p q;have e:(((p/q:Nat):Int)*(q:Int))=((q*(p/q):Nat):Int):=by rw[Nat.mul_comm,Et]
 rw[e];omega
theorem Ck {n:Nat} {k:Nat} (h:n<2^k):Bd k (n:Int):=by
 show (n:Int).natAbs<2^k;rw[Int.natAbs_natCast];exact h
theorem AY {n k:Nat} (h:Bd k (n:Int)):n<2^k:=by
 have h:(n:Int).natAbs<2^k:=h;rw[Int.natAbs_natCast] at h;exact h
theorem fS {n:Nat} (h:n<10^30):Bd 100 (n:Int):=Ck (ET h (by decide))
structure Am (p q:Nat) (ns:List Nat):Prop where
 pos:0<q
 low:FC p q=1
 bp:p<2^1900
 bq:q<2^1900
 ne:ns≠ []
 spl:Txt.split (Txt.replace (bH (cV p q)) (bH [43]) (bH [47])) (bH [47])=ns.map fun n=>bH (dg n)
 len:(cV p q).length<=2000
 rl:(Txt.replace (bH (cV p q)) (bH [43]) (bH [47])).length<=2000
 few:ns.length<=3
 bd:∀n∈ns,n<2^1900
 ok:(∀n∈ns,(dg n).length<=30)->Reads (cV p q) p q
 no:∀n∈ns,30<(dg n).length->∀p' q',¬Reads (cV p q) p' q'
theorem fB {c n:Nat} (h:c<48):c∉sL (bH (dg n)):=by rw[bx];exact fz h
theorem jd (w:Nat):cV w 1=dg w:=by
 unfold cV;rw[Nat.mod_one,if_pos rfl,Nat.div_one]
theorem gx {t b:Nat} (t0:t≠0) (lt:t<b):cV t b=dg t++47::dg b:=by
 unfold cV;rw[Nat.mod_eq_of_lt lt,if_neg t0,Nat.div_eq_of_lt lt,if_pos rfl]
theorem eW {w t b:Nat} (w0:w≠0) (t0:t≠0) (lt:t<b):cV (w*b+t) b=dg w++43::(dg t++47::dg b):=by
 have hd:(w*b+t)/b=w:=by
  rw[Nat.mul_comm,Nat.mul_add_div (by omega),Nat.div_eq_of_lt lt]
  rfl
 have hm:(w*b+t) % b=t:=by rw[Nat.mul_comm,Nat.mul_add_mod,Nat.mod_eq_of_lt lt]
 unfold cV;rw[hm,hd,if_neg t0,if_neg w0]
theorem qx (w:Nat) {t b:Nat} (g:FC b t=1):FC (w*b+t) b=1:=by
 rw[Nat.gcd_comm,Nat.gcd_rec];have hm:(w*b+t) % b=t % b:=by rw[Nat.mul_comm,Nat.mul_add_mod]
 rw[hm,<-Nat.gcd_rec];exact g
theorem CY {w:Nat} (h:w<2^1900):Am w 1 [w] where
 pos:=by decide
 low:=Nat.gcd_one_right _
 bp:=h
 bq:=by decide
 ne:=by simp
 spl:=by rw[jd,fR _ (fB (by decide)),pi (fB (by decide))];rfl
 len:=by rw[jd];have:=cu h;omega
 rl:=by rw[jd,fR _ (fB (by decide)),cr];have:=cu h;omega
 few:=by simp
 bd:=by intro n hn;simp at hn;rw[hn];exact h
 ok:=fun k=>⟨by decide,Nat.gcd_one_right _,⟨w,1,by rw[jd,lA,dS (k w (by simp))];rfl,rfl⟩,rfl⟩
 no:=fun n hn l p' q' r=>by
  have e:n=w:=by simpa using hn
  subst e;obtain ⟨a,b,e,_⟩:=r.ex;rw[jd,lA,eK l] at e;cases e
theorem AZ {t b:Nat} (t0:t≠0) (lt:t<b) (g:FC b t=1) (h:b<2^1900):Am t b [t,b] where
 pos:=by omega
 low:=by rw[Nat.gcd_comm];exact g
 bp:=ET lt h
 bq:=h
 ne:=by simp
 spl:=by
  rw[gx t0 lt,fR _ (by rw[bx];exact fP t b)]
  have e:bH (dg t++47::dg b)=Str.join (bH [47]) [bH (dg t),bH (dg b)]:=by
   show _=bH (dg t)++bH [47]++bH (dg b);rw[cH,cH,Es]
   rfl
  rw[e,eO (by simp)]
  ·rfl
  ·intro w hw;simp at hw;rcases hw with rfl|rfl
   ·exact fB (by decide)
   ·exact fB (by decide)
 len:=by
  rw[gx t0 lt,EG,EQ];have:=cu h;have:=cu (ET lt h);omega
 rl:=by
  rw[gx t0 lt,fR _ (by rw[bx];exact fP t b),cr,EG,EQ]
  have:=cu h;have:=cu (ET lt h);omega
 few:=by simp
 bd:=by
  intro n hn;simp at hn;rcases hn with rfl|rfl
  ·exact ET lt h
  ·exact h
 ok:=fun k=>⟨by omega,by rw[Nat.gcd_comm];exact g,⟨t,b,by rw[gx t0 lt,i9,qp (k t (by simp)) (k b (by simp)) (by omega)],rfl⟩,rfl⟩
 no:=fun n hn l p' q' r=>by
  obtain ⟨a,c,e,_⟩:=r.ex;rw[gx t0 lt,i9,eM (by
   simp at hn;rcases hn with rfl|rfl
   ·exact .inl l
   ·exact .inr l)] at e
  cases e
theorem yi {w t b:Nat} (w0:w≠0) (t0:t≠0) (lt:t<b) (g:FC b t=1) (h:b<2^1900) (hp:w*b+t<2^1900):Am (w*b+t) b [w,t,b] where
 pos:=by omega
 low:=qx w g
 bp:=hp
 bq:=h
 ne:=by simp
 spl:=by
  have e:bH (dg w++43::(dg t++47::dg b))=Str.join (bH [43]) [bH (dg w),bH (dg t++47::dg b)]:=by
   show _=bH (dg w)++bH [43]++bH (dg t++47::dg b);rw[cH,cH,Es]
   rfl
  rw[eW w0 t0 lt,e,lE _ (by simp)]
  ·have e2:Str.join (bH [47]) [bH (dg w),bH (dg t++47::dg b)]=Str.join (bH [47]) [bH (dg w),bH (dg t),bH (dg b)]:=by
    show bH (dg w)++bH [47]++bH (dg t++47::dg b)=bH (dg w)++bH [47]++(bH (dg t)++bH [47]++bH (dg b));simp only[cH];simp
   rw[e2,eO (by simp)]
   ·rfl
   ·intro x hx;simp at hx;rcases hx with rfl|rfl|rfl
    ·exact fB (by decide)
    ·exact fB (by decide)
    ·exact fB (by decide)
  ·intro x hx;simp at hx;rcases hx with rfl|rfl
   ·exact fB (by decide)
   ·rw[bx];exact fP t b
 len:=by
  rw[eW w0 t0 lt,EG,EQ,EG,EQ];have:=cu h;have:=cu (ET lt h);have hw:w<2^1900:=Ef (EV (Nat.le_mul_of_pos_right w (by omega)) (Nat.le_add_right _ t)) hp
  have:=cu hw;omega
 rl:=by
  have e:bH (dg w++43::(dg t++47::dg b))=Str.join (bH [43]) [bH (dg w),bH (dg t++47::dg b)]:=by
   show _=bH (dg w)++bH [43]++bH (dg t++47::dg b);rw[cH,cH,Es]
   rfl
  have hw:w<2^1900:=Ef (EV (Nat.le_mul_of_pos_right w (by omega)) (Nat.le_add_right _ t)) hp
  have:=cu h;have:=cu (ET lt h);have:=cu hw;rw[eW w0 t0 lt,e,lE _ (by simp)]
  ·show (bH (dg w)++bH [47]++bH (dg t++47::dg b)).length<=2000;rw[cH,cH,cr];simp;omega
  ·intro x hx;simp at hx;rcases hx with rfl|rfl
   ·exact fB (by decide)
   ·rw[bx];exact fP t b
 few:=by simp
 bd:=by
  intro n hn;simp at hn;have hw:w<2^1900:=Ef (EV (Nat.le_mul_of_pos_right w (by omega)) (Nat.le_add_right _ t)) hp
  rcases hn with rfl|rfl|rfl
  ·exact hw
  ·exact ET lt h
  ·exact h
 ok:=fun k=>⟨by omega,qx w g,⟨w*b+t*1,1*b,by rw[eW w0 t0 lt,im,dS (k w (by simp)),qp (k t (by simp)) (k b (by simp)) (by omega)];rfl,by rw[Nat.one_mul,Nat.mul_one]⟩,rfl⟩
 no:=fun n hn l p' q' r=>by
  obtain ⟨a,c,e,_⟩:=r.ex;rw[eW w0 t0 lt,im] at e;simp at hn;rcases hn with rfl|rfl|rfl
  ·rw[eK l] at e;cases e
  ·rw[eM (.inl l)] at e;cases z:df (dg w) with
   |none=>rw[z] at e;cases e
   |some=>rw[z] at e;cases e
  ·rw[eM (.inr l)] at e;cases z:df (dg w) with
   |none=>rw[z] at e;cases e
   |some=>rw[z] at e;cases e
theorem uc {x y:Int} (h:0<x) (h2:x<y) (h3:y<10^120):0<bA y x/\Bd 400 (bA y x)/\∃t b:Nat,x.fdiv (bA y x)=t/\y.fdiv (bA y x)=b/\t≠0/\t<b/\FC b t=1/\b<10^120:=by
 have g0:bA y x≠0:=fun z=>by have:=(eV z).2;omega
 have gp:0<bA y x:=by have:=k8 y x;omega
 have c:=tu g0;obtain ⟨k,hk⟩:=dP y x;obtain ⟨m,hm⟩:=dO y x;have e1:x.fdiv (bA y x)=k:=by
  rw[F9 _ (F8 gp)]
  conv=>lhs;arg 1;rw[hk]
  exact Fd k g0
 have e2:y.fdiv (bA y x)=m:=by
  rw[F9 _ (F8 gp)]
  conv=>lhs;arg 1;rw[hm]
  exact Fd m g0
 have kp:0<k:=Int.pos_of_mul_pos_right (by rw[<-hk];exact h) gp
 have km:k<m:=by
  have:bA y x*k<bA y x*m:=by rw[<-hk,<-hm];exact h2
  exact Int.lt_of_mul_lt_mul_left this (F8 gp)
 have my:m<=y:=by
  have h1:1*m<=bA y x*m:=FU (by omega) (by omega)
  rw[<-hm] at h1;omega
 have gy:bA y x<=y:=Int.le_of_dvd (by omega) (dO y x)
 refine ⟨gp,?_,k.toNat,m.toNat,by rw[e1];omega,by rw[e2];omega,by omega,by omega,?_,by omega⟩
 ·show (bA y x).natAbs<2^400;have:(10:Int)^120<=2^400:=by decide
  omega
 ·rw[e1,e2] at c;have:bA m k=((FC m.natAbs k.natAbs:Nat):Int):=rfl;rw[this] at c;have em:m.natAbs=m.toNat:=by omega
  have ek:k.natAbs=k.toNat:=by omega
  rw[em,ek] at c;omega
end Sw
namespace L2
open PySem PySem.Spec PyProof.Rows XH
end L2
namespace Sw
open PySem L2
end Sw
namespace L2
open PySem PySem.Spec PyProof.Rows XH
theorem ud {X:Cx} (hu:X.A.units<cLine):gb X (compareOp .Eq) (fun x y H Q=>∃a b zs,x= .ref a/\y= .ref b/\aH X.K H a zs/\aH X.K H b []/\Q (.bl zs.isEmpty) H):=by
 intro pins s σ H x y v u Q I rx ry h;obtain ⟨a,b,zs,rfl,rfl,h1,h2,hq⟩:=h;cases rx;cases ry;obtain ⟨i1,r1,p1,_⟩:=I.list h1;obtain ⟨i2,r2,p2,_⟩:=I.list h2;cases r2;cases zs with
 |nil=>
  cases r1;refine SeqAt.eq_listAt (e:=fun _=>true) p1.isList p2.isList rfl hu (fun j g1 g2=>absurd g1 (by simp)) ?_
  exact ⟨.bl true,H,I,by show Value.bool _=Value.bool _;simp,hq⟩
 |cons z zs=>
  cases r1 with
  |cons r rr=>
   refine SeqAt.eq_list_lengthsAt p1.isList p2.isList (by simp) hu ?_
   exact ⟨.bl false,H,I,rfl,hq⟩
end L2
namespace Sw
open PySem L2 PyProof.Rows
end Sw
namespace L2
open PySem PySem.Spec PyProof.Rows XH Sw So
end L2
namespace So
open PySem PySem.Spec PyProof.Rows
def v8 (x y:Str):Prop:=¬(y.cps.toList<x.cps.toList)
theorem rP {x y z:Str} (h1:v8 x y) (h2:v8 y z):v8 x z:=fun h=>by
 unfold v8 at h1 h2;exact h1 (List.lt_of_le_of_lt (List.not_lt.mp h2) h)
theorem ue {x y:Str} (h1:v8 x y) (h2:v8 y x):x=y:=by
 have e:=List.le_antisymm (List.not_lt.mp h1) (List.not_lt.mp h2);cases x;cases y
 congr 1
 exact Array.toList_inj.mp e
theorem ke:∀(r:Ip) (x:Str),risingS x r=true->(x::r).Pairwise v8
 | [],x,_=>by simp
 |y::r,x,h=>by
  unfold risingS at h;have h':ltCps y.cps.toList x.cps.toList=false/\risingS y r=true:=by
   simpa [Bool.and_eq_true] using h
  have ih:=ke r y h'.2;have xy:v8 x y:=by
   have:=h'.1;rw[ltCps_eq] at this;exact of_decide_eq_false this
  refine List.pairwise_cons.mpr ⟨fun z hz=>?_,ih⟩
  rcases E3.mp hz with e|e
  ·rw[e];exact xy
  ·exact rP xy ((List.pairwise_cons.mp ih).1 z e)
theorem kg {l:Ip} (h:sortedS l=true):l.Pairwise v8:=by
 cases l with
 |nil=>simp
 |cons x r=>exact ke r x h
theorem m4 {l m:Ip} (h1:sortedS l=true) (h2:sortedS m=true) (p:l.Perm m):l=m:=
 List.Perm.eq_of_pairwise (fun a b _ _ ha hb=>ue ha hb) (kg h1) (kg h2) p
section
variable {prog:Program} {w:World} {A:Around} {E:Ik} {s:Shared} {κ:KeyKind} {kd:SortKind}
theorem rQ (hO:Af prog w A E s κ kd) {a0:List Keyed} {st:SortSt} {Q:Unit->SortSt->Prop} (hk:kindOf st=kd) (hf:failedOf st=none) (hp:pendingOf st= #[]) (ha:(arrOf st).toList=a0) (k0:∀x∈a0,Kd κ x) (h64:a0.length<64)
  (h:∀st',(arrOf st').toList.Perm a0->failedOf st'=none->(arrOf st').toList.Pairwise (Lq κ)->Q () st'):wpS (model prog w) A E s sortRuns' Q st:=by
 have sz:(arrOf st).size=a0.length:=by rw[<-ha];simp
 have mr:minRun' a0.length a0.length 0=a0.length:=by
  cases n:a0.length with
  |zero=>rfl
  |succ m=>
   rw[n] at h64;rw[minRun'_succ,if_pos h64,Nat.add_zero]
 unfold sortRuns';refine ja ?_;refine wpS_bind (wpS_get ?_);dsimp only;rw[sz];change wpS _ _ _ _ (_>>=_) _ _;have mr':(sortPriv% PySem.Builtin.minRun) a0.length a0.length 0=a0.length:=mr;rw[mr'];refine wpS_bind (wpS_mono (wpS_forRange (I:=fun x c st'=>(x=0/\c=(none,0)/\st'=st)∨(c=(none,a0.length)/\(arrOf st').toList.Perm a0/\failedOf st'=none/\(arrOf st').toList.Pairwise (Lq κ)/\(pendingOf st').size<=1))
  (Q:=fun c st'=>∃lo,c=(none,lo)/\(arrOf st').toList.Perm a0/\failedOf st'=none/\(arrOf st').toList.Pairwise (Lq κ)/\(pendingOf st').size<=1) ?s1 ?e1 (.inl ⟨rfl,rfl,rfl⟩)) ?p1)
 case e1=>
  rintro c st' (⟨h0,rfl,rfl⟩|⟨rfl,z⟩)
  ·have z0:a0= []:=FV (by omega)
   refine ⟨_,rfl,by rw[ha],hf,by rw[ha,z0];exact List.Pairwise.nil,by rw[hp];decide⟩
  ·exact ⟨_,rfl,z⟩
 case p1=>
  rintro c st' ⟨lo,rfl,p1,p2,p3,p4⟩;try dsimp only
  refine wpS_bind (wpS_mono (wpS_forRange (I:=fun x c st''=>c=(none,())/\st''=st') (Q:=fun c st''=>c=(none,())/\st''=st') ?s4 (fun _ _ z=>z) ⟨rfl,rfl⟩) ?p4)
  case s4=>
   rintro x c st'' _ hx ⟨rfl,rfl⟩;refine wpS_bind (wpS_get ?_);rw[if_pos p4];exact wpS_pure ⟨rfl,rfl⟩
  case p4=>
   rintro c st'' ⟨rfl,rfl⟩;exact wpS_pure (h _ p1 p2 p3)
 case s1=>
  rintro x c st1 _ hx (⟨h0,rfl,rfl⟩|⟨rfl,z⟩)
  ·try dsimp only
   rw[if_neg (by omega)]
   have e0:(arrOf st1).toList= []++a0:=by simpa using ha
   refine wpS_bind (mS hO (P:= []) (R:=a0) hk k0 e0 (by omega) fun st3 X3 S3 kp3 e3 s3 p3 l3=>?_)
   try dsimp only
   have n3:X3.length+S3.length=a0.length:=by rw[<-EG];exact p3.length_eq
   have pe3:pendingOf st3= #[]:=kp3.pend.trans hp
   by_cases cm:X3.length<a0.length
   ·rw[if_pos cm];refine wpS_bind (mR (wpS_bind (rO hO (P:= []) (D:=X3++S3) (S:= []) (by rw[EG,n3];omega) (kp3.kind.trans hk) (fun x hx=>k0 x (p3.mem_iff.mp hx)) (by rw[List.append_nil];exact e3) l3 (by rw[EG];omega) (by rw[List.take_left];exact s3) fun st4 X4 kp4 e4 s4 p4=>?_)))
    simp only[Bool.not_true,Bool.false_eq_true,if_false];refine wpS_bind (wpS_get ?_);have pe4:pendingOf st4= #[]:=kp4.pend.trans pe3;have e4':(arrOf st4).toList=X4:=by simpa using e4
    split
    ·rename_i q;have q':(pendingOf st4).back?=some _:=q;rw[pe4] at q';cases q'
    ·refine wpS_bind (wpS_modify (wpS_pure (.inr ⟨?_,?_,?_,?_,?_⟩)))
     ·rw[Nat.zero_add,Nat.sub_zero,Nat.min_self]
     ·show (arrOf st4).toList.Perm a0;rw[e4'];exact p4.trans p3
     ·exact kp4.failed.trans (kp3.failed.trans hf)
     ·show (arrOf st4).toList.Pairwise (Lq κ);rw[e4'];exact s4
     ·show ((pendingOf st4).push _).size<=1;rw[pe4];exact EB 1
   ·rw[if_neg cm];refine wpS_bind (wpS_get ?_);have S0:S3= []:=FV (by omega)
    subst S0;have e3':(arrOf st3).toList=X3:=by simpa using e3
    split
    ·rename_i q;have q':(pendingOf st3).back?=some _:=q;rw[pe3] at q';cases q'
    ·refine wpS_bind (wpS_modify (wpS_pure (.inr ⟨?_,?_,?_,?_,?_⟩)))
     ·have:X3.length=a0.length:=by simpa using n3
      rw[Nat.zero_add,this]
     ·show (arrOf st3).toList.Perm a0;rw[e3']
      simpa using p3
     ·exact kp3.failed.trans hf
     ·show (arrOf st3).toList.Pairwise (Lq κ);rw[e3'];exact s3
     ·show ((pendingOf st3).push _).size<=1;rw[pe3];exact EB 1
  ·try dsimp only
   rw[if_pos (EB _)];exact wpS_pure ⟨_,rfl,z⟩
end
end So
namespace L2
open PySem PySem.Spec PyProof.Rows XH Sw So
def cv (nm:Addr->Option Str):PyProof.Rows.KeyKind:={PyProof.Rows.strKind with keyOf:=fun v=>match v with| .ref a=>(nm a).map fun y=>y.cps.toList|_=>none}
theorem qy {nm:Addr->Option Str} {v:Value} {k:List Nat} (h:(cv nm).keyOf v=some k):∃a y,v= .ref a/\nm a=some y/\k=y.cps.toList:=by
 cases v with
 |ref a=>
  cases e:nm a with
  |none=>
   have h':((nm a).map fun y=>y.cps.toList)=some k:=h
   rw[e] at h';cases h'
  |some y=>
   have h':((nm a).map fun y=>y.cps.toList)=some k:=h
   rw[e] at h';cases h';exact ⟨a,y,rfl,e,rfl⟩
 |_=>cases h
structure T3 (h:Heap) (a:Addr) (y:Str) (m k:Int):Prop where
 ex:∃(o:Obj) (n:Nat) (t t1 t2:Tok),h.get? a=some o/\o.cls= .type "tuple" /\o.data= .seq #[.str y t,.int m t1,.int k t2] n
section
variable {prog:Program} {w:World} {A:Around} {E:Ik} {s:Shared}
theorem v9 {nm:Addr->Option Str} (inj:∀a b y,nm a=some y->nm b=some y->a=b) (tup:∀a y,nm a=some y->∃m k,T3 s.heap a y m k):Af prog w A E s (cv nm) (tuples' true):=by
 intro st x y Q hk hx hy h;obtain ⟨ka,ha⟩:=hx;obtain ⟨kb,hb⟩:=hy;have e1:kk (cv nm) x=ka:=by unfold kk;rw[ha];rfl
 have e2:kk (cv nm) y=kb:=by unfold kk;rw[hb];rfl
 rw[e1,e2] at h;obtain ⟨a,na,xa,ea,rfl⟩:=qy ha;obtain ⟨b,nb,xb,eb,rfl⟩:=qy hb;obtain ⟨m1,k1,o1,n1,t1,t2,t3,g1,c1,d1⟩:=tup a na ea;obtain ⟨m2,k2,o2,n2,u1,u2,u3,g2,c2,d2⟩:=tup b nb eb;rw[lt'_eq];refine wpS_bind (wpS_get ?_);rw[hk,xa,xb];refine wpS_bind (wpS_lift (wpAny_attempt (PySem.W.kat_lt (b:=true) g1 d1 g2 d2 ?_)))
 by_cases hab:a=b
 ·subst hab;rw[g1] at g2;cases g2;rw[d1] at d2;cases d2;refine PySem.W.kat_cons (SeqAt.EqAt.same _ _ _ _ _ (PySem.W.kat_yes ?_));refine PySem.W.kat_cons (SeqAt.EqAt.same _ _ _ _ _ (PySem.W.kat_yes ?_));refine PySem.W.kat_cons (SeqAt.EqAt.same _ _ _ _ _ (PySem.W.kat_yes ?_));refine PySem.W.kat_nil ⟨rfl,?_⟩;rw[ea] at eb;cases eb;have z:(cv nm).blt na.cps.toList na.cps.toList=false:=(cv nm).irrefl _;rw[z] at h;exact wpS_pure h
 ·have ne:na≠nb:=fun z=>hab (inj a b na ea (z▸eb))
  refine PySem.W.kat_cons ?_;have q:=SeqAt.EqAt.str_str (A:=A) (s:=s) na t1 nb u1;rw[show (na==nb)=false from beq_eq_false_iff_ne.mpr ne] at q
  refine q _ _ _ _ (PySem.W.kat_no ?_);refine strKind_oneLt prog w A _ s (.str na t1) (.str nb u1) na.cps.toList nb.cps.toList rfl rfl ⟨rfl,?_⟩;exact wpS_pure h
theorem m7 {h:Heap}:∀{vs:Ir},(∀v∈vs,∃x y m k,v= .ref x/\T3 h x y m k)->∃fs:Ir,PySem.W.KatTups h vs fs/\fs.length=vs.length/\∀f∈fs,∃y t,f= .str y t
 | [],_=>⟨[],trivial,rfl,by simp⟩
 |v::vs,hv=>by
  obtain ⟨fs,k1,k2,k3⟩:=m7 (vs:=vs) fun u hu=>hv u (E6 _ hu)
  obtain ⟨x,y,m,k,rfl,o,n,t,t1,t2,g,c,d⟩:=hv v (by simp)
  refine ⟨.str y t::fs,⟨⟨x,o,_,n,rfl,g,c,d,rfl⟩,k1⟩,by simp[k2],fun f hf=>?_⟩
  rcases E3.mp hf with e|e
  ·exact ⟨y,t,e⟩
  ·exact k3 f e
theorem rR (M:Model) (h:Heap) (y:Str) (t:Tok):PySem.W.Looks M h (typeOf (.str y t)) (.type "str"):=PySem.W.Looks.of_pure rfl
theorem uf {a:Addr} {vs:Ir} {n:Nat} {P:Fin->Shared->Prop} {nm:Addr->Option Str} (ho:s.heap.get? a=some (seqObj "list" vs.toArray n)) (inj:∀a b y,nm a=some y->nm b=some y->a=b)
  (keys:∀v∈vs,∃x y,v= .ref x/\nm x=some y) (tup:∀x y,nm x=some y->∃m k,T3 s.heap x y m k) (nd:vs.Nodup) (hz:vs.length<=sizeLine) (h64:vs.length<64)
  (h:∀st':SortSt,(arrOf st').toList.Perm (pairsOf vs).toList->(arrOf st').toList.Pairwise (Lq (cv nm))->P (.done (.ret .none)) {s with heap:=sortedHeap s.heap a vs ((arrOf st').map (·.2))}):
  wpAny (model prog w) A (Builtin.«list.sort» ⟨[.ref a],[]⟩) P E s:=by
 rw[list_sort_plain];have ha:a<s.heap.objs.size:=Heap.lt_size ho;refine wpAny_bind (listItems_at ho rfl ?_);refine wpAny_bind (listUpdate_at ho rfl ?_);obtain ⟨e1,ho1⟩:∃e1,(s.heap.update a (Obj.mapSeq fun _=> #[])).get? a=some (seqObj "list" #[] e1):=⟨_,get?_update_seq ho (fun _=> #[])⟩
 refine wpAny_bind (seqEpoch_at ho1 rfl (wpAny_bind (wpAny_newTuple (wpAny_bind (wpAny_newList (wpAny_holding ?_))))));have ho6:(((s.heap.update a (Obj.mapSeq fun _=> #[])).push (seqObj "tuple" vs.toArray 0)).push (seqObj "list" #[] 0)).get? a=some (seqObj "list" #[] e1):=by
  rw[Heap.get?_push_ne _ _ _ (by rw[size_push',Heap.size_update];exact EU (Nat.lt_succ_of_lt ha)),Heap.get?_push_ne _ _ _ (by rw[Heap.size_update];exact EU ha)]
  exact ho1
 have old:∀{b:Addr} {o:Obj},b≠a->s.heap.get? b=some o->(((s.heap.update a (Obj.mapSeq fun _=> #[])).push (seqObj "tuple" vs.toArray 0)).push (seqObj "list" #[] 0)).get? b=some o:=fun {b o} hb e=>by
  have bl:=Heap.lt_size e;rw[Heap.get?_push_ne _ _ _ (by rw[size_push',Heap.size_update];exact EU (Nat.lt_succ_of_lt bl)),Heap.get?_push_ne _ _ _ (by rw[Heap.size_update];exact EU bl),Heap.get?_update_other _ _ (Ne.symm hb)]
  exact e
 show wpAny (model prog w) A _ P E {s with heap:=((s.heap.update a (Obj.mapSeq fun _=> #[])).push (seqObj "tuple" vs.toArray 0)).push (seqObj "list" #[] 0)}
 dsimp only;have tna:∀{x:Addr} {y:Str} {m k:Int},T3 s.heap x y m k->x≠a:=fun {x y m k} t z=>by
  obtain ⟨o,n',t1,t2,t3,g,c,d⟩:=t.ex;rw[z,ho] at g;cases g;have c':("list" :String)= "tuple" :=by injection c
  exact absurd c' (by decide)
 have fin:∀st':SortSt,(arrOf st').toList.Perm (pairsOf vs).toList->failedOf st'=none->(arrOf st').toList.Pairwise (Lq (cv nm))->P (.done (.ret .none)) {s with heap:=sortedHeap s.heap a vs ((arrOf st').map (·.2))}/\((arrOf st').map (·.2)).size<=sizeLine+1:=fun st' hp hf hs=>by
  refine ⟨h st' hp hs,?_⟩;have:=hp.length_eq;rw[Array.size_map];have e:(pairsOf vs).toList.length=vs.length:=by rw[pairsOf_toList];simp
  rw[e,FQ] at this;omega
 by_cases h2:vs.toArray.size<2
 ·rw[if_pos h2,if_pos h2];refine wpAny_bind (wpAny_pure ?_);have st0:=fin (SortSt.mk' general' (vs.toArray.zip vs.toArray) #[] 7 none) (List.Perm.refl _) rfl (by
   have:(pairsOf vs).toList.length<2:=by rw[pairsOf_toList];simp at h2⊢;exact h2
   match e:(pairsOf vs).toList,this with
   | [],_=>exact List.Pairwise.nil
   | [x],_=>exact List.pairwise_singleton _ _
   |_::_::_,l=>simp at l;omega)
  refine wpAny_bind (wpAny_pure ?_);dsimp only;refine wpAny_bind (seqEpoch_at ho6 rfl ?_);refine wpAny_bind (listUpdate_at ho6 rfl ?_ (hsz2:=st0.2));simp only[bne_self_eq_false,Bool.false_eq_true,if_false];exact wpAny_pure st0.1
 ·rw[if_neg h2,if_neg h2];have tup6:∀x y,nm x=some y->∃m k,T3 (((s.heap.update a (Obj.mapSeq fun _=> #[])).push (seqObj "tuple" vs.toArray 0)).push (seqObj "list" #[] 0)) x y m k:=fun x y hx=>by
   obtain ⟨m,k,t⟩:=tup x y hx;have na:=tna t;obtain ⟨o,n',t1,t2,t3,g,c,d⟩:=t.ex;exact ⟨m,k,o,n',t1,t2,t3,old na g,c,d⟩
  obtain ⟨fs,kt,kl,kf⟩:=m7 (h:=((s.heap.update a (Obj.mapSeq fun _=> #[])).push (seqObj "tuple" vs.toArray 0)).push (seqObj "list" #[] 0)) (vs:=vs) fun v hv=>by
   obtain ⟨x,y,rfl,hx⟩:=keys v hv;obtain ⟨m,k,t⟩:=tup6 x y hx;exact ⟨x,y,m,k,rfl,t⟩
  have l2:2<=vs.length:=by simpa using h2
  refine wpAny_bind (PySem.W.kat_kind (T:= .type "str") kt (by omega) (fun v hv=>by obtain ⟨y,t,rfl⟩:=kf v hv;exact rR _ _ _ _) rfl ?_)
  refine wpAny_bind (wpAny_mono (rQ (κ:=cv nm) (kd:=tuples' true) (v9 inj tup6) (a0:=(pairsOf vs).toList) (st:=SortSt.mk' (tuples' true) (vs.toArray.zip vs.toArray) #[] 7 none)
   (Q:=fun _ st'=>(arrOf st').toList.Perm (pairsOf vs).toList/\failedOf st'=none/\(arrOf st').toList.Pairwise (Lq (cv nm)))
   rfl rfl rfl rfl (fun x hx=>?_) (by rw[pairsOf_toList];simpa using h64) fun st' pr fl sr=>⟨pr,fl,sr⟩) ?_ fun _ _ e=>e)
  ·rw[pairsOf_toList] at hx;have hm:x.1∈vs:=(List.of_mem_zip hx).1;obtain ⟨z,y,e,hy⟩:=keys _ hm;refine ⟨y.cps.toList,?_⟩;rw[e];show ((nm z).map fun y=>y.cps.toList)=_
   rw[hy]
   rfl
  rintro ⟨⟨⟩,st'⟩ s' ⟨rfl,hp,hf,hs⟩;have f:=fin st' hp hf hs;dsimp only;refine wpAny_bind (seqEpoch_at ho6 rfl ?_);refine wpAny_bind (listUpdate_at ho6 rfl ?_ (hsz2:=f.2));rw[hf];simp only[bne_self_eq_false,Bool.false_eq_true,if_false];exact wpAny_pure f.1
end
theorem qz:∀{as:Iq} {us:Ir},a9 (as.map V.ref) us->us=as.map Value.ref
 | [],_,h=>by cases h;rfl
 |a::as,_,h=>by
  cases h with
  |cons r rr=>
   have e:=qz rr;subst e;cases r
   rfl
theorem kh:∀(as:Iq),a9 (as.map V.ref) (as.map Value.ref)
 | []=> .nil
 |_::as=> .cons rfl (kh as)
theorem vals3 {x y z:V} {us:Ir} (h:a9 [x,y,z] us):∃a b c,us= [a,b,c]/\RelV x a/\RelV y b/\RelV z c:=by
 cases h with
 |cons r1 h=>
  cases h with
  |cons r2 h=>
   cases h with
   |cons r3 h=>
    cases h;exact ⟨_,_,_,rfl,r1,r2,r3⟩
theorem rS {α β:Type} {g:α->β} {k:β->α} (hk:∀a,k (g a)=a) {l:List β} {as:List α} (h:l.Perm (as.map g)):∃bs:List α,bs.Perm as/\l=bs.map g:=by
 refine ⟨l.map k,?_,?_⟩
 ·have:=h.map k;rw[FY] at this;have e:as.map (k ∘ g)=as:=by
   conv=>rhs;rw[<-List.map_id as]
   exact FR fun a _=>hk a
  rw[e] at this;exact this
 ·rw[FY]
  conv=>lhs;rw[<-List.map_id l]
  refine FR fun x hx=>?_
  obtain ⟨a,_,rfl⟩:=EO.mp (h.mem_iff.mp hx);show g a=g (k (g a));rw[hk]
theorem nh {α β:Type} (g:α->β):∀as:List α,(as.map g).zip (as.map g)=as.map fun a=>(g a,g a)
 | []=>rfl
 |a::as=>by
  have:=nh g as;simp[this]
theorem nj {prog:Program} {w:World} {A:Around} {E:Ik} {s:Shared} {r:Addr} {its:Ir} {n:Nat} {R:Ir->Shared->Prop} (hr:s.heap.get? r=some (seqObj "list" its.toArray n)) (hn:its.length<=sizeLine)
  (h:∀h':Heap,s.heap.objs.size<h'.objs.size->(∀b o,s.heap.get? b=some o->h'.get? b=some o)->R its {s with heap:=h'}):wpAny (model prog w) A (collect (.ref r)) R E s:=by
 unfold collect;refine wpAny_bind (wpAny_runValue (codeAny_builtin entry_proto_collect' ?_));rw[Around.under_plainId PySem.F.plain_proto_collect _];show wpAny _ A.in1 (newList []>>=fun l=>again (.builtin "list.__iadd__" ⟨[l,.ref r],[]⟩)) _ _ s
 refine wpAny_bind (wpAny_newObj_type (wpAny_pure ⟨plainId_quiet PySem.F.plain_list_iadd _,codeAny_builtin entry_list_iadd' ?_⟩));rw[Around.under_plainId PySem.F.plain_list_iadd _];have fresh:(s.heap.push {cls:= .type "list",data:= .seq ([]:Ir).toArray}).get? s.heap.objs.size=some {cls:= .type "list",data:= .seq #[]}:=Heap.get?_push_size _ rfl;show wpAny _ A.in1 (Builtin.List.listExtendWith (.ref s.heap.objs.size) (.ref r) (.ref s.heap.objs.size)) _ _ _;have key:=wpAny_extend_seq (A:=A) (s:={s with heap:=s.heap.push {cls:= .type "list",data:= .seq ([]:Ir).toArray}}) (prog:=prog) (w:=w)
  (R:=fun (q:Result) (s':Shared)=>q= .ok (.ret (.ref s.heap.objs.size))/\s'={s with heap:=(s.heap.push {cls:= .type "list",data:= .seq ([]:Ir).toArray}).update s.heap.objs.size (Obj.mapSeq (· ++its.toArray))})
  s.heap.objs.size r (.ref s.heap.objs.size) 0 (.inl rfl) fresh (Heap.get?_push_of_some _ hr) rfl rfl ⟨rfl,rfl⟩ (by simpa using hn)
 have at_:=Heap.get?_update_self (Obj.mapSeq (· ++its.toArray)) fresh rfl;have fin:R its {s with heap:=(s.heap.push {cls:= .type "list",data:= .seq ([]:Ir).toArray}).update s.heap.objs.size (Obj.mapSeq (· ++its.toArray))}:=by
  refine h _ (by rw[Heap.size_update,Heap.size_push];exact Nat.lt_succ_self _) fun b o e=>?_
  exact (Heap.get?_update_other _ _ (FK (Heap.lt_size e))).trans (Heap.get?_push_of_some _ e)
 have ei:((#[]:Array Value)++its.toArray).toList=its:=by simp
 have fin':R ((#[]:Array Value)++its.toArray).toList {s with heap:=(s.heap.push {cls:= .type "list",data:= .seq ([]:Ir).toArray}).update s.heap.objs.size (Obj.mapSeq (· ++its.toArray))}:=by rw[ei];exact fin
 refine wpAny_mono key (fun f s' x=>?_) fun e s' x=>?_
 ·cases f with
  |done f=>
   obtain ⟨e,rfl⟩:=x;cases e;show wpAny _ A (load s.heap.objs.size>>=_) _ _ _;exact wpAny_bind (wpAny_load at_ (wpAny_pure fin'))
  |again c₁=>
   refine ⟨x.1,codeAny_mono x.2 fun q s₂ y=>?_⟩
   obtain ⟨rfl,rfl⟩:=y;show wpAny _ A (load s.heap.objs.size>>=_) _ _ _;exact wpAny_bind (wpAny_load at_ (wpAny_pure fin'))
 ·exact absurd x.1 (by simp)
theorem je {X:Cx}:dG X (.builtin "sorted") (fun xs H Q=>∃(l:Addr) (as:Iq) (f:Addr->Str),xs= [.ref l]/\H l=some (.lst (as.map V.ref))/\(∀a∈as,∃m k:Int,H a=some (.tup [.str (f a),.int m,.int k]))/\(as.map f).Nodup/\as.length<64/\
  ∀(p:Addr) (bs:Iq),H p=none->bs.Perm as->sortedS (bs.map f)=true->Q (.ref p) (aS H p (.lst (bs.map V.ref)))):=by
 intro pins s σ H xs us Q I r h;obtain ⟨l,as,f,rfl,hl,ht,nd,h64,q⟩:=h;obtain ⟨u,rfl,ru⟩:=vals1 r;cases ru;obtain ⟨z,its,n,rv,hlen,hg⟩:=I.lstM hl;have ei:=qz rv;subst ei;have z':as.length<=sizeLine:=by simpa using z
 refine Calls.call_function_entry kind_sorted plain_sorted entry_sorted (args_sorted1 _) ?_;unfold Builtin.«sorted»;refine wpAny_bind (m:=checkCount "sorted" 1 1 _) (wpAny_pure ?_);refine wpAny_bind (nj hg (by simpa using z') fun h' hlt hk=>?_)
 refine wpAny_bind (wpAny_newList ?_ (by simpa using z'))
 have hoL:(h'.push (seqObj "list" (as.map Value.ref).toArray 0)).get? h'.objs.size=some (seqObj "list" (as.map Value.ref).toArray 0):=Heap.get?_push_size _ rfl;have injf:∀a∈as,∀b∈as,f a=f b->a=b:=fun a ha b hb e=>by
  obtain ⟨i,hi⟩:=ED.mp ha;obtain ⟨j,hj⟩:=ED.mp hb;have il:=(E8.mp hi).1;have jl:=(E8.mp hj).1;have e1:(as.map f)[i]?=some (f a):=by rw[E7,hi];rfl
  have e2:(as.map f)[j]?=some (f a):=by rw[E7,hj,e];rfl
  have ij:=(List.getElem?_inj (by rw[E5];exact il) nd).mp (e1.trans e2.symm)
  rw[ij,hj] at hi;exact (EL hi).symm
 have nda:as.Nodup:=(FE.mp nd).imp fun h e=>h (by rw[e])
 have ndv:(as.map Value.ref).Nodup:=FE.mpr (nda.imp fun h e=>h (by injection e))
 let nm:Addr->Option Str:=fun a=>if a∈as then some (f a) else none
 have nm_of:∀{a:Addr} {y:Str},nm a=some y->a∈as/\f a=y:=fun {a y} e=>by
  by_cases m:a∈as
  ·have e':(if a∈as then some (f a) else none)=some y:=e
   rw[if_pos m] at e';exact ⟨m,EL e'⟩
  ·have e':(if a∈as then some (f a) else none)=some y:=e
   rw[if_neg m] at e';cases e'
 have nm_in:∀{a:Addr},a∈as->nm a=some (f a):=fun {a} m=>by
  show (if a∈as then some (f a) else none)=_
  rw[if_pos m]
 have inj:∀a b y,nm a=some y->nm b=some y->a=b:=fun a b y h1 h2=>injf a (nm_of h1).1 b (nm_of h2).1 ((nm_of h1).2.trans (nm_of h2).2.symm)
 have tup:∀x y,nm x=some y->∃m k,T3 (h'.push (seqObj "list" (as.map Value.ref).toArray 0)) x y m k:=fun x y hx=>by
  obtain ⟨m,k,e⟩:=ht x (nm_of hx).1;rw[(nm_of hx).2] at e;obtain ⟨its,rv,⟨o,e1,c1,n1,d1⟩,_⟩:=I.tuple (bZ.of e);obtain ⟨a1,a2,a3,rfl,⟨t1,rfl⟩,⟨t2,rfl⟩,⟨t3,rfl⟩⟩:=vals3 rv;exact ⟨m,k,o,n1,t1,t2,t3,Heap.get?_push_of_some _ (hk _ _ e1),c1,d1⟩
 refine wpAny_bind (wpAny_holding (wpAny_call_entry slot_list_sort ⟨_,hoL,rfl⟩ entry_list_sort (uf (nm:=nm) hoL inj (fun v hv=>?_) tup ndv (by simpa using z') (by simpa using h64) fun st' hp hs=>⟨_,rfl,?_⟩) (args_list_sort _)))
 ·obtain ⟨a,ha,rfl⟩:=EO.mp hv;exact ⟨a,f a,rfl,nm_in ha⟩
 have ez:(pairsOf (as.map Value.ref)).toList=as.map (fun a=>((.ref a:Value),(.ref a:Value))):=by
  rw[pairsOf_toList];exact nh Value.ref as
 rw[ez] at hp;obtain ⟨bs,hb,eb⟩:=rS (k:=fun p:Keyed=>match p.1 with| .ref a=>a|_=>0) (fun a=>rfl) hp
 have so:sortedS (bs.map f)=true:=by
  refine sortedS_of_pairwise _ (FE.mpr ?_);rw[eb,FE] at hs;refine List.Pairwise.imp_of_mem (fun {a b} ha hb' hab=>?_) hs
  have ma:=hb.mem_iff.mp ha;have mb:=hb.mem_iff.mp hb';have k1:kk (cv nm) ((.ref a:Value),(.ref a:Value))=(f a).cps.toList:=by
   show (((nm a).map fun y=>y.cps.toList).getD _)=_
   rw[nm_in ma]
   rfl
  have k2:kk (cv nm) ((.ref b:Value),(.ref b:Value))=(f b).cps.toList:=by
   show (((nm b).map fun y=>y.cps.toList).getD _)=_
   rw[nm_in mb]
   rfl
  have hab':(cv nm).blt (kk (cv nm) ((.ref b:Value),(.ref b:Value))) (kk (cv nm) ((.ref a:Value),(.ref a:Value)))=false:=hab;rw[k1,k2] at hab';rw[ltCps_eq];exact hab'
 have eo:((arrOf st').map (·.2))=(bs.map Value.ref).toArray:=by
  apply Array.toList_inj.mp;rw[Array.toList_map,eb,FY];simp
 have sl:s.heap.objs.size<=h'.objs.size:=Nat.le_of_lt hlt;refine wpAny_pure ⟨_,rfl,.ref h'.objs.size,_,I.laid (a:=h'.objs.size) (o:= .lst (bs.map V.ref)) (h':=sortedHeap (h'.push (seqObj "list" (as.map Value.ref).toArray 0)) h'.objs.size (as.map Value.ref) ((arrOf st').map (·.2))) (t':=s.toks) (fun b o eo=>?_) sl ?_,rfl,q _ bs (I.hok.fresh sl) hb so⟩
 ·have eo':=hk b o eo;have bl:=Heap.lt_size eo';rw[sortedHeap_old (EU bl) (by rw[size_push'];exact Nat.lt_succ_of_lt bl)]
  exact Heap.get?_push_of_some _ eo'
 ·obtain ⟨e,he⟩:=sortedHeap_at (out:=(arrOf st').map (·.2)) hoL;refine ⟨by rw[E5,hb.length_eq];exact z',bs.map Value.ref,e,kh bs,?_⟩
  rw[<-eo];exact he
end L2
namespace Hm
open PySem PySem.SeqAt PySem.MeetsSeq
end Hm
namespace L2
open PySem PySem.Spec PyProof.Rows XH Sw So Hm
variable {X:Cx}
theorem ny:∀{ws:Ip} {us:Ir},a9 (ws.map V.str) us->StrsAre us ws
 | [],_,h=>by cases h;exact .nil
 |w::ws,_,h=>by
  cases h with
  |cons r rr=>
   obtain ⟨t,rfl⟩:=r;exact .cons _ _ (ny rr)
theorem qA:Cg X "str.join" (fun x vs H Q=>∃z a ws,x= .str z/\vs= [.ref a]/\aH X.K H a (ws.map V.str)/\z.length<=16/\(ws.map (fun x=>x.length)).sum+ws.length<=1048576/\Q (.str (Txt.join z ws)) H):=by
 intro pins s σ H x vs v us Q I rx rv h;obtain ⟨z,a,ws,rfl,rfl,hS,hz,hl,q⟩:=h;obtain ⟨t,rfl⟩:=rx;obtain ⟨u,rfl,ru⟩:=vals1 rv;cases ru;obtain ⟨its,r,p,_⟩:=I.list hS;exact join_listW p.isList (by simpa using ny r) hz hl fun t' k=>⟨.str _,H,I.tok _,⟨_,rfl⟩,q⟩
theorem nA {K:D9} {a:Addr} {xs:List V} {js:List Nat} {te:TE} {σ:L2.St} {H1:Hp} {Q:VK} (P:V->V->Prop) (hS:aH K H1 a xs) (hz:xs.length<=sizeLine)
  (step:∀x∈xs,∀H3,aJ H1 H3->∀Q':VK,(∀y H4,P x y->aJ H3 H4->Q' y H4)->te (some x::cF js σ) H3 Q')
  (fin:∀(p:Addr) (ys:List V) (H':Hp),H1 p=none->ys.length=xs.length->(∀(i:Nat) (x y:V),xs[i]?=some x->ys[i]?=some y->P x y)->aJ H1 H'->H' p=some (.lst ys)->Q (.ref p) H'):mJ js te σ Q (xN K a) H1:=by
 intro p hp;refine ⟨fun i m ys H2=>i<=xs.length/\m=xs.length-i/\ys.length=i/\(∀(i:Nat) (x y:V),xs[i]?=some x->ys[i]?=some y->P x y)/\aJ H1 H2/\H2 p=some (.lst ys),⟨xs.length,F0 _,rfl,rfl,fun j x y _ e=>by simp at e,Sw.aj hp _,af⟩,?_⟩
 rintro i m ys H2 ⟨hi,rfl,hl,hP,g,e⟩;refine ⟨e,?_⟩;have S2:=g.seq hS
 by_cases hin:i<xs.length
 ·refine .inr ⟨⟨xs,xs[i],S2,E1 hin⟩,by omega,fun x H3 hy=>?_⟩
  obtain ⟨rfl,hx⟩:=hy;have ex:=hx xs S2;refine step x (E4 ex) H3 g _ fun y H4 py g4=>⟨g4 _ _ e,xs.length-(i+1),by omega,hin,rfl,by simp[hl],fun j x' y' e1 e2=>?_,Sw.oU (g.trans g4) hp _,af⟩
  by_cases hj:j<ys.length
  ·rw[EF hj] at e2;exact hP j x' y' e1 e2
  ·have ej:j=i:=by
    have:=(E8.mp e2).1;simp at this;omega
   subst ej;rw[EA (by omega),hl] at e2
   simp at e2;subst e2;rw[ex] at e1;cases e1;exact py
 ·have e2:i=xs.length:=by omega
  subst e2;exact .inl ⟨⟨xs,S2,EB _⟩,fin p ys H2 hp hl hP g e⟩
end L2
namespace Sw
open PySem L2 XH PySem.NumText
theorem jf (sep:Str) (ws:Ip):(Txt.join sep ws).length=(ws.map (fun x=>x.length)).sum+(ws.length-1)*sep.length:=PySem.size_glued sep ws
def qB:Sp:=fun vs H Q _=>∃z:Str,vs= [.str z]/\z.length<=1000/\(Str.empty∈Txt.split z (bH [32])->∀H',aJ H H'->Q .non H')/\(Str.empty∉Txt.split z (bH [32])->∀(l:Addr) (H':Hp),aJ H H'->H' l=some (.lst ((Txt.split z (bH [32])).map V.str))->Q (.ref l) H')
def jg:Sp:=fun vs H Q _=>∃c m:Int,vs= [.int c,.int m]/\0<=m/\m<=50/\∀(l:Addr) (H':Hp) (xs:List Int),aJ H H'->H' l=some (.lst (xs.map V.int))->(xs.length:Int)=m->(∀x∈xs,0<=x/\x<2^31)->Q (.ref l) H'
def qC:Sp:=fun vs H Q _=>∃(z:Str) (lo hi:Int),vs= [.str z,.int lo,.int hi]/\z.length<=1000000/\(df (sL z)=none->Q .non H)/\∀n:Nat,df (sL z)=some n->Q (if (n:Int)<lo∨hi<(n:Int) then .non else .int n) H
theorem wc (x:Str) (gs:Ip):Ad (.str x) (gs.map V.str)=decide (x∈gs):=by
 unfold Ad;rw[Bool.eq_iff_iff];simp[vJ]
theorem ko (gs:Ip):(gs.map V.str).all gG=true:=by
 rw[FZ];intro x hx;obtain ⟨g,_,rfl⟩:=EO.mp hx
 rfl
theorem Ag {x:Str} {gs:Ip} {A B:Prop} (h1:x∈gs->A) (h2:x∉gs->B):if (if false=true then !Ad (.str x) (gs.map V.str) else Ad (.str x) (gs.map V.str))=true then A else B:=by
 rw[if_neg (by decide:¬false=true),wc]
 exact d2 h1 h2
theorem DY {xs:List V} {n:Nat} (h:xs.length=n+1):vH xs.length (-1)=some n:=by
 unfold vH;rw[h]
 first
  |(rw[if_neg (by decide),if_pos (by omega)];congr 1;omega)
  |(simp;omega)
theorem atT {xs:List V} {v:V} (h:xs.getLast?=some v):ig xs (-1)=some v:=by
 rw[List.getLast?_eq_getElem?] at h;have l:=(E8.mp h).1;unfold ig;rw[DY (n:=xs.length-1) (by omega)]
 exact h
theorem ug {xs:List V} (h:1<=xs.length):dy xs (some 1) none=xs.drop 1:=by
 have e1:HT.cZ xs.length 0 (some 1)=1:=by
  unfold HT.cZ;simp;omega
 have e2:HT.cZ xs.length xs.length none=xs.length:=rfl;unfold dy;rw[e1,e2,FJ (by rw[Eo];omega)]
structure Cl (X:Cx) (es:List Expr) (t:TA):Prop where
 h:PA X es t
theorem we {X:Cx}:Cl X [] vF:=⟨ae⟩
theorem cU {X:Cx} {z:Str} {p:Pos} {j} {es:List Expr} {t:TA} (h:Cl X es t):Cl X (.Constant (.str z) j p::es) (jO (tC (.str z)) t):=⟨aa aE h.h⟩
structure A0 (X:Cx) (b:List Stmt) (t:TS):Prop where
 h:iV X b t
theorem uh {X:Cx} {es:List Expr} {t:TA} {pos pos' p2:Pos} {i:Nat} {x:Str} {rest:List Stmt} {u:TS} (hN:X.N.Nodup) (hi:X.N[i]?=some x) (hx:Loc X.env.scope x) (h:Cl X es t) (hr:iV X rest u)
  (hs:swapsWith (.List es pos) (some (.Name x pos')) p2.line X.env=pure false:=by rfl) (hf:X.fn x=true∨X.env.scope.names.lookup x=some .local:=by first|exact .inl rfl|exact .inr rfl|assumption):
  A0 X (.Assign [.Name x pos'] (.List es pos) p2::rest) (ou (sP (AA t) (aX i)) u):=⟨ad (fk hN hi hx (bi h.h) hs hf) hr⟩
theorem yj {X:Cx} {c:Expr} {a b:List Stmt} {tc:TT} {t u:TS} {pos:Pos} (hc:PT X c tc) (ha:A0 X a t) (hb:iV X b u):PS X (.If c a b pos) (Ao tc t u):=aL hc ha.h hb
end Sw
namespace L2
open PySem PySem.Spec PyProof.Rows XH Sw So Hm
theorem ui {X:Cx} (hu:X.A.units<cLine):gb X (compareOp .NotEq) (fun x y H Q=>∃a b zs,x= .ref a/\y= .ref b/\aH X.K H a zs/\aH X.K H b []/\Q (.bl (!zs.isEmpty)) H):=by
 intro pins s σ H x y v u Q I rx ry h;obtain ⟨a,b,zs,rfl,rfl,h1,h2,hq⟩:=h;cases rx;cases ry;obtain ⟨i1,r1,p1,_⟩:=I.list h1;obtain ⟨i2,r2,p2,_⟩:=I.list h2;cases r2;cases zs with
 |nil=>
  cases r1;refine SeqAt.RcNeAt.lists (e:=fun _=>true) p1.isList p2.isList rfl hu (fun j g1 g2=>absurd g1 (by simp)) _ _ _ _ ?_
  exact ⟨.bl false,H,I,by show Value.bool _=Value.bool _;simp,hq⟩
 |cons z zs=>
  cases r1 with
  |cons r rr=>
   refine SeqAt.RcNeAt.lists_lengths p1.isList p2.isList (by simp) hu _ _ _ _ ?_
   exact ⟨.bl true,H,I,rfl,hq⟩
theorem uj {xs:List V} {c:Nat} (h:c<=xs.length):dy xs none (some (c:Int))=xs.take c:=by
 have e1:HT.cZ xs.length 0 none=0:=rfl;have e2:HT.cZ xs.length xs.length (some (c:Int))=c:=by
  show (if (c:Int)<0 then ((c:Int)+(xs.length:Int)).toNat else min (c:Int).toNat xs.length)=c
  rw[if_neg (by omega)]
  omega
 unfold dy;rw[e1,e2,List.drop_zero,Nat.sub_zero]
theorem uk {xs:List V} {c:Nat} (h:c<=xs.length):dy xs (some (c:Int)) none=xs.drop c:=by
 have e1:HT.cZ xs.length 0 (some (c:Int))=c:=by
  show (if (c:Int)<0 then ((c:Int)+(xs.length:Int)).toNat else min (c:Int).toNat xs.length)=c
  rw[if_neg (by omega)]
  omega
 have e2:HT.cZ xs.length xs.length none=xs.length:=rfl;unfold dy;rw[e1,e2,FJ (by rw[Eo];omega)]
end L2
namespace Sw
open PySem L2 XH Hm
end Sw
namespace L2
open PySem PySem.Spec PyProof.Rows XH Sw Hm
end L2
namespace Sw
open PySem L2 XH Hm
end Sw
namespace L2
open PySem PySem.Spec PyProof.Rows XH
theorem qD {X:Cx} {K:D9} (h:X.K=K):AC X (AD K):=by
 subst h;exact aT
end L2
namespace Sw
open PySem L2 XH Hm
end Sw
namespace L2
open PySem PySem.Spec PyProof.Rows XH
end L2
namespace Sw
open PySem L2 XH
end Sw
namespace L2
open PySem PySem.Spec PyProof.Rows XH
end L2
namespace Sw
open PySem L2 XH
end Sw
namespace L2
open PySem PySem.Spec PyProof.Rows
end L2
namespace Sw
open PySem L2 XH
theorem um {p q n:Int} (f:Fr p q n 1):p=n/\q=1:=by
 have h2:=f.bb;have h3:=f.pos;have h4:=f.same;simp only[Int.natAbs_one] at h2;have e:q=1:=by omega
 subst e;rw[Int.mul_one,Int.mul_one] at h4;exact ⟨h4,rfl⟩
end Sw
namespace L2
open PySem PySem.Spec PyProof.Rows
end L2
namespace Sw
open PySem L2 XH
def gd (nm l m u s:V):List (Str×V):=aO "second" s (aO "uses" u (aO "most" m (aO "least" l (aO "name" nm []))))
def warmF (nm l m u s f:V):List (Str×V):=aO "fill" f (gd nm l m u s)
theorem uo {nm l m u s:V} {g:Str} (h:g≠ "second" /\g≠ "uses" /\g≠ "most" /\g≠ "least" /\g≠ "name"):(gd nm l m u s).lookup g=none:=by
 unfold gd;rw[bC,if_neg h.1,bC,if_neg h.2.1,bC,if_neg h.2.2.1,bC,if_neg h.2.2.2.1,bC,if_neg h.2.2.2.2]
 rfl
theorem pp {nm l m u s f:V}:(warmF nm l m u s f).lookup ("fill" :Str)=some f:=by
 unfold warmF;rw[bC,if_pos rfl]
theorem fT {nm l m u s:V}:(gd nm l m u s).length<=5:=by
 unfold gd;have h1:=aW "name" nm [];have h2:=aW "least" l (aO "name" nm []);have h3:=aW "most" m (aO "least" l (aO "name" nm []));have h4:=aW "uses" u (aO "most" m (aO "least" l (aO "name" nm [])));have h5:=aW "second" s (aO "uses" u (aO "most" m (aO "least" l (aO "name" nm []))));simp at h1;omega
def Kept (H H':Hp) (a:Addr):Prop:=∀b o,H b=some o->b≠a->H' b=some o
theorem Kept.refl (H:Hp) (a:Addr):Kept H H a:=fun _ _ h _=>h
theorem Kept.put {H H':Hp} {a:Addr} (k:Kept H H' a) (o:HO):Kept H (aS H' a o) a:=fun b u h n=>by rw[az n];exact k b u h n
theorem Kept.new {H H':Hp} {a p:Addr} (k:Kept H H' a) (hp:H' p=none) (o:HO):Kept H (aS H' p o) a:=fun b u h n=>by
 have e:=k b u h n;rw[az (aM e hp)];exact e
theorem fU {H H':Hp} {x dx C:Addr} (nx:H x=none) (nd:H dx=none) (k:Kept (aS (aS H dx (.own x)) x (.ins C dx [])) H' x):aJ H H':=fun b o h=>by
 have n1:=aM h nx;exact k b o (by rw[az n1,az (aM h nd)];exact h) n1
structure iC (K:D9) (C:Addr):Prop where
 cl:iY K C
 name:aG K C "name"
 least:aG K C "least"
 most:aG K C "most"
 uses:aG K C "uses"
 second:aG K C "second"
structure CZ (n p q fp fq sp sq:Int):Prop where
 lo:p*fp*sq<=n*(sp*q*fq)
 hi:(n-1)*(sp*q*fq)<p*fp*sq
 bd:Bd 2000 n
theorem yk {p q fp fq sp sq r s u v:Int} (hq:0<q) (hfq:0<fq) (hsp:0<sp) (f1:Fr r s (p*fp) (q*fq)) (f2:Fr u v (r*sq) (s*sp)) (b:Bd 2000 u):CZ (-((-u).fdiv v)) p q fp fq sp sq:=by
 have c1:=f1.same;have c2:=f2.same;have key:u*(sp*q*fq)=p*fp*sq*v:=by
  refine tG (k:=s) ?_ (by have:=f1.pos;omega)
  calc u*(sp*q*fq)*s=(u*(s*sp))*(q*fq):=by ac_rfl
   _=(r*sq*v)*(q*fq):=by rw[c2]
   _=(r*(q*fq))*(sq*v):=by ac_rfl
   _=(p*fp*s)*(sq*v):=by rw[c1]
   _=p*fp*sq*v*s:=by ac_rfl
 have ub:=jY (p:=u) f2.pos;have hpos:0<sp*q*fq:=Int.mul_pos (Int.mul_pos hsp hq) hfq;have bn:Bd 2000 (-((-u).fdiv v)):=(qf b.neg).neg;generalize-((-u).fdiv v)=n at ub bn⊢;have vp:=f2.pos;refine ⟨Int.le_of_mul_le_mul_right (a:=v) ?_ vp,Int.lt_of_mul_lt_mul_right (a:=v) ?_ (F8 vp),bn⟩
 ·rw[<-key];have:=FU ub.1 (F8 hpos);rw[show n*(sp*q*fq)*v=n*v*(sp*q*fq) by ac_rfl]
  exact this
 ·rw[<-key];have:=Int.mul_lt_mul_of_pos_right ub.2 hpos;rw[show (n-1)*(sp*q*fq)*v=(n-1)*v*(sp*q*fq) by ac_rfl]
  exact this
def nB (K:D9):Sp:=fun vs H Q _=>∃(a C dx t tf ts:Addr) (fs:List (Str×V)) (p q fp fq sp sq:Int),vs= [.ref a,.ref tf,.ref ts]/\H a=some (.ins C dx fs)/\iY K C/\aG K C "fill" /\fs.lookup ("fill" :Str)=some (.ref t)/\
 cQ K 201 H t p q/\cQ K 201 H tf fp fq/\cQ K 201 H ts sp sq/\0<sp/\∀(n:Int) (H':Hp),aJ H H'->CZ n p q fp fq sp sq->Q (.int n) H'
def jh:Sp:=fun vs H Q _=>∃a b c:V,vs= [a,b,c]/\Q (.int 1) H
def uq:Sp:=fun vs H Q _=>∃a b:Int,vs= [.int a,.int b]/\0<=a/\0<=b/\Q (.int (bA a b)) H
end Sw
namespace L2
open PySem PySem.Spec PyProof.Rows XH
def gz (R:V->V->Prop):List V->List V->Prop
 | [],[]=>True
 |x::xs,y::ys=>R x y/\gz R xs ys
 |_,_=>False
theorem gz.len {R:V->V->Prop}:∀{xs ys:List V},gz R xs ys->xs.length=ys.length
 | [],[],_=>rfl
 |_::_,_::_,h=>by simp[gz.len h.2]
 | [],_::_,h=>h.elim
 |_::_,[],h=>h.elim
def rT (K:D9) (H:Hp):Nat->V->V->Prop
 |0,x,y=>x=y/\Ae x
 |n+1,x,y=>rT K H n x y∨∃a b xs ys,x= .ref a/\y= .ref b/\((bZ K H a xs/\bZ K H b ys)∨(aH K H a xs/\aH K H b ys))/\gz (rT K H n) xs ys
theorem fV {A:Around} {s:Shared} {R:V->V->Prop} (hR:∀x y u w,R x y->RelV x u->RelV y w->SeqAt.EqAt A s u w true):∀{xs ys:List V} {us ws:Ir},gz R xs ys->a9 xs us->a9 ys ws->∀j (h1:j<us.length) (h2:j<ws.length),SeqAt.EqAt A s us[j] ws[j] true
 | [],[],_,_,_,.nil,.nil,j,h1,_=>absurd h1 (by simp)
 |_::_,_::_,_,_,h,.cons r1 _,.cons r2 _,0,_,_=>hR _ _ _ _ h.1 r1 r2
 |_::_,_::_,_,_,h,.cons _ t1,.cons _ t2,j+1,h1,h2=>fV hR h.2 t1 t2 j (by simpa using h1) (by simpa using h2)
theorem jj {X:Cx} {pins:Im} {σ:St} {H:Hp} {s:Shared} (I:aR X pins σ H s):∀(n:Nat) (A:Around) (x y:V) (u w:Value),A.units+n<cLine->rT X.K H n x y->RelV x u->RelV y w->SeqAt.EqAt A s u w true
 |0,A,x,y,u,w,_,h,r1,r2=>by
  obtain ⟨rfl,hs⟩:=h;exact mM hs r1 r2
 |n+1,A,x,y,u,w,hu,h,r1,r2=>by
  rcases h with h|⟨a,b,xs,ys,rfl,rfl,hq,hA⟩
  ·exact jj I n A x y u w (by omega) h r1 r2
  cases r1;cases r2
  by_cases e:a=b
  ·subst e;exact SeqAt.EqAt.same _
  refine SeqAt.EqAt.of_refs e ?_;have ih:=fun x y u w=>jj I n A.in1 x y u w (by show A.units+1+n<_;omega)
  rcases hq with ⟨h1,h2⟩|⟨h1,h2⟩
  ·obtain ⟨i1,v1,p1,_⟩:=I.tuple h1;obtain ⟨i2,v2,p2,_⟩:=I.tuple h2;have k:=SeqAt.RcAt.tuples (A:=A) (e:=fun _=>true) p1 p2 (by omega) fun j g1 g2=>fV (A:=A.in1) (s:=s) ih hA v1 v2 j (by simpa using g1) (by simpa using g2)
   have e1:∀m,((FG m).all fun _=>true)=true:=fun m=>by simp
   rw[e1] at k
   simpa [<-v1.length,<-v2.length,hA.len] using k
  ·obtain ⟨i1,v1,p1,_⟩:=I.list h1;obtain ⟨i2,v2,p2,_⟩:=I.list h2;have k:=SeqAt.RcAt.lists (A:=A) (e:=fun _=>true) p1.isList p2.isList (by simp[<-v1.length,<-v2.length,hA.len]) (by omega) fun j g1 g2=>fV (A:=A.in1) (s:=s) ih hA v1 v2 j (by simpa using g1) (by simpa using g2)
   have e1:∀m,((FG m).all fun _=>true)=true:=fun m=>by simp
   rw[e1] at k;exact k
end L2
namespace Sw
open PySem L2 XH
def lF (nm p t s l:V):List (Str×V):=aO "links" l (aO "steps" s (aO "takes" t (aO "plates" p (aO "name" nm []))))
structure C0 (K:D9) (C:Addr):Prop where
 cl:iY K C
 name:aG K C "name"
 plates:aG K C "plates"
 takes:aG K C "takes"
 steps:aG K C "steps"
 links:aG K C "links"
end Sw
namespace L2
open PySem PySem.Spec PyProof.Rows XH Sw So
theorem wf {X:Cx} (n:Nat) (hu:X.A.units+(n+1)<cLine):gb X (compareOp .Eq) (fun x y H Q=>∃a b xs ys,x= .ref a/\y= .ref b/\bZ X.K H a xs/\bZ X.K H b ys/\gz (rT X.K H n) xs ys/\Q (.bl true) H):=by
 intro pins s σ H x y v u Q I rx ry h;obtain ⟨a,b,xs,ys,rfl,rfl,h1,h2,hA,hq⟩:=h;cases rx;cases ry;obtain ⟨i1,v1,p1,_⟩:=I.tuple h1;obtain ⟨i2,v2,p2,_⟩:=I.tuple h2;refine SeqAt.eq_tupleAt (e:=fun _=>true) p1 p2 (by omega) (fun j g1 g2=>?_) ?_
 ·exact fV (A:=X.A.in1) (s:=s) (fun x y u w=>jj I n X.A.in1 x y u w (by show X.A.units+1+n<_;omega)) hA v1 v2 j (by simpa using g1) (by simpa using g2)
 ·exact ⟨.bl true,H,I,by show Value.bool _=Value.bool _;simp[<-v1.length,<-v2.length,hA.len],hq⟩
theorem qE {X:Cx} (n:Nat) (hu:X.A.units+(n+1)<cLine):gb X (compareOp .NotEq) (fun x y H Q=>∃a b xs ys,x= .ref a/\y= .ref b/\bZ X.K H a xs/\bZ X.K H b ys/\gz (rT X.K H n) xs ys/\Q (.bl false) H):=by
 intro pins s σ H x y v u Q I rx ry h;obtain ⟨a,b,xs,ys,rfl,rfl,h1,h2,hA,hq⟩:=h;cases rx;cases ry;obtain ⟨i1,v1,p1,_⟩:=I.tuple h1;obtain ⟨i2,v2,p2,_⟩:=I.tuple h2;refine SeqAt.RcNeAt.tuples (e:=fun _=>true) p1 p2 (by omega) (fun j g1 g2=>?_) _ _ _ _ ⟨.bl false,H,I,by show Value.bool _=Value.bool _;simp[<-v1.length,<-v2.length,hA.len],hq⟩
 exact fV (A:=X.A.in1) (s:=s) (fun x y u w=>jj I n X.A.in1 x y u w (by show X.A.units+1+n<_;omega)) hA v1 v2 j (by simpa using g1) (by simpa using g2)
end L2
namespace Sw
open PySem L2 XH Hm
end Sw
namespace L2
open PySem PySem.Spec PyProof.Rows XH Sw Hm
end L2
namespace Sw
open PySem L2 XH Hm
theorem A1 {α:Type} {xs:List α} {i:Nat} {v d:α} (h:xs[i]?=some v):xs.getD i d=v:=by rw[List.getD_eq_getElem?_getD,h];rfl
theorem fm {a n:Int} (h:0<n):0<=a.fmod n/\a.fmod n<n:=⟨EH a h,Ec a h⟩
theorem lG {R:V->V->Prop}:∀{xs ys:List V},xs.length=ys.length->(∀(i:Nat) (x y:V),xs[i]?=some x->ys[i]?=some y->R x y)->gz R xs ys
 | [],[],_,_=>trivial
 |x::xs,y::ys,hl,h=>⟨h 0 x y rfl rfl,lG (by simpa using hl) fun i a b e1 e2=>h (i+1) a b (by simpa using e1) (by simpa using e2)⟩
 | [],_::_,hl,_=>by simp at hl
 |_::_,[],hl,_=>by simp at hl
end Sw
namespace L2
open PySem PySem.Spec PyProof.Rows XH Sw Hm
end L2
namespace Sw
open PySem L2 XH Hm
end Sw
namespace L2
open PySem PySem.Spec PyProof.Rows XH Sw Hm
theorem ir {xs:List V} {c:Nat}:dy xs (some (c:Int)) none=xs.drop c:=by
 by_cases h:c<=xs.length
 ·exact uk h
 ·rw[List.drop_eq_nil_of_le (by omega)]
  apply FV;unfold dy;rw[EK,Eo];have:HT.cZ xs.length 0 (some (c:Int))=xs.length:=by
   show (if (c:Int)<0 then ((c:Int)+(xs.length:Int)).toNat else min (c:Int).toNat xs.length)=xs.length
   rw[if_neg (by omega)]
   omega
  rw[this];omega
end L2
namespace Sw
open PySem L2 XH Hm
end Sw
namespace L2
open PySem PySem.Spec PyProof.Rows XH Sw Hm
end L2
namespace Sw
open PySem L2 XH Hm
theorem cf {α:Type} {P:List α->Prop} (h:∀a,P [a]):∀us:List α,us.length=1->P us
 | [a],_=>h a
theorem cw {α:Type} {P:List α->Prop} (h:∀a b,P [a,b]):∀us:List α,us.length=2->P us
 | [a,b],_=>h a b
theorem dk {α:Type} {P:List α->Prop} (h:∀a b c,P [a,b,c]):∀us:List α,us.length=3->P us
 | [a,b,c],_=>h a b c
theorem iu {α:Type} {P:List α->Prop} (h:∀a b c d,P [a,b,c,d]):∀us:List α,us.length=4->P us
 | [a,b,c,d],_=>h a b c d
theorem ym {α:Type} {P:List α->Prop} (h:∀a b c d e,P [a,b,c,d,e]):∀us:List α,us.length=5->P us
 | [a,b,c,d,e],_=>h a b c d e
theorem yn {α:Type} {P:List α->Prop} (h:∀a b c d e f,P [a,b,c,d,e,f]):∀us:List α,us.length=6->P us
 | [a,b,c,d,e,f],_=>h a b c d e f
abbrev FnAt (K:D9) (f:Addr) (n q:Str) (st:Stmt) (dV:Value):Prop:=∃(oc:Value) (od:Iu) (kV dc pm:Value) (an:Iu) (cd ct:Value) (sl:Io),K.lookup f=some ⟨oc,od,.func (F5 n q (dL st) (di st) (av st) dV kV dc pm an cd ct),sl⟩/\PySem.W.codeIn K cd q=true/\F6 K (.ref f)=true
abbrev bM (K:D9) (f:Addr) (x:Str) (st:Stmt) (dV:Value):Prop:=EN K mainGlobals x=some (some (.ref f))/\FnAt K f x x st dV
abbrev jk (K:D9) (c f:Addr) (m q:Str) (st:Stmt) (dV:Value):Prop:=Em K (.ref c) m=some (some (.ref f))/\FnAt K f m q st dV
abbrev A3 (n q:Str) (st:Stmt) (dV:Value) (ps:Ip):Prop:=∀(kV doc pm:Value) (an:Iu) (cdv ct:Value) (us:Ir),us.length=ps.length->bindArgs (F5 n q (dL st) (di st) (av st) dV kV doc pm an cdv ct) ⟨us,[]⟩=pure (ps.zip us)
theorem cS {N P:Ip} {sc:Scope} (h:N.Nodup/\(∀x∈P,sc.names.lookup x=some .local∨sc.names.lookup x=some .cell)/\∀y∈sc.names,y.2≠ .free) (h1:sc.kind= .function:=by rfl) (h2:sc.isCoroutine=false:=by rfl) (h3:sc.isGenerator=false:=by rfl) (h4:N.take P.length=P:=by rfl):aB N P sc:=⟨h1,h2,h3,h.1,h4,h.2.1,h.2.2⟩
section
variable {P:Program} {w:World} {K:D9} {mg:Il} {base h:Heap} {CX:oF} {k:Nat} {f c:Addr} {x m q:Str} {st:Stmt} {ps:Ip} {sp:Sp}
theorem FnAt.ex {n q:Str} {dV:Value} (a:FnAt K f n q st dV):∃fd,br K n q st dV f fd/\F6 K (.ref f)=true:=by
 obtain ⟨_,_,_,_,_,_,_,_,_,l,c,k⟩:=a;exact ⟨_,gJ (st:=st) l c k,k⟩
structure Bx (P:Program) (w:World) (base:Heap):Prop
noncomputable def dE (_:Bx P w base) (X:K.In h) (G:h.Ns mainGlobals mg) (a:bM K f x st .none) (b:A3 x x st .none ps) (ok:∀{fd:FuncData},br K x x st .none f fd->aY P w K mg base CX k f fd ps sp):Dx P w K mg base CX k x ps [] sp:=
 have e:=a.2.ex
 ⟨f,e.choose,ok e.choose_spec.1,Ea X G a.1,e.choose_spec.2,e.choose_spec.1.binds0 b,[],e.choose_spec.1.binds0 b,.nil⟩
noncomputable def vh (_:Bx P w base) (a:jk K c f m q st .none) (b:A3 m q st .none ps) (ok:∀{fd:FuncData},br K m q st .none f fd->aY P w K mg base CX k f fd ps sp):jH P w K mg base CX k f ps [] sp:=
 have e:=a.2.ex
 ⟨e.choose,ok e.choose_spec.1,e.choose_spec.1.binds0 b,[],e.choose_spec.1.binds0 b,.nil⟩
end
end Sw
namespace L2
open PySem PySem.Spec PyProof.Rows XH
open Sw So
end L2
namespace Sw
open PySem L2 XH Hm
def C1:HO->Bool
 | .lst _=>true
 | .tup _=>true
 |_=>false
abbrev RA (α:Type):=(Addr->Prop)->Hp->V->α->Prop
def An:Addr->Prop:=fun _=>True
class Mv {α:Type} (R:RA α):Prop where
 mv:∀{P P':Addr->Prop} {H H':Hp} {v:V} {x:α},(∀a o,P a->C1 o=true->H a=some o->P' a/\H' a=some o)->R P H v x->R P' H' v x
theorem vm {α:Type} {R:RA α} [Mv R] {P:Addr->Prop} {H H':Hp} {v:V} {x:α} (h:R P H v x) (g:aJ H H'):R P H' v x:=Mv.mv (fun a o p _ e=>⟨p,g a o e⟩) h
theorem DZ {α:Type} {R:RA α} [Mv R] {P P':Addr->Prop} {H:Hp} {v:V} {x:α} (h:R P H v x) (g:∀a,P a->P' a):R P' H v x:=Mv.mv (fun a o p _ e=>⟨g a p,e⟩) h
theorem D3 {α:Type} {R:RA α} [Mv R] {P:Addr->Prop} {H:Hp} {v:V} {x:α} {l:Addr} (h:R P H v x) (n:¬P l) (o:HO):R P (aS H l o) v x:=Mv.mv (fun a u p _ e=>⟨p,by
  have:a≠l:=fun z=>n (by rw[<-z];exact p)
  rw[az this];exact e⟩) h
def A2 {α:Type} (R:V->α->Prop) (vs:List V) (xs:List α):Prop:=vs.length=xs.length/\∀(i:Nat) (v:V) (x:α),vs[i]?=some v->xs[i]?=some x->R v x
theorem A2.imp {α:Type} {R S:V->α->Prop} {vs:List V} {xs:List α} (h:A2 R vs xs) (f:∀v x,R v x->S v x):A2 S vs xs:=⟨h.1,fun i v x e1 e2=>f v x (h.2 i v x e1 e2)⟩
theorem A2.get {α:Type} {R:V->α->Prop} {vs:List V} {xs:List α} (h:A2 R vs xs) {i:Nat} {x:α} (e:xs[i]?=some x):∃v,vs[i]?=some v/\R v x:=by
 have il:i<vs.length:=by rw[h.1];exact (E8.mp e).1
 exact ⟨_,E1 il,h.2 i _ x (E1 il) e⟩
theorem A2.at_ {α:Type} {R:V->α->Prop} {vs:List V} {xs:List α} (h:A2 R vs xs) {i:Nat} {v:V} (e:vs[i]?=some v):∃x,xs[i]?=some x/\R v x:=by
 have il:i<xs.length:=by rw[<-h.1];exact (E8.mp e).1
 exact ⟨_,E1 il,h.2 i v _ e (E1 il)⟩
theorem A2.nil {α:Type} {R:V->α->Prop}:A2 R [] ([]:List α):=⟨rfl,fun i a x e=>by simp at e⟩
theorem A2.append {α:Type} {R:V->α->Prop} {as bs:List V} {xs ys:List α} (h:A2 R as xs) (k:A2 R bs ys):A2 R (as++bs) (xs++ys):=by
 refine ⟨by simp[h.1,k.1],fun i a x e1 e2=>?_⟩
 by_cases c:i<as.length
 ·rw[EF c] at e1;rw[EF (by rw[<-h.1];exact c)] at e2
  exact h.2 i a x e1 e2
 ·rw[EA (by omega)] at e1
  rw[EA (by rw[<-h.1];omega),<-h.1] at e2
  exact k.2 _ a x e1 e2
theorem A2.one {α:Type} {R:V->α->Prop} {v:V} {x:α} (h:R v x):A2 R [v] [x]:=⟨rfl,fun i a y e1 e2=>by
 cases i with
 |zero=>simp at e1 e2;subst e1 e2;exact h
 |succ n=>simp at e1⟩
theorem A2.snoc {α:Type} {R:V->α->Prop} {vs:List V} {xs:List α} (h:A2 R vs xs) {v:V} {x:α} (r:R v x):A2 R (vs++ [v]) (xs++ [x]):=h.append (.one r)
def iK {α:Type} (R:RA α) (P:Addr->Prop) (H:Hp) (l:Addr) (xs:List α):Prop:=∃vs,H l=some (.lst vs)/\A2 (R P H) vs xs
def cy {α:Type} (f:α->List V):RA α:=fun P H v x=>∃t,v= .ref t/\P t/\H t=some (.tup (f x))
instance {α:Type} {f:α->List V}:Mv (cy f) where
 mv:=fun {P P' H H' v x} g h=>by
  obtain ⟨t,rfl,p,e⟩:=h;obtain ⟨p',e'⟩:=g t _ p rfl e;exact ⟨t,rfl,p',e'⟩
def wg {α:Type} (f:α->V):RA α:=fun _ _ v x=>v=f x
instance {α:Type} {f:α->V}:Mv (wg f) where
 mv:=fun _ h=>h
theorem A2.val {α:Type} {f:α->V} {P:Addr->Prop} {H:Hp} {vs:List V} {xs:List α} (h:A2 (wg f P H) vs xs):vs=xs.map f:=by
 apply List.ext_getElem (by rw[E5];exact h.1)
 intro i h1 h2;rw[List.getElem_map];exact h.2 i _ _ (E1 h1) (E1 (by rw[E5] at h2;exact h2))
theorem iK.same {α:Type} {R:RA α} [Mv R] {P:Addr->Prop} {H H':Hp} {l:Addr} {xs:List α} (h:iK R P H l xs) (g:aJ H H'):iK R P H' l xs:=let ⟨vs,e,r⟩:=h;⟨vs,g _ _ e,r.imp fun _ _ q=>vm q g⟩
end Sw
namespace L2
open PySem PySem.Spec PyProof.Rows XH Sw Hm
theorem yo {J:It} {β:Type} {n:Nat} {js:List Nat} {te:TE} {σ:L2.St} {H1:Hp} {Q:VK} (R:RA β) [Mv R] (Z:Addr->Prop) (f:Nat->β) (hz:n<=sizeLine) (hZ:∀a,Z a->H1 a≠none)
  (hgo:∀i H2,aJ H1 H2->i<n->J.go i H2) (hst:∀H2,aJ H1 H2->J.stop n H2)
  (step:∀i,i<n->∀H2 x H3,aJ H1 H2->J.yld i H2 x H3->H3=H2/\∀Q':VK,(∀y H5,aJ H2 H5->R (fun a=>H2 a=none∨Z a) H5 y (f i)->Q' y H5)->te (some x::cF js σ) H2 Q')
  (fin:∀p H',H1 p=none->aJ H1 H'->iK R (fun a=>a≠p/\(H1 a=none∨Z a)) H' p ((FG n).map f)->Q (.ref p) H'):mJ js te σ Q J H1:=by
 intro p hp;refine ⟨fun i m ys H2=>i<=n/\m=n-i/\aJ H1 H2/\H2 p=some (.lst ys)/\A2 (R (fun a=>a≠p/\(H1 a=none∨Z a)) H2) ys ((FG i).map f),⟨n,F0 _,rfl,Sw.aj hp _,af,A2.nil⟩,?_⟩
 rintro i m ys H2 ⟨hi,rfl,g,e,r⟩;refine ⟨e,?_⟩
 by_cases hin:i<n
 ·refine .inr ⟨hgo i H2 g hin,?_,fun x H3 hy=>?_⟩
  ·have:=r.1;rw[E5,List.length_range] at this;omega
  obtain ⟨rfl,h2⟩:=step i hin H2 x H3 g hy;refine h2 _ fun y H5 g5 ry=>⟨g5 _ _ e,n-(i+1),by omega,hin,rfl,Sw.oU (g.trans g5) hp _,af,?_⟩
  rw[List.range_succ,FH];have np:¬(p≠p/\(H1 p=none∨Z p)):=fun z=>z.1 rfl
  refine ((r.imp fun v b q=>vm q g5).snoc (DZ ry fun a ha=>?_)).imp fun v b q=>D3 q np _
  rcases ha with h|h
  ·exact ⟨(fun z=>by rw[z,e] at h;cases h),.inl (g.free h)⟩
  ·exact ⟨fun z=>hZ a h (z▸hp),.inr h⟩
 ·have e2:i=n:=by omega
  subst e2;exact .inl ⟨hst H2 g,fin p H2 hp g ⟨ys,e,r⟩⟩
section
variable {K:D9} {β:Type} {a:Addr} {xs:List V} {n:Nat} {js:List Nat} {tc:TT} {te:TE} {σ:L2.St} {H1:Hp} {Q:VK}
theorem qF (R:RA β) [Mv R] (Z:Addr->Prop) (f:Nat->β) (hS:aH K H1 a xs) (hz:xs.length<=sizeLine) (hZ:∀a,Z a->H1 a≠none)
  (s2:∀i x,xs[i]?=some x->∀H2,aJ H1 H2->∀Q':VK,(∀y H5,aJ H2 H5->R (fun a=>H2 a=none∨Z a) H5 y (f i)->Q' y H5)->te (some x::cF js σ) H2 Q')
  (fin:∀p H',H1 p=none->aJ H1 H'->iK R (fun a=>a≠p/\(H1 a=none∨Z a)) H' p ((FG xs.length).map f)->Q (.ref p) H'):mJ js te σ Q (xN K a) H1:=by
 refine yo R Z f hz hZ (fun i H2 g hi=>⟨xs,xs[i],g.seq hS,E1 hi⟩) (fun H2 g=>⟨xs,g.seq hS,EB _⟩) (fun i hi H2 x H3 g hy=>?_) fin
 obtain ⟨rfl,hx⟩:=hy;exact ⟨rfl,s2 i x (hx xs (g.seq hS)) _ g⟩
end
end L2
namespace Sw
open PySem L2 XH Hm
def jm (xs:List V):Prop:=∀x∈xs,Ae x
theorem jn {K:D9} {H:Hp} {xs:List V} (h:jm xs):gz (rT K H 0) xs xs:=lG rfl fun i x y h1 h2=>by
 rw[h1] at h2;cases h2;exact ⟨rfl,h x (E4 h1)⟩
theorem qG {α:Type} {f:α->List V} {K:D9} {P P':Addr->Prop} {H:Hp} {v w:V} {x:α} (hs:jm (f x)) (h:cy f P H v x) (k:cy f P' H w x):rT K H 1 v w:=by
 obtain ⟨t,rfl,_,e⟩:=h;obtain ⟨t',rfl,_,e'⟩:=k;exact .inr ⟨t,t',_,_,rfl,rfl,.inl ⟨bZ.of e,bZ.of e'⟩,jn hs⟩
theorem pq {α:Type} {R:RA α} {K:D9} {P P':Addr->Prop} {H:Hp} {n:Nat} {vs ws:List V} {xs:List α} (f:∀v w x,x∈xs->R P H v x->R P' H w x->rT K H n v w) (h:A2 (R P H) vs xs) (k:A2 (R P' H) ws xs):gz (rT K H n) vs ws:=
 lG (h.1.trans k.1.symm) fun i v w e1 e2=>by
  obtain ⟨x,hx,q⟩:=h.at_ e1;exact f v w x (E4 hx) q (k.2 i w x e2 hx)
open PySem.NumText
def yq:Str:= "abcdefghijklmnopqrstuvwxyz"
def Nm (z:Str):Prop:=1<=(sL z).length/\(sL z).length<=12/\∀c∈sL z,97<=c/\c<=122
theorem qH (c:Nat):(!(Builtin.Str.occurrences yq (bH [c]) 0 yq.length 1).isEmpty)=decide (97<=c/\c<=122):=by
 rw[ip];have e:sL yq=(FG 26).map (97+ ·):=by decide
 rw[e];apply decide_eq_decide.mpr;constructor
 ·intro h;obtain ⟨i,hi,rfl⟩:=EO.mp h;have:=List.mem_range.mp hi;omega
 ·intro h;exact EO.mpr ⟨c-97,List.mem_range.mpr (by omega),by omega⟩
def nC (K:D9):Sp:=fun vs H Q _=>∃x:V,vs= [x]/\((∃z:Str,x= .str z/\z.length<=1000000/\(Nm z->Q (.bl true) H)/\(¬Nm z->Q (.bl false) H))∨∃ty,gu K H x ty/\EJ K ty (.type "str")=some false/\Q (.bl false) H)
end Sw
namespace L2
open PySem PySem.Spec PyProof.Rows XH Sw
end L2
namespace Sw
open PySem L2 XH Hm
theorem ur {α:Type} (xs:List α) (d:α):(FG xs.length).map (fun i=>xs.getD i d)=xs:=by
 apply List.ext_getElem
 ·rw[E5,List.length_range]
 ·intro i h1 h2;rw[List.getElem_map,List.getElem_range,A1 (E1 h2)]
open PyProof.Rows So
structure wj (fs:List (Str×V)) (nm l m u s:V):Prop where
 name:fs.lookup ("name" :Str)=some nm
 least:fs.lookup ("least" :Str)=some l
 most:fs.lookup ("most" :Str)=some m
 uses:fs.lookup ("uses" :Str)=some u
 second:fs.lookup ("second" :Str)=some s
 word:fs.lookup ("word" :Str)=none
 span:fs.lookup ("span" :Str)=none
 grown:fs.lookup ("grown" :Str)=none
 way:fs.lookup ("grown_way" :Str)=none
 rounds:fs.lookup ("rounds" :Str)=none
theorem jo {nm l m u s:V}:wj (gd nm l m u s) nm l m u s:=by
 constructor
 all_goals
  first
   |exact uo (by decide+kernel)
   |(unfold gd;simp only[bC];(repeat rw[if_neg (by decide+kernel)]);simp)
theorem ut {nm l m u s f:V}:wj (warmF nm l m u s f) nm l m u s:=by
 have h:=jo (nm:=nm) (l:=l) (m:=m) (u:=u) (s:=s);have k:∀{g:Str},g≠ "fill" ->(warmF nm l m u s f).lookup g=(gd nm l m u s).lookup g:=fun {g} hg=>by
  unfold warmF;rw[bC,if_neg hg]
 exact ⟨(k (by decide+kernel)).trans h.name,(k (by decide+kernel)).trans h.least,(k (by decide+kernel)).trans h.most,(k (by decide+kernel)).trans h.uses,(k (by decide+kernel)).trans h.second,(k (by decide+kernel)).trans h.word,(k (by decide+kernel)).trans h.span,(k (by decide+kernel)).trans h.grown,(k (by decide+kernel)).trans h.way,(k (by decide+kernel)).trans h.rounds⟩
abbrev uw:=Option (Int×Int×Iq)
def uy (H:Hp) (s:V):uw->Prop
 |none=>s= .non
 |some (x,y,vs)=>∃t l2,s= .ref t/\H t=some (.tup [.int x,.int y,.ref l2])/\H l2=some (.lst (vs.map V.ref))
def uz (H0 H:Hp) (s:V):uw->Prop
 |none=>s= .non
 |some (x,y,vs)=>∃t l2,s= .ref t/\H t=some (.tup [.int x,.int y,.ref l2])/\H l2=some (.lst (vs.map V.ref))/\H0 t=none/\H0 l2=none
def xm (H:Hp) (u:V) (us:Iq):Prop:=(u= .non/\us= [])∨∃l,u= .ref l/\H l=some (.lst (us.map V.ref))
def iS (K:D9):Sp:=fun vs H Q _=>∃(a C dx:Addr) (nm:Str) (l m:Int) (uv sv:V) (us:Iq) (c:uw),vs= [.ref a,.str nm,.int l,.int m,uv,sv]/\H a=some (.ins C dx [])/\iC K C/\xm H uv us/\uy H sv c/\
 ∀(u:Addr) (s:V) (H':Hp),Kept H H' a->u≠a->H u=none->H' u=some (.lst (us.map V.ref))->uz H H' s c->H' a=some (.ins C dx (gd (.str nm) (.int l) (.int m) (.ref u) s))->Q .non H'
def lH (K:D9):Sp:=fun vs H Q _=>∃(a C dx:Addr) (nm:Str) (l m:Int) (fl uv sv:V) (us:Iq) (c:uw),vs= [.ref a,.str nm,.int l,.int m,fl,uv,sv]/\H a=some (.ins C dx [])/\iC K C/\aG K C "fill" /\xm H uv us/\uy H sv c/\
 ∀(u:Addr) (s:V) (H':Hp),Kept H H' a->u≠a->H u=none->H' u=some (.lst (us.map V.ref))->uz H H' s c->H' a=some (.ins C dx (warmF (.str nm) (.int l) (.int m) (.ref u) s fl))->Q .non H'
def iw (w:Str):Sp:=fun vs H Q _=>∃x,vs= [x]/\Q (.str w) H
structure Up (n l p q:Int):Prop where
 lo:l*p<=n*q
 hi:(n-1)*q<l*p
def wm (cut:Bool) (l p q n:Int):Prop:=if cut=true then Up n l p q/\Bd 2000 n else n=l
def lI (K:D9) (cut:Bool):Sp:=fun vs H Q _=>∃(x:V) (l m p q:Int) (tf:Addr),vs= [x,.int l,.int m,.ref tf]/\cQ K 210 H tf p q/\Bd 210 l/\Bd 210 m/\
 ∀(t:Addr) (H':Hp) (n k:Int),aJ H H'->H' t=some (.tup [.int n,.int k])->wm cut l p q n->wm cut m p q k->Q (.ref t) H'
def jp (K:D9):Sp:=fun vs H Q _=>∃(l p q:Int) (tf:Addr),vs= [.int l,.ref tf]/\cQ K 210 H tf p q/\Bd 210 l/\∀(n:Int) (H':Hp),aJ H H'->wm true l p q n->Q (.int n) H'
structure C2 (K:D9) (C fg fw fs ft:Addr) (cut:Bool):Prop where
 c:iC K C
 grown:b7 K C "grown" fg
 way:b7 K C "grown_way" fw
 span:b7 K C "span" (if cut=true then ft else fs)
structure UL (H:Hp) (us:Iq) (f:Addr->Str):Prop where
 tup:∀a∈us,∃m k:Int,H a=some (.tup [.str (f a),.int m,.int k])
 nd:(us.map f).Nodup
 sm:us.length<64
theorem UL.same {H H':Hp} {us:Iq} {f:Addr->Str} (h:UL H us f) (g:aJ H H'):UL H' us f:=⟨fun a ha=>let ⟨m,k,e⟩:=h.tup a ha;⟨m,k,g _ _ e⟩,h.nd,h.sm⟩
structure uA (us bs:Iq) (f:Addr->Str):Prop where
 perm:bs.Perm us
 srt:sortedS (bs.map f)=true
structure fC (H0 H:Hp) (t:Addr) (cut:Bool) (l m p q:Int) (us:Iq) (f:Addr->Str):Prop where
 ex:∃(n k:Int) (ls:Addr) (bs:Iq),H t=some (.tup [.int n,.int k,.ref ls])/\H ls=some (.lst (bs.map V.ref))/\wm cut l p q n/\wm cut m p q k/\uA us bs f/\H0 ls=none
theorem fC.same {H0 H H':Hp} {t:Addr} {cut:Bool} {l m p q:Int} {us:Iq} {f:Addr->Str} (h:fC H0 H t cut l m p q us f) (g:aJ H H'):fC H0 H' t cut l m p q us f:=by
 obtain ⟨n,k,ls,bs,e1,e2,r⟩:=h.ex;exact ⟨n,k,ls,bs,g _ _ e1,g _ _ e2,r⟩
def uB (K:D9) (fg fw fs ft:Addr):Sp:=fun vs H Q _=>∃(x C dx lu tf:Addr) (l m p q:Int) (us:Iq) (f:Addr->Str) (ff:List (Str×V)) (cut:Bool),vs= [.ref x,.int l,.int m,.ref lu,.ref tf]/\H x=some (.ins C dx ff)/\ff.lookup ("span" :Str)=none/\C2 K C fg fw fs ft cut/\
 cQ K 210 H tf p q/\Bd 210 l/\Bd 210 m/\H lu=some (.lst (us.map V.ref))/\UL H us f/\∀(t:Addr) (H':Hp),aJ H H'->fC H H' t cut l m p q us f->Q (.ref t) H'
theorem A4 {l p q r s:Int} (F:Fr r s (l*p) (1*q)) (hq:0<q):Up (-((-r).fdiv s)) l p q:=by
 have c:=F.same;rw[Int.one_mul] at c;have ub:=jY (p:=r) F.pos;have sp:=F.pos;generalize-((-r).fdiv s)=n at ub⊢;refine ⟨Int.le_of_mul_le_mul_right (a:=s) ?_ sp,Int.lt_of_mul_lt_mul_right (a:=s) ?_ (F8 sp)⟩
 ·rw[<-c];have:=FU ub.1 (F8 hq);rw[show n*q*s=n*s*q by ac_rfl]
  exact this
 ·rw[<-c];have:=Int.mul_lt_mul_of_pos_right ub.2 hq;rw[show (n-1)*q*s=(n-1)*s*q by ac_rfl]
  exact this
theorem uz.self {H0 H:Hp} {a C dx:Addr} {fs:List (Str×V)} {o:HO} {s:V} (ea:H a=some (.ins C dx fs)):∀{c:uw},uz H0 H s c->uz H0 (aS H a o) s c
 |none,h=>h
 |some (_,_,_),⟨t,l2,h1,h2,h3,h4,h5⟩=>⟨t,l2,h1,by rw[az (fun z=>by rw[z,ea] at h2;cases h2)];exact h2,by rw[az (fun z=>by rw[z,ea] at h3;cases h3)];exact h3,h4,h5⟩
end Sw
namespace L2
open PySem PySem.Spec PyProof.Rows XH Sw
theorem eP {X:Cx} {K:D9} (hK:X.K=K):dG X (.builtin "isinstance") (fun xs H Q=>∃x t D b,xs= [x,.ref D]/\gu K H x t/\EJ K t (.ref D)=some b/\Q (.bl b) H):=by
 subst hK;intro pins s σ H xs us Q I r h;obtain ⟨x,t,D,b,rfl,ty,e,q⟩:=h;cases r with
 |cons r1 rr=>
  cases rr with
  |cons r2 rr=>
   cases rr;cases r2;exact jN I r1 ty e fun tk=>⟨.bl b,H,I.tok _,rfl,q⟩
end L2
namespace Sw
open PySem L2 XH PyProof.Rows
structure vn (K:D9) (C:Addr):Prop where
 ha:Em K (.ref C) "__class__" =some (some (.builtin "object.__class__"))
 hn:PySem.W.specialIn K (.builtin "object.__class__") "__get__" =some (some (.builtin "getset_descriptor.__get__"))
 htk:PySem.W.takesIn K (.builtin "object.__class__")=some true
 hm:PySem.W.mroIn K C (.type "object")=some true
structure DD (H:Hp) (x C:Addr) (nm:Str) (l m:Int) (us:Iq) (c:uw):Prop where
 ex:∃(dx u:Addr) (s:V) (ff:List (Str×V)),H x=some (.ins C dx ff)/\wj ff (.str nm) (.int l) (.int m) (.ref u) s/\H u=some (.lst (us.map V.ref))/\uy H s c
abbrev Due:=Int×Int×Iq
def eH (l m:Int) (us:Iq):uw->List Due
 |none=> [(l,m,us)]
 |some d=> [(l,m,us),d]
structure uC (H0 H:Hp) (lw:Addr) (cut:Bool) (p q:Int) (ds:List Due) (f:Addr->Str):Prop where
 ex:∃ts:Iq,H lw=some (.lst (ts.map V.ref))/\ts.length=ds.length/\H0 lw=none/\(∀(i:Nat) (t:Addr) (d:Due),ts[i]?=some t->ds[i]?=some d->fC H0 H t cut d.1 d.2.1 p q d.2.2 f)/\
  ∀(i j:Nat) (t t':Addr) (n k n' k':Int) (ls ls':Addr),ts[i]?=some t->ts[j]?=some t'->H t=some (.tup [.int n,.int k,.ref ls])->H t'=some (.tup [.int n',.int k',.ref ls'])->ls≠lw/\(i≠j->ls≠ls')
def nD (K:D9) (fg fw fs ft:Addr):Sp:=fun vs H Q _=>∃(x C tf:Addr) (nm:Str) (l m p q:Int) (us:Iq) (c:uw) (f:Addr->Str) (cut:Bool),vs= [.ref x,.ref tf]/\DD H x C nm l m us c/\C2 K C fg fw fs ft cut/\cQ K 210 H tf p q/\
 (∀d∈eH l m us c,Bd 210 d.1/\Bd 210 d.2.1/\UL H d.2.2 f)/\∀(lw:Addr) (H':Hp),aJ H H'->uC H H' lw cut p q (eH l m us c) f->Q (.ref lw) H'
theorem fC.putA {H0 H1 H3:Hp} {t b:Addr} {cut:Bool} {l m p q:Int} {us:Iq} {f:Addr->Str} {o:HO} (h:fC H0 H1 t cut l m p q us f) (nb:H1 b=none) (g:aJ H1 H3):fC H0 (aS H3 b o) t cut l m p q us f:=by
 obtain ⟨n,k,ls,bs,e1,e2,r⟩:=h.ex;exact ⟨n,k,ls,bs,by rw[az (aM e1 nb)];exact g _ _ e1,by rw[az (aM e2 nb)];exact g _ _ e2,r⟩
theorem fC.putB {H0 H2 H3:Hp} {t b:Addr} {cut:Bool} {l m p q:Int} {us:Iq} {f:Addr->Str} {o w:HO} {zs:List V} (h:fC H2 H3 t cut l m p q us f) (eb:H2 b=some w) (eb3:H3 b=some (.lst zs)) (g:aJ H0 H2):fC H0 (aS H3 b o) t cut l m p q us f:=by
 obtain ⟨n,k,ls,bs,e1,e2,r1,r2,r3,r4⟩:=h.ex;exact ⟨n,k,ls,bs,by rw[az (fun z=>by rw[z,eb3] at e1;cases e1)];exact e1,by rw[az (fun z=>by rw[z,eb] at r4;cases r4)];exact e2,r1,r2,r3,g.free r4⟩
theorem gQ {H:Hp} {x dx C:Addr} (nx:H x=none) (nd:H dx=none):aJ H (aS (aS H dx (.own x)) x (.ins C dx [])):=fun b o h=>by
 rw[az (aM h nx),az (aM h nd)];exact h
def vo (H:Hp) (a:Addr):Str:=match H a with|some (.tup (.str y::_))=>y|_=>Str.empty
theorem lJ {z:Str} {n:Int} (h0:0<=n) (h:n<=(z.length:Int)):((f7 z none (some n)).length:Int)=n:=by
 show ((((z.cps.toList.drop _).take _).toArray.size:Nat):Int)=n;rw[ES,EK,Eo];have e0:HT.cZ z.length 0 none=0:=rfl;have e1:HT.cZ z.length z.length (some n)=min n.toNat z.length:=by
  unfold HT.cZ;simp;omega
 rw[e0,e1];have:z.cps.toList.length=z.length:=cX z;omega
theorem nE {α:Type} {n:Nat} {g:Nat->α} (h:∀i j,i<n->j<n->g i=g j->i=j):((FG n).map g).Nodup:=by
 refine FE.mpr (List.Pairwise.imp_of_mem (fun {a b} ha hb hne e=>hne ?_) List.nodup_range)
 exact h a b (List.mem_range.mp ha) (List.mem_range.mp hb) e
theorem uD:∀i:_root_.Fin 12,∀j:_root_.Fin 12,(12-(5*(0+((i.val:Nat):Int))).fmod 12:Int)=12-(5*(0+((j.val:Nat):Int))).fmod 12->i=j:=by decide
def nG:Str:= "abcdefghijklmnopqrstuvwxyz"
theorem yr:∀i:Nat,i<26->nG.cps.toList[i]?=some (97+i):=by decide
theorem qI {v:Int} (h0:0<=v) (h:v<26):ig nG.cps.toList v=some (97+v.toNat):=by
 have:=yr v.toNat (by omega)
 have e:v=((v.toNat:Nat):Int):=by omega
 rw[e];exact aF this
theorem uE {ys:List V} {n:Nat} {g:Nat->Str} (hl:ys.length=n) (h:∀(i:Nat) (y:V),ys[i]?=some y->y= .str (g i)):ys=((FG n).map g).map V.str:=by
 apply FF;intro i;cases e:ys[i]? with
 |none=>
  have:=List.getElem?_eq_none_iff.mp e;rw[FW (by simp;omega)]
 |some y=>
  have il:=(E8.mp e).1;rw[h i y e,E7,E7,List.getElem?_range (by omega)]
  rfl
end Sw
namespace L2
open PySem PySem.Spec PyProof.Rows XH Sw
theorem wn {X:Cx} {e:Expr} {ta:TE} {f:Str} {pos:Pos} {K:D9} (hK:X.K=K) (he:PE X e ta) (hb:attributeBase e f X.env (eval e X.env)=eval e X.env):PE X (.Attribute e f pos) (Az K ta f):=by
 subst hK;exact aU he hb
end L2
namespace Sw
open PySem L2 XH PyProof.Rows
def Lt (z:Str):Prop:=∀c∈sL z,97<=c/\c<=122
theorem Lt.app {x y:Str} (h:Lt x) (k:Lt y):Lt (x++y):=fun c hc=>by
 rw[bO] at hc;rcases EI.mp hc with q|q
 ·exact h c q
 ·exact k c q
theorem Lt.cut {x:Str} (h:Lt x) (lo hi:Option Int):Lt (f7 x lo hi):=fun c hc=>by
 have hc':c∈((sL x).drop (HT.cZ x.length 0 lo)).take (HT.cZ x.length x.length hi-HT.cZ x.length 0 lo):=by simpa [sL,f7] using hc
 exact h c (List.mem_of_mem_drop (List.mem_of_mem_take hc'))
theorem Lt.nil:Lt "" :=fun c hc=>by
 have:c∈([]:List Nat):=hc;simp at this
theorem Lt.one {c:Nat} (h:97<=c/\c<=122):Lt ⟨#[c]⟩:=fun d hd=>by
 have:d∈ [c]:=hd;rw[EC.mp this];exact h
theorem wp {x:Str} {i:Int} (h:0<=i):(f7 x none (some i)).length=min i.toNat x.length:=by
 have e1:HT.cZ x.length 0 none=0:=rfl;have e2:HT.cZ x.length x.length (some i)=min i.toNat x.length:=by
  unfold HT.cZ;simp;omega
 show ((x.cps.toList.drop _).take _).toArray.size=_;rw[e1,e2,ES,EK,Eo];have:x.cps.toList.length=x.length:=by simp[Str.length]
 omega
theorem Lt.nm {z:Str} (h:Lt z) (h1:1<=z.length) (h2:z.length<=12):Nm z:=⟨by rw[cX];exact h1,by rw[cX];exact h2,h⟩
end Sw
namespace L2
open PySem PySem.Spec PyProof.Rows XH Sw
end L2
namespace Sw
open PySem L2 XH Hm PySem.NumText
end Sw
namespace L2
open PySem PySem.Spec PyProof.Rows XH Sw
end L2
namespace Sw
open PySem L2 XH Hm
end Sw
namespace L2
open PySem PySem.Spec PyProof.Rows XH Sw Hm
theorem pw {X:Cx} (n:Nat) (hu:X.A.units+(n+1)<cLine):gb X (compareOp .NotEq) (fun x y H Q=>∃a b xs ys,x= .ref a/\y= .ref b/\aH X.K H a xs/\aH X.K H b ys/\gz (rT X.K H n) xs ys/\Q (.bl false) H):=by
 intro pins s σ H x y v u Q I rx ry h;obtain ⟨a,b,xs,ys,rfl,rfl,h1,h2,hA,hq⟩:=h;cases rx;cases ry;obtain ⟨i1,v1,p1,_⟩:=I.list h1;obtain ⟨i2,v2,p2,_⟩:=I.list h2;refine SeqAt.RcNeAt.lists (e:=fun _=>true) p1.isList p2.isList (by simp[<-v1.length,<-v2.length,hA.len]) (by omega) (fun j g1 g2=>?_) _ _ _ _ ⟨.bl false,H,I,by show Value.bool _=Value.bool _;simp,hq⟩
 exact fV (A:=X.A.in1) (s:=s) (fun x y u w=>jj I n X.A.in1 x y u w (by show X.A.units+1+n<_;omega)) hA v1 v2 j (by simpa using g1) (by simpa using g2)
end L2
namespace Sw
open PySem L2 XH Hm
end Sw
theorem aI {A B:Type} {p:A->B->Prop} (a:A) (b:B) (h:p a b):∃a b,p a b:=⟨a,b,h⟩
theorem ck {A B C:Type} {p:A->B->C->Prop} (a:A) (b:B) (c:C) (h:p a b c):∃a b c,p a b c:=⟨a,b,c,h⟩
theorem aC {A B C D:Type} {p:A->B->C->D->Prop} (a:A) (b:B) (c:C) (d:D) (h:p a b c d):∃a b c d,p a b c d:=⟨a,b,c,d,h⟩
theorem kq {A B C D E F:Type} {p:A->B->C->D->E->F->Prop} (a:A) (b:B) (c:C) (d:D) (e:E) (f:F) (h:p a b c d e f):∃a b c d e f,p a b c d e f:=⟨a,b,c,d,e,f,h⟩
theorem jA {A B C D E F H I J:Type} {p:A->B->C->D->E->F->H->I->J->Prop} (a:A) (b:B) (c:C) (d:D) (e:E) (f:F) (g:H) (i:I) (j:J) (h:p a b c d e f g i j):∃a b c d e f g i j,p a b c d e f g i j:=⟨a,b,c,d,e,f,g,i,j,h⟩
theorem sD {A:Type} {p:A->Prop} {G:Prop}:(∃a,p a)->(∀a,p a->G)->G
 |⟨a,h⟩,k=>k a h
theorem vq {A B:Type} {p:A->B->Prop} {G:Prop}:(∃a b,p a b)->(∀a b,p a b->G)->G
 |⟨a,b,h⟩,k=>k a b h
theorem DE {A B C:Type} {p:A->B->C->Prop} {G:Prop}:(∃a b c,p a b c)->(∀a b c,p a b c->G)->G
 |⟨a,b,c,h⟩,k=>k a b c h
theorem sE {A B C D:Type} {p:A->B->C->D->Prop} {G:Prop}:(∃a b c d,p a b c d)->(∀a b c d,p a b c d->G)->G
 |⟨a,b,c,d,h⟩,k=>k a b c d h
theorem qJ {A B C D E F:Type} {p:A->B->C->D->E->F->Prop} {G:Prop}:(∃a b c d e f,p a b c d e f)->(∀a b c d e f,p a b c d e f->G)->G
 |⟨a,b,c,d,e,f,h⟩,k=>k a b c d e f h
theorem ku {A B C D E F H I J:Type} {p:A->B->C->D->E->F->H->I->J->Prop} {G:Prop}:(∃a b c d e f g i j,p a b c d e f g i j)->(∀a b c d e f g i j,p a b c d e f g i j->G)->G
 |⟨a,b,c,d,e,f,g,i,j,h⟩,k=>k a b c d e f g i j h
theorem kv {A B G:Prop} (h:A/\B) (k:A->B->G):G:=k h.1 h.2
theorem uF {A B C G:Prop} (h:A/\B/\C) (k:A->B->C->G):G:=k h.1 h.2.1 h.2.2
theorem yt {A B C D G:Prop} (h:A/\B/\C/\D) (k:A->B->C->D->G):G:=k h.1 h.2.1 h.2.2.1 h.2.2.2
theorem jC {A B C D E F G:Prop} (h:A/\B/\C/\D/\E/\F) (k:A->B->C->D->E->F->G):G:=k h.1 h.2.1 h.2.2.1 h.2.2.2.1 h.2.2.2.2.1 h.2.2.2.2.2
theorem yu {A B C D E F H I J G:Prop} (h:A/\B/\C/\D/\E/\F/\H/\I/\J) (k:A->B->C->D->E->F->H->I->J->G):G:=k h.1 h.2.1 h.2.2.1 h.2.2.2.1 h.2.2.2.2.1 h.2.2.2.2.2.1 h.2.2.2.2.2.2.1 h.2.2.2.2.2.2.2.1 h.2.2.2.2.2.2.2.2
namespace L2
open PySem PySem.Spec PyProof.Rows XH Sw
end L2
namespace Sw
open PySem L2 XH Hm
open PySem.NumText
theorem Lt.join:∀{ws:Ip},(∀w∈ws,Lt w)->Lt (Str.join Str.empty ws)
 | [],_=>Lt.nil
 | [x],h=>h x (by simp)
 |x::y::r,h=>by
  have ih:=Lt.join (ws:=y::r) fun w hw=>h w (E6 _ hw)
  show Lt (x++Str.empty++Str.join Str.empty (y::r));exact ((h x (by simp)).app Lt.nil).app ih
theorem Lt.tjoin {ws:Ip} (h:∀w∈ws,Lt w):Lt (Txt.join "" ws):=by
 have:Txt.join "" ws=Str.join Str.empty ws:=StrLaws.glued_eq_join _ ws;rw[this];exact Lt.join h
end Sw
namespace L2
open PySem
end L2
namespace Sw
open PySem L2 XH Hm PySem.NumText
end Sw
namespace L2
open PySem
end L2
namespace Sw
open PySem L2 XH Hm PySem.NumText
end Sw
namespace L2
open PySem
end L2
namespace Sw
open PySem L2 XH Hm PySem.NumText
end Sw
namespace L2
open PySem PySem.Spec PyProof.Rows XH
end L2
namespace Sw
open PySem L2 XH Hm PySem.NumText
end Sw
namespace L2
open PySem PySem.Spec PyProof.Rows XH Sw Hm
end L2
namespace Sw
open PySem L2 XH Hm PySem.NumText
end Sw
namespace L2
open PySem PySem.Spec PyProof.Rows XH Sw Hm
end L2
namespace Sw
open PySem L2 XH Hm PySem.NumText
end Sw
namespace L2
open PySem PySem.Spec PyProof.Rows XH Sw Hm
end L2
namespace Sw
open PySem L2 XH Hm PySem.NumText
end Sw
namespace L2
open PySem PySem.Spec PyProof.Rows XH Sw
def lK:Value->Bool
 | .none=>true
 |_=>false
theorem lL {a b:Str} {p q:Prop} (h1:a=b->p) (h2:a≠b->q):if decide (V.str a=V.str b)=true then p else q:=by
 by_cases e:a=b
 ·subst e;rw[if_pos (by simp)];exact h1 rfl
 ·rw[if_neg (by simp[e])];exact h2 e
end L2
namespace Sw
open PySem L2 XH Hm PySem.NumText
def bK (n:Nat):Str:=bH (dg n)
def vN (n:Nat):V:= .int (n:Int)
def jI:Str:=bH [32]
def jq:Str:=bH [10]
def yw (l:List Nat):Bool:=decide (1<=l.length)&&decide (l.length<=30)&&(decide (l.head?≠some 48)||decide (l= [48]))&&l.all fun c=>decide (48<=c/\c<=57)
def yx (z:Str):Bool:=decide (1<=(sL z).length)&&decide ((sL z).length<=12)&&(sL z).all fun c=>decide (97<=c/\c<=122)
theorem fW (z:Str):yx z=true↔Nm z:=by
 unfold yx Nm;simp[and_assoc]
def nH (K:D9) (a:Addr) (xs:Ip):Prop:=∃(o:Obj) (its:Array Value) (n:Nat),K.lookup a=some o/\o.cls= .type "tuple" /\o.data= .seq its n/\its.size<=sizeLine/\a9 (xs.map V.str) its.toList
theorem nH.sq {K:D9} {a:Addr} {xs:Ip} (h:nH K a xs) (H:Hp):bZ K H a (xs.map V.str):= .inr h
theorem cT {n:Nat} (h:n<=999999999):(bK n).length<=9:=by
 have:=dD (n:=n) (k:=8) (by omega)
 rw[<-cX,bK,bx];exact this
theorem fD {n:Nat} (h:n<=999999999):(n:Int).natAbs.log2<1920:=lg (Ef h (by decide))
theorem iT {m:Nat}:∀{ws:Ip},(∀w∈ws,w.length<=m)->(ws.map fun x=>x.length).sum<=m*ws.length
 | [],_=>EB _
 |w::ws,h=>by
  have h1:=h w Er;have h2:=iT (ws:=ws) fun x hx=>h x (E6 _ hx)
  rw[Fc,List.sum_cons,EQ,Nat.mul_add];omega
theorem map_getD {α β:Type} (f:α->β) (xs:List α) (d:α):(FG xs.length).map (fun i=>f (xs.getD i d))=xs.map f:=by
 conv=>rhs;rw[<-ur xs d,FY]
 rfl
def C3 (ws:Ip):Prop:=ws.length<=100000/\∀w∈ws,w.length<=10000
theorem jr (l:List Nat):yw l=true↔vZ l:=by
 unfold yw vZ AllDigits;simp[and_assoc]
theorem wq {z:Str} {c:Nat} (h:z.length<=10000):C3 (Txt.split z (bH [c])):=by
 have j:=congrArg Str.length (StrLaws.join_split z (bH [c]));rw[<-StrLaws.glued_eq_join,PySem.size_glued,cr] at j;have one:∀{ws:Ip} {w:Str},w∈ws->w.length<=(ws.map fun x=>x.length).sum:=fun {ws w} hw=>by
  induction ws with
  |nil=>cases hw
  |cons x ws ih=>
   rw[Fc,List.sum_cons];rcases E3.mp hw with rfl|hw
   ·omega
   ·have:=ih hw;omega
 refine ⟨?_,fun w hw=>?_⟩
 ·simp at j;omega
 ·have:=one hw;omega
abbrev bP:=Str×Nat×Nat
abbrev dX:=Nat×Nat
structure SV where
 w:Str
 n:Str
 lo:Nat
 hi:Nat
 fill:Option dX
 uses:List bP
 sec:Option (Nat×Nat×List bP)
abbrev wu:=Str×Nat×Nat×Nat
structure Md where
 takes:List (Str×dX)
 steps:List SV
 links:List wu
def kx (a:dX):Str:=bH (cV a.1 a.2)
def uG:Option dX->Ip
 |none=> []
 |some a=> [kx a]
def qK (w n:Str) (u:bP):Ip:= [w,n,u.1,bK u.2.1,bK u.2.2]
def qL (n:Str) (lo hi:Nat):Ip:= ["or",n,bK lo,bK hi]
def fE (w a b:Str) (t:Nat):Ip:= [w,a,b]++if w= "within" then [bK t] else []
def jB (ws:Ip):Str:=Txt.join jI ws
def yz (ss:List SV) (i:Nat):Str:=(ss.map fun s=>s.n).getD i ""
def bX (n:Str) (p:Nat):Str:=jB ["dish",n,bK p]
structure rV (a:dX):Prop where
 pos:0<a.1
 rd:Reads (cV a.1 a.2) a.1 a.2
 bp:a.1<10^40
 bq:a.2<1000
 len:(cV a.1 a.2).length<=40
def jJ (zs:Ip) (us:List bP):Prop:=us.length<=12/\∀(i:Nat) (u:bP),us[i]?=some u->zs[(5*i+3) % 12]?=some u.1/\1<=u.2.1/\u.2.1<=8/\u.2.2<=1000
def lM (lo hi:Nat):Prop:=1<=lo/\lo<=hi/\hi<=100000
def vv (w:Str):Prop:=w= "cut" ∨w= "rest" ∨w= "warm"
def Ah (w:Str):Prop:=w= "after" ∨w= "within" ∨w= "apart"
def pz (w:Str):Option dX->Prop
 |none=>w≠ "warm"
 |some a=>w= "warm" /\rV a
structure A5 (zs:Ip) (i:Nat) (s:SV):Prop where
 nm:zs[7*i % 12]?=some s.n
 wd:vv s.w
 le:lM s.lo s.hi
 fl:pz s.w s.fill
 us:jJ zs s.uses
 sec:∀x,s.sec=some x->lM x.1 x.2.1/\jJ zs x.2.2
structure Cm (n:Nat) (k:wu):Prop where
 w:Ah k.1
 a:k.2.1<n
 b:k.2.2.1<n
 ab:k.2.1≠k.2.2.1
 t:k.2.2.2<=100000
 t0:k.1≠ "within" ->k.2.2.2=0
structure fi (zs:Ip) (room:Nat) (M:Md):Prop where
 t12:M.takes.length<=12
 ts:∀(i:Nat) (x:Str×dX),M.takes[i]?=some x->zs[(5*i+1) % 12]?=some x.1/\rV x.2
 sr:M.steps.length<=room
 ss:∀(i:Nat) (s:SV),M.steps[i]?=some s->A5 zs i s
 k24:M.links.length<=24
 ks:∀k∈M.links,Cm M.steps.length k
structure Zs (zs:Ip):Prop where
 len:zs.length=12
 nd:zs.Nodup
 nm:∀z∈zs,Nm z
inductive uH where
 |twice
 |nostep
 |full
inductive Rr where
 |take (g:Str) (a:dX)
 |step (w n:Str) (lo hi:Nat) (f:Option dX)
 |sec (n:Str) (lo hi:Nat)
 |use (o:Bool) (n:Str) (u:bP)
 |link (w a b:Str) (t:Nat)
def iL:Rr->Ip
 | .take g a=> ["take",g,kx a]
 | .step w n lo hi f=> [w,n,bK lo,bK hi]++uG f
 | .sec n lo hi=>qL n lo hi
 | .use o n u=>qK (if o=true then "orwith" else "with") n u
 | .link w a b t=>fE w a b t
def fb (r:Rr):Str:=jB (iL r)
def fh:Rr->Prop
 | .take g a=>Nm g/\rV a
 | .step w n lo hi f=>vv w/\Nm n/\lM lo hi/\pz w f
 | .sec n lo hi=>Nm n/\lM lo hi
 | .use _ n u=>Nm n/\Nm u.1/\1<=u.2.1/\u.2.1<=8/\u.2.2<=1000
 | .link w a b t=>Ah w/\Nm a/\Nm b/\a≠b/\t<=100000/\(w≠ "within" ->t=0)
def place (M:Md) (n:Str):Option Nat:=M.steps.findIdx? fun s=>decide (s.n=n)
def gA (M:Md) (n:Str) (f:SV->Except uH SV):Except uH Md:=match place M n with
 |none=> .error .nostep
 |some i=>match M.steps[i]? with
  |none=> .error .nostep
  |some s=>match f s with
   | .error e=> .error e
   | .ok s'=> .ok {M with steps:=M.steps.set i s'}
def rW (us:List bP) (u:bP):Except uH (List bP):=if u.1∈us.map (fun x=>x.1) then .error .twice else if us.length=12 then .error .full else .ok (us++ [u])
def dU (M:Md):Rr->Except uH Md
 | .take g a=>if g∈M.takes.map (fun x=>x.1) then .error .twice else if M.takes.length=12 then .error .full else .ok {M with takes:=M.takes++ [(g,a)]}
 | .step w n lo hi f=>if n∈M.steps.map (fun s=>s.n) then .error .twice else if M.steps.length=12 then .error .full else .ok {M with steps:=M.steps++ [⟨w,n,lo,hi,f,[],none⟩]}
 | .sec n lo hi=>gA M n fun s=>match s.sec with
  |some _=> .error .twice
  |none=> .ok {s with sec:=some (lo,hi,[])}
 | .use false n u=>gA M n fun s=>match rW s.uses u with
  | .error e=> .error e
  | .ok us=> .ok {s with uses:=us}
 | .use true n u=>gA M n fun s=>match s.sec with
  |none=> .error .nostep
  |some (lo,hi,us)=>match rW us u with
   | .error e=> .error e
   | .ok us=> .ok {s with sec:=some (lo,hi,us)}
 | .link w a b t=>match place M a with
  |none=> .error .nostep
  |some i=>match place M b with
   |none=> .error .nostep
   |some j=>if M.links.length=24 then .error .full else .ok {M with links:=M.links++ [(w,i,j,t)]}
def C4 (M:Md) (z:Str) (M':Md):Prop:=(z= "" /\M'=M)∨∃r,z=fb r/\fh r/\dU M r= .ok M'
theorem Zs.inj {zs:Ip} (h:Zs zs) {i j:Nat} {z:Str} (hi:zs[i]?=some z) (hj:zs[j]?=some z):i=j:=by
 have il:=(E8.mp hi).1;exact (List.getElem?_inj il h.nd).mp (hi.trans hj.symm)
theorem Zs.at_ {zs:Ip} (h:Zs zs) {i:Nat} (hi:i<12):∃z,zs[i]?=some z/\Nm z:=by
 have il:i<zs.length:=by rw[h.len];exact hi
 exact ⟨_,E1 il,h.nm _ (List.getElem_mem il)⟩
theorem Zs.mem {zs:Ip} (h:Zs zs) {i:Nat} {z:Str} (e:zs[i]?=some z):Nm z:=h.nm z (E4 e)
theorem pA {α:Type} {xs:List α} {f:α->Str} {z:Str} (h:∀(i:Nat) (x:α),xs[i]?=some x->f x≠z):z∉xs.map f:=fun m=>by
 obtain ⟨x,hx,e⟩:=EO.mp m;obtain ⟨i,hi⟩:=ED.mp hx;exact h i x hi e
theorem bE {α:Type} {xs:List α} {i:Nat} {x:α} (h:xs[i]?=some x):i<xs.length:=(E8.mp h).1
variable {zs:Ip} {room:Nat} {M:Md}
theorem D4 (h:fi zs room M) (z:Zs zs) {g:Str} {a:dX} (hg:zs[(5*M.takes.length+1) % 12]?=some g) (l:M.takes.length<12):dU M (.take g a)= .ok {M with takes:=M.takes++ [(g,a)]}:=by
 show (if g∈M.takes.map (fun x=>x.1) then Except.error uH.twice else if M.takes.length=12 then .error .full else .ok _)=_
 rw[if_neg (pA fun i x hx e=>?_),if_neg (by omega)]
 have k:=z.inj (h.ts i x hx).1 (e▸hg);have:=bE hx;omega
theorem D5 (h:fi zs room M) (r12:room<=12) (z:Zs zs) {w n:Str} {lo hi:Nat} {f:Option dX} (hg:zs[7*M.steps.length % 12]?=some n) (l:M.steps.length<room):dU M (.step w n lo hi f)= .ok {M with steps:=M.steps++ [⟨w,n,lo,hi,f,[],none⟩]}:=by
 show (if n∈M.steps.map (fun s=>s.n) then Except.error uH.twice else if M.steps.length=12 then .error .full else .ok _)=_
 rw[if_neg (pA fun i x hx e=>?_),if_neg (by omega)]
 have k:=z.inj (h.ss i x hx).nm (e▸hg);have:=bE hx;omega
theorem fF (h:fi zs room M) (r12:room<=12) (z:Zs zs) {i:Nat} {s:SV} (hs:M.steps[i]?=some s):place M s.n=some i:=by
 unfold place;rw[List.findIdx?_eq_some_iff_getElem];have il:=bE hs;refine ⟨il,?_,fun j hj=>?_⟩
 ·rw[E1 il] at hs;rw[EL hs];simp
 ·have jl:j<M.steps.length:=by omega
  have hj':=E1 jl;have k:=(h.ss j _ hj').nm;have k2:=(h.ss i _ hs).nm;simp only[decide_eq_true_eq];intro e;rw[e] at k;have:=z.inj k k2;have:=h.sr;omega
theorem lN {M':Md} {n:Str} {i:Nat} {s s':SV} {f:SV->Except uH SV} (hp:place M n=some i) (hs:M.steps[i]?=some s) (hf:f s= .ok s'):gA M n f= .ok {M with steps:=M.steps.set i s'}:=by
 unfold gA;simp only[hp,hs,hf]
theorem wv (h:fi zs room M) (r12:room<=12) (z:Zs zs) {i lo hi:Nat} {s:SV} (hs:M.steps[i]?=some s) (e:s.sec=none):dU M (.sec s.n lo hi)= .ok {M with steps:=M.steps.set i {s with sec:=some (lo,hi,[])}}:=
 lN (M':=M) (fF h r12 z hs) hs (by rw[e])
theorem qM (z:Zs zs) {us:List bP} {u:bP} (h:jJ zs us) (hg:zs[(5*us.length+3) % 12]?=some u.1) (l:us.length≠12):rW us u= .ok (us++ [u]):=by
 unfold rW;rw[if_neg (pA fun i x hx e=>?_),if_neg l]
 have k:=z.inj (h.2 i x hx).1 (e▸hg);have:=bE hx;have:=h.1;omega
theorem D6 (h:fi zs room M) (r12:room<=12) (z:Zs zs) {i:Nat} {s:SV} {u:bP} (hs:M.steps[i]?=some s) (hg:zs[(5*s.uses.length+3) % 12]?=some u.1) (l:s.uses.length≠12):dU M (.use false s.n u)= .ok {M with steps:=M.steps.set i {s with uses:=s.uses++ [u]}}:=
 lN (M':=M) (fF h r12 z hs) hs (by rw[qM z (h.ss i s hs).us hg l])
theorem ww (h:fi zs room M) (r12:room<=12) (z:Zs zs) {i lo hi:Nat} {s:SV} {us:List bP} {u:bP} (hs:M.steps[i]?=some s) (e:s.sec=some (lo,hi,us)) (hg:zs[(5*us.length+3) % 12]?=some u.1) (l:us.length≠12):dU M (.use true s.n u)= .ok {M with steps:=M.steps.set i {s with sec:=some (lo,hi,us++ [u])}}:=
 lN (M':=M) (fF h r12 z hs) hs (by simp only[e,qM z ((h.ss i s hs).sec _ e).2 hg l])
theorem D7 (h:fi zs room M) (r12:room<=12) (z:Zs zs) {i j t:Nat} {s s':SV} {w:Str} (hs:M.steps[i]?=some s) (hs':M.steps[j]?=some s') (l:M.links.length≠24):dU M (.link w s.n s'.n t)= .ok {M with links:=M.links++ [(w,i,j,t)]}:=by
 unfold dU;simp only[fF h r12 z hs,fF h r12 z hs'];rw[if_neg l]
theorem gR {α:Type} {xs:List α} {y x:α} {i:Nat} (h:(xs++ [y])[i]?=some x):xs[i]?=some x∨(i=xs.length/\x=y):=by
 by_cases c:i<xs.length
 ·rw[EF c] at h;exact .inl h
 ·have:=bE h;simp at this;have e:i=xs.length:=by omega
  subst e;simp at h;exact .inr ⟨rfl,h.symm⟩
theorem fi.take (h:fi zs room M) {g:Str} {a:dX} (hg:zs[(5*M.takes.length+1) % 12]?=some g) (l:M.takes.length<12) (ha:rV a):fi zs room {M with takes:=M.takes++ [(g,a)]}:=
 {h with
  t12:=by simp;omega
  ts:=fun i x hx=>by
   rcases gR hx with hx|⟨rfl,rfl⟩
   ·exact h.ts i x hx
   ·exact ⟨hg,ha⟩}
theorem fi.step (h:fi zs room M) {s:SV} (l:M.steps.length<room) (hs:A5 zs M.steps.length s):fi zs room {M with steps:=M.steps++ [s]}:=
 {h with
  sr:=by simp;omega
  ss:=fun i x hx=>by
   rcases gR hx with hx|⟨rfl,rfl⟩
   ·exact h.ss i x hx
   ·exact hs
  ks:=fun k hk=>by
   have l:=h.ks k hk;exact ⟨l.w,by have:=l.a;simp;omega,by have:=l.b;simp;omega,l.ab,l.t,l.t0⟩}
theorem fi.set (h:fi zs room M) {i:Nat} {s':SV} (hs:A5 zs i s'):fi zs room {M with steps:=M.steps.set i s'}:=
 {h with
  sr:=by simp;exact h.sr
  ss:=fun j x hx=>by
   rw[List.getElem?_set] at hx
   split at hx
   ·rename_i e;subst e
    split at hx
    ·cases hx;exact hs
    ·cases hx
   ·exact h.ss j x hx
  ks:=fun k hk=>by
   have l:=h.ks k hk;exact ⟨l.w,by have:=l.a;simp;omega,by have:=l.b;simp;omega,l.ab,l.t,l.t0⟩}
theorem fi.link (h:fi zs room M) {k:wu} (l:M.links.length<24) (hk:Cm M.steps.length k):fi zs room {M with links:=M.links++ [k]}:=
 {h with
  k24:=by simp;omega
  ks:=fun x hx=>by
   rcases EI.mp hx with hx|hx
   ·exact h.ks x hx
   ·rw[EC.mp hx];exact hk}
theorem jJ.snoc {us:List bP} {u:bP} (h:jJ zs us) (l:us.length≠12) (hg:zs[(5*us.length+3) % 12]?=some u.1) (h1:1<=u.2.1/\u.2.1<=8/\u.2.2<=1000):jJ zs (us++ [u]):=by
 have:=h.1;refine ⟨by simp;omega,fun i x hx=>?_⟩
 rcases gR hx with hx|⟨rfl,rfl⟩
 ·exact h.2 i x hx
 ·exact ⟨hg,h1⟩
theorem fi.nil (zs:Ip) (room:Nat):fi zs room ⟨[],[],[]⟩:=⟨by simp,fun i x h=>by simp at h,by simp,fun i x h=>by simp at h,by simp,fun k h=>by simp at h⟩
theorem bT (a b:Str) (r:Ip):jB (a::b::r)=a++jI++jB (b::r):=by
 show Builtin.Str.glued jI (a::b::r)=a++jI++Builtin.Str.glued jI (b::r);rw[StrLaws.glued_eq_join,StrLaws.glued_eq_join]
 rfl
theorem c8 (a b c:Str):a++b++c=a++(b++c):=fA (by rw[bO,bO,bO,bO,Es])
theorem yA (ws:Ip) (ne:ws≠ []) (x:Str):jB (ws++ [x])=jB ws++jI++x:=by
 induction ws with
 |nil=>exact absurd rfl ne
 |cons a ws ih=>
  cases ws with
  |nil=>rfl
  |cons b r=>
   rw[List.cons_append,List.cons_append,bT,bT,<-List.cons_append,ih (by simp)]
   simp only[c8]
theorem Ai (a:Str):jB [a]=a:=rfl
theorem uI (ws:Ip) {m:Nat} (h:∀w∈ws,w.length<=m):(jB ws).length<=(m+1)*ws.length:=by
 have:=iT h;unfold jB;rw[jf,show jI.length=1 from rfl,Nat.add_mul]
 omega
theorem lO {a:dX} (h:rV a):(kx a).length<=40:=by unfold kx;rw[cr];exact h.len
theorem Nm.len {z:Str} (h:Nm z):z.length<=12:=by have:=h.2.1;rwa [cX] at this
structure Sk where
 a:Addr
 u:Addr
 sec:Option (Addr×Addr)
def cY:Option (Addr×Addr)->Iq
 |none=> []
 |some (b,v)=> [b,v]
def Sk.own (k:Sk):Iq:=k.a::k.u::cY k.sec
def gE (u:bP):List V:= [.str u.1,vN u.2.1,vN u.2.2]
def xn (a:dX):List V:= [vN a.1,vN a.2]
def sF (k:wu):List V:= [.str k.1,vN k.2.1,vN k.2.2.1,vN k.2.2.2]
def eD:RA (Str×dX):=fun P H v x=>∃t b,v= .ref t/\P t/\P b/\H t=some (.tup [.str x.1,.ref b])/\H b=some (.tup (xn x.2))
instance:Mv eD where
 mv:=fun {P P' H H' v x} g h=>by
  obtain ⟨t,b,rfl,pt,pb,e1,e2⟩:=h;exact ⟨t,b,rfl,(g t _ pt rfl e1).1,(g b _ pb rfl e2).1,(g t _ pt rfl e1).2,(g b _ pb rfl e2).2⟩
def qN (H:Hp) (v:V):Option dX->Prop
 |none=>v= .non
 |some a=>∃t,v= .ref t/\H t=some (.tup (xn a))
def uJ (lo hi:Nat):HO:= .lst [vN lo,vN hi]
abbrev Uz (H:Hp) (u:Addr) (us:List bP):Prop:=iK (cy gE) An H u us
def rX (H:Hp) (v:V):Option (Addr×Addr)->Option (Nat×Nat×List bP)->Prop
 |none,none=>v= .non
 |some (b,u),some (lo,hi,us)=>∃l,v= .ref b/\H b=some (.lst [.ref l,.ref u])/\H l=some (uJ lo hi)/\Uz H u us
 |_,_=>False
def SL (H:Hp) (k:Sk) (s:SV):Prop:=∃(l:Addr) (f v:V),H k.a=some (.lst [.str s.w,.str s.n,.ref l,f,.ref k.u,v])/\H l=some (uJ s.lo s.hi)/\qN H f s.fill/\Uz H k.u s.uses/\rX H v k.sec s.sec
def cI (m lt ls lk:Addr) (ks:List Sk):Iq:=m::lt::ls::lk::(ks.map Sk.own).flatten
structure ML (G H:Hp) (m lt ls lk:Addr) (ks:List Sk) (M:Md):Prop where
 fr:aJ G H
 nw:∀a∈cI m lt ls lk ks,G a=none
 nd:(cI m lt ls lk ks).Nodup
 em:H m=some (.lst [.ref lt,.ref ls,.ref lk])
 et:iK eD An H lt M.takes
 es:H ls=some (.lst (ks.map fun x=> .ref x.a))
 len:ks.length=M.steps.length
 ss:∀(i:Nat) (k:Sk) (s:SV),ks[i]?=some k->M.steps[i]?=some s->SL H k s
 ek:iK (cy sF) An H lk M.links
def Kp (F:Iq) (H H':Hp):Prop:=∀b o,H b=some o->b∉F->H' b=some o
def Fq (F:Iq) (H:Hp):Prop:=∀b∈F,∀o,H b=some o->∃vs,o= .lst vs/\∀i j:Int,vs≠ [.int i,.int j]
theorem Kp.put {F:Iq} {H H1:Hp} {x:Addr} (h:Kp F H H1) (hx:x∈F) (o:HO):Kp F H (aS H1 x o):=fun b u e n=>by
 have nb:b≠x:=fun z=>n (by rw[z];exact hx)
 rw[az nb];exact h b u e n
theorem Kp.refl (F:Iq) (H:Hp):Kp F H H:=fun _ _ e _=>e
theorem Kp.tup {F:Iq} {H H':Hp} (h:Kp F H H') (q:Fq F H) {t:Addr} {xs:List V} (e:H t=some (.tup xs)):H' t=some (.tup xs):=h _ _ e fun m=>by
 obtain ⟨vs,z,_⟩:=q t m _ e;cases z
theorem Kp.lens {F:Iq} {H H':Hp} (h:Kp F H H') (q:Fq F H) {t:Addr} {lo hi:Nat} (e:H t=some (uJ lo hi)):H' t=some (uJ lo hi):=h _ _ e fun m=>by
 obtain ⟨vs,z,n⟩:=q t m _ e;cases z;exact n _ _ rfl
theorem Kp.rtup {α:Type} {f:α->List V} {F:Iq} {H H':Hp} (h:Kp F H H') (q:Fq F H) {l:Addr} {xs:List α} (e:iK (cy f) An H l xs) (n:l∉F):iK (cy f) An H' l xs:=by
 obtain ⟨vs,e,r⟩:=e;exact ⟨vs,h _ _ e n,r.imp fun v x ⟨t,e1,e2,e3⟩=>⟨t,e1,e2,h.tup q e3⟩⟩
theorem Kp.rtake {F:Iq} {H H':Hp} (h:Kp F H H') (q:Fq F H) {l:Addr} {xs:List (Str×dX)} (e:iK eD An H l xs) (n:l∉F):iK eD An H' l xs:=by
 obtain ⟨vs,e,r⟩:=e;exact ⟨vs,h _ _ e n,r.imp fun v x ⟨t,b,e1,e2,e3,e4,e5⟩=>⟨t,b,e1,e2,e3,h.tup q e4,h.tup q e5⟩⟩
theorem Kp.fill {F:Iq} {H H':Hp} (h:Kp F H H') (q:Fq F H) {v:V} {o:Option dX} (e:qN H v o):qN H' v o:=by
 cases o with
 |none=>exact e
 |some a=>obtain ⟨t,e1,e2⟩:=e;exact ⟨t,e1,h.tup q e2⟩
theorem Kp.secL {F:Iq} {H H':Hp} (h:Kp F H H') (q:Fq F H) {v:V} {o:Option (Addr×Addr)} {x:Option (Nat×Nat×List bP)} (e:rX H v o x) (n:∀b∈cY o,b∉F):rX H' v o x:=by
 match o,x,e with
 |none,none,e=>exact e
 |some (b,u),some (lo,hi,us),⟨l,e1,e2,e3,e4⟩=>exact ⟨l,e1,h _ _ e2 (n b (by simp[cY])),h.lens q e3,h.rtup q e4 (n u (by simp[cY]))⟩
theorem Kp.sl {F:Iq} {H H':Hp} (h:Kp F H H') (q:Fq F H) {k:Sk} {s:SV} (e:SL H k s) (n:∀b∈k.own,b∉F):SL H' k s:=by
 obtain ⟨l,f,v,e1,e2,e3,e4,e5⟩:=e;exact ⟨l,f,v,h _ _ e1 (n k.a (by simp[Sk.own])),h.lens q e2,h.fill q e3,h.rtup q e4 (n k.u (by simp[Sk.own])),h.secL q e5 fun b hb=>n b (by simp[Sk.own,hb])⟩
theorem lP {vs:List V} (h:∀v∈vs,∃a,v= .ref a) (i j:Int):vs≠ [.int i,.int j]:=fun e=>by
 obtain ⟨a,z⟩:=h (.int i) (by rw[e];simp)
 cases z
theorem iK.refs {α:Type} {f:α->List V} {P:Addr->Prop} {H:Hp} {l:Addr} {xs:List α} (h:iK (cy f) P H l xs):∃vs,H l=some (.lst vs)/\∀i j:Int,vs≠ [.int i,.int j]:=by
 obtain ⟨vs,e,r⟩:=h;refine ⟨vs,e,lP fun v hv=>?_⟩
 obtain ⟨i,hi⟩:=ED.mp hv;obtain ⟨x,_,t,e,_⟩:=r.at_ hi;exact ⟨t,e⟩
theorem rY {P:Addr->Prop} {H:Hp} {l:Addr} {xs:List (Str×dX)} (h:iK eD P H l xs):∃vs,H l=some (.lst vs)/\∀i j:Int,vs≠ [.int i,.int j]:=by
 obtain ⟨vs,e,r⟩:=h;refine ⟨vs,e,lP fun v hv=>?_⟩
 obtain ⟨i,hi⟩:=ED.mp hv;obtain ⟨x,_,t,_,e,_⟩:=r.at_ hi;exact ⟨t,e⟩
theorem gB {H:Hp} {x:Addr} (h:∃vs,H x=some (.lst vs)/\∀i j:Int,vs≠ [.int i,.int j]):Fq [x] H:=fun b hb o e=>by
 rw[EC.mp hb] at e;obtain ⟨vs,e2,n⟩:=h;rw[e2] at e;cases e;exact ⟨vs,rfl,n⟩
theorem SL.fq {H:Hp} {k:Sk} {s:SV} (h:SL H k s):Fq k.own H:=fun b hb o e=>by
 obtain ⟨l,f,v,e1,e2,e3,e4,e5⟩:=h;unfold Sk.own at hb;rcases E3.mp hb with rfl|hb
 ·rw[e1] at e;cases e;exact ⟨_,rfl,fun i j z=>by simp at z⟩
 rcases E3.mp hb with rfl|hb
 ·exact gB e4.refs _ (EC.mpr rfl) o e
 generalize k.sec=o1,s.sec=o2 at hb e5
 match o1,o2,e5 with
 |none,none,e=>simp[cY] at hb
 |some (b',u),some (lo,hi,us),⟨l',f1,f2,f3,f4⟩=>
  simp only[cY,E3,E9,or_false] at hb;rcases hb with rfl|rfl
  ·rw[f2] at e;cases e;exact ⟨_,rfl,fun i j z=>by simp at z⟩
  ·exact gB f4.refs _ (EC.mpr rfl) o e
theorem SL.all {H:Hp} {k:Sk} {s:SV} (h:SL H k s):∀b∈k.own,H b≠none:=fun b hb z=>by
 obtain ⟨l,f,v,e1,e2,e3,⟨vs,e4,_⟩,e5⟩:=h;unfold Sk.own at hb;rcases E3.mp hb with rfl|hb
 ·rw[e1] at z;cases z
 rcases E3.mp hb with rfl|hb
 ·rw[e4] at z;cases z
 generalize k.sec=o1,s.sec=o2 at hb e5
 match o1,o2,e5 with
 |none,none,e=>simp[cY] at hb
 |some (b',u),some (lo,hi,us),⟨l',f1,f2,f3,⟨_,f4,_⟩⟩=>
  simp only[cY,E3,E9,or_false] at hb;rcases hb with rfl|rfl
  ·rw[f2] at z;cases z
  ·rw[f4] at z;cases z
theorem lQ {H H':Hp} (g:aJ H H'):Kp [] H H':=fun b o e _=>g _ _ e
theorem SL.same {H H':Hp} {k:Sk} {s:SV} (h:SL H k s) (g:aJ H H'):SL H' k s:=(lQ g).sl (fun b hb=>nomatch hb) h fun b _ z=>nomatch z
section
variable {G H H':Hp} {m lt ls lk:Addr} {ks:List Sk}
theorem ML.same (h:ML G H m lt ls lk ks M) (g:aJ H H'):ML G H' m lt ls lk ks M:=
 {h with
  fr:=h.fr.trans g
  em:=g _ _ h.em
  et:=h.et.same g
  es:=g _ _ h.es
  ss:=fun i k s e1 e2=>(h.ss i k s e1 e2).same g
  ek:=h.ek.same g}
theorem lR {k:Sk} {b:Addr} (hk:k∈ks) (hb:b∈k.own):b∈cI m lt ls lk ks:=by
 unfold cI;refine E6 _ (E6 _ (E6 _ (E6 _ ?_)));exact Ey.mpr ⟨_,EO.mpr ⟨k,hk,rfl⟩,hb⟩
theorem ML.all (h:ML G H m lt ls lk ks M):∀b∈cI m lt ls lk ks,H b≠none:=fun b hb z=>by
 unfold cI at hb;rcases E3.mp hb with rfl|hb
 ·rw[h.em] at z;cases z
 rcases E3.mp hb with rfl|hb
 ·obtain ⟨vs,e,_⟩:=h.et;rw[e] at z;cases z
 rcases E3.mp hb with rfl|hb
 ·rw[h.es] at z;cases z
 rcases E3.mp hb with rfl|hb
 ·obtain ⟨vs,e,_⟩:=h.ek;rw[e] at z;cases z
 obtain ⟨o,ho,hb⟩:=Ey.mp hb;obtain ⟨k,hk,rfl⟩:=EO.mp ho;obtain ⟨i,hi⟩:=ED.mp hk;have il:i<M.steps.length:=by rw[<-h.len];exact bE hi
 exact (h.ss i k _ hi (E1 il)).all b hb z
noncomputable def less (H:Hp) (F:Iq):Hp:=fun a=>by classical exact if a∈F then none else H a
theorem ix (H:Hp) (F:Iq):aJ (less H F) H:=fun b o e=>by
 unfold less at e
 split at e
 ·cases e
 ·exact e
theorem fX {H:Hp} {F:Iq} {a:Addr} (n:a∉F):less H F a=H a:=if_neg n
theorem ML.top (h:ML G H m lt ls lk ks M):ML (less H (cI m lt ls lk ks)) H m lt ls lk ks M:=
 {h with
  fr:=ix _ _
  nw:=fun a ha=>if_pos ha}
theorem ML.low (h:ML G H m lt ls lk ks M) {G':Hp} (g:aJ G' G):ML G' H m lt ls lk ks M:=
 {h with
  fr:=g.trans h.fr
  nw:=fun a ha=>g.free (h.nw a ha)}
theorem ML.step_ne (h:ML G H m lt ls lk ks M) {k:Sk} {b x:Addr} (hk:k∈ks) (hb:b∈k.own) (hx:x=m∨x=lt∨x=ls∨x=lk):b≠x:=fun e=>by
 subst e;have nd:=h.nd;unfold cI at nd;have mem:b∈(ks.map Sk.own).flatten:=Ey.mpr ⟨_,EO.mpr ⟨k,hk,rfl⟩,hb⟩;simp only[Ee,E3,not_or] at nd;rcases hx with rfl|rfl|rfl|rfl
 ·exact nd.1.2.2.2 mem
 ·exact nd.2.1.2.2 mem
 ·exact nd.2.2.1.2 mem
 ·exact nd.2.2.2.1 mem
theorem ML.ne (h:ML G H m lt ls lk ks M):m≠lt/\m≠ls/\m≠lk/\lt≠ls/\lt≠lk/\ls≠lk:=by
 have nd:=h.nd;unfold cI at nd;simp only[Ee,E3,not_or] at nd;exact ⟨nd.1.1,nd.1.2.1,nd.1.2.2.1,nd.2.1.1,nd.2.1.2.1,nd.2.2.1.1⟩
theorem dW {x:Addr} (g:aJ G H) (nx:G x=none) (o:HO):aJ G (aS H x o):=fun b u e=>by rw[az (aM e nx)];exact g _ _ e
theorem ML.take (h:ML G H m lt ls lk ks M) {vs:List V} {v:V} {x:Str×dX} (e:H lt=some (.lst vs)) (hv:eD An H v x):ML G (aS H lt (.lst (vs++ [v]))) m lt ls lk ks {M with takes:=M.takes++ [x]}:=by
 obtain ⟨n1,n2,n3,n4,n5,n6⟩:=h.ne;have q:=gB (rY h.et);have kp:=(Kp.refl [lt] H).put (x:=lt) (by simp) (.lst (vs++ [v]))
 refine {h with fr:=dW h.fr (h.nw lt (by simp[cI])) _,em:=kp _ _ h.em (by simpa using n1),et:=?_,es:=kp _ _ h.es (by simpa using n4.symm),ss:=fun i k s e1 e2=>kp.sl q (h.ss i k s e1 e2) fun b hb=>by simpa using h.step_ne (E4 e1) hb (.inr (.inl rfl)),ek:=kp.rtup q h.ek (by simpa using n5.symm)}
 obtain ⟨us,e',r⟩:=h.et;rw[e] at e';cases e';exact ⟨_,af,(r.snoc hv).imp fun v x ⟨t,b,e1,e2,e3,e4,e5⟩=>⟨t,b,e1,e2,e3,kp.tup q e4,kp.tup q e5⟩⟩
theorem ML.link (h:ML G H m lt ls lk ks M) {vs:List V} {v:V} {x:wu} (e:H lk=some (.lst vs)) (hv:cy sF An H v x):ML G (aS H lk (.lst (vs++ [v]))) m lt ls lk ks {M with links:=M.links++ [x]}:=by
 obtain ⟨n1,n2,n3,n4,n5,n6⟩:=h.ne;have q:=gB h.ek.refs;have kp:=(Kp.refl [lk] H).put (x:=lk) (by simp) (.lst (vs++ [v]))
 refine {h with fr:=dW h.fr (h.nw lk (by simp[cI])) _,em:=kp _ _ h.em (by simpa using n3),et:=kp.rtake q h.et (by simpa using n5),es:=kp _ _ h.es (by simpa using n6),ss:=fun i k s e1 e2=>kp.sl q (h.ss i k s e1 e2) fun b hb=>by simpa using h.step_ne (E4 e1) hb (.inr (.inr (.inr rfl))),ek:=?_}
 obtain ⟨us,e',r⟩:=h.ek;rw[e] at e';cases e';exact ⟨_,af,(r.snoc hv).imp fun v x ⟨t,e1,e2,e3⟩=>⟨t,e1,e2,kp.tup q e3⟩⟩
theorem ML.step {H0:Hp} (h:ML G H0 m lt ls lk ks M) (g:aJ H0 H) {k:Sk} {s:SV} (hs:SL H k s) (nk:∀a∈k.own,H0 a=none) (nd:k.own.Nodup):ML G (aS H ls (.lst ((ks.map fun x=>V.ref x.a)++ [.ref k.a]))) m lt ls lk (ks++ [k]) {M with steps:=M.steps++ [s]}:=by
 have all:=h.all;have h1:=h.same g;obtain ⟨n1,n2,n3,n4,n5,n6⟩:=h.ne;have q:Fq [ls] H:=gB ⟨_,h1.es,lP fun v hv=>by
  obtain ⟨k,_,rfl⟩:=EO.mp hv;exact ⟨_,rfl⟩⟩
 have kp:=(Kp.refl [ls] H).put (x:=ls) (by simp) (.lst ((ks.map fun x=>V.ref x.a)++ [.ref k.a]))
 have eo:cI m lt ls lk (ks++ [k])=cI m lt ls lk ks++k.own:=by simp[cI]
 have dj:∀a∈k.own,a∉cI m lt ls lk ks:=fun a ha hm=>all a hm (nk a ha)
 refine {fr:=dW h1.fr (h.nw ls (by simp[cI])) _,nw:=?_,nd:=?_,em:=kp _ _ h1.em (by simpa using n2),et:=kp.rtake q h1.et (by simpa using n4),es:=by rw[af,FH];rfl,len:=by simp[h.len],ss:=?_,ek:=kp.rtup q h1.ek (by simpa using n6.symm)}
 ·rw[eo];intro a ha;rcases EI.mp ha with ha|ha
  ·exact h.nw a ha
  ·exact h.fr.free (nk a ha)
 ·rw[eo,Ew];exact ⟨h.nd,nd,fun a ha b hb e=>dj b hb (e▸ha)⟩
 ·intro i k' s' e1 e2;rcases gR e1 with e1|⟨ei,rfl⟩
  ·have il:i<M.steps.length:=by rw[<-h.len];exact bE e1
   have e2':M.steps[i]?=some s':=by
    rw[<-e2];exact (EF il).symm
   exact kp.sl q (h1.ss i k' s' e1 e2') fun b hb=>by simpa using h.step_ne (E4 e1) hb (.inr (.inr (.inl rfl)))
  ·have e2':s=s':=by
    rw[ei,h.len] at e2;simp at e2;exact e2
   subst e2';exact kp.sl q hs fun b hb z=>dj b hb (by rw[EC.mp z];simp[cI])
theorem ML.set (h:ML G H m lt ls lk ks M) {i:Nat} {k k':Sk} {s s':SV} (e1:ks[i]?=some k) (e2:M.steps[i]?=some s) (kp:Kp k.own H H') (hs:SL H' k' s') (ea:k'.a=k.a) (nk:∀a∈k'.own,a∈k.own∨H a=none) (nd:k'.own.Nodup):ML G H' m lt ls lk (ks.set i k') {M with steps:=M.steps.set i s'}:=by
 have all:=h.all;have q:=(h.ss i k s e1 e2).fq;have mk:=E4 e1;have il:=bE e1;have n4:∀x,(x=m∨x=lt∨x=ls∨x=lk)->x∉k.own:=fun x hx z=>h.step_ne mk z hx rfl
 have ndf:=h.nd;have spl:ks=ks.take i++k::ks.drop (i+1):=by
  rw[E1 il] at e1;rw[<-EL e1,<-FN il,EZ]
 have spl':ks.set i k'=ks.take i++k'::ks.drop (i+1):=by rw[List.set_eq_take_append_cons_drop,if_pos il]
 have own1:cI m lt ls lk ks=(m::lt::ls::lk::((ks.take i).map Sk.own).flatten)++(k.own++((ks.drop (i+1)).map Sk.own).flatten):=by
  unfold cI
  conv=>lhs;rw[spl]
  simp
 have own2:cI m lt ls lk (ks.set i k')=(m::lt::ls::lk::((ks.take i).map Sk.own).flatten)++(k'.own++((ks.drop (i+1)).map Sk.own).flatten):=by
  unfold cI;rw[spl'];simp
 rw[own1,Ew,Ew] at ndf;obtain ⟨d1,⟨d2,d3,d4⟩,d5⟩:=ndf;have inO:∀a,a∈(m::lt::ls::lk::((ks.take i).map Sk.own).flatten)∨a∈((ks.drop (i+1)).map Sk.own).flatten->H a≠none/\a∉k.own:=fun a ha=>by
  refine ⟨all a (by rw[own1];rcases ha with ha|ha;exact Ez _ ha;exact EE _ (EE _ ha)),fun z=>?_⟩
  rcases ha with ha|ha
  ·exact d5 a ha a (Ez _ z) rfl
  ·exact d4 a z a ha rfl
 refine {fr:=?_,nw:=?_,nd:=?_,em:=kp _ _ h.em (n4 _ (.inl rfl)),et:=kp.rtake q h.et (n4 _ (.inr (.inl rfl))),es:=?_,len:=by simp[h.len],ss:=?_,ek:=kp.rtup q h.ek (n4 _ (.inr (.inr (.inr rfl))))}
 ·exact fun b o e=>kp _ _ (h.fr _ _ e) fun z=>by
   have:=h.nw b (lR mk z);rw[this] at e;cases e
 ·rw[own2];intro a ha;rcases EI.mp ha with ha|ha
  ·exact h.nw a (by rw[own1];exact Ez _ ha)
  rcases EI.mp ha with ha|ha
  ·rcases nk a ha with hk|hn
   ·exact h.nw a (lR mk hk)
   ·exact h.fr.free hn
  ·exact h.nw a (by rw[own1];exact EE _ (EE _ ha))
 ·rw[own2,Ew,Ew];refine ⟨d1,⟨nd,d3,fun a ha b hb e=>?_⟩,fun a ha b hb e=>?_⟩
  ·have:=inO b (.inr hb);rcases nk a ha with hk|hn
   ·exact this.2 (e▸hk)
   ·exact this.1 (e▸hn)
  ·have:=inO a (.inl ha);rcases EI.mp hb with hb|hb
   ·rcases nk b hb with hk|hn
    ·exact this.2 (e▸hk)
    ·exact this.1 (e▸hn)
   ·exact d5 a ha b (EE _ hb) e
 ·rw[kp _ _ h.es (n4 _ (.inr (.inr (.inl rfl))))]
  congr 2
  apply FF;intro j;rw[E7,E7,List.getElem?_set]
  by_cases c:i=j
  ·subst c;rw[if_pos rfl,if_pos il,e1];simp[ea]
  ·rw[if_neg c]
 ·intro j kj sj f1 f2;have f2':(M.steps.set i s')[j]?=some sj:=f2;rw[List.getElem?_set] at f1 f2'
  by_cases c:i=j
  ·subst c;rw[if_pos rfl] at f1 f2';rw[if_pos il] at f1;rw[if_pos (by rw[<-h.len];exact il)] at f2'
   cases f1;cases f2';exact hs
  ·rw[if_neg c] at f1 f2';refine kp.sl q (h.ss j kj sj f1 f2') fun b hb z=>?_
   have mj:kj∈ks.take i∨kj∈ks.drop (i+1):=by
    by_cases lt:j<i
    ·exact .inl (E4 (i:=j) (by rw[List.getElem?_take,if_pos lt];exact f1))
    ·exact .inr (E4 (i:=j-(i+1)) (by rw[List.getElem?_drop,show i+1+(j-(i+1))=j by omega];exact f1))
   rcases mj with mj|mj
   ·exact (inO b (.inl (by
     refine E6 _ (E6 _ (E6 _ (E6 _ ?_)));exact Ey.mpr ⟨_,EO.mpr ⟨kj,mj,rfl⟩,hb⟩))).2 z
   ·exact (inO b (.inr (Ey.mpr ⟨_,EO.mpr ⟨kj,mj,rfl⟩,hb⟩))).2 z
end
end Sw
namespace L2
open PySem PySem.Spec PyProof.Rows XH Sw
end L2
namespace Sw
open PySem L2 XH Hm PySem.NumText
def wx (H:Hp) (v:V):Option (Nat×Nat×List bP)->Prop
 |none=>v= .non
 |some (lo,hi,us)=>∃t l,v= .ref t/\H t=some (.tup [vN lo,vN hi,.ref l])/\Uz H l us
def gf (H:Hp) (ff:List (Str×V)):Option dX->Prop
 |none=>True
 |some a=>∃t,ff.lookup ("fill" :Str)=some (.ref t)/\H t=some (.tup (xn a))
def iD (cC cR cW:Addr) (w:Str) (C:Addr):Prop:=(w= "cut" /\C=cC)∨(w= "rest" /\C=cR)∨(w= "warm" /\C=cW)
def wy (cC cR cW:Addr) (H:Hp) (x:Addr) (s:SV):Prop:=∃(C dx u:Addr) (sv:V) (ff:List (Str×V)),H x=some (.ins C dx ff)/\iD cC cR cW s.w C/\wj ff (.str s.n) (vN s.lo) (vN s.hi) (.ref u) sv/\gf H ff s.fill/\Uz H u s.uses/\wx H sv s.sec
theorem wx.same {H H':Hp} (g:aJ H H') {v:V}:∀{o:Option (Nat×Nat×List bP)},wx H v o->wx H' v o
 |none,h=>h
 |some (_,_,_),⟨t,l,e1,e2,e3⟩=>⟨t,l,e1,g _ _ e2,e3.same g⟩
theorem gf.same {H H':Hp} (g:aJ H H') {ff:List (Str×V)}:∀{o:Option dX},gf H ff o->gf H' ff o
 |none,h=>h
 |some _,⟨t,e1,e2⟩=>⟨t,e1,g _ _ e2⟩
theorem wy.same {cC cR cW:Addr} {H H':Hp} {x:Addr} {s:SV} (h:wy cC cR cW H x s) (g:aJ H H'):wy cC cR cW H' x s:=by
 obtain ⟨C,dx,u,sv,ff,e1,e2,e3,e4,e5,e6⟩:=h;exact ⟨C,dx,u,sv,ff,g _ _ e1,e2,e3,e4.same g,e5.same g,e6.same g⟩
abbrev C5 (cC cR cW:Addr) (H:Hp) (v:V) (s:SV):Prop:=∃x,v= .ref x/\wy cC cR cW H x s
def Cn (cC cR cW:Addr) (H:Hp) (l:Addr) (ss:List SV):Prop:=∃vs,H l=some (.lst vs)/\A2 (C5 cC cR cW H) vs ss
theorem A2.steps {cC cR cW:Addr} {H H':Hp} (g:aJ H H') {vs:List V} {ss:List SV} (r:A2 (C5 cC cR cW H) vs ss):A2 (C5 cC cR cW H') vs ss:=r.imp fun v s ⟨x,e,k⟩=>⟨x,e,k.same g⟩
theorem Cn.same {cC cR cW:Addr} {H H':Hp} {l:Addr} {ss:List SV} (h:Cn cC cR cW H l ss) (g:aJ H H'):Cn cC cR cW H' l ss:=by
 obtain ⟨vs,e,r⟩:=h;exact ⟨vs,g _ _ e,r.steps g⟩
structure xq (cRec:Addr) (H:Hp) (r:Addr) (n:Str) (p:Nat) (lt ls lk:Addr):Prop where
 ex:∃dx,H r=some (.ins cRec dx (lF (.str n) (vN p) (.ref lt) (.ref ls) (.ref lk)))
theorem xq.same {cRec:Addr} {H H':Hp} {r:Addr} {n:Str} {p:Nat} {lt ls lk:Addr} (h:xq cRec H r n p lt ls lk) (g:aJ H H'):xq cRec H' r n p lt ls lk:=by
 obtain ⟨dx,e⟩:=h.ex;exact ⟨dx,g _ _ e⟩
theorem bY {nm p t s l:V}:(lF nm p t s l).lookup ("name" :Str)=some nm/\(lF nm p t s l).lookup ("plates" :Str)=some p/\(lF nm p t s l).lookup ("takes" :Str)=some t/\(lF nm p t s l).lookup ("steps" :Str)=some s/\(lF nm p t s l).lookup ("links" :Str)=some l:=by
 unfold lF;refine ⟨?_,?_,?_,?_,?_⟩
 all_goals
  simp only[bC]
  (repeat rw[if_neg (by decide+kernel)])
  simp
structure wz (cC cR cW cRec:Addr) (H:Hp) (r:Addr) (n:Str) (p:Nat) (M:Md):Prop where
 ex:∃lt ls lk,xq cRec H r n p lt ls lk/\iK eD An H lt M.takes/\Cn cC cR cW H ls M.steps/\iK (cy sF) An H lk M.links
theorem wz.same {cC cR cW cRec:Addr} {H H':Hp} {r:Addr} {n:Str} {p:Nat} {M:Md} (h:wz cC cR cW cRec H r n p M) (g:aJ H H'):wz cC cR cW cRec H' r n p M:=by
 obtain ⟨lt,ls,lk,e1,e2,e3,e4⟩:=h.ex;exact ⟨lt,ls,lk,e1.same g,e2.same g,e3.same g,e4.same g⟩
def C6 (us:List bP):Prop:=us.length<=12/\∀u∈us,Nm u.1/\1<=u.2.1/\u.2.1<=8/\u.2.2<=1000
structure Co (s:SV):Prop where
 nm:Nm s.n
 wd:vv s.w
 le:lM s.lo s.hi
 fl:pz s.w s.fill
 us:C6 s.uses
 sec:∀x,s.sec=some x->lM x.1 x.2.1/\C6 x.2.2
structure DF (M:Md):Prop where
 t12:M.takes.length<=12
 ts:∀x∈M.takes,Nm x.1/\rV x.2
 s12:M.steps.length<=12
 ss:∀s∈M.steps,Co s
 k24:M.links.length<=24
 ks:∀k∈M.links,Cm M.steps.length k
theorem jJ.bd {zs:Ip} (z:Zs zs) {us:List bP} (h:jJ zs us):C6 us:=⟨h.1,fun u hu=>by
 obtain ⟨i,hi⟩:=ED.mp hu;obtain ⟨h1,h2⟩:=h.2 i u hi;exact ⟨z.mem h1,h2⟩⟩
theorem A5.bd {zs:Ip} (z:Zs zs) {i:Nat} {s:SV} (h:A5 zs i s):Co s:=⟨z.mem h.nm,h.wd,h.le,h.fl,h.us.bd z,fun x hx=>⟨(h.sec x hx).1,(h.sec x hx).2.bd z⟩⟩
theorem fi.bd {zs:Ip} (z:Zs zs) {room:Nat} (r12:room<=12) {M:Md} (h:fi zs room M):DF M where
 t12:=h.t12
 ts:=fun x hx=>by
  obtain ⟨i,hi⟩:=ED.mp hx;exact ⟨z.mem (h.ts i x hi).1,(h.ts i x hi).2⟩
 s12:=by have:=h.sr;omega
 ss:=fun s hs=>by
  obtain ⟨i,hi⟩:=ED.mp hs;exact (h.ss i s hi).bd z
 k24:=h.k24
 ks:=h.ks
def uK (K:D9):Sp:=fun vs H Q _=>∃(a C dx lt ls lk:Addr) (nm p:V) (xt xs xk:List V),vs= [.ref a,nm,p,.ref lt,.ref ls,.ref lk]/\H a=some (.ins C dx [])/\C0 K C/\H lt=some (.lst xt)/\H ls=some (.lst xs)/\H lk=some (.lst xk)/\
 ∀(t s u:Addr) (H':Hp),t≠a->s≠a->u≠a->H t=none->H s=none->H u=none-> [t,s,u].Nodup->Kept H H' a->H' t=some (.lst xt)->H' s=some (.lst xs)->H' u=some (.lst xk)->H' a=some (.ins C dx (lF nm p (.ref t) (.ref s) (.ref u)))->Q .non H'
def nI:Sp:=fun vs H Q _=>∃c:Int,vs= [.int c]/\∀(l:Addr) (zs:Ip) (H':Hp),aJ H H'->H' l=some (.lst (zs.map V.str))->Zs zs->Q (.ref l) H'
def pB:Sp:=fun vs H Q _=>∃a b:Int,vs= [.int a,.int b]/\0<=a/\0<=b/\∀(lo hi:Nat) (l:Addr) (H':Hp),aJ H H'->H l=none->H' l=some (uJ lo hi)->lM lo hi->Q (.ref l) H'
def pC:Sp:=fun vs H Q _=>∃a b:Int,vs= [.int a,.int b]/\0<=a/\a<2^31/\0<=b/\∀(am:dX) (t ta:Addr) (H':Hp),aJ H H'->H' t=some (.tup [.ref ta,.str (kx am)])->H' ta=some (.tup (xn am))->rV am->Q (.ref t) H'
def uL (H:Hp) (l:Addr):Prop:=∃xs:List Int,H l=some (.lst (xs.map V.int))/\xs.length=6/\∀x∈xs,0<=x/\x<2^31
theorem uL.same {H H':Hp} {l:Addr} (h:uL H l) (g:aJ H H'):uL H' l:=by
 obtain ⟨xs,e,r⟩:=h;exact ⟨xs,g _ _ e,r⟩
theorem uL.at_ {H:Hp} {l:Addr} (h:uL H l):∃xs:List V,H l=some (.lst xs)/\∀j:Nat,j<6->∃v:Int,ig xs (j:Int)=some (.int v)/\0<=v/\v<2^31:=by
 obtain ⟨xs,e,h6,b⟩:=h;refine ⟨_,e,fun j hj=>?_⟩
 have il:j<xs.length:=by omega
 exact ⟨xs[j],aF (by rw[E7,E1 il];rfl),b _ (List.getElem_mem il)⟩
def wA (zs:Ip) (room:Nat) (G:Hp) (m lt ls lk:Addr) (M:Md) (Q:VK):Prop:=∀(z:Str) (ks':List Sk) (M':Md) (H':Hp),ML G H' m lt ls lk ks' M'->fi zs room M'->C4 M z M'->Q (.str z) H'
def qO:Sp:=fun vs H Q _=>∃(G:Hp) (m lt ls lk ln lx:Addr) (ks:List Sk) (M:Md) (zs:Ip) (room:Nat),vs= [.ref m,.ref ln,.ref lx]/\ML G H m lt ls lk ks M/\fi zs room M/\H ln=some (.lst (zs.map V.str))/\Zs zs/\uL H lx/\wA zs room G m lt ls lk M Q
def lS:Sp:=fun vs H Q _=>∃(G:Hp) (m lt ls lk ln lx:Addr) (ks:List Sk) (M:Md) (zs:Ip) (room:Nat),vs= [.ref m,.ref ln,.ref lx,vN room]/\room<=12/\ML G H m lt ls lk ks M/\fi zs room M/\H ln=some (.lst (zs.map V.str))/\Zs zs/\uL H lx/\wA zs room G m lt ls lk M Q
def qP:Sp:=fun vs H Q _=>∃(G:Hp) (m lt ls lk lx:Addr) (ks:List Sk) (M:Md) (zs:Ip) (room:Nat),vs= [.ref m,.ref lx]/\room<=12/\ML G H m lt ls lk ks M/\fi zs room M/\Zs zs/\uL H lx/\wA zs room G m lt ls lk M Q
def uM:Sp:=fun vs H Q _=>∃(G:Hp) (m lt ls lk ln:Addr) (c:Int) (ks:List Sk) (M:Md) (zs:Ip) (room:Nat),vs= [.ref m,.ref ln,.int c,vN room]/\room<=12/\ML G H m lt ls lk ks M/\fi zs room M/\H ln=some (.lst (zs.map V.str))/\Zs zs/\wA zs room G m lt ls lk M Q
def A6 (H:Hp) (k:Sk) (s:SV) (Q:VK) (ok:SV->Str->Prop):Prop:=(∀H',aJ H H'->Q (.str "") H')/\∀(z:Str) (k':Sk) (s':SV) (H':Hp),Kp k.own H H'->SL H' k' s'->k'.a=k.a->(∀a∈k'.own,a∈k.own∨H a=none)->k'.own.Nodup->ok s' z->Q (.str z) H'
def ky:Sp:=fun vs H Q _=>∃(k:Sk) (s:SV) (lx:Addr),vs= [.ref k.a,.ref lx]/\SL H k s/\k.own.Nodup/\s.n.length<=12/\uL H lx/\A6 H k s Q fun s' z=>∃lo hi,s.sec=none/\lM lo hi/\s'={s with sec:=some (lo,hi,[])}/\z=jB (qL s.n lo hi)
def uN:Sp:=fun vs H Q _=>∃(k:Sk) (s:SV) (o:Bool) (ln lx:Addr) (zs:Ip),vs= [.ref k.a,.str (if o=true then "orwith" else "with"),.ref ln,.ref lx]/\SL H k s/\k.own.Nodup/\s.n.length<=12/\H ln=some (.lst (zs.map V.str))/\Zs zs/\s.uses.length<=12/\(∀x,s.sec=some x->x.2.2.length<=12)/\uL H lx/\A6 H k s Q fun s' z=>∃u:bP,z=jB (qK (if o=true then "orwith" else "with") s.n u)/\1<=u.2.1/\u.2.1<=8/\u.2.2<=1000/\
 if o=true then ∃lo hi us,s.sec=some (lo,hi,us)/\us.length≠12/\zs[(5*us.length+3) % 12]?=some u.1/\s'={s with sec:=some (lo,hi,us++ [u])} else s.uses.length≠12/\zs[(5*s.uses.length+3) % 12]?=some u.1/\s'={s with uses:=s.uses++ [u]}
theorem lT {ws:Ip} (h:∀w∈ws,w.length<=60) (k:ws.length<=6):(jB ws).length<=400:=by
 have:=uI ws h;have:(60+1)*ws.length<=61*6:=Nat.mul_le_mul_left 61 k;omega
theorem vv.len {w:Str} (h:vv w):w.length<=12:=by rcases h with rfl|rfl|rfl<;>decide
theorem Ah.len {w:Str} (h:Ah w):w.length<=12:=by rcases h with rfl|rfl|rfl<;>decide
theorem rZ {n:Str} {p:Nat} (h:Nm n) (hp:p<=1000):(bX n p).length<=400:=by
 have h1:=h.len;have h2:=cT (n:=p) (by omega)
 have h4:(Str.ofString "dish").length=4:=by decide
 refine lT (fun z hz=>?_) (by show 3<=6;decide)
 simp only[E3,E9,or_false] at hz;rcases hz with rfl|rfl|rfl<;>omega
theorem r6 {ss:List SV} {i:Nat} {s:SV} (h:ss[i]?=some s):yz ss i=s.n:=by
 unfold yz;rw[List.getD_eq_getElem?_getD,E7,h]
 rfl
theorem A2.ref {α:Type} {f:α->List V} {P:Addr->Prop} {H:Hp} {vs:List V} {xs:List α} (r:A2 (cy f P H) vs xs):∃as:Iq,vs=as.map V.ref:=by
 refine ⟨vs.map fun v=>match v with| .ref a=>a|_=>0,?_⟩
 apply List.ext_getElem (by simp)
 intro i h1 h2;simp only[List.getElem_map];obtain ⟨x,_,t,e,_⟩:=r.at_ (E1 h1);rw[e]
theorem uO {x:Str} {i j:Int} (h:0<=i) (k:0<=j):(f7 x (some i) (some j)).length=min j.toNat x.length-min i.toNat x.length:=by
 have e1:HT.cZ x.length 0 (some i)=min i.toNat x.length:=by
  unfold HT.cZ;simp;omega
 have e2:HT.cZ x.length x.length (some j)=min j.toNat x.length:=by
  unfold HT.cZ;simp;omega
 show ((x.cps.toList.drop _).take _).toArray.size=_;rw[e1,e2,ES,EK,Eo];have:x.cps.toList.length=x.length:=by simp[Str.length]
 omega
theorem kz:∀{ys:List V},(∀y∈ys,∃z:Str,y= .str z/\z.length=1/\Lt z)->∃ws:Ip,ys=ws.map V.str/\(ws.map (fun x=>x.length)).sum=ws.length/\∀w∈ws,Lt w
 | [],_=>⟨[],rfl,rfl,fun w hw=>nomatch hw⟩
 |y::ys,h=>by
  obtain ⟨z,rfl,hz,lz⟩:=h y (by simp)
  obtain ⟨ws,rfl,hw,lw⟩:=kz (ys:=ys) fun y hy=>h y (E6 _ hy)
  refine ⟨z::ws,rfl,?_,fun w hw'=>?_⟩
  ·simp only[Fc,List.sum_cons,EQ];omega
  ·rcases E3.mp hw' with rfl|hw'
   ·exact lz
   ·exact lw w hw'
def du:Ip:= ["dish","take","cut","rest","warm","or","with","orwith","after","within","apart","dishes"]
theorem fY:Zs du:=⟨by decide,by decide+kernel,fun z hz=>(fW z).mp ((show ∀z∈du,yx z=true by decide+kernel) z hz)⟩
theorem Zs.turn {zs:Ip} (h:Zs zs) (i:Nat):Zs (zs.drop i++zs.take i):=by
 have p:(zs.drop i++zs.take i).Perm zs:=List.perm_append_comm.trans (by rw[EZ])
 exact ⟨p.length_eq.trans h.len,p.nodup_iff.mpr h.nd,fun z hz=>h.nm z (p.mem_iff.mp hz)⟩
theorem r8 {a n:Int} (k:0<n):∃j:Nat,a.fmod n=(j:Int)/\(j:Int)<n:=by
 have h1:=EH a k;have h2:=Ec a k;exact ⟨(a.fmod n).toNat,by omega,by omega⟩
theorem eE (n:Nat):Str.ofString (toString ((n:Nat):Int))=bK n:=iQ n
theorem A7 {w:Nat} (h:0<w) (l:w<10^30):rV (w,1)/\kx (w,1)=bK w:=by
 have dl:=dD (n:=w) (k:=29) l;refine ⟨⟨h,(CY (ET l (by decide+kernel))).ok fun n hn=>?_,ET l (by decide+kernel),(by show 1<1000;decide),?_⟩,?_⟩
 ·rw[EC.mp hn];exact dl
 ·show (cV w 1).length<=40;rw[jd];omega
 ·show bH (cV w 1)=_;rw[jd];rfl
theorem yB {t b:Nat} (t0:t≠0) (lt:t<b) (g:FC b t=1) (hb:b<1000):rV (t,b)/\kx (t,b)=bK t++ "/" ++bK b:=by
 have d1:=dD (n:=t) (k:=2) (by omega)
 have d2:=dD (n:=b) (k:=2) (by omega)
 refine ⟨⟨by show 0<t;omega,(AZ t0 lt g (ET hb (by decide+kernel))).ok fun n hn=>?_,ET (ET lt hb) (by decide+kernel),hb,?_⟩,?_⟩
 ·simp only[E3,E9,or_false] at hn;rcases hn with rfl|rfl<;>omega
 ·show (cV t b).length<=40;rw[gx t0 lt,EG,EQ];omega
 ·show bH (cV t b)=_;rw[gx t0 lt];show _=bH (dg t)++Str.ofString "/" ++bH (dg b);rw[dz,cH,cH,Es]
  rfl
theorem wB {w t b:Nat} (w0:w≠0) (lw:w<10^30) (t0:t≠0) (lt:t<b) (g:FC b t=1) (hb:b<1000):rV (w*b+t,b)/\kx (w*b+t,b)=bK w++ "+" ++bK t++ "/" ++bK b:=by
 have dw:=dD (n:=w) (k:=29) lw;have d1:=dD (n:=t) (k:=2) (by omega)
 have d2:=dD (n:=b) (k:=2) (by omega)
 have hp:w*b+t<10^40:=by
  have:w*b<=10^30*1000:=Nat.mul_le_mul (Nat.le_of_lt lw) (Nat.le_of_lt hb);have e:10^30*1000+1000<10^40:=by decide+kernel
  omega
 refine ⟨⟨by show 0<w*b+t;omega,(yi w0 t0 lt g (ET hb (by decide+kernel)) (ET hp (by decide+kernel))).ok fun n hn=>?_,hp,hb,?_⟩,?_⟩
 ·simp only[E3,E9,or_false] at hn;rcases hn with rfl|rfl|rfl<;>omega
 ·show (cV (w*b+t) b).length<=40;rw[eW w0 t0 lt,EG,EQ,EG,EQ];omega
 ·show bH (cV (w*b+t) b)=_;rw[eW w0 t0 lt];show _=bH (dg w)++Str.ofString "+" ++bH (dg t)++Str.ofString "/" ++bH (dg b);rw[dz,fQ,cH,cH,cH,cH]
  congr 1
  simp
theorem wC {x y:Nat} (h:0<x) (h2:x<y) (h3:y<1000):∃t b c:Nat,bA (y:Int) x=(c:Int)/\0<c/\(x:Int).fdiv c=(t:Int)/\(y:Int).fdiv c=(b:Int)/\t≠0/\t<b/\FC b t=1/\b<1000/\c<1000:=by
 have big:(1000:Int)<10^120:=by decide+kernel
 obtain ⟨g0,_,t,b,e1,e2,t0,lt,g,_⟩:=uc (x:=(x:Int)) (y:=(y:Int)) (by omega) (by omega) (by omega)
 have hc:bA (y:Int) x=((FC y x:Nat):Int):=by
  unfold bA;simp
 have cl:FC y x<=x:=Nat.gcd_le_right _ h;have bl:b<=y:=by
  rw[fdiv_nat' hc] at e2;have:((y/FC y x:Nat):Int)=b:=e2;have:=Nat.div_le_self y (FC y x);omega
 refine ⟨t,b,FC y x,hc,by omega,by rw[<-hc];exact e1,by rw[<-hc];exact e2,t0,lt,g,by omega,by omega⟩
where fdiv_nat' {y:Nat} {g:Int} {c:Nat} (hc:g=(c:Int)):(y:Int).fdiv g=((y/c:Nat):Int):=by rw[hc];exact m3 y c
end Sw
namespace L2
open PySem PySem.Spec PyProof.Rows XH
def C7 (K:D9) (n:Nat) (t:vz):TG:=fun v σ H Q=>∃a xs,v= .ref a/\aH K H a xs/\xs.length=n/\t xs σ H Q
theorem pD {X:Cx} {pos:Pos} {es:List Expr} {k:Nat} {t:vz} {n:Nat} (hc:X.calm=true) (h:Ap X es t)
  (hn:(assignEach es X.env).length=n:=by rfl) (hst:(assignEach es X.env).findIdx? (·.1)=none:=by rfl):PG X (.Tuple es k pos) (C7 X.K n t):=by
 intro pins s σ H v u Q I r hw;obtain ⟨a,xs,e1,hq,hl,hw⟩:=hw;subst e1;cases r;obtain ⟨its,rv,ht,hz⟩:=I.list hq;rw[assign_Tuple];refine wpAny_bind (wpAny_standAt ?_);unfold unpack;rw[show (assignEach es X.env).length=its.toArray.size by simp[hn,<-hl,rv.length],hst]
 refine wpAny_bind (wpAny_holding (PySem.W.kun_itemsOf (I.ok.hd hc) ht.isList fun h' hx=>?_))
 have I1:aR X pins σ H {s with heap:=h'}:=I.kept (t':=s.toks) fun b o e=>hx b o (EU (Heap.lt_size e)) e
 exact h pins _ σ H xs _ Q I1 (by simpa using rv) hw
end L2
namespace Sw
open PySem L2 XH Hm PySem.NumText
theorem pE:Str.ofString " " =jI:=by decide
theorem uP (g x:Str):Str.ofString "take " ++g++Str.ofString " " ++x=jB ["take",g,x]:=by
 rw[pE,show Str.ofString "take " =Str.ofString "take" ++jI from by decide,bT,bT,Ai]
 simp only[c8]
theorem C8 (w n x y:Str):w++Str.ofString " " ++n++Str.ofString " " ++x++Str.ofString " " ++y=jB [w,n,x,y]:=by
 rw[pE,bT,bT,bT,Ai];simp only[c8]
theorem yC (n x y:Str):Str.ofString "or " ++n++Str.ofString " " ++x++Str.ofString " " ++y=jB ["or",n,x,y]:=by
 rw[pE,show Str.ofString "or " =Str.ofString "or" ++jI from by decide,bT,bT,bT,Ai]
 simp only[c8]
theorem nJ (n x:Str):Str.ofString "dish " ++n++Str.ofString " " ++x=jB ["dish",n,x]:=by
 rw[pE,show Str.ofString "dish " =Str.ofString "dish" ++jI from by decide,bT,bT,Ai]
 simp only[c8]
theorem wD (w n t x y:Str):w++Str.ofString " " ++n++Str.ofString " " ++t++(Str.ofString " " ++x++Str.ofString " " ++y)=jB [w,n,t,x,y]:=by
 rw[pE,bT,bT,bT,bT,Ai];simp only[c8]
theorem C9 (w n x:Str):w++Str.ofString " " ++n++Str.ofString " " ++x=jB [w,n,x]:=by
 rw[pE,bT,bT,Ai];simp only[c8]
theorem nK {ws:Ip} (ne:ws≠ []) (x:Str):jB ws++Str.ofString " " ++x=jB (ws++ [x]):=by rw[yA ws ne,pE]
def A8 (H:Hp):uw->Option (Nat×Nat×List bP)->Prop
 |none,none=>True
 |some (x,y,bs),some (lo,hi,us)=>x=(lo:Int)/\y=(hi:Int)/\A2 (cy gE An H) (bs.map V.ref) us
 |_,_=>False
theorem wE {F:Iq} {H H':Hp} (g:aJ H H'):Kp F H H':=fun b o e _=>g _ _ e
theorem yD (a n:Nat):((a:Nat):Int).fmod (n:Int)=((a % n:Nat):Int):=(Int.ofNat_fmod a n).symm
theorem yE (a:Int) (b:Nat) (h:a=(b:Int)):a.fmod 12=((b % 12:Nat):Int):=by rw[h];exact yD b 12
theorem nL {zs:Ip} {i:Nat} {z:Str} (h:zs[i]?=some z):ig (zs.map V.str) (i:Int)=some (.str z):=aF (by rw[E7,h];rfl)
theorem yF {H2:Hp} {m lt ls lk:Addr} (nlt:H2 lt=none) (nls:aS H2 lt (.lst []) ls=none) (nlk:aS (aS H2 lt (.lst [])) ls (.lst []) lk=none) (nm:aS (aS (aS H2 lt (.lst [])) ls (.lst [])) lk (.lst []) m=none):
  ML H2 (aS (aS (aS (aS H2 lt (.lst [])) ls (.lst [])) lk (.lst [])) m (.lst [.ref lt,.ref ls,.ref lk])) m lt ls lk [] ⟨[],[],[]⟩:=by
 have k1:=aj nlt (.lst []);have k2:=aj nls (.lst []);have k3:=aj nlk (.lst []);have k4:=aj nm (.lst [.ref lt,.ref ls,.ref lk]);have k34:=k3.trans k4;have k24:=k2.trans k34;have k12:=k1.trans k2;have k13:=k12.trans k3;have f1:aS H2 lt (.lst []) lt=some (.lst []):=af;have f2:aS (aS H2 lt (.lst [])) ls (.lst []) ls=some (.lst []):=af;have f3:aS (aS (aS H2 lt (.lst [])) ls (.lst [])) lk (.lst []) lk=some (.lst []):=af;have d1:lt≠ls:=aM f1 nls;have d2:lt≠lk:=aM (k2 _ _ f1) nlk;have d3:ls≠lk:=aM f2 nlk;have d4:lt≠m:=aM ((k2.trans k3) _ _ f1) nm;have d5:ls≠m:=aM (k3 _ _ f2) nm;have d6:lk≠m:=aM f3 nm;constructor
 case fr=>exact k1.trans k24
 case nw=>
  intro x hx;simp only[cI,List.map_nil,List.flatten_nil,E3,E9,or_false] at hx;rcases hx with rfl|rfl|rfl|rfl
  ·exact k13.free nm
  ·exact nlt
  ·exact k1.free nls
  ·exact k12.free nlk
 case nd=>simp[cI,d1,d2,d3,d4.symm,d5.symm,d6.symm]
 case em=>exact af
 case et=>exact ⟨[],k24 _ _ f1,A2.nil⟩
 case es=>exact k34 _ _ f2
 case len=>rfl
 case ss=>intro i k s h;simp at h
 case ek=>exact ⟨[],k4 _ _ f3,A2.nil⟩
end Sw
namespace L2
open PySem PySem.Spec PyProof.Rows XH Sw
def lU (K:D9) (a:Addr) (xs:List V):Prop:=∃(o:Obj) (its:Array Value) (n:Nat),K.lookup a=some o/\o.cls= .type "tuple" /\o.data= .seq its n/\its.size<=sizeLine/\a9 xs its.toList
theorem lU.sq {K:D9} {a:Addr} {xs:List V} (h:lU K a xs) (H:Hp):bZ K H a xs:= .inr h
inductive sd (w:World) (K:D9):List DictEntry->List (Str×List V)->Prop where
 |nil:sd w K [] []
 |cons {k:Str} {tk:Tok} {t:Addr} {xs:List V} {es:List DictEntry} {fs:List (Str×List V)}:lU K t xs->sd w K es fs->sd w K (⟨hashStr w k,.str k tk,.ref t⟩::es) ((k,xs)::fs)
def nM (w:World) (K:D9) (a:Addr) (fs:List (Str×List V)):Prop:=(a==sysModules)=false/\∃(o:Obj) (es:Array DictEntry) (ep:Nat),K.lookup a=some o/\o.ExactDict/\o.data= .dict es ep/\sd w K es.toList fs
section
variable {X:Cx} {pins:Im} {σ:St} {H:Hp} {s:Shared} {a:Addr}
theorem sd.pairs {P:Program} {w:World} {K:D9} {es:List DictEntry} {fs:List (Str×List V)} (h:sd w K es fs):∃vs:List (Key×Value),Pairs (dH P w) es vs/\vs.map (·.1)=fs.map (fun p=>Sum.inr p.1)/\(∀e∈es,∃k,(dH P w).is k e.key=true/\e.hash=(dH P w).hash k)/\
  ∀(k:Str) (xs:List V),fs.lookup k=some xs->∃t,valueAt vs (Sum.inr k)=some (.ref t)/\lU K t xs:=by
 induction h with
 |nil=>exact ⟨[],.nil,rfl,(fun e he=>nomatch he),fun k xs h=>by cases h⟩
 | @cons k tk t xs es fs tv h ih=>
  obtain ⟨vs,p,e1,e2,e3⟩:=ih;refine ⟨(.inr k,.ref t)::vs,.cons (qb (k:= .inr k) ⟨_,rfl⟩) rfl p,by simp[e1],fun e he=>?_,fun j ys hj=>?_⟩
  ·rcases E3.mp he with rfl|he
   ·exact ⟨.inr k,qb (k:= .inr k) ⟨_,rfl⟩,rfl⟩
   ·exact e2 e he
  ·rw[List.lookup_cons] at hj
   by_cases c:j=k
   ·subst c;simp at hj;subst hj;exact ⟨t,by simp[valueAt],tv⟩
   ·rw[show (j==k)=false by simpa using c] at hj
    obtain ⟨t',h1,h2⟩:=e3 j ys hj;refine ⟨t',?_,h2⟩;unfold valueAt at h1⊢;rw[List.find?_cons_of_neg (by simp;exact fun z=>c z.symm)]
    exact h1
theorem nM.of {fs:List (Str×List V)} (I:aR X pins σ H s) (h:nM X.w X.K a fs) (nd:(fs.map fun p=>p.1).Nodup):(a==sysModules)=false/\∃vs:List (Key×Value),s.heap.DictOf (dH X.prog X.w) a vs/\(∀(k:Str) (xs:List V),fs.lookup k=some xs->∃t,valueAt vs (Sum.inr k)=some (.ref t)/\lU X.K t xs)/\∀k:Str,(valueAt vs (Sum.inr k)).isSome=(fs.lookup k).isSome:=by
 obtain ⟨h0,o,es,ep,hk,hx,hd,he⟩:=h;obtain ⟨vs,p,e1,e2,e3⟩:=he.pairs (P:=X.prog);refine ⟨h0,vs,⟨o,es,ep,I.kIn a o hk,hx,hd,fun e he=>e2 e (by simpa using he),p,?_⟩,e3,fun k=>?_⟩
 ·rw[e1,show (fs.map fun p=>(Sum.inr p.1:Key))=(fs.map fun p=>p.1).map Sum.inr by rw[FY];rfl]
  exact FE.mpr (nd.imp fun h z=>h (Sum.inr.inj z))
 ·cases h:fs.lookup k with
  |some xs=>
   obtain ⟨t,h1,_⟩:=e3 k xs h;rw[h1]
   rfl
  |none=>
   have nf:∀q∈vs,q.1≠Sum.inr k:=fun q hq z=>by
    have m:(Sum.inr k:Key)∈vs.map (·.1):=EO.mpr ⟨q,hq,z⟩;rw[e1] at m;obtain ⟨p,hp,e⟩:=EO.mp m;have e:=Sum.inr.inj e;have hn:=List.lookup_eq_none_iff.mp h p hp;rw[e] at hn;simp at hn
   unfold valueAt;rw[List.find?_eq_none.mpr fun q hq=>by simpa using nf q hq]
   rfl
def yG (w:World) (K:D9) (td ty:TE):TE:=fun σ H Q=>td σ H fun x H1=>ty σ H1 fun y H2=>∃(a:Addr) (fs:List (Str×List V)) (k:Str) (xs:List V),x= .ref a/\y= .str k/\nM w K a fs/\(fs.map fun p=>p.1).Nodup/\fs.lookup k=some xs/\∀t,lU K t xs->Q (.ref t) H2
theorem nN {K:D9} {w:World} {o i:Expr} {pos:Pos} {td ty:TE} (hK:X.K=K) (hw:X.w=w) (ho:PE X o td) (hi:PE X i ty) (hs:AF i):PE X (.Subscript o i pos) (yG w K td ty):=by
 subst hK hw;intro pins s σ H Q I h;refine vM PySem.F.slot_dict_getitem.lookup hs (b8 (ho pins s σ H _ I h) fun u s1 ⟨x,H1,I1,rx,q1⟩=>b8 (hi pins s1 σ H1 _ I1 q1) fun iv s2 ⟨y,H2,I2,ry,a,fs,k,xs,ex,ey,hd,nd,hl,q2⟩=>?_)
 subst ex ey;obtain rfl:u=Value.ref a:=rx;obtain ⟨h0,vs,dd,e3,e4⟩:=hd.of I2 nd;obtain ⟨t,h1,h2⟩:=e3 k xs hl;exact ⟨dd.typeIs,wpAny_getItem_of (qb (k:= .inr k) ry) dd.mapOf h1 ⟨.ref t,H2,I2.tok _,rfl,q2 t h2⟩⟩
theorem nO {K:D9} {w:World} (hK:X.K=K) (hw:X.w=w):gb X (compareOp .NotIn) (fun x y H Q=>∃(a:Addr) (fs:List (Str×List V)) (k:Str),x= .str k/\y= .ref a/\nM w K a fs/\(fs.map fun p=>p.1).Nodup/\Q (.bl (!(fs.lookup k).isSome)) H):=by
 subst hK hw;intro pins s σ H x y v u Q I rx ry h;obtain ⟨a,fs,k,rfl,rfl,hd,nd,q⟩:=h;cases ry;obtain ⟨h0,vs,dd,e3,e4⟩:=hd.of I nd;refine wpAny_notIn_of (qb (k:= .inr k) rx) h0 dd.mapOf ?_;refine ⟨.bl _,H,I.tok _,rfl,?_⟩;rw[<-e4] at q;exact q
end
end L2
namespace Sw
open PySem L2 XH Hm PySem.NumText
structure So where
 x:Addr
 u:Addr
 sec:Iu
def So.own (k:So):Iq:=k.x::k.u::k.sec.toList
def yH (H:Hp) (v:V):Iu->Option (Nat×Nat×List bP)->Prop
 |none,none=>v= .non
 |some l,some (lo,hi,us)=>∃t,v= .ref t/\H t=some (.tup [vN lo,vN hi,.ref l])/\Uz H l us
 |_,_=>False
section
variable (cC cR cW:Addr)
def SM (H:Hp) (k:So) (s:SV):Prop:=∃(C dx:Addr) (sv:V) (ff:List (Str×V)),H k.x=some (.ins C dx ff)/\iD cC cR cW s.w C/\wj ff (.str s.n) (vN s.lo) (vN s.hi) (.ref k.u) sv/\ff.length<=10/\gf H ff s.fill/\Uz H k.u s.uses/\yH H sv k.sec s.sec
def cg (r lt ls lk:Addr) (ks:List So):Iq:=r::lt::ls::lk::(ks.map So.own).flatten
structure RM (cRec:Addr) (G H:Hp) (r:Addr) (n:Str) (p:Nat) (lt ls lk:Addr) (ks:List So) (M:Md):Prop where
 fr:aJ G H
 nw:∀a∈cg r lt ls lk ks,G a=none
 nd:(cg r lt ls lk ks).Nodup
 er:xq cRec H r n p lt ls lk
 et:iK eD An H lt M.takes
 es:H ls=some (.lst (ks.map fun k=> .ref k.x))
 len:ks.length=M.steps.length
 ss:∀(i:Nat) (k:So) (s:SV),ks[i]?=some k->M.steps[i]?=some s->SM cC cR cW H k s
 ek:iK (cy sF) An H lk M.links
end
def qQ (F:Iq) (H:Hp):Prop:=∀b∈F,∀xs,H b≠some (.tup xs)
variable {F:Iq} {H H':Hp} {cC cR cW:Addr}
theorem Kp.tupM (h:Kp F H H') (q:qQ F H) {t:Addr} {xs:List V} (e:H t=some (.tup xs)):H' t=some (.tup xs):=h _ _ e fun m=>q t m xs e
theorem Kp.rtupM {α:Type} {f:α->List V} (h:Kp F H H') (q:qQ F H) {l:Addr} {xs:List α} (e:iK (cy f) An H l xs) (n:l∉F):iK (cy f) An H' l xs:=by
 obtain ⟨vs,e,r⟩:=e;exact ⟨vs,h _ _ e n,r.imp fun v x ⟨t,e1,e2,e3⟩=>⟨t,e1,e2,h.tupM q e3⟩⟩
theorem Kp.rtakeM (h:Kp F H H') (q:qQ F H) {l:Addr} {xs:List (Str×dX)} (e:iK eD An H l xs) (n:l∉F):iK eD An H' l xs:=by
 obtain ⟨vs,e,r⟩:=e;exact ⟨vs,h _ _ e n,r.imp fun v x ⟨t,b,e1,e2,e3,e4,e5⟩=>⟨t,b,e1,e2,e3,h.tupM q e4,h.tupM q e5⟩⟩
theorem Kp.fillM (h:Kp F H H') (q:qQ F H) {ff:List (Str×V)} {o:Option dX} (e:gf H ff o):gf H' ff o:=by
 cases o with
 |none=>exact e
 |some a=>obtain ⟨t,e1,e2⟩:=e;exact ⟨t,e1,h.tupM q e2⟩
theorem Kp.secM (h:Kp F H H') (q:qQ F H) {v:V} {o:Iu} {x:Option (Nat×Nat×List bP)} (e:yH H v o x) (n:∀b∈o.toList,b∉F):yH H' v o x:=by
 match o,x,e with
 |none,none,e=>exact e
 |some l,some (lo,hi,us),⟨t,e1,e2,e3⟩=>exact ⟨t,e1,h.tupM q e2,h.rtupM q e3 (n l (by simp))⟩
theorem Kp.sm (h:Kp F H H') (q:qQ F H) {k:So} {s:SV} (e:SM cC cR cW H k s) (n:∀b∈k.own,b∉F):SM cC cR cW H' k s:=by
 obtain ⟨C,dx,sv,ff,e1,e2,e3,e4,e5,e6,e7⟩:=e;exact ⟨C,dx,sv,ff,h _ _ e1 (n k.x (by simp[So.own])),e2,e3,e4,h.fillM q e5,h.rtupM q e6 (n k.u (by simp[So.own])),h.secM q e7 fun b hb=>n b (by simp only[So.own,E3];exact .inr (.inr hb))⟩
theorem fZ {x:Addr} {o:HO} (e:H x=some o) (n:∀xs,o≠ .tup xs):qQ [x] H:=fun b hb xs z=>by
 rw[EC.mp hb,e] at z;cases z;exact n xs rfl
theorem SM.fq {k:So} {s:SV} (h:SM cC cR cW H k s):qQ k.own H:=fun b hb xs z=>by
 obtain ⟨C,dx,sv,ff,e1,e2,e3,e4,e5,⟨vs,e6,_⟩,e7⟩:=h;unfold So.own at hb;rcases E3.mp hb with rfl|hb
 ·rw[e1] at z;cases z
 rcases E3.mp hb with rfl|hb
 ·rw[e6] at z;cases z
 generalize k.sec=o1,s.sec=o2 at hb e7
 match o1,o2,e7 with
 |none,none,e=>simp at hb
 |some l,some (lo,hi,us),⟨t,f1,f2,⟨_,f3,_⟩⟩=>
  have hb:b=l:=by simpa using hb
  rw[hb,f3] at z;cases z
theorem SM.all {k:So} {s:SV} (h:SM cC cR cW H k s):∀b∈k.own,H b≠none:=fun b hb z=>by
 obtain ⟨C,dx,sv,ff,e1,e2,e3,e4,e5,⟨vs,e6,_⟩,e7⟩:=h;unfold So.own at hb;rcases E3.mp hb with rfl|hb
 ·rw[e1] at z;cases z
 rcases E3.mp hb with rfl|hb
 ·rw[e6] at z;cases z
 generalize k.sec=o1,s.sec=o2 at hb e7
 match o1,o2,e7 with
 |none,none,e=>simp at hb
 |some l,some (lo,hi,us),⟨t,f1,f2,⟨_,f3,_⟩⟩=>
  have hb:b=l:=by simpa using hb
  rw[hb,f3] at z;cases z
theorem SM.same {k:So} {s:SV} (h:SM cC cR cW H k s) (g:aJ H H'):SM cC cR cW H' k s:=(lQ g).sm (fun b hb=>nomatch hb) h fun b _ z=>nomatch z
theorem SM.o {k:So} {s:SV} (h:SM cC cR cW H k s):wy cC cR cW H k.x s:=by
 obtain ⟨C,dx,sv,ff,e1,e2,e3,e4,e5,e6,e7⟩:=h;refine ⟨C,dx,k.u,sv,ff,e1,e2,e3,e5,e6,?_⟩;generalize k.sec=o1,s.sec=o2 at e7
 match o1,o2,e7 with
 |none,none,e=>exact e
 |some l,some (lo,hi,us),⟨t,f1,f2,f3⟩=>exact ⟨t,l,f1,f2,f3⟩
section
variable {cRec:Addr} {G:Hp} {r:Addr} {n:Str} {p:Nat} {lt ls lk:Addr} {ks:List So} {M:Md}
theorem RM.same (h:RM cC cR cW cRec G H r n p lt ls lk ks M) (g:aJ H H'):RM cC cR cW cRec G H' r n p lt ls lk ks M:=
 {h with fr:=h.fr.trans g,er:=h.er.same g,et:=h.et.same g,es:=g _ _ h.es,ss:=fun i k s e1 e2=>(h.ss i k s e1 e2).same g,ek:=h.ek.same g}
theorem RM.a (h:RM cC cR cW cRec G H r n p lt ls lk ks M):wz cC cR cW cRec H r n p M:=by
 refine ⟨lt,ls,lk,h.er,h.et,⟨_,h.es,by rw[E5];exact h.len,fun i v s e1 e2=>?_⟩,h.ek⟩
 rw[E7] at e1;obtain ⟨k,hk,rfl⟩:=Ed.mp e1;exact ⟨k.x,rfl,(h.ss i k s hk e2).o⟩
theorem nP {k:So} {b:Addr} (hk:k∈ks) (hb:b∈k.own):b∈cg r lt ls lk ks:=by
 unfold cg;refine E6 _ (E6 _ (E6 _ (E6 _ ?_)));exact Ey.mpr ⟨_,EO.mpr ⟨k,hk,rfl⟩,hb⟩
theorem RM.all (h:RM cC cR cW cRec G H r n p lt ls lk ks M):∀b∈cg r lt ls lk ks,H b≠none:=fun b hb z=>by
 unfold cg at hb;rcases E3.mp hb with rfl|hb
 ·obtain ⟨dx,e⟩:=h.er.ex;rw[e] at z;cases z
 rcases E3.mp hb with rfl|hb
 ·obtain ⟨vs,e,_⟩:=h.et;rw[e] at z;cases z
 rcases E3.mp hb with rfl|hb
 ·rw[h.es] at z;cases z
 rcases E3.mp hb with rfl|hb
 ·obtain ⟨vs,e,_⟩:=h.ek;rw[e] at z;cases z
 obtain ⟨o,ho,hb⟩:=Ey.mp hb;obtain ⟨k,hk,rfl⟩:=EO.mp ho;obtain ⟨i,hi⟩:=ED.mp hk;have il:i<M.steps.length:=by rw[<-h.len];exact bE hi
 exact (h.ss i k _ hi (E1 il)).all b hb z
theorem RM.step_ne (h:RM cC cR cW cRec G H r n p lt ls lk ks M) {k:So} {b x:Addr} (hk:k∈ks) (hb:b∈k.own) (hx:x=r∨x=lt∨x=ls∨x=lk):b≠x:=fun e=>by
 subst e;have nd:=h.nd;unfold cg at nd;have mem:b∈(ks.map So.own).flatten:=Ey.mpr ⟨_,EO.mpr ⟨k,hk,rfl⟩,hb⟩;simp only[Ee,E3,not_or] at nd;rcases hx with rfl|rfl|rfl|rfl
 ·exact nd.1.2.2.2 mem
 ·exact nd.2.1.2.2 mem
 ·exact nd.2.2.1.2 mem
 ·exact nd.2.2.2.1 mem
theorem RM.ne (h:RM cC cR cW cRec G H r n p lt ls lk ks M):r≠lt/\r≠ls/\r≠lk/\lt≠ls/\lt≠lk/\ls≠lk:=by
 have nd:=h.nd;unfold cg at nd;simp only[Ee,E3,not_or] at nd;exact ⟨nd.1.1,nd.1.2.1,nd.1.2.2.1,nd.2.1.1,nd.2.1.2.1,nd.2.2.1.1⟩
theorem xq.kp {F:Iq} (h:xq cRec H r n p lt ls lk) (kp:Kp F H H') (nr:r∉F):xq cRec H' r n p lt ls lk:=by
 obtain ⟨dx,e⟩:=h.ex;exact ⟨dx,kp _ _ e nr⟩
theorem RM.take (h:RM cC cR cW cRec G H r n p lt ls lk ks M) {vs:List V} {v:V} {x:Str×dX} (e:H lt=some (.lst vs)) (hv:eD An H v x):RM cC cR cW cRec G (aS H lt (.lst (vs++ [v]))) r n p lt ls lk ks {M with takes:=M.takes++ [x]}:=by
 obtain ⟨n1,n2,n3,n4,n5,n6⟩:=h.ne;have q:qQ [lt] H:=fZ e nofun;have kp:=(Kp.refl [lt] H).put (x:=lt) (by simp) (.lst (vs++ [v]))
 refine {h with fr:=dW h.fr (h.nw lt (by simp[cg])) _,er:=h.er.kp kp (by simpa using n1),et:=?_,es:=kp _ _ h.es (by simpa using n4.symm),ss:=fun i k s e1 e2=>kp.sm q (h.ss i k s e1 e2) fun b hb=>by simpa using h.step_ne (E4 e1) hb (.inr (.inl rfl)),ek:=kp.rtupM q h.ek (by simpa using n5.symm)}
 obtain ⟨us,e',rr⟩:=h.et;rw[e] at e';cases e';exact ⟨_,af,(rr.snoc hv).imp fun v x ⟨t,b,e1,e2,e3,e4,e5⟩=>⟨t,b,e1,e2,e3,kp.tupM q e4,kp.tupM q e5⟩⟩
theorem RM.link (h:RM cC cR cW cRec G H r n p lt ls lk ks M) {vs:List V} {v:V} {x:wu} (e:H lk=some (.lst vs)) (hv:cy sF An H v x):RM cC cR cW cRec G (aS H lk (.lst (vs++ [v]))) r n p lt ls lk ks {M with links:=M.links++ [x]}:=by
 obtain ⟨n1,n2,n3,n4,n5,n6⟩:=h.ne;have q:qQ [lk] H:=fZ e nofun;have kp:=(Kp.refl [lk] H).put (x:=lk) (by simp) (.lst (vs++ [v]))
 refine {h with fr:=dW h.fr (h.nw lk (by simp[cg])) _,er:=h.er.kp kp (by simpa using n3),et:=kp.rtakeM q h.et (by simpa using n5),es:=kp _ _ h.es (by simpa using n6),ss:=fun i k s e1 e2=>kp.sm q (h.ss i k s e1 e2) fun b hb=>by simpa using h.step_ne (E4 e1) hb (.inr (.inr (.inr rfl))),ek:=?_}
 obtain ⟨us,e',rr⟩:=h.ek;rw[e] at e';cases e';exact ⟨_,af,(rr.snoc hv).imp fun v x ⟨t,e1,e2,e3⟩=>⟨t,e1,e2,kp.tupM q e3⟩⟩
theorem RM.step {H0:Hp} (h:RM cC cR cW cRec G H0 r n p lt ls lk ks M) (g:aJ H0 H) {k:So} {s:SV} (hs:SM cC cR cW H k s) (nk:∀a∈k.own,H0 a=none) (nd:k.own.Nodup):RM cC cR cW cRec G (aS H ls (.lst ((ks.map fun k=>V.ref k.x)++ [.ref k.x]))) r n p lt ls lk (ks++ [k]) {M with steps:=M.steps++ [s]}:=by
 have all:=h.all;have h1:=h.same g;obtain ⟨n1,n2,n3,n4,n5,n6⟩:=h.ne;have q:qQ [ls] H:=fZ h1.es nofun;have kp:=(Kp.refl [ls] H).put (x:=ls) (by simp) (.lst ((ks.map fun k=>V.ref k.x)++ [.ref k.x]))
 have eo:cg r lt ls lk (ks++ [k])=cg r lt ls lk ks++k.own:=by simp[cg]
 have dj:∀a∈k.own,a∉cg r lt ls lk ks:=fun a ha hm=>all a hm (nk a ha)
 refine {fr:=dW h1.fr (h.nw ls (by simp[cg])) _,nw:=?_,nd:=?_,er:=h1.er.kp kp (by simpa using n2),et:=kp.rtakeM q h1.et (by simpa using n4),es:=by rw[af,FH];rfl,len:=by simp[h.len],ss:=?_,ek:=kp.rtupM q h1.ek (by simpa using n6.symm)}
 ·rw[eo];intro a ha;rcases EI.mp ha with ha|ha
  ·exact h.nw a ha
  ·exact h.fr.free (nk a ha)
 ·rw[eo,Ew];exact ⟨h.nd,nd,fun a ha b hb e=>dj b hb (e▸ha)⟩
 ·intro i k' s' e1 e2;rcases gR e1 with e1|⟨ei,rfl⟩
  ·have il:i<M.steps.length:=by rw[<-h.len];exact bE e1
   have e2':M.steps[i]?=some s':=by
    rw[<-e2];exact (EF il).symm
   exact kp.sm q (h1.ss i k' s' e1 e2') fun b hb=>by simpa using h.step_ne (E4 e1) hb (.inr (.inr (.inl rfl)))
  ·have e2':s=s':=by
    rw[ei,h.len] at e2;simp at e2;exact e2
   subst e2';exact kp.sm q hs fun b hb z=>dj b hb (by rw[EC.mp z];simp[cg])
theorem RM.set (h:RM cC cR cW cRec G H r n p lt ls lk ks M) {i:Nat} {k k':So} {s s':SV} (e1:ks[i]?=some k) (e2:M.steps[i]?=some s) (kp:Kp k.own H H') (hs:SM cC cR cW H' k' s') (ea:k'.x=k.x) (nk:∀a∈k'.own,a∈k.own∨H a=none) (nd:k'.own.Nodup):RM cC cR cW cRec G H' r n p lt ls lk (ks.set i k') {M with steps:=M.steps.set i s'}:=by
 have all:=h.all;have q:=(h.ss i k s e1 e2).fq;have mk:=E4 e1;have il:=bE e1;have n4:∀x,(x=r∨x=lt∨x=ls∨x=lk)->x∉k.own:=fun x hx z=>h.step_ne mk z hx rfl
 have ndf:=h.nd;have spl:ks=ks.take i++k::ks.drop (i+1):=by
  rw[E1 il] at e1;rw[<-EL e1,<-FN il,EZ]
 have spl':ks.set i k'=ks.take i++k'::ks.drop (i+1):=by rw[List.set_eq_take_append_cons_drop,if_pos il]
 have own1:cg r lt ls lk ks=(r::lt::ls::lk::((ks.take i).map So.own).flatten)++(k.own++((ks.drop (i+1)).map So.own).flatten):=by
  unfold cg
  conv=>lhs;rw[spl]
  simp
 have own2:cg r lt ls lk (ks.set i k')=(r::lt::ls::lk::((ks.take i).map So.own).flatten)++(k'.own++((ks.drop (i+1)).map So.own).flatten):=by
  unfold cg;rw[spl'];simp
 rw[own1,Ew,Ew] at ndf;obtain ⟨d1,⟨d2,d3,d4⟩,d5⟩:=ndf;have inO:∀a,a∈(r::lt::ls::lk::((ks.take i).map So.own).flatten)∨a∈((ks.drop (i+1)).map So.own).flatten->H a≠none/\a∉k.own:=fun a ha=>by
  refine ⟨all a (by rw[own1];rcases ha with ha|ha;exact Ez _ ha;exact EE _ (EE _ ha)),fun z=>?_⟩
  rcases ha with ha|ha
  ·exact d5 a ha a (Ez _ z) rfl
  ·exact d4 a z a ha rfl
 refine {fr:=?_,nw:=?_,nd:=?_,er:=h.er.kp kp (n4 _ (.inl rfl)),et:=kp.rtakeM q h.et (n4 _ (.inr (.inl rfl))),es:=?_,len:=by simp[h.len],ss:=?_,ek:=kp.rtupM q h.ek (n4 _ (.inr (.inr (.inr rfl))))}
 ·exact fun b o e=>kp _ _ (h.fr _ _ e) fun z=>by
   have:=h.nw b (nP mk z);rw[this] at e;cases e
 ·rw[own2];intro a ha;rcases EI.mp ha with ha|ha
  ·exact h.nw a (by rw[own1];exact Ez _ ha)
  rcases EI.mp ha with ha|ha
  ·rcases nk a ha with hk|hn
   ·exact h.nw a (nP mk hk)
   ·exact h.fr.free hn
  ·exact h.nw a (by rw[own1];exact EE _ (EE _ ha))
 ·rw[own2,Ew,Ew];refine ⟨d1,⟨nd,d3,fun a ha b hb e=>?_⟩,fun a ha b hb e=>?_⟩
  ·have:=inO b (.inr hb);rcases nk a ha with hk|hn
   ·exact this.2 (e▸hk)
   ·exact this.1 (e▸hn)
  ·have:=inO a (.inl ha);rcases EI.mp hb with hb|hb
   ·rcases nk b hb with hk|hn
    ·exact this.2 (e▸hk)
    ·exact this.1 (e▸hn)
   ·exact d5 a ha b (EE _ hb) e
 ·rw[kp _ _ h.es (n4 _ (.inr (.inr (.inl rfl))))]
  congr 2
  apply FF;intro j;rw[E7,E7,List.getElem?_set]
  by_cases c:i=j
  ·subst c;rw[if_pos rfl,if_pos il,e1];simp[ea]
  ·rw[if_neg c]
 ·intro j kj sj f1 f2;have f2':(M.steps.set i s')[j]?=some sj:=f2;rw[List.getElem?_set] at f1 f2'
  by_cases c:i=j
  ·subst c;rw[if_pos rfl] at f1 f2';rw[if_pos il] at f1;rw[if_pos (by rw[<-h.len];exact il)] at f2'
   cases f1;cases f2';exact hs
  ·rw[if_neg c] at f1 f2';refine kp.sm q (h.ss j kj sj f1 f2') fun b hb z=>?_
   have mj:kj∈ks.take i∨kj∈ks.drop (i+1):=by
    by_cases lt:j<i
    ·exact .inl (E4 (i:=j) (by rw[List.getElem?_take,if_pos lt];exact f1))
    ·exact .inr (E4 (i:=j-(i+1)) (by rw[List.getElem?_drop,show i+1+(j-(i+1))=j by omega];exact f1))
   rcases mj with mj|mj
   ·exact (inO b (.inl (by
     refine E6 _ (E6 _ (E6 _ (E6 _ ?_)));exact Ey.mpr ⟨_,EO.mpr ⟨kj,mj,rfl⟩,hb⟩))).2 z
   ·exact (inO b (.inr (Ey.mpr ⟨_,EO.mpr ⟨kj,mj,rfl⟩,hb⟩))).2 z
end
end Sw
namespace L2
open PySem PySem.Spec PyProof.Rows
def yI (h:Heap) (j q:Addr) (k:Nat) (xs:Array Value):Prop:=IsTupIter h j q k/\IsTup h q xs
theorem yI.but {h h':Heap} {j q b:Addr} {k:Nat} {xs:Array Value} (x:yI h j q k xs) (e:Heap.SameBut b h h') (n1:j≠b) (n2:q≠b):yI h' j q k xs:=⟨x.1.extBut e.extBut n1,x.2.extBut e.extBut n2⟩
section
variable {prog:Program} {w:World} {A:Around} {E:Ik} {s:Shared}
theorem qR {j q:Addr} {k:Nat} {xs:Array Value} {x:Value} {Q:Ik} (t:yI s.heap j q k xs) (qj:q≠j) (hx:xs[k]?=some x) (go:∀h',yI h' j q (k+1) xs->Heap.SameBut j s.heap h'->Q x {s with heap:=h'}):wpAny (model prog w) A (Builtin.SmallTypes.nextOf (.ref j)) Q E s:=by
 obtain ⟨oj,gj,cj,dj⟩:=id t.1;obtain ⟨oq,gq,_,nq,dq⟩:=id t.2;unfold Builtin.SmallTypes.nextOf;refine wpAny_bind (wpAny_callSpecial?_slot (name:=Str.ofString "__next__") t.1.typeIs slot_tupleiter_next (wpAny_call_entry slot_tupleiter_next t.1.typeIs entry_tupleiter_next ?_ (args_tupleiter_next _)));refine wpAny_bind (m:=field (.ref j) 0) (wpAny_field gj dj (x:= .ref q) rfl ?_);show wpAny _ _ (if (Value.ref q==Value.none)=true then _ else _) _ _ s
 rw[if_neg (show ¬(Value.ref q==Value.none)=true from EM)]
 refine wpAny_bind (m:=field (.ref j) 1) (wpAny_field gj dj (x:= .int k 0) rfl (wpAny_bind (m:=seqItems? (.ref q)) (wpAny_seqItems gq dq ?_)));simp only[Int.toNat_natCast,hx];refine wpAny_bind (wpAny_setField gj dj (by simp) (wpAny_pure ⟨x,rfl,wpAny_pure (go _ ⟨?_,t.2.extBut (Heap.SameBut.update ..).extBut qj⟩ (Heap.SameBut.update ..))⟩))
 refine ⟨_,Heap.get?_update_self _ gj (Obj.isFreed_of_fields (Obj.data_mapFields dj _)),(Obj.cls_mapFields ..).trans cj,?_⟩;rw[Obj.data_mapFields dj];simp[rawInt]
theorem wF {j q:Addr} {k:Nat} {xs:Array Value} {Q:Ik} (calm:A.handled=none) (t:yI s.heap j q k xs) (hx:xs[k]?=none) (go:∀h' e,Heap.ExtBut j s.heap h'->(∃o,h'.get? e=some o/\o.cls= .type "StopIteration")->E (.ref e) {s with heap:=h'}):wpAny (model prog w) A (Builtin.SmallTypes.nextOf (.ref j)) Q E s:=by
 obtain ⟨oj,gj,cj,dj⟩:=id t.1;obtain ⟨oq,gq,_,nq,dq⟩:=id t.2;unfold Builtin.SmallTypes.nextOf;refine wpAny_bind (wpAny_callSpecial?_slot (name:=Str.ofString "__next__") t.1.typeIs slot_tupleiter_next (wpAny_call_entry slot_tupleiter_next t.1.typeIs entry_tupleiter_next ?_ (args_tupleiter_next _)));refine wpAny_bind (m:=field (.ref j) 0) (wpAny_field gj dj (x:= .ref q) rfl ?_);show wpAny _ _ (if (Value.ref q==Value.none)=true then _ else _) _ _ s
 rw[if_neg (show ¬(Value.ref q==Value.none)=true from EM)]
 refine wpAny_bind (m:=field (.ref j) 1) (wpAny_field gj dj (x:= .int k 0) rfl (wpAny_bind (m:=seqItems? (.ref q)) (wpAny_seqItems gq dq ?_)));simp only[Int.toNat_natCast,hx];refine wpAny_bind (wpAny_rule (wpAny_bind (wpAny_setField gj dj (by simp) (wpAny_bind (m:=newExc (.type "StopIteration") []) ?_))))
 simp only[newExc,newTuple];refine wpAny_bind (wpAny_newObj_type (wpAny_bind (m:=firstArgMember _ _) (wpAny_of_eq (a:=Value.none) (by first|rfl|(simp only[firstArgMember];rfl)) (wpAny_newObj_type ?_ (by size_fits)))) (by size_fits))
 simp only[raiseNew];refine wpAny_bind (wpAny_handled ?_)
 first|rw[show A.in1.handled=none from calm]|rw[calm]
 exact wpAny_bind (wpAny_pure (wpAny_throw (go _ _ (((Heap.SameBut.update ..).extBut.push _).push _) ⟨_,Heap.get?_push_size _ rfl,rfl⟩)))
variable {y ti to j1 j2 q l:Addr} {k:Nat} {xs ys:Array Value} {a b:Value}
structure Da (h:Heap) (y ti to j1 j2 q l:Addr) (k:Nat) (xs ys:Array Value) (a b:Value):Prop where
 z:IsZip h y ti to .none
 i:IsPair h ti (.ref j1) (.ref j2)
 o:IsPair h to a b
 t:yI h j1 q k xs
 n:h.IsListIter j2 l k
 li:h.IsList l ys
theorem wG {x v:Value} {Q:Iv->Shared->Prop} (D:ZipApart y ti to j1 j2 q l) (S:Da s.heap y ti to j1 j2 q l k xs ys a b) (hx:xs[k]?=some x) (hv:ys[k]?=some v)
  (fin:∀h',IsZip h' y ti to (rawInt s.heap.objs.size)->IsPair h' to x v->IsTupIter h' j1 q (k+1)->h'.IsListIter j2 l (k+1)->IsPair h' s.heap.objs.size x v->h'.objs.size=s.heap.objs.size+1->
   (∀c o,c≠y->c≠to->c≠j1->c≠j2->s.heap.get? c=some o->h'.get? c=some o)->Q (some (.ref s.heap.objs.size)) {s with heap:=h'}):wpAny (model prog w) A (pyNext (.ref y)) Q E s:=by
 obtain ⟨sz,si,so,st,sn,sl⟩:=S;have ty:s.TypeIs (.ref y) "zip" :=⟨_,sz,rfl⟩;unfold pyNext;refine wpAny_bind (wpAny_attempt (wpAny_callSpecial?_slot (name:=Str.ofString "__next__") ty F.slot_zip_next (wpAny_call_entry F.slot_zip_next ty F.entry_zip_next ?_ (F.args_zip_next_1 _))));refine wpAny_bind (m:=field (.ref y) 2) (wpAny_field sz rfl (x:= .bool false) rfl (wpAny_bind (m:=field (.ref y) 3) (wpAny_field sz rfl (x:= .ref ti) rfl (wpAny_bind (wpAny_seqItems si rfl (wpAny_bind (m:=Builtin.SmallTypes.ownedTupleIsFree (.ref y)) ?_))))));unfold Builtin.SmallTypes.ownedTupleIsFree;refine wpAny_bind (wpAny_field sz rfl (x:= .none) rfl (wpAny_pure ?_));simp only[if_true];refine wpAny_bind (wpAny_rule (wpAny_bind (wpAny_field sz rfl (x:= .ref to) rfl (wpAny_bind (wpAny_setField_rec sz (by simp) fun e1 (z1:IsZip e1 y ti to .ellipsis) u1=>wpAny_bind ?_)))))
 simp only[List.zipIdx_cons,List.zipIdx_nil,List.forIn_cons,List.forIn_nil];refine wpAny_bind (wpAny_bind (wpAny_onRaise (wpAny_bind (m:=Builtin.SmallTypes.nextOf (.ref j1)) (qR (st.but u1 D.i1z D.l1z) D.l1i1 hx fun e2 t2 u2=>wpAny_pure ?_))))
 have o2:IsPair e2 to a b:=u2.extBut _ _ D.TOi1 (u1.extBut _ _ D.TOz so);refine wpAny_bind (wpAny_seqItems o2 rfl (wpAny_bind (wpAny_updateSeq_pair o2 fun e3 (o3:IsPair e3 to x b) u3=>wpAny_bind (wpAny_letGo (wpAny_pure ?_)))))
 have n3:=((sn.extBut u1.extBut D.i2z).extBut u2.extBut D.i12.symm).extBut u3.extBut D.TOi2.symm;have l3:=((sl.extBut u1.extBut D.l2z).extBut u2.extBut D.l2i1).extBut u3.extBut D.l2TO;refine wpAny_bind (wpAny_bind (wpAny_onRaise (wpAny_bind (m:=Builtin.SmallTypes.nextOf (.ref j2)) (wpAny_nextOf_list_item n3 l3 hv fun e4 n4 u4=>wpAny_pure ?_))))
 have o4:IsPair e4 to x b:=u4.extBut _ _ D.TOi2 o3;refine wpAny_bind (wpAny_seqItems o4 rfl (wpAny_bind (wpAny_updateSeq_pair o4 fun e5 (o5:IsPair e5 to x v) u5=>wpAny_bind (wpAny_letGo (wpAny_pure (wpAny_pure ?_))))))
 refine wpAny_bind (wpAny_seqItems o5 rfl (wpAny_bind (wpAny_newTuple (wpAny_bind (m:=Builtin.SmallTypes.ownedTupleHandOut (.ref y) (.ref e5.objs.size)) ?_))));have sz5:e5.objs.size=s.heap.objs.size:=by rw[u5.1,u4.1,u3.1,u2.1,u1.1]
 have all5:∀c o,c≠y->c≠to->c≠j1->c≠j2->s.heap.get? c=some o->e5.get? c=some o:=fun c o c1 c2 c3 c4 e=>u5.extBut _ _ c2 (u4.extBut _ _ c4 (u3.extBut _ _ c2 (u2.extBut _ _ c3 (u1.extBut _ _ c1 e))))
 have z5:IsZip e5 y ti to .ellipsis:=u5.extBut _ _ D.TOz.symm (u4.extBut _ _ D.i2z.symm (u3.extBut _ _ D.TOz.symm (u2.extBut _ _ D.i1z.symm z1)));have i5:IsTupIter e5 j1 q (k+1):=((t2.1.extBut u3.extBut D.TOi1.symm).extBut u4.extBut D.i12).extBut u5.extBut D.TOi1.symm;have n5:e5.IsListIter j2 l (k+1):=n4.extBut u5.extBut D.TOi2.symm;have yl:y<e5.objs.size:=Heap.lt_size z5;unfold Builtin.SmallTypes.ownedTupleHandOut;have z6:IsZip (e5.push {cls:= .type "tuple",data:= .seq #[x,v]}) y ti to .ellipsis:=Heap.get?_push_of_some _ z5;refine wpAny_bind (wpAny_setField_rec z6 (by simp) fun e7 (z7:IsZip e7 y ti to (rawInt e5.objs.size)) u7=>wpAny_setField_rec z7 (by simp) fun e8 (z8:IsZip e8 y ti to (rawInt e5.objs.size)) u8=>?_)
 have up:∀c o,c≠y->e5.get? c=some o->e8.get? c=some o:=fun c o c1 e=>u8.extBut _ _ c1 (u7.extBut _ _ c1 (Heap.get?_push_of_some _ e))
 have p8:IsPair e8 e5.objs.size x v:=u8.extBut _ _ (FK yl) (u7.extBut _ _ (FK yl) (Heap.get?_push_size _ rfl));have sz8:e8.objs.size=e5.objs.size+1:=by rw[u8.1,u7.1,Heap.size_push]
 rw[sz5] at z8 p8 sz8;refine wpAny_pure ⟨_,rfl,wpAny_pure ?_⟩;show Q (some (.ref e5.objs.size)) _;rw[sz5];obtain ⟨oi,gi,ri⟩:=i5;exact fin e8 z8 (up _ _ D.TOz o5) ⟨oi,up _ _ D.i1z gi,ri⟩ (n5.at fun o e=>up _ o D.i2z e) p8 sz8 fun c o c1 c2 c3 c4 e=>up c o c1 (all5 c o c1 c2 c3 c4 e)
theorem yJ {Q:Iv->Shared->Prop} (calm:A.handled=none) (D:ZipApart y ti to j1 j2 q l) (S:Da s.heap y ti to j1 j2 q l k xs ys a b) (hend:xs[k]?=none∨ys[k]?=none)
  (fin:∀h',(∀c o,c≠y->c≠to->c≠j1->c≠j2->s.heap.get? c=some o->h'.get? c=some o)->Q none {s with heap:=h'}):wpAny (model prog w) A (pyNext (.ref y)) Q E s:=by
 obtain ⟨sz,si,so,st,sn,sl⟩:=S;have ty:s.TypeIs (.ref y) "zip" :=⟨_,sz,rfl⟩;unfold pyNext;have out:∀h' e,(∀c o,c≠y->c≠to->c≠j1->c≠j2->s.heap.get? c=some o->h'.get? c=some o)->(∃o,h'.get? e=some o/\o.cls= .type "StopIteration")->wpAny (model prog w) A (do if<-isInstance (.ref e) (.type "StopIteration") then pure none else throw (.ref e)) Q E {s with heap:=h'}:=fun h' e hk he=>by
  obtain ⟨oe,ge,ce⟩:=he;exact wpAny_bind (wpAny_isInstance (T:= "StopIteration") (b:=true) ⟨oe,ge,ce⟩ isSubtype_stop (wpAny_pure (fin _ hk)))
 refine wpAny_bind (wpAny_attempt (wpAny_callSpecial?_slot (name:=Str.ofString "__next__") ty F.slot_zip_next (wpAny_call_entry F.slot_zip_next ty F.entry_zip_next ?_ (F.args_zip_next_1 _))));refine wpAny_bind (m:=field (.ref y) 2) (wpAny_field sz rfl (x:= .bool false) rfl (wpAny_bind (m:=field (.ref y) 3) (wpAny_field sz rfl (x:= .ref ti) rfl (wpAny_bind (wpAny_seqItems si rfl (wpAny_bind (m:=Builtin.SmallTypes.ownedTupleIsFree (.ref y)) ?_))))));unfold Builtin.SmallTypes.ownedTupleIsFree;refine wpAny_bind (wpAny_field sz rfl (x:= .none) rfl (wpAny_pure ?_));simp only[if_true];refine wpAny_bind (wpAny_rule (wpAny_bind (wpAny_field sz rfl (x:= .ref to) rfl (wpAny_bind (wpAny_setField_rec sz (by simp) fun e1 (z1:IsZip e1 y ti to .ellipsis) u1=>wpAny_bind ?_)))))
 simp only[List.zipIdx_cons,List.zipIdx_nil,List.forIn_cons,List.forIn_nil];cases hx:xs[k]? with
 |none=>
  refine wpAny_bind (wpAny_bind (wpAny_onRaise (wpAny_bind (m:=Builtin.SmallTypes.nextOf (.ref j1)) (wF calm (st.but u1 D.i1z D.l1z) hx fun e2 e u2 he=>?_))))
  obtain ⟨oe,ge,ce⟩:=he;have z2:IsZip e2 y ti to .ellipsis:=u2 _ _ D.i1z.symm z1;have ey:e≠y:=fun c=>by subst c;rw[z2] at ge;cases ge;simp at ce
  exact wpAny_setField_rec z2 (by simp) fun e3 _ u3=>out e3 e (fun c o c1 _ c3 _ g=>u3.extBut _ _ c1 (u2 _ _ c3 (u1.extBut _ _ c1 g))) ⟨oe,u3.extBut _ _ ey ge,ce⟩
 |some x=>
  have hy:ys[k]?=none:=by rcases hend with h|h;rw[hx] at h;cases h;exact h
  refine wpAny_bind (wpAny_bind (wpAny_onRaise (wpAny_bind (m:=Builtin.SmallTypes.nextOf (.ref j1)) (qR (st.but u1 D.i1z D.l1z) D.l1i1 hx fun e2 t2 u2=>wpAny_pure ?_))))
  have o2:IsPair e2 to a b:=u2.extBut _ _ D.TOi1 (u1.extBut _ _ D.TOz so);refine wpAny_bind (wpAny_seqItems o2 rfl (wpAny_bind (wpAny_updateSeq_pair o2 fun e3 o3 u3=>wpAny_bind (wpAny_letGo (wpAny_pure ?_)))))
  have n3:=((sn.extBut u1.extBut D.i2z).extBut u2.extBut D.i12.symm).extBut u3.extBut D.TOi2.symm;have l3:=((sl.extBut u1.extBut D.l2z).extBut u2.extBut D.l2i1).extBut u3.extBut D.l2TO;refine wpAny_bind (wpAny_bind (wpAny_onRaise (wpAny_bind (m:=Builtin.SmallTypes.nextOf (.ref j2)) (wpAny_nextOf_list_end calm n3 l3 hy fun e4 e u4 he=>?_))))
  obtain ⟨oe,ge,ce⟩:=he;have z4:IsZip e4 y ti to .ellipsis:=u4 _ _ D.i2z.symm (u3.extBut _ _ D.TOz.symm (u2.extBut _ _ D.i1z.symm z1));have ey:e≠y:=fun c=>by subst c;rw[z4] at ge;cases ge;simp at ce
  exact wpAny_setField_rec z4 (by simp) fun e5 _ u5=>out e5 e (fun c o c1 c2 c3 c4 g=>u5.extBut _ _ c1 (u4 _ _ c4 (u3.extBut _ _ c2 (u2.extBut _ _ c3 (u1.extBut _ _ c1 g))))) ⟨oe,u5.extBut _ _ ey ge,ce⟩
end
def DG (n:Nat) (q l:Addr):List Obj:= [{cls:= .type "tuple_iterator",data:= .fields #[.ref q,.int 0 0]},{cls:= .type "list_iterator",data:= .fields #[.ref l,.int 0 0]},{cls:= .type "tuple",data:= .seq #[.ref n,.ref (n+1)]},{cls:= .type "tuple",data:= .seq #[.none,.none]},{cls:= .type "zip",data:= .fields #[.none,.bool false,.bool false,.ref (n+2),.ref (n+3)]}]
def Db (h:Heap) (q l:Addr):Heap:=(DG h.objs.size q l).foldl Heap.push h
theorem uQ (q l:Addr) (xs ys:Array Value):Meets (Builtin.«zip.__new__» ⟨[.type "zip",.ref q,.ref l],[]⟩) (fun _ R s=>IsTup s.heap q xs/\s.heap.IsList l ys/\R (.ok (.ret (.ref (s.heap.objs.size+4)))) {s with heap:=Db s.heap q l}):=
 .of_wp fun prog w A R s k=>by
  obtain ⟨hp,g,d,tk,os⟩:=s;obtain ⟨k1,k2,k3⟩:=k;have sub:=sub_zip;have c1:IsTup (Shared.heap ⟨hp,g,d,tk,os⟩) q xs:=k1;have c2:Heap.IsList (Shared.heap ⟨hp.push {cls:= .type "tuple_iterator",data:= .fields #[.ref q,.int 0 0]},g,d,tk,os⟩) l ys:=Heap.IsList.push k2 _
  wp_walk using iter_tuple c1,wpAny_pyIter_list c2
  refine ⟨_,rfl,?_⟩;simp only[Heap.size_push];exact k3
section
variable {prog:Program} {w:World} {A:Around} {E:Ik} {s:Shared}
theorem wH {q l:Addr} {xs ys:Array Value} {Q:Ik} (h1:IsTup s.heap q xs) (h2:s.heap.IsList l ys)
  (fin:∀h',Da h' (s.heap.objs.size+4) (s.heap.objs.size+2) (s.heap.objs.size+3) s.heap.objs.size (s.heap.objs.size+1) q l 0 xs ys .none .none->(∀c o,s.heap.get? c=some o->h'.get? c=some o)->Q (.ref (s.heap.objs.size+4)) {s with heap:=h'}):
  wpAny (model prog w) A (call (.type "zip") [.ref q,.ref l]) Q E s:=by
 have kp:∀c o,s.heap.get? c=some o->(Db s.heap q l).get? c=some o:=fun c o e=>by
  unfold Db DG;simp only[List.foldl_cons,List.foldl_nil];exact Heap.get?_push_of_some _ (Heap.get?_push_of_some _ (Heap.get?_push_of_some _ (Heap.get?_push_of_some _ (Heap.get?_push_of_some _ e))))
 have at_:∀(h:Heap) (o1 o2 o3 o4 o5:Obj),o1.isFreed=false->o2.isFreed=false->o3.isFreed=false->o4.isFreed=false->o5.isFreed=false->(((((h.push o1).push o2).push o3).push o4).push o5).get? h.objs.size=some o1/\(((((h.push o1).push o2).push o3).push o4).push o5).get? (h.objs.size+1)=some o2/\(((((h.push o1).push o2).push o3).push o4).push o5).get? (h.objs.size+2)=some o3/\(((((h.push o1).push o2).push o3).push o4).push o5).get? (h.objs.size+3)=some o4/\(((((h.push o1).push o2).push o3).push o4).push o5).get? (h.objs.size+4)=some o5:=fun h o1 o2 o3 o4 o5 f1 f2 f3 f4 f5=>by
  have a1:=Heap.get?_push_size h f1;have a2:=Heap.get?_push_size (h.push o1) f2;have a3:=Heap.get?_push_size ((h.push o1).push o2) f3;have a4:=Heap.get?_push_size (((h.push o1).push o2).push o3) f4;have a5:=Heap.get?_push_size ((((h.push o1).push o2).push o3).push o4) f5;simp only[Heap.size_push] at a2 a3 a4 a5;exact ⟨Heap.get?_push_of_some _ (Heap.get?_push_of_some _ (Heap.get?_push_of_some _ (Heap.get?_push_of_some _ a1))),Heap.get?_push_of_some _ (Heap.get?_push_of_some _ (Heap.get?_push_of_some _ a2)),Heap.get?_push_of_some _ (Heap.get?_push_of_some _ a3),Heap.get?_push_of_some _ a4,a5⟩
 obtain ⟨a1,a2,a3,a4,a5⟩:=at_ s.heap {cls:= .type "tuple_iterator",data:= .fields #[.ref q,.int 0 0]} {cls:= .type "list_iterator",data:= .fields #[.ref l,.int 0 0]} {cls:= .type "tuple",data:= .seq #[.ref s.heap.objs.size,.ref (s.heap.objs.size+1)]} {cls:= .type "tuple",data:= .seq #[.none,.none]} {cls:= .type "zip",data:= .fields #[.none,.bool false,.bool false,.ref (s.heap.objs.size+2),.ref (s.heap.objs.size+3)]} rfl rfl rfl rfl rfl;refine callType_new F.called_zip (by decide) (F.typeCall_zip_2 _ _) (F.newCall_zip_2 _ _) (fun obj=>F.args_object_init_3 obj _ _) F.entry_zip_new (uQ q l xs ys) ⟨h1,h2,⟨_,a5,rfl⟩,fin _ ⟨a5,a3,a4,⟨⟨_,a1,rfl,rfl⟩,h1.keeps kp⟩,⟨_,a2,rfl,rfl⟩,?_⟩ kp⟩
 exact h2.at fun o e=>kp _ o e
end
def A9 (K:D9) (l1 l2:Addr):It:=
  ⟨fun i H=>∃xs ys x y,bZ K H l1 xs/\aH K H l2 ys/\xs[i]?=some x/\ys[i]?=some y,
   fun i H v H'=>∃(T:Addr) (x y:V),v= .ref T/\H T=none/\(∀xs,bZ K H l1 xs->xs[i]?=some x)/\(∀ys,aH K H l2 ys->ys[i]?=some y)/\H'=aS H T (.tup [x,y]),
   fun i H=>∃xs ys,bZ K H l1 xs/\aH K H l2 ys/\(xs.length<=i∨ys.length<=i)⟩
structure Dc (h:Heap) (z ti to i1 i2 l1 l2:Addr) (i:Nat):Prop where
 zip:IsZip h z ti to .none
 ti:IsPair h ti (.ref i1) (.ref i2)
 to:∃a b,IsPair h to a b
 it1:IsTupIter h i1 l1 i
 it2:h.IsListIter i2 l2 i
theorem IsTupIter.at' {h h':Heap} {a t:Addr} {i:Nat} (x:IsTupIter h a t i) (k:∀o,h.get? a=some o->h'.get? a=some o):IsTupIter h' a t i:=let ⟨o,e,r⟩:=x;⟨o,k o e,r⟩
theorem Dc.apart {h:Heap} {z TI TO i1 i2 l1 l2:Addr} {i:Nat} {ys:Array Value} (st:Dc h z TI TO i1 i2 l1 l2 i) (d: [z,TI,TO,i1,i2].Nodup) (dl:l1∉ [z,TI,TO,i1,i2]) (h2:h.IsList l2 ys):ZipApart z TI TO i1 i2 l1 l2:=by
 obtain ⟨a,b,eto⟩:=st.to;obtain ⟨o1,e1,c1,_⟩:=st.it1;obtain ⟨o2,e2,c2,_⟩:=st.it2;simp only[Ee,E3,E9,or_false,not_or,List.nodup_nil,and_true] at d dl;obtain ⟨⟨d1,d2,d3,d4⟩,⟨d5,d6,d7⟩,⟨d8,d9⟩,d10,_⟩:=d;obtain ⟨p1,p2,p3,p4,p5⟩:=dl;obtain ⟨q1,q2,q3,q4,q5⟩:l2≠z/\l2≠TI/\l2≠TO/\l2≠i1/\l2≠i2:=⟨gM h2 st.zip rfl (by decide),gM h2 st.ti rfl (by decide),gM h2 eto rfl (by decide),gM h2 e1 c1 (by decide),gM h2 e2 c2 (by decide)⟩
 constructor<;>first|assumption|exact Ne.symm (by assumption)
theorem wI {P:Program} {w:World} {K:D9} {elts:List Expr} {k:Nat} {pos:Pos} (l1 l2 z TI TO i1 i2:Addr) (d: [z,TI,TO,i1,i2].Nodup) (dl:l1∉ [z,TI,TO,i1,i2]):Turn P w K (.Tuple elts k pos) (A9 K l1 l2) [z,TI,TO,i1,i2] z (fun i h=>Dc h z TI TO i1 i2 l1 l2 i) where
 mem:=by simp
 obj:=fun i h st b hb=>by
  obtain ⟨a,b',eto⟩:=st.to;obtain ⟨o1,e1,c1,d1⟩:=st.it1;obtain ⟨o2,e2,c2,d2⟩:=st.it2;simp only[E3,E9,or_false] at hb;rcases hb with q|q|q|q|q<;>subst q
  ·exact ⟨_,st.zip,fun v z=>by cases z⟩
  ·exact ⟨_,st.ti,fun v z=>by cases z⟩
  ·exact ⟨_,eto,fun v z=>by cases z⟩
  ·exact ⟨o1,e1,fun v z=>by rw[d1] at z;cases z⟩
  ·exact ⟨o2,e2,fun v z=>by rw[d2] at z;cases z⟩
 keep:=fun i h h' st k=>⟨k _ (by simp) _ st.zip,k _ (by simp) _ st.ti,let ⟨a,b,e⟩:=st.to;⟨a,b,k _ (by simp) _ e⟩,IsTupIter.at' st.it1 fun o q=>k _ (by simp) o q,st.it2.at fun o q=>k _ (by simp) o q⟩
 item:=by
  intro X hP hw hK hc i pins s σ H E I hf st hg;subst hP hw hK;obtain ⟨xs,ys,x,y,hq1,hq2,hx,hy⟩:=hg;obtain ⟨is1,rv1,p1,hz1⟩:=I.tuple hq1;obtain ⟨is2,rv2,p2,hz2⟩:=I.list hq2;obtain ⟨u,hu,ru⟩:=rv1.get hx;obtain ⟨v,hv,rv⟩:=rv2.get hy;have ap:=st.apart d dl p2.isList;obtain ⟨a,b,eto⟩:=st.to;refine wG (xs:=is1.toArray) (ys:=is2.toArray) (x:=u) (v:=v) ap ⟨st.zip,st.ti,eto,⟨st.it1,p1⟩,st.it2,p2.isList⟩ (by simpa using hu) (by simpa using hv) fun h1 ho hto hi1 hi2 hT hsz hk=>?_
  refine ⟨_,rfl,wpAny_letOwnedTupleGo_zip (s:={s with heap:=h1}) ho fun h2 hz2' hs2=>?_⟩
  have nT:H s.heap.objs.size=none:=I.hok.fresh (EB _);have lt:∀b∈ [z,TI,TO,i1,i2],b<s.heap.objs.size:=fun b hb=>by
   obtain ⟨o1,e1,_⟩:=st.it1;obtain ⟨o2,e2,_⟩:=st.it2;simp only[E3,E9,or_false] at hb;rcases hb with q|q|q|q|q<;>subst q
   ·exact Heap.lt_size st.zip
   ·exact Heap.lt_size st.ti
   ·exact Heap.lt_size eto
   ·exact Heap.lt_size e1
   ·exact Heap.lt_size e2
  have zl:=lt z (by simp)
  have hT2:IsPair h2 s.heap.objs.size u v:=(hs2.2 _ (FK zl)).trans hT;have kp:∀b o,b∉ [z,TI,TO,i1,i2]->s.heap.get? b=some o->h2.get? b=some o:=fun b o hb q=>by
   simp only[E3,E9,or_false,not_or] at hb;exact (hs2.2 b hb.1).trans (hk b o hb.1 hb.2.2.1 hb.2.2.2.1 hb.2.2.2.2 q)
  have eti:h1.get? TI=some {cls:= .type "tuple",data:= .seq #[.ref i1,.ref i2]}:=hk TI _ ap.TIz ap.TITO ap.TIi1 ap.TIi2 st.ti;refine ⟨.ref s.heap.objs.size,aS H s.heap.objs.size (.tup [x,y]),I.turnedNew (t':=s.toks) (ch:= [z,TI,TO,i1,i2]) hf kp (EB _) ⟨by show 2<=sizeLine;decide,[u,v],.cons ru (.cons rv .nil),⟨_,hT2,rfl,0,rfl⟩⟩,rfl,
   ⟨_,x,y,rfl,nT,fun ys hy'=>by rw[I.tuple_inj hy' hq1];exact hx,fun ys hy'=>by rw[I.list_inj hy' hq2];exact hy,rfl⟩,⟨hz2',(hs2.2 _ ap.TIz).trans eti,⟨u,v,(hs2.2 _ ap.TOz).trans hto⟩,IsTupIter.at' hi1 fun o q=>(hs2.2 _ ap.i1z).trans q,hi2.at fun o q=>(hs2.2 _ ap.i2z).trans q⟩,fun b hb=>?_⟩
  rw[az (EU (lt b hb))];exact (hf b hb).1
 done:=by
  intro X hP hw hK hc i pins s σ H E I hf st hg;subst hP hw hK;obtain ⟨xs,ys,hq1,hq2,hx⟩:=hg;obtain ⟨is1,rv1,p1,hz1⟩:=I.tuple hq1;obtain ⟨is2,rv2,p2,hz2⟩:=I.list hq2;have ap:=st.apart d dl p2.isList;obtain ⟨a,b,eto⟩:=st.to;have e1:=rv1.length;have e2:=rv2.length;refine yJ (xs:=is1.toArray) (ys:=is2.toArray) (I.ok.hd hc) ap ⟨st.zip,st.ti,eto,⟨st.it1,p1⟩,st.it2,p2.isList⟩ (by rcases hx with q|q;exact .inl (by simp;omega);exact .inr (by simp;omega)) fun h' hk=>⟨rfl,I.turnedAll (t':=s.toks) (ch:= [z,TI,TO,i1,i2]) hf fun b o hb q=>?_⟩
  simp only[E3,E9,or_false,not_or] at hb;exact hk b o hb.1 hb.2.2.1 hb.2.2.2.1 hb.2.2.2.2 q
 self:=fun _ _ _ _ _ st h=>wpAny_pyIter_zip st.zip h
theorem Dd {l n:Nat} (h:l<n):l∉ [n+4,n+2,n+3,n,n+1]:=by
 simp only[E3,E9,or_false,not_or];omega
def D8 (K:D9) (ta:TA):TI:=fun σ H R=>ta σ H fun vs H1=>∃l1 l2:Addr,vs= [.ref l1,.ref l2]/\(∃xs,bZ K H1 l1 xs)/\(∃ys,aH K H1 l2 ys)/\R (A9 K l1 l2) H1
theorem Ba {X:Cx} {a b:Expr} {ta:TA} {elts:List Expr} {k:Nat} {tp p pos:Pos} (hg:Gl X "zip") (hm:X.mg "zip" =none) (ha:PA X [a,b] ta) (hs:starEach [a,b] X.env= [(false,eval a X.env),(false,eval b X.env)]:=by rfl) (hs2:starEach [b] X.env= [(false,eval b X.env)]:=by rfl):
  PI X (.Tuple elts k tp) (.Call (.Name "zip" p) [a,b] [] pos) (D8 X.K ta):=by
 intro pins s σ H R I h;refine Call_ (fj I hg hm boot_zip (FD (b8 (ha pos pins s σ H _ I h) fun us s1 ⟨vs,H1,I1,r1,q1⟩=>?_) (by rw[hs,hs2]) (by rw[hs2];rfl)))
 obtain ⟨l1,l2,e,⟨xs,hq1⟩,⟨ys,hq2⟩,q⟩:=q1;subst e;cases r1 with
 |cons r rr=>
  cases rr with
  |cons r' rr=>
   cases rr;cases r;cases r';obtain ⟨is1,rv1,p1,hz1⟩:=I1.tuple hq1;obtain ⟨is2,rv2,p2,hz2⟩:=I1.list hq2;refine wH p1 p2.isList fun h' S hk=>?_
   obtain ⟨hz,hti,hto,⟨hi1,_⟩,hi2,_⟩:=S;refine wpAny_pyIter_zip (s:={s1 with heap:=h'}) hz ?_
   have I2:aR X pins σ H1 {s1 with heap:=h'}:=I1.kept (t':=s1.toks) hk
   have l1s:l1<s1.heap.objs.size:=p1.lt;refine ⟨s1.heap.objs.size+4,[s1.heap.objs.size+4,s1.heap.objs.size+2,s1.heap.objs.size+3,s1.heap.objs.size,s1.heap.objs.size+1],_,_,H1,rfl,I2,wI l1 l2 _ _ _ _ _ (yf _) (Dd l1s),⟨hz,hti,⟨_,_,hto⟩,hi1,hi2⟩,fun b hb=>?_,q⟩
   have bl:s1.heap.objs.size<=b:=by
    simp only[E3,E9,or_false] at hb;rcases hb with q|q|q|q|q<;>rw[q]<;>first|exact EB _|exact Nat.le_add_right _ _
   exact I1.fpOk bl (I1.hok.fresh bl)
theorem yK {K:D9} {l1 l2:Addr} {xs ys:List V} {g:TG} {tb:TS} {D:Ends} {σ:St} {H:Hp} (Pv:Nat->St->Hp->Prop) (h0:Pv 0 σ H) (hl:∀i σ H,i<=min xs.length ys.length->Pv i σ H->bZ K H l1 xs/\aH K H l2 ys)
  (hs:∀i x y σ H (T:Addr),xs[i]?=some x->ys[i]?=some y->Pv i σ H->H T=none->g (.ref T) σ (aS H T (.tup [x,y])) fun σ2 H2=>tb {D with nx:=Pv (i+1),ct:=Pv (i+1),bk:=D.nx} σ2 H2) (hd:∀σ H,Pv (min xs.length ys.length) σ H->D.nx σ H):
  ∃W:Nat->Nat->St->Hp->Prop,(∃m,W 0 m σ H)/\∀i m σ H,W i m σ H->
   ((A9 K l1 l2).stop i H/\D.nx σ H)∨((A9 K l1 l2).go i H/\∃N:St->Hp->Prop,(∀σ' H',N σ' H'->∃m',m'<m/\W (i+1) m' σ' H')/\∀x H',(A9 K l1 l2).yld i H x H'->g x σ H' fun σ2 H2=>tb {D with nx:=N,ct:=N,bk:=D.nx} σ2 H2):=by
 refine ⟨fun i m σ H=>m=min xs.length ys.length-i/\i<=min xs.length ys.length/\Pv i σ H,⟨min xs.length ys.length,by simp,F0 _,h0⟩,?_⟩
 rintro i m σ H ⟨rfl,hi,p⟩;obtain ⟨q1,q2⟩:=hl i σ H hi p
 by_cases hlt:i<min xs.length ys.length
 ·refine .inr ⟨⟨xs,ys,xs[i]'(by omega),ys[i]'(by omega),q1,q2,E1 _,E1 _⟩,Pv (i+1),fun σ' H' p'=>⟨min xs.length ys.length-(i+1),by omega,rfl,by omega,p'⟩,fun x H' y=>?_⟩
  obtain ⟨T,a,b,rfl,nT,ha,hb,rfl⟩:=y;exact hs i a b σ H T (ha xs q1) (hb ys q2) p nT
 ·have e:i=min xs.length ys.length:=by omega
  subst e;exact .inl ⟨⟨xs,ys,q1,q2,by omega⟩,hd σ H p⟩
end L2
namespace Sw
open PySem L2 XH Hm PySem.NumText
theorem qS (s:Str) (ws:Ip):Txt.join s ws=Str.join s ws:=StrLaws.glued_eq_join s ws
end Sw
namespace L2
open PySem
end L2
namespace Sw
open PySem L2 XH Hm PySem.NumText
end Sw
namespace L2
open PySem PySem.Spec PyProof.Rows XH Sw
end L2
namespace Sw
open PySem L2 XH Hm PySem.NumText
theorem nQ {ws:Ip} (ne:ws≠ []) (h:∀w∈ws,10∉sL w):Txt.split (Txt.join jq ws) jq=ws:=by
 unfold jq;rw[qS];exact eO ne h
inductive Fv where
 |nm (z:Str)
 |num (n:Nat)
 |am (a:dX)
def xr:RA Fv:=fun P H v x=>match x with
 | .nm z=>v= .str z
 | .num n=>v=vN n
 | .am a=>∃t,v= .ref t/\P t/\H t=some (.tup (xn a))
instance:Mv xr where
 mv:=fun {P P' H H' v x} g h=>by
  cases x with
  |nm z=>exact h
  |num n=>exact h
  |am a=>
   obtain ⟨t,e1,p,e2⟩:=h;exact ⟨t,e1,(g t _ p rfl e2).1,(g t _ p rfl e2).2⟩
def pF:List (Str×(Nat×Nat)):= [("plates",(1,1000)),("length",(1,100000)),("many",(1,8)),("heat",(0,1000)),("turns",(0,100000)),("course",(1,8)),("parts",(0,400)),("low",(0,1000000000000000))]
def wJ:List (Str×List V):=pF.map fun p=>(p.1,[vN p.2.1,vN p.2.2])
def cB:List (Str×Ip):= [("dish",["name","plates"]),("take",["name","amount"]),("cut",["name","length","length"]),("rest",["name","length","length"]),("warm",["name","length","length","amount"]),("or",["name","length","length"]),("with",["name","name","many","heat"]),("orwith",["name","name","many","heat"]),("after",["name","name"]),("within",["name","name","turns"]),("apart",["name","name"])]
def fG:List (Str×List V):=cB.map fun p=>(p.1,p.2.map V.str)
open Classical in
noncomputable def nR (w:Str):Option dX:=if h:∃a:dX,Reads (sL w) a.1 a.2/\1<=a.1 then some h.choose else none
theorem kA {w:Str} {a:dX} (h:Reads (sL w) a.1 a.2) (p:1<=a.1):nR w=some a:=by
 have ex:∃a:dX,Reads (sL w) a.1 a.2/\1<=a.1:=⟨a,h,p⟩;unfold nR;rw[dif_pos ex];have:=iq ex.choose_spec.1 h;exact congrArg some (Prod.ext this.1 this.2)
theorem kB {w:Str} (h:∀a:dX,Reads (sL w) a.1 a.2->¬1<=a.1):nR w=none:=by
 unfold nR;rw[dif_neg];rintro ⟨a,h1,h2⟩;exact h a h1 h2
def nS (w:Str) (lo hi:Nat):Option Nat:=if yw (sL w)=true/\lo<=digitsVal (sL w)/\digitsVal (sL w)<=hi then some (digitsVal (sL w)) else none
noncomputable def bB (f w:Str):Option Fv:=if f= "name" then (if yx w=true then some (.nm w) else none) else if f= "amount" then (nR w).map .am else match pF.lookup f with
 |some b=>(nS w b.1 b.2).map .num
 |none=>none
noncomputable def cM:Ip->Ip->Option (List Fv)
 | [],[]=>some []
 |f::fs,w::ws=>match bB f w,cM fs ws with
  |some v,some vs=>some (v::vs)
  |_,_=>none
 |_,_=>none
def cO (w:Str) (vs:List Fv):Bool:=match vs with
 | .nm _:: .num lo:: .num hi::_=> !(decide (w= "or" ∨w= "cut" ∨w= "rest" ∨w= "warm"))||decide (lo<=hi)
 | .nm a:: .nm b::_=> !(decide (w= "after" ∨w= "within" ∨w= "apart"))||decide (a≠b)
 |_=>true
noncomputable def jK (z:Str):Option (Str×List Fv):=if Str.empty∈Txt.split z jI then none else match Txt.split z jI with
 | []=>none
 |w::rest=>match cB.lookup w with
  |none=>none
  |some fs=>match cM fs rest with
   |none=>none
   |some vs=>if cO w vs=true then some (w,vs) else none
def pG:Option dX->List Fv
 |none=> []
 |some a=> [.am a]
def pH:Rr->Str×List Fv
 | .take g a=>("take",[.nm g,.am a])
 | .step w n lo hi f=>(w,[.nm n,.num lo,.num hi]++pG f)
 | .sec n lo hi=>("or",[.nm n,.num lo,.num hi])
 | .use o n u=>(if o=true then "orwith" else "with",[.nm n,.nm u.1,.num u.2.1,.num u.2.2])
 | .link w a b t=>(w,[.nm a,.nm b]++if w= "within" then [.num t] else [])
theorem cJ {z:Str} (h:Nm z):bB "name" z=some (.nm z):=by
 unfold bB;rw[if_pos rfl,if_pos ((fW z).mpr h)]
theorem nU {a:dX} (h:rV a):bB "amount" (kx a)=some (.am a):=by
 unfold bB;rw[if_neg (by decide),if_pos rfl,kA (a:=a) (by unfold kx;rw[bx];exact h.rd) h.pos]
 rfl
theorem yL {n lo hi:Nat} (h1:lo<=n) (h2:n<=hi) (h3:n<=999999999):nS (bK n) lo hi=some n:=by
 unfold nS bK;rw[bx,oY];have dl:=dD (n:=n) (k:=8) (by omega)
 rw[if_pos];refine ⟨(jr _).mpr ?_,h1,h2⟩;have:=i8 (dS (n:=n) (by omega))
 unfold vZ;refine ⟨?_,by omega,?_,dR n⟩
 ·have:=qk n;have:=List.length_pos_iff.mpr this;omega
 ·by_cases c:(dg n).head?=some 48
  ·have:=ql n c;subst this;exact .inr lr
  ·exact .inl c
theorem eQ {f:Str} {n lo hi:Nat} (hf:pF.lookup f=some (lo,hi)) (n1:f≠ "name") (n2:f≠ "amount") (h1:lo<=n) (h2:n<=hi) (h3:n<=999999999):bB f (bK n)=some (.num n):=by
 unfold bB;rw[if_neg n1,if_neg n2,hf];show (nS (bK n) lo hi).map Fv.num=_;rw[yL h1 h2 h3]
 rfl
theorem a8 {f w:Str} {fs ws:Ip} {v:Fv} {vs:List Fv} (h:bB f w=some v) (k:cM fs ws=some vs):cM (f::fs) (w::ws)=some (v::vs):=by
 show (match bB f w,cM fs ws with|some v,some vs=>some (v::vs)|_,_=>none)=_
 rw[h,k]
def Wb (w:Str):Prop:=32∉sL w/\w≠ ""
theorem fe {z:Str} (h:Nm z):Wb z:=⟨fun m=>by have:=h.2.2 32 m;omega,fun e=>by rw[e] at h;exact absurd h.1 (by decide)⟩
theorem eI (n:Nat):Wb (bK n):=⟨fB (by decide),fun e=>by
 have:=congrArg sL e;unfold bK at this;rw[bx] at this;exact qk n this⟩
theorem xv {a:dX} (h:rV a):Wb (kx a):=by
 have no:∀c∈cV a.1 a.2,43<=c:=fun c hc=>by
  unfold cV at hc;have dd:∀n c,c∈dg n->43<=c:=fun n c h=>by have:=(dR n c h).1;omega
  split at hc
  ·exact dd _ c hc
  ·split at hc
   ·rcases EI.mp hc with h|h
    ·exact dd _ c h
    ·rcases E3.mp h with rfl|h
     ·decide
     ·exact dd _ c h
   ·rcases EI.mp hc with h|h
    ·exact dd _ c h
    ·rcases E3.mp h with rfl|h
     ·decide
     ·rcases EI.mp h with h|h
      ·exact dd _ c h
      ·rcases E3.mp h with rfl|h
       ·decide
       ·exact dd _ c h
 refine ⟨fun m=>?_,fun e=>?_⟩
 ·unfold kx at m;rw[bx] at m;have:=no 32 m;omega
 ·have e1:=congrArg sL e;unfold kx at e1;rw[bx] at e1;have e0:cV a.1 a.2= []:=e1;obtain ⟨n,m,hl,_⟩:=h.rd.ex;rw[e0] at hl;have:dr []=none:=by
   unfold dr c7 cL;rw[if_neg (by simp),if_neg (by simp),fO (fun f=>absurd f.1 (by decide))]
  rw[this] at hl;cases hl
theorem uR {ws:Ip} (ne:ws≠ []) (h:∀w∈ws,Wb w):Txt.split (jB ws) jI=ws/\Str.empty∉ws:=by
 refine ⟨?_,fun m=>(h _ m).2 rfl⟩
 unfold jB jI;rw[qS];exact eO ne fun w hw=>(h w hw).1
theorem eF {w:Str} {rest fs:Ip} {vs:List Fv} (h:∀x∈w::rest,Wb x) (hf:cB.lookup w=some fs) (hv:cM fs rest=some vs) (ha:cO w vs=true):jK (jB (w::rest))=some (w,vs):=by
 obtain ⟨e,n⟩:=uR (ws:=w::rest) (by simp) h
 unfold jK;rw[e,if_neg n];simp only[hf,hv,ha,if_true]
theorem se {w:Str} (h:yx w=true):Wb w:=fe ((fW w).mp h)
theorem kC {n:Str} {p:Nat} (h:Nm n) (p1:1<=p) (p2:p<=1000):jK (bX n p)=some (Str.ofString "dish",[Fv.nm n,Fv.num p]):=by
 refine eF (fs:= ["name","plates"]) (fun x hx=>?_) (by decide) (a8 (cJ h) (a8 (eQ (lo:=1) (hi:=1000) (by decide) (by decide) (by decide) p1 p2 (by omega)) rfl)) rfl
 simp only[E3,E9,or_false] at hx;rcases hx with rfl|rfl|rfl
 ·exact se (by decide+kernel)
 ·exact fe h
 ·exact eI p
theorem lV {r:Rr} (h:fh r):jK (fb r)=some (pH r):=by
 have LN:∀{n:Nat},1<=n->n<=100000->bB "length" (bK n)=some (.num n):=fun h1 h2=>eQ (lo:=1) (hi:=100000) (by decide) (by decide) (by decide) h1 h2 (by omega)
 cases r with
 |take g a=>
  obtain ⟨h1,h2⟩:=h;refine eF (fs:= ["name","amount"]) (fun x hx=>?_) (by decide) (a8 (cJ h1) (a8 (nU h2) rfl)) rfl
  simp only[E3,E9,or_false] at hx;rcases hx with rfl|rfl|rfl
  ·exact se (by decide+kernel)
  ·exact fe h1
  ·exact xv h2
 |step w n lo hi f=>
  obtain ⟨h1,h2,⟨l1,l2,l3⟩,h4⟩:=h;have lo1:=LN (n:=lo) l1 (by omega)
  have hi1:=LN (n:=hi) (by omega) l3
  have wb:Wb w:=by rcases h1 with rfl|rfl|rfl<;>exact se (by decide+kernel)
  cases f with
  |none=>
   have h4:w≠ "warm" :=h4;have hw:w= "cut" ∨w= "rest" :=by
    rcases h1 with e|e|e
    ·exact .inl e
    ·exact .inr e
    ·exact absurd e h4
   refine eF (fs:= ["name","length","length"]) (rest:= [n,bK lo,bK hi]) (fun x hx=>?_) (by rcases hw with rfl|rfl<;>decide) (a8 (cJ h2) (a8 lo1 (a8 hi1 rfl))) (by simp[cO,l2])
   simp only[E3,E9,or_false] at hx;rcases hx with rfl|rfl|rfl|rfl
   ·exact wb
   ·exact fe h2
   ·exact eI lo
   ·exact eI hi
  |some a=>
   obtain ⟨rfl,h5⟩:=h4;refine eF (fs:= ["name","length","length","amount"]) (rest:= [n,bK lo,bK hi,kx a]) (fun x hx=>?_) (by decide) (a8 (cJ h2) (a8 lo1 (a8 hi1 (a8 (nU h5) rfl)))) (by simp[cO,l2])
   simp only[E3,E9,or_false] at hx;rcases hx with rfl|rfl|rfl|rfl|rfl
   ·exact wb
   ·exact fe h2
   ·exact eI lo
   ·exact eI hi
   ·exact xv h5
 |sec n lo hi=>
  obtain ⟨h2,⟨l1,l2,l3⟩⟩:=h;refine eF (fs:= ["name","length","length"]) (fun x hx=>?_) (by decide) (a8 (cJ h2) (a8 (LN l1 (by omega)) (a8 (LN (by omega) l3) rfl))) (by simp[cO,l2])
  simp only[E3,E9,or_false] at hx;rcases hx with rfl|rfl|rfl|rfl
  ·exact se (by decide+kernel)
  ·exact fe h2
  ·exact eI lo
  ·exact eI hi
 |use o n u=>
  obtain ⟨h1,h2,h3,h4,h5⟩:=h;have hw:(if o=true then Str.ofString "orwith" else Str.ofString "with")= "orwith" ∨(if o=true then Str.ofString "orwith" else Str.ofString "with")= "with" :=by cases o<;>simp
  show jK (jB [if o=true then Str.ofString "orwith" else Str.ofString "with",n,u.1,bK u.2.1,bK u.2.2])=some (if o=true then Str.ofString "orwith" else Str.ofString "with",_)
  generalize (if o=true then Str.ofString "orwith" else Str.ofString "with")=w at hw
  refine eF (fs:= ["name","name","many","heat"]) (fun x hx=>?_) (by rcases hw with rfl|rfl<;>decide) (a8 (cJ h1) (a8 (cJ h2) (a8 (eQ (lo:=1) (hi:=8) (by decide) (by decide) (by decide) h3 h4 (by omega)) (a8 (eQ (lo:=0) (hi:=1000) (by decide) (by decide) (by decide) (by omega) h5 (by omega)) rfl)))) (by rcases hw with rfl|rfl<;>(unfold cO;simp;exact .inl (by decide)))
  simp only[E3,E9,or_false] at hx;rcases hx with rfl|rfl|rfl|rfl|rfl
  ·rcases hw with rfl|rfl<;>exact se (by decide+kernel)
  ·exact fe h1
  ·exact fe h2
  ·exact eI _
  ·exact eI _
 |link w a b t=>
  obtain ⟨h1,h2,h3,h4,h5,h6⟩:=h;have wb:Wb w:=by rcases h1 with rfl|rfl|rfl<;>exact se (by decide+kernel)
  show jK (jB (fE w a b t))=some (w,[.nm a,.nm b]++if w= "within" then [.num t] else [])
  unfold fE
  by_cases c:w= "within"
  ·subst c;rw[if_pos rfl,if_pos rfl];refine eF (fs:= ["name","name","turns"]) (rest:= [a,b,bK t]) (fun x hx=>?_) (by decide) (a8 (cJ h2) (a8 (cJ h3) (a8 (eQ (lo:=0) (hi:=100000) (by decide) (by decide) (by decide) (by omega) h5 (by omega)) rfl))) (by simp[cO,h4])
   simp only[E3,E9,or_false] at hx;rcases hx with rfl|rfl|rfl|rfl
   ·exact wb
   ·exact fe h2
   ·exact fe h3
   ·exact eI t
  ·rw[if_neg c,if_neg c];have hw:w= "after" ∨w= "apart" :=by
    rcases h1 with e|e|e
    ·exact .inl e
    ·exact absurd e c
    ·exact .inr e
   refine eF (fs:= ["name","name"]) (rest:= [a,b]) (fun x hx=>?_) (by rcases hw with rfl|rfl<;>decide) (a8 (cJ h2) (a8 (cJ h3) rfl)) (by simp[cO,h4])
   simp only[E3,E9,or_false] at hx;rcases hx with rfl|rfl|rfl
   ·exact wb
   ·exact fe h2
   ·exact fe h3
end Sw
namespace L2
open PySem PySem.Spec PyProof.Rows XH Sw
def Mx (K:D9) (H:Hp) (v:V):Prop:=v= .non∨(∃z,v= .str z)∨(∃i,v= .int i)∨∃a ys,v= .ref a/\bZ K H a ys
theorem uS {K:D9} {H:Hp}:∀{xs:List V} {us:Ir},a9 xs us->(∀v∈xs,Mx K H v)->us.any lK=decide (V.non∈xs)
 | [],[],.nil,_=>rfl
 |x::xs,u::us,.cons r t,h=>by
  rw[List.any_cons,uS t fun v hv=>h v (E6 _ hv)]
  rcases h x Er with rfl|⟨z,rfl⟩|⟨i,rfl⟩|⟨a,_,rfl,_⟩
  ·cases r;simp[lK]
  ·obtain ⟨_,rfl⟩:=r;simp[lK]
  ·obtain ⟨_,rfl⟩:=r;simp[lK]
  ·cases r;simp[lK]
theorem xw {X:Cx} {pins:Im} {σ:St} {H:Hp} {s:Shared} (I:aR X pins σ H s) {A:Around} (hu:A.units<cLine):∀{xs:List V} {us:Ir},a9 xs us->(∀v∈xs,Mx X.K H v)->∀u∈us,SeqAt.EqAt A s u .none (lK u)
 | [],[],.nil,_=>fun u hu=>by cases hu
 |x::xs,u::us,.cons r t,h=>fun u' hu'=>by
  rcases E3.mp hu' with rfl|hu'
  ·rcases h x Er with rfl|⟨z,rfl⟩|⟨i,rfl⟩|⟨a,ys,rfl,k⟩
   ·cases r;exact SeqAt.EqAt.same _
   ·obtain ⟨_,rfl⟩:=r;exact SeqAt.EqAt.str_none _ _
   ·obtain ⟨_,rfl⟩:=r;exact SeqAt.EqAt.int_none _ _
   ·cases r;obtain ⟨its,_,pl,_⟩:=I.tuple k;exact SeqAt.EqAt.tuple_none pl hu
  ·exact xw I hu t (fun v hv=>h v (E6 _ hv)) u' hu'
theorem wK {X:Cx} (hu:X.A.units+1<cLine):gb X (compareOp .In) (fun x y H Q=>∃(p:Addr) (xs:List V),x= .non/\y= .ref p/\aH X.K H p xs/\(∀v∈xs,Mx X.K H v)/\Q (.bl (decide (V.non∈xs))) H):=by
 intro pins s σ H x y v u Q I rx ry h;obtain ⟨p,xs,rfl,rfl,hS,hx,q⟩:=h;cases rx;cases ry;obtain ⟨its,r,pl,hz⟩:=I.list hS;refine SeqAt.in_listAt lK pl.isList (fun w hw=>xw I (by first|omega|(show X.A.units+1<cLine;omega)) r hx w (by simpa using hw)) ⟨.bl _,H,I,rfl,?_⟩
 rw[show its.toArray.any lK=its.any lK by simp,uS r hx]
 exact q
end L2
namespace Sw
open PySem L2 XH Hm PySem.NumText
def kD:Sp:=fun vs H Q _=>∃w:Str,vs= [.str w,.int 1]/\w.length<=10000/\(nR w=none->∀H',aJ H H'->Q .non H')/\∀a:dX,nR w=some a->∀(t:Addr) (H':Hp),aJ H H'->H' t=some (.tup (xn a))->Q (.ref t) H'
def uT (f:Str):Prop:=f= "name" ∨f= "amount" ∨(f≠ "name" /\f≠ "amount" /\f≠ "stock" /\∃b,pF.lookup f=some b)
def kE:Sp:=fun vs H Q _=>∃f w:Str,vs= [.str f,.str w]/\w.length<=10000/\uT f/\(bB f w=none->∀H',aJ H H'->Q .non H')/\∀v:Fv,bB f w=some v->∀(x:V) (H':Hp),aJ H H'->xr An H' x v->Q x H'
def LV (H:Hp) (l:Addr) (w:Str) (vs:List Fv):Prop:=∃us,H l=some (.lst (.str w::us))/\A2 (xr An H) us vs
theorem LV.same {H H':Hp} {l:Addr} {w:Str} {vs:List Fv} (h:LV H l w vs) (g:aJ H H'):LV H' l w vs:=by
 obtain ⟨us,e,r⟩:=h;exact ⟨us,g _ _ e,r.imp fun _ _ q=>vm q g⟩
def jt (K:D9):Sp:=fun vs H Q _=>∃(t l:Addr) (fs:Ip) (w:Str) (rest:Ip),vs= [.ref t,.ref l]/\lU K t (fs.map V.str)/\H l=some (.lst ((w::rest).map V.str))/\C3 (w::rest)/\(∀f∈fs,uT f)/\fs.length<=10/\(cM fs rest=none->∀H',aJ H H'->Q .non H')/\∀us,cM fs rest=some us->∀(p:Addr) (H':Hp),aJ H H'->H p=none->LV H' p w us->Q (.ref p) H'
theorem yM:(wJ.map fun p=>p.1).Nodup:=by decide+kernel
theorem nV:(fG.map fun p=>p.1).Nodup:=by decide+kernel
theorem eY {α β:Type} (g:α->β):∀(l:List (Str×α)) (k:Str),(l.map fun p=>(p.1,g p.2)).lookup k=(l.lookup k).map g
 | [],_=>rfl
 |(a,b)::l,k=>by
  rw[Fc,List.lookup_cons,List.lookup_cons];cases k==a with
  |true=>rfl
  |false=>exact eY g l k
theorem wL {f:Str} {b:Nat×Nat} (h:pF.lookup f=some b):wJ.lookup f=some [vN b.1,vN b.2]:=by
 unfold wJ;rw[eY (fun b:Nat×Nat=> [vN b.1,vN b.2]),h]
 rfl
theorem sg {w:Str} {fs:Ip} (h:cB.lookup w=some fs):fG.lookup w=some (fs.map V.str):=by
 unfold fG;rw[eY (fun b:Ip=>b.map V.str),h]
 rfl
theorem nW (w:Str):(fG.lookup w).isSome=(cB.lookup w).isSome:=by
 unfold fG;rw[eY (fun b:Ip=>b.map V.str),Option.isSome_map]
theorem uU {w:Str} {fs:Ip} (h:cB.lookup w=some fs):(∀f∈fs,uT f)/\fs.length<=10:=by
 have all:∀p∈cB,(∀f∈p.2,f= "name" ∨f= "amount" ∨f= "plates" ∨f= "length" ∨f= "many" ∨f= "heat" ∨f= "turns")/\p.2.length<=10:=by decide+kernel
 have m:∀(l:List (Str×Ip)),l.lookup w=some fs->(w,fs)∈l:=by
  intro l
  induction l with
  |nil=>intro h;cases h
  |cons p l ih=>
   intro h;rw[List.lookup_cons] at h;cases c:(w==p.1) with
   |true=>
    rw[c] at h;have e:w=p.1:=by simpa using c
    cases h;rw[e];exact Er
   |false=>
    rw[c] at h;exact E6 _ (ih h)
 obtain ⟨h1,h2⟩:=all _ (m _ h);refine ⟨fun f hf=>?_,h2⟩
 rcases h1 f hf with e|e|e|e|e|e|e
 ·exact .inl e
 ·exact .inr (.inl e)
 all_goals
  subst e;exact .inr (.inr ⟨by decide,by decide,by decide,FB.mp (by decide+kernel)⟩)
noncomputable def fH (fs ws:Ip):List (Option Fv):=(fs.zip ws).map fun p=>bB p.1 p.2
theorem kF:∀{fs ws:Ip},fs.length≠ws.length->cM fs ws=none
 | [],[],h=>absurd rfl h
 | [],_::_,_=>rfl
 |_::_,[],_=>rfl
 |f::fs,w::ws,h=>by
  have z:=kF (fs:=fs) (ws:=ws) fun e=>h (by simp[e])
  show (match bB f w,cM fs ws with|some v,some vs=>some (v::vs)|_,_=>none)=none
  rw[z];cases bB f w<;>rfl
theorem gC:∀{fs ws:Ip},fs.length=ws.length->(none∈fH fs ws/\cM fs ws=none)∨∃us,cM fs ws=some us/\fH fs ws=us.map some
 | [],[],_=> .inr ⟨[],rfl,rfl⟩
 |f::fs,w::ws,h=>by
  have e:cM (f::fs) (w::ws)=(match bB f w,cM fs ws with|some v,some vs=>some (v::vs)|_,_=>none):=rfl
  have eo:fH (f::fs) (w::ws)=bB f w::fH fs ws:=rfl;rw[e,eo];rcases gC (fs:=fs) (ws:=ws) (by simpa using h) with ⟨m,z⟩|⟨us,z,o⟩
  ·rw[z];exact .inl ⟨E6 _ m,by cases bB f w<;>rfl⟩
  ·rw[z,o];cases bB f w with
   |none=>exact .inl ⟨Er,rfl⟩
   |some v=>exact .inr ⟨v::us,rfl,rfl⟩
def qT (H:Hp) (x:V) (v:Option Fv):Prop:=match v with|none=>x= .non|some v=>xr An H x v
theorem qT.same {H H':Hp} {x:V} {v:Option Fv} (h:qT H x v) (g:aJ H H'):qT H' x v:=by
 cases v with
 |none=>exact h
 |some v=>exact vm (R:=xr) h g
theorem qT.upd {H:Hp} {x:V} {v:Option Fv} {l:Addr} {xs:List V} {o:HO} (h:qT H x v) (e:H l=some (.lst xs)):qT (aS H l o) x v:=by
 cases v with
 |none=>exact h
 |some v=>cases v with
  |am a=>
   obtain ⟨t,rfl,q,k⟩:=h;refine ⟨t,rfl,q,?_⟩;rw[az fun z=>by rw[z,e] at k;cases k]
   exact k
  |_=>exact h
theorem qT.mx {K:D9} {H:Hp} {x:V} {v:Option Fv} (h:qT H x v):Mx K H x/\(x= .non↔v=none):=by
 cases v with
 |none=>exact ⟨.inl h,iff_of_true h rfl⟩
 |some v=>cases v with
  |am a=>
   obtain ⟨t,rfl,q,k⟩:=h;exact ⟨.inr (.inr (.inr ⟨t,_,rfl,.of k⟩)),iff_of_false (fun z=>by cases z) (fun z=>by cases z)⟩
  |nm z=>
   cases h;exact ⟨.inr (.inl ⟨_,rfl⟩),iff_of_false (fun z=>by cases z) (fun z=>by cases z)⟩
  |num n=>
   cases h;exact ⟨.inr (.inr (.inl ⟨_,rfl⟩)),iff_of_false (fun z=>by cases z) (fun z=>by cases z)⟩
theorem Bb {H:Hp} {xs:List V} {us:List Fv} (h:A2 (qT H) xs (us.map some)):A2 (xr An H) xs us:=⟨by rw[h.1,E5],fun i v x e1 e2=>h.2 i v (some x) e1 (by rw[E7,e2];rfl)⟩
theorem uV {H:Hp} {xs:List V} {os:List (Option Fv)} (h:A2 (qT H) xs os):V.non∈xs↔none∈os:=by
 constructor
 ·intro m;obtain ⟨i,e⟩:=ED.mp m;obtain ⟨o,eo,r⟩:=h.at_ e;exact E4 ((r.mx (K:=default)).2.mp rfl▸eo)
 ·intro m;obtain ⟨i,e⟩:=ED.mp m;obtain ⟨v,ev,r⟩:=h.get e;cases r;exact E4 ev
def xx (w:Str) (vs:List Fv):Prop:=((w= "or" ∨w= "cut" ∨w= "rest" ∨w= "warm")->∃n lo hi r,vs= .nm n:: .num lo:: .num hi::r)/\((w= "after" ∨w= "within" ∨w= "apart")->∃a b r,vs= .nm a:: .nm b::r)
theorem dA {f:Str} {fs ws:Ip} {vs:List Fv} (h:cM (f::fs) ws=some vs):∃w ws' v vs',ws=w::ws'/\bB f w=some v/\cM fs ws'=some vs'/\vs=v::vs':=by
 cases ws with
 |nil=>cases h
 |cons w ws=>
  have h':(match bB f w,cM fs ws with|some v,some vs=>some (v::vs)|_,_=>none)=some vs:=h
  cases e:bB f w with
  |none=>rw[e] at h';cases h'
  |some v=>
   cases e':cM fs ws with
   |none=>rw[e,e'] at h';cases h'
   |some us=>
    rw[e,e'] at h';cases h';exact ⟨w,ws,v,us,rfl,e,e',rfl⟩
theorem gD {w:Str} {v:Fv} (h:bB "name" w=some v):v= .nm w:=by
 unfold bB at h;rw[if_pos rfl] at h
 split at h<;>cases h
 rfl
theorem kG {w:Str} {v:Fv} (h:bB "length" w=some v):∃n,v= .num n:=by
 unfold bB at h;rw[if_neg (by decide),if_neg (by decide),show pF.lookup (Str.ofString "length")=some (1,100000) by decide+kernel] at h
 obtain ⟨n,_,rfl⟩:=Ed.mp h;exact ⟨n,rfl⟩
theorem uW {fs ws:Ip} {vs:List Fv} (h:cM ("name" :: "length" :: "length" ::fs) ws=some vs):∃n lo hi r,vs= .nm n:: .num lo:: .num hi::r:=by
 obtain ⟨w1,ws,v1,vs,rfl,h1,k1,rfl⟩:=dA h;obtain ⟨w2,ws,v2,vs,rfl,h2,k2,rfl⟩:=dA k1;obtain ⟨w3,ws,v3,vs,rfl,h3,k3,rfl⟩:=dA k2;obtain ⟨lo,rfl⟩:=kG h2;obtain ⟨hi,rfl⟩:=kG h3;cases gD h1;exact ⟨_,lo,hi,vs,rfl⟩
theorem wM {fs ws:Ip} {vs:List Fv} (h:cM ("name" :: "name" ::fs) ws=some vs):∃a b r,vs= .nm a:: .nm b::r:=by
 obtain ⟨w1,ws,v1,vs,rfl,h1,k1,rfl⟩:=dA h;obtain ⟨w2,ws,v2,vs,rfl,h2,k2,rfl⟩:=dA k1;cases gD h1;cases gD h2;exact ⟨_,_,vs,rfl⟩
theorem sh {w:Str} {fs ws:Ip} {vs:List Fv} (h:cB.lookup w=some fs) (v:cM fs ws=some vs):xx w vs:=by
 refine ⟨fun c=>?_,fun c=>?_⟩
 ·have:∃r:Ip,fs=("name" :Str)::("length" :Str)::("length" :Str)::r:=by
   rcases c with rfl|rfl|rfl|rfl
   ·exact ⟨_,EL (h.symm.trans (by decide+kernel:cB.lookup (Str.ofString "or")=some (("name" :Str):: "length" :: "length" :: [])))⟩
   ·exact ⟨_,EL (h.symm.trans (by decide+kernel:cB.lookup (Str.ofString "cut")=some (("name" :Str):: "length" :: "length" :: [])))⟩
   ·exact ⟨_,EL (h.symm.trans (by decide+kernel:cB.lookup (Str.ofString "rest")=some (("name" :Str):: "length" :: "length" :: [])))⟩
   ·exact ⟨_,EL (h.symm.trans (by decide+kernel:cB.lookup (Str.ofString "warm")=some (("name" :Str):: "length" :: "length" :: ["amount"])))⟩
  obtain ⟨r,rfl⟩:=this;exact uW v
 ·have:∃r:Ip,fs=("name" :Str)::("name" :Str)::r:=by
   rcases c with rfl|rfl|rfl
   ·exact ⟨_,EL (h.symm.trans (by decide+kernel:cB.lookup (Str.ofString "after")=some (("name" :Str):: "name" :: [])))⟩
   ·exact ⟨_,EL (h.symm.trans (by decide+kernel:cB.lookup (Str.ofString "within")=some (("name" :Str):: "name" :: ["turns"])))⟩
   ·exact ⟨_,EL (h.symm.trans (by decide+kernel:cB.lookup (Str.ofString "apart")=some (("name" :Str):: "name" :: [])))⟩
  obtain ⟨r,rfl⟩:=this;exact wM v
def qU:Sp:=fun vs H Q _=>∃(l:Addr) (w:Str) (us:List Fv),vs= [.ref l]/\LV H l w us/\xx w us/\Q (.bl (cO w us)) H
theorem aZ {α:Type} {R:V->α->Prop} {xs:List V} {y:α} {ys:List α} (h:A2 R xs (y::ys)):∃x xs',xs=x::xs'/\R x y/\A2 R xs' ys:=by
 cases xs with
 |nil=>exact absurd h.1 (by simp)
 |cons x xs=>exact ⟨x,xs,rfl,h.2 0 x y rfl rfl,by simpa using h.1,fun i v z e1 e2=>h.2 (i+1) v z (by simpa using e1) (by simpa using e2)⟩
theorem yN {H:Hp} {xs:List V} {n:Str} {lo hi:Nat} {r:List Fv} (h:A2 (xr An H) xs (.nm n:: .num lo:: .num hi::r)):∃ys,xs= .str n::vN lo::vN hi::ys:=by
 obtain ⟨_,_,rfl,e1,h1⟩:=aZ h;obtain ⟨_,_,rfl,e2,h2⟩:=aZ h1;obtain ⟨_,ys,rfl,e3,h3⟩:=aZ h2;cases e1;cases e2;cases e3;exact ⟨ys,rfl⟩
theorem Bc {H:Hp} {xs:List V} {a b:Str} {r:List Fv} (h:A2 (xr An H) xs (.nm a:: .nm b::r)):∃ys,xs= .str a:: .str b::ys:=by
 obtain ⟨_,_,rfl,e1,h1⟩:=aZ h;obtain ⟨_,ys,rfl,e2,h2⟩:=aZ h1;cases e1;cases e2;exact ⟨ys,rfl⟩
def ju:Sp:=fun vs H Q _=>∃z:Str,vs= [.str z]/\z.length<=1000/\(jK z=none->∀H',aJ H H'->Q .non H')/\∀w us,jK z=some (w,us)->∀(p:Addr) (H':Hp),aJ H H'->H p=none->LV H' p w us->Q (.ref p) H'
def eZ:Sp:=fun vs H Q _=>∃(z:Str) (l:Addr) (ts:Ip) (a:V),vs= [.str z,.ref l,a]/\H l=some (.lst (ts.map V.str))/\z∉ts/\Q .non H
def eR:Sp:=fun vs H Q _=>∃(l:Addr) (xs:List V) (m:Nat),vs= [.ref l,.int m]/\H l=some (.lst xs)/\xs.length<m/\Q .non H
def f6 (cC cR cW cRec:Addr):Sp:=fun vs H Q _=>∃(r:Addr) (z:Str) (a:V) (n:Str) (p:Nat) (M:Md) (i:Nat) (s:SV),vs= [.ref r,.str z,a]/\wz cC cR cW cRec H r n p M/\M.steps.length<=1000/\M.steps[i]?=some s/\s.n=z/\(∀(j:Nat) (s:SV),j<i->M.steps[j]?=some s->s.n≠z)/\∀H',aJ H H'->Q (.int i) H'
def kH (cC cR cW cRec:Addr):Sp:=fun vs H Q _=>∃(r l:Addr) (a:V) (G:Hp) (n:Str) (p:Nat) (lt ls lk:Addr) (ks:List So) (M:Md) (g:Str) (am:dX),vs= [.ref r,a,.ref l]/\RM cC cR cW cRec G H r n p lt ls lk ks M/\LV H l "take" [.nm g,.am am]/\(∀x∈M.takes,x.1≠g)/\M.takes.length<12/\∀H',RM cC cR cW cRec G H' r n p lt ls lk ks {M with takes:=M.takes++ [(g,am)]}->Q .non H'
def dm (M:Md) (z:Str) (i:Nat):Prop:=(∃s,M.steps[i]?=some s/\s.n=z)/\∀(j:Nat) (s:SV),j<i->M.steps[j]?=some s->s.n≠z
def kI (cC cR cW cRec:Addr):Sp:=fun vs H Q _=>∃(r l:Addr) (a:V) (G:Hp) (n:Str) (p:Nat) (lt ls lk:Addr) (ks:List So) (M:Md) (w x y:Str) (t i j:Nat),vs= [.ref r,a,.ref l]/\RM cC cR cW cRec G H r n p lt ls lk ks M/\LV H l w ([.nm x,.nm y]++if w= "within" then [.num t] else [])/\(w≠ "within" ->t=0)/\M.steps.length<=1000/\dm M x i/\dm M y j/\M.links.length<24/\∀H',RM cC cR cW cRec G H' r n p lt ls lk ks {M with links:=M.links++ [(w,i,j,t)]}->Q .non H'
end Sw
namespace L2
open PySem PySem.Spec PyProof.Rows
abbrev xz (v:Value):List (Str×Value):= [(Str.ofString "start",v)]
theorem yO (a v:Value):checkTypeCall "enumerate" ⟨[a],xz v⟩=pure ():=by kernel_rfl
theorem yP (a v:Value):checkBuiltinCall "enumerate.__new__" ⟨[.type "enumerate",a],xz v⟩=pure ():=by kernel_rfl
set_option maxHeartbeats 2000000 in
theorem su (l:Addr) (xs:Array Value) (n:Nat) (dc:Iu) (sl:Io) (t:Tok):Meets (Builtin.«enumerate.__new__» ⟨[.type "enumerate",.ref l],xz (.int 1 t)⟩) (fun _ R s=>s.heap.get? l=some {cls:= .type "list",dict:=dc,data:= .seq xs n,slots:=sl}/\R (.ok (.ret (.ref (s.heap.push {cls:= .type "list_iterator",data:= .fields #[.ref l,.int 0 0]}).objs.size))) {s with heap:=(s.heap.push {cls:= .type "list_iterator",data:= .fields #[.ref l,.int 0 0]}).push {cls:= .type "enumerate",data:= .fields #[.none,.bool false,.ref s.heap.objs.size,rawInt 1,.none,.none]}}):=
 .of_wp fun pr wo A R s h=>by
  obtain ⟨hp,g,d,tk,os⟩:=s;obtain ⟨hl,h⟩:=h;have hsub:=sub_enumerate;have hL:Heap.IsList (Shared.heap ⟨hp,g,d,tk,os⟩) l xs:=⟨_,hl,rfl,n,rfl⟩
  wp_walk using AutoSeq1.wpAny_loadPart' hl
  refine wpAny_stack_any fun st=>wpAny_pure ?_
  split
  ·rename_i c _ _ _ _ _;cases (c==Value.type "enumerate")
   all_goals
    wp_walk using AutoSeq1.wpAny_loadPart' hl,wpAny_pyIter_list hL
    exact ⟨_,rfl,h⟩
  ·wp_walk using AutoSeq1.wpAny_loadPart' hl,wpAny_pyIter_list hL
   exact ⟨_,rfl,h⟩
section
variable {pr:Program} {wo:World} {A:Around} {E:Ik} {s:Shared}
theorem yQ (a b v:Value):argsOk "object.__init__" ⟨[a,b],xz v⟩:=by
 kernel_rfl
theorem wN {self a v:Value}:Meets (Builtin.«object.__init__» ⟨[self,a],xz v⟩) (fun _ R s=>s.TypeIs self "enumerate" /\R (.ok (.ret .none)) s):=by
 refine Meets.of_wp fun pr wo A R s ⟨hT,hq⟩=>?_
 have hl:=F.called_enumerate.init.lookup;have hm:=F.called_enumerate.made
 repeat (any_goals (first|assumption|wp_step))
 exact ⟨_,rfl,hq⟩
theorem pI {l:Addr} {xs:Array Value} {t:Tok} {Q:Ik} (hL:s.heap.IsList l xs)
  (h:∀h',IsEnum h' (s.heap.objs.size+1) s.heap.objs.size 1 .none->h'.IsListIter s.heap.objs.size l 0->h'.objs.size=s.heap.objs.size+2->(∀b o,s.heap.get? b=some o->h'.get? b=some o)->Q (.ref (s.heap.objs.size+1)) {s with heap:=h'}):
  wpAny (model pr wo) A (call (.type "enumerate") [.ref l] (xz (.int 1 t))) Q E s:=by
 obtain ⟨⟨c,dc,dt,sl⟩,hl,hc,n,hd⟩:=hL;change c= .type "list" at hc;change dt= .seq xs n at hd;subst hc hd;have ft:=F.called_enumerate;obtain ⟨c,tl,hmro⟩:=ft.mro;have hmade:=ft.made;have hsub:=ft.sub;have h1:=ft.notType;have h2:=ft.canCreate;have hct:=yO (.ref l) (.int 1 t);refine wpAny_call (codeAny_of_tree ?_);show wpAny _ _ (callAny (.type "enumerate") _) _ _ _;refine wpAny_pure ⟨Code.quiet_builtin _ (by decide+kernel),codeAny_builtin F.entry_type_call ?_⟩
 rw[Around.under_plain (weight_type_call_type _ _ _) (units_type_call_type _ _ _)]
 repeat (any_goals (first|assumption|wp_step))
 generalize eh:(s.heap.push {cls:= .type "list_iterator",data:= .fields #[.ref l,.int 0 0]}).push {cls:= .type "enumerate",data:= .fields #[.none,.bool false,.ref s.heap.objs.size,rawInt 1,.none,.none]}=h9;have hz:(s.heap.push {cls:= .type "list_iterator",data:= .fields #[.ref l,.int 0 0]}).objs.size=s.heap.objs.size+1:=Heap.size_push ..;have kn:codeAny (model pr wo) A.in1 (Code.call (.builtin "enumerate.__new__") ⟨[.type "enumerate",.ref l],xz (.int 1 t)⟩) (fun r s1=>r= .ok (.ret (.ref (s.heap.objs.size+1)))/\s1={s with heap:=h9}) s:=
  codeAny_call_builtin ft.plain F.entry_enumerate_new (wpAny_of_eq (yP (.ref l) (.int 1 t)) (su l xs n dc sl t pr wo A.in1 (fun r s1=>r= .ok (.ret (.ref (s.heap.objs.size+1)))/\s1={s with heap:=h9}) s ⟨hl,by rw[hz],by rw[eh]⟩))
 refine codeAny_mono kn fun r s1 hr=>?_
 obtain ⟨rfl,rfl⟩:=hr;have he:IsEnum h9 (s.heap.objs.size+1) s.heap.objs.size 1 .none:=by
  have k:=Heap.get?_push_size (s.heap.push {cls:= .type "list_iterator",data:= .fields #[.ref l,.int 0 0]}) (o:={cls:= .type "enumerate",data:= .fields #[.none,.bool false,.ref s.heap.objs.size,rawInt 1,.none,.none]}) rfl;rw[hz,eh] at k;exact k
 have hT:Shared.TypeIs {s with heap:=h9} (.ref (s.heap.objs.size+1)) "enumerate" :=⟨_,he,rfl⟩
 have hli:=ft.init.lookup;have hbi:=ft.init.bind (.ref (s.heap.objs.size+1))
 repeat (any_goals (first|assumption|wp_step))
 have ki:codeAny (model pr wo) A.in1 (Code.call (.builtin "object.__init__") ⟨[.ref (s.heap.objs.size+1),.ref l],xz (.int 1 t)⟩) (fun r s1=>r= .ok (.ret .none)/\s1={s with heap:=h9}) {s with heap:=h9}:=
  codeAny_call_builtin ft.init.plain F.entry_object_init (ft.init.check _ _ _ _ _ _ _ _ hT (yQ _ _ _) (wN (a:= .ref l) (v:= .int 1 t) pr wo A.in1 (fun r s1=>r= .ok (.ret .none)/\s1={s with heap:=h9}) {s with heap:=h9} ⟨hT,rfl,rfl⟩))
 refine codeAny_mono ki fun r s1 hr=>?_
 obtain ⟨rfl,rfl⟩:=hr
 repeat (any_goals (first|assumption|wp_step))
 refine h h9 he ?_ ?_ fun b o x=>?_
 ·rw[<-eh];exact ⟨_,Heap.get?_push_of_some _ (Heap.get?_push_size _ rfl),rfl,rfl⟩
 ·rw[<-eh,Heap.size_push,hz]
 ·rw[<-eh];exact Heap.get?_push_of_some _ (Heap.get?_push_of_some _ x)
theorem pJ {e it l:Addr} {i:Nat} {j:Int} {xs:Array Value} {x o0:Value} {Q:Iv->Shared->Prop} (he:IsEnum s.heap e it j o0) (hi:s.heap.IsListIter it l i) (hl:s.heap.IsList l xs) (hx:xs[i]?=some x) (ne:e≠it)
  (q:∀h',IsEnumOut h' e it (j+1) x s.heap.objs.size->h'.IsListIter it l (i+1)->h'.get? s.heap.objs.size=some {cls:= .type "tuple",data:= .seq #[.int j s.toks,x]}->h'.objs.size=s.heap.objs.size+1->(∀b o,b≠e->b≠it->s.heap.get? b=some o->h'.get? b=some o)->Q (some (.ref s.heap.objs.size)) {s with heap:=h',toks:=s.toks+1}):
  wpAny (model pr wo) A (pyNext (.ref e)) Q E s:=by
 have ty:s.TypeIs (.ref e) "enumerate" :=⟨_,he,rfl⟩;unfold pyNext;refine wpAny_bind (wpAny_attempt (wpAny_callSpecial?_slot (name:=Str.ofString "__next__") ty F.slot_enumerate_next (wpAny_call_entry F.slot_enumerate_next ty F.entry_enumerate_next ?_ (F.args_enumerate_next_1 _))));obtain ⟨p0,g,d,tk,os⟩:=s;show wpAny _ _ (field (.ref e) 2>>=fun _=>_) _ _ _
 refine wpAny_bind (wpAny_field he rfl (x:= .ref it) rfl (wpAny_bind (wpAny_nextOf_list_item hi hl hx fun pa ia (ba:Heap.SameBut it p0 pa)=>?_)))
 have ea:IsEnum pa e it j o0:=(ba.2 e ne).trans he;show wpAny _ _ (field (.ref e) 3>>=fun _=>_) _ _ ⟨pa,g,d,tk,os⟩
 refine wpAny_bind (wpAny_field ea rfl (x:=rawInt j) rfl ?_);show wpAny _ _ (field (.ref e) 4>>=fun _=>_) _ _ ⟨pa,g,d,tk,os⟩
 refine wpAny_bind (wpAny_field ea rfl (x:= .none) rfl ?_);show wpAny _ _ (mkInt j>>=fun _=>_) _ _ ⟨pa,g,d,tk,os⟩
 refine wpAny_bind (wpAny_mkInt ?_);show wpAny _ _ (setField (.ref e) 3 (rawInt (j+1))>>=fun _=>_) _ _ ⟨pa,g,d,tk+1,os⟩
 refine wpAny_bind (wpAny_setField_rec ea (by simp) fun pb (eb:IsEnum pb e it (j+1) o0) (bb:Heap.SameBut e pa pb)=>?_)
 show wpAny _ _ (setField (.ref e) 4 .none>>=fun _=>_) _ _ ⟨pb,g,d,tk+1,os⟩
 refine wpAny_bind (wpAny_setField_rec eb (by simp) fun pc (ec:IsEnum pc e it (j+1) o0) (bc:Heap.SameBut e pb pc)=>?_)
 show wpAny _ _ (newTuple [.int j tk,x]>>=fun _=>_) _ _ ⟨pc,g,d,tk+1,os⟩
 refine wpAny_bind (wpAny_newTuple ?_);have ed:IsEnum (pc.push {cls:= .type "tuple",data:= .seq #[.int j tk,x]}) e it (j+1) o0:=Heap.get?_push_of_some _ ec;have sz:pc.objs.size=p0.objs.size:=by rw[bc.1,bb.1,ba.1]
 have td:(pc.push {cls:= .type "tuple",data:= .seq #[.int j tk,x]}).get? p0.objs.size=some {cls:= .type "tuple",data:= .seq #[.int j tk,x]}:=by rw[<-sz];exact Heap.get?_push_size _ rfl
 have zd:(pc.push {cls:= .type "tuple",data:= .seq #[.int j tk,x]}).objs.size=p0.objs.size+1:=by rw[Heap.size_push,sz]
 have kd:∀b o,b≠e->b≠it->p0.get? b=some o->(pc.push {cls:= .type "tuple",data:= .seq #[.int j tk,x]}).get? b=some o:=fun b o n1 n2 z=>Heap.get?_push_of_some _ (bc.extBut b o n1 (bb.extBut b o n1 (ba.extBut b o n2 z)))
 have id':(pc.push {cls:= .type "tuple",data:= .seq #[.int j tk,x]}).IsListIter it l (i+1):=by
  obtain ⟨o,z,r⟩:=(ia.extBut bb.extBut ne.symm).extBut bc.extBut ne.symm;exact ⟨o,Heap.get?_push_of_some _ z,r⟩
 have el:e<p0.objs.size:=Heap.lt_size he;generalize pc.push {cls:= .type "tuple",data:= .seq #[.int j tk,x]}=pd at ed td zd kd id'⊢;show wpAny _ _ (Builtin.SmallTypes.ownedTupleIsFree (.ref e)>>=fun _=>_) _ _ ⟨pd,g,d,tk+1,os⟩
 rw[sz];clear ec bc eb bb ea ba ia sz pc pb pa;refine wpAny_bind ?_;unfold Builtin.SmallTypes.ownedTupleIsFree;refine wpAny_bind (wpAny_field ed rfl (x:= .none) rfl (wpAny_pure ?_));simp only[if_true];refine wpAny_bind (wpAny_rule (wpAny_bind (wpAny_field ed rfl (x:=o0) rfl (wpAny_bind (wpAny_setField_rec ed (by simp) fun pe (ee:IsEnum pe e it (j+1) x) (be:Heap.SameBut e pd pe)=>?_)))))
 show wpAny _ _ (Builtin.SmallTypes.ownedTupleHandOut (.ref e) (.ref p0.objs.size)>>=fun _=>_) _ _ ⟨pe,g,d,tk+1,os⟩
 refine wpAny_bind ?_;unfold Builtin.SmallTypes.ownedTupleHandOut;refine wpAny_bind (wpAny_setField_rec ee (by simp) fun pf (ef:IsEnumOut pf e it (j+1) x p0.objs.size) (bf:Heap.SameBut e pe pf)=>?_)
 refine wpAny_setField_rec ef (by simp) fun pg (eg:IsEnumOut pg e it (j+1) x p0.objs.size) (bg:Heap.SameBut e pf pg)=>?_
 refine wpAny_bind (wpAny_letGo (wpAny_pure ⟨_,rfl,wpAny_pure (q pg eg ?_ ?_ ?_ ?_)⟩))
 ·exact ((id'.extBut be.extBut ne.symm).extBut bf.extBut ne.symm).extBut bg.extBut ne.symm
 ·exact bg.extBut _ _ (FK el) (bf.extBut _ _ (FK el) (be.extBut _ _ (FK el) td))
 ·rw[bg.1,bf.1,be.1,zd]
 ·exact fun b o n1 n2 z=>bg.extBut b o n1 (bf.extBut b o n1 (be.extBut b o n1 (kd b o n1 n2 z)))
theorem sw {e it l:Addr} {i:Nat} {j:Int} {xs:Array Value} {o0:Value} {Q:Iv->Shared->Prop} (hh:A.handled=none) (he:IsEnum s.heap e it j o0) (hi:s.heap.IsListIter it l i) (hl:s.heap.IsList l xs) (hx:xs[i]?=none) (q:∀h',Heap.ExtBut it s.heap h'->Q none {s with heap:=h'}):wpAny (model pr wo) A (pyNext (.ref e)) Q E s:=by
 have ty:s.TypeIs (.ref e) "enumerate" :=⟨_,he,rfl⟩;unfold pyNext;refine wpAny_bind (wpAny_attempt (wpAny_callSpecial?_slot (name:=Str.ofString "__next__") ty F.slot_enumerate_next (wpAny_call_entry F.slot_enumerate_next ty F.entry_enumerate_next ?_ (F.args_enumerate_next_1 _))));show wpAny _ _ (field (.ref e) 2>>=fun _=>_) _ _ _
 refine wpAny_bind (wpAny_field he rfl (x:= .ref it) rfl (wpAny_bind (wpAny_nextOf_list_end hh hi hl hx fun h' x k ⟨o,ho,hc⟩=>?_)))
 exact wpAny_bind (wpAny_isInstance (T:= "StopIteration") (b:=true) ⟨o,ho,hc⟩ isSubtype_stop (wpAny_pure (q _ k)))
end
def uX (K:D9) (l:Addr):It:=
 ⟨fun i H=>∃xs x,aH K H l xs/\xs[i]?=some x,fun i H v H'=>∃(T:Addr) (x:V),v= .ref T/\H T=none/\(∀xs,aH K H l xs->xs[i]?=some x)/\H'=aS H T (.tup [.int ((i:Int)+1),x]),fun i H=>∃xs,aH K H l xs/\xs.length<=i⟩
theorem pK {P:Program} {w:World} {K:D9} {elts:List Expr} {k:Nat} {pos:Pos} (l e it:Addr) (ne:e≠it):Turn P w K (.Tuple elts k pos) (uX K l) [e,it] e (fun i h=>(∃old,IsEnum h e it ((i:Int)+1) old)/\h.IsListIter it l i) where
 mem:=by simp
 obj:=fun i h st b hb=>by
  obtain ⟨⟨old,he⟩,o,e1,c,d⟩:=st;rcases E3.mp hb with z|z
  ·subst z;exact ⟨_,he,fun v z=>by cases z⟩
  ·rw[EC.mp z];exact ⟨o,e1,fun v z=>by rw[d] at z;cases z⟩
 keep:=fun i h h' st k=>⟨let ⟨old,he⟩:=st.1;⟨old,k e (by simp) _ he⟩,st.2.at fun o q=>k it (by simp) o q⟩
 item:=by
  intro X hP hw hK hc i pins s σ H E I hf st hg;subst hP hw hK;obtain ⟨xs,x,hq,hx⟩:=hg;obtain ⟨its,rv,p,hz⟩:=I.list hq;obtain ⟨u,hu,ru⟩:=rv.get hx;obtain ⟨⟨old,he⟩,hit⟩:=st;refine pJ he hit p.isList (x:=u) (by simpa using hu) ne fun h1 ho hit' hT hsz hk=>?_
  refine ⟨_,rfl,wpAny_letOwnedTupleGo_enum (s:={s with heap:=h1,toks:=s.toks+1}) ho fun h2 he2 hs2=>?_⟩
  have nT:H s.heap.objs.size=none:=I.hok.fresh (EB _);have el:e<s.heap.objs.size:=Heap.lt_size he;have il:it<s.heap.objs.size:=by obtain ⟨_,q,_⟩:=hit;exact Heap.lt_size q
  have hT2:h2.get? s.heap.objs.size=some {cls:= .type "tuple",data:= .seq #[.int ((i:Int)+1) s.toks,u]}:=(hs2.2 _ (FK el)).trans hT;have kp:∀b o,b∉ [e,it]->s.heap.get? b=some o->h2.get? b=some o:=fun b o hb q=>by
   simp at hb;exact (hs2.2 b hb.1).trans (hk b o hb.1 hb.2 q)
  refine ⟨.ref s.heap.objs.size,aS H s.heap.objs.size (.tup [.int ((i:Int)+1),x]),I.turnedNew (t':=s.toks+1) (ch:= [e,it]) hf kp (EB _) ⟨by show 2<=sizeLine;decide,[.int ((i:Int)+1) s.toks,u],.cons ⟨_,rfl⟩ (.cons ru .nil),⟨_,hT2,rfl,0,rfl⟩⟩,rfl,
   ⟨_,x,rfl,nT,fun ys hy=>by rw[I.list_inj hy hq];exact hx,rfl⟩,⟨⟨u,?_⟩,?_⟩,fun b hb=>?_⟩
  ·simpa using he2
  ·exact hit'.at fun o q=>(hs2.2 it (Ne.symm ne)).trans q
  ·have bl:b≠s.heap.objs.size:=by
    rcases E3.mp hb with z|z
    ·rw[z];exact EU el
    ·rw[EC.mp z];exact EU il
   rw[az bl];exact (hf b hb).1
 done:=by
  intro X hP hw hK hc i pins s σ H E I hf st hg;subst hP hw hK;obtain ⟨xs,hq,hx⟩:=hg;obtain ⟨its,rv,p,hz⟩:=I.list hq;obtain ⟨⟨old,he⟩,hit⟩:=st;have hl:=rv.length;exact sw (I.ok.hd hc) he hit p.isList (by simp;omega) fun h' eb=>⟨rfl,I.turnedAll (t':=s.toks) (ch:= [e,it]) hf fun b o hb q=>eb b o (fun z=>hb (by simp[z])) q⟩
 self:=fun _ _ _ _ _ st h=>let ⟨_,he⟩:=st.1;wpAny_pyIter_enum he h
def yR (K:D9) (te:TE):TI:=fun σ H R=>te σ H fun v H1=>∃l:Addr,v= .ref l/\(∃xs,aH K H1 l xs)/\R (uX K l) H1
theorem jv {M:Model} {A:Around} {E:Ik} {s:Shared} {pos:Pos} {T:String} {args:List (Bool×Sem Value)} {kws:List (Option Str×Sem Value)} {Q:Ik} (n1:args.any (fun x=>x.1)=false) (n2:kws.any (fun x=>x.1.isNone)=false)
  (h:wpAny M A (evalArgs (.type T) true args kws) (fun a s1=>wpAny M A (call (.type T) ([]++a.pos) a.kw) Q E s1) E s):wpAny M A (callWith pos (.type T) [] args kws) Q E s:=by
 unfold callWith;refine wpAny_bind (wpAny_holding (wpAny_mono h (fun a s1 k=>wpAny_bind (wpAny_standAt ?_)) fun _ _ x=>x))
 simp only[n1,n2,Bool.or_false];refine wpAny_bind (wpAny_pure (wpAny_bind (wpAny_mono k (fun r s2 z=>wpAny_bind (wpAny_holding (wpAny_point (wpAny_pure z)))) fun _ _ x=>x)))
theorem uY {X:Cx} {a:Expr} {te:TE} {elts:List Expr} {k cj:Nat} {tp p pos kp cp:Pos} (hg:Gl X "enumerate") (hm:X.mg "enumerate" =none) (ha:PE X a te) (hs:starEach [a] X.env= [(false,eval a X.env)]:=by rfl):PI X (.Tuple elts k tp) (.Call (.Name "enumerate" p) [a] [⟨some "start",.Constant (.int 1) cj cp,kp⟩] pos) (yR X.K te):=by
 intro pins s σ H R I h;apply wpAny_Call_Name_kw;refine fj I hg hm boot_enumerate ?_ (by decide) (by decide)
 have hb:backTo pos (starEach [a] X.env)= [(false,eval a X.env)]:=by rw[hs];rfl
 rw[hb];refine jv rfl rfl (evalArgs_kwB rfl ?_);refine Calls.spliced_cons (x:=eval a X.env) (rest:= []) (b8 (ha pins s σ H _ I h) fun v s1 ⟨x,H1,I1,r1,l,ex,⟨xs,hq⟩,q⟩=>?_)
 subst ex;cases r1;refine Calls.spliced_nil ?_;refine kws_cons (wpAny_Constant_int (kws_nil ?_));have I2:aR X pins σ H1 {s1 with toks:=s1.toks+1}:=I1.tok _
 obtain ⟨its,rv,p1,hz⟩:=I2.list hq;refine pI (s:={s1 with toks:=s1.toks+1}) p1.isList fun h' he hit hsz hk=>?_
 refine wpAny_pyIter_enum (s:={s1 with heap:=h',toks:=s1.toks+1}) he ?_
 have I3:aR X pins σ H1 {s1 with heap:=h',toks:=s1.toks+1}:=I2.kept (t':=s1.toks+1) hk
 refine ⟨s1.heap.objs.size+1,[s1.heap.objs.size+1,s1.heap.objs.size],_,_,H1,rfl,I3,pK l _ _ (Nat.succ_ne_self _),⟨⟨_,by simpa using he⟩,hit⟩,fun b hb=>?_,q⟩
 have bl:s1.heap.objs.size<=b:=by
  rcases E3.mp hb with z|z
  ·rw[z];exact Nat.le_succ _
  ·rw[EC.mp z];exact EB _
 exact I2.fpOk bl (I1.hok.fresh bl)
theorem sx {K:D9} {a:Addr} {xs:List V} {g:TG} {tb:TS} {D:Ends} {σ:St} {H:Hp} (Pv:Nat->St->Hp->Prop) (h0:Pv 0 σ H) (hl:∀i σ H,i<=xs.length->Pv i σ H->aH K H a xs)
  (hs:∀i x σ H (T:Addr),xs[i]?=some x->Pv i σ H->H T=none->g (.ref T) σ (aS H T (.tup [.int ((i:Int)+1),x])) fun σ2 H2=>tb {D with nx:=Pv (i+1),ct:=Pv (i+1),bk:=D.nx} σ2 H2) (hd:∀σ H,Pv xs.length σ H->D.nx σ H):
  ∃W:Nat->Nat->St->Hp->Prop,(∃m,W 0 m σ H)/\∀i m σ H,W i m σ H->
   ((uX K a).stop i H/\D.nx σ H)∨((uX K a).go i H/\∃N:St->Hp->Prop,(∀σ' H',N σ' H'->∃m',m'<m/\W (i+1) m' σ' H')/\∀x H',(uX K a).yld i H x H'->g x σ H' fun σ2 H2=>tb {D with nx:=N,ct:=N,bk:=D.nx} σ2 H2):=by
 refine ⟨fun i m σ H=>m=xs.length-i/\i<=xs.length/\Pv i σ H,⟨xs.length,by simp,F0 _,h0⟩,?_⟩
 rintro i m σ H ⟨rfl,hi,p⟩;have q:=hl i σ H hi p
 by_cases hlt:i<xs.length
 ·refine .inr ⟨⟨xs,xs[i],q,by simp[hlt]⟩,Pv (i+1),fun σ' H' p'=>⟨xs.length-(i+1),by omega,rfl,hlt,p'⟩,fun x H' y=>?_⟩
  obtain ⟨T,z,rfl,nT,hz,rfl⟩:=y;exact hs i z σ H T (hz xs q) p nT
 ·have e:i=xs.length:=by omega
  subst e;exact .inl ⟨⟨xs,q,EB _⟩,hd σ H p⟩
end L2
namespace Sw
open PySem L2 XH Hm PySem.NumText
section
variable {cC cR cW cRec:Addr} {G H H':Hp} {r:Addr} {n:Str} {p:Nat} {lt ls lk:Addr} {ks:List So} {M:Md}
theorem yS {dx:Addr} (g:aJ H H') (nr:H r=none) (nt:H lt=none) (ns:H ls=none) (nk:H lk=none) (d1:lt≠r) (d2:ls≠r) (d3:lk≠r) (nd: [lt,ls,lk].Nodup) (er:H' r=some (.ins cRec dx (lF (.str n) (vN p) (.ref lt) (.ref ls) (.ref lk)))) (et:H' lt=some (.lst [])) (es:H' ls=some (.lst [])) (ek:H' lk=some (.lst [])):RM cC cR cW cRec H H' r n p lt ls lk [] ⟨[],[],[]⟩ where
 fr:=g
 nw:=fun a ha=>by
  simp only[cg,List.map_nil,List.flatten_nil,E3,E9,or_false] at ha;rcases ha with rfl|rfl|rfl|rfl
  ·exact nr
  ·exact nt
  ·exact ns
  ·exact nk
 nd:=by
  simp only[cg,List.map_nil,List.flatten_nil];rw[Ee];refine ⟨fun m=>?_,nd⟩
  simp only[E3,E9,or_false] at m;rcases m with e|e|e
  ·exact d1 e.symm
  ·exact d2 e.symm
  ·exact d3 e.symm
 er:=⟨dx,er⟩
 et:=⟨[],et,A2.nil⟩
 es:=es
 len:=rfl
 ss:=fun i k s h=>by simp at h
 ek:=⟨[],ek,A2.nil⟩
end
def jw (cC cR cW cRec:Addr):Sp:=fun vs H Q _=>∃(l:Addr) (n:Str) (p:Nat),vs= [.ref l]/\LV H l "dish" [.nm n,.num p]/\∀(r lt ls lk:Addr) (H':Hp),RM cC cR cW cRec H H' r n p lt ls lk [] ⟨[],[],[]⟩->Q (.ref r) H'
def nX (cC cR cW:Addr):Sp:=fun vs H Q _=>∃(l:Addr) (w n:Str) (lo hi:Nat) (f:Option dX),vs= [.ref l]/\LV H l w ([.nm n,.num lo,.num hi]++pG f)/\vv w/\pz w f/\∀(k:So) (H':Hp),aJ H H'->SM cC cR cW H' k ⟨w,n,lo,hi,f,[],none⟩->(∀a∈k.own,H a=none)->k.own.Nodup->Q (.ref k.x) H'
def kJ (cC cR cW cRec:Addr):Sp:=fun vs H Q _=>∃(r l:Addr) (a:V) (G:Hp) (n:Str) (p:Nat) (lt ls lk:Addr) (ks:List So) (M:Md) (w z:Str) (lo hi:Nat) (f:Option dX),vs= [.ref r,a,.ref l]/\RM cC cR cW cRec G H r n p lt ls lk ks M/\LV H l w ([.nm z,.num lo,.num hi]++pG f)/\vv w/\pz w f/\(∀s∈M.steps,s.n≠z)/\M.steps.length<12/\∀(k:So) (H':Hp),RM cC cR cW cRec G H' r n p lt ls lk (ks++ [k]) {M with steps:=M.steps++ [⟨w,z,lo,hi,f,[],none⟩]}->Q .non H'
def iE (cC cR cW cRec:Addr):Sp:=fun vs H Q _=>∃(r l:Addr) (a:V) (G:Hp) (n:Str) (p:Nat) (lt ls lk:Addr) (ks:List So) (M:Md) (z:Str) (lo hi i:Nat) (s:SV),vs= [.ref r,a,.ref l]/\RM cC cR cW cRec G H r n p lt ls lk ks M/\LV H l "or" [.nm z,.num lo,.num hi]/\M.steps.length<=1000/\dm M z i/\M.steps[i]?=some s/\s.sec=none/\∀(ks':List So) (H':Hp),RM cC cR cW cRec G H' r n p lt ls lk ks' {M with steps:=M.steps.set i {s with sec:=some (lo,hi,[])}}->Q .non H'
def nY (cC cR cW cRec:Addr):Sp:=fun vs H Q _=>∃(r l:Addr) (a:V) (G:Hp) (n:Str) (p:Nat) (lt ls lk:Addr) (ks:List So) (M:Md) (o:Bool) (z:Str) (u:bP) (i:Nat) (s:SV) (us:List bP),vs= [.ref r,a,.ref l]/\RM cC cR cW cRec G H r n p lt ls lk ks M/\LV H l (if o=true then "orwith" else "with") [.nm z,.nm u.1,.num u.2.1,.num u.2.2]/\M.steps.length<=1000/\dm M z i/\M.steps[i]?=some s/\(if o=true then ∃lo hi,s.sec=some (lo,hi,us) else s.uses=us)/\(∀x∈us,x.1≠u.1)/\us.length<12/\∀(ks':List So) (s':SV) (H':Hp),(if o=true then ∃lo hi,s.sec=some (lo,hi,us)/\s'={s with sec:=some (lo,hi,us++ [u])} else s'={s with uses:=us++ [u]})->RM cC cR cW cRec G H' r n p lt ls lk ks' {M with steps:=M.steps.set i s'}->Q .non H'
def cz (M:Md):List Rr->Except uH Md
 | []=> .ok M
 |r::rs=>match dU M r with
  | .error e=> .error e
  | .ok M'=>cz M' rs
def kK (cC cR cW cRec:Addr):Sp:=fun vs H Q _=>∃(n:Str) (p:Nat) (rs:List Rr) (M:Md),vs= [.str (Txt.join jq (bX n p::rs.map fb))]/\Nm n/\1<=p/\p<=1000/\(∀r∈rs,fh r)/\rs.length<=1000/\cz ⟨[],[],[]⟩ rs= .ok M/\∀(r lt ls lk:Addr) (ks:List So) (H':Hp),RM cC cR cW cRec H H' r n p lt ls lk ks M->Q (.ref r) H'
theorem iy {M:Md} {z:Str} {i:Nat} (h:place M z=some i):dm M z i/\i<M.steps.length:=by
 unfold place at h;rw[List.findIdx?_eq_some_iff_getElem] at h;obtain ⟨il,h1,h2⟩:=h;refine ⟨⟨⟨_,E1 il,by simpa using h1⟩,fun j s jl hs e=>?_⟩,il⟩
 have:=h2 j jl;rw[E1 (by omega)] at hs
 cases hs;simp at this;exact this e
theorem fJ {M M':Md} {n:Str} {f:SV->Except uH SV} (h:gA M n f= .ok M'):∃i s s',dm M n i/\M.steps[i]?=some s/\f s= .ok s'/\M'={M with steps:=M.steps.set i s'}:=by
 unfold gA at h
 split at h
 ·cases h
 next i e=>
 split at h
 ·cases h
 next s es=>
 split at h
 ·cases h
 next s' e'=>
 cases h;exact ⟨i,s,s',(iy e).1,es,e',rfl⟩
theorem nZ {us us':List bP} {u:bP} (h:rW us u= .ok us'):(∀x∈us,x.1≠u.1)/\us.length≠12/\us'=us++ [u]:=by
 unfold rW at h
 split at h
 ·cases h
 next n1=>
 split at h
 ·cases h
 next n2=>
 cases h;exact ⟨fun x hx e=>n1 (EO.mpr ⟨x,hx,e⟩),n2,rfl⟩
theorem gS {M M':Md} {g:Str} {a:dX} (e:dU M (.take g a)= .ok M'):(∀x∈M.takes,x.1≠g)/\M.takes.length≠12/\M'={M with takes:=M.takes++ [(g,a)]}:=by
 change (if g∈M.takes.map (fun x=>x.1) then Except.error uH.twice else if M.takes.length=12 then .error .full else .ok _)=_ at e
 split at e
 ·cases e
 next n1=>
 split at e
 ·cases e
 next n2=>
 cases e;exact ⟨fun x hx e=>n1 (EO.mpr ⟨x,hx,e⟩),n2,rfl⟩
theorem gU {M M':Md} {w n:Str} {lo hi:Nat} {f:Option dX} (e:dU M (.step w n lo hi f)= .ok M'):(∀s∈M.steps,s.n≠n)/\M.steps.length≠12/\M'={M with steps:=M.steps++ [⟨w,n,lo,hi,f,[],none⟩]}:=by
 change (if n∈M.steps.map (fun s=>s.n) then Except.error uH.twice else if M.steps.length=12 then .error .full else .ok _)=_ at e
 split at e
 ·cases e
 next n1=>
 split at e
 ·cases e
 next n2=>
 cases e;exact ⟨fun x hx e=>n1 (EO.mpr ⟨x,hx,e⟩),n2,rfl⟩
theorem gW {M M':Md} {w a b:Str} {t:Nat} (e:dU M (.link w a b t)= .ok M'):∃i j,dm M a i/\dm M b j/\M.links.length≠24/\M'={M with links:=M.links++ [(w,i,j,t)]}:=by
 simp only[dU] at e
 split at e
 ·cases e
 next i e1=>
 split at e
 ·cases e
 next j e2=>
 split at e
 ·cases e
 next n2=>
 cases e;exact ⟨i,j,(iy e1).1,(iy e2).1,n2,rfl⟩
theorem iF {M M':Md} {n:Str} {lo hi:Nat} (e:dU M (.sec n lo hi)= .ok M'):∃i s,dm M n i/\M.steps[i]?=some s/\s.sec=none/\M'={M with steps:=M.steps.set i {s with sec:=some (lo,hi,[])}}:=by
 obtain ⟨i,s,s',hp,hs,hf,rfl⟩:=fJ e
 split at hf
 ·cases hf
 next es=>
 cases hf;exact ⟨i,s,hp,hs,es,rfl⟩
theorem iG {M M':Md} {n:Str} {u:bP} (e:dU M (.use false n u)= .ok M'):∃i s,dm M n i/\M.steps[i]?=some s/\(∀x∈s.uses,x.1≠u.1)/\s.uses.length≠12/\M'={M with steps:=M.steps.set i {s with uses:=s.uses++ [u]}}:=by
 obtain ⟨i,s,s',hp,hs,hf,rfl⟩:=fJ e
 split at hf
 ·cases hf
 next us eu=>
 cases hf;obtain ⟨n1,n2,rfl⟩:=nZ eu;exact ⟨i,s,hp,hs,n1,n2,rfl⟩
theorem iH {M M':Md} {n:Str} {u:bP} (e:dU M (.use true n u)= .ok M'):∃i s lo hi us,dm M n i/\M.steps[i]?=some s/\s.sec=some (lo,hi,us)/\(∀x∈us,x.1≠u.1)/\us.length≠12/\M'={M with steps:=M.steps.set i {s with sec:=some (lo,hi,us++ [u])}}:=by
 obtain ⟨i,s,s',hp,hs,hf,rfl⟩:=fJ e
 split at hf
 ·cases hf
 next lo hi us es=>
 split at hf
 ·cases hf
 next us' eu=>
 cases hf;obtain ⟨n1,n2,rfl⟩:=nZ eu;exact ⟨i,s,lo,hi,us,hp,hs,es,n1,n2,rfl⟩
structure qV (M:Md):Prop where
 t:M.takes.length<=12
 s:M.steps.length<=12
 k:M.links.length<=24
 us:∀s∈M.steps,s.uses.length<=12/\∀x,s.sec=some x->x.2.2.length<=12
def n8 (cC cR cW cRec:Addr):Sp:=fun vs H Q _=>∃(r l:Addr) (a:V) (G:Hp) (n:Str) (p:Nat) (lt ls lk:Addr) (ks:List So) (M M':Md) (rr:Rr),vs= [.ref r,a,.ref l]/\RM cC cR cW cRec G H r n p lt ls lk ks M/\LV H l (pH rr).1 (pH rr).2/\fh rr/\qV M/\dU M rr= .ok M'/\∀(ks':List So) (H':Hp),RM cC cR cW cRec G H' r n p lt ls lk ks' M'->Q .non H'
theorem qV.set {M:Md} (h:qV M) {i:Nat} {s':SV} (hs:s'.uses.length<=12/\∀x,s'.sec=some x->x.2.2.length<=12):qV {M with steps:=M.steps.set i s'}:=
 {h with
  s:=by simp;exact h.s
  us:=fun x hx=>by
   rcases List.mem_or_eq_of_mem_set hx with hx|rfl
   ·exact h.us x hx
   ·exact hs}
theorem qV.put {M M':Md} (h:qV M) {r:Rr} (e:dU M r= .ok M'):qV M':=by
 have ht:=h.t;have hs:=h.s;have hk:=h.k;cases r with
 |take g a=>
  obtain ⟨_,n2,rfl⟩:=gS e;exact {h with t:=by simp;omega}
 |step w n lo hi f=>
  obtain ⟨_,n2,rfl⟩:=gU e;refine {h with s:=by simp;omega,us:=fun s hs=>?_}
  rcases EI.mp hs with hs|hs
  ·exact h.us s hs
  ·rw[EC.mp hs];exact ⟨by simp,fun x hx=>by cases hx⟩
 |sec n lo hi=>
  obtain ⟨i,s,hp,hs,_,rfl⟩:=iF e;have k:=h.us s (E4 hs);exact h.set ⟨k.1,fun x hx=>by cases hx;simp⟩
 |use o n u=>
  cases o with
  |false=>
   obtain ⟨i,s,hp,hs,_,n2,rfl⟩:=iG e;have k:=h.us s (E4 hs);exact h.set ⟨by have:=k.1;simp;omega,k.2⟩
  |true=>
   obtain ⟨i,s,lo,hi,us,hp,hs,es,_,n2,rfl⟩:=iH e;have k:=h.us s (E4 hs);have k2:=k.2 _ es;dsimp only at k2;exact h.set ⟨k.1,fun x hx=>by cases hx;simp;omega⟩
 |link w a b t=>
  obtain ⟨i,j,_,_,n2,rfl⟩:=gW e;exact {h with k:=by simp;omega}
theorem gX {f:Str} {v x:V}:∀{fs:List (Str×V)},fs.lookup f=some x->(aO f v fs).length=fs.length
 | [],h=>by cases h
 |(g,y)::r,h=>by
  rw[show aO f v ((g,y)::r)=(if g=f then (g,v)::r else (g,y)::aO f v r) from rfl]
  by_cases c:g=f
  ·rw[if_pos c]
   rfl
  ·rw[if_neg c];rw[List.lookup_cons,show (f==g)=false by simpa using fun z=>c z.symm] at h
   simp[gX (fs:=r) h]
theorem wj.put2 {ff:List (Str×V)} {nm l m u s v:V} (h:wj ff nm l m u s):wj (aO "second" v ff) nm l m u v:=by
 have k:∀{g:Str},g≠ "second" ->(aO "second" v ff).lookup g=ff.lookup g:=fun hg=>by rw[bC,if_neg hg]
 exact ⟨(k (by decide+kernel)).trans h.name,(k (by decide+kernel)).trans h.least,(k (by decide+kernel)).trans h.most,(k (by decide+kernel)).trans h.uses,by rw[bC,if_pos rfl],(k (by decide+kernel)).trans h.word,(k (by decide+kernel)).trans h.span,(k (by decide+kernel)).trans h.grown,(k (by decide+kernel)).trans h.way,(k (by decide+kernel)).trans h.rounds⟩
section
variable {cC cR cW cRec:Addr} {G H H1 H':Hp} {r:Addr} {n:Str} {p:Nat} {lt ls lk:Addr} {ks:List So} {M:Md}
theorem RM.own_nd (h:RM cC cR cW cRec G H r n p lt ls lk ks M) {k:So} (hk:k∈ks):k.own.Nodup:=by
 have nd:=h.nd;unfold cg at nd;simp only[Ee] at nd;have nf:=nd.2.2.2.2;exact nf.sublist (List.sublist_flatten_of_mem (EO.mpr ⟨k,hk,rfl⟩))
theorem pM {k:So} {x:Addr} {o:HO} (g:aJ H H1) (hx:x∈k.own):Kp k.own H (aS H1 x o):=fun b u e m=>by
 rw[az fun z=>m (by rw[z];exact hx)]
 exact g _ _ e
theorem SM.second {k:So} {s:SV} {C dx:Addr} {sv:V} {ff:List (Str×V)} {t l:Addr} {lo hi:Nat} (hx:H k.x=some (.ins C dx ff)) (hC:iD cC cR cW s.w C) (sf:wj ff (.str s.n) (vN s.lo) (vN s.hi) (.ref k.u) sv) (l10:ff.length<=10) (hf:gf H ff s.fill) (hu:Uz H k.u s.uses) (g:aJ H H1) (nl:H l=none) (el:H1 l=some (.lst [])) (et:H1 t=some (.tup [vN lo,vN hi,.ref l])):SM cC cR cW (aS H1 k.x (.ins C dx (aO "second" (.ref t) ff))) ⟨k.x,k.u,some l⟩ {s with sec:=some (lo,hi,[])}:=by
 have q:qQ [k.x] H1:=fZ (g _ _ hx) nofun;have kp:=(Kp.refl [k.x] H1).put (x:=k.x) (by simp) (.ins C dx (aO "second" (.ref t) ff))
 have nu:k.u∉ [k.x]:=fun z=>by
  obtain ⟨vs,e,_⟩:=hu;rw[EC.mp z,hx] at e;cases e
 have nlx:l≠k.x:=fun z=>by rw[z,hx] at nl;cases nl
 refine ⟨C,dx,.ref t,_,af,hC,sf.put2,by rw[gX sf.second];exact l10,?_,kp.rtupM q (hu.same g) nu,t,rfl,kp.tupM q et,[],?_,A2.nil⟩
 ·have k0:=kp.fillM q (hf.same g);show gf _ _ s.fill;generalize s.fill=o at k0;cases o with
  |none=>exact k0
  |some a=>
   obtain ⟨t',e1,e2⟩:=k0;exact ⟨t',by rw[bC,if_neg (by decide+kernel)];exact e1,e2⟩
 ·rw[az nlx];exact el
theorem SM.use {k:So} {s:SV} {vs:List V} {t:Addr} {u:bP} (h:SM cC cR cW H k s) (nd:k.own.Nodup) (ev:H k.u=some (.lst vs)) (g:aJ H H1) (et:H1 t=some (.tup (gE u))):SM cC cR cW (aS H1 k.u (.lst (vs++ [.ref t]))) k {s with uses:=s.uses++ [u]}:=by
 obtain ⟨C,dx,sv,ff,hx,hC,sf,l10,hf,hu,hs⟩:=h.same g;have q:qQ [k.u] H1:=fZ (g _ _ ev) nofun;have kp:=(Kp.refl [k.u] H1).put (x:=k.u) (by simp) (.lst (vs++ [.ref t]))
 simp only[So.own,Ee,E3,not_or] at nd;refine ⟨C,dx,sv,ff,kp _ _ hx (by simpa using nd.1.1),hC,sf,l10,kp.fillM q hf,?_,kp.secM q hs fun b hb=>by simpa using fun z:b=k.u=>nd.2.1 (z▸hb)⟩
 obtain ⟨us,e',rr⟩:=hu;rw[g _ _ ev] at e';cases e';exact ⟨_,af,(rr.snoc ⟨t,rfl,trivial,et⟩).imp fun v x ⟨t,e1,e2,e3⟩=>⟨t,e1,e2,kp.tupM q e3⟩⟩
theorem SM.orw {k:So} {s:SV} {vs:List V} {t l lo hi:Nat} {us:List bP} {u:bP} (h:SM cC cR cW H k s) (nd:k.own.Nodup) (ek:k.sec=some l) (es:s.sec=some (lo,hi,us)) (ev:H l=some (.lst vs)) (g:aJ H H1) (et:H1 t=some (.tup (gE u))):SM cC cR cW (aS H1 l (.lst (vs++ [.ref t]))) k {s with sec:=some (lo,hi,us++ [u])}:=by
 obtain ⟨C,dx,sv,ff,hx,hC,sf,l10,hf,hu,hs⟩:=h.same g;have q:qQ [l] H1:=fZ (g _ _ ev) nofun;have kp:=(Kp.refl [l] H1).put (x:=l) (by simp) (.lst (vs++ [.ref t]))
 simp only[So.own,ek,Option.toList,Ee,E3,not_or,E9,not_false_eq_true,and_true] at nd;rw[ek,es] at hs;obtain ⟨t2,rfl,e2,⟨ws,e3,rr⟩⟩:=hs;rw[g _ _ ev] at e3;cases e3;refine ⟨C,dx,_,ff,kp _ _ hx (by simpa using nd.1.2),hC,sf,l10,kp.fillM q hf,kp.rtupM q hu (by simpa using nd.2.1),?_⟩
 rw[ek];exact ⟨t2,rfl,kp.tupM q e2,_,af,(rr.snoc ⟨t,rfl,trivial,et⟩).imp fun v x ⟨t,e1,e2,e3⟩=>⟨t,e1,e2,kp.tupM q e3⟩⟩
end
theorem wO {r:Rr} (h:fh r) (e:(pH r).1= "take"):∃g a,r= .take g a:=by
 cases r with
 |take g a=>exact ⟨g,a,rfl⟩
 |step w n lo hi f=>
  have e:w= "take" :=e;rcases h.1 with k|k|k<;>exact absurd (k.symm.trans e) (by decide)
 |sec n lo hi=>exact absurd e (show ¬Str.ofString "or" =Str.ofString "take" from by decide+kernel)
 |use o n u=>
  cases o with
  |false=>exact absurd e (show ¬Str.ofString "with" =Str.ofString "take" from by decide+kernel)
  |true=>exact absurd e (show ¬Str.ofString "orwith" =Str.ofString "take" from by decide+kernel)
 |link w a b t=>
  have e:w= "take" :=e;rcases h.1 with k|k|k<;>exact absurd (k.symm.trans e) (by decide)
theorem wP {r:Rr} (h:fh r) (e:(pH r).1∈([("cut" :Str),"rest","warm"]:Ip)):∃w n lo hi f,r= .step w n lo hi f:=by
 cases r with
 |take g a=>exact absurd e (show ¬Str.ofString "take" ∈([Str.ofString "cut","rest","warm"]:Ip) from by decide+kernel)
 |step w n lo hi f=>exact ⟨w,n,lo,hi,f,rfl⟩
 |sec n lo hi=>exact absurd e (show ¬Str.ofString "or" ∈([Str.ofString "cut","rest","warm"]:Ip) from by decide+kernel)
 |use o n u=>
  cases o with
  |false=>exact absurd e (show ¬Str.ofString "with" ∈([Str.ofString "cut","rest","warm"]:Ip) from by decide+kernel)
  |true=>exact absurd e (show ¬Str.ofString "orwith" ∈([Str.ofString "cut","rest","warm"]:Ip) from by decide+kernel)
 |link w a b t=>
  have e:w∈([("cut" :Str),"rest","warm"]:Ip):=e;rcases h.1 with k|k|k<;>(rw[k] at e;exact absurd e (by decide+kernel))
theorem yT {r:Rr} (h:fh r) (e:(pH r).1= "or"):∃n lo hi,r= .sec n lo hi:=by
 cases r with
 |take g a=>exact absurd e (show ¬Str.ofString "take" =Str.ofString "or" from by decide+kernel)
 |step w n lo hi f=>
  have e:w= "or" :=e;rcases h.1 with k|k|k<;>exact absurd (k.symm.trans e) (by decide)
 |sec n lo hi=>exact ⟨n,lo,hi,rfl⟩
 |use o n u=>
  cases o with
  |false=>exact absurd e (show ¬Str.ofString "with" =Str.ofString "or" from by decide+kernel)
  |true=>exact absurd e (show ¬Str.ofString "orwith" =Str.ofString "or" from by decide+kernel)
 |link w a b t=>
  have e:w= "or" :=e;rcases h.1 with k|k|k<;>exact absurd (k.symm.trans e) (by decide)
theorem yU {r:Rr} (h:fh r) (e:(pH r).1∈([("with" :Str),"orwith"]:Ip)):∃o n u,r= .use o n u:=by
 cases r with
 |take g a=>exact absurd e (show ¬Str.ofString "take" ∈([Str.ofString "with","orwith"]:Ip) from by decide+kernel)
 |step w n lo hi f=>
  have e:w∈([("with" :Str),"orwith"]:Ip):=e;rcases h.1 with k|k|k<;>(rw[k] at e;exact absurd e (by decide+kernel))
 |sec n lo hi=>exact absurd e (show ¬Str.ofString "or" ∈([Str.ofString "with","orwith"]:Ip) from by decide+kernel)
 |use o n u=>exact ⟨o,n,u,rfl⟩
 |link w a b t=>
  have e:w∈([("with" :Str),"orwith"]:Ip):=e;rcases h.1 with k|k|k<;>(rw[k] at e;exact absurd e (by decide+kernel))
theorem wQ {r:Rr} (h:fh r) (n1:(pH r).1≠ "take") (n2:(pH r).1∉([("cut" :Str),"rest","warm"]:Ip)) (n3:(pH r).1≠ "or") (n4:(pH r).1∉([("with" :Str),"orwith"]:Ip)):∃w a b t,r= .link w a b t:=by
 cases r with
 |take g a=>exact absurd rfl n1
 |step w n lo hi f=>
  have n2:w∉([("cut" :Str),"rest","warm"]:Ip):=n2;rcases h.1 with k|k|k<;>(rw[k] at n2;exact absurd (by decide+kernel) n2)
 |sec n lo hi=>exact absurd rfl n3
 |use o n u=>
  cases o with
  |false=>exact absurd (show Str.ofString "with" ∈([Str.ofString "with","orwith"]:Ip) from by decide+kernel) n4
  |true=>exact absurd (show Str.ofString "orwith" ∈([Str.ofString "with","orwith"]:Ip) from by decide+kernel) n4
 |link w a b t=>exact ⟨w,a,b,t,rfl⟩
def Wg (w:Str):Prop:=(∀c∈sL w,32<=c)/\w.length<=40
theorem gY {z:Str} (h:Nm z):Wg z:=⟨fun c m=>by have:=h.2.2 c m;omega,by have:=h.len;omega⟩
theorem fK {n:Nat} (h:n<=999999999):Wg (bK n):=⟨fun c m=>by
 unfold bK at m;rw[bx] at m;have:=(dR n c m).1;omega,by have:=cT h;omega⟩
theorem wR {p q:Nat}:∀c∈cV p q,43<=c:=fun c hc=>by
 have dd:∀n c,c∈dg n->43<=c:=fun n c h=>by have:=(dR n c h).1;omega
 unfold cV at hc
 split at hc
 ·exact dd _ c hc
 ·split at hc
  ·rcases EI.mp hc with h|h
   ·exact dd _ c h
   ·rcases E3.mp h with rfl|h
    ·decide
    ·exact dd _ c h
  ·rcases EI.mp hc with h|h
   ·exact dd _ c h
   ·rcases E3.mp h with rfl|h
    ·decide
    ·rcases EI.mp h with h|h
     ·exact dd _ c h
     ·rcases E3.mp h with rfl|h
      ·decide
      ·exact dd _ c h
theorem xA {a:dX} (h:rV a):Wg (kx a):=⟨fun c m=>by
 unfold kx at m;rw[bx] at m;have:=wR c m;omega,lO h⟩
theorem pN {w:Str} (h:yx w=true):Wg w:=gY ((fW w).mp h)
theorem uZ:∀{ws:Ip},(∀w∈ws,Wg w)->∀c∈sL (jB ws),32<=c
 | [],_,c,m=>by simp[jB] at m;exact absurd m (by decide+revert)
 | [a],h,c,m=>(h a Er).1 c m
 |a::b::r,h,c,m=>by
  rw[bT,bO,bO] at m;rcases EI.mp m with m|m
  ·rcases EI.mp m with m|m
   ·exact (h a Er).1 c m
   ·have:sL jI= [32]:=by decide
    rw[this] at m;simp at m;omega
  ·exact uZ (fun w hw=>h w (E6 _ hw)) c m
theorem Be {r:Rr} (h:fh r):(∀w∈iL r,Wg w)/\(iL r).length<=5:=by
 have W:∀{w:Str},vv w->Wg w:=fun h=>by rcases h with rfl|rfl|rfl<;>exact pN (by decide+kernel)
 have L:∀{w:Str},Ah w->Wg w:=fun h=>by rcases h with rfl|rfl|rfl<;>exact pN (by decide+kernel)
 cases r with
 |take g a=>
  refine ⟨fun w hw=>?_,by simp[iL]⟩
  simp only[iL,E3,E9,or_false] at hw;rcases hw with rfl|rfl|rfl
  ·exact pN (by decide+kernel)
  ·exact gY h.1
  ·exact xA h.2
 |step w n lo hi f=>
  obtain ⟨h1,h2,⟨l1,l2,l3⟩,h4⟩:=h;refine ⟨fun x hx=>?_,by cases f<;>simp[iL,uG]⟩
  have hx:x∈ [w,n,bK lo,bK hi]++uG f:=hx;rcases EI.mp hx with hx|hx
  ·simp only[E3,E9,or_false] at hx;rcases hx with rfl|rfl|rfl|rfl
   ·exact W h1
   ·exact gY h2
   ·exact fK (by omega)
   ·exact fK (by omega)
  ·cases f with
   |none=>cases hx
   |some a=>
    rw[EC.mp hx];exact xA h4.2
 |sec n lo hi=>
  obtain ⟨h2,⟨l1,l2,l3⟩⟩:=h;refine ⟨fun x hx=>?_,by simp[iL,qL]⟩
  simp only[iL,qL,E3,E9,or_false] at hx;rcases hx with rfl|rfl|rfl|rfl
  ·exact pN (by decide+kernel)
  ·exact gY h2
  ·exact fK (by omega)
  ·exact fK (by omega)
 |use o n u=>
  obtain ⟨h1,h2,h3,h4,h5⟩:=h;refine ⟨fun x hx=>?_,by simp[iL,qK]⟩
  simp only[iL,qK,E3,E9,or_false] at hx;rcases hx with rfl|rfl|rfl|rfl|rfl
  ·cases o
   ·exact pN (w:=Str.ofString "with") (by decide+kernel)
   ·exact pN (w:=Str.ofString "orwith") (by decide+kernel)
  ·exact gY h1
  ·exact gY h2
  ·exact fK (by omega)
  ·exact fK (by omega)
 |link w a b t=>
  obtain ⟨h1,h2,h3,h4,h5,h6⟩:=h;refine ⟨fun x hx=>?_,by simp only[iL,fE];split<;>simp⟩
  have hx:x∈ [w,a,b]++if w= "within" then [bK t] else []:=hx
  rcases EI.mp hx with hx|hx
  ·simp only[E3,E9,or_false] at hx;rcases hx with rfl|rfl|rfl
   ·exact L h1
   ·exact gY h2
   ·exact gY h3
  ·split at hx
   ·rw[EC.mp hx];exact fK (by omega)
   ·cases hx
theorem lW {r:Rr} (h:fh r):10∉sL (fb r)/\(fb r).length<=400:=by
 obtain ⟨h1,h2⟩:=Be h;refine ⟨fun m=>absurd (uZ h1 10 m) (by decide),?_⟩
 have k:=uI (iL r) (m:=40) fun w hw=>(h1 w hw).2
 have:=Nat.mul_le_mul_left 41 h2;exact EV k (by omega)
theorem gZ {n:Str} {p:Nat} (h:Nm n) (hp:p<=1000):10∉sL (bX n p)/\(bX n p).length<=400:=by
 refine ⟨fun m=>absurd (uZ (ws:= ["dish",n,bK p]) (fun w hw=>?_) 10 m) (by decide),rZ h hp⟩
 simp only[E3,E9,or_false] at hw;rcases hw with rfl|rfl|rfl
 ·exact pN (by decide+kernel)
 ·exact gY h
 ·exact fK (by omega)
theorem sy {n:Str} {p:Nat} {rs:List Rr} (h:Nm n) (hp:p<=1000) (ro:∀r∈rs,fh r):Txt.split (Txt.join jq (bX n p::rs.map fb)) jq=bX n p::rs.map fb:=by
 refine nQ (by simp) fun w hw=>?_
 rcases E3.mp hw with rfl|hw
 ·exact (gZ h hp).1
 ·obtain ⟨r,hr,rfl⟩:=EO.mp hw;exact (lW (ro r hr)).1
theorem wS {n:Str} {p:Nat} {rs:List Rr} (h:Nm n) (hp:p<=1000) (ro:∀r∈rs,fh r) (l:rs.length<=1000):(Txt.join jq (bX n p::rs.map fb)).length<=500000:=by
 have s:=iT (m:=400) (ws:=bX n p::rs.map fb) fun w hw=>by
  rcases E3.mp hw with rfl|hw
  ·exact (gZ h hp).2
  ·obtain ⟨r,hr,rfl⟩:=EO.mp hw;exact (lW (ro r hr)).2
 rw[jf,show jq.length=1 from rfl]
 simp only[EQ,E5] at s⊢;omega
theorem n9 {rs ts:List Rr} {M M':Md} (h:cz M rs= .ok M'):cz M (rs++ts)=cz M' ts:=by
 induction rs generalizing M with
 |nil=>cases h;rfl
 |cons r rs ih=>
  simp only[List.cons_append,cz] at h⊢;cases e:dU M r with
  |error x=>rw[e] at h;cases h
  |ok M1=>rw[e] at h;exact ih h
theorem jx {r:Rr} {rs:List Rr} {M M':Md} (h:cz M (r::rs)= .ok M'):∃M1,dU M r= .ok M1/\cz M1 rs= .ok M':=by
 simp only[cz] at h;cases e:dU M r with
 |error x=>rw[e] at h;cases h
 |ok M1=>rw[e] at h;exact ⟨M1,rfl,h⟩
theorem qV.puts {rs:List Rr} {M M':Md} (b:qV M) (h:cz M rs= .ok M'):qV M':=by
 induction rs generalizing M with
 |nil=>cases h;exact b
 |cons r rs ih=>
  obtain ⟨M1,e1,e2⟩:=jx h;exact ih (b.put e1) e2
theorem qV.nil:qV ⟨[],[],[]⟩:=⟨by simp,by simp,by simp,fun s h=>by cases h⟩
theorem sA {rs:List Rr} {M:Md} (h:cz ⟨[],[],[]⟩ rs= .ok M) (i:Nat):∃M1,cz ⟨[],[],[]⟩ (rs.take i)= .ok M1/\qV M1/\cz M1 (rs.drop i)= .ok M:=by
 have g:∀(M0:Md) (rs:List Rr) (i:Nat),cz M0 rs= .ok M->∃M1,cz M0 (rs.take i)= .ok M1/\cz M1 (rs.drop i)= .ok M:=by
  intro M0 rs
  induction rs generalizing M0 with
  |nil=>intro i h;exact ⟨M0,by simp[cz],by simpa using h⟩
  |cons r rs ih=>
   intro i h;cases i with
   |zero=>exact ⟨M0,rfl,h⟩
   |succ i=>
    obtain ⟨M1,e1,e2⟩:=jx h;obtain ⟨M2,k1,k2⟩:=ih M1 i e2;exact ⟨M2,by simp only[List.take_succ_cons,cz,e1];exact k1,k2⟩
 obtain ⟨M1,e1,e2⟩:=g _ rs i h;exact ⟨M1,e1,qV.nil.puts e1,e2⟩
section
variable {cC cR cW cRec:Addr} {G G' H H':Hp} {r:Addr} {n:Str} {p:Nat} {lt ls lk:Addr} {ks:List So} {M:Md}
theorem RM.low (h:RM cC cR cW cRec G H r n p lt ls lk ks M) (g:aJ G' G):RM cC cR cW cRec G' H r n p lt ls lk ks M:={h with fr:=g.trans h.fr,nw:=fun a ha=>g.free (h.nw a ha)}
theorem RM.top (h:RM cC cR cW cRec G H r n p lt ls lk ks M):RM cC cR cW cRec (less H (cg r lt ls lk ks)) H r n p lt ls lk ks M:={h with fr:=ix _ _,nw:=fun a ha=>if_pos ha}
theorem RM.less (h:RM cC cR cW cRec G H r n p lt ls lk ks M):aJ G (Sw.less H (cg r lt ls lk ks)):=fun b o e=>by
 rw[fX fun hx=>?_]
 ·exact h.fr _ _ e
 ·have:=h.nw b hx;rw[e] at this;cases this
end
theorem va {r:Rr} (h:fh r):(pH r).1≠ "dish" :=fun e=>by
 cases r with
 |take g a=>exact absurd e (show ¬Str.ofString "take" = "dish" from by decide)
 |step w n lo hi f=>
  have e:w= "dish" :=e;rcases h.1 with k|k|k<;>exact absurd (k.symm.trans e) (by decide)
 |sec n lo hi=>exact absurd e (show ¬Str.ofString "or" = "dish" from by decide)
 |use o n u=>
  cases o with
  |false=>exact absurd e (show ¬Str.ofString "with" = "dish" from by decide)
  |true=>exact absurd e (show ¬Str.ofString "orwith" = "dish" from by decide)
 |link w a b t=>
  have e:w= "dish" :=e;rcases h.1 with k|k|k<;>exact absurd (k.symm.trans e) (by decide)
def Bf (us:List bP):Prop:=(us.map fun x=>x.1).Nodup/\us.length<=12
theorem vb {α:Type} {xs:List α} {f:α->Str} (h:∀(i j:Nat) (x y:α),xs[i]?=some x->xs[j]?=some y->f x=f y->i=j):(xs.map f).Nodup:=by
 unfold List.Nodup;rw[List.pairwise_iff_getElem];intro i j hi hj ij e;rw[E5] at hi hj;rw[List.getElem_map,List.getElem_map] at e;have:=h i j _ _ (E1 hi) (E1 hj) e;omega
theorem jJ.nd {zs:Ip} (z:Zs zs) {us:List bP} (h:jJ zs us):Bf us:=⟨vb fun i j x y h1 h2 e=>by
 have k1:=(h.2 i x h1).1;have k2:=(h.2 j y h2).1;rw[e] at k1;have:=z.inj k1 k2;have:=bE h1;have:=bE h2;have:=h.1;omega,h.1⟩
end Sw
namespace L2
open PySem PySem.Spec PyProof.Rows XH Sw So
end L2
namespace Sw
open PySem L2 XH Hm PySem.NumText
theorem yV {r:Rr} (h:fh r):fb r≠ "" :=fun e=>by
 have k:=lV h;rw[e] at k;have:jK "" =none:=if_pos (by decide+kernel)
 rw[this] at k;cases k
theorem sB {rs:List Rr} {r:Rr} {M M':Md} (h:cz ⟨[],[],[]⟩ rs= .ok M) (e:dU M r= .ok M'):cz ⟨[],[],[]⟩ (rs++ [r])= .ok M':=by
 rw[n9 h];simp only[cz,e]
theorem yW (u:bP):jm (gE u):=fun x hx=>by
 simp only[gE,E3,E9,or_false] at hx;rcases hx with rfl|rfl|rfl<;>trivial
theorem vc (a:dX):jm (xn a):=fun x hx=>by
 simp only[xn,E3,E9,or_false] at hx;rcases hx with rfl|rfl<;>trivial
theorem yX (k:wu):jm (sF k):=fun x hx=>by
 simp only[sF,E3,E9,or_false] at hx;rcases hx with rfl|rfl|rfl|rfl<;>trivial
section
variable {K:D9} {H:Hp}
theorem pO {vs ws:List V} {us:List bP} (h:A2 (cy gE An H) vs us) (k:A2 (cy gE An H) ws us):gz (rT K H 1) vs ws:=pq (R:=cy gE) (fun v w x _ h k=>qG (yW x) h k) h k
theorem yY {vs ws:List V} {us:List wu} (h:A2 (cy sF An H) vs us) (k:A2 (cy sF An H) ws us):gz (rT K H 1) vs ws:=pq (R:=cy sF) (fun v w x _ h k=>qG (yX x) h k) h k
theorem vd {vs ws:List V} {us:List (Str×dX)} (h:A2 (eD An H) vs us) (k:A2 (eD An H) ws us):gz (rT K H 2) vs ws:=pq (R:=eD) (fun v w x _ h k=>by
 obtain ⟨t,b,rfl,_,_,e1,e2⟩:=h;obtain ⟨t',b',rfl,_,_,f1,f2⟩:=k;refine .inr ⟨t,t',_,_,rfl,rfl,.inl ⟨bZ.of e1,bZ.of f1⟩,⟨.inl ⟨rfl,trivial⟩,.inr ⟨b,b',_,_,rfl,rfl,.inl ⟨bZ.of e2,bZ.of f2⟩,jn (vc x.2)⟩,trivial⟩⟩) h k
end
def jy (cC cR cW:Addr):Sp:=fun vs H Q _=>∃(x:Addr) (k:Sk) (s:SV),vs= [.ref x,.ref k.a]/\wy cC cR cW H x s/\SL H k s/\vv s.w/\pz s.w s.fill/\∀H',aJ H H'->Q (.bl true) H'
def sG (w:Str):List V:= [.bl (decide (V.str w=V.str "cut")),.bl (decide (V.str w=V.str "rest")),.bl (decide (V.str w=V.str "warm"))]
theorem hJ {a b:Str}:decide (V.str a=V.str b)=decide (a=b):=by
 by_cases c:a=b
 ·rw[decide_eq_true c,c,decide_eq_true rfl]
 ·rw[decide_eq_false c,decide_eq_false fun z=>c (V.str.inj z)]
theorem yZ:sG "cut" = [.bl true,.bl false,.bl false]:=by
 unfold sG;rw[hJ,hJ,hJ]
 rfl
theorem wT:sG "rest" = [.bl false,.bl true,.bl false]:=by
 unfold sG;rw[hJ,hJ,hJ]
 rfl
theorem wU:sG "warm" = [.bl false,.bl false,.bl true]:=by
 unfold sG;rw[hJ,hJ,hJ]
 rfl
theorem pP (w:Str):∀z∈sG w,Ae z:=fun z hz=>by
 simp only[sG,E3,E9,or_false] at hz;rcases hz with rfl|rfl|rfl<;>trivial
section
variable {G H H':Hp} {m lt ls lk:Addr} {ks:List Sk} {M:Md}
theorem ML.less (h:ML G H m lt ls lk ks M):aJ G (Sw.less H (cI m lt ls lk ks)):=fun b o e=>by
 rw[fX fun hx=>?_]
 ·exact h.fr _ _ e
 ·have:=h.nw b hx;rw[e] at this;cases this
theorem ML.out (h:ML G H m lt ls lk ks M) {x:Addr} {zs:Ip} {o:HO} (ex:H x=some (.lst (zs.map V.str))) (nx:G x=none) (nm:x∉cI m lt ls lk ks):ML G (aS H x o) m lt ls lk ks M:=by
 have q:Fq [x] H:=fun b hb o e=>by
  rw[EC.mp hb,ex] at e;cases e;refine ⟨_,rfl,fun i j z=>?_⟩
  cases zs with
  |nil=>cases z
  |cons a zs=>cases z
 have kp:=(Kp.refl [x] H).put (x:=x) (by simp) o
 have ne:∀{b:Addr},b∈cI m lt ls lk ks->b∉ [x]:=fun hb z=>nm (by rw[<-EC.mp z];exact hb)
 exact {h with
  fr:=dW h.fr nx _
  em:=kp _ _ h.em (ne (by simp[cI]))
  et:=kp.rtake q h.et (ne (by simp[cI]))
  es:=kp _ _ h.es (ne (by simp[cI]))
  ss:=fun i k s e1 e2=>kp.sl q (h.ss i k s e1 e2) fun b hb=>ne (lR (E4 e1) hb)
  ek:=kp.rtup q h.ek (ne (by simp[cI]))}
end
structure ve (h:Str) (rs:List Rr) (M:Md) (i:Nat):Prop where
 pt:cz ⟨[],[],[]⟩ rs= .ok M
 ok:∀r∈rs,fh r
 ln:rs.length<=i
theorem ve.skip {h:Str} {rs:List Rr} {M:Md} {i:Nat} (k:ve h rs M i):ve h rs M (i+1):=⟨k.pt,k.ok,by have:=k.ln;omega⟩
theorem ve.put {h:Str} {rs:List Rr} {M M':Md} {i:Nat} {r:Rr} (k:ve h rs M i) (o:fh r) (e:dU M r= .ok M'):ve h (rs++ [r]) M' (i+1):=⟨sB k.pt e,fun x hx=>by
 rcases EI.mp hx with hx|hx
 ·exact k.ok x hx
 ·rw[EC.mp hx];exact o,by have:=k.ln;simp;omega⟩
theorem y1 {h:Str} {rs:List Rr} (hh:h.length<=400) (ok:∀r∈rs,fh r) (l:rs.length<=1000):((h::rs.map fb).map fun x=>x.length).sum+(h::rs.map fb).length<=1048576:=by
 have s:=iT (m:=400) (ws:=h::rs.map fb) fun w hw=>by
  rcases E3.mp hw with rfl|hw
  ·exact hh
  ·obtain ⟨r,hr,rfl⟩:=EO.mp hw;exact (lW (ok r hr)).2
 simp only[EQ,E5] at s⊢;omega
theorem kN {ns:List Int} (a b:Nat):∃cs:List Int,dy (ns.map V.int) (some (a:Int)) (some (b:Int))=cs.map V.int/\cs.length<=b-a:=by
 refine ⟨(ns.drop (HT.cZ ns.length 0 (some (a:Int)))).take (HT.cZ ns.length ns.length (some (b:Int))-HT.cZ ns.length 0 (some (a:Int))),?_,?_⟩
 ·unfold dy;rw[E5,<-List.map_drop,<-List.map_take]
 ·rw[EK];have h1:HT.cZ ns.length 0 (some (a:Int))=min a ns.length:=by unfold HT.cZ;simp;omega
  have h2:HT.cZ ns.length ns.length (some (b:Int))=min b ns.length:=by unfold HT.cZ;simp;omega
  rw[h1,h2,Eo];omega
open PyProof.Rows
def wV (H:Hp) (a:Addr):bP:=match H a with
 |some (.tup [.str y,.int m,.int k])=>(y,m.toNat,k.toNat)
 |_=>(Str.empty,0,0)
variable {H H':Hp}
theorem jz {a:Addr} {u:bP} (h:cy gE An H (.ref a) u):wV H a=u/\vo H a=u.1/\H a=some (.tup (gE u)):=by
 obtain ⟨t,e,_,k⟩:=h;cases e;have k':H a=some (.tup [.str u.1,vN u.2.1,vN u.2.2]):=k;refine ⟨?_,?_,k⟩
 ·unfold wV;rw[k'];show (u.1,((u.2.1:Nat):Int).toNat,((u.2.2:Nat):Int).toNat)=u;rw[Int.toNat_natCast,Int.toNat_natCast]
 ·unfold vo;rw[k']
theorem xB {as:Iq} {us:List bP} (r:A2 (cy gE An H) (as.map V.ref) us):us=as.map (wV H):=by
 refine FF fun i=>?_
 have hl:=r.1;rw[E5] at hl;rw[E7];cases e:as[i]? with
 |none=>
  rw[List.getElem?_eq_none_iff] at e;rw[FW (by omega)]
  rfl
 |some a=>
  have il:=bE e;have hu:=E1 (l:=us) (i:=i) (by omega)
  have k:=r.2 i (.ref a) _ (by rw[E7,e];rfl) hu
  rw[hu,Option.map_some,(jz k).1]
theorem lX {as:Iq} {us:List bP} (r:A2 (cy gE An H) (as.map V.ref) us):∀a∈as,cy gE An H (.ref a) (wV H a):=fun a ha=>by
 obtain ⟨i,hi⟩:=ED.mp ha;obtain ⟨u,hu,k⟩:=r.at_ (i:=i) (by rw[E7,hi];rfl)
 rw[(jz k).1];exact k
theorem xC {as:Iq} {us:List bP} (r:A2 (cy gE An H) (as.map V.ref) us) (nd:Bf us):UL H as (vo H):=by
 have e:as.map (vo H)=us.map fun x=>x.1:=by
  rw[xB r,FY];exact FR fun a ha=>(jz (lX r a ha)).2.1.trans (congrArg Prod.fst (jz (lX r a ha)).1.symm)
 have hl:=r.1;rw[E5] at hl;refine ⟨fun a ha=>?_,by rw[e];exact nd.1,by have:=nd.2;omega⟩
 have k:=jz (lX r a ha);exact ⟨_,_,by rw[k.2.1];exact k.2.2⟩
theorem vf {as bs:Iq} {us:List bP} (r:A2 (cy gE An H) (as.map V.ref) us) (s:uA as bs (vo H)):A2 (cy gE An H) (bs.map V.ref) (bs.map (wV H))/\(bs.map (wV H)).Perm us/\sortedS ((bs.map (wV H)).map fun x=>x.1)=true:=by
 have all:∀a∈bs,cy gE An H (.ref a) (wV H a):=fun a ha=>lX r a (s.perm.mem_iff.mp ha)
 refine ⟨⟨by simp,fun i v x e1 e2=>?_⟩,?_,?_⟩
 ·rw[E7] at e1 e2;cases e:bs[i]? with
  |none=>rw[e] at e1;cases e1
  |some a=>
   rw[e] at e1 e2;cases e1;cases e2;exact all a (E4 e)
 ·rw[xB r];exact s.perm.map _
 ·have e:(bs.map (wV H)).map (fun x=>x.1)=bs.map (vo H):=by
   rw[FY];exact FR fun a ha=>((jz (all a ha)).2.1.trans (congrArg Prod.fst (jz (all a ha)).1.symm)).symm
  rw[e];exact s.srt
theorem pQ {us U W:List bP} (nd:(us.map fun x=>x.1).Nodup) (p1:U.Perm us) (p2:W.Perm us) (s1:sortedS (U.map fun x=>x.1)=true) (s2:sortedS (W.map fun x=>x.1)=true):U=W:=by
 have e:=So.m4 s1 s2 ((p1.map _).trans (p2.map _).symm);have inj:∀a∈us,∀b∈us,a.1=b.1->a=b:=fun a ha b hb e=>by
  obtain ⟨i,hi⟩:=ED.mp ha;obtain ⟨j,hj⟩:=ED.mp hb;have e1:(us.map fun x=>x.1)[i]?=some a.1:=by rw[E7,hi];rfl
  have e2:(us.map fun x=>x.1)[j]?=some a.1:=by rw[E7,hj,e];rfl
  have ij:=(List.getElem?_inj (by rw[E5];exact bE hi) nd).mp (e1.trans e2.symm)
  rw[ij,hj] at hi;exact (EL hi).symm
 apply FF;intro i;have ei:(U.map fun x=>x.1)[i]?=(W.map fun x=>x.1)[i]?:=by rw[e]
 rw[E7,E7] at ei;cases hb:U[i]? with
 |none=>
  cases hc:W[i]? with
  |none=>rfl
  |some c=>rw[hb,hc] at ei;cases ei
 |some b=>
  cases hc:W[i]? with
  |none=>rw[hb,hc] at ei;cases ei
  |some c=>
   rw[hb,hc] at ei;rw[inj b (p1.mem_iff.mp (E4 hb)) c (p2.mem_iff.mp (E4 hc)) (EL ei)]
theorem wy.sta {cC cR cW x:Addr} {s:SV} (h:wy cC cR cW H x s):∃(C:Addr) (as:Iq) (c:uw),iD cC cR cW s.w C/\DD H x C s.n (s.lo:Int) (s.hi:Int) as c/\A2 (cy gE An H) (as.map V.ref) s.uses/\A8 H c s.sec:=by
 obtain ⟨C,dx,u,sv,ff,ex,hC,sf,hf,⟨vs,eu,ru⟩,hs⟩:=h;obtain ⟨as,rfl⟩:=A2.ref ru;generalize s.sec=o at hs⊢
 match o,hs with
 |none,hs=>exact ⟨C,as,none,hC,⟨dx,u,sv,ff,ex,sf,eu,hs⟩,ru,trivial⟩
 |some (lo,hi,us),⟨t,l,e1,e2,⟨ws,e3,rw⟩⟩=>
  obtain ⟨bs,rfl⟩:=A2.ref rw;exact ⟨C,as,some ((lo:Int),(hi:Int),bs),hC,⟨dx,u,sv,ff,ex,sf,eu,t,l,e1,e2,e3⟩,ru,rfl,rfl,rw⟩
theorem up_eq {n l p q:Int} (hq:0<q) (h:Up n l p q):n= -((-(l*p)).fdiv q):=by
 have h1:=h.lo;have h2:=h.hi;have k:=Int.mul_fdiv_add_fmod (-(l*p)) q;have m0:=EH (-(l*p)) hq;have m1:=Ec (-(l*p)) hq;generalize (-(l*p)).fdiv q=d at k⊢;generalize l*p=X at*;have e1:(n+d+1)*q>0:=by
  rw[Int.add_mul,Int.add_mul,Int.mul_comm d q,Int.one_mul];omega
 have e2:(n+d-1)*q<0:=by
  rw[show n+d-1=(n-1)+d by omega,Int.add_mul,Int.mul_comm d q]
  omega
 have a1:0<n+d+1:=Int.not_le.mp fun z=>by
  have:=FU z (F8 hq);rw[Int.zero_mul] at this;omega
 have a2:n+d-1<0:=Int.not_le.mp fun z=>by
  have:=Int.mul_nonneg z (F8 hq);omega
 omega
theorem y3 {n p q fp fq:Int} (hq:0<q) (hfq:0<fq) (h:CZ n p q fp fq 1 1):n= -((-(p*fp)).fdiv (q*fq)):=by
 have k:=up_eq (n:=n) (l:=p*fp) (p:=1) (q:=q*fq) (Int.mul_pos hq hfq) ⟨by have:=h.lo;simp only[Int.one_mul] at this;exact this,by have:=h.hi;simp only[Int.one_mul] at this;exact this⟩
 rw[Int.mul_one] at k;exact k
def xD:Sp:=fun vs H Q _=>∃a b:Int,vs= [.int a,.int b]/\0<b/\b<1000000000/\Q (.int (-((-a).fdiv b))) H
def Cp (s:SV):Prop:=Bf s.uses/\∀x,s.sec=some x->Bf x.2.2
def qW (K:D9) (cC cR cW:Addr):Sp:=fun vs H Q _=>∃(x:Addr) (k:Sk) (s:SV) (tf:Addr) (fp fq:Nat),vs= [.ref x,.ref k.a,.ref tf]/\wy cC cR cW H x s/\SL H k s/\Co s/\Cp s/\H tf=some (.tup [vN fp,vN fq])/\1<=fp/\fp<=9/\1<=fq/\fq<=9/\∀H',aJ H H'->Q (.bl true) H'
theorem A2.cons {α:Type} {R:V->α->Prop} {x:V} {y:α} {xs:List V} {ys:List α} (h:R x y) (k:A2 R xs ys):A2 R (x::xs) (y::ys):=⟨by simp[k.1],fun i v z e1 e2=>by
 cases i with
 |zero=>
  cases e1;cases e2;exact h
 |succ i=>exact k.2 i v z (by simpa using e1) (by simpa using e2)⟩
abbrev Dv:=Nat×Nat×List bP
def sH (s:SV):List Dv:=(s.lo,s.hi,s.uses)::s.sec.toList
def Cq (H:Hp) (v:V) (d:Dv):Prop:=∃w ul,v= .ref w/\H w=some (.lst [vN d.1,vN d.2.1,.ref ul])/\Uz H ul d.2.2
theorem Cq.same {H H':Hp} {v:V} {d:Dv} (h:Cq H v d) (g:aJ H H'):Cq H' v d:=by
 obtain ⟨w,ul,e1,e2,e3⟩:=h;exact ⟨w,ul,e1,g _ _ e2,e3.same g⟩
theorem wW {H:Hp} {as:Iq} {c:uw} {s:SV} (r:A2 (cy gE An H) (as.map V.ref) s.uses) (hc:A8 H c s.sec):(eH (s.lo:Int) (s.hi:Int) as c).length=(sH s).length/\∀(i:Nat) (d:Due) (e:Dv),(eH (s.lo:Int) (s.hi:Int) as c)[i]?=some d->(sH s)[i]?=some e->d.1=(e.1:Int)/\d.2.1=(e.2.1:Int)/\A2 (cy gE An H) (d.2.2.map V.ref) e.2.2:=by
 unfold sH;generalize s.sec=o at hc
 match c,o,hc with
 |none,none,_=>
  refine ⟨rfl,fun i d e h1 h2=>?_⟩
  match i,h1,h2 with
  |0,h1,h2=>
   cases h1;cases h2;exact ⟨rfl,rfl,r⟩
 |some (x,y,bs),some (lo,hi,us),⟨k1,k2,k3⟩=>
  refine ⟨rfl,fun i d e h1 h2=>?_⟩
  match i,h1,h2 with
  |0,h1,h2=>
   cases h1;cases h2;exact ⟨rfl,rfl,r⟩
  |1,h1,h2=>
   cases h1;cases h2;exact ⟨k1,k2,k3⟩
theorem Bg {s:SV} (b:Co s) (nd:Cp s):∀d∈sH s,lM d.1 d.2.1/\Bf d.2.2:=fun d hd=>by
 unfold sH at hd;rcases E3.mp hd with rfl|hd
 ·exact ⟨b.le,nd.1⟩
 ·have e:s.sec=some d:=by
   cases h:s.sec with
   |none=>rw[h] at hd;cases hd
   |some x=>
    rw[h] at hd;rw[EC.mp hd]
  exact ⟨(b.sec _ e).1,nd.2 _ e⟩
def DH (cut:Bool) (l fp fq:Nat):Int:=if cut=true then-((-((l:Int)*(fp:Int))).fdiv (fq:Int)) else (l:Int)
theorem vg {cut:Bool} {l fp fq:Nat} {n:Int} (h:wm cut (l:Int) (fp:Int) (fq:Int) n) (hq:1<=fq):n=DH cut l fp fq:=by
 unfold wm at h;unfold DH;cases cut with
 |true=>exact up_eq (by omega) h.1
 |false=>exact h
theorem iM {n k:Nat} (h:n<2^k):Bd k (n:Int):=by
 unfold Bd
 simpa using h
def qX (cC cR cW cRec:Addr):Sp:=fun vs H Q _=>∃(r:Addr) (n:Str) (p:Nat) (G:Hp) (m lt ls lk:Addr) (ks:List Sk) (M:Md),vs= [.ref r,.str n,vN p,.ref m]/\wz cC cR cW cRec H r n p M/\ML G H m lt ls lk ks M/\DF M/\(∀s∈M.steps,Cp s)/\∀H',aJ H H'->Q (.bl true) H'
theorem fi.nds {zs:Ip} {room:Nat} {M:Md} (h:fi zs room M) (z:Zs zs):∀s∈M.steps,Cp s:=fun s hs=>by
 obtain ⟨i,hi⟩:=ED.mp hs;have k:=h.ss i s hi;exact ⟨k.us.nd z,fun x hx=>(k.sec x hx).2.nd z⟩
def qY:Sp:=fun vs H Q _=>∃(lc ln:Addr) (cs:List Int) (zs:Ip) (n:Str) (p:Nat),vs= [.ref lc,.ref ln,.str (bX n p)]/\H lc=some (.lst (cs.map V.int))/\cs.length<=60/\H ln=some (.lst (zs.map V.str))/\Zs zs/\Nm n/\p<=1000/\∀(t m lt ls lk:Addr) (ks:List Sk) (M:Md) (rs:List Rr) (H':Hp),ML H H' m lt ls lk ks M->fi zs 12 M->ve "" rs M 60->H' t=some (.lst [.ref m,.str (Txt.join jq (bX n p::rs.map fb))])->Q (.ref t) H'
theorem sC (z:Str):(Str.ofString "dish " ++z)++Str.ofString " 7" =bX z 7:=by
 show _=jB ["dish",z,bK 7];rw[<-nJ];have e:Str.ofString " 7" =Str.ofString " " ++bK 7:=by decide+kernel
 rw[e,<-c8]
end Sw
namespace Lk35
open PySem L2 Sw XH PyProof.Rows Hm
abbrev Iw (x:Addr):Option V:=some (.ref x)
theorem bQ {X:Cx} {N P:Ip} {sp:Scope} (i:Nat) (sc:aB N P sp) {x:Str} {e:Expr} {te:TE} {pos pos':Pos} (he:PE X e te) (hi:X.N[i]?=some x:=by rfl) (hx:Loc X.env.scope x:=by exact Or.inl rfl) (hn:X.N=N:=by rfl) (hs:swapsWith e (some (.Name x pos')) pos.line X.env=pure false:=by rfl) (hf:X.fn x=true∨X.env.scope.names.lookup x=some .local:=by first|exact .inl rfl|exact .inr rfl|assumption):PS X (.Assign [.Name x pos'] e pos) (sP te (aX i)):=fk (hn▸sc.nd) hi hx he hs hf
theorem gh {X:Cx} {N P:Ip} {sp:Scope} (i:Nat) (sc:aB N P sp) {x:Str} {pos:Pos} (hi:X.N[i]?=some x:=by rfl) (hx:Loc X.env.scope x:=by exact Or.inl rfl) (hn:X.N=N:=by rfl) (hf:X.fn x=true∨X.env.scope.names.lookup x=some .local:=by first|exact .inl rfl|exact .inr rfl|assumption):PG X (.Name x pos) (aX i):=kS (hn▸sc.nd) hi hx hf
theorem b5 {X:Cx} {k j:Nat} {x:Str} {ps:Ip} {dvs:List V} {sp:Sp} {e:Expr} {es:List Expr} {t:TA} {p pos:Pos} (D:Dx X.prog X.w X.K X.mg X.base a7 k x ps dvs sp) (hr:cn j X.A) (ha:PA X (e::es) t) (hk:k<=j:=by decide) (hg:Gl X x:=by rfl) (hdb:(x==("__debug__" :Str))=false:=by decide) (he:starEach (e::es) X.env=(false,eval e X.env)::starEach es X.env:=by rfl) (hpl:(backTo pos (starEach es X.env)).any (·.1)=false:=by rfl):PE X (.Call (.Name x p) (e::es) [] pos) (jP sp [] E0 t):=ya D hr hk hg ha hdb he hpl
def top (i:Nat):Stmt:=PySem.Challenge.pw_stovework_k35_recipe_read.main.body.getD i (.Pass ⟨0,0,0,0⟩)
def clsAt (s:Stmt) (i:Nat):Stmt:=match s with| .ClassDef _ _ _ body _ _ _ _ _ _ _=>body.getD i (.Pass ⟨0,0,0,0⟩)|_=>s
abbrev De:Stmt:=top 11
abbrev Df:Stmt:=top 13
abbrev Dg:Stmt:=top 14
abbrev Cr:Stmt:=top 16
abbrev Dh:Stmt:=top 17
abbrev Di:Stmt:=top 18
abbrev Dj:Stmt:=top 19
abbrev Dk:Stmt:=top 20
abbrev Dl:Stmt:=top 21
abbrev Dm:Stmt:=top 23
abbrev y6:Stmt:=top 26
abbrev y8:Stmt:=top 25
abbrev y9:Stmt:=top 24
abbrev za:Stmt:=top 30
abbrev zb:Stmt:=top 32
abbrev zc:Stmt:=top 33
abbrev ze:Stmt:=top 38
abbrev zf:Stmt:=top 37
abbrev zg:Stmt:=top 36
abbrev zh:Stmt:=top 59
abbrev zi:Stmt:=top 58
abbrev zj:Stmt:=top 68
abbrev zk:Stmt:=top 69
abbrev zm:Stmt:=top 67
abbrev zn:Stmt:=top 61
abbrev zo:Stmt:=top 66
abbrev wX:Stmt:=clsAt (top 40) 0
abbrev wY:Stmt:=clsAt (top 42) 0
abbrev zp:Stmt:=clsAt (top 46) 0
abbrev zq:Stmt:=top 44
abbrev zr:Stmt:=clsAt (top 40) 2
abbrev zt:Stmt:=clsAt (top 41) 1
abbrev zu:Stmt:=clsAt (top 40) 5
abbrev zv:Stmt:=clsAt (top 40) 4
abbrev zw:Stmt:=clsAt (top 40) 3
abbrev zx:Stmt:=clsAt (top 42) 2
abbrev zy:Stmt:=top 57
abbrev zA:Stmt:=top 63
abbrev zB:Stmt:=top 62
abbrev zC:Stmt:=top 64
abbrev zD:Stmt:=top 65
abbrev zE:Stmt:=top 60
abbrev zF:Stmt:=top 56
abbrev zG:Stmt:=clsAt (top 41) 0
abbrev zH:Stmt:=clsAt (top 42) 1
abbrev zI:Stmt:=clsAt (top 43) 0
abbrev zJ:Stmt:=top 71
abbrev zK:Stmt:=top 72
abbrev zL:Stmt:=top 73
abbrev zM:Stmt:=top 74
abbrev zN:Stmt:=top 75
abbrev zO:Stmt:=top 76
abbrev zP:Stmt:=top 77
abbrev zQ:Stmt:=top 78
abbrev zR:Stmt:=top 79
abbrev zS:Stmt:=top 80
abbrev zT:Stmt:=top 81
abbrev zU:Stmt:=top 82
abbrev zV:Stmt:=top 83
abbrev zW:Stmt:=top 84
abbrev zX:Stmt:=top 85
abbrev zY:Stmt:=top 86
abbrev zZ:Stmt:=top 87
abbrev Aa:Stmt:=top 88
abbrev lY:Stmt:=top 89
def qZ:List (Str×List V):= [("dish",[.str "name",.str "plates"]),("take",[.str "name",.str "amount"]),("cut",[.str "name",.str "length",.str "length"]),("rest",[.str "name",.str "length",.str "length"]),("warm",[.str "name",.str "length",.str "length",.str "amount"]),("or",[.str "name",.str "length",.str "length"]),("with",[.str "name",.str "name",.str "many",.str "heat"]),("orwith",[.str "name",.str "name",.str "many",.str "heat"]),("after",[.str "name",.str "name"]),("within",[.str "name",.str "name",.str "turns"]),("apart",[.str "name",.str "name"])]
def og:List (Str×List V):= [("plates",[.int 1,.int 1000]),("length",[.int 1,.int 100000]),("many",[.int 1,.int 8]),("heat",[.int 0,.int 1000]),("turns",[.int 0,.int 100000]),("course",[.int 1,.int 8]),("parts",[.int 0,.int 400]),("low",[.int 0,.int 1000000000000000])]
structure Bn (w:World) (K:D9) (mg:Il) (Gr Ff Gs Fm Fh Fe Ev Fl Fk Ft Fn on GA GJ GW Gz GE Gw Gv GF GV GU GT GS:Addr):Prop where
 HE:∃t,mg "LETTERS" =some (.str "abcdefghijklmnopqrstuvwxyz" t)
 G1:∃t,mg "MOST_LETTERS" =some (.int 12 t)
 HF:∃t,mg "FIGURES" =some (.str "0123456789" t)
 G2:∃t,mg "MOST_FIGURES" =some (.int 30 t)
 Ho:∃t,mg "MOST_TAKES" =some (.int 12 t)
 Hq:∃t,mg "MOST_STEPS" =some (.int 12 t)
 Hx:∃t,mg "MOST_USES" =some (.int 12 t)
 Hr:∃t,mg "MOST_LINKS" =some (.int 24 t)
 HS:mg "abs" =none
 HM:mg "bool" =none
 GX:mg "enumerate" =none
 HL:mg "int" =none
 Fg:mg "isinstance" =none
 Go:mg "len" =none
 GD:mg "list" =none
 GP:mg "range" =none
 Hz:mg "sorted" =none
 Gu:mg "str" =none
 HC:mg "tuple" =none
 Ib:mg "zip" =none
 HK:mg "BOUNDS" =some (.ref Gr)
 HR:mg "Cut" =some (.ref Ff)
 HB:mg "FORMS" =some (.ref Gs)
 Hh:mg "LINK_WORDS" =some (.ref Fm)
 GK:mg "NoAmount" =some (.ref Fh)
 Hv:mg "Recipe" =some (.ref Fe)
 HJ:mg "Rest" =some (.ref Ev)
 GN:mg "STEP_WORDS" =some (.ref Fl)
 HI:mg "Step" =some (.ref Fk)
 HQ:mg "StoveError" =some (.ref Ft)
 Hu:mg "USE_WORDS" =some (.ref Fn)
 HH:mg "Warm" =some (.ref on)
 GI:nH K Fl ["cut","rest","warm"]
 Hd:nH K Fn ["with","orwith"]
 G3:nH K Fm ["after","within","apart"]
 Hy:nM w K Gs qZ
 HG:nM w K Gr og
 GY:PySem.W.excIn K Fh CS "ValueError.__new__" =true
 Ia:XI K Fh
 HA:XT K Fh
 GH:PySem.W.subIn K (.ref Fh) (.ref Fh)=some true
 Hs:EJ K (.ref Fh) (.ref Ft)=some true
 Ie:iY K Fk
 Id:Mk K Fk GA
 Ij:b7 K Fk "span" Gz
 Ig:b7 K Fk "rounds" GF
 Ih:b7 K Fk "grown" Gv
 Ii:b7 K Fk "grown_way" Gw
 Gy:iY K Ff
 HU:Mk K Ff GA
 HX:b7 K Ff "word" GU
 HZ:b7 K Ff "span" GE
 G6:b7 K Ff "rounds" GF
 Hg:b7 K Ff "grown" Gv
 GQ:b7 K Ff "grown_way" Gw
 Gp:iY K Ev
 HP:Mk K Ev GA
 HV:b7 K Ev "word" GS
 Hf:b7 K Ev "span" Gz
 GZ:b7 K Ev "rounds" GF
 G5:b7 K Ev "grown" Gv
 GM:b7 K Ev "grown_way" Gw
 Gj:iY K on
 HN:Mk K on GJ
 HW:b7 K on "word" GT
 He:b7 K on "span" Gz
 HY:b7 K on "rounds" GV
 G4:b7 K on "grown" Gv
 GL:b7 K on "grown_way" Gw
 Fi:iY K Fe
 HD:Mk K Fe GW
 Gm:aG K Ff "name"
 Gh:aG K Ff "least"
 Gn:aG K Ff "most"
 Gk:aG K Ff "uses"
 Fx:aG K Ff "second"
 Gf:aG K Ev "name"
 Fw:aG K Ev "least"
 Gg:aG K Ev "most"
 Ge:aG K Ev "uses"
 Fp:aG K Ev "second"
 Gc:aG K on "name"
 Fu:aG K on "least"
 Gd:aG K on "most"
 Gb:aG K on "uses"
 Fo:aG K on "second"
 GB:aG K on "fill"
 GC:aG K Fe "name"
 Gx:aG K Fe "plates"
 Fs:aG K Fe "takes"
 Fj:aG K Fe "steps"
 Gi:aG K Fe "links"
 GR:yd K Fk "__init__" GA
 Ic:vn K Fk
 Gq:vn K Ff
 Ga:vn K Ev
 Fy:vn K on
 GG:vn K Fe
 Hw:EJ K (.ref Ff) (.ref Ff)=some true
 Hn:EJ K (.ref Ff) (.ref Ev)=some false
 Hk:EJ K (.ref Ff) (.ref on)=some false
 Hl:EJ K (.ref Ff) (.ref Fk)=some true
 Hj:EJ K (.ref Ev) (.ref Ff)=some false
 Hc:EJ K (.ref Ev) (.ref Ev)=some true
 Ha:EJ K (.ref Ev) (.ref on)=some false
 Hb:EJ K (.ref Ev) (.ref Fk)=some true
 Hi:EJ K (.ref on) (.ref Ff)=some false
 G9:EJ K (.ref on) (.ref Ev)=some false
 G7:EJ K (.ref on) (.ref on)=some true
 G8:EJ K (.ref on) (.ref Fk)=some true
 GO:EJ K (.ref Fe) (.ref Fe)=some true
section
variable {P:Program} {w:World} {K:D9} {mg:Il} {base:Heap} {f:Addr} {fd:FuncData} {Gr Ff Gs Fm Fh Fe Ev Fl Fk Ft Fn on GA GJ GW Gz GE Gw Gv GF GV GU GT GS:Addr}
variable (B:Bn w K mg Gr Ff Gs Fm Fh Fe Ev Fl Fk Ft Fn on GA GJ GW Gz GE Gw Gv GF GV GU GT GS)
include B
theorem Dn {dV:Value} (F:br K "read_figures" "read_figures" De dV f fd):aY P w K mg base a7 1 f fd ["word"] pj:=by
 have sc:aB ["word","sign"] ["word"] (av De):=cS (by decide+kernel)
 refine F.ok sc (fun vs H Q E h=>?_) (fun cdv A outer s H vs Q E hr h=>?_)
 ·obtain ⟨_,rfl,_⟩:=h
  rfl
 obtain ⟨z,rfl,hz,q0,q1⟩:=h;have hz':z.length<=sizeLine:=EV hz (by decide)
 have hl:=cX z;refine ⟨_,(ad (aL (PW.pt (bU (ar iX (aK dJ rfl B.Go boot_len (@aa _ _ _ _ _ (pv 0) ae rfl)) ac (aA _)) (bN (ar mn (aK dJ rfl B.Go boot_len (@aa _ _ _ _ _ (pv 0) ae rfl)) (eN rfl B.G2) (aA _))))) (ah (ax bj)) ay) (ad (aL (PW.pt (oo (ar bF (ao oH (pv 0) ac (fun _ _=>rfl)) aE (aA _)) (kP (ar dZ (pv 0) aE (aA _))))) (ah (ax bj)) ay) (ad (eG PassesOwn.never rfl (tU (pv 0)) (gh 1 sc) (ah (aL (ar dI (pv 1) (mP rfl B.HF) (by with_unfolding_all rfl)) (ah (ax bj)) ay))) (ah (ax (bv lC rfl B.HL boot_int (@aa _ _ _ _ _ (pv 0) ae rfl))))))),?_⟩
 try dsimp only[cxK]
 refine ⟨_,rfl,z,rfl,hz',aI _ _ ⟨rfl,rfl,_,rfl,d2 (fun c=>?_) (fun c1=>⟨_,rfl,z,rfl,hz',aI _ _ ⟨rfl,rfl,_,rfl,d2 (fun c=>?_) (fun c2=>?_)⟩⟩)⟩⟩
 ·exact q0 (fO fun f=>by have:=f.1;omega)
 ·exact q0 (fO fun f=>by have:=f.2.1;omega)
 obtain ⟨c0,r0,el⟩:∃c r,sL z=c::r:=by
  cases e:sL z with
  |nil=>rw[e] at hl;simp at hl;omega
  |cons c r=>exact (aI c r rfl)
 try dsimp only[aX,a6]
 refine cut (fun σ H'=>σ= [some (.str z),none]/\H'=H/\(c0≠48∨sL z= [48])) (fun N hN=>?_) ?_
 ·refine ⟨_,rfl,ck z 0 c0 ⟨rfl,rfl,hz',(by show ig (sL z) ((0:Nat):Int)=some c0;exact aF (by rw[el];rfl)),rfl,_,rfl,yh (fun e1=>⟨_,rfl,rfl,_,rfl,t9 (fun e2=>?_) (fun e2=>?_)⟩) (fun e1=>?_)⟩⟩
  ·refine q0 (fO fun f=>?_)
   have c48:c0=48:=by
    have:=congrArg sL (e1.trans iR);rw[ph,bx,bx] at this;cases this
    rfl
   rcases f.2.2.1 with h|h
   ·exact h (by rw[el,c48];rfl)
   ·exact e2 (fA (by rw[h,iR,bx]))
  ·exact hN _ _ ⟨rfl,rfl,.inr (by rw[e2,iR,bx])⟩
  ·refine hN _ _ ⟨rfl,rfl,.inl fun e=>e1 ?_⟩
   rw[e,iR]
   rfl
 rintro σ H' ⟨rfl,rfl,hd⟩;refine ⟨_,rfl,z,rfl,qh (fun i σ H2=>H2=H'/\(∃o,σ= [some (.str z),o])/\∀j c,j<i->z.cps[j]?=some c->48<=c/\c<=57) ⟨rfl,⟨_,rfl⟩,fun j c h=>absurd h (by omega)⟩ (fun i c σ H2 hc hP=>?_) (fun σ H2 hP=>?_)⟩
 ·obtain ⟨rfl,⟨o,rfl⟩,hP⟩:=hP;refine ⟨_,rfl,aI _ _ ⟨rfl,rfl,_,rfl,Cj (fun e=>?_) (fun e=>?_)⟩⟩
  ·have e':=(qt c).symm.trans e;refine q0 (fO fun f=>?_)
   have:=f.2.2.2 c (E4 (show (sL z)[i]?=some c by rw[<-hc];exact FA))
   rw[decide_eq_true this] at e';cases e'
  ·have e':=(qt c).symm.trans e;refine ⟨rfl,⟨_,rfl⟩,fun j c' hj hc'=>?_⟩
   rcases Nat.lt_succ_iff_lt_or_eq.mp hj with k|k
   ·exact hP j c' k hc'
   ·subst k;rw[hc] at hc';cases hc';exact of_decide_eq_true e'
 ·obtain ⟨rfl,⟨o,rfl⟩,hP⟩:=hP;have f:vZ (sL z):=by
   refine ⟨by omega,by omega,?_,fun c hc=>?_⟩
   ·rcases hd with h|h
    ·exact .inl (by rw[el];simp;exact h)
    ·exact .inr h
   ·obtain ⟨i,hi⟩:=ED.mp hc;have hi':z.cps[i]?=some c:=by rw[<-hi];exact FA.symm
    exact hP i c (by have:=(FX.mp hi').1;exact this) hi'
  exact ⟨_,rfl,aI z _ ⟨rfl,int_text f,by have:=f.2.1;omega,q1 _ (oZ f)⟩⟩
theorem Do {dV:Value} (F:br K "is_whole" "is_whole" Df dV f fd):aY P w K mg base a7 1 f fd ["thing"] gI:=by
 have sc:aB ["thing"] ["thing"] (av Df):=cS (by decide+kernel)
 refine F.ok sc (fun vs H Q E h=>?_) (fun cdv A outer s H vs Q E hr h=>?_)
 ·obtain ⟨_,rfl,_⟩:=h
  rfl
 obtain ⟨v,rfl,q⟩:=h;refine ⟨_,(ah (ax (kR (aK gH rfl B.Fg boot_isinstance (@aa _ _ _ _ _ (pv 0) (@aa _ _ _ _ _ (ca (v:= .ty "int") rfl B.HL boot_int rfl) ae rfl) rfl)) (kQ (sO (aK gH rfl B.Fg boot_isinstance (@aa _ _ _ _ _ (pv 0) (@aa _ _ _ _ _ (ca (v:= .ty "bool") rfl B.HM boot_bool rfl) ae rfl) rfl))))))),?_⟩;try dsimp only[cxK]
 refine ⟨_,rfl,ck _ _ _ ⟨rfl,.ii v,_,rfl,kZ ⟨_,rfl,ck _ _ _ ⟨rfl,.ib v,_,rfl,q⟩⟩⟩⟩
theorem Dp {dV:Value} (F:br K "divisor" "divisor" Dg dV f fd):aY P w K mg base a7 1 f fd ["one","other"] w6:=by
 have sc:aB ["one","other","greater","lesser","rest"] ["one","other"] (av Dg):=cS (by decide+kernel)
 refine F.ok sc (fun vs H Q E h=>?_) (fun cdv A outer s H vs Q E hr h=>?_)
 ·obtain ⟨_,_,rfl,_⟩:=h
  rfl
 obtain ⟨a,b,rfl,q⟩:=h;refine ⟨_,(ad (bQ 2 sc (aK mq rfl B.HS boot_abs (@aa _ _ _ _ _ (pv 0) ae rfl))) (ad (bQ 3 sc (aK mq rfl B.HS boot_abs (@aa _ _ _ _ _ (pv 1) ae rfl))) (ad (mh PassesOwn.never (ar dZ (pv 3) ac (aA _)) (ad (bQ 4 sc (aw aN (pv 2) (pv 3))) (ad (bQ 2 sc (pv 3)) (ah (bQ 3 sc (pv 4)))))) (ah (ax (pv 2)))))),?_⟩;try dsimp only[cxK]
 refine ⟨_,rfl,_,rfl,_,rfl,_,rfl,?_⟩;refine mm (fun σ H'=>H'=H/\∃(g l:Int) (r:Option V),σ= [some (.int a),some (.int b),some (.int g),some (.int l),r]/\0<=g/\0<=l/\bA g l=bA a b)
  (fun (σ:L2.St) (_:Hp)=>match σ[3]? with|some (some (V.int l))=>l.toNat|_=>0) ⟨rfl,ck _ _ _ ⟨rfl,qc a,qc b,tq a b⟩⟩ ?_ (fun σ H Q Q' m ⟨v,e,s,k,hk,h2⟩=>⟨v,e,s,k,hk,m _ _ h2⟩)
 rintro σ H' ⟨rfl,g,l,r,rfl,g0,l0,inv⟩;refine ⟨_,rfl,rfl,_,rfl,DW (fun c=>?_) (fun c=>?_)⟩
 ·have lp:0<l:=by omega
  refine ⟨_,rfl,_,rfl,aI _ _ ⟨rfl,rfl,c,_,rfl,_,rfl,⟨rfl,ck l (g.fmod l) _ ⟨rfl,l0,EH g lp,?_⟩⟩,?_⟩⟩
  ·rw[jV lp];exact inv
  ·have h1:=Ec g lp;have h2:=EH g lp;show (g.fmod l).toNat<l.toNat;omega
 ·subst c;rw[jW g0] at inv;rw[<-inv] at q;exact ⟨_,rfl,q⟩
theorem Dq {dV:Value} (F:br K "fraction" "fraction" Cr dV f fd) (DZ1:Dx P w K mg base a7 1 "is_whole" ["thing"] [] gI) (DZ2:Dx P w K mg base a7 1 "divisor" ["one","other"] [] w6):aY P w K mg base a7 2 f fd ["top","bottom"] oN:=by
 have sc:aB ["top","bottom","common"] ["top","bottom"] (av Cr):=cS (by decide+kernel)
 refine F.ok sc (fun vs H Q E h=>?_) (fun cdv A outer s H vs Q E hr h=>?_)
 ·obtain ⟨_,_,rfl,_⟩:=h
  rfl
 obtain ⟨a,b,rfl,b0,hb,q⟩:=h;refine ⟨_,(ad (aL (PW.pt (bU (bV (bR (b5 DZ1 hr (@aa _ _ _ _ _ (pv 0) ae rfl)))) (bN (bV (bR (b5 DZ1 hr (@aa _ _ _ _ _ (pv 1) ae rfl))))))) (ah cP) ay) (ad (aL (ar bF (pv 1) ac (aA _)) (ah cP) ay) (ad (bQ 2 sc (b5 DZ2 hr (@aa _ _ _ _ _ (pv 0) (@aa _ _ _ _ _ (pv 1) ae rfl) rfl))) (ad (aL (ar iX (pv 1) ac (aA _)) (ah (bQ 2 sc (jM hW (pv 2)))) ay) (ah (ax (@bI _ _ _ _ _ (@aa _ _ _ _ _ (aw bJ (pv 0) (pv 2)) (@aa _ _ _ _ _ (aw bJ (pv 1) (pv 2)) ae rfl) rfl)))))))),?_⟩;try dsimp only[cxK]
 have c0:=tw (a:=a) b0;have cb:=xV (a:=a) b0 hb;have f:=AH (a:=a) b0;refine ⟨_,rfl,_,rfl,true,rfl,cq ⟨_,rfl,_,rfl,true,rfl,cq ?_⟩⟩;refine ⟨_,rfl,rfl,_,rfl,DX b0 ?_⟩;refine ⟨_,rfl,_,rfl,aI _ _ ⟨rfl,?_⟩⟩;refine ⟨_,rfl,aI _ _ ⟨rfl,rfl,_,rfl,d2 (fun c=>?_) (fun c=>?_)⟩⟩
 ·have e:jX a b= -bA a b:=if_pos c;rw[e] at c0 cb f;exact ⟨_,rfl,_,rfl,_,rfl,_,rfl,aI _ _ ⟨rfl,rfl,⟨c0,cb.div c0⟩,_,rfl,_,rfl,aI _ _ ⟨rfl,rfl,⟨c0,cb.div c0⟩,by show 2<=sizeLine;decide,fun t ht=>q _ _ f t _ (aj ht _) af⟩⟩⟩
 ·have e:jX a b=bA a b:=if_neg c;rw[e] at c0 cb f;exact ⟨_,rfl,_,rfl,aI _ _ ⟨rfl,rfl,⟨c0,cb.div c0⟩,_,rfl,_,rfl,aI _ _ ⟨rfl,rfl,⟨c0,cb.div c0⟩,by show 2<=sizeLine;decide,fun t ht=>q _ _ f t _ (aj ht _) af⟩⟩⟩
theorem Dr {dV:Value} (F:br K "plus" "plus" Dh dV f fd) (DZ3:Dx P w K mg base a7 2 "fraction" ["top","bottom"] [.int 1] oN):aY P w K mg base a7 3 f fd ["one","other"] (tE K):=by
 have sc:aB ["one","other"] ["one","other"] (av Dh):=cS (by decide+kernel)
 refine F.ok sc (fun vs H Q E h=>?_) (fun cdv A outer s H vs Q E hr h=>?_)
 ·obtain ⟨_,_,_,_,_,_,rfl,_⟩:=h
  rfl
 obtain ⟨t,t',p,q,p',q',rfl,h1,h2,qq⟩:=h;refine ⟨_,(ah (ax (b5 DZ3 hr (@aa _ _ _ _ _ (aw bW (aw bS (ao aT (pv 0) ac (fun _ _=>rfl)) (ao aT (pv 1) ac (fun _ _=>rfl))) (aw bS (ao aT (pv 1) ac (fun _ _=>rfl)) (ao aT (pv 0) ac (fun _ _=>rfl)))) (@aa _ _ _ _ _ (aw bS (ao aT (pv 0) ac (fun _ _=>rfl)) (ao aT (pv 1) ac (fun _ _=>rfl))) ae rfl) rfl)))),?_⟩
 try dsimp only[cxK]
 exact ⟨_,rfl,aC _ _ _ _ ⟨rfl,rfl,h1.at_,rfl,_,rfl,aC _ _ _ _ ⟨rfl,rfl,h2.at_,rfl,aI _ _ ⟨rfl,rfl,h1.bp.ok h2.bq,_,rfl,aC _ _ _ _ ⟨rfl,rfl,h2.at_,rfl,_,rfl,ck _ _ _ ⟨_,rfl,rfl,h1.at_,rfl,_,_,rfl,rfl,h2.bp.ok h1.bq,_,_,rfl,rfl,_,rfl,_,_,_,_,rfl,rfl,h1.at_,rfl,_,rfl,_,_,_,_,rfl,rfl,h2.at_,rfl,_,_,rfl,rfl,h1.bq.ok h2.bq,_,_,rfl,oP h1.pos h2.pos,(h1.bq.mul h2.bq).mono (by decide),qq⟩⟩⟩⟩⟩⟩
theorem Ds {dV:Value} (F:br K "product" "product" Di dV f fd) (DZ3:Dx P w K mg base a7 2 "fraction" ["top","bottom"] [.int 1] oN):aY P w K mg base a7 3 f fd ["one","other"] (oO K):=by
 have sc:aB ["one","other"] ["one","other"] (av Di):=cS (by decide+kernel)
 refine F.ok sc (fun vs H Q E h=>?_) (fun cdv A outer s H vs Q E hr h=>?_)
 ·obtain ⟨_,_,_,_,_,_,rfl,_⟩:=h
  rfl
 obtain ⟨t,t',p,q,p',q',rfl,h1,h2,qq⟩:=h;refine ⟨_,(ah (ax (b5 DZ3 hr (@aa _ _ _ _ _ (aw bS (ao aT (pv 0) ac (fun _ _=>rfl)) (ao aT (pv 1) ac (fun _ _=>rfl))) (@aa _ _ _ _ _ (aw bS (ao aT (pv 0) ac (fun _ _=>rfl)) (ao aT (pv 1) ac (fun _ _=>rfl))) ae rfl) rfl)))),?_⟩
 try dsimp only[cxK]
 exact ⟨_,rfl,aC _ _ _ _ ⟨rfl,rfl,h1.at_,rfl,_,rfl,aC _ _ _ _ ⟨rfl,rfl,h2.at_,rfl,aI _ _ ⟨rfl,rfl,h1.bp.ok h2.bp,_,rfl,aC _ _ _ _ ⟨rfl,rfl,h1.at_,rfl,_,rfl,ck _ _ _ ⟨_,rfl,rfl,h2.at_,rfl,_,_,rfl,rfl,h1.bq.ok h2.bq,_,_,rfl,oP h1.pos h2.pos,(h1.bq.mul h2.bq).mono (by decide),qq⟩⟩⟩⟩⟩⟩
theorem Dt {dV:Value} (F:br K "quotient" "quotient" Dj dV f fd) (DZ3:Dx P w K mg base a7 2 "fraction" ["top","bottom"] [.int 1] oN):aY P w K mg base a7 3 f fd ["one","other"] (tF K):=by
 have sc:aB ["one","other"] ["one","other"] (av Dj):=cS (by decide+kernel)
 refine F.ok sc (fun vs H Q E h=>?_) (fun cdv A outer s H vs Q E hr h=>?_)
 ·obtain ⟨_,_,_,_,_,_,rfl,_⟩:=h
  rfl
 refine qJ h fun t t' p q p' q' _hi=>?_
 refine yt _hi fun _r1 h1 h2 _hj=>?_
 refine kv _hj fun n0 qq=>?_
 clear h _hi _hj;subst _r1;refine ⟨_,(ah (ax (b5 DZ3 hr (@aa _ _ _ _ _ (aw bS (ao aT (pv 0) ac (fun _ _=>rfl)) (ao aT (pv 1) ac (fun _ _=>rfl))) (@aa _ _ _ _ _ (aw bS (ao aT (pv 0) ac (fun _ _=>rfl)) (ao aT (pv 1) ac (fun _ _=>rfl))) ae rfl) rfl)))),?_⟩
 try dsimp only[cxK]
 exact ⟨_,rfl,aC _ _ _ _ ⟨rfl,rfl,h1.at_,rfl,_,rfl,aC _ _ _ _ ⟨rfl,rfl,h2.at_,rfl,aI _ _ ⟨rfl,rfl,h1.bp.ok h2.bq,_,rfl,aC _ _ _ _ ⟨rfl,rfl,h1.at_,rfl,_,rfl,ck _ _ _ ⟨_,rfl,rfl,h2.at_,rfl,_,_,rfl,rfl,h1.bq.ok h2.bp,_,_,rfl,Int.mul_ne_zero (by have:=h1.pos;omega) n0,(h1.bq.mul h2.bp).mono (by decide),qq⟩⟩⟩⟩⟩⟩
theorem Du {dV:Value} (F:br K "round_up" "round_up" Dk dV f fd):aY P w K mg base a7 1 f fd ["one"] (xW K):=by
 have sc:aB ["one"] ["one"] (av Dk):=cS (by decide+kernel)
 refine F.ok sc (fun vs H Q E h=>?_) (fun cdv A outer s H vs Q E hr h=>?_)
 ·obtain ⟨_,_,_,rfl,_⟩:=h
  rfl
 obtain ⟨t,p,q,rfl,h1,qq⟩:=h;refine ⟨_,(ah (ax (jM hW (aw bJ (jM hW (ao aT (pv 0) ac (fun _ _=>rfl))) (ao aT (pv 0) ac (fun _ _=>rfl)))))),?_⟩
 try dsimp only[cxK]
 have q0:q≠0:=by have:=h1.pos;omega
 exact ⟨_,rfl,aC _ _ _ _ ⟨rfl,rfl,h1.at_,rfl,_,rfl,_,rfl,aC _ _ _ _ ⟨rfl,rfl,h1.at_,rfl,aI _ _ ⟨rfl,rfl,⟨q0,h1.bq.div q0⟩,_,rfl,qq⟩⟩⟩⟩
theorem Dw {dV:Value} (F:br K "round_down" "round_down" Dl dV f fd):aY P w K mg base a7 1 f fd ["one"] (tD K):=by
 have sc:aB ["one"] ["one"] (av Dl):=cS (by decide+kernel)
 refine F.ok sc (fun vs H Q E h=>?_) (fun cdv A outer s H vs Q E hr h=>?_)
 ·obtain ⟨_,_,_,rfl,_⟩:=h
  rfl
 obtain ⟨t,p,q,rfl,h1,qq⟩:=h;refine ⟨_,(ah (ax (aw bJ (ao aT (pv 0) ac (fun _ _=>rfl)) (ao aT (pv 0) ac (fun _ _=>rfl))))),?_⟩
 try dsimp only[cxK]
 have q0:q≠0:=by have:=h1.pos;omega
 exact ⟨_,rfl,aC _ _ _ _ ⟨rfl,rfl,h1.at_,rfl,_,rfl,aC _ _ _ _ ⟨rfl,rfl,h1.at_,rfl,aI _ _ ⟨rfl,rfl,⟨q0,h1.bq.div q0⟩,qq⟩⟩⟩⟩
theorem Dy {dV:Value} (F:br K "amount_text" "amount_text" Dm dV f fd) (DZ8:Dx P w K mg base a7 1 "round_down" ["one"] [] (tD K)):aY P w K mg base a7 2 f fd ["amount"] (xj K):=by
 have sc:aB ["amount","whole","bottom","top"] ["amount"] (av Dm):=cS (by decide+kernel)
 refine F.ok sc (fun vs H Q E h=>?_) (fun cdv A outer s H vs Q E hr h=>?_)
 ·obtain ⟨_,_,_,rfl,_⟩:=h
  rfl
 obtain ⟨t,p,q,rfl,h1,qq⟩:=h;refine ⟨_,(ad (bQ 1 sc (b5 DZ8 hr (@aa _ _ _ _ _ (pv 0) ae rfl))) (ad (bQ 2 sc (ao aT (pv 0) ac (fun _ _=>rfl))) (ad (bQ 3 sc (aw hV (ao aT (pv 0) ac (fun _ _=>rfl)) (aw bS (pv 1) (pv 2)))) (ad (aL (ar bF (pv 3) ac (aA _)) (ah (ax (bv bh rfl B.Gu boot_str (@aa _ _ _ _ _ (pv 1) ae rfl)))) ay) (ad (aL (ar bF (pv 1) ac (aA _)) (ah (ax (lB (dv (io (pv 3)) (dv aE (dv (io (pv 2)) o9)))))) ay) (ah (ax (lB (dv (io (pv 1)) (dv aE (dv (io (pv 3)) (dv aE (dv (io (pv 2)) o9))))))))))))),?_⟩
 try dsimp only[cxK]
 have q0:q≠0:=by have:=h1.pos;omega
 have bp:=AY h1.bp;have bq:=AY h1.bq;have lw:p/q<2^1900:=Ef (Nat.div_le_self p q) bp;have lt:p % q<2^1900:=Ef (Nat.mod_le p q) bp;refine ⟨_,rfl,ck t p q ⟨rfl,h1.mono (by decide),?_⟩⟩
 rw[m3];refine ⟨_,rfl,aC _ _ _ _ ⟨rfl,rfl,h1.at_,rfl,?_⟩⟩;refine ⟨_,rfl,aC _ _ _ _ ⟨rfl,rfl,h1.at_,rfl,_,rfl,_,rfl,aI _ _ ⟨rfl,rfl,(Ck lw).ok h1.bq,aI _ _ ⟨rfl,rfl,?_⟩⟩⟩⟩;dsimp only[aX];rw[v7];have dw:=cu lw;have dt:=cu lt;have dq:=cu bq;have s6:(600:Nat)*3+10<=sizeLine:=by decide
 refine ⟨_,rfl,rfl,_,rfl,lZ (fun c=>?_) (fun c=>?_)⟩
 ·refine ⟨_,rfl,_,rfl,lg lw,?_⟩;rw[iQ];unfold cV at qq;rw[if_pos (by omega)] at qq
  exact qq
 refine ⟨_,rfl,rfl,_,rfl,lZ (fun c2=>?_) (fun c2=>?_)⟩
 ·refine ⟨_,rfl,.inl ⟨_,rfl,lg lt,_,rfl,?_,_,rfl,?_,_,rfl,.inl ⟨_,rfl,lg bq,_,rfl,?_,?_,?_⟩⟩⟩
  all_goals simp only[iQ,dz,mW,cH,cr,List.nil_append,EG,EQ,List.length_nil]
  ·omega
  ·omega
  ·omega
  ·omega
  ·unfold cV at qq;rw[if_neg (by omega),if_pos (by omega)] at qq
   simpa using qq
 ·refine ⟨_,rfl,.inl ⟨_,rfl,lg lw,_,rfl,?_,_,rfl,?_,_,rfl,.inl ⟨_,rfl,lg lt,_,rfl,?_,_,rfl,?_,_,rfl,.inl ⟨_,rfl,lg bq,_,rfl,?_,?_,?_⟩⟩⟩⟩
  all_goals simp only[iQ,dz,fQ,mW,cH,cr,List.nil_append,EG,EQ,List.length_nil]
  ·omega
  ·omega
  ·omega
  ·omega
  ·omega
  ·omega
  ·unfold cV at qq;rw[if_neg (by omega),if_neg (by omega)] at qq
   simpa using qq
theorem Bh {dV:Value} (F:br K "loosely_read_term" "loosely_read_term" y6 dV f fd) (DZ0:Dx P w K mg base a7 1 "read_figures" ["word"] [] pj) (DZ3:Dx P w K mg base a7 2 "fraction" ["top","bottom"] [.int 1] oN):aY P w K mg base a7 3 f fd ["text"] t6:=by
 have sc:aB ["text","halves","top","bottom"] ["text"] (av y6):=cS (by decide+kernel)
 refine F.ok sc (fun vs H Q E h=>?_) (fun cdv A outer s H vs Q E hr h=>?_)
 ·obtain ⟨_,rfl,_⟩:=h
  rfl
 obtain ⟨z,rfl,hz,q0,q1⟩:=h;refine ⟨_,(ad (aL (ar dI aE (pv 0) (by with_unfolding_all rfl)) (ah (bQ 0 sc (lB (dv (io (pv 0)) (dv aE o9))))) ay) (ad (bQ 1 sc (c6 FI PySem.F.slot_str_partition PySem.F.type_str_partition gN (pv 0) (@aa _ _ _ _ _ aE ae rfl))) (ad (bQ 2 sc (b5 DZ0 hr (@aa _ _ _ _ _ (ao aT (pv 1) ac (fun _ _=>rfl)) ae rfl))) (ad (bQ 3 sc (b5 DZ0 hr (@aa _ _ _ _ _ (ao aT (pv 1) ac (fun _ _=>rfl)) ae rfl))) (ad (aL (PW.pt (bU (ar cN (pv 2) bj (aA _)) (bU (ar cN (pv 3) bj (aA _)) (bN (ar bF (pv 3) ac (aA _)))))) (ah (ax bj)) ay) (ah (ax (b5 DZ3 hr (@aa _ _ _ _ _ (pv 2) (@aa _ _ _ _ _ (pv 3) ae rfl) rfl))))))))),?_⟩
 try dsimp only[cxK]
 have lz:=cX z;refine cut (fun σ H'=>H'=H/\∃z':Str,σ= [some (.str z'),none,none,none]/\z'.length<=900010/\47∈sL z'/\c7 (sL z)=cL (cA 47 (sL z')).1 (cA 47 (sL z')).2) (fun N hN=>?_) ?_
 ·refine ⟨_,rfl,aI _ _ ⟨rfl,rfl,_,rfl,Cj (fun e=>?_) (fun e=>?_)⟩⟩
  ·rw[dz,ip] at e;have e':=of_decide_eq_false e;have e1:Str.ofString "/1" =bH [47,49]:=by decide
   refine ⟨_,rfl,.inr ⟨z,rfl,EV hz (by decide),_,rfl,?_,_,rfl,?_,?_,?_⟩⟩
   all_goals simp only[e1,Str.empty_append]
   ·exact EV hz (by decide)
   ·rw[<-cX,bO,bx,EG];refine EV (m:=900010) ?_ (by decide)
    simp;omega
   ·rw[<-cX,bO,bx,EG];refine EV (m:=900010) ?_ (by decide)
    simp;omega
   ·refine hN _ _ ⟨rfl,_,rfl,?_,?_,?_⟩
    ·rw[<-cX,bO,bx,EG];simp;omega
    ·rw[bO,bx];simp
    ·rw[bO,bx];have c:=dM (c:=47) (a:=sL z) (b:= [49]) e';rw[c];exact if_neg e'
  ·rw[dz,ip] at e;have e':=of_decide_eq_true e;refine hN _ _ ⟨rfl,z,rfl,by omega,e',?_⟩
   exact if_pos e'
 rintro σ H' ⟨rfl,z',rfl,hz',hm,et⟩;rw[et] at q0 q1;obtain ⟨ec,_⟩:=qm hm;have lz':=cX z';have lc:=congrArg List.length ec;rw[EG,EQ] at lc;refine ⟨_,rfl,rfl,aI z' _ ⟨rfl,rfl,(by rw[dz,cr];decide),EV hz' (by decide),fun t1 n1=>?_⟩⟩
 rw[dz,mX,if_pos hm];have g1:=aj n1 (.tup [.str (bH (cA 47 (sL z')).1),.str (bH [47]),.str (bH (cA 47 (sL z')).2)]);generalize (cA 47 (sL z')).1=a at*;generalize (cA 47 (sL z')).2=b at*;cases ea:df a with
 |none=>
  have en:cL a b=none:=by unfold cL;rw[ea]
  refine ⟨_,rfl,aC _ _ _ _ ⟨rfl,rfl,bZ.of af,rfl,_,rfl,by rw[cr];omega,fun _=>?_,(fun n h=>by rw[bx,ea] at h;cases h)⟩⟩
  cases eb:df b with
  |none=>
   refine ⟨_,rfl,aC _ _ _ _ ⟨rfl,rfl,bZ.of af,rfl,_,rfl,by rw[cr];omega,fun _=>?_,(fun n h=>by rw[bx,eb] at h;cases h)⟩⟩
   exact ⟨_,rfl,rfl,_,rfl,dT rfl (q0 en _ g1)⟩
  |some m=>
   refine ⟨_,rfl,aC _ _ _ _ ⟨rfl,rfl,bZ.of af,rfl,_,rfl,by rw[cr];omega,(fun h=>by rw[bx,eb] at h;cases h),fun n h=>?_⟩⟩
   exact ⟨_,rfl,rfl,_,rfl,dT rfl (q0 en _ g1)⟩
 |some n=>
  refine ⟨_,rfl,aC _ _ _ _ ⟨rfl,rfl,bZ.of af,rfl,_,rfl,by rw[cr];omega,(fun h=>by rw[bx,ea] at h;cases h),fun n' h=>?_⟩⟩
  rw[bx,ea] at h;cases h;cases eb:df b with
  |none=>
   have en:cL a b=none:=by unfold cL;rw[ea,eb]
   refine ⟨_,rfl,aC _ _ _ _ ⟨rfl,rfl,bZ.of af,rfl,_,rfl,by rw[cr];omega,fun _=>?_,(fun n h=>by rw[bx,eb] at h;cases h)⟩⟩
   exact ⟨_,rfl,rfl,_,rfl,dF (fun z=>nomatch z) ⟨_,rfl,rfl,_,rfl,dT rfl (q0 en _ g1)⟩⟩
  |some m=>
   refine ⟨_,rfl,aC _ _ _ _ ⟨rfl,rfl,bZ.of af,rfl,_,rfl,by rw[cr];omega,(fun h=>by rw[bx,eb] at h;cases h),fun m' h=>?_⟩⟩
   rw[bx,eb] at h;cases h;refine ⟨_,rfl,rfl,_,rfl,dF (fun z=>nomatch z) ⟨_,rfl,rfl,_,rfl,dF (fun z=>nomatch z) ⟨_,rfl,rfl,_,rfl,lZ (fun c=>?_) (fun c=>?_)⟩⟩⟩
   ·exact q0 (by unfold cL;rw[ea,eb];simp only;rw[if_pos (by omega)]) _ g1
   ·have m0:m≠0:=fun z=>c (by rw[z];rfl)
    have ep:cL a b=some (n,m):=by unfold cL;rw[ea,eb];simp only;rw[if_neg m0]
    refine ⟨_,rfl,_,rfl,aI _ _ ⟨rfl,c,(fS (ik eb)).mono (by decide),fun p q f t2 H2 g2 e2=>?_⟩⟩
    exact q1 n m p q ep m0 (ik ea) (ik eb) f t2 H2 (g1.trans g2) e2
theorem Bi {dV:Value} (F:br K "loosely_read" "loosely_read" y8 dV f fd) (DZ4:Dx P w K mg base a7 3 "plus" ["one","other"] [] (tE K)) (DZ10:Dx P w K mg base a7 3 "loosely_read_term" ["text"] [] t6):aY P w K mg base a7 4 f fd ["text"] qu:=by
 have sc:aB ["text","halves","whole","rest"] ["text"] (av y8):=cS (by decide+kernel)
 refine F.ok sc (fun vs H Q E h=>?_) (fun cdv A outer s H vs Q E hr h=>?_)
 ·obtain ⟨_,rfl,_⟩:=h
  rfl
 obtain ⟨z,rfl,hz,q0,q1⟩:=h;refine ⟨_,(ad (aL (ar dI aE (pv 0) (by with_unfolding_all rfl)) (ah (ax (b5 DZ10 hr (@aa _ _ _ _ _ (pv 0) ae rfl)))) ay) (ad (bQ 1 sc (c6 FI PySem.F.slot_str_partition PySem.F.type_str_partition gN (pv 0) (@aa _ _ _ _ _ aE ae rfl))) (ad (bQ 2 sc (b5 DZ10 hr (@aa _ _ _ _ _ (ao aT (pv 1) ac (fun _ _=>rfl)) ae rfl))) (ad (bQ 3 sc (b5 DZ10 hr (@aa _ _ _ _ _ (ao aT (pv 1) ac (fun _ _=>rfl)) ae rfl))) (ad (aL (PW.pt (bU (ar cN (pv 2) bj (aA _)) (bN (ar cN (pv 3) bj (aA _))))) (ah (ax bj)) ay) (ah (ax (b5 DZ4 hr (@aa _ _ _ _ _ (pv 2) (@aa _ _ _ _ _ (pv 3) ae rfl) rfl))))))))),?_⟩
 try dsimp only[cxK]
 have noB:∀{n:Nat},n<10^30->Bd 400 (n:Int):=fun h=>(fS h).mono (by decide)
 refine ⟨_,rfl,aI _ _ ⟨rfl,rfl,_,rfl,Cj (fun e=>?_) (fun e=>?_)⟩⟩
 ·rw[fQ,ip] at e;have e':=of_decide_eq_false e;have el:dr (sL z)=c7 (sL z):=if_neg e';rw[el] at q0 q1;refine ⟨_,rfl,z,rfl,by omega,q0,fun n m p q ht m0 hn hm f=>?_⟩
  exact q1 n m p q ht f.to f.same m0 ((noB hn).of_le f.bt) ((noB hm).of_le f.bb)
 ·rw[fQ,ip] at e;have e':=of_decide_eq_true e;obtain ⟨ec,_⟩:=qm e';have el:dr (sL z)=ly (c7 (cA 43 (sL z)).1) (c7 (cA 43 (sL z)).2):=if_pos e';rw[el] at q0 q1;have lz:=cX z;have lc:=congrArg List.length ec;rw[EG,EQ] at lc;refine ⟨_,rfl,rfl,aI z _ ⟨rfl,rfl,(by rw[fQ,cr];decide),EV hz (by decide),fun t1 n1=>?_⟩⟩
  rw[fQ,mX,if_pos e'];have g1:=aj n1 (.tup [.str (bH (cA 43 (sL z)).1),.str (bH [43]),.str (bH (cA 43 (sL z)).2)]);generalize (cA 43 (sL z)).1=a at*;generalize (cA 43 (sL z)).2=b at*;refine ⟨_,rfl,aC _ _ _ _ ⟨rfl,rfl,(bZ.of af),rfl,_,rfl,by rw[cr];omega,fun ht H2 g2=>?_,fun n m p q ht m0 hn hm f t2 H2 g2 e2=>?_⟩⟩
  ·rw[bx] at ht;have en:ly (c7 a) (c7 b)=none:=by unfold ly;rw[ht]
   have E2:H2 t1=some _:=g2 _ _ af;refine ⟨_,rfl,aC _ _ _ _ ⟨rfl,rfl,bZ.of E2,rfl,_,rfl,by rw[cr];omega,fun hb H3 g3=>?_,fun n m p q hb m0 hn hm f t3 H3 g3 e3=>?_⟩⟩
   ·exact ⟨_,rfl,rfl,_,rfl,dT rfl (q0 en _ (g1.trans (g2.trans g3)))⟩
   ·exact ⟨_,rfl,rfl,_,rfl,dT rfl (q0 en _ (g1.trans (g2.trans g3)))⟩
  ·rw[bx] at ht;have E2:H2 t1=some _:=g2 _ _ af;refine ⟨_,rfl,aC _ _ _ _ ⟨rfl,rfl,bZ.of E2,rfl,_,rfl,by rw[cr];omega,fun hb H3 g3=>?_,fun n' m' p' q' hb m0' hn' hm' f' t3 H3 g3 e3=>?_⟩⟩
   ·rw[bx] at hb;have en:ly (c7 a) (c7 b)=none:=by unfold ly;rw[ht,hb]
    exact ⟨_,rfl,rfl,_,rfl,dF (fun z=>nomatch z) ⟨_,rfl,rfl,_,rfl,dT rfl (q0 en _ (g1.trans (g2.trans g3)))⟩⟩
   ·rw[bx] at hb;have es:ly (c7 a) (c7 b)=some (n*m'+n'*m,m*m'):=by unfold ly;rw[ht,hb]
    have F1:cQ K 100 H3 t2 p q:= .of f (fS hn) (fS hm) (g3 _ _ e2);have F2:cQ K 100 H3 t3 p' q':= .of f' (fS hn') (fS hm') e3;refine ⟨_,rfl,rfl,_,rfl,dF (fun z=>nomatch z) ⟨_,rfl,rfl,_,rfl,dF (fun z=>nomatch z) ?_⟩⟩
    refine ⟨_,rfl,_,rfl,kq t2 t3 p q p' q' ⟨rfl,F1.mono (by decide),F2.mono (by decide),fun r s fr t4 H4 g4 e4=>?_⟩⟩
    have b1:Bd 201 (p*q'+p'*q):=(F1.bp.mul F2.bq).add (F2.bp.mul F1.bq);have b2:Bd 200 (q*q'):=F1.bq.mul F2.bq;refine q1 _ _ r s es fr.to ?_ (Nat.mul_ne_zero m0 m0') ((b1.of_le fr.bt).mono (by decide)) ((b2.of_le fr.bb).mono (by decide)) t4 H4 (g1.trans (g2.trans (g3.trans g4))) e4
    have sm:=tH f.same f'.same F1.pos F2.pos fr.same;rw[Et,Int.natCast_add,Et,Et];exact sm
theorem Bj {dV:Value} (F:br K "read_amount" "read_amount" y9 dV f fd) (DZ9:Dx P w K mg base a7 2 "amount_text" ["amount"] [] (xj K)) (DZ11:Dx P w K mg base a7 4 "loosely_read" ["text"] [] qu):aY P w K mg base (k9 P w) 5 f fd ["text"] (pk Fh):=by
 have sc:aB ["text","amount"] ["text"] (av y9):=cS (by decide+kernel)
 refine F.okX sc (fun vs H Q E h=>?_) (fun cdv A outer s H vs Q E hr h=>?_)
 ·obtain ⟨_,rfl,_⟩:=h
  rfl
 obtain ⟨z,rfl,hz,q0,q1⟩:=h;refine ⟨_,(ad (aL (bV (bR (aK (b4 (K:=K) rfl) rfl B.Fg boot_isinstance (@aa _ _ _ _ _ (pv 0) (@aa _ _ _ _ _ (ca (v:= .ty "str") rfl B.Gu boot_str rfl) ae rfl) rfl)))) (ah (mI B.GY rfl B.GK rfl tJ (@aa _ _ _ _ _ aE ae rfl))) ay) (ad (bQ 1 sc (b5 DZ11 hr (@aa _ _ _ _ _ (pv 0) ae rfl))) (ad (aL (PW.pt (bU (ar cN (pv 1) bj (aA _)) (bN (ar dZ (b5 DZ9 hr (@aa _ _ _ _ _ (pv 1) ae rfl)) (pv 0) (aA _))))) (ah (mI B.GY rfl B.GK rfl tJ (@aa _ _ _ _ _ aE ae rfl))) ay) (ah (ax (pv 1)))))),?_⟩;try dsimp only[cxK]
 refine ⟨_,rfl,aC _ _ "str" true ⟨rfl,.str z,(by kernel_rfl),true,rfl,cq ?_⟩⟩
 refine ⟨_,rfl,z,rfl,hz,fun hl H2 g2=>?_,fun n m p q hl lo sm m0 bp bq t2 H2 g2 e2=>?_⟩
 ·refine ⟨_,rfl,rfl,_,rfl,dT rfl ⟨by show 1<=sizeLine;decide,q1 (fun p q r=>?_) _ g2⟩⟩
  obtain ⟨n,m,e,_⟩:=r.ex;rw[hl] at e;cases e
 ·have p0:0<=p:=Int.nonneg_of_mul_nonneg_left (a:=p) (b:=(m:Int)) (by rw[sm];exact Int.mul_nonneg (Int.natCast_nonneg _) (F8 lo.pos)) (by omega)
  obtain ⟨P,rfl⟩:=Int.eq_ofNat_of_zero_le p0;obtain ⟨D,rfl⟩:=Int.eq_ofNat_of_zero_le (F8 lo.pos);have F1:cQ K 1900 H2 t2 P D:=⟨bZ.of e2,lo.pos,bp.mono (by decide),bq.mono (by decide)⟩
  have low:FC P D=1:=by
   have:=lo.low;show FC P D=1;have e:bA (P:Int) (D:Int)=((FC P D:Nat):Int):=rfl;rw[e] at this;omega
  have D0:0<D:=by have:=lo.pos;omega
  have sm':P*m=n*D:=by
   have:((P*m:Nat):Int)=((n*D:Nat):Int):=by rw[Et,Et];exact sm
   omega
  refine ⟨_,rfl,rfl,_,rfl,dF (fun z=>nomatch z) ⟨_,rfl,ck t2 P D ⟨rfl,F1,_,rfl,rfl,_,rfl,t9 (fun e=>?_) (fun e=>?_)⟩⟩⟩
  ·refine ⟨by show 1<=sizeLine;decide,q1 (fun p q r=>e ?_) _ g2⟩
   obtain ⟨n',m',el,sm2⟩:=r.ex;rw[hl] at el;cases el;have u:(P:Int)=p/\(D:Int)=q:=by
    refine oM lo ⟨by have:=r.pos;omega,by show ((FC p q:Nat):Int)=1;rw[r.low];rfl⟩ ?_
    have:P*q=p*D:=by
     refine Nat.eq_of_mul_eq_mul_right (Nat.pos_of_ne_zero m0) ?_;have h1:P*q*m=(P*m)*q:=by rw[Nat.mul_right_comm]
     have h2:p*D*m=(p*m)*D:=by rw[Nat.mul_right_comm]
     rw[h1,h2,sm',sm2,Nat.mul_right_comm]
    have h3:((P*q:Nat):Int)=((p*D:Nat):Int):=by rw[this]
    rw[Et,Et] at h3;exact h3
   have e1:P=p:=by have:=u.1;omega
   have e2':D=q:=by have:=u.2;omega
   rw[e1,e2',r.wr,tZ]
  ·refine ⟨_,rfl,q0 P D ⟨D0,low,(aI n m ⟨hl,sm'⟩),?_⟩ t2 H2 g2 e2⟩;rw[<-e,bx]
theorem Bk {dV:Value} (F:br K "is_name" "is_name" za dV f fd):aY P w K mg base a7 1 f fd ["thing"] (nC K):=by
 have sc:aB ["thing","sign"] ["thing"] (av za):=cS (by decide+kernel)
 refine F.ok sc (fun vs H Q E h=>?_) (fun cdv A outer s H vs Q E hr h=>?_)
 ·obtain ⟨_,rfl,_⟩:=h
  rfl
 obtain ⟨x,rfl,h⟩:=h;refine ⟨_,(ad (aL (PW.pt (bU (bV (bR (aK (b4 (K:=K) rfl) rfl B.Fg boot_isinstance (@aa _ _ _ _ _ (pv 0) (@aa _ _ _ _ _ (ca (v:= .ty "str") rfl B.Gu boot_str rfl) ae rfl) rfl)))) (bU (ar iX (aK dJ rfl B.Go boot_len (@aa _ _ _ _ _ (pv 0) ae rfl)) ac (aA _)) (bN (ar mn (aK dJ rfl B.Go boot_len (@aa _ _ _ _ _ (pv 0) ae rfl)) (eN rfl B.G1) (aA _)))))) (ah (ax cK)) ay) (ad (eG PassesOwn.never rfl (tU (pv 0)) (gh 1 sc) (ah (aL (ar dI (pv 1) (mP rfl B.HE) (by with_unfolding_all rfl)) (ah (ax cK)) ay))) (ah (ax cK)))),?_⟩
 try dsimp only[cxK]
 rcases h with ⟨z,rfl,hz,q1,q0⟩|⟨ty,hty,hk,q⟩
 ·have hz':z.length<=sizeLine:=EV hz (by decide)
  have hl:=cX z;try dsimp only[aX,a6]
  refine cut (fun σ H'=>H=H'/\σ= [some (.str z),none]/\1<=z.length/\z.length<=12) (fun N hN=>?_) ?_
  ·refine ⟨_,rfl,aC _ _ _ true ⟨rfl,.str _,rfl,_,rfl,cq ⟨_,rfl,z,rfl,hz',aI _ _ ⟨rfl,rfl,_,rfl,d2 (fun c=>?_) (fun c1=>⟨_,rfl,z,rfl,hz',aI _ _ ⟨rfl,rfl,_,rfl,d2 (fun c=>?_) (fun c2=>?_)⟩⟩)⟩⟩⟩⟩
   ·exact q0 fun n=>by have:=n.1;omega
   ·exact q0 fun n=>by have:=n.2.1;omega
   ·exact hN _ _ ⟨rfl,rfl,by omega,by omega⟩
  rintro σ _ ⟨rfl,rfl,l1,l2⟩;refine ⟨_,rfl,z,rfl,qh (fun i σ H2=>H=H2/\(∃o,σ= [some (.str z),o])/\∀j c,j<i->z.cps[j]?=some c->97<=c/\c<=122) ⟨rfl,⟨_,rfl⟩,fun j c h=>absurd h (by omega)⟩ (fun i c σ H2 hc hP=>?_) (fun σ H2 hP=>?_)⟩
  ·obtain ⟨rfl,⟨o,rfl⟩,hP⟩:=hP;refine ⟨_,rfl,aI _ _ ⟨rfl,rfl,_,rfl,Cj (fun e=>?_) (fun e=>?_)⟩⟩
   ·have e':=(qH c).symm.trans e;refine q0 fun n=>?_
    have:=n.2.2 c (E4 (show (sL z)[i]?=some c by rw[<-hc];exact FA))
    rw[decide_eq_true this] at e';cases e'
   ·have e':=(qH c).symm.trans e;refine ⟨rfl,⟨_,rfl⟩,fun j c' hj hc'=>?_⟩
    rcases Nat.lt_succ_iff_lt_or_eq.mp hj with k|k
    ·exact hP j c' k hc'
    ·subst k;rw[hc] at hc';cases hc';exact of_decide_eq_true e'
  ·obtain ⟨rfl,⟨o,rfl⟩,hP⟩:=hP;refine q1 ⟨by omega,by omega,fun c hc=>?_⟩
   obtain ⟨i,hi⟩:=ED.mp hc;have hi':z.cps[i]?=some c:=by rw[<-hi];exact FA.symm
   exact hP i c (by have:=(FX.mp hi').1;exact this) hi'
 ·exact ⟨_,rfl,aC _ _ _ false ⟨rfl,hty,hk,_,rfl,kZ q⟩⟩
theorem Bl {dV:Value} (F:br K "words_of" "words_of" zb dV f fd):aY P w K mg base a7 1 f fd ["row"] qB:=by
 have sc:aB ["row","words"] ["row"] (av zb):=cS (by decide+kernel)
 refine F.ok sc (fun vs H Q E h=>?_) (fun cdv A outer s H vs Q E hr h=>?_)
 ·obtain ⟨_,rfl,_⟩:=h
  rfl
 obtain ⟨z,rfl,hz,q0,q1⟩:=h;have s4:(5000:Nat)<=sizeLine:=by decide
 refine ⟨_,(ad (bQ 1 sc (c6 FI PySem.F.slot_str_split PySem.F.type_str_split mQ (pv 0) (@aa _ _ _ _ _ aE ae rfl))) (ad (aL (ar dN aE (pv 1) (by with_unfolding_all rfl)) (ah (ax bj)) ay) (ah (ax (pv 1))))),?_⟩
 try dsimp only[cxK]
 refine ⟨_,rfl,rfl,aI z 32 ⟨rfl,rfl,by omega,fun p np=>?_⟩⟩
 have g1:=aj np (.lst ((Txt.split z (bH [32])).map V.str));try dsimp only[aX,a6]
 refine ⟨_,rfl,aI p _ ⟨rfl,.inl (aH.of af),rfl,ko _,_,rfl,Ag (fun e=>q0 e _ g1) (fun e=>⟨_,rfl,q1 e p _ g1 af⟩)⟩⟩
theorem Bm {dV:Value} (F:br K "number_of" "number_of" zc dV f fd) (DZ0:Dx P w K mg base a7 1 "read_figures" ["word"] [] pj):aY P w K mg base a7 2 f fd ["word","low","high"] qC:=by
 have sc:aB ["word","low","high","number"] ["word","low","high"] (av zc):=cS (by decide+kernel)
 refine F.ok sc (fun vs H Q E h=>?_) (fun cdv A outer s H vs Q E hr h=>?_)
 ·obtain ⟨_,_,_,rfl,_⟩:=h
  rfl
 obtain ⟨z,lo,hi,rfl,hz,q0,q1⟩:=h;refine ⟨_,(ad (bQ 3 sc (b5 DZ0 hr (@aa _ _ _ _ _ (pv 0) ae rfl))) (ad (aL (PW.pt (bU (ar cN (pv 3) bj (aA _)) (bU (ar iX (pv 3) (pv 1) (aA _)) (bN (ar mn (pv 3) (pv 2) (aA _)))))) (ah (ax bj)) ay) (ah (ax (pv 3))))),?_⟩;try dsimp only[cxK]
 refine ⟨_,rfl,z,rfl,hz,fun e=>⟨_,rfl,rfl,_,rfl,dT rfl (q0 e)⟩,fun n e=>⟨_,rfl,rfl,_,rfl,dF (fun z=>nomatch z) ?_⟩⟩
 have q:=q1 n e;refine ⟨_,rfl,_,rfl,aI _ _ ⟨rfl,rfl,_,rfl,d2 (fun c=>?_) (fun c=>⟨_,rfl,_,rfl,aI _ _ ⟨rfl,rfl,_,rfl,d2 (fun c2=>?_) (fun c2=>⟨_,rfl,?_⟩)⟩⟩)⟩⟩
 ·rw[if_pos (.inl c)] at q;exact q
 ·rw[if_pos (.inr c2)] at q;exact q
 ·rw[if_neg (fun k=>k.elim c c2)] at q
  exact q
theorem Bo {dV:Value} (F:br K "amount_from" "amount_from" ze dV f fd) (XZ12:Dx P w K mg base (k9 P w) 5 "read_amount" ["text"] [] (pk Fh)):aY P w K mg base a7 6 f fd ["word","least"] kD:=by
 have sc:aB ["word","least","amount"] ["word","least"] (av ze):=cS (by decide+kernel)
 refine F.ok sc (fun vs H Q E h=>?_) (fun cdv A outer s H vs Q E hr h=>?_)
 ·obtain ⟨_,rfl,_⟩:=h
  rfl
 obtain ⟨w,rfl,wl,q0,q1⟩:=h;refine ⟨_,(ad (xZ rfl rfl (fun pins E=>(ah (bQ 2 sc (yb XZ12 hr (by decide) rfl tJ (@aa _ _ _ _ _ (pv 0) ae rfl))))) (AK B.HA rfl B.GK (fun pins a=>(ah (ax bj))) x6)) (ah (ax (eJ (ar Ax (ao aT (pv 2) ac (fun _ _=>rfl)) (pv 1) (aA _)) (pv 2) bj)))),?_⟩
 try dsimp only[cxK]
 have sl:sizeLine=16777216:=sizeLine_eq;refine cut (fun σ H'=>∃(t:Addr) (p q:Nat),σ= [some (.str w),some (.int 1),Iw t]/\aJ H H'/\H' t=some (.tup [.int p,.int q])/\Reads (sL w) p q) (fun N hN=>?_) ?_
 ·refine ⟨_,rfl,w,rfl,by omega,fun p q rd t H1 g1 e1=>?_,fun no H1 g1=>?_⟩
  ·exact hN _ _ (ck t p q ⟨rfl,g1,e1,rd⟩)
  ·intro a na;have ga:=aj na (xY a (.ref Fh) none);refine (aI Fh true ⟨rfl,B.GH,kZ ?_⟩);exact q0 (kB fun a h _=>no _ _ h) _ (g1.trans ga)
 rintro σ H1 ⟨t,p,q,rfl,g1,e1,rd⟩;refine ⟨_,rfl,aC t _ _ _ ⟨rfl,rfl,bZ.of e1,rfl,_,rfl,aI _ _ ⟨rfl,rfl,_,rfl,d2 (fun c=>⟨_,rfl,q1 (p,q) (kA (a:=(p,q)) rd (by show 1<=p;omega)) t _ g1 e1⟩) fun c=>q0 (kB fun a h h1=>?_) _ g1⟩⟩⟩
 obtain ⟨e,_⟩:=iq h rd;omega
theorem Bp {dV:Value} (F:br K "value_of" "value_of" zf dV f fd) (DZ13:Dx P w K mg base a7 1 "is_name" ["thing"] [] (nC K)) (DZ15:Dx P w K mg base a7 2 "number_of" ["word","low","high"] [] qC) (DZ16:Dx P w K mg base a7 6 "amount_from" ["word","least"] [] kD):aY P w K mg base a7 7 f fd ["field","word"] kE:=by
 have sc:aB ["field","word","bounds"] ["field","word"] (av zf):=cS (by decide+kernel)
 refine F.ok sc (fun vs H Q E h=>?_) (fun cdv A outer s H vs Q E hr h=>?_)
 ·obtain ⟨_,_,rfl,_⟩:=h
  rfl
 obtain ⟨f,z,rfl,zl,fo,q0,q1⟩:=h;refine ⟨_,(ad (aL (ar bF (pv 0) aE (aA _)) (ah (ax (eJ (bR (b5 DZ13 hr (@aa _ _ _ _ _ (pv 1) ae rfl))) (pv 1) bj))) ay) (ad (aL (ar bF (pv 0) aE (aA _)) (ah (ax (b5 DZ16 hr (@aa _ _ _ _ _ (pv 1) (@aa _ _ _ _ _ ac ae rfl) rfl)))) ay) (ad (aL (ar bF (pv 0) aE (aA _)) (ah (ax (b5 DZ16 hr (@aa _ _ _ _ _ (pv 1) (@aa _ _ _ _ _ ac ae rfl) rfl)))) ay) (ad (bQ 2 sc (nN (K:=K) (w:=w) rfl rfl (cD (v:=V.ref Gr) rfl B.HK rfl) (pv 0) (fun _ _=>rfl))) (ah (ax (b5 DZ15 hr (@aa _ _ _ _ _ (pv 1) (@aa _ _ _ _ _ (ao aT (pv 2) ac (fun _ _=>rfl)) (@aa _ _ _ _ _ (ao aT (pv 2) ac (fun _ _=>rfl)) ae rfl) rfl) rfl)))))))),?_⟩
 try dsimp only[cxK]
 have sl:sizeLine=16777216:=sizeLine_eq;refine cut (fun σ H'=>σ= [some (.str f),some (.str z),none]/\H=H'/\f≠ "name") (fun N hN=>?_) ?_
 ·refine ⟨_,rfl,rfl,_,rfl,lL (fun e=>?_) fun e=>hN _ _ ⟨rfl,rfl,e⟩⟩
  have ef:bB f z=if yx z=true then some (.nm z) else none:=by unfold bB;rw[if_pos e]
  refine ⟨_,rfl,_,rfl,.inl ⟨z,rfl,by omega,fun nm=>⟨_,rfl,kZ ⟨_,rfl,q1 (.nm z) ?_ _ _ (.refl _) rfl⟩⟩,fun nm=>⟨_,rfl,cq (q0 ?_ _ (.refl _))⟩⟩⟩
  ·rw[ef,if_pos ((fW z).mpr nm)]
  ·rw[ef,if_neg fun k=>nm ((fW z).mp k)]
 rintro σ _ ⟨rfl,rfl,n1⟩;refine cut (fun σ H'=>σ= [some (.str f),some (.str z),none]/\H=H'/\f≠ "amount") (fun N hN=>?_) ?_
 ·refine ⟨_,rfl,rfl,_,rfl,lL (fun e=>?_) fun e=>hN _ _ ⟨rfl,rfl,e⟩⟩
  have ef:bB f z=(nR z).map .am:=by unfold bB;rw[if_neg n1,if_pos e]
  exact ⟨_,rfl,z,rfl,zl,fun h H1 g1=>q0 (by rw[ef,h];rfl) H1 g1,fun a h t H1 g1 e1=>q1 (.am a) (by rw[ef,h];rfl) _ _ g1 ⟨t,rfl,trivial,e1⟩⟩
 rintro σ _ ⟨rfl,rfl,n2⟩;obtain ⟨n3,b,hb⟩:f≠ "stock" /\∃b,pF.lookup f=some b:=by
  rcases fo with e|e|⟨_,_,n3,hb⟩
  ·exact absurd e n1
  ·exact absurd e n2
  ·exact ⟨n3,hb⟩
 have ef:bB f z=(nS z b.1 b.2).map .num:=by unfold bB;rw[if_neg n1,if_neg n2,hb]
 refine cut (fun σ H'=>σ= [some (.str f),some (.str z),none]/\H=H') (fun N hN=>?_) ?_
 ·exact ⟨_,rfl,rfl,_,rfl,lL (fun e=>absurd e n3) fun e=>hN _ _ ⟨rfl,rfl⟩⟩
 rintro σ _ ⟨rfl,rfl⟩;refine ⟨_,rfl,aC Gr wJ f _ ⟨rfl,rfl,B.HG,yM,wL hb,fun t tv=>?_⟩⟩
 have st:=fun H=>lU.sq tv H
 dsimp only[aX,a6];refine ⟨_,rfl,_,rfl,aC t _ _ _ ⟨rfl,rfl,st _,rfl,_,rfl,aC t _ _ _ ⟨rfl,rfl,st _,rfl,ck z _ _ ⟨rfl,by omega,fun e=>q0 ?_ _ (.refl _),fun n e=>?_⟩⟩⟩⟩
 ·rw[ef];unfold nS;rw[if_neg fun h=>?_]
  ·rfl
  ·have:=(jr _).mp h.1;rw[oZ this] at e;cases e
 ·have ex:=i8 e;have fg:vZ (sL z):=by
   refine Classical.byContradiction fun nf=>?_
   rw[fO nf] at e;cases e
  have ev:PySem.NumText.digitsVal (sL z)=n:=by
   rw[oZ fg] at e;exact EL e
  by_cases c:b.1<=n/\n<=b.2
  ·rw[if_neg (by omega)]
   refine q1 (.num n) ?_ _ _ (.refl _) rfl;rw[ef];unfold nS;rw[ev,if_pos ⟨(jr _).mpr fg,c⟩]
   rfl
  ·rw[if_pos (by omega)]
   refine q0 ?_ _ (.refl _);rw[ef];unfold nS;rw[ev,if_neg fun h=>c h.2]
   rfl
theorem Bq {dV:Value} (F:br K "values_by" "values_by" zg dV f fd) (DZ17:Dx P w K mg base a7 7 "value_of" ["field","word"] [] kE):aY P w K mg base a7 8 f fd ["fields","words"] (jt K):=by
 have sc:aB ["fields","words","values","field","word"] ["fields","words"] (av zg):=cS (by decide+kernel)
 refine F.ok sc (fun vs H Q E h=>?_) (fun cdv A outer s H vs Q E hr h=>?_)
 ·obtain ⟨_,_,_,_,_,rfl,_⟩:=h
  rfl
 refine sE h fun t l fs w _hi=>?_
 refine sD _hi fun rest _hj=>?_
 refine jC _hj fun _r1 tv el wb fo _hk=>?_
 refine uF _hk fun fl q0 q1=>?_
 clear h _hi _hj _hk;subst _r1;refine ⟨_,(ad (aL (ar dZ (aK aV rfl B.Go boot_len (@aa _ _ _ _ _ (pv 1) ae rfl)) (aw bW ac (aK aV rfl B.Go boot_len (@aa _ _ _ _ _ (pv 0) ae rfl))) (aA _)) (ah (ax bj)) ay) (ad (bQ 2 sc (@bi _ _ _ _ (@aa _ _ _ _ _ (ao ai (pv 1) ac (fun _ _=>rfl)) ae rfl))) (ad (eG PassesOwn.never rfl (Ba rfl B.Ib (@aa _ _ _ _ _ (pv 0) (@aa _ _ _ _ _ (cG eB (pv 1) (cE ac) eA) ae rfl) rfl)) (iW rfl (bo (gh 3 sc) (bo (gh 4 sc) dY))) (ah (bw (c6 EY EX EW bG (pv 2) (@aa _ _ _ _ _ (b5 DZ17 hr (@aa _ _ _ _ _ (pv 3) (@aa _ _ _ _ _ (pv 4) ae rfl) rfl)) ae rfl))))) (ah (ax (eJ (ar (wK (AG hr)) bj (pv 2) (by with_unfolding_all rfl)) bj (pv 2))))))),?_⟩
 try dsimp only[cxK]
 have sl:sizeLine=16777216:=sizeLine_eq;have st:=fun H=>lU.sq tv H
 refine cut (fun σ H'=>σ= [Iw t,Iw l,none,none,none]/\H=H'/\fs.length=rest.length) (fun N hN=>?_) ?_
 ·refine ⟨_,rfl,aI l _ ⟨rfl,.inl (aH.of el),_,rfl,aI t _ ⟨rfl,.inr (st _),?_⟩⟩⟩;refine (aI _ _ ⟨rfl,rfl,rfl,_,rfl,?_⟩)
  by_cases e:fs.length=rest.length
  ·show if (!decide (V.int _=V.int _))=true then _ else _
   rw[if_neg (by rw[decide_eq_true (congrArg V.int (by simp[e];omega))];decide)]
   exact hN _ _ ⟨rfl,rfl,e⟩
  ·show if (!decide (V.int _=V.int _))=true then _ else _
   rw[if_pos (by rw[decide_eq_false fun z=>by have:=vj z;simp at this;omega];rfl)]
   exact q0 (kF e) _ (.refl _)
 rintro σ _ ⟨rfl,rfl,en⟩;refine ⟨_,rfl,aC l _ _ _ ⟨rfl,rfl,aH.of el,(aF (j:=0) rfl),by show 1<=sizeLine;decide,fun vl nv=>?_⟩⟩
 have g1:=aj nv (.lst [.str w]);have e1:aS H vl (.lst [.str w]) vl=some (.lst [.str w]):=af;generalize aS H vl (.lst [.str w])=H1 at g1 e1⊢;dsimp only[aX,a6];refine cut (fun σ H'=>∃o3 o4 xs,σ= [Iw t,Iw l,Iw vl,o3,o4]/\aJ H H'/\H' vl=some (.lst (.str w::xs))/\A2 (qT H') xs (fH fs rest)) (fun N hN=>?_) ?_
 ·refine ⟨_,rfl,_,rfl,_,rfl,aI l _ ⟨rfl,aH.of (g1 _ _ el),fun sl' nsl=>?_⟩⟩
  have ec:dy ((w::rest).map V.str) (some 1) none=rest.map V.str:=ir (c:=1);rw[ec];have g2:=g1.trans (aj nsl (.lst (rest.map V.str)));have e2:aS H1 sl' (.lst (rest.map V.str)) sl'=some (.lst (rest.map V.str)):=af;have e12:=aj nsl (.lst (rest.map V.str)) _ _ e1;have ns:sl'≠vl:=fun z=>by rw[z,e1] at nsl;cases nsl
  generalize aS H1 sl' (.lst (rest.map V.str))=H2 at g2 e2 e12⊢;refine (aI t sl' ⟨rfl,⟨_,st _⟩,⟨_,aH.of e2⟩,yK (xs:=fs.map V.str) (ys:=rest.map V.str) (fun i σ H'=>∃o3 o4 xs,σ= [Iw t,Iw l,Iw vl,o3,o4]/\aJ H H'/\H' sl'=some (.lst (rest.map V.str))/\H' vl=some (.lst (.str w::xs))/\A2 (qT H') xs ((fH fs rest).take i)) (ck none none [] ⟨rfl,g2,e2,e12,.nil⟩) (fun i σ H' _ ⟨_,_,_,_,_,e,_⟩=>⟨st _,aH.of e⟩) ?_ ?_⟩)
  ·rintro i y z σ H3 T hy hz ⟨o3,o4,xs,rfl,g3,e3,e4,r⟩ nT;rw[E7] at hy hz;obtain ⟨fd',hf,rfl⟩:=Ed.mp hy;obtain ⟨wd,hw,rfl⟩:=Ed.mp hz;refine (aI T _ ⟨rfl,bZ.of af,rfl,aI _ _ ⟨rfl,aI _ _ ⟨rfl,rfl,?_⟩⟩⟩);have gT:=aj nT (.tup [.str fd',.str wd]);generalize aS H3 T (.tup [.str fd',.str wd])=H4 at gT⊢;have il:(fH fs rest)[i]?=some (bB fd' wd):=by
    unfold fH;rw[E7,(List.getElem?_zip_eq_some (z:=(fd',wd))).mpr ⟨hf,hw⟩]
    rfl
   have fin:∀(x:V) (H5:Hp),aJ H4 H5->qT H5 x (bB fd' wd)->∃o3 o4 xs',[some (V.ref t),some (V.ref l),some (V.ref vl),some (V.str fd'),some (V.str wd)]= [some (.ref t),some (.ref l),some (.ref vl),o3,o4]/\aJ H (aS H5 vl (.lst (.str w::xs++ [x])))/\aS H5 vl (.lst (.str w::xs++ [x])) sl'=some (.lst (rest.map V.str))/\aS H5 vl (.lst (.str w::xs++ [x])) vl=some (.lst (.str w::xs'))/\A2 (qT (aS H5 vl (.lst (.str w::xs++ [x])))) xs' ((fH fs rest).take (i+1)):=by
    intro x H5 g5 rx;have g45:=gT.trans g5;have e5:=g45 _ _ e4;refine (ck _ _ (xs++ [x]) ⟨rfl,?_,?_,af,?_⟩)
    ·intro a o ea;rw[az fun z=>by rw[z,nv] at ea;cases ea]
     exact g45 _ _ (g3 _ _ ea)
    ·rw[az ns];exact g45 _ _ e3
    ·rw[List.take_add_one,il];exact (r.imp fun _ _ q=>(q.same g45).upd e5).snoc (rx.upd e5)
   have xl:(V.str w::xs).length<sizeLine:=by
    rw[EQ,r.1,EK];unfold fH;rw[E5,List.length_zip];omega
   refine ⟨_,rfl,.inl ⟨rfl,_,aH.of (gT _ _ e4)⟩,_,rfl,_,rfl,aI fd' wd ⟨rfl,wb.2 wd (E6 _ (E4 hw)),fo fd' (E4 hf),fun z H5 g5=>?_,fun v z x H5 g5 rx=>?_⟩⟩
   ·exact (ck vl _ _ ⟨rfl,rfl,g5 _ _ (gT _ _ e4),xl,fin .non H5 g5 (by rw[z];rfl)⟩)
   ·exact (ck vl _ _ ⟨rfl,rfl,g5 _ _ (gT _ _ e4),xl,fin x H5 g5 (by rw[z];exact rx)⟩)
  ·rintro σ H3 ⟨o3,o4,xs,rfl,g3,e3,e4,r⟩;rw[FJ (by unfold fH;simp[List.length_zip])] at r
   exact hN _ _ (ck o3 o4 xs ⟨rfl,g3,e4,r⟩)
 rintro σ H2 ⟨o3,o4,xs,rfl,g2,e2,r⟩;have mx:∀v∈V.str w::xs,Mx K H2 v:=by
  intro v hv;rcases E3.mp hv with rfl|hv
  ·exact .inr (.inl ⟨_,rfl⟩)
  ·obtain ⟨i,e⟩:=ED.mp hv;obtain ⟨o,_,q⟩:=r.at_ e;exact q.mx.1
 refine ⟨_,rfl,aI vl _ ⟨rfl,rfl,aH.of e2,mx,_,rfl,d2 (fun m=>?_) fun m=>?_⟩⟩
 ·have m':=(uV r).mp (by simpa using m)
  rcases gC en with ⟨_,z⟩|⟨us,_,o⟩
  ·exact q0 z _ g2
  ·rw[o] at m';simp at m'
 ·rcases gC en with ⟨z,_⟩|⟨us,z,o⟩
  ·exact absurd (E6 _ ((uV r).mpr z)) m
  ·rw[o] at r;exact ⟨_,rfl,q1 us z vl _ g2 nv ⟨xs,e2,Bb r⟩⟩
theorem Br {dV:Value} (F:br K "agree" "agree" zh dV f fd):aY P w K mg base a7 1 f fd ["values"] qU:=by
 have sc:aB ["values"] ["values"] (av zh):=cS (by decide+kernel)
 refine F.ok sc (fun vs H Q E h=>?_) (fun cdv A outer s H vs Q E hr h=>?_)
 ·obtain ⟨_,_,_,rfl,_⟩:=h
  rfl
 obtain ⟨l,w,us,rfl,⟨xs,el,r⟩,⟨v1,v2⟩,q⟩:=h;refine ⟨_,(ad (aL (PW.pt (bU (ar bF (ao ai (pv 0) ac (fun _ _=>rfl)) aE (aA _)) (bN (ar dN (ao ai (pv 0) ac (fun _ _=>rfl)) (cD (v:=V.ref Fl) rfl B.GN rfl) (by with_unfolding_all rfl))))) (ah (ax (eT Aw (ao ai (pv 0) ac (fun _ _=>rfl)) (ao ai (pv 0) ac (fun _ _=>rfl)) (aA _)))) ay) (ad (aL (ar dN (ao ai (pv 0) ac (fun _ _=>rfl)) (cD (v:=V.ref Fm) rfl B.Hh rfl) (by with_unfolding_all rfl)) (ah (ax (eT dZ (ao ai (pv 0) ac (fun _ _=>rfl)) (ao ai (pv 0) ac (fun _ _=>rfl)) (aA _)))) ay) (ah (ax cK)))),?_⟩
 try dsimp only[cxK]
 have sl:sizeLine=16777216:=sizeLine_eq;have le:∀N:Ends,N.rt=Q->(w= "or" ∨w= "cut" ∨w= "rest" ∨w= "warm")->vy (xO (vA fun i j=>V.bl (decide (i<=j))) (xO (xQ K) (mf 0) (tC (V.int 2))) (xO (xQ K) (mf 0) (tC (V.int 3)))) N [some (.ref l)] H:=by
  rintro N en c;obtain ⟨n,lo,hi,r',rfl⟩:=v1 c;obtain ⟨ys,rfl⟩:=yN r;have ea:cO w (.nm n:: .num lo:: .num hi::r')=decide ((lo:Int)<=hi):=by
   show (!(decide (w= "or" ∨w= "cut" ∨w= "rest" ∨w= "warm"))||decide (lo<=hi))=_;rw[decide_eq_true c];simp
  rw[ea] at q;refine ⟨_,rfl,aC l _ _ _ ⟨rfl,rfl,aH.of el,(aF (j:=2) rfl),_,rfl,aC l _ _ _ ⟨rfl,rfl,aH.of el,(aF (j:=3) rfl),aI _ _ ⟨rfl,rfl,?_⟩⟩⟩⟩;rw[en];exact q
 refine cut (fun σ H'=>σ= [Iw l]/\H=H'/\¬(w= "or" ∨w= "cut" ∨w= "rest" ∨w= "warm")) (fun N hN=>?_) ?_
 ·refine ⟨_,rfl,aC l _ _ _ ⟨rfl,rfl,aH.of el,(aF (j:=0) rfl),rfl,_,rfl,lL (fun e=>kZ (le _ rfl (.inl e))) fun e=>⟨_,rfl,aC l _ _ _ ⟨rfl,rfl,aH.of el,(aF (j:=0) rfl),aI Fl _ ⟨rfl,.inr (B.GI.sq _),rfl,ko _,_,rfl,Ag (gs:= ["cut","rest","warm"]) (fun m=>le _ rfl (.inr (by simpa using m))) fun m=>hN _ _ ⟨rfl,rfl,fun c=>?_⟩⟩⟩⟩⟩⟩
  rcases c with c|c
  ·exact e c
  ·exact m (by simpa using c)
 rintro σ _ ⟨rfl,rfl,n1⟩;refine cut (fun σ H'=>σ= [Iw l]/\H=H'/\¬(w= "after" ∨w= "within" ∨w= "apart")) (fun N hN=>?_) ?_
 ·refine ⟨_,rfl,aC l _ _ _ ⟨rfl,rfl,aH.of el,(aF (j:=0) rfl),aI Fm _ ⟨rfl,.inr (B.G3.sq _),rfl,ko _,_,rfl,Ag (gs:= ["after","within","apart"]) (fun m=>?_) fun m=>hN _ _ ⟨rfl,rfl,fun c=>m (by simpa using c)⟩⟩⟩⟩
  have c:w= "after" ∨w= "within" ∨w= "apart" :=by simpa using m
  obtain ⟨a,b,r',rfl⟩:=v2 c;obtain ⟨ys,rfl⟩:=Bc r;have ea:cO w (.nm a:: .nm b::r')= !decide (V.str a=V.str b):=by
   show (!(decide (w= "after" ∨w= "within" ∨w= "apart"))||decide (a≠b))=_;rw[decide_eq_true c];simp
  rw[ea] at q;exact ⟨_,rfl,aC l _ _ _ ⟨rfl,rfl,aH.of el,(aF (j:=1) rfl),_,rfl,aC l _ _ _ ⟨rfl,rfl,aH.of el,(aF (j:=2) rfl),rfl,q⟩⟩⟩
 rintro σ _ ⟨rfl,rfl,n2⟩;have ea:cO w us=true:=by
  unfold cO
  split
  ·rw[decide_eq_false n1]
   rfl
  ·rw[decide_eq_false n2]
   rfl
  ·rfl
 rw[ea] at q;exact q
theorem Bs {dV:Value} (F:br K "values_of" "values_of" zi dV f fd) (DZ14:Dx P w K mg base a7 1 "words_of" ["row"] [] qB) (DZ18:Dx P w K mg base a7 8 "values_by" ["fields","words"] [] (jt K)) (DZ19:Dx P w K mg base a7 1 "agree" ["values"] [] qU):aY P w K mg base a7 9 f fd ["row"] ju:=by
 have sc:aB ["row","words","values"] ["row"] (av zi):=cS (by decide+kernel)
 refine F.ok sc (fun vs H Q E h=>?_) (fun cdv A outer s H vs Q E hr h=>?_)
 ·obtain ⟨_,rfl,_⟩:=h
  rfl
 obtain ⟨z,rfl,hz,qn,qs⟩:=h;refine ⟨_,(ad (bQ 1 sc (b5 DZ14 hr (@aa _ _ _ _ _ (pv 0) ae rfl))) (ad (aL (PW.pt (bU (ar cN (pv 1) bj (aA _)) (bN (ar (nO (K:=K) (w:=w) rfl rfl) (ao ai (pv 1) ac (fun _ _=>rfl)) (cD (v:=V.ref Gs) rfl B.HB rfl) (by with_unfolding_all rfl))))) (ah (ax bj)) ay) (ad (bQ 2 sc (b5 DZ18 hr (@aa _ _ _ _ _ (nN (K:=K) (w:=w) rfl rfl (cD (v:=V.ref Gs) rfl B.HB rfl) (ao ai (pv 1) ac (fun _ _=>rfl)) (fun _ _=>rfl)) (@aa _ _ _ _ _ (pv 1) ae rfl) rfl))) (ad (aL (PW.pt (bU (ar cN (pv 2) bj (aA _)) (bN (bV (bR (b5 DZ19 hr (@aa _ _ _ _ _ (pv 2) ae rfl))))))) (ah (ax bj)) ay) (ah (ax (pv 2))))))),?_⟩
 try dsimp only[cxK]
 have sl:sizeLine=16777216:=sizeLine_eq;refine ⟨_,rfl,z,rfl,by omega,fun e H1 g1=>?_,fun e p H1 g1 ep=>?_⟩
 ·exact ⟨_,rfl,rfl,_,rfl,dT rfl (qn (if_pos e) _ g1)⟩
 have wb:C3 (Txt.split z jI):=wq (c:=32) (by omega)
 have nee:=mZ z 32;change H1 p=some (.lst ((Txt.split z jI).map V.str)) at ep;change Txt.split z jI≠ [] at nee;have er:jK z=match Txt.split z jI with
  | []=>none
  |w::rest=>match cB.lookup w with
   |none=>none
   |some fs=>match cM fs rest with
    |none=>none
    |some vs=>if cO w vs=true then some (w,vs) else none:=if_neg e
 rw[er] at qn qs;generalize Txt.split z jI=ws at ep wb nee qn qs;cases ws with
 |nil=>exact absurd rfl nee
 |cons w rest=>
 dsimp only at qn qs;try dsimp only[aX,a6]
 refine cut (fun σ H'=>σ= [some (.str z),Iw p,none]/\H1=H'/\∃fs,cB.lookup w=some fs) (fun N hN=>?_) ?_
 ·refine ⟨_,rfl,rfl,_,rfl,dF (fun z=>nomatch z) ⟨_,rfl,aC p _ _ _ ⟨rfl,rfl,aH.of ep,(aF (j:=0) rfl),ck Gs fG w ⟨rfl,rfl,B.Hy,nV,_,rfl,?_⟩⟩⟩⟩
  show if (!(fG.lookup w).isSome)=true then _ else _
  rw[nW];cases ef:cB.lookup w with
  |none=>
   rw[ef] at qn;exact qn rfl _ g1
  |some fs=>exact hN _ _ ⟨rfl,rfl,fs,ef⟩
 rintro σ _ ⟨rfl,rfl,fs,ef⟩;rw[ef] at qn qs;dsimp only at qn qs;obtain ⟨fo,fl⟩:=uU ef;refine ⟨_,rfl,aC p _ _ _ ⟨rfl,rfl,aH.of ep,(aF (j:=0) rfl),aC Gs fG w _ ⟨rfl,rfl,B.Hy,nV,sg ef,fun t tv=>⟨_,rfl,aC t p fs w ⟨rest,⟨rfl,tv,ep,wb,fo,fl,fun h H2 g2=>?_,fun us h v H2 g2 nv lv=>?_⟩⟩⟩⟩⟩⟩
 ·exact ⟨_,rfl,rfl,_,rfl,dT rfl (qn (by rw[h]) _ (g1.trans g2))⟩
 rw[h] at qn qs;dsimp only at qn qs;try dsimp only[aX,a6]
 refine cut (fun σ H'=>σ= [some (.str z),Iw p,Iw v]/\H2=H'/\cO w us=true) (fun N hN=>?_) ?_
 ·refine ⟨_,rfl,rfl,_,rfl,dF (fun z=>nomatch z) ⟨_,rfl,ck v w us ⟨rfl,lv,sh ef h,?_⟩⟩⟩
  cases ea:cO w us with
  |false=>exact ⟨_,rfl,qn (if_neg (by rw[ea];decide)) _ (g1.trans g2)⟩
  |true=>exact ⟨_,rfl,hN _ _ ⟨rfl,rfl,ea⟩⟩
 rintro σ _ ⟨rfl,rfl,ea⟩;exact ⟨_,rfl,qs w us (if_pos ea) v _ (g1.trans g2) (g1.free nv) lv⟩
theorem Bt {dV:Value} (F:br K "refuse_twice" "refuse_twice" zj dV f fd):aY P w K mg base a7 1 f fd ["name","told","at"] eZ:=by
 have sc:aB ["name","told","at"] ["name","told","at"] (av zj):=cS (by decide+kernel)
 refine F.ok sc (fun vs H Q E h=>?_) (fun cdv A outer s H vs Q E hr h=>?_)
 ·obtain ⟨_,_,_,_,rfl,_⟩:=h
  rfl
 obtain ⟨z,l,ts,a,rfl,el,nz,q⟩:=h;refine ⟨_,(ah (aL (ar dN (pv 0) (pv 1) (by with_unfolding_all rfl)) (ah cP) ay)),?_⟩
 try dsimp only[cxK]
 have sl:sizeLine=16777216:=sizeLine_eq;refine ⟨_,rfl,_,rfl,aI l _ ⟨rfl,.inl (aH.of el),rfl,ko _,_,rfl,Ag (gs:=ts) (fun m=>absurd m nz) fun _=>q⟩⟩
theorem Bu {dV:Value} (F:br K "refuse_full" "refuse_full" zk dV f fd):aY P w K mg base a7 1 f fd ["kept","most"] eR:=by
 have sc:aB ["kept","most"] ["kept","most"] (av zk):=cS (by decide+kernel)
 refine F.ok sc (fun vs H Q E h=>?_) (fun cdv A outer s H vs Q E hr h=>?_)
 ·obtain ⟨_,_,_,rfl,_⟩:=h
  rfl
 obtain ⟨l,xs,m,rfl,el,lt,q⟩:=h;refine ⟨_,(ah (aL (ar bF (aK aV rfl B.Go boot_len (@aa _ _ _ _ _ (pv 0) ae rfl)) (pv 1) (aA _)) (ah cP) ay)),?_⟩;try dsimp only[cxK]
 have sl:sizeLine=16777216:=sizeLine_eq;refine ⟨_,rfl,aI l _ ⟨rfl,.inl (aH.of el),_,rfl,rfl,_,rfl,lZ (fun e=>absurd e (by omega)) fun _=>q⟩⟩
theorem Bv {dV:Value} (F:br K "place_of" "place_of" zm dV f fd):aY P w K mg base a7 1 f fd ["recipe","name","at"] (f6 Ff Ev on Fe):=by
 have sc:aB ["recipe","name","at","place","step"] ["recipe","name","at"] (av zm):=cS (by decide+kernel)
 refine F.ok sc (fun vs H Q E h=>?_) (fun cdv A outer s H vs Q E hr h=>?_)
 ·obtain ⟨_,_,_,_,_,_,_,_,rfl,_⟩:=h
  rfl
 refine qJ h fun r z a n p M _hi=>?_
 refine vq _hi fun i s _hj=>?_
 refine jC _hj fun _r1 _r2 ml hi _r3 _hk=>?_
 refine kv _hk fun hj q=>?_
 clear h _hi _hj _hk;subst _r1;obtain ⟨lt,ls,lk,⟨dx,er⟩,⟨vt,et,rt⟩,⟨vs,es,rs⟩,⟨vk,ek,rk⟩⟩:=_r2;subst _r3;refine ⟨_,(ad (eG PassesOwn.never rfl (vY rfl B.GX (@aa _ _ _ _ _ (aU (pv 0) rfl) ae rfl)) (iW rfl (bo (gh 3 sc) (bo (gh 4 sc) dY))) (ah (aL (ar bF (aU (pv 4) rfl) (pv 1) (aA _)) (ah (ax (pv 3))) ay))) (ah cP)),?_⟩;try dsimp only[cxK]
 have sl:sizeLine=16777216:=sizeLine_eq;have il:=(E8.mp hi).1;have ls12:=rs.1;refine cut (fun σ H'=>False) (fun N hN=>?_) ?_
 ·refine ⟨_,rfl,aC r _ dx _ ⟨_,⟨rfl,er,B.Fi,B.Fj,bY.2.2.2.1,ls,rfl,⟨_,aH.of es⟩,tS (xs:=vs) (fun j σ H'=>∃o3 o4:Option V,σ= [Iw r,some (.str s.n),some a,o3,o4]/\aJ H H'/\j<=i) (aI none none ⟨rfl,.refl _,F0 _⟩) (fun i σ H' _ ⟨_,_,_,g,_⟩=>aH.of (g _ _ es)) ?_ ?_⟩⟩⟩
  ·rintro j y σ H1 T hy ⟨o3,o4,rfl,g1,ji⟩ nT;refine sD (rs.at_ hy) fun x' _hi=>?_
   refine kv _hi fun hx _hj=>?_
   refine sD _hj fun x _hk=>?_
   refine kv _hk fun _r1 _hl=>?_
   refine sE _hl fun C dx u sv _hm=>?_
   refine sD _hm fun ff _hn=>?_
   refine yt _hn fun ex cl sf _=>?_
   clear _hi _hj _hk _hl _hm _hn;subst _r1;have sc0:iC K C:=by
    rcases cl with ⟨_,rfl⟩|⟨_,rfl⟩|⟨_,rfl⟩
    ·exact ⟨B.Gy,B.Gm,B.Gh,B.Gn,B.Gk,B.Fx⟩
    ·exact ⟨B.Gp,B.Gf,B.Fw,B.Gg,B.Ge,B.Fp⟩
    ·exact ⟨B.Gj,B.Gc,B.Fu,B.Gd,B.Gb,B.Fo⟩
   have g2:=g1.trans (aj nT (.tup [.int (j:Int),.ref x]));refine (aI T _ ⟨rfl,bZ.of af,rfl,aI _ _ ⟨rfl,aI _ _ ⟨rfl,rfl,?_⟩⟩⟩);generalize aS H1 T (.tup [.int (j:Int),.ref x])=H2 at g2⊢;have ex2:=g2 _ _ ex;refine ⟨_,rfl,aC x C dx ff ⟨_,⟨rfl,ex2,sc0.cl,sc0.name,sf.name,_,rfl,rfl,_,rfl,lL (fun e=>?_) fun e=>?_⟩⟩⟩
   ·have:j=i:=Classical.byContradiction fun n=>hj j x' (by omega) hx e
    subst this;exact ⟨_,rfl,q _ g2⟩
   ·refine (aI _ _ ⟨rfl,g2,?_⟩);have:j≠i:=fun z=>by
     subst z;rw[hi] at hx;cases hx;exact e rfl
    omega
  ·rintro σ H1 ⟨_,_,_,_,ji⟩;omega
 rintro σ _ z;exact z.elim
theorem Bw {dV:Value} (F:br K "put_take" "put_take" zn dV f fd) (DZ21:Dx P w K mg base a7 1 "refuse_twice" ["name","told","at"] [] eZ) (DZ22:Dx P w K mg base a7 1 "refuse_full" ["kept","most"] [] eR):aY P w K mg base a7 2 f fd ["recipe","at","values"] (kH Ff Ev on Fe):=by
 have sc:aB ["recipe","at","values"] ["recipe","at","values"] (av zn):=cS (by decide+kernel)
 refine F.ok sc (fun vs H Q E h=>?_) (fun cdv A outer s H vs Q E hr h=>?_)
 ·obtain ⟨_,_,_,_,_,_,_,_,_,_,_,_,_,rfl,_⟩:=h
  rfl
 refine ku h fun r l a G n p lt ls lk _hi=>?_
 refine sE _hi fun ks M g am _hj=>?_
 refine jC _hj fun _r1 rm _r2 nt ml q=>?_
 clear h _hi _hj;subst _r1;obtain ⟨xs,el,rl⟩:=_r2;refine ⟨_,(ad (bw (b5 DZ21 hr (@aa _ _ _ _ _ (ao ai (pv 2) ac (fun _ _=>rfl)) (@aa _ _ _ _ _ (iP (own:= "take") (ys:= []) (js:= []) rfl (AO AN .nil (by decide) rfl rfl rfl rfl rfl rfl rfl rfl) (gF (aU (pv 0) rfl)) (fun C fp s H=>(ao (qD (K:=K) rfl) (pv 0) ac (fun _ _=>rfl)))) (@aa _ _ _ _ _ (pv 1) ae rfl) rfl) rfl))) (ad (bw (b5 DZ22 hr (@aa _ _ _ _ _ (aU (pv 0) rfl) (@aa _ _ _ _ _ (eN rfl B.Ho) ae rfl) rfl))) (ah (bw (c6 EY EX EW bG (aU (pv 0) rfl) (@aa _ _ _ _ _ (@bI _ _ _ _ _ (@aa _ _ _ _ _ (ao ai (pv 2) ac (fun _ _=>rfl)) (@aa _ _ _ _ _ (ao ai (pv 2) ac (fun _ _=>rfl)) ae rfl) rfl)) ae rfl)))))),?_⟩
 try dsimp only[cxK]
 have sl:sizeLine=16777216:=sizeLine_eq;obtain ⟨x1,xs,rfl,e1,rl⟩:=aZ rl;obtain ⟨x2,xs,rfl,⟨t2,rfl,_,et2⟩,rl⟩:=aZ rl;cases e1;obtain ⟨dx,er⟩:=rm.er;obtain ⟨vt,et,rt⟩:=id rm.et;refine ⟨_,rfl,aC l _ _ _ ⟨rfl,rfl,aH.of el,(aF (j:=1) rfl),_,rfl,aC r _ dx _ ⟨_,⟨rfl,er,B.Fi,B.Fs,bY.2.2.1,lt,rfl,⟨_,aH.of et⟩,nA (xs:=vt) (fun x y=>∃(t:Addr) (z:Str),x= .ref t/\(∃b,H t=some (.tup [.str z,.ref b]))/\y= .str z) (aH.of et) (by have:=rt.1;omega) (fun x hx H3 g3 Q' hQ=>?_) (fun p1 ys H4 np hl ht g4 e4=>?_)⟩⟩⟩⟩
 ·obtain ⟨i,hi⟩:=ED.mp hx;obtain ⟨k,hk,t,b,rfl,_,_,et',eb⟩:=rt.at_ hi;exact ⟨_,rfl,aC t _ _ _ ⟨rfl,rfl,bZ.of (g3 _ _ et'),rfl,hQ _ _ (aI t k.1 ⟨rfl,⟨b,et'⟩,rfl⟩) (.refl _)⟩⟩
 have ey:ys=(M.takes.map fun k=>k.1).map V.str:=by
  refine FF fun i=>?_
  by_cases il:i<ys.length
  ·have iv:i<vt.length:=by omega
   obtain ⟨k,hk,t,b,ev,_,_,et',_⟩:=rt.at_ (E1 iv);obtain ⟨t',z,ev',⟨b',et''⟩,ez⟩:=ht i _ _ (E1 iv) (E1 il);rw[ev] at ev';cases ev';rw[et'] at et'';cases et'';rw[E1 il,ez,E7,E7,hk]
   rfl
  ·have:=rt.1;rw[FW (by omega),FW (by simp;omega)]
 subst ey;have tl:=rt.1;refine ⟨_,rfl,aC g p1 _ a ⟨rfl,e4,(fun m=>?_),_,rfl,aC r _ dx _ ⟨_,⟨rfl,(g4 _ _ er),B.Fi,B.Fs,bY.2.2.1,ck lt vt 12 ⟨rfl,g4 _ _ et,by omega,_,rfl,aC r _ dx _ ⟨_,⟨rfl,(g4 _ _ er),B.Fi,B.Fs,bY.2.2.1,.inl ⟨rfl,_,aH.of (g4 _ _ et)⟩,_,rfl,l,_,_,_,rfl,rfl,aH.of (g4 _ _ el),(aF (j:=1) rfl),_,rfl,l,_,_,_,rfl,rfl,aH.of (g4 _ _ el),(aF (j:=2) rfl),by show 2<=sizeLine;decide,fun t nt'=>?_⟩⟩⟩⟩⟩⟩⟩
 ·obtain ⟨x,hx,ex⟩:=EO.mp m;exact nt x hx ex
 have g5:=g4.trans (aj nt' (.tup [.str g,.ref t2]));have e5:aS H4 t (.tup [.str g,.ref t2]) t=some (.tup [.str g,.ref t2]):=af;generalize aS H4 t (.tup [.str g,.ref t2])=H5 at g5 e5⊢;exact (ck lt _ _ ⟨rfl,rfl,g5 _ _ et,by omega,q _ ((rm.same g5).take (g5 _ _ et) (aI t t2 ⟨rfl,trivial,trivial,e5,g5 _ _ et2⟩))⟩)
theorem By {dV:Value} (F:br K "put_link" "put_link" zo dV f fd) (DZ22:Dx P w K mg base a7 1 "refuse_full" ["kept","most"] [] eR) (DZ23:Dx P w K mg base a7 1 "place_of" ["recipe","name","at"] [] (f6 Ff Ev on Fe)):aY P w K mg base a7 2 f fd ["recipe","at","values"] (kI Ff Ev on Fe):=by
 have sc:aB ["recipe","at","values","one","other","turns"] ["recipe","at","values"] (av zo):=cS (by decide+kernel)
 refine F.ok sc (fun vs H Q E h=>?_) (fun cdv A outer s H vs Q E hr h=>?_)
 ·obtain ⟨_,_,_,_,_,_,_,_,_,_,_,_,_,_,_,_,_,rfl,_⟩:=h
  rfl
 refine ku h fun r l a G n p lt ls lk _hi=>?_
 refine qJ _hi fun ks M w x y t _hj=>?_
 refine vq _hj fun i j _hk=>?_
 refine yu _hk fun _r1 rm _r2 t0 sl1 _r3 _r4 ml q=>?_
 clear h _hi _hj _hk;subst _r1;obtain ⟨xs,el,rl⟩:=_r2;obtain ⟨⟨s1,hi,rfl⟩,mi⟩:=_r3;obtain ⟨⟨s2,hj,rfl⟩,mj⟩:=_r4;refine ⟨_,(ad (bQ 3 sc (b5 DZ23 hr (@aa _ _ _ _ _ (pv 0) (@aa _ _ _ _ _ (ao ai (pv 2) ac (fun _ _=>rfl)) (@aa _ _ _ _ _ (pv 1) ae rfl) rfl) rfl))) (ad (bQ 4 sc (b5 DZ23 hr (@aa _ _ _ _ _ (pv 0) (@aa _ _ _ _ _ (ao ai (pv 2) ac (fun _ _=>rfl)) (@aa _ _ _ _ _ (pv 1) ae rfl) rfl) rfl))) (ad (bw (b5 DZ22 hr (@aa _ _ _ _ _ (aU (pv 0) rfl) (@aa _ _ _ _ _ (eN rfl B.Hr) ae rfl) rfl))) (ad (bQ 5 sc (eJ (ar bF (ao ai (pv 2) ac (fun _ _=>rfl)) aE (aA _)) (ao ai (pv 2) ac (fun _ _=>rfl)) ac)) (ah (bw (c6 EY EX EW bG (aU (pv 0) rfl) (@aa _ _ _ _ _ (@bI _ _ _ _ _ (@aa _ _ _ _ _ (ao ai (pv 2) ac (fun _ _=>rfl)) (@aa _ _ _ _ _ (pv 3) (@aa _ _ _ _ _ (pv 4) (@aa _ _ _ _ _ (pv 5) ae rfl) rfl) rfl) rfl)) ae rfl)))))))),?_⟩
 try dsimp only[cxK]
 have sl:sizeLine=16777216:=sizeLine_eq;obtain ⟨x1,xs,rfl,e1,rl1⟩:=aZ rl;obtain ⟨x2,xs,rfl,e2,rl2⟩:=aZ rl1;cases e1;cases e2;obtain ⟨dx,er⟩:=rm.er;obtain ⟨vk,ek,rk⟩:=id rm.ek;refine ⟨_,rfl,_,rfl,aC l _ _ _ ⟨rfl,rfl,aH.of el,(aF (j:=1) rfl),_,rfl,kq r s1.n a n p M (aI i s1 ⟨rfl,rm.a,sl1,hi,rfl,mi,fun H1 g1=>?_⟩)⟩⟩
 refine ⟨_,rfl,_,rfl,aC l _ _ _ ⟨rfl,rfl,aH.of (g1 _ _ el),(aF (j:=2) rfl),_,rfl,kq r s2.n a n p M (aI j s2 ⟨rfl,(rm.same g1).a,sl1,hj,rfl,mj,fun H2 g2=>?_⟩)⟩⟩
 have g12:=g1.trans g2;have kl:=rk.1;refine ⟨_,rfl,aC r _ dx _ ⟨_,⟨rfl,(g12 _ _ er),B.Fi,B.Gi,bY.2.2.2.2,ck lk vk 24 ⟨rfl,g12 _ _ ek,by omega,?_⟩⟩⟩⟩
 dsimp only;change L2.ou (sP _ _) _ _ [some (.ref r),some a,some (.ref l),some (vN i),some (vN j),none] _;refine cut (fun σ H'=>σ= [Iw r,some a,Iw l,some (vN i),some (vN j),some (vN t)]/\H2=H') (fun N hN=>?_) ?_
 ·refine ⟨_,rfl,aC l _ _ _ ⟨rfl,rfl,aH.of (g12 _ _ el),(aF (j:=0) rfl),rfl,_,rfl,lL (fun e=>?_) fun e=>?_⟩⟩
  ·change A2 _ xs (if w= "within" then [Fv.num t] else []) at rl2
   rw[if_pos e] at rl2;obtain ⟨x3,xs,rfl,e3,rl3⟩:=aZ rl2;cases e3;exact ⟨_,rfl,aC l _ _ _ ⟨rfl,rfl,aH.of (g12 _ _ el),(aF (j:=3) rfl),hN _ _ ⟨rfl,rfl⟩⟩⟩
  ·cases t0 e;exact hN _ _ ⟨rfl,rfl⟩
 rintro σ _ ⟨rfl,rfl⟩;refine ⟨_,rfl,aC r _ dx _ ⟨_,⟨rfl,(g12 _ _ er),B.Fi,B.Gi,bY.2.2.2.2,.inl ⟨rfl,_,aH.of (g12 _ _ ek)⟩,_,rfl,aC l _ _ _ ⟨rfl,rfl,aH.of (g12 _ _ el),(aF (j:=0) rfl),_,rfl,_,rfl,_,rfl,by show 4<=sizeLine;decide,fun t' nt'=>?_⟩⟩⟩⟩
 have g5:=g12.trans (aj nt' (.tup [.str w,vN i,vN j,vN t]));have e5:aS H2 t' (.tup [.str w,vN i,vN j,vN t]) t'=some (.tup [.str w,vN i,vN j,vN t]):=af;generalize aS H2 t' (.tup [.str w,vN i,vN j,vN t])=H5 at g5 e5⊢;exact (ck lk _ _ ⟨rfl,rfl,g5 _ _ ek,by omega,q _ ((rm.same g5).link (g5 _ _ ek) ⟨t',rfl,trivial,e5⟩)⟩)
theorem Bz {dV:Value} (F:br K "__init__" "Step.__init__" wX dV f fd):aY P w K mg base a7 1 f fd ["self","name","least","most","uses","second"] (iS K):=by
 have sc:aB ["self","name","least","most","uses","second"] ["self","name","least","most","uses","second"] (av wX):=cS (by decide+kernel)
 refine F.ok sc (fun vs H Q E h=>?_) (fun cdv A outer s H vs Q E hr h=>?_)
 ·obtain ⟨_,_,_,_,_,_,_,_,_,_,rfl,_⟩:=h
  rfl
 refine ku h fun a C dx nm l m uv sv us _hi=>?_
 refine sD _hi fun c _hj=>?_
 refine jC _hj fun _r1 e0 sc0 hu hs q=>?_
 clear h _hi _hj;subst _r1;refine ⟨_,(ad (dC (pv 0) (pv 1) rfl) (ad (dC (pv 0) (pv 2) rfl) (ad (dC (pv 0) (pv 3) rfl) (ad (dC (pv 0) (eJ (ar cN (pv 4) bj (aA _)) (@bi _ _ _ _ ae) (bv dh rfl B.GD boot_list (@aa _ _ _ _ _ (pv 4) ae rfl))) rfl) (ah (dC (pv 0) (eJ (ar cN (pv 5) bj (aA _)) bj (@bI _ _ _ _ _ (@aa _ _ _ _ _ (ao aT (pv 5) ac (fun _ _=>rfl)) (@aa _ _ _ _ _ (ao aT (pv 5) ac (fun _ _=>rfl)) (@aa _ _ _ _ _ (bv dh rfl B.GD boot_list (@aa _ _ _ _ _ (ao aT (pv 5) ac (fun _ _=>rfl)) ae rfl)) ae rfl) rfl) rfl))) rfl)))))),?_⟩
 try dsimp only[cxK]
 refine ⟨_,rfl,_,rfl,aC a C dx _ ⟨rfl,e0,sc0.cl,sc0.name,by decide,?_⟩⟩
 refine ⟨_,rfl,_,rfl,aC a C dx _ ⟨rfl,af,sc0.cl,sc0.least,(by have:=aW "name" (.str nm) [];simp at this;omega),?_⟩⟩
 refine ⟨_,rfl,_,rfl,aC a C dx _ ⟨rfl,af,sc0.cl,sc0.most,(by have:=aW "name" (.str nm) [];have:=aW "least" (.int l) (aO "name" (.str nm) []);simp at*;omega),?_⟩⟩
 have k0:=(((Kept.refl H a).put (.ins C dx (aO "name" (.str nm) []))).put (.ins C dx (aO "least" (.int l) (aO "name" (.str nm) [])))).put (.ins C dx (aO "most" (.int m) (aO "least" (.int l) (aO "name" (.str nm) []))));have ea:(aS (aS (aS H a (.ins C dx (aO "name" (.str nm) []))) a (.ins C dx (aO "least" (.int l) (aO "name" (.str nm) [])))) a (.ins C dx (aO "most" (.int m) (aO "least" (.int l) (aO "name" (.str nm) []))))) a=some (.ins C dx (aO "most" (.int m) (aO "least" (.int l) (aO "name" (.str nm) [])))):=af;have fr0:∀{b:Addr},(aS (aS (aS H a (.ins C dx (aO "name" (.str nm) []))) a (.ins C dx (aO "least" (.int l) (aO "name" (.str nm) [])))) a (.ins C dx (aO "most" (.int m) (aO "least" (.int l) (aO "name" (.str nm) []))))) b=none->H b=none:=fun {b} hb=>by
  have n:b≠a:=fun z=>by rw[z,af] at hb;cases hb
  rw[az n,az n,az n] at hb;exact hb
 generalize aS (aS (aS H a (.ins C dx (aO "name" (.str nm) []))) a (.ins C dx (aO "least" (.int l) (aO "name" (.str nm) [])))) a (.ins C dx (aO "most" (.int m) (aO "least" (.int l) (aO "name" (.str nm) []))))=H1 at k0 ea fr0⊢;have l3:(aO "most" (.int m) (aO "least" (.int l) (aO "name" (.str nm) []))).length<=3:=by
  have h1:=aW "name" (.str nm) [];have h2:=aW "least" (.int l) (aO "name" (.str nm) []);have h3:=aW "most" (.int m) (aO "least" (.int l) (aO "name" (.str nm) []));simp at h1;omega
 obtain ⟨f3,ef3⟩:∃f3,f3=aO "most" (.int m) (aO "least" (.int l) (aO "name" (.str nm) [])):=⟨_,rfl⟩;rw[<-ef3] at ea l3;have ne:∀{b:Addr} {zs:List V},H b=some (.lst zs)->b≠a:=fun hb z=>by subst z;rw[e0] at hb;cases hb
 have neT:∀{b:Addr} {zs:List V},H b=some (.tup zs)->b≠a:=fun hb z=>by subst z;rw[e0] at hb;cases hb
 try dsimp only[aX,a6]
 refine cut (fun σ H'=>Kept H H' a/\σ= [Iw a,some (.str nm),some (.int l),some (.int m),some uv,some sv]/\∃u,u≠a/\H u=none/\H' u=some (.lst (us.map V.ref))/\H' a=some (.ins C dx (aO "uses" (.ref u) f3))/\∀b,H' b=none->H b=none) (fun N hN=>?_) ?_
 ·rcases hu with ⟨rfl,rfl⟩|⟨lu,rfl,eu⟩
  ·refine ⟨_,rfl,rfl,_,rfl,dT rfl ⟨by show 0<=sizeLine;decide,fun u nu=>?_⟩⟩
   have ua:u≠a:=fun z=>by rw[z,ea] at nu;cases nu
   refine ⟨_,rfl,aC a C dx _ ⟨rfl,(by rw[az (Ne.symm ua)];exact ea),sc0.cl,sc0.uses,by omega,hN _ _ ⟨(k0.new nu _).put _,rfl,u,ua,fr0 nu,by rw[az ua];exact af,af,fun b hb=>?_⟩⟩⟩
   have n1:b≠a:=fun z=>by rw[z,af] at hb;cases hb
   have n2:b≠u:=fun z=>by rw[z,az ua,af] at hb;cases hb
   rw[az n1,az n2] at hb;exact fr0 hb
  ·refine ⟨_,rfl,rfl,_,rfl,dF (fun z=>nomatch z) ⟨_,rfl,aI lu _ ⟨rfl,.inl (aH.of (k0 _ _ eu (ne eu))),fun u nu=>?_⟩⟩⟩
   have ua:u≠a:=fun z=>by rw[z,ea] at nu;cases nu
   refine ⟨_,rfl,aC a C dx _ ⟨rfl,(by rw[az (Ne.symm ua)];exact ea),sc0.cl,sc0.uses,by omega,hN _ _ ⟨(k0.new nu _).put _,rfl,u,ua,fr0 nu,by rw[az ua];exact af,af,fun b hb=>?_⟩⟩⟩
   have n1:b≠a:=fun z=>by rw[z,af] at hb;cases hb
   have n2:b≠u:=fun z=>by rw[z,az ua,af] at hb;cases hb
   rw[az n1,az n2] at hb;exact fr0 hb
 rintro σ H2 ⟨k2,rfl,u,ua,nu,eu,ea2,fr2⟩;have l4:=aW "uses" (.ref u) f3
 match c,hs with
 |none,hs=>
  have hs':sv= .non:=hs;subst hs';refine ⟨_,rfl,rfl,_,rfl,dT rfl ⟨_,rfl,aC a C dx _ ⟨rfl,ea2,sc0.cl,sc0.second,by omega,?_⟩⟩⟩
  exact q u .non _ (k2.put _) ua nu (by rw[az ua];exact eu) rfl (by rw[af,ef3];rfl)
 |some (x,y,vs),hs=>
  obtain ⟨t,l2,rfl,et,el⟩:=hs;have et2:=k2 _ _ et (neT et);have el2:=k2 _ _ el (ne el);refine ⟨_,rfl,rfl,_,rfl,dF (fun z=>nomatch z) ?_⟩
  refine ⟨_,rfl,aC _ _ _ _ ⟨rfl,rfl,bZ.of et2,rfl,_,rfl,aC _ _ _ _ ⟨rfl,rfl,bZ.of et2,rfl,_,rfl,aC _ _ _ _ ⟨rfl,rfl,bZ.of et2,rfl,aI l2 _ ⟨rfl,.inl (aH.of el2),fun lc nc=>⟨by show 3<=sizeLine;decide,fun tc ntc=>?_⟩⟩⟩⟩⟩⟩
  have lca:lc≠a:=fun z=>by rw[z,ea2] at nc;cases nc
  have lcu:lc≠u:=fun z=>by rw[z,eu] at nc;cases nc
  have gc:=aj nc (.lst (vs.map V.ref));have gt:=aj ntc (.tup [.int x,.int y,.ref lc]);have tca:tc≠a:=fun z=>by rw[z,gc _ _ ea2] at ntc;cases ntc
  have tcu:tc≠u:=fun z=>by rw[z,gc _ _ eu] at ntc;cases ntc
  refine ⟨_,rfl,aC a C dx _ ⟨rfl,gt _ _ (gc _ _ ea2),sc0.cl,sc0.second,by omega,?_⟩⟩
  refine q u (.ref tc) _ (((k2.new nc _).new ntc _).put _) ua nu (by rw[az ua];exact gt _ _ (gc _ _ eu)) (aI tc lc ⟨rfl,by rw[az tca];exact af,by rw[az lca];exact gt _ _ af,fr2 _ (gc.free ntc),fr2 _ nc⟩) (by rw[af,ef3];rfl)
theorem BA {dV:Value} (F:br K "__init__" "Warm.__init__" wY dV f fd) (DZ26:jH P w K mg base a7 1 GA ["self","name","least","most","uses","second"] [.non,.non] (iS K)):aY P w K mg base a7 2 f fd ["self","name","least","most","fill","uses","second"] (lH K):=by
 have sc:aB ["self","name","least","most","fill","uses","second"] ["self","name","least","most","fill","uses","second"] (av wY):=cS (by decide+kernel)
 refine F.ok sc (fun vs H Q E h=>?_) (fun cdv A outer s H vs Q E hr h=>?_)
 ·obtain ⟨_,_,_,_,_,_,_,_,_,_,_,rfl,_⟩:=h
  rfl
 refine ku h fun a C dx nm l m fl uv sv _hi=>?_
 refine vq _hi fun us c _hj=>?_
 refine jC _hj fun _r1 e0 sc0 nf hu _hk=>?_
 refine kv _hk fun hs q=>?_
 clear h _hi _hj _hk;subst _r1;refine ⟨_,(ad (bw (AQ B.GR DZ26 hr (by decide) rfl B.HI (@aa _ _ _ _ _ (pv 0) (@aa _ _ _ _ _ (pv 1) (@aa _ _ _ _ _ (pv 2) (@aa _ _ _ _ _ (pv 3) (@aa _ _ _ _ _ (pv 5) (@aa _ _ _ _ _ (pv 6) ae rfl) rfl) rfl) rfl) rfl) rfl))) (ah (dC (pv 0) (pv 4) rfl))),?_⟩
 try dsimp only[cxK]
 refine ⟨_,rfl,_,rfl,_,rfl,_,rfl,_,rfl,_,rfl,jA a C dx nm l m uv sv us ⟨c,⟨rfl,e0,sc0,hu,hs,fun u s H1 k1 ua nu eu hs1 ea=>?_⟩⟩⟩
 refine ⟨_,rfl,_,rfl,aC a C dx _ ⟨rfl,ea,sc0.cl,nf,(by have:=fT (nm:= .str nm) (l:= .int l) (m:= .int m) (u:= .ref u) (s:=s);omega),?_⟩⟩
 exact q u s _ (k1.put _) ua nu (by rw[az ua];exact eu) (hs1.self ea) af
theorem BB {dV:Value} (F:br K "__init__" "Recipe.__init__" zp dV f fd):aY P w K mg base a7 1 f fd ["self","name","plates","takes","steps","links"] (uK K):=by
 have sc:aB ["self","name","plates","takes","steps","links"] ["self","name","plates","takes","steps","links"] (av zp):=cS (by decide+kernel)
 refine F.ok sc (fun vs H Q E h=>?_) (fun cdv A outer s H vs Q E hr h=>?_)
 ·obtain ⟨_,_,_,_,_,_,_,_,_,_,_,rfl,_⟩:=h
  rfl
 refine ku h fun a C dx lt ls lk nm p xt _hi=>?_
 refine vq _hi fun xs xk _hj=>?_
 refine jC _hj fun _r1 e0 sc0 et es _hk=>?_
 refine kv _hk fun ek q=>?_
 clear h _hi _hj _hk;subst _r1;refine ⟨_,(ad (dC (pv 0) (pv 1) rfl) (ad (dC (pv 0) (pv 2) rfl) (ad (dC (pv 0) (bv dh rfl B.GD boot_list (@aa _ _ _ _ _ (pv 3) ae rfl)) rfl) (ad (dC (pv 0) (bv dh rfl B.GD boot_list (@aa _ _ _ _ _ (pv 4) ae rfl)) rfl) (ah (dC (pv 0) (bv dh rfl B.GD boot_list (@aa _ _ _ _ _ (pv 5) ae rfl)) rfl)))))),?_⟩;try dsimp only[cxK]
 have ne:∀{b:Addr} {zs:List V},H b=some (.lst zs)->b≠a:=fun hb z=>by subst z;rw[e0] at hb;cases hb
 refine ⟨_,rfl,_,rfl,aC a C dx _ ⟨rfl,e0,sc0.cl,sc0.name,by decide,?_⟩⟩
 refine ⟨_,rfl,_,rfl,aC a C dx _ ⟨rfl,af,sc0.cl,sc0.plates,(by have:=aW "name" nm [];simp at this;omega),?_⟩⟩
 have k0:=((Kept.refl H a).put (.ins C dx (aO "name" nm []))).put (.ins C dx (aO "plates" p (aO "name" nm [])));have ea:(aS (aS H a (.ins C dx (aO "name" nm []))) a (.ins C dx (aO "plates" p (aO "name" nm [])))) a=some (.ins C dx (aO "plates" p (aO "name" nm []))):=af;have f0:∀b,(aS (aS H a (.ins C dx (aO "name" nm []))) a (.ins C dx (aO "plates" p (aO "name" nm [])))) b=none->H b=none:=fun b hb=>by
  have n1:b≠a:=fun z=>by rw[z,af] at hb;cases hb
  rwa [az n1,az n1] at hb
 generalize aS (aS H a (.ins C dx (aO "name" nm []))) a (.ins C dx (aO "plates" p (aO "name" nm [])))=H1 at k0 ea f0⊢;have l2:(aO "plates" p (aO "name" nm [])).length<=2:=by
  have h1:=aW "name" nm [];have h2:=aW "plates" p (aO "name" nm []);simp at h1;omega
 obtain ⟨f2,ef2⟩:∃f2,f2=aO "plates" p (aO "name" nm []):=⟨_,rfl⟩;rw[<-ef2] at ea l2;have et1:=k0 _ _ et (ne et);refine ⟨_,rfl,aI lt xt ⟨rfl,.inl (aH.of et1),fun la na=>?_⟩⟩
 have laa:la≠a:=fun z=>by rw[z,ea] at na;cases na
 refine ⟨_,rfl,aC a C dx _ ⟨rfl,(by rw[az (Ne.symm laa)];exact ea),sc0.cl,sc0.takes,by omega,?_⟩⟩
 have k1:=(k0.new na (.lst xt)).put (.ins C dx (aO "takes" (.ref la) f2));have ea1:(aS (aS H1 la (.lst xt)) a (.ins C dx (aO "takes" (.ref la) f2))) a=some (.ins C dx (aO "takes" (.ref la) f2)):=af;have ela1:(aS (aS H1 la (.lst xt)) a (.ins C dx (aO "takes" (.ref la) f2))) la=some (.lst xt):=by rw[az laa];exact af
 have f1:∀b,(aS (aS H1 la (.lst xt)) a (.ins C dx (aO "takes" (.ref la) f2))) b=none->H b=none:=fun b hb=>by
  have n1:b≠a:=fun z=>by rw[z,af] at hb;cases hb
  have n2:b≠la:=fun z=>by rw[z,ela1] at hb;cases hb
  rw[az n1,az n2] at hb;exact f0 b hb
 generalize aS (aS H1 la (.lst xt)) a (.ins C dx (aO "takes" (.ref la) f2))=H2 at k1 ea1 ela1 f1⊢;have l3:=aW "takes" (.ref la) f2;obtain ⟨f3,ef3⟩:∃f3,f3=aO "takes" (.ref la) f2:=⟨_,rfl⟩;rw[<-ef3] at ea1 l3;have es1:=k1 _ _ es (ne es);refine ⟨_,rfl,aI ls xs ⟨rfl,.inl (aH.of es1),fun lb nb=>?_⟩⟩
 have lba:lb≠a:=fun z=>by rw[z,ea1] at nb;cases nb
 have lbl:la≠lb:=fun z=>by rw[<-z,ela1] at nb;cases nb
 refine ⟨_,rfl,aC a C dx _ ⟨rfl,(by rw[az (Ne.symm lba)];exact ea1),sc0.cl,sc0.steps,by omega,?_⟩⟩
 have k2:=(k1.new nb (.lst xs)).put (.ins C dx (aO "steps" (.ref lb) f3));have ea2:(aS (aS H2 lb (.lst xs)) a (.ins C dx (aO "steps" (.ref lb) f3))) a=some (.ins C dx (aO "steps" (.ref lb) f3)):=af;have elb2:(aS (aS H2 lb (.lst xs)) a (.ins C dx (aO "steps" (.ref lb) f3))) lb=some (.lst xs):=by rw[az lba];exact af
 have ela2:(aS (aS H2 lb (.lst xs)) a (.ins C dx (aO "steps" (.ref lb) f3))) la=some (.lst xt):=by rw[az laa,az lbl];exact ela1
 have f2':∀b,(aS (aS H2 lb (.lst xs)) a (.ins C dx (aO "steps" (.ref lb) f3))) b=none->H b=none:=fun b hb=>by
  have n1:b≠a:=fun z=>by rw[z,af] at hb;cases hb
  have n2:b≠lb:=fun z=>by rw[z,elb2] at hb;cases hb
  rw[az n1,az n2] at hb;exact f1 b hb
 generalize aS (aS H2 lb (.lst xs)) a (.ins C dx (aO "steps" (.ref lb) f3))=H3 at k2 ea2 elb2 ela2 f2'⊢;have l4:=aW "steps" (.ref lb) f3;obtain ⟨f4,ef4⟩:∃f4,f4=aO "steps" (.ref lb) f3:=⟨_,rfl⟩;rw[<-ef4] at ea2 l4;have ek1:=k2 _ _ ek (ne ek);refine ⟨_,rfl,aI lk xk ⟨rfl,.inl (aH.of ek1),fun lc nc=>?_⟩⟩
 have lca:lc≠a:=fun z=>by rw[z,ea2] at nc;cases nc
 have lcb:lb≠lc:=fun z=>by rw[<-z,elb2] at nc;cases nc
 have lcl:la≠lc:=fun z=>by rw[<-z,ela2] at nc;cases nc
 refine ⟨_,rfl,aC a C dx _ ⟨rfl,(by rw[az (Ne.symm lca)];exact ea2),sc0.cl,sc0.links,by omega,?_⟩⟩
 refine q la lb lc _ laa lba lca (f0 _ na) (f1 _ nb) (f2' _ nc) (by simp[lbl,lcl,lcb]) ((k2.new nc (.lst xk)).put _) (by rw[az laa,az lcl];exact ela2) (by rw[az lba,az lcb];exact elb2) (by rw[az lca];exact af) ?_
 rw[af,ef4,ef3,ef2]
 rfl
theorem BC {dV:Value} (F:br K "grown_length" "grown_length" zq dV f fd) (DZ3:Dx P w K mg base a7 2 "fraction" ["top","bottom"] [.int 1] oN) (DZ5:Dx P w K mg base a7 3 "product" ["one","other"] [] (oO K)) (DZ7:Dx P w K mg base a7 1 "round_up" ["one"] [] (xW K)):aY P w K mg base a7 4 f fd ["length","factor"] (jp K):=by
 have sc:aB ["length","factor"] ["length","factor"] (av zq):=cS (by decide+kernel)
 refine F.ok sc (fun vs H Q E h=>?_) (fun cdv A outer s H vs Q E hr h=>?_)
 ·obtain ⟨_,_,_,_,rfl,_⟩:=h
  rfl
 obtain ⟨l,p,q,tf,rfl,ft,bl,k⟩:=h;refine ⟨_,(ah (ax (b5 DZ7 hr (@aa _ _ _ _ _ (b5 DZ5 hr (@aa _ _ _ _ _ (vW DZ3 hr (by decide) rfl (@aa _ _ _ _ _ (pv 0) ae rfl)) (@aa _ _ _ _ _ (pv 1) ae rfl) rfl)) ae rfl)))),?_⟩
 try dsimp only[cxK]
 refine ⟨_,rfl,aI l 1 ⟨rfl,by decide,Bd.one.mono (by decide),fun a b f t1 H1 g1 e1=>?_⟩⟩
 obtain ⟨rfl,rfl⟩:=um f;have F1:cQ K 210 H1 t1 a 1:=⟨bZ.of e1,by decide,bl,Bd.one.mono (by decide)⟩
 have F2:=ft.same g1;refine ⟨_,rfl,kq t1 tf a 1 p q ⟨rfl,F1.mono (by decide),F2.mono (by decide),fun r s F t2 H2 g2 e2=>?_⟩⟩
 have b1:Bd 420 (a*p):=F1.bp.mul F2.bp;have b2:Bd 420 (1*q):=F1.bq.mul F2.bq|>.mono (by decide)
 have F3:cQ K 420 H2 t2 r s:= .of F b1 b2 e2;refine (ck t2 r s ⟨rfl,F3.mono (by decide),k _ _ (g1.trans g2) ?_⟩)
 exact ⟨A4 F F2.pos,(qf (F3.bp.mono (by decide)).neg).neg⟩
theorem BD {dV:Value} (F:br K "span" "Step.span" zr dV f fd):aY P w K mg base a7 1 f fd ["self","least","most","factor"] (lI K false):=by
 have sc:aB ["self","least","most","factor"] ["self","least","most","factor"] (av zr):=cS (by decide+kernel)
 refine F.ok sc (fun vs H Q E h=>?_) (fun cdv A outer s H vs Q E hr h=>?_)
 ·obtain ⟨_,_,_,_,_,_,rfl,_⟩:=h
  rfl
 refine qJ h fun x l m p q tf _hi=>?_
 refine yt _hi fun _r1 ft bl _hj=>?_
 refine kv _hj fun bm k=>?_
 clear h _hi _hj;subst _r1;refine ⟨_,(ah (ax (@bI _ _ _ _ _ (@aa _ _ _ _ _ (pv 1) (@aa _ _ _ _ _ (pv 2) ae rfl) rfl)))),?_⟩;try dsimp only[cxK]
 exact ⟨_,rfl,_,rfl,by show 2<=sizeLine;decide,fun t nt=>k t _ _ _ (aj nt _) af rfl rfl⟩
theorem BE {dV:Value} (F:br K "span" "Cut.span" zt dV f fd) (DZ29:Dx P w K mg base a7 4 "grown_length" ["length","factor"] [] (jp K)):aY P w K mg base a7 5 f fd ["self","least","most","factor"] (lI K true):=by
 have sc:aB ["self","least","most","factor"] ["self","least","most","factor"] (av zt):=cS (by decide+kernel)
 refine F.ok sc (fun vs H Q E h=>?_) (fun cdv A outer s H vs Q E hr h=>?_)
 ·obtain ⟨_,_,_,_,_,_,rfl,_⟩:=h
  rfl
 refine qJ h fun x l m p q tf _hi=>?_
 refine yt _hi fun _r1 ft bl _hj=>?_
 refine kv _hj fun bm k=>?_
 clear h _hi _hj;subst _r1;refine ⟨_,(ah (ax (@bI _ _ _ _ _ (@aa _ _ _ _ _ (b5 DZ29 hr (@aa _ _ _ _ _ (pv 1) (@aa _ _ _ _ _ (pv 3) ae rfl) rfl)) (@aa _ _ _ _ _ (b5 DZ29 hr (@aa _ _ _ _ _ (pv 2) (@aa _ _ _ _ _ (pv 3) ae rfl) rfl)) ae rfl) rfl)))),?_⟩;try dsimp only[cxK]
 refine ⟨_,rfl,_,rfl,aC l p q tf ⟨rfl,ft,bl,fun n H1 g1 gn=>?_⟩⟩
 refine ⟨_,rfl,_,rfl,aC m p q tf ⟨rfl,ft.same g1,bm,fun n2 H2 g2 gn2=>?_⟩⟩
 exact ⟨by show 2<=sizeLine;decide,fun t nt=>k t _ _ _ ((g1.trans g2).trans (aj nt _)) af gn gn2⟩
theorem BF {dV:Value} (F:br K "grown_way" "Step.grown_way" zu dV f fd) (DZ30:jH P w K mg base a7 1 Gz ["self","least","most","factor"] [] (lI K false)) (DZ31:jH P w K mg base a7 5 GE ["self","least","most","factor"] [] (lI K true)):aY P w K mg base a7 6 f fd ["self","least","most","uses","factor"] (uB K Gv Gw Gz GE):=by
 have sc:aB ["self","least","most","uses","factor","lengths"] ["self","least","most","uses","factor"] (av zu):=cS (by decide+kernel)
 refine F.ok sc (fun vs H Q E h=>?_) (fun cdv A outer s H vs Q E hr h=>?_)
 ·obtain ⟨_,_,_,_,_,_,_,_,_,_,_,_,_,rfl,_⟩:=h
  rfl
 refine ku h fun x C dx lu tf l m p q _hi=>?_
 refine sE _hi fun us f ff ct _hj=>?_
 refine yu _hj fun _r1 ex ns sm ft bl bm eu _hk=>?_
 refine kv _hk fun ul k=>?_
 clear h _hi _hj _hk;subst _r1;refine ⟨_,(ad (bQ 5 sc (fN (gv (pv 0) DZ30 hr (by decide) (@aa _ _ _ _ _ (pv 1) (@aa _ _ _ _ _ (pv 2) (@aa _ _ _ _ _ (pv 4) ae rfl) rfl) rfl)) (gv (pv 0) DZ31 hr (by decide) (@aa _ _ _ _ _ (pv 1) (@aa _ _ _ _ _ (pv 2) (@aa _ _ _ _ _ (pv 4) ae rfl) rfl) rfl)))) (ah (ax (@bI _ _ _ _ _ (@aa _ _ _ _ _ (ao aT (pv 5) ac (fun _ _=>rfl)) (@aa _ _ _ _ _ (ao aT (pv 5) ac (fun _ _=>rfl)) (@aa _ _ _ _ _ (aK je rfl B.Hz PyProof.Rows.Boot.«sorted» (@aa _ _ _ _ _ (pv 3) ae rfl)) ae rfl) rfl) rfl))))),?_⟩
 try dsimp only[cxK]
 try dsimp only[aX,a6]
 refine cut (fun σ H'=>aJ H H'/\∃(t:Addr) (n n2:Int),σ= [Iw x,some (.int l),some (.int m),Iw lu,Iw tf,Iw t]/\H' t=some (.tup [.int n,.int n2])/\wm ct l p q n/\wm ct m p q n2) (fun N hN=>?_) ?_
 ·cases ct with
  |false=>exact .inl ⟨_,rfl,aC x C dx ff ⟨rfl,ex,sm.c.cl,sm.span,ns,_,rfl,_,rfl,_,rfl,kq _ l m p q tf ⟨rfl,ft,bl,bm,fun t H1 n n2 g1 e1 gn gn2=>hN _ _ ⟨g1,ck t n n2 ⟨rfl,e1,gn,gn2⟩⟩⟩⟩⟩
  |true=>exact .inr ⟨_,rfl,aC x C dx ff ⟨rfl,ex,sm.c.cl,sm.span,ns,_,rfl,_,rfl,_,rfl,kq _ l m p q tf ⟨rfl,ft,bl,bm,fun t H1 n n2 g1 e1 gn gn2=>hN _ _ ⟨g1,ck t n n2 ⟨rfl,e1,gn,gn2⟩⟩⟩⟩⟩
 rintro σ H1 ⟨g1,t,n,n2,rfl,e1,gn,gn2⟩;refine ⟨_,rfl,aC _ _ _ _ ⟨rfl,rfl,bZ.of e1,rfl,_,rfl,aC _ _ _ _ ⟨rfl,rfl,bZ.of e1,rfl,_,rfl,ck lu us f ⟨rfl,g1 _ _ eu,(ul.same g1).tup,ul.nd,ul.sm,fun ls bs nl pr sr=>?_⟩⟩⟩⟩
 refine ⟨by show 3<=sizeLine;decide,fun t2 nt=>?_⟩
 exact k t2 _ ((g1.trans (aj nl _)).trans (aj nt _)) ⟨n,n2,ls,bs,af,aj nt _ _ _ af,gn,gn2,⟨pr,sr⟩,g1.free nl⟩
theorem BG {dV:Value} (F:br K "grown" "Step.grown" zv dV f fd) (DZ32:jH P w K mg base a7 6 Gw ["self","least","most","uses","factor"] [] (uB K Gv Gw Gz GE)):aY P w K mg base a7 7 f fd ["self","factor"] (nD K Gv Gw Gz GE):=by
 have sc:aB ["self","factor","ways"] ["self","factor"] (av zv):=cS (by decide+kernel)
 refine F.ok sc (fun vs H Q E h=>?_) (fun cdv A outer s H vs Q E hr h=>?_)
 ·obtain ⟨_,_,_,_,_,_,_,_,_,_,_,_,rfl,_⟩:=h
  rfl
 refine ku h fun x C tf nm l m p q us _hi=>?_
 refine DE _hi fun c f ct _hj=>?_
 refine jC _hj fun _r1 st sm ft hd k=>?_
 clear h _hi _hj;subst _r1;refine ⟨_,(ad (bQ 2 sc (@bi _ _ _ _ (@aa _ _ _ _ _ (gv (pv 0) DZ32 hr (by decide) (@aa _ _ _ _ _ (aU (pv 0) rfl) (@aa _ _ _ _ _ (aU (pv 0) rfl) (@aa _ _ _ _ _ (aU (pv 0) rfl) (@aa _ _ _ _ _ (pv 1) ae rfl) rfl) rfl) rfl)) ae rfl))) (ad (aL (ar iN (aU (pv 0) rfl) bj (aA _)) (ah (bw (c6 EY EX EW bG (pv 2) (@aa _ _ _ _ _ (gv (pv 0) DZ32 hr (by decide) (@aa _ _ _ _ _ (ao aT (aU (pv 0) rfl) ac (fun _ _=>rfl)) (@aa _ _ _ _ _ (ao aT (aU (pv 0) rfl) ac (fun _ _=>rfl)) (@aa _ _ _ _ _ (ao aT (aU (pv 0) rfl) ac (fun _ _=>rfl)) (@aa _ _ _ _ _ (pv 1) ae rfl) rfl) rfl) rfl)) ae rfl)))) ay) (ah (ax (pv 2))))),?_⟩
 try dsimp only[cxK]
 obtain ⟨dx,u,s,ff,ex,sf,eu,hs⟩:=st.ex;have FL:∀{H1:Hp},aJ H H1->H1 x=some (.ins C dx ff):=fun g=>g _ _ ex
 have h0:=hd (l,m,us) (by cases c<;>simp[eH])
 refine ⟨_,rfl,aC x C dx ff ⟨rfl,ex,sm.c.cl,sm.way,sf.way,_,rfl,aC x C dx ff ⟨_,⟨rfl,ex,sm.c.cl,sm.c.least,sf.least,_,rfl,aC x C dx ff ⟨_,⟨rfl,ex,sm.c.cl,sm.c.most,sf.most,_,rfl,ck x C dx ⟨ff,_,rfl,ex,sm.c.cl,sm.c.uses,sf.uses,_,rfl,x,C,dx,u,tf,l,m,p,q,us,f,ff,ct,rfl,ex,sf.span,sm,ft,h0.1,h0.2.1,eu,h0.2.2,fun t H1 g1 w1=>?_⟩⟩⟩⟩⟩⟩⟩
 refine ⟨by show 1<=sizeLine;decide,fun lw nl=>?_⟩
 have g2:=g1.trans (aj nl (.lst [.ref t]));have ex2:=FL g2;have w2:=w1.same (aj nl (.lst [.ref t]))
 match c,hs,hd,k with
 |none,hs,hd,k=>
  have hs':s= .non:=hs;subst hs';refine ⟨_,rfl,aC x C dx ff ⟨_,⟨rfl,ex2,sm.c.cl,sm.c.second,sf.second,rfl,_,rfl,nF rfl ⟨_,rfl,k lw _ g2 ⟨[t],af,rfl,g1.free nl,fun i t' d e1 e2=>?_,?_⟩⟩⟩⟩⟩
  ·match i,e1,e2 with
   |0,e1,e2=>cases e1;cases e2;exact w2
  obtain ⟨n1,k1,ls1,bs1,j1,j2,_⟩:=w1.ex;intro i j t' t'' n k n' k' ls ls' e1 e2 e3 e4
  match i,j,e1,e2 with
  |0,0,e1,e2=>
   cases e1;rw[aj nl _ _ _ j1] at e3;cases e3;exact ⟨aM j2 nl,fun z=>absurd rfl z⟩
 |some (l',m',us'),hs,hd,k=>
  obtain ⟨t2,l2,rfl,et,el⟩:=hs;have h1:=hd (l',m',us') (by simp[eH])
  have et2:=g2 _ _ et;have el2:=g2 _ _ el;have elw:aS H1 lw (.lst [.ref t]) lw=some (.lst [.ref t]):=af;refine ⟨_,rfl,aC x C dx ff ⟨_,⟨rfl,ex2,sm.c.cl,sm.c.second,sf.second,rfl,_,rfl,nT (fun z=>nomatch z) ?_⟩⟩⟩
  refine ⟨_,rfl,.inl ⟨rfl,_,aH.of elw⟩,_,rfl,aC x C dx ff ⟨rfl,ex2,sm.c.cl,sm.way,sf.way,_,rfl,aC x C dx ff ⟨_,⟨rfl,ex2,sm.c.cl,sm.c.second,sf.second,aC _ _ _ _ ⟨rfl,rfl,bZ.of et2,rfl,_,rfl,aC x C dx ff ⟨_,rfl,ex2,sm.c.cl,sm.c.second,sf.second,_,_,_,_,rfl,rfl,bZ.of et2,rfl,_,rfl,x,C,dx,ff,_,rfl,ex2,sm.c.cl,sm.c.second,sf.second,_,_,_,_,rfl,rfl,bZ.of et2,rfl,_,rfl,x,C,dx,l2,tf,l',m',p,q,us',f,ff,ct,rfl,ex2,sf.span,sm,ft.same g2,h1.1,h1.2.1,el2,h1.2.2.same g2,fun t3 H3 g3 w3=>?_⟩⟩⟩⟩⟩⟩
  refine (ck lw _ _ ⟨rfl,rfl,g3 _ _ elw,(by show 1<sizeLine;decide),?_⟩)
  have g4:aJ H (aS H3 lw (.lst ([.ref t]++ [.ref t3]))):=oU (g2.trans g3) (g1.free nl) _;refine ⟨_,rfl,k lw _ g4 ⟨[t,t3],af,rfl,g1.free nl,fun i t' d e1 e2=>?_,?_⟩⟩
  ·match i,e1,e2 with
   |0,e1,e2=>cases e1;cases e2;exact w1.putA nl ((aj nl _).trans g3)
   |1,e1,e2=>cases e1;cases e2;exact w3.putB elw (g3 _ _ elw) g2
  obtain ⟨n1,k1,ls1,bs1,j1,j2,_⟩:=w1.ex;obtain ⟨n3,k3,ls3,bs3,i1,i2,_,_,_,i6⟩:=w3.ex;have j1':=g3 _ _ (aj nl (.lst [.ref t]) _ _ j1);have p1:aS H3 lw (.lst ([.ref t]++ [.ref t3])) t=some (.tup [.int n1,.int k1,.ref ls1]):=by
   rw[az (fun z=>by rw[z,g3 _ _ elw] at j1';cases j1')]
   exact j1'
  have p3:aS H3 lw (.lst ([.ref t]++ [.ref t3])) t3=some (.tup [.int n3,.int k3,.ref ls3]):=by
   rw[az (fun z=>by rw[z,g3 _ _ elw] at i1;cases i1)]
   exact i1
  have d1:ls1≠lw:=aM j2 nl;have d3:ls3≠lw:=fun z=>by rw[z,elw] at i6;cases i6
  have d13:ls1≠ls3:=aM (aj nl (.lst [.ref t]) _ _ j2) i6;intro i j t' t'' n k n' k' ls ls' e1 e2 e3 e4
  match i,j,e1,e2 with
  |0,0,e1,e2=>cases e1;rw[p1] at e3;cases e3;exact ⟨d1,fun z=>absurd rfl z⟩
  |0,1,e1,e2=>cases e1;cases e2;rw[p1] at e3;cases e3;rw[p3] at e4;cases e4;exact ⟨d1,fun _=>d13⟩
  |1,0,e1,e2=>cases e1;cases e2;rw[p3] at e3;cases e3;rw[p1] at e4;cases e4;exact ⟨d3,fun _=>d13.symm⟩
  |1,1,e1,e2=>cases e1;rw[p3] at e3;cases e3;exact ⟨d3,fun z=>absurd rfl z⟩
theorem BH {dV:Value} (F:br K "rounds" "Step.rounds" zw dV f fd):aY P w K mg base a7 1 f fd ["self","factor","size"] jh:=by
 have sc:aB ["self","factor","size"] ["self","factor","size"] (av zw):=cS (by decide+kernel)
 refine F.ok sc (fun vs H Q E h=>?_) (fun cdv A outer s H vs Q E hr h=>?_)
 ·obtain ⟨_,_,_,rfl,_⟩:=h
  rfl
 obtain ⟨a,b,c,rfl,q⟩:=h;refine ⟨_,(ah (ax ac)),?_⟩;try dsimp only[cxK]
 exact q
theorem BI {dV:Value} (F:br K "rounds" "Warm.rounds" zx dV f fd) (DZ5:Dx P w K mg base a7 3 "product" ["one","other"] [] (oO K)) (DZ6:Dx P w K mg base a7 3 "quotient" ["one","other"] [] (tF K)) (DZ7:Dx P w K mg base a7 1 "round_up" ["one"] [] (xW K)):aY P w K mg base a7 4 f fd ["self","factor","size"] (nB K):=by
 have sc:aB ["self","factor","size"] ["self","factor","size"] (av zx):=cS (by decide+kernel)
 refine F.ok sc (fun vs H Q E h=>?_) (fun cdv A outer s H vs Q E hr h=>?_)
 ·obtain ⟨_,_,_,_,_,_,_,_,_,_,_,_,_,rfl,_⟩:=h
  rfl
 refine ku h fun a C dx t tf ts fs p q _hi=>?_
 refine sE _hi fun fp fq sp sq _hj=>?_
 refine yu _hj fun _r1 ea cl na lk f1 f2 f3 _hk=>?_
 refine kv _hk fun s0 k=>?_
 clear h _hi _hj _hk;subst _r1;refine ⟨_,(ah (ax (b5 DZ7 hr (@aa _ _ _ _ _ (b5 DZ6 hr (@aa _ _ _ _ _ (b5 DZ5 hr (@aa _ _ _ _ _ (aU (pv 0) rfl) (@aa _ _ _ _ _ (pv 1) ae rfl) rfl)) (@aa _ _ _ _ _ (pv 2) ae rfl) rfl)) ae rfl)))),?_⟩;try dsimp only[cxK]
 refine ⟨_,rfl,aC a C dx fs ⟨_,⟨rfl,ea,cl,na,lk,_,rfl,kq t tf p q fp fq ⟨rfl,f1.mono (by decide),f2.mono (by decide),fun r s F t1 H1 g1 e1=>?_⟩⟩⟩⟩
 have b1:Bd 402 (p*fp):=f1.bp.mul f2.bp;have b2:Bd 402 (q*fq):=f1.bq.mul f2.bq;have F1:cQ K 402 H1 t1 r s:= .of F b1 b2 e1;have F3:=f3.same g1;refine ⟨_,rfl,kq t1 ts r s sp sq ⟨rfl,F1.mono (by decide),F3.mono (by decide),by omega,fun u v F' t2 H2 g2 e2=>?_⟩⟩
 have c1:Bd 603 (r*sq):=F1.bp.mul F3.bq;have c2:Bd 603 (s*sp):=F1.bq.mul F3.bp;have F4:cQ K 603 H2 t2 u v:= .of F' c1 c2 e2;exact (ck t2 u v ⟨rfl,F4.mono (by decide),k _ _ (g1.trans g2) (yk f1.pos f2.pos s0 F F' (F4.bp.mono (by decide)))⟩)
theorem BJ {dV:Value} (F:br K "recipe_begun" "recipe_begun" zy dV f fd) (DZ28:jH P w K mg base a7 1 GW ["self","name","plates","takes","steps","links"] [] (uK K)):aY P w K mg base a7 3 f fd ["values"] (jw Ff Ev on Fe):=by
 have sc:aB ["values"] ["values"] (av zy):=cS (by decide+kernel)
 refine F.ok sc (fun vs H Q E h=>?_) (fun cdv A outer s H vs Q E hr h=>?_)
 ·obtain ⟨_,_,_,rfl,_⟩:=h
  rfl
 obtain ⟨l,n,p,rfl,⟨xs,el,rl⟩,q⟩:=h;refine ⟨_,(ad (aL (PW.pt (bU (ar cN (pv 0) bj (aA _)) (bN (ar dZ (ao ai (pv 0) ac (fun _ _=>rfl)) aE (aA _))))) (ah cP) ay) (ah (ax (ye B.HD DZ28 hr (by decide) rfl B.Hv (@aa _ _ _ _ _ (ao ai (pv 0) ac (fun _ _=>rfl)) (@aa _ _ _ _ _ (ao ai (pv 0) ac (fun _ _=>rfl)) (@aa _ _ _ _ _ (@bi _ _ _ _ ae) (@aa _ _ _ _ _ (@bi _ _ _ _ ae) (@aa _ _ _ _ _ (@bi _ _ _ _ ae) ae rfl) rfl) rfl) rfl) rfl))))),?_⟩
 try dsimp only[cxK]
 have sl:sizeLine=16777216:=sizeLine_eq;obtain ⟨x1,xs,rfl,e1,rl⟩:=aZ rl;obtain ⟨x2,xs,rfl,e2,rl⟩:=aZ rl;cases e1;cases e2;refine cut (fun σ H'=>σ= [Iw l]/\H=H') (fun N hN=>?_) ?_
 ·exact ⟨_,rfl,rfl,_,rfl,dF (fun z=>nomatch z) ⟨_,rfl,aC l _ _ _ ⟨rfl,rfl,aH.of el,(aF (j:=0) rfl),rfl,_,rfl,nF rfl (hN _ _ ⟨rfl,rfl⟩)⟩⟩⟩
 rintro σ _ ⟨rfl,rfl⟩;refine ⟨_,rfl,aC l _ _ _ ⟨rfl,rfl,aH.of el,(aF (j:=1) rfl),_,rfl,aC l _ _ _ ⟨rfl,rfl,aH.of el,(aF (j:=2) rfl),by show 0<=sizeLine;decide,fun b0 nb0=>⟨by show 0<=sizeLine;decide,fun b1 nb1=>⟨by show 0<=sizeLine;decide,fun b2 nb2=>fun rb dxb nr nd nrd=>?_⟩⟩⟩⟩⟩
 have k0:=aj nb0 (.lst []);have k1:=aj nb1 (.lst []);have k2:=aj nb2 (.lst []);have gm:=gQ (C:=Fe) nr nd;have gk:=(k0.trans k1).trans k2;refine (jA rb _ dxb b0 b1 b2 (.str n) (vN p) [] (aI [] [] ⟨rfl,af,⟨B.Fi,B.GC,B.Gx,B.Fs,B.Fj,B.Gi⟩,gm _ _ (k2 _ _ (k1 _ _ af)),gm _ _ (k2 _ _ af),gm _ _ af,fun t' s' u' H15 ta sa ua nt ns nu nd3 kp et7 es7 eu7 er=>⟨rfl,?_⟩⟩))
 have gg:=gk.trans gm;exact q rb t' s' u' _ (yS (gk.trans (fU nr nd kp)) (gk.free nr) (gg.free nt) (gg.free ns) (gg.free nu) ta sa ua nd3 er et7 es7 eu7)
theorem BK {dV:Value} (F:br K "step_of" "step_of" zA dV f fd) (DZ26:jH P w K mg base a7 1 GA ["self","name","least","most","uses","second"] [.non,.non] (iS K)) (DZ27:jH P w K mg base a7 2 GJ ["self","name","least","most","fill","uses","second"] [.non,.non] (lH K)):aY P w K mg base a7 4 f fd ["values"] (nX Ff Ev on):=by
 have sc:aB ["values"] ["values"] (av zA):=cS (by decide+kernel)
 refine F.ok sc (fun vs H Q E h=>?_) (fun cdv A outer s H vs Q E hr h=>?_)
 ·obtain ⟨_,_,_,_,_,_,rfl,_⟩:=h
  rfl
 refine qJ h fun l w n lo hi f _hi=>?_
 refine yt _hi fun _r1 _r2 wd _hj=>?_
 refine kv _hj fun fo q=>?_
 clear h _hi _hj;subst _r1;obtain ⟨xs,el,rl⟩:=_r2;refine ⟨_,(ad (aL (ar bF (ao ai (pv 0) ac (fun _ _=>rfl)) aE (aA _)) (ah (ax (lm B.HU DZ26 hr (by decide) rfl B.HR (@aa _ _ _ _ _ (ao ai (pv 0) ac (fun _ _=>rfl)) (@aa _ _ _ _ _ (ao ai (pv 0) ac (fun _ _=>rfl)) (@aa _ _ _ _ _ (ao ai (pv 0) ac (fun _ _=>rfl)) ae rfl) rfl) rfl)))) ay) (ad (aL (ar bF (ao ai (pv 0) ac (fun _ _=>rfl)) aE (aA _)) (ah (ax (lm B.HN DZ27 hr (by decide) rfl B.HH (@aa _ _ _ _ _ (ao ai (pv 0) ac (fun _ _=>rfl)) (@aa _ _ _ _ _ (ao ai (pv 0) ac (fun _ _=>rfl)) (@aa _ _ _ _ _ (ao ai (pv 0) ac (fun _ _=>rfl)) (@aa _ _ _ _ _ (ao ai (pv 0) ac (fun _ _=>rfl)) ae rfl) rfl) rfl) rfl)))) ay) (ah (ax (lm B.HP DZ26 hr (by decide) rfl B.HJ (@aa _ _ _ _ _ (ao ai (pv 0) ac (fun _ _=>rfl)) (@aa _ _ _ _ _ (ao ai (pv 0) ac (fun _ _=>rfl)) (@aa _ _ _ _ _ (ao ai (pv 0) ac (fun _ _=>rfl)) ae rfl) rfl) rfl)))))),?_⟩
 try dsimp only[cxK]
 have sl:sizeLine=16777216:=sizeLine_eq;obtain ⟨x1,xs1,rfl,e1,rl1⟩:=aZ rl;obtain ⟨x2,xs2,rfl,e2,rl2⟩:=aZ rl1;obtain ⟨x3,xs3,rfl,e3,rl3⟩:=aZ rl2;cases e1;cases e2;cases e3;have own2:∀{x u:Addr},H x=none->H u=none->∀a∈(So.mk x u none).own,H a=none:=fun h1 h2 a ha=>by
  simp only[So.own,Option.toList,E3,E9,or_false] at ha;rcases ha with rfl|rfl
  ·exact h1
  ·exact h2
 have own_nd:∀{x u:Addr},u≠x->(So.mk x u none).own.Nodup:=fun h=>by
  simp[So.own,h.symm]
 refine cut (fun σ H'=>σ= [Iw l]/\H=H'/\w≠ "cut") (fun N hN=>?_) ?_
 ·refine ⟨_,rfl,aC l _ _ _ ⟨rfl,rfl,aH.of el,(aF (j:=0) rfl),rfl,_,rfl,lL (fun e=>?_) fun e=>hN _ _ ⟨rfl,rfl,e⟩⟩⟩
  subst e
  match f,fo with
  |some am,z=>exact absurd z.1 (by decide)
  |none,_=>
  refine ⟨_,rfl,aC l _ _ _ ⟨rfl,rfl,aH.of el,(aF (j:=1) rfl),_,rfl,aC l _ _ _ ⟨rfl,rfl,aH.of el,(aF (j:=2) rfl),_,rfl,aC l _ _ _ ⟨rfl,rfl,aH.of el,(aF (j:=3) rfl),fun x dx nx nd nxd=>(jA x _ dx _ _ _ .non .non [] ⟨none,⟨rfl,af,⟨B.Gy,B.Gm,B.Gh,B.Gn,B.Gk,B.Fx⟩,.inl ⟨rfl,rfl⟩,rfl,fun u6 s6 H6 k6 ux nu eu hs6 ex=>⟨rfl,?_⟩⟩⟩)⟩⟩⟩⟩
  have gm:=gQ (C:=Ff) nx nd;have g6:=fU nx nd k6;have hs6:s6= .non:=hs6;subst hs6;exact q ⟨x,u6,none⟩ _ g6 (aC _ dx _ _ ⟨ex,.inl ⟨rfl,rfl⟩,jo,EV fT (by decide),trivial,⟨[],eu,A2.nil⟩,rfl⟩) (own2 nx (gm.free nu)) (own_nd ux)
 rintro σ _ ⟨rfl,rfl,n1⟩;refine cut (fun σ H'=>σ= [Iw l]/\H=H'/\w≠ "warm") (fun N hN=>?_) ?_
 ·refine ⟨_,rfl,aC l _ _ _ ⟨rfl,rfl,aH.of el,(aF (j:=0) rfl),rfl,_,rfl,lL (fun e=>?_) fun e=>hN _ _ ⟨rfl,rfl,e⟩⟩⟩
  subst e
  match f,fo,rl3,q with
  |none,z,_,_=>exact absurd rfl z
  |some am,_,rl3,q=>
  obtain ⟨x4,xs4,rfl,⟨tf,rfl,_,etf⟩,rl4⟩:=aZ rl3;refine ⟨_,rfl,aC l _ _ _ ⟨rfl,rfl,aH.of el,(aF (j:=1) rfl),_,rfl,aC l _ _ _ ⟨rfl,rfl,aH.of el,(aF (j:=2) rfl),_,rfl,aC l _ _ _ ⟨rfl,rfl,aH.of el,(aF (j:=3) rfl),_,rfl,aC l _ _ _ ⟨rfl,rfl,aH.of el,(aF (j:=4) rfl),fun x dx nx nd nxd=>(jA x _ dx _ _ _ _ .non .non (aI [] none ⟨rfl,af,⟨B.Gj,B.Gc,B.Fu,B.Gd,B.Gb,B.Fo⟩,B.GB,.inl ⟨rfl,rfl⟩,rfl,fun u6 s6 H6 k6 ux nu eu hs6 ex=>⟨rfl,?_⟩⟩))⟩⟩⟩⟩⟩
  have gm:=gQ (C:=on) nx nd;have g6:=fU nx nd k6;have hs6:s6= .non:=hs6;subst hs6;exact q ⟨x,u6,none⟩ _ g6 (aC _ dx _ _ ⟨ex,.inr (.inr ⟨rfl,rfl⟩),ut,EV (aW "fill" (.ref tf) (gd (.str n) (vN lo) (vN hi) (.ref u6) .non)) (EV (Nat.succ_le_succ fT) (show 6<=10 by decide)),⟨tf,pp,g6 _ _ etf⟩,⟨[],eu,A2.nil⟩,rfl⟩) (own2 nx (gm.free nu)) (own_nd ux)
 rintro σ _ ⟨rfl,rfl,n2⟩;have e:w= "rest" :=by
  rcases wd with e|e|e
  ·exact absurd e n1
  ·exact e
  ·exact absurd e n2
 subst e
 match f,fo with
 |some am,z=>exact absurd z.1 (by decide)
 |none,_=>
  refine ⟨_,rfl,aC l _ _ _ ⟨rfl,rfl,aH.of el,(aF (j:=1) rfl),_,rfl,aC l _ _ _ ⟨rfl,rfl,aH.of el,(aF (j:=2) rfl),_,rfl,aC l _ _ _ ⟨rfl,rfl,aH.of el,(aF (j:=3) rfl),fun x dx nx nd nxd=>(jA x _ dx _ _ _ .non .non [] ⟨none,⟨rfl,af,⟨B.Gp,B.Gf,B.Fw,B.Gg,B.Ge,B.Fp⟩,.inl ⟨rfl,rfl⟩,rfl,fun u6 s6 H6 k6 ux nu eu hs6 ex=>⟨rfl,?_⟩⟩⟩)⟩⟩⟩⟩
  have gm:=gQ (C:=Ev) nx nd;have g6:=fU nx nd k6;have hs6:s6= .non:=hs6;subst hs6;exact q ⟨x,u6,none⟩ _ g6 (aC _ dx _ _ ⟨ex,.inr (.inl ⟨rfl,rfl⟩),jo,EV fT (by decide),trivial,⟨[],eu,A2.nil⟩,rfl⟩) (own2 nx (gm.free nu)) (own_nd ux)
theorem BL {dV:Value} (F:br K "put_step" "put_step" zB dV f fd) (DZ21:Dx P w K mg base a7 1 "refuse_twice" ["name","told","at"] [] eZ) (DZ22:Dx P w K mg base a7 1 "refuse_full" ["kept","most"] [] eR) (DZ37:Dx P w K mg base a7 4 "step_of" ["values"] [] (nX Ff Ev on)):aY P w K mg base a7 5 f fd ["recipe","at","values"] (kJ Ff Ev on Fe):=by
 have sc:aB ["recipe","at","values"] ["recipe","at","values"] (av zB):=cS (by decide+kernel)
 refine F.ok sc (fun vs H Q E h=>?_) (fun cdv A outer s H vs Q E hr h=>?_)
 ·obtain ⟨_,_,_,_,_,_,_,_,_,_,_,_,_,_,_,_,rfl,_⟩:=h
  rfl
 refine ku h fun r l a G n p lt ls lk _hi=>?_
 refine qJ _hi fun ks M w z lo hi _hj=>?_
 refine sD _hj fun f _hk=>?_
 refine jC _hk fun _r1 rm lv wd fo _hl=>?_
 refine uF _hl fun nz ml q=>?_
 clear h _hi _hj _hk _hl;subst _r1;refine ⟨_,(ad (bw (b5 DZ21 hr (@aa _ _ _ _ _ (ao ai (pv 2) ac (fun _ _=>rfl)) (@aa _ _ _ _ _ (iP (own:= "step") (ys:= []) (js:= []) rfl (AO AN .nil (by decide) rfl rfl rfl rfl rfl rfl rfl rfl) (gF (aU (pv 0) rfl)) (fun C fp s H=>(wn (K:=K) rfl (pv 0) rfl))) (@aa _ _ _ _ _ (pv 1) ae rfl) rfl) rfl))) (ad (bw (b5 DZ22 hr (@aa _ _ _ _ _ (aU (pv 0) rfl) (@aa _ _ _ _ _ (eN rfl B.Hq) ae rfl) rfl))) (ah (bw (c6 EY EX EW bG (aU (pv 0) rfl) (@aa _ _ _ _ _ (b5 DZ37 hr (@aa _ _ _ _ _ (pv 2) ae rfl)) ae rfl)))))),?_⟩
 try dsimp only[cxK]
 have sl:sizeLine=16777216:=sizeLine_eq;have scOf:∀{w:Str} {C:Addr},iD Ff Ev on w C->iC K C:=fun h=>by
  rcases h with ⟨_,rfl⟩|⟨_,rfl⟩|⟨_,rfl⟩
  ·exact ⟨B.Gy,B.Gm,B.Gh,B.Gn,B.Gk,B.Fx⟩
  ·exact ⟨B.Gp,B.Gf,B.Fw,B.Gg,B.Ge,B.Fp⟩
  ·exact ⟨B.Gj,B.Gc,B.Fu,B.Gd,B.Gb,B.Fo⟩
 obtain ⟨xs,el,rl⟩:=id lv;obtain ⟨x1,xs1,rfl,e1,rl1⟩:=aZ rl;cases e1;obtain ⟨dx,er⟩:=rm.er;have es:=rm.es;have kl:=rm.len;refine ⟨_,rfl,aC l _ _ _ ⟨rfl,rfl,aH.of el,(aF (j:=1) rfl),_,rfl,aC r _ dx _ ⟨_,⟨rfl,er,B.Fi,B.Fj,bY.2.2.2.1,ls,rfl,⟨_,aH.of es⟩,qF (wg V.str) (fun _=>False) (fun i=>yz M.steps i) (aH.of es) (by rw[E5];omega) (fun a h=>h.elim) (fun i y hy H2 g Q' hQ=>?_) fun p1 H4 np g4 hp=>?_⟩⟩⟩⟩
 ·rw[E7] at hy;obtain ⟨k,hk,rfl⟩:=Ed.mp hy;have il:i<M.steps.length:=by have:=bE hk;omega
  have hs:=E1 il;rw[r6 hs] at hQ;obtain ⟨C,dxk,sv,ff,ex,hC,sf,_⟩:=rm.ss i k _ hk hs;exact ⟨_,rfl,aC k.x C dxk ff ⟨_,⟨rfl,g _ _ ex,(scOf hC).cl,(scOf hC).name,sf.name,hQ _ _ (.refl _) rfl⟩⟩⟩
 obtain ⟨vs,ep,rp⟩:=hp;have ey:vs=(M.steps.map fun s=>s.n).map V.str:=by
  have e:=map_getD (fun z:Str=>z) (M.steps.map fun s=>s.n) ""
  rw[E5,List.map_id'] at e;rw[rp.val,E5,kl];exact congrArg (List.map V.str) e
 subst ey;refine ⟨_,rfl,aC z p1 _ a ⟨rfl,ep,(fun m=>?_),_,rfl,aC r _ dx _ ⟨_,⟨rfl,(g4 _ _ er),B.Fi,B.Fj,bY.2.2.2.1,ck ls _ 12 ⟨rfl,g4 _ _ es,by rw[E5];omega,_,rfl,aC r _ dx _ ⟨_,⟨rfl,(g4 _ _ er),B.Fi,B.Fj,bY.2.2.2.1,.inl ⟨rfl,_,aH.of (g4 _ _ es)⟩,_,rfl,l,w,z,lo,hi,f,rfl,lv.same g4,wd,fo,fun k H5 g5 sm nk ndk=>?_⟩⟩⟩⟩⟩⟩⟩
 ·obtain ⟨x,hx,ex⟩:=EO.mp m;exact nz x hx ex
 have g45:=g4.trans g5;exact (ck ls _ _ ⟨rfl,rfl,g45 _ _ es,by rw[E5];omega,q k _ (rm.step g45 sm (fun a ha=>g4.free (nk a ha)) ndk)⟩)
theorem BM {dV:Value} (F:br K "put_second" "put_second" zC dV f fd) (DZ23:Dx P w K mg base a7 1 "place_of" ["recipe","name","at"] [] (f6 Ff Ev on Fe)):aY P w K mg base a7 2 f fd ["recipe","at","values"] (iE Ff Ev on Fe):=by
 have sc:aB ["recipe","at","values","step"] ["recipe","at","values"] (av zC):=cS (by decide+kernel)
 refine F.ok sc (fun vs H Q E h=>?_) (fun cdv A outer s H vs Q E hr h=>?_)
 ·obtain ⟨_,_,_,_,_,_,_,_,_,_,_,_,_,_,_,_,rfl,_⟩:=h
  rfl
 refine ku h fun r l a G n p lt ls lk _hi=>?_
 refine qJ _hi fun ks M z lo hi i _hj=>?_
 refine sD _hj fun s _hk=>?_
 refine jC _hk fun _r1 rm _r2 sl1 _r3 _hl=>?_
 refine uF _hl fun hi2 es0 q=>?_
 clear h _hi _hj _hk _hl;subst _r1;obtain ⟨xs,el,rl⟩:=_r2;obtain ⟨⟨s1,hi1,rfl⟩,mi⟩:=_r3;refine ⟨_,(ad (bQ 3 sc (ao ai (aU (pv 0) rfl) (b5 DZ23 hr (@aa _ _ _ _ _ (pv 0) (@aa _ _ _ _ _ (ao ai (pv 2) ac (fun _ _=>rfl)) (@aa _ _ _ _ _ (pv 1) ae rfl) rfl) rfl)) (fun _ _=>rfl))) (ad (aL (ar iN (aU (pv 3) rfl) bj (aA _)) (ah cP) ay) (ah (dC (pv 3) (@bI _ _ _ _ _ (@aa _ _ _ _ _ (ao ai (pv 2) ac (fun _ _=>rfl)) (@aa _ _ _ _ _ (ao ai (pv 2) ac (fun _ _=>rfl)) (@aa _ _ _ _ _ (@bi _ _ _ _ ae) ae rfl) rfl) rfl)) rfl)))),?_⟩
 try dsimp only[cxK]
 have sl:sizeLine=16777216:=sizeLine_eq;have scOf:∀{w:Str} {C:Addr},iD Ff Ev on w C->iC K C:=fun h=>by
  rcases h with ⟨_,rfl⟩|⟨_,rfl⟩|⟨_,rfl⟩
  ·exact ⟨B.Gy,B.Gm,B.Gh,B.Gn,B.Gk,B.Fx⟩
  ·exact ⟨B.Gp,B.Gf,B.Fw,B.Gg,B.Ge,B.Fp⟩
  ·exact ⟨B.Gj,B.Gc,B.Fu,B.Gd,B.Gb,B.Fo⟩
 have e9:=EL (hi1.symm.trans hi2);subst e9;obtain ⟨x1,xs1,rfl,e1,rl1⟩:=aZ rl;obtain ⟨x2,xs2,rfl,e2,rl2⟩:=aZ rl1;obtain ⟨x3,xs3,rfl,e3,rl3⟩:=aZ rl2;cases e1;cases e2;cases e3;obtain ⟨dx,er⟩:=rm.er;have es:=rm.es;have kl:=rm.len;have il:=bE hi1;have hk:=E1 (l:=ks) (i:=i) (by omega)
 generalize ks[i]=k at hk;refine ⟨_,rfl,aC r _ dx _ ⟨_,⟨rfl,er,B.Fi,B.Fj,bY.2.2.2.1,_,rfl,_,rfl,aC l _ _ _ ⟨rfl,rfl,aH.of el,(aF (j:=1) rfl),_,rfl,kq r s1.n a n p M (aI i s1 ⟨rfl,rm.a,sl1,hi1,rfl,mi,fun H1 g1=>?_⟩)⟩⟩⟩⟩
 have rm1:=rm.same g1;have hkx:(ks.map fun k=>V.ref k.x)[i]?=some (.ref k.x):=by rw[E7,hk];rfl
 have sm:=rm1.ss i k s1 hk hi1;refine sE (id sm) fun C dxk sv ff _hi=>?_
 refine jC _hi fun hx hC sf l10 hf _hj=>?_
 refine kv _hj fun hu hsv=>?_
 rw[es0] at hsv
 match kso:k.sec,hsv with
 |none,hsv=>
 have hsv:sv= .non:=hsv;subst hsv;refine (aC ls _ _ _ ⟨rfl,rfl,aH.of (g1 _ _ es),(aF hkx),?_⟩);dsimp only[aX,a6];refine cut (fun σ H'=>σ= [Iw r,some a,Iw l,Iw k.x]/\H1=H') (fun N hN=>?_) ?_
 ·exact ⟨_,rfl,aC k.x C dxk ff ⟨_,⟨rfl,hx,(scOf hC).cl,(scOf hC).second,sf.second,rfl,_,rfl,nF rfl (hN _ _ ⟨rfl,rfl⟩)⟩⟩⟩
 rintro σ _ ⟨rfl,rfl⟩;refine ⟨_,rfl,aC l _ _ _ ⟨rfl,rfl,aH.of (g1 _ _ el),(aF (j:=2) rfl),_,rfl,aC l _ _ _ ⟨rfl,rfl,aH.of (g1 _ _ el),(aF (j:=3) rfl),by show 0<=sizeLine;decide,fun nl nnl=>⟨by show 3<=sizeLine;decide,fun nt nnt=>?_⟩⟩⟩⟩
 have g2:=aj nnl (.lst []);have g3:=aj nnt (.tup [vN lo,vN hi,.ref nl]);have g23:=g2.trans g3;have en:=g3 _ _ (af (H:=H1) (a:=nl) (o:= .lst []));have et:=af (H:=aS H1 nl (.lst [])) (a:=nt) (o:= .tup [vN lo,vN hi,.ref nl]);refine ⟨_,rfl,aC k.x C dxk ff ⟨rfl,g23 _ _ hx,(scOf hC).cl,(scOf hC).second,by omega,?_⟩⟩
 have sm':=SM.second (cC:=Ff) (cR:=Ev) (cW:=on) hx hC sf l10 hf hu g23 nnl en et;have nd':=rm1.own_nd (E4 hk);refine q _ _ (rm1.set hk hi1 (pM g23 (by simp[So.own])) sm' rfl (fun b hb=>?_) ?_)
 ·simp only[So.own,Option.toList,E3,E9,or_false] at hb;rcases hb with rfl|rfl|rfl
  ·exact .inl (by simp[So.own])
  ·exact .inl (by simp[So.own])
  ·exact .inr nnl
 ·simp only[So.own,Ee,E3,not_or] at nd';have n1:k.x≠nl:=aM hx nnl;obtain ⟨vu,eu,_⟩:=hu;have n2:k.u≠nl:=aM eu nnl;simp[So.own,Option.toList,nd'.1.1,n1,n2]
theorem BN {dV:Value} (F:br K "put_use" "put_use" zD dV f fd) (DZ21:Dx P w K mg base a7 1 "refuse_twice" ["name","told","at"] [] eZ) (DZ22:Dx P w K mg base a7 1 "refuse_full" ["kept","most"] [] eR) (DZ23:Dx P w K mg base a7 1 "place_of" ["recipe","name","at"] [] (f6 Ff Ev on Fe)):aY P w K mg base a7 2 f fd ["recipe","at","values"] (nY Ff Ev on Fe):=by
 have sc:aB ["recipe","at","values","step","uses"] ["recipe","at","values"] (av zD):=cS (by decide+kernel)
 refine F.ok sc (fun vs H Q E h=>?_) (fun cdv A outer s H vs Q E hr h=>?_)
 ·obtain ⟨_,_,_,_,_,_,_,_,_,_,_,_,_,_,_,_,_,rfl,_⟩:=h
  rfl
 refine ku h fun r l a G n p lt ls lk _hi=>?_
 refine qJ _hi fun ks M o z u i _hj=>?_
 refine vq _hj fun s us _hk=>?_
 refine yu _hk fun _r1 rm _r2 sl1 _r3 hi2 hus nz _hl=>?_
 refine kv _hl fun ul q=>?_
 clear h _hi _hj _hk _hl;subst _r1;obtain ⟨xs,el,rl⟩:=_r2;obtain ⟨⟨s1,hi1,rfl⟩,mi⟩:=_r3;refine ⟨_,(ad (bQ 3 sc (ao ai (aU (pv 0) rfl) (b5 DZ23 hr (@aa _ _ _ _ _ (pv 0) (@aa _ _ _ _ _ (ao ai (pv 2) ac (fun _ _=>rfl)) (@aa _ _ _ _ _ (pv 1) ae rfl) rfl) rfl)) (fun _ _=>rfl))) (ad (bQ 4 sc (aU (pv 3) rfl)) (ad (aL (ar bF (ao ai (pv 2) ac (fun _ _=>rfl)) aE (aA _)) (ad (aL (ar cN (aU (pv 3) rfl) bj (aA _)) (ah cP) ay) (ah (bQ 4 sc (ao aT (aU (pv 3) rfl) ac (fun _ _=>rfl))))) ay) (ad (bw (b5 DZ21 hr (@aa _ _ _ _ _ (ao ai (pv 2) ac (fun _ _=>rfl)) (@aa _ _ _ _ _ (iP (own:= "use") (ys:= []) (js:= []) rfl (AO AN .nil (by decide) rfl rfl rfl rfl rfl rfl rfl rfl) (gF (pv 4)) (fun C fp s H=>(ao (qD (K:=K) rfl) (pv 0) ac (fun _ _=>rfl)))) (@aa _ _ _ _ _ (pv 1) ae rfl) rfl) rfl))) (ad (bw (b5 DZ22 hr (@aa _ _ _ _ _ (pv 4) (@aa _ _ _ _ _ (eN rfl B.Hx) ae rfl) rfl))) (ah (bw (c6 EY EX EW bG (pv 4) (@aa _ _ _ _ _ (@bI _ _ _ _ _ (@aa _ _ _ _ _ (ao ai (pv 2) ac (fun _ _=>rfl)) (@aa _ _ _ _ _ (ao ai (pv 2) ac (fun _ _=>rfl)) (@aa _ _ _ _ _ (ao ai (pv 2) ac (fun _ _=>rfl)) ae rfl) rfl) rfl)) ae rfl))))))))),?_⟩
 try dsimp only[cxK]
 have sl:sizeLine=16777216:=sizeLine_eq;have scOf:∀{w:Str} {C:Addr},iD Ff Ev on w C->iC K C:=fun h=>by
  rcases h with ⟨_,rfl⟩|⟨_,rfl⟩|⟨_,rfl⟩
  ·exact ⟨B.Gy,B.Gm,B.Gh,B.Gn,B.Gk,B.Fx⟩
  ·exact ⟨B.Gp,B.Gf,B.Fw,B.Gg,B.Ge,B.Fp⟩
  ·exact ⟨B.Gj,B.Gc,B.Fu,B.Gd,B.Gb,B.Fo⟩
 have e9:=EL (hi1.symm.trans hi2);subst e9;obtain ⟨x1,xs1,rfl,e1,rl1⟩:=aZ rl;obtain ⟨x2,xs2,rfl,e2,rl2⟩:=aZ rl1;obtain ⟨x3,xs3,rfl,e3,rl3⟩:=aZ rl2;obtain ⟨x4,xs4,rfl,e4,rl4⟩:=aZ rl3;cases e1;cases e2;cases e3;cases e4;obtain ⟨dx,er⟩:=rm.er;have es:=rm.es;have kl:=rm.len;have il:=bE hi1;have hk:=E1 (l:=ks) (i:=i) (by omega)
 generalize ks[i]=k at hk;refine ⟨_,rfl,aC r _ dx _ ⟨_,⟨rfl,er,B.Fi,B.Fj,bY.2.2.2.1,_,rfl,_,rfl,aC l _ _ _ ⟨rfl,rfl,aH.of el,(aF (j:=1) rfl),_,rfl,kq r s1.n a n p M (aI i s1 ⟨rfl,rm.a,sl1,hi1,rfl,mi,fun H1 g1=>?_⟩)⟩⟩⟩⟩
 have rm1:=rm.same g1;have hkx:(ks.map fun k=>V.ref k.x)[i]?=some (.ref k.x):=by rw[E7,hk];rfl
 have sm:=rm1.ss i k s1 hk hi1;have ndk:=rm1.own_nd (E4 hk);refine sE (id sm) fun C dxk sv ff _hi=>?_
 refine jC _hi fun hx hC sf l10 hf _hj=>?_
 refine kv _hj fun hu hsv=>?_
 refine (aC ls _ _ _ ⟨rfl,rfl,aH.of (g1 _ _ es),(aF hkx),_,rfl,aC k.x C dxk ff ⟨_,⟨rfl,hx,(scOf hC).cl,(scOf hC).uses,sf.uses,?_⟩⟩⟩);dsimp only[aX,a6];have mkx:k.x∈k.own:=by simp[So.own]
 have mku:k.u∈k.own:=by simp[So.own]
 refine cut (fun σ H'=>∃ua,σ= [Iw r,some a,Iw l,Iw k.x,Iw ua]/\H1=H'/\Uz H1 ua us/\∀(H2:Hp) (t:Addr) (vs:List V),H1 ua=some (.lst vs)->aJ H1 H2->H2 t=some (.tup (gE u))->Q .non (aS H2 ua (.lst (vs++ [.ref t])))) (fun N hN=>?_) ?_
 ·refine ⟨_,rfl,aC l _ _ _ ⟨rfl,rfl,aH.of (g1 _ _ el),(aF (j:=0) rfl),rfl,_,rfl,lL (fun e=>?_) fun e=>?_⟩⟩
  ·have ho:o=true:=by
    cases o with
    |true=>rfl
    |false=>exact absurd e (by decide)
   subst ho;rw[if_pos rfl] at hus;obtain ⟨lo,hi,hs1⟩:=hus
   match kso:k.sec,s1.sec,hs1,hsv with
   |some l2,_,rfl,hsv=>
   obtain ⟨t2,rfl,et2,hu2⟩:=hsv;refine ⟨_,rfl,aC k.x C dxk ff ⟨_,⟨rfl,hx,(scOf hC).cl,(scOf hC).second,sf.second,rfl,_,rfl,dF (fun z=>nomatch z) ⟨_,rfl,aC k.x C dxk ff ⟨_,⟨rfl,hx,(scOf hC).cl,(scOf hC).second,sf.second,aC t2 _ _ _ ⟨rfl,rfl,bZ.of et2,rfl,hN _ _ ⟨l2,rfl,rfl,hu2,fun H2 t vs ev g et=>?_⟩⟩⟩⟩⟩⟩⟩⟩
   have hs1':s1.sec=some (lo,hi,us):=by assumption
   exact q _ _ _ (by rw[if_pos rfl];exact (aI lo hi ⟨hs1',rfl⟩)) (rm1.set hk hi1 (pM g (by simp[So.own,kso])) (sm.orw ndk kso hs1' ev g et) rfl (fun b hb=> .inl hb) ndk)
  ·have ho:o=false:=by
    cases o with
    |false=>rfl
    |true=>exact absurd rfl e
   subst ho;have hus:s1.uses=us:=hus;subst hus;refine hN _ _ ⟨k.u,rfl,rfl,hu,fun H2 t vs ev g et=>?_⟩
   exact q _ _ _ rfl (rm1.set hk hi1 (pM g mku) (sm.use ndk ev g et) rfl (fun b hb=> .inl hb) ndk)
 rintro σ _ ⟨ua,rfl,rfl,⟨vs,ev,rv⟩,fin⟩;have vl:=rv.1;have el1:=g1 _ _ el;refine ⟨_,rfl,aC l _ _ _ ⟨rfl,rfl,aH.of el1,(aF (j:=2) rfl),_,rfl,ua,rfl,⟨_,aH.of ev⟩,qF (wg V.str) (fun _=>False) (fun i=>((us.map fun x=>x.1).getD i ("" :Str))) (aH.of ev) (by omega) (fun a h=>h.elim) (fun i y hy H2 g Q' hQ=>?_) fun p1 H4 np g4 hp=>?_⟩⟩
 ·obtain ⟨x,hx',t,rfl,_,et⟩:=rv.at_ hy;have e1:(us.map fun x=>x.1).getD i ("" :Str)=x.1:=by simp[List.getD,hx']
  rw[e1] at hQ;exact ⟨_,rfl,aC t _ _ _ ⟨rfl,rfl,bZ.of (g _ _ et),rfl,hQ _ _ (.refl _) rfl⟩⟩
 obtain ⟨ws,ep,rp⟩:=hp;have ey:ws=(us.map fun x=>x.1).map V.str:=by
  have e:=map_getD (fun z:Str=>z) (us.map fun x=>x.1) ""
  rw[E5,List.map_id'] at e;rw[rp.val,vl];exact congrArg (List.map V.str) e
 subst ey;refine ⟨_,rfl,aC u.1 p1 _ a ⟨rfl,ep,(fun m=>?_),_,rfl,ck ua vs 12 ⟨rfl,g4 _ _ ev,by omega,_,rfl,.inl ⟨rfl,_,aH.of (g4 _ _ ev)⟩,_,rfl,aC l _ _ _ ⟨rfl,rfl,aH.of (g4 _ _ el1),(aF (j:=2) rfl),_,rfl,aC l _ _ _ ⟨rfl,rfl,aH.of (g4 _ _ el1),(aF (j:=3) rfl),_,rfl,l,_,_,_,rfl,rfl,aH.of (g4 _ _ el1),(aF (j:=4) rfl),by show 3<=sizeLine;decide,fun t nt=>?_⟩⟩⟩⟩⟩
 ·obtain ⟨x,hx',ex⟩:=EO.mp m;exact nz x hx' ex
 have g5:=g4.trans (aj nt (.tup (gE u)));exact (ck ua _ _ ⟨rfl,rfl,g5 _ _ ev,by omega,fin _ t vs ev g5 af⟩)
theorem BO {dV:Value} (F:br K "put_row" "put_row" zE dV f fd) (DZ24:Dx P w K mg base a7 2 "put_take" ["recipe","at","values"] [] (kH Ff Ev on Fe)) (DZ25:Dx P w K mg base a7 2 "put_link" ["recipe","at","values"] [] (kI Ff Ev on Fe)) (DZ38:Dx P w K mg base a7 5 "put_step" ["recipe","at","values"] [] (kJ Ff Ev on Fe)) (DZ39:Dx P w K mg base a7 2 "put_second" ["recipe","at","values"] [] (iE Ff Ev on Fe)) (DZ40:Dx P w K mg base a7 2 "put_use" ["recipe","at","values"] [] (nY Ff Ev on Fe)):aY P w K mg base a7 6 f fd ["recipe","at","values"] (n8 Ff Ev on Fe):=by
 have sc:aB ["recipe","at","values"] ["recipe","at","values"] (av zE):=cS (by decide+kernel)
 refine F.ok sc (fun vs H Q E h=>?_) (fun cdv A outer s H vs Q E hr h=>?_)
 ·obtain ⟨_,_,_,_,_,_,_,_,_,_,_,_,_,rfl,_⟩:=h
  rfl
 refine ku h fun r l a G n p lt ls lk _hi=>?_
 refine sE _hi fun ks M M' rr _hj=>?_
 refine jC _hj fun _r1 rm lv ro bd _hk=>?_
 refine kv _hk fun hp q=>?_
 clear h _hi _hj _hk;subst _r1;refine ⟨_,(ah (aL (ar bF (ao ai (pv 2) ac (fun _ _=>rfl)) aE (aA _)) (ah (bw (b5 DZ24 hr (@aa _ _ _ _ _ (pv 0) (@aa _ _ _ _ _ (pv 1) (@aa _ _ _ _ _ (pv 2) ae rfl) rfl) rfl)))) (ah (aL (ar dN (ao ai (pv 2) ac (fun _ _=>rfl)) (cD (v:=V.ref Fl) rfl B.GN rfl) (by with_unfolding_all rfl)) (ah (bw (b5 DZ38 hr (@aa _ _ _ _ _ (pv 0) (@aa _ _ _ _ _ (pv 1) (@aa _ _ _ _ _ (pv 2) ae rfl) rfl) rfl)))) (ah (aL (ar bF (ao ai (pv 2) ac (fun _ _=>rfl)) aE (aA _)) (ah (bw (b5 DZ39 hr (@aa _ _ _ _ _ (pv 0) (@aa _ _ _ _ _ (pv 1) (@aa _ _ _ _ _ (pv 2) ae rfl) rfl) rfl)))) (ah (aL (ar dN (ao ai (pv 2) ac (fun _ _=>rfl)) (cD (v:=V.ref Fn) rfl B.Hu rfl) (by with_unfolding_all rfl)) (ah (bw (b5 DZ40 hr (@aa _ _ _ _ _ (pv 0) (@aa _ _ _ _ _ (pv 1) (@aa _ _ _ _ _ (pv 2) ae rfl) rfl) rfl)))) (ah (bw (b5 DZ25 hr (@aa _ _ _ _ _ (pv 0) (@aa _ _ _ _ _ (pv 1) (@aa _ _ _ _ _ (pv 2) ae rfl) rfl) rfl)))))))))))),?_⟩
 try dsimp only[cxK]
 have sl:sizeLine=16777216:=sizeLine_eq;have ml:=bd.s;have tl:=bd.t;have k24:=bd.k;obtain ⟨xs,el,rl⟩:=id lv;refine ⟨_,rfl,aC l _ _ _ ⟨rfl,rfl,aH.of el,(aF (j:=0) rfl),rfl,_,rfl,lL (fun e=>?_) fun n1=>⟨_,rfl,aC l _ _ _ ⟨rfl,rfl,aH.of el,(aF (j:=0) rfl),aI Fl _ ⟨rfl,.inr (B.GI.sq _),rfl,ko _,_,rfl,Ag (gs:= ["cut","rest","warm"]) (fun e=>?_) fun n2=>⟨_,rfl,aC l _ _ _ ⟨rfl,rfl,aH.of el,(aF (j:=0) rfl),rfl,_,rfl,lL (fun e=>?_) fun n3=>⟨_,rfl,aC l _ _ _ ⟨rfl,rfl,aH.of el,(aF (j:=0) rfl),aI Fn _ ⟨rfl,.inr (B.Hd.sq _),rfl,ko _,_,rfl,Ag (gs:= ["with","orwith"]) (fun e=>?_) fun n4=>?_⟩⟩⟩⟩⟩⟩⟩⟩⟩⟩
 ·obtain ⟨g,am,rfl⟩:=wO ro e;obtain ⟨h1,h2,rfl⟩:=gS hp;exact ⟨_,rfl,_,rfl,_,rfl,jA r l a G n p lt ls lk (aC ks M g am ⟨rfl,rm,lv,h1,by omega,fun H' rm'=>q ks _ rm'⟩)⟩
 ·obtain ⟨w,z,lo,hi,f,rfl⟩:=wP ro e;obtain ⟨h1,h2,rfl⟩:=gU hp;exact ⟨_,rfl,_,rfl,_,rfl,jA r l a G n p lt ls lk (kq ks M w z lo hi ⟨f,⟨rfl,rm,lv,ro.1,ro.2.2.2,h1,by omega,fun k H' rm'=>q _ _ rm'⟩⟩)⟩
 ·obtain ⟨z,lo,hi,rfl⟩:=yT ro e;obtain ⟨i,s,h1,h2,h3,rfl⟩:=iF hp;exact ⟨_,rfl,_,rfl,_,rfl,jA r l a G n p lt ls lk (kq ks M z lo hi i ⟨s,⟨rfl,rm,lv,by omega,h1,h2,h3,fun ks' H' rm'=>q _ _ rm'⟩⟩)⟩
 ·obtain ⟨o,z,u,rfl⟩:=yU ro e;cases o with
  |false=>
   obtain ⟨i,s,h1,h2,h3,h4,rfl⟩:=iG hp;refine ⟨_,rfl,_,rfl,_,rfl,jA r l a G n p lt ls lk (kq ks M false z u i (aI s s.uses ⟨rfl,rm,lv,by omega,h1,h2,rfl,h3,(by have:=(bd.us s (E4 h2)).1;omega),fun ks' s' H' e' rm'=>?_⟩))⟩
   have e':s'=_:=e';subst e';exact q _ _ rm'
  |true=>
   refine sE (iH hp) fun i s lo hi _hi=>?_
   refine sD _hi fun us _hj=>?_
   refine jC _hj fun h1 h2 h3 h4 h5 _r1=>?_
   clear _hi _hj;subst _r1;refine ⟨_,rfl,_,rfl,_,rfl,jA r l a G n p lt ls lk (kq ks M true z u i (aI s us ⟨rfl,rm,lv,by omega,h1,h2,(aI lo hi h3),h4,(by have:=(bd.us s (E4 h2)).2 _ h3;dsimp only at this;omega),fun ks' s' H' e' rm'=>?_⟩))⟩
   obtain ⟨lo',hi',e1,rfl⟩:=e';rw[h3] at e1;cases e1;exact q _ _ rm'
 ·obtain ⟨w,x,y,t,rfl⟩:=wQ ro n1 n2 n3 n4;obtain ⟨i,j,h1,h2,h3,rfl⟩:=gW hp;exact ⟨_,rfl,_,rfl,_,rfl,jA r l a G n p lt ls lk (kq ks M w x y t (aI i j ⟨rfl,rm,lv,ro.2.2.2.2.2,by omega,h1,h2,by omega,fun H' rm'=>q _ _ rm'⟩))⟩
theorem BP {dV:Value} (F:br K "read_recipe" "read_recipe" zF dV f fd) (DZ20:Dx P w K mg base a7 9 "values_of" ["row"] [] ju) (DZ36:Dx P w K mg base a7 3 "recipe_begun" ["values"] [] (jw Ff Ev on Fe)) (DZ41:Dx P w K mg base a7 6 "put_row" ["recipe","at","values"] [] (n8 Ff Ev on Fe)):aY P w K mg base a7 10 f fd ["text"] (kK Ff Ev on Fe):=by
 have sc:aB ["text","rows","recipe","at","row","values"] ["text"] (av zF):=cS (by decide+kernel)
 refine F.ok sc (fun vs H Q E h=>?_) (fun cdv A outer s H vs Q E hr h=>?_)
 ·obtain ⟨_,_,_,_,rfl,_⟩:=h
  rfl
 refine sE h fun n p rs M _hi=>?_
 refine jC _hi fun _r1 nm p1 p2 ro _hj=>?_
 refine uF _hj fun r1 hp q=>?_
 clear h _hi _hj;subst _r1;refine ⟨_,(ad (aL (bV (bR (aK (b4 (K:=K) rfl) rfl B.Fg boot_isinstance (@aa _ _ _ _ _ (pv 0) (@aa _ _ _ _ _ (ca (v:= .ty "str") rfl B.Gu boot_str rfl) ae rfl) rfl)))) (ah cP) ay) (ad (bQ 1 sc (c6 FI PySem.F.slot_str_split PySem.F.type_str_split mQ (pv 0) (@aa _ _ _ _ _ aE ae rfl))) (ad (bQ 2 sc (b5 DZ36 hr (@aa _ _ _ _ _ (b5 DZ20 hr (@aa _ _ _ _ _ (ao ai (pv 1) ac (fun _ _=>rfl)) ae rfl)) ae rfl))) (ad (eG PassesOwn.never rfl (uY rfl B.GX (cG eB (pv 1) (cE ac) eA)) (iW rfl (bo (gh 3 sc) (bo (gh 4 sc) dY))) (ad (bQ 5 sc (b5 DZ20 hr (@aa _ _ _ _ _ (pv 4) ae rfl))) (ad (aL (PW.pt (bU (ar cN (pv 5) bj (aA _)) (bN (ar bF (ao ai (pv 5) ac (fun _ _=>rfl)) aE (aA _))))) (ah cP) ay) (ah (bw (b5 DZ41 hr (@aa _ _ _ _ _ (pv 2) (@aa _ _ _ _ _ (pv 3) (@aa _ _ _ _ _ (pv 5) ae rfl) rfl) rfl))))))) (ah (ax (pv 2))))))),?_⟩
 try dsimp only[cxK]
 have sl:sizeLine=16777216:=sizeLine_eq;have esp:=sy nm p2 ro;have tl:=wS nm p2 ro r1;generalize Txt.join jq (bX n p::rs.map fb)=txt at esp tl⊢;refine cut (fun σ H'=>σ= [some (.str txt),none,none,none,none,none]/\H=H') (fun N hN=>?_) ?_
 ·exact ⟨_,rfl,aC _ _ _ true ⟨rfl,.str _,rfl,_,rfl,cq (hN _ _ ⟨rfl,rfl⟩)⟩⟩
 rintro σ _ ⟨rfl,rfl⟩;refine ⟨_,rfl,rfl,aI txt 10 ⟨rfl,rfl,by omega,fun rl nrl=>?_⟩⟩
 have gp:=aj nrl (.lst ((Txt.split txt jq).map V.str));have ep:aS H rl (.lst ((Txt.split txt jq).map V.str)) rl=some (.lst ((bX n p::rs.map fb).map V.str)):=by rw[af,esp]
 dsimp only[aX,a6];change L2.ou _ _ _ _ (aS H rl (.lst ((Txt.split txt jq).map V.str)));generalize aS H rl (.lst ((Txt.split txt jq).map V.str))=H1 at gp ep⊢;clear esp tl;obtain ⟨ht1,ht2⟩:=gZ nm p2;refine cut (fun σ H'=>∃r lt ls lk,σ= [some (.str txt),Iw rl,Iw r,none,none,none]/\RM Ff Ev on Fe H1 H' r n p lt ls lk [] ⟨[],[],[]⟩) (fun N hN=>?_) ?_
 ·refine ⟨_,rfl,aC rl _ _ _ ⟨rfl,rfl,aH.of ep,(aF (j:=0) rfl),bX n p,rfl,by omega,fun e=>?_,fun w us e p5 H5 g5 np5 lv=>?_⟩⟩
  ·rw[kC nm p1 p2] at e;cases e
  ·rw[kC nm p1 p2] at e;cases e;exact (ck p5 n p ⟨rfl,lv,fun r lt ls lk H6 rm=>hN _ _ (aC r lt ls lk ⟨rfl,rm.low g5⟩)⟩)
 rintro σ H2 ⟨r,lt,ls,lk,rfl,rm⟩;refine cut (fun σ H'=>∃(o3 o4 o5:Option V) (ks:List So),σ= [some (.str txt),Iw rl,Iw r,o3,o4,o5]/\RM Ff Ev on Fe H1 H' r n p lt ls lk ks M) (fun N hN=>?_) ?_
 ·refine ⟨_,rfl,_,rfl,aI rl _ ⟨rfl,aH.of (rm.fr _ _ ep),fun sl1 ns1=>?_⟩⟩
  have ecd:dy ((bX n p::rs.map fb).map V.str) (some (1:Int)) none=(rs.map fb).map V.str:=by
   have:=ir (xs:=(bX n p::rs.map fb).map V.str) (c:=1);exact this
  rw[ecd];have gs:=aj ns1 (.lst ((rs.map fb).map V.str));have e1:aS H2 sl1 (.lst ((rs.map fb).map V.str)) sl1=some (.lst ((rs.map fb).map V.str)):=af;have rm1:=rm.same gs;have nso:sl1∉cg r lt ls lk []:=fun z=>rm.all _ z ns1
  generalize aS H2 sl1 (.lst ((rs.map fb).map V.str))=H3 at gs e1 rm1⊢;refine ⟨sl1,rfl,⟨_,aH.of e1⟩,sx (xs:=(rs.map fb).map V.str) (fun i σ H'=>∃(o3 o4 o5:Option V) (ks:List So) (M1:Md),σ= [some (.str txt),Iw rl,Iw r,o3,o4,o5]/\RM Ff Ev on Fe (less H3 (cg r lt ls lk [])) H' r n p lt ls lk ks M1/\cz ⟨[],[],[]⟩ (rs.take i)= .ok M1) (aC none none none [] ⟨⟨[],[],[]⟩,⟨rfl,rm1.top,rfl⟩⟩) (fun i σ H' _ h=>?_) ?_ ?_⟩
  ·obtain ⟨_,_,_,_,_,_,rm2,_⟩:=h;exact aH.of (rm2.fr _ _ (by rw[fX nso];exact e1))
  ·rintro i y σ H4 T hy ⟨o3,o4,o5,ks,M1,rfl,rm2,hM⟩ nT;rw[E7,E7] at hy;obtain ⟨z,hz,rfl⟩:=Ed.mp hy;obtain ⟨rr,hr',rfl⟩:=Ed.mp hz;have ok:=ro rr (E4 hr');have rm3:=rm2.same (aj nT (.tup [.int ((i:Int)+1),.str (fb rr)]));refine (aI T _ ⟨rfl,bZ.of af,rfl,aI _ _ ⟨rfl,aI _ _ ⟨rfl,rfl,?_⟩⟩⟩);generalize aS H4 T (.tup [.int ((i:Int)+1),.str (fb rr)])=H5 at rm3⊢;have tl:=(lW ok).2;refine ⟨_,rfl,fb rr,rfl,by omega,fun e=>?_,fun w us e p5 H6 g6 np5 lv=>?_⟩
   ·rw[lV ok] at e;cases e
   rw[lV ok] at e;have e':pH rr=(w,us):=EL e;obtain ⟨M1',k1,bd,k2⟩:=sA hp i;rw[hM] at k1;cases k1;have ed:rs.drop i=rr::rs.drop (i+1):=by
    have il:=bE hr';rw[FN il];rw[E1 il] at hr';rw[EL hr']
   rw[ed] at k2;obtain ⟨M2,k3,k4⟩:=jx k2;have hM2:cz ⟨[],[],[]⟩ (rs.take (i+1))= .ok M2:=by
    rw[List.take_add_one,hr',n9 hM];simp only[Option.toList,cz,k3]
   have nd:=va ok;rw[e'] at nd;obtain ⟨xs,el,_⟩:=id lv;have lv':LV H6 p5 (pH rr).1 (pH rr).2:=by rw[e'];exact lv
   dsimp only[aX,a6];refine cut (fun σ H'=>σ= [some (.str txt),Iw rl,Iw r,some (.int ((i:Int)+1)),some (.str (fb rr)),Iw p5]/\H6=H') (fun N hN=>?_) ?_
   ·exact ⟨_,rfl,rfl,_,rfl,dF (fun z=>nomatch z) ⟨_,rfl,aC p5 _ _ _ ⟨rfl,rfl,aH.of el,(aF (j:=0) rfl),rfl,_,rfl,lL (fun z=>absurd z nd) fun _=>hN _ _ ⟨rfl,rfl⟩⟩⟩⟩
   rintro σ _ ⟨rfl,rfl⟩;exact ⟨_,rfl,_,rfl,_,rfl,jA r p5 _ _ n p lt ls lk (aC ks M1 M2 rr ⟨rfl,rm3.same g6,lv',ok,bd,k3,fun ks' H7 rm7=>(aC _ _ _ ks' ⟨M2,⟨rfl,rm7,hM2⟩⟩)⟩)⟩
  ·rintro σ H5 ⟨o3,o4,o5,ks,M1,rfl,rm2,hM⟩;rw[E5,E5,List.take_length,hp] at hM;cases hM;exact hN _ _ (aC o3 o4 o5 ks ⟨rfl,rm2.low (rm1.less)⟩)
 rintro σ H3 ⟨o3,o4,o5,ks,rfl,rm3⟩;exact ⟨_,rfl,q r lt ls lk ks _ (rm3.low gp)⟩
theorem BQ {dV:Value} (F:br K "word" "Cut.word" zG dV f fd):aY P w K mg base a7 1 f fd ["self"] (iw "cut"):=by
 have sc:aB ["self"] ["self"] (av zG):=cS (by decide+kernel)
 refine F.ok sc (fun vs H Q E h=>?_) (fun cdv A outer s H vs Q E hr h=>?_)
 ·obtain ⟨_,rfl,_⟩:=h
  rfl
 obtain ⟨x,rfl,q⟩:=h;refine ⟨_,(ah (ax aE)),?_⟩;try dsimp only[cxK]
 exact q
theorem BR {dV:Value} (F:br K "word" "Warm.word" zH dV f fd):aY P w K mg base a7 1 f fd ["self"] (iw "warm"):=by
 have sc:aB ["self"] ["self"] (av zH):=cS (by decide+kernel)
 refine F.ok sc (fun vs H Q E h=>?_) (fun cdv A outer s H vs Q E hr h=>?_)
 ·obtain ⟨_,rfl,_⟩:=h
  rfl
 obtain ⟨x,rfl,q⟩:=h;refine ⟨_,(ah (ax aE)),?_⟩;try dsimp only[cxK]
 exact q
theorem BS {dV:Value} (F:br K "word" "Rest.word" zI dV f fd):aY P w K mg base a7 1 f fd ["self"] (iw "rest"):=by
 have sc:aB ["self"] ["self"] (av zI):=cS (by decide+kernel)
 refine F.ok sc (fun vs H Q E h=>?_) (fun cdv A outer s H vs Q E hr h=>?_)
 ·obtain ⟨_,rfl,_⟩:=h
  rfl
 obtain ⟨x,rfl,q⟩:=h;refine ⟨_,(ah (ax aE)),?_⟩;try dsimp only[cxK]
 exact q
theorem BU {dV:Value} (F:br K "_law_cell_at" "_law_cell_at" zJ dV f fd):aY P w K mg base a7 1 f fd ["_law_script","_law_k"] (tz K):=by
 have sc:aB ["_law_script","_law_k"] ["_law_script","_law_k"] (av zJ):=cS (by decide+kernel)
 refine F.ok sc (fun vs H Q E h=>?_) (fun cdv A outer s H vs Q E hr h=>?_)
 ·obtain ⟨_,_,_,rfl,_⟩:=h
  rfl
 obtain ⟨a,ns,k,rfl,hS,h0,q⟩:=h;refine ⟨_,(ad (aL (ar iX (pv 1) (aK aV rfl B.Go boot_len (@aa _ _ _ _ _ (pv 0) ae rfl)) (aA _)) (ah (ax (ao ai (pv 0) (pv 1) (fun _ _=>rfl)))) ay) (ah (ax ac))),?_⟩
 try dsimp only[cxK]
 refine ⟨_,rfl,_,rfl,aI a _ ⟨rfl,.inl hS,aI _ _ ⟨rfl,rfl,_,rfl,d2 (fun c=>?_) (fun c=>?_)⟩⟩⟩
 ·obtain ⟨v,hv⟩:=qe h0 c;exact ⟨_,rfl,_,rfl,aC a _ _ _ ⟨rfl,rfl,hS,hv,q v⟩⟩
 ·exact q 0
theorem BV {dV:Value} (F:br K "_law_whole" "_law_whole" zK dV f fd):aY P w K mg base a7 1 f fd ["_law_found"] gI:=by
 have sc:aB ["_law_found"] ["_law_found"] (av zK):=cS (by decide+kernel)
 refine F.ok sc (fun vs H Q E h=>?_) (fun cdv A outer s H vs Q E hr h=>?_)
 ·obtain ⟨_,rfl,_⟩:=h
  rfl
 obtain ⟨v,rfl,q⟩:=h;refine ⟨_,(ah (ax (kR (aK gH rfl B.Fg boot_isinstance (@aa _ _ _ _ _ (pv 0) (@aa _ _ _ _ _ (ca (v:= .ty "int") rfl B.HL boot_int rfl) ae rfl) rfl)) (kQ (sO (aK gH rfl B.Fg boot_isinstance (@aa _ _ _ _ _ (pv 0) (@aa _ _ _ _ _ (ca (v:= .ty "bool") rfl B.HM boot_bool rfl) ae rfl) rfl))))))),?_⟩;try dsimp only[cxK]
 refine ⟨_,rfl,ck _ _ _ ⟨rfl,.ii v,_,rfl,kZ ⟨_,rfl,ck _ _ _ ⟨rfl,.ib v,_,rfl,q⟩⟩⟩⟩
theorem BW {dV:Value} (F:br K "_law_common" "_law_common" zL dV f fd):aY P w K mg base a7 1 f fd ["_law_one","_law_other"] uq:=by
 have sc:aB ["_law_one","_law_other","_law_rest"] ["_law_one","_law_other"] (av zL):=cS (by decide+kernel)
 refine F.ok sc (fun vs H Q E h=>?_) (fun cdv A outer s H vs Q E hr h=>?_)
 ·obtain ⟨_,_,rfl,_⟩:=h
  rfl
 obtain ⟨a,b,rfl,a0,b0,q⟩:=h;refine ⟨_,(ad (mh PassesOwn.never (ar mn (pv 1) ac (aA _)) (ad (bQ 2 sc (aw aN (pv 0) (pv 1))) (ad (bQ 0 sc (pv 1)) (ah (bQ 1 sc (pv 2)))))) (ah (ax (pv 0)))),?_⟩;try dsimp only[cxK]
 refine mm (fun σ H'=>H'=H/\∃(g l:Int) (r:Option V),σ= [some (.int g),some (.int l),r]/\0<=g/\0<=l/\bA g l=bA a b)
  (fun (σ:L2.St) (_:Hp)=>match σ[1]? with|some (some (V.int l))=>l.toNat|_=>0) ⟨rfl,ck _ _ _ ⟨rfl,a0,b0,rfl⟩⟩ ?_ (fun σ H Q Q' m ⟨v,e,i,j,e1,e2,k,hk,h2⟩=>⟨v,e,aI i j ⟨e1,e2,k,hk,m _ _ h2⟩⟩)
 rintro σ H' ⟨rfl,g,l,r,rfl,g0,l0,inv⟩;refine ⟨_,rfl,aI _ _ ⟨rfl,rfl,_,rfl,d2 (fun c=>?_) (fun c=>?_)⟩⟩
 ·have lp:0<l:=c;refine ⟨_,rfl,_,rfl,aI _ _ ⟨rfl,rfl,by omega,_,rfl,_,rfl,⟨rfl,ck l (g.fmod l) _ ⟨rfl,l0,EH g lp,?_⟩⟩,?_⟩⟩
  ·rw[jV lp];exact inv
  ·have h1:=Ec g lp;have h2:=EH g lp;show (g.fmod l).toNat<l.toNat;omega
 ·have c:l=0:=by omega
  subst c;rw[jW g0] at inv;rw[<-inv] at q;exact ⟨_,rfl,q⟩
theorem BX {dV:Value} (F:br K "_law_stream" "_law_stream" zM dV f fd):aY P w K mg base a7 1 f fd ["_law_cell","_law_many"] jg:=by
 have sc:aB ["_law_cell","_law_many","_law_number","_law_found","_law_k"] ["_law_cell","_law_many"] (av zM):=cS (by decide+kernel)
 refine F.ok sc (fun vs H Q E h=>?_) (fun cdv A outer s H vs Q E hr h=>?_)
 ·obtain ⟨_,_,rfl,_⟩:=h
  rfl
 obtain ⟨c,m,rfl,m0,m1,q⟩:=h;have s4:(5000:Nat)<=sizeLine:=by decide
 refine ⟨_,(ad (bQ 2 sc (aw aN (pv 0) ac)) (ad (bQ 3 sc (@bi _ _ _ _ ae)) (ad (eG PassesOwn.never rfl (fL rfl B.GP (@aa _ _ _ _ _ (aw bW (pv 1) ac) ae rfl)) (gh 4 sc) (ad (bQ 2 sc (aw aN (aw bW (aw bW (aw bS (pv 2) ac) ac) (pv 4)) ac)) (ah (bw (c6 EY EX EW bG (pv 3) (@aa _ _ _ _ _ (aw bJ (pv 2) ac) ae rfl)))))) (ah (ax (cG eB (pv 3) (cE ac) eA)))))),?_⟩;try dsimp only[cxK]
 refine ⟨_,rfl,aI _ _ ⟨rfl,rfl,(by show (2147483647:Int)≠0;decide),?_⟩⟩
 have a0:=EH c (show (0:Int)<2147483647 by decide)
 have a1:=Ec c (show (0:Int)<2147483647 by decide)
 refine ⟨by show 0<=sizeLine;decide,fun l nl=>?_⟩
 try dsimp only[aX,a6]
 refine cut (fun σ H'=>∃(xs:List Int) (n:Int) (o4:Option V),σ= [some (.int c),some (.int m),some (.int n),Iw l,o4]/\aJ H H'/\H' l=some (.lst (xs.map V.int))/\(xs.length:Int)=m+1/\∀x∈xs,0<=x/\x<2^31) (fun N hN=>?_) ?_
 ·refine ⟨_,rfl,aI _ _ ⟨rfl,rfl,_,rfl,by omega,by omega,fM (fun i σ H'=>∃(xs:List Int) (n:Int) (o4:Option V),σ= [some (.int c),some (.int m),some (.int n),Iw l,o4]/\aJ H H'/\H' l=some (.lst (xs.map V.int))/\xs.length=i/\(∀x∈xs,0<=x/\x<2^31)/\0<=n/\n<2147483647) (ck [] _ none ⟨rfl,aj nl _,af,rfl,by simp,a0,a1⟩) (fun i σ H2 hi hP=>?_) (fun σ H2 hP=>?_)⟩⟩
  ·obtain ⟨xs,n,o4,rfl,g,e,hl,hx,n0,n1⟩:=hP;have nb:Bd 31 n:=by unfold Bd;omega
   refine ⟨_,rfl,aI _ _ ⟨rfl,rfl,nb.ok (show Bd 16 48271 by unfold Bd;decide),aI _ _ ⟨rfl,rfl,_,rfl,aI _ _ ⟨rfl,rfl,aI _ _ ⟨rfl,rfl,(by show (2147483647:Int)≠0;decide),?_⟩⟩⟩⟩⟩
   have b0:=EH (n*48271+7919+(0+(i:Int))) (show (0:Int)<2147483647 by decide)
   have b1:=Ec (n*48271+7919+(0+(i:Int))) (show (0:Int)<2147483647 by decide)
   refine ⟨_,rfl,.inl ⟨rfl,_,aH.of e⟩,_,rfl,aI _ _ ⟨rfl,rfl,⟨by decide,Eb (by decide)⟩,ck l _ _ ⟨rfl,rfl,e,(by rw[E5];omega),?_⟩⟩⟩
   refine (ck (xs++ [((n*48271+7919+(0+(i:Int))).fmod 2147483647).fdiv 1009]) _ _ ⟨rfl,oU g nl _,by rw[af,FH];rfl,by simp[hl],fun x hx'=>?_,b0,b1⟩)
   rcases EI.mp hx' with k|k
   ·exact hx x k
   ·rw[EC] at k;subst k;rw[F9 _ (by decide)]
    omega
  ·obtain ⟨xs,n,o4,rfl,g,e,hl,hx,n0,n1⟩:=hP;exact hN _ _ (ck xs n o4 ⟨rfl,g,e,by omega,hx⟩)
 rintro σ H' ⟨xs,n,o4,rfl,g,e,hl,hx⟩;refine ⟨_,rfl,_,rfl,aI l _ ⟨rfl,aH.of e,fun p hp=>?_⟩⟩
 have ec:dy (xs.map V.int) (some 1) none=(xs.drop 1).map V.int:=by
  rw[ug (by rw[E5];omega),List.map_drop]
 rw[ec];exact q p _ (xs.drop 1) (g.trans (aj hp _)) af (by rw[Eo];omega) (fun x hx'=>hx x (List.mem_of_mem_drop hx'))
theorem BY {dV:Value} (F:br K "_law_names" "_law_names" zN dV f fd) (DZ49:Dx P w K mg base a7 1 "_law_stream" ["_law_cell","_law_many"] [] jg):aY P w K mg base a7 2 f fd ["_law_cell"] nI:=by
 have sc:aB ["_law_cell","_law_letters","_law_xs","_law_body","_law_size","_law_at","_law_some","_law_k","_law_sign"] ["_law_cell"] (av zN):=cS (by decide+kernel)
 refine F.ok sc (fun vs H Q E h=>?_) (fun cdv A outer s H vs Q E hr h=>?_)
 ·obtain ⟨_,rfl,_⟩:=h
  rfl
 obtain ⟨c,rfl,q⟩:=h;have s4:(5000:Nat)<=sizeLine:=by decide
 refine ⟨_,(ad (fk (i:=1) sc.nd rfl (Or.inr rfl) aE) (ad (bQ 2 sc (b5 DZ49 hr (@aa _ _ _ _ _ (pv 0) (@aa _ _ _ _ _ ac ae rfl) rfl))) (ad (fk (i:=3) sc.nd rfl (Or.inr rfl) (c6 FI PySem.F.slot_str_join PySem.F.type_str_join qA aE (@aa _ _ _ _ _ (iP (own:= "_law_x") (ys:= ["_law_letters"]) (js:= [1]) rfl (AO (DC AN) (.cons rfl .nil) (by decide) rfl rfl rfl rfl rfl rfl rfl rfl) (gF (cG eB (pv 2) eA (cE ac))) (fun C fp s H=>(ao oH (pv 1) (aw aN (pv 0) ac) (fun _ _=>rfl)))) ae rfl))) (ad (bQ 4 sc (aw bW ac (aw aN (ao ai (pv 2) ac (fun _ _=>rfl)) ac))) (ad (bQ 5 sc (aw aN (ao ai (pv 2) ac (fun _ _=>rfl)) (pv 4))) (ad (aL (ar bF (aw aN (aw bJ (ao ai (pv 2) ac (fun _ _=>rfl)) ac) ac) ac (aA _)) (ah (ax (tO (hd:=none) (own:= "_law_k") (ys:= ["_law_body"]) (js:= [3]) hr.hd (AO (DC AN) (.cons rfl .nil) (by decide) rfl rfl rfl rfl rfl rfl rfl rfl) (rK rfl B.GP (@aa _ _ _ _ _ ac ae rfl)) (fun C fp s H=>(cG oX (pv 1) eA (cE (aw hV ac (aw aN (aw bS ac (pv 0)) ac)))))))) ay) (ad (yj (ar bF (aw aN (aw bJ (ao ai (pv 2) ac (fun _ _=>rfl)) ac) ac) ac (aA _)) (uh (i:=6) sc.nd rfl (Or.inl rfl) (cU (cU (cU (cU (cU (cU (cU (cU (cU (cU (cU (cU we)))))))))))) (ah (ax (aw xT (cG eB (pv 6) (cE (aw aN (aw bJ (ao ai (pv 2) ac (fun _ _=>rfl)) ac) ac)) eA) (cG eB (pv 6) eA (cE (aw aN (aw bJ (ao ai (pv 2) ac (fun _ _=>rfl)) ac) ac))))))) ay) (ad (bQ 6 sc (@bi _ _ _ _ ae)) (ad (eG PassesOwn.never rfl (fL rfl B.GP (@aa _ _ _ _ _ ac ae rfl)) (gh 7 sc) (ad (bQ 8 sc (ao oH (pv 1) (aw aN (aw bW (aw bJ (ao ai (pv 2) ac (fun _ _=>rfl)) ac) (aw bS ac (pv 7))) ac) (fun _ _=>rfl))) (ah (bw (c6 EY EX EW bG (pv 6) (@aa _ _ _ _ _ (aw aD (aw aD (cG oX (pv 3) eA (cE (pv 5))) (pv 8)) (cG oX (pv 3) (cE (aw bW (pv 5) ac)) (cE (pv 4)))) ae rfl)))))) (ah (ax (pv 6)))))))))))),?_⟩
 try dsimp only[cxK]
 refine ⟨_,rfl,aI c 14 ⟨rfl,by decide,by decide,fun l H1 xs g1 e1 xl xp=>?_⟩⟩
 have at_:∀j:Int,0<=j->j<14->∃v:Int,ig (xs.map V.int) j=some (.int v):=fun j j0 j1=>qe j0 (by rw[E5];omega)
 obtain ⟨x12,h12⟩:=at_ 12 (by decide) (by decide)
 obtain ⟨x13,h13⟩:=at_ 13 (by decide) (by decide)
 try dsimp only[aX,a6]
 refine cut (fun σ H'=>aJ H1 H'/\∃body:Str,body.length=12/\Lt body/\σ= [some (.int c),some (.str nG),Iw l,some (.str body),none,none,none,none,none]) (fun N hN=>?_) ?_
 ·refine ⟨rfl,_,rfl,_,rfl,aI l _ ⟨rfl,aH.of e1,fun p hp=>?_⟩⟩
  have cl:(dy (xs.map V.int) none (some 12)).length=12:=by
   have e0:HT.cZ (xs.map V.int).length 0 none=0:=rfl;have e2:HT.cZ (xs.map V.int).length (xs.map V.int).length (some 12)=12:=by
    unfold HT.cZ;rw[E5];simp;omega
   unfold dy;rw[e0,e2,EK,Eo,E5];omega
  have g0:=aj hp (.lst (dy (xs.map V.int) none (some 12)));refine ⟨p,rfl,⟨_,aH.of af⟩,nA (xs:=dy (xs.map V.int) none (some 12)) (fun _ y=>∃z:Str,y= .str z/\z.length=1/\Lt z) (aH.of af) (by omega) (fun x hx H3 g3 Q' hQ=>?_) (fun p2 ys H' np hl ht g' e'=>?_)⟩
  ·obtain ⟨v,rfl⟩:∃v:Int,x= .int v:=by
    have m:=hx;unfold dy at m;have m:=List.mem_of_mem_drop (List.mem_of_mem_take m);obtain ⟨c,_,e⟩:=EO.mp m;exact ⟨c,e.symm⟩
   have ha:=qI (EH v (show (0:Int)<26 by decide)) (Ec v (show (0:Int)<26 by decide))
   exact ⟨_,rfl,_,rfl,aI _ _ ⟨rfl,rfl,(by show (26:Int)≠0;decide),ck nG _ _ ⟨rfl,rfl,by decide,ha,hQ _ _ ⟨_,rfl,rfl,Lt.one (by have h1:=EH v (show (0:Int)<26 by decide);have h2:=Ec v (show (0:Int)<26 by decide);omega)⟩ (.refl _)⟩⟩⟩
  ·obtain ⟨ws,rfl,hw,hwl⟩:=kz (ys:=ys) fun y hy=>by
    obtain ⟨i,hi⟩:=ED.mp hy;have il:=(E8.mp hi).1;exact ht i _ y (E1 (by omega)) hi
   rw[E5] at hl;refine (ck _ p2 ws ⟨rfl,rfl,aH.of e',by decide,by omega,hN _ _ ⟨g0.trans g',_,?_,Lt.tjoin hwl,rfl⟩⟩)
   rw[jf];show _+(ws.length-1)*0=12;omega
 rintro σ H2 ⟨g2,body,bl,bL,rfl⟩;have e2:=g2 _ _ e1;have bz:body.length<=sizeLine:=by omega
 refine ⟨_,rfl,aC l _ _ _ ⟨rfl,rfl,aH.of e2,h12,aI _ _ ⟨rfl,rfl,(by show (12:Int)≠0;decide),aI _ _ ⟨rfl,rfl,?_⟩⟩⟩⟩
 have z0:=EH x12 (show (0:Int)<12 by decide)
 have z1:=Ec x12 (show (0:Int)<12 by decide)
 refine ⟨_,rfl,aC l _ _ _ ⟨rfl,rfl,aH.of e2,h13,_,rfl,aI _ _ ⟨rfl,rfl,by omega,?_⟩⟩⟩
 refine ⟨_,rfl,aC l _ _ _ ⟨rfl,rfl,aH.of e2,h12,aI _ _ ⟨rfl,rfl,⟨by decide,Eb (by decide)⟩,aI _ _ ⟨rfl,rfl,(by show (3:Int)≠0;decide),rfl,_,rfl,lZ (fun _=>?_) (fun _=>?_)⟩⟩⟩⟩
 ·refine ⟨12,rfl,by decide,by decide,?_⟩
  refine vX (n:=12) (fun i y=>y= .str (f7 body none (some (12-(5*(0+(i:Int))).fmod 12)))) oR.no (by omega) (fun i hi H3 g3 Q' hQ=>?_) (fun p ys H' np hl ht g' e'=>?_)
  ·exact ⟨_,rfl,_,rfl,aI _ _ ⟨rfl,rfl,IntMulOk.of_left (by decide),aI _ _ ⟨rfl,rfl,(by show (12:Int)≠0;decide),aI _ _ ⟨rfl,rfl,_,rfl,body,rfl,bz,hQ _ _ rfl (.refl _)⟩⟩⟩⟩
  ·have ey:=uE (g:=fun i=>f7 body none (some (12-(5*(0+(i:Int))).fmod 12))) hl fun i y hy=>ht i y hy
   rw[ey] at e';refine q p _ H' ((g1.trans g2).trans g') e' ⟨by simp,nE fun i j hi hj he=>?_,fun z hz=>?_⟩
   rotate_left
   ·obtain ⟨i,_,rfl⟩:=EO.mp hz;have h1:=EH (5*(0+(i:Int))) (show (0:Int)<12 by decide)
    have h2:=Ec (5*(0+(i:Int))) (show (0:Int)<12 by decide)
    have ci:=lJ (z:=body) (n:=12-(5*(0+(i:Int))).fmod 12) (by omega) (by omega)
    exact (bL.cut _ _).nm (by omega) (by omega)
   have f0:=fun i:Nat=>And.intro (EH (5*(0+(i:Int))) (show (0:Int)<12 by decide)) (Ec (5*(0+(i:Int))) (show (0:Int)<12 by decide))
   have ci:=lJ (z:=body) (n:=12-(5*(0+(i:Int))).fmod 12) (by have:=f0 i;omega) (by have:=f0 i;omega)
   have cj:=lJ (z:=body) (n:=12-(5*(0+(j:Int))).fmod 12) (by have:=f0 j;omega) (by have:=f0 j;omega)
   rw[he] at ci;have:=uD ⟨i,hi⟩ ⟨j,hj⟩ (ci.symm.trans cj);exact congrArg (·.val) this
 dsimp only[aX,a6];refine cut (fun σ H'=>σ= [some (.int c),some (.str nG),Iw l,some (.str body),some (.int (1+x12.fmod 12)),some (.int (x13.fmod (1+x12.fmod 12))),none,none,none]/\H2=H') (fun N hN=>?_) ?_
 ·refine ⟨_,rfl,aC l _ _ _ ⟨rfl,rfl,aH.of e2,h12,aI _ _ ⟨rfl,rfl,⟨by decide,Eb (by decide)⟩,aI _ _ ⟨rfl,rfl,(by show (3:Int)≠0;decide),rfl,_,rfl,lZ (fun _=>?_) (fun _=>hN _ _ ⟨rfl,rfl⟩)⟩⟩⟩⟩
  refine ⟨by show 12<=sizeLine;decide,fun lw nw=>?_⟩
  obtain ⟨j,ej,jl⟩:=r8 (a:=x13.fdiv 12) (n:=12) (by decide)
  have gw:=aj nw (.lst (du.map V.str));have ew:aS H2 lw (.lst (du.map V.str)) lw=some (.lst (du.map V.str)):=af;have ecd:dy (du.map V.str) (some (j:Int)) none=(du.drop j).map V.str:=by rw[ir,<-List.map_drop]
  have ect:dy (du.map V.str) none (some (j:Int))=(du.take j).map V.str:=by rw[L2.uj (by rw[E5,fY.len];omega),<-List.map_take]
  have lj:(du.drop j).length<=12/\(du.take j).length<=12:=⟨by rw[Eo,fY.len];omega,by rw[EK,fY.len];omega⟩
  refine ⟨_,rfl,_,rfl,aC l _ _ _ ⟨rfl,rfl,aH.of (gw _ _ e2),h13,aI _ _ ⟨rfl,rfl,⟨by decide,Eb (by decide)⟩,aI _ _ ⟨rfl,rfl,(by show (12:Int)≠0;decide),?_⟩⟩⟩⟩
  dsimp only;rw[ej];refine ⟨_,rfl,aI lw _ ⟨rfl,aH.of ew,fun s1 ns1=>?_⟩⟩
  rw[ecd];have g3:=aj ns1 (.lst ((du.drop j).map V.str));refine ⟨_,rfl,_,rfl,aC l _ _ _ ⟨rfl,rfl,aH.of (g3 _ _ (gw _ _ e2)),h13,aI _ _ ⟨rfl,rfl,⟨by decide,Eb (by decide)⟩,aI _ _ ⟨rfl,rfl,(by show (12:Int)≠0;decide),?_⟩⟩⟩⟩
  dsimp only;rw[ej];refine ⟨_,rfl,aI lw _ ⟨rfl,aH.of (g3 _ _ ew),fun s2 ns2=>?_⟩⟩
  rw[ect];have g4:=aj ns2 (.lst ((du.take j).map V.str));refine (aC s1 s2 _ _ ⟨rfl,rfl,g4 _ _ af,af,(by rw[E5,E5];omega),fun s3 ns3=>?_⟩)
  refine q s3 _ _ ((((g1.trans g2).trans gw).trans g3).trans (g4.trans (aj ns3 _))) ?_ (fY.turn j);rw[af,FH]
 rintro σ _ ⟨rfl,rfl⟩;refine ⟨by show 0<=sizeLine;decide,fun ls ns=>?_⟩
 have g3:=g2.trans (aj ns (.lst []));try dsimp only[aX,a6]
 obtain ⟨nmA,enA⟩:∃g:Nat->Str,g=fun k:Nat=>f7 body none (some (x13.fmod (1+x12.fmod 12)))++(⟨#[97+((x13.fdiv 12+5*(0+(k:Int))).fmod 26).toNat]⟩:Str)++f7 body (some (x13.fmod (1+x12.fmod 12)+1)) (some (1+x12.fmod 12)):=⟨_,rfl⟩
 have c1:=EV (fv body none (some (x13.fmod (1+x12.fmod 12)))) (Nat.le_of_eq bl);have c2:=EV (fv body (some (x13.fmod (1+x12.fmod 12)+1)) (some (1+x12.fmod 12))) (Nat.le_of_eq bl);have one:∀c:Nat,(⟨#[c]⟩:Str).length=1:=fun _=>rfl
 refine cut (fun σ H'=>aJ H1 H'/\H' ls=some (.lst (((FG 12).map nmA).map V.str))/\∃o7 o8:Option V,σ= [some (.int c),some (.str nG),Iw l,some (.str body),some (.int (1+x12.fmod 12)),some (.int (x13.fmod (1+x12.fmod 12))),Iw ls,o7,o8]) (fun N hN=>?_) ?_
 ·refine ⟨12,rfl,by decide,by decide,fM (n:=12) (fun i σ H'=>aJ H1 H'/\H' ls=some (.lst (((FG i).map nmA).map V.str))/\∃o7 o8:Option V,σ= [some (.int c),some (.str nG),Iw l,some (.str body),some (.int (1+x12.fmod 12)),some (.int (x13.fmod (1+x12.fmod 12))),Iw ls,o7,o8]) ⟨g3,af,aI none none rfl⟩ (fun i σ H4 hi hP=>?_) (fun σ H4 hP=>hN _ _ hP)⟩
  obtain ⟨g4,els,o7,o8,rfl⟩:=hP;have ha:=qI (EH (x13.fdiv 12+5*(0+(i:Int))) (show (0:Int)<26 by decide)) (Ec (x13.fdiv 12+5*(0+(i:Int))) (show (0:Int)<26 by decide))
  refine ⟨_,rfl,_,rfl,aC l _ _ _ ⟨rfl,rfl,aH.of (g4 _ _ e1),h13,aI _ _ ⟨rfl,rfl,⟨by decide,Eb (by decide)⟩,_,rfl,aI _ _ ⟨rfl,rfl,IntMulOk.of_left (by decide),aI _ _ ⟨rfl,rfl,aI _ _ ⟨rfl,rfl,(by show (26:Int)≠0;decide),ck nG _ _ ⟨rfl,rfl,by decide,ha,?_⟩⟩⟩⟩⟩⟩⟩
  refine ⟨_,rfl,.inl ⟨rfl,_,aH.of els⟩,_,rfl,_,rfl,_,rfl,body,rfl,bz,_,rfl,aI _ _ ⟨rfl,rfl,(by rw[one];omega),_,rfl,_,rfl,aI _ _ ⟨rfl,rfl,_,rfl,_,rfl,_,rfl,body,rfl,bz,aI _ _ ⟨rfl,rfl,(by rw[Str.length_append,one];omega),ls,_,_,rfl,rfl,els,(by simp;omega),?_⟩⟩⟩⟩
  refine ⟨oU g4 (g2.free ns) _,?_,aI _ _ rfl⟩;rw[af,List.range_succ,FH,FH,enA]
  rfl
 rintro σ H4 ⟨g4,els,o7,o8,rfl⟩;refine ⟨_,rfl,q ls _ H4 (g1.trans g4) els ⟨by simp,nE fun i j hi hj he=>?_,fun z hz=>?_⟩⟩
 rotate_left
 ·obtain ⟨i,_,rfl⟩:=EO.mp hz;rw[enA];have a0:=EH x13 (show (0:Int)<1+x12.fmod 12 by omega)
  have a1:=Ec x13 (show (0:Int)<1+x12.fmod 12 by omega)
  have n1:=EH (x13.fdiv 12+5*(0+(i:Int))) (show (0:Int)<26 by decide)
  have n2:=Ec (x13.fdiv 12+5*(0+(i:Int))) (show (0:Int)<26 by decide)
  refine (((bL.cut _ _).app (Lt.one (by omega))).app (bL.cut _ _)).nm ?_ ?_
  ·rw[Str.length_append,Str.length_append,one];omega
  ·rw[Str.length_append,Str.length_append,one,wp a0,uO (by omega) (by omega),bl];omega
 rw[enA] at he;have he':=congrArg sL he;rw[bO,bO,bO,bO,ph,ph,bx,bx,Es,Es] at he';have h1:=List.append_cancel_left he';have h2:97+((x13.fdiv 12+5*(0+(i:Int))).fmod 26).toNat=97+((x13.fdiv 12+5*(0+(j:Int))).fmod 26).toNat:=by
  injection h1
 have n1:=EH (x13.fdiv 12+5*(0+(i:Int))) (show (0:Int)<26 by decide)
 have n2:=EH (x13.fdiv 12+5*(0+(j:Int))) (show (0:Int)<26 by decide)
 have h3:(x13.fdiv 12+5*(0+(i:Int))).fmod 26=(x13.fdiv 12+5*(0+(j:Int))).fmod 26:=by omega
 rw[Int.fmod_eq_emod_of_nonneg _ (by decide),Int.fmod_eq_emod_of_nonneg _ (by decide)] at h3
 generalize x13.fdiv 12=X at h3;omega
theorem BZ {dV:Value} (F:br K "_law_amount" "_law_amount" zO dV f fd) (DZ48:Dx P w K mg base a7 1 "_law_common" ["_law_one","_law_other"] [] uq):aY P w K mg base a7 2 f fd ["_law_a","_law_b"] pC:=by
 have sc:aB ["_law_a","_law_b","_law_whole_here","_law_bottom","_law_top","_law_share"] ["_law_a","_law_b"] (av zO):=cS (by decide+kernel)
 refine F.ok sc (fun vs H Q E h=>?_) (fun cdv A outer s H vs Q E hr h=>?_)
 ·obtain ⟨_,_,rfl,_⟩:=h
  rfl
 obtain ⟨a,b,rfl,a0,a1,b0,q⟩:=h;refine ⟨_,(ad (bQ 2 sc (aw bW ac (aw aN (aw bJ (pv 0) ac) (ao ai (@bi _ _ _ _ (@aa _ _ _ _ _ ac (@aa _ _ _ _ _ ac (@aa _ _ _ _ _ ac (@aa _ _ _ _ _ ac (@aa _ _ _ _ _ ac ae rfl) rfl) rfl) rfl) rfl)) (aw aN (pv 1) ac) (fun _ _=>rfl))))) (ad (aL (ar bF (aw aN (pv 1) ac) ac (aA _)) (ah (bQ 2 sc (aw bW (aw vP ac ac) (pv 0)))) ay) (ad (bQ 3 sc (aw bW ac (aw aN (pv 1) (ao ai (@bi _ _ _ _ (@aa _ _ _ _ _ ac (@aa _ _ _ _ _ ac (@aa _ _ _ _ _ ac ae rfl) rfl) rfl)) (aw aN (aw bJ (pv 1) ac) ac) (fun _ _=>rfl))))) (ad (bQ 4 sc (aw bW ac (aw aN (aw bJ (pv 1) ac) (aw hV (pv 3) ac)))) (ad (bQ 5 sc (b5 DZ48 hr (@aa _ _ _ _ _ (pv 3) (@aa _ _ _ _ _ (pv 4) ae rfl) rfl))) (ad (bQ 4 sc (aw bJ (pv 4) (pv 5))) (ad (bQ 3 sc (aw bJ (pv 3) (pv 5))) (ad (aL (ar bF (aw aN (pv 0) ac) ac (aA _)) (ah (ax (@bI _ _ _ _ _ (@aa _ _ _ _ _ (@bI _ _ _ _ _ (@aa _ _ _ _ _ (pv 2) (@aa _ _ _ _ _ ac ae rfl) rfl)) (@aa _ _ _ _ _ (bv bh rfl B.Gu boot_str (@aa _ _ _ _ _ (pv 2) ae rfl)) ae rfl) rfl)))) ay) (ad (aL (ar bF (aw aN (pv 0) ac) ac (aA _)) (ah (ax (@bI _ _ _ _ _ (@aa _ _ _ _ _ (@bI _ _ _ _ _ (@aa _ _ _ _ _ (pv 4) (@aa _ _ _ _ _ (pv 3) ae rfl) rfl)) (@aa _ _ _ _ _ (aw aD (aw aD (bv bh rfl B.Gu boot_str (@aa _ _ _ _ _ (pv 4) ae rfl)) aE) (bv bh rfl B.Gu boot_str (@aa _ _ _ _ _ (pv 3) ae rfl))) ae rfl) rfl)))) ay) (ah (ax (@bI _ _ _ _ _ (@aa _ _ _ _ _ (@bI _ _ _ _ _ (@aa _ _ _ _ _ (aw bW (aw bS (pv 2) (pv 3)) (pv 4)) (@aa _ _ _ _ _ (pv 3) ae rfl) rfl)) (@aa _ _ _ _ _ (aw aD (aw aD (aw aD (aw aD (bv bh rfl B.Gu boot_str (@aa _ _ _ _ _ (pv 2) ae rfl)) aE) (bv bh rfl B.Gu boot_str (@aa _ _ _ _ _ (pv 4) ae rfl))) aE) (bv bh rfl B.Gu boot_str (@aa _ _ _ _ _ (pv 3) ae rfl))) ae rfl) rfl))))))))))))),?_⟩
 try dsimp only[cxK]
 have sl:sizeLine=16777216:=sizeLine_eq;have m5:=fm (a:=b) (n:=5) (by decide)
 refine cut (fun σ H'=>∃w:Nat,σ= [some (.int a),some (.int b),some (vN w),none,none,none]/\aJ H H'/\1<=w/\w<=5000) (fun N hN=>?_) ?_
 ·refine ⟨_,rfl,aI _ _ ⟨rfl,rfl,⟨by decide,Eb (by decide)⟩,by show 5<=sizeLine;decide,fun l5 n5=>⟨_,rfl,aI _ _ ⟨rfl,rfl,(by show (5:Int)≠0;decide),?_⟩⟩⟩⟩
  obtain ⟨v,hv,v0⟩:∃v:Int,ig [V.int 9,.int 9,.int 9,.int 9,.int 5000] (b.fmod 5)=some (.int v)/\(v=9∨v=5000):=by
   obtain ⟨j,ej,jl⟩:=r8 (a:=b) (n:=5) (by decide)
   rw[ej];have jl:j<5:=by omega
   match j,jl with
   |0,_=>exact ⟨9,rfl,.inl rfl⟩
   |1,_=>exact ⟨9,rfl,.inl rfl⟩
   |2,_=>exact ⟨9,rfl,.inl rfl⟩
   |3,_=>exact ⟨9,rfl,.inl rfl⟩
   |4,_=>exact ⟨5000,rfl,.inr rfl⟩
  have m:=fm (a:=a.fdiv 3) (n:=v) (by omega)
  refine (aC l5 _ _ _ ⟨rfl,rfl,aH.of af,hv,aI _ _ ⟨rfl,rfl,by omega,aI _ _ ⟨rfl,rfl,hN _ _ ⟨(1+(a.fdiv 3).fmod v).toNat,?_,aj n5 _,by omega,by omega⟩⟩⟩⟩)
  show [some (.int a),some (.int b),some (V.int (1+(a.fdiv 3).fmod v)),none,none,none]=_;rw[show vN (1+(a.fdiv 3).fmod v).toNat=V.int (1+(a.fdiv 3).fmod v) from congrArg V.int (by omega)]
 rintro σ H1 ⟨w0,rfl,g1,w1,w5⟩;refine cut (fun σ H'=>∃w:Nat,σ= [some (.int a),some (.int b),some (vN w),none,none,none]/\H1=H'/\1<=w/\w<10^30) (fun N hN=>?_) ?_
 ·refine ⟨_,rfl,aI _ _ ⟨rfl,rfl,(by show (5:Int)≠0;decide),rfl,_,rfl,lZ (fun _=>?_) fun _=>hN _ _ ⟨w0,rfl,rfl,w1,Ef w5 (by decide+kernel)⟩⟩⟩
  have e29:(10:Int)^(29:Int).toNat=100000000000000000000000000000:=by decide
  have e30:(10:Nat)^30=1000000000000000000000000000000:=by decide+kernel
  refine (aI _ _ ⟨rfl,rfl,⟨by decide,by decide⟩,_,rfl,aI _ _ ⟨rfl,rfl,hN _ _ ⟨(100000000000000000000000000000+a).toNat,?_,rfl,by omega,by omega⟩⟩⟩)
  show [some (.int a),some (.int b),some (V.int ((10:Int)^(29:Int).toNat+a)),none,none,none]=_;rw[e29,show vN (100000000000000000000000000000+a).toNat=V.int (100000000000000000000000000000+a) from congrArg V.int (by omega)]
 rintro σ H2 ⟨w,rfl,rfl,wl1,wl⟩;clear w1 w5;refine cut (fun σ H'=>∃y:Nat,σ= [some (.int a),some (.int b),some (vN w),some (vN y),none,none]/\aJ H H'/\2<=y/\y<1000) (fun N hN=>?_) ?_
 ·refine ⟨_,rfl,by show 3<=sizeLine;decide,fun l3 n3=>⟨_,rfl,aI _ _ ⟨rfl,rfl,⟨by decide,Eb (by decide)⟩,aI _ _ ⟨rfl,rfl,(by show (3:Int)≠0;decide),?_⟩⟩⟩⟩
  obtain ⟨v,hv,v0⟩:∃v:Int,ig [V.int 11,.int 11,.int 997] ((b.fdiv 5).fmod 3)=some (.int v)/\(v=11∨v=997):=by
   obtain ⟨j,ej,jl⟩:=r8 (a:=b.fdiv 5) (n:=3) (by decide)
   rw[ej];have jl:j<3:=by omega
   match j,jl with
   |0,_=>exact ⟨11,rfl,.inl rfl⟩
   |1,_=>exact ⟨11,rfl,.inl rfl⟩
   |2,_=>exact ⟨997,rfl,.inr rfl⟩
  have m:=fm (a:=b) (n:=v) (by omega)
  refine (aC l3 _ _ _ ⟨rfl,rfl,aH.of af,hv,aI _ _ ⟨rfl,rfl,by omega,aI _ _ ⟨rfl,rfl,hN _ _ ⟨(2+b.fmod v).toNat,?_,g1.trans (aj n3 _),by omega,by omega⟩⟩⟩⟩)
  show [some (.int a),some (.int b),some (vN w),some (V.int (2+b.fmod v)),none,none]=_;rw[show vN (2+b.fmod v).toNat=V.int (2+b.fmod v) from congrArg V.int (by omega)]
 rintro σ H2 ⟨y,rfl,g2,y2,yl⟩;clear g1;have m:=fm (a:=b.fdiv 11) (n:=(y:Int)-1) (by omega)
 refine ⟨_,rfl,aI _ _ ⟨rfl,rfl,⟨by decide,Eb (by decide)⟩,_,rfl,aI _ _ ⟨rfl,rfl,aI _ _ ⟨rfl,rfl,by omega,aI _ _ ⟨rfl,rfl,?_⟩⟩⟩⟩⟩
 dsimp only[aX,a6];obtain ⟨x,ex⟩:∃x:Nat,1+(b.fdiv 11).fmod ((y:Int)-1)=(x:Int):=⟨(1+(b.fdiv 11).fmod ((y:Int)-1)).toNat,by omega⟩
 rw[ex];refine DE (wC (x:=x) (y:=y) (by omega) (by omega) yl) fun t b' c _hi=>?_
 refine yu _hi fun hc c0 e1 e2 t0 lt gc b9 c9=>?_
 have c9':(c:Int)≠0:=by omega
 refine ⟨_,rfl,_,rfl,aI _ _ ⟨rfl,by omega,by omega,?_⟩⟩
 rw[hc];refine ⟨_,rfl,_,rfl,aI _ _ ⟨rfl,rfl,⟨c9',Eb (by omega)⟩,?_⟩⟩
 refine ⟨_,rfl,_,rfl,aI _ _ ⟨rfl,rfl,⟨c9',Eb (by omega)⟩,?_⟩⟩
 dsimp only[aX,a6];rw[e1,e2];have lgw:(w:Int).natAbs.log2<1920:=lg (ET wl (by decide+kernel))
 have lgt:(t:Int).natAbs.log2<1920:=lg (ET (ET lt b9) (by decide+kernel))
 have lgb:(b':Int).natAbs.log2<1920:=lg (ET b9 (by decide+kernel))
 have lw:=dD (n:=w) (k:=29) wl;have l1:=dD (n:=t) (k:=2) (by omega)
 have l2:=dD (n:=b') (k:=2) (by omega)
 have nl:∀n:Nat,(bK n).length=(dg n).length:=fun n=>cr _
 have ls:(Str.ofString "/").length=1:=by decide
 have lp:(Str.ofString "+").length=1:=by decide
 refine ⟨_,rfl,aI _ _ ⟨rfl,rfl,(by show (3:Int)≠0;decide),rfl,_,rfl,lZ (fun _=>?_) fun _=>⟨_,rfl,aI _ _ ⟨rfl,rfl,(by show (3:Int)≠0;decide),rfl,_,rfl,lZ (fun _=>?_) fun _=>?_⟩⟩⟩⟩
 ·refine ⟨_,rfl,by show 2<=sizeLine;decide,fun ta na=>⟨_,rfl,_,rfl,lgw,?_⟩⟩
  rw[eE];obtain ⟨ag,et⟩:=A7 (w:=w) (by omega) wl
  refine ⟨by show 2<=sizeLine;decide,fun tt nt=>q (w,1) tt ta _ ((g2.trans (aj na _)).trans (aj nt _)) (by rw[af,et]) (aj nt _ _ _ af) ag⟩
 ·refine ⟨_,rfl,_,rfl,by show 2<=sizeLine;decide,fun ta na=>⟨_,rfl,_,rfl,lgt,?_⟩⟩
  rw[eE];refine (aI _ _ ⟨rfl,rfl,(by rw[nl];omega),_,rfl,_,rfl,lgb,?_⟩)
  rw[eE];obtain ⟨ag,et⟩:=yB t0 lt gc b9;exact (aI _ _ ⟨rfl,rfl,(by rw[Str.length_append,nl,nl];omega),by show 2<=sizeLine;decide,fun tt nt=>q (t,b') tt ta _ ((g2.trans (aj na _)).trans (aj nt _)) (by rw[af,et]) (aj nt _ _ _ af) ag⟩)
 ·have e3:(w:Int)*(b':Int)+(t:Int)=((w*b'+t:Nat):Int):=by simp
  refine ⟨_,rfl,_,rfl,aI _ _ ⟨rfl,rfl,?_,_,rfl,aI _ _ ⟨rfl,rfl,_,rfl,by show 2<=sizeLine;decide,fun ta na=>⟨_,rfl,_,rfl,lgw,?_⟩⟩⟩⟩
  ·exact (Ck (k:=140) (ET wl (by decide+kernel))).ok (Ck (k:=140) (ET b9 (by decide+kernel)))
  dsimp only at na⊢;rw[eE];refine (aI _ _ ⟨rfl,rfl,(by rw[nl];omega),_,rfl,_,rfl,lgt,?_⟩)
  rw[eE];refine (aI _ _ ⟨rfl,rfl,(by rw[Str.length_append,nl,nl];omega),aI _ _ ⟨rfl,rfl,(by rw[Str.length_append,Str.length_append,nl,nl];omega),_,rfl,_,rfl,lgb,?_⟩⟩)
  rw[eE];obtain ⟨ag,et⟩:=wB (w:=w) (by omega) wl t0 lt gc b9
  refine (aI _ _ ⟨rfl,rfl,(by rw[Str.length_append,Str.length_append,Str.length_append,nl,nl,nl];omega),by show 2<=sizeLine;decide,fun tt nt=>q (w*b'+t,b') tt ta _ ((g2.trans (aj na _)).trans (aj nt _)) (by rw[af,et]) (aj nt _ _ _ ?_) ag⟩)
  rw[af,e3]
  rfl
theorem B0 {dV:Value} (F:br K "_law_lengths" "_law_lengths" zP dV f fd):aY P w K mg base a7 1 f fd ["_law_a","_law_b"] pB:=by
 have sc:aB ["_law_a","_law_b","_law_least"] ["_law_a","_law_b"] (av zP):=cS (by decide+kernel)
 refine F.ok sc (fun vs H Q E h=>?_) (fun cdv A outer s H vs Q E hr h=>?_)
 ·obtain ⟨_,_,rfl,_⟩:=h
  rfl
 obtain ⟨a,b,rfl,a0,b0,q⟩:=h;refine ⟨_,(ad (bQ 2 sc (aw bW ac (aw aN (pv 0) ac))) (ad (aL (ar bF (aw aN (pv 1) ac) ac (aA _)) (ah (bQ 2 sc (aw bW ac (aw aN (pv 0) ac)))) ay) (ad (aL (ar bF (aw aN (pv 1) ac) ac (aA _)) (ah (ax (@bi _ _ _ _ (@aa _ _ _ _ _ (pv 2) (@aa _ _ _ _ _ ac ae rfl) rfl)))) ay) (ah (ax (@bi _ _ _ _ (@aa _ _ _ _ _ (pv 2) (@aa _ _ _ _ _ (aw bW (pv 2) (aw aN (aw bJ (pv 1) ac) (aw hV ac (pv 2)))) ae rfl) rfl))))))),?_⟩;try dsimp only[cxK]
 have m9:=fm (a:=a) (n:=9) (by decide)
 have mL:=fm (a:=a) (n:=100000) (by decide)
 refine ⟨_,rfl,aI _ _ ⟨rfl,rfl,(by show (9:Int)≠0;decide),aI _ _ ⟨rfl,rfl,?_⟩⟩⟩
 dsimp only[aX,a6];refine cut (fun σ H'=>∃lo:Nat,σ= [some (.int a),some (.int b),some (vN lo)]/\H=H'/\1<=lo/\lo<=100000) (fun N hN=>?_) ?_
 ·refine ⟨_,rfl,aI _ _ ⟨rfl,rfl,(by show (3:Int)≠0;decide),rfl,_,rfl,lZ (fun _=>?_) fun _=>hN _ _ ⟨(1+a.fmod 9).toNat,?_,rfl,by omega,by omega⟩⟩⟩
  ·refine ⟨_,rfl,aI _ _ ⟨rfl,rfl,(by show (100000:Int)≠0;decide),aI _ _ ⟨rfl,rfl,hN _ _ ⟨(1+a.fmod 100000).toNat,?_,rfl,by omega,by omega⟩⟩⟩⟩
   show [some (V.int a),some (V.int b),some (V.int (1+a.fmod 100000))]=_;rw[show vN (1+a.fmod 100000).toNat=V.int (1+a.fmod 100000) from congrArg V.int (by omega)]
  ·show [some (V.int a),some (V.int b),some (V.int (1+a.fmod 9))]=_;rw[show vN (1+a.fmod 9).toNat=V.int (1+a.fmod 9) from congrArg V.int (by omega)]
 rintro σ H' ⟨lo,rfl,rfl,l1,l5⟩;refine cut (fun σ H'=>σ= [some (.int a),some (.int b),some (vN lo)]/\H=H') (fun N hN=>?_) ?_
 ·refine ⟨_,rfl,aI _ _ ⟨rfl,rfl,(by show (5:Int)≠0;decide),rfl,_,rfl,lZ (fun _=>?_) fun _=>hN _ _ ⟨rfl,rfl⟩⟩⟩
  exact ⟨_,rfl,by show 2<=sizeLine;decide,fun l nl=>q lo 100000 l _ (aj nl _) nl af ⟨l1,l5,EB _⟩⟩
 rintro σ H' ⟨rfl,rfl⟩;have m:=fm (a:=b.fdiv 3) (n:=100001-(lo:Int)) (by omega)
 refine ⟨_,rfl,_,rfl,_,rfl,aI _ _ ⟨rfl,rfl,⟨by decide,Eb (by decide)⟩,_,rfl,aI _ _ ⟨rfl,rfl,aI _ _ ⟨rfl,rfl,by omega,aI _ _ ⟨rfl,rfl,by show 2<=sizeLine;decide,fun l nl=>?_⟩⟩⟩⟩⟩
 have e:(lo:Int)+(b.fdiv 3).fmod (100001-(lo:Int))=((lo+((b.fdiv 3).fmod (100001-(lo:Int))).toNat:Nat):Int):=by omega
 dsimp only;rw[e];exact q lo _ l _ (aj nl _) nl af ⟨l1,by omega,by omega⟩
theorem B1 {dV:Value} (F:br K "_law_take" "_law_take" zQ dV f fd) (DZ51:Dx P w K mg base a7 2 "_law_amount" ["_law_a","_law_b"] [] pC):aY P w K mg base a7 3 f fd ["_law_model","_law_names_here","_law_xs"] qO:=by
 have sc:aB ["_law_model","_law_names_here","_law_xs","_law_good","_law_amount_here","_law_text"] ["_law_model","_law_names_here","_law_xs"] (av zQ):=cS (by decide+kernel)
 refine F.ok sc (fun vs H Q E h=>?_) (fun cdv A outer s H vs Q E hr h=>?_)
 ·obtain ⟨_,_,_,_,_,_,_,_,_,_,_,rfl,_⟩:=h
  rfl
 refine ku h fun G m lt ls lk ln lx ks M _hi=>?_
 refine vq _hi fun zs room _hj=>?_
 refine jC _hj fun _r1 ml ok en zz _hk=>?_
 refine kv _hk fun hx q=>?_
 clear h _hi _hj _hk;subst _r1;refine ⟨_,(ad (aL (ar bF (aK aV rfl B.Go boot_len (@aa _ _ _ _ _ (ao ai (pv 0) ac (fun _ _=>rfl)) ae rfl)) ac (aA _)) (ah (ax aE)) ay) (ad (bQ 3 sc (ao ai (pv 1) (aw aN (aw bW (aw bS ac (aK aV rfl B.Go boot_len (@aa _ _ _ _ _ (ao ai (pv 0) ac (fun _ _=>rfl)) ae rfl))) ac) ac) (fun _ _=>rfl))) (ad (hU (b5 DZ51 hr (@aa _ _ _ _ _ (ao ai (pv 2) ac (fun _ _=>rfl)) (@aa _ _ _ _ _ (ao ai (pv 2) ac (fun _ _=>rfl)) ae rfl) rfl)) (iW rfl (bo (gh 4 sc) (bo (gh 5 sc) dY)))) (ad (bw (c6 EY EX EW bG (ao ai (pv 0) ac (fun _ _=>rfl)) (@aa _ _ _ _ _ (@bI _ _ _ _ _ (@aa _ _ _ _ _ (pv 3) (@aa _ _ _ _ _ (pv 4) ae rfl) rfl)) ae rfl))) (ah (ax (aw aD (aw aD (aw aD aE (pv 3)) aE) (pv 5)))))))),?_⟩
 try dsimp only[cxK]
 have sl:sizeLine=16777216:=sizeLine_eq;obtain ⟨vt,et,rt⟩:=id ml.et;have lvt:=rt.1;obtain ⟨xs,ex,hxs⟩:=hx.at_;obtain ⟨x1,hx1,x10,x11⟩:=hxs 1 (by decide)
 obtain ⟨x2,hx2,x20,x21⟩:=hxs 2 (by decide)
 refine cut (fun σ H'=>σ= [Iw m,Iw ln,Iw lx,none,none,none]/\H=H'/\M.takes.length<12) (fun N hN=>?_) ?_
 ·refine ⟨_,rfl,aC m _ _ _ ⟨rfl,rfl,aH.of ml.em,rfl,aI lt _ ⟨rfl,.inl (aH.of et),rfl,_,rfl,lZ (fun _=>q "" ks M H ml ok (.inl ⟨rfl,rfl⟩)) fun c=>hN _ _ ⟨rfl,rfl,?_⟩⟩⟩⟩
  have:=ok.t12;omega
 rintro σ H' ⟨rfl,rfl,t12⟩;have ei:=yE (5*(vt.length:Int)+1) (5*M.takes.length+1) (by omega)
 obtain ⟨g,hg,ng⟩:=zz.at_ (i:=(5*M.takes.length+1) % 12) (by omega)
 have gl:=ng.len;refine ⟨_,rfl,_,rfl,aC m _ _ _ ⟨rfl,rfl,aH.of ml.em,rfl,aI lt _ ⟨rfl,.inl (aH.of et),aI _ _ ⟨rfl,rfl,IntMulOk.of_left (by decide),aI _ _ ⟨rfl,rfl,aI _ _ ⟨rfl,rfl,(by show (12:Int)≠0;decide),aC ln _ _ _ ⟨rfl,rfl,aH.of en,(by rw[ei];exact nL hg),?_⟩⟩⟩⟩⟩⟩⟩
 dsimp only[aX,a6];refine ⟨_,rfl,aC lx _ _ _ ⟨rfl,rfl,aH.of ex,hx1,_,rfl,aC lx _ _ _ ⟨rfl,rfl,aH.of ex,hx2,aI _ _ ⟨rfl,x10,x11,x20,fun am t ta H1 g1 e1 e2 ag=>?_⟩⟩⟩⟩
 refine (aI _ _ ⟨rfl,bZ.of e1,rfl,aI _ _ ⟨rfl,aI _ _ ⟨rfl,rfl,?_⟩⟩⟩);have al:=lO ag;have ml1:=ml.same g1;dsimp only[aX,a6];refine ⟨_,rfl,aC m _ _ _ ⟨rfl,rfl,aH.of ml1.em,rfl,.inl ⟨rfl,_,aH.of (g1 _ _ et)⟩,_,rfl,_,rfl,by show 2<=sizeLine;decide,fun tp ntp=>?_⟩⟩
 have g2:=aj ntp (.tup [.str g,.ref ta]);have ml2:=ml1.same g2;have e12:=g2 _ _ (g1 _ _ et);refine (ck lt _ _ ⟨rfl,rfl,e12,by omega,?_⟩)
 have ml3:=ml2.take (v:= .ref tp) (x:=(g,am)) e12 (aI tp ta ⟨rfl,trivial,trivial,af,g2 _ _ e2⟩);have l5:(Str.ofString "take ").length=5:=by decide
 have l1:(Str.ofString " ").length=1:=by decide
 refine ⟨_,rfl,aI _ _ ⟨rfl,rfl,by omega,aI _ _ ⟨rfl,rfl,(by rw[Str.length_append];omega),_,rfl,aI _ _ ⟨rfl,rfl,(by rw[Str.length_append,Str.length_append];omega),?_⟩⟩⟩⟩
 rw[uP];exact q _ _ _ _ ml3 (ok.take hg t12 ag) (.inr ⟨.take g am,rfl,⟨ng,ag⟩,D4 ok zz hg t12⟩)
theorem B2 {dV:Value} (F:br K "_law_step" "_law_step" zR dV f fd) (DZ51:Dx P w K mg base a7 2 "_law_amount" ["_law_a","_law_b"] [] pC) (DZ52:Dx P w K mg base a7 1 "_law_lengths" ["_law_a","_law_b"] [] pB):aY P w K mg base a7 3 f fd ["_law_model","_law_names_here","_law_xs","_law_room"] lS:=by
 have sc:aB ["_law_model","_law_names_here","_law_xs","_law_room","_law_word","_law_name","_law_lengths_here","_law_row_here","_law_fill","_law_text"] ["_law_model","_law_names_here","_law_xs","_law_room"] (av zR):=cS (by decide+kernel)
 refine F.ok sc (fun vs H Q E h=>?_) (fun cdv A outer s H vs Q E hr h=>?_)
 ·obtain ⟨_,_,_,_,_,_,_,_,_,_,_,rfl,_⟩:=h
  rfl
 refine ku h fun G m lt ls lk ln lx ks M _hi=>?_
 refine vq _hi fun zs room _hj=>?_
 refine jC _hj fun _r1 r12 ml ok en _hk=>?_
 refine uF _hk fun zz hx q=>?_
 clear h _hi _hj _hk;subst _r1;refine ⟨_,(ad (aL (ar bF (aK aV rfl B.Go boot_len (@aa _ _ _ _ _ (ao ai (pv 0) ac (fun _ _=>rfl)) ae rfl)) (pv 3) (aA _)) (ah (ax aE)) ay) (@ad _ _ _ _ _ (@fk _ _ 4 _ _ _ _ sc.nd rfl (Or.inl rfl) (@ao _ _ _ _ _ _ _ ai (@bi _ _ _ _ (@aa _ _ _ _ _ aE (@aa _ _ _ _ _ aE (@aa _ _ _ _ _ aE ae rfl) rfl) rfl)) (aw aN (ao ai (pv 2) ac (fun _ _=>rfl)) ac) (fun _ _=>rfl)) rfl (Or.inr rfl)) (ad (bQ 5 sc (ao ai (pv 1) (aw aN (aw bS ac (aK aV rfl B.Go boot_len (@aa _ _ _ _ _ (ao ai (pv 0) ac (fun _ _=>rfl)) ae rfl))) ac) (fun _ _=>rfl))) (ad (bQ 6 sc (b5 DZ52 hr (@aa _ _ _ _ _ (ao ai (pv 2) ac (fun _ _=>rfl)) (@aa _ _ _ _ _ (ao ai (pv 2) ac (fun _ _=>rfl)) ae rfl) rfl))) (ad (bQ 7 sc (aw aD (aw aD (aw aD (aw aD (aw aD (aw aD (pv 4) aE) (pv 5)) aE) (bv bh rfl B.Gu boot_str (@aa _ _ _ _ _ (ao ai (pv 6) ac (fun _ _=>rfl)) ae rfl))) aE) (bv bh rfl B.Gu boot_str (@aa _ _ _ _ _ (ao ai (pv 6) ac (fun _ _=>rfl)) ae rfl)))) (ad (bQ 8 sc bj) (ad (aL (ar bF (pv 4) aE (aA _)) (ad (hU (b5 DZ51 hr (@aa _ _ _ _ _ (ao ai (pv 2) ac (fun _ _=>rfl)) (@aa _ _ _ _ _ (ao ai (pv 2) ac (fun _ _=>rfl)) ae rfl) rfl)) (iW rfl (bo (gh 8 sc) (bo (gh 9 sc) dY)))) (ah (bQ 7 sc (aw aD (aw aD (pv 7) aE) (pv 9))))) ay) (ad (bw (c6 EY EX EW bG (ao ai (pv 0) ac (fun _ _=>rfl)) (@aa _ _ _ _ _ (@bi _ _ _ _ (@aa _ _ _ _ _ (pv 4) (@aa _ _ _ _ _ (pv 5) (@aa _ _ _ _ _ (pv 6) (@aa _ _ _ _ _ (pv 8) (@aa _ _ _ _ _ (@bi _ _ _ _ ae) (@aa _ _ _ _ _ bj ae rfl) rfl) rfl) rfl) rfl) rfl)) ae rfl))) (ah (ax (pv 7))))))))))),?_⟩
 try dsimp only[cxK]
 have sl:sizeLine=16777216:=sizeLine_eq;obtain ⟨xs,ex,hxs⟩:=hx.at_;obtain ⟨x1,hx1,x10,x11⟩:=hxs 1 (by decide)
 obtain ⟨x2,hx2,x20,x21⟩:=hxs 2 (by decide)
 obtain ⟨x3,hx3,x30,x31⟩:=hxs 3 (by decide)
 obtain ⟨x4,hx4,x40,x41⟩:=hxs 4 (by decide)
 obtain ⟨x5,hx5,x50,x51⟩:=hxs 5 (by decide)
 have es:=ml.es;have lks:=ml.len;have lkm:(ks.map fun x=>V.ref x.a).length=M.steps.length:=by rw[E5];exact lks
 refine cut (fun σ H'=>σ= [Iw m,Iw ln,Iw lx,some (vN room),none,none,none,none,none,none]/\H=H'/\M.steps.length<room) (fun N hN=>?_) ?_
 ·refine ⟨_,rfl,aC m _ _ _ ⟨rfl,rfl,aH.of ml.em,rfl,aI ls _ ⟨rfl,.inl (aH.of es),_,rfl,rfl,_,rfl,lZ (fun _=>q "" ks M H ml ok (.inl ⟨rfl,rfl⟩)) fun c=>hN _ _ ⟨rfl,rfl,?_⟩⟩⟩⟩
  have:=ok.sr;omega
 rintro σ H' ⟨rfl,rfl,sr⟩;obtain ⟨w,hw,wd⟩:∃w:Str,ig [V.str "cut",.str "rest",.str "warm"] (x1.fmod 3)=some (.str w)/\(w= "cut" ∨w= "rest" ∨w= "warm"):=by
  obtain ⟨j,ej,jl⟩:=r8 (a:=x1) (n:=3) (by decide)
  rw[ej];have jl:j<3:=by omega
  match j,jl with
  |0,_=>exact ⟨"cut",rfl,.inl rfl⟩
  |1,_=>exact ⟨"rest",rfl,.inr (.inl rfl)⟩
  |2,_=>exact ⟨"warm",rfl,.inr (.inr rfl)⟩
 have wl:w.length<=12:=vv.len wd;refine ⟨by show 3<=sizeLine;decide,fun l3 n3=>⟨_,rfl,aC lx _ _ _ ⟨rfl,rfl,aH.of (aj n3 _ _ _ ex),hx1,aI _ _ ⟨rfl,rfl,(by show (3:Int)≠0;decide),aC l3 _ _ _ ⟨rfl,rfl,aH.of af,hw,?_⟩⟩⟩⟩⟩
 have g3:=aj n3 (.lst [.str "cut",.str "rest",.str "warm"]);have ml3:=ml.same g3;have en3:=g3 _ _ en;have ex3:=g3 _ _ ex;generalize aS H l3 (.lst [.str "cut",.str "rest",.str "warm"])=H3 at g3 ml3 en3 ex3⊢;have es3:=ml3.es;have ei:=yE (7*((ks.map fun x=>V.ref x.a).length:Int)) (7*M.steps.length) (by omega)
 obtain ⟨n,hn,nn⟩:=zz.at_ (i:=7*M.steps.length % 12) (by omega)
 have nl:=nn.len;dsimp only[aX,a6];refine ⟨_,rfl,_,rfl,aC m _ _ _ ⟨rfl,rfl,aH.of ml3.em,rfl,aI ls _ ⟨rfl,.inl (aH.of es3),aI _ _ ⟨rfl,rfl,IntMulOk.of_left (by decide),aI _ _ ⟨rfl,rfl,(by show (12:Int)≠0;decide),aC ln _ _ _ ⟨rfl,rfl,aH.of en3,(by rw[ei];exact nL hn),?_⟩⟩⟩⟩⟩⟩
 dsimp only[aX,a6];refine ⟨_,rfl,aC lx _ _ _ ⟨rfl,rfl,aH.of ex3,hx2,_,rfl,aC lx _ _ _ ⟨rfl,rfl,aH.of ex3,hx3,aI _ _ ⟨rfl,x20,x30,fun lo hi ll H4 g4 nll ell le=>?_⟩⟩⟩⟩
 obtain ⟨b1,b2,b3⟩:=id le;have l1:(Str.ofString " ").length=1:=by decide
 have ll1:=cT (n:=lo) (by omega)
 have ll2:=cT (n:=hi) (by omega)
 have ell':H4 ll=some (.lst [vN lo,vN hi]):=ell;dsimp only[aX,a6];refine ⟨_,rfl,aI _ _ ⟨rfl,rfl,by omega,_,rfl,aI _ _ ⟨rfl,rfl,(by rw[Str.length_append];omega),aI _ _ ⟨rfl,rfl,(by simp only[Str.length_append];omega),_,rfl,aC ll _ _ _ ⟨rfl,rfl,aH.of ell',rfl,_,rfl,fD (by omega),?_⟩⟩⟩⟩⟩
 rw[eE];refine (aI _ _ ⟨rfl,rfl,(by simp only[Str.length_append];omega),aI _ _ ⟨rfl,rfl,(by simp only[Str.length_append];omega),_,rfl,aC ll _ _ _ ⟨rfl,rfl,aH.of ell',rfl,_,rfl,fD (by omega),?_⟩⟩⟩)
 rw[eE];refine (aI _ _ ⟨rfl,rfl,(by simp only[Str.length_append];omega),?_⟩)
 rw[C8];have jl:(jB [w,n,bK lo,bK hi]).length<=400:=lT (fun z hz=>by
  simp only[E3,E9,or_false] at hz;rcases hz with rfl|rfl|rfl|rfl<;>omega) (by show 4<=6;decide)
 have ml4:=ml3.same g4;dsimp only[aX,a6];refine cut (fun σ H'=>σ= [some (.ref m),some (.ref ln),some (.ref lx),some (vN room),some (.str w),some (.str n),some (.ref ll),some (.str (jB [w,n,bK lo,bK hi])),some .non,none]/\H4=H') (fun N hN=>hN _ _ ⟨rfl,rfl⟩) ?_
 rintro σ _ ⟨rfl,rfl⟩;refine cut (fun σ H'=>∃(fl:Option dX) (f:V) (o:Option V),σ= [Iw m,Iw ln,Iw lx,some (vN room),some (.str w),some (.str n),Iw ll,some (.str (fb (.step w n lo hi fl))),some f,o]/\aJ H4 H'/\pz w fl/\qN H' f fl) (fun N hN=>?_) ?_
 ·refine ⟨_,rfl,rfl,_,rfl,lL (fun e=>?_) fun e=>hN _ _ (ck none .non none ⟨rfl,.refl _,e,rfl⟩)⟩
  refine ⟨_,rfl,aC lx _ _ _ ⟨rfl,rfl,aH.of (g4 _ _ ex3),hx4,_,rfl,aC lx _ _ _ ⟨rfl,rfl,aH.of (g4 _ _ ex3),hx5,aI _ _ ⟨rfl,x40,x41,x50,fun am t ta H5 g5 e1 e2 ag=>?_⟩⟩⟩⟩
  have al:=lO ag;refine (aI _ _ ⟨rfl,bZ.of e1,rfl,aI _ _ ⟨rfl,aI _ _ ⟨rfl,rfl,?_⟩⟩⟩);dsimp only[aX,a6];refine ⟨_,rfl,aI _ _ ⟨rfl,rfl,(by show (jB [w,n,bK lo,bK hi]).length+1<=_;omega),_,rfl,aI _ _ ⟨rfl,rfl,(by rw[Str.length_append];show (jB [w,n,bK lo,bK hi]).length+1+_<=_;omega),hN _ _ (ck (some am) (.ref ta) (some (.str (kx am))) ⟨?_,g5,⟨e,ag⟩,ta,rfl,e2⟩)⟩⟩⟩
  have cm:=nK (ws:= [w,n,bK lo,bK hi]) (by simp) (kx am)
  show [some (.ref m),some (.ref ln),some (.ref lx),some (vN room),some (.str w),some (.str n),some (.ref ll),some (.str (jB [w,n,bK lo,bK hi]++Str.ofString " " ++kx am)),some (.ref ta),some (.str (kx am))]=_;rw[cm]
  rfl
 rintro σ H5 ⟨fl,f,o,rfl,g5,fo,ff⟩;have ml5:=ml4.same g5;have es5:=ml5.es;refine ⟨_,rfl,aC m _ _ _ ⟨rfl,rfl,aH.of ml5.em,rfl,.inl ⟨rfl,_,aH.of es5⟩,_,rfl,_,rfl,_,rfl,_,rfl,by show 0<=sizeLine;decide,fun u nu=>⟨by show 6<=sizeLine;decide,fun a na=>?_⟩⟩⟩
 have g6:=aj nu (.lst []);have g7:=aj na (.lst [.str w,.str n,.ref ll,f,.ref u,.non]);have g67:=g6.trans g7;have au:a≠u:=fun z=>by rw[z,af] at na;cases na
 have hs:SL (aS (aS H5 u (.lst [])) a (.lst [.str w,.str n,.ref ll,f,.ref u,.non])) ⟨a,u,none⟩ ⟨w,n,lo,hi,fl,[],none⟩:=by
  refine (ck ll f .non ⟨af,g67 _ _ (g5 _ _ ell),?_,⟨[],g7 _ _ af,A2.nil⟩,rfl⟩);cases fl with
  |none=>exact ff
  |some am=>obtain ⟨ta,e1,e2⟩:=ff;exact ⟨ta,e1,g67 _ _ e2⟩
 have ml8:=ml5.step g67 hs (fun x hx=>by
  simp only[Sk.own,cY,E3,E9,or_false] at hx;rcases hx with rfl|rfl
  ·exact g6.free na
  ·exact nu) (by simp[Sk.own,cY,au])
 refine (ck ls _ _ ⟨rfl,rfl,g67 _ _ es5,by omega,⟨_,rfl,q _ _ _ _ ml8 (ok.step sr ⟨hn,wd,le,fo,⟨by simp,fun i x h=>by simp at h⟩,fun x h=>nomatch h⟩) (.inr ⟨.step w n lo hi fl,rfl,⟨wd,nn,le,fo⟩,D5 ok r12 zz hn sr⟩)⟩⟩)
theorem B3 {dV:Value} (F:br K "_law_second" "_law_second" zS dV f fd) (DZ52:Dx P w K mg base a7 1 "_law_lengths" ["_law_a","_law_b"] [] pB):aY P w K mg base a7 2 f fd ["_law_step_here","_law_xs"] ky:=by
 have sc:aB ["_law_step_here","_law_xs","_law_lengths_here"] ["_law_step_here","_law_xs"] (av zS):=cS (by decide+kernel)
 refine F.ok sc (fun vs H Q E h=>?_) (fun cdv A outer s H vs Q E hr h=>?_)
 ·obtain ⟨_,_,_,rfl,_⟩:=h
  rfl
 obtain ⟨⟨a,u,o⟩,⟨w,n,lo,hi,fl,us,sec⟩,lx,rfl,hs,nd,nl,hx,q0,q1⟩:=h;refine ⟨_,(ad (aL (ar iN (ao ai (pv 0) ac (fun _ _=>rfl)) bj (aA _)) (ah (ax aE)) ay) (ad (bQ 2 sc (b5 DZ52 hr (@aa _ _ _ _ _ (ao ai (pv 1) ac (fun _ _=>rfl)) (@aa _ _ _ _ _ (ao ai (pv 1) ac (fun _ _=>rfl)) ae rfl) rfl))) (ad (hU (@bi _ _ _ _ (@aa _ _ _ _ _ (pv 2) (@aa _ _ _ _ _ (@bi _ _ _ _ ae) ae rfl) rfl)) (xM (pv 0) ac set_list)) (ah (ax (aw aD (aw aD (aw aD (aw aD (aw aD aE (ao ai (pv 0) ac (fun _ _=>rfl))) aE) (bv bh rfl B.Gu boot_str (@aa _ _ _ _ _ (ao ai (pv 2) ac (fun _ _=>rfl)) ae rfl))) aE) (bv bh rfl B.Gu boot_str (@aa _ _ _ _ _ (ao ai (pv 2) ac (fun _ _=>rfl)) ae rfl)))))))),?_⟩
 try dsimp only[cxK]
 have sl:sizeLine=16777216:=sizeLine_eq;obtain ⟨xs,ex,hxs⟩:=hx.at_;obtain ⟨x2,hx2,x20,x21⟩:=hxs 2 (by decide)
 obtain ⟨x3,hx3,x30,x31⟩:=hxs 3 (by decide)
 obtain ⟨l,f,v,ea,el,ef,eu,es⟩:=id hs;dsimp only at ea el ef eu es nl nd
 match o,sec,es with
 |some (b,u2),some (lo2,hi2,us2),⟨l2,e1,e2,e3,e4⟩=>
  subst e1;exact ⟨_,rfl,aC a _ _ _ ⟨rfl,rfl,aH.of ea,rfl,rfl,_,rfl,nT (fun z=>nomatch z) (q0 _ (.refl _))⟩⟩
 |none,none,es=>
 have es:v= .non:=es;subst es;refine cut (fun σ H'=>σ= [Iw a,Iw lx,none]/\H=H') (fun N hN=>?_) ?_
 ·exact ⟨_,rfl,aC a _ _ _ ⟨rfl,rfl,aH.of ea,rfl,rfl,_,rfl,nF rfl (hN _ _ ⟨rfl,rfl⟩)⟩⟩
 rintro σ _ ⟨rfl,rfl⟩;refine ⟨_,rfl,aC lx _ _ _ ⟨rfl,rfl,aH.of ex,hx2,_,rfl,aC lx _ _ _ ⟨rfl,rfl,aH.of ex,hx3,aI _ _ ⟨rfl,x20,x30,fun lo2 hi2 ll H1 g1 nll ell le=>?_⟩⟩⟩⟩
 obtain ⟨b1,b2,b3⟩:=id le;have ea1:=g1 _ _ ea;dsimp only[aX,a6];refine ⟨_,rfl,by show 0<=sizeLine;decide,fun u2 nu2=>⟨by show 2<=sizeLine;decide,fun b nb=>?_⟩⟩
 have g2:=aj nu2 (.lst []);have g3:=aj nb (.lst [.ref ll,.ref u2]);have g23:=g2.trans g3;have g13:=g1.trans g23;have eb:aS (aS H1 u2 (.lst [])) b (.lst [.ref ll,.ref u2]) b=some (.lst [.ref ll,.ref u2]):=af;have eu2:aS (aS H1 u2 (.lst [])) b (.lst [.ref ll,.ref u2]) u2=some (.lst []):=g3 _ _ af;have ell3:=g23 _ _ ell;have ub:u2≠b:=fun z=>by rw[<-z,af] at nb;cases nb
 have nb1:=g2.free nb;have ea3:=g23 _ _ ea1;have au2:u2≠a:=fun z=>by rw[z,ea1] at nu2;cases nu2
 have ab:b≠a:=fun z=>by rw[z,ea1] at nb1;cases nb1
 have ellx:ll≠a:=fun z=>by rw[z,ea] at nll;cases nll
 dsimp only[aX,a6];generalize aS (aS H1 u2 (.lst [])) b (.lst [.ref ll,.ref u2])=H3 at g23 g13 eb eu2 ell3 ea3⊢;refine ⟨_,rfl,aC a _ _ 5 ⟨rfl,rfl,ea3,rfl,?_⟩⟩;have hs3:=(lQ g13).sl (fun b hb=>nomatch hb) hs fun b _ z=>nomatch z
 have kp:Kp [a] H3 (aS H3 a (.lst [.str w,.str n,.ref l,f,.ref u,.ref b])):=(Kp.refl [a] H3).put (x:=a) (EC.mpr rfl) _;have fq:Fq [a] H3:=gB ⟨_,ea3,fun i j z=>by simp at z⟩
 have ua:u≠a:=fun z=>by rw[z] at nd;simp[Sk.own] at nd
 have hs4:SL (aS H3 a (.lst [.str w,.str n,.ref l,f,.ref u,.ref b])) ⟨a,u,some (b,u2)⟩ ⟨w,n,lo,hi,fl,us,some (lo2,hi2,[])⟩:=by
  obtain ⟨l',f',v',j1,j2,j3,j4,j5⟩:=hs3;rw[ea3] at j1;cases j1;exact (ck l f (.ref b) ⟨af,kp.lens fq j2,kp.fill fq j3,kp.rtup fq j4 (by simpa using ua),ll,rfl,by rw[az ab];exact eb,by rw[az ellx];exact ell3,[],by rw[az au2];exact eu2,A2.nil⟩)
 have kp2:Kp (⟨a,u,none⟩:Sk).own H (aS H3 a (.lst [.str w,.str n,.ref l,f,.ref u,.ref b])):=fun x o e nx=>by
  rw[az (fun z=>nx (by rw[z];simp[Sk.own]))]
  exact g13 _ _ e
 dsimp only[aX,a6];change L2.vy _ _ _ (aS H3 a (.lst [.str w,.str n,.ref l,f,.ref u,.ref b]));have ea5:aS H3 a (.lst [.str w,.str n,.ref l,f,.ref u,.ref b]) a=some (.lst [.str w,.str n,.ref l,f,.ref u,.ref b]):=af;have el5:aS H3 a (.lst [.str w,.str n,.ref l,f,.ref u,.ref b]) ll=some (.lst [vN lo2,vN hi2]):=by rw[az ellx];exact ell3
 have l1:(Str.ofString " ").length=1:=by decide
 have l3:(Str.ofString "or ").length=3:=by decide
 have ll1:=cT (n:=lo2) (by omega)
 have ll2:=cT (n:=hi2) (by omega)
 refine ⟨_,rfl,aC a _ _ _ ⟨rfl,rfl,aH.of ea5,rfl,aI _ _ ⟨rfl,rfl,by omega,aI _ _ ⟨rfl,rfl,(by rw[Str.length_append];omega),_,rfl,aC ll _ _ _ ⟨rfl,rfl,aH.of el5,rfl,_,rfl,fD (by omega),?_⟩⟩⟩⟩⟩
 rw[eE];refine (aI _ _ ⟨rfl,rfl,(by simp only[Str.length_append];omega),aI _ _ ⟨rfl,rfl,(by simp only[Str.length_append];omega),_,rfl,aC ll _ _ _ ⟨rfl,rfl,aH.of el5,rfl,_,rfl,fD (by omega),?_⟩⟩⟩)
 rw[eE];refine (aI _ _ ⟨rfl,rfl,(by simp only[Str.length_append];omega),?_⟩)
 rw[yC];refine q1 _ ⟨a,u,some (b,u2)⟩ _ _ kp2 hs4 rfl (fun x hx=>?_) ?_ (aI lo2 hi2 ⟨rfl,le,rfl,rfl⟩)
 ·simp only[Sk.own,cY,E3,E9,or_false] at hx⊢;rcases hx with h|h|h|h
  ·exact .inl (.inl h)
  ·exact .inl (.inr h)
  ·rw[h];exact .inr (g1.free nb1)
  ·rw[h];exact .inr (g1.free nu2)
 ·obtain ⟨vu,eu',_⟩:=eu;have eu1:=g1 _ _ eu';have bu:u≠b:=fun z=>by rw[<-z,eu1] at nb1;cases nb1
  have uu:u≠u2:=fun z=>by rw[<-z,eu1] at nu2;cases nu2
  simp only[Sk.own,cY,Ee,E3,E9,or_false,not_or,not_false_eq_true,and_true,List.nodup_nil];exact ⟨⟨ua.symm,ab.symm,au2.symm⟩,⟨bu,uu⟩,ub.symm⟩
theorem B4 {dV:Value} (F:br K "_law_use" "_law_use" zT dV f fd):aY P w K mg base a7 1 f fd ["_law_step_here","_law_word","_law_names_here","_law_xs"] uN:=by
 have sc:aB ["_law_step_here","_law_word","_law_names_here","_law_xs","_law_uses","_law_tool","_law_use_here","_law_tail"] ["_law_step_here","_law_word","_law_names_here","_law_xs"] (av zT):=cS (by decide+kernel)
 refine F.ok sc (fun vs H Q E h=>?_) (fun cdv A outer s H vs Q E hr h=>?_)
 ·obtain ⟨_,_,_,_,_,_,rfl,_⟩:=h
  rfl
 refine qJ h fun _r1 _r2 o ln lx zs _hi=>?_
 refine yu _hi fun _r3 hs nd nl en zz ul ul2 _hj=>?_
 refine uF _hj fun hx q0 q1=>?_
 clear h _hi _hj;obtain ⟨a,u,so⟩:=_r1;obtain ⟨w,n,lo,hi,fl,us,sec⟩:=_r2;subst _r3;refine ⟨_,(ad (bQ 4 sc (ao ai (pv 0) ac (fun _ _=>rfl))) (ad (aL (ar bF (pv 1) aE (aA _)) (ad (aL (ar cN (ao ai (pv 0) ac (fun _ _=>rfl)) bj (aA _)) (ah (ax aE)) ay) (ah (bQ 4 sc (ao ai (ao ai (pv 0) ac (fun _ _=>rfl)) ac (fun _ _=>rfl))))) ay) (ad (aL (ar bF (aK aV rfl B.Go boot_len (@aa _ _ _ _ _ (pv 4) ae rfl)) ac (aA _)) (ah (ax aE)) ay) (ad (bQ 5 sc (ao ai (pv 2) (aw aN (aw bW (aw bS ac (aK aV rfl B.Go boot_len (@aa _ _ _ _ _ (pv 4) ae rfl))) ac) ac) (fun _ _=>rfl))) (ad (bQ 6 sc (@bI _ _ _ _ _ (@aa _ _ _ _ _ (pv 5) (@aa _ _ _ _ _ (aw bW ac (aw aN (ao ai (pv 3) ac (fun _ _=>rfl)) ac)) (@aa _ _ _ _ _ (ao ai (@bi _ _ _ _ (@aa _ _ _ _ _ (aw aN (ao ai (pv 3) ac (fun _ _=>rfl)) ac) (@aa _ _ _ _ _ ac (@aa _ _ _ _ _ ac (@aa _ _ _ _ _ ac ae rfl) rfl) rfl) rfl)) (aw aN (ao ai (pv 3) ac (fun _ _=>rfl)) ac) (fun _ _=>rfl)) ae rfl) rfl) rfl))) (ad (bw (c6 EY EX EW bG (pv 4) (@aa _ _ _ _ _ (pv 6) ae rfl))) (ad (bQ 7 sc (aw aD (aw aD (aw aD aE (bv bh rfl B.Gu boot_str (@aa _ _ _ _ _ (ao aT (pv 6) ac (fun _ _=>rfl)) ae rfl))) aE) (bv bh rfl B.Gu boot_str (@aa _ _ _ _ _ (ao aT (pv 6) ac (fun _ _=>rfl)) ae rfl)))) (ah (ax (aw aD (aw aD (aw aD (aw aD (aw aD (pv 1) aE) (ao ai (pv 0) ac (fun _ _=>rfl))) aE) (pv 5)) (pv 7))))))))))),?_⟩
 try dsimp only[cxK]
 have sl:sizeLine=16777216:=sizeLine_eq;obtain ⟨xs,ex,hxs⟩:=hx.at_;obtain ⟨x2,hx2,x20,x21⟩:=hxs 2 (by decide)
 obtain ⟨x3,hx3,x30,x31⟩:=hxs 3 (by decide)
 obtain ⟨x4,hx4,x40,x41⟩:=hxs 4 (by decide)
 obtain ⟨l,f,v,ea,el,ef,eu,es⟩:=id hs;dsimp only at ea el ef eu es nl nd q0 q1 ul ul2;obtain ⟨wd,ewd⟩:∃wd:Str,wd=if o=true then Str.ofString "orwith" else Str.ofString "with" :=⟨_,rfl⟩
 rw[<-ewd] at q1⊢;have wdl:wd.length<=6:=by rw[ewd];cases o<;>decide
 refine ⟨_,rfl,aC a _ _ _ ⟨rfl,rfl,aH.of ea,rfl,?_⟩⟩;dsimp only[aX,a6];refine cut (fun σ H'=>∃(uu:Addr) (uus:List bP),σ= [Iw a,some (.str wd),Iw ln,Iw lx,Iw uu,none,none,none]/\H=H'/\Uz H uu uus/\uus.length<=12/\if o=true then ∃b lo2 hi2,so=some (b,uu)/\sec=some (lo2,hi2,uus) else uu=u/\uus=us) (fun N hN=>?_) ?_
 ·refine ⟨_,rfl,rfl,_,rfl,lL (fun e=>?_) fun e=>hN _ _ (aI u us ⟨rfl,rfl,eu,ul,?_⟩)⟩
  ·have ho:o=true:=by
    cases o with
    |true=>rfl
    |false=>rw[ewd] at e;exact absurd e (by decide)
   match so,sec,es with
   |none,none,es=>
    have es:v= .non:=es;subst es;exact ⟨_,rfl,aC a _ _ _ ⟨rfl,rfl,aH.of ea,rfl,rfl,_,rfl,dT rfl (q0 _ (.refl _))⟩⟩
   |some (b,u2),some (lo2,hi2,us2),⟨l2,e1,e2,e3,e4⟩=>
    subst e1;refine ⟨_,rfl,aC a _ _ _ ⟨rfl,rfl,aH.of ea,rfl,rfl,_,rfl,dF (fun z=>nomatch z) ?_⟩⟩
    exact ⟨_,rfl,aC a _ _ _ ⟨rfl,rfl,aH.of ea,rfl,aC b _ _ _ ⟨rfl,rfl,aH.of e2,rfl,hN _ _ (aI u2 us2 ⟨rfl,rfl,e4,ul2 _ rfl,by rw[if_pos ho];exact (ck b lo2 hi2 ⟨rfl,rfl⟩)⟩)⟩⟩⟩
  ·have ho:o=false:=by
    cases o with
    |true=>exact absurd (by rw[ewd];rfl) e
    |false=>rfl
   rw[ho];exact ⟨rfl,rfl⟩
 rintro σ _ ⟨uu,uus,rfl,rfl,⟨vu,euu,ru⟩,l12,hO⟩;have lvu:=ru.1;refine cut (fun σ H'=>σ= [Iw a,some (.str wd),Iw ln,Iw lx,Iw uu,none,none,none]/\H=H'/\uus.length≠12) (fun N hN=>?_) ?_
 ·exact ⟨_,rfl,aI uu _ ⟨rfl,.inl (aH.of euu),rfl,_,rfl,lZ (fun _=>q0 _ (.refl _)) fun c=>hN _ _ ⟨rfl,rfl,by omega⟩⟩⟩
 rintro σ _ ⟨rfl,rfl,n12⟩;have ei:=yE (5*(vu.length:Int)+3) (5*uus.length+3) (by omega)
 obtain ⟨g,hg,ng⟩:=zz.at_ (i:=(5*uus.length+3) % 12) (by omega)
 have gl:=ng.len;refine ⟨_,rfl,_,rfl,aI uu _ ⟨rfl,.inl (aH.of euu),aI _ _ ⟨rfl,rfl,IntMulOk.of_left (by decide),aI _ _ ⟨rfl,rfl,aI _ _ ⟨rfl,rfl,(by show (12:Int)≠0;decide),aC ln _ _ _ ⟨rfl,rfl,aH.of en,(by rw[ei];exact nL hg),?_⟩⟩⟩⟩⟩⟩
 dsimp only[aX,a6];have m8:=fm (a:=x2) (n:=8) (by decide)
 have m1:=fm (a:=x3) (n:=1001) (by decide)
 obtain ⟨h,hv,h9⟩:∃h:Nat,ig [V.int (x3.fmod 1001),.int 0,.int 1000,.int 180] (x4.fmod 4)=some (vN h)/\h<=1000:=by
  obtain ⟨j,ej,jl⟩:=r8 (a:=x4) (n:=4) (by decide)
  rw[ej];have jl:j<4:=by omega
  match j,jl with
  |0,_=>exact ⟨(x3.fmod 1001).toNat,congrArg some (congrArg V.int (by omega)),by omega⟩
  |1,_=>exact ⟨0,rfl,by decide⟩
  |2,_=>exact ⟨1000,rfl,by decide⟩
  |3,_=>exact ⟨180,rfl,by decide⟩
 obtain ⟨k,ek⟩:∃k:Nat,1+x2.fmod 8=(k:Int):=⟨(1+x2.fmod 8).toNat,by omega⟩
 have k1:1<=k/\k<=8:=by omega
 refine ⟨_,rfl,_,rfl,aC lx _ _ _ ⟨rfl,rfl,aH.of ex,hx2,aI _ _ ⟨rfl,rfl,(by show (8:Int)≠0;decide),aI _ _ ⟨rfl,rfl,_,rfl,aC lx _ _ _ ⟨rfl,rfl,aH.of ex,hx3,aI _ _ ⟨rfl,rfl,(by show (1001:Int)≠0;decide),by show 4<=sizeLine;decide,fun l4 n4=>⟨_,rfl,aC lx _ _ _ ⟨rfl,rfl,aH.of (aj n4 _ _ _ ex),hx4,aI _ _ ⟨rfl,rfl,(by show (4:Int)≠0;decide),aC l4 _ _ _ ⟨rfl,rfl,aH.of af,hv,by show 3<=sizeLine;decide,fun tp ntp=>?_⟩⟩⟩⟩⟩⟩⟩⟩⟩⟩
 have g4:=aj n4 (.lst [V.int (x3.fmod 1001),.int 0,.int 1000,.int 180]);dsimp only at ntp⊢;rw[ek];have g5:=g4.trans (aj ntp (.tup [.str g,.int (k:Int),vN h]));have etp:aS (aS H l4 (.lst [V.int (x3.fmod 1001),.int 0,.int 1000,.int 180])) tp (.tup [.str g,.int (k:Int),vN h]) tp=some (.tup (gE (g,k,h))):=af;dsimp only[aX,a6];generalize aS (aS H l4 (.lst [V.int (x3.fmod 1001),.int 0,.int 1000,.int 180])) tp (.tup [.str g,.int (k:Int),vN h])=H5 at g5 etp⊢;have euu5:=g5 _ _ euu;have ea5:=g5 _ _ ea;have hs5:=hs.same g5;refine ⟨_,rfl,.inl ⟨rfl,_,aH.of euu5⟩,_,rfl,ck uu _ _ ⟨rfl,rfl,euu5,by omega,?_⟩⟩
 have refsu:∃vs,H5 uu=some (.lst vs)/\∀i j:Int,vs≠ [.int i,.int j]:=iK.refs (f:=gE) (P:=An) ⟨vu,euu5,ru.imp fun _ _ q=>vm q g5⟩
 have fq:=gB refsu;have kp:=(Kp.refl [uu] H5).put (x:=uu) (EC.mpr rfl) (.lst (vu++ [.ref tp]));have etp6:=kp.tup fq etp;have hu6:Uz (aS H5 uu (.lst (vu++ [.ref tp]))) uu (uus++ [(g,k,h)]):=⟨_,af,(ru.imp fun v x ⟨t,e1,e2,e3⟩=>⟨t,e1,e2,kp.tup fq (g5 _ _ e3)⟩).snoc ⟨tp,rfl,trivial,etp6⟩⟩
 have ndo:=nd;simp only[Sk.own,Ee,E3,not_or] at ndo;have uua:a≠uu:=fun z=>by
  cases o with
  |false=>exact ndo.1.1 (z.trans hO.1)
  |true=>
   obtain ⟨b,lo2,hi2,e1,_⟩:=hO;rw[e1] at ndo;exact ndo.1.2 (by rw[z];simp[cY])
 have ea6:aS H5 uu (.lst (vu++ [.ref tp])) a=some (.lst [.str w,.str n,.ref l,f,.ref u,v]):=by rw[az uua];exact ea5
 have uin:uu∈(⟨a,u,so⟩:Sk).own:=by
  cases o with
  |false=>rw[hO.1];simp[Sk.own]
  |true=>
   obtain ⟨b,lo2,hi2,e1,_⟩:=hO;rw[e1];simp[Sk.own,cY]
 have kp2:Kp (⟨a,u,so⟩:Sk).own H (aS H5 uu (.lst (vu++ [.ref tp]))):=(wE g5).put uin _;have hs6:∃s',SL (aS H5 uu (.lst (vu++ [.ref tp]))) ⟨a,u,so⟩ s'/\if o=true then ∃lo2 hi2 us2,sec=some (lo2,hi2,us2)/\us2.length≠12/\zs[(5*us2.length+3) % 12]?=some g/\s'=⟨w,n,lo,hi,fl,us,some (lo2,hi2,us2++ [(g,k,h)])⟩ else us.length≠12/\zs[(5*us.length+3) % 12]?=some g/\s'=⟨w,n,lo,hi,fl,us++ [(g,k,h)],sec⟩:=by
  obtain ⟨l',f',v',j1,j2,j3,j4,j5⟩:=hs5;dsimp only at j1 j2 j3 j4 j5;rw[ea5] at j1;cases j1;cases o with
  |false=>
   obtain ⟨rfl,rfl⟩:=hO;refine ⟨⟨w,n,lo,hi,fl,uus++ [(g,k,h)],sec⟩,(ck l f v ⟨ea6,kp.lens fq j2,kp.fill fq j3,hu6,kp.secL fq j5 fun b hb=>?_⟩),n12,hg,rfl⟩
   rw[EC];exact fun z=>ndo.2.1 (z▸hb)
  |true=>
   obtain ⟨b,lo2,hi2,rfl,rfl⟩:=hO;obtain ⟨l2,e1,e2,e3,e4⟩:=j5;simp only[cY,E3,E9,or_false,not_or,Ee] at ndo;have bu:b≠uu:=ndo.2.2.1;refine ⟨⟨w,n,lo,hi,fl,us,some (lo2,hi2,uus++ [(g,k,h)])⟩,(ck l f v ⟨ea6,kp.lens fq j2,kp.fill fq j3,kp.rtup fq j4 (by simpa using ndo.2.1.2),l2,e1,by rw[az bu];exact e2,kp.lens fq e3,hu6⟩),ck lo2 hi2 uus ⟨rfl,n12,hg,rfl⟩⟩
 obtain ⟨s',hs6,hO6⟩:=hs6;have etp7:aS H5 uu (.lst (vu++ [.ref tp])) tp=some (.tup [.str g,vN k,vN h]):=etp6;dsimp only[aX,a6];have l1:(Str.ofString " ").length=1:=by decide
 have ll1:=cT (n:=k) (by omega)
 have ll2:=cT (n:=h) (by omega)
 refine ⟨_,rfl,aC tp _ _ _ ⟨rfl,rfl,bZ.of etp7,rfl,_,rfl,fD (by omega),?_⟩⟩
 rw[eE];refine (aI _ _ ⟨rfl,rfl,by omega,aI _ _ ⟨rfl,rfl,(by rw[Str.length_append];omega),_,rfl,aC tp _ _ _ ⟨rfl,rfl,bZ.of etp7,rfl,_,rfl,fD (by omega),?_⟩⟩⟩)
 rw[eE];refine (aI _ _ ⟨rfl,rfl,(by simp only[Str.length_append];omega),?_⟩)
 dsimp only[aX,a6];refine ⟨_,rfl,aI _ _ ⟨rfl,rfl,by omega,_,rfl,aC a _ _ _ ⟨rfl,rfl,aH.of ea6,rfl,aI _ _ ⟨rfl,rfl,(by rw[Str.length_append];omega),aI _ _ ⟨rfl,rfl,(by simp only[Str.length_append];omega),_,rfl,aI _ _ ⟨rfl,rfl,(by simp only[Str.length_append];omega),_,rfl,aI _ _ ⟨rfl,rfl,(by simp only[Str.length_append];omega),?_⟩⟩⟩⟩⟩⟩⟩
 rw[wD];exact q1 _ ⟨a,u,so⟩ s' _ kp2 hs6 rfl (fun x hx=> .inl hx) nd ⟨(g,k,h),rfl,k1.1,k1.2,h9,hO6⟩
theorem B5 {dV:Value} (F:br K "_law_link" "_law_link" zU dV f fd):aY P w K mg base a7 1 f fd ["_law_model","_law_xs"] qP:=by
 have sc:aB ["_law_model","_law_xs","_law_many","_law_at","_law_word","_law_turns","_law_link_here","_law_one","_law_two","_law_row_here"] ["_law_model","_law_xs"] (av zU):=cS (by decide+kernel)
 refine F.ok sc (fun vs H Q E h=>?_) (fun cdv A outer s H vs Q E hr h=>?_)
 ·obtain ⟨_,_,_,_,_,_,_,_,_,_,rfl,_⟩:=h
  rfl
 refine ku h fun G m lt ls lk lx ks M zs _hi=>?_
 refine sD _hi fun room _hj=>?_
 refine jC _hj fun _r1 r12 ml ok zz _hk=>?_
 refine kv _hk fun hx q=>?_
 clear h _hi _hj _hk;subst _r1;refine ⟨_,(ad (bQ 2 sc (aK aV rfl B.Go boot_len (@aa _ _ _ _ _ (ao ai (pv 0) ac (fun _ _=>rfl)) ae rfl))) (ad (aL (PW.pt (bU (ar iX (pv 2) ac (aA _)) (bN (ar bF (aK aV rfl B.Go boot_len (@aa _ _ _ _ _ (ao ai (pv 0) ac (fun _ _=>rfl)) ae rfl)) ac (aA _))))) (ah (ax aE)) ay) (ad (bQ 3 sc (aw aN (ao ai (pv 1) ac (fun _ _=>rfl)) (pv 2))) (@ad _ _ _ _ _ (@fk _ _ 4 _ _ _ _ sc.nd rfl (Or.inl rfl) (@ao _ _ _ _ _ _ _ ai (@bi _ _ _ _ (@aa _ _ _ _ _ aE (@aa _ _ _ _ _ aE (@aa _ _ _ _ _ aE ae rfl) rfl) rfl)) (aw aN (ao ai (pv 1) ac (fun _ _=>rfl)) ac) (fun _ _=>rfl)) rfl (Or.inr rfl)) (ad (bQ 5 sc ac) (ad (aL (ar bF (pv 4) aE (aA _)) (ah (bQ 5 sc (ao ai (@bi _ _ _ _ (@aa _ _ _ _ _ (aw aN (ao ai (pv 1) ac (fun _ _=>rfl)) ac) (@aa _ _ _ _ _ ac (@aa _ _ _ _ _ ac (@aa _ _ _ _ _ (aw aN (ao ai (pv 1) ac (fun _ _=>rfl)) ac) ae rfl) rfl) rfl) rfl)) (aw aN (ao ai (pv 1) ac (fun _ _=>rfl)) ac) (fun _ _=>rfl)))) ay) (ad (bQ 6 sc (@bI _ _ _ _ _ (@aa _ _ _ _ _ (pv 4) (@aa _ _ _ _ _ (pv 3) (@aa _ _ _ _ _ (aw aN (aw bW (aw bW (pv 3) ac) (aw aN (ao ai (pv 1) ac (fun _ _=>rfl)) (aw hV (pv 2) ac))) (pv 2)) (@aa _ _ _ _ _ (pv 5) ae rfl) rfl) rfl) rfl))) (ad (aL (PW.pt (oo (ar bF (aw aN (ao ai (pv 1) ac (fun _ _=>rfl)) ac) ac (aA _)) (kP (ar (ui hr.units0) (ao ai (pv 0) ac (fun _ _=>rfl)) (@bi _ _ _ _ ae) (aA _))))) (ah (bQ 6 sc (ao ai (ao ai (pv 0) ac (fun _ _=>rfl)) (jM hW ac) (fun _ _=>rfl)))) ay) (ad (bQ 7 sc (ao ai (ao ai (ao ai (pv 0) ac (fun _ _=>rfl)) (ao aT (pv 6) ac (fun _ _=>rfl)) (fun _ _=>rfl)) ac (fun _ _=>rfl))) (ad (bQ 8 sc (ao ai (ao ai (ao ai (pv 0) ac (fun _ _=>rfl)) (ao aT (pv 6) ac (fun _ _=>rfl)) (fun _ _=>rfl)) ac (fun _ _=>rfl))) (ad (bQ 9 sc (aw aD (aw aD (aw aD (aw aD (ao aT (pv 6) ac (fun _ _=>rfl)) aE) (pv 7)) aE) (pv 8))) (ad (aL (ar bF (ao aT (pv 6) ac (fun _ _=>rfl)) aE (aA _)) (ah (bQ 9 sc (aw aD (aw aD (pv 9) aE) (bv bh rfl B.Gu boot_str (@aa _ _ _ _ _ (ao aT (pv 6) ac (fun _ _=>rfl)) ae rfl))))) ay) (ad (bw (c6 EY EX EW bG (ao ai (pv 0) ac (fun _ _=>rfl)) (@aa _ _ _ _ _ (pv 6) ae rfl))) (ah (ax (pv 9)))))))))))))))),?_⟩
 try dsimp only[cxK]
 have sl:sizeLine=16777216:=sizeLine_eq;obtain ⟨xs,ex,hxs⟩:=hx.at_;obtain ⟨x1,hx1,x10,x11⟩:=hxs 1 (by decide)
 obtain ⟨x2,hx2,x20,x21⟩:=hxs 2 (by decide)
 obtain ⟨x3,hx3,x30,x31⟩:=hxs 3 (by decide)
 obtain ⟨x4,hx4,x40,x41⟩:=hxs 4 (by decide)
 obtain ⟨x5,hx5,x50,x51⟩:=hxs 5 (by decide)
 have es:=ml.es;have lks:=ml.len;have k24:=ok.k24;have sr:=ok.sr;have lkm:(ks.map fun x=>V.ref x.a).length=M.steps.length:=by rw[E5];exact lks
 obtain ⟨vk,ek,rk⟩:=id ml.ek;have lvk:=rk.1;refine ⟨_,rfl,aC m _ _ _ ⟨rfl,rfl,aH.of ml.em,rfl,aI ls _ ⟨rfl,.inl (aH.of es),?_⟩⟩⟩;dsimp only[aX,a6];rw[lkm];obtain ⟨many,em⟩:∃many,many=M.steps.length:=⟨_,rfl⟩;rw[<-em];refine cut (fun σ H'=>σ= [Iw m,Iw lx,some (vN many),none,none,none,none,none,none,none]/\H=H'/\2<=many/\M.links.length<24) (fun N hN=>?_) ?_
 ·refine ⟨_,rfl,aI _ _ ⟨rfl,rfl,_,rfl,d2 (fun _=>q "" ks M H ml ok (.inl ⟨rfl,rfl⟩)) fun c=>⟨_,rfl,aC m _ _ _ ⟨rfl,rfl,aH.of ml.em,rfl,aI lk _ ⟨rfl,.inl (aH.of ek),rfl,_,rfl,lZ (fun _=>q "" ks M H ml ok (.inl ⟨rfl,rfl⟩)) fun c2=>hN _ _ ⟨rfl,rfl,?_,by omega⟩⟩⟩⟩⟩⟩
  omega
 rintro σ _ ⟨rfl,rfl,m2,l24⟩;obtain ⟨at_,ea,al⟩:=r8 (a:=x2) (n:=(many:Int)) (by omega)
 refine ⟨_,rfl,aC lx _ _ _ ⟨rfl,rfl,aH.of ex,hx2,_,rfl,aI _ _ ⟨rfl,rfl,by omega,?_⟩⟩⟩
 dsimp only[aX,a6];rw[ea];obtain ⟨w,hw,wd⟩:∃w:Str,ig [V.str "after",.str "within",.str "apart"] (x1.fmod 3)=some (.str w)/\(w= "after" ∨w= "within" ∨w= "apart"):=by
  obtain ⟨j,ej,jl⟩:=r8 (a:=x1) (n:=3) (by decide)
  rw[ej];have jl:j<3:=by omega
  match j,jl with
  |0,_=>exact ⟨"after",rfl,.inl rfl⟩
  |1,_=>exact ⟨"within",rfl,.inr (.inl rfl)⟩
  |2,_=>exact ⟨"apart",rfl,.inr (.inr rfl)⟩
 have wl:w.length<=12:=Ah.len wd;refine ⟨by show 3<=sizeLine;decide,fun l3 n3=>⟨_,rfl,aC lx _ _ _ ⟨rfl,rfl,aH.of (aj n3 _ _ _ ex),hx1,aI _ _ ⟨rfl,rfl,(by show (3:Int)≠0;decide),aC l3 _ _ _ ⟨rfl,rfl,aH.of af,hw,?_⟩⟩⟩⟩⟩
 have g3:=aj n3 (.lst [.str "after",.str "within",.str "apart"]);dsimp only[aX,a6];generalize aS H l3 (.lst [.str "after",.str "within",.str "apart"])=H3 at g3⊢;have ex3:=g3 _ _ ex;refine cut (fun σ H'=>σ= [Iw m,Iw lx,some (vN many),some (vN at_),some (.str w),some (vN 0),none,none,none,none]/\H3=H') (fun N hN=>hN _ _ ⟨rfl,rfl⟩) ?_
 rintro σ _ ⟨rfl,rfl⟩;have m1:=fm (a:=x4) (n:=100001) (by decide)
 have m9:=fm (a:=x4) (n:=9) (by decide)
 refine cut (fun σ H'=>∃tn:Nat,σ= [Iw m,Iw lx,some (vN many),some (vN at_),some (.str w),some (vN tn),none,none,none,none]/\aJ H3 H'/\tn<=100000/\(w≠ "within" ->tn=0)) (fun N hN=>?_) ?_
 ·refine ⟨_,rfl,rfl,_,rfl,lL (fun e=>?_) fun e=>hN _ _ ⟨0,rfl,.refl _,by decide,fun _=>rfl⟩⟩
  refine ⟨_,rfl,aC lx _ _ _ ⟨rfl,rfl,aH.of ex3,hx4,aI _ _ ⟨rfl,rfl,(by show (100001:Int)≠0;decide),_,rfl,aC lx _ _ _ ⟨rfl,rfl,aH.of ex3,hx4,aI _ _ ⟨rfl,rfl,(by show (9:Int)≠0;decide),by show 4<=sizeLine;decide,fun l4 n4=>?_⟩⟩⟩⟩⟩
  obtain ⟨tn,hv,h9⟩:∃h:Nat,ig [V.int (x4.fmod 100001),.int 0,.int 100000,.int (x4.fmod 9)] (x5.fmod 4)=some (vN h)/\h<=100000:=by
   obtain ⟨j,ej,jl⟩:=r8 (a:=x5) (n:=4) (by decide)
   rw[ej];have jl:j<4:=by omega
   match j,jl with
   |0,_=>exact ⟨(x4.fmod 100001).toNat,congrArg some (congrArg V.int (by omega)),by omega⟩
   |1,_=>exact ⟨0,rfl,by decide⟩
   |2,_=>exact ⟨100000,rfl,by decide⟩
   |3,_=>exact ⟨(x4.fmod 9).toNat,congrArg some (congrArg V.int (by omega)),by omega⟩
  exact ⟨_,rfl,aC lx _ _ _ ⟨rfl,rfl,aH.of (aj n4 _ _ _ ex3),hx5,aI _ _ ⟨rfl,rfl,(by show (4:Int)≠0;decide),aC l4 _ _ _ ⟨rfl,rfl,aH.of af,hv,hN _ _ ⟨tn,rfl,aj n4 _,h9,fun z=>absurd e z⟩⟩⟩⟩⟩
 rintro σ H4 ⟨tn,rfl,g4,t5,t0⟩;have g34:=g3.trans g4;have ex4:=g4 _ _ ex3;have mo:=fm (a:=x3) (n:=(many:Int)-1) (by omega)
 obtain ⟨ot,eo,ol⟩:=r8 (a:=(at_:Int)+1+x3.fmod ((many:Int)-1)) (n:=(many:Int)) (by omega)
 have oa:ot≠at_:=fun z=>by
  rw[z,Int.fmod_eq_emod_of_nonneg _ (by omega)] at eo
  have e:=Int.emod_add_mul_ediv ((at_:Int)+1+x3.fmod ((many:Int)-1)) (many:Int);generalize ((at_:Int)+1+x3.fmod ((many:Int)-1))/(many:Int)=qq at e;rw[eo] at e;rcases Int.lt_trichotomy qq 0 with h|h|h
  ·have:(many:Int)*qq<=(many:Int)*(-1):=Int.mul_le_mul_of_nonneg_left (by omega) (by omega)
   omega
  ·rw[h] at e;omega
  ·have:(many:Int)*1<=(many:Int)*qq:=Int.mul_le_mul_of_nonneg_left (by omega) (by omega)
   omega
 refine ⟨_,rfl,_,rfl,_,rfl,aI _ _ ⟨rfl,rfl,_,rfl,aC lx _ _ _ ⟨rfl,rfl,aH.of ex4,hx3,_,rfl,aI _ _ ⟨rfl,rfl,aI _ _ ⟨rfl,rfl,by omega,aI _ _ ⟨rfl,rfl,_,rfl,aI _ _ ⟨rfl,rfl,by omega,_,rfl,by show 4<=sizeLine;decide,fun t nt=>?_⟩⟩⟩⟩⟩⟩⟩
 dsimp only[aX,a6] at nt⊢;rw[eo];have g5:=g34.trans (aj nt (.tup [.str w,vN at_,vN ot,vN tn]));have et:aS H4 t (.tup [.str w,vN at_,vN ot,vN tn]) t=some (.tup (sF (w,at_,ot,tn))):=af;have ex5:=(aj nt (.tup [.str w,vN at_,vN ot,vN tn])) _ _ ex4;change L2.ou _ _ _ [some (.ref m),some (.ref lx),some (vN many),some (vN at_),some (.str w),some (vN tn),some (.ref t),none,none,none] (aS H4 t (.tup [.str w,vN at_,vN ot,vN tn]));generalize aS H4 t (.tup [.str w,vN at_,vN ot,vN tn])=H5 at g5 et ex5⊢;have ml5:=ml.same g5;refine cut (fun σ H'=>∃(t:Addr) (k:wu),σ= [Iw m,Iw lx,some (vN many),some (vN at_),some (.str w),some (vN tn),Iw t,none,none,none]/\aJ H5 H'/\H' t=some (.tup (sF k))/\Cm many k) (fun N hN=>?_) ?_
 ·have now:∀H',aJ H5 H'->N [some (.ref m),some (.ref lx),some (vN many),some (vN at_),some (.str w),some (vN tn),some (.ref t),none,none,none] H':=fun H' g=>hN _ _ (aI t (w,at_,ot,tn) ⟨rfl,g,g _ _ et,⟨wd,(by show at_<many;omega),(by show ot<many;omega),oa.symm,t5,t0⟩⟩)
  refine ⟨_,rfl,aC lx _ _ _ ⟨rfl,rfl,aH.of ex5,hx5,aI _ _ ⟨rfl,rfl,(by show (6:Int)≠0;decide),rfl,_,rfl,lZ (fun _=>?_) fun _=>now _ (.refl _)⟩⟩⟩
  refine ⟨_,rfl,aC m _ _ _ ⟨rfl,rfl,aH.of ml5.em,rfl,by show 0<=sizeLine;decide,fun l0 n0=>?_⟩⟩
  have g6:=aj n0 (.lst []);have ek6:=g6 _ _ (g5 _ _ ek);refine (ck lk l0 _ ⟨rfl,rfl,aH.of ek6,aH.of af,_,rfl,?_⟩);cases hv:vk with
  |nil=>exact now _ g6
  |cons v0 vr=>
   have ne:vk≠ []:=by rw[hv];simp
   obtain ⟨vl,hl⟩:∃vl,vk.getLast?=some vl:=by
    cases h:vk.getLast? with
    |none=>exact absurd (List.getLast?_eq_none_iff.mp h) ne
    |some x=>exact ⟨x,rfl⟩
   have hl':vk[vk.length-1]?=some vl:=by rw[<-List.getLast?_eq_getElem?];exact hl
   obtain ⟨k,hk,t',rfl,_,et'⟩:=rk.at_ hl';rw[hv] at hl ek6;refine ⟨_,rfl,aC m _ _ _ ⟨rfl,rfl,aH.of (g6 _ _ ml5.em),rfl,_,rfl,aC lk _ _ _ ⟨rfl,rfl,aH.of ek6,(atT hl),hN _ _ (aI t' k ⟨rfl,g6,g6 _ _ (g5 _ _ et'),by rw[em];exact ok.ks k (E4 hk)⟩)⟩⟩⟩
 rintro σ H6 ⟨t',⟨w',a',b',tn'⟩,rfl,g6,et',lo⟩;have et6:H6 t'=some (.tup [.str w',vN a',vN b',vN tn']):=et';have la:a'<many:=lo.a;have lb:b'<many:=lo.b;have wl':w'.length<=12:=lo.w.len;have tl':tn'<=100000:=lo.t;have ml6:=ml5.same g6;have es6:=ml6.es;have ha:=E1 (l:=M.steps) (i:=a') (by omega)
 have hb:=E1 (l:=M.steps) (i:=b') (by omega)
 have ka:=E1 (l:=ks) (i:=a') (by omega)
 have kb:=E1 (l:=ks) (i:=b') (by omega)
 obtain ⟨sa,hsa⟩:∃sa,M.steps[a']?=some sa:=⟨_,ha⟩;obtain ⟨sb,hsb⟩:∃sb,M.steps[b']?=some sb:=⟨_,hb⟩;obtain ⟨ska,hka⟩:∃sa,ks[a']?=some sa:=⟨_,ka⟩;obtain ⟨skb,hkb⟩:∃sb,ks[b']?=some sb:=⟨_,kb⟩;clear ha hb ka kb;obtain ⟨_,_,_,ea6,_⟩:=ml6.ss a' _ _ hka hsa;obtain ⟨_,_,_,eb6,_⟩:=ml6.ss b' _ _ hkb hsb;have na:=zz.mem (ok.ss a' _ hsa).nm;have nb:=zz.mem (ok.ss b' _ hsb).nm;have nal:=na.len;have nbl:=nb.len;have ata:ig (ks.map fun x=>V.ref x.a) (a':Int)=some (.ref ska.a):=aF (by rw[E7,hka];rfl)
 have atb:ig (ks.map fun x=>V.ref x.a) (b':Int)=some (.ref skb.a):=aF (by rw[E7,hkb];rfl)
 refine ⟨_,rfl,aC m _ _ _ ⟨rfl,rfl,aH.of ml6.em,rfl,_,rfl,aC t' _ _ _ ⟨rfl,rfl,bZ.of et6,rfl,aC ls _ _ _ ⟨rfl,rfl,aH.of es6,ata,aC ska.a _ _ _ ⟨rfl,rfl,aH.of ea6,rfl,?_⟩⟩⟩⟩⟩;dsimp only[aX,a6];refine ⟨_,rfl,aC m _ _ _ ⟨rfl,rfl,aH.of ml6.em,rfl,_,rfl,aC t' _ _ _ ⟨rfl,rfl,bZ.of et6,rfl,aC ls _ _ _ ⟨rfl,rfl,aH.of es6,atb,aC skb.a _ _ _ ⟨rfl,rfl,aH.of eb6,rfl,?_⟩⟩⟩⟩⟩;dsimp only[aX,a6];have l1:(Str.ofString " ").length=1:=by decide
 refine ⟨_,rfl,aC t' _ _ _ ⟨rfl,rfl,bZ.of et6,rfl,aI _ _ ⟨rfl,rfl,by omega,_,rfl,aI _ _ ⟨rfl,rfl,(by rw[Str.length_append];omega),aI _ _ ⟨rfl,rfl,(by simp only[Str.length_append];omega),_,rfl,aI _ _ ⟨rfl,rfl,(by simp only[Str.length_append];omega),?_⟩⟩⟩⟩⟩⟩
 rw[C9];have jl:(jB [w',sa.n,sb.n]).length<=400:=lT (fun z hz=>by
  simp only[E3,E9,or_false] at hz;rcases hz with rfl|rfl|rfl<;>omega) (by show 3<=6;decide)
 have ll1:=cT (n:=tn') (by omega)
 dsimp only[aX,a6];refine cut (fun σ H'=>σ= [Iw m,Iw lx,some (vN many),some (vN at_),some (.str w),some (vN tn),Iw t',some (.str sa.n),some (.str sb.n),some (.str (fb (.link w' sa.n sb.n tn')))]/\H6=H') (fun N hN=>?_) ?_
 ·refine ⟨_,rfl,aC t' _ _ _ ⟨rfl,rfl,bZ.of et6,rfl,rfl,_,rfl,lL (fun e=>?_) fun e=>hN _ _ ⟨?_,rfl⟩⟩⟩
  ·refine ⟨_,rfl,aI _ _ ⟨rfl,rfl,(by rw[l1];omega),_,rfl,aC t' _ _ _ ⟨rfl,rfl,bZ.of et6,rfl,_,rfl,fD (by omega),?_⟩⟩⟩
   rw[eE];refine (aI _ _ ⟨rfl,rfl,(by rw[Str.length_append,l1];omega),hN _ _ ⟨?_,rfl⟩⟩)
   rw[nK (by simp)]
   have e5:fb (.link w' sa.n sb.n tn')=jB ([w',sa.n,sb.n]++ [bK tn']):=by
    show jB (fE w' sa.n sb.n tn')=_;unfold fE;rw[if_pos e]
   rw[e5]
   rfl
  ·have e5:fb (.link w' sa.n sb.n tn')=jB [w',sa.n,sb.n]:=by
    show jB (fE w' sa.n sb.n tn')=_;unfold fE;rw[if_neg e,List.append_nil]
   rw[e5]
   rfl
 rintro σ _ ⟨rfl,rfl⟩;have ek6:=g6 _ _ (g5 _ _ ek);refine ⟨_,rfl,aC m _ _ _ ⟨rfl,rfl,aH.of ml6.em,rfl,.inl ⟨rfl,_,aH.of ek6⟩,_,rfl,ck lk _ _ ⟨rfl,rfl,ek6,by omega,⟨_,rfl,?_⟩⟩⟩⟩
 have ab:sa.n≠sb.n:=fun z=>by
  have k1:=(ok.ss a' _ hsa).nm;have k2:=(ok.ss b' _ hsb).nm;rw[<-z] at k2;have:=zz.inj k1 k2;have:=lo.ab;have h5:a'≠b':=lo.ab;omega
 rw[em] at lo;exact q _ _ _ _ (ml6.link ek6 ⟨t',rfl,trivial,et'⟩) (ok.link l24 lo) (.inr ⟨.link w' sa.n sb.n tn',rfl,⟨lo.w,na,nb,ab,tl',lo.t0⟩,D7 ok r12 zz hsa hsb (by omega)⟩)
theorem B6 {dV:Value} (F:br K "_law_row" "_law_row" zV dV f fd) (DZ49:Dx P w K mg base a7 1 "_law_stream" ["_law_cell","_law_many"] [] jg) (DZ53:Dx P w K mg base a7 3 "_law_take" ["_law_model","_law_names_here","_law_xs"] [] qO) (DZ54:Dx P w K mg base a7 3 "_law_step" ["_law_model","_law_names_here","_law_xs","_law_room"] [] lS) (DZ55:Dx P w K mg base a7 2 "_law_second" ["_law_step_here","_law_xs"] [] ky) (DZ56:Dx P w K mg base a7 1 "_law_use" ["_law_step_here","_law_word","_law_names_here","_law_xs"] [] uN) (DZ57:Dx P w K mg base a7 1 "_law_link" ["_law_model","_law_xs"] [] qP):aY P w K mg base a7 4 f fd ["_law_model","_law_names_here","_law_cell","_law_room"] uM:=by
 have sc:aB ["_law_model","_law_names_here","_law_cell","_law_room","_law_xs","_law_way","_law_step_here"] ["_law_model","_law_names_here","_law_cell","_law_room"] (av zV):=cS (by decide+kernel)
 refine F.ok sc (fun vs H Q E h=>?_) (fun cdv A outer s H vs Q E hr h=>?_)
 ·obtain ⟨_,_,_,_,_,_,_,_,_,_,_,rfl,_⟩:=h
  rfl
 refine ku h fun G m lt ls lk ln c ks M _hi=>?_
 refine vq _hi fun zs room _hj=>?_
 refine jC _hj fun _r1 r12 ml ok en _hk=>?_
 refine kv _hk fun zz q=>?_
 clear h _hi _hj _hk;subst _r1;refine ⟨_,(ad (bQ 4 sc (b5 DZ49 hr (@aa _ _ _ _ _ (pv 2) (@aa _ _ _ _ _ ac ae rfl) rfl))) (ad (bQ 5 sc (aw aN (ao ai (pv 4) ac (fun _ _=>rfl)) ac)) (ad (aL (ar bF (pv 5) ac (aA _)) (ah (ax (b5 DZ53 hr (@aa _ _ _ _ _ (pv 0) (@aa _ _ _ _ _ (pv 1) (@aa _ _ _ _ _ (pv 4) ae rfl) rfl) rfl)))) ay) (ad (aL (PW.pt (bU (ar iX (pv 5) ac (aA _)) (bN (ar (ud hr.units0) (ao ai (pv 0) ac (fun _ _=>rfl)) (@bi _ _ _ _ ae) (aA _))))) (ah (ax (b5 DZ54 hr (@aa _ _ _ _ _ (pv 0) (@aa _ _ _ _ _ (pv 1) (@aa _ _ _ _ _ (pv 4) (@aa _ _ _ _ _ (pv 3) ae rfl) rfl) rfl) rfl)))) ay) (ad (aL (ar mn (pv 5) ac (aA _)) (ah (ax (b5 DZ57 hr (@aa _ _ _ _ _ (pv 0) (@aa _ _ _ _ _ (pv 4) ae rfl) rfl)))) ay) (ad (bQ 6 sc (ao ai (ao ai (pv 0) ac (fun _ _=>rfl)) (aw aN (ao ai (pv 4) ac (fun _ _=>rfl)) (aK aV rfl B.Go boot_len (@aa _ _ _ _ _ (ao ai (pv 0) ac (fun _ _=>rfl)) ae rfl))) (fun _ _=>rfl))) (ad (aL (ar bF (pv 5) ac (aA _)) (ah (ax (b5 DZ55 hr (@aa _ _ _ _ _ (pv 6) (@aa _ _ _ _ _ (pv 4) ae rfl) rfl)))) ay) (ah (ax (b5 DZ56 hr (@aa _ _ _ _ _ (pv 6) (@aa _ _ _ _ _ (ao ai (@bi _ _ _ _ (@aa _ _ _ _ _ aE (@aa _ _ _ _ _ aE ae rfl) rfl)) (aw hV (pv 5) ac) (fun _ _=>rfl)) (@aa _ _ _ _ _ (pv 1) (@aa _ _ _ _ _ (pv 4) ae rfl) rfl) rfl) rfl))))))))))),?_⟩
 try dsimp only[cxK]
 have sl:sizeLine=16777216:=sizeLine_eq;refine ⟨_,rfl,aI c 6 ⟨rfl,by decide,by decide,fun lx H1 xs0 g1 e1 xl xp=>?_⟩⟩
 have hx:uL H1 lx:=⟨xs0,e1,by omega,xp⟩
 have ml1:=ml.same g1;have en1:=g1 _ _ en;clear ml en e1;obtain ⟨xs,ex,hxs⟩:=hx.at_;obtain ⟨x0,hx0,x00,x01⟩:=hxs 0 (by decide)
 obtain ⟨x5,hx5,x50,x51⟩:=hxs 5 (by decide)
 obtain ⟨way,ew,wl⟩:=r8 (a:=x0) (n:=8) (by decide)
 have es:=ml1.es;have lks:=ml1.len;have lkm:(ks.map fun x=>V.ref x.a).length=M.steps.length:=by rw[E5];exact lks
 dsimp only[aX,a6];refine ⟨_,rfl,aC lx _ _ _ ⟨rfl,rfl,aH.of ex,hx0,aI _ _ ⟨rfl,rfl,(by show (8:Int)≠0;decide),?_⟩⟩⟩
 dsimp only[aX,a6];rw[ew];refine cut (fun σ H'=>σ= [Iw m,Iw ln,some (.int c),some (vN room),Iw lx,some (vN way),none]/\H1=H') (fun N hN=>?_) ?_
 ·exact ⟨_,rfl,rfl,_,rfl,lZ (fun _=>⟨_,rfl,_,rfl,_,rfl,jA G m lt ls lk ln lx ks M (aI zs room ⟨rfl,ml1,ok,en1,zz,hx,q⟩)⟩) fun _=>hN _ _ ⟨rfl,rfl⟩⟩
 rintro σ _ ⟨rfl,rfl⟩;refine cut (fun σ H'=>σ= [Iw m,Iw ln,some (.int c),some (vN room),Iw lx,some (vN way),none]/\aJ H1 H'/\3<=way/\M.steps≠ []) (fun N hN=>?_) ?_
 ·have now:∀H',aJ H1 H'->_:=fun H' (g:aJ H1 H')=>(⟨_,rfl,_,rfl,_,rfl,_,rfl,jA G m lt ls lk ln lx ks M (aI zs room ⟨rfl,r12,ml1.same g,ok,g _ _ en1,zz,hx.same g,q⟩)⟩:L2.vy (L2.jP lS [] E0 (L2.jO (L2.mf 0) (L2.jO (L2.mf 1) (L2.jO (L2.mf 4) (L2.jO (L2.mf 3) L2.vF))))) {nx:=N,rt:=Q} [some (.ref m),some (.ref ln),some (.int c),some (vN room),some (.ref lx),some (vN way),none] H')
  refine ⟨_,rfl,aI _ _ ⟨rfl,rfl,_,rfl,d2 (fun _=>now _ (.refl _)) fun c3=>⟨_,rfl,aC m _ _ _ ⟨rfl,rfl,aH.of ml1.em,rfl,by show 0<=sizeLine;decide,fun l0 n0=>?_⟩⟩⟩⟩
  have g2:=aj n0 (.lst []);refine (ck ls l0 _ ⟨rfl,rfl,aH.of (g2 _ _ es),aH.of af,_,rfl,?_⟩);cases hk:ks with
  |nil=>exact now _ g2
  |cons k0 kr=>exact hN _ _ ⟨rfl,g2,by omega,fun z=>by rw[z,hk] at lks;simp at lks⟩
 rintro σ H2 ⟨rfl,g2,w3,ne⟩;have ml2:=ml1.same g2;have en2:=g2 _ _ en1;have hx2:=hx.same g2;have ex2:=g2 _ _ ex;have es2:=ml2.es;clear ml1 en1 hx ex es g1;refine cut (fun σ H'=>σ= [Iw m,Iw ln,some (.int c),some (vN room),Iw lx,some (vN way),none]/\H2=H'/\way<=5) (fun N hN=>?_) ?_
 ·exact ⟨_,rfl,aI _ _ ⟨rfl,rfl,_,rfl,d2 (fun _=>⟨_,rfl,_,rfl,jA G m lt ls lk lx ks M zs ⟨room,⟨rfl,r12,ml2,ok,zz,hx2,q⟩⟩⟩) fun c5=>hN _ _ ⟨rfl,rfl,by omega⟩⟩⟩
 rintro σ _ ⟨rfl,rfl,w5⟩;have pos:0<M.steps.length:=List.length_pos_iff.mpr ne;obtain ⟨i,ei,il⟩:=r8 (a:=x5) (n:=(M.steps.length:Int)) (by omega)
 obtain ⟨st,hst⟩:∃st,M.steps[i]?=some st:=⟨_,E1 (by omega)⟩
 obtain ⟨sk,hsk⟩:∃sk,ks[i]?=some sk:=⟨_,E1 (by omega)⟩
 have hs:=ml2.ss i sk st hsk hst;have so:=ok.ss i st hst;have nn:=zz.mem so.nm;have ndk:sk.own.Nodup:=by
  have nd:=ml2.nd;unfold cI at nd;simp only[Ee] at nd;exact (List.pairwise_flatten.mp nd.2.2.2.2).1 _ (EO.mpr ⟨sk,E4 hsk,rfl⟩)
 have ati:ig (ks.map fun x=>V.ref x.a) (i:Int)=some (.ref sk.a):=aF (by rw[E7,hsk];rfl)
 refine ⟨_,rfl,aC m _ _ _ ⟨rfl,rfl,aH.of ml2.em,rfl,_,rfl,aC lx _ _ _ ⟨rfl,rfl,aH.of ex2,hx5,_,rfl,aC m _ _ _ ⟨rfl,rfl,aH.of ml2.em,rfl,aI ls _ ⟨rfl,.inl (aH.of es2),aI _ _ ⟨rfl,rfl,(by rw[lkm];omega),?_⟩⟩⟩⟩⟩⟩
 dsimp only[aX,a6];rw[lkm,ei];refine (aC ls _ _ _ ⟨rfl,rfl,aH.of es2,ati,?_⟩);dsimp only[aX,a6];refine cut (fun σ H'=>σ= [Iw m,Iw ln,some (.int c),some (vN room),Iw lx,some (vN way),Iw sk.a]/\H2=H'/\4<=way) (fun N hN=>?_) ?_
 ·refine ⟨_,rfl,rfl,_,rfl,lZ (fun _=>⟨_,rfl,_,rfl,ck sk st lx ⟨rfl,hs,ndk,nn.len,hx2,fun H' g=>q "" ks M H' (ml2.same g) ok (.inl ⟨rfl,rfl⟩),?_⟩⟩) fun _=>hN _ _ ⟨rfl,rfl,by omega⟩⟩
  rintro z k' s' H' kp hs' ea nk nd ⟨lo,hi,e,le,rfl,rfl⟩;exact q _ _ _ _ (ml2.set hsk hst kp hs' ea nk nd) (ok.set ⟨so.nm,so.wd,so.le,so.fl,so.us,fun x hx=>by cases hx;exact ⟨le,by simp,fun i x h=>by simp at h⟩⟩) (.inr ⟨.sec st.n lo hi,rfl,⟨nn,le⟩,wv ok r12 zz hst e⟩)
 rintro σ _ ⟨rfl,rfl,w4⟩;obtain ⟨o,ho⟩:∃o:Bool,ig [V.str "with",.str "orwith"] ((way:Int)-4)=some (.str (if o=true then "orwith" else "with")):=by
  have:way=4∨way=5:=by omega
  rcases this with rfl|rfl
  ·exact ⟨false,rfl⟩
  ·exact ⟨true,rfl⟩
 refine ⟨_,rfl,by show 2<=sizeLine;decide,fun l2 n2=>?_⟩
 have g3:=aj n2 (.lst [.str "with",.str "orwith"]);have ml3:=ml2.same g3;refine ⟨_,rfl,aI _ _ ⟨rfl,rfl,aC l2 _ _ _ ⟨rfl,rfl,aH.of af,ho,_,rfl,_,rfl,kq sk st o ln lx zs ⟨rfl,hs.same g3,ndk,nn.len,g3 _ _ en2,zz,so.us.1,(fun x hx=>(so.sec x hx).2.1),hx2.same g3,(fun H' g=>q "" ks M H' (ml3.same g) ok (.inl ⟨rfl,rfl⟩)),?_⟩⟩⟩⟩
 rintro z k' s' H' kp hs' ea nk nd ⟨u,rfl,u1,u8,u9,hO⟩;cases o with
 |false=>
  obtain ⟨n12,hg,rfl⟩:=hO;exact q _ _ _ _ (ml3.set hsk hst kp hs' ea nk nd) (ok.set ⟨so.nm,so.wd,so.le,so.fl,so.us.snoc n12 hg ⟨u1,u8,u9⟩,so.sec⟩) (.inr ⟨.use false st.n u,rfl,⟨nn,zz.mem hg,u1,u8,u9⟩,D6 ok r12 zz hst hg n12⟩)
 |true=>
  obtain ⟨lo,hi,us,e,n12,hg,rfl⟩:=hO;exact q _ _ _ _ (ml3.set hsk hst kp hs' ea nk nd) (ok.set ⟨so.nm,so.wd,so.le,so.fl,so.us,fun x hx=>by cases hx;exact ⟨(so.sec _ e).1,(so.sec _ e).2.snoc n12 hg ⟨u1,u8,u9⟩⟩⟩) (.inr ⟨.use true st.n u,rfl,⟨nn,zz.mem hg,u1,u8,u9⟩,ww ok r12 zz hst e hg n12⟩)
theorem B7 {dV:Value} (F:br K "_law_step_same" "_law_step_same" zW dV f fd) (DZ43:jH P w K mg base a7 1 GU ["self"] [] (iw "cut")) (DZ44:jH P w K mg base a7 1 GT ["self"] [] (iw "warm")) (DZ45:jH P w K mg base a7 1 GS ["self"] [] (iw "rest")) (DZ47:Dx P w K mg base a7 1 "_law_whole" ["_law_found"] [] gI):aY P w K mg base a7 2 f fd ["_law_found","_law_due"] (jy Ff Ev on):=by
 have sc:aB ["_law_found","_law_due","_law_word","_law_name","_law_lengths_here","_law_fill","_law_uses","_law_second_here","_law_kinds"] ["_law_found","_law_due"] (av zW):=cS (by decide+kernel)
 refine F.ok sc (fun vs H Q E h=>?_) (fun cdv A outer s H vs Q E hr h=>?_)
 ·obtain ⟨_,_,_,rfl,_⟩:=h
  rfl
 obtain ⟨x,⟨a,u,so⟩,⟨w,n,lo,hi,fl,us,sec⟩,rfl,⟨C,dx,xu,sv,ff,ex,hC,sf,hfF,hxu,hsv⟩,⟨ll,f,v,ea,el,hf,hu,hs⟩,wd,fo,q⟩:=h;refine ⟨_,(ad (hU (pv 1) (pD rfl (bo (gh 2 sc) (bo (gh 3 sc) (bo (gh 4 sc) (bo (gh 5 sc) (bo (gh 6 sc) (bo (gh 7 sc) dY)))))))) (ad (bQ 8 sc (@bi _ _ _ _ (@aa _ _ _ _ _ (aK (eP (K:=K) rfl) rfl B.Fg boot_isinstance (@aa _ _ _ _ _ (pv 0) (@aa _ _ _ _ _ (cD (v:=V.ref Ff) rfl B.HR rfl) ae rfl) rfl)) (@aa _ _ _ _ _ (aK (eP (K:=K) rfl) rfl B.Fg boot_isinstance (@aa _ _ _ _ _ (pv 0) (@aa _ _ _ _ _ (cD (v:=V.ref Ev) rfl B.HJ rfl) ae rfl) rfl)) (@aa _ _ _ _ _ (aK (eP (K:=K) rfl) rfl B.Fg boot_isinstance (@aa _ _ _ _ _ (pv 0) (@aa _ _ _ _ _ (cD (v:=V.ref on) rfl B.HH rfl) ae rfl) rfl)) ae rfl) rfl) rfl))) (ad (aL (PW.pt (bU (bV (bR (aK (eP (K:=K) rfl) rfl B.Fg boot_isinstance (@aa _ _ _ _ _ (pv 0) (@aa _ _ _ _ _ (cD (v:=V.ref Fk) rfl B.HI rfl) ae rfl) rfl)))) (bN (ar (tP hr.units0) (pv 8) (@bi _ _ _ _ (@aa _ _ _ _ _ (eT bF (pv 2) aE (aA _)) (@aa _ _ _ _ _ (eT bF (pv 2) aE (aA _)) (@aa _ _ _ _ _ (eT bF (pv 2) aE (aA _)) ae rfl) rfl) rfl)) (aA _))))) (ah (ax cK)) ay) (ad (aL (PW.pt (bU (bV (bR (aK (b4 (K:=K) rfl) rfl B.Fg boot_isinstance (@aa _ _ _ _ _ (aU (pv 0) rfl) (@aa _ _ _ _ _ (ca (v:= .ty "str") rfl B.Gu boot_str rfl) ae rfl) rfl)))) (bU (ar dZ (aU (pv 0) rfl) (pv 3) (aA _)) (bN (ar dZ (fN (oV (pv 0) DZ43 hr (by decide)) (fN (oV (pv 0) DZ44 hr (by decide)) (oV (pv 0) DZ45 hr (by decide)))) (pv 2) (aA _)))))) (ah (ax cK)) ay) (ad (aL (PW.pt (bU (bV (bR (b5 DZ47 hr (@aa _ _ _ _ _ (aU (pv 0) rfl) ae rfl)))) (bU (bV (bR (b5 DZ47 hr (@aa _ _ _ _ _ (aU (pv 0) rfl) ae rfl)))) (bN (ar (tP hr.units0) (@bi _ _ _ _ (@aa _ _ _ _ _ (aU (pv 0) rfl) (@aa _ _ _ _ _ (aU (pv 0) rfl) ae rfl) rfl)) (pv 4) (aA _)))))) (ah (ax cK)) ay) (ad (aL (PW.pt (oo (ar bF (pv 2) aE (aA _)) (kP (PW.pt (bU (bV (bR (aK (b4 (K:=K) rfl) rfl B.Fg boot_isinstance (@aa _ _ _ _ _ (aU (pv 0) rfl) (@aa _ _ _ _ _ (ca (v:= .ty "tuple") rfl B.HC boot_tuple rfl) ae rfl) rfl)))) (bN (ar (qE 0 (ET (FT (by decide:0+1<64) _) hr.units)) (aU (pv 0) rfl) (pv 5) (aA _)))))))) (ah (ax cK)) ay) (ad (aL (PW.pt (bU (bV (bR (aK (b4 (K:=K) rfl) rfl B.Fg boot_isinstance (@aa _ _ _ _ _ (aU (pv 0) rfl) (@aa _ _ _ _ _ (ca (v:= .ty "list") rfl B.GD boot_list rfl) ae rfl) rfl)))) (bN (ar (pw 1 (ET (FT (by decide:1+1<64) _) hr.units)) (aU (pv 0) rfl) (pv 6) (aA _))))) (ah (ax cK)) ay) (ad (aL (ar cN (pv 7) bj (aA _)) (ah (ax (eT cN (aU (pv 0) rfl) bj (aA _)))) ay) (ah (ax (kR (aK (b4 (K:=K) rfl) rfl B.Fg boot_isinstance (@aa _ _ _ _ _ (aU (pv 0) rfl) (@aa _ _ _ _ _ (ca (v:= .ty "tuple") rfl B.HC boot_tuple rfl) ae rfl) rfl)) (kQ (eT (wf 2 (ET (FT (by decide:2+1<64) _) hr.units)) (aU (pv 0) rfl) (@bI _ _ _ _ _ (@aa _ _ _ _ _ (ao ai (ao ai (pv 7) ac (fun _ _=>rfl)) ac (fun _ _=>rfl)) (@aa _ _ _ _ _ (ao ai (ao ai (pv 7) ac (fun _ _=>rfl)) ac (fun _ _=>rfl)) (@aa _ _ _ _ _ (ao ai (pv 7) ac (fun _ _=>rfl)) ae rfl) rfl) rfl)) (aA _)))))))))))))),?_⟩
 try dsimp only[cxK]
 have sl:sizeLine=16777216:=sizeLine_eq;have scOf:∀{w:Str} {C:Addr},iD Ff Ev on w C->iC K C:=fun h=>by
  rcases h with ⟨_,rfl⟩|⟨_,rfl⟩|⟨_,rfl⟩
  ·exact ⟨B.Gy,B.Gm,B.Gh,B.Gn,B.Gk,B.Fx⟩
  ·exact ⟨B.Gp,B.Gf,B.Fw,B.Gg,B.Ge,B.Fp⟩
  ·exact ⟨B.Gj,B.Gc,B.Fu,B.Gd,B.Gb,B.Fo⟩
 dsimp only at ea el hf hu hs ex hC sf hfF hxu hsv wd fo;have el':H ll=some (.lst [vN lo,vN hi]):=el;have sc0:=scOf hC;refine ⟨_,rfl,aI a _ ⟨rfl,aH.of ea,rfl,aI _ _ ⟨rfl,aI _ _ ⟨rfl,aI _ _ ⟨rfl,aI _ _ ⟨rfl,aI _ _ ⟨rfl,aI _ _ ⟨rfl,rfl,?_⟩⟩⟩⟩⟩⟩⟩⟩;dsimp only[aX,a6];refine cut (fun σ H'=>∃kl,σ= [Iw x,Iw a,some (.str w),some (.str n),Iw ll,some f,Iw u,some v,Iw kl]/\aJ H H'/\H' kl=some (.lst (sG w))) (fun N hN=>?_) ?_
 ·rcases hC with ⟨rfl,rfl⟩|⟨rfl,rfl⟩|⟨rfl,rfl⟩
  ·refine ⟨_,rfl,aC _ _ _ true ⟨rfl,.ins ex B.Gy B.Gq.ha B.Gq.hn B.Gq.htk B.Gq.hm,B.Hw,_,rfl,aC _ _ _ false ⟨rfl,.ins ex B.Gy B.Gq.ha B.Gq.hn B.Gq.htk B.Gq.hm,B.Hn,_,rfl,aC _ _ _ false ⟨rfl,.ins ex B.Gy B.Gq.ha B.Gq.hn B.Gq.htk B.Gq.hm,B.Hk,by show 3<=sizeLine;decide,fun kl nkl=>hN _ _ ⟨kl,rfl,aj nkl _,?_⟩⟩⟩⟩⟩
   rw[af,yZ]
  ·refine ⟨_,rfl,aC _ _ _ false ⟨rfl,.ins ex B.Gp B.Ga.ha B.Ga.hn B.Ga.htk B.Ga.hm,B.Hj,_,rfl,aC _ _ _ true ⟨rfl,.ins ex B.Gp B.Ga.ha B.Ga.hn B.Ga.htk B.Ga.hm,B.Hc,_,rfl,aC _ _ _ false ⟨rfl,.ins ex B.Gp B.Ga.ha B.Ga.hn B.Ga.htk B.Ga.hm,B.Ha,by show 3<=sizeLine;decide,fun kl nkl=>hN _ _ ⟨kl,rfl,aj nkl _,?_⟩⟩⟩⟩⟩
   rw[af,wT]
  ·refine ⟨_,rfl,aC _ _ _ false ⟨rfl,.ins ex B.Gj B.Fy.ha B.Fy.hn B.Fy.htk B.Fy.hm,B.Hi,_,rfl,aC _ _ _ false ⟨rfl,.ins ex B.Gj B.Fy.ha B.Fy.hn B.Fy.htk B.Fy.hm,B.G9,_,rfl,aC _ _ _ true ⟨rfl,.ins ex B.Gj B.Fy.ha B.Fy.hn B.Fy.htk B.Fy.hm,B.G7,by show 3<=sizeLine;decide,fun kl nkl=>hN _ _ ⟨kl,rfl,aj nkl _,?_⟩⟩⟩⟩⟩
   rw[af,wU]
 rintro σ H1 ⟨kl,rfl,g1,ekl⟩;have ex1:=g1 _ _ ex;refine cut (fun σ H'=>σ= [Iw x,Iw a,some (.str w),some (.str n),Iw ll,some f,Iw u,some v,Iw kl]/\aJ H H') (fun N hN=>?_) ?_
 ·rcases hC with ⟨rfl,rfl⟩|⟨rfl,rfl⟩|⟨rfl,rfl⟩
  ·refine ⟨_,rfl,aC _ _ _ true ⟨rfl,.ins ex1 B.Gy B.Gq.ha B.Gq.hn B.Gq.htk B.Gq.hm,B.Hl,_,rfl,cq ⟨_,rfl,_,rfl,rfl,_,rfl,rfl,_,rfl,rfl,by show 3<=sizeLine;decide,fun l nl=>(ck kl l (sG "cut") ⟨rfl,rfl,aH.of ((aj nl _) _ _ ekl),aH.of af,pP _,_,rfl,cq (hN _ _ ⟨rfl,g1.trans (aj nl _)⟩)⟩)⟩⟩⟩
  ·refine ⟨_,rfl,aC _ _ _ true ⟨rfl,.ins ex1 B.Gp B.Ga.ha B.Ga.hn B.Ga.htk B.Ga.hm,B.Hb,_,rfl,cq ⟨_,rfl,_,rfl,rfl,_,rfl,rfl,_,rfl,rfl,by show 3<=sizeLine;decide,fun l nl=>(ck kl l (sG "rest") ⟨rfl,rfl,aH.of ((aj nl _) _ _ ekl),aH.of af,pP _,_,rfl,cq (hN _ _ ⟨rfl,g1.trans (aj nl _)⟩)⟩)⟩⟩⟩
  ·refine ⟨_,rfl,aC _ _ _ true ⟨rfl,.ins ex1 B.Gj B.Fy.ha B.Fy.hn B.Fy.htk B.Fy.hm,B.G8,_,rfl,cq ⟨_,rfl,_,rfl,rfl,_,rfl,rfl,_,rfl,rfl,by show 3<=sizeLine;decide,fun l nl=>(ck kl l (sG "warm") ⟨rfl,rfl,aH.of ((aj nl _) _ _ ekl),aH.of af,pP _,_,rfl,cq (hN _ _ ⟨rfl,g1.trans (aj nl _)⟩)⟩)⟩⟩⟩
 rintro σ H2 ⟨rfl,g2⟩;have ex2:=g2 _ _ ex;refine cut (fun σ H'=>σ= [Iw x,Iw a,some (.str w),some (.str n),Iw ll,some f,Iw u,some v,Iw kl]/\H2=H') (fun N hN=>?_) ?_
 ·rcases hC with ⟨rfl,rfl⟩|⟨rfl,rfl⟩|⟨rfl,rfl⟩
  ·exact ⟨_,rfl,aC x C dx ff ⟨_,⟨rfl,ex2,sc0.cl,sc0.name,sf.name,aC _ _ _ true ⟨rfl,.str _,rfl,_,rfl,cq ⟨_,rfl,aC x C dx ff ⟨_,⟨rfl,ex2,sc0.cl,sc0.name,sf.name,_,rfl,rfl,_,rfl,nF rfl (.inl ⟨_,rfl,aC x _ dx ff ⟨rfl,ex2,B.Gy,B.HX,sf.word,_,rfl,_,rfl,rfl,_,rfl,nF rfl (hN _ _ ⟨rfl,rfl⟩)⟩⟩)⟩⟩⟩⟩⟩⟩⟩
  ·exact ⟨_,rfl,aC x C dx ff ⟨_,⟨rfl,ex2,sc0.cl,sc0.name,sf.name,aC _ _ _ true ⟨rfl,.str _,rfl,_,rfl,cq ⟨_,rfl,aC x C dx ff ⟨_,⟨rfl,ex2,sc0.cl,sc0.name,sf.name,_,rfl,rfl,_,rfl,nF rfl (.inr (.inr ⟨_,rfl,aC x _ dx ff ⟨rfl,ex2,B.Gp,B.HV,sf.word,_,rfl,_,rfl,rfl,_,rfl,nF rfl (hN _ _ ⟨rfl,rfl⟩)⟩⟩))⟩⟩⟩⟩⟩⟩⟩
  ·exact ⟨_,rfl,aC x C dx ff ⟨_,⟨rfl,ex2,sc0.cl,sc0.name,sf.name,aC _ _ _ true ⟨rfl,.str _,rfl,_,rfl,cq ⟨_,rfl,aC x C dx ff ⟨_,⟨rfl,ex2,sc0.cl,sc0.name,sf.name,_,rfl,rfl,_,rfl,nF rfl (.inr (.inl ⟨_,rfl,aC x _ dx ff ⟨rfl,ex2,B.Gj,B.HW,sf.word,_,rfl,_,rfl,rfl,_,rfl,nF rfl (hN _ _ ⟨rfl,rfl⟩)⟩⟩))⟩⟩⟩⟩⟩⟩⟩
 rintro σ _ ⟨rfl,rfl⟩;refine cut (fun σ H'=>σ= [Iw x,Iw a,some (.str w),some (.str n),Iw ll,some f,Iw u,some v,Iw kl]/\aJ H H') (fun N hN=>?_) ?_
 ·refine ⟨_,rfl,aC x C dx ff ⟨_,⟨rfl,ex2,sc0.cl,sc0.least,sf.least,(lo:Int),rfl,true,rfl,cq ⟨_,rfl,aC x C dx ff ⟨_,⟨rfl,ex2,sc0.cl,sc0.most,sf.most,(hi:Int),rfl,true,rfl,cq ⟨_,rfl,aC x C dx ff ⟨_,⟨rfl,ex2,sc0.cl,sc0.least,sf.least,_,rfl,aC x C dx ff ⟨_,⟨rfl,ex2,sc0.cl,sc0.most,sf.most,by show 2<=sizeLine;decide,fun l nl=>?_⟩⟩⟩⟩⟩⟩⟩⟩⟩⟩⟩
  have g3:=aj nl (.lst [vN lo,vN hi]);refine ⟨_,rfl,ck l ll [vN lo,vN hi] ⟨rfl,rfl,aH.of af,aH.of (g3 _ _ (g2 _ _ el')),fun z hz=>?_,_,rfl,cq (hN _ _ ⟨rfl,g2.trans g3⟩)⟩⟩
  simp only[E3,E9,or_false] at hz;rcases hz with rfl|rfl<;>trivial
 clear ekl g2 ex2;rintro σ H3 ⟨rfl,g3⟩;have ex3:=g3 _ _ ex;refine cut (fun σ H'=>σ= [Iw x,Iw a,some (.str w),some (.str n),Iw ll,some f,Iw u,some v,Iw kl]/\H3=H') (fun N hN=>?_) ?_
 ·refine ⟨_,rfl,rfl,_,rfl,lL (fun e=>?_) fun e=>hN _ _ ⟨rfl,rfl⟩⟩
  subst e;have eC:C=on:=by
   rcases hC with ⟨z,_⟩|⟨z,_⟩|⟨_,z⟩
   ·exact absurd z (by decide)
   ·exact absurd z (by decide)
   ·exact z
  subst eC
  match fl,fo,hf,hfF with
  |none,z,_,_=>exact absurd rfl z
  |some am,_,⟨tf,ef,etf⟩,⟨tg,lg,etg⟩=>
  subst ef;exact ⟨_,rfl,aC x C dx ff ⟨_,⟨rfl,ex3,sc0.cl,B.GB,lg,aC _ _ _ true ⟨rfl,.tup (g3 _ _ etg),rfl,_,rfl,cq ⟨_,rfl,aC x C dx ff ⟨_,⟨rfl,ex3,sc0.cl,B.GB,lg,_,rfl,aC tg tf _ _ ⟨rfl,rfl,bZ.of (g3 _ _ etg),bZ.of (g3 _ _ etf),jn (vc am),_,rfl,cq (hN _ _ ⟨rfl,rfl⟩)⟩⟩⟩⟩⟩⟩⟩⟩
 rintro σ _ ⟨rfl,rfl⟩;refine cut (fun σ H'=>σ= [Iw x,Iw a,some (.str w),some (.str n),Iw ll,some f,Iw u,some v,Iw kl]/\H3=H') (fun N hN=>?_) ?_
 ·obtain ⟨xs1,e1,r1⟩:=hxu.same g3;obtain ⟨xs2,e2,r2⟩:=hu.same g3;exact ⟨_,rfl,aC x C dx ff ⟨_,⟨rfl,ex3,sc0.cl,sc0.uses,sf.uses,aC _ _ _ true ⟨rfl,.lst e1,rfl,_,rfl,cq ⟨_,rfl,aC x C dx ff ⟨_,⟨rfl,ex3,sc0.cl,sc0.uses,sf.uses,_,rfl,aC xu u _ _ ⟨rfl,rfl,aH.of e1,aH.of e2,pO r1 r2,_,rfl,cq (hN _ _ ⟨rfl,rfl⟩)⟩⟩⟩⟩⟩⟩⟩⟩
 rintro σ _ ⟨rfl,rfl⟩;have hs3:rX H3 v so sec:=(lQ g3).secL (fun b hb=>nomatch hb) (show rX H v so sec from hs) fun b _ z=>nomatch z
 have hsv3:=hsv.same g3
 match so,sec,hs3,hsv3 with
 |none,none,hs3,hsv3=>
  have hs3:v= .non:=hs3;have hsv3:sv= .non:=hsv3;subst hs3 hsv3;exact ⟨_,rfl,rfl,_,rfl,dT rfl ⟨_,rfl,aC x C dx ff ⟨_,⟨rfl,ex3,sc0.cl,sc0.second,sf.second,rfl,q _ g3⟩⟩⟩⟩
 |some (b,u2),some (lo2,hi2,us2),⟨l2,e1,e2,e3,⟨v2,e4,r4⟩⟩,⟨t2,l5,f1,f2,⟨v5,f3,r5⟩⟩=>
  subst e1 f1;have e3':H3 l2=some (.lst [vN lo2,vN hi2]):=e3;refine ⟨_,rfl,rfl,_,rfl,dF (fun z=>nomatch z) ?_⟩
  refine ⟨_,rfl,aC x C dx ff ⟨_,⟨rfl,ex3,sc0.cl,sc0.second,sf.second,aC _ _ _ true ⟨rfl,.tup f2,rfl,_,rfl,?_⟩⟩⟩⟩;refine kZ ⟨_,rfl,aC x C dx ff ⟨_,⟨rfl,ex3,sc0.cl,sc0.second,sf.second,_,rfl,aC b _ _ _ ⟨rfl,rfl,aH.of e2,rfl,aC l2 _ _ _ ⟨rfl,rfl,aH.of e3',rfl,_,rfl,aC b _ _ _ ⟨rfl,rfl,aH.of e2,rfl,l2,_,_,_,rfl,rfl,aH.of e3',rfl,_,rfl,b,_,_,_,rfl,rfl,aH.of e2,rfl,by show 3<=sizeLine;decide,fun tc ntc=>?_⟩⟩⟩⟩⟩⟩
  have g4:=aj ntc (.tup [vN lo2,vN hi2,.ref u2]);have r4':=r4.imp fun _ _ q=>vm (R:=cy gE) q g4
  have r5':=r5.imp fun _ _ q=>vm (R:=cy gE) q g4
  exact (aC t2 tc _ _ ⟨rfl,rfl,bZ.of (g4 _ _ f2),bZ.of af,⟨.inl (.inl ⟨rfl,trivial⟩),.inl (.inl ⟨rfl,trivial⟩),.inr (aC l5 u2 _ _ ⟨rfl,rfl,.inr ⟨aH.of (g4 _ _ f3),aH.of (g4 _ _ e4)⟩,pO r5' r4'⟩),trivial⟩,q _ (g3.trans g4)⟩)
theorem B8 {dV:Value} (F:br K "_law_up" "_law_up" zX dV f fd):aY P w K mg base a7 1 f fd ["_law_top","_law_bottom"] xD:=by
 have sc:aB ["_law_top","_law_bottom"] ["_law_top","_law_bottom"] (av zX):=cS (by decide+kernel)
 refine F.ok sc (fun vs H Q E h=>?_) (fun cdv A outer s H vs Q E hr h=>?_)
 ·obtain ⟨_,_,rfl,_⟩:=h
  rfl
 obtain ⟨a,b,rfl,b0,b9,q⟩:=h;refine ⟨_,(ah (ax (jM hW (aw bJ (jM hW (pv 0)) (pv 1))))),?_⟩;try dsimp only[cxK]
 exact ⟨_,rfl,_,rfl,_,rfl,aI _ _ ⟨rfl,rfl,⟨by omega,Eb (by omega)⟩,_,rfl,q⟩⟩
theorem B9 {dV:Value} (F:br K "_law_grows" "_law_grows" zY dV f fd) (DZ33:jH P w K mg base a7 7 Gv ["self","factor"] [] (nD K Gv Gw Gz GE)) (DZ34:jH P w K mg base a7 1 GF ["self","factor","size"] [] jh) (DZ35:jH P w K mg base a7 4 GV ["self","factor","size"] [] (nB K)) (DZ60:Dx P w K mg base a7 1 "_law_up" ["_law_top","_law_bottom"] [] xD):aY P w K mg base a7 8 f fd ["_law_found","_law_due","_law_factor"] (qW K Ff Ev on):=by
 have sc:aB ["_law_found","_law_due","_law_factor","_law_word","_law_name","_law_lengths_here","_law_fill","_law_uses","_law_second_here","_law_ways","_law_rounds","_law_told","_law_k","_law_least","_law_most","_law_some"] ["_law_found","_law_due","_law_factor"] (av zY):=cS (by decide+kernel)
 refine F.ok sc (fun vs H Q E h=>?_) (fun cdv A outer s H vs Q E hr h=>?_)
 ·obtain ⟨_,_,_,_,_,_,rfl,_⟩:=h
  rfl
 refine qJ h fun x _r1 _r2 tf fp fq _hi=>?_
 refine yu _hi fun _r3 sto _r4 sb nds etf f1 f9 _hj=>?_
 refine uF _hj fun q1 q9 q=>?_
 clear h _hi _hj;obtain ⟨a,u,so⟩:=_r1;obtain ⟨w,n,lo,hi,fl,us,sec⟩:=_r2;subst _r3;obtain ⟨ll,f,v,ea,el,hf,hu,hs⟩:=_r4;refine ⟨_,(ad (hU (pv 1) (pD rfl (bo (gh 3 sc) (bo (gh 4 sc) (bo (gh 5 sc) (bo (gh 6 sc) (bo (gh 7 sc) (bo (gh 8 sc) dY)))))))) (ad (bQ 9 sc (@bi _ _ _ _ (@aa _ _ _ _ _ (@bi _ _ _ _ (@aa _ _ _ _ _ (ao ai (pv 5) ac (fun _ _=>rfl)) (@aa _ _ _ _ _ (ao ai (pv 5) ac (fun _ _=>rfl)) (@aa _ _ _ _ _ (pv 7) ae rfl) rfl) rfl)) ae rfl))) (ad (aL (ar iN (pv 8) bj (aA _)) (ah (bw (c6 EY EX EW bG (pv 9) (@aa _ _ _ _ _ (@bi _ _ _ _ (@aa _ _ _ _ _ (ao ai (ao ai (pv 8) ac (fun _ _=>rfl)) ac (fun _ _=>rfl)) (@aa _ _ _ _ _ (ao ai (ao ai (pv 8) ac (fun _ _=>rfl)) ac (fun _ _=>rfl)) (@aa _ _ _ _ _ (ao ai (pv 8) ac (fun _ _=>rfl)) ae rfl) rfl) rfl)) ae rfl)))) ay) (ad (bQ 10 sc ac) (ad (aL (ar bF (pv 3) aE (aA _)) (ah (bQ 10 sc (b5 DZ60 hr (@aa _ _ _ _ _ (aw bS (ao aT (pv 6) ac (fun _ _=>rfl)) (ao aT (pv 2) ac (fun _ _=>rfl))) (@aa _ _ _ _ _ (aw bS (ao aT (pv 6) ac (fun _ _=>rfl)) (ao aT (pv 2) ac (fun _ _=>rfl))) ae rfl) rfl)))) ay) (ad (bQ 11 sc (gv (pv 0) DZ33 hr (by decide) (@aa _ _ _ _ _ (pv 2) ae rfl))) (ad (aL (PW.pt (bU (ar dZ (fN (gv (pv 0) DZ34 hr (by decide) (@aa _ _ _ _ _ (pv 2) (@aa _ _ _ _ _ (@bI _ _ _ _ _ (@aa _ _ _ _ _ ac (@aa _ _ _ _ _ ac ae rfl) rfl)) ae rfl) rfl)) (gv (pv 0) DZ35 hr (by decide) (@aa _ _ _ _ _ (pv 2) (@aa _ _ _ _ _ (@bI _ _ _ _ _ (@aa _ _ _ _ _ ac (@aa _ _ _ _ _ ac ae rfl) rfl)) ae rfl) rfl))) (pv 10) (aA _)) (bU (bV (bR (aK (b4 (K:=K) rfl) rfl B.Fg boot_isinstance (@aa _ _ _ _ _ (pv 11) (@aa _ _ _ _ _ (ca (v:= .ty "list") rfl B.GD boot_list rfl) ae rfl) rfl)))) (bN (ar dZ (aK aV rfl B.Go boot_len (@aa _ _ _ _ _ (pv 11) ae rfl)) (aK aV rfl B.Go boot_len (@aa _ _ _ _ _ (pv 9) ae rfl)) (aA _)))))) (ah (ax cK)) ay) (ad (eG PassesOwn.never rfl (fL rfl B.GP (@aa _ _ _ _ _ (aK aV rfl B.Go boot_len (@aa _ _ _ _ _ (pv 9) ae rfl)) ae rfl)) (gh 12 sc) (ad (hU (ao ai (pv 9) (pv 12) (fun _ _=>rfl)) (pD rfl (bo (gh 13 sc) (bo (gh 14 sc) (bo (gh 15 sc) dY))))) (ad (aL (ar bF (pv 3) aE (aA _)) (ad (bQ 13 sc (b5 DZ60 hr (@aa _ _ _ _ _ (aw bS (pv 13) (ao aT (pv 2) ac (fun _ _=>rfl))) (@aa _ _ _ _ _ (ao aT (pv 2) ac (fun _ _=>rfl)) ae rfl) rfl))) (ah (bQ 14 sc (b5 DZ60 hr (@aa _ _ _ _ _ (aw bS (pv 14) (ao aT (pv 2) ac (fun _ _=>rfl))) (@aa _ _ _ _ _ (ao aT (pv 2) ac (fun _ _=>rfl)) ae rfl) rfl))))) ay) (ah (aL (ar (qE 2 (ET (FT (by decide:2+1<64) _) hr.units)) (ao ai (pv 11) (pv 12) (fun _ _=>rfl)) (@bI _ _ _ _ _ (@aa _ _ _ _ _ (pv 13) (@aa _ _ _ _ _ (pv 14) (@aa _ _ _ _ _ (aK je rfl B.Hz PyProof.Rows.Boot.«sorted» (@aa _ _ _ _ _ (pv 15) ae rfl)) ae rfl) rfl) rfl)) (aA _)) (ah (ax cK)) ay))))) (ah (ax cK)))))))))),?_⟩
 try dsimp only[cxK]
 have sl:sizeLine=16777216:=sizeLine_eq;dsimp only at ea el hf hu hs;have el':H ll=some (.lst [vN lo,vN hi]):=el;refine ⟨_,rfl,aI a _ ⟨rfl,aH.of ea,rfl,aI _ _ ⟨rfl,aI _ _ ⟨rfl,aI _ _ ⟨rfl,aI _ _ ⟨rfl,aI _ _ ⟨rfl,aI _ _ ⟨rfl,rfl,?_⟩⟩⟩⟩⟩⟩⟩⟩;dsimp only[aX,a6];have hs0:rX H v so sec:=hs;have wne:∀{b:Addr} {o:HO} {H9:Hp},H9 b=some o->∀{z:Addr},H9 z=none->b≠z:=fun h z hz e=>by rw[e,hz] at h;cases h
 refine cut (fun σ H'=>∃(wl l1:Addr),σ= [Iw x,Iw a,Iw tf,some (.str w),some (.str n),Iw ll,some f,Iw u,some v,Iw wl,none,none,none,none,none,none]/\aJ H H'/\H' wl=some (.lst [.ref l1])/\H wl=none/\l1≠wl/\H' l1=some (.lst [vN lo,vN hi,.ref u])) (fun N hN=>?_) ?_
 ·refine ⟨_,rfl,aC ll _ _ _ ⟨rfl,rfl,aH.of el',rfl,_,rfl,aC ll _ _ _ ⟨rfl,rfl,aH.of el',rfl,_,rfl,by show 3<=sizeLine;decide,fun l1 n1=>⟨by show 1<=sizeLine;decide,fun wl jq=>?_⟩⟩⟩⟩
  have k1:=aj n1 (.lst [vN lo,vN hi,.ref u]);have k2:=aj jq (.lst [.ref l1]);exact hN _ _ (aI wl l1 ⟨rfl,k1.trans k2,af,k1.free jq,wne (af (H:=H) (a:=l1) (o:= .lst [vN lo,vN hi,.ref u])) jq,k2 _ _ (af (H:=H) (a:=l1) (o:= .lst [vN lo,vN hi,.ref u]))⟩)
 rintro σ H1 ⟨wl,l1,rfl,k12,ewl,jq,nl1,el1⟩;refine cut (fun σ H'=>∃(ws:List V),σ= [Iw x,Iw a,Iw tf,some (.str w),some (.str n),Iw ll,some f,Iw u,some v,Iw wl,none,none,none,none,none,none]/\aJ H H'/\H' wl=some (.lst ws)/\A2 (Cq H') ws (sH ⟨w,n,lo,hi,fl,us,sec⟩)) (fun N hN=>?_) ?_
 ·match so,sec,hs0 with
  |none,none,hs0=>
   have hs0:v= .non:=hs0;subst hs0;exact ⟨_,rfl,rfl,_,rfl,nF rfl (hN _ _ ⟨_,rfl,k12,ewl,A2.cons (aI l1 u ⟨rfl,el1,hu.same k12⟩) A2.nil⟩)⟩
  |some (b,u2),some (lo2,hi2,us2),⟨l2,e1,e2,e3,e4⟩=>
   subst e1;have e2':=k12 _ _ e2;have e3':H1 l2=some (.lst [vN lo2,vN hi2]):=k12 _ _ e3;refine ⟨_,rfl,rfl,_,rfl,nT (fun z=>nomatch z) ⟨_,rfl,.inl ⟨rfl,_,aH.of ewl⟩,_,rfl,aC b _ _ _ ⟨rfl,rfl,aH.of e2',rfl,aC l2 _ _ _ ⟨rfl,rfl,aH.of e3',rfl,_,rfl,aC b _ _ _ ⟨rfl,rfl,aH.of e2',rfl,aC l2 _ _ _ ⟨rfl,rfl,aH.of e3',rfl,_,rfl,b,_,_,_,rfl,rfl,aH.of e2',rfl,by show 3<=sizeLine;decide,fun l3 n3=>?_⟩⟩⟩⟩⟩⟩
   have k3:=aj n3 (.lst [vN lo2,vN hi2,.ref u2]);have gg:=oU (k12.trans k3) jq (.lst ([.ref l1]++ [.ref l3]));have nl3:l3≠wl:=(wne ewl n3).symm;refine (ck wl _ _ ⟨rfl,rfl,k3 _ _ ewl,(by show 1<sizeLine;decide),hN _ _ ⟨_,rfl,gg,af,A2.cons (aI l1 u ⟨rfl,by rw[az nl1];exact k3 _ _ el1,hu.same gg⟩) (A2.cons (aI l3 u2 ⟨rfl,by rw[az nl3];exact af,iK.same e4 gg⟩) A2.nil)⟩⟩)
 clear k12 ewl jq nl1 el1;rintro σ H2 ⟨ws,rfl,g2,ewl,rws⟩;obtain ⟨cut0,hcut⟩:∃b,b=decide (w= "cut"):=⟨_,rfl⟩;have etf2:=g2 _ _ etf;have frp:Bd 67 (fp:Int):=iM (Ef f9 (by decide))
 have frq:Bd 67 (fq:Int):=iM (Ef q9 (by decide))
 refine cut (fun σ H'=>σ= [Iw x,Iw a,Iw tf,some (.str w),some (.str n),Iw ll,some f,Iw u,some v,Iw wl,some (.int 1),none,none,none,none,none]/\H2=H') (fun N hN=>hN _ _ ⟨rfl,rfl⟩) ?_
 rintro σ _ ⟨rfl,rfl⟩;refine cut (fun σ H'=>∃rn:Int,σ= [Iw x,Iw a,Iw tf,some (.str w),some (.str n),Iw ll,some f,Iw u,some v,Iw wl,some (.int rn),none,none,none,none,none]/\H2=H'/\rn=(match fl with|none=>1|some am=> -((-((am.1:Int)*(fp:Int))).fdiv ((am.2:Int)*(fq:Int))))) (fun N hN=>?_) ?_
 ·refine ⟨_,rfl,rfl,_,rfl,lL (fun e=>?_) fun e=>?_⟩
  ·match fl,sb.fl,hf with
   |none,z,_=>exact absurd e z
   |some am,⟨_,ag⟩,⟨ta,ef,eta⟩=>
   subst ef;have eta2:=g2 _ _ eta;have ap:=ag.rd.pos;have aq:=ag.bq;have m1:am.2*fq<=1000*9:=Nat.mul_le_mul (by omega) q9
   have m0:0<am.2*fq:=Nat.mul_pos (by omega) (by omega)
   have aP:Bd 140 (am.1:Int):=iM (ET ag.bp (by decide))
   have aQ:Bd 140 (am.2:Int):=iM (ET aq (by decide))
   refine ⟨_,rfl,aC ta _ _ _ ⟨rfl,rfl,bZ.of eta2,rfl,_,rfl,aC tf _ _ _ ⟨rfl,rfl,bZ.of etf2,rfl,aI _ _ ⟨rfl,rfl,aP.ok frp,_,rfl,aC ta _ _ _ ⟨rfl,rfl,bZ.of eta2,rfl,_,rfl,ck tf _ _ ⟨_,rfl,rfl,bZ.of etf2,rfl,_,_,rfl,rfl,aQ.ok frq,_,_,rfl,?_,?_,hN _ _ ⟨_,rfl,rfl,rfl⟩⟩⟩⟩⟩⟩⟩
   ·rw[<-Et];exact Int.ofNat_lt.mpr m0
   ·rw[<-Et];exact Int.ofNat_lt.mpr (show am.2*fq<1000000000 by omega)
  ·match fl,sb.fl with
   |some am,z=>exact absurd z.1 e
   |none,_=>exact hN _ _ ⟨1,rfl,rfl,rfl⟩
 rintro σ _ ⟨rn,rfl,rfl,hrn⟩;obtain ⟨C,as,c,hC,sta,ra,rc⟩:=(sto.same g2).sta;obtain ⟨dx,u0,sv,ff,ex,sf,_⟩:=id sta.ex;have hfF:gf H2 ff fl:=by
  obtain ⟨C',dx',u',sv',ff',ex',hC',sf',hf',_⟩:=sto.same g2;rw[ex] at ex';cases ex';exact hf'
 have sm:C2 K C Gv Gw Gz GE (decide (w= "cut")):=by
  rcases hC with ⟨e,rfl⟩|⟨e,rfl⟩|⟨e,rfl⟩
  all_goals (dsimp only at e)
  ·rw[e];exact ⟨⟨B.Gy,B.Gm,B.Gh,B.Gn,B.Gk,B.Fx⟩,B.Hg,B.GQ,B.HZ⟩
  ·rw[e];exact ⟨⟨B.Gp,B.Gf,B.Fw,B.Gg,B.Ge,B.Fp⟩,B.G5,B.GM,B.Hf⟩
  ·rw[e];exact ⟨⟨B.Gj,B.Gc,B.Fu,B.Gd,B.Gb,B.Fo⟩,B.G4,B.GL,B.He⟩
 obtain ⟨dl,da⟩:=wW (s:=⟨w,n,lo,hi,fl,us,sec⟩) ra rc;have dok:=Bg sb nds;have frf:cQ K 67 H2 tf fp fq:=⟨bZ.of etf2,by omega,frp,frq⟩
 have dBd:∀d∈eH (lo:Int) (hi:Int) as c,Bd 210 d.1/\Bd 210 d.2.1/\UL H2 d.2.2 (vo H2):=fun d hd=>by
  obtain ⟨i,hi'⟩:=ED.mp hd;have il:i<(sH ⟨w,n,lo,hi,fl,us,sec⟩).length:=by rw[<-dl];exact bE hi'
  have he:=E1 il;obtain ⟨k1,k2,k3⟩:=da i d _ hi' he;obtain ⟨⟨o1,o2,o3⟩,o4⟩:=dok _ (E4 he);refine ⟨?_,?_,xC k3 o4⟩
  ·rw[k1];exact (iM (k:=20) (by omega)).mono (by decide)
  ·rw[k2];exact (iM (k:=20) (by omega)).mono (by decide)
 refine cut (fun σ H'=>∃lw:Addr,σ= [Iw x,Iw a,Iw tf,some (.str w),some (.str n),Iw ll,some f,Iw u,some v,Iw wl,some (.int rn),Iw lw,none,none,none,none]/\aJ H2 H'/\uC H2 H' lw (decide (w= "cut")) fp fq (eH (lo:Int) (hi:Int) as c) (vo H2)) (fun N hN=>?_) ?_
 ·exact ⟨_,rfl,aC x C dx ff ⟨rfl,ex,sm.c.cl,sm.grown,sf.grown,_,rfl,jA x C tf n lo hi fp fq as (ck c (vo H2) (decide (w= "cut")) ⟨rfl,sta,sm,⟨frf.at_,frf.pos,frf.bp.mono (by decide),frf.bq.mono (by decide)⟩,dBd,fun lw H' g wa=>hN _ _ ⟨lw,rfl,g,wa⟩⟩)⟩⟩
 rintro σ H3 ⟨lw,rfl,g3,wa⟩;have ex3:=g3 _ _ ex;have nrd:=sf.rounds;obtain ⟨ts,elw,lts,_,wts,_⟩:=wa.ex;have ewl3:=g3 _ _ ewl;have etf3:=g3 _ _ etf2;have rws3:=rws.imp fun _ _ h=>h.same g3
 have lws:=rws.1;have ltd:ts.length=(sH ⟨w,n,lo,hi,fl,us,sec⟩).length:=lts.trans dl;have lds:(sH ⟨w,n,lo,hi,fl,us,sec⟩).length<=2:=by
  unfold sH;cases sec<;>simp
 refine cut (fun σ H'=>σ= [Iw x,Iw a,Iw tf,some (.str w),some (.str n),Iw ll,some f,Iw u,some v,Iw wl,some (.int rn),Iw lw,none,none,none,none]/\aJ H3 H') (fun N hN=>?_) ?_
 ·rcases hC with ⟨e,rfl⟩|⟨e,rfl⟩|⟨e,rfl⟩
  all_goals (dsimp only at e)
  ·match fl,sb.fl with
   |some am,z=>exact absurd (e.symm.trans z.1) (by decide)
   |none,_=>
   subst hrn;refine .inl ⟨_,rfl,aC x _ dx ff ⟨rfl,ex3,B.Gy,B.G6,nrd,_,rfl,by show 2<=sizeLine;decide,fun tp ntp=>(ck _ _ _ ⟨rfl,_,rfl,rfl,_,rfl,nF rfl ?_⟩)⟩⟩
   have g5:=aj ntp (.tup [.int 1,.int 1]);refine ⟨_,rfl,aC _ _ _ true ⟨rfl,.lst (g5 _ _ elw),rfl,_,rfl,cq ⟨_,rfl,aI lw _ ⟨rfl,.inl (aH.of (g5 _ _ elw)),_,rfl,aI wl _ ⟨rfl,.inl (aH.of (g5 _ _ ewl3)),rfl,_,rfl,nF ?_ (hN _ _ ⟨rfl,g5⟩)⟩⟩⟩⟩⟩;rw[E5,ltd,lws]
  ·match fl,sb.fl with
   |some am,z=>exact absurd (e.symm.trans z.1) (by decide)
   |none,_=>
   subst hrn;refine .inl ⟨_,rfl,aC x _ dx ff ⟨rfl,ex3,B.Gp,B.GZ,nrd,_,rfl,by show 2<=sizeLine;decide,fun tp ntp=>(ck _ _ _ ⟨rfl,_,rfl,rfl,_,rfl,nF rfl ?_⟩)⟩⟩
   have g5:=aj ntp (.tup [.int 1,.int 1]);refine ⟨_,rfl,aC _ _ _ true ⟨rfl,.lst (g5 _ _ elw),rfl,_,rfl,cq ⟨_,rfl,aI lw _ ⟨rfl,.inl (aH.of (g5 _ _ elw)),_,rfl,aI wl _ ⟨rfl,.inl (aH.of (g5 _ _ ewl3)),rfl,_,rfl,nF ?_ (hN _ _ ⟨rfl,g5⟩)⟩⟩⟩⟩⟩;rw[E5,ltd,lws]
  ·match fl,sb.fl,hf,hfF with
   |none,z,_,_=>exact absurd e z
   |some am,⟨_,ag⟩,⟨ta,ef,eta⟩,⟨tg,lg,etg⟩=>
   subst hrn;have ap:=ag.rd.pos;refine .inr ⟨_,rfl,aC x _ dx ff ⟨rfl,ex3,B.Gj,B.HY,nrd,_,rfl,by show 2<=sizeLine;decide,fun tp ntp=>?_⟩⟩
   have g5:=aj ntp (.tup [.int 1,.int 1]);have e1:aS H3 tp (.tup [.int 1,.int 1]) tp=some (.tup [.int 1,.int 1]):=af;generalize aS H3 tp (.tup [.int 1,.int 1])=H5 at g5 e1⊢;refine (jA x _ dx tg tf tp ff am.1 am.2 (aC fp fq 1 1 ⟨rfl,g5 _ _ ex3,B.Gj,B.GB,lg,⟨bZ.of (g5 _ _ (g3 _ _ etg)),by omega,iM (ET ag.bp (by decide)),iM (ET ag.bq (by decide))⟩,⟨bZ.of (g5 _ _ etf3),frf.pos,frp.mono (by decide),frq.mono (by decide)⟩,⟨bZ.of e1,by decide,iM (n:=1) (by decide),iM (n:=1) (by decide)⟩,by decide,fun nn H6 g6 rd=>?_⟩))
   have en:=y3 (by omega) (by omega) rd
   subst en;have g5:=g5.trans g6;refine ⟨_,rfl,rfl,_,rfl,nF rfl ⟨_,rfl,aC _ _ _ true ⟨rfl,.lst (g5 _ _ elw),rfl,_,rfl,cq ⟨_,rfl,aI lw _ ⟨rfl,.inl (aH.of (g5 _ _ elw)),_,rfl,aI wl _ ⟨rfl,.inl (aH.of (g5 _ _ ewl3)),rfl,_,rfl,nF ?_ (hN _ _ ⟨rfl,g5⟩)⟩⟩⟩⟩⟩⟩;rw[E5,ltd,lws]
 rintro σ H4 ⟨rfl,g4⟩;have ewl4:=g4 _ _ ewl3;have elw4:=g4 _ _ elw;have etf4:=g4 _ _ etf3;have hws:ws.length<=2:=by omega
 refine cut (fun σ H'=>(∃o1 o2 o3 o4,σ= [Iw x,Iw a,Iw tf,some (.str w),some (.str n),Iw ll,some f,Iw u,some v,Iw wl,some (.int rn),Iw lw,o1,o2,o3,o4])/\aJ H4 H') (fun N hN=>?_) ?_
 ·refine ⟨_,rfl,aI wl _ ⟨rfl,.inl (aH.of ewl4),_,rfl,by omega,by omega,fM (fun i σ H'=>(∃o1 o2 o3 o4,σ= [Iw x,Iw a,Iw tf,some (.str w),some (.str n),Iw ll,some f,Iw u,some v,Iw wl,some (.int rn),Iw lw,o1,o2,o3,o4])/\aJ H4 H') ⟨(aC none none none none rfl),.refl _⟩ ?_ ?_⟩⟩
  ·rintro i σ H5 il ⟨⟨o1,o2,o3,o4,rfl⟩,g5⟩;rw[show (0:Int)+(i:Int)=(i:Int) by omega]
   have g45:=g4.trans g5;have g35:=g3.trans g45;have hd:=E1 (l:=sH ⟨w,n,lo,hi,fl,us,sec⟩) (i:=i) (by omega)
   generalize (sH ⟨w,n,lo,hi,fl,us,sec⟩)[i]=d0 at hd;obtain ⟨vw,hw,wa1,ul,rfl,ew,⟨vu,eul,rul⟩⟩:=rws3.get hd;obtain ⟨bs0,rfl⟩:=A2.ref rul;have ht:=E1 (l:=ts) (i:=i) (by omega)
   generalize ts[i]=t0 at ht;have hdd:=E1 (l:=eH (lo:Int) (hi:Int) as c) (i:=i) (by omega)
   generalize (eH (lo:Int) (hi:Int) as c)[i]=dd at hdd;obtain ⟨dd1,dd2,dd3⟩:=da i dd d0 hdd hd;obtain ⟨nn,kk,ls,bs,et0,els,gn,gk,so0,_⟩:=(wts i t0 dd ht hdd).ex;rw[dd1] at gn;rw[dd2] at gk;have en:=vg gn q1;have ek:=vg gk q1;obtain ⟨⟨o5,o6,o7⟩,und⟩:=dok d0 (E4 hd);have ew5:=g45 _ _ ew;have etf5:=g5 _ _ etf4;refine ⟨_,rfl,_,rfl,aC wl _ _ _ ⟨rfl,rfl,aH.of (g5 _ _ ewl4),(aF hw),aI wa1 _ ⟨rfl,aH.of ew5,rfl,aI _ _ ⟨rfl,aI _ _ ⟨rfl,aI _ _ ⟨rfl,rfl,?_⟩⟩⟩⟩⟩⟩;dsimp only[aX,a6];refine cut (fun σ H'=>σ= [Iw x,Iw a,Iw tf,some (.str w),some (.str n),Iw ll,some f,Iw u,some v,Iw wl,some (.int rn),Iw lw,some (.int i),some (.int nn),some (.int kk),Iw ul]/\H5=H') (fun N hN=>?_) ?_
   ·refine ⟨_,rfl,rfl,_,rfl,lL (fun e=>?_) fun e=>?_⟩
    ·rw[decide_eq_true e] at en ek;have bl:Bd 20 (d0.1:Int):=iM (Ef (EV o6 o7) (by decide))
     have bm:Bd 20 (d0.2.1:Int):=iM (Ef o7 (by decide))
     refine ⟨_,rfl,_,rfl,aC tf _ _ _ ⟨rfl,rfl,bZ.of etf5,rfl,aI _ _ ⟨rfl,rfl,bl.ok frp,_,rfl,aC tf _ _ _ ⟨rfl,rfl,bZ.of etf5,rfl,aI _ _ ⟨rfl,by omega,by omega,?_⟩⟩⟩⟩⟩
     dsimp only[aX,a6];refine ⟨_,rfl,_,rfl,aC tf _ _ _ ⟨rfl,rfl,bZ.of etf5,rfl,aI _ _ ⟨rfl,rfl,bm.ok frp,_,rfl,aC tf _ _ _ ⟨rfl,rfl,bZ.of etf5,rfl,aI _ _ ⟨rfl,by omega,by omega,hN _ _ ⟨?_,rfl⟩⟩⟩⟩⟩⟩
     rw[en,ek]
     rfl
    ·rw[decide_eq_false e] at en ek;exact hN _ _ ⟨by rw[en,ek];rfl,rfl⟩
   rintro σ _ ⟨rfl,rfl⟩;have rul5:=rul.imp fun _ _ h=>vm (R:=cy gE) h g45
   have ulo:=xC rul5 und;refine ⟨_,rfl,_,rfl,aC lw _ _ _ ⟨rfl,rfl,aH.of (g5 _ _ elw4),(aF (by rw[E7,ht];rfl)),_,rfl,_,rfl,_,rfl,ck ul bs0 (vo H5) ⟨rfl,g45 _ _ eul,ulo.tup,ulo.nd,ulo.sm,fun p2 bs2 np2 pr2 sr2=>⟨by show 3<=sizeLine;decide,fun tc ntc=>?_⟩⟩⟩⟩
   have k1:=aj np2 (.lst (bs2.map V.ref));have k2:=aj ntc (.tup [.int nn,.int kk,.ref p2]);have k12:=k1.trans k2;obtain ⟨a1,a2,a3⟩:=vf dd3 so0;obtain ⟨b1,b2,b3⟩:=vf rul5 ⟨pr2,sr2⟩;have eU:=pQ und.1 a2 b2 a3 b3;rw[eU] at a1;have r1:=a1.imp fun _ _ h=>vm (R:=cy gE) h (g35.trans k12)
   have r2:=b1.imp fun _ _ h=>vm (R:=cy gE) h k12
   exact (aC t0 tc _ _ ⟨rfl,rfl,bZ.of (k12 _ _ (g45 _ _ et0)),bZ.of af,⟨.inl (.inl ⟨rfl,trivial⟩),.inl (.inl ⟨rfl,trivial⟩),.inr (aC ls p2 _ _ ⟨rfl,rfl,.inr ⟨aH.of (k12 _ _ (g45 _ _ els)),aH.of (k2 _ _ af)⟩,pO r1 r2⟩),trivial⟩,_,rfl,cq ⟨(aC _ _ _ _ rfl),g5.trans k12⟩⟩)
  ·rintro σ H5 h;exact hN _ _ h
 rintro σ H5 ⟨⟨o1,o2,o3,o4,rfl⟩,g5⟩;exact q _ (((g2.trans g3).trans g4).trans g5)
theorem Ca {dV:Value} (F:br K "_law_same" "_law_same" zZ dV f fd) (DZ47:Dx P w K mg base a7 1 "_law_whole" ["_law_found"] [] gI) (DZ59:Dx P w K mg base a7 2 "_law_step_same" ["_law_found","_law_due"] [] (jy Ff Ev on)) (DZ61:Dx P w K mg base a7 8 "_law_grows" ["_law_found","_law_due","_law_factor"] [] (qW K Ff Ev on)):aY P w K mg base a7 9 f fd ["_law_recipe","_law_name","_law_plates","_law_model"] (qX Ff Ev on Fe):=by
 have sc:aB ["_law_recipe","_law_name","_law_plates","_law_model","_law_factor","_law_k"] ["_law_recipe","_law_name","_law_plates","_law_model"] (av zZ):=cS (by decide+kernel)
 refine F.ok sc (fun vs H Q E h=>?_) (fun cdv A outer s H vs Q E hr h=>?_)
 ·obtain ⟨_,_,_,_,_,_,_,_,_,_,rfl,_⟩:=h
  rfl
 refine ku h fun r n p G m lt ls lk ks _hi=>?_
 refine sD _hi fun M _hj=>?_
 refine jC _hj fun _r1 _r2 ml bd nds q=>?_
 clear h _hi _hj;subst _r1;obtain ⟨rt,rs,rk,⟨dx,er⟩,⟨vt,et,at_⟩,⟨vs,es,as⟩,⟨vk,ek,ak⟩⟩:=_r2;refine ⟨_,(ad (aL (PW.pt (bU (bV (bR (aK (eP (K:=K) rfl) rfl B.Fg boot_isinstance (@aa _ _ _ _ _ (pv 0) (@aa _ _ _ _ _ (cD (v:=V.ref Fe) rfl B.Hv rfl) ae rfl) rfl)))) (bU (bV (bR (aK (b4 (K:=K) rfl) rfl B.Fg boot_isinstance (@aa _ _ _ _ _ (aU (pv 0) rfl) (@aa _ _ _ _ _ (ca (v:= .ty "str") rfl B.Gu boot_str rfl) ae rfl) rfl)))) (bN (ar dZ (aU (pv 0) rfl) (pv 1) (aA _)))))) (ah (ax cK)) ay) (ad (aL (PW.pt (bU (bV (bR (b5 DZ47 hr (@aa _ _ _ _ _ (aU (pv 0) rfl) ae rfl)))) (bN (ar dZ (aU (pv 0) rfl) (pv 2) (aA _))))) (ah (ax cK)) ay) (ad (aL (PW.pt (bU (bV (bR (aK (b4 (K:=K) rfl) rfl B.Fg boot_isinstance (@aa _ _ _ _ _ (aU (pv 0) rfl) (@aa _ _ _ _ _ (ca (v:= .ty "list") rfl B.GD boot_list rfl) ae rfl) rfl)))) (bN (ar (pw 2 (ET (FT (by decide:2+1<64) _) hr.units)) (aU (pv 0) rfl) (ao ai (pv 3) ac (fun _ _=>rfl)) (aA _))))) (ah (ax cK)) ay) (ad (aL (PW.pt (bU (bV (bR (aK (b4 (K:=K) rfl) rfl B.Fg boot_isinstance (@aa _ _ _ _ _ (aU (pv 0) rfl) (@aa _ _ _ _ _ (ca (v:= .ty "list") rfl B.GD boot_list rfl) ae rfl) rfl)))) (bN (ar (pw 1 (ET (FT (by decide:1+1<64) _) hr.units)) (aU (pv 0) rfl) (ao ai (pv 3) ac (fun _ _=>rfl)) (aA _))))) (ah (ax cK)) ay) (ad (aL (PW.pt (bU (bV (bR (aK (b4 (K:=K) rfl) rfl B.Fg boot_isinstance (@aa _ _ _ _ _ (aU (pv 0) rfl) (@aa _ _ _ _ _ (ca (v:= .ty "list") rfl B.GD boot_list rfl) ae rfl) rfl)))) (bN (ar dZ (aK aV rfl B.Go boot_len (@aa _ _ _ _ _ (aU (pv 0) rfl) ae rfl)) (aK aV rfl B.Go boot_len (@aa _ _ _ _ _ (ao ai (pv 3) ac (fun _ _=>rfl)) ae rfl)) (aA _))))) (ah (ax cK)) ay) (@ad _ _ _ _ _ (@fk _ _ 4 _ _ _ _ sc.nd rfl (Or.inl rfl) (@ao _ _ _ _ _ _ _ ai (@bi _ _ _ _ (@aa _ _ _ _ _ (@bI _ _ _ _ _ (@aa _ _ _ _ _ ac (@aa _ _ _ _ _ ac ae rfl) rfl)) (@aa _ _ _ _ _ (@bI _ _ _ _ _ (@aa _ _ _ _ _ ac (@aa _ _ _ _ _ ac ae rfl) rfl)) (@aa _ _ _ _ _ (@bI _ _ _ _ _ (@aa _ _ _ _ _ ac (@aa _ _ _ _ _ ac ae rfl) rfl)) (@aa _ _ _ _ _ (@bI _ _ _ _ _ (@aa _ _ _ _ _ ac (@aa _ _ _ _ _ ac ae rfl) rfl)) ae rfl) rfl) rfl) rfl)) (aw aN (pv 2) ac) (fun _ _=>rfl)) rfl (Or.inr rfl)) (ad (eG PassesOwn.never rfl (fL rfl B.GP (@aa _ _ _ _ _ (aK aV rfl B.Go boot_len (@aa _ _ _ _ _ (ao ai (pv 3) ac (fun _ _=>rfl)) ae rfl)) ae rfl)) (gh 5 sc) (ad (aL (bV (bR (b5 DZ59 hr (@aa _ _ _ _ _ (ao ai (aU (pv 0) rfl) (pv 5) (fun _ _=>rfl)) (@aa _ _ _ _ _ (ao ai (ao ai (pv 3) ac (fun _ _=>rfl)) (pv 5) (fun _ _=>rfl)) ae rfl) rfl)))) (ah (ax cK)) ay) (ah (aL (bV (bR (b5 DZ61 hr (@aa _ _ _ _ _ (ao ai (aU (pv 0) rfl) (pv 5) (fun _ _=>rfl)) (@aa _ _ _ _ _ (ao ai (ao ai (pv 3) ac (fun _ _=>rfl)) (pv 5) (fun _ _=>rfl)) (@aa _ _ _ _ _ (pv 4) ae rfl) rfl) rfl)))) (ah (ax cK)) ay)))) (ah (ax cK))))))))),?_⟩
 try dsimp only[cxK]
 have sl:sizeLine=16777216:=sizeLine_eq;have em:=ml.em;have ms:=ml.es;have kl:=ml.len;have s12:=bd.s12;have lvs:=as.1;obtain ⟨wt,mt,bt⟩:=id ml.et;obtain ⟨wk,mk,bk⟩:=id ml.ek;refine cut (fun σ H'=>σ= [Iw r,some (.str n),some (vN p),Iw m,none,none]/\H=H') (fun N hN=>?_) ?_
 ·exact ⟨_,rfl,aC _ _ _ true ⟨rfl,.ins er B.Fi B.GG.ha B.GG.hn B.GG.htk B.GG.hm,B.GO,_,rfl,cq ⟨_,rfl,aC r _ dx _ ⟨_,⟨rfl,er,B.Fi,B.GC,bY.1,aC _ _ _ true ⟨rfl,.str _,rfl,_,rfl,cq ⟨_,rfl,aC r _ dx _ ⟨_,⟨rfl,er,B.Fi,B.GC,bY.1,_,rfl,rfl,_,rfl,nF rfl (hN _ _ ⟨rfl,rfl⟩)⟩⟩⟩⟩⟩⟩⟩⟩⟩
 rintro σ _ ⟨rfl,rfl⟩;refine cut (fun σ H'=>σ= [Iw r,some (.str n),some (vN p),Iw m,none,none]/\H=H') (fun N hN=>?_) ?_
 ·exact ⟨_,rfl,aC r _ dx _ ⟨_,⟨rfl,er,B.Fi,B.Gx,bY.2.1,(p:Int),rfl,true,rfl,cq ⟨_,rfl,aC r _ dx _ ⟨_,⟨rfl,er,B.Fi,B.Gx,bY.2.1,_,rfl,rfl,_,rfl,nF rfl (hN _ _ ⟨rfl,rfl⟩)⟩⟩⟩⟩⟩⟩
 rintro σ _ ⟨rfl,rfl⟩;refine cut (fun σ H'=>σ= [Iw r,some (.str n),some (vN p),Iw m,none,none]/\H=H') (fun N hN=>?_) ?_
 ·exact ⟨_,rfl,aC r _ dx _ ⟨_,⟨rfl,er,B.Fi,B.Fs,bY.2.2.1,aC _ _ _ true ⟨rfl,.lst et,rfl,_,rfl,cq ⟨_,rfl,aC r _ dx _ ⟨_,⟨rfl,er,B.Fi,B.Fs,bY.2.2.1,_,rfl,aC m _ _ _ ⟨rfl,rfl,aH.of em,rfl,aC rt lt _ _ ⟨rfl,rfl,aH.of et,aH.of mt,vd at_ bt,_,rfl,cq (hN _ _ ⟨rfl,rfl⟩)⟩⟩⟩⟩⟩⟩⟩⟩⟩
 rintro σ _ ⟨rfl,rfl⟩;refine cut (fun σ H'=>σ= [Iw r,some (.str n),some (vN p),Iw m,none,none]/\H=H') (fun N hN=>?_) ?_
 ·exact ⟨_,rfl,aC r _ dx _ ⟨_,⟨rfl,er,B.Fi,B.Gi,bY.2.2.2.2,aC _ _ _ true ⟨rfl,.lst ek,rfl,_,rfl,cq ⟨_,rfl,aC r _ dx _ ⟨_,⟨rfl,er,B.Fi,B.Gi,bY.2.2.2.2,_,rfl,aC m _ _ _ ⟨rfl,rfl,aH.of em,rfl,aC rk lk _ _ ⟨rfl,rfl,aH.of ek,aH.of mk,yY ak bk,_,rfl,cq (hN _ _ ⟨rfl,rfl⟩)⟩⟩⟩⟩⟩⟩⟩⟩⟩
 rintro σ _ ⟨rfl,rfl⟩;refine cut (fun σ H'=>σ= [Iw r,some (.str n),some (vN p),Iw m,none,none]/\H=H') (fun N hN=>?_) ?_
 ·refine ⟨_,rfl,aC r _ dx _ ⟨_,⟨rfl,er,B.Fi,B.Fj,bY.2.2.2.1,aC _ _ _ true ⟨rfl,.lst es,rfl,_,rfl,cq ⟨_,rfl,aC r _ dx _ ⟨_,⟨rfl,er,B.Fi,B.Fj,bY.2.2.2.1,aI rs _ ⟨rfl,.inl (aH.of es),_,rfl,aC m _ _ _ ⟨rfl,rfl,aH.of em,rfl,aI ls _ ⟨rfl,.inl (aH.of ms),rfl,_,rfl,nF ?_ (hN _ _ ⟨rfl,rfl⟩)⟩⟩⟩⟩⟩⟩⟩⟩⟩⟩;rw[E5,lvs,kl]
 rintro σ _ ⟨rfl,rfl⟩;refine cut (fun σ H'=>∃(tf:Addr) (fp fq:Nat),σ= [Iw r,some (.str n),some (vN p),Iw m,Iw tf,none]/\aJ H H'/\H' tf=some (.tup [vN fp,vN fq])/\1<=fp/\fp<=9/\1<=fq/\fq<=9) (fun N hN=>?_) ?_
 ·refine ⟨by show 2<=sizeLine;decide,fun t1 n1=>?_⟩
  have k1:=aj n1 (.tup [.int 1,.int 1]);have e1:aS H t1 (.tup [.int 1,.int 1]) t1=some (.tup [.int 1,.int 1]):=af;generalize aS H t1 (.tup [.int 1,.int 1])=H1 at k1 e1⊢;refine ⟨by show 2<=sizeLine;decide,fun t2 n2=>?_⟩
  have k2:=aj n2 (.tup [.int 3,.int 2]);have e2:aS H1 t2 (.tup [.int 3,.int 2]) t2=some (.tup [.int 3,.int 2]):=af;generalize aS H1 t2 (.tup [.int 3,.int 2])=H2 at k2 e2⊢;refine ⟨by show 2<=sizeLine;decide,fun t3 n3=>?_⟩
  have k3:=aj n3 (.tup [.int 7,.int 1]);have e3:aS H2 t3 (.tup [.int 7,.int 1]) t3=some (.tup [.int 7,.int 1]):=af;generalize aS H2 t3 (.tup [.int 7,.int 1])=H3 at k3 e3⊢;refine ⟨by show 2<=sizeLine;decide,fun t4 n4=>?_⟩
  have k4:=aj n4 (.tup [.int 2,.int 9]);have e4:aS H3 t4 (.tup [.int 2,.int 9]) t4=some (.tup [.int 2,.int 9]):=af;generalize aS H3 t4 (.tup [.int 2,.int 9])=H4 at k4 e4⊢;refine ⟨by show 4<=sizeLine;decide,fun tl ntl=>?_⟩
  have k5:=aj ntl (.lst [.ref t1,.ref t2,.ref t3,.ref t4]);have e5:aS H4 tl (.lst [.ref t1,.ref t2,.ref t3,.ref t4]) tl=some (.lst [.ref t1,.ref t2,.ref t3,.ref t4]):=af;generalize aS H4 tl (.lst [.ref t1,.ref t2,.ref t3,.ref t4])=H5 at k5 e5⊢;have e1:=k5 _ _ (k4 _ _ (k3 _ _ (k2 _ _ e1)));have e2:=k5 _ _ (k4 _ _ (k3 _ _ e2));have e3:=k5 _ _ (k4 _ _ e3);have e4:=k5 _ _ e4;have gg:=(((k1.trans k2).trans k3).trans k4).trans k5;obtain ⟨j,ej,jl⟩:=r8 (a:=(p:Int)) (n:=4) (by decide)
  have jl:j<4:=by omega
  refine ⟨_,rfl,aI _ _ ⟨rfl,rfl,(by show (4:Int)≠0;decide),?_⟩⟩
  dsimp only;rw[ej]
  match j,jl with
  |0,_=>exact (aC tl _ _ _ ⟨rfl,rfl,aH.of e5,rfl,hN _ _ (ck t1 1 1 ⟨rfl,gg,e1,by decide,by decide,by decide,by decide⟩)⟩)
  |1,_=>exact (aC tl _ _ _ ⟨rfl,rfl,aH.of e5,rfl,hN _ _ (ck t2 3 2 ⟨rfl,gg,e2,by decide,by decide,by decide,by decide⟩)⟩)
  |2,_=>exact (aC tl _ _ _ ⟨rfl,rfl,aH.of e5,rfl,hN _ _ (ck t3 7 1 ⟨rfl,gg,e3,by decide,by decide,by decide,by decide⟩)⟩)
  |3,_=>exact (aC tl _ _ _ ⟨rfl,rfl,aH.of e5,rfl,hN _ _ (ck t4 2 9 ⟨rfl,gg,e4,by decide,by decide,by decide,by decide⟩)⟩)
 rintro σ H0 ⟨tf,fp,fq,rfl,g0,etf,f1,f9,q1,q9⟩;have em:=g0 _ _ em;have ms:=g0 _ _ ms;refine cut (fun σ H'=>(∃o,σ= [Iw r,some (.str n),some (vN p),Iw m,Iw tf,o])/\aJ H0 H') (fun N hN=>?_) ?_
 ·refine ⟨_,rfl,aC m _ _ _ ⟨rfl,rfl,aH.of em,rfl,aI ls _ ⟨rfl,.inl (aH.of ms),_,rfl,by rw[E5];omega,by rw[E5];omega,fM (fun i σ H'=>(∃o,σ= [Iw r,some (.str n),some (vN p),Iw m,Iw tf,o])/\aJ H0 H') ⟨⟨none,rfl⟩,.refl _⟩ ?_ ?_⟩⟩⟩
  ·rintro i σ H2 il ⟨⟨o,rfl⟩,g2⟩;rw[E5] at il;rw[show (0:Int)+(i:Int)=(i:Int) by omega]
   have hs:=E1 (l:=M.steps) (i:=i) (by omega)
   have hk:=E1 il;generalize M.steps[i]=s1 at hs;generalize ks[i]=k1 at hk;obtain ⟨v1,hv,x1,rfl,so⟩:=as.get hs;have hkx:(ks.map fun x=>V.ref x.a)[i]?=some (.ref k1.a):=by rw[E7,hk];rfl
   have sb:=bd.ss s1 (E4 hs);have g02:=g0.trans g2;dsimp only[aX,a6];refine cut (fun σ H'=>σ= [Iw r,some (.str n),some (vN p),Iw m,Iw tf,some (.int i)]/\aJ H0 H') (fun N hN=>?_) ?_
   ·exact ⟨_,rfl,aC r _ dx _ ⟨_,⟨rfl,(g02 _ _ er),B.Fi,B.Fj,bY.2.2.2.1,_,rfl,aC rs _ _ _ ⟨rfl,rfl,aH.of (g02 _ _ es),(aF hv),_,rfl,aC m _ _ _ ⟨rfl,rfl,aH.of (g2 _ _ em),rfl,_,rfl,aC ls _ _ _ ⟨rfl,rfl,aH.of (g2 _ _ ms),(aF hkx),x1,k1,s1,rfl,so.same g02,(ml.ss i k1 s1 hk hs).same g02,sb.wd,sb.fl,fun H3 g3=>⟨_,rfl,cq (hN _ _ ⟨rfl,g2.trans g3⟩)⟩⟩⟩⟩⟩⟩⟩
   rintro σ H3 ⟨rfl,g3⟩;have g03:=g0.trans g3;exact ⟨_,rfl,aC r _ dx _ ⟨_,⟨rfl,(g03 _ _ er),B.Fi,B.Fj,bY.2.2.2.1,_,rfl,aC rs _ _ _ ⟨rfl,rfl,aH.of (g03 _ _ es),(aF hv),_,rfl,aC m _ _ _ ⟨rfl,rfl,aH.of (g3 _ _ em),rfl,_,rfl,aC ls _ _ _ ⟨rfl,rfl,aH.of (g3 _ _ ms),(aF hkx),_,rfl,x1,k1,s1,tf,fp,fq,rfl,so.same g03,(ml.ss i k1 s1 hk hs).same g03,sb,nds s1 (E4 hs),g3 _ _ etf,f1,f9,q1,q9,fun H4 g4=>⟨_,rfl,cq ⟨⟨_,rfl⟩,g3.trans g4⟩⟩⟩⟩⟩⟩⟩⟩
  ·rintro σ H2 h;exact hN _ _ h
 rintro σ H1 ⟨⟨o,rfl⟩,g1⟩;exact q _ (g0.trans g1)
theorem Cb {dV:Value} (F:br K "_law_rows" "_law_rows" Aa dV f fd) (DZ58:Dx P w K mg base a7 4 "_law_row" ["_law_model","_law_names_here","_law_cell","_law_room"] [] uM):aY P w K mg base a7 5 f fd ["_law_cells","_law_names_here","_law_head"] qY:=by
 have sc:aB ["_law_cells","_law_names_here","_law_head","_law_model","_law_rows_here","_law_cell","_law_row_here"] ["_law_cells","_law_names_here","_law_head"] (av Aa):=cS (by decide+kernel)
 refine F.ok sc (fun vs H Q E h=>?_) (fun cdv A outer s H vs Q E hr h=>?_)
 ·obtain ⟨_,_,_,_,_,_,rfl,_⟩:=h
  rfl
 refine qJ h fun lc ln cs zs z2 pl _hi=>?_
 refine jC _hi fun _r1 ep0 l60 en zz _hj=>?_
 refine uF _hj fun nz2 p2 q=>?_
 clear h _hi _hj;subst _r1;refine ⟨_,(ad (bQ 3 sc (@bi _ _ _ _ (@aa _ _ _ _ _ (@bi _ _ _ _ ae) (@aa _ _ _ _ _ (@bi _ _ _ _ ae) (@aa _ _ _ _ _ (@bi _ _ _ _ ae) ae rfl) rfl) rfl))) (ad (bQ 4 sc (@bi _ _ _ _ (@aa _ _ _ _ _ (pv 2) ae rfl))) (ad (eG PassesOwn.never rfl (gF (pv 0)) (gh 5 sc) (ad (bQ 6 sc (b5 DZ58 hr (@aa _ _ _ _ _ (pv 3) (@aa _ _ _ _ _ (pv 1) (@aa _ _ _ _ _ (pv 5) (@aa _ _ _ _ _ ac ae rfl) rfl) rfl) rfl))) (ah (aL (ar dZ (pv 6) aE (aA _)) (ah (bw (c6 EY EX EW bG (pv 4) (@aa _ _ _ _ _ (pv 6) ae rfl)))) ay)))) (ah (ax (@bi _ _ _ _ (@aa _ _ _ _ _ (pv 3) (@aa _ _ _ _ _ (c6 FI PySem.F.slot_str_join PySem.F.type_str_join qA aE (@aa _ _ _ _ _ (pv 4) ae rfl)) ae rfl) rfl))))))),?_⟩;try dsimp only[cxK]
 have sl:sizeLine=16777216:=sizeLine_eq;obtain ⟨hl3,hl4⟩:=gZ nz2 p2;refine cut (fun σ H'=>∃m lt ls lk,σ= [Iw lc,Iw ln,some (.str (bX z2 pl)),Iw m,none,none,none]/\ML H H' m lt ls lk [] ⟨[],[],[]⟩) (fun N hN=>?_) ?_
 ·refine ⟨by show 0<=sizeLine;decide,fun lt nlt=>⟨by show 0<=sizeLine;decide,fun ls nls=>⟨by show 0<=sizeLine;decide,fun lk nlk=>⟨by show 3<=sizeLine;decide,fun m nm=>hN _ _ (aC m lt ls lk ⟨rfl,yF nlt nls nlk nm⟩)⟩⟩⟩⟩
 rintro σ H3 ⟨m,lt,ls,lk,rfl,ml0⟩;refine ⟨_,rfl,by show 1<=sizeLine;decide,fun rl nrl=>?_⟩
 dsimp only[aX,a6];have gr:=aj nrl (.lst [.str (bX z2 pl)]);have er:aS H3 rl (.lst [.str (bX z2 pl)]) rl=some (.lst ((bX z2 pl::([]:List Rr).map fb).map V.str)):=af;have ml2:=ml0.same gr;have nro:rl∉cI m lt ls lk []:=fun z=>ml0.all _ z nrl
 have nrl1:H rl=none:=ml0.fr.free nrl;change L2.ou _ _ _ [some (.ref lc),some (.ref ln),some (.str (bX z2 pl)),some (.ref m),some (.ref rl),none,none] (aS H3 rl (.lst [.str (bX z2 pl)]));generalize aS H3 rl (.lst [.str (bX z2 pl)])=H5 at gr er ml2⊢;refine cut (fun σ H'=>∃(o6 o7:Option V) (ks:List Sk) (M:Md) (rs:List Rr),σ= [Iw lc,Iw ln,some (.str (bX z2 pl)),Iw m,Iw rl,o6,o7]/\ML H H' m lt ls lk ks M/\fi zs 12 M/\H' rl=some (.lst ((bX z2 pl::rs.map fb).map V.str))/\ve "" rs M 60) (fun N hN=>?_) ?_
 ·have ep:=ml2.fr _ _ ep0;obtain ⟨G0,hG⟩:∃G0,G0=less H5 (rl::cI m lt ls lk []):=⟨_,rfl⟩;have gl:aJ H G0:=fun b o e=>by
   rw[hG,fX fun hx=>?_]
   ·exact ml2.fr _ _ e
   ·rcases E3.mp hx with z|z
    ·rw[z,nrl1] at e;cases e
    ·have:=ml2.nw b z;rw[e] at this;cases this
  have g0p:G0 lc=some (.lst (cs.map V.int)):=gl _ _ ep0;have g0r:G0 rl=none:=by rw[hG];exact if_pos (by simp)
  have ml3:ML G0 H5 m lt ls lk [] ⟨[],[],[]⟩:={ml2 with fr:=by rw[hG];exact ix _ _,nw:=fun x hx=>by rw[hG];exact if_pos (E6 _ hx)}
  refine ⟨_,rfl,lc,rfl,⟨_,aH.of ep⟩,sS (xs:=cs.map V.int) (fun i σ H'=>∃(o6 o7:Option V) (ks:List Sk) (M:Md) (rs:List Rr),σ= [Iw lc,Iw ln,some (.str (bX z2 pl)),Iw m,Iw rl,o6,o7]/\ML G0 H' m lt ls lk ks M/\fi zs 12 M/\H' rl=some (.lst ((bX z2 pl::rs.map fb).map V.str))/\ve "" rs M i/\rl∉cI m lt ls lk ks) (aC none none [] ⟨[],[],[]⟩ ⟨[],⟨rfl,ml3,fi.nil _ _,er,⟨rfl,fun r hr=>(nomatch hr),F0 _⟩,nro⟩⟩) (fun i σ H' _ h=>?_) ?_ ?_⟩
  ·obtain ⟨_,_,_,_,_,_,ml,_⟩:=h;exact aH.of (ml.fr _ _ g0p)
  ·intro i y σ H6 hy h_;refine sE h_ fun o6 o7 ks M _hi=>?_
   refine sD _hi fun rs _hj=>?_
   refine jC _hj fun _r1 ml ok er6 rt nro6=>?_
   clear h_ _hi _hj;subst _r1;have il:=bE hy;rw[E5] at il;rw[E7] at hy;obtain ⟨c,_,rfl⟩:=Ed.mp hy;have en6:H6 ln=some (.lst (zs.map V.str)):=ml.fr _ _ (gl _ _ en);refine ⟨_,rfl,_,rfl,_,rfl,jA _ m lt ls lk ln c ks M (aI zs 12 ⟨rfl,by decide,ml.top,ok,en6,zz,fun z ks' M' H7 ml' ok' tk=>?_⟩)⟩
   have er7:H7 rl=some (.lst ((bX z2 pl::rs.map fb).map V.str)):=ml'.fr _ _ (by rw[fX nro6];exact er6)
   have nro7:rl∉cI m lt ls lk ks':=fun z=>by
    have:=ml'.nw _ z;rw[fX nro6,er6] at this;cases this
   have ml7:=ml'.low ml.less;dsimp only[aX,a6];rcases tk with ⟨rfl,rfl⟩|⟨rr,rfl,ro,hp⟩
   ·exact ⟨_,rfl,rfl,_,rfl,nF rfl (aC _ _ ks' M' ⟨rs,⟨rfl,ml7,ok',er7,rt.skip,nro7⟩⟩)⟩
   ·have rl60:=rt.ln;refine ⟨_,rfl,rfl,_,rfl,nT (fun z=>yV ro (V.str.inj z)) ⟨_,rfl,.inl ⟨rfl,_,aH.of er7⟩,_,rfl,ck rl _ _ ⟨rfl,rfl,er7,(by rw[E5,EQ,E5];omega),aC _ _ ks' M' ⟨rs++ [rr],⟨rfl,ml7.out er7 g0r nro7,ok',?_,rt.put ro hp,nro7⟩⟩⟩⟩⟩
    rw[af];simp
  ·intro σ H6 h_;refine sE h_ fun o6 o7 ks M _hi=>?_
   refine sD _hi fun rs _hj=>?_
   refine jC _hj fun _r1 ml ok er6 rt nro6=>?_
   clear h_ _hi _hj;subst _r1;rw[E5] at rt;exact hN _ _ (aC o6 o7 ks M ⟨rs,⟨rfl,ml.low gl,ok,er6,⟨rt.pt,rt.ok,EV rt.ln l60⟩⟩⟩)
 rintro σ H6 ⟨o6,o7,ks,M,rs,rfl,ml,ok,er6,rt⟩;have rl60:=rt.ln;refine ⟨_,rfl,rfl,_,rfl,ck _ rl _ ⟨rfl,rfl,aH.of er6,by decide,y1 hl4 rt.ok (by omega),by show 2<=sizeLine;decide,fun t nt=>?_⟩⟩
 exact q t m lt ls lk ks M rs _ (ml.same (aj nt _)) ok rt af
theorem Cc {dV:Value} (F:br K "law" "law" lY dV f fd) (DZ42:Dx P w K mg base a7 10 "read_recipe" ["text"] [] (kK Ff Ev on Fe)) (DZ46:Dx P w K mg base a7 1 "_law_cell_at" ["_law_script","_law_k"] [] (tz K)) (DZ50:Dx P w K mg base a7 2 "_law_names" ["_law_cell"] [] nI) (DZ62:Dx P w K mg base a7 9 "_law_same" ["_law_recipe","_law_name","_law_plates","_law_model"] [] (qX Ff Ev on Fe)) (DZ63:Dx P w K mg base a7 5 "_law_rows" ["_law_cells","_law_names_here","_law_head"] [] qY):aY P w K mg base a7 20 f fd ["_law_script"] (qd K):=by
 have sc:aB ["_law_script","_law_names_here","_law_others","_law_plates","_law_cut","_law_first","_law_second_here","_law_one","_law_two","_law_again"] ["_law_script"] (av lY):=cS (by decide+kernel)
 refine F.ok sc (fun vs H Q E h=>?_) (fun cdv A outer s H vs Q E hr h=>?_)
 ·obtain ⟨_,_,rfl,_⟩:=h
  rfl
 obtain ⟨a,ns,rfl,hS,h63,q⟩:=h;refine ⟨_,(ad (bQ 1 sc (b5 DZ50 hr (@aa _ _ _ _ _ (b5 DZ46 hr (@aa _ _ _ _ _ (pv 0) (@aa _ _ _ _ _ ac ae rfl) rfl)) ae rfl))) (ad (bQ 2 sc (b5 DZ50 hr (@aa _ _ _ _ _ (b5 DZ46 hr (@aa _ _ _ _ _ (pv 0) (@aa _ _ _ _ _ ac ae rfl) rfl)) ae rfl))) (@ad _ _ _ _ _ (@fk _ _ 3 _ _ _ _ sc.nd rfl (Or.inl rfl) (@ao _ _ _ _ _ _ _ ai (@bi _ _ _ _ (@aa _ _ _ _ _ (aw bW ac (aw aN (b5 DZ46 hr (@aa _ _ _ _ _ (pv 0) (@aa _ _ _ _ _ ac ae rfl) rfl)) ac)) (@aa _ _ _ _ _ ac (@aa _ _ _ _ _ ac ae rfl) rfl) rfl)) (aw aN (b5 DZ46 hr (@aa _ _ _ _ _ (pv 0) (@aa _ _ _ _ _ ac ae rfl) rfl)) ac) (fun _ _=>rfl)) rfl (Or.inr rfl)) (ad (bQ 4 sc (aw bW ac (aw aN (b5 DZ46 hr (@aa _ _ _ _ _ (pv 0) (@aa _ _ _ _ _ ac ae rfl) rfl)) ac))) (ad (bQ 5 sc (b5 DZ63 hr (@aa _ _ _ _ _ (cG eB (pv 0) (cE ac) (cE (pv 4))) (@aa _ _ _ _ _ (pv 1) (@aa _ _ _ _ _ (aw aD (aw aD (aw aD aE (ao ai (pv 1) ac (fun _ _=>rfl))) aE) (bv bh rfl B.Gu boot_str (@aa _ _ _ _ _ (pv 3) ae rfl))) ae rfl) rfl) rfl))) (ad (bQ 6 sc (b5 DZ63 hr (@aa _ _ _ _ _ (cG eB (pv 0) (cE (pv 4)) (cE ac)) (@aa _ _ _ _ _ (pv 2) (@aa _ _ _ _ _ (aw aD (aw aD aE (ao ai (pv 2) ac (fun _ _=>rfl))) aE) ae rfl) rfl) rfl))) (ad (bQ 7 sc (b5 DZ42 hr (@aa _ _ _ _ _ (ao ai (pv 5) ac (fun _ _=>rfl)) ae rfl))) (ad (aL (bV (bR (b5 DZ62 hr (@aa _ _ _ _ _ (pv 7) (@aa _ _ _ _ _ (ao ai (pv 1) ac (fun _ _=>rfl)) (@aa _ _ _ _ _ (pv 3) (@aa _ _ _ _ _ (ao ai (pv 5) ac (fun _ _=>rfl)) ae rfl) rfl) rfl) rfl)))) (ah (ax cK)) ay) (ad (bQ 8 sc (b5 DZ42 hr (@aa _ _ _ _ _ (ao ai (pv 6) ac (fun _ _=>rfl)) ae rfl))) (ad (aL (bV (bR (b5 DZ62 hr (@aa _ _ _ _ _ (pv 8) (@aa _ _ _ _ _ (ao ai (pv 2) ac (fun _ _=>rfl)) (@aa _ _ _ _ _ ac (@aa _ _ _ _ _ (ao ai (pv 6) ac (fun _ _=>rfl)) ae rfl) rfl) rfl) rfl)))) (ah (ax cK)) ay) (ad (bQ 9 sc (b5 DZ42 hr (@aa _ _ _ _ _ (ao ai (pv 5) ac (fun _ _=>rfl)) ae rfl))) (ah (ax (kR (b5 DZ62 hr (@aa _ _ _ _ _ (pv 7) (@aa _ _ _ _ _ (ao ai (pv 1) ac (fun _ _=>rfl)) (@aa _ _ _ _ _ (pv 3) (@aa _ _ _ _ _ (ao ai (pv 5) ac (fun _ _=>rfl)) ae rfl) rfl) rfl) rfl)) (kQ (b5 DZ62 hr (@aa _ _ _ _ _ (pv 9) (@aa _ _ _ _ _ (ao ai (pv 1) ac (fun _ _=>rfl)) (@aa _ _ _ _ _ (pv 3) (@aa _ _ _ _ _ (ao ai (pv 5) ac (fun _ _=>rfl)) ae rfl) rfl) rfl) rfl))))))))))))))))),?_⟩
 try dsimp only[cxK]
 have sl:sizeLine=16777216:=sizeLine_eq;refine ⟨_,rfl,ck a ns 0 ⟨rfl,hS,by decide,fun c0=>⟨c0,rfl,fun ln zs H0 g0 en zz=>?_⟩⟩⟩
 refine ⟨_,rfl,ck a ns 1 ⟨rfl,g0.seq hS,by decide,fun c1=>⟨c1,rfl,fun lo ys H1 g1 eo yy=>?_⟩⟩⟩
 dsimp only[aX,a6];have g01:=g0.trans g1;have en1:=g1 _ _ en;obtain ⟨z2,hz2,nz2⟩:=zz.at_ (i:=2) (by decide)
 obtain ⟨y4,hy4,ny4⟩:=yy.at_ (i:=4) (by decide)
 have z2l:=nz2.len;have y4l:=ny4.len;have atz2:=nL hz2;have aty4:=nL hy4;refine cut (fun σ H'=>∃pl:Nat,σ= [Iw a,Iw ln,Iw lo,some (vN pl),none,none,none,none,none,none]/\aJ H1 H'/\1<=pl/\pl<=1000) (fun N hN=>?_) ?_
 ·refine ⟨_,rfl,ck a ns 2 ⟨rfl,g01.seq hS,by decide,fun c1=>(aI _ _ ⟨rfl,rfl,(by show (1000:Int)≠0;decide),aI _ _ ⟨rfl,rfl,by show 3<=sizeLine;decide,fun l3 n3=>?_⟩⟩)⟩⟩
  have g2:=aj n3 (.lst [.int (1+c1.fmod 1000),.int 1,.int 1000]);have m1:=fm (a:=c1) (n:=1000) (by decide)
  refine ⟨_,rfl,ck a ns 3 ⟨rfl,(g01.trans g2).seq hS,by decide,fun c2=>?_⟩⟩
  obtain ⟨pl,hv,h9⟩:∃h:Nat,ig [V.int (1+c1.fmod 1000),.int 1,.int 1000] (c2.fmod 3)=some (vN h)/\1<=h/\h<=1000:=by
   obtain ⟨j,ej,jl⟩:=r8 (a:=c2) (n:=3) (by decide)
   rw[ej];have jl:j<3:=by omega
   match j,jl with
   |0,_=>exact ⟨(1+c1.fmod 1000).toNat,congrArg some (congrArg V.int (by omega)),by omega⟩
   |1,_=>exact ⟨1,rfl,by decide⟩
   |2,_=>exact ⟨1000,rfl,by decide⟩
  exact (aI _ _ ⟨rfl,rfl,(by show (3:Int)≠0;decide),aC l3 _ _ _ ⟨rfl,rfl,aH.of af,hv,hN _ _ ⟨pl,rfl,g2,h9⟩⟩⟩)
 rintro σ H2 ⟨pl,rfl,g2,p1,p2⟩;have g02:=g01.trans g2;have en2:=g2 _ _ en1;have eo2:=g2 _ _ eo;refine cut (fun σ H'=>∃ct:Nat,σ= [Iw a,Iw ln,Iw lo,some (vN pl),some (vN ct),none,none,none,none,none]/\H2=H'/\ct<=35) (fun N hN=>?_) ?_
 ·refine ⟨_,rfl,ck a ns 4 ⟨rfl,g02.seq hS,by decide,fun c1=>(aI _ _ ⟨rfl,rfl,(by show (31:Int)≠0;decide),aI _ _ ⟨rfl,rfl,?_⟩⟩)⟩⟩
  have m1:=fm (a:=c1) (n:=31) (by decide)
  refine hN _ _ ⟨(5+c1.fmod 31).toNat,?_,rfl,by omega⟩
  show [some (.ref a),some (.ref ln),some (.ref lo),some (vN pl),some (V.int (5+c1.fmod 31)),none,none,none,none,none]=_;rw[show vN (5+c1.fmod 31).toNat=V.int (5+c1.fmod 31) from congrArg V.int (by omega)]
 rintro σ _ ⟨ct,rfl,rfl,ct35⟩;have l1:(Str.ofString " ").length=1:=by decide
 have l7:(Str.ofString " 7").length=2:=by decide
 have l5:(Str.ofString "dish ").length=5:=by decide
 have lp:=cT (n:=pl) (by omega)
 obtain ⟨cs,hcs,lcs⟩:∃cs:List Int,dy (ns.map V.int) (some 5) (some (ct:Int))=cs.map V.int/\cs.length<=ct-5:=kN 5 ct;obtain ⟨ds,hds,lds⟩:∃ds:List Int,dy (ns.map V.int) (some (ct:Int)) (some 35)=ds.map V.int/\ds.length<=35-ct:=kN ct 35;refine cut (fun σ H'=>∃(t1 m1 lt1 ls1 lk1:Addr) (ks1:List Sk) (M1:Md) (rs1:List Rr),σ= [Iw a,Iw ln,Iw lo,some (vN pl),some (vN ct),Iw t1,none,none,none,none]/\ML H2 H' m1 lt1 ls1 lk1 ks1 M1/\fi zs 12 M1/\ve "" rs1 M1 60/\H' t1=some (.lst [.ref m1,.str (Txt.join jq (bX z2 pl::rs1.map fb))])) (fun N hN=>?_) ?_
 ·refine ⟨_,rfl,_,rfl,_,rfl,_,rfl,aI a _ ⟨rfl,g02.seq hS,fun p np=>?_⟩⟩
  rw[hcs];have gp:=aj np (.lst (cs.map V.int));have ep:aS H2 p (.lst (cs.map V.int)) p=some (.lst (cs.map V.int)):=af;generalize aS H2 p (.lst (cs.map V.int))=H3 at gp ep⊢;refine ⟨_,rfl,_,rfl,aC ln _ _ _ ⟨rfl,rfl,aH.of (gp _ _ en2),atz2,aI _ _ ⟨rfl,rfl,by omega,aI _ _ ⟨rfl,rfl,(by rw[Str.length_append];omega),_,rfl,_,rfl,fD (by omega),?_⟩⟩⟩⟩
  rw[eE];refine (aI _ _ ⟨rfl,rfl,(by rw[Str.length_append,Str.length_append];omega),?_⟩)
  rw[nJ];exact (kq p ln cs zs z2 pl ⟨rfl,ep,by omega,gp _ _ en2,zz,nz2,p2,fun t m lt ls lk ks M rs H' ml ok rt et=>hN _ _ (kq t m lt ls lk ks (aI M rs ⟨rfl,ml.low gp,ok,rt,et⟩))⟩)
 intro σ H3 h_;refine qJ h_ fun t1 m1 lt1 ls1 lk1 ks1 _hi=>?_
 refine vq _hi fun M1 rs1 _hj=>?_
 refine yt _hj fun _r1 ml1 ok1 _hk=>?_
 refine kv _hk fun rt1 et1=>?_
 clear h_ _hi _hj _hk;subst _r1;have g03:=g02.trans ml1.fr;have eo3:=ml1.fr _ _ eo2;refine cut (fun σ H'=>∃(t2 m2 lt2 ls2 lk2:Addr) (ks2:List Sk) (M2:Md) (rs2:List Rr),σ= [Iw a,Iw ln,Iw lo,some (vN pl),some (vN ct),Iw t1,Iw t2,none,none,none]/\ML H3 H' m2 lt2 ls2 lk2 ks2 M2/\fi ys 12 M2/\ve "" rs2 M2 60/\H' t2=some (.lst [.ref m2,.str (Txt.join jq (bX y4 7::rs2.map fb))])) (fun N hN=>?_) ?_
 ·refine ⟨_,rfl,_,rfl,_,rfl,_,rfl,aI a _ ⟨rfl,g03.seq hS,fun p np=>?_⟩⟩
  rw[hds];have gp:=aj np (.lst (ds.map V.int));have ep:aS H3 p (.lst (ds.map V.int)) p=some (.lst (ds.map V.int)):=af;generalize aS H3 p (.lst (ds.map V.int))=H4 at gp ep⊢;refine ⟨_,rfl,_,rfl,aC lo _ _ _ ⟨rfl,rfl,aH.of (gp _ _ eo3),aty4,aI _ _ ⟨rfl,rfl,by omega,aI _ _ ⟨rfl,rfl,(by rw[Str.length_append];omega),?_⟩⟩⟩⟩
  rw[sC];exact (kq p lo ds ys y4 7 ⟨rfl,ep,by omega,gp _ _ eo3,yy,ny4,by decide,fun t m lt ls lk ks M rs H' ml ok rt et=>hN _ _ (kq t m lt ls lk ks (aI M rs ⟨rfl,ml.low gp,ok,rt,et⟩))⟩)
 intro σ H4 h_;refine qJ h_ fun t2 m2 lt2 ls2 lk2 ks2 _hi=>?_
 refine vq _hi fun M2 rs2 _hj=>?_
 refine yt _hj fun _r1 ml2 ok2 _hk=>?_
 refine kv _hk fun rt2 et2=>?_
 clear h_ _hi _hj _hk;subst _r1;have ml1:=ml1.same ml2.fr;have et1:=ml2.fr _ _ et1;have rn1:=rt1.ln;have rn2:=rt2.ln;have bd1:=ok1.bd zz (by decide)
 have bd2:=ok2.bd yy (by decide)
 have nd1:=ok1.nds zz;have nd2:=ok2.nds yy;have en4:H4 ln=some (.lst (zs.map V.str)):=ml1.fr _ _ en2;have eo4:H4 lo=some (.lst (ys.map V.str)):=ml2.fr _ _ eo3;refine cut (fun σ H'=>∃r1:Addr,σ= [Iw a,Iw ln,Iw lo,some (vN pl),some (vN ct),Iw t1,Iw t2,Iw r1,none,none]/\aJ H4 H'/\wz Ff Ev on Fe H' r1 z2 pl M1) (fun N hN=>?_) ?_
 ·exact ⟨_,rfl,aC t1 _ _ _ ⟨rfl,rfl,aH.of et1,rfl,aC z2 pl rs1 M1 ⟨rfl,nz2,p1,p2,rt1.ok,by omega,rt1.pt,fun r lt ls lk ks H' rm=>hN _ _ ⟨r,rfl,rm.fr,rm.a⟩⟩⟩⟩
 rintro σ H5 ⟨r1,rfl,g5,ra1⟩;refine cut (fun σ H'=>σ= [Iw a,Iw ln,Iw lo,some (vN pl),some (vN ct),Iw t1,Iw t2,Iw r1,none,none]/\aJ H5 H') (fun N hN=>?_) ?_
 ·exact ⟨_,rfl,_,rfl,aC ln _ _ _ ⟨rfl,rfl,aH.of (g5 _ _ en4),atz2,_,rfl,_,rfl,aC t1 _ _ _ ⟨rfl,rfl,aH.of (g5 _ _ et1),rfl,jA r1 z2 pl _ m1 lt1 ls1 lk1 ks1 ⟨M1,⟨rfl,ra1,ml1.same g5,bd1,nd1,fun H' g=>⟨_,rfl,cq (hN _ _ ⟨rfl,g⟩)⟩⟩⟩⟩⟩⟩
 rintro σ H6 ⟨rfl,g6⟩;have g46:=g5.trans g6;refine cut (fun σ H'=>∃r2:Addr,σ= [Iw a,Iw ln,Iw lo,some (vN pl),some (vN ct),Iw t1,Iw t2,Iw r1,Iw r2,none]/\aJ H6 H'/\wz Ff Ev on Fe H' r2 y4 7 M2) (fun N hN=>?_) ?_
 ·exact ⟨_,rfl,aC t2 _ _ _ ⟨rfl,rfl,aH.of (g46 _ _ et2),rfl,aC y4 7 rs2 M2 ⟨rfl,ny4,by decide,by decide,rt2.ok,by omega,rt2.pt,fun r lt ls lk ks H' rm=>hN _ _ ⟨r,rfl,rm.fr,rm.a⟩⟩⟩⟩
 rintro σ H7 ⟨r2,rfl,g7,ra2⟩;have g47:=g46.trans g7;refine cut (fun σ H'=>σ= [Iw a,Iw ln,Iw lo,some (vN pl),some (vN ct),Iw t1,Iw t2,Iw r1,Iw r2,none]/\aJ H7 H') (fun N hN=>?_) ?_
 ·exact ⟨_,rfl,_,rfl,aC lo _ _ _ ⟨rfl,rfl,aH.of (g47 _ _ eo4),aty4,_,rfl,aC t2 _ _ _ ⟨rfl,rfl,aH.of (g47 _ _ et2),rfl,jA r2 y4 7 _ m2 lt2 ls2 lk2 ks2 ⟨M2,⟨rfl,ra2,ml2.same g47,bd2,nd2,fun H' g=>⟨_,rfl,cq (hN _ _ ⟨rfl,g⟩)⟩⟩⟩⟩⟩⟩
 rintro σ H8 ⟨rfl,g8⟩;have g48:=g47.trans g8;refine cut (fun σ H'=>∃r3:Addr,σ= [Iw a,Iw ln,Iw lo,some (vN pl),some (vN ct),Iw t1,Iw t2,Iw r1,Iw r2,Iw r3]/\aJ H8 H'/\wz Ff Ev on Fe H' r3 z2 pl M1) (fun N hN=>?_) ?_
 ·exact ⟨_,rfl,aC t1 _ _ _ ⟨rfl,rfl,aH.of (g48 _ _ et1),rfl,aC z2 pl rs1 M1 ⟨rfl,nz2,p1,p2,rt1.ok,by omega,rt1.pt,fun r lt ls lk ks H' rm=>hN _ _ ⟨r,rfl,rm.fr,rm.a⟩⟩⟩⟩
 rintro σ H9 ⟨r3,rfl,g9,ra3⟩;have g49:=g48.trans g9;have ra1:=((((ra1.same g6).same g7).same g8).same g9);exact ⟨_,rfl,_,rfl,aC ln _ _ _ ⟨rfl,rfl,aH.of (g49 _ _ en4),atz2,_,rfl,_,rfl,aC t1 _ _ _ ⟨rfl,rfl,aH.of (g49 _ _ et1),rfl,jA r1 z2 pl _ m1 lt1 ls1 lk1 ks1 ⟨M1,⟨rfl,ra1,ml1.same g49,bd1,nd1,fun H10 g10=>⟨_,rfl,kZ ⟨_,rfl,_,rfl,aC ln _ _ _ ⟨rfl,rfl,aH.of (g10 _ _ (g49 _ _ en4)),atz2,_,rfl,_,rfl,aC t1 _ _ _ ⟨rfl,rfl,aH.of (g10 _ _ (g49 _ _ et1)),rfl,jA r3 z2 pl _ m1 lt1 ls1 lk1 ks1 ⟨M1,⟨rfl,ra3.same g10,(ml1.same g49).same g10,bd1,nd1,fun H11 g11=>q _⟩⟩⟩⟩⟩⟩⟩⟩⟩⟩⟩
end
theorem Ab {l:PySem.W.OpenLaw} {w:World} {K:D9} {h:Heap} {mg:Il} {fa h1 h2 h3 ew h4 h5 h6 h9 hA hB ex ey ez e0 e1 e2 e3 e4 e5 e6 e7 e8 e9 eA eB eC eD eL eR eU eX eZ fc ff fg fh fl fo fp fq fr fs ft fw fx fy f0 f1 f2 f3 f4 f5 dZ Gr Ff Gs Fm Fh Fe Ev Fl Fk Ft Fn on GA GJ GW Gz GE Gw Gv GF GV GU GT GS:Addr} (X:K.In h) (G:h.Ns mainGlobals mg) (hfa:mg "law" =some (.ref fa))
  {eh dK:Iu} {ei:Io} {ej dN dV dX cP dY:Value}
  {ct:Tok}
  {ap:Tok}
  {c0:Tok}
  {aq:Tok}
  {be:Tok}
  {bf:Tok}
  {cb:Tok}
  {bg:Tok}
  {hz:Addr} {f9:Value} {fG:Iu} {fI:Nat} {fQ:Io} {ea:Tok}
  {ek:Addr} {el:Value} {em:Iu} {en:Nat} {eo:Io}
  {ep:Addr} {eq:Value} {er:Iu} {es:Nat} {et:Io}
  (hC:bM K h1 "read_figures" De .none)
  (hD:bM K h2 "is_whole" Df .none)
  (hE:bM K h3 "divisor" Dg .none)
  (hF:EN K mainGlobals "fraction" =some (some (.ref ew)))
  (hG:FnAt K ew "fraction" "fraction" Cr (.ref hz))
  (hH:bM K h4 "plus" Dh .none)
  (hI:bM K h5 "product" Di .none)
  (hK:bM K h6 "quotient" Dj .none)
  (hL:bM K h9 "round_up" Dk .none)
  (hM:bM K hA "round_down" Dl .none)
  (hN:bM K hB "amount_text" Dm .none)
  (fY:bM K ex "loosely_read_term" y6 .none)
  (ga:bM K ey "loosely_read" y8 .none)
  (gc:bM K ez "read_amount" y9 .none)
  (ge:bM K e0 "is_name" za .none)
  (gg:bM K e1 "words_of" zb .none)
  (gi:bM K e2 "number_of" zc .none)
  (gj:bM K e3 "amount_from" ze .none)
  (gk:bM K e4 "value_of" zf .none)
  (gl:bM K e5 "values_by" zg .none)
  (gm:bM K e6 "agree" zh .none)
  (gn:bM K e7 "values_of" zi .none)
  (go:bM K e8 "refuse_twice" zj .none)
  (gp:bM K e9 "refuse_full" zk .none)
  (gq:bM K eA "place_of" zm .none)
  (gr:bM K eB "put_take" zn .none)
  (gs:bM K eC "put_link" zo .none)
  (gt:bM K eD "grown_length" zq .none)
  (gw:bM K eL "recipe_begun" zy .none)
  (gy:bM K eR "step_of" zA .none)
  (g0:bM K eU "put_step" zB .none)
  (g1:bM K eX "put_second" zC .none)
  (g2:bM K eZ "put_use" zD .none)
  (g3:bM K fc "put_row" zE .none)
  (g4:bM K ff "read_recipe" zF .none)
  (g5:bM K fg "_law_cell_at" zJ .none)
  (g6:bM K fh "_law_whole" zK .none)
  (g7:bM K fl "_law_common" zL .none)
  (g8:bM K fo "_law_stream" zM .none)
  (g9:bM K fp "_law_names" zN .none)
  (gC:bM K fq "_law_amount" zO .none)
  (gG:bM K fr "_law_lengths" zP .none)
  (gI:bM K fs "_law_take" zQ .none)
  (gT:bM K ft "_law_step" zR .none)
  (gV:bM K fw "_law_second" zS .none)
  (ha:bM K fx "_law_use" zT .none)
  (hb:bM K fy "_law_link" zU .none)
  (hc:bM K f0 "_law_row" zV .none)
  (hd:bM K f1 "_law_step_same" zW .none)
  (he:bM K f2 "_law_up" zX .none)
  (hf:bM K f3 "_law_grows" zY .none)
  (hg:bM K f4 "_law_same" zZ .none)
  (hh:bM K f5 "_law_rows" Aa .none)
  (hi:EN K mainGlobals "law" =some (some (.ref dZ)))
  (hj:K.lookup dZ=some ⟨ej,eh,.func (F5 "law" "law" (dL lY) (di lY) (av lY) .none dN dV dX dK cP dY),ei⟩) (hk:PySem.W.codeIn K cP "law" =true) (hm:F6 K (.ref dZ)=true)
  (c1:EN K mainGlobals "LETTERS" =some (some (.str "abcdefghijklmnopqrstuvwxyz" ct)))
  (au:EN K mainGlobals "MOST_LETTERS" =some (some (.int 12 ap)))
  (c2:EN K mainGlobals "FIGURES" =some (some (.str "0123456789" c0)))
  (ay:EN K mainGlobals "MOST_FIGURES" =some (some (.int 30 aq)))
  (bh:EN K mainGlobals "MOST_TAKES" =some (some (.int 12 be)))
  (bk:EN K mainGlobals "MOST_STEPS" =some (some (.int 12 bf)))
  (cc:EN K mainGlobals "MOST_USES" =some (some (.int 12 cb)))
  (bl:EN K mainGlobals "MOST_LINKS" =some (some (.int 24 bg)))
  (eb:EN K mainGlobals "abs" =some none)
  (dq:EN K mainGlobals "bool" =some none)
  (cd:EN K mainGlobals "enumerate" =some none)
  (ec:EN K mainGlobals "int" =some none)
  (bm:EN K mainGlobals "isinstance" =some none)
  (ed:EN K mainGlobals "len" =some none)
  (dt:EN K mainGlobals "list" =some none)
  (cR:EN K mainGlobals "range" =some none)
  (cB:EN K mainGlobals "sorted" =some none)
  (ee:EN K mainGlobals "str" =some none)
  (cW:EN K mainGlobals "tuple" =some none)
  (ef:EN K mainGlobals "zip" =some none)
  (cC:EN K mainGlobals "BOUNDS" =some (some (.ref Gr)))
  (eg:EN K mainGlobals "Cut" =some (some (.ref Ff)))
  (cY:EN K mainGlobals "FORMS" =some (some (.ref Gs)))
  (bn:EN K mainGlobals "LINK_WORDS" =some (some (.ref Fm)))
  (cm:EN K mainGlobals "NoAmount" =some (some (.ref Fh)))
  (cM:EN K mainGlobals "Recipe" =some (some (.ref Fe)))
  (du:EN K mainGlobals "Rest" =some (some (.ref Ev)))
  (bp:EN K mainGlobals "STEP_WORDS" =some (some (.ref Fl)))
  (dw:EN K mainGlobals "Step" =some (some (.ref Fk)))
  (bq:EN K mainGlobals "StoveError" =some (some (.ref Ft)))
  (ce:EN K mainGlobals "USE_WORDS" =some (some (.ref Fn)))
  (dx:EN K mainGlobals "Warm" =some (some (.ref on)))
  (atZ26:Em K (.ref Fk) "__init__" =some (some (.ref GA)))
  (hn:FnAt K GA "__init__" "Step.__init__" wX (.ref ek))
  (atZ27:Em K (.ref on) "__init__" =some (some (.ref GJ)))
  (ho:FnAt K GJ "__init__" "Warm.__init__" wY (.ref ep))
  (hp:jk K Fe GW "__init__" "Recipe.__init__" zp .none)
  (hq:jk K Fk Gz "span" "Step.span" zr .none)
  (hr:jk K Ff GE "span" "Cut.span" zt .none)
  (hs:jk K Fk Gw "grown_way" "Step.grown_way" zu .none)
  (ht:jk K Fk Gv "grown" "Step.grown" zv .none)
  (hu:jk K Fk GF "rounds" "Step.rounds" zw .none)
  (hv:jk K on GV "rounds" "Warm.rounds" zx .none)
  (hw:jk K Ff GU "word" "Cut.word" zG .none)
  (hx:jk K on GT "word" "Warm.word" zH .none)
  (hy:jk K Ev GS "word" "Rest.word" zI .none)
  (h0:K.lookup hz=some ⟨f9,fG,.seq #[.int 1 ea] fI,fQ⟩)
  (eu:K.lookup ek=some ⟨el,em,.seq #[.none,.none] en,eo⟩)
  (ev:K.lookup ep=some ⟨eq,er,.seq #[.none,.none] es,et⟩)
  (a4:nH K Fl ["cut","rest","warm"])
  (bs:nH K Fn ["with","orwith"])
  (a5:nH K Fm ["after","within","apart"])
  (cN:nM w K Gs qZ)
  (c3:nM w K Gr og)
  (co:PySem.W.excIn K Fh CS "ValueError.__new__" =true)
  (cp:XI K Fh)
  (cs:XT K Fh)
  (h8:PySem.W.subIn K (.ref Fh) (.ref Fh)=some true)
  (h7:EJ K (.ref Fh) (.ref Ft)=some true)
  (da:iY K Fk)
  (db:Mk K Fk GA)
  (dz:b7 K Fk "span" Gz)
  (d0:b7 K Fk "rounds" GF)
  (d1:b7 K Fk "grown" Gv)
  (d3:b7 K Fk "grown_way" Gw)
  (d4:iY K Ff)
  (d5:Mk K Ff GA)
  (d6:b7 K Ff "word" GU)
  (d7:b7 K Ff "span" GE)
  (a6:b7 K Ff "rounds" GF)
  (bt:b7 K Ff "grown" Gv)
  (ag:b7 K Ff "grown_way" Gw)
  (dc:iY K Ev)
  (dd:Mk K Ev GA)
  (d8:b7 K Ev "word" GS)
  (bu:b7 K Ev "span" Gz)
  (a0:b7 K Ev "rounds" GF)
  (a9:b7 K Ev "grown" Gv)
  (tx:b7 K Ev "grown_way" Gw)
  (de:iY K on)
  (dh:Mk K on GJ)
  (d9:b7 K on "word" GT)
  (bz:b7 K on "span" Gz)
  (dI:b7 K on "rounds" GV)
  (aD:b7 K on "grown" Gv)
  (ab:b7 K on "grown_way" Gw)
  (c4:iY K Fe)
  (c5:Mk K Fe GW)
  (ch:aG K Ff "name")
  (b0:aG K Ff "least")
  (ci:aG K Ff "most")
  (cj:aG K Ff "uses")
  (aN:aG K Ff "second")
  (b1:aG K Ev "name")
  (aP:aG K Ev "least")
  (b2:aG K Ev "most")
  (b3:aG K Ev "uses")
  (a1:aG K Ev "second")
  (b6:aG K on "name")
  (aQ:aG K on "least")
  (b9:aG K on "most")
  (bF:aG K on "uses")
  (a2:aG K on "second")
  (bG:aG K on "fill")
  (a3:aG K Fe "name")
  (ai:aG K Fe "plates")
  (al:aG K Fe "takes")
  (am:aG K Fe "steps")
  (an:aG K Fe "links")
  (ak:yd K Fk "__init__" GA)
  (dj:vn K Fk)
  (dJ:vn K Ff)
  (dl:vn K Ev)
  (dp:vn K on)
  (c9:vn K Fe)
  (cl:EJ K (.ref Ff) (.ref Ff)=some true)
  (bJ:EJ K (.ref Ff) (.ref Ev)=some false)
  (bL:EJ K (.ref Ff) (.ref on)=some false)
  (bP:EJ K (.ref Ff) (.ref Fk)=some true)
  (bS:EJ K (.ref Ev) (.ref Ff)=some false)
  (aT:EJ K (.ref Ev) (.ref Ev)=some true)
  (aV:EJ K (.ref Ev) (.ref on)=some false)
  (ba:EJ K (.ref Ev) (.ref Fk)=some true)
  (bW:EJ K (.ref on) (.ref Ff)=some false)
  (bb:EJ K (.ref on) (.ref Ev)=some false)
  (bc:EJ K (.ref on) (.ref on)=some true)
  (bd:EJ K (.ref on) (.ref Fk)=some true)
  (ae:EJ K (.ref Fe) (.ref Fe)=some true)
  :∃fd:FuncData,(∀(s:Shared) (v:Value),BindsTo s fd ⟨[v],[]⟩ [("_law_script",v)])/\∀base:Heap,K.In base->base.Ns mainGlobals mg->aY l.prog w K mg base a7 20 fa fd ["_law_script"] (qd K):=by
 have e:=hfa.symm.trans (Ea X G hi);cases e;have B:Bn w K mg Gr Ff Gs Fm Fh Fe Ev Fl Fk Ft Fn on GA GJ GW Gz GE Gw Gv GF GV GU GT GS:=⟨Exists.intro _<|Ea X G c1,Exists.intro _<|Ea X G au,Exists.intro _<|Ea X G c2,Exists.intro _<|Ea X G ay,Exists.intro _<|Ea X G bh,Exists.intro _<|Ea X G bk,Exists.intro _<|Ea X G cc,Exists.intro _<|Ea X G bl,Ep X G eb,Ep X G dq,Ep X G cd,Ep X G ec,Ep X G bm,Ep X G ed,Ep X G dt,Ep X G cR,Ep X G cB,Ep X G ee,Ep X G cW,Ep X G ef,Ea X G cC,Ea X G eg,Ea X G cY,Ea X G bn,Ea X G cm,Ea X G cM,Ea X G du,Ea X G bp,Ea X G dw,Ea X G bq,Ea X G ce,Ea X G dx,a4,bs,a5,cN,c3,co,cp,cs,h8,h7,da,db,dz,d0,d1,d3,d4,d5,d6,d7,a6,bt,ag,dc,dd,d8,bu,a0,a9,tx,de,dh,d9,bz,dI,aD,ab,c4,c5,ch,b0,ci,cj,aN,b1,aP,b2,b3,a1,b6,aQ,b9,bF,a2,bG,a3,ai,al,am,an,ak,dj,dJ,dl,dp,c9,cl,bJ,bL,bP,bS,aT,aV,ba,bW,bb,bc,bd,ae⟩;refine ku hG fun _ _ _ _ _ _ _ _ _ _hi=>?_
 refine uF _hi fun lZ3 cZ3 kZ3=>?_
 refine ku hn fun _ _ _ _ _ _ _ _ _ _hi=>?_
 refine uF _hi fun lZ26 cZ26 kZ26=>?_
 refine ku ho fun _ _ _ _ _ _ _ _ _ _hi=>?_
 refine uF _hi fun lZ27 cZ27 kZ27=>?_
 have FZ3:=gJ (st:=Cr) lZ3 cZ3 kZ3;have FZ26:=gJ (st:=wX) lZ26 cZ26 kZ26;have FZ27:=gJ (st:=wY) lZ27 cZ27 kZ27;have Flaw:=gJ (st:=lY) hj hk hm;refine ⟨F5 "law" "law" (dL lY) (di lY) (av lY) .none dN dV dX dK cP dY,?bind,fun base _ _=>?ok⟩
 case bind=>exact fun s v=> .of_eq rfl
 case ok=>
  have z9:Bx l.prog w base:=⟨⟩;have DZ0:=dE z9 X G hC (fun _ _ _ _ _ _=>cf fun _=>rfl) fun F=>Dn B F
  have DZ1:=dE z9 X G hD (fun _ _ _ _ _ _=>cf fun _=>rfl) fun F=>Do B F
  have DZ2:=dE z9 X G hE (fun _ _ _ _ _ _=>cw fun _ _=>rfl) fun F=>Dp B F
  have DZ3:Dx l.prog w K mg base a7 2 "fraction" ["top","bottom"] [.int 1] oN:=⟨ew,_,Dq B FZ3 DZ1 DZ2,Ea X G hF,kZ3,FZ3.binds (ps:= ["top","bottom"]) (ds:= []) h0 rfl fun _ _ _ _ _ _ us hl=>match us,hl with| [_,_],_=>⟨_,rfl,rfl⟩,⟨[.int 1 ea],FZ3.binds (ps:= ["top","bottom"]) (ds:= [.int 1 ea]) h0 rfl fun _ _ _ _ _ _ us hl=>match us,hl with| [_],_=>⟨_,rfl,rfl⟩| [],h=>absurd h (by simp)|_::_::_,h=>absurd h (by simp),.cons ⟨_,rfl⟩ .nil⟩⟩
  have DZ4:=dE z9 X G hH (fun _ _ _ _ _ _=>cw fun _ _=>rfl) fun F=>Dr B F DZ3
  have DZ5:=dE z9 X G hI (fun _ _ _ _ _ _=>cw fun _ _=>rfl) fun F=>Ds B F DZ3
  have DZ6:=dE z9 X G hK (fun _ _ _ _ _ _=>cw fun _ _=>rfl) fun F=>Dt B F DZ3
  have DZ7:=dE z9 X G hL (fun _ _ _ _ _ _=>cf fun _=>rfl) fun F=>Du B F
  have DZ8:=dE z9 X G hM (fun _ _ _ _ _ _=>cf fun _=>rfl) fun F=>Dw B F
  have DZ9:=dE z9 X G hN (fun _ _ _ _ _ _=>cf fun _=>rfl) fun F=>Dy B F DZ8
  have DZ10:=dE z9 X G fY (fun _ _ _ _ _ _=>cf fun _=>rfl) fun F=>Bh B F DZ0 DZ3
  have DZ11:=dE z9 X G ga (fun _ _ _ _ _ _=>cf fun _=>rfl) fun F=>Bi B F DZ4 DZ10
  have XZ12:=dE z9 X G gc (fun _ _ _ _ _ _=>cf fun _=>rfl) fun F=>Bj B F DZ9 DZ11
  have DZ12:Dx l.prog w K mg base a7 5 "read_amount" ["text"] [] qw:=XZ12.calm t8;have DZ13:=dE z9 X G ge (fun _ _ _ _ _ _=>cf fun _=>rfl) fun F=>Bk B F
  have DZ14:=dE z9 X G gg (fun _ _ _ _ _ _=>cf fun _=>rfl) fun F=>Bl B F
  have DZ15:=dE z9 X G gi (fun _ _ _ _ _ _=>dk fun _ _ _=>rfl) fun F=>Bm B F DZ0
  have DZ16:=dE z9 X G gj (fun _ _ _ _ _ _=>cw fun _ _=>rfl) fun F=>Bo B F XZ12
  have DZ17:=dE z9 X G gk (fun _ _ _ _ _ _=>cw fun _ _=>rfl) fun F=>Bp B F DZ13 DZ15 DZ16
  have DZ18:=dE z9 X G gl (fun _ _ _ _ _ _=>cw fun _ _=>rfl) fun F=>Bq B F DZ17
  have DZ19:=dE z9 X G gm (fun _ _ _ _ _ _=>cf fun _=>rfl) fun F=>Br B F
  have DZ20:=dE z9 X G gn (fun _ _ _ _ _ _=>cf fun _=>rfl) fun F=>Bs B F DZ14 DZ18 DZ19
  have DZ21:=dE z9 X G go (fun _ _ _ _ _ _=>dk fun _ _ _=>rfl) fun F=>Bt B F
  have DZ22:=dE z9 X G gp (fun _ _ _ _ _ _=>cw fun _ _=>rfl) fun F=>Bu B F
  have DZ23:=dE z9 X G gq (fun _ _ _ _ _ _=>dk fun _ _ _=>rfl) fun F=>Bv B F
  have DZ24:=dE z9 X G gr (fun _ _ _ _ _ _=>dk fun _ _ _=>rfl) fun F=>Bw B F DZ21 DZ22
  have DZ25:=dE z9 X G gs (fun _ _ _ _ _ _=>dk fun _ _ _=>rfl) fun F=>By B F DZ22 DZ23
  have DZ26:jH l.prog w K mg base a7 1 GA ["self","name","least","most","uses","second"] [.non,.non] (iS K):=⟨_,Bz B FZ26,FZ26.binds (ps:= ["self","name","least","most","uses","second"]) (ds:= []) eu rfl fun _ _ _ _ _ _ us hl=>match us,hl with| [_,_,_,_,_,_],_=>⟨_,rfl,rfl⟩,⟨[.none,.none],FZ26.binds (ps:= ["self","name","least","most","uses","second"]) (ds:= [.none,.none]) eu rfl fun _ _ _ _ _ _ us hl=>match us,hl with| [_,_,_,_],_=>⟨_,rfl,rfl⟩| [],h=>absurd h (by simp)| [_],h=>absurd h (by simp)| [_,_],h=>absurd h (by simp)| [_,_,_],h=>absurd h (by simp)|_::_::_::_::_::_,h=>absurd h (by simp),.cons rfl (.cons rfl .nil)⟩⟩
  have DZ27:jH l.prog w K mg base a7 2 GJ ["self","name","least","most","fill","uses","second"] [.non,.non] (lH K):=⟨_,BA B FZ27 DZ26,FZ27.binds (ps:= ["self","name","least","most","fill","uses","second"]) (ds:= []) ev rfl fun _ _ _ _ _ _ us hl=>match us,hl with| [_,_,_,_,_,_,_],_=>⟨_,rfl,rfl⟩,⟨[.none,.none],FZ27.binds (ps:= ["self","name","least","most","fill","uses","second"]) (ds:= [.none,.none]) ev rfl fun _ _ _ _ _ _ us hl=>match us,hl with| [_,_,_,_,_],_=>⟨_,rfl,rfl⟩| [],h=>absurd h (by simp)| [_],h=>absurd h (by simp)| [_,_],h=>absurd h (by simp)| [_,_,_],h=>absurd h (by simp)| [_,_,_,_],h=>absurd h (by simp)|_::_::_::_::_::_::_,h=>absurd h (by simp),.cons rfl (.cons rfl .nil)⟩⟩
  have DZ28:=vh z9 hp (fun _ _ _ _ _ _=>yn fun _ _ _ _ _ _=>rfl) fun F=>BB B F
  have DZ29:=dE z9 X G gt (fun _ _ _ _ _ _=>cw fun _ _=>rfl) fun F=>BC B F DZ3 DZ5 DZ7
  have DZ30:=vh z9 hq (fun _ _ _ _ _ _=>iu fun _ _ _ _=>rfl) fun F=>BD B F
  have DZ31:=vh z9 hr (fun _ _ _ _ _ _=>iu fun _ _ _ _=>rfl) fun F=>BE B F DZ29
  have DZ32:=vh z9 hs (fun _ _ _ _ _ _=>ym fun _ _ _ _ _=>rfl) fun F=>BF B F DZ30 DZ31
  have DZ33:=vh z9 ht (fun _ _ _ _ _ _=>cw fun _ _=>rfl) fun F=>BG B F DZ32
  have DZ34:=vh z9 hu (fun _ _ _ _ _ _=>dk fun _ _ _=>rfl) fun F=>BH B F
  have DZ35:=vh z9 hv (fun _ _ _ _ _ _=>dk fun _ _ _=>rfl) fun F=>BI B F DZ5 DZ6 DZ7
  have DZ36:=dE z9 X G gw (fun _ _ _ _ _ _=>cf fun _=>rfl) fun F=>BJ B F DZ28
  have DZ37:=dE z9 X G gy (fun _ _ _ _ _ _=>cf fun _=>rfl) fun F=>BK B F DZ26 DZ27
  have DZ38:=dE z9 X G g0 (fun _ _ _ _ _ _=>dk fun _ _ _=>rfl) fun F=>BL B F DZ21 DZ22 DZ37
  have DZ39:=dE z9 X G g1 (fun _ _ _ _ _ _=>dk fun _ _ _=>rfl) fun F=>BM B F DZ23
  have DZ40:=dE z9 X G g2 (fun _ _ _ _ _ _=>dk fun _ _ _=>rfl) fun F=>BN B F DZ21 DZ22 DZ23
  have DZ41:=dE z9 X G g3 (fun _ _ _ _ _ _=>dk fun _ _ _=>rfl) fun F=>BO B F DZ24 DZ25 DZ38 DZ39 DZ40
  have DZ42:=dE z9 X G g4 (fun _ _ _ _ _ _=>cf fun _=>rfl) fun F=>BP B F DZ20 DZ36 DZ41
  have DZ43:=vh z9 hw (fun _ _ _ _ _ _=>cf fun _=>rfl) fun F=>BQ B F
  have DZ44:=vh z9 hx (fun _ _ _ _ _ _=>cf fun _=>rfl) fun F=>BR B F
  have DZ45:=vh z9 hy (fun _ _ _ _ _ _=>cf fun _=>rfl) fun F=>BS B F
  have DZ46:=dE z9 X G g5 (fun _ _ _ _ _ _=>cw fun _ _=>rfl) fun F=>BU B F
  have DZ47:=dE z9 X G g6 (fun _ _ _ _ _ _=>cf fun _=>rfl) fun F=>BV B F
  have DZ48:=dE z9 X G g7 (fun _ _ _ _ _ _=>cw fun _ _=>rfl) fun F=>BW B F
  have DZ49:=dE z9 X G g8 (fun _ _ _ _ _ _=>cw fun _ _=>rfl) fun F=>BX B F
  have DZ50:=dE z9 X G g9 (fun _ _ _ _ _ _=>cf fun _=>rfl) fun F=>BY B F DZ49
  have DZ51:=dE z9 X G gC (fun _ _ _ _ _ _=>cw fun _ _=>rfl) fun F=>BZ B F DZ48
  have DZ52:=dE z9 X G gG (fun _ _ _ _ _ _=>cw fun _ _=>rfl) fun F=>B0 B F
  have DZ53:=dE z9 X G gI (fun _ _ _ _ _ _=>dk fun _ _ _=>rfl) fun F=>B1 B F DZ51
  have DZ54:=dE z9 X G gT (fun _ _ _ _ _ _=>iu fun _ _ _ _=>rfl) fun F=>B2 B F DZ51 DZ52
  have DZ55:=dE z9 X G gV (fun _ _ _ _ _ _=>cw fun _ _=>rfl) fun F=>B3 B F DZ52
  have DZ56:=dE z9 X G ha (fun _ _ _ _ _ _=>iu fun _ _ _ _=>rfl) fun F=>B4 B F
  have DZ57:=dE z9 X G hb (fun _ _ _ _ _ _=>cw fun _ _=>rfl) fun F=>B5 B F
  have DZ58:=dE z9 X G hc (fun _ _ _ _ _ _=>iu fun _ _ _ _=>rfl) fun F=>B6 B F DZ49 DZ53 DZ54 DZ55 DZ56 DZ57
  have DZ59:=dE z9 X G hd (fun _ _ _ _ _ _=>cw fun _ _=>rfl) fun F=>B7 B F DZ43 DZ44 DZ45 DZ47
  have DZ60:=dE z9 X G he (fun _ _ _ _ _ _=>cw fun _ _=>rfl) fun F=>B8 B F
  have DZ61:=dE z9 X G hf (fun _ _ _ _ _ _=>dk fun _ _ _=>rfl) fun F=>B9 B F DZ33 DZ34 DZ35 DZ60
  have DZ62:=dE z9 X G hg (fun _ _ _ _ _ _=>iu fun _ _ _ _=>rfl) fun F=>Ca B F DZ47 DZ59 DZ61
  have DZ63:=dE z9 X G hh (fun _ _ _ _ _ _=>dk fun _ _ _=>rfl) fun F=>Cb B F DZ58
  exact Cc B Flaw DZ42 DZ46 DZ50 DZ62 DZ63
theorem walk {l:PySem.W.OpenLaw} {q:Program} {loose:Ip} {XP:Il->Heap->Prop} {YP:World->Heap->Prop} {d:DefRec} {K:Params->D9} (hn:l.most=some 63) (hdf:d.params.defaults= [])
  (hY:∀(w:World) (h:Heap),YP w h->(K w.params).In h)
  (F:∀(w:World) (mg:Il) (fa:Addr) (h:Heap),(K w.params).In h->h.Ns mainGlobals mg->mg d.name=some (.ref fa)->
   ∃fd:FuncData,(∀(s:Shared) (u:Value),BindsTo s fd ⟨[u],[]⟩ [("_law_script",u)])/\∀base:Heap,(K w.params).In base->base.Ns mainGlobals mg->aY l.prog w (K w.params) mg base a7 20 fa fd ["_law_script"] (qd (K w.params))):
  PySem.W.WalkO q loose XP YP l.row.toRowW d [] (fun f vs=>PySem.call f vs):=
 L2.vO (n:=63) (k:=20) (x:= "_law_script") (CX:=fun _=>a7) (sp:=fun w=>qd (K w.params)) hn (by decide) hdf ⟨rfl,by decide,by decide⟩ hY F (fun _ _ a ns hl _ hS=>(aI a ns ⟨rfl,hS,hl,fun _=>rfl⟩)) fun _ _ _ _ _ z=>z
end Lk35
open PySem PySem.W PyProof.Rows
set_option maxRecDepth 100000 in
set_option maxHeartbeats 0 in
theorem PySem.Challenge.cw_stovework_k35_recipe_read_holds : PySem.Challenge.rw_stovework_k35_recipe_read.Holds := by
 refine Lk35.hd ?_
 k_fill
 refine Lk35.walk (l:=PySem.Challenge.rw_stovework_k35_recipe_read) rfl rfl (fun w h Y=>PySem.W.kIn_of Y) ?F
 case F=>
  intro w mg fa h KX G hmg
  refine' Lk35.Ab KX G hmg ?a ?b ?c ?d ?e ?f ?g ?h ?i ?j ?k ?l ?m ?n ?o ?p ?q ?r ?s ?t ?u ?v ?w ?x ?y ?z ?A ?B ?C ?D ?E ?F ?G ?H ?I ?J ?K ?L ?M ?N ?O ?P ?Q ?R ?S ?T ?U ?V ?W ?X ?Y ?Z ?aa ?ab ?ac ?ad ?ae ?af ?ag ?ah ?ai ?aj ?ak ?al ?am ?an ?ao ?ap ?aq ?ar ?au ?av ?aw ?ax ?ay ?az ?aA ?aB ?aC ?aD ?aE ?aF ?aG ?aH ?aI ?aJ ?aK ?aL ?aM ?aN ?aO ?aP ?aQ ?aR ?aS ?aT ?aU ?aV ?aW ?aX ?aY ?aZ ?ba ?bb ?bc ?bd ?be ?bf ?bg ?bh ?bi ?bj ?bk ?bl ?bm ?bn ?bo ?bp ?bq ?br ?bs ?bt ?bu ?bv ?bw ?bx ?bz ?bA ?bB ?bC ?bD ?bE ?bF ?bG ?bH ?bI ?bJ ?bK ?bL ?bM ?bN ?bO ?bP ?bQ ?bR ?bS ?bT ?bU ?bV ?bW ?bX ?bY ?bZ ?ca ?cb ?cc ?cd ?ce ?cf ?cg ?ch ?ci ?cj ?ck ?cl ?cm ?cn ?co ?cp ?cq ?cr ?cs ?ct ?cu ?cv ?cw ?cx ?cy ?cz ?cA ?cB ?cC ?cD ?cE ?cF
  case a|b|c=>exact ⟨by k_is,_,_,_,_,_,_,_,_,_,by k_is,by k_is,by k_is⟩
  case d=>k_is
  case e=>exact ⟨_,_,_,_,_,_,_,_,_,by k_is,by k_is,by k_is⟩
  case f|g|h|i|j|k|l|m|n|o|p|q|r|s|t|u|v|w|x|y|z|A|B|C|D|E|F|G|H|I|J|K|L|M|N|O|P|Q|R|S|T|U|V|W|X|Y|Z|aa=>exact ⟨by k_is,_,_,_,_,_,_,_,_,_,by k_is,by k_is,by k_is⟩
  case ab|ac|ad|ae|af|ag|ah|ai|aj|ak|al|am|an|ao|ap|aq|ar|au|av|aw|ax|ay|az|aA|aB|aC|aD|aE|aF|aG|aH|aI|aJ|aK|aL|aM|aN=>k_is
  case aO=>exact ⟨_,_,_,_,_,_,_,_,_,by k_is,by k_is,by k_is⟩
  case aP=>k_is
  case aQ=>exact ⟨_,_,_,_,_,_,_,_,_,by k_is,by k_is,by k_is⟩
  case aR|aS|aT|aU|aV|aW|aX|aY|aZ|ba=>exact ⟨by k_is,_,_,_,_,_,_,_,_,_,by k_is,by k_is,by k_is⟩
  case bb|bc|bd=>k_is
  case be=>exact ⟨_,_,_,by k_is,rfl,rfl,by decide,.cons ⟨_,rfl⟩ (.cons ⟨_,rfl⟩ (.cons ⟨_,rfl⟩ (.nil)))⟩
  case bf=>exact ⟨_,_,_,by k_is,rfl,rfl,by decide,.cons ⟨_,rfl⟩ (.cons ⟨_,rfl⟩ (.nil))⟩
  case bg=>exact ⟨_,_,_,by k_is,rfl,rfl,by decide,.cons ⟨_,rfl⟩ (.cons ⟨_,rfl⟩ (.cons ⟨_,rfl⟩ (.nil)))⟩
  case bh=>exact ⟨by decide,_,_,_,by k_is,⟨rfl,rfl,rfl⟩,rfl,(.cons ⟨_,_,_,by k_is,rfl,rfl,by decide,.cons ⟨_,rfl⟩ (.cons ⟨_,rfl⟩ (.nil))⟩ (.cons ⟨_,_,_,by k_is,rfl,rfl,by decide,.cons ⟨_,rfl⟩ (.cons ⟨_,rfl⟩ (.nil))⟩ (.cons ⟨_,_,_,by k_is,rfl,rfl,by decide,.cons ⟨_,rfl⟩ (.cons ⟨_,rfl⟩ (.cons ⟨_,rfl⟩ (.nil)))⟩ (.cons ⟨_,_,_,by k_is,rfl,rfl,by decide,.cons ⟨_,rfl⟩ (.cons ⟨_,rfl⟩ (.cons ⟨_,rfl⟩ (.nil)))⟩ (.cons ⟨_,_,_,by k_is,rfl,rfl,by decide,.cons ⟨_,rfl⟩ (.cons ⟨_,rfl⟩ (.cons ⟨_,rfl⟩ (.cons ⟨_,rfl⟩ (.nil))))⟩ (.cons ⟨_,_,_,by k_is,rfl,rfl,by decide,.cons ⟨_,rfl⟩ (.cons ⟨_,rfl⟩ (.cons ⟨_,rfl⟩ (.nil)))⟩ (.cons ⟨_,_,_,by k_is,rfl,rfl,by decide,.cons ⟨_,rfl⟩ (.cons ⟨_,rfl⟩ (.cons ⟨_,rfl⟩ (.cons ⟨_,rfl⟩ (.nil))))⟩ (.cons ⟨_,_,_,by k_is,rfl,rfl,by decide,.cons ⟨_,rfl⟩ (.cons ⟨_,rfl⟩ (.cons ⟨_,rfl⟩ (.cons ⟨_,rfl⟩ (.nil))))⟩ (.cons ⟨_,_,_,by k_is,rfl,rfl,by decide,.cons ⟨_,rfl⟩ (.cons ⟨_,rfl⟩ (.nil))⟩ (.cons ⟨_,_,_,by k_is,rfl,rfl,by decide,.cons ⟨_,rfl⟩ (.cons ⟨_,rfl⟩ (.cons ⟨_,rfl⟩ (.nil)))⟩ (.cons ⟨_,_,_,by k_is,rfl,rfl,by decide,.cons ⟨_,rfl⟩ (.cons ⟨_,rfl⟩ (.nil))⟩ .nil)))))))))))⟩
  case bi=>exact ⟨by decide,_,_,_,by k_is,⟨rfl,rfl,rfl⟩,rfl,(.cons ⟨_,_,_,by k_is,rfl,rfl,by decide,.cons ⟨_,rfl⟩ (.cons ⟨_,rfl⟩ (.nil))⟩ (.cons ⟨_,_,_,by k_is,rfl,rfl,by decide,.cons ⟨_,rfl⟩ (.cons ⟨_,rfl⟩ (.nil))⟩ (.cons ⟨_,_,_,by k_is,rfl,rfl,by decide,.cons ⟨_,rfl⟩ (.cons ⟨_,rfl⟩ (.nil))⟩ (.cons ⟨_,_,_,by k_is,rfl,rfl,by decide,.cons ⟨_,rfl⟩ (.cons ⟨_,rfl⟩ (.nil))⟩ (.cons ⟨_,_,_,by k_is,rfl,rfl,by decide,.cons ⟨_,rfl⟩ (.cons ⟨_,rfl⟩ (.nil))⟩ (.cons ⟨_,_,_,by k_is,rfl,rfl,by decide,.cons ⟨_,rfl⟩ (.cons ⟨_,rfl⟩ (.nil))⟩ (.cons ⟨_,_,_,by k_is,rfl,rfl,by decide,.cons ⟨_,rfl⟩ (.cons ⟨_,rfl⟩ (.nil))⟩ (.cons ⟨_,_,_,by k_is,rfl,rfl,by decide,.cons ⟨_,rfl⟩ (.cons ⟨_,rfl⟩ (.nil))⟩ .nil))))))))⟩
  case bj=>kernel_rfl
  case bk=>exact ⟨⟨by k_is,by k_is,by k_is⟩,by kernel_rfl,by k_is,by k_is,by k_is,by k_is⟩
  case bl=>exact ⟨by k_is,by kernel_rfl,by k_is⟩
  case bm=>k_is
  case bn=>kernel_rfl
  case bo|bp=>exact ⟨by k_is,by k_is,by k_is,by k_is⟩
  case bq|br|bs|bt=>exact ⟨by k_is,by k_is,by k_is⟩
  case bu|bv=>exact ⟨by k_is,by k_is,by k_is,by k_is⟩
  case bw|bx|bz|bA|bB=>exact ⟨by k_is,by k_is,by k_is⟩
  case bC|bD=>exact ⟨by k_is,by k_is,by k_is,by k_is⟩
  case bE|bF|bG|bH|bI=>exact ⟨by k_is,by k_is,by k_is⟩
  case bJ|bK=>exact ⟨by k_is,by k_is,by k_is,by k_is⟩
  case bL|bM|bN|bO|bP=>exact ⟨by k_is,by k_is,by k_is⟩
  case bQ|bR=>exact ⟨by k_is,by k_is,by k_is,by k_is⟩
  case bS|bT|bU|bV|bW|bX|bY|bZ|ca|cb|cc|cd|ce|cf|cg|ch|ci|cj|ck|cl|cm=>(unfold L2.aG;k_is)
  case cn|co|cp|cq|cr|cs=>exact ⟨by k_is,by k_is,by k_is,by k_is⟩
  case ct|cu|cv|cw|cx|cy|cz|cA|cB|cC|cD|cE|cF=>kernel_rfl
