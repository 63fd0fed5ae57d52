import PyProof.Rows.All
import Wide.All
import OpenK.AllK
import Wide.FinOn
import Lean
import PyProof.EqAt
import PyProof.EqKinds
import PyProof.TupleCall
import PyProof.NeKinds
import PyProof.StationsW
import PyProof.RulesAs
import PyProof.ExcArgsOwn
import PyProof.CompFree
import PyProof.ExcInit
import PyProof.ConsumeWalk
import PyProof.Rows.SeqGen
import PyProof.StrWalks
import PyProof.SliceStr2
import PyProof.MeetsStr
import KE.KIntText
import PyProof.Rows.FStr
import PyProof.StrCalls6
import PyProof.StrBlockL
import PyProof.ToksMono
import PyProof.WalkInts
import PyProof.Rows.MinMaxN
import PyProof.StrLawsReplace
import PyProof.StrLawsTight
import PyProof.Rows.StrLawsPart
import PyProof.DictWalks
import KE.KEqDict
import KE.KDictLaws
import KE.KRevIter
import PyProof.ListCopy
import PyProof.CollectIter
import PyProof.Rows.SetFrom
import PyProof.Rows.SortShellK
import PyProof.Rows.SortStr
import PyProof.Rows.SortWalk
import KE.KDictSum
import KE.KSortTup
import PyProof.TupleOfSeq
import PyProof.Rows.SortRuns
import PyProof.FactsAll.tuple_2
import PyProof.WalksEnum
import PyProof.EnumMake
import PyProof.EnumFor
import PyProof.ZipIter
import KE.KDictOf
import PyProof.DictItems
import PyProof.FactsAll.dict_itemiterator_1
import PyProof.Rows.StrMul
import KE.KDictList
import PyProof.Rows.SumAny
import KE.KIsAll
import PyProof.StrLaws
import PyProof.Rows.SortRev
import PyProof.FactsAll.tuple_1
import PyProof.PureInt
import PyProof.Conv_int_bool
import PyProof.Rows.CallKwBuiltin
import PySem.Challenge.RW_stovework_k75_papers_read
set_option maxHeartbeats 4000000
noncomputable section
abbrev GN:=PySem.Value->PySem.Shared->Prop
abbrev GO:=PySem.Str->Option PySem.Value
abbrev GP:=List (PySem.Addr×PySem.Obj)
abbrev GQ:=List PySem.Str
abbrev GR:=List PySem.Addr
abbrev GS:=List PySem.Value
abbrev GT:=Option PySem.Addr
abbrev GU:=Option PySem.Value
open Array renaming length_toList → Ep, getElem?_toList → FI
open Bool renaming and_eq_true → EK, false_ne_true → Ec, false_or → En, true_and → Eu, and_false → Ey, eq_iff_iff → F4, false_and → FE, not_eq_true → FJ, or_false → FX, not_true → Fm, and_true → Fn, true_or → Fu
open Int renaming toNat_natCast → ET, mul_le_mul_of_nonneg_right → FK, toNat_of_nonneg → FV, mul_fdiv_cancel_left → Fy
open List renaming length_map → E1, getElem?_eq_getElem → E2, length_append → E3, mem_of_getElem? → E4, getElem?_eq_some_iff → E6, mem_append_right → E9, mem_singleton → EA, getElem?_map → EB, length_take → EC, all_eq_true → ED, length_singleton → EG, map_map → EH, mem_cons → EI, mem_append → EJ, length_drop → EL, size_toArray → EN, mem_map → EO, getElem_mem → EQ, length_cons → ER, take_length → ES, map_append → EU, eq_nil_of_length_eq_zero → EV, range → EY, mem_cons_of_mem → EZ, any_eq_true → Ee, not_mem_nil → Ef, mem_iff_getElem? → Eg, mem_cons_self → Ej, length_reverse → Ek, getD_eq_getElem?_getD → Et, mem_range → Ew, getElem?_append_right → Ex, append_assoc → Ez, getElem?_append_left → F3, any_cons → F5, length_range → F6, map_cons → F8, find?_cons → FA, append_nil → FG, any_append → FH, mem_of_mem_take → FL, length_pos_iff → FU, nodup_cons → Fb, mem_filter → Fc, all_append → Fd, nodup_append → Fe, mem_append_left → Ff, all_cons → Fg, map_congr_left → Fj, any_nil → Fk, take_of_length_le → Fl, length_replicate → Fo, length_filter_le → Fp, replicate → Fq, mem_of_mem_drop → Fs, mem_of_find?_eq_some → Fv, range_succ → Fw
open Nat renaming le_refl → E8, ne_of_lt → EF, zero_le → El, lt_of_lt_of_le → Em, lt_succ_of_lt → F0, le_trans → FB, ne_of_gt → FW, lt_irrefl → Fh, le_succ → Ft
open Option renaming map_eq_some_iff → E7, bind_eq_some_iff → Ei, isSome_iff_exists → Es, map_some → Fa
open Option.some renaming inj → FC
open PyProof renaming noPylong_small → EE
open PyProof.Rows renaming callWith_type1 → Er
open PySem renaming mem_of_lookup → Eo
open PySem.F renaming plainAttrs_list → EM, type_list_append → EW, slot_list_append → EX, plain_min_loop → FT
open PySem.W renaming Frag → E5, nsIn → Ed, mg_none_of → Eh, mg_of → F7, kia_one → F9, emptyDict → FD, fnOf → FS, findIn → FY, instObj → FZ, keepIn → Fi
open PySem.W.Fast renaming te14364793385576792824 → FM, te14289696077712309145 → FN, te11892475500146522536 → FO, te10274390034422433532 → FP, te10156331382660048174 → FQ, te6613529449190102663 → FR
namespace Ht
open PySem PySem.W PyProof.Rows
noncomputable def qg (ok:Thread->Bool) (st:SharedT->Thread->Option (SharedT×Thread)) (n:Nat):SharedT->Thread->Option SharedT:=
 Nat.rec (motive:=fun _=>SharedT->Thread->Option SharedT) (fun _ _=>none) (fun _ ih s t=>
  Bool.rec (motive:=fun _=>Option SharedT)
   (Bool.rec (motive:=fun _=>Option SharedT) none (Option.rec (motive:=fun _=>Option SharedT) none (fun r=>Prod.rec (motive:=fun _=>Option SharedT) (fun s' t'=>ih s' t') r) (st s t)) (ok t))
   (some s) (through t)) n
theorem rK {tb:String->Option Builtin} {p:Program} {w:World} {m:Nat} {ann:GU}:∀{n:Nat} {s s':SharedT} {t:Thread},qg (stepOk m ann) (stepT (denote tb) p w) n s t=some s'->topRun tb p w m ann n s.abs t=some s'.abs
 |0,_,_,_,h=>by cases h
 |n+1,s,s',t,h=>by
  unfold topRun;have h':Bool.rec (motive:=fun _=>Option SharedT)
   (Bool.rec (motive:=fun _=>Option SharedT) none (Option.rec (motive:=fun _=>Option SharedT) none (fun r=>Prod.rec (motive:=fun _=>Option SharedT) (fun s' t'=>qg (stepOk m ann) (stepT (denote tb) p w) n s' t') r) (stepT (denote tb) p w s t)) (stepOk m ann t))
   (some s) (through t)=some s':=h
  cases ht:through t with
  |true=>rw[ht] at h';cases h';rfl
  |false=>
   rw[ht] at h';cases hk:stepOk m ann t with
   |false=>rw[hk] at h';cases h'
   |true=>
    rw[hk] at h';cases hs:stepT (denote tb) p w s t with
    |none=>rw[hs] at h';cases h'
    |some r=>
     obtain ⟨s₂,t₂⟩:=r;rw[hs] at h';dsimp only;rw[stepT_spec hs];exact rK h'
noncomputable def grow (l:List Obj):Nat->BT->Option BT:=
 List.rec (motive:=fun _=>Nat->BT->Option BT) (fun _ t=>some t) (fun o _ ih n t=>
  Bool.rec (motive:=fun _=>Option BT) none (ih (n+1) (t.ins n o)) ((t.ins n o).get n).isSome) l
theorem rL {life:Life}:∀{l:List Obj} {n:Nat} {t t':BT},grow l n t=some t'->absHeap t' (n+l.length) life=⟨(absHeap t n life).objs++l.toArray,life⟩
 | [],n,t,t',h=>by
  cases h;simp[absHeap]
 |o::l,n,t,t',h=>by
  have h':Bool.rec (motive:=fun _=>Option BT) none (grow l (n+1) (t.ins n o)) ((t.ins n o).get n).isSome=some t':=h
  cases e:((t.ins n o).get n).isSome with
  |false=>rw[e] at h';cases h'
  |true=>
   rw[e] at h';have z:=rL (life:=life) h';rw[absHeap_ins e] at z;rw[show n+(o::l).length=n+1+l.length by rw[ER];lia,z]
   simp[Heap.push]
noncomputable def treeOf (s:Shared):Option SharedT:=
 Option.rec (motive:=fun _=>Option SharedT) none (fun t=>some ⟨t,s.heap.objs.size,s.heap.life,s.gens,s.drawn,s.toks,s.os⟩) (grow s.heap.objs.toList 0 .nil)
theorem qh {s:Shared} {s':SharedT} (h:treeOf s=some s'):s'.abs=s:=by
 have h':Option.rec (motive:=fun _=>Option SharedT) none (fun t=>some ⟨t,s.heap.objs.size,s.heap.life,s.gens,s.drawn,s.toks,s.os⟩) (grow s.heap.objs.toList 0 .nil)=some s':=h
 cases e:grow s.heap.objs.toList 0 .nil with
 |none=>rw[e] at h';cases h'
 |some t=>
  rw[e] at h';cases h';have z:=rL (life:=s.heap.life) e;obtain ⟨⟨objs,life⟩,gens,drawn,toks,os⟩:=s;simp only[SharedT.abs];have z':absHeap t objs.size life=⟨objs,life⟩:=by
   simpa [absHeap,BT.list] using z
  rw[z']
noncomputable def uJ (ok:Nat->GU->Thread->Bool) (st:SharedT->Thread->Option (SharedT×Thread)) (p:Program) (N:Nat) (s₀:Shared):Option Shared:=
 Bool.rec (motive:=fun _=>Option Shared) none
  ((treeOf s₀).bind fun t₀=>(qg (ok s₀.heap.objs.size (s₀.heap.nsMap mainGlobals "__annotations__")) st N t₀ (topStub p)).bind fun t₁=>
   (fun s₁=>Bool.rec (motive:=fun _=>Option Shared) none (some s₁) (staticsOk (importedModules p.main.body) s₀.heap s₁.heap&&namesBound p s₁.heap&&gensDone s₁&&laidKept s₀.heap s₁.heap)) t₁.abs)
  (s₀.heap.isNs mainGlobals&&s₀.gens.size==0)
theorem uK {tb:String->Option Builtin} {p:Program} {w:World} {N:Nat} {s₀ s:Shared} (h:uJ stepOk (stepT (denote tb) p w) p N s₀=some s):topFrom tb p w N s₀=some s:=by
 unfold uJ at h;unfold topFrom;cases e:s₀.heap.isNs mainGlobals&&s₀.gens.size==0 with
 |false=>rw[e] at h;cases h
 |true=>
  rw[e] at h;obtain ⟨t₀,e0,h⟩:=Ei.mp h;obtain ⟨t₁,e1,h⟩:=Ei.mp h;have r:=rK e1;rw[qh e0] at r;dsimp only;rw[r];dsimp only at h;show (match staticsOk (importedModules p.main.body) s₀.heap t₁.abs.heap&&namesBound p t₁.abs.heap&&gensDone t₁.abs&&laidKept s₀.heap t₁.abs.heap with|true=>some t₁.abs|false=>none)=some s
  cases q:staticsOk (importedModules p.main.body) s₀.heap t₁.abs.heap&&namesBound p t₁.abs.heap&&gensDone t₁.abs&&laidKept s₀.heap t₁.abs.heap with
  |false=>rw[q] at h;cases h
  |true=>rw[q] at h;exact h
noncomputable def mO (ok:Nat->GU->Thread->Bool) (st:SharedT->Thread->Option (SharedT×Thread)) (p:Program) (N:Nat) (s₀:Shared):Option Shared:=
 (treeOf s₀).bind fun t₀=>(qg (ok s₀.heap.objs.size (s₀.heap.nsMap mainGlobals "__annotations__")) st N t₀ (topStub p)).map fun t₁=>t₁.abs
noncomputable def wG (p:Program) (s₀ s₁:Shared):Bool:=(s₀.heap.isNs mainGlobals&&s₀.gens.size==0)&&(staticsOk (importedModules p.main.body) s₀.heap s₁.heap&&namesBound p s₁.heap&&gensDone s₁&&laidKept s₀.heap s₁.heap)
theorem uL {tb:String->Option Builtin} {p:Program} {w:World} {N:Nat} {s₀ s:Shared} (h:mO stepOk (stepT (denote tb) p w) p N s₀=some s) (c:wG p s₀ s=true):topFrom tb p w N s₀=some s:=by
 apply uK;unfold mO at h;obtain ⟨t₀,e0,h⟩:=Ei.mp h;obtain ⟨t₁,e1,rfl⟩:=E7.mp h;unfold wG at c;rw[EK] at c;unfold uJ;rw[c.1];show ((treeOf s₀).bind fun t₀=>_)=_
 rw[e0];show ((qg _ _ N t₀ (topStub p)).bind fun t₁=>_)=_
 rw[e1];show (Bool.rec (motive:=fun _=>Option Shared) none (some t₁.abs) (staticsOk (importedModules p.main.body) s₀.heap t₁.abs.heap&&namesBound p t₁.abs.heap&&gensDone t₁.abs&&laidKept s₀.heap t₁.abs.heap):Option Shared)=_
 rw[c.2]
abbrev Look (p:Program) (N:Nat) {α:Type} (f:Shared->Shared->α) (v:World->α):Prop:=∀w:World,((importEnds treeTable (opening p) w N (start (opening p)).1 (start (opening p)).2).bind fun s=>(fenceModules? p s).bind fun s₀=>(mO stepOk (stepT (denote treeTable) p w) p N s₀).map fun s₁=>f s₀ s₁)=some (v w)
theorem Look.at_ {p:Program} {N:Nat} {α:Type} {f:Shared->Shared->α} {v:World->α} (h:Look p N f v) (w:World) {s s₀ s₁:Shared} (a:importEnds treeTable (opening p) w N (start (opening p)).1 (start (opening p)).2=some s) (b:fenceModules? p s=some s₀) (c:mO stepOk (stepT (denote treeTable) p w) p N s₀=some s₁):f s₀ s₁=v w:=by
 have:=h w;rw[a] at this;replace this:((fenceModules? p s).bind fun s₀=>(mO stepOk (stepT (denote treeTable) p w) p N s₀).map fun s₁=>f s₀ s₁)=some (v w):=this
 rw[b] at this;replace this:((mO stepOk (stepT (denote treeTable) p w) p N s₀).map fun s₁=>f s₀ s₁)=some (v w):=this
 rw[c] at this;injection this
theorem uM {p q:Program} {loose:GQ} {Xt:Shared->Bool} {α:Type} {Yf:Shared->α} {Ya:World->α} {N:Nat} {g0:Bool} (hc:Look p N (fun s₀ s₁=>wG p s₀ s₁) fun _=>true)
  (h1:Look p N (fun _ s=>openSeen q loose (importedModules p.main.body) Xt g0 s) fun _=>openGood q loose) (h2:Look p N (fun _ s=>Yf s) Ya):LeftO p q loose Xt Yf Ya N g0:=fun w=>by
 obtain ⟨s,a,e⟩:=Ei.mp (hc w);obtain ⟨s₀,b,e⟩:=Ei.mp e;obtain ⟨s₁,c,e⟩:=E7.mp e;have z:openEnds treeTable p w N=some s₁:=by
  unfold openEnds fencedOpening;rw[a];show (fenceModules? p s).bind _=_;rw[b];exact uL c e
 rw[z];show some (_,_)=some (_,_);rw[h1.at_ w a b c,h2.at_ w a b c]
noncomputable def rM (t:SharedT) (a:Addr):Option Obj:=Bool.rec (motive:=fun _=>Option Obj) none ((fun o=>Bool.rec (motive:=fun _=>Option Obj) (some o) none (Obj.isFreed o)) ((t.tree.get a).getD default)) (Nat.blt a t.n)
theorem sX (t:SharedT) (a:Addr):rM t a=t.abs.heap.get? a:=by
 unfold rM SharedT.abs Heap.get?;dsimp only;rw[absHeap_at];cases h:Nat.blt a t.n with
 |false=>
  rw[if_neg fun z=>by rw[Nat.blt_eq.mpr z] at h;cases h]
 |true=>
  rw[if_pos (Nat.blt_eq.mp h)];obtain ⟨cls,dict,data,slots⟩:=(t.tree.get a).getD default;cases data<;>rfl
theorem sY {p:Program} {N:Nat} {as:GR} {v:World->List (Option Obj)}
  (h:∀w:World,((importEnds treeTable (opening p) w N (start (opening p)).1 (start (opening p)).2).bind fun s=>(fenceModules? p s).bind fun s₀=>(treeOf s₀).bind fun t₀=>(qg (stepOk s₀.heap.objs.size (s₀.heap.nsMap mainGlobals "__annotations__")) (stepT (denote treeTable) p w) N t₀ (topStub p)).map fun t₁=>as.map (rM t₁))=some (v w)):
  Look p N (fun _ s=>as.map s.heap.get?) v:=fun w=>by
 obtain ⟨s,a,e⟩:=Ei.mp (h w);obtain ⟨s₀,b,e⟩:=Ei.mp e;obtain ⟨t₀,c,e⟩:=Ei.mp e;obtain ⟨t₁,d,e⟩:=E7.mp e;rw[a];show (fenceModules? p s).bind _=_;rw[b];show (mO stepOk (stepT (denote treeTable) p w) p N s₀).map _=_;unfold mO;rw[c];show ((qg _ _ N t₀ (topStub p)).map fun t₁=>t₁.abs).map _=_
 rw[d];show some (as.map t₁.abs.heap.get?)=_;rw[<-e,show (as.map (rM t₁))=as.map t₁.abs.heap.get? from Fj fun a _=>sX t₁ a]
theorem ye {p:Program} {N:Nat} {α β γ δ:Type} {f:Shared->Shared->α×β×γ×δ} {v:World->α×β×γ×δ} (h1:Look p N (fun a b=>((f a b).1,(f a b).2.1,(f a b).2.2.1)) fun w=>((v w).1,(v w).2.1,(v w).2.2.1)) (h2:Look p N (fun a b=>(f a b).2.2.2) fun w=>(v w).2.2.2):Look p N f v:=fun w=>by
 obtain ⟨s,a,e⟩:=Ei.mp (h1 w);obtain ⟨s₀,b,e⟩:=Ei.mp e;obtain ⟨s₁,c,e⟩:=E7.mp e;have e1:=h1.at_ w a b c;have e2:=h2.at_ w a b c;rw[a];show (fenceModules? p s).bind _=_;rw[b];show (mO stepOk (stepT (denote treeTable) p w) p N s₀).map _=_;rw[c];obtain ⟨f1,f2⟩:=Prod.mk.inj e1;obtain ⟨f2,f3⟩:=Prod.mk.inj f2;have f4:f s₀ s₁=v w:=Prod.ext f1 (Prod.ext f2 (Prod.ext f3 e2));exact congrArg some f4
end Ht
set_option Elab.async false
set_option linter.all false
set_option maxRecDepth 100000
namespace Lk75
open PySem PySem.W PyProof.Rows
noncomputable def qv:Program:={PySem.Challenge.pw_stovework_k75_papers_read with main:={PySem.Challenge.pw_stovework_k75_papers_read.main with body:=([1,2,3,5,6,7,9,10,11,12,13,14,15,16,17,18,19,20,21,22,23,24,25,27,28,29,30,31,32,33,34,36,37,38,39,41,42,43,44,45,47,48,49,50,52,53,54,55,56,57,58,59,60,61,62,64,65,66,67,68,69,70,71,72,73,74,75,76,77,78,79,80,81,82,83,84,85,86,87,88,89,90,91,92,93,94]:List Nat).filterMap fun i=>PySem.Challenge.pw_stovework_k75_papers_read.main.body[i]?}}
noncomputable def lo:GQ:= []
theorem head {α:Type} {Yf:Shared->α} {Ya:World->α} {YP:World->Heap->Prop} {d:DefRec} {kwd:List (Str×Expr)} (left:LeftO PySem.Challenge.pw_stovework_k75_papers_read qv lo (fun s=>xlAt qv [] s&&recOk [] s) Yf Ya 8500)
  (hY:∀w s,Yf s=Ya w->YP w s.heap) (hYk:∀w h h',YP w h->(∀b o,h.get? b=some o->h'.get? b=some o)->YP w h') (hd:defOf qv PySem.Challenge.rw_stovework_k75_papers_read.row.name=some (d,kwd))
  (hp:PySem.Challenge.rw_stovework_k75_papers_read.row.prog.theDef PySem.Challenge.rw_stovework_k75_papers_read.row.name=some (d.params,d.body,d.scope)) (hk:kwWritten? d.params.kwonlyargs d.params.kw_defaults=some kwd)
  (said:PySem.Challenge.rw_stovework_k75_papers_read.row.wellSaid=true) (hw:PySem.Challenge.rw_stovework_k75_papers_read.row.toRowW.promised) (call:WalkO qv lo (XL qv []) YP PySem.Challenge.rw_stovework_k75_papers_read.row.toRowW d kwd fun f vs=>PySem.call f vs):PySem.Challenge.rw_stovework_k75_papers_read.row.Holds:=
 holds_open left hY hYk (fun s e=>xl_of s (Bool.and_eq_true_iff.mp e).1) XL.keeps hd hp hk (fun s e=>recFacts_of (Bool.and_eq_true_iff.mp e).2) rfl said (by decide+kernel) ⟨rfl,rfl,rfl,rfl,rfl,by decide+kernel⟩ hw call
set_option maxHeartbeats 0 in
theorem la:Ht.Look PySem.Challenge.pw_stovework_k75_papers_read 8500 (fun s₀ s₁=>Ht.wG PySem.Challenge.pw_stovework_k75_papers_read s₀ s₁) (fun _=>true):=by
 (intro w;rw[FP,FN,FR,FQ,FO,FM];kernel_rfl)
set_option maxHeartbeats 0 in
theorem DN:Ht.Look PySem.Challenge.pw_stovework_k75_papers_read 8500 (fun _ s=>((openSeen qv lo (importedModules PySem.Challenge.pw_stovework_k75_papers_read.main.body) (fun s=>xlAt qv [] s&&recOk [] s) true s).1,(openSeen qv lo (importedModules PySem.Challenge.pw_stovework_k75_papers_read.main.body) (fun s=>xlAt qv [] s&&recOk [] s) true s).2.1,(openSeen qv lo (importedModules PySem.Challenge.pw_stovework_k75_papers_read.main.body) (fun s=>xlAt qv [] s&&recOk [] s) true s).2.2.1)) (fun _=>((openGood qv lo).1,(openGood qv lo).2.1,(openGood qv lo).2.2.1)):=by
 dsimp only[openSeen,openGood]
 (intro w;rw[FP,FN,FR,FQ,FO,FM];kernel_rfl)
set_option maxHeartbeats 0 in
theorem xV:Ht.Look PySem.Challenge.pw_stovework_k75_papers_read 8500 (fun _ s=>(openSeen qv lo (importedModules PySem.Challenge.pw_stovework_k75_papers_read.main.body) (fun s=>xlAt qv [] s&&recOk [] s) true s).2.2.2) (fun _=>(openGood qv lo).2.2.2):=by
 dsimp only[openSeen,openGood]
 (intro w;rw[FP,FN,FR,FQ,FO,FM];kernel_rfl)
theorem lb:Ht.Look PySem.Challenge.pw_stovework_k75_papers_read 8500 (fun _ s=>(openSeen qv lo (importedModules PySem.Challenge.pw_stovework_k75_papers_read.main.body) (fun s=>xlAt qv [] s&&recOk [] s) true s)) (fun _=>(openGood qv lo)):=Ht.ye DN xV
end Lk75
local macro_rules| `(tactic|o_head $H)=> `(tactic|(refine Lk75.head (Yf:=PySem.W.Hook.obs $H) (Ya:=PySem.W.Hook.val $H) (YP:=PySem.W.Hook.says $H) ?hl (PySem.W.Hook.of $H) (PySem.W.Hook.keeps $H) (by rfl) (by rfl) (by rfl) (by assumption) ?hw ?hc;(case hl=>(refine Ht.uM Lk75.la Lk75.lb ?c;(case c=>(refine Ht.sY ?c2;(case c2=>(intro w;rw[FP,FN,FR,FQ,FO,FM];kernel_rfl))))))))
namespace PySem.W.Fast
noncomputable def tw15480375102655954629:PySem.Program:=PySem.Challenge.pw_stovework_k75_papers_read
theorem te15480375102655954629:PySem.Challenge.pw_stovework_k75_papers_read=tw15480375102655954629:=rfl
end PySem.W.Fast
set_option maxHeartbeats 0 in
open_top Lk75.hd for PySem.Challenge.rw_stovework_k75_papers_read
namespace L2
open PySem PySem.Spec PyProof.Rows
abbrev Key:=Sum Int Str
noncomputable def lg:Key->Value->Bool
 | .inl k,v=>Value.isInt k v
 | .inr x,v=>Value.isStrOf x v
noncomputable def CI (w:World):Key->Int
 | .inl k=>hashInt k
 | .inr x=>hashStr w x
theorem cG:∀{k:Key} {v:Value},lg k v=true->(∃i t,k=Sum.inl i/\v=Value.int i t)∨(∃x t,k=Sum.inr x/\v=Value.str x t)
 | .inl i,v,h=>by
  obtain ⟨t,e⟩:=Value.isInt_shape (k:=i) (v:=v) h;exact .inl ⟨i,t,rfl,e⟩
 | .inr x,v,h=>by
  obtain ⟨t,e⟩:=Value.isStrOf_shape (x:=x) (v:=v) h;exact .inr ⟨x,t,rfl,e⟩
theorem sZ (i:Int) (t:Tok):lg (.inl i) (.int i t)=true:=by simp[lg,Value.isInt]
theorem s0 (x:Str) (t:Tok):lg (.inr x) (.str x t)=true:=by simp[lg,Value.isStrOf]
theorem yf (a b:Int):decide ((Sum.inl a:Key)=Sum.inl b)=(a==b):=by
 by_cases e:a=b
 ·subst e;simp
 ·have h:¬(Sum.inl a:Key)=Sum.inl b:=fun q=>e (Sum.inl.inj q)
  rw[decide_eq_false h];exact (beq_eq_false_iff_ne.mpr e).symm
theorem yg (a b:Str):decide ((Sum.inr a:Key)=Sum.inr b)=decide (a=b):=by
 by_cases e:a=b
 ·subst e;simp
 ·have h:¬(Sum.inr a:Key)=Sum.inr b:=fun q=>e (Sum.inr.inj q)
  rw[decide_eq_false h,decide_eq_false e]
theorem yh (a:Int) (b:Str):decide ((Sum.inl a:Key)=Sum.inr b)=false:=decide_eq_false (fun q=>nomatch q)
theorem yi (a:Str) (b:Int):decide ((Sum.inr a:Key)=Sum.inl b)=false:=decide_eq_false (fun q=>nomatch q)
noncomputable def aN (prog:Program) (w:World):PySem.KeyKind prog w Key where
 is:=lg
 hash:=CI w
 inj:=fun v a b ha hb=>by
  rcases cG ha with ⟨i,t,rfl,rfl⟩|⟨x,t,rfl,rfl⟩
  ·rcases cG hb with ⟨j,u,rfl,e⟩|⟨y,u,rfl,e⟩
   ·injection e with e1 _;rw[e1]
   ·exact nomatch e
  ·rcases cG hb with ⟨j,u,rfl,e⟩|⟨y,u,rfl,e⟩
   ·exact nomatch e
   ·injection e with e1 _;rw[e1]
 byValue:=fun k v h=>by
  rcases cG h with ⟨i,t,rfl,rfl⟩|⟨x,t,rfl,rfl⟩<;>rfl
 pyHash:=fun hv h=>by
  rcases cG hv with ⟨i,t,rfl,rfl⟩|⟨x,t,rfl,rfl⟩
  ·exact wpAny_pyHash_int h
  ·exact wpAny_pyHash_str h
 eqBool:=fun hu hv h=>by
  rcases cG hu with ⟨i,t,rfl,rfl⟩|⟨x,t,rfl,rfl⟩
  ·rcases cG hv with ⟨j,u,rfl,rfl⟩|⟨y,u,rfl,rfl⟩
   ·rw[yf] at h;exact wpAny_eqBool_int h
   ·rw[yh] at h;exact SeqAt.EqAt.int_str i t y u _ _ _ _ h
  ·rcases cG hv with ⟨j,u,rfl,rfl⟩|⟨y,u,rfl,rfl⟩
   ·rw[yi] at h;exact SeqAt.EqAt.str_int x t j u _ _ _ _ h
   ·rw[yg] at h;exact wpAny_eqBool_str h
 «strs» :=fun k x t v h=>by
  rcases cG h with ⟨i,u,rfl,e⟩|⟨y,u,rfl,e⟩
  ·exact nomatch e
  ·injection e with e1 _
   subst e1;cases v<;>rfl
theorem nY (prog:Program) (w:World) (i:Int) (t:Tok):(aN prog w).is (.inl i) (.int i t)=true:=sZ i t
theorem nZ (prog:Program) (w:World) (x:Str) (t:Tok):(aN prog w).is (.inr x) (.str x t)=true:=s0 x t
inductive V where
 |non|bl (b:Bool)|int (i:Int)|str (x:Str)|byt (b:Array UInt8)|flt (b:UInt64)|ref (a:Addr)|ty (n:String)
 deriving DecidableEq
def RelV:V->Value->Prop
 | .non,u=>u=Value.none
 | .bl b,u=>u=Value.bool b
 | .int i,u=>∃t,u=Value.int i t
 | .str x,u=>∃t,u=Value.str x t
 | .byt b,u=>∃t,u=Value.bytes b t
 | .flt b,u=>∃t,u=Value.float b t
 | .ref a,u=>u=Value.ref a
 | .ty n,u=>u=Value.type n
abbrev bC:List V->GS->Prop:=Paired RelV
theorem bC.length {xs:List V} {us:GS} (r:bC xs us):xs.length=us.length:=Paired.length r
theorem bC.get:∀{xs:List V} {us:GS} {i:Nat} {x:V},bC xs us->xs[i]?=some x->∃u,us[i]?=some u/\RelV x u
 |_,_,_,_,.nil,e=>by simp at e
 |_,_,0,_,.cons r _,e=>by simp at e;subst e;exact ⟨_,rfl,r⟩
 |_,_,i+1,x,.cons _ t,e=>by
  obtain ⟨u,h1,h2⟩:=bC.get (i:=i) (x:=x) t (by simpa using e)
  exact ⟨u,by simpa using h1,h2⟩
theorem bC.set {x:V} {u:Value} (r:RelV x u):∀{xs:List V} {us:GS} (i:Nat),bC xs us->bC (xs.set i x) (us.set i u)
 |_,_,_,.nil=> .nil
 |_,_,0,.cons _ t=> .cons r t
 |_,_,i+1,.cons q t=> .cons q (bC.set r i t)
theorem bC.append:∀{xs ys:List V} {us ws:GS},bC xs us->bC ys ws->bC (xs++ys) (us++ws)
 |_,_,_,_,.nil,s=>s
 |_,_,_,_,.cons r t,s=> .cons r (bC.append t s)
theorem bC.take:∀{xs:List V} {us:GS} (n:Nat),bC xs us->bC (xs.take n) (us.take n)
 |_,_,0,_=> .nil
 |_,_,_+1,.nil=> .nil
 |_,_,n+1,.cons r t=> .cons r (bC.take n t)
theorem bC.drop:∀{xs:List V} {us:GS} (n:Nat),bC xs us->bC (xs.drop n) (us.drop n)
 |_,_,0,r=>r
 |_,_,_+1,.nil=> .nil
 |_,_,n+1,.cons _ t=>bC.drop n t
def iG:Option V->GU->Prop
 |some v,some u=>RelV v u
 |none,none=>True
 |_,_=>False
def KV {κ:Type}:List (κ×V)->List (κ×Value)->Prop:=Paired fun (p:κ×V) (q:κ×Value)=>p.1=q.1/\RelV p.2 q.2
noncomputable def kV:Key->V
 | .inl i=> .int i
 | .inr x=> .str x
inductive HO where
  |lst (xs:List V)
  |tup (xs:List V)
  |dK (kvs:List (Key×V))|dT (kvs:List (List Key×V))
  |set (S:Int->Bool) (n:Nat)
  |ins (C dx:Addr) (fs:List (Str×V))
  |own (x:Addr)
  |xd (fs:List (Str×V))
  |met (f x:Addr)
  |rng (lo hi:Int)
  |frz (o:Obj) (u:HO)
  |tbl (ps:Array Value)
  |ext (φ:Heap->Prop)
abbrev Hp:=Addr->Option HO
noncomputable def aH (H:Hp) (a:Addr) (o:HO):Hp:=fun b=>if b=a then some o else H b
theorem ae {H:Hp} {a:Addr} {o:HO}:aH H a o a=some o:=by unfold aH;rw[if_pos rfl]
theorem aK {H:Hp} {a b:Addr} {o:HO} (h:b≠a):aH H a o b=H b:=by unfold aH;rw[if_neg h]
theorem iR {H:Hp} {a b:Addr} {o u:HO} (h:H a=some o) (h':H b=some u) (d:o≠u):a≠b:=by
 intro e;subst e;rw[h] at h';exact d (FC h')
theorem dH {H:Hp} {a b:Addr} {o:HO} (h:H a=some o) (h':H b=none):a≠b:=by
 intro e;subst e;rw[h] at h';cases h'
section
variable (P:Program) (w:World)
def cq (H:Hp) (h:Heap) (a:Addr):HO->Prop
 | .lst xs=>xs.length<=sizeLine/\∃(its:GS) (n:Nat),bC xs its/\h.get? a=some {cls:= .type "list",data:= .seq its.toArray n}
 | .tup xs=>xs.length<=sizeLine/\∃its:GS,bC xs its/\IsTup h a its.toArray
 | .dK kvs=>kvs.length<=sizeLine/\(a==sysModules)=false/\∃vs,KV kvs vs/\h.DictOf (aN P w) a vs
 | .dT kvs=>kvs.length<=sizeLine/\(a==sysModules)=false/\∃xs:List (List Key×Addr×Value),
   Paired (fun (p:List Key×V) (q:List Key×Addr×Value)=>p.1=q.1/\H q.2.1=some (.tup (p.1.map kV))/\RelV p.2 q.2.2) kvs xs/\
   ∃o es ep,h.get? a=some o/\o.ExactDict/\o.data= .dict es ep/\es.toList=xs.map (entryOfKey (tupleKind (aN P w)))/\(xs.map (·.1)).Nodup
 | .set S n=>h.SetOf (intKind P w) a S n
 | .ins C dx fs=>H dx=some (.own a)/\fs.length<=1000/\dx≠a/\h.get? a=some (FZ C dx)/\
   ∃mA,h.Ns1 dx mA/\(∀f,iG (fs.lookup f) (mA f))/\PySem.Within mA (fs.map (·.1))
 | .own _=>∃o,h.get? a=some o
 | .xd fs=>∃mA,h.Ns1 a mA/\∀f,iG (fs.lookup f) (mA f)
 | .rng lo hi=>∃t u v,h.get? a=some {cls:= .type "range",data:= .fields #[.int lo t,.int hi u,.int 1 v]}
 | .frz o u=>h.get? a=some o/\cq H h a u
 | .tbl ps=>h.get? a=some {cls:= .none,data:= .fields ps}
 | .met f x=>h.get? a=some (PySem.W.methodObj (.ref f) (.ref x))
 | .ext φ=>φ h/\(∃o,h.get? a=some o)/\∀h1 h2:Heap,φ h1->(∀o,h1.get? a=some o->h2.get? a=some o)->φ h2
def ix (H:Hp) (h:Heap):Prop:=∀a o,H a=some o->cq P w H h a o
end
section
variable {P:Program} {w:World} {H H':Hp} {h h':Heap} {a:Addr} {o:HO}
theorem cq.lt (x:cq P w H h a o):a<h.objs.size:=by
 cases o with
 |lst xs=>obtain ⟨_,_,_,_,e⟩:=x;exact Heap.lt_size e
 |tup xs=>obtain ⟨_,_,_,p⟩:=x;exact p.lt
 |dK kvs=>obtain ⟨_,_,_,_,o,_,_,e,_⟩:=x;exact Heap.lt_size e
 |dT kvs=>obtain ⟨_,_,_,_,o,_,_,e,_⟩:=x;exact Heap.lt_size e
 |set S n=>obtain ⟨o,_,_,_,e,_⟩:=x;exact Heap.lt_size e
 |ins C dx fs=>obtain ⟨_,_,_,e,_⟩:=x;exact Heap.lt_size e
 |own y=>obtain ⟨_,e⟩:=x;exact Heap.lt_size e
 |xd fs=>obtain ⟨_,⟨_,_,_,e,_⟩,_⟩:=x;exact Heap.lt_size e
 |rng lo hi=>obtain ⟨_,_,_,e⟩:=x;exact Heap.lt_size e
 |frz ob u=>obtain ⟨e,_⟩:=x;exact Heap.lt_size e
 |tbl ps=>exact Heap.lt_size (show h.get? a=some _ from x)
 |met f y=>exact Heap.lt_size (show h.get? a=some _ from x)
 |ext φ=>obtain ⟨_,⟨_,e⟩,_⟩:=x;exact Heap.lt_size e
theorem Paired.mapP {α β:Type} {F G:α->β->Prop}:∀{l₁:List α} {l₂:List β},Paired F l₁ l₂->(∀a b,F a b->G a b)->Paired G l₁ l₂
 |_,_,.nil,_=> .nil
 |_,_,.cons r t,f=> .cons (f _ _ r) (Paired.mapP t f)
theorem cq.stay (x:cq P w H h a o) (k:∀b u,(b=a∨H b=some (.own a))->h.get? b=some u->h'.get? b=some u)
  (ho:∀b,H b=some (.own a)->H' b=some (.own a)) (ht:∀b xs,H b=some (.tup xs)->H' b=some (.tup xs)):cq P w H' h' a o:=by
 induction o with
 |lst xs=>obtain ⟨z,its,n,r,e⟩:=x;exact ⟨z,its,n,r,k _ _ (.inl rfl) e⟩
 |tup xs=>obtain ⟨z,its,r,ob,e,c⟩:=x;exact ⟨z,its,r,ob,k _ _ (.inl rfl) e,c⟩
 |dK kvs=>obtain ⟨z,y,vs,r,ob,es,ep,e,c⟩:=x;exact ⟨z,y,vs,r,ob,es,ep,k _ _ (.inl rfl) e,c⟩
 |dT kvs=>
  obtain ⟨z,y,xs,r,ob,es,ep,e,c⟩:=x;exact ⟨z,y,xs,Paired.mapP r fun p q z=>⟨z.1,ht _ _ z.2.1,z.2.2⟩,ob,es,ep,k _ _ (.inl rfl) e,c⟩
 |set S n=>obtain ⟨ob,es,ep,t,e,c⟩:=x;exact ⟨ob,es,ep,t,k _ _ (.inl rfl) e,c⟩
 |ins C dx fs=>
  obtain ⟨d,z,ne,e,mA,⟨od,es,ep,e2,c⟩,r⟩:=x;exact ⟨ho _ d,z,ne,k _ _ (.inl rfl) e,mA,⟨od,es,ep,k _ _ (.inr d) e2,c⟩,r⟩
 |own y=>obtain ⟨ob,e⟩:=x;exact ⟨ob,k _ _ (.inl rfl) e⟩
 |xd fs=>obtain ⟨mA,⟨od,es,ep,e,c⟩,r⟩:=x;exact ⟨mA,⟨od,es,ep,k _ _ (.inl rfl) e,c⟩,r⟩
 |rng lo hi=>obtain ⟨t,u,v,e⟩:=x;exact ⟨t,u,v,k _ _ (.inl rfl) e⟩
 |frz ob u ih=>obtain ⟨e,q⟩:=x;exact ⟨k _ _ (.inl rfl) e,ih q⟩
 |tbl ps=>
  have e:h.get? a=some {cls:= .none,data:= .fields ps}:=x;show h'.get? a=some {cls:= .none,data:= .fields ps};exact k a _ (.inl rfl) e
 |met f y=>
  have e:h.get? a=some (PySem.W.methodObj (.ref f) (.ref y)):=x;show h'.get? a=some (PySem.W.methodObj (.ref f) (.ref y));exact k a _ (.inl rfl) e
 |ext φ=>obtain ⟨p,⟨o,e⟩,st⟩:=x;exact ⟨st _ _ p fun o q=>k _ _ (.inl rfl) q,⟨o,k _ _ (.inl rfl) e⟩,st⟩
theorem ix.lt (x:ix P w H h) (e:H a=some o):a<h.objs.size:=(x a o e).lt
theorem ix.fresh (x:ix P w H h) (e:h.objs.size<=a):H a=none:=by
 cases q:H a with
 |none=>rfl
 |some u=>exact absurd (Em (x.lt q) e) (Fh _)
theorem ix.kept (x:ix P w H h) (k:∀b u,h.get? b=some u->h'.get? b=some u):ix P w H h':=fun a o e=>
 (x a o e).stay (fun b u _ q=>k b u q) (fun _ q=>q) fun _ _ q=>q
theorem ix.laid (x:ix P w H h) (k:∀b u,h.get? b=some u->h'.get? b=some u) (hp:h.objs.size<=a) (new:cq P w (aH H a o) h' a o):ix P w (aH H a o) h':=fun b u e=>by
 have hn:=x.fresh hp
 by_cases hb:b=a
 ·subst hb;rw[ae] at e;cases e;exact new
 ·rw[aK hb] at e;exact (x b u e).stay (fun c v _ q=>k c v q) (fun c q=>by rw[aK (dH q hn)];exact q) fun c xs q=>by rw[aK (dH q hn)];exact q
end
def Rd (H:Hp) (a:Addr) (u:HO):Prop:=H a=some u∨∃o,H a=some (.frz o u)
theorem Rd.ok {P:Program} {w:World} {H:Hp} {h:Heap} {a:Addr} {u:HO} (r:Rd H a u) (x:ix P w H h):cq P w H h a u:=by
 rcases r with r|⟨o,r⟩
 ·exact x a u r
 ·obtain ⟨_,q⟩:=x a _ r;exact q
def As:Option HO->Prop
 |some (.lst _)=>True
 |some (.dK _)=>True
 |some (.dT _)=>True
 |some (.set _ _)=>True
 |some (.ins _ _ _)=>True
 |some (.ext _)=>True
 |_=>False
section
variable {P:Program} {w:World} {H:Hp} {h h':Heap} {x e:Addr} {o':HO}
theorem ix.write (ok:ix P w H h) (mu:As (H x)) (he:e=x∨H e=some (.own x)) (k:∀b u,b≠e->h.get? b=some u->h'.get? b=some u) (heo:∃u,h'.get? e=some u)
  (new:cq P w (aH H x o') h' x o'):ix P w (aH H x o') h':=fun b u q=>by
 have nown:∀c y,H c=some (.own y)->c≠x:=fun c y r z=>by subst z;rw[r] at mu;exact mu
 have ntup:∀c xs,H c=some (.tup xs)->c≠x:=fun c xs r z=>by subst z;rw[r] at mu;exact mu
 by_cases hb:b=x
 ·subst hb;rw[ae] at q;cases q;exact new
 ·rw[aK hb] at q
  by_cases hbe:b=e
  ·have q':H b=some (.own x):=by
    rcases he with z|z
    ·exact absurd (hbe.trans z) hb
    ·rw[hbe];exact z
   rw[q] at q';cases q';obtain ⟨v,hv⟩:=heo;exact ⟨v,by rw[hbe];exact hv⟩
  ·refine (ok b u q).stay (fun c v hc r=>k c v ?_ r) (fun c r=>by rw[aK (nown c b r)];exact r) fun c xs r=>by rw[aK (ntup c xs r)];exact r
   rcases hc with rfl|hc
   ·exact hbe
   ·rintro rfl;rcases he with z|z
    ·exact nown c b hc z
    ·rw[hc] at z;cases z;exact hb rfl
end
structure Un (fs ex:GR) (H H':Hp) (h h':Heap):Prop where
 keep:∀b o,h.get? b=some o->H b=none->b∉fs->b∉ex->h'.get? b=some o
 slot:∀b o,h.get? b=some o->H b=none->b∈fs->b∉ex->∃sl,h'.get? b=some {o with slots:=sl}
 free:∀b o,h.get? b=some o->H b=none->b∉ex->H' b=none
 there:∀b o,h.get? b=some o->b∉ex->∃o',h'.get? b=some o'
 tups:∀b xs,H b=some (.tup xs)->H' b=some (.tup xs)
 frzs:∀b o u,H b=some (.frz o u)->H' b=some (.frz o u)
 tbls:∀b ps,H b=some (.tbl ps)->∃more,H' b=some (.tbl (ps++more))
section
variable {fs fs' ex ex':GR} {H H1 H2:Hp} {h h1 h2 h':Heap} {a x e:Addr} {o:HO}
theorem Un.any (u:Un fs ex H H1 h h1) {b:Addr} {ob:Obj} (q:h.get? b=some ob) (n:H b=none) (hx:b∉ex):∃sl,h1.get? b=some {ob with slots:=sl}:=by
 by_cases hb:b∈fs
 ·exact u.slot b ob q n hb hx
 ·exact ⟨ob.slots,u.keep b ob q n hb hx⟩
theorem Un.kept (k:∀b u,h.get? b=some u->h'.get? b=some u):Un fs ex H H h h':=
 ⟨fun b ob q _ _ _=>k b ob q,fun b ob q _ _ _=>⟨ob.slots,k b ob q⟩,fun _ _ _ n _=>n,fun b ob q _=>⟨ob,k b ob q⟩,fun _ _ q=>q,fun _ _ _ q=>q,fun _ ps q=>⟨#[],by rw[q];simp⟩⟩
theorem Un.refl:Un fs ex H H h h:=Un.kept fun _ _ q=>q
theorem Un.laid (k:∀b u,h.get? b=some u->h'.get? b=some u) (hp:h.objs.size<=a) (hn:H a=none):Un fs ex H (aH H a o) h h' where
 keep:=fun b u q _ _ _=>k b u q
 slot:=fun b u q _ _ _=>⟨u.slots,k b u q⟩
 free:=fun b u q n _=>by rw[aK (EF (Em (Heap.lt_size q) hp))];exact n
 there:=fun b u q _=>⟨u,k b u q⟩
 tups:=fun b xs q=>by rw[aK (dH q hn)];exact q
 frzs:=fun b u xs q=>by rw[aK (dH q hn)];exact q
 tbls:=fun b ps q=>⟨#[],by rw[aK (dH q hn),q];simp⟩
theorem Un.write (mu:As (H x)) (he:e=x∨H e=some (.own x)) (k:∀b u,b≠e->h.get? b=some u->h'.get? b=some u) (heo:∃u,h'.get? e=some u):Un fs ex H (aH H x o) h h':=by
 have hx:∀b,H b=none->b≠x:=fun b n z=>by subst z;rw[n] at mu;exact mu
 have hb:∀b,H b=none->b≠e:=fun b n z=>by
  subst z;rcases he with r|r
  ·exact hx b n r
  ·rw[n] at r;cases r
 have hm:∀b u,H b=some u->¬As (some u)->b≠x:=fun b u q nm z=>by subst z;rw[q] at mu;exact nm mu
 refine ⟨fun b u q n _ _=>k b u (hb b n) q,fun b u q n _ _=>⟨u.slots,k b u (hb b n) q⟩,fun b u q n _=>by rw[aK (hx b n)];exact n,fun b u q _=>?_,
  fun b xs q=>by rw[aK (hm b _ q fun z=>z)];exact q,fun b u xs q=>by rw[aK (hm b _ q fun z=>z)];exact q,fun b ps q=>⟨#[],by rw[aK (hm b _ q fun z=>z),q];simp⟩⟩
 by_cases hbe:b=e
 ·subst hbe;exact heo
 ·exact ⟨u,k b u hbe q⟩
end
noncomputable def Cp (h:Heap) (H:Hp):GR:=(EY h.objs.size).filter fun a=>(H a).isSome
noncomputable def mQ (h:Heap) (H:Hp):Heap:=PySem.W.hideAll h (Cp h H)
theorem tf (h:Heap) (H:Hp):(mQ h H).objs.size=h.objs.size:=PySem.W.hideAll_size _ _
theorem uN {h:Heap} {H:Hp} {b:Addr} {o:Obj} (e:h.get? b=some o) (n:H b=none):(mQ h H).get? b=some o:=
 PySem.W.hideAll_get _ e fun hm=>by
  have q:(H b).isSome=true:=(Fc.mp hm).2;rw[n] at q;simp at q
theorem wH {h:Heap} {H:Hp} {b:Addr} {o:Obj} (e:(mQ h H).get? b=some o):h.get? b=some o/\H b=none:=by
 have e':h.get? b=some o:=PySem.W.of_hideAll (Cp h H) e;refine ⟨e',?_⟩;cases q:H b with
 |none=>rfl
 |some x=>
  have hm:b∈Cp h H:=Fc.mpr ⟨Ew.mpr (Heap.lt_size e'),by simp[q]⟩
  have z:(mQ h H).get? b=none:=PySem.W.hideAll_none (Cp h H) hm;rw[z] at e;cases e
structure Mod (K:E5) (mg:GO) (base:Heap):Prop where
 kin:K.In base
 glob:base.Ns mainGlobals mg
 blt:∃mb,base.Ns builtinsNs mb/\∀x:Str,x≠ "__name__" ->mb x=bootBuiltins x
 nolimit:base.NoLimit
structure Cx where
 prog:Program
 w:World
 K:E5
 mg:Str->GU
 base:Heap
 A:Around
 N:GQ
 s₀:Shared
 H₀:Hp
 env:Env
 outer:List Env
 stack:List Env
 ex:GR
 fn:Str->Bool
 calm:Bool
 pn:GP
 xe:Value->Shared->Prop
noncomputable def tj (l:List Env):GR:=l.filterMap (·.frame)
abbrev Cx.fs (X:Cx):GR:=tj X.outer
def Cq (sc:Scope) (x:Str):Prop:=sc.names.lookup x=some .local∨sc.names.lookup x=some .cell∨sc.names.lookup x=some .free
def Loc (sc:Scope) (x:Str):Prop:=sc.names.lookup x=some .local∨sc.names.lookup x=some .cell
def Look (env:Env) (h:Heap) (m:GO) (x:Str) (u:Value):Prop:=
 (env.kindOf x=some .local/\m x=some u)∨((env.kindOf x=some .cell∨env.kindOf x=some .free)/\∃c,env.cells.lookup x=some c/\h.IsCell c (some u))
structure Cx.Ok (X:Cx):Prop where
 mod:Mod X.K X.mg X.base
 kind:X.env.scope.kind= .function
 glob:X.env.globals=mainGlobals
 blt:X.env.builtins=builtinsNs
 above:X.s₀.heap.objs.size<=X.env.locals
 inj:∀x y c,X.env.cells.lookup x=some c->X.env.cells.lookup y=some c->x=y
 has:∀x,(X.env.kindOf x=some .cell∨X.env.kindOf x=some .free)->∃c,X.env.cells.lookup x=some c
 cab:∀x c,X.fn x=true->X.env.cells.lookup x=some c->X.s₀.heap.objs.size<=c
 hd:X.calm=true->X.A.handled=none
 frames:X.A.frames=some X.stack
 stk:X.stack=X.outer∨(X.stack=X.env::X.outer/\X.env.frame=some X.env.locals)
 exf:∀b∈X.ex,b≠X.env.locals/\∀x c,X.env.cells.lookup x=some c->c≠b
 bs:∀b o,X.base.get? b=some o->X.s₀.heap.get? b=some o/\X.H₀ b=none
 bsz:X.base.objs.size<=X.s₀.heap.objs.size
 noex:∀b o,X.base.get? b=some o->b∉X.ex
 exfs:∀b∈X.ex,b∉X.fs
 funs:X.s₀.heap.FunFrames X.base X.outer
 frf:∀b∈X.fs,X.H₀ b=none
structure aQ (X:Cx) (pins:GP) (σ:List (Option V)) (H:Hp) (s:Shared):Prop where
 ok:X.Ok
 os:s.os=X.s₀.os
 bare:AllBare s.gens
 base:Un X.fs X.ex X.H₀ H X.s₀.heap s.heap
 loc:∃m,s.heap.Ns X.env.locals m/\∀(i:Nat) (x:Str) (v:V),X.N[i]?=some x->σ[i]?=some (some v)->Cq X.env.scope x->∃u,RelV v u/\Look X.env s.heap m x u
 cell:∀x c,X.env.cells.lookup x=some c->∃v,s.heap.IsCell c v
 free:H X.env.locals=none
 freeC:∀x c,X.env.cells.lookup x=some c->H c=none
 pin:∀p∈X.pn++pins,s.heap.get? p.1=some p.2/\H p.1=none/\p.1≠X.env.locals/\p.1∉X.fs/\∀v,p.2.data≠ .cell v
 hok:ix X.prog X.w H s.heap
 len:σ.length=X.N.length
variable {X:Cx} {pins:GP} {σ:List (Option V)} {H H':Hp} {s:Shared} {h':Heap}
theorem Cx.Ok.nofr (ok:X.Ok) {b:Addr} {o:Obj} (e:X.base.get? b=some o):b∉X.fs:=fun hb=>by
 have:=(ok.funs.mem hb).1;rw[e] at this;cases this
theorem aQ.bs (I:aQ X pins σ H s):∀b o,X.base.get? b=some o->s.heap.get? b=some o/\H b=none:=fun b o e=>
 ⟨I.base.keep b o (I.ok.bs b o e).1 (I.ok.bs b o e).2 (I.ok.nofr e) (I.ok.noex b o e),I.base.free b o (I.ok.bs b o e).1 (I.ok.bs b o e).2 (I.ok.noex b o e)⟩
theorem aQ.bk (I:aQ X pins σ H s):∀b o,X.base.get? b=some o->s.heap.get? b=some o:=fun b o e=>(I.bs b o e).1
theorem aQ.mod (I:aQ X pins σ H s):Mod X.K X.mg X.base:=I.ok.mod
theorem aQ.kIn (I:aQ X pins σ H s):X.K.In s.heap:=I.ok.mod.kin.keeps I.bk
theorem aQ.lt (I:aQ X pins σ H s):X.env.locals<s.heap.objs.size:=let ⟨_,hn,_⟩:=I.loc;hn.lt
theorem aQ.sz (I:aQ X pins σ H s):X.s₀.heap.objs.size<=s.heap.objs.size:=FB I.ok.above (Nat.le_of_lt I.lt)
theorem aQ.nofs (I:aQ X pins σ H s) {a:Addr} (h:s.heap.objs.size<=a):a∉X.fs:=fun hb=>by
 obtain ⟨_,o,ho,_⟩:=I.ok.funs.mem hb;exact absurd (Em (Heap.lt_size ho) (FB I.sz h)) (Fh _)
theorem aQ.cne (I:aQ X pins σ H s):∀x c,X.env.cells.lookup x=some c->c≠X.env.locals:=fun x c e z=>by
 obtain ⟨v,o,ho,hd⟩:=I.cell x c e;obtain ⟨m,⟨o',es,ep,ho',hd',_⟩,_⟩:=I.loc;rw[z,ho'] at ho;cases ho;rw[hd'] at hd;cases hd
theorem aQ.funs (I:aQ X pins σ H s):s.heap.FunFrames X.base X.outer:=by
 have all:∀(l:List Env),(∀b∈tj l,b∈X.fs)->X.s₀.heap.FunFrames X.base l->s.heap.FunFrames X.base l:=by
  intro l
  induction l with
  |nil=>intro _ _;trivial
  |cons env r ih=>
   intro hs hl;obtain ⟨hk,⟨L,o,hf,hn,ho,hd⟩,hr⟩:=hl;have hL:L∈X.fs:=hs L (by unfold tj;rw[List.filterMap_cons,hf];exact Ej)
   obtain ⟨sl,e⟩:=I.base.slot L o ho (I.ok.frf L hL) hL fun z=>I.ok.exfs L z hL
   exact ⟨hk,⟨L,_,hf,hn,e,hd⟩,ih (fun b hb=>hs b (by unfold tj;rw[List.filterMap_cons,hf];exact EZ _ hb)) hr⟩
 exact all X.outer (fun _ hb=>hb) I.ok.funs
theorem aQ.stack (I:aQ X pins σ H s):s.heap.FunFrames X.base X.stack:=by
 rcases I.ok.stk with e|⟨e,hf⟩
 ·rw[e];exact I.funs
 ·rw[e];obtain ⟨m,hn,_⟩:=I.loc;refine .cons (by rw[I.ok.kind];decide) hf hn ?_ I.funs
  exact Heap.get?_none_of_le (FB I.ok.bsz I.ok.above)
theorem aQ.stkSub (I:aQ X pins σ H s):∀b∈tj X.stack,b∈X.env.locals::X.fs:=fun b hb=>by
 rcases I.ok.stk with e|⟨e,hf⟩
 ·rw[e] at hb;exact EZ _ hb
 ·rw[e] at hb;unfold tj at hb;rw[List.filterMap_cons,hf] at hb;exact hb
theorem aQ.stkFree (I:aQ X pins σ H s):∀b∈tj X.stack,H b=none:=fun b hb=>by
 rcases EI.mp (I.stkSub b hb) with e|hb
 ·rw[e];exact I.free
 ·obtain ⟨_,o,ho,_⟩:=I.ok.funs.mem hb;exact I.base.free b o ho (I.ok.frf b hb) fun z=>I.ok.exfs b z hb
theorem aQ.step {g':Array GenState} {t':Nat} {d':Drawn} {ch:GR} (I:aQ X pins σ H s)
  (hch:∀b∈ch,(b∈X.ex∨X.s₀.heap.objs.size<=b)/\b≠X.env.locals/\(∀x c,X.env.cells.lookup x=some c->c≠b)/\∀p∈X.pn++pins,p.1≠b)
  (keep:∀b o,b≠X.env.locals->b∉X.fs->b∉ch->s.heap.get? b=some o->H b=none->h'.get? b=some o)
  (slot:∀b o,b≠X.env.locals->b∈X.fs->b∉ch->s.heap.get? b=some o->H b=none->∃sl,h'.get? b=some {o with slots:=sl}) (free:∀b o,b∉ch->s.heap.get? b=some o->H b=none->H' b=none)
  (there:∀b o,b∉ch->s.heap.get? b=some o->∃o',h'.get? b=some o')
  (tups:∀b xs,H b=some (.tup xs)->H' b=some (.tup xs)) (frzs:∀b o u,H b=some (.frz o u)->H' b=some (.frz o u)) (tbls:∀b ps,H b=some (.tbl ps)->∃more,H' b=some (.tbl (ps++more)))
  (ns:∀m,s.heap.Ns X.env.locals m->h'.Ns X.env.locals m) (hok:ix X.prog X.w H' h') (hg:AllBare g'):
  aQ X pins σ H' {s with heap:=h',gens:=g',drawn:=d',toks:=t'}:=by
 have neL:∀b o,X.s₀.heap.get? b=some o->b≠X.env.locals:=fun b o e=>EF (Em (Heap.lt_size e) I.ok.above)
 have neC:∀b o,X.s₀.heap.get? b=some o->b∉X.ex->b∉ch:=fun b o e hx hb=>by
  rcases (hch b hb).1 with z|z
  ·exact hx z
  ·exact absurd (Em (Heap.lt_size e) z) (Fh _)
 have cellK:∀x c,X.env.cells.lookup x=some c->∀v,s.heap.IsCell c v->h'.IsCell c v:=fun x c e v ⟨o,ho,hd⟩=>by
  have nch:c∉ch:=fun z=>(hch c z).2.2.1 x c e rfl
  by_cases hc:c∈X.fs
  ·obtain ⟨sl,q⟩:=slot c o (I.cne x c e) hc nch ho (I.freeC x c e);exact ⟨_,q,hd⟩
  ·exact ⟨o,keep c o (I.cne x c e) hc nch ho (I.freeC x c e),hd⟩
 refine ⟨I.ok,I.os,hg,⟨fun b o e n hb hx=>?_,fun b o e n hb hx=>?_,fun b o e n hx=>?_,fun b o e hx=>?_,fun b xs e=>tups b xs (I.base.tups b xs e),fun b o xs e=>frzs b o xs (I.base.frzs b o xs e),fun b ps e=>?_⟩,?_,fun x c e=>?_,?_,fun x c e=>?_,fun p hp=>?_,hok,I.len⟩
 ·exact keep b o (neL b o e) hb (neC b o e hx) (I.base.keep b o e n hb hx) (I.base.free b o e n hx)
 ·obtain ⟨sl,e1⟩:=I.base.slot b o e n hb hx;obtain ⟨sl',e2⟩:=slot b _ (neL b o e) hb (neC b o e hx) e1 (I.base.free b o e n hx);exact ⟨sl',e2⟩
 ·obtain ⟨o',e1⟩:=I.base.there b o e hx;exact free b o' (neC b o e hx) e1 (I.base.free b o e n hx)
 ·obtain ⟨o',e1⟩:=I.base.there b o e hx;exact there b o' (neC b o e hx) e1
 ·obtain ⟨m1,e1⟩:=I.base.tbls b ps e;obtain ⟨m2,e2⟩:=tbls b _ e1;exact ⟨m1++m2,by rw[e2,Array.append_assoc]⟩
 ·obtain ⟨m,hn,hl⟩:=I.loc;refine ⟨m,ns m hn,fun i x v e1 e2 e3=>?_⟩
  obtain ⟨u,r,l⟩:=hl i x v e1 e2 e3;refine ⟨u,r,?_⟩;rcases l with l|⟨k,c,e,z⟩
  ·exact .inl l
  ·exact .inr ⟨k,c,e,cellK x c e _ z⟩
 ·obtain ⟨v,z⟩:=I.cell x c e;exact ⟨v,cellK x c e v z⟩
 ·obtain ⟨m,⟨o,_,_,ho,_⟩,_⟩:=I.loc;exact free _ o (fun z=>(hch _ z).2.1 rfl) ho I.free
 ·obtain ⟨v,o,ho,hd⟩:=I.cell x c e;exact free c o (fun z=>(hch c z).2.2.1 x c e rfl) ho (I.freeC x c e)
 ·obtain ⟨e,n,ne,nf,d⟩:=I.pin p hp;have nch:p.1∉ch:=fun z=>(hch p.1 z).2.2.2 p hp rfl
  exact ⟨keep p.1 p.2 ne nf nch e n,free p.1 p.2 nch e n,ne,nf,d⟩
theorem aQ.un {t':Nat} (I:aQ X pins σ H s) (u:Un X.fs [] H H' s.heap h') (hok:ix X.prog X.w H' h'):aQ X pins σ H' {s with heap:=h',toks:=t'}:=by
 obtain ⟨m,⟨o,es,ep,ho,r⟩,_⟩:=id I.loc;obtain ⟨sl,hL⟩:=u.any ho I.free (by simp)
 exact I.step (g':=s.gens) (d':=s.drawn) (ch:= []) (fun _ z=>nomatch z) (fun b o _ hb _ e n=>u.keep b o e n hb (by simp)) (fun b o _ hb _ e n=>u.slot b o e n hb (by simp)) (fun b o _ e n=>u.free b o e n (by simp)) (fun b o _ e=>u.there b o e (by simp)) u.tups u.frzs u.tbls (fun m' hm=>by
  obtain ⟨o',es',ep',ho',r'⟩:=hm;rw[ho] at ho';cases ho';exact ⟨_,es',ep',hL,r'⟩) hok I.bare
theorem aQ.call {g':Array GenState} {t':Nat} {d':Drawn} {ch:GR} (I:aQ X pins σ H s) (u:Un (tj X.stack) ch H H' s.heap h') (hok:ix X.prog X.w H' h') (hg:AllBare g')
  (hch:∀b∈ch,(b∈X.ex∨X.s₀.heap.objs.size<=b)/\b≠X.env.locals/\(∀x c,X.env.cells.lookup x=some c->c≠b)/\∀p∈X.pn++pins,p.1≠b):
  aQ X pins σ H' {s with heap:=h',gens:=g',drawn:=d',toks:=t'}:=by
 obtain ⟨m,⟨o,es,ep,ho,r⟩,_⟩:=id I.loc;obtain ⟨sl,hL⟩:=u.any ho I.free fun z=>(hch _ z).2.1 rfl
 exact I.step (ch:=ch) hch (fun b o hL hb hc e n=>u.keep b o e n (fun z=>(EI.mp (I.stkSub b z)).elim hL hb) hc) (fun b o _ _ hc e n=>u.any e n hc) (fun b o hc e n=>u.free b o e n hc) (fun b o hc e=>u.there b o e hc) u.tups u.frzs u.tbls (fun m' hm=>by
  obtain ⟨o',es',ep',ho',r'⟩:=hm;rw[ho] at ho';cases ho';exact ⟨_,es',ep',hL,r'⟩) hok hg
theorem aQ.turned {t':Nat} {it:Addr} (I:aQ X pins σ H s) (k:∀b o,b≠it->s.heap.get? b=some o->h'.get? b=some o) (hn:H it=none) (hL:it≠X.env.locals)
  (h1:it∈X.ex∨X.s₀.heap.objs.size<=it) (h2:∀x c,X.env.cells.lookup x=some c->c≠it) (h3:∀p∈X.pn++pins,p.1≠it):aQ X pins σ H {s with heap:=h',toks:=t'}:=by
 have nit:∀b u,H b=some u->b≠it:=fun b u e z=>by rw[z,hn] at e;cases e
 refine I.step (g':=s.gens) (d':=s.drawn) (ch:= [it]) (fun b hb=>?_) (fun b o _ _ hc e _=>k b o (fun z=>hc (by simp[z])) e) (fun b o _ _ hc e _=>⟨o.slots,k b o (fun z=>hc (by simp[z])) e⟩) (fun _ _ _ _ n=>n)
  (fun b o hc e=>⟨o,k b o (fun z=>hc (by simp[z])) e⟩) (fun _ _ e=>e) (fun _ _ _ e=>e) (fun b ps e=>⟨#[],by rw[e];simp⟩) (fun m hm=>?_) (fun b u e=>?_) I.bare
 ·have e:b=it:=by simpa using hb
  subst e;exact ⟨h1,hL,h2,h3⟩
 ·obtain ⟨o,es,ep,ho,r⟩:=hm;exact ⟨o,es,ep,k _ o (Ne.symm hL) ho,r⟩
 ·refine (I.hok b u e).stay (fun c v hc q=>k c v ?_ q) (fun _ q=>q) fun _ _ q=>q
  rcases hc with z|z
  ·rw[z];exact nit b u e
  ·exact nit c _ z
theorem aQ.tok (I:aQ X pins σ H s) (t:Nat):aQ X pins σ H {s with toks:=t}:=I.un (h':=s.heap) (t':=t) Un.refl I.hok
theorem aQ.kept {t':Nat} (I:aQ X pins σ H s) (k:∀b u,s.heap.get? b=some u->h'.get? b=some u):aQ X pins σ H {s with heap:=h',toks:=t'}:=I.un (Un.kept k) (I.hok.kept k)
theorem aQ.laid {a:Addr} {o:HO} {t':Nat} (I:aQ X pins σ H s) (k:∀b u,s.heap.get? b=some u->h'.get? b=some u) (hp:s.heap.objs.size<=a) (new:cq X.prog X.w (aH H a o) h' a o):
  aQ X pins σ (aH H a o) {s with heap:=h',toks:=t'}:=I.un (Un.laid k hp (I.hok.fresh hp)) (I.hok.laid k hp new)
theorem aQ.write {x e:Addr} {o:HO} {t':Nat} (I:aQ X pins σ H s) (mu:As (H x)) (he:e=x∨H e=some (.own x)) (k:∀b u,b≠e->s.heap.get? b=some u->h'.get? b=some u) (heo:∃u,h'.get? e=some u)
  (new:cq X.prog X.w (aH H x o) h' x o):aQ X pins σ (aH H x o) {s with heap:=h',toks:=t'}:=I.un (Un.write mu he k heo) (I.hok.write mu he k heo new)
theorem aQ.pins_of {pins':GP} (I:aQ X pins σ H s) (h:∀p∈pins',s.heap.get? p.1=some p.2/\H p.1=none/\p.1≠X.env.locals/\p.1∉X.fs/\∀v,p.2.data≠ .cell v):aQ X pins' σ H s:=
 ⟨I.ok,I.os,I.bare,I.base,I.loc,I.cell,I.free,I.freeC,fun p hp=>(EJ.mp hp).elim (fun z=>I.pin p (Ff _ z)) (h p),I.hok,I.len⟩
theorem n4 {N:GQ} (hN:N.Nodup) {i j:Nat} {x:Str} (a:N[i]?=some x) (b:N[j]?=some x):i=j:=by
 obtain ⟨h1,e1⟩:=E6.mp a;obtain ⟨h2,e2⟩:=E6.mp b;exact (List.getElem_inj hN).mp (e1.trans e2.symm)
theorem hW {M:Model} {A:Around} {E:GN} {i:Nat} {x:Str} {v:V} {u:Value} {Q:Unit->Shared->Prop} (I:aQ X pins σ H s) (hN:X.N.Nodup) (hi:X.N[i]?=some x) (hx:Loc X.env.scope x) (r:RelV v u)
  (h:∀s',aQ X pins (σ.set i (some v)) H s'->(∃a,Heap.SameBut a s.heap s'.heap/\(a=X.env.locals∨X.env.cells.lookup x=some a))->Q () s') (hf:X.fn x=true∨X.env.scope.names.lookup x=some .local:=by first|exact .inl rfl|exact .inr rfl|assumption):wpAny M A (storeName X.env x u) Q E s:=by
 obtain ⟨m,hn,hl⟩:=id I.loc;have hcls:(X.env.scope.kind== .class||(X.env.scope.kind== .module&&X.env.locals !=X.env.globals))=false:=by rw[I.ok.kind];rfl
 have hiσ:i<σ.length:=by rw[I.len];exact (E6.mp hi).1
 have cne:=I.cne;have tracked:∀{a:Addr} {h':Heap},(∃o,s.heap.get? a=some o/\H a=none)->Heap.SameBut a s.heap h'->ix X.prog X.w H h':=fun {a h'} ha hs b ob e=>by
  obtain ⟨_,_,hfree⟩:=ha;refine (I.hok b ob e).stay (fun c w' hc q=>(hs.2 c ?_).trans q) (fun _ q=>q) fun _ _ q=>q
  rintro rfl;rcases hc with rfl|hc
  ·rw[hfree] at e;cases e
  ·rw[hfree] at hc;cases hc
 rcases hx with hk|hk
 ·refine wpAny_storeName_local hk hn (fun h' hn' hs=>?_) hcls
  obtain ⟨oL,_,_,hoL,_⟩:=id hn;refine h _ ⟨I.ok,I.os,I.bare,⟨fun b o e n hb hx=>?_,fun b o e n hb hx=>?_,I.base.free,fun b o e hx=>?_,I.base.tups,I.base.frzs,I.base.tbls⟩,⟨_,hn',fun j y v' e1 e2 e3=>?_⟩,fun y c e=>?_,I.free,I.freeC,fun p hp=>?_,tracked ⟨oL,hoL,I.free⟩ hs,by simpa using I.len⟩ ⟨_,hs,.inl rfl⟩
  ·exact (hs.2 b (EF (Em (Heap.lt_size e) I.ok.above))).trans (I.base.keep b o e n hb hx)
  ·obtain ⟨sl,e1⟩:=I.base.slot b o e n hb hx;exact ⟨sl,(hs.2 b (EF (Em (Heap.lt_size e) I.ok.above))).trans e1⟩
  ·obtain ⟨o',e1⟩:=I.base.there b o e hx;exact ⟨o',(hs.2 b (EF (Em (Heap.lt_size e) I.ok.above))).trans e1⟩
  ·by_cases hj:j=i
   ·subst hj;rw[hi] at e1;cases e1;rw[List.getElem?_set_self hiσ] at e2;cases e2;exact ⟨u,r,.inl ⟨hk,by simp⟩⟩
   ·rw[List.getElem?_set_ne (Ne.symm hj)] at e2;obtain ⟨u',r',q⟩:=hl j y v' e1 e2 e3;refine ⟨u',r',?_⟩;rcases q with ⟨k,e⟩|⟨k,c,e,z⟩
    ·refine .inl ⟨k,?_⟩;have:y≠x:=fun e=>hj (n4 hN e1 (e▸hi))
     simp[this,e]
    ·exact .inr ⟨k,c,e,z.sameBut hs (cne y c e)⟩
  ·obtain ⟨w',z⟩:=I.cell y c e;exact ⟨w',z.sameBut hs (cne y c e)⟩
  ·obtain ⟨e,n,ne,nf,d⟩:=I.pin p hp;exact ⟨(hs.2 p.1 ne).trans e,n,ne,nf,d⟩
 ·have hfn:X.fn x=true:=by
   rcases hf with z|z
   ·exact z
   ·rw[z] at hk;cases hk
  obtain ⟨c,hc⟩:=I.ok.has x (.inl hk);obtain ⟨w',z⟩:=I.cell x c hc;refine wpAny_storeName_cell I.ok.kind hk hc z (fun h' hc' hs=>?_)
  obtain ⟨oc,hoc,hocd⟩:=id z;refine h {s with heap:=h'} ⟨I.ok,I.os,I.bare,⟨fun b o e n hb hx=>?_,fun b o e n hb hx=>?_,I.base.free,fun b o e hx=>?_,I.base.tups,I.base.frzs,I.base.tbls⟩,⟨m,hn.sameBut hs (Ne.symm (cne x c hc)),fun j y v' e1 e2 e3=>?_⟩,fun y c' e=>?_,I.free,I.freeC,fun p hp=>?_,tracked ⟨oc,hoc,I.freeC x c hc⟩ hs,by simpa using I.len⟩ ⟨c,hs,.inr hc⟩
  ·exact (hs.2 b (EF (Em (Heap.lt_size e) (I.ok.cab x c hfn hc)))).trans (I.base.keep b o e n hb hx)
  ·obtain ⟨sl,e1⟩:=I.base.slot b o e n hb hx;exact ⟨sl,(hs.2 b (EF (Em (Heap.lt_size e) (I.ok.cab x c hfn hc)))).trans e1⟩
  ·obtain ⟨o',e1⟩:=I.base.there b o e hx;exact ⟨o',(hs.2 b (EF (Em (Heap.lt_size e) (I.ok.cab x c hfn hc)))).trans e1⟩
  ·by_cases hj:j=i
   ·subst hj;rw[hi] at e1;cases e1;rw[List.getElem?_set_self hiσ] at e2;cases e2;exact ⟨u,r,.inr ⟨.inl hk,c,hc,hc'⟩⟩
   ·rw[List.getElem?_set_ne (Ne.symm hj)] at e2;obtain ⟨u',r',q⟩:=hl j y v' e1 e2 e3;refine ⟨u',r',?_⟩;rcases q with q|⟨k,c',e,z'⟩
    ·exact .inl q
    ·refine .inr ⟨k,c',e,z'.sameBut hs ?_⟩;rintro rfl;exact hj (n4 hN e1 (I.ok.inj _ _ _ e hc▸hi))
  ·by_cases hcc:c'=c
   ·subst hcc;exact ⟨_,hc'⟩
   ·obtain ⟨w2,z2⟩:=I.cell y c' e;exact ⟨w2,z2.sameBut hs hcc⟩
  ·obtain ⟨e,n,ne,nf,d⟩:=I.pin p hp;refine ⟨(hs.2 p.1 ?_).trans e,n,ne,nf,d⟩;intro q;rw[q,hoc] at e;have q':oc=p.2:=FC e;exact d w' (by rw[<-q'];exact hocd)
theorem j5 {M:Model} {A:Around} {E:GN} {i:Nat} {x:Str} {v:V} {u:Value} {Q:Unit->Shared->Prop} (I:aQ X pins σ H s) (hN:X.N.Nodup) (hi:X.N[i]?=some x) (hx:Loc X.env.scope x) (r:RelV v u)
  (h:∀s',aQ X pins (σ.set i (some v)) H s'->Q () s') (hf:X.fn x=true∨X.env.scope.names.lookup x=some .local:=by first|exact .inl rfl|exact .inr rfl|assumption):wpAny M A (storeName X.env x u) Q E s:=
 hW I hN hi hx r (fun s' I' _=>h s' I') hf
theorem aQ.call' {s':Shared} {ch:GR} (I:aQ X pins σ H s) (ho:s'.os=s.os) (u:Un (tj X.stack) ch H H' s.heap s'.heap) (hok:ix X.prog X.w H' s'.heap) (hg:AllBare s'.gens)
  (hch:∀b∈ch,(b∈X.ex∨X.s₀.heap.objs.size<=b)/\b≠X.env.locals/\(∀x c,X.env.cells.lookup x=some c->c≠b)/\∀p∈X.pn++pins,p.1≠b):aQ X pins σ H' s':=by
 obtain ⟨h',g',d',t',o'⟩:=s';have e:o'=s.os:=ho;subst e;exact I.call (g':=g') (t':=t') (d':=d') u hok hg hch
abbrev XK:=Value->GT->Hp->Prop
abbrev St:=List (Option V)
abbrev VK:=V->Hp->Prop
abbrev TE:=St->Hp->VK->Prop
abbrev TT:=St->Hp->(Bool->Hp->Prop)->Prop
abbrev TA:=St->Hp->(List V->Hp->Prop)->Prop
structure Ends where
 nx:St->Hp->Prop
 rt:VK
 bk:St->Hp->Prop:=fun _ _=>False
 ct:St->Hp->Prop:=fun _ _=>False
abbrev TS:=Ends->St->Hp->Prop
def EP (X:Cx) (pins:GP) (σ:St) (Q:VK) (u:Value) (s':Shared):Prop:=∃v H',aQ X pins σ H' s'/\RelV v u/\Q v H'
def TP (X:Cx) (pins:GP) (σ:St) (Q:Bool->Hp->Prop) (b:Bool) (s':Shared):Prop:=∃H',aQ X pins σ H' s'/\Q b H'
def AP (X:Cx) (pins:GP) (σ:St) (Q:List V->Hp->Prop) (us:GS) (s':Shared):Prop:=∃vs H',aQ X pins σ H' s'/\bC vs us/\Q vs H'
def SP (X:Cx) (pins:GP) (D:Ends) (f:Flow) (s':Shared):Prop:=
 match f with
 | .next=>∃σ' H',aQ X pins σ' H' s'/\D.nx σ' H'
 | .brk=>∃σ' H',aQ X pins σ' H' s'/\D.bk σ' H'
 | .cont=>∃σ' H',aQ X pins σ' H' s'/\D.ct σ' H'
 | .ret u=>∃v σ' H',aQ X pins σ' H' s'/\RelV v u/\D.rt v H'
def PE (X:Cx) (e:Expr) (t:TE):Prop:=
 ∀(pins:GP) (s:Shared) (σ:St) (H:Hp) (Q:VK),aQ X pins σ H s->t σ H Q->wpAny (model X.prog X.w) X.A (eval e X.env) (EP X pins σ Q) X.xe s
def PT (X:Cx) (e:Expr) (t:TT):Prop:=
 ∀(pins:GP) (s:Shared) (σ:St) (H:Hp) (Q:Bool->Hp->Prop),aQ X pins σ H s->t σ H Q->wpAny (model X.prog X.w) X.A (isTrue e X.env (eval e X.env)) (TP X pins σ Q) X.xe s
def PW (X:Cx) (e:Expr) (t:TT):Prop:=
 ∀(whole:Sem Value) (pins:GP) (s:Shared) (σ:St) (H:Hp) (Q:Bool->Hp->Prop),aQ X pins σ H s->t σ H Q->wpAny (model X.prog X.w) X.A (isTrue e X.env whole) (TP X pins σ Q) X.xe s
theorem PW.pt {X:Cx} {e:Expr} {t:TT} (h:PW X e t):PT X e t:=h _
def PA (X:Cx) (es:List Expr) (t:TA):Prop:=
 ∀(pos:Pos) (pins:GP) (s:Shared) (σ:St) (H:Hp) (Q:List V->Hp->Prop),aQ X pins σ H s->t σ H Q->wpAny (model X.prog X.w) X.A (spliced (backTo pos (starEach es X.env))) (AP X pins σ Q) X.xe s
def PS (X:Cx) (st:Stmt) (t:TS):Prop:=
 ∀(pins:GP) (s:Shared) (σ:St) (H:Hp) (D:Ends),aQ X pins σ H s->t D σ H->wpAny (model X.prog X.w) X.A (exec st X.env) (SP X pins D) X.xe s
def uI (X:Cx) (st:List Stmt) (t:TS):Prop:=
 ∀(pins:GP) (s:Shared) (σ:St) (H:Hp) (D:Ends),aQ X pins σ H s->t D σ H->wpAny (model X.prog X.w) X.A (execs st X.env) (SP X pins D) X.xe s
theorem bG {α:Type} {t:Sem α} {Q Q':α->Shared->Prop} {M:Model} {A:Around} {E:GN} {s:Shared} (h:wpAny M A t Q E s) (hQ:∀a s,Q a s->Q' a s):wpAny M A t Q' E s:=wpAny_mono h hQ fun _ _ x=>x
section
def At (i:Nat):TE:=fun σ H Q=>∃v,σ[i]?=some (some v)/\Q v H
def tC (v:V):TE:=fun _ H Q=>Q v H
theorem yj {i:Nat} {x:Str} {pos:Pos} (hN:X.N[i]?=some x) (hv:Cq X.env.scope x) (hd:(x==("__debug__" :Str))=false:=by decide) (hcd:(x==("__classdict__" :Str))=false:=by decide):PE X (.Name x pos) (At i):=by
 intro pins s σ H Q I h;obtain ⟨v,e,h⟩:=h;obtain ⟨m,hn,hl⟩:=I.loc;obtain ⟨u,r,l⟩:=hl i x v hN e hv;have fin:EP X pins σ Q u s:=⟨v,H,I,r,h⟩;rcases l with ⟨hk,hm⟩|⟨hk,c,hc,hcell⟩
 ·exact wpAny_Name (wpAny_loadName_local I.ok.kind hk hn hm fin) hd
 ·rcases hk with hk|hk
  ·exact wpAny_Name (wpAny_loadName_cell I.ok.kind hk hc hcell fin) hd
  ·exact wpAny_Name (wpAny_loadName_free I.ok.kind hk hc hcell fin hcd) hd
theorem af {i j pos}:PE X (.Constant (.int i) j pos) (tC (.int i)):=fun _ _ _ H _ I h=>wpAny_Constant_int ⟨.int i,H,I.tok _,⟨_,rfl⟩,h⟩
theorem bR {b j pos}:PE X (.Constant (.bool b) j pos) (tC (.bl b)):=fun _ _ _ H _ I h=>Constant_bool ⟨.bl b,H,I,rfl,h⟩
theorem aR {j pos}:PE X (.Constant .none j pos) (tC .non):=fun _ _ _ H _ I h=>Constant_none ⟨.non,H,I,rfl,h⟩
theorem bE {x j pos}:PE X (.Constant (.str x) j pos) (tC (.str x)):=fun _ _ _ H _ I h=>Calls.Constant_str ⟨.str x,H,I.tok _,⟨_,rfl⟩,h⟩
def Gl (X:Cx) (x:Str):Prop:=X.env.kindOf x=some .globalImplicit
theorem mR {E:GN} {pins:GP} {s:Shared} {σ:St} {H:Hp} {x:Str} {u:Value} {pos:Pos} {Q:GN} (I:aQ X pins σ H s) (hg:Gl X x) (hm:X.mg x=some u) (h:Q u s)
  (hd:(x==("__debug__" :Str))=false:=by decide):wpAny (model X.prog X.w) X.A (eval (.Name x pos) X.env) Q E s:=
 Calls.Name_function_global I.ok.kind hg (Calls.loadGlobal_global (by rw[I.ok.glob];exact I.mod.glob.keeps I.bk) hm h) hd
theorem dI {E:GN} {pins:GP} {s:Shared} {σ:St} {H:Hp} {x:Str} {u:Value} {pos:Pos} {Q:GN} (I:aQ X pins σ H s) (hg:Gl X x) (hm:X.mg x=none) (hv:bootBuiltins x=some u) (h:Q u s)
  (hn:x≠ "__name__" :=by decide) (hd:(x==("__debug__" :Str))=false:=by decide):wpAny (model X.prog X.w) X.A (eval (.Name x pos) X.env) Q E s:=by
 obtain ⟨mb,h1,h2⟩:=I.mod.blt;exact Calls.Name_function_global I.ok.kind hg (Calls.loadGlobal_builtin (by rw[I.ok.glob];exact I.mod.glob.keeps I.bk) hm (by rw[I.ok.blt];exact h1.keeps I.bk) ((h2 x hn).trans hv) h) hd
theorem jS {x:Str} {v:V} {u:Value} {pos:Pos} (hg:Gl X x) (hm:X.mg x=some u) (r:RelV v u) (hd:(x==("__debug__" :Str))=false:=by decide):PE X (.Name x pos) (tC v):=
 fun _ _ _ H _ I h=>mR I hg hm ⟨v,H,I,r,h⟩ hd
theorem jU {x:Str} {v:V} {u:Value} {pos:Pos} (hg:Gl X x) (hm:X.mg x=none) (hv:bootBuiltins x=some u) (r:RelV v u) (hn:x≠ "__name__" :=by decide) (hd:(x==("__debug__" :Str))=false:=by decide):PE X (.Name x pos) (tC v):=
 fun _ _ _ H _ I h=>dI I hg hm hv ⟨v,H,I,r,h⟩ hn hd
variable {a b:Expr} {ta tb:TE} {pos:Pos}
def PC (X:Cx) (op:CmpOp) (a b:Expr) (t:TE):Prop:=
 ∀(pins:GP) (s:Shared) (σ:St) (H:Hp) (Q:VK),aQ X pins σ H s->t σ H Q->
  wpAny (model X.prog X.w) X.A (eval a X.env) (fun v s₁=>wpAny (model X.prog X.w) X.A (eval b X.env) (fun u s₂=>wpAny (model X.prog X.w) X.A (compareOp op v u) (EP X pins σ Q) X.xe s₂) X.xe s₁) X.xe s
def tB (t:TE):TT:=fun σ H Q=>t σ H fun x H1=>∃c,x= .bl c/\Q c H1
theorem qi {op:CmpOp} {t:TE} (h:PC X op a b t) (h1:behindInMarks op b=false:=by first|exact nobehind _ (by decide) (by decide)|rfl):PT X (.Compare a [op] [b] pos) (tB t):=by
 intro pins s σ H Q I hw;refine wpAny_isTrue_Compare1 (bG (h pins s σ H _ I hw) fun v s1 h1=>bG h1 fun u s2 h2=>bG h2 fun c s3 ⟨x,H1,I1,r1,q1⟩=>?_) h1
 obtain ⟨d,rfl,q⟩:=q1;cases r1;exact wpAny_truthy_bool ⟨H1,I1,q⟩
theorem cB {e:Expr} {t:TE} (h:PE X e t) (he:∀whole,isTrue e X.env whole=(do let v<-whole;standAt e.pos;holding [v] (truthy v)):=by intro _;rfl):PT X e (tB t):=by
 intro pins s σ H Q I hw;refine isTrue_plain (bG (h pins s σ H _ I hw) fun v s1 ⟨x,H1,I1,r1,q1⟩=>?_) (he _)
 obtain ⟨d,rfl,q⟩:=q1;cases r1;exact wpAny_truthy_bool ⟨H1,I1,q⟩
variable {tA tB':TT} {rest:List Expr}
def CJ (t u:TT):TT:=fun σ H Q=>t σ H fun c H1=>if c=true then u σ H1 Q else Q false H1
def DO (t u:TT):TT:=fun σ H Q=>t σ H fun c H1=>if c=true then Q true H1 else u σ H1 Q
def CK (t:TT):TT:=fun σ H Q=>t σ H fun c H1=>Q (!c) H1
theorem bV (ha:PT X a tA):PW X (.BoolOp .And [a] pos) tA:=by
 intro wh pins s σ H Q I h;refine isTrue_and (bG (ha pins s σ H Q I h) fun c s1 e=>?_)
 cases c with
 |true=>exact isTrue_and_nil e
 |false=>exact e
theorem dt (ha:PT X a tA):PW X (.BoolOp .Or [a] pos) tA:=by
 intro wh pins s σ H Q I h;refine isTrue_or (bG (ha pins s σ H Q I h) fun c s1 e=>?_)
 cases c with
 |false=>exact isTrue_or_nil e
 |true=>exact e
theorem cy (ha:PT X a tA) (hb:PW X (.BoolOp .And (b::rest) pos) tB'):PW X (.BoolOp .And (a::b::rest) pos) (CJ tA tB'):=by
 intro wh pins s σ H Q I h;refine isTrue_and (bG (ha pins s σ H _ I h) fun c s1 ⟨H1,I1,q1⟩=>?_)
 cases c with
 |true=>exact hb wh pins s1 σ H1 Q I1 q1
 |false=>exact ⟨H1,I1,q1⟩
theorem dP (ha:PT X a tA) (hb:PW X (.BoolOp .Or (b::rest) pos) tB'):PW X (.BoolOp .Or (a::b::rest) pos) (DO tA tB'):=by
 intro wh pins s σ H Q I h;refine isTrue_or (bG (ha pins s σ H _ I h) fun c s1 ⟨H1,I1,q1⟩=>?_)
 cases c with
 |true=>exact ⟨H1,I1,q1⟩
 |false=>exact hb wh pins s1 σ H1 Q I1 q1
theorem bS (ha:PT X a tA):PT X (.UnaryOp .Not a pos) (CK tA):=by
 intro pins s σ H Q I h;exact isTrue_not (ha pins s σ H (fun c H1=>Q (!c) H1) I h)
def Au (ta tb:TE):TE:=fun σ H Q=>ta σ H fun x H1=>∃c,x= .bl c/\if c=true then tb σ H1 Q else Q (.bl false) H1
def CL (ta tb:TE):TE:=fun σ H Q=>ta σ H fun x H1=>∃c,x= .bl c/\if c=true then Q (.bl true) H1 else tb σ H1 Q
def Av (ta:TE):TE:=fun σ H Q=>ta σ H fun x H1=>∃c,x= .bl c/\Q (.bl (!c)) H1
theorem gK {op} {t:TE} (h:PE X a t):PE X (.BoolOp op [a] pos) t:=fun pins s σ H Q I hw=>BoolOp_one (h pins s σ H Q I hw)
theorem gL (ha:PE X a ta) (hb:PE X (.BoolOp .And (b::rest) pos) tb):PE X (.BoolOp .And (a::b::rest) pos) (Au ta tb):=by
 intro pins s σ H Q I h;refine BoolOp_and (bG (ha pins s σ H _ I h) fun v s1 ⟨x,H1,I1,r1,q1⟩=>?_)
 obtain ⟨c,rfl,q1⟩:=q1;cases r1;refine wpAny_truthy_bool ?_;cases c with
 |true=>exact hb pins s1 σ H1 Q I1 q1
 |false=>exact ⟨.bl false,H1,I1,rfl,q1⟩
theorem uO (ha:PE X a ta) (hb:PE X (.BoolOp .Or (b::rest) pos) tb):PE X (.BoolOp .Or (a::b::rest) pos) (CL ta tb):=by
 intro pins s σ H Q I h;refine BoolOp_or (bG (ha pins s σ H _ I h) fun v s1 ⟨x,H1,I1,r1,q1⟩=>?_)
 obtain ⟨c,rfl,q1⟩:=q1;cases r1;refine wpAny_truthy_bool ?_;cases c with
 |false=>exact hb pins s1 σ H1 Q I1 q1
 |true=>exact ⟨.bl true,H1,I1,rfl,q1⟩
theorem yk (ha:PE X a ta):PE X (.UnaryOp .Not a pos) (Av ta):=by
 intro pins s σ H Q I h;refine UnaryOp_ (bG (ha pins s σ H _ I h) fun v s1 ⟨x,H1,I1,r1,q1⟩=>?_)
 obtain ⟨c,rfl,q1⟩:=q1;cases r1;exact not_of (wpAny_truthy_bool ⟨.bl (!c),H1,I1,rfl,q1⟩)
def DP (t:TT) (ta tb:TE):TE:=fun σ H Q=>t σ H fun c H1=>if c=true then ta σ H1 Q else tb σ H1 Q
theorem j6 {c:Expr} (hc:PT X c tA) (ha:PE X a ta) (hb:PE X b tb):PE X (.IfExp c a b pos) (DP tA ta tb):=by
 intro pins s σ H Q I h;refine wpAny_IfExp (bG (hc pins s σ H _ I h) fun d s1 ⟨H1,I1,q1⟩=>?_)
 cases d with
 |true=>exact ha pins s1 σ H1 Q I1 q1
 |false=>exact hb pins s1 σ H1 Q I1 q1
end
def aD (K:E5) (H:Hp) (a:Addr) (xs:List V):Prop:=
 Rd H a (.lst xs)∨
  ∃(o:Obj) (its:Array Value) (n:Nat),K.lookup a=some o/\o.cls= .type "list" /\o.dict=none/\o.data= .seq its n/\its.size<=sizeLine/\bC xs its.toList
def be (K:E5) (H:Hp) (a:Addr) (xs:List V):Prop:=
 Rd H a (.tup xs)∨
  ∃(o:Obj) (its:Array Value) (n:Nat),K.lookup a=some o/\o.cls= .type "tuple" /\o.data= .seq its n/\its.size<=sizeLine/\bC xs its.toList
noncomputable def CM:Value->Option V
 | .none=>some .non
 | .bool b=>some (.bl b)
 | .int i _=>some (.int i)
 | .str x _=>some (.str x)
 | .bytes b _=>some (.byt b)
 | .float b _=>some (.flt b)
 | .ref a=>some (.ref a)
 | .type n=>some (.ty n)
 |_=>none
theorem RelV.abs {x:V} {u:Value} (r:RelV x u):CM u=some x:=by
 cases x with
 |non=>cases r;rfl
 |bl _=>cases r;rfl
 |int _=>obtain ⟨t,rfl⟩:=r;rfl
 |str _=>obtain ⟨t,rfl⟩:=r;rfl
 |byt _=>obtain ⟨t,rfl⟩:=r;rfl
 |flt _=>obtain ⟨t,rfl⟩:=r;rfl
 |ref _=>cases r;rfl
 |ty _=>cases r;rfl
theorem RelV.inj {x y:V} {u:Value} (r:RelV x u) (q:RelV y u):x=y:=FC (r.abs.symm.trans q.abs)
theorem bC.inj:∀{xs ys:List V} {us:GS},bC xs us->bC ys us->xs=ys
 |_,_,_,.nil,.nil=>rfl
 |_,_,_,.cons r t,.cons r' t'=>by rw[r.inj r',bC.inj t t']
variable {σ:St} {a:Addr} {xs ys:List V}
theorem aD.of {K:E5} (h:H a=some (.lst xs)):aD K H a xs:= .inl (.inl h)
theorem be.of {K:E5} (h:H a=some (.tup xs)):be K H a xs:= .inl (.inl h)
theorem aQ.list (I:aQ X pins σ H s) (h:aD X.K H a xs):∃its:GS,bC xs its/\PlainL s.heap a its.toArray/\xs.length<=sizeLine:=by
 rcases h with h|⟨o,its,n,hk,hc,hd,hs,hz,r⟩
 ·obtain ⟨z,its,n,r,e⟩:=h.ok I.hok;exact ⟨its,r,⟨_,n,e,rfl,rfl,rfl⟩,z⟩
 ·refine ⟨its.toList,r,⟨o,n,I.kIn a o hk,hc,hd,by simpa using hs⟩,?_⟩
  have e:=r.length;simp only[Ep] at e
  lia
theorem aQ.tuple (I:aQ X pins σ H s) (h:be X.K H a xs):∃its:GS,bC xs its/\IsTup s.heap a its.toArray/\xs.length<=sizeLine:=by
 rcases h with h|⟨o,its,n,hk,hc,hs,hz,r⟩
 ·obtain ⟨z,its,r,p⟩:=h.ok I.hok;exact ⟨its,r,p,z⟩
 ·refine ⟨its.toList,r,⟨o,I.kIn a o hk,hc,n,by simpa using hs⟩,?_⟩
  have e:=r.length;simp only[Ep] at e
  lia
theorem aQ.list_inj (I:aQ X pins σ H s) (h:aD X.K H a xs) (h':aD X.K H a ys):xs=ys:=by
 obtain ⟨its,r,⟨o,n,e,_,_,d⟩,_⟩:=I.list h;obtain ⟨its',r',⟨o',n',e',_,_,d'⟩,_⟩:=I.list h';rw[e] at e';cases e';rw[d] at d';injection d' with d1 _
 have:its=its':=by simpa using congrArg Array.toList d1
 subst this;exact r.inj r'
abbrev Cx.wish (X:Cx) (E:GN):Cx:={X with xe:=E}
abbrev Cx.nox (X:Cx):Cx:=X.wish fun _ _=>False
theorem Cx.Ok.wish {X:Cx} (ok:X.Ok) (E:GN):(X.wish E).Ok:=
 ⟨ok.mod,ok.kind,ok.glob,ok.blt,ok.above,ok.inj,ok.has,ok.cab,ok.hd,ok.frames,ok.stk,ok.exf,ok.bs,ok.bsz,ok.noex,ok.exfs,ok.funs,ok.frf⟩
theorem Cx.Ok.unwish {X:Cx} {E:GN} (ok:(X.wish E).Ok):X.Ok:=
 ⟨ok.mod,ok.kind,ok.glob,ok.blt,ok.above,ok.inj,ok.has,ok.cab,ok.hd,ok.frames,ok.stk,ok.exf,ok.bs,ok.bsz,ok.noex,ok.exfs,ok.funs,ok.frf⟩
variable {E:GN}
theorem aQ.wish (I:aQ X pins σ H s) (E:GN):aQ (X.wish E) pins σ H s:=⟨I.ok.wish E,I.os,I.bare,I.base,I.loc,I.cell,I.free,I.freeC,I.pin,I.hok,I.len⟩
theorem aQ.unwish (I:aQ (X.wish E) pins σ H s):aQ X pins σ H s:=⟨I.ok.unwish,I.os,I.bare,I.base,I.loc,I.cell,I.free,I.freeC,I.pin,I.hok,I.len⟩
theorem SP.unwish {D:Ends} {f:Flow} {s':Shared} (h:SP (X.wish E) pins D f s'):SP X pins D f s':=by
 cases f with
 |next=>obtain ⟨σ',H',I,q⟩:=h;exact ⟨σ',H',I.unwish,q⟩
 |brk=>obtain ⟨σ',H',I,q⟩:=h;exact ⟨σ',H',I.unwish,q⟩
 |cont=>obtain ⟨σ',H',I,q⟩:=h;exact ⟨σ',H',I.unwish,q⟩
 |ret u=>obtain ⟨v,σ',H',I,r,q⟩:=h;exact ⟨v,σ',H',I.unwish,r,q⟩
theorem uI.nox {st:List Stmt} {t:TS} (h:uI X.nox st t):uI X st t:=fun pins s σ H D I hw=>
 wpAny_mono (h pins s σ H D (I.wish _) hw) (fun _ _ q=>q.unwish) fun _ _ z=>False.elim z
section
variable {st:Stmt} {rest:List Stmt} {t u:TS} {e:Expr} {te:TE} {pos:Pos}
def cM:TS:=fun D σ H=>D.nx σ H
def aO (t u:TS):TS:=fun D σ H=>t {D with nx:=u D} σ H
theorem ar:uI X [] cM:=fun _ _ σ H _ I h=>wpAny_execs_nil ⟨σ,H,I,h⟩
theorem ah (h1:PS X st t) (h2:uI X rest u):uI X (st::rest) (aO t u):=by
 intro pins s σ H D I h;refine wpAny_execs_cons (bG (h1 pins s σ H {D with nx:=u D} I h) fun f s1 q=>?_)
 cases f with
 |next=>
  obtain ⟨σ',H',I',q⟩:=q;exact h2 pins s1 σ' H' D I' q
 |ret v=>exact q
 |brk=>exact q
 |cont=>exact q
theorem aj (h1:PS X st t):uI X [st] t:=by
 intro pins s σ H D I h;refine wpAny_execs_cons (bG (h1 pins s σ H D I h) fun f s1 q=>?_)
 cases f with
 |next=>exact wpAny_execs_nil q
 |ret v=>exact q
 |brk=>exact q
 |cont=>exact q
def yl:TS:=fun D σ H=>D.bk σ H
theorem uP:PS X (.Break pos) yl:=fun _ _ σ H _ I h=>wpAny_Break ⟨σ,H,I,h⟩
theorem aQ.quiet {pins:GP} {σ:St} {H:Hp} {s:Shared} (I:aQ X pins σ H s):interactive X.env=false:=by simp[interactive,I.ok.kind]
def Aw (te:TE):TS:=fun D σ H=>te σ H fun _ H1=>D.nx σ H1
theorem bW (he:PE X e te) (hs:swapsWith e none pos.line X.env=pure false:=by rfl):PS X (.Expr e pos) (Aw te):=by
 intro pins s σ H D I h;exact wpAny_Expr_any (bG (he pins s σ H _ I h) fun v s1 ⟨x,H1,I1,r1,q1⟩=>⟨σ,H1,I1,q1⟩) I.quiet hs
def CN (te:TE):TS:=fun D σ H=>te σ H D.rt
theorem aq (he:PE X e te):PS X (.Return (some e) pos) (CN te):=by
 intro pins s σ H D I h;exact wpAny_Return_some (bG (he pins s σ H _ I h) fun v s1 ⟨x,H1,I1,r1,q1⟩=>⟨x,σ,H1,I1,r1,q1⟩)
def CO (c:TT) (t u:TS):TS:=fun D σ H=>c σ H fun b H1=>if b=true then t D σ H1 else u D σ H1
theorem aI {c:Expr} {a b:List Stmt} {tc:TT} (hc:PT X c tc) (ha:uI X a t) (hb:uI X b u):PS X (.If c a b pos) (CO tc t u):=by
 intro pins s σ H D I h;refine wpAny_If (bG (hc pins s σ H _ I h) fun d s1 ⟨H1,I1,q1⟩=>?_)
 cases d with
 |true=>exact ha pins s1 σ H1 D I1 q1
 |false=>exact hb pins s1 σ H1 D I1 q1
def ym:TS:=fun _ _ _=>False
theorem cr:PS X st ym:=fun _ _ _ _ _ _ h=>h.elim
end
abbrev TG:=V->St->Hp->(St->Hp->Prop)->Prop
abbrev xW:=List V->St->Hp->(St->Hp->Prop)->Prop
def PG (X:Cx) (target:Expr) (t:TG):Prop:=
 ∀(pins:GP) (s:Shared) (σ:St) (H:Hp) (v:V) (u:Value) (Q:St->Hp->Prop),aQ X pins σ H s->RelV v u->t v σ H Q->
  wpAny (model X.prog X.w) X.A (assign target X.env u) (fun _ s'=>∃σ' H',aQ X pins σ' H' s'/\Q σ' H') X.xe s
def Ax (X:Cx) (ts:List Expr) (t:xW):Prop:=
 ∀(pins:GP) (s:Shared) (σ:St) (H:Hp) (vs:List V) (us:GS) (Q:St->Hp->Prop),aQ X pins σ H s->bC vs us->t vs σ H Q->
  wpAny (model X.prog X.w) X.A (assignInOrder ((assignEach ts X.env).map (·.2)) us) (fun _ s'=>∃σ' H',aQ X pins σ' H' s'/\Q σ' H') X.xe s
abbrev yn:=V->V->V->Hp->(Hp->Prop)->Prop
def Ay (X:Cx) (t:yn):Prop:=
 ∀(pins:GP) (s:Shared) (σ:St) (H:Hp) (o i v:V) (ov iv u:Value) (Q:Hp->Prop),aQ X pins σ H s->RelV o ov->RelV i iv->RelV v u->t o i v H Q->
  wpAny (model X.prog X.w) X.A (setItem ov iv u) (fun _ s'=>∃H',aQ X pins σ H' s'/\Q H') X.xe s
abbrev Cr:=V->V->Hp->VK->Prop
def DG (X:Cx) (op:Operator) (t:Cr):Prop:=
 ∀(pins:GP) (s:Shared) (σ:St) (H:Hp) (x y:V) (v u:Value) (Q:VK),aQ X pins σ H s->RelV x v->RelV y u->t x y H Q->
  wpAny (model X.prog X.w) X.A (inplaceOp op v u) (EP X pins σ Q) X.xe s
variable {pos:Pos}
def cg (i:Nat):TG:=fun v σ H Q=>Q (σ.set i (some v)) H
theorem dG {i:Nat} {x:Str} (hN:X.N.Nodup) (hi:X.N[i]?=some x) (hx:Loc X.env.scope x) (hf:X.fn x=true∨X.env.scope.names.lookup x=some .local:=by first|exact .inl rfl|exact .inr rfl|assumption):PG X (.Name x pos) (cg i):=by
 intro pins s σ H v u Q I r h;exact wpAny_assign_Name (j5 I hN hi hx r (fun s' I'=>⟨_,H,I',h⟩) hf)
def CP:xW:=fun vs σ H Q=>vs= []/\Q σ H
def Az (t:TG) (u:xW):xW:=fun vs σ H Q=>∃v r,vs=v::r/\t v σ H fun σ' H'=>u r σ' H' Q
theorem cv:Ax X [] CP:=by
 intro pins s σ H vs us Q I r h;obtain ⟨e,h⟩:=h;subst e;cases r;exact assignInOrder_nil ⟨σ,H,I,h⟩
theorem aL {e:Expr} {es:List Expr} {t:TG} {u:xW} (h1:PG X e t) (h2:Ax X es u)
  (hs:(assignEach (e::es) X.env).map (·.2)=assign e X.env::(assignEach es X.env).map (·.2):=by rfl):Ax X (e::es) (Az t u):=by
 intro pins s σ H vs us Q I r h;obtain ⟨v,vr,e1,h⟩:=h;subst e1;cases r with
 |cons r rr=>
  rw[hs];refine assignInOrder_cons (bG (h1 pins s σ H _ _ _ I r h) fun _ s1 ⟨σ1,H1,I1,q1⟩=>?_)
  exact h2 pins s1 σ1 H1 _ _ Q I1 rr q1
def AA (K:E5) (n:Nat) (t:xW):TG:=fun v σ H Q=>∃a xs,v= .ref a/\be K H a xs/\xs.length=n/\t xs σ H Q
theorem cZ {es:List Expr} {k:Nat} {t:xW} {n:Nat} (hc:X.calm=true) (h:Ax X es t)
  (hn:(assignEach es X.env).length=n:=by rfl) (hst:(assignEach es X.env).findIdx? (·.1)=none:=by rfl):PG X (.Tuple es k pos) (AA X.K n t):=by
 intro pins s σ H v u Q I r hw;obtain ⟨a,xs,e1,hq,hl,hw⟩:=hw;subst e1;cases r;obtain ⟨its,rv,ht,hz⟩:=I.tuple hq;refine assign_Tuple_tuple (I.ok.hd hc) ht (by simp[hn,<-hl,rv.length]) hst fun h' hx=>?_
 have I1:aQ X pins σ H {s with heap:=h'}:=I.kept (t':=s.toks) fun b o e=>hx b o (EF (Heap.lt_size e)) e
 exact h pins _ σ H xs _ Q I1 (by simpa using rv) hw
def CQ (to ti:TE) (t:yn):TG:=fun v σ H Q=>to σ H fun o H1=>ti σ H1 fun i H2=>t o i v H2 fun H3=>Q σ H3
theorem yo {o i:Expr} {to ti:TE} {t:yn} (ho:PE X o to) (hi:PE X i ti) (hs:Ay X t)
  (ha:∀v,assign (.Subscript o i pos) X.env v=(do
   let ov<-holding [v] (eval o X.env)
   let iv<-holding [v,ov] (eval i X.env)
   standAt pos
   holding [v,ov,iv] (setItem ov iv v)
   release [v,ov,iv] []):=by intro _;rfl):PG X (.Subscript o i pos) (CQ to ti t):=by
 intro pins s σ H v u Q I r h;rw[ha];refine wpAny_bind (wpAny_holding (bG (ho pins s σ H _ I h) fun ov s1 ⟨x,H1,I1,r1,q1⟩=>?_))
 refine wpAny_bind (wpAny_holding (bG (hi pins s1 σ H1 _ I1 q1) fun iv s2 ⟨y,H2,I2,r2,q2⟩=>?_))
 refine wpAny_bind (wpAny_standAt (wpAny_bind (wpAny_holding (bG (hs pins s2 σ H2 x y v ov iv u _ I2 r1 r2 r q2) fun _ s3 ⟨H3,I3,q3⟩=>?_))))
 exact wpAny_release ⟨σ,H3,I3,q3⟩
def tm (te:TE) (g:TG):TS:=fun D σ H=>te σ H fun x H1=>g x σ H1 D.nx
theorem j7 {tg e:Expr} {te:TE} {g:TG} (he:PE X e te) (hg:PG X tg g) (hs:swapsWithSole [tg] e pos.line X.env=pure false:=by rfl) (hw:swappedStores [tg] e X.env=pure none:=by rfl)
  (h1:(assignEach [tg] X.env).map (·.2)= [assign tg X.env]:=by rfl):PS X (.Assign [tg] e pos) (tm te g):=by
 intro pins s σ H D I h;refine wpAny_Assign_stores (bG (he pins s σ H _ I h) fun v s1 ⟨x,H1,I1,r1,q1⟩=>?_) hs hw
 rw[h1];exact bG (hg pins s1 σ H1 x v _ I1 r1 q1) fun _ s2 q=>q
theorem gj {i:Nat} {x:Str} {e:Expr} {te:TE} {pos':Pos} (hN:X.N.Nodup) (hi:X.N[i]?=some x) (hx:Loc X.env.scope x) (he:PE X e te) (hs:swapsWith e (some (.Name x pos')) pos.line X.env=pure false:=by rfl) (hf:X.fn x=true∨X.env.scope.names.lookup x=some .local:=by first|exact .inl rfl|exact .inr rfl|assumption):
  PS X (.Assign [.Name x pos'] e pos) (tm te (cg i)):=by
 intro pins s σ H D I h;refine wpAny_Assign_Name (bG (he pins s σ H _ I h) fun v s1 ⟨y,H1,I1,r1,q1⟩=>?_) hs
 exact j5 I1 hN hi hx r1 (fun s2 I2=>⟨_,H1,I2,q1⟩) hf
def CS (i:Nat) (te:TE) (ti:Cr):TS:=fun D σ H=>∃x,σ[i]?=some (some x)/\te σ H fun y H1=>ti x y H1 fun z H2=>D.nx (σ.set i (some z)) H2
theorem yp {i:Nat} {x:Str} {e:Expr} {te:TE} {op:Operator} {ti:Cr} {pos':Pos} (hN:X.N.Nodup) (hi:X.N[i]?=some x) (hx:Loc X.env.scope x) (he:PE X e te) (ho:DG X op ti) (hf:X.fn x=true∨X.env.scope.names.lookup x=some .local:=by first|exact .inl rfl|exact .inr rfl|assumption):
  PS X (.AugAssign (.Name x pos') op e pos) (CS i te ti):=by
 intro pins s σ H D I h;obtain ⟨v,e1,h⟩:=h;obtain ⟨m,hn,hl⟩:=I.loc;have vis:Cq X.env.scope x:=by rcases hx with k|k;exact .inl k;exact .inr (.inl k)
 obtain ⟨u,r,l⟩:=hl i x v hi e1 vis;refine wpAny_AugAssign_Name ?_;have go:wpAny (model X.prog X.w) X.A (eval e X.env) (fun w s₂=>wpAny (model X.prog X.w) X.A (inplaceOp op u w) (fun r s₃=>wpAny (model X.prog X.w) X.A (storeName X.env x r) (fun _=>SP X pins D .next) X.xe s₃) X.xe s₂) X.xe s:=by
  refine bG (he pins s σ H _ I h) fun w s1 ⟨y,H1,I1,r1,q1⟩=>?_
  refine bG (ho pins s1 σ H1 v y u w _ I1 r r1 q1) fun z s2 ⟨zv,H2,I2,r2,q2⟩=>?_
  exact j5 I2 hN hi hx r2 (fun s3 I3=>⟨_,H2,I3,q2⟩) hf
 rcases l with ⟨hk,hm⟩|⟨hk,c,hc,hcell⟩
 ·exact wpAny_loadName_local I.ok.kind hk hn hm go
 ·rcases hk with hk|hk
  ·exact wpAny_loadName_cell I.ok.kind hk hc hcell go
  ·rcases hx with k|k
   ·have:X.env.scope.names.lookup x=some .free:=hk;rw[k] at this;cases this
   ·have:X.env.scope.names.lookup x=some .free:=hk;rw[k] at this;cases this
def DQ (f:Int->Int->Int):Cr:=fun x y H Q=>∃i j,x= .int i/\y= .int j/\Q (.int (f i j)) H
theorem yq:DG X .Add (DQ fun i j=>i+j):=by
 intro pins s σ H x y v u Q I r1 r2 h;obtain ⟨i,j,e1,e2,q⟩:=h;subst e1;subst e2;obtain ⟨t,rfl⟩:=r1;obtain ⟨t',rfl⟩:=r2;exact iadd_int ⟨.int _,H,I.tok _,⟨_,rfl⟩,q⟩
structure It where
 go:Nat->Hp->Prop
 yld:Nat->Hp->V->Hp->Prop
 stop:Nat->Hp->Prop
def dX (X:Cx) (pins:GP) (H:Hp) (b:Addr):Prop:=
 H b=none/\b≠X.env.locals/\b∉X.fs/\(b∈X.ex∨X.s₀.heap.objs.size<=b)/\(∀x c,X.env.cells.lookup x=some c->c≠b)/\∀p∈X.pn++pins,p.1≠b
theorem aQ.fpOk {X:Cx} {pins:GP} {σ:St} {H H':Hp} {s:Shared} {b:Addr} (I:aQ X pins σ H s) (hb:s.heap.objs.size<=b) (hn:H' b=none):dX X pins H' b:=by
 refine ⟨hn,FW (Em I.lt hb),I.nofs hb,.inr (FB I.sz hb),fun x c e z=>?_,fun p hp z=>?_⟩
 ·obtain ⟨v,q⟩:=I.cell x c e;exact absurd (Em q.lt (by rw[z];exact hb)) (Fh _)
 ·exact absurd (Em (Heap.lt_size (I.pin p hp).1) (by rw[z];exact hb)) (Fh _)
structure Turn (P:Program) (w:World) (K:E5) (tg:Expr) (J:It) (fp:GR) (it:Addr) (tn:Nat->Heap->Prop):Prop where
 mem:it∈fp
 obj:∀i h,tn i h->∀b∈fp,∃o,h.get? b=some o/\∀v,o.data≠ .cell v
 keep:∀i h h',tn i h->(∀b∈fp,∀o,h.get? b=some o->h'.get? b=some o)->tn i h'
 item:∀(X:Cx),X.prog=P->X.w=w->X.K=K->X.calm=true->∀(i:Nat) (pins:GP) (s:Shared) (σ:St) (H:Hp) (E:GN),aQ X pins σ H s->(∀b∈fp,dX X pins H b)->tn i s.heap->J.go i H->
  wpAny (model P w) X.A (pyNext (.ref it)) (fun r s1=>∃u,r=some u/\
   wpAny (model P w) X.A (letOwnedTupleGo tg (.ref it) u) (fun _ s2=>∃x H',aQ X pins σ H' s2/\RelV x u/\J.yld i H x H'/\tn (i+1) s2.heap/\∀b∈fp,H' b=none) E s1) E s
 done:∀(X:Cx),X.prog=P->X.w=w->X.K=K->X.calm=true->∀(i:Nat) (pins:GP) (s:Shared) (σ:St) (H:Hp) (E:GN),aQ X pins σ H s->(∀b∈fp,dX X pins H b)->tn i s.heap->J.stop i H->
  wpAny (model P w) X.A (pyNext (.ref it)) (fun r s1=>r=none/\aQ X pins σ H s1) E s
 self:∀(A:Around) (i:Nat) (s:Shared) (Q:GN) (E:GN),tn i s.heap->Q (.ref it) s->wpAny (model P w) A (pyIter (.ref it)) Q E s
abbrev TI:=St->Hp->(It->Hp->Prop)->Prop
def CT (X:Cx) (pins:GP) (σ:St) (tg:Expr) (R:It->Hp->Prop) (itv:Value) (s2:Shared):Prop:=
 ∃(it:Addr) (fp:GR) (tn:Nat->Heap->Prop) (J:It) (H':Hp),itv= .ref it/\aQ X pins σ H' s2/\Turn X.prog X.w X.K tg J fp it tn/\tn 0 s2.heap/\(∀b∈fp,dX X pins H' b)/\R J H'
def PI (X:Cx) (tg iter:Expr) (wi:TI):Prop:=
 ∀(pins:GP) (s:Shared) (σ:St) (H:Hp) (R:It->Hp->Prop),aQ X pins σ H s->wi σ H R->
  wpAny (model X.prog X.w) X.A (eval iter X.env) (fun v s1=>wpAny (model X.prog X.w) X.A (pyIter v) (CT X pins σ tg R) X.xe s1) X.xe s
theorem n6 {M:Model} {A:Around} {E:GN} {s:Shared} {tg:Expr} {it:Addr} {u:Value} {o:Obj} {n:String} {vs:Array Value} {Q:Unit->Shared->Prop} (ho:s.heap.get? it=some o) (hc:o.cls= .type n) (hd:o.data= .fields vs)
    (hn: ["enumerate","zip","dict_itemiterator","dict_reverseitemiterator","odict_iterator","itertools.zip_longest","itertools.pairwise"].contains n=false) (hQ:Q () s):wpAny M A (letOwnedTupleGo tg (.ref it) u) Q E s:=by
  unfold letOwnedTupleGo;cases tg<;>first
    |exact wpAny_pure hQ
    | (cases u<;>first
        |exact wpAny_pure hQ
        | (refine wpAny_bind (wpAny_load ho ?_)
           rw[hc,hd];show wpAny M A (if (["enumerate","zip","dict_itemiterator","dict_reverseitemiterator","odict_iterator","itertools.zip_longest","itertools.pairwise"].contains n&&vs[0]?==some (rawInt _))=true then _ else _) Q E s
           rw[if_neg (by intro h;rw[hn,FE] at h;cases h)]
           exact wpAny_pure hQ))
noncomputable def wI (K:E5) (a:Addr):It:=
 ⟨fun i H=>∃xs x,aD K H a xs/\xs[i]?=some x,fun i H x H'=>H'=H/\∀xs,aD K H a xs->xs[i]?=some x,fun i H=>∃xs,aD K H a xs/\xs.length<=i⟩
noncomputable def xX (lo:Int) (n:Nat):It:=⟨fun i _=>i<n,fun i H x H'=>H'=H/\x= .int (lo+i),fun i _=>n<=i⟩
theorem tu {P:Program} {w:World} {K:E5} {tg:Expr} (a it:Addr):Turn P w K tg (wI K a) [it] it (fun i h=>h.IsListIter it a i) where
 mem:=by simp
 obj:=fun i h st b hb=>by
  have e:b=it:=by simpa using hb
  subst e;obtain ⟨o,e,c,d⟩:=st;exact ⟨o,e,fun v z=>by rw[d] at z;cases z⟩
 keep:=fun i h h' st k=>st.at fun o e=>k it (by simp) o e
 item:=by
  intro X hP hw hK hc i pins s σ H E I hf st hg;subst hP hw hK;obtain ⟨xs,x,hq,hx⟩:=hg;obtain ⟨its,rv,p,hz⟩:=I.list hq;obtain ⟨u,hu,ru⟩:=rv.get hx;obtain ⟨f0,f1,f2,f3,f4,f5⟩:=hf it (by simp)
  refine wpAny_pyNext_list_item st p.isList (x:=u) (by simpa using hu) fun h' st' sb=>?_
  have I1:aQ X pins σ H {s with heap:=h'}:=I.turned (t':=s.toks) (fun b o hb e=>(sb.2 b hb).trans e) f0 f1 f3 f4 f5
  obtain ⟨o,e,c,d⟩:=id st';exact ⟨u,rfl,n6 (s:={s with heap:=h'}) e c d (by decide) ⟨x,H,I1,ru,⟨rfl,fun ys hy=>by rw[I.list_inj hy hq];exact hx⟩,st',fun b hb=>(hf b hb).1⟩⟩
 done:=by
  intro X hP hw hK hc i pins s σ H E I hf st hg;subst hP hw hK;obtain ⟨xs,hq,hx⟩:=hg;obtain ⟨its,rv,p,hz⟩:=I.list hq;obtain ⟨f0,f1,f2,f3,f4,f5⟩:=hf it (by simp)
  have hl:=rv.length;exact wpAny_pyNext_list_end (I.ok.hd hc) st p.isList (by simp;lia) fun h' eb=>⟨rfl,I.turned (t':=s.toks) (fun b o hb e=>eb b o hb e) f0 f1 f3 f4 f5⟩
 self:=fun _ _ _ _ _ st h=>wpAny_pyIter_listiter st h
theorem qj {P:Program} {w:World} {K:E5} {tg:Expr} (it:Addr) (lo:Int) (n:Nat):Turn P w K tg (xX lo n) [it] it (fun i h=>IsRangeIter h it (lo+(i:Nat)*1) ((n:Int)-(i:Nat)) 1) where
 mem:=by simp
 obj:=fun i h st b hb=>by
  have e:b=it:=by simpa using hb
  subst e;exact ⟨_,st,fun v z=>by
   have z':Data.fields _=Data.cell v:=z;cases z'⟩
 keep:=fun i h h' st k=>k it (by simp) _ st
 item:=by
  intro X hP hw hK hc i pins s σ H E I hf st hg;subst hP hw hK;obtain ⟨f0,f1,f2,f3,f4,f5⟩:=hf it (by simp)
  have W:=Walks.range (prog:=X.prog) (w:=X.w) (I.ok.hd hc) it lo 1 n;refine W.item i s _ _ hg st fun v h' tk hv st' kk=>?_
  obtain ⟨t,rfl⟩:=hv;have I1:aQ X pins σ H {s with heap:=h',toks:=tk}:=I.turned (fun b o hb e=>kk b o (by simpa using hb) e) f0 f1 f3 f4 f5
  refine ⟨_,rfl,n6 (s:={s with heap:=h',toks:=tk}) (n:= "range_iterator") st' rfl rfl (by decide) ⟨.int (lo+i),H,I1,⟨t,?_⟩,⟨rfl,rfl⟩,st',fun b hb=>(hf b hb).1⟩⟩
  rw[Int.mul_one]
 done:=by
  intro X hP hw hK hc i pins s σ H E I hf st hg;subst hP hw hK;obtain ⟨f0,f1,f2,f3,f4,f5⟩:=hf it (by simp)
  exact wpAny_pyNext_range_end (I.ok.hd hc) st (by have:n<=i:=hg;lia) fun h' eb=>⟨rfl,I.turned (t':=s.toks) (fun b o hb e=>eb b o hb e) f0 f1 f3 f4 f5⟩
 self:=fun _ _ _ _ _ st h=>wpAny_pyIter_rangeiter st h
variable {tg:Expr}
def xY (K:E5) (tl:TE):TI:=fun σ H R=>tl σ H fun x H1=>∃a,x= .ref a/\(∃xs,aD K H1 a xs)/\R (wI K a) H1
theorem aG {l:Expr} {tl:TE} (hl:PE X l tl):PI X tg l (xY X.K tl):=by
 intro pins s σ H R I h;refine bG (hl pins s σ H _ I h) fun v s1 ⟨x,H1,I1,r1,q1⟩=>?_
 obtain ⟨a,e,⟨xs,hq⟩,q⟩:=q1;subst e;cases r1;obtain ⟨its,rv,p,hz⟩:=I1.list hq;refine wpAny_pyIter_list p.isList ?_;refine ⟨s1.heap.objs.size,[s1.heap.objs.size],_,_,H1,rfl,I1.kept (t':=s1.toks) fun b o e=>Heap.get?_push_of_some _ e,tu a _,⟨_,Heap.get?_push_size _ rfl,rfl,rfl⟩,fun b hb=>?_,q⟩
 have e:b=s1.heap.objs.size:=by simpa using hb
 subst e;exact I1.fpOk (E8 _) (I1.hok.fresh (E8 _))
theorem n9 {pins:GP} {σ:St} {H:Hp} {s:Shared} {R:It->Hp->Prop} {E:GN} {lo hi:Int} {t u v:Tok} {tk:Nat} (I:aQ X pins σ H s) (h1: -(2^62)<=lo) (h2:lo<2^62) (h3: -(2^62)<=hi) (h4:hi<2^62)
  (q:R (xX lo (hi-lo).toNat) H):wpAny (model X.prog X.w) X.A (pyIter (.ref s.heap.objs.size)) (CT X pins σ tg R) E {s with heap:=s.heap.push {cls:= .type "range",data:= .fields #[.int lo t,.int hi u,.int 1 v]},toks:=tk}:=by
 refine wpAny_pyIter_range (IsRange.new ..) (small_one h1 h2 h3 h4) ?_;have I1:aQ X pins σ H {s with heap:=s.heap.push {cls:= .type "range",data:= .fields #[.int lo t,.int hi u,.int 1 v]},toks:=tk}:=I.kept fun b o e=>Heap.get?_push_of_some _ e
 refine ⟨(s.heap.push {cls:= .type "range",data:= .fields #[.int lo t,.int hi u,.int 1 v]}).objs.size,[(s.heap.push {cls:= .type "range",data:= .fields #[.int lo t,.int hi u,.int 1 v]}).objs.size],_,_,H,rfl,
  I1.kept (t':=tk) fun b o e=>Heap.get?_push_of_some _ e,qj _ lo (hi-lo).toNat,?_,fun b hb=>?_,q⟩
 ·have e1:lo+((0:Nat):Int)*1=lo:=by simp
  have e2:(((hi-lo).toNat:Nat):Int)-((0:Nat):Int)=Builtin.Range.rangeSize lo hi 1:=by rw[rangeSize_one];split<;>lia
  show IsRangeIter _ _ (lo+((0:Nat):Int)*1) ((((hi-lo).toNat:Nat):Int)-((0:Nat):Int)) 1;rw[e1,e2];exact Heap.get?_push_size _ rfl
 ·have e:b=(s.heap.push {cls:= .type "range",data:= .fields #[.int lo t,.int hi u,.int 1 v]}).objs.size:=by simpa using hb
  subst e;exact I1.fpOk (E8 _) (I1.hok.fresh (E8 _))
def AB (ta:TA):TI:=fun σ H R=>ta σ H fun vs H1=>∃j:Int,vs= [.int j]/\ -(2^62)<=j/\j<2^62/\R (xX 0 j.toNat) H1
def AC (ta:TA):TI:=fun σ H R=>ta σ H fun vs H1=>∃i j:Int,vs= [.int i,.int j]/\(-(2^62)<=i/\i<2^62/\ -(2^62)<=j/\j<2^62)/\R (xX i (j-i).toNat) H1
theorem cK {a:Expr} {ta:TA} {p pos:Pos} (hg:Gl X "range") (hm:X.mg "range" =none) (ha:PA X [a] ta) (hs:starEach [a] X.env= [(false,eval a X.env)]:=by rfl):PI X tg (.Call (.Name "range" p) [a] [] pos) (AB ta):=by
 intro pins s σ H R I h;refine Call_ (dI I hg hm boot_range (Er (bG (ha pos pins s σ H _ I h) fun us s1 ⟨vs,H1,I1,r1,q1⟩=>?_) hs rfl))
 obtain ⟨j,e,q1,q2,q⟩:=q1;subst e;cases r1 with
 |cons r rr=>
  cases rr;obtain ⟨t,rfl⟩:=r;exact call_range_1 (n9 I1 (by lia) (by lia) q1 q2 (by simpa using q))
theorem tz {a b:Expr} {ta:TA} {p pos:Pos} (hg:Gl X "range") (hm:X.mg "range" =none) (ha:PA X [a,b] ta) (hs:starEach [a,b] X.env= [(false,eval a X.env),(false,eval b X.env)]:=by rfl) (hs2:starEach [b] X.env= [(false,eval b X.env)]:=by rfl):
  PI X tg (.Call (.Name "range" p) [a,b] [] pos) (AC ta):=by
 intro pins s σ H R I h;refine Call_ (dI I hg hm boot_range (Er (bG (ha pos pins s σ H _ I h) fun us s1 ⟨vs,H1,I1,r1,q1⟩=>?_) (by rw[hs,hs2]) (by rw[hs2];rfl)))
 obtain ⟨i,j,e,⟨q1,q2,q3,q4⟩,q⟩:=q1;subst e;cases r1 with
 |cons r rr=>
  cases rr with
  |cons r' rr=>
   cases rr;obtain ⟨t,rfl⟩:=r;obtain ⟨t',rfl⟩:=r';exact call_range_2 (n9 I1 q1 q2 q3 q4 q)
def CU (wi:TI) (g:TG) (tb:TS):TS:=fun D σ H=>wi σ H fun J H1=>∃W:Nat->Nat->St->Hp->Prop,(∃m,W 0 m σ H1)/\∀i m σ H,W i m σ H->
 (J.stop i H/\D.nx σ H)∨(J.go i H/\∃N:St->Hp->Prop,(∀σ' H',N σ' H'->∃m',m'<m/\W (i+1) m' σ' H')/\∀x H',J.yld i H x H'->g x σ H' fun σ2 H2=>tb {D with nx:=N,ct:=N,bk:=D.nx} σ2 H2)
noncomputable def jk (fp:GR) (h:Heap):GP:=fp.filterMap fun b=>(h.get? b).map fun o=>(b,o)
theorem bQ {fp:GR} {h:Heap} {b:Addr} {o:Obj} (hb:b∈fp) (e:h.get? b=some o):(b,o)∈jk fp h:=List.mem_filterMap.mpr ⟨b,hb,by rw[e];rfl⟩
theorem tD {fp:GR} {h:Heap} {p:Addr×Obj} (hp:p∈jk fp h):p.1∈fp/\h.get? p.1=some p.2:=by
 obtain ⟨b,hb,e⟩:=List.mem_filterMap.mp hp;cases q:h.get? b with
 |none=>rw[q] at e;cases e
 |some o=>
  rw[q] at e;have e':(b,o)=p:=FC e;subst e';exact ⟨hb,q⟩
theorem aQ.pinned {pins:GP} {σ:St} {H:Hp} {s:Shared} {fp:GR} (I:aQ X pins σ H s) (hf:∀b∈fp,dX X pins H b) (ho:∀b∈fp,∃o,s.heap.get? b=some o/\∀v,o.data≠ .cell v):aQ X (pins++jk fp s.heap) σ H s:=
 I.pins_of fun p hp=>(EJ.mp hp).elim (fun z=>I.pin p (E9 _ z)) fun z=>by
  obtain ⟨hb,e⟩:=tD z;obtain ⟨f0,f1,f2,_⟩:=hf p.1 hb;obtain ⟨o,e',d⟩:=ho p.1 hb;rw[e] at e';cases e';exact ⟨e,f0,f1,f2,d⟩
theorem aQ.unpinned {pins pl:GP} {σ:St} {H:Hp} {s:Shared} (I:aQ X (pins++pl) σ H s):aQ X pins σ H s:=I.pins_of fun p hp=>I.pin p (E9 _ (Ff _ hp))
theorem aV {iter:Expr} {body:List Stmt} {wi:TI} {g:TG} {tb:TS} {pos:Pos} (hp:PassesOwn (model X.prog X.w) X.A X.env X.xe) (hc:X.calm=true) (hi:PI X tg iter wi) (hg:PG X tg g) (hb:uI X body tb)
  (hs:∀x,foldedSetIterable iter X.env x=pure x:=by intro _;rfl):PS X (.For tg iter body [] pos) (CU wi g tb):=by
 intro pins s σ H D I h;refine wpAny_For (bG (hi pins s σ H _ I h) fun v s1 h1=>bG h1 fun itv s2 h2=>?_) hs
 obtain ⟨it,fp,tn,J,H2,e,I2,T,st2,f2,W,⟨m0,w0⟩,turn⟩:=h2;subst e;have stat:∀{H':Hp},(∀b∈fp,H' b=none)->∀b∈fp,dX X pins H' b:=fun hn b hb=>⟨hn b hb,(f2 b hb).2⟩
 refine codeAny_forLoop_any (fun n s'=>∃i σ' H',aQ X pins σ' H' s'/\tn i s'.heap/\(∀b∈fp,H' b=none)/\W i n σ' H') ?_ m0 ⟨0,σ,H2,I2,st2,fun b hb=>(f2 b hb).1,w0⟩
 rintro n s3 ⟨i,σ3,H3,I3,st3,fr3,w3⟩;rcases turn i n σ3 H3 w3 with ⟨stop,qn⟩|⟨go,N,hN,step⟩
 ·refine wpAny_passesOwn hp (bG (T.done X rfl rfl rfl hc i pins s3 σ3 H3 X.xe I3 (stat fr3) st3 stop) fun r s4 ⟨hr,I4⟩=>?_)
  subst hr;exact wpAny_execs_nil ⟨σ3,H3,I4,qn⟩
 ·refine wpAny_passesOwn hp (bG (T.item X rfl rfl rfl hc i pins s3 σ3 H3 X.xe I3 (stat fr3) st3 go) fun r s4 ⟨u,hr,h4⟩=>?_)
  subst hr;refine wpAny_passesOwn hp (bG h4 fun _ s5 ⟨x,H5,I5,r5,y5,st5,fr5⟩=>?_)
  have I5':=I5.pinned (stat fr5) (T.obj _ _ st5);refine wpAny_passesOwn hp (bG (hg _ s5 σ3 H5 x u _ I5' r5 (step x H5 y5)) fun _ s6 ⟨σ6,H6,I6,q6⟩=>?_)
  refine wpAny_passesOwn hp (bG (hb _ s6 σ6 H6 _ I6 q6) fun f s7 q7=>?_)
  have again:∀{σ7:St} {H7:Hp},aQ X (pins++jk fp s5.heap) σ7 H7 s7->N σ7 H7->∃m,m<n/\∃i σ' H',aQ X pins σ' H' s7/\tn i s7.heap/\(∀b∈fp,H' b=none)/\W i m σ' H':=fun {σ7 H7} I7 n7=>by
   obtain ⟨m',hm,w7⟩:=hN σ7 H7 n7;refine ⟨m',hm,i+1,σ7,H7,I7.unpinned,T.keep _ _ _ st5 fun b hb o e=>(I7.pin (b,o) (E9 _ (E9 _ (bQ hb e)))).1,fun b hb=>?_,w7⟩
   obtain ⟨o,e,d⟩:=T.obj _ _ st5 b hb;exact (I7.pin (b,o) (E9 _ (E9 _ (bQ hb e)))).2.1
  cases f with
  |next=>obtain ⟨σ7,H7,I7,n7⟩:=q7;exact again I7 n7
  |cont=>obtain ⟨σ7,H7,I7,n7⟩:=q7;exact again I7 n7
  |brk=>obtain ⟨σ7,H7,I7,q7⟩:=q7;exact ⟨σ7,H7,I7.unpinned,q7⟩
  |ret v=>obtain ⟨x7,σ7,H7,I7,r7,q7⟩:=q7;exact ⟨x7,σ7,H7,I7.unpinned,r7,q7⟩
theorem aU {K:E5} {a:Addr} {xs:List V} {g:TG} {tb:TS} {D:Ends} {σ:St} {H:Hp} (Pv:Nat->St->Hp->Prop) (h0:Pv 0 σ H) (hl:∀i σ H,i<=xs.length->Pv i σ H->aD K H a xs)
  (hs:∀i x σ H,xs[i]?=some x->Pv i σ H->g x σ H fun σ2 H2=>tb {D with nx:=Pv (i+1),ct:=Pv (i+1),bk:=D.nx} σ2 H2) (hd:∀σ H,Pv xs.length σ H->D.nx σ H):
  ∃W:Nat->Nat->St->Hp->Prop,(∃m,W 0 m σ H)/\∀i m σ H,W i m σ H->
   ((wI K a).stop i H/\D.nx σ H)∨((wI K a).go i H/\∃N:St->Hp->Prop,(∀σ' H',N σ' H'->∃m',m'<m/\W (i+1) m' σ' H')/\∀x H',(wI K a).yld i H x H'->g x σ H' fun σ2 H2=>tb {D with nx:=N,ct:=N,bk:=D.nx} σ2 H2):=by
 refine ⟨fun i m σ H=>m=xs.length-i/\i<=xs.length/\Pv i σ H,⟨xs.length,by simp,El _,h0⟩,?_⟩
 rintro i m σ H ⟨rfl,hi,p⟩;have q:=hl i σ H hi p
 by_cases hlt:i<xs.length
 ·refine .inr ⟨⟨xs,xs[i],q,by simp[hlt]⟩,Pv (i+1),fun σ' H' p'=>⟨xs.length-(i+1),by lia,rfl,hlt,p'⟩,fun x H' y=>?_⟩
  obtain ⟨e,y⟩:=y;subst e;exact hs i x σ _ (y xs q) p
 ·have e:i=xs.length:=by lia
  subst e;exact .inl ⟨⟨xs,q,E8 _⟩,hd σ H p⟩
theorem cL {lo:Int} {n:Nat} {g:TG} {tb:TS} {D:Ends} {σ:St} {H:Hp} (Pv:Nat->St->Hp->Prop) (h0:Pv 0 σ H)
  (hs:∀i σ H,i<n->Pv i σ H->g (.int (lo+i)) σ H fun σ2 H2=>tb {D with nx:=Pv (i+1),ct:=Pv (i+1),bk:=D.nx} σ2 H2) (hd:∀σ H,Pv n σ H->D.nx σ H):
  ∃W:Nat->Nat->St->Hp->Prop,(∃m,W 0 m σ H)/\∀i m σ H,W i m σ H->
   ((xX lo n).stop i H/\D.nx σ H)∨((xX lo n).go i H/\∃N:St->Hp->Prop,(∀σ' H',N σ' H'->∃m',m'<m/\W (i+1) m' σ' H')/\∀x H',(xX lo n).yld i H x H'->g x σ H' fun σ2 H2=>tb {D with nx:=N,ct:=N,bk:=D.nx} σ2 H2):=by
 refine ⟨fun i m σ H=>m=n-i/\i<=n/\Pv i σ H,⟨n,by simp,El _,h0⟩,?_⟩
 rintro i m σ H ⟨rfl,hi,p⟩
 by_cases hlt:i<n
 ·refine .inr ⟨hlt,Pv (i+1),fun σ' H' p'=>⟨n-(i+1),by lia,rfl,hlt,p'⟩,fun x H' y=>?_⟩
  obtain ⟨e,y⟩:=y;subst e y;exact hs i σ _ hlt p
 ·have e:i=n:=by lia
  subst e;exact .inl ⟨E8 _,hd σ H p⟩
abbrev R2:=V->V->Hp->VK->Prop
def gJ (X:Cx) (f:Value->Value->Sem Value) (r:R2):Prop:=
 ∀(pins:GP) (s:Shared) (σ:St) (H:Hp) (x y:V) (v u:Value) (Q:VK),aQ X pins σ H s->RelV x v->RelV y u->r x y H Q->
  wpAny (model X.prog X.w) X.A (f v u) (EP X pins σ Q) X.xe s
def CV (X:Cx) (f:Value->Sem Value) (r:V->Hp->VK->Prop):Prop:=
 ∀(pins:GP) (s:Shared) (σ:St) (H:Hp) (x:V) (v:Value) (Q:VK),aQ X pins σ H s->RelV x v->r x H Q->
  wpAny (model X.prog X.w) X.A (f v) (EP X pins σ Q) X.xe s
def du (X:Cx) (f:Value) (r:List V->Hp->VK->Prop):Prop:=
 ∀(pins:GP) (s:Shared) (σ:St) (H:Hp) (xs:List V) (us:GS) (Q:VK),aQ X pins σ H s->bC xs us->r xs H Q->
  wpAny (model X.prog X.w) X.A (call f us) (EP X pins σ Q) X.xe s
def Ct (r:R2) (ta tb:TE):TE:=fun σ H Q=>ta σ H fun x H1=>tb σ H1 fun y H2=>r x y H2 Q
def DR (r:V->Hp->VK->Prop) (ta:TE):TE:=fun σ H Q=>ta σ H fun x H1=>r x H1 Q
def rI (C:Int->Int->Prop) (g:Int->Int->V):R2:=fun x y H Q=>∃i j,x= .int i/\y= .int j/\C i j/\Q (g i j) H
def xZ (g:Int->Int->V):R2:=fun x y H Q=>∃i j,x= .int i/\y= .int j/\Q (g i j) H
def rU (g:Int->V):V->Hp->VK->Prop:=fun x H Q=>∃i,x= .int i/\Q (g i) H
section
variable {a b c:Expr} {ta tb tc:TE}
theorem yr (ha:PE X a ta) (hb:PE X b tb) {pins:GP} {s:Shared} {σ:St} {H:Hp} {R:V->V->Hp->Prop} (I:aQ X pins σ H s)
  (h:ta σ H fun x H1=>tb σ H1 fun y H2=>R x y H2) {Q:GN} {f:Value->Value->Sem Value}
  (hf:∀v u s2 x y H2,aQ X pins σ H2 s2->RelV x v->RelV y u->R x y H2->wpAny (model X.prog X.w) X.A (f v u) Q X.xe s2):
  wpAny (model X.prog X.w) X.A (eval a X.env) (fun v s₁=>wpAny (model X.prog X.w) X.A (eval b X.env) (fun u s₂=>wpAny (model X.prog X.w) X.A (f v u) Q X.xe s₂) X.xe s₁) X.xe s:=by
 refine bG (ha pins s σ H _ I h) fun v s1 ⟨x,H1,I1,r1,q1⟩=>?_
 refine bG (hb pins s1 σ H1 _ I1 q1) fun u s2 ⟨y,H2,I2,r2,q2⟩=>?_
 exact hf v u s2 x y H2 I2 r1 r2 q2
theorem am {op:Operator} {r:R2} (ho:gJ X (binaryOp op) r) (ha:PE X a ta) (hb:PE X b tb):PE X (.BinOp a op b pos) (Ct r ta tb):=by
 intro pins s σ H Q I h;exact wpAny_BinOp (yr ha hb I h fun v u s2 x y H2 I2 rx ry q=>ho pins s2 σ H2 x y v u Q I2 rx ry q)
theorem iS {op:UnaryOp} {r:V->Hp->VK->Prop} (ho:CV X (unaryOp op) r) (ha:PE X a ta):PE X (.UnaryOp op a pos) (DR r ta):=by
 intro pins s σ H Q I h;exact UnaryOp_ (bG (ha pins s σ H _ I h) fun v s1 ⟨x,H1,I1,r1,q1⟩=>ho pins s1 σ H1 x v Q I1 r1 q1)
theorem Cu {f:Value->Value->Sem Value} {C:Int->Int->Prop} {g:Int->Int->Int}
  (rule:∀(i j:Int) (t u:Tok) (s:Shared) (Q:GN) (E:GN),C i j->Q (.int (g i j) s.toks) {s with toks:=s.toks+1}->wpAny (model X.prog X.w) X.A (f (.int i t) (.int j u)) Q E s):
  gJ X f (rI C fun i j=> .int (g i j)):=by
 intro pins s σ H x y v u Q I rx ry h;obtain ⟨i,j,rfl,rfl,hc,q⟩:=h;obtain ⟨t,rfl⟩:=rx;obtain ⟨t',rfl⟩:=ry;exact rule i j t t' s _ _ hc ⟨.int (g i j),H,I.tok _,⟨_,rfl⟩,q⟩
theorem AD {f:Value->Value->Sem Value} {g:Int->Int->Int}
  (rule:∀(i j:Int) (t u:Tok) (s:Shared) (Q:GN) (E:GN),Q (.int (g i j) s.toks) {s with toks:=s.toks+1}->wpAny (model X.prog X.w) X.A (f (.int i t) (.int j u)) Q E s):
  gJ X f (xZ fun i j=> .int (g i j)):=by
 intro pins s σ H x y v u Q I rx ry h;obtain ⟨i,j,rfl,rfl,q⟩:=h;obtain ⟨t,rfl⟩:=rx;obtain ⟨t',rfl⟩:=ry;exact rule i j t t' s _ _ ⟨.int (g i j),H,I.tok _,⟨_,rfl⟩,q⟩
theorem wJ {f:Value->Value->Sem Value} {g:Int->Int->Bool}
  (rule:∀(i j:Int) (t u:Tok) (s:Shared) (Q:GN) (E:GN),Q (.bool (g i j)) s->wpAny (model X.prog X.w) X.A (f (.int i t) (.int j u)) Q E s):
  gJ X f (xZ fun i j=> .bl (g i j)):=by
 intro pins s σ H x y v u Q I rx ry h;obtain ⟨i,j,rfl,rfl,q⟩:=h;obtain ⟨t,rfl⟩:=rx;obtain ⟨t',rfl⟩:=ry;exact rule i j t t' s _ _ ⟨.bl (g i j),H,I,rfl,q⟩
theorem aX:gJ X (binaryOp .Add) (xZ fun i j=> .int (i+j)):=AD fun _ _ _ _ _ _ _ q=>add_int q
theorem fL:gJ X (binaryOp .Sub) (xZ fun i j=> .int (i-j)):=AD fun _ _ _ _ _ _ _ q=>sub_int q
theorem aS:gJ X (binaryOp .Mod) (rI (fun _ j=>j≠0) fun i j=> .int (i.fmod j)):=Cu fun _ _ _ _ _ _ _ hc q=>mod_int' hc q
theorem DS {f:Value->Sem Value} {g:Int->Int}
  (rule:∀(i:Int) (t:Tok) (s:Shared) (Q:GN) (E:GN),Q (.int (g i) s.toks) {s with toks:=s.toks+1}->wpAny (model X.prog X.w) X.A (f (.int i t)) Q E s):
  CV X f (rU fun i=> .int (g i)):=by
 intro pins s σ H x v Q I rx h;obtain ⟨i,rfl,q⟩:=h;obtain ⟨t,rfl⟩:=rx;exact rule i t s _ _ ⟨.int (g i),H,I.tok _,⟨_,rfl⟩,q⟩
theorem gq:CV X (unaryOp .USub) (rU fun i=> .int (-i)):=DS fun _ _ _ _ _ q=>neg_int q
end
noncomputable def AE:V->V->Bool
 | .non,.non=>true| .non,.int _=>true| .int _,.non=>true| .non,.bl _=>true| .bl _,.non=>true| .non,.str _=>true| .str _,.non=>true
 | .int _,.int _=>true| .bl _,.bl _=>true| .str _,.str _=>true| .byt _,.byt _=>true
 | .int _,.str _=>true| .str _,.int _=>true| .bl _,.str _=>true| .str _,.bl _=>true
 |_,_=>false
def DT:R2:=fun x y H Q=>AE x y=true/\Q (.bl (decide (x=y))) H
def DU:R2:=fun x y H Q=>AE x y=true/\Q (.bl (!decide (x=y))) H
theorem rN {i j:Int}:decide (V.int i=V.int j)=(i==j):=by
 rw[F4];simp
theorem uQ {i j:Bool}:decide (V.bl i=V.bl j)=(i==j):=by
 rw[F4];simp
theorem rO {i j:Str}:decide (V.str i=V.str j)=(i==j):=by
 rw[F4];simp
theorem rP {i j:Array UInt8}:decide (V.byt i=V.byt j)=(i.toList==j.toList):=by
 rw[F4];cases i;cases j;simp
section
variable {a b c:Expr} {ta tb tc:TE}
theorem bT {pins:GP} {σ:St} {H:Hp} {s:Shared} {Q:VK} {k k':Bool} (I:aQ X pins σ H s) (q:Q (.bl k) H) (e:k=k'):EP X pins σ Q (.bool k') s:=by
 subst e;exact ⟨.bl k,H,I,rfl,q⟩
theorem bK:gJ X (compareOp .Eq) DT:=by
 intro pins s σ H x y v u Q I rx ry h;obtain ⟨hs,q⟩:=h;cases x with
 |non=>
  cases rx;cases y with
  |non=>cases ry;exact PySem.EqNone.eq_none_none (bT I q (by simp))
  |bl j=>cases ry;exact PySem.EqNone.eq_none_bool (bT I q (by simp))
  |int j=>obtain ⟨t',rfl⟩:=ry;exact PySem.EqNone.eq_none_int (bT I q (by simp))
  |str j=>obtain ⟨t',rfl⟩:=ry;exact PySem.EqNone.eq_none_str (bT I q (by simp))
  |_=>exact absurd (show false=true from hs) Ec
 |bl i=>
  cases rx;cases y with
  |non=>cases ry;exact PySem.EqNone.eq_bool_none (bT I q (by simp))
  |bl j=>cases ry;exact eq_bool (bT I q uQ)
  |str j=>obtain ⟨t',rfl⟩:=ry;exact PySem.EqMixed.eq_bool_str (bT I q (by simp))
  |_=>exact absurd (show false=true from hs) Ec
 |int i=>
  obtain ⟨t,rfl⟩:=rx;cases y with
  |non=>cases ry;exact PySem.EqNone.eq_int_none (bT I q (by simp))
  |int j=>obtain ⟨t',rfl⟩:=ry;exact eq_int (bT I q rN)
  |str j=>obtain ⟨t',rfl⟩:=ry;exact PySem.EqMixed.eq_int_str (bT I q (by simp))
  |_=>exact absurd (show false=true from hs) Ec
 |str i=>
  obtain ⟨t,rfl⟩:=rx;cases y with
  |non=>cases ry;exact PySem.EqNone.eq_str_none (bT I q (by simp))
  |bl j=>cases ry;exact PySem.EqMixed.eq_str_bool (bT I q (by simp))
  |int j=>obtain ⟨t',rfl⟩:=ry;exact PySem.EqMixed.eq_str_int (bT I q (by simp))
  |str j=>obtain ⟨t',rfl⟩:=ry;exact eq_str (bT I q rO)
  |_=>exact absurd (show false=true from hs) Ec
 |byt i=>
  obtain ⟨t,rfl⟩:=rx;cases y with
  |byt j=>obtain ⟨t',rfl⟩:=ry;exact PySem.W.eq_bytes (bT I q rP)
  |_=>exact absurd (show false=true from hs) Ec
 |_=>cases y<;>exact absurd (show false=true from hs) Ec
theorem eT:gJ X (compareOp .NotEq) DU:=by
 intro pins s σ H x y v u Q I rx ry h;obtain ⟨hs,q⟩:=h;cases x with
 |non=>
  cases rx;cases y with
  |non=>cases ry;exact PySem.EqNone.ne_none_none (bT I q (by simp))
  |bl j=>cases ry;exact PySem.EqNone.ne_none_bool (bT I q (by simp))
  |int j=>obtain ⟨t',rfl⟩:=ry;exact PySem.EqNone.ne_none_int (bT I q (by simp))
  |str j=>obtain ⟨t',rfl⟩:=ry;exact PySem.EqNone.ne_none_str (bT I q (by simp))
  |_=>exact absurd (show false=true from hs) Ec
 |bl i=>
  cases rx;cases y with
  |non=>cases ry;exact PySem.EqNone.ne_bool_none (bT I q (by simp))
  |bl j=>cases ry;exact ne_bool (bT I q (congrArg not uQ))
  |str j=>obtain ⟨t',rfl⟩:=ry;exact PySem.EqMixed.ne_bool_str (bT I q (by simp))
  |_=>exact absurd (show false=true from hs) Ec
 |int i=>
  obtain ⟨t,rfl⟩:=rx;cases y with
  |non=>cases ry;exact PySem.EqNone.ne_int_none (bT I q (by simp))
  |int j=>obtain ⟨t',rfl⟩:=ry;exact ne_int (bT I q (congrArg not rN))
  |str j=>obtain ⟨t',rfl⟩:=ry;exact PySem.EqMixed.ne_int_str (bT I q (by simp))
  |_=>exact absurd (show false=true from hs) Ec
 |str i=>
  obtain ⟨t,rfl⟩:=rx;cases y with
  |non=>cases ry;exact PySem.EqNone.ne_str_none (bT I q (by simp))
  |bl j=>cases ry;exact PySem.EqMixed.ne_str_bool (bT I q (by simp))
  |int j=>obtain ⟨t',rfl⟩:=ry;exact PySem.EqMixed.ne_str_int (bT I q (by simp))
  |str j=>obtain ⟨t',rfl⟩:=ry;exact ne_str (bT I q (congrArg not rO))
  |_=>exact absurd (show false=true from hs) Ec
 |byt i=>
  obtain ⟨t,rfl⟩:=rx;cases y with
  |byt j=>obtain ⟨t',rfl⟩:=ry;exact PySem.W.ne_bytes (bT I q (congrArg not rP))
  |_=>exact absurd (show false=true from hs) Ec
 |_=>cases y<;>exact absurd (show false=true from hs) Ec
theorem fo:gJ X (compareOp .Lt) (xZ fun i j=> .bl (decide (i<j))):=wJ fun _ _ _ _ _ _ _ q=>lt_int q
theorem dv:gJ X (compareOp .LtE) (xZ fun i j=> .bl (decide (i<=j))):=wJ fun _ _ _ _ _ _ _ q=>le_int q
theorem fP:gJ X (compareOp .Gt) (xZ fun i j=> .bl (decide (j<i))):=wJ fun _ _ _ _ _ _ _ q=>gt_int q
theorem uR:gJ X (compareOp .GtE) (xZ fun i j=> .bl (decide (j<=i))):=wJ fun _ _ _ _ _ _ _ q=>ge_int q
theorem fc:gJ X (compareOp .Is) (fun x y H Q=>y= .non/\Q (.bl (decide (x= .non))) H):=by
 intro pins s σ H x y v u Q I rx ry h;obtain ⟨rfl,q⟩:=h;cases ry;refine is_none_gen (bT I q ?_);cases x<;>first
  |(cases rx;rfl)
  |(obtain ⟨t,rfl⟩:=rx;rfl)
theorem dY:gJ X (compareOp .IsNot) (fun x y H Q=>y= .non/\Q (.bl (!decide (x= .non))) H):=by
 intro pins s σ H x y v u Q I rx ry h;obtain ⟨rfl,q⟩:=h;cases ry;refine isnot_none_gen (bT I q ?_);cases x<;>first
  |(cases rx;rfl)
  |(obtain ⟨t,rfl⟩:=rx;rfl)
theorem aA (b:Expr) {op:CmpOp} (h:op≠ .In:=by decide) (h2:op≠ .NotIn:=by decide):behindInMarks op b=false:=by
 have e1:(op==CmpOp.In)=false:=by cases op<;>first|rfl|exact absurd rfl h
 have e2:(op==CmpOp.NotIn)=false:=by cases op<;>first|rfl|exact absurd rfl h2
 cases b<;>simp[behindInMarks,e1,e2]
theorem cN {op:CmpOp} {r:R2} (ho:gJ X (compareOp op) r) (ha:PE X a ta) (hb:PE X b tb) (hm:behindInMarks op b=false):PE X (.Compare a [op] [b] pos) (Ct r ta tb):=by
 intro pins s σ H Q I h;exact wpAny_Compare1 (yr ha hb I h fun v u s2 x y H2 I2 rx ry q=>ho pins s2 σ H2 x y v u Q I2 rx ry q) hm
def uS (t:TE):TT:=fun σ H Q=>t σ H fun x H'=>∃k,x= .bl k/\Q k H'
theorem ao {op:CmpOp} {r:R2} (ho:gJ X (compareOp op) r) (ha:PE X a ta) (hb:PE X b tb) (hm:behindInMarks op b=false):PT X (.Compare a [op] [b] pos) (uS (Ct r ta tb)):=by
 intro pins s σ H Q I h;refine wpAny_isTrue_Compare1 (bG (ha pins s σ H _ I h) fun v s1 ⟨x,H1,I1,r1,q1⟩=>bG (hb pins s1 σ H1 _ I1 q1) fun u s2 ⟨y,H2,I2,r2,q2⟩=>
  bG (ho pins s2 σ H2 x y v u _ I2 r1 r2 q2) fun c s3 ⟨z,H3,I3,r3,k,e,q3⟩=>?_) hm
 subst e;cases r3;exact wpAny_truthy_bool ⟨H3,I3,q3⟩
def yt (r r':R2) (ta tb tc:TE):TE:=fun σ H Q=>ta σ H fun x H1=>tb σ H1 fun y H2=>r x y H2 fun z H3=>∃k,z= .bl k/\
 (if k=true then tc σ H3 fun w' H4=>r' y w' H4 Q else Q (.bl false) H3)
theorem cI {op op':CmpOp} {r r':R2} (ho:gJ X (compareOp op) r) (ho':gJ X (compareOp op') r') (ha:PE X a ta) (hb:PE X b tb) (hc:PE X c tc)
  (hm:lastMarks [op,op'] [b,c]=false:=by with_unfolding_all rfl):PT X (.Compare a [op,op'] [b,c] pos) (uS (yt r r' ta tb tc)):=by
 intro pins s σ H Q I h;refine isTrue_chain (bG (ha pins s σ H _ I h) fun v s1 ⟨x,H1,I1,r1,q1⟩=>test_link (bG (hb pins s1 σ H1 _ I1 q1) fun u s2 ⟨y,H2,I2,r2,q2⟩=>
  bG (ho pins s2 σ H2 x y v u _ I2 r1 r2 q2) fun d s3 ⟨z,H3,I3,r3,k,e,q3⟩=>?_)) hm
 subst e;cases r3;refine wpAny_truthy_bool ?_;cases k with
 |false=>
  obtain ⟨k',e',q'⟩:=q3;cases e';exact ite_ff ⟨H3,I3,q'⟩
 |true=>
  refine ite_tt (test_last (bG (hc pins s3 σ H3 _ I3 q3) fun w' s4 ⟨z',H4,I4,r4,q4⟩=>bG (ho' pins s4 σ H4 y z' u w' _ I4 r2 r4 q4) fun d' s5 ⟨z2,H5,I5,r5,k2,e2,q5⟩=>?_))
  subst e2;cases r5;exact wpAny_truthy_bool ⟨H5,I5,q5⟩
theorem jn:(sizeLine:Nat)<2^63:=by rw[sizeLine_eq];decide
theorem fq:gJ X (binaryOp .Add) (fun x y H Q=>∃i j,x= .str i/\y= .str j/\i.length+j.length<=sizeLine/\Q (.str (i++j)) H):=by
 intro pins s σ H x y v u Q I rx ry h;obtain ⟨i,j,rfl,rfl,hz,q⟩:=h;obtain ⟨t,rfl⟩:=rx;obtain ⟨t',rfl⟩:=ry;exact add_str (fun t' tk=>⟨.str (i++j),H,I.tok _,⟨_,rfl⟩,q⟩) hz
theorem vals1 {x:V} {us:GS} (r:bC [x] us):∃u,us= [u]/\RelV x u:=by
 cases r with
 |cons r1 r2=>cases r2;exact ⟨_,rfl,r1⟩
theorem vals2 {x y:V} {us:GS} (r:bC [x,y] us):∃u w',us= [u,w']/\RelV x u/\RelV y w':=by
 cases r with
 |cons r1 r2=>
  cases r2 with
  |cons r3 r4=>cases r4;exact ⟨_,_,rfl,r1,r3⟩
theorem uT:du X (.builtin "abs") (fun xs H Q=>∃i,xs= [.int i]/\Q (.int (if i<0 then-i else i)) H):=by
 intro pins s σ H xs us Q I r h;obtain ⟨i,rfl,q⟩:=h;obtain ⟨u,rfl,t,rfl⟩:=vals1 r;exact call_abs_int fun u tk=>⟨.int (if i<0 then-i else i),H,I.tok _,⟨_,rfl⟩,q⟩
theorem tE (hc:X.calm=true):du X (.builtin "max") (fun xs H Q=>∃i j,xs= [.int i,.int j]/\Q (.int (if j>i then j else i)) H):=by
 intro pins s σ H xs us Q I r h;obtain ⟨i,j,rfl,q⟩:=h;obtain ⟨u,w',rfl,⟨t,rfl⟩,⟨t',rfl⟩⟩:=vals2 r;refine max_two_ints (I.ok.hd hc) fun h' tk k=>⟨_,H,I.kept k,?_,q⟩
 by_cases hj:j>i
 ·rw[if_pos hj,if_pos hj];exact ⟨_,rfl⟩
 ·rw[if_neg hj,if_neg hj];exact ⟨_,rfl⟩
end
structure tF (h:Heap) (x dx C:Addr) (mA:GO):Prop where
 obj:h.get? x=some (FZ C dx)
 ns:h.Ns1 dx mA
 ne:dx≠x
theorem tG {h:Heap} {dx:Addr} {mA:GO} (n:h.Ns1 dx mA):∃od,h.get? dx=some od/\∀name,PySem.W.lookIn name od=some (mA name):=by
 obtain ⟨o,es,ep,ho,hd,hk,_,hm⟩:=n;refine ⟨o,ho,fun name=>?_⟩
 have e:=hm name;unfold nsFind findBy at e;rw[<-Array.find?_toList] at e;unfold PySem.W.lookIn;rw[hd];dsimp only
 split
 ·rename_i y q;rw[q] at e;exact congrArg some e
 ·rename_i q;rw[q] at e;have a:es.toList.any (·.refKey)=false:=by
   rw[List.any_eq_false];intro y hy;obtain ⟨z,t,hkey⟩:=hk y (Array.mem_toList_iff.mp hy);simp[DictEntry.refKey,hkey]
  have a':¬es.toList.any (·.refKey)=true:=by rw[a];exact Ec
  rw[if_neg a'];exact congrArg some e
theorem tF.look {h:Heap} {x dx C:Addr} {mA:GO} (I:tF h x dx C mA):∃od,PySem.W.InstAt h x (FZ C dx) C (some od)/\∀name,PySem.W.lookIn name od=some (mA name):=
 let ⟨od,ho,hl⟩:=tG I.ns
 ⟨od,⟨I.obj,rfl,rfl,ho⟩,hl⟩
section
variable {prog:Program} {w:World} {A:Around} {K:E5} {x dx C f:Addr} {mA:GO} {name:Str} {v:Value}
theorem wK {expr:Bool} {Q:GN} (X:K.In s.heap) (I:tF s.heap x dx C mA) (hg:PySem.W.plainGet K C name=true) (hh:PySem.W.hasDictIn K C=true)
  (ha:FY K (.ref C) name=some none) (hv:mA name=some v) (hv':PySem.W.handedIn v=true) (h:Q v {s with toks:=s.toks+1}):
  wpAny (model prog w) A (getAttr (.ref x) name expr) Q E s:=by
 obtain ⟨od,J,hl⟩:=I.look;exact PySem.W.get_value X J (PySem.W.plainGet_of hg).1 (PySem.W.findObj_own hh ha rfl (by rw[hl,hv])) hv' h
theorem wM {ns:GQ} {Q:Unit->Shared->Prop} (X:K.In s.heap) (I:tF s.heap x dx C mA)
  (hs:FY K (.ref C) "__setattr__" =some (some (.builtin "object.__setattr__"))) (hp:PySem.W.plainOver K C=true) (ht:PySem.W.takerIn K C name=some none) (hh:PySem.W.hasDictIn K C=true)
  (hw:PySem.Within mA ns) (hsz:ns.length<=sizeLine)
  (h:∀h',tF h' x dx C (fun y=>if y=name then some v else mA y)->Heap.SameBut dx s.heap h'->Q () {s with heap:=h',toks:=s.toks+2}):
  wpAny (model prog w) A (setAttr (.ref x) name v) Q E s:=by
 obtain ⟨od,J,hl⟩:=I.look;refine PySem.W.set_plain X J hs (PySem.W.osa_open (s:={s with toks:=s.toks+1}) (r:=none) X J hp ht fun b=>?_)
 obtain ⟨cd,hc,hd'⟩:=PySem.W.any_some hh;have hx:s.heap.get? x=some ⟨.ref C,some dx,.plain,#[]⟩:=I.obj;refine wpAny_bind (wpAny_pure (wpAny_bind (wpAny_bind (wpAny_loadPart hx (wpAny_bind (PySem.W.Looks.here (s:={s with toks:=s.toks+1}) (PySem.W.looks_clsIn X hc) ?_))))))
 rw[hd'];refine wpAny_pure (a:=some dx) (wpAny_bind (wpAny_pure (wpAny_bind ?_)));refine wpAny_nsSet1 (s:={s with toks:=s.toks+1}) I.ns fun h' hn2 hs2=>?_
 obtain ⟨oD,esD,epD,hoD,hdD,hcD⟩:=hn2.count (PySem.Within.cons name v hw);refine wpAny_bind (wpAny_lookBehind hoD (by rw[hdD];exact pastItsLine_dict (FB hcD (by rw[ER];lia))) ?_)
 exact wpAny_pure (h _ ⟨(hs2.2 _ (Ne.symm I.ne)).trans I.obj,hn2,I.ne⟩ hs2)
theorem uU {R:Result->Shared->Prop} {vs:GS} {kw:List (Str×Value)} (X:K.In s.heap) (hm:PySem.W.makesIn K C=true)
  (hi:FY K (.ref C) "__init__" =some (some (.ref f))) (hf:PySem.W.typeIn K (.ref f)=some (.type "function"))
  (h:codeAny (model prog w) (A.under (.builtin "type.__call__" ⟨.ref C::vs,kw⟩)) (.call (.ref f) ⟨.ref (s.heap.objs.size+1)::vs,kw⟩) (PySem.W.InitBack (s.heap.objs.size+1) R)
   {s with heap:=(s.heap.push FD).push (FZ C s.heap.objs.size)}):
  codeAny (model prog w) A (.call (.ref C) ⟨vs,kw⟩) R s:=by
 obtain ⟨hh,g,d,t,os⟩:=s;exact PySem.W.make_core (PySem.W.makes_of X hm) (PySem.W.looks_findIn X hi) (fun self=>PySem.W.bind_fn X self hf) (.inl rfl) h
end
noncomputable def bB (f:Str) (v:V):List (Str×V)->List (Str×V)
 | []=> [(f,v)]
 |(g,x)::r=>if g=f then (g,v)::r else (g,x)::bB f v r
theorem bD (f g:Str) (v:V):∀fs:List (Str×V),(bB f v fs).lookup g=if g=f then some v else fs.lookup g
 | []=>by
  show List.lookup g [(f,v)]=_
  by_cases h:g=f
  ·have hb:(g==f)=true:=beq_iff_eq.mpr h;simp only[List.lookup,hb,if_pos h]
  ·have hb:(g==f)=false:=beq_eq_false_iff_ne.mpr h;simp only[List.lookup,hb,if_neg h]
 |(k,x)::r=>by
  have ih:=bD f g v r;rw[show bB f v ((k,x)::r)=(if k=f then (k,v)::r else (k,x)::bB f v r) from rfl]
  by_cases hk:k=f
  ·rw[if_pos hk]
   by_cases h:g=k
   ·have hb:(g==k)=true:=beq_iff_eq.mpr h;simp only[List.lookup,hb,if_pos (h.trans hk)]
   ·have hb:(g==k)=false:=beq_eq_false_iff_ne.mpr h;simp only[List.lookup,hb,if_neg (fun e:g=f=>h (e.trans hk.symm))]
  ·rw[if_neg hk]
   by_cases h:g=k
   ·have hb:(g==k)=true:=beq_iff_eq.mpr h;simp only[List.lookup,hb,if_neg (fun e:g=f=>hk (h.symm.trans e))]
   ·have hb:(g==k)=false:=beq_eq_false_iff_ne.mpr h;simp only[List.lookup,hb];exact ih
theorem jo (f:Str) (v:V):∀fs:List (Str×V),f∈(bB f v fs).map (·.1)/\∀g,g∈fs.map (·.1)->g∈(bB f v fs).map (·.1)
 | []=>⟨by simp[bB],fun g h=>by simp at h⟩
 |(k,x)::r=>by
  obtain ⟨i1,i2⟩:=jo f v r;rw[show bB f v ((k,x)::r)=(if k=f then (k,v)::r else (k,x)::bB f v r) from rfl]
  by_cases hk:k=f
  ·rw[if_pos hk];subst hk;exact ⟨by simp,fun g h=>by simpa using h⟩
  ·rw[if_neg hk];refine ⟨?_,fun g h=>?_⟩
   ·rw[F8];exact EZ _ i1
   ·rw[F8] at h⊢;rcases EI.mp h with e|e
    ·exact EI.mpr (.inl e)
    ·exact EZ _ (i2 g e)
theorem bN (f:Str) (v:V):∀fs:List (Str×V),(bB f v fs).length<=fs.length+1
 | []=>by simp[bB]
 |(k,x)::r=>by
  have ih:=bN f v r;rw[show bB f v ((k,x)::r)=(if k=f then (k,v)::r else (k,x)::bB f v r) from rfl]
  by_cases hk:k=f
  ·rw[if_pos hk,ER,ER];lia
  ·rw[if_neg hk,ER,ER];lia
theorem iG.some_of {v:V} {o:GU} (r:iG (some v) o):∃u,o=some u/\RelV v u:=by
 cases o with
 |none=>exact (show False from r).elim
 |some u=>exact ⟨u,rfl,r⟩
theorem tH {v:V} {u:Value} (r:RelV v u):PySem.W.handedIn u=true:=by
 cases v with
 |non=>cases (show u=Value.none from r);rfl
 |bl b=>cases (show u=Value.bool b from r);rfl
 |int i=>obtain ⟨t,e⟩:=(show ∃t,u=Value.int i t from r);cases e;rfl
 |str x=>obtain ⟨t,e⟩:=(show ∃t,u=Value.str x t from r);cases e;rfl
 |byt b=>obtain ⟨t,e⟩:=(show ∃t,u=Value.bytes b t from r);cases e;rfl
 |flt b=>obtain ⟨t,e⟩:=(show ∃t,u=Value.float b t from r);cases e;rfl
 |ref a=>cases (show u=Value.ref a from r);rfl
 |ty n=>cases (show u=Value.type n from r);rfl
section
variable {P:Program} {w:World} {h:Heap} {C dx:Addr} {fs fs':List (Str×V)}
theorem mS (hok:ix P w H h) (e:H a=some (.ins C dx fs)):∃mA,tF h a dx C mA/\(∀f,iG (fs.lookup f) (mA f))/\PySem.Within mA (fs.map (·.1))/\fs.length<=1000/\H dx=some (.own a):=by
 obtain ⟨d,z,ne,ob,mA,n,r,q⟩:=(show cq P w H h a (.ins C dx fs) from hok a _ e)
 exact ⟨mA,⟨ob,n,ne⟩,r,q,z,d⟩
end
structure wN (K:E5) (C:Addr):Prop where
 pg:PySem.W.plainGet K C Str.empty=true
 hd:PySem.W.hasDictIn K C=true
 po:PySem.W.plainOver K C=true
 sa:FY K (.ref C) "__setattr__" =some (some (.builtin "object.__setattr__"))
theorem wN.get {K:E5} {C:Addr} (c:wN K C) (f:Str):PySem.W.plainGet K C f=true:=c.pg
def cS (K:E5) (C:Addr) (f:Str):Prop:=FY K (.ref C) f=some none
theorem cS.taker {K:E5} {C:Addr} {f:Str} (n:cS K C f):PySem.W.takerIn K C f=some none:=by
 unfold PySem.W.takerIn;rw[show FY K (.ref C) f=some none from n]
 rfl
section
variable {C dx:Addr} {fs:List (Str×V)} {f:Str} {v:V} {A:Around}
theorem qk {b:Bool} {Q:GN} (I:aQ X pins σ H s) (e:H a=some (.ins C dx fs)) (c:wN X.K C) (n:cS X.K C f) (l:fs.lookup f=some v)
  (h:∀u s',aQ X pins σ H s'->RelV v u->Q u s'):wpAny (model X.prog X.w) A (getAttr (.ref a) f b) Q E s:=by
 obtain ⟨mA,O,r,_,_,_⟩:=mS I.hok e;obtain ⟨u,hu,ru⟩:=iG.some_of (v:=v) (o:=mA f) (by rw[<-l];exact r f)
 exact wK I.kIn O (c.get f) c.hd n hu (tH ru) (h u _ (I.tok _) ru)
theorem ql {y:V} {u:Value} {Q:Unit->Shared->Prop} (I:aQ X pins σ H s) (e:H a=some (.ins C dx fs)) (c:wN X.K C) (n:cS X.K C f) (hl:fs.length<1000) (ry:RelV y u)
  (h:∀s',aQ X pins σ (aH H a (.ins C dx (bB f y fs))) s'->Q () s'):wpAny (model X.prog X.w) A (setAttr (.ref a) f u) Q E s:=by
 obtain ⟨mA,O,r,wi,_,ho⟩:=mS I.hok e;have hz:(fs.map (·.1)).length<=sizeLine:=by rw[E1,sizeLine_eq];lia
 refine wM I.kIn O c.sa c.po n.taker c.hd wi hz fun h' O' sb=>h _ ?_
 have hd:∃o,h'.get? dx=some o:=let ⟨o,_,_,e',_⟩:=O'.ns;⟨o,e'⟩;refine I.write (x:=a) (e:=dx) (by rw[e];exact True.intro) (.inr ho) (fun b q hb z=>(sb.2 b hb).trans z) hd ?_
 refine ⟨by rw[aK O.ne];exact ho,?_,O.ne,O'.obj,_,O'.ns,fun g=>?_,fun g hg=>?_⟩
 ·have:=bN f y fs;lia
 ·show iG ((bB f y fs).lookup g) (if g=f then some u else mA g)
  rw[bD]
  by_cases q:g=f
  ·rw[if_pos q,if_pos q];exact ry
  ·rw[if_neg q,if_neg q];exact r g
 ·by_cases q:g=f
  ·rw[q];exact (jo f y fs).1
  ·refine (jo f y fs).2 g (wi g fun z=>hg ?_)
   show (if g=f then some u else mA g)=none
   rw[if_neg q];exact z
theorem aQ.made (I:aQ X pins σ H s):aQ X pins σ (aH (aH H s.heap.objs.size (.own (s.heap.objs.size+1))) (s.heap.objs.size+1) (.ins C s.heap.objs.size []))
  {s with heap:=(s.heap.push FD).push (FZ C s.heap.objs.size)}:=by
 have e1:(s.heap.push FD).get? s.heap.objs.size=some FD:=Heap.get?_push_size s.heap rfl;have e2:((s.heap.push FD).push (FZ C s.heap.objs.size)).get? (s.heap.objs.size+1)=some (FZ C s.heap.objs.size):=by
  have:=Heap.get?_push_size (s.heap.push FD) (o:=FZ C s.heap.objs.size) rfl
  rwa [Heap.size_push] at this
 have e3:(s.heap.push FD).Ns s.heap.objs.size (fun _=>none):=⟨FD,#[],_,e1,rfl,(fun e he=>absurd he (by simp)),fun _=>rfl⟩
 have I1:=I.laid (a:=s.heap.objs.size) (o:= .own (s.heap.objs.size+1)) (h':=s.heap.push FD) (t':=s.toks) (fun b u q=>Heap.get?_push_of_some _ q) (E8 _) ⟨_,e1⟩
 refine I1.laid (a:=s.heap.objs.size+1) (o:= .ins C s.heap.objs.size []) (t':=s.toks) (fun b u q=>Heap.get?_push_of_some _ q) (Nat.le_of_eq (Heap.size_push _ _)) ?_
 have ne:s.heap.objs.size≠s.heap.objs.size+1:=EF (Nat.lt_succ_self _);refine ⟨by rw[aK ne,ae],El _,ne,e2,fun _=>none,(Heap.Ns1.of_empty e3).at fun o q=>Heap.get?_push_of_some _ q,fun _=>True.intro,fun y hy=>absurd rfl hy⟩
theorem wO {prog:Program} {w:World} {env:Env} {e:Expr} {f:Str} {pos:Pos} {s:Shared} {Q:GN} (hb:attributeBase e f env (eval e env)=eval e env)
  (h:wpAny (model prog w) A (eval e env) (fun o s₁=>wpAny (model prog w) A (getAttr o f true) Q E s₁) E s):wpAny (model prog w) A (eval (.Attribute e f pos) env) Q E s:=
 Attribute_any_ h (by rw[arm_eval_Attribute,hb])
end
def CW (K:E5) (ta:TE) (f:Str):TE:=fun σ H Q=>ta σ H fun x H1=>∃a C dx fs v,x= .ref a/\H1 a=some (.ins C dx fs)/\wN K C/\cS K C f/\fs.lookup f=some v/\Q v H1
def CY (K:E5) (ta tv:TE) (f:Str):TS:=fun D σ H=>tv σ H fun y H1=>ta σ H1 fun x H2=>∃a C dx fs,x= .ref a/\H2 a=some (.ins C dx fs)/\wN K C/\cS K C f/\fs.length<1000/\
 D.nx σ (aH H2 a (.ins C dx (bB f y fs)))
section
variable {o e value:Expr} {f:Str} {pos' tpos:Pos} {ta tv:TE}
theorem cW (he:PE X e ta) (hb:attributeBase e f X.env (eval e X.env)=eval e X.env):PE X (.Attribute e f pos) (CW X.K ta f):=by
 intro pins s σ H Q I h;refine wO hb (bG (he pins s σ H _ I h) fun u s1 ⟨x,H1,I1,rx,a,C,dx,fs,v,ex,ea,c,n,l,q⟩=>?_)
 subst ex;obtain rfl:u=Value.ref a:=rx;exact qk I1 ea c n l fun u' s2 I2 ru=>⟨v,H1,I2,ru,q⟩
theorem j8 (ha:PE X o ta) (hv:PE X value tv) (hs:swapsWith value (some (.Attribute o f pos')) pos.line X.env=pure false):PS X (.Assign [.Attribute o f pos'] value pos) (CY X.K ta tv f):=by
 intro pins s σ H D I h;refine plainObj_wpAny_Assign_Attribute (bG (hv pins s σ H _ I h) fun u s1 ⟨y,H1,I1,ry,q⟩=>bG (ha pins s1 σ H1 _ I1 q) fun ov s2 ⟨x,H2,I2,rx,a,C,dx,fs,ex,ea,c,n,l,q2⟩=>?_) hs
 subst ex;obtain rfl:ov=Value.ref a:=rx;exact ql I2 ea c n l ry fun s3 I3=>⟨σ,_,I3,q2⟩
end
section
variable {A:Around} {Q:GN} {c:Value} {b:Bool}
inductive iU (K:E5) (H:Hp):V->Value->Prop where
 |non:iU K H .non (.type "NoneType")
 |bl (x:Bool):iU K H (.bl x) (.type "bool")
 |int (i:Int):iU K H (.int i) (.type "int")
 |str (x:Str):iU K H (.str x) (.type "str")
 |flt (x:UInt64):iU K H (.flt x) (.type "float")
 |lst {a:Addr} {xs:List V} (e:H a=some (.lst xs)):iU K H (.ref a) (.type "list")
 |frz {a:Addr} {o:Obj} {xs:List V} (e:H a=some (.frz o (.lst xs))):iU K H (.ref a) (.type "list")
 |tup {a:Addr} {xs:List V} (e:H a=some (.tup xs)):iU K H (.ref a) (.type "tuple")
 |dK {a:Addr} {kvs:List (Key×V)} (e:H a=some (.dK kvs)):iU K H (.ref a) (.type "dict")
 |dT {a:Addr} {kvs:List (List Key×V)} (e:H a=some (.dT kvs)):iU K H (.ref a) (.type "dict")
 |ins {a C dx:Addr} {fs:List (Str×V)} (e:H a=some (.ins C dx fs)) (cl:wN K C) (ha:FY K (.ref C) "__class__" =some (some (.builtin "object.__class__")))
   (hn:PySem.W.specialIn K (.builtin "object.__class__") "__get__" =some (some (.builtin "getset_descriptor.__get__"))) (htk:PySem.W.takesIn K (.builtin "object.__class__")=some true)
   (hm:PySem.W.mroIn K C (.type "object")=some true):iU K H (.ref a) (.ref C)
theorem tI {x:V} {u t:Value} (I:aQ X pins σ H s) (rx:RelV x u) (ty:iU X.K H x t) (e:PySem.W.kitOne X.K t c=some b) (h:∀tk,Q (.bool b) {s with toks:=tk}):
  wpAny (model X.prog X.w) A (call (.builtin "isinstance") [u,c]) Q E s:=by
 cases ty with
 |non=>cases (show u=Value.none from rx);exact F9 PySem.W.kitx_none I.kIn True.intro e (fun z=>nomatch z) h
 |bl y=>cases (show u=Value.bool y from rx);exact F9 PySem.W.kitx_bool I.kIn True.intro e (fun z=>nomatch z) h
 |int i=>obtain ⟨t,q⟩:=(show ∃t,u=Value.int i t from rx);cases q;exact F9 PySem.W.kitx_int I.kIn True.intro e (fun z=>nomatch z) h
 |str y=>obtain ⟨t,q⟩:=(show ∃t,u=Value.str y t from rx);cases q;exact F9 PySem.W.kitx_str I.kIn True.intro e (fun z=>nomatch z) h
 |flt y=>obtain ⟨t,q⟩:=(show ∃t,u=Value.float y t from rx);cases q;exact F9 PySem.W.kitx_float I.kIn True.intro e (fun z=>nomatch z) h
 | @lst a xs ea=>
  cases (show u=Value.ref a from rx)
  obtain ⟨_,_,n,_,h1⟩:=(show cq X.prog X.w H s.heap a (.lst xs) from I.hok a _ ea)
  exact F9 PySem.W.kitx_list I.kIn ⟨_,h1,rfl⟩ e (fun z=>nomatch z) h
 | @frz a ob xs ea=>
  cases (show u=Value.ref a from rx)
  obtain ⟨_,_,_,n,_,h1⟩:=(show cq X.prog X.w H s.heap a (.frz ob (.lst xs)) from I.hok a _ ea)
  exact F9 PySem.W.kitx_list I.kIn ⟨_,h1,rfl⟩ e (fun z=>nomatch z) h
 | @tup a xs ea=>
  cases (show u=Value.ref a from rx)
  obtain ⟨_,_,_,p⟩:=(show cq X.prog X.w H s.heap a (.tup xs) from I.hok a _ ea)
  obtain ⟨o,h1,h2,_⟩:=p;exact F9 PySem.W.kitx_tuple I.kIn ⟨o,h1,h2⟩ e (fun z=>nomatch z) h
 | @dK a kvs ea=>
  cases (show u=Value.ref a from rx)
  obtain ⟨_,_,vs,_,p⟩:=(show cq X.prog X.w H s.heap a (.dK kvs) from I.hok a _ ea)
  obtain ⟨o,es,ep,h1,h2,_⟩:=p;exact F9 PySem.W.kitx_dict I.kIn ⟨o,h1,h2.1⟩ e (fun z=>nomatch z) h
 | @dT a kvs ea=>
  cases (show u=Value.ref a from rx)
  obtain ⟨_,_,xs,_,o,es,ep,h1,h2,_⟩:=(show cq X.prog X.w H s.heap a (.dT kvs) from I.hok a _ ea)
  exact F9 PySem.W.kitx_dict I.kIn ⟨o,h1,h2.1⟩ e (fun z=>nomatch z) h
 | @ins a C dx fs ea cl ha hn htk hm=>
  cases (show u=Value.ref a from rx)
  obtain ⟨mA,O,_⟩:=mS I.hok ea;obtain ⟨od,J,_⟩:=O.look;exact F9 (PySem.W.kitx_own (cl.get _) cl.hd ha hn htk hm) I.kIn J e (fun z=>nomatch z) h
end
structure eD (k:Nat) (A:Around):Prop where
 hd:A.handled=none
 dp:A.depth+3*k+5<recursionLimit
 un:A.units+16*k+200<cLine
theorem eD.mono {j k:Nat} {A:Around} (r:eD k A) (h:j<=k):eD j A:=⟨r.hd,by have:=r.dp;lia,by have:=r.un;lia⟩
theorem eD.deeper {k:Nat} {A:Around} (r:eD (k+1) A) (env:Env):eD k (A.deeper env):=
 ⟨r.hd,by have:=r.dp;show A.depth+1+3*k+5<_;lia,by have:=r.un;show A.units+3+16*k+200<_;lia⟩
theorem qm {A:Around} {C:Addr} {us:GS} {kw:List (Str×Value)}:(A.under (.builtin "type.__call__" ⟨.ref C::us,kw⟩)).depth=A.depth+1:=by
 first|rfl|simp[Around.under,Code.weight,Code.isCreation,Code.isGuard,Code.isCaller,Code.frames,Code.isFrame,guardIds]
theorem qo {A:Around} {C:Addr} {us:GS} {kw:List (Str×Value)}:(A.under (.builtin "type.__call__" ⟨.ref C::us,kw⟩)).units=A.units+1:=by
 first|rfl|simp[Around.under,Code.cUnits,Code.frames,Code.isFrame]
theorem eD.make {k:Nat} {A:Around} (r:eD (k+1) A) (C:Addr) (us:GS) (kw:List (Str×Value)):eD k (A.under (.builtin "type.__call__" ⟨.ref C::us,kw⟩)):=
 ⟨r.hd,by have:=r.dp;rw[qm];lia,by have:=r.un;rw[qo];lia⟩
theorem eD.depth {k:Nat} {A:Around} (r:eD k A):A.depth<recursionLimit:=by have:=r.dp;lia
theorem eD.units {k:Nat} {A:Around} (r:eD k A):A.units+64<cLine:=by have:=r.un;lia
theorem eD.units0 {k:Nat} {A:Around} (r:eD k A):A.units<cLine:=by have:=r.un;lia
def CZ:TA:=fun _ H Q=>Q [] H
def AF (ta:TE) (tr:TA):TA:=fun σ H Q=>ta σ H fun x H1=>tr σ H1 fun xs H2=>Q (x::xs) H2
section
variable {e:Expr} {es:List Expr} {te:TE} {t:TA}
theorem ag:PA X [] CZ:=fun _ _ _ _ H Q I h=>Calls.spliced_nil ⟨[],H,I,.nil,h⟩
theorem aa (ha:PE X e te) (hr:PA X es t) (hs:starEach (e::es) X.env=(false,eval e X.env)::starEach es X.env:=by rfl):PA X (e::es) (AF te t):=by
 intro pos pins s σ H Q I h;rw[hs];show wpAny _ _ (spliced ((false,eval e X.env)::backTo pos (starEach es X.env))) _ _ s;refine Calls.spliced_cons (bG (ha pins s σ H _ I h) fun u s1 ⟨x,H1,I1,r1,q1⟩=>?_)
 exact bG (hr pos pins s1 σ H1 _ I1 q1) fun us s2 ⟨xs,H2,I2,r2,q2⟩=>⟨x::xs,H2,I2,.cons r1 r2,q2⟩
def C3 (t:TA):TE:=fun σ H Q=>t σ H fun xs H1=>xs.length<=sizeLine/\∀p,H1 p=none->Q (.ref p) (aH H1 p (.tup xs))
def C4 (t:TA):TE:=fun σ H Q=>t σ H fun xs H1=>xs.length<=sizeLine/\∀p,H1 p=none->Q (.ref p) (aH H1 p (.lst xs))
theorem aZ {x1} (h:PA X es t):PE X (.Tuple es x1 pos) (C3 t):=by
 intro pins s σ H Q I hq;refine wpAny_Tuple_spliced (bG (h pos pins s σ H _ I hq) fun us s1 ⟨xs,H1,I1,r,z,q⟩=>⟨by rw[<-r.length];exact z,?_⟩)
 have hf:H1 s1.heap.objs.size=none:=I1.hok.fresh (E8 _);refine ⟨.ref s1.heap.objs.size,aH H1 s1.heap.objs.size (.tup xs),I1.laid (t':=s1.toks) (fun b u e=>Heap.get?_push_of_some _ e) (E8 _) ?_,rfl,q _ hf⟩
 exact ⟨z,us,r,⟨_,Heap.get?_push_size _ rfl,rfl,_,rfl⟩⟩
theorem aM (h:PA X es t):PE X (.List es pos) (C4 t):=by
 intro pins s σ H Q I hq;refine wpAny_List_spliced (bG (h pos pins s σ H _ I hq) fun us s1 ⟨xs,H1,I1,r,z,q⟩=>⟨by rw[<-r.length];exact z,?_⟩)
 have hf:H1 s1.heap.objs.size=none:=I1.hok.fresh (E8 _);refine ⟨.ref s1.heap.objs.size,aH H1 s1.heap.objs.size (.lst xs),I1.laid (t':=s1.toks) (fun b u e=>Heap.get?_push_of_some _ e) (E8 _) ?_,rfl,q _ hf⟩
 exact ⟨z,us,0,r,Heap.get?_push_size _ rfl⟩
end
abbrev Sp:=List V->Hp->VK->XK->Prop
abbrev rQ:=List Env->Hp->Shared->XK->Value->Shared->Prop
structure qq (P:Program) (w:World) (K:E5) (mg:GO) (base:Heap) (A:Around) (outer:List Env) (s:Shared) (H:Hp):Prop where
 frames:A.frames=some outer
 mod:Mod K mg base
 bs:∀b o,base.get? b=some o->s.heap.get? b=some o/\H b=none
 bsz:base.objs.size<=s.heap.objs.size
 funs:s.heap.FunFrames base outer
 frf:∀b∈tj outer,H b=none
 hok:ix P w H s.heap
 bare:AllBare s.gens
def CE (outer:List Env) (P:Program) (w:World) (H:Hp) (s:Shared) (Q:VK) (u:Value) (s':Shared):Prop:=
 ∃v H',s'.os=s.os/\AllBare s'.gens/\Un (tj outer) [] H H' s.heap s'.heap/\ix P w H' s'.heap/\RelV v u/\Q v H'
def CR (CX:rQ) (outer:List Env) (P:Program) (w:World) (H:Hp) (s:Shared) (Q:VK) (E:XK) (r:Result) (s':Shared):Prop:=
 match r with
 | .ok (.ret u)=>CE outer P w H s Q u s'
 | .ok _=>False
 | .error e=>CX outer H s E e s'
structure bv (P:Program) (w:World) (K:E5) (mg:GO) (base:Heap) (CX:rQ) (k:Nat) (f:Addr) (fd:FuncData) (ps:GQ) (sp:Sp):Prop where
 len:∀vs H Q E,sp vs H Q E->vs.length=ps.length
 run:∀(A:Around) (outer:List Env) (s:Shared) (H:Hp) (args:Args) (us:GS) (vs:List V) (Q:VK) (E:XK),eD k A->qq P w K mg base A outer s H->BindsTo s fd args (ps.zip us)->bC vs us->sp vs H Q E->
  codeAny (model P w) A (.call (.ref f) args) (CR CX outer P w H s Q E) s
theorem qq.make {P:Program} {w:World} {K:E5} {mg:GO} {base:Heap} {A:Around} {outer:List Env} {s:Shared} {H:Hp} (e:qq P w K mg base A outer s H) (C:Addr) (us:GS) (kw:List (Str×Value)):
  qq P w K mg base (A.under (.builtin "type.__call__" ⟨.ref C::us,kw⟩)) outer s H:=⟨by first|exact e.frames|(simpa [Around.under,Code.envs,Code.isFrame,pushEnvs] using e.frames),e.mod,e.bs,e.bsz,e.funs,e.frf,e.hok,e.bare⟩
variable {s':Shared}
theorem aQ.env0 (I:aQ X pins σ H s):qq X.prog X.w X.K X.mg X.base X.A X.stack s H:=
 ⟨I.ok.frames,I.ok.mod,I.bs,FB I.ok.bsz I.sz,I.stack,I.stkFree,I.hok,I.bare⟩
theorem aQ.after {Q:VK} {u:Value} (I:aQ X pins σ H s) (h:CE X.stack X.prog X.w H s Q u s'):EP X pins σ Q u s':=by
 obtain ⟨v,H',os,bare,un,hok,r,q⟩:=h;obtain ⟨hh,g,d,t,os'⟩:=s';obtain rfl:os'=s.os:=os;exact ⟨v,H',I.call (h':=hh) (g':=g) (d':=d) (t':=t) (ch:= []) un hok bare (fun b z=>absurd z (by simp)),r,q⟩
def uV (sp:Sp) (dvs:List V) (E:XK) (t:TA):TE:=fun σ H Q=>t σ H fun vs H1=>sp (vs++dvs) H1 Q E
def x4 (C:Addr) (sp:Sp) (dvs:List V) (E:XK) (t:TA):TE:=fun σ H Q=>t σ H fun vs H1=>∀x dx,H1 x=none->H1 dx=none->dx≠x->
 sp (.ref x::(vs++dvs)) (aH (aH H1 dx (.own x)) x (.ins C dx [])) (fun v H2=>v= .non/\Q (.ref x) H2) E
def Binds (K:E5) (fd:FuncData) (ps:GQ) (ds:GS):Prop:=
 ∀(s:Shared) (us:GS),K.In s.heap->(us++ds).length=ps.length->BindsTo s fd ⟨us,[]⟩ (ps.zip (us++ds))
theorem Binds.all {K:E5} {fd:FuncData} {ps:GQ} (h:∀us:GS,us.length=ps.length->bindArgs fd ⟨us,[]⟩=pure (ps.zip us)):Binds K fd ps []:=fun s us _ hl=>by
 rw[FG] at hl⊢;exact .of_eq (h us hl)
def j9 (CX:rQ) (X:Cx) (E:XK):Prop:=∀(pins:GP) (σ:St) (H:Hp) (s:Shared) (e:Value) (s':Shared),aQ X pins σ H s->CX X.stack H s E e s'->X.xe e s'
section
variable {CX:rQ} {k:Nat} {f C:Addr} {fd:FuncData} {ps:GQ} {sp:Sp} {dvs:List V} {ds:GS} {E:XK} {x m:Str} {p apos:Pos} {e o:Expr} {es:List Expr} {ta:TE} {t:TA}
theorem yu {pins:GP} {σ:St} {H:Hp} {s:Shared} {Q:VK} {us:GS} {vs:List V} (F:bv X.prog X.w X.K X.mg X.base CX k f fd ps sp) (hr:eD k X.A) (hb:Binds X.K fd ps ds) (hd:bC dvs ds) (hx:j9 CX X E)
  (I:aQ X pins σ H s) (r:bC vs us) (h:sp (vs++dvs) H Q E):wpAny (model X.prog X.w) X.A (call (.ref f) us) (EP X pins σ Q) X.xe s:=by
 have r2:bC (vs++dvs) (us++ds):=r.append hd;have hl:(us++ds).length=ps.length:=by rw[<-r2.length];exact F.len _ _ _ _ h
 refine wpAny_call (codeAny_mono (F.run X.A X.stack s H ⟨us,[]⟩ (us++ds) (vs++dvs) Q E hr I.env0 (hb s us I.kIn hl) r2 h) fun r s' hq=>?_)
 cases r with
 |error e=>exact hx pins σ H s e s' I hq
 |ok fl=>
  cases fl with
  |ret u=>exact I.after hq
  |next=>exact False.elim hq
  |brk=>exact False.elim hq
  |cont=>exact False.elim hq
theorem wP (F:bv X.prog X.w X.K X.mg X.base CX k f fd ps sp) (hr:eD k X.A) (hg:Gl X x) (hm:X.mg x=some (.ref f)) (hk:Fi X.K (.ref f)=true) (hb:Binds X.K fd ps ds) (hd:bC dvs ds) (hx:j9 CX X E)
  (ha:PA X (e::es) t) (hdb:(x==("__debug__" :Str))=false:=by decide) (he:starEach (e::es) X.env=(false,eval e X.env)::starEach es X.env:=by rfl) (hpl:(backTo pos (starEach es X.env)).any (·.1)=false:=by rfl):
  PE X (.Call (.Name x p) (e::es) [] pos) (uV sp dvs E t):=by
 intro pins s σ H Q I h;refine wpAny_Call_Name_kw (mR I hg hm ?_ hdb);refine PySem.W.callWith_K (h₀:=X.base) I.ok.mod.kin hk (bG (ha pos pins s σ H _ I h) fun us s1 ⟨vs,H1,I1,r,q⟩=>⟨I1.kIn,?_⟩) he hpl
 exact yu F hr hb hd hx I1 r q
structure Mk (K:E5) (C f:Addr):Prop where
 makes:PySem.W.makesIn K C=true
 init:FY K (.ref C) "__init__" =some (some (.ref f))
 fn:PySem.W.isFn K (.ref f)=true
 kp:Fi K (.ref C)=true
theorem uW {pins:GP} {σ:St} {H:Hp} {s:Shared} {Q:VK} {us:GS} {vs:List V} (M:Mk X.K C f) (F:bv X.prog X.w X.K X.mg X.base CX k f fd ps sp) (hr:eD (k+1) X.A) (hb:Binds X.K fd ps ds) (hd:bC dvs ds)
  (hx:j9 CX X E) (I:aQ X pins σ H s) (r:bC vs us)
  (h:∀x dx,H x=none->H dx=none->dx≠x->sp (.ref x::(vs++dvs)) (aH (aH H dx (.own x)) x (.ins C dx [])) (fun v H2=>v= .non/\Q (.ref x) H2) E):
  wpAny (model X.prog X.w) X.A (call (.ref C) us) (EP X pins σ Q) X.xe s:=by
 have hq:=h (s.heap.objs.size+1) s.heap.objs.size (I.hok.fresh (Ft _)) (I.hok.fresh (E8 _)) (EF (Nat.lt_succ_self _));have I2:=aQ.made (C:=C) I;have r2:bC (V.ref (s.heap.objs.size+1)::(vs++dvs)) (Value.ref (s.heap.objs.size+1)::(us++ds)):= .cons rfl (r.append hd);have hl:(Value.ref (s.heap.objs.size+1)::us++ds).length=ps.length:=by
  have e:=r2.length;rw[F.len _ _ _ _ hq] at e;exact e.symm
 refine wpAny_call (uU (f:=f) I.kIn M.makes M.init (beq_iff_eq.mp M.fn) (codeAny_mono (F.run _ X.stack _ _ ⟨Value.ref (s.heap.objs.size+1)::us,[]⟩ (Value.ref (s.heap.objs.size+1)::(us++ds)) _ _ E (hr.make C us [])
  (I2.env0.make C us []) (hb _ (Value.ref (s.heap.objs.size+1)::us) I2.kIn hl) r2 hq) fun r s' hq'=>?_))
 cases r with
 |error e=>exact hx pins σ _ _ e s' I2 hq'
 |ok fl=>
  cases fl with
  |ret u=>
   obtain ⟨v,H',I3,rv,ev,q3⟩:=I2.after hq';subst ev;exact ⟨rv,⟨V.ref (s.heap.objs.size+1),H',I3,rfl,q3⟩⟩
  |next=>exact False.elim hq'
  |brk=>exact False.elim hq'
  |cont=>exact False.elim hq'
theorem wQ (M:Mk X.K C f) (F:bv X.prog X.w X.K X.mg X.base CX k f fd ps sp) (hr:eD (k+1) X.A) (hg:Gl X x) (hm:X.mg x=some (.ref C)) (hb:Binds X.K fd ps ds) (hd:bC dvs ds) (hx:j9 CX X E)
  (ha:PA X (e::es) t) (hdb:(x==("__debug__" :Str))=false:=by decide) (he:starEach (e::es) X.env=(false,eval e X.env)::starEach es X.env:=by rfl) (hpl:(backTo pos (starEach es X.env)).any (·.1)=false:=by rfl):
  PE X (.Call (.Name x p) (e::es) [] pos) (x4 C sp dvs E t):=by
 intro pins s σ H Q I h;refine wpAny_Call_Name_kw (mR I hg hm ?_ hdb);refine PySem.W.callWith_K (h₀:=X.base) I.ok.mod.kin M.kp (bG (ha pos pins s σ H _ I h) fun us s1 ⟨vs,H1,I1,r,q⟩=>⟨I1.kIn,?_⟩) he hpl
 exact uW M F hr hb hd hx I1 r q
end
structure aF (N P:GQ) (sc:Scope):Prop where
 kind:sc.kind= .function
 co:sc.isCoroutine=false
 gen:sc.isGenerator=false
 nd:N.Nodup
 pre:N.take P.length=P
 par:∀x∈P,sc.names.lookup x=some .local∨sc.names.lookup x=some .cell
 nofree:∀y∈sc.names,y.2≠ .free
theorem li {kindOf:Str->Option NameKind} {x:Str}:∀{binds:List (Str×Value)} {m:GO},(∀v,(x,v)∉binds)->bindL kindOf binds m x=m x
 | [],_,_=>rfl
 |(n,v)::r,m,h=>by
  unfold bindL;rw[li fun w hw=>h w (EZ _ hw)]
  split
  ·have:x≠n:=by rintro rfl;exact h v Ej
   simp[this]
  ·rfl
theorem lm {kindOf:Str->Option NameKind} {x:Str}:∀{binds:List (Str×Value)} {m:GO},(∀v,(x,v)∉binds)->bindC kindOf binds m x=m x
 | [],_,_=>rfl
 |(n,v)::r,m,h=>by
  unfold bindC;rw[lm fun w hw=>h w (EZ _ hw)]
  split
  ·rfl
  ·have:x≠n:=by rintro rfl;exact h v Ej
   simp[this]
theorem lB {kindOf:Str->Option NameKind} {x:Str} {v:Value}:∀{P:GQ} {vs:GS} {i:Nat} {m:GO},P.Nodup->P[i]?=some x->vs[i]?=some v->kindOf x=some .local->
  bindL kindOf (P.zip vs) m x=some v
 | [],_,_,_,_,h,_,_=>by simp at h
 |_::_,[],_,_,_,_,h,_=>by simp at h
 |p::P,w::vs,0,m,nd,h1,h2,hk=>by
  simp at h1 h2;subst h1;subst h2;show bindL kindOf ((p,w)::P.zip vs) m p=_;unfold bindL;rw[li fun v hv=>(Fb.mp nd).1 (List.of_mem_zip hv).1,if_pos hk]
  simp
 |p::P,w::vs,i+1,m,nd,h1,h2,hk=>by
  show bindL kindOf ((p,w)::P.zip vs) m x=_;unfold bindL;exact lB (i:=i) (Fb.mp nd).2 (by simpa using h1) (by simpa using h2) hk
theorem lD {kindOf:Str->Option NameKind} {x:Str} {v:Value}:∀{P:GQ} {vs:GS} {i:Nat} {m:GO},P.Nodup->P[i]?=some x->vs[i]?=some v->kindOf x≠some .local->
  bindC kindOf (P.zip vs) m x=some v
 | [],_,_,_,_,h,_,_=>by simp at h
 |_::_,[],_,_,_,_,h,_=>by simp at h
 |p::P,w::vs,0,m,nd,h1,h2,hk=>by
  simp at h1 h2;subst h1;subst h2;show bindC kindOf ((p,w)::P.zip vs) m p=_;unfold bindC;rw[lm fun v hv=>(Fb.mp nd).1 (List.of_mem_zip hv).1,if_neg hk]
  simp
 |p::P,w::vs,i+1,m,nd,h1,h2,hk=>by
  show bindC kindOf ((p,w)::P.zip vs) m x=_;unfold bindC;exact lD (i:=i) (Fb.mp nd).2 (by simpa using h1) (by simpa using h2) hk
noncomputable def start (N:GQ) (vs:List V):St:=vs.map some++Fq (N.length-vs.length) none
noncomputable def tJ (CX:rQ) (P:Program) (w:World) (K:E5) (mg:GO) (base:Heap) (N:GQ) (qual:Str) (scope:Scope) (f:Addr) (cd:Value) (A:Around) (outer:List Env) (s:Shared) (H:Hp) (E:XK):Cx where
 prog:=P
 w:=w
 K:=K
 mg:=mg
 base:=base
 A:=A.deeper (envOfC qual scope s.heap.objs.size f cd)
 N:=N
 s₀:=s
 H₀:=H
 env:=envOfC qual scope s.heap.objs.size f cd
 outer:=outer
 stack:=envOfC qual scope s.heap.objs.size f cd::outer
 ex:= []
 calm:=true
 fn:=fun _=>true
 pn:= []
 xe:=fun e s'=>wpAny (model P w) (A.deeper (envOfC qual scope s.heap.objs.size f cd)) (leaving (envOfC qual scope s.heap.objs.size f cd) e) (fun _ s''=>CX outer H s E e s'') (fun e' s''=>CX outer H s E e' s'') s'
theorem oa {sc:Scope} {n:Nat} {x:Str} (h:sc.names.lookup x=some .cell):∃c,(cellsFrom n sc.names []).lookup x=some c:=by
 have q:=PySem.W.cellsFrom_some sc.names n [] (.inl h);exact Es.mp q
theorem tK {CX:rQ} {P:Program} {w:World} {K:E5} {mg:GO} {base:Heap} {N ps:GQ} {qual:Str} {scope:Scope} {f:Addr} {cd:Value} {A:Around} {outer:List Env} {s s1:Shared} {H:Hp} {E:XK} {us:GS} {vs:List V}
  (S:aF N ps scope) (hd:A.handled=none) (e0:qq P w K mg base A outer s H) (hl:vs.length=ps.length) (r:bC vs us)
  (x:InCallC s s.heap.objs.size (bindL (envOfC qual scope s.heap.objs.size f cd).kindOf (ps.zip us) fun _=>none) (cellsFrom (s.heap.objs.size+1) scope.names []) (bindC (envOfC qual scope s.heap.objs.size f cd).kindOf (ps.zip us) fun _=>none) s1):
  aQ (tJ CX P w K mg base N qual scope f cd A outer s H E) [] (start N vs) H s1:=by
 have hpl:ps.length<=N.length:=by have:=congrArg List.length S.pre;rw[EC] at this;lia
 obtain ⟨h1,tk,rfl,hk⟩:=x.done;have noA:∀b:Addr,b∉(tJ CX P w K mg base N qual scope f cd A outer s H E).ex:=fun b z=>absurd (show b∈([]:GR) from z) (by simp)
 refine ⟨⟨e0.mod,S.kind,rfl,rfl,E8 _,fun y z c h1 h2=>?_,fun y hy=>?_,fun y c _ h=>?_,fun _=>hd,Around.frames_deeper e0.frames,.inr ⟨rfl,rfl⟩,fun b z=>absurd z (noA b),e0.bs,e0.bsz,fun b _ _=>noA b,fun b z=>absurd z (noA b),e0.funs,e0.frf⟩,
  rfl,e0.bare,Un.kept hk,⟨_,x.toInCall.ns,fun i y v h1 h2 h3=>?_⟩,fun y c h=>⟨_,x.cell y c h⟩,e0.hok.fresh (E8 _),fun y c h=>?_,fun p hp=>absurd (show p∈([]:GP) from hp) (by simp),e0.hok.kept hk,?_⟩
 ·exact name_of_addr x.apart (Eo h1) (Eo h2)
 ·have hy:scope.names.lookup y=some .cell∨scope.names.lookup y=some .free:=hy;rcases hy with hy|hy
  ·exact oa hy
  ·exact absurd rfl (S.nofree _ (Eo hy))
 ·exact Nat.le_of_lt (x.above y c (Eo h))
 ·have hi:i<vs.length:=by
   unfold start at h2
   by_cases hi:i<vs.length
   ·exact hi
   ·rw[Ex (by simpa using hi)] at h2
    rw[List.getElem?_replicate] at h2
    split at h2<;>cases h2
  have ha:vs[i]?=some v:=by
   unfold start at h2;rw[F3 (by simpa using hi),EB] at h2
   cases e:vs[i]? with
   |none=>rw[e] at h2;cases h2
   |some a=>rw[e] at h2;cases h2;rfl
  obtain ⟨u,hu,rv⟩:=r.get ha;have hp:ps[i]?=some y:=by
   rw[<-S.pre,List.getElem?_take_of_lt (by lia)];exact h1
  have ndP:ps.Nodup:=by rw[<-S.pre];exact S.nd.sublist (List.take_sublist _ _)
  refine ⟨u,rv,?_⟩;rcases S.par y (E4 hp) with k|k
  ·exact .inl ⟨k,lB ndP hp hu k⟩
  ·obtain ⟨c,e⟩:=oa (n:=s.heap.objs.size+1) k;refine .inr ⟨.inl k,c,e,?_⟩;have q:=x.cell y c e;rw[lD ndP hp hu (by show scope.names.lookup y≠_;rw[k];decide)] at q
   exact q
 ·exact e0.hok.fresh (Nat.le_of_lt (x.above y c (Eo h)))
 ·unfold start;show _=N.length;rw[E3,E1,Fo]
  lia
theorem AG {CX:rQ} {P:Program} {w:World} {K:E5} {mg:GO} {base:Heap} {k:Nat} {f:Addr} {name qual:Str} {params:Arguments} {body:List Stmt} {scope:Scope} {dV kV doc pm cdv ct oc:Value} {an od:GT}
  {osl:Array GU} {N ps:GQ} {sp:Sp} (lk:K.lookup f=some ⟨oc,od,.func (FS name qual params body scope dV kV doc pm an cdv ct),osl⟩) (hcd:PySem.W.codeIn K cdv qual=true) (S:aF N ps scope)
  (len:∀vs H Q E,sp vs H Q E->vs.length=ps.length)
  (hbody:∀(A:Around) (outer:List Env) (s:Shared) (H:Hp) (vs:List V) (Q:VK) (E:XK),eD k (A.deeper (envOfC qual scope s.heap.objs.size f cdv))->sp vs H Q E->
   ∃t,uI (tJ CX P w K mg base N qual scope f cdv A outer s H E) body t/\t {nx:=fun _ H'=>Q .non H',rt:=Q} (start N vs) H):
  bv P w K mg base CX (k+1) f (FS name qual params body scope dV kV doc pm an cdv ct) ps sp:=by
 refine ⟨len,fun A outer s H args us vs Q E hr e0 hb r hsp=>?_⟩
 have hl:=len _ _ _ _ hsp;have KX:K.In s.heap:=e0.mod.kin.keeps fun b o e=>(e0.bs b o e).1
 have lim:s.heap.NoLimit:=e0.mod.nolimit.keeps fun b o e=>(e0.bs b o e).1
 have hkind:∀y∈ps.zip us,scope.names.lookup y.1=some .local∨(scope.names.lookup y.1=some .cell/\((cellsFrom (s.heap.objs.size+1) scope.names []).lookup y.1).isSome=true):=fun ⟨n,v⟩ hy=>by
  rcases S.par n (List.of_mem_zip hy).1 with q|q
  ·exact .inl q
  ·exact .inr ⟨q,PySem.W.cellsFrom_some _ _ _ (.inl q)⟩
 refine codeAny_call_function hr.depth (KX _ _ lk) rfl S.co S.gen rfl (PySem.W.codeRec_of KX hcd) (hb _ _ _ _ ?_);refine wpAny_newFunctionEnv_cells S.kind hkind fun env he s1 x=>?_
 subst he;refine ⟨lim.keeps x.toInCall.keep,codeAny_func ?_⟩;obtain ⟨t,ht,hq⟩:=hbody A outer s H vs Q E (hr.deeper _) hsp;have I:aQ (tJ CX P w K mg base N qual scope f cdv A outer s H E) [] (start N vs) H s1:=tK S hr.hd e0 hl r x;refine wpAny_mono (ht [] s1 (start N vs) H _ I hq) (fun fl s' hs=>?_) fun e s' hs=>hs
 have fin:∀{σ':St} {H':Hp} {v:V} {u:Value},aQ (tJ CX P w K mg base N qual scope f cdv A outer s H E) [] σ' H' s'->RelV v u->Q v H'->CE outer P w H s Q u s':=
  fun {σ' H' v u} J rv q=>⟨v,H',J.os,J.bare,J.base,J.hok,rv,q⟩
 cases fl with
 |ret u=>
  obtain ⟨v,σ',H',J,rv,q⟩:=hs;exact fin J rv q
 |next=>
  obtain ⟨σ',H',J,q⟩:=hs;exact fin (v:=V.non) (u:=Value.none) J rfl q
 |brk=>
  obtain ⟨_,_,_,q⟩:=hs;exact False.elim q
 |cont=>
  obtain ⟨_,_,_,q⟩:=hs;exact False.elim q
section
variable {x:Str} {p:Pos} {e:Expr} {es:List Expr} {t:TA} {id T:String} {r:List V->Hp->VK->Prop}
def DH (r:List V->Hp->VK->Prop) (t:TA):TE:=fun σ H Q=>t σ H fun vs H1=>r vs H1 Q
theorem aB (hc:du X (.builtin id) r) (hg:Gl X x) (hm:X.mg x=none) (hv:bootBuiltins x=some (.builtin id)) (ha:PA X (e::es) t) (hn:x≠ "__name__" :=by decide) (hdb:(x==("__debug__" :Str))=false:=by decide)
  (he:starEach (e::es) X.env=(false,eval e X.env)::starEach es X.env:=by rfl) (hpl:(backTo pos (starEach es X.env)).any (·.1)=false:=by rfl):PE X (.Call (.Name x p) (e::es) [] pos) (DH r t):=by
 intro pins s σ H Q I h;refine wpAny_Call_Name_kw (dI I hg hm hv ?_ hn hdb);exact PyProof.Rows.callWith_builtin1 (bG (ha pos pins s σ H _ I h) fun us s1 ⟨vs,H1,I1,r1,q1⟩=>hc pins s1 σ H1 vs us Q I1 r1 q1) he hpl
theorem b8 (hc:du X (.type T) r) (hg:Gl X x) (hm:X.mg x=none) (hv:bootBuiltins x=some (.type T)) (ha:PA X (e::es) t) (hn:x≠ "__name__" :=by decide) (hdb:(x==("__debug__" :Str))=false:=by decide)
  (he:starEach (e::es) X.env=(false,eval e X.env)::starEach es X.env:=by rfl) (hpl:(backTo pos (starEach es X.env)).any (·.1)=false:=by rfl):PE X (.Call (.Name x p) (e::es) [] pos) (DH r t):=by
 intro pins s σ H Q I h;refine wpAny_Call_Name_kw (dI I hg hm hv ?_ hn hdb);exact Er (bG (ha pos pins s σ H _ I h) fun us s1 ⟨vs,H1,I1,r1,q1⟩=>hc pins s1 σ H1 vs us Q I1 r1 q1) he hpl
end
end L2
open Lean in
local macro_rules|`(⟨$xs,*⟩)=>do
 let mut y:Array (TSyntax `term):=#[]
 let mut c:=false
 for x in xs.getElems do
  if x.raw.getId== `ν then
   c:=true
   y:=(y.push (←`(_))).push (←`(rfl))
  else if x.raw.getId== `ω then
   c:=true
   y:=(((y.push (←`(_))).push (←`(_))).push (←`(rfl))).push (←`(rfl))
  else y:=y.push x
 if c then `(⟨$y,*⟩) else Macro.throwUnsupported
local macro_rules|`($a<*>$b)=>`(@L2.aa _ _ _ _ _ $a $b rfl)
set_option hygiene false in
local macro_rules|`(tactic|and_intros)=>`(tactic|refine F.ok sc (fun vs H Q E h=>?_) (fun cdv A outer s H vs Q E hr h=>?_))
local macro_rules|`(tactic|exists $a,*)=>`(tactic|refine ⟨$a,*, ?_⟩)
local macro_rules|`(($x,$y,*))=>`(⟨$x,$y,*⟩)
set_option hygiene false in
local macro_rules|`($n:num)=>match n.getNat with
|116=>`((X.block scope cl s3.heap.objs.size (own::ys) own fp s3 131))
|117=>`((λ_ _=>rfl))
|118=>`((by decide))
|119=>`((by decide+kernel))
|120=>`((T.length:Int))
|121=>`({cls:= .type "set",dict:=none,data:= .set #[] 0 (.fresh 0 0 led)})
|123=>`((bB "tasks" (.ref p) (bB "tools" (.ref td') [])))
|124=>`({cls:= .type "list",dict:=none,data:= .seq ([]:GS).toArray})
|125=>`((λ_ _ _ _ _ _=>cz λ_ _=>rfl))
|126=>`((.ref s2.heap.objs.size))
|127=>`((λ_ _ _ _ _ _=>cJ λ_ _ _=>rfl))
|129=>`((by with_unfolding_all rfl))
|130=>`((cok fR .nil 118 rfl rfl rfl rfl rfl rfl rfl rfl))
|131=>`((aH H2 s2.heap.objs.size 142))
|132=>`((au aC (pv 2) af 117))
|133=>`((au (bF (K:=K) rfl) (pv 0) af 117))
|134=>`((au aC (pv 0) af 117))
|135=>`((model X.prog X.w))
|136=>`((λa h=>h.elim))
|137=>`((.lst (vs.take k)))
|138=>`((@aM _ _ _ _ ag))
|139=>`((model prog w))
|140=>`((by decide,EE 118))
|141=>`((aj (aq bR)))
|142=>`((.lst []))
|143=>`((2*120+n))
|145=>`((λ_=>False))
|146=>`(((pv 2)<*>ag))
|147=>`((by simp))
|148=>`((.refl _))
|149=>`((.dK kvs))
|_=>Lean.Macro.throwUnsupported
set_option hygiene false in
local macro_rules|`(tactic|sleep $n:num)=>match n.getNat with
|0=>`(tactic|(have sl:sizeLine=16777216:=sizeLine_eq))
|_=>Lean.Macro.throwUnsupported
namespace HT
open PySem PyProof.Rows
section
variable {prog:Program} {w:World} {A:Around} {E:GN} {s:Shared}
noncomputable def fg (n d:Nat):Option Int->Nat
 |none=>d
 |some v=>if v<0 then (v+(n:Int)).toNat else min v.toNat n
end
end HT
namespace L2
open PySem PySem.Spec PyProof.Rows
abbrev TO:=St->Hp->(Option Int->Hp->Prop)->Prop
def PO (X:Cx) (e:Option Expr) (t:TO):Prop:=
 ∀(pins:GP) (s:Shared) (σ:St) (H:Hp) (Q:Option Int->Hp->Prop),aQ X pins σ H s->t σ H Q->
  wpAny 135 X.A (evalPart e X.env) (λu s'=>∃o H',aQ X pins σ H' s'/\IsPart u o/\Q o H') X.xe s
def wR:TO:=λ_ H Q=>Q none H
def AH (t:TE):TO:=λσ H Q=>t σ H λx H1=>∃i,x= .int i/\Q (some i) H1
section
variable {X:Cx} {e:Expr} {te:TE} {lo hi:Option Expr} {tl th:TO} {pos p2:Pos}
theorem bA:PO X none wR:=by
 intro pins s σ H Q I h;rw[evalPart_none];exact wpAny_pure (none,H,I,.none,h)
theorem bj (h:PE X e te):PO X (some e) (AH te):=by
 intro pins s σ H Q I hw;rw[evalPart_some];refine bG (h pins s σ H _ I hw) λu s1 (x,H1,I1,r1,q1)=>?_
 obtain ⟨i,rfl,q⟩:=q1;obtain ⟨t,rfl⟩:=r1;exact (some i,H1,I1,.int i t,q)
def Cv (X:Cx) (r:V->Option Int->Option Int->Hp->VK->Prop):Prop:=
 ∀(pins:GP) (s:Shared) (σ:St) (H:Hp) (x:V) (v vl vu:Value) (lo hi:Option Int) (sl:Addr) (Q:VK),aQ X pins σ H s->RelV x v->s.heap.IsSliceOf sl vl vu .none->IsPart vl lo->IsPart vu hi->r x lo hi H Q->
  ∃T id,typeLookup (.type T) "__getitem__" =pure (some (.builtin id))/\s.TypeIs v T/\wpAny 135 X.A (getItem v (.ref sl)) (EP X pins σ Q) X.xe s
def DV (r:V->Option Int->Option Int->Hp->VK->Prop) (te:TE) (tl th:TO):TE:=λσ H Q=>te σ H λx H1=>tl σ H1 λl H2=>th σ H2 λu H3=>r x l u H3 Q
theorem aY {r:V->Option Int->Option Int->Hp->VK->Prop} (hr:Cv X r) (he:PE X e te) (hl:PO X lo tl) (hu:PO X hi th):PE X (.Subscript e (.Slice lo hi none p2) pos) (DV r te tl th):=by
 intro pins s σ H Q I h;refine Subscript_ (bG (he pins s σ H _ I h) λv s1 (x,H1,I1,r1,q1)=>?_)
 refine wpAny_Slice (bG (hl pins s1 σ H1 _ I1 q1) λvl s2 (l,H2,I2,pl,q2)=>bG (hu pins s2 σ H2 _ I2 q2) λvu s3 (u,H3,I3,pu,q3)=>?_)
 rw[evalPart_none];refine wpAny_pure ?_;have I4:aQ X pins σ H3 {s3 with heap:=s3.heap.push {cls:= .type "slice",data:= .fields #[vl,vu,.none]}}:=I3.kept (t':=s3.toks) λb ob q=>Heap.get?_push_of_some _ q
 obtain ⟨T,id,hT,ht,hg⟩:=hr pins {s3 with heap:=s3.heap.push {cls:= .type "slice",data:= .fields #[vl,vu,.none]}} σ H3 x v vl vu l u s3.heap.objs.size Q I4 r1 (Heap.IsSliceOf.new ..) pl pu q3
 show wpAny 135 X.A (subscriptTail e (.Slice lo hi none p2) v (.ref s3.heap.objs.size)) (EP X pins σ Q) X.xe {s3 with heap:=s3.heap.push {cls:= .type "slice",data:= .fields #[vl,vu,.none]}}
 exact tail_any (ops:= [.ref s3.heap.objs.size,v]) ht hT hg 129
noncomputable def fM (xs:List V) (lo hi:Option Int):List V:=(xs.drop (HT.fg xs.length 0 lo)).take (HT.fg xs.length xs.length hi-HT.fg xs.length 0 lo)
theorem oe (xs:List V) (lo hi:Option Int):(fM xs lo hi).length<=xs.length:=by
 unfold fM;rw[EC,EL]
 lia
end
noncomputable def uX (n:Nat) (i:Int):Option Nat:=if 0<=i then (if i<n then some i.toNat else none) else if-(n:Int)<=i then some (i+n).toNat else none
noncomputable def iP {α:Type} (xs:List α) (i:Int):Option α:=(uX xs.length i).bind λj=>xs[j]?
theorem rR {n:Nat} {i:Int} {j:Nat} (h:uX n i=some j):seqIndex? i n=some j/\j<n/\ -(n:Int)<=i/\i<n:=by
 unfold uX at h
 by_cases h0:0<=i
 ·rw[if_pos h0] at h
  by_cases h1:i<n
  ·rw[if_pos h1] at h;have e:i.toNat=j:=FC h;exact (by rw[seqIndex_of h0 h1,e],by lia,by lia,h1)
  ·rw[if_neg h1] at h;cases h
 ·rw[if_neg h0] at h
  by_cases h1: -(n:Int)<=i
  ·rw[if_pos h1] at h;have e:(i+n).toNat=j:=FC h;exact (by rw[seqIndex_neg (by lia) h1,e],by lia,h1,by lia)
  ·rw[if_neg h1] at h;cases h
theorem mU {α:Type} {xs:List α} {i:Int} {v:α} (h:iP xs i=some v):∃j,seqIndex? i xs.length=some j/\xs[j]?=some v/\j<xs.length/\ -(xs.length:Int)<=i/\i<xs.length:=by
 unfold iP at h;cases e:uX xs.length i with
 |none=>rw[e] at h;cases h
 |some j=>
  rw[e] at h;obtain ⟨h1,h2,h3,h4⟩:=rR e;exact (j,h1,h,h2,h3,h4)
theorem aT {α:Type} {xs:List α} {j:Nat} {v:α} (h:xs[j]?=some v):iP xs (j:Int)=some v:=by
 have hj:j<xs.length:=(E6.mp h).1;have e:uX xs.length (j:Int)=some j:=by
  unfold uX;rw[if_pos (by lia),if_pos (by lia)];simp
 unfold iP;rw[e];exact h
theorem og {α:Type} (xs:List α) (v:α):iP (xs++ [v]) (-1)=some v:=by
 have hl:(xs++ [v]).length=xs.length+1:=by simp
 have e:uX (xs++ [v]).length (-1)=some xs.length:=by
  unfold uX;rw[hl,if_neg 118,if_pos (by lia)]
  congr 1
  lia
 unfold iP;rw[e];show (xs++ [v])[xs.length]?=some v;simp
def wS (b:Expr):Prop:=∀o i,subscripted b false o i=operate [o,i] (getItem o i)
def Am (X:Cx) (r:R2):Prop:=
 ∀(value slice:Expr) (pins:GP) (s:Shared) (σ:St) (H:Hp) (x y:V) (v u:Value) (Q:VK),aQ X pins σ H s->RelV x v->RelV y u->r x y H Q->
  subscripted slice false v u=operate [v,u] (getItem v u)->wpAny 135 X.A (subscriptTail value slice v u) (EP X pins σ Q) X.xe s
def C5 (X:Cx) (id:String) (r:V->List V->Hp->VK->Prop):Prop:=
 ∀(pins:GP) (s:Shared) (σ:St) (H:Hp) (x:V) (xs:List V) (v:Value) (us:GS) (Q:VK),aQ X pins σ H s->RelV x v->bC xs us->r x xs H Q->
  wpAny 135 X.A (call (.builtin id) (v::us)) (EP X pins σ Q) X.xe s
section
variable {X:Cx} {a b:Expr} {ta tb:TE} {pos:Pos}
theorem au {r:R2} (hr:Am X r) (ha:PE X a ta) (hb:PE X b tb) (hs:wS b):PE X (.Subscript a b pos) (Ct r ta tb):=by
 intro pins s σ H Q I h;exact Subscript_ (yr ha hb I h λv u s2 x y H2 I2 rx ry q=>hr a b pins s2 σ H2 x y v u Q I2 rx ry q (hs _ _))
def AI (K:E5):R2:=λx y H Q=>∃p xs i v,x= .ref p/\y= .int i/\aD K H p xs/\iP xs i=some v/\Q v H
def AJ (K:E5):R2:=λx y H Q=>∃p xs i v,x= .ref p/\y= .int i/\be K H p xs/\iP xs i=some v/\Q v H
def C6:R2:=λx y H Q=>∃z i c,x= .str z/\y= .int i/\z.length<=sizeLine/\iP z.cps.toList i=some c/\Q (.str ⟨#[c]⟩) H
theorem br:Am X (AI X.K):=by
 intro value slice pins s σ H x y v u Q I rx ry h hs;obtain ⟨p,xs,i,z,rfl,rfl,hq,he,q⟩:=h;cases rx;obtain ⟨t,rfl⟩:=ry;obtain ⟨its,r,pl,hz⟩:=I.list hq;obtain ⟨j,h1,h2,h3,h4,h5⟩:=mU he;obtain ⟨w,ew,rw'⟩:=r.get h2;have hl:=r.length;have hn:=jn;have fin:EP X pins σ Q w s:=⟨z,H,I,rw',q⟩
 by_cases h0:0<=i
 ·have hj:i.toNat=j:=by
   rw[seqIndex_of h0 h5] at h1;exact FC h1
  exact item_listR pl.isList h0 (by lia) (by rw[hj];simpa using ew) fin hs
 ·have hj:(i+(its.toArray.size:Int)).toNat=j:=by
   rw[seqIndex_neg (by lia) h4] at h1
   rw[EN,<-hl];exact FC h1
  exact subscriptTail_builtinR (x:=w) pl.isList.typeIs slot_list_getitem.lookup
   (wpAny_getItem_list_neg (Q:=λr s'=>r=w/\EP X pins σ Q r s') pl.isList (by lia) (by rw[EN]<;>lia) (by lia) (by rw[hj];simpa using ew) ⟨rfl,fin⟩) hs
theorem aC:Am X (AJ X.K):=by
 intro value slice pins s σ H x y v u Q I rx ry h hs;obtain ⟨p,xs,i,z,rfl,rfl,hq,he,q⟩:=h;cases rx;obtain ⟨t,rfl⟩:=ry;obtain ⟨its,r,pl,hz⟩:=I.tuple hq;obtain ⟨j,h1,h2,h3,h4,h5⟩:=mU he;obtain ⟨w,ew,rw'⟩:=r.get h2;have hl:=r.length;have hn:=jn;have fin:EP X pins σ Q w s:=⟨z,H,I,rw',q⟩;exact subscriptTail_builtinR (x:=w) pl.typeIs slot_tuple_getitem.lookup
  (getItem_tuple (j:=j) (Q:=λr s'=>r=w/\EP X pins σ Q r s') pl (by lia) (by lia) (by rw[EN,<-hl];exact h1) (by simpa using ew) ⟨rfl,fin⟩) hs
theorem mV:Am X C6:=by
 intro value slice pins s σ H x y v u Q I rx ry h hs;obtain ⟨z,i,c,rfl,rfl,hz,he,q⟩:=h;obtain ⟨t,rfl⟩:=rx;obtain ⟨t',rfl⟩:=ry;obtain ⟨j,h1,h2,h3,h4,h5⟩:=mU he;have hl:z.cps.toList.length=z.length:=by simp[Str.length]
 rw[hl] at h1 h4 h5;have hn:=jn;exact tail_any (typeIs_str s z t) slot_str_getitem.lookup (getItem_str (c:=c) (by
  have e1:decide (i< -(2^63:Int))=false:=decide_eq_false (by lia)
  have e2:decide (i≥2^63)=false:=decide_eq_false (by lia)
  rw[e1,e2,FX]) (by rw[h1];simpa using h2) ⟨.str ⟨#[c]⟩,H,I.tok _,⟨_,rfl⟩,q⟩) hs
theorem qr (its:GS) (n j:Nat) (u:Value):Obj.mapSeq (·.setIfInBounds j u) {cls:= .type "list",data:= .seq its.toArray n}={cls:= .type "list",data:= .seq (its.set j u).toArray n}:=by
 simp[Obj.mapSeq]
theorem aQ.lst {pins:GP} {σ:St} {H:Hp} {s:Shared} {p:Addr} {xs:List V} (I:aQ X pins σ H s) (h:H p=some (.lst xs)):
  ∃(its:GS) (n:Nat),bC xs its/\s.heap.get? p=some {cls:= .type "list",data:= .seq its.toArray n}/\xs.length<=sizeLine:=by
 obtain ⟨z,its,n,r,e⟩:=I.hok p _ h;exact (its,n,r,e,z)
theorem aQ.lstUpd {pins:GP} {σ:St} {H:Hp} {s:Shared} {p:Addr} {xs ys:List V} {its its':GS} {n n':Nat} {f:Obj->Obj} (I:aQ X pins σ H s) (h:H p=some (.lst xs))
  (ho:s.heap.get? p=some {cls:= .type "list",data:= .seq its.toArray n}) (hf:f {cls:= .type "list",data:= .seq its.toArray n}={cls:= .type "list",data:= .seq its'.toArray n'}) (r:bC ys its') (hz:ys.length<=sizeLine) (t:Nat):
  aQ X pins σ (aH H p (.lst ys)) {s with heap:=s.heap.update p f,toks:=t}:=by
 have e:(s.heap.update p f).get? p=some {cls:= .type "list",data:= .seq its'.toArray n'}:=by
  rw[Heap.get?_update_self f ho (by rw[hf]<;>rfl),hf]
 refine I.write (x:=p) (e:=p) (by rw[h];trivial) (.inl rfl) (λb u hb q=>(Heap.get?_update_other _ _ (Ne.symm hb)).trans q) (_,e) ?_
 exact (hz,its',n',r,e)
def AK:V->V->V->Hp->(Hp->Prop)->Prop:=λo i v H Q=>∃p xs k j,o= .ref p/\i= .int k/\H p=some (.lst xs)/\uX xs.length k=some j/\Q (aH H p (.lst (xs.set j v)))
theorem set_list:Ay X AK:=by
 intro pins s σ H o i v ov iv u Q I ro ri rv h;obtain ⟨p,xs,k,j,rfl,rfl,hp,hj,q⟩:=h;cases ro;obtain ⟨t,rfl⟩:=ri;obtain ⟨its,n,r,ho,hz⟩:=I.lst hp;obtain ⟨h1,h2,h3,h4⟩:=rR hj;have hl:=r.length;have hn:=jn;have I':aQ X pins σ (aH H p (.lst (xs.set j v))) {s with heap:=s.heap.update p (Obj.mapSeq (·.setIfInBounds j u))}:=
  I.lstUpd hp ho (qr its n j u) (r.set rv j) (by rw[List.length_set];exact hz) s.toks
 by_cases h0:0<=k
 ·have hk:k.toNat=j:=by
   rw[seqIndex_of h0 h4] at h1;exact FC h1
  exact PySem.W.ki_setAt ho h0 (by lia) (by rw[EN,<-hl];exact h4) (by rw[hk];exact (_,I',q))
 ·have hk:(k+(its.toArray.size:Int)).toNat=j:=by
   rw[seqIndex_neg (by lia) h3] at h1
   rw[EN,<-hl];exact FC h1
  exact PySem.W.ki_setBack ho (by lia) (by rw[EN,<-hl];exact h3) (by lia) (by rw[hk];exact (_,I',q))
theorem mW (lo hi:Option Int) (n:Nat):(sliceBounds lo hi none n).1=((HT.fg n 0 lo:Nat):Int)/\(sliceBounds lo hi none n).2.1=((HT.fg n n hi:Nat):Int)/\(sliceBounds lo hi none n).2.2=1:=by
 refine (?_,?_,rfl)
 ·cases lo with
  |none=>simp[sliceBounds,HT.fg]
  |some i=>
   simp only[sliceBounds,HT.fg,Option.getD_none,show (1:Int)>0 by decide,if_true]
   by_cases h:i<0
   ·simp only[h,if_true]<;>lia
   ·simp only[h,if_false]<;>lia
 ·cases hi with
  |none=>simp[sliceBounds,HT.fg]
  |some i=>
   simp only[sliceBounds,HT.fg,Option.getD_none,show (1:Int)>0 by decide,if_true]
   by_cases h:i<0
   ·simp only[h,if_true]<;>lia
   ·simp only[h,if_false]<;>lia
theorem kR (its:GS) (lo hi:Option Int):slicePick its.toArray lo hi none=((its.drop (HT.fg its.length 0 lo)).take (HT.fg its.length its.length hi-HT.fg its.length 0 lo)).toArray:=by
 obtain ⟨h1,h2,h3⟩:=mW lo hi its.toArray.size;unfold slicePick;rw[h1,h2,h3];simp only[sliceRange_one,pick_run,EN]<;>rfl
def AL (K:E5):V->Option Int->Option Int->Hp->VK->Prop:=λx lo hi H Q=>∃a xs,x= .ref a/\aD K H a xs/\∀p,H p=none->Q (.ref p) (aH H p (.lst (fM xs lo hi)))
theorem bI:Cv X (AL X.K):=by
 intro pins s σ H x v vl vu lo hi sl Q I rx hs pl pu h;obtain ⟨a,xs,rfl,hx,q⟩:=h;cases rx;obtain ⟨its,r,ht,hz⟩:=I.list hx;have hlen:=r.length;exists "list",_,slot_list_getitem.lookup,ht.isList.typeIs;refine wpAny_getItem_list_slice ht.isList hs pl pu .none 147 ?_ (by rw[EN]<;>lia)
 rw[kR,<-hlen];refine (.ref s.heap.objs.size,_,I.laid (t':=s.toks) (o:= .lst (fM xs lo hi)) (λb ob q=>Heap.get?_push_of_some _ q) (E8 _) ?_,rfl,q _ (I.hok.fresh (E8 _)))
 exact (FB (oe xs lo hi) hz,_,0,(r.drop (HT.fg xs.length 0 lo)).take (HT.fg xs.length xs.length hi-HT.fg xs.length 0 lo),Heap.get?_push_size _ rfl)
noncomputable def gM:V->Bool
 | .non=>true
 | .bl _=>true
 | .int _=>true
 | .str _=>true
 |_=>false
noncomputable def wC:V->V->Bool
 | .non,.non=>true
 | .bl a,.bl b=>a==b
 | .bl a,.int b=>(if a then 1 else 0)==b
 | .int a,.bl b=>a==(if b then 1 else 0)
 | .int a,.int b=>a==b
 | .str a,.str b=>a==b
 |_,_=>false
theorem yw {A:Around} {s:Shared} {y x:V} {u v:Value} (ry:RelV y u) (rx:RelV x v) (fy:gM y=true) (fx:gM x=true):SeqAt.EqAt A s u v (wC y x):=by
 cases y with
 |non=>
  cases ry;cases x with
  |non=>cases rx;exact SeqAt.EqAt.same _
  |bl b=>cases rx;exact SeqAt.EqAt.none_bool b
  |int b=>obtain ⟨t,rfl⟩:=rx;exact SeqAt.EqAt.none_int b t
  |str b=>obtain ⟨t,rfl⟩:=rx;exact SeqAt.EqAt.none_str b t
  |_=>exact absurd (show false=true from fx) Ec
 |bl a=>
  cases ry;cases x with
  |non=>cases rx;exact SeqAt.EqAt.bool_none a
  |bl b=>cases rx;exact SeqAt.EqAt.bool_bool a b
  |int b=>obtain ⟨t,rfl⟩:=rx;exact SeqAt.EqAt.bool_int a b t
  |str b=>obtain ⟨t,rfl⟩:=rx;exact SeqAt.EqAt.bool_str a b t
  |_=>exact absurd (show false=true from fx) Ec
 |int a=>
  obtain ⟨t',rfl⟩:=ry;cases x with
  |non=>cases rx;exact SeqAt.EqAt.int_none a t'
  |bl b=>cases rx;exact SeqAt.EqAt.int_bool a t' b
  |int b=>obtain ⟨t,rfl⟩:=rx;exact SeqAt.EqAt.int_int a t' b t
  |str b=>obtain ⟨t,rfl⟩:=rx;exact SeqAt.EqAt.int_str a t' b t
  |_=>exact absurd (show false=true from fx) Ec
 |str a=>
  obtain ⟨t',rfl⟩:=ry;cases x with
  |non=>cases rx;exact SeqAt.EqAt.str_none a t'
  |bl b=>cases rx;exact SeqAt.EqAt.str_bool a t' b
  |int b=>obtain ⟨t,rfl⟩:=rx;exact SeqAt.EqAt.str_int a t' b t
  |str b=>obtain ⟨t,rfl⟩:=rx;exact SeqAt.EqAt.str_str a t' b t
  |_=>exact absurd (show false=true from fx) Ec
 |_=>exact absurd (show false=true from fy) Ec
noncomputable def qu (x:V) (u:Value):Bool:=match u with
 | .none=>wC .non x
 | .bool b=>wC (.bl b) x
 | .int i _=>wC (.int i) x
 | .str z _=>wC (.str z) x
 |_=>false
theorem uY {x y:V} {u:Value} (r:RelV y u) (f:gM y=true):qu x u=wC y x:=by
 cases y with
 |non=>cases r;rfl
 |bl b=>cases r;rfl
 |int i=>obtain ⟨t,rfl⟩:=r;rfl
 |str z=>obtain ⟨t,rfl⟩:=r;rfl
 |_=>exact absurd (show false=true from f) Ec
theorem iV {x:V}:∀{xs:List V} {us:GS},bC xs us->xs.all gM=true->us.any (qu x)=xs.any λy=>wC y x
 |_,_,.nil,_=>rfl
 |y::xs,u::us,.cons r t,f=>by
  rw[Fg,EK] at f;rw[F5,F5,uY r f.1,iV t f.2]
theorem gN {A:Around} {s:Shared} {x:V} {v:Value} (rx:RelV x v) (fx:gM x=true):∀{xs:List V} {us:GS},bC xs us->xs.all gM=true->∀u∈us,SeqAt.EqAt A s u v (qu x u)
 |_,_,.nil,_=>λu hu=>by cases hu
 |y::xs,u::us,.cons r t,f=>λu' hu=>by
  rw[Fg,EK] at f;rcases EI.mp hu with rfl|hu
  ·rw[uY r f.1];exact yw r rx f.1 fx
  ·exact gN rx fx t f.2 u' hu
noncomputable def qd (x:V) (xs:List V):Bool:=xs.any λy=>wC y x
def Cw (K:E5) (neg:Bool):R2:=λx y H Q=>∃p xs,y= .ref p/\(aD K H p xs∨be K H p xs)/\gM x=true/\xs.all gM=true/\Q (.bl (if neg then !qd x xs else qd x xs)) H
theorem b9:gJ X (compareOp .In) (Cw X.K false):=by
 intro pins s σ H x y v u Q I rx ry h;obtain ⟨p,xs,rfl,hq,fx,fs,q⟩:=h;cases ry;rcases hq with hq|hq
 ·obtain ⟨its,r,pl,hz⟩:=I.list hq;refine SeqAt.in_listAt (qu x) pl.isList (λw hw=>gN rx fx r fs w (by simpa using hw)) (.bl _,H,I,rfl,?_)
  rw[show its.toArray.any (qu x)=its.any (qu x) by simp,iV r fs]
  exact q
 ·obtain ⟨its,r,pl,hz⟩:=I.tuple hq;refine SeqAt.in_tupleAt (qu x) pl (λw hw=>gN rx fx r fs w (by simpa using hw)) (.bl _,H,I,rfl,?_)
  rw[show its.toArray.any (qu x)=its.any (qu x) by simp,iV r fs]
  exact q
theorem iW:gJ X (compareOp .NotIn) (Cw X.K true):=by
 intro pins s σ H x y v u Q I rx ry h;obtain ⟨p,xs,rfl,hq,fx,fs,q⟩:=h;cases ry;rcases hq with hq|hq
 ·obtain ⟨its,r,pl,hz⟩:=I.list hq;refine SeqAt.notIn_listAt (qu x) pl.isList (λw hw=>gN rx fx r fs w (by simpa using hw)) (.bl _,H,I,rfl,?_)
  rw[show its.toArray.any (qu x)=its.any (qu x) by simp,iV r fs]
  exact q
 ·obtain ⟨its,r,pl,hz⟩:=I.tuple hq;refine SeqAt.notIn_tupleAt (qu x) pl (λw hw=>gN rx fx r fs w (by simpa using hw)) (.bl _,H,I,rfl,?_)
  rw[show its.toArray.any (qu x)=its.any (qu x) by simp,iV r fs]
  exact q
theorem mX:gJ X (compareOp .NotIn) (λx y H Q=>∃i j,x= .str i/\y= .str j/\Q (.bl (!(!(Builtin.Str.occurrences j i 0 j.length 1).isEmpty))) H):=by
 intro pins s σ H x y v u Q I rx ry h;obtain ⟨i,j,rfl,rfl,q⟩:=h;obtain ⟨t,rfl⟩:=rx;obtain ⟨t',rfl⟩:=ry;exact notIn_str (.bl _,H,I,rfl,q)
theorem ay:du X (.builtin "len") (λxs H Q=>∃p ys,xs= [.ref p]/\(aD X.K H p ys∨be X.K H p ys)/\Q (.int ys.length) H):=by
 intro pins s σ H xs us Q I r h;obtain ⟨p,ys,rfl,hq,q⟩:=h;obtain ⟨u,rfl,rx⟩:=vals1 r;cases rx;have hn:=jn;rcases hq with hq|hq
 ·obtain ⟨its,r',pl,hz⟩:=I.list hq;have hlen:=r'.length;exact Calls.call_len_list pl.isList (by simp only[EN]<;>lia) (.int ys.length,H,I.tok _,(s.toks+1,by rw[EN,hlen]),q)
 ·obtain ⟨its,r',pl,hz⟩:=I.tuple hq;have hlen:=r'.length;exact len_tuple pl (by simp only[EN]<;>lia) (.int ys.length,H,I.tok _,(s.toks+1,by rw[EN,hlen]),q)
theorem iX:du X (.builtin "len") (λxs H Q=>∃z,xs= [.str z]/\z.length<=sizeLine/\Q (.int z.length) H):=by
 intro pins s σ H xs us Q I r h;obtain ⟨z,rfl,hz,q⟩:=h;obtain ⟨u,rfl,t,rfl⟩:=vals1 r;have hn:=jn;exact len_str (by lia) (.int z.length,H,I.tok _,⟨ν⟩,q)
theorem bY:du X (.type "list") (λxs H Q=>∃p ys,xs= [.ref p]/\(aD X.K H p ys∨be X.K H p ys)/\∀l,H l=none->Q (.ref l) (aH H l (.lst ys))):=by
 intro pins s σ H xs us Q I r h;obtain ⟨p,ys,rfl,hq,q⟩:=h;obtain ⟨u,rfl,rx⟩:=vals1 r;cases rx;have fin:∀(its:GS),bC ys its->ys.length<=sizeLine->∀(h':Heap) (c':Nat),(∀b o',s.heap.get? b=some o'->h'.get? b=some o')->
   h'.get? s.heap.objs.size=some {cls:= .type "list",dict:=none,data:= .seq its.toArray c',slots:= #[]}->EP X pins σ Q (.ref s.heap.objs.size) {s with heap:=h'}:=λits r' hz h' c' kp e=>
  ⟨.ref s.heap.objs.size,_,I.laid (t':=s.toks) kp (E8 _) (show cq X.prog X.w _ h' _ (.lst ys) from ⟨hz,its,c',r',e⟩),rfl,q _ (I.hok.fresh (E8 _))⟩
 rcases hq with hq|hq
 ·obtain ⟨its,r',pl,hz⟩:=I.list hq;have hlen:=r'.length;obtain ⟨o,ho,hc,n,hd⟩:=pl.isList;exact call_list_seq p (.inl rfl) ho hc hd (λh' c' kp e=>fin its r' hz h' c' kp e) (by simp only[EN]<;>lia)
 ·obtain ⟨its,r',pl,hz⟩:=I.tuple hq;have hlen:=r'.length;obtain ⟨o,ho,hc,n,hd⟩:=pl;exact call_list_seq p (.inr rfl) ho hc hd (λh' c' kp e=>fin its r' hz h' c' kp e) (by simp only[EN]<;>lia)
def C7 (K:E5) (T:String) (x:V) (H:Hp):Prop:=match x with
 | .str _=>T= "str"
 | .int _=>T= "int"
 | .ref p=>(T= "list" /\∃xs,aD K H p xs)∨(T= "tuple" /\∃o,K.lookup p=some o/\o.cls= .type "tuple" /\o.dict=none)∨
   (T= "dict" /\((∃kvs,H p=some 149)∨∃kvs,H p=some (.dT kvs)))∨(T= "set" /\∃S n,H p=some (.set S n))
 |_=>False
theorem uZ {pins:GP} {σ:St} {H:Hp} {s:Shared} {T:String} {x:V} {v:Value} (I:aQ X pins σ H s) (r:RelV x v) (ty:C7 X.K T x H):
  s.TypeIs v T/\∀a,v= .ref a->∃ob,s.heap.get? a=some ob/\ob.dict=none:=by
 cases x with
 |str z=>
  obtain ⟨t,rfl⟩:=r;cases (show T= "str" from ty)
  exact (typeIs_str s z t,λ_ e=>nomatch e)
 |int i=>
  obtain ⟨t,rfl⟩:=r;cases (show T= "int" from ty)
  exact (typeIs_int s i t,λ_ e=>nomatch e)
 |ref p=>
  cases r;rcases ty with ⟨rfl,xs,hq⟩|⟨rfl,o,hk,hc,hd⟩|⟨rfl,hk⟩|⟨rfl,S,n,hk⟩
  ·obtain ⟨its,_,pl,_⟩:=I.list hq;refine (pl.isList.typeIs,λa e=>?_)
   cases e;obtain ⟨o,n,e,c,hd,_⟩:=pl;exact (o,e,hd)
  ·refine ((o,I.kIn p o hk,hc),λa e=>?_)
   cases e;exact (o,I.kIn _ o hk,hd)
  ·have z:∃o,s.heap.get? p=some o/\o.ExactDict:=by
    rcases hk with ⟨kvs,hk⟩|⟨kvs,hk⟩
    ·obtain ⟨_,_,_,_,o,_,_,e,ex,_⟩:=I.hok p _ hk;exact (o,e,ex)
    ·obtain ⟨_,_,_,_,o,_,_,e,ex,_⟩:=I.hok p _ hk;exact (o,e,ex)
   obtain ⟨o,e,ex⟩:=z;refine ((o,e,ex.1),λa e2=>?_)
   cases e2;exact (o,e,ex.2.1)
  ·obtain ⟨o,_,_,_,e,ex,_⟩:=I.hok p _ hk;refine ((o,e,ex.1),λa e2=>?_)
   cases e2;exact (o,e,ex.2.1)
 |_=>exact False.elim ty
def C8 (K:E5) (T:String) (r:V->List V->Hp->VK->Prop) (to:TE):TE:=λσ H Q=>to σ H λx H1=>C7 K T x H1/\r x [] H1 Q
def DW (K:E5) (T:String) (r:V->List V->Hp->VK->Prop) (to:TE) (t:TA):TE:=λσ H Q=>to σ H λx H1=>C7 K T x H1/\t σ H1 λxs H2=>r x xs H2 Q
variable {o e:Expr} {es:List Expr} {to:TE} {t:TA} {name:Str} {apos cpos:Pos} {T id:String} {r:V->List V->Hp->VK->Prop}
theorem ka (pa:PlainAttrs T) (slot:Slot T name id) (hty:typeOf (.builtin id)=pure (.type "method_descriptor")) (hm:C5 X id r) (ho:PE X o to)
  (hbase:attributeBase o name X.env (eval o X.env)=eval o X.env:=by rfl) (hline:(apos.endLine==cpos.line)=true:=by rfl):PE X (.Call (.Attribute o name apos) [] [] cpos) (C8 X.K T r to):=by
 intro pins s σ H Q I h;refine wpAny_Call_method0_late hbase hline (bG (ho pins s σ H _ I h) λv s1 (x,H1,I1,r1,ty,q1)=>?_)
 obtain ⟨h1,h2⟩:=uZ I1 r1 ty;exact (T,id,pa,slot,hty,h1,h2,Calls.callWith_builtin rfl (PySem.evalArgs_none (hm pins s1 σ H1 x [] v [] Q I1 r1 .nil q1)))
theorem dQ (pa:PlainAttrs T) (slot:Slot T name id) (hty:typeOf (.builtin id)=pure (.type "method_descriptor")) (hm:C5 X id r) (ho:PE X o to) (ha:PA X (e::es) t)
  (hbase:attributeBase o name X.env (eval o X.env)=eval o X.env:=by rfl)
  (hfew:((backTo cpos (starEach (e::es) X.env)).all (λx=> !x.1)&&(backToKw cpos (keywordEach [] X.env)).all (λx=>x.1.isSome)
   &&decide ((e::es).length+([]:List Keyword).length+(if ([]:List Keyword).isEmpty then 0 else 1)<30))=true:=by rfl)
  (hline:(apos.endLine==cpos.line)=true:=by rfl) (hs:starEach (e::es) X.env=(false,eval e X.env)::starEach es X.env:=by rfl) (hplain:(backTo cpos (starEach es X.env)).any (·.1)=false:=by rfl):
  PE X (.Call (.Attribute o name apos) (e::es) [] cpos) (DW X.K T r to t):=by
 intro pins s σ H Q I h;refine wpAny_Call_method_late hbase hfew hline rfl (bG (ho pins s σ H _ I h) λv s1 (x,H1,I1,r1,ty,q1)=>?_)
 obtain ⟨h1,h2⟩:=uZ I1 r1 ty;exists T,id,pa,slot,hty,h1,h2;have hA:=ha cpos pins s1 σ H1 _ I1 q1;rw[hs] at hA⊢;refine Calls.callWith_builtin (by show (false||(backTo cpos (starEach es X.env)).any (·.1))=false;rw[hplain]<;>rfl) (Calls.evalArgs_plain ?_)
 exact bG hA λus s2 (vs,H2,I2,r2,q2)=>hm pins s2 σ H2 x vs v us Q I2 r1 r2 q2
end
def Cy (X:Cx) (id:String) (r:V->List V->Hp->VK->Prop):Prop:=
 ∀(pins:GP) (s:Shared) (σ:St) (H:Hp) (x:V) (xs:List V) (v:Value) (us:GS) (Q:VK),aQ X pins σ H s->RelV x v->bC xs us->r x xs H Q->
  wpAny 135 X.A (call (.builtin id) (v::us)) (EP X pins σ Q) X.xe s
theorem bC.one:∀{x:V} {us:GS},bC [x] us->∃u,us= [u]/\RelV x u
 |_,_,.cons r .nil=>⟨_,rfl,r⟩
theorem bC.zero:∀{us:GS},bC [] us->us= []
 |_,.nil=>rfl
theorem bC.dropLast {xs:List V} {us:GS} (h:bC xs us):bC xs.dropLast us.dropLast:=by
 induction h with
 |nil=>exact .nil
 |cons r t ih=>
  cases t with
  |nil=>exact .nil
  |cons q t'=>exact .cons r ih
theorem qw {α:Type} (l:List α):l.eraseIdx (l.length-1)=l.dropLast:=by
 induction l with
 |nil=>rfl
 |cons a r ih=>
  cases r with
  |nil=>rfl
  |cons b r=>
   have e:(a::b::r).length-1=((b::r).length-1)+1:=by
    have h1:(a::b::r).length=r.length+2:=rfl;have h2:(b::r).length=r.length+1:=rfl
    lia
   rw[e,List.eraseIdx_cons_succ,ih]
   all_goals rfl
section
variable {X:Cx} {pins:GP} {σ:St} {H:Hp} {s:Shared} {l b:Addr} {xs ys zs:List V}
theorem aQ.lset {its its':GS} {n:Nat} {f:Array Value->Array Value} {t':Nat} (I:aQ X pins σ H s) (hH:H l=some (.lst xs))
  (e:s.heap.get? l=some {cls:= .type "list",data:= .seq its.toArray n}) (hf:f its.toArray=its'.toArray) (hv:bC ys its') (hz:ys.length<=sizeLine):
  aQ X pins σ (aH H l (.lst ys)) {s with heap:=s.heap.update l (Obj.mapSeq f),toks:=t'}:=by
 have q:=PySem.IsL.update e f;rw[hf] at q;refine I.write (x:=l) (e:=l) (by rw[hH];exact trivial) (.inl rfl) (λb' u hb hu=>(Heap.get?_update_other s.heap (Obj.mapSeq f) (Ne.symm hb)).trans hu) (_,q) ?_
 exact (hz,its',_,hv,q)
theorem aQ.lnew {its:GS} {t':Nat} (I:aQ X pins σ H s) (hv:bC ys its) (hz:ys.length<=sizeLine):
  aQ X pins σ (aH H s.heap.objs.size (.lst ys)) {s with heap:=s.heap.push {cls:= .type "list",data:= .seq its.toArray},toks:=t'}:=
 I.laid (λ_ _ q=>Heap.get?_push_of_some _ q) (E8 _) ⟨hz,its,0,hv,Heap.get?_push_size _ rfl⟩
theorem aQ.fresh (I:aQ X pins σ H s):H s.heap.objs.size=none:=I.hok.fresh (E8 _)
theorem aQ.lstM (I:aQ X pins σ H s) (hH:H l=some (.lst xs)):xs.length<=sizeLine/\∃(its:GS) (n:Nat),bC xs its/\xs.length=its.length/\s.heap.get? l=some {cls:= .type "list",data:= .seq its.toArray n}:=by
 obtain ⟨z,its,n,r,e⟩:=I.hok l _ hH;exact (z,its,n,r,r.length,e)
theorem u0 {n:Nat} (h:n<=sizeLine):Builtin.List.listTooLong n=false:=by
 unfold Builtin.List.listTooLong;exact decide_eq_false (by lia)
end
variable {X:Cx}
def wT:V->List V->Hp->VK->Prop:=λx vs H Q=>∃l xs y,x= .ref l/\vs= [y]/\H l=some (.lst xs)/\xs.length<sizeLine/\Q .non (aH H l (.lst (xs++ [y])))
theorem bw:Cy X "list.append" wT:=by
 intro pins s σ H x vs v us Q I rx rv h;obtain ⟨l,xs,y,rfl,rfl,hH,hz,q⟩:=h;cases rx;obtain ⟨u,rfl,ru⟩:=rv.one;obtain ⟨z,its,n,r,hl,e⟩:=I.lstM hH;refine call_meets F.slot_list_append (_,e,rfl) F.entry_list_append (F.args_list_append_2 _ _) (PySem.list_append l its.toArray n u (by rw[EN];lia)) (e,?_)
 refine (.non,_,I.lset (its':=its++ [u]) hH e 147 (r.append (.cons ru .nil)) ?_,rfl,q)
 rw[E3,EG]
 lia
def wU:V->List V->Hp->VK->Prop:=λx vs H Q=>∃l b xs zs,x= .ref l/\vs= [.ref b]/\H l=some (.lst xs)/\H b=some (.lst zs)/\xs.length+zs.length<=sizeLine/\Q .non (aH H l (.lst (xs++zs)))
theorem jp:Cy X "list.extend" wU:=by
 intro pins s σ H x vs v us Q I rx rv h;obtain ⟨l,b,xs,zs,rfl,rfl,hH,hB,hz,q⟩:=h;cases rx;obtain ⟨u,rfl,ru⟩:=rv.one;cases ru;obtain ⟨z,its,n,r,hl,e⟩:=I.lstM hH;obtain ⟨z2,its2,n2,r2,hl2,e2⟩:=I.lstM hB;have hsz:its.toArray.size+its2.toArray.size<=sizeLine:=by rw[EN,EN];lia
 have hlong:¬(!its.toArray.isEmpty&&Builtin.List.listTooLong (its.toArray.size+its2.toArray.size))=true:=by
  rw[u0 hsz,Ey];exact Ec
 refine call_meets F.slot_list_extend (_,e,rfl) F.entry_list_extend (F.args_list_extend_2 _ _)
  (AutoSeq1.list_extend_list_list_0 l its.toArray n b its2.toArray n2 hlong (by rw[EN];lia) (by lia)) ⟨e,e2,?_⟩
 refine (.non,_,I.lset (its':=its++its2) hH e 147 (r.append r2) ?_,rfl,q)
 rw[E3]
 lia
def C9:V->List V->Hp->VK->Prop:=λx vs H Q=>∃l xs y,x= .ref l/\vs= []/\H l=some (.lst xs)/\xs[xs.length-1]?=some y/\Q y (aH H l (.lst xs.dropLast))
theorem qx:Cy X "list.pop" C9:=by
 intro pins s σ H x vs v us Q I rx rv h;obtain ⟨l,xs,y,rfl,rfl,hH,hy,q⟩:=h;cases rx;have hus:=rv.zero;subst hus;obtain ⟨z,its,n,r,hl,e⟩:=I.lstM hH;obtain ⟨u,hu,ru⟩:=r.get hy;have hy':its.toArray[its.toArray.size-1]?=some u:=by
  show its.toArray[its.length-1]?=some u;rw[<-FI,<-hl];exact hu
 refine call_meets F.slot_list_pop (_,e,rfl) F.entry_list_pop (F.args_list_pop_1 _) (MeetsSeq.list_pop_last l its.toArray n u hy' (by rw[EN];lia)) (e,?_)
 refine (y,_,I.lset (its':=its.dropLast) hH e ?_ r.dropLast ?_,ru,q)
 ·show its.toArray.eraseIdxIfInBounds (its.toArray.size-1)=its.dropLast.toArray;rw[EN,List.eraseIdxIfInBounds_toArray,qw]
 ·rw[List.length_dropLast]
  lia
def Da:R2:=λx y H Q=>∃l b xs zs,x= .ref l/\y= .ref b/\H l=some (.lst xs)/\H b=some (.lst zs)/\xs.length+zs.length<=sizeLine/\∀p,H p=none->Q (.ref p) (aH H p (.lst (xs++zs)))
theorem bH:gJ X (binaryOp .Add) Da:=by
 intro pins s σ H x y v u Q I rx ry h;obtain ⟨l,b,xs,zs,rfl,rfl,hH,hB,hz,q⟩:=h;cases rx;cases ry;obtain ⟨z,its,n,r,hl,e⟩:=I.lstM hH;obtain ⟨z2,its2,n2,r2,hl2,e2⟩:=I.lstM hB;refine PySem.P.add_list e e2 ?_ (by rw[EN,EN];lia)
 have ea:its.toArray++its2.toArray=(its++its2).toArray:=by simp
 rw[ea];exact (.ref _,_,I.lnew (t':=s.toks) (r.append r2) (by rw[E3];lia),rfl,q _ I.fresh)
section
variable {κ:Type} [DecidableEq κ]
noncomputable def fr (kvs:List (κ×V)) (k:κ):Option V:=(kvs.find? λkv=>decide (kv.1=k)).map (·.2)
noncomputable def putK (kvs:List (κ×V)) (k:κ) (v:V):List (κ×V):=
 if (kvs.any λkv=>decide (kv.1=k))=true then kvs.map (λkv=>if kv.1=k then (kv.1,v) else kv) else kvs++ [(k,v)]
theorem c9 {p:κ×V} {r:List (κ×V)} {k:κ} (e:p.1=k):fr (p::r) k=some p.2:=by simp[fr,FA,e]
theorem da {p:κ×V} {r:List (κ×V)} {k:κ} (e:¬p.1=k):fr (p::r) k=fr r k:=by simp[fr,FA,e]
theorem iY (k:κ):∀kvs:List (κ×V),(kvs.any λkv=>decide (kv.1=k))=(fr kvs k).isSome
 | []=>rfl
 |p::r=>by
  rw[F5]
  by_cases e:p.1=k
  ·simp only[c9 e,decide_eq_true e,Fu,Option.isSome_some]
  ·rw[da e,decide_eq_false e,En];exact iY k r
theorem oh (k j:κ) (y:V):∀kvs:List (κ×V),fr (kvs.map λkv=>if kv.1=k then (kv.1,y) else kv) j=(fr kvs j).map λx=>if j=k then y else x
 | []=>rfl
 |p::r=>by
  have ih:=oh k j y r;rw[F8]
  by_cases h:p.1=k
  ·rw[if_pos h]
   by_cases e:p.1=j
   ·rw[c9 (p:=(p.1,y)) e,c9 e,Fa,if_pos (e.symm.trans h)]
   ·rw[da (p:=(p.1,y)) e,da e,ih]
  ·rw[if_neg h]
   by_cases e:p.1=j
   ·rw[c9 (p:=p) e,c9 e,Fa,if_neg (λz=>h (e.trans z))]
   ·rw[da (p:=p) e,da e,ih]
theorem lE (k j:κ) (y:V):∀kvs:List (κ×V),fr kvs k=none->fr (kvs++ [(k,y)]) j=if j=k then some y else fr kvs j
 | [],_=>by
  by_cases e:k=j
  ·rw[if_pos e.symm];exact c9 (p:=(k,y)) e
  ·rw[if_neg (λz=>e z.symm)];exact da (p:=(k,y)) e
 |p::r,hn=>by
  rw[List.cons_append];have hk:¬p.1=k:=λz=>by rw[c9 z] at hn;cases hn
  rw[da hk] at hn;have ih:=lE k j y r hn
  by_cases e:p.1=j
  ·rw[c9 e,c9 e,if_neg (λz=>hk (e.trans z))]
  ·rw[da e,da e,ih]
theorem u3 (kvs:List (κ×V)) (k j:κ) (y:V):fr (putK kvs k y) j=if j=k then some y else fr kvs j:=by
 unfold putK
 by_cases a:(kvs.any λkv=>decide (kv.1=k))=true
 ·rw[if_pos a,oh];rw[iY] at a
  by_cases e:j=k
  ·obtain ⟨x,hx⟩:=Es.mp a;rw[if_pos e,e,hx,Fa,if_pos rfl]
  ·rw[if_neg e];cases fr kvs j with
   |none=>rfl
   |some x=>rw[Fa,if_neg e]
 ·rw[if_neg a];refine lE k j y kvs ?_;rw[iY] at a;cases q:fr kvs k with
  |none=>rfl
  |some x=>rw[q] at a;exact (a rfl).elim
theorem fF (kvs:List (κ×V)) (k:κ) (v:V):(putK kvs k v).length<=kvs.length+1:=by
 unfold putK
 split
 ·rw[E1];lia
 ·rw[E3,ER,List.length_nil];lia
theorem iG.isSome_eq {o:Option V} {u:GU} (r:iG o u):o.isSome=u.isSome:=by
 cases o with
 |none=>cases u with
  |none=>rfl
  |some _=>exact (show False from r).elim
 |some _=>cases u with
  |none=>exact (show False from r).elim
  |some _=>rfl
theorem iG.getD {o:Option V} {u:GU} {d:V} {d':Value} (r:iG o u) (rd:RelV d d'):RelV (o.getD d) (u.getD d'):=by
 cases o with
 |none=>cases u with
  |none=>exact rd
  |some _=>exact (show False from r).elim
 |some _=>cases u with
  |none=>exact (show False from r).elim
  |some _=>exact r
theorem KV.val {kvs:List (κ×V)} {vs:List (κ×Value)} (r:KV kvs vs) (k:κ):iG (fr kvs k) (valueAt vs k):=by
 unfold KV at r
 induction r with
 |nil=>exact True.intro
 | @cons p q ps qs h t ih=>
  obtain ⟨h1,h2⟩:=h
  by_cases e:p.1=k
  ·have e':q.1=k:=h1.symm.trans e;have b:valueAt (q::qs) k=some q.2:=by simp[valueAt,FA,e']
   rw[c9 e,b];exact h2
  ·have e':¬q.1=k:=λz=>e (h1.trans z)
   have b:valueAt (q::qs) k=valueAt qs k:=by simp[valueAt,FA,e']
   rw[da e,b];exact ih
theorem KV.any {kvs:List (κ×V)} {vs:List (κ×Value)} (r:KV kvs vs) (k:κ):(kvs.any λkv=>decide (kv.1=k))=vs.any λkv=>decide (kv.1=k):=by
 unfold KV at r
 induction r with
 |nil=>rfl
 |cons h t ih=>rw[F5,F5,ih,h.1]
theorem KV.repl {kvs:List (κ×V)} {vs:List (κ×Value)} (r:KV kvs vs) (k:κ) {y:V} {u:Value} (ry:RelV y u):
  KV (kvs.map λkv=>if kv.1=k then (kv.1,y) else kv) (vs.map λkv=>if kv.1=k then (kv.1,u) else kv):=by
 unfold KV at r⊢
 induction r with
 |nil=>exact .nil
 | @cons p q ps qs h t ih=>
  rw[F8,F8];refine .cons ?_ ih;obtain ⟨h1,h2⟩:=h
  by_cases e:p.1=k
  ·rw[if_pos e,if_pos (h1.symm.trans e)];exact (h1,ry)
  ·rw[if_neg e,if_neg (λz=>e (h1.trans z))];exact (h1,h2)
theorem KV.put {kvs:List (κ×V)} {vs:List (κ×Value)} (r:KV kvs vs) (k:κ) {y:V} {u:Value} (ry:RelV y u):KV (putK kvs k y) (stored vs k u):=by
 unfold putK stored;rw[r.any k]
 by_cases e:(vs.any λkv=>decide (kv.1=k))=true
 ·rw[if_pos e,if_pos e];exact r.repl k ry
 ·rw[if_neg e,if_neg e];exact Paired.snoc r (rfl,ry)
theorem KV.length {kvs:List (κ×V)} {vs:List (κ×Value)} (r:KV kvs vs):kvs.length=vs.length:=Paired.length r
end
theorem jJ {P:Program} {w:World} {k:Key} {u:Value} (r:RelV (kV k) u):(aN P w).is k u=true:=by
 cases k with
 |inl i=>obtain ⟨t,e⟩:=(show ∃t,u=Value.int i t from r);subst e;exact nY P w i t
 |inr x=>obtain ⟨t,e⟩:=(show ∃t,u=Value.str x t from r);subst e;exact nZ P w x t
theorem lH {P:Program} {w:World}:∀{ks:List Key} {us:GS},bC (ks.map kV) us->ItemsAre (aN P w) ks us
 | [],_,r=>by rw[List.map_nil] at r;cases r;exact .nil
 |k::ks,_,r=>by
  rw[F8] at r;cases r with
  |cons h t=>exact .cons (jJ h) (lH t)
abbrev KT (H:Hp):List (List Key×V)->List (List Key×Addr×Value)->Prop:=Paired λp q=>p.1=q.1/\H q.2.1=some (.tup (p.1.map kV))/\RelV p.2 q.2.2
theorem KT.val {H:Hp} {kvs:List (List Key×V)} {xs:List (List Key×Addr×Value)} (r:KT H kvs xs) (k:List Key):iG (fr kvs k) ((atKey xs k).map (·.2)):=by
 induction r with
 |nil=>exact True.intro
 | @cons p q ps qs h t ih=>
  obtain ⟨h1,_,h2⟩:=h
  by_cases e:p.1=k
  ·have e':q.1=k:=h1.symm.trans e;have b:atKey (q::qs) k=some q.2:=by simp[atKey,FA,e']
   rw[c9 e,b];exact h2
  ·have e':¬q.1=k:=λz=>e (h1.trans z)
   have b:atKey (q::qs) k=atKey qs k:=by simp[atKey,FA,e']
   rw[da e,b];exact ih
theorem KT.repl {H:Hp} {kvs:List (List Key×V)} {xs:List (List Key×Addr×Value)} (r:KT H kvs xs) (k:List Key) {y:V} {u:Value} (ry:RelV y u):
  KT H (kvs.map λkv=>if kv.1=k then (kv.1,y) else kv) (xs.map (putAt k u)):=by
 induction r with
 |nil=>exact .nil
 | @cons p q ps qs h t ih=>
  rw[F8,F8];refine .cons ?_ ih;obtain ⟨h1,h2,h3⟩:=h;unfold putAt
  by_cases e:p.1=k
  ·rw[if_pos e,if_pos (h1.symm.trans e)];exact (h1,h2,ry)
  ·rw[if_neg e,if_neg (λz=>e (h1.trans z))];exact (h1,h2,h3)
theorem KT.put {H:Hp} {kvs:List (List Key×V)} {xs:List (List Key×Addr×Value)} (r:KT H kvs xs) (k:List Key) {b:Addr} {y:V} {u:Value} (hb:H b=some (.tup (k.map kV))) (ry:RelV y u):
  KT H (putK kvs k y) (storedH xs k b u):=by
 have e:(kvs.any λkv=>decide (kv.1=k))=(atKey xs k).isSome:=by
  rw[iY,(r.val k).isSome_eq,Option.isSome_map]
 unfold putK storedH;rw[e]
 by_cases q:(atKey xs k).isSome=true
 ·rw[if_pos q,if_pos q];exact r.repl k ry
 ·rw[if_neg q,if_neg q];exact Paired.snoc r (rfl,hb,ry)
theorem KT.keeps {H H':Hp} {kvs:List (List Key×V)} {xs:List (List Key×Addr×Value)} (r:KT H kvs xs) (ht:∀b ys,H b=some (.tup ys)->H' b=some (.tup ys)):KT H' kvs xs:=
 Paired.mapP r λ_ _ z=>⟨z.1,ht _ _ z.2.1,z.2.2⟩
section
variable {P:Program} {w:World} {H:Hp} {h:Heap} {a:Addr}
theorem x5 {u:HO} (ok:ix P w H h) (e:Rd H a u):cq P w H h a u:=e.ok ok
theorem kb {kvs:List (Key×V)} (ok:ix P w H h) (e:Rd H a 149):kvs.length<=sizeLine/\(a==sysModules)=false/\∃vs,KV kvs vs/\h.DictOf (aN P w) a vs:=
 show cq P w H h a 149 from x5 ok e
theorem oj {kvs:List (Key×V)} (ok:ix P w H h) (e:H a=some 149):kvs.length<=sizeLine/\(a==sysModules)=false/\∃vs,KV kvs vs/\h.DictOf (aN P w) a vs:=kb ok (.inl e)
theorem kc {ks:List Key} (ok:ix P w H h) (e:H a=some (.tup (ks.map kV))):(tupleKind (aN P w)).is h ks a:=by
 obtain ⟨_,its,r,o,h1,h2,n,h3⟩:=(show cq P w H h a (.tup (ks.map kV)) from ok a _ e)
 exact (o,its.toArray,n,h1,h2,h3,by simpa using lH r)
theorem lJ {kvs:List (List Key×V)} (ok:ix P w H h) (e:Rd H a (.dT kvs)):kvs.length<=sizeLine/\(a==sysModules)=false/\
  ∃xs,KT H kvs xs/\h.DictOfH (tupleKind (aN P w)) a xs:=by
 obtain ⟨z,y,xs,r,o,es,ep,h1,h2,h3,h4,h5⟩:=(show cq P w H h a (.dT kvs) from x5 ok e)
 refine (z,y,xs,r,o,es,ep,h1,h2,h3,h4,λx hx=>?_,h5)
 have all:∀{l:List (List Key×V)} {m:List (List Key×Addr×Value)},KT H l m->∀x∈m,(tupleKind (aN P w)).is h x.1 x.2.1:=by
  intro l m q
  induction q with
  |nil=>intro x hx;exact nomatch hx
  | @cons p q ps qs hq t ih=>
   intro x hx;rcases EI.mp hx with e|hx
   ·subst e;exact kc ok (by rw[<-hq.1];exact hq.2.1)
   ·exact ih x hx
 exact all r x hx
theorem AM {kvs:List (List Key×V)} (ok:ix P w H h) (e:H a=some (.dT kvs)):kvs.length<=sizeLine/\(a==sysModules)=false/\
  ∃xs,KT H kvs xs/\h.DictOfH (tupleKind (aN P w)) a xs:=lJ ok (.inl e)
end
def iZ (H:Hp) (a:Addr) (y:V) (r:Option V):Prop:=
 (∃kvs k,Rd H a 149/\y=kV k/\r=fr kvs k)∨∃kvs k b,Rd H a (.dT kvs)/\y= .ref b/\H b=some (.tup (k.map kV))/\r=fr kvs k
def u4 (H:Hp) (a:Addr) (y v:V) (H':Hp):Prop:=
 (∃kvs k,H a=some 149/\y=kV k/\kvs.length<sizeLine/\H'=aH H a (.dK (putK kvs k v)))∨
 ∃kvs k b,H a=some (.dT kvs)/\y= .ref b/\H b=some (.tup (k.map kV))/\kvs.length<sizeLine/\H'=aH H a (.dT (putK kvs k v))
theorem iZ.t {H:Hp} {a b:Addr} {kvs:List (List Key×V)} {k:List Key} (e:H a=some (.dT kvs)) (eb:H b=some (.tup (k.map kV))):iZ H a (.ref b) (fr kvs k):= .inr ⟨kvs,k,b,.inl e,rfl,eb,rfl⟩
theorem u4.t {H:Hp} {a b:Addr} {kvs:List (List Key×V)} {k:List Key} {v:V} (e:H a=some (.dT kvs)) (eb:H b=some (.tup (k.map kV))) (hl:kvs.length<sizeLine):
  u4 H a (.ref b) v (aH H a (.dT (putK kvs k v))):= .inr ⟨kvs,k,b,e,rfl,eb,hl,rfl⟩
section
variable {pins:GP} {σ:St} {H:Hp} {s:Shared} {a:Addr} {y v:V} {u r:Value} {o:Option V} {A:Around} {E:GN}
theorem aQ.big (I:aQ X pins σ H s):sysModules<s.heap.objs.size:=by
 have h:mainGlobals<s.heap.objs.size:=(I.mod.glob.keeps I.bk).lt;exact Nat.lt_trans 118 h
theorem tL {Q:GN} (hu:A.units+1<cLine) (I:aQ X pins σ H s) (g:iZ H a y (some v)) (ry:RelV y u) (h:∀w' s',aQ X pins σ H s'->RelV v w'->Q w' s'):
  wpAny 135 A (getItem (.ref a) u) Q E s:=by
 rcases g with ⟨kvs,k,e,ey,l⟩|⟨kvs,k,b,e,ey,eb,l⟩
 ·subst ey;obtain ⟨z,hd,vs,rel,dd⟩:=kb I.hok e;obtain ⟨w',hw,rw'⟩:=iG.some_of (v:=v) (o:=valueAt vs k) (by rw[l];exact rel.val k)
  exact wpAny_getItem_of (jJ ry) dd.mapOf hw (h w' _ (I.tok _) rw')
 ·subst ey;cases (show u=Value.ref b from ry)
  obtain ⟨z,hd,xs,rel,dd⟩:=lJ I.hok e;obtain ⟨w',hw,rw'⟩:=iG.some_of (v:=v) (o:=(atKey xs k).map (·.2)) (by rw[l];exact rel.val k)
  obtain ⟨p,hp,hp2⟩:=E7.mp hw;refine wpAny_getItem_heap (tupleKind_room_in1 hu) (kc I.hok eb) dd hp ?_;rw[hp2];exact h w' _ (I.tok _) rw'
theorem wV {Q:GN} (hu:A.units+1<cLine) (I:aQ X pins σ H s) (g:iZ H a y o) (ry:RelV y u) (h:∀s',aQ X pins σ H s'->Q (.bool (!o.isSome)) s'):
  wpAny 135 A (compareOp .NotIn u (.ref a)) Q E s:=by
 rcases g with ⟨kvs,k,e,ey,l⟩|⟨kvs,k,b,e,ey,eb,l⟩
 ·subst ey;obtain ⟨z,hd,vs,rel,dd⟩:=kb I.hok e;refine wpAny_notIn_of (jJ ry) hd dd.mapOf ?_;rw[<-(rel.val k).isSome_eq,<-l];exact h _ (I.tok _)
 ·subst ey;cases (show u=Value.ref b from ry)
  obtain ⟨z,hd,xs,rel,dd⟩:=lJ I.hok e;refine wpAny_notIn_heap (tupleKind_room_in1 hu) (kc I.hok eb) hd dd ?_;have q:=(rel.val k).isSome_eq;rw[Option.isSome_map] at q;rw[<-q,<-l];exact h _ (I.tok _)
theorem mY {h':Heap} {t':Nat} {ob:HO} (I:aQ X pins σ H s) (mu:As (H a)) (hs:Heap.SameBut a s.heap h') (he:∃q,h'.get? a=some q) (new:cq X.prog X.w (aH H a ob) h' a ob):
  aQ X pins σ (aH H a ob) {s with heap:=h',toks:=t'}:=
 I.write (x:=a) (e:=a) mu (.inl rfl) (λb q hb z=>(hs.2 b hb).trans z) he new
theorem u5 {P:Program} {w:World} {H':Hp} {h':Heap} {kvs:List (Key×V)} {vs:List (Key×Value)} (z:kvs.length<=sizeLine) (hd:(a==sysModules)=false) (rel:KV kvs vs) (dd:h'.DictOf (aN P w) a vs):
  cq P w H' h' a (.dK kvs):=⟨z,hd,vs,rel,dd⟩
theorem tM {H':Hp} {Q:Unit->Shared->Prop} (hu:A.units+1<cLine) (I:aQ X pins σ H s) (g:u4 H a y v H') (ry:RelV y u) (rv:RelV v r) (h:∀s',aQ X pins σ H' s'->Q () s'):
  wpAny 135 A (setItem (.ref a) u r) Q E s:=by
 rcases g with ⟨kvs,k,e,ey,l,eH⟩|⟨kvs,k,b,e,ey,eb,l,eH⟩
 ·subst ey eH;obtain ⟨z,hd,vs,rel,dd⟩:=oj I.hok e;have hz:vs.length<=sizeLine:=by rw[<-rel.length];exact z
  have hl:(putK kvs k v).length<=sizeLine:=by have:=fF kvs k v;lia
  refine wpAny_setItem_pairs (hsz:=hz) (jJ ry) dd λh' dd' hs=>h _ ?_
  have he:∃q,h'.get? a=some q:=let ⟨q,_,_,hq,_⟩:=dd';⟨q,hq⟩;exact mY I (by rw[e];exact True.intro) hs he (u5 hl hd (rel.put k rv) dd')
 ·subst ey eH;cases (show u=Value.ref b from ry)
  obtain ⟨z,hd,xs,rel,dd⟩:=AM I.hok e;have hz:xs.length<=sizeLine:=by rw[<-Paired.length rel];exact z
  have hl:(putK kvs k v).length<=sizeLine:=by have:=fF kvs k v;lia
  refine wpAny_setItem_heap (hsz:=hz) (tupleKind_room_in1 hu) (kc I.hok eb) dd λh' dd' hs=>h _ ?_
  obtain ⟨q,es,ep,hq,h2,h3,h4,_,h5⟩:=dd';refine mY I (by rw[e];exact True.intro) hs ⟨q,hq⟩ ⟨hl,hd,_,(rel.put k eb rv).keeps λc ys ec=>?_,q,es,ep,hq,h2,h3,h4,h5⟩
  rw[aK (iR ec e (λz=>nomatch z))]
  exact ec
end
section
variable {pins:GP} {σ:St} {H:Hp} {s:Shared} {a:Addr} {kvs:List (Key×V)} {k:Key} {u:Value} {A:Around} {E:GN}
theorem AN {Q:GN} (I:aQ X pins σ H s) (e:Rd H a 149) (h:∀t s',aQ X pins σ H s'->Q (.int kvs.length t) s'):wpAny 135 A (call (.builtin "len") [.ref a]) Q E s:=by
 obtain ⟨z,hd,vs,rel,dd⟩:=kb I.hok e;refine call_len_dict hd dd (by rw[<-rel.length];rw[sizeLine_eq] at z;lia) ?_
 rw[<-rel.length];exact h _ _ (I.tok _)
end
def AO (i:Expr):Prop:=∀ov iv,subscripted i false ov iv=operate [ov,iv] (getItem ov iv)
theorem wW {prog:Program} {w:World} {A:Around} {E:GN} {s:Shared} {env:Env} {value slice:Expr} {pos:Pos} {T id:String} {Q:GN}
  (hl:typeLookup (.type T) "__getitem__" =pure (some (.builtin id))) (hs:AO slice)
  (h:wpAny 139 A (eval value env) (λo s₁=>wpAny 139 A (eval slice env) (λi s₂=>s₂.TypeIs o T/\wpAny 139 A (getItem o i) Q E s₂) E s₁) E s):
  wpAny 139 A (eval (.Subscript value slice pos) env) Q E s:=by
 refine Subscript_ (wpAny_mono h (λo s₁ h₁=>wpAny_mono h₁ (λi s₂ h₂=>?_) λ_ _ x=>x) λ_ _ x=>x)
 obtain ⟨hT,h₂⟩:=h₂;unfold subscriptTail;refine wpAny_bind ?_;rw[getitemInPython_of_ne hT.not_modules];refine wpAny_bind (wpAny_specialOf hT hl ?_);have fin:wpAny 139 A (subscripted slice false o i) (λr s₃=>wpAny 139 A (letTemporaryGo value o r>>=λ_=>pure r) Q E s₃) E s₂:=by
  rw[hs o i];exact wpAny_operating (wpAny_mono h₂ (λr s₃ h₃=>wpAny_bind (wpAny_letTemporaryGo (wpAny_pure h₃))) λ_ _ x=>x)
 first
  |exact wpAny_pure (wpAny_bind fin)
  |exact wpAny_bind (wpAny_pure (wpAny_bind fin))
  |exact wpAny_bind fin
theorem om {X:Cx} {pins:GP} {σ:St} {H:Hp} {s:Shared} {a:Addr} {y:V} {o:Option V} (I:aQ X pins σ H s) (g:iZ H a y o):s.TypeIs (.ref a) "dict" :=by
 rcases g with ⟨kvs,k,e,_,_⟩|⟨kvs,k,b,e,_,_,_⟩
 ·obtain ⟨_,_,vs,_,dd⟩:=kb I.hok e;exact dd.typeIs
 ·obtain ⟨_,_,xs,_,dd⟩:=lJ I.hok e;exact dd.typeIs
def AQ (td ty:TE):TE:=λσ H Q=>td σ H λx H1=>ty σ H1 λy H2=>∃a v,x= .ref a/\iZ H2 a y (some v)/\Q v H2
def wX (ty td:TE):TE:=λσ H Q=>ty σ H λy H1=>td σ H1 λx H2=>∃a o,x= .ref a/\iZ H2 a y o/\Q (.bl (!o.isSome)) H2
def AR (td ty tv:TE):TS:=λD σ H=>tv σ H λv H1=>td σ H1 λx H2=>ty σ H2 λy H3=>∃a H4,x= .ref a/\u4 H3 a y v H4/\D.nx σ H4
section
variable {o i e value:Expr} {pos pos' tpos:Pos} {td ty tv:TE}
theorem ic (hu:X.A.units+1<cLine) (ho:PE X o td) (hi:PE X i ty) (hs:AO i):PE X (.Subscript o i pos) (AQ td ty):=by
 intro pins s σ H Q I h;refine wW PySem.F.slot_dict_getitem.lookup hs (bG (ho pins s σ H _ I h) λu s1 (x,H1,I1,rx,q1)=>bG (hi pins s1 σ H1 _ I1 q1) λiv s2 (y,H2,I2,ry,a,v,ex,g,q2)=>?_)
 subst ex;obtain rfl:u=Value.ref a:=rx;exact (om I2 g,tL hu I2 g ry λw' s3 I3 rw'=>(v,H2,I3,rw',q2))
theorem jq (hu:X.A.units+1<cLine) (hi:PE X i ty) (ho:PE X o td):PC X .NotIn i o (wX ty td):=by
 intro pins s σ H Q I h;refine bG (hi pins s σ H _ I h) λiv s1 (y,H1,I1,ry,q1)=>bG (ho pins s1 σ H1 _ I1 q1) λu s2 (x,H2,I2,rx,a,ov,ex,g,q2)=>?_
 subst ex;obtain rfl:u=Value.ref a:=rx;exact wV hu I2 g ry λs3 I3=>(.bl (!ov.isSome),H2,I3,rfl,q2)
theorem wY (hu:X.A.units+1<cLine) (ho:PE X o td) (hi:PE X i ty) (hv:PE X value tv) (hs:swapsWith value (some (.Subscript o i pos')) pos.line X.env=pure false):
  PS X (.Assign [.Subscript o i pos'] value pos) (AR td ty tv):=by
 intro pins s σ H D I h;refine wpAny_Assign_Subscript (bG (hv pins s σ H _ I h) λr s1 (v,H1,I1,rv,q1)=>bG (ho pins s1 σ H1 _ I1 q1) λu s2 (x,H2,I2,rx,q2)=>bG (hi pins s2 σ H2 _ I2 q2) λiv s3 (y,H3,I3,ry,a,H4,ex,g,q3)=>?_) hs
 subst ex;obtain rfl:u=Value.ref a:=rx;exact tM hu I3 g ry rv λs4 I4=>(σ,H4,I4,q3)
end
theorem u6 {P:Program} {w:World} {H:Hp} (h:Heap) (hb:sysModules<h.objs.size):cq P w H (h.push {cls:= .type "dict",data:= .dict #[]}) h.objs.size (.dK []):=
 ⟨El _,beq_eq_false_iff_ne.mpr (Ne.symm (EF hb)),[],.nil,Heap.DictOf.new h⟩
theorem u7 {P:Program} {w:World} {H:Hp} (h:Heap) (hb:sysModules<h.objs.size):cq P w H (h.push {cls:= .type "dict",data:= .dict #[]}) h.objs.size (.dT []):=
 ⟨El _,beq_eq_false_iff_ne.mpr (Ne.symm (EF hb)),[],.nil,_,#[],0,Heap.get?_push_size _ rfl,⟨rfl,rfl,rfl⟩,rfl,rfl,List.nodup_nil⟩
def yx:TE:=λ_ H Q=>∀p,H p=none->Q (.ref p) (aH H p (.dT []))
variable {pos:Pos}
theorem u8:PE X (.Dict [] [] pos) yx:=λpins s σ H Q I h=>
 wpAny_Dict_empty ⟨.ref s.heap.objs.size,_,I.laid (a:=s.heap.objs.size) (o:= .dT []) (t':=s.toks) (λ_ _ q=>Heap.get?_push_of_some _ q) (E8 _) (u7 s.heap I.big),rfl,h _ (I.hok.fresh (E8 _))⟩
def qy:List (TE×TE)->St->Hp->(List (V×V)->Hp->Prop)->Prop
 | [],_,H,Q=>Q [] H
 |(tk,tv)::r,σ,H,Q=>tk σ H λx H1=>tv σ H1 λy H2=>qy r σ H2 λps H3=>Q ((x,y)::ps) H3
abbrev VV:List (V×V)->List (Value×Value)->Prop:=Paired λp q=>RelV p.1 q.1/\RelV p.2 q.2
def Cz (X:Cx) (pos:Pos) (keys:List (Option Expr)) (values:List Expr) (trs:List (TE×TE)):Prop:=
 ∀(pins:GP) (s:Shared) (σ:St) (H:Hp) (Q:List (V×V)->Hp->Prop),aQ X pins σ H s->qy trs σ H Q->
  wpAny 135 X.A (evalPairs (pairTrees keys values X.env pos)) (λvs s'=>∃ps H',aQ X pins σ H' s'/\VV ps vs/\Q ps H') X.xe s
theorem wZ {X:Cx} {pos:Pos}:Cz X pos [] [] []:=λpins s σ H Q I h=>pairTrees_nil_walk ⟨[],H,I,.nil,h⟩
theorem oo {X:Cx} {pos:Pos} {k v:Expr} {ks:List (Option Expr)} {vs:List Expr} {tk tv:TE} {trs:List (TE×TE)} (hk:PE X k tk) (hv:PE X v tv) (hr:Cz X pos ks vs trs):
  Cz X pos (some k::ks) (v::vs) ((tk,tv)::trs):=λpins s σ H Q I h=>
 pairTrees_cons_walk (bG (hk pins s σ H _ I h) λu s1 ⟨x,H1,I1,rx,q1⟩=>bG (hv pins s1 σ H1 _ I1 q1) λw2 s2 ⟨y,H2,I2,ry,q2⟩=>
  bG (hr pins s2 σ H2 _ I2 q2) λws s3 ⟨ps,H3,I3,rel,q3⟩=>⟨(x,y)::ps,H3,I3,.cons ⟨rx,ry⟩ rel,q3⟩)
noncomputable def iH (kvs more:List (Key×V)):List (Key×V):=more.foldl (λacc kv=>putK acc kv.1 kv.2) kvs
theorem KV.merge:∀{more:List (Key×V)} {rs:List (Key×Value)} {kvs:List (Key×V)} {vs:List (Key×Value)},KV more rs->KV kvs vs->KV (iH kvs more) (merged vs rs):=by
 intro more rs kvs vs r;unfold KV at r
 induction r generalizing kvs vs with
 |nil=>intro q;exact q
 | @cons p q ps qs h t ih=>
  intro r0;have e:KV (putK kvs p.1 p.2) (stored vs q.1 q.2):=by
   have:=r0.put p.1 h.2;rw[<-h.1];exact this
  exact ih e
theorem iy:∀(more kvs:List (Key×V)),(iH kvs more).length<=kvs.length+more.length
 | [],kvs=>by show kvs.length<=kvs.length+0;lia
 |p::r,kvs=>by
  have h1:=iy r (putK kvs p.1 p.2);have h2:=fF kvs p.1 p.2;show (iH (putK kvs p.1 p.2) r).length<=_;rw[ER];lia
theorem ke {P:Program} {w:World}:∀{kvs:List (Key×V)} {ws:List (Value×Value)},VV (kvs.map λkv=>(kV kv.1,kv.2)) ws->∃rs,Carries (aN P w) ws rs/\KV kvs rs
 | [],_,r=>by rw[List.map_nil] at r;cases r;exact ⟨[],True.intro,.nil⟩
 |p::kvs,_,r=>by
  rw[F8] at r;cases r with
  | @cons a b as bs h t=>
   obtain ⟨rs,c,q⟩:=ke (P:=P) (w:=w) t;obtain ⟨b1,b2⟩:=b;exact ((p.1,b2)::rs,(jJ h.1,rfl,c),.cons (rfl,h.2) q)
def AS (trs:List (TE×TE)):TE:=λσ H Q=>∀p,H p=none->qy trs σ (aH H p (.dK [])) λps H2=>H2 p=some (.dK [])/\∃kvs:List (Key×V),ps=kvs.map (λkv=>(kV kv.1,kv.2))/\kvs.length<=15/\Q (.ref p) (aH H2 p (.dK (iH [] kvs)))
theorem w6 {X:Cx} {pos:Pos} {keys:List (Option Expr)} {values:List Expr} {trs:List (TE×TE)} (h:Cz X pos keys values trs) (hall:keys.all (·.isSome)=true) (hl:keys.length=values.length) (h0:keys≠ [])
  (h15:keys.length<=15):PE X (.Dict keys values pos) (AS trs):=by
 intro pins s σ H Q I q;have hn:=I.hok.fresh (E8 s.heap.objs.size);have I1:=I.laid (a:=s.heap.objs.size) (o:= .dK []) (h':=s.heap.push {cls:= .type "dict",data:= .dict #[]}) (t':=s.toks) (λ_ _ q=>Heap.get?_push_of_some _ q) (E8 _) (u6 s.heap I.big)
 refine wpAny_Dict_walk (knd:=aN X.prog X.w) hall hl h0 h15 (bG (h pins _ σ _ _ I1 (q _ hn)) λws s2 (ps,H2,I2,rel,e,kvs,ep,lk,q2)=>?_)
 subst ep;obtain ⟨rs,c,rk⟩:=ke (P:=X.prog) (w:=X.w) rel;obtain ⟨z,hd,vs0,r0,dd⟩:=oj I2.hok e;cases r0;refine (rs,c,dd,λh' dd' hs=>(.ref s.heap.objs.size,_,?_,rfl,q2))
 have hz:(iH [] kvs).length<=sizeLine:=by
  have h1:=iy kvs [];rw[List.length_nil] at h1;rw[sizeLine_eq];lia
 have he:∃q,h'.get? s.heap.objs.size=some q:=let ⟨q,_,_,hq,_⟩:=dd';⟨q,hq⟩;exact mY I2 (by rw[e];exact True.intro) hs he (u5 hz hd (rk.merge .nil) dd')
structure M2 (X:Cx) (o:Expr) (m:Str) (apos:Pos) (e f:Expr) (cpos:Pos):Prop where
 base:attributeBase o m X.env (eval o X.env)=eval o X.env
 few:((backTo cpos (starEach [e,f] X.env)).all (λx=> !x.1)&&(backToKw cpos (keywordEach [] X.env)).all (λx=>x.1.isSome)
  &&decide (([e,f]:List Expr).length+([]:List Keyword).length+(if ([]:List Keyword).isEmpty then 0 else 1)<30))=true
 line:(apos.endLine==cpos.line)=true
 trees:backTo cpos (starEach [e,f] X.env)= [(false,eval e X.env),(false,eval f X.env)]
def DI (H:Hp) (a:Addr):Prop:=(∃kvs,Rd H a 149)∨∃kvs,Rd H a (.dT kvs)
theorem yz {X:Cx} {pins:GP} {σ:St} {H:Hp} {s:Shared} {a:Addr} (I:aQ X pins σ H s) (d:DI H a):
  s.TypeIs (.ref a) "dict" /\(∀b,Value.ref a= .ref b->∃ob,s.heap.get? b=some ob/\ob.dict=none)/\(a==sysModules)=false:=by
 rcases d with ⟨kvs,e⟩|⟨kvs,e⟩
 ·obtain ⟨_,hd,vs,_,dd⟩:=kb I.hok e;refine (dd.typeIs,λb q=>?_,hd)
  cases q;obtain ⟨ob,_,_,h1,h2,_⟩:=dd;exact (ob,h1,h2.2.1)
 ·obtain ⟨_,hd,xs,_,dd⟩:=lJ I.hok e;refine (dd.typeIs,λb q=>?_,hd)
  cases q;obtain ⟨ob,_,_,h1,h2,_⟩:=dd;exact (ob,h1,h2.2.1)
section
variable {pins:GP} {σ:St} {H:Hp} {s:Shared} {a:Addr} {y d:V} {u r:Value} {o:Option V} {A:Around} {E:GN}
theorem yA {Q:GN} (hu:A.units+1<cLine) (I:aQ X pins σ H s) (g:iZ H a y o) (ry:RelV y u) (rd:RelV d r) (h:∀w' s',aQ X pins σ H s'->RelV (o.getD d) w'->Q w' s'):
  wpAny 135 A (call (.builtin "dict.get") [.ref a,u,r]) Q E s:=by
 rcases g with ⟨kvs,k,e,ey,l⟩|⟨kvs,k,b,e,ey,eb,l⟩
 ·subst ey;obtain ⟨z,hd,vs,rel,dd⟩:=kb I.hok e;refine call_meetsIn PySem.F.slot_dict_get dd.typeIs PySem.F.entry_dict_get (PySem.F.args_dict_get_3 _ _ _) (meets_dict_get_default (aN X.prog X.w) a (jJ ry) hd r) (_,dd.mapOf,h _ _ (I.tok _) ?_);rw[l];exact (rel.val k).getD rd
 ·subst ey;cases (show u=Value.ref b from ry)
  obtain ⟨z,hd,xs,rel,dd⟩:=lJ I.hok e;refine call_meetsIn PySem.F.slot_dict_get dd.typeIs PySem.F.entry_dict_get (PySem.F.args_dict_get_3 _ _ _) (meetsH_dict_get_default (tupleKind (aN X.prog X.w)) a b hd r) (tupleKind_room_in1 hu,k,xs,kc I.hok eb,dd,h _ _ (I.tok _) ?_);rw[l];exact (rel.val k).getD rd
end
def yB (td ty tx:TE):TE:=λσ H Q=>td σ H λx H1=>∃a,x= .ref a/\DI H1 a/\ty σ H1 λy H2=>tx σ H2 λz H3=>∃o,iZ H3 a y o/\Q (o.getD z) H3
section
variable {o e f:Expr} {apos cpos:Pos} {td ty tx:TE}
theorem u9 (hu:X.A.units+1<cLine) (ho:PE X o td) (he:PE X e ty) (hf:PE X f tx) (m:M2 X o "get" apos e f cpos):PE X (.Call (.Attribute o "get" apos) [e,f] [] cpos) (yB td ty tx):=by
 intro pins s σ H Q I h;refine wpAny_Call_method m.base m.few m.line PySem.F.plainAttrs_dict PySem.F.slot_dict_get PySem.F.type_dict_get (bG (ho pins s σ H _ I h) λu s1 (x,H1,I1,rx,a,ex,d,q1)=>?_)
 subst ex;obtain rfl:u=Value.ref a:=rx;obtain ⟨t1,t2,_⟩:=yz I1 d;exists t1,t2;rw[m.trees];refine Calls.callWith_builtin rfl (Calls.evalArgs_plain (Calls.spliced_cons (bG (he pins s1 σ H1 _ I1 q1) λiv s2 (y,H2,I2,ry,q2)=>
  Calls.spliced_cons (bG (hf pins s2 σ H2 _ I2 q2) λfv s3 ⟨z,H3,I3,rz,ov,g,q3⟩=>Calls.spliced_nil ?_))))
 exact yA hu I3 g ry rz λw' s4 I4 rw'=>(_,H3,I4,rw',q3)
end
end L2
namespace Att
open PySem PySem.W PySem.Calls PyProof.Rows
theorem jQ {P:Params} {h:Heap}:∀(ns:List Int) (vs:GS),WellAll P h vs (ns.map WData.int)->IntsAre vs ns:=by
 intro ns
 induction ns with
 |nil=>
  intro vs w;rw[List.map_nil] at w;cases w;exact .nil
 |cons n ns ih=>
  intro vs w;rw[F8] at w;cases w with
  |cons a b=>
   cases a;exact .cons _ _ (ih _ b)
theorem tN {l:OpenLaw} {n:Nat} (hn:l.most=some n) {P:Params} {h:Heap} {args:List WData} {vals:GS}
  (hpre:l.row.toRowW.claim.pre args=true) (hwl:WellAll P h vals args):
  ∃a vs ns,vals= [Value.ref a]/\args= [WData.list (ns.map WData.int)]/\h.get? a=some {cls:= .type "list",data:= .seq vs.toArray}/\IntsAre vs ns/\ns.length<=n:=by
 have hsh:WShape.hasAll [] args [.list .int]=true:=(pre_splitW hpre).1;have hc:l.pre.holds [] {args:=args}=true:=(pre_splitW hpre).2;obtain ⟨d,r,rfl,h1,h2⟩:=hasAllW_cons hsh;obtain rfl:=hasAllW_nil h2;obtain ⟨xs,rfl,h3⟩:=hasW_list h1;obtain ⟨ns,rfl⟩:=items_int h3;have hlen:ns.length<=n:=by
  unfold OpenLaw.pre at hc;have h4:(WTm.not (.lt (.lit (.int (n:Int))) (.len (.arg 0)))).holds [] {args:= [.list (ns.map .int)]}=true:=by
   have h4:=(holds_andW hc).1;rw[hn] at h4;exact h4
  have h5:=condW_of h4 (w_not (w_lt w_lit (w_len_list (w_arg rfl))));rw[E1] at h5;refine Nat.le_of_not_lt λq=>?_
  have q':(n:Int)<((ns.length:Nat):Int):=by lia
  first
   |(rw[decide_eq_true q'] at h5;exact absurd h5 (by decide))
   |(simp at h5;lia)
 cases hwl with
 |cons w1 w2=>
  cases w2;cases w1 with
  |list ho hall=>exact ⟨_,_,ns,rfl,rfl,ho,jQ ns _ hall,hlen⟩
theorem tO (l:OpenLaw) (args:List WData):l.row.toRowW.claim.post args (.bool true) args=true:=
 postW_of (r:=l.row.toRowW) (X:=(true==true))
  (show WShape.has [] (.bool true) .bool=true by first|rfl|decide|simp[WShape.has,WShape.arms,WShape.armsAll])
  (show (WTm.eq .res (.lit (.bool true))).value [] {args:=args,res:=some (.bool true),after:=args}=some (.bool (true==true)) from w_eq_bool (w_res rfl) w_lit) rfl
theorem oq {l:OpenLaw} {n:Nat} {q:Program} {loose:GQ} {XP:GO->Heap->Prop} {YP:World->Heap->Prop} {d:DefRec}
  (hn:l.most=some n) (hdf:d.params.defaults= [])
  (call:∀(w:World) (s₀ s₁:Shared) (mg mb:GO) (fa:Addr) (o:Obj) (pm cd doc:Value) (a:Addr) (vs:GS) (ns:List Int),
   Ground q loose [] XP w s₀ mg mb s₁.heap->YP w s₁.heap->
   s₁.heap.get? fa=some o->o.data= .func (docDef d.name d.params d.body d.scope pm cd doc)->s₁.heap.CodeRec cd d.name->mg d.name=some (.ref fa)->
   s₁.heap.get? a=some {cls:= .type "list",data:= .seq vs.toArray}->IntsAre vs ns->ns.length<=n->s₁.gens= #[]->
   codeAny (model l.prog w) callerA (.call (.ref fa) ⟨[.ref a],[]⟩) (λr s'=>r= .ok (.ret (.bool true))/\OldK s₁.heap s'.heap/\s'.os=s₁.os/\AllBare s'.gens) s₁):
  WalkO q loose XP YP l.row.toRowW d [] (λf vs=>PySem.call f vs):=by
 intro w s₀ s₁ mg mb G Y fa o pm cd doc dV kV ho hd hcd hD hmg hg args vals as hpre hlay hrd hwl hlo;obtain rfl:dV= .none:=Dflts.none hD hdf;obtain rfl:kV= .none:=Dflts.noKw hD;obtain ⟨a,vs,ns,rfl,rfl,hobj,hints,hlen⟩:=tN hn hpre hwl;refine enter_call (codeAny_mono (call w s₀ s₁ mg mb fa o pm cd doc a vs ns G Y ho (fd_plain hd) hcd hmg hobj hints hlen hg) λr s' hq=>?_)
 obtain ⟨rfl,h2,h3,h4⟩:=hq;exact (.inl (.bool true,.bool true,[],rfl,λ_=>rfl,.bool true,tO l _,λ_=>(List.Pairwise.nil,λ_ hm=>(nomatch hm))),h2,h3,h4)
end Att
namespace L2
open PySem PySem.Spec PyProof.Rows
theorem lK:∀{vs:GS} {ns:List Int},IntsAre vs ns->bC (ns.map V.int) vs
 |_,_,.nil=> .nil
 |_,_,.cons n t h=> .cons ⟨t,rfl⟩ (lK h)
def yC (H:Hp):Prop:=∀b,H b=none∨∃o xs,H b=some (.frz o (.lst xs))
theorem va {P:Program} {w:World} {K:E5} {mg mb:GO} {CX:rQ} {k:Nat} {fa a:Addr} {fd:FuncData} {x:Str} {sp:Sp} {s₁:Shared} {vs:GS} {ns:List Int}
  (KX:K.In s₁.heap) (hns:s₁.heap.Ns mainGlobals mg) (hb:s₁.heap.Ns builtinsNs mb) (hbb:∀x:Str,x≠ "__name__" ->mb x=bootBuiltins x) (hlim:s₁.heap.NoLimit) (hg:s₁.gens= #[])
  (ha:s₁.heap.get? a=some {cls:= .type "list",data:= .seq vs.toArray}) (hi:IntsAre vs ns) (hl:ns.length<=sizeLine) (hr:eD k callerA)
  (F:∀base:Heap,K.In base->base.Ns mainGlobals mg->bv P w K mg base CX k fa fd [x] sp) (hbind:∀(s:Shared) (u:Value),BindsTo s fd ⟨[u],[]⟩ [(x,u)])
  (hsp:∀H:Hp,yC H->aD K H a (ns.map V.int)->sp [.ref a] H (λv _=>v= .bl true) λ_ _ _=>False)
  (hCX:∀H e s',CX [] H s₁ (λ_ _ _=>False) e s'->False):
  codeAny (model P w) callerA (.call (.ref fa) ⟨[.ref a],[]⟩) (λr s'=>r= .ok (.ret (.bool true))/\OldK s₁.heap s'.heap/\s'.os=s₁.os/\AllBare s'.gens) s₁:=by
 have rv:=lK hi;have lenV:=hi.length;have core:∀H:Hp,yC H->aD K H a (ns.map V.int)->ix P w H s₁.heap->(∀b,H b≠none->b=a)->(H a≠none->K.lookup a=none)->
   codeAny (model P w) callerA (.call (.ref fa) ⟨[.ref a],[]⟩) (λr s'=>r= .ok (.ret (.bool true))/\OldK s₁.heap s'.heap/\s'.os=s₁.os/\AllBare s'.gens) s₁:=by
  intro H hO hS hok hA hK;have base_of:∀{b:Addr} {o:Obj},s₁.heap.get? b=some o->H b=none->(mQ s₁.heap H).get? b=some o:=λe n=>uN e n
  have noA:∀{b:Addr} {o:Obj} {es:Array DictEntry} {ep:Nat},s₁.heap.get? b=some o->o.data= .dict es ep->H b=none:=λ{b o es ep} e d=>by
   cases q:H b with
   |none=>rfl
   |some u=>
    have e':b=a:=hA b (by rw[q];simp)
    subst e';rw[ha] at e;cases e;have d':Data.seq vs.toArray _=Data.dict es ep:=d;cases d'
  have nsK:∀{b:Addr} {m:GO},s₁.heap.Ns b m->(mQ s₁.heap H).Ns b m:=λ{b m} ⟨o,es,ep,e,d,r⟩=>⟨o,es,ep,base_of e (noA e d),d,r⟩
  have hKb:K.In (mQ s₁.heap H):=λb o e=>base_of (KX b o e) (by
   cases q:H b with
   |none=>rfl
   |some u=>
    have e':b=a:=hA b (by rw[q];simp)
    subst e';rw[hK (by rw[q];simp)] at e;cases e)
  have hM:Mod K mg (mQ s₁.heap H):=⟨hKb,nsK hns,⟨mb,nsK hb,hbb⟩,let ⟨mc,h1,h2⟩:=hlim;⟨mc,nsK h1,h2⟩⟩;have e0:qq P w K mg (mQ s₁.heap H) callerA [] s₁ H:=⟨rfl,hM,λb o e=>wH e,Nat.le_of_eq (tf _ _),trivial,λb hb=>absurd (show b∈([]:GR) from hb) (by simp),hok,.of_eq hg⟩
  refine codeAny_mono ((F _ hKb (nsK hns)).run callerA [] s₁ H ([.ref a],[]) [.ref a] [.ref a] _ _ hr e0 (hbind s₁ (.ref a)) (.cons rfl .nil) (hsp H hO hS)) λr s' h=>?_
  cases r with
  |error e=>exact (hCX H e s' h).elim
  |ok fl=>
   cases fl with
   |next=>exact False.elim h
   |brk=>exact False.elim h
   |cont=>exact False.elim h
   |ret u=>
    obtain ⟨v,H',os,bare,un,hok',r',q⟩:=h;have q':v= .bl true:=q;subst q';obtain rfl:u=Value.bool true:=r';refine (rfl,OldK.of_keep λb o e=>?_,os,bare)
    cases q:H b with
    |none=>exact un.keep b o e q (by intro z;exact absurd (show b∈([]:GR) from z) 147) 147
    |some u=>
     rcases hO b with z|⟨ob,xs,z⟩
     ·rw[q] at z;cases z
     ·have z2:=un.frzs b ob _ z;obtain ⟨e1,_⟩:=hok b _ z;obtain ⟨e2,_⟩:=hok' b _ z2;rw[e] at e1;cases e1;exact e2
 cases hk:K.lookup a with
 |some o=>
  have e:=KX a o hk;rw[ha] at e;cases e;refine core (λ_=>none) (λ_=> .inl rfl) (.inr (_,vs.toArray,_,hk,rfl,rfl,rfl,by rw[EN,lenV];exact hl,by simpa using rv)) (λb u z=>by have z':(none:Option HO)=some u:=z;cases z') (λb z=>absurd rfl z) λz=>absurd rfl z
 |none=>
  refine core (λb=>if b=a then some (.frz {cls:= .type "list",data:= .seq vs.toArray} (.lst (ns.map V.int))) else none) (λb=>?_) (.inl (.inr ({cls:= .type "list",data:= .seq vs.toArray},if_pos rfl))) (λb u z=>?_) (λb z=>?_) λ_=>hk
  ·by_cases hb:b=a
   ·exact .inr (_,_,if_pos hb)
   ·exact .inl (if_neg hb)
  ·by_cases hb:b=a
   ·have z':=(if_pos hb).symm.trans z;cases z';subst hb;exact (ha,by rw[E1];exact hl,vs,_,rv,ha)
   ·have z':=(if_neg hb).symm.trans z;cases z'
  ·by_cases hb:b=a
   ·exact hb
   ·exact absurd (if_neg hb) z
theorem xa {l:PySem.W.OpenLaw} {n k:Nat} {q:Program} {loose:GQ} {XP:GO->Heap->Prop} {YP:World->Heap->Prop} {d:DefRec} {K:Params->E5} {CX:World->rQ} {sp:World->Sp} {x:Str}
  (hn:l.most=some n) (hn2:n<=sizeLine) (hdf:d.params.defaults= []) (hr:eD k callerA)
  (hY:∀(w:World) (h:Heap),YP w h->(K w.params).In h)
  (F:∀(w:World) (mg:GO) (fa:Addr) (h:Heap),(K w.params).In h->h.Ns mainGlobals mg->mg d.name=some (.ref fa)->
   ∃fd:FuncData,(∀(s:Shared) (u:Value),BindsTo s fd ⟨[u],[]⟩ [(x,u)])/\
    ∀base:Heap,(K w.params).In base->base.Ns mainGlobals mg->bv l.prog w (K w.params) mg base (CX w) k fa fd [x] (sp w))
  (hsp:∀(w:World) (H:Hp) (a:Addr) (ns:List Int),ns.length<=n->yC H->aD (K w.params) H a (ns.map V.int)->sp w [.ref a] H (λv _=>v= .bl true) λ_ _ _=>False)
  (hCX:∀(w:World) (H:Hp) (s:Shared) (e:Value) (s':Shared),CX w [] H s (λ_ _ _=>False) e s'->False):
  PySem.W.WalkO q loose XP YP l.row.toRowW d [] (λf vs=>PySem.call f vs):=by
 refine Att.oq hn hdf λw s₀ s₁ mg mb fa o pm cd doc a vs ns G Y ho hd hcd hmg hobj hints hlen hg=>?_
 have KX:=hY w _ Y;obtain ⟨fd,hb,hF⟩:=F w mg fa _ KX G.T.g hmg;exact va KX G.T.g G.T.b G.T.builtins G.T.nolimit hg hobj hints (FB hlen hn2) hr hF hb (λH hO hS=>hsp w H a ns hlen hO hS) λH e s'=>hCX w H s₁ e s'
noncomputable def fh (s:Stmt):Arguments:=match s with
 | .FunctionDef _ a _ _ _ _ _ _ _ _=>a
 |_=>{posonlyargs:= [],args:= [],vararg:=none,kwonlyargs:= [],kw_defaults:= [],kwarg:=none,defaults:= []}
noncomputable def eQ (s:Stmt):List Stmt:=match s with
 | .FunctionDef _ _ b _ _ _ _ _ _ _=>b
 |_=> []
noncomputable def aw (s:Stmt):Scope:=match s with
 | .FunctionDef _ _ _ _ _ _ sc _ _ _=>sc
 |_=>{kind:= .function,names:= [],isGenerator:=false,isCoroutine:=false}
abbrev bt:rQ:=λ_ _ _ _ _ _=>False
abbrev E0:XK:=λ_ _ _=>False
theorem x6 {X:Cx}:j9 bt X E0:=λ_ _ _ _ _ _ _ h=>h.elim
theorem gG {A:Around} {k:Nat} (hr:eD k A):A.units+1<cLine:=Nat.lt_of_le_of_lt (Nat.add_le_add_left (by decide:1<=64) _) hr.units
variable {X:Cx}
theorem pv (i:Nat) {x:Str} {pos:Pos} (hN:X.N[i]?=some x:=by rfl) (hv:Cq X.env.scope x:=by first|exact Or.inl rfl|exact Or.inr (Or.inl rfl)|exact Or.inr (Or.inr rfl)) (hd:(x==("__debug__" :Str))=false:=by decide)
  (hcd:(x==("__classdict__" :Str))=false:=by decide):PE X (.Name x pos) (At i):=yj hN hv hd hcd
theorem cu {A B:Prop} (h:B):if false=true then A else B:=by
 rw[if_neg Ec];exact h
theorem cC {A B:Prop} (h:A):if true=true then A else B:=by
 rw[if_pos rfl];exact h
def aE (H H':Hp):Prop:=∀b o,H b=some o->H' b=some o
theorem aE.refl (H:Hp):aE H H:=λ_ _ h=>h
theorem aE.trans {H H1 H2:Hp} (a:aE H H1) (b:aE H1 H2):aE H H2:=λc o h=>b c o (a c o h)
theorem aE.free {H H':Hp} (e:aE H H') {l:Addr} (h:H' l=Option.none):H l=Option.none:=by
 cases q:H l with
 |none=>rfl
 |some o=>
  rw[e l o q] at h;cases h
theorem aE.seq {K:E5} {H H':Hp} {a:Addr} {xs:List V} (e:aE H H') (h:aD K H a xs):aD K H' a xs:=by
 rcases h with (h|⟨o,h⟩)|h
 ·exact .inl (.inl (e _ _ h))
 ·exact .inl (.inr (o,e _ _ h))
 ·exact .inr h
theorem bg:gJ X (binaryOp .Mult) (rI (λi j=>IntMulOk i j) λi j=> .int (i*j)):=Cu λ_ _ _ _ _ _ _ hc q=>mul_int q hc
theorem bh:gJ X (binaryOp .FloorDiv) (rI (λi j=>j≠0/\Builtin.divisionGoesByPylong i j=false) λi j=> .int (i.fdiv j)):=Cu λ_ _ _ _ _ _ _ hc q=>floordiv_int hc.1 q (.inl hc.2)
theorem rV:gJ X (binaryOp .Pow) (rI (λi j=>0<=j/\(Builtin.Int.intBits i:Int)*j<=2^27) λi j=> .int (i^j.toNat)):=Cu λ_ _ _ _ _ _ _ hc q=>pow_int hc.1 hc.2 q
theorem ou:du X (.builtin "isinstance") (λxs H Q=>∃i,xs= [.int i,.ty "int"]/\Q (.bl true) H):=by
 intro pins s σ H xs us Q I r h;obtain ⟨i,rfl,q⟩:=h;obtain ⟨u,w',rfl,⟨t,rfl⟩,e2⟩:=vals2 r;cases e2;exact PySem.call_isinstance (PySem.isinstance_true (Tx:= "int") PySem.F.isi_meta_int PySem.F.isi_self_int) (rfl,(.bl true,H,I,rfl,q))
theorem mZ:du X (.builtin "isinstance") (λxs H Q=>∃i,xs= [.int i,.ty "bool"]/\Q (.bl false) H):=by
 intro pins s σ H xs us Q I r h;obtain ⟨i,rfl,q⟩:=h;obtain ⟨u,w',rfl,⟨t,rfl⟩,e2⟩:=vals2 r;cases e2;exact PySem.call_isinstance (PySem.isinstance_false_int (T:= "bool") 118 PySem.F.isi_meta_bool PySem.F.sub_int_bool) (.bl false,H,I.tok _,rfl,q)
theorem oy:du X (.builtin "isinstance") (λxs H Q=>∃i,xs= [.bl i,.ty "bool"]/\Q (.bl true) H):=by
 intro pins s σ H xs us Q I r h;obtain ⟨i,rfl,q⟩:=h;obtain ⟨u,w',rfl,e1,e2⟩:=vals2 r;cases e1;cases e2;exact PySem.call_isinstance (PySem.isinstance_true (Tx:= "bool") PySem.F.isi_meta_bool PySem.F.isi_self_bool) (rfl,(.bl true,H,I,rfl,q))
theorem oz:du X (.builtin "isinstance") (λxs H Q=>∃a ys,xs= [.ref a,.ty "tuple"]/\be X.K H a ys/\Q (.bl true) H):=by
 intro pins s σ H xs us Q I r h;obtain ⟨a,ys,rfl,hs,q⟩:=h;obtain ⟨u,w',rfl,e1,e2⟩:=vals2 r;cases e1;cases e2;obtain ⟨its,_,p1,_⟩:=I.tuple hs;exact PySem.call_isinstance (PySem.isinstance_true (Tx:= "tuple") PySem.F.isi_meta_tuple PySem.F.isi_self_tuple) (p1.typeIs,(.bl true,H,I,rfl,q))
end L2
namespace Sw
open PySem
end Sw
namespace L2
open PySem
inductive AT (K:E5) (H:Hp):V->String->Bool->Prop where
 |ii (i:Int):AT K H (.int i) "int" true
 |ib (i:Int):AT K H (.int i) "bool" false
 |bb (b:Bool):AT K H (.bl b) "bool" true
 |tt (a:Addr) (ys:List V) (h:be K H a ys):AT K H (.ref a) "tuple" true
theorem oA {X:Cx}:du X (.builtin "isinstance") (λxs H Q=>∃x T b,xs= [x,.ty T]/\AT X.K H x T b/\Q (.bl b) H):=by
 intro pins s σ H xs us Q I r h;obtain ⟨x,T,b,rfl,i,q⟩:=h;cases i with
 |ii i=>exact ou pins s σ H _ us Q I r ⟨i,rfl,q⟩
 |ib i=>exact mZ pins s σ H _ us Q I r ⟨i,rfl,q⟩
 |bb i=>exact oy pins s σ H _ us Q I r ⟨i,rfl,q⟩
 |tt a ys h=>exact oz pins s σ H _ us Q I r ⟨a,ys,rfl,h,q⟩
end L2
namespace Sw
open PySem L2
theorem dT {p A B:Prop} [Decidable p] (h:p) (a:A):if decide p=true then A else B:=by rw[if_pos (decide_eq_true h)];exact a
theorem dF {p A B:Prop} [Decidable p] (h:¬p) (b:B):if decide p=true then A else B:=by rw[if_neg (by simp[h])];exact b
theorem d2 {p A B:Prop} [Decidable p] (h1:p->A) (h2:¬p->B):if decide p=true then A else B:=by
 by_cases h:p
 ·exact dT h (h1 h)
 ·exact dF h (h2 h)
theorem nT {p A B:Prop} [Decidable p] (h:¬p) (a:A):if (!decide p)=true then A else B:=by rw[if_pos (by simp[h])];exact a
theorem nF {p A B:Prop} [Decidable p] (h:p) (b:B):if (!decide p)=true then A else B:=by rw[if_neg (by simp[h])];exact b
theorem vi {a b:Int} (h:a=b):V.int a=V.int b:=by rw[h]
theorem vj {a b:Int} (h:V.int a=V.int b):a=b:=by cases h;rfl
theorem tP {a b:Int} {A B:Prop} (h1:a=b->A) (h2:a≠b->B):if decide (V.int a=V.int b)=true then A else B:=d2 (λh=>h1 (vj h)) λh=>h2 λe=>h (vi e)
theorem xb {a b:Int} {A B:Prop} (h1:a≠b->A) (h2:a=b->B):if (!decide (V.int a=V.int b))=true then A else B:=by
 by_cases h:a=b
 ·exact nF (vi h) (h2 h)
 ·exact nT (λe=>h (vj e)) (h1 h)
theorem DX {a b:Int} {A B:Prop} (h:a≠b) (x:B):if decide (V.int a=V.int b)=true then A else B:=dF (λe=>h (vj e)) x
theorem DY {a b:Int} {A B:Prop} (h:a=b) (x:B):if (!decide (V.int a=V.int b))=true then A else B:=nF (vi h) x
def qz (K:E5):Sp:=λvs H Q _=>∃(a:Addr) (ns:List Int) (k:Int),vs= [.ref a,.int k]/\aD K H a (ns.map V.int)/\0<=k/\∀v:Int,Q (.int v) H
def rW:Sp:=λvs H Q _=>∃v:Int,vs= [.int v]/\Q (.bl true) H
def rX (K:E5):Sp:=λvs H Q _=>∃(a:Addr) (ns:List Int),vs= [.ref a]/\aD K H a (ns.map V.int)/\ns.length<=63/\∀H',Q (.bl true) H'
theorem xc {ns:List Int} {k:Int} (h0:0<=k) (h:k<(((ns.map V.int).length:Nat):Int)):∃v:Int,iP (ns.map V.int) k=some (.int v):=by
 rw[E1] at h;have hk:k.toNat<ns.length:=by lia
 have ek:k=((k.toNat:Nat):Int):=by lia
 have q:iP (ns.map V.int) ((k.toNat:Nat):Int)=some (.int ns[k.toNat]):=aT (by rw[EB,E2 hk]<;>rfl)
 rw[<-ek] at q;exact (_,q)
theorem cut {t u:TS} {D:Ends} {σ:L2.St} {H:Hp} (I:L2.St->Hp->Prop) (h1:∀N:L2.St->Hp->Prop,(∀σ H,I σ H->N σ H)->t {D with nx:=N} σ H) (h2:∀σ H,I σ H->u D σ H):aO t u D σ H:=h1 _ h2
theorem ac {H:Hp} {p:Addr} (h:H p=none) (o:HO):aE H (aH H p o):=λb u q=>by rw[aK (dH q h)];exact q
structure bz (K:E5) (x qual:Str) (st:Stmt) (dV:Value) (f:Addr) (fd:FuncData):Prop where
 ex:∃(oc:Value) (od:GT) (kV doc pm:Value) (an:GT) (cdv ct:Value) (osl:Array GU),
  fd=FS x qual (fh st) (eQ st) (aw st) dV kV doc pm an cdv ct/\K.lookup f=some ⟨oc,od,.func fd,osl⟩/\PySem.W.codeIn K cdv qual=true
 kp:Fi K (.ref f)=true
section
variable {P:Program} {w:World} {K:E5} {mg:GO} {base:Heap}
theorem bz.ok {x qual:Str} {st:Stmt} {dV:Value} {f:Addr} {fd:FuncData} {N ps:GQ} {k:Nat} {sp:Sp} (F:bz K x qual st dV f fd) (S:aF N ps (aw st)) (len:∀vs H Q E,sp vs H Q E->vs.length=ps.length)
  (hbody:∀(cdv:Value) (A:Around) (outer:List Env) (s:Shared) (H:Hp) (vs:List V) (Q:VK) (E:XK),eD k (A.deeper (PyProof.Rows.envOfC qual (aw st) s.heap.objs.size f cdv))->sp vs H Q E->
   ∃t,uI (tJ bt P w K mg base N qual (aw st) f cdv A outer s H E).nox (eQ st) t/\t {nx:=λ_ H'=>Q .non H',rt:=Q} (start N vs) H):bv P w K mg base bt (k+1) f fd ps sp:=by
 obtain ⟨oc,od,kV,doc,pm,an,cdv,ct,osl,rfl,lk,hcd⟩:=F.ex;refine AG lk hcd S len λA outer s H vs Q E hr hsp=>?_
 obtain ⟨t,h,q⟩:=hbody cdv A outer s H vs Q E hr hsp;exact (t,h.nox,q)
theorem bz.binds {x qual:Str} {st:Stmt} {T:Addr} {f:Addr} {fd:FuncData} {ps:GQ} {o:Obj} {items:Array Value} {n:Nat} {ds:GS} (F:bz K x qual st (.ref T) f fd) (ho:K.lookup T=some o) (hs:o.data= .seq items n)
  (h:∀(kV doc pm:Value) (an:GT) (cdv ct:Value) (us:GS),(us++ds).length=ps.length->∃k:Option (Array Value)->Sem (List (Str×Value)),bindArgs (FS x qual (fh st) (eQ st) (aw st) (.ref T) kV doc pm an cdv ct) ⟨us,[]⟩=seqItems? (.ref T)>>=k/\k (some items)=pure (ps.zip (us++ds))):Binds K fd ps ds:=by
 obtain ⟨oc,od,kV,doc,pm,an,cdv,ct,osl,rfl,lk,hcd⟩:=F.ex;intro s us KX hl;obtain ⟨k,h1,h2⟩:=h kV doc pm an cdv ct us hl;exact PySem.W.binds_K KX rfl ho hs h1 h2
theorem bz.binds0 {x qual:Str} {st:Stmt} {dV:Value} {f:Addr} {fd:FuncData} {ps:GQ} (F:bz K x qual st dV f fd)
  (h:∀(kV doc pm:Value) (an:GT) (cdv ct:Value) (us:GS),us.length=ps.length->bindArgs (FS x qual (fh st) (eQ st) (aw st) dV kV doc pm an cdv ct) ⟨us,[]⟩=pure (ps.zip us)):Binds K fd ps []:=by
 obtain ⟨oc,od,kV,doc,pm,an,cdv,ct,osl,rfl,lk,hcd⟩:=F.ex;exact .all (h kV doc pm an cdv ct)
theorem m6 {x qual:Str} {st:Stmt} {f:Addr} {oc dV:Value} {od an:GT} {osl:Array GU} {kV doc pm cdv ct:Value} (l:K.lookup f=some ⟨oc,od,.func (FS x qual (fh st) (eQ st) (aw st) dV kV doc pm an cdv ct),osl⟩)
  (c:PySem.W.codeIn K cdv qual=true) (k:Fi K (.ref f)=true):bz K x qual st dV f (FS x qual (fh st) (eQ st) (aw st) dV kV doc pm an cdv ct):=⟨⟨oc,od,kV,doc,pm,an,cdv,ct,osl,rfl,l,c⟩,k⟩
end
end Sw
namespace XH
open PySem
end XH
namespace L2
open PySem PySem.Spec PyProof.Rows XH
noncomputable def AU (n:Bool) (a:Addr) (cls:Value) (dx:GT):HO:= .ext λh=>∃ox vs,h.get? a=some ox/\ox.cls=cls/\ox.dict=dx/\ox.data= .fields vs/\vs[2]?=some .none/\(n=true->1<vs.size/\vs[1]?=some .none)
abbrev Cx.block (X:Cx) (scope:Scope) (cl:List (Str×Addr)) (C:Addr) (N:GQ) (own:Str) (fp:GR) (s:Shared) (H:Hp):Cx:=
 {X with env:=compEnvC scope cl C X.env,N:=N,s₀:=s,H₀:=H,outer:=X.stack,stack:=X.stack,ex:=fp,fn:=λy=>y==own,pn:= [],xe:=λ_ _=>False}
structure iI (X:Cx) (scope:Scope) (cl:List (Str×Addr)) (own:Str) (ys:GQ) (js:List Nat):Prop where
 clos:closureFor scope X.env=pure cl
 nocell:(scope.names.all λp=> !(p.2== .cell))=true
 kind:scope.kind= .function
 loc:(scope.names.all λp=> !(p.2== .local)||scope.names.lookup p.1==some .local)=true
 ownL:scope.names.lookup own=some .local
 sub:∀p∈cl,X.env.cells.lookup p.1=some p.2
 has:((relabel scope X.env).names.all λp=> !(p.2== .cell||p.2== .free)||(cl.lookup p.1).isSome)=true
 noown:cl.lookup own=none
 nd:(own::ys).Nodup
 at_:∀(i:Nat) (y:Str),ys[i]?=some y->∃j:Nat,js[i]?=some j/\X.N[j]?=some y/\(X.env.scope.names.lookup y=some .cell∨X.env.scope.names.lookup y=some .free)/\((relabel scope X.env).names.lookup y=some .cell∨(relabel scope X.env).names.lookup y=some .free)
 len:js.length=ys.length
noncomputable def aP (js:List Nat) (σ:St):St:=js.map λj=>(σ[j]?).getD none
def rY (js:List Nat) (te:TE) (σ:St) (Q:VK):It->Hp->Prop:=λJ H1=>∀p,H1 p=none->∃W:Nat->Nat->List V->Hp->Prop,(∃m,W 0 m [] (aH H1 p 142))/\
 ∀i m ys H2,W i m ys H2->H2 p=some (.lst ys)/\((J.stop i H2/\Q (.ref p) H2)∨(J.go i H2/\ys.length<sizeLine/\∀x H3,J.yld i H2 x H3->te (some x::aP js σ) H3 λy H4=>H4 p=some (.lst ys)/\∃m',m'<m/\W (i+1) m' (ys++ [y]) (aH H4 p (.lst (ys++ [y])))))
def vc (wi:TI) (js:List Nat) (te:TE):TE:=λσ H Q=>wi σ H (rY js te σ Q)
theorem lookup_all {α:Type} {f:Str×α->Bool} {x:Str} {a:α}:∀{l:List (Str×α)},l.all f=true->l.lookup x=some a->f (x,a)=true:=by
 intro l h e;exact ED.mp h _ (Eo e)
section
variable {prog:Program} {w:World} {A:Around} {R:Result->Shared->Prop} {s:Shared}
theorem dZ {elt target iter:Expr} {scope:Scope} {pos:Pos} {it acc:Value} {env:Env} (I:Nat->Shared->Prop)
  (turn:∀n s,I n s->wpAny 139 A (pyNext it) (λr s1=>match r with
   |none=>R (.ok .next) s1
   |some v=>wpAny 139 A (letOwnedTupleGo target it v) (λ_ s2=>wpAny 139 A (assign target env v) (λ_ s3=>wpAny 139 A (eval elt env) (λx s4=>
     wpAny 139 A (call (.builtin "list.append") [acc,x]) (λ_ s5=>∃m,m<n/\I m s5) (λ_ _=>False) s4) (λ_ _=>False) s3) (λ_ _=>False) s2) (λ_ _=>False) s1) (λ_ _=>False) s)
  (n:Nat) (h:I n s):codeAny 139 A (.compLoop (.ListComp elt [⟨target,iter,[],0⟩] scope pos) 0 it acc env) R s:=by
 apply codeAny_loop rfl I ?_ n h;intro n s hI;show wpAny _ _ ((compTurn (.ListComp elt [⟨target,iter,[],0⟩] scope pos) 0 it acc env).onRaise _) _ _ s;apply wpAny_noted;rw[compTurn_list1];apply wpAny_bind;apply wpAny_standAt;apply wpAny_bind;refine wpAny_mono (turn n s hI) (λr s1 h1=>?_) λ_ _ z=>z.elim
 cases r with
 |none=>exact wpAny_pure h1
 |some v=>
  apply wpAny_bind;refine wpAny_mono h1 (λ_ s2 h2=>?_) λ_ _ z=>z.elim
  apply wpAny_bind;refine wpAny_mono h2 (λ_ s3 h3=>?_) λ_ _ z=>z.elim
  apply wpAny_bind;apply wpAny_bind;refine wpAny_mono h3 (λx s4 h4=>?_) λ_ _ z=>z.elim
  apply wpAny_bind;refine wpAny_mono h4 (λ_ s5 h5=>?_) λ_ _ z=>z.elim
  exact wpAny_pure (wpAny_pure (rfl,h5))
end
variable {X:Cx} {scope:Scope} {cl:List (Str×Addr)} {own:Str} {ys:GQ} {js:List Nat} {fp:GR} {pins:GP} {σ:St} {H:Hp} {s s4:Shared}
theorem eU {h1:Heap} (ok:iI X scope cl own ys js) (I:aQ X pins σ H s) (hf:∀b∈fp,dX X pins H b) (hlt:∀b∈fp,b<s.heap.objs.size) (hns:h1.Ns s.heap.objs.size (λ_=>none))
  (hk:∀b o,s.heap.get? b=some o->h1.get? b=some o) (tk:Nat):
  aQ (X.block scope cl s.heap.objs.size (own::ys) own fp s H) [] (none::aP js σ) H {s with heap:=h1,toks:=tk}:=by
 have sub:∀y c,cl.lookup y=some c->X.env.cells.lookup y=some c:=λy c e=>ok.sub (y,c) (Eo e)
 refine ⟨⟨I.ok.mod,ok.kind,I.ok.glob,I.ok.blt,E8 _,λx y c e1 e2=>I.ok.inj x y c (sub x c e1) (sub y c e2),λx hx=>?_,λx c e1 e2=>?_,I.ok.hd,I.ok.frames,.inl rfl,λb hb=>(EF (hlt b hb),λx c e=>(hf b hb).2.2.2.2.1 x c (sub x c e)),
  I.bs,FB I.ok.bsz I.sz,λb o e hb=>?_,λb hb z=>?_,I.stack,I.stkFree⟩,rfl,I.bare,Un.kept hk,⟨_,hns,λi y v e1 e2 e3=>?_⟩,λy c e=>?_,I.hok.fresh (E8 _),λy c e=>I.freeC y c (sub y c e),λp hp=>absurd (show p∈([]:GP) from hp) 147,I.hok.kept hk,?_⟩
 ·have hx':(relabel scope X.env).names.lookup x=some .cell∨(relabel scope X.env).names.lookup x=some .free:=hx;rcases hx' with z|z
  ·have q:=lookup_all ok.has z;simp only[beq_self_eq_true,Fu,Fm,En] at q;exact Es.mp q
  ·have q:=lookup_all ok.has z;simp only[beq_self_eq_true,Bool.or_true,Fm,En] at q;exact Es.mp q
 ·have e1':(x==own)=true:=e1;have e:x=own:=beq_iff_eq.mp e1';have e2':cl.lookup x=some c:=e2;rw[e,ok.noown] at e2';cases e2'
 ·rcases (hf b hb).2.2.2.1 with z|z
  ·exact I.ok.noex b o e z
  ·exact absurd (Em (Heap.lt_size (I.ok.bs b o e).1) z) (Fh _)
 ·rcases EI.mp (I.stkSub b z) with q|q
  ·exact (hf b hb).2.1 q
  ·exact (hf b hb).2.2.1 q
 ·cases i with
  |zero=>cases e2
  |succ i=>
   have e1':ys[i]?=some y:=e1;obtain ⟨j,hj,hN,hX,hc⟩:=ok.at_ i y e1';have e2':(aP js σ)[i]?=some (some v):=e2;unfold aP at e2';rw[EB,hj] at e2';have hs:σ[j]?=some (some v):=by
    cases q:σ[j]? with
    |none=>rw[Fa,q] at e2';cases e2'
    |some o=>rw[Fa,q] at e2';exact e2'
   obtain ⟨m,hn,hl⟩:=I.loc;obtain ⟨u,r,l⟩:=hl j y v hN hs (hX.elim (λz=> .inr (.inl z)) λz=> .inr (.inr z))
   refine (u,r,.inr (hc,?_));rcases l with ⟨k,_⟩|⟨k,c,hcl,hcell⟩
   ·have k':X.env.scope.names.lookup y=some .local:=k;rcases hX with z|z<;>(rw[z] at k';cases k')
   ·have ex:∃c',cl.lookup y=some c':=by
     rcases hc with z|z
     ·have q:=lookup_all ok.has z;simp only[beq_self_eq_true,Fu,Fm,En] at q;exact Es.mp q
     ·have q:=lookup_all ok.has z;simp only[beq_self_eq_true,Bool.or_true,Fm,En] at q;exact Es.mp q
    obtain ⟨c',hc'⟩:=ex;have e:=sub y c' hc';rw[hcl] at e;cases e;obtain ⟨oc,hoc,hd⟩:=hcell;exact (c,hc',oc,hk _ _ hoc,hd)
 ·obtain ⟨v,oc,hoc,hd⟩:=I.cell y c (sub y c e);exact (v,oc,hk _ _ hoc,hd)
 ·show (none::aP js σ).length=(own::ys).length;simp[aP,ok.len]
theorem fQ {H':Hp} {h':Heap} {σ':St} (I:aQ X pins σ H s) (hf:∀b∈fp,dX X pins H b) (J:aQ (X.block scope cl s.heap.objs.size (own::ys) own fp s H) [] σ' H' s4) (hs:Heap.SameBut s.heap.objs.size s4.heap h'):
  aQ X pins σ H' {s4 with heap:=h'}:=by
 have low:∀b o,s.heap.get? b=some o->b≠s.heap.objs.size:=λb o e=>EF (Heap.lt_size e)
 have B:=J.base;have u:Un (tj X.stack) fp H H' s.heap h':={
  keep:=λb o q n hb hx=>(hs.2 b (low b o q)).trans (B.keep b o q n hb hx)
  slot:=λb o q n hb hx=>by
   obtain ⟨sl,e⟩:=B.slot b o q n hb hx;exact (sl,(hs.2 b (low b o q)).trans e)
  free:=B.free
  there:=λb o q hx=>by
   obtain ⟨o',e⟩:=B.there b o q hx;exact (o',(hs.2 b (low b o q)).trans e)
  tups:=B.tups
  frzs:=B.frzs
  tbls:=B.tbls}
 have hn:H' s.heap.objs.size=none:=J.free;have hk:ix X.prog X.w H' h':=λa o e=>(J.hok a o e).stay (λb v hb q=>(hs.2 b (by
  intro z;rcases hb with z'|z'
  ·rw[<-z',z,hn] at e;cases e
  ·rw[z,hn] at z';cases z')).trans q) (λ_ q=>q) λ_ _ q=>q
 exact I.call' (s':={s4 with heap:=h'}) (ch:=fp) J.os u hk J.bare λb hb=>⟨(hf b hb).2.2.2.1,(hf b hb).2.1,(hf b hb).2.2.2.2.1,(hf b hb).2.2.2.2.2⟩
variable {elt iter:Expr} {px pos:Pos} {wi:TI} {te:TE}
theorem bZ (hc:X.calm=true) (ok:iI X scope cl own ys js) (hi:PI X (.Name own px) iter wi)
  (he:∀(C:Addr) (fp:GR) (s:Shared) (H:Hp),PE (X.block scope cl C (own::ys) own fp s H) elt te)
  (hs:∀x,foldedSetIterable iter X.env x=pure x:=by intro _;rfl):PE X (.ListComp elt [⟨.Name own px,iter,[],0⟩] scope pos) (vc wi js te):=by
 intro pins s σ H Q I h;rw[eval_ListComp];have ncell:∀y∈scope.names,y.2≠ .cell:=λy hy z=>by
  have q:=ED.mp ok.nocell y hy;rw[z] at q;simp at q
 have nloc:∀y∈scope.names,y.2= .local->scope.names.lookup y.1=some .local:=λy hy z=>by
  have q:=ED.mp ok.loc y hy;rw[z] at q
  simpa using q
 refine wpAny_comprehension_free (use:=none) rfl hs ok.clos ok.kind nloc (bG (hi pins s σ H _ I h) λv s1 h1=>bG h1 λitv s2 h2=>?_)
 obtain ⟨it,fp,tn,J,H2,rfl,I2,T,st2,f2,q2⟩:=h2;obtain ⟨W,⟨m0,w0⟩,turn⟩:=q2 s2.heap.objs.size (I2.hok.fresh (E8 _));refine wpAny_newObj_type (wpAny_newFunctionEnv ncell (by intro y hy;simp at hy) (λh1 hns hsb=>?_) ok.kind)
 have I3:=I2.laid (a:=s2.heap.objs.size) (o:= .lst []) (h':=s2.heap.push 124) (t':=s2.toks) (λb u q=>Heap.get?_push_of_some _ q) (E8 _)
  ⟨El _,[],0,.nil,Heap.get?_push_size _ rfl⟩
 have fpo:∀b∈fp,b<s2.heap.objs.size:=λb hb=>by
  obtain ⟨o,e,_⟩:=T.obj 0 _ st2 b hb;exact Heap.lt_size e
 have f3:∀b∈fp,dX X pins 131 b:=λb hb=>⟨by rw[aK (EF (fpo b hb))];exact (f2 b hb).1,(f2 b hb).2⟩
 generalize hs3:({s2 with heap:=s2.heap.push 124,toks:=s2.toks}:Shared)=s3 at I3
 have e3:s3.heap=s2.heap.push {cls:= .type "list",dict:=none,data:= .seq ([]:GS).toArray}:=by rw[<-hs3]
 have lt3:∀b∈fp,b<s3.heap.objs.size:=λb hb=>by rw[e3,Heap.size_push];exact F0 (fpo b hb)
 dsimp only at hns hsb⊢;rw[<-e3] at hns hsb;have hk:∀b o,s3.heap.get? b=some o->h1.get? b=some o:=λb o e=>hsb.extBut b o (EF (Heap.lt_size e)) (Heap.get?_push_of_some _ e)
 have J0:=eU (h1:=h1) ok I3 f3 lt3 hns hk (s2.toks+0);have t0:tn 0 h1:=T.keep 0 _ _ st2 λb hb o e=>hk b o (by rw[e3];exact Heap.get?_push_of_some _ e)
 have fpB:∀{H':Hp},(∀b∈fp,H' b=none)->∀b∈fp,dX 116 [] H' b:=λ{H'} hn b hb=>
  ⟨hn b hb,EF (lt3 b hb),λz=>(EI.mp (I3.stkSub b z)).elim (f3 b hb).2.1 (f3 b hb).2.2.1,.inl hb,λx c e=>(f3 b hb).2.2.2.2.1 x c (ok.sub (x,c) (Eo e)),λp hp=>absurd (show p∈([]:GP) from hp) 147⟩
 have loop:codeAny 135 X.A (.compLoop (.ListComp elt [⟨.Name own px,iter,[],0⟩] scope pos) 0 (.ref it) 126 (compEnvC scope cl s3.heap.objs.size X.env))
   (compPost 135 X.A X.xe none (EP X pins σ Q) 126 s3.heap.objs.size) {s3 with heap:=h1,toks:=s2.toks+0}:=by
  refine dZ (λn s'=>∃i zs o0 H',aQ 116 [] (o0::aP js σ) H' s'/\tn i s'.heap/\(∀b∈fp,H' b=none)/\W i n zs H') ?_ m0
   ⟨0,[],none,_,J0,t0,λb hb=>(f3 b hb).1,w0⟩
  rintro n s5 ⟨i,zs,o0,H5,I5,t5,n5,w5⟩;obtain ⟨hD,hw⟩:=turn i n zs H5 w5;rcases hw with ⟨stop,qn⟩|⟨go,hz,step⟩
  ·refine bG (T.done 116 rfl rfl rfl hc i [] s5 _ H5 (λ_ _=>False) I5 (fpB n5) t5 stop) λr s6 (hr,I6)=>?_
   subst hr;obtain ⟨m,hn,_⟩:=id I6.loc;exact (m,hn,λh' hs'=>(V.ref s2.heap.objs.size,H5,fQ I3 f3 I6 hs',rfl,qn))
  ·refine bG (T.item 116 rfl rfl rfl hc i [] s5 _ H5 (λ_ _=>False) I5 (fpB n5) t5 go) λr s6 (u,hr,h6)=>?_
   subst hr;refine bG h6 λ_ s7 (x,H7,I7,r7,y7,t7,n7)=>?_
   have I7':=I7.pinned (fpB n7) (T.obj _ _ t7);have hst:=step x H7 y7;have own':(relabel scope X.env).names.lookup own=some .local:=lookup_relabel_local ok.ownL;refine bG (dG (X:=X.block scope cl s3.heap.objs.size (own::ys) own fp s3 131) (i:=0) (x:=own) (pos:=px) ok.nd rfl (.inl own') (.inr own') _ s7 _ H7 x u (λσ' H'=>σ'=some x::aP js σ/\H'=H7) I7' r7 (rfl,rfl)) λ_ s8 (σ8,H8,I8,e8,eH8)=>?_
   subst e8 eH8;refine bG (he _ _ _ _ _ s8 _ H8 _ I8 hst) λyv s9 (y,H9,I9,r9,hD9,m',hm,w9)=>?_
   refine bG (bw _ s9 _ H9 126 [y] 126 [yv] (λ_ H'=>H'=aH H9 s2.heap.objs.size (.lst (zs++ [y]))) I9 rfl (.cons r9 .nil) (_,zs,y,rfl,rfl,hD9,hz,rfl)) λ_ s10 (_,H10,I10,_,e10)=>?_
   subst e10;refine (m',hm,i+1,zs++ [y],some x,_,I10.unpinned,T.keep _ _ _ t7 λb hb o e=>(I10.pin (b,o) (E9 _ (E9 _ (bQ hb e)))).1,λb hb=>?_,w9)
   obtain ⟨o,e,d⟩:=T.obj _ _ t7 b hb;exact (I10.pin (b,o) (E9 _ (E9 _ (bQ hb e)))).2.1
 subst hs3;exact codeAny_compStart_list loop (T.self _ 0 _ _ _ t0 loop)
open PySem.Builtin PySem.Builtin.ObjectAttr
theorem kS:entryFor table "proto.unchain" =some Builtin.«proto.unchain» :=entryFor_of_fast (by kernel_rfl)
def oB (hd:GU) (H:Hp):Prop:=∀v,hd=some v->∃a n cls dx,v= .ref a/\H a=some (AU n a cls dx)
theorem oB.no {H:Hp}:oB none H:=λ_ z=>nomatch z
section
variable {prog:Program} {w:World} {A:Around} {E:GN}
theorem qA {it hx:Addr} {ox:Obj} {vs:Array Value} {x left step:Int} {Q:GU->Shared->Prop} (hh:A.handled=some (.ref hx)) (ho:s.heap.get? hx=some ox) (hd:ox.data= .fields vs) (h2:vs[2]?=some .none)
  (hit:IsRangeIter s.heap it x left step) (hleft:left<=0) (hQ:∀h',Heap.ExtBut it s.heap h'->Q none {s with heap:=h'}):wpAny 139 A (pyNext (.ref it)) Q E s:=by
 have hT:s.TypeIs (.ref it) "range_iterator" :=⟨_,hit,rfl⟩;unfold pyNext;refine wpAny_bind (wpAny_attempt (wpAny_callSpecial?_slot (name:=Str.ofString "__next__") hT F.slot_range_iterator_next
  (wpAny_call_entry F.slot_range_iterator_next hT F.entry_range_iterator_next ?_ (F.args_range_iterator_next_1 _))))
 show wpAny _ _ (field (.ref it) 0>>=_) _ _ s;refine wpAny_bind (wpAny_field hit rfl (x:=rawInt x) rfl ?_);show wpAny _ _ (field (.ref it) 1>>=_) _ _ s;refine wpAny_bind (wpAny_field hit rfl (x:=rawInt left) rfl ?_);show wpAny _ _ (field (.ref it) 2>>=_) _ _ s;refine wpAny_bind (wpAny_field hit rfl (x:=rawInt step) rfl ?_);show wpAny _ _ (if left<=0 then _ else _) _ _ s
 rw[if_pos hleft];refine wpAny_bind (wpAny_rule ?_);refine wpAny_bind ?_;show wpAny _ _ (newExc (.type "StopIteration") []>>=_) _ _ _;refine wpAny_bind ?_;simp only[newExc,newTuple];refine wpAny_bind (wpAny_newObj_type ?_ (by size_fits))
 refine wpAny_bind (m:=firstArgMember _ _) (wpAny_of_eq (a:=Value.none) (by first|rfl|(simp only[firstArgMember];rfl)) ?_)
 refine wpAny_newObj_type ?_ (by size_fits)
 simp only[raiseNew];refine wpAny_bind (wpAny_handled ?_);rw[show A.in1.handled=some (.ref hx) from hh]
 have g0:s.heap.get? (s.heap.push {cls:= .type "tuple",dict:=none,data:= .seq ([]:GS).toArray}).objs.size=none:=Heap.get?_none_of_le (by rw[Heap.size_push];lia)
 have ne:hx≠(s.heap.push {cls:= .type "tuple",dict:=none,data:= .seq ([]:GS).toArray}).objs.size:=λz=>by
  rw[z,g0] at ho;cases ho
 dsimp only;rw[if_pos (bne_iff_ne.mpr λz=>ne (Value.ref.inj z))]
 refine wpAny_bind (wpAny_holding (wpAny_runValue (codeAny_builtin kS ?_)));show wpAny _ _ (field (.ref hx) 2>>=_) _ _ _;refine wpAny_bind (wpAny_field (Heap.get?_push_of_some _ (Heap.get?_push_of_some _ ho)) hd h2 ?_);rw[if_pos (by rfl)]
 refine wpAny_bind (wpAny_pure (wpAny_pure ?_));refine wpAny_bind (m:=updateField _ 2 _) (wpAny_setField (Heap.get?_push_size _ rfl) rfl (by show 2<6;decide) ?_)
 refine wpAny_throw ?_;refine wpAny_bind (wpAny_isInstance (T:= "StopIteration") (b:=true) (_,Heap.get?_update_self _ (Heap.get?_push_size _ rfl) rfl,rfl) isSubtype_stop ?_);refine wpAny_pure (hQ _ λb o hb e=>?_)
 rw[Heap.get?_update_other _ _ (by
  intro z;rw[z] at g0;rw[g0] at e;cases e)]
 exact Heap.get?_push_of_some _ (Heap.get?_push_of_some _ e)
end
structure x8 (hd:GU) (P:Program) (w:World) (K:E5) (tg:Expr) (J:It) (fp:GR) (it:Addr) (tn:Nat->Heap->Prop):Prop where
 mem:it∈fp
 obj:∀i h,tn i h->∀b∈fp,∃o,h.get? b=some o/\∀v,o.data≠ .cell v
 keep:∀i h h',tn i h->(∀b∈fp,∀o,h.get? b=some o->h'.get? b=some o)->tn i h'
 item:∀(X:Cx),X.prog=P->X.w=w->X.K=K->X.A.handled=hd->∀(i:Nat) (pins:GP) (s:Shared) (σ:St) (H:Hp) (E:GN),aQ X pins σ H s->(∀b∈fp,dX X pins H b)->tn i s.heap->J.go i H->
  wpAny (model P w) X.A (pyNext (.ref it)) (λr s1=>∃u,r=some u/\
   wpAny (model P w) X.A (letOwnedTupleGo tg (.ref it) u) (λ_ s2=>∃x H',aQ X pins σ H' s2/\RelV x u/\J.yld i H x H'/\tn (i+1) s2.heap/\∀b∈fp,H' b=none) E s1) E s
 done:∀(X:Cx),X.prog=P->X.w=w->X.K=K->X.A.handled=hd->∀(i:Nat) (pins:GP) (s:Shared) (σ:St) (H:Hp) (E:GN),aQ X pins σ H s->(∀b∈fp,dX X pins H b)->tn i s.heap->J.stop i H->
  wpAny (model P w) X.A (pyNext (.ref it)) (λr s1=>r=none/\aQ X pins σ H s1) E s
 self:∀(A:Around) (i:Nat) (s:Shared) (Q:GN) (E:GN),tn i s.heap->Q (.ref it) s->wpAny (model P w) A (pyIter (.ref it)) Q E s
def AV (hd:GU) (X:Cx) (pins:GP) (σ:St) (tg:Expr) (R:It->Hp->Prop) (itv:Value) (s2:Shared):Prop:=
 ∃(it:Addr) (fp:GR) (tn:Nat->Heap->Prop) (J:It) (H':Hp),itv= .ref it/\aQ X pins σ H' s2/\x8 hd X.prog X.w X.K tg J fp it tn/\tn 0 s2.heap/\(∀b∈fp,dX X pins H' b)/\R J H'
def DJ (hd:GU) (X:Cx) (tg iter:Expr) (wi:TI):Prop:=
 ∀(pins:GP) (s:Shared) (σ:St) (H:Hp) (R:It->Hp->Prop),aQ X pins σ H s->wi σ H R->
  wpAny 135 X.A (eval iter X.env) (λv s1=>wpAny 135 X.A (pyIter v) (AV hd X pins σ tg R) X.xe s1) X.xe s
noncomputable def xf (hd:GU) (lo:Int) (n:Nat):It:=⟨λi _=>i<n,λi H x H'=>H'=H/\x= .int (lo+i),λi H=>n<=i/\oB hd H⟩
theorem oC {hd:GU} {P:Program} {w:World} {K:E5} {tg:Expr} (it:Addr) (lo:Int) (n:Nat):x8 hd P w K tg (xf hd lo n) [it] it (λi h=>IsRangeIter h it (lo+(i:Nat)*1) ((n:Int)-(i:Nat)) 1) where
 mem:=by simp
 obj:=λi h st b hb=>by
  have e:b=it:=by simpa using hb
  subst e;exact ⟨_,st,λv z=>by
   have z':Data.fields _=Data.cell v:=z;cases z'⟩
 keep:=λi h h' st k=>k it 147 _ st
 item:=by
  intro X hP hw hK hA i pins s σ H E I hf st hg;subst hP hw hK;obtain ⟨f0,f1,f2,f3,f4,f5⟩:=hf it 147
  have hg':i<n:=hg;refine wpAny_pyNext_range_item st (by lia) λh' st' sb=>?_
  have I1:aQ X pins σ H {s with heap:=h',toks:=s.toks+1}:=I.turned (λb o hb e=>(sb.2 b hb).trans e) f0 f1 f3 f4 f5
  have st2:IsRangeIter h' it (lo+((i+1:Nat):Int)*1) ((n:Int)-((i+1:Nat):Int)) 1:=by
   have e1:lo+((i+1:Nat):Int)*1=lo+(i:Int)*1+1:=by push_cast;lia
   have e2:(n:Int)-((i+1:Nat):Int)=(n:Int)-(i:Int)-1:=by push_cast;lia
   rw[e1,e2];exact st'
  refine ⟨_,rfl,n6 (s:={s with heap:=h',toks:=s.toks+1}) (n:= "range_iterator") st2 rfl rfl 118 ⟨.int (lo+i),H,I1,⟨s.toks,?_⟩,⟨rfl,rfl⟩,st2,λb hb=>(hf b hb).1⟩⟩
  rw[Int.mul_one]
 done:=by
  intro X hP hw hK hA i pins s σ H E I hf st hg;subst hP hw hK;obtain ⟨f0,f1,f2,f3,f4,f5⟩:=hf it 147
  obtain ⟨hl,hk⟩:=hg;cases hd with
  |none=>exact wpAny_pyNext_range_end hA st (by lia) λh' eb=>⟨rfl,I.turned (t':=s.toks) (λb o hb e=>eb b o hb e) f0 f1 f3 f4 f5⟩
  |some v=>
   obtain ⟨a,m,cls,dx,rfl,e⟩:=hk v rfl;obtain ⟨⟨ox,vs,h1,h2,h3,h4,h6,h5⟩,_⟩:=(show cq X.prog X.w H s.heap a (AU m a cls dx) from I.hok a _ e)
   exact qA hA h1 h4 h6 st (by lia) λh' eb=>(rfl,I.turned (t':=s.toks) (λb o hb e=>eb b o hb e) f0 f1 f3 f4 f5)
 self:=λ_ _ _ _ _ st h=>wpAny_pyIter_rangeiter st h
def AW (hd:GU) (ta:TA):TI:=λσ H R=>ta σ H λvs H1=>∃j:Int,vs= [.int j]/\ -(2^62)<=j/\j<2^62/\R (xf hd 0 j.toNat) H1
section
variable {tg:Expr} {hd:GU}
theorem tQ {pins:GP} {σ:St} {H:Hp} {s:Shared} {R:It->Hp->Prop} {E:GN} {lo hi:Int} {t u v:Tok} {tk:Nat} (I:aQ X pins σ H s) (h1: -(2^62)<=lo) (h2:lo<2^62) (h3: -(2^62)<=hi) (h4:hi<2^62)
  (q:R (xf hd lo (hi-lo).toNat) H):wpAny 135 X.A (pyIter (.ref s.heap.objs.size)) (AV hd X pins σ tg R) E {s with heap:=s.heap.push {cls:= .type "range",data:= .fields #[.int lo t,.int hi u,.int 1 v]},toks:=tk}:=by
 refine wpAny_pyIter_range (IsRange.new ..) (small_one h1 h2 h3 h4) ?_;have I1:aQ X pins σ H {s with heap:=s.heap.push {cls:= .type "range",data:= .fields #[.int lo t,.int hi u,.int 1 v]},toks:=tk}:=I.kept λb o e=>Heap.get?_push_of_some _ e
 refine ⟨(s.heap.push {cls:= .type "range",data:= .fields #[.int lo t,.int hi u,.int 1 v]}).objs.size,[(s.heap.push {cls:= .type "range",data:= .fields #[.int lo t,.int hi u,.int 1 v]}).objs.size],_,_,H,rfl,
  I1.kept (t':=tk) λb o e=>Heap.get?_push_of_some _ e,oC _ lo (hi-lo).toNat,?_,λb hb=>?_,q⟩
 ·have e1:lo+((0:Nat):Int)*1=lo:=by simp
  have e2:(((hi-lo).toNat:Nat):Int)-((0:Nat):Int)=Builtin.Range.rangeSize lo hi 1:=by rw[rangeSize_one];split<;>lia
  show IsRangeIter _ _ (lo+((0:Nat):Int)*1) ((((hi-lo).toNat:Nat):Int)-((0:Nat):Int)) 1;rw[e1,e2];exact Heap.get?_push_size _ rfl
 ·have e:b=(s.heap.push {cls:= .type "range",data:= .fields #[.int lo t,.int hi u,.int 1 v]}).objs.size:=by simpa using hb
  subst e;exact I1.fpOk (E8 _) (I1.hok.fresh (E8 _))
theorem lM {a:Expr} {ta:TA} {p pos:Pos} (hg:Gl X "range") (hm:X.mg "range" =none) (ha:PA X [a] ta) (hs:starEach [a] X.env= [(false,eval a X.env)]:=by rfl):DJ hd X tg (.Call (.Name "range" p) [a] [] pos) (AW hd ta):=by
 intro pins s σ H R I h;refine Call_ (dI I hg hm boot_range (Er (bG (ha pos pins s σ H _ I h) λus s1 (vs,H1,I1,r1,q1)=>?_) hs rfl))
 obtain ⟨j,e,q1,q2,q⟩:=q1;subst e;cases r1 with
 |cons r rr=>
  cases rr;obtain ⟨t,rfl⟩:=r;exact call_range_1 (tQ I1 (by lia) (by lia) q1 q2 (by simpa using q))
end
section
variable {hd:GU}
theorem oE (hA:X.A.handled=hd) (ok:iI X scope cl own ys js) (hi:DJ hd X (.Name own px) iter wi)
  (he:∀(C:Addr) (fp:GR) (s:Shared) (H:Hp),PE (X.block scope cl C (own::ys) own fp s H) elt te)
  (hs:∀x,foldedSetIterable iter X.env x=pure x:=by intro _;rfl):PE X (.ListComp elt [⟨.Name own px,iter,[],0⟩] scope pos) (vc wi js te):=by
 intro pins s σ H Q I h;rw[eval_ListComp];have ncell:∀y∈scope.names,y.2≠ .cell:=λy hy z=>by
  have q:=ED.mp ok.nocell y hy;rw[z] at q;simp at q
 have nloc:∀y∈scope.names,y.2= .local->scope.names.lookup y.1=some .local:=λy hy z=>by
  have q:=ED.mp ok.loc y hy;rw[z] at q
  simpa using q
 refine wpAny_comprehension_free (use:=none) rfl hs ok.clos ok.kind nloc (bG (hi pins s σ H _ I h) λv s1 h1=>bG h1 λitv s2 h2=>?_)
 obtain ⟨it,fp,tn,J,H2,rfl,I2,T,st2,f2,q2⟩:=h2;obtain ⟨W,⟨m0,w0⟩,turn⟩:=q2 s2.heap.objs.size (I2.hok.fresh (E8 _));refine wpAny_newObj_type (wpAny_newFunctionEnv ncell (by intro y hy;simp at hy) (λh1 hns hsb=>?_) ok.kind)
 have I3:=I2.laid (a:=s2.heap.objs.size) (o:= .lst []) (h':=s2.heap.push 124) (t':=s2.toks) (λb u q=>Heap.get?_push_of_some _ q) (E8 _)
  ⟨El _,[],0,.nil,Heap.get?_push_size _ rfl⟩
 have fpo:∀b∈fp,b<s2.heap.objs.size:=λb hb=>by
  obtain ⟨o,e,_⟩:=T.obj 0 _ st2 b hb;exact Heap.lt_size e
 have f3:∀b∈fp,dX X pins 131 b:=λb hb=>⟨by rw[aK (EF (fpo b hb))];exact (f2 b hb).1,(f2 b hb).2⟩
 generalize hs3:({s2 with heap:=s2.heap.push 124,toks:=s2.toks}:Shared)=s3 at I3
 have e3:s3.heap=s2.heap.push {cls:= .type "list",dict:=none,data:= .seq ([]:GS).toArray}:=by rw[<-hs3]
 have lt3:∀b∈fp,b<s3.heap.objs.size:=λb hb=>by rw[e3,Heap.size_push];exact F0 (fpo b hb)
 dsimp only at hns hsb⊢;rw[<-e3] at hns hsb;have hk:∀b o,s3.heap.get? b=some o->h1.get? b=some o:=λb o e=>hsb.extBut b o (EF (Heap.lt_size e)) (Heap.get?_push_of_some _ e)
 have J0:=eU (h1:=h1) ok I3 f3 lt3 hns hk (s2.toks+0);have t0:tn 0 h1:=T.keep 0 _ _ st2 λb hb o e=>hk b o (by rw[e3];exact Heap.get?_push_of_some _ e)
 have fpB:∀{H':Hp},(∀b∈fp,H' b=none)->∀b∈fp,dX 116 [] H' b:=λ{H'} hn b hb=>
  ⟨hn b hb,EF (lt3 b hb),λz=>(EI.mp (I3.stkSub b z)).elim (f3 b hb).2.1 (f3 b hb).2.2.1,.inl hb,λx c e=>(f3 b hb).2.2.2.2.1 x c (ok.sub (x,c) (Eo e)),λp hp=>absurd (show p∈([]:GP) from hp) 147⟩
 have loop:codeAny 135 X.A (.compLoop (.ListComp elt [⟨.Name own px,iter,[],0⟩] scope pos) 0 (.ref it) 126 (compEnvC scope cl s3.heap.objs.size X.env))
   (compPost 135 X.A X.xe none (EP X pins σ Q) 126 s3.heap.objs.size) {s3 with heap:=h1,toks:=s2.toks+0}:=by
  refine dZ (λn s'=>∃i zs o0 H',aQ 116 [] (o0::aP js σ) H' s'/\tn i s'.heap/\(∀b∈fp,H' b=none)/\W i n zs H') ?_ m0
   ⟨0,[],none,_,J0,t0,λb hb=>(f3 b hb).1,w0⟩
  rintro n s5 ⟨i,zs,o0,H5,I5,t5,n5,w5⟩;obtain ⟨hD,hw⟩:=turn i n zs H5 w5;rcases hw with ⟨stop,qn⟩|⟨go,hz,step⟩
  ·refine bG (T.done 116 rfl rfl rfl hA i [] s5 _ H5 (λ_ _=>False) I5 (fpB n5) t5 stop) λr s6 (hr,I6)=>?_
   subst hr;obtain ⟨m,hn,_⟩:=id I6.loc;exact (m,hn,λh' hs'=>(V.ref s2.heap.objs.size,H5,fQ I3 f3 I6 hs',rfl,qn))
  ·refine bG (T.item 116 rfl rfl rfl hA i [] s5 _ H5 (λ_ _=>False) I5 (fpB n5) t5 go) λr s6 (u,hr,h6)=>?_
   subst hr;refine bG h6 λ_ s7 (x,H7,I7,r7,y7,t7,n7)=>?_
   have I7':=I7.pinned (fpB n7) (T.obj _ _ t7);have hst:=step x H7 y7;have own':(relabel scope X.env).names.lookup own=some .local:=lookup_relabel_local ok.ownL;refine bG (dG (X:=X.block scope cl s3.heap.objs.size (own::ys) own fp s3 131) (i:=0) (x:=own) (pos:=px) ok.nd rfl (.inl own') (.inr own') _ s7 _ H7 x u (λσ' H'=>σ'=some x::aP js σ/\H'=H7) I7' r7 (rfl,rfl)) λ_ s8 (σ8,H8,I8,e8,eH8)=>?_
   subst e8 eH8;refine bG (he _ _ _ _ _ s8 _ H8 _ I8 hst) λyv s9 (y,H9,I9,r9,hD9,m',hm,w9)=>?_
   refine bG (bw _ s9 _ H9 126 [y] 126 [yv] (λ_ H'=>H'=aH H9 s2.heap.objs.size (.lst (zs++ [y]))) I9 rfl (.cons r9 .nil) (_,zs,y,rfl,rfl,hD9,hz,rfl)) λ_ s10 (_,H10,I10,_,e10)=>?_
   subst e10;refine (m',hm,i+1,zs++ [y],some x,_,I10.unpinned,T.keep _ _ _ t7 λb hb o e=>(I10.pin (b,o) (E9 _ (E9 _ (bQ hb e)))).1,λb hb=>?_,w9)
   obtain ⟨o,e,d⟩:=T.obj _ _ t7 b hb;exact (I10.pin (b,o) (E9 _ (E9 _ (bQ hb e)))).2.1
 subst hs3;exact codeAny_compStart_list loop (T.self _ 0 _ _ _ t0 loop)
end
end L2
namespace Sw
open PySem L2 XH
structure Dx (P:Program) (w:World) (K:E5) (mg:GO) (base:Heap) (CX:rQ) (k:Nat) (x:Str) (ps:GQ) (dvs:List V) (sp:Sp) where
 f:Addr
 fd:FuncData
 ok:bv P w K mg base CX k f fd ps sp
 m:mg x=some (.ref f)
 q:Fi K (.ref f)=true
 b:Binds K fd ps []
 bd:∃ds,Binds K fd ps ds/\bC dvs ds
section
variable {X:Cx} {k j:Nat} {x:Str} {ps:GQ} {sp:Sp} {p pos:Pos} {e:Expr} {es:List Expr} {t:TA} {dvs:List V} {E:St->XK}
theorem yD (D:Dx X.prog X.w X.K X.mg X.base bt k x ps dvs sp) (hr:eD j X.A) (hk:k<=j) (hg:Gl X x) (ha:PA X (e::es) t) (hdb:(x==("__debug__" :Str))=false:=by decide)
  (he:starEach (e::es) X.env=(false,eval e X.env)::starEach es X.env:=by rfl) (hpl:(backTo pos (starEach es X.env)).any (·.1)=false:=by rfl):
  PE X (.Call (.Name x p) (e::es) [] pos) (uV sp [] E0 t):=
 wP D.ok (hr.mono hk) hg D.m D.q D.b .nil x6 ha hdb he hpl
end
end Sw
namespace L2
open PySem PySem.Spec PyProof.Rows XH
theorem lN {X:Cx} {K:E5} (hK:X.K=K):du X (.builtin "isinstance") (λxs H Q=>∃x t T b,xs= [x,.ty T]/\iU K H x t/\PySem.W.kitOne K t (.type T)=some b/\Q (.bl b) H):=by
 subst hK;intro pins s σ H xs us Q I r h;obtain ⟨x,t,T,b,rfl,ty,e,q⟩:=h;obtain ⟨u,w',rfl,e1,e2⟩:=vals2 r;cases e2;exact tI I e1 ty e λtk=>(.bl b,H,I.tok tk,rfl,q)
end L2
namespace Sw
open PySem L2 XH
end Sw
namespace L2
open PySem PySem.Spec PyProof.Rows XH
def Db:V->Prop
 | .bl _=>True
 | .int _=>True
 | .str _=>True
 | .non=>True
 |_=>False
theorem vd {A:Around} {s:Shared} {v:V} {u w:Value} (h:Db v) (r1:RelV v u) (r2:RelV v w):SeqAt.EqAt A s u w true:=by
 cases v with
 |bl b=>
  cases r1;cases r2;have z:=SeqAt.EqAt.bool_bool (A:=A) (s:=s) b b;rw[beq_self_eq_true] at z;exact z
 |int i=>
  obtain ⟨t,rfl⟩:=r1;obtain ⟨t',rfl⟩:=r2;have z:=SeqAt.EqAt.int_int (A:=A) (s:=s) i t i t';rw[beq_self_eq_true] at z;exact z
 |str i=>
  obtain ⟨t,rfl⟩:=r1;obtain ⟨t',rfl⟩:=r2;have z:=SeqAt.EqAt.str_str (A:=A) (s:=s) i t i t';rw[beq_self_eq_true] at z;exact z
 |non=>
  cases r1;cases r2;exact SeqAt.EqAt.same _
 |_=>exact absurd h (λz=>z)
end L2
namespace Sw
open PySem L2 XH PyProof.Rows
theorem yE {hd:GU} {H H':Hp} (h:oB hd H) (g:aE H H'):oB hd H':=λv e=>by
 obtain ⟨a,n,cls,dx,e1,e2⟩:=h v e;exact (a,n,cls,dx,e1,g _ _ e2)
theorem dJ {H H':Hp} {p:Addr} (g:aE H H') (h:H p=none) (o:HO):aE H (aH H' p o):=λb u q=>by
 rw[aK (dH q h)];exact g b u q
def jr (X:Cx) (scope:Scope) (ys:GQ) (js:List Nat):Prop:=∀(i:Nat) (y:Str),ys[i]?=some y->∃j:Nat,js[i]?=some j/\X.N[j]?=some y/\(X.env.scope.names.lookup y=some .cell∨X.env.scope.names.lookup y=some .free)/\((relabel scope X.env).names.lookup y=some .cell∨(relabel scope X.env).names.lookup y=some .free)
theorem fR {X:Cx} {scope:Scope}:jr X scope [] []:=λi y h=>by simp at h
theorem ie {X:Cx} {scope:Scope} {ys:GQ} {js:List Nat} {y:Str} {j:Nat} (t:jr X scope ys js) (h1:X.N[j]?=some y:=by rfl) (h2:X.env.scope.names.lookup y=some .cell∨X.env.scope.names.lookup y=some .free:=by first|exact Or.inl rfl|exact Or.inr rfl)
  (h3:(relabel scope X.env).names.lookup y=some .cell∨(relabel scope X.env).names.lookup y=some .free:=by first|exact Or.inl rfl|exact Or.inr rfl):jr X scope (y::ys) (j::js):=λi z h=>by
 cases i with
 |zero=>
  cases h;exact (j,rfl,h1,h2,h3)
 |succ i=>exact t i z h
inductive qB (X:Cx):List (Str×Addr)->Prop where
 |nil:qB X []
 |cons {y:Str} {c:Addr} {cl:List (Str×Addr)} (h:X.env.cells.lookup y=some c) (t:qB X cl):qB X ((y,c)::cl)
theorem qB.all {X:Cx} {cl:List (Str×Addr)} (h:qB X cl):∀p∈cl,X.env.cells.lookup p.1=some p.2:=by
 induction h with
 |nil=>intro p hp;simp at hp
 |cons h _ ih=>
  intro p hp;rcases EI.mp hp with e|e
  ·rw[e];exact h
  ·exact ih p e
theorem cok {X:Cx} {scope:Scope} {cl:List (Str×Addr)} {own:Str} {ys:GQ} {js:List Nat} (a:jr X scope ys js) (s:qB X cl) (nd:(own::ys).Nodup) (len:js.length=ys.length) (clos:closureFor scope X.env=pure cl) (nocell:(scope.names.all λp=> !(p.2== .cell))=true) (kind:scope.kind= .function)
  (loc:(scope.names.all λp=> !(p.2== .local)||scope.names.lookup p.1==some .local)=true) (ownL:scope.names.lookup own=some .local) (has:((relabel scope X.env).names.all λp=> !(p.2== .cell||p.2== .free)||(cl.lookup p.1).isSome)=true) (noown:cl.lookup own=none):iI X scope cl own ys js:=
 ⟨clos,nocell,kind,loc,ownL,s.all,has,noown,nd,a,len⟩
structure Dc (P:Program) (w:World) (K:E5) (mg:GO) (base:Heap) (CX:rQ) (k:Nat) (f:Addr) (ps:GQ) (dvs:List V) (sp:Sp) where
 fd:FuncData
 ok:bv P w K mg base CX k f fd ps sp
 b:Binds K fd ps []
 bd:∃ds,Binds K fd ps ds/\bC dvs ds
section
variable {X:Cx} {k j:Nat} {f C:Addr} {ps:GQ} {sp:Sp} {dvs:List V} {x m:Str} {p pos apos:Pos} {e o:Expr} {es:List Expr} {ta tb:TE} {t:TA}
theorem yF (M:Mk X.K C f) (D:Dc X.prog X.w X.K X.mg X.base bt k f ps dvs sp) (hr:eD j X.A) (hk:k+1<=j) (hg:Gl X x) (hm:X.mg x=some (.ref C)) (ha:PA X (e::es) t) (hdb:(x==("__debug__" :Str))=false:=by decide)
  (he:starEach (e::es) X.env=(false,eval e X.env)::starEach es X.env:=by rfl) (hpl:(backTo pos (starEach es X.env)).any (·.1)=false:=by rfl):PE X (.Call (.Name x p) (e::es) [] pos) (x4 C sp [] E0 t):=
 wQ M D.ok (hr.mono hk) hg hm D.b .nil x6 ha hdb he hpl
end
end Sw
namespace L2
open PySem PySem.Spec PyProof.Rows
variable {X:Cx} {pins:GP} {σ:St} {H:Hp} {s:Shared} {h':Heap}
theorem aQ.turnedNew {ch:GR} {T:Addr} {o:HO} {t':Nat} (I:aQ X pins σ H s) (hf:∀b∈ch,dX X pins H b) (k:∀b u,b∉ch->s.heap.get? b=some u->h'.get? b=some u) (hp:s.heap.objs.size<=T) (new:cq X.prog X.w (aH H T o) h' T o):
  aQ X pins σ (aH H T o) {s with heap:=h',toks:=t'}:=by
 have nT:H T=none:=I.hok.fresh hp;have ne:∀b u,H b=some u->b≠T:=λb u e z=>by rw[z,nT] at e;cases e
 have nch:∀b u,H b=some u->b∉ch:=λb u e z=>by rw[(hf b z).1] at e;cases e
 have up:∀b u,H b=some u->aH H T o b=some u:=λb u e=>by rw[aK (ne b u e)];exact e
 refine I.step (g':=s.gens) (d':=s.drawn) (ch:=ch) (λb hb=>?_) (λb u _ _ hc e _=>k b u hc e) (λb u _ _ hc e _=>(u.slots,k b u hc e)) (λb u _ e n=>?_)
  (λb u hc e=>⟨u,k b u hc e⟩) (λb xs e=>up b _ e) (λb u v e=>up b _ e) (λb ps e=>⟨#[],by rw[up b _ e];simp⟩) (λm hm=>?_) (λb u e=>?_) I.bare
 ·obtain ⟨f0,f1,f2,f3,f4,f5⟩:=hf b hb;exact (f3,f1,f4,f5)
 ·have:b≠T:=EF (Em (Heap.lt_size e) hp);rw[aK this];exact n
 ·obtain ⟨u,es,ep,ho,r⟩:=hm;exact (u,es,ep,k _ u (λz=>(hf _ z).2.1 rfl) ho,r)
 ·by_cases c:b=T
  ·subst c;rw[ae] at e;cases e;exact new
  ·rw[aK c] at e;refine (I.hok b u e).stay (λc' v hc q=>k c' v ?_ q) (λ_ q=>up _ _ q) λ_ _ q=>up _ _ q
   rcases hc with z|z
   ·rw[z];exact nch b u e
   ·exact nch c' _ z
theorem aQ.turnedAll {ch:GR} {t':Nat} (I:aQ X pins σ H s) (hf:∀b∈ch,dX X pins H b) (k:∀b u,b∉ch->s.heap.get? b=some u->h'.get? b=some u):aQ X pins σ H {s with heap:=h',toks:=t'}:=by
 have nch:∀b u,H b=some u->b∉ch:=λb u e z=>by rw[(hf b z).1] at e;cases e
 refine I.step (g':=s.gens) (d':=s.drawn) (ch:=ch) (λb hb=>?_) (λb u _ _ hc e _=>k b u hc e) (λb u _ _ hc e _=>(u.slots,k b u hc e)) (λb u _ e n=>n)
  (λb u hc e=>⟨u,k b u hc e⟩) (λb xs e=>e) (λb u v e=>e) (λb ps e=>⟨#[],by rw[e];simp⟩) (λm hm=>?_) (λb u e=>?_) I.bare
 ·obtain ⟨f0,f1,f2,f3,f4,f5⟩:=hf b hb;exact (f3,f1,f4,f5)
 ·obtain ⟨u,es,ep,ho,r⟩:=hm;exact (u,es,ep,k _ u (λz=>(hf _ z).2.1 rfl) ho,r)
 ·refine (I.hok b u e).stay (λc' v hc q=>k c' v ?_ q) (λ_ q=>q) λ_ _ q=>q
  rcases hc with z|z
  ·rw[z];exact nch b u e
  ·exact nch c' _ z
noncomputable def AX (K:E5) (l:Addr):It:=
 ⟨λi H=>∃xs x,aD K H l xs/\xs[i]?=some x,λi H v H'=>∃(T:Addr) (x:V),v= .ref T/\H T=none/\(∀xs,aD K H l xs->xs[i]?=some x)/\H'=aH H T (.tup [.int i,x]),λi H=>∃xs,aD K H l xs/\xs.length<=i⟩
theorem tR {P:Program} {w:World} {K:E5} {elts:List Expr} {k:Nat} {pos:Pos} (l e it:Addr) (ne:e≠it):Turn P w K (.Tuple elts k pos) (AX K l) [e,it] e (λi h=>(∃old,IsEnum h e it i old)/\h.IsListIter it l i) where
 mem:=by simp
 obj:=λi h st b hb=>by
  obtain ⟨⟨old,he⟩,o,e1,c,d⟩:=st;rcases EI.mp hb with z|z
  ·subst z;exact (_,he,λv z=>by cases z)
  ·rw[EA.mp z];exact (o,e1,λv z=>by rw[d] at z;cases z)
 keep:=λi h h' st k=>⟨let ⟨old,he⟩:=st.1;⟨old,k e (by simp) _ he⟩,st.2.at λo q=>k it (by simp) o q⟩
 item:=by
  intro X hP hw hK hc i pins s σ H E I hf st hg;subst hP hw hK;obtain ⟨xs,x,hq,hx⟩:=hg;obtain ⟨its,rv,p,hz⟩:=I.list hq;obtain ⟨u,hu,ru⟩:=rv.get hx;obtain ⟨⟨old,he⟩,hit⟩:=st;refine wpAny_pyNext_enum_item he hit p.isList (x:=u) (by simpa using hu) ne λh1 ho hit' hT hsz hk=>?_
  refine ⟨_,rfl,wpAny_letOwnedTupleGo_enum (s:={s with heap:=h1,toks:=s.toks+1}) ho λh2 he2 hs2=>?_⟩
  have nT:H s.heap.objs.size=none:=I.hok.fresh (E8 _);have el:e<s.heap.objs.size:=Heap.lt_size he;have il:it<s.heap.objs.size:=by obtain ⟨_,q,_⟩:=hit;exact Heap.lt_size q
  have hT2:h2.get? s.heap.objs.size=some {cls:= .type "tuple",data:= .seq #[.int i s.toks,u]}:=(hs2.2 _ (FW el)).trans hT;have kp:∀b o,b∉ [e,it]->s.heap.get? b=some o->h2.get? b=some o:=λb o hb q=>by
   simp at hb;exact (hs2.2 b hb.1).trans (hk b o hb.1 hb.2 q)
  refine ⟨.ref s.heap.objs.size,aH H s.heap.objs.size (.tup [.int i,x]),I.turnedNew (t':=s.toks+1) (ch:= [e,it]) hf kp (E8 _) (by show 2<=sizeLine;decide,[.int i s.toks,u],.cons ⟨ν⟩ (.cons ru .nil),(_,hT2,rfl,0,rfl)),rfl,
   ⟨_,x,rfl,nT,λys hy=>by rw[I.list_inj hy hq];exact hx,rfl⟩,⟨⟨u,?_⟩,?_⟩,λb hb=>?_⟩
  ·simpa using he2
  ·exact hit'.at λo q=>(hs2.2 it (Ne.symm ne)).trans q
  ·have bl:b≠s.heap.objs.size:=by
    rcases EI.mp hb with z|z
    ·rw[z];exact EF el
    ·rw[EA.mp z];exact EF il
   rw[aK bl];exact (hf b hb).1
 done:=by
  intro X hP hw hK hc i pins s σ H E I hf st hg;subst hP hw hK;obtain ⟨xs,hq,hx⟩:=hg;obtain ⟨its,rv,p,hz⟩:=I.list hq;obtain ⟨⟨old,he⟩,hit⟩:=st;have hl:=rv.length;exact wpAny_pyNext_enum_end (I.ok.hd hc) he hit p.isList (by simp;lia) λh' eb=>(rfl,I.turnedAll (t':=s.toks) (ch:= [e,it]) hf λb o hb q=>eb b o (λz=>hb (by simp[z])) q)
 self:=λ_ _ _ _ _ st h=>let ⟨_,he⟩:=st.1;wpAny_pyIter_enum he h
def AY (K:E5) (ta:TA):TI:=λσ H R=>ta σ H λvs H1=>∃l:Addr,vs= [.ref l]/\(∃xs,aD K H1 l xs)/\R (AX K l) H1
theorem boot_enumerate:bootBuiltins "enumerate" =some (.type "enumerate"):=by kernel_rfl
theorem xg {X:Cx} {a:Expr} {ta:TA} {elts:List Expr} {k:Nat} {tp p pos:Pos} (hg:Gl X "enumerate") (hm:X.mg "enumerate" =none) (ha:PA X [a] ta) (hs:starEach [a] X.env= [(false,eval a X.env)]:=by rfl):PI X (.Tuple elts k tp) (.Call (.Name "enumerate" p) [a] [] pos) (AY X.K ta):=by
 intro pins s σ H R I h;refine Call_ (dI I hg hm boot_enumerate (Er (bG (ha pos pins s σ H _ I h) λus s1 (vs,H1,I1,r1,q1)=>?_) hs rfl))
 obtain ⟨l,e,⟨xs,hq⟩,q⟩:=q1;subst e;cases r1 with
 |cons r rr=>
  cases rr;cases r;obtain ⟨its,rv,p1,hz⟩:=I1.list hq;refine call_enumerate_list p1.isList λh' he hit hsz hk=>?_
  refine wpAny_pyIter_enum (s:={s1 with heap:=h'}) he ?_
  have I2:aQ X pins σ H1 {s1 with heap:=h'}:=I1.kept (t':=s1.toks) hk
  refine (s1.heap.objs.size+1,[s1.heap.objs.size+1,s1.heap.objs.size],_,_,H1,rfl,I2,tR l _ _ (Nat.succ_ne_self _),((_,by simpa using he),hit),λb hb=>?_,q)
  have bl:s1.heap.objs.size<=b:=by
   rcases EI.mp hb with z|z
   ·rw[z];exact Ft _
   ·rw[EA.mp z];exact E8 _
  exact I1.fpOk bl (I1.hok.fresh bl)
theorem ve {K:E5} {a:Addr} {xs:List V} {g:TG} {tb:TS} {D:Ends} {σ:St} {H:Hp} (Pv:Nat->St->Hp->Prop) (h0:Pv 0 σ H) (hl:∀i σ H,i<=xs.length->Pv i σ H->aD K H a xs)
  (hs:∀i x σ H (T:Addr),xs[i]?=some x->Pv i σ H->H T=none->g (.ref T) σ (aH H T (.tup [.int i,x])) λσ2 H2=>tb {D with nx:=Pv (i+1),ct:=Pv (i+1),bk:=D.nx} σ2 H2) (hd:∀σ H,Pv xs.length σ H->D.nx σ H):
  ∃W:Nat->Nat->St->Hp->Prop,(∃m,W 0 m σ H)/\∀i m σ H,W i m σ H->
   ((AX K a).stop i H/\D.nx σ H)∨((AX K a).go i H/\∃N:St->Hp->Prop,(∀σ' H',N σ' H'->∃m',m'<m/\W (i+1) m' σ' H')/\∀x H',(AX K a).yld i H x H'->g x σ H' λσ2 H2=>tb {D with nx:=N,ct:=N,bk:=D.nx} σ2 H2):=by
 exists λi m σ H=>m=xs.length-i/\i<=xs.length/\Pv i σ H,(xs.length,by simp,El _,h0)
 rintro i m σ H ⟨rfl,hi,p⟩;have q:=hl i σ H hi p
 by_cases hlt:i<xs.length
 ·refine .inr ((xs,xs[i],q,by simp[hlt]),Pv (i+1),λσ' H' p'=>(xs.length-(i+1),by lia,rfl,hlt,p'),λx H' y=>?_)
  obtain ⟨T,z,rfl,nT,hz,rfl⟩:=y;exact hs i z σ H T (hz xs q) p nT
 ·have e:i=xs.length:=by lia
  subst e;exact .inl ((xs,q,E8 _),hd σ H p)
noncomputable def Ao (K:E5) (l1 l2:Addr):It:=
  ⟨λi H=>∃xs ys x y,aD K H l1 xs/\aD K H l2 ys/\xs[i]?=some x/\ys[i]?=some y,
   λi H v H'=>∃(T:Addr) (x y:V),v= .ref T/\H T=none/\(∀xs,aD K H l1 xs->xs[i]?=some x)/\(∀ys,aD K H l2 ys->ys[i]?=some y)/\H'=aH H T (.tup [x,y]),
   λi H=>∃xs ys,aD K H l1 xs/\aD K H l2 ys/\(xs.length<=i∨ys.length<=i)⟩
structure vh (h:Heap) (z TI TO i1 i2 l1 l2:Addr) (i:Nat):Prop where
 zip:IsZip h z TI TO .none
 ti:IsPair h TI (.ref i1) (.ref i2)
 to:∃a b,IsPair h TO a b
 it1:h.IsListIter i1 l1 i
 it2:h.IsListIter i2 l2 i
theorem i5 {h:Heap} {l b:Addr} {its:Array Value} {o:Obj} {n:String} (hl:h.IsList l its) (e:h.get? b=some o) (c:o.cls= .type n) (ne:n≠ "list"):l≠b:=λz=>by
 obtain ⟨o',e',c',_⟩:=hl;rw[z,e] at e';cases e';rw[c] at c';injection c' with c'
 exact ne c'
theorem vh.apart {h:Heap} {z TI TO i1 i2 l1 l2:Addr} {i:Nat} {xs ys:Array Value} (st:vh h z TI TO i1 i2 l1 l2 i) (d: [z,TI,TO,i1,i2].Nodup) (h1:h.IsList l1 xs) (h2:h.IsList l2 ys):ZipApart z TI TO i1 i2 l1 l2:=by
 obtain ⟨a,b,eto⟩:=st.to;obtain ⟨o1,e1,c1,_⟩:=st.it1;obtain ⟨o2,e2,c2,_⟩:=st.it2;simp only[Fb,EI,Ef,or_false,not_or,List.nodup_nil,and_true] at d;obtain ⟨⟨d1,d2,d3,d4⟩,⟨d5,d6,d7⟩,⟨d8,d9⟩,d10,_⟩:=d;have lz:∀{l:Addr} {its:Array Value},h.IsList l its->l≠z/\l≠TI/\l≠TO/\l≠i1/\l≠i2:=λhl=>⟨i5 hl st.zip rfl 118,i5 hl st.ti rfl 118,i5 hl eto rfl 118,i5 hl e1 c1 118,i5 hl e2 c2 118⟩
 obtain ⟨p1,p2,p3,p4,p5⟩:=lz h1;obtain ⟨q1,q2,q3,q4,q5⟩:=lz h2;constructor<;>first|assumption|exact Ne.symm (by assumption)
theorem vm {P:Program} {w:World} {K:E5} {elts:List Expr} {k:Nat} {pos:Pos} (l1 l2 z TI TO i1 i2:Addr) (d: [z,TI,TO,i1,i2].Nodup):Turn P w K (.Tuple elts k pos) (Ao K l1 l2) [z,TI,TO,i1,i2] z (λi h=>vh h z TI TO i1 i2 l1 l2 i) where
 mem:=by simp
 obj:=λi h st b hb=>by
  obtain ⟨a,b',eto⟩:=st.to;obtain ⟨o1,e1,c1,d1⟩:=st.it1;obtain ⟨o2,e2,c2,d2⟩:=st.it2;simp only[EI,Ef,or_false] at hb;rcases hb with q|q|q|q|q<;>subst q
  ·exact (_,st.zip,λv z=>by cases z)
  ·exact (_,st.ti,λv z=>by cases z)
  ·exact (_,eto,λv z=>by cases z)
  ·exact (o1,e1,λv z=>by rw[d1] at z;cases z)
  ·exact (o2,e2,λv z=>by rw[d2] at z;cases z)
 keep:=λi h h' st k=>⟨k _ 147 _ st.zip,k _ 147 _ st.ti,let ⟨a,b,e⟩:=st.to;⟨a,b,k _ (by simp) _ e⟩,st.it1.at λo q=>k _ (by simp) o q,st.it2.at λo q=>k _ (by simp) o q⟩
 item:=by
  intro X hP hw hK hc i pins s σ H E I hf st hg;subst hP hw hK;obtain ⟨xs,ys,x,y,hq1,hq2,hx,hy⟩:=hg;obtain ⟨is1,rv1,p1,hz1⟩:=I.list hq1;obtain ⟨is2,rv2,p2,hz2⟩:=I.list hq2;obtain ⟨u,hu,ru⟩:=rv1.get hx;obtain ⟨v,hv,rv⟩:=rv2.get hy;have ap:=st.apart d p1.isList p2.isList;obtain ⟨a,b,eto⟩:=st.to;refine wpAny_pyNext_zip_item ap st.zip st.ti eto st.it1 st.it2 p1.isList p2.isList (x:=u) (y:=v) (by simpa using hu) (by simpa using hv) λh1 ho hto hi1 hi2 hT hsz hk=>?_
  refine ⟨_,rfl,wpAny_letOwnedTupleGo_zip (s:={s with heap:=h1}) ho λh2 hz2' hs2=>?_⟩
  have nT:H s.heap.objs.size=none:=I.hok.fresh (E8 _);have lt:∀b∈ [z,TI,TO,i1,i2],b<s.heap.objs.size:=λb hb=>by
   obtain ⟨o1,e1,_⟩:=st.it1;obtain ⟨o2,e2,_⟩:=st.it2;simp only[EI,Ef,or_false] at hb;rcases hb with q|q|q|q|q<;>subst q
   ·exact Heap.lt_size st.zip
   ·exact Heap.lt_size st.ti
   ·exact Heap.lt_size eto
   ·exact Heap.lt_size e1
   ·exact Heap.lt_size e2
  have zl:=lt z 147
  have hT2:IsPair h2 s.heap.objs.size u v:=(hs2.2 _ (FW zl)).trans hT;have kp:∀b o,b∉ [z,TI,TO,i1,i2]->s.heap.get? b=some o->h2.get? b=some o:=λb o hb q=>by
   simp only[EI,Ef,or_false,not_or] at hb;exact (hs2.2 b hb.1).trans (hk b o hb.1 hb.2.2.1 hb.2.2.2.1 hb.2.2.2.2 q)
  have eti:h1.get? TI=some {cls:= .type "tuple",data:= .seq #[.ref i1,.ref i2]}:=hk TI _ ap.TIz ap.TITO ap.TIi1 ap.TIi2 st.ti;refine ⟨.ref s.heap.objs.size,aH H s.heap.objs.size (.tup [x,y]),I.turnedNew (t':=s.toks) (ch:= [z,TI,TO,i1,i2]) hf kp (E8 _) (by show 2<=sizeLine;decide,[u,v],.cons ru (.cons rv .nil),(_,hT2,rfl,0,rfl)),rfl,
   ⟨_,x,y,rfl,nT,λys hy'=>by rw[I.list_inj hy' hq1];exact hx,λys hy'=>by rw[I.list_inj hy' hq2];exact hy,rfl⟩,⟨hz2',(hs2.2 _ ap.TIz).trans eti,⟨u,v,(hs2.2 _ ap.TOz).trans hto⟩,hi1.at λo q=>(hs2.2 _ ap.i1z).trans q,hi2.at λo q=>(hs2.2 _ ap.i2z).trans q⟩,λb hb=>?_⟩
  rw[aK (EF (lt b hb))];exact (hf b hb).1
 done:=by
  intro X hP hw hK hc i pins s σ H E I hf st hg;subst hP hw hK;obtain ⟨xs,ys,hq1,hq2,hx⟩:=hg;obtain ⟨is1,rv1,p1,hz1⟩:=I.list hq1;obtain ⟨is2,rv2,p2,hz2⟩:=I.list hq2;have ap:=st.apart d p1.isList p2.isList;obtain ⟨a,b,eto⟩:=st.to;have e1:=rv1.length;have e2:=rv2.length;refine wpAny_pyNext_zip_end (I.ok.hd hc) ap st.zip st.ti eto st.it1 st.it2 p1.isList p2.isList (by rcases hx with q|q;exact .inl (by simp;lia);exact .inr (by simp;lia)) λh' hk=>⟨rfl,I.turnedAll (t':=s.toks) (ch:= [z,TI,TO,i1,i2]) hf λb o hb q=>?_⟩
  simp only[EI,Ef,or_false,not_or] at hb;exact hk b o hb.1 hb.2.2.1 hb.2.2.2.1 hb.2.2.2.2 q
 self:=λ_ _ _ _ _ st h=>wpAny_pyIter_zip st.zip h
theorem yG (n:Nat): [n+4,n+2,n+3,n,n+1].Nodup:=by
 simp
def Dd (K:E5) (ta:TA):TI:=λσ H R=>ta σ H λvs H1=>∃l1 l2:Addr,vs= [.ref l1,.ref l2]/\(∃xs,aD K H1 l1 xs)/\(∃ys,aD K H1 l2 ys)/\R (Ao K l1 l2) H1
theorem boot_zip:bootBuiltins "zip" =some (.type "zip"):=by kernel_rfl
theorem vn {X:Cx} {a b:Expr} {ta:TA} {elts:List Expr} {k:Nat} {tp p pos:Pos} (hg:Gl X "zip") (hm:X.mg "zip" =none) (ha:PA X [a,b] ta) (hs:starEach [a,b] X.env= [(false,eval a X.env),(false,eval b X.env)]:=by rfl) (hs2:starEach [b] X.env= [(false,eval b X.env)]:=by rfl):
  PI X (.Tuple elts k tp) (.Call (.Name "zip" p) [a,b] [] pos) (Dd X.K ta):=by
 intro pins s σ H R I h;refine Call_ (dI I hg hm boot_zip (Er (bG (ha pos pins s σ H _ I h) λus s1 (vs,H1,I1,r1,q1)=>?_) (by rw[hs,hs2]) (by rw[hs2];rfl)))
 obtain ⟨l1,l2,e,⟨xs,hq1⟩,⟨ys,hq2⟩,q⟩:=q1;subst e;cases r1 with
 |cons r rr=>
  cases rr with
  |cons r' rr=>
   cases rr;cases r;cases r';obtain ⟨is1,rv1,p1,hz1⟩:=I1.list hq1;obtain ⟨is2,rv2,p2,hz2⟩:=I1.list hq2;refine call_zip_2 p1.isList p2.isList λh' hz hti hto hi1 hi2 hsz hk=>?_
   refine wpAny_pyIter_zip (s:={s1 with heap:=h'}) hz ?_
   have I2:aQ X pins σ H1 {s1 with heap:=h'}:=I1.kept (t':=s1.toks) hk
   refine (s1.heap.objs.size+4,[s1.heap.objs.size+4,s1.heap.objs.size+2,s1.heap.objs.size+3,s1.heap.objs.size,s1.heap.objs.size+1],_,_,H1,rfl,I2,vm l1 l2 _ _ _ _ _ (yG _),(hz,hti,(_,_,hto),hi1,hi2),λb hb=>?_,q)
   have bl:s1.heap.objs.size<=b:=by
    simp only[EI,Ef,or_false] at hb;rcases hb with q|q|q|q|q<;>rw[q]<;>first|exact E8 _|exact Nat.le_add_right _ _
   exact I1.fpOk bl (I1.hok.fresh bl)
theorem xh {K:E5} {l1 l2:Addr} {xs ys:List V} {g:TG} {tb:TS} {D:Ends} {σ:St} {H:Hp} (Pv:Nat->St->Hp->Prop) (h0:Pv 0 σ H) (hl:∀i σ H,i<=min xs.length ys.length->Pv i σ H->aD K H l1 xs/\aD K H l2 ys)
  (hs:∀i x y σ H (T:Addr),xs[i]?=some x->ys[i]?=some y->Pv i σ H->H T=none->g (.ref T) σ (aH H T (.tup [x,y])) λσ2 H2=>tb {D with nx:=Pv (i+1),ct:=Pv (i+1),bk:=D.nx} σ2 H2) (hd:∀σ H,Pv (min xs.length ys.length) σ H->D.nx σ H):
  ∃W:Nat->Nat->St->Hp->Prop,(∃m,W 0 m σ H)/\∀i m σ H,W i m σ H->
   ((Ao K l1 l2).stop i H/\D.nx σ H)∨((Ao K l1 l2).go i H/\∃N:St->Hp->Prop,(∀σ' H',N σ' H'->∃m',m'<m/\W (i+1) m' σ' H')/\∀x H',(Ao K l1 l2).yld i H x H'->g x σ H' λσ2 H2=>tb {D with nx:=N,ct:=N,bk:=D.nx} σ2 H2):=by
 exists λi m σ H=>m=min xs.length ys.length-i/\i<=min xs.length ys.length/\Pv i σ H,(min xs.length ys.length,by simp,El _,h0)
 rintro i m σ H ⟨rfl,hi,p⟩;obtain ⟨q1,q2⟩:=hl i σ H hi p
 by_cases hlt:i<min xs.length ys.length
 ·refine .inr ((xs,ys,xs[i]'(by lia),ys[i]'(by lia),q1,q2,E2 _,E2 _),Pv (i+1),λσ' H' p'=>(min xs.length ys.length-(i+1),by lia,rfl,by lia,p'),λx H' y=>?_)
  obtain ⟨T,a,b,rfl,nT,ha,hb,rfl⟩:=y;exact hs i a b σ H T (ha xs q1) (hb ys q2) p nT
 ·have e:i=min xs.length ys.length:=by lia
  subst e;exact .inl ((xs,ys,q1,q2,by lia),hd σ H p)
open XH
noncomputable def AZ (x:Str):It:=⟨λi _=>i<x.cps.size,λi H v H'=>H'=H/\∃c,x.cps[i]?=some c/\v= .str ⟨#[c]⟩,λi _=>i=x.cps.size⟩
theorem vo {P:Program} {w:World} {K:E5} {tg:Expr} {ty:String} (hty:ty= "str_ascii_iterator" ∨ty= "str_iterator") (it:Addr) (x:Str) (t:Tok):Turn P w K tg (AZ x) [it] it (λi h=>h.IsStrIter it ty x t i) where
 mem:=by simp
 obj:=λi h st b hb=>by
  have e:b=it:=by simpa using hb
  subst e;obtain ⟨o,e,c,d⟩:=st;exact (o,e,λv z=>by rw[d] at z;cases z)
 keep:=λi h h' st k=>by
  obtain ⟨o,e,c,d⟩:=st;exact (o,k it 147 o e,c,d)
 item:=by
  intro X hP hw hK hc i pins s σ H E I hf st hg;subst hP hw hK;obtain ⟨f0,f1,f2,f3,f4,f5⟩:=hf it 147
  have W:Walks X.prog X.w X.A it [it] [it] x.cps.size (SignAt x) (λi h=>h.IsStrIter it ty x t i):=by
   rcases hty with rfl|rfl
   ·exact Walks.strAscii (I.ok.hd hc) it x t
   ·exact Walks.strWide (I.ok.hd hc) it x t
  refine W.item i s _ _ hg st λv h' tk hv st' kk=>?_
  obtain ⟨c,u,hc',rfl⟩:=hv;have I1:aQ X pins σ H {s with heap:=h',toks:=tk}:=I.turned (λb o hb e=>kk b o (by simpa using hb) e) f0 f1 f3 f4 f5
  obtain ⟨o,e,c1,d1⟩:=id st';refine ⟨_,rfl,n6 (s:={s with heap:=h',toks:=tk}) (n:=ty) e c1 d1 (by rcases hty with rfl|rfl<;>decide) ⟨.str ⟨#[c]⟩,H,I1,⟨u,rfl⟩,⟨rfl,c,hc',rfl⟩,st',λb hb=>(hf b hb).1⟩⟩
 done:=by
  intro X hP hw hK hc i pins s σ H E I hf st hg;subst hP hw hK;obtain ⟨f0,f1,f2,f3,f4,f5⟩:=hf it 147
  have W:Walks X.prog X.w X.A it [it] [it] x.cps.size (SignAt x) (λi h=>h.IsStrIter it ty x t i):=by
   rcases hty with rfl|rfl
   ·exact Walks.strAscii (I.ok.hd hc) it x t
   ·exact Walks.strWide (I.ok.hd hc) it x t
  have hg':i=x.cps.size:=hg;subst hg';exact W.done s _ _ st λh' tk kk=>(rfl,I.turned (λb o hb e=>kk b o (by simpa using hb) e) f0 f1 f3 f4 f5)
 self:=λ_ _ _ _ _ st h=>by
  rcases hty with rfl|rfl
  ·exact wpAny_pyIter_striter_ascii st h
  ·exact wpAny_pyIter_striter_wide st h
def De (tl:TE):TI:=λσ H R=>tl σ H λx H1=>∃z,x= .str z/\R (AZ z) H1
variable {tg:Expr}
theorem yH {l:Expr} {tl:TE} (hl:PE X l tl):PI X tg l (De tl):=by
 intro pins s σ H R I h;refine bG (hl pins s σ H _ I h) λv s1 (x,H1,I1,r1,q1)=>?_
 obtain ⟨z,rfl,q⟩:=q1;obtain ⟨t,rfl⟩:=r1;have fin:∀{ty:String} {o:Obj},(ty= "str_ascii_iterator" ∨ty= "str_iterator")->(s1.heap.push o).IsStrIter s1.heap.objs.size ty z t 0->CT X pins σ tg R (.ref s1.heap.objs.size) {s1 with heap:=s1.heap.push o}:=λ{ty o} hty st=>by
  refine (s1.heap.objs.size,[s1.heap.objs.size],_,_,H1,rfl,I1.kept (t':=s1.toks) λb o e=>Heap.get?_push_of_some _ e,vo hty _ z t,st,λb hb=>?_,q)
  have e:b=s1.heap.objs.size:=by simpa using hb
  subst e;exact I1.fpOk (E8 _) (I1.hok.fresh (E8 _))
 cases ha:z.cps.all (· <128)
 ·exact wpAny_pyIter_wide ha (fin (.inr rfl) (_,Heap.get?_push_size _ rfl,rfl,rfl))
 ·exact wpAny_pyIter_ascii ha (fin (.inl rfl) (_,Heap.get?_push_size _ rfl,rfl,rfl))
theorem xi {z:Str} {g:TG} {tb:TS} {D:Ends} {σ:St} {H:Hp} (Pv:Nat->St->Hp->Prop) (h0:Pv 0 σ H)
  (hs:∀i c σ H,z.cps[i]?=some c->Pv i σ H->g (.str ⟨#[c]⟩) σ H λσ2 H2=>tb {D with nx:=Pv (i+1),ct:=Pv (i+1),bk:=D.nx} σ2 H2) (hd:∀σ H,Pv z.cps.size σ H->D.nx σ H):
  ∃W:Nat->Nat->St->Hp->Prop,(∃m,W 0 m σ H)/\∀i m σ H,W i m σ H->
   ((AZ z).stop i H/\D.nx σ H)∨((AZ z).go i H/\∃N:St->Hp->Prop,(∀σ' H',N σ' H'->∃m',m'<m/\W (i+1) m' σ' H')/\∀x H',(AZ z).yld i H x H'->g x σ H' λσ2 H2=>tb {D with nx:=N,ct:=N,bk:=D.nx} σ2 H2):=by
 exists λi m σ H=>m=z.cps.size-i/\i<=z.cps.size/\Pv i σ H,(z.cps.size,by simp,El _,h0)
 rintro i m σ H ⟨rfl,hi,p⟩
 by_cases hlt:i<z.cps.size
 ·refine .inr (hlt,Pv (i+1),λσ' H' p'=>(z.cps.size-(i+1),by lia,rfl,hlt,p'),λx H' y=>?_)
  obtain ⟨e,c,hc,rfl⟩:=y;subst e;exact hs i c σ _ hc p
 ·have e:i=z.cps.size:=by lia
  subst e;exact .inl (rfl,hd σ H p)
noncomputable def iJ (x:Str) (lo hi:Option Int):Str:=⟨((x.cps.toList.drop (HT.fg x.length 0 lo)).take (HT.fg x.length x.length hi-HT.fg x.length 0 lo)).toArray⟩
theorem A0 (lo hi:Option Int) (n:Nat):Builtin.Str.strSliceIndices lo hi 1 n=(EY (HT.fg n n hi-HT.fg n 0 lo)).map (HT.fg n 0 lo+ ·):=by
 have h1:(match lo with|none=>(0:Int)|some i=>max 0 (min (if i<0 then i+(n:Int) else i) n))=((HT.fg n 0 lo:Nat):Int):=by
  cases lo with
  |none=>simp[HT.fg]
  |some i=>
   simp only[HT.fg]
   by_cases h:i<0
   ·simp only[h,if_true]<;>lia
   ·simp only[h,if_false]<;>lia
 have h2:(match hi with|none=>(n:Int)|some i=>max 0 (min (if i<0 then i+(n:Int) else i) n))=((HT.fg n n hi:Nat):Int):=by
  cases hi with
  |none=>simp[HT.fg]
  |some i=>
   simp only[HT.fg]
   by_cases h:i<0
   ·simp only[h,if_true]<;>lia
   ·simp only[h,if_false]<;>lia
 rw[<-sliceRange_one,<-h1,<-h2];cases lo<;>cases hi<;>rfl
theorem oG (x:Str) (l u:Option (Int×Tok)):(⟨((slicePicked x l u none).filterMap (x.cps[·]?)).toArray⟩:Str)=iJ x (l.map (·.1)) (u.map (·.1)):=by
 show (⟨((Builtin.Str.strSliceIndices (l.map (·.1)) (u.map (·.1)) 1 x.length).filterMap (x.cps[·]?)).toArray⟩:Str)=_;rw[A0,pick_run]
 rfl
theorem jK (x:Str) (lo hi:Option Int):(iJ x lo hi).length<=x.length:=by
 show ((x.cps.toList.drop _).take _).toArray.size<=x.cps.size;rw[EN,EC,EL];simp only[Ep]
 lia
theorem qC (x:Str) (l u:Option (Int×Tok)) (h:(slicePicked x l u none).length=x.length):iJ x (l.map (·.1)) (u.map (·.1))=x:=by
 have h':(Builtin.Str.strSliceIndices (l.map (·.1)) (u.map (·.1)) 1 x.length).length=x.length:=h;rw[A0,E1,F6] at h';have hs:HT.fg x.length x.length (u.map (·.1))<=x.length∨x.length<HT.fg x.length x.length (u.map (·.1)):=by lia
 have hu:HT.fg x.length x.length (u.map (·.1))<=x.length:=by
  cases u with
  |none=>exact E8 _
  |some p=>
   show (if p.1<0 then (p.1+(x.length:Int)).toNat else min p.1.toNat x.length)<=x.length
   by_cases hp:p.1<0
   ·rw[if_pos hp];lia
   ·rw[if_neg hp];lia
 unfold iJ
 by_cases hx:x.length=0
 ·have e:x.cps.toList= []:=by
   have:x.cps.toList.length=0:=by rw[Ep];exact hx
   exact EV this
  rw[e,List.drop_nil,List.take_nil];obtain ⟨c⟩:=x;have e':c= #[]:=Array.toList_inj.mp (by simpa using e)
  rw[e']
 ·have h0:HT.fg x.length 0 (l.map (·.1))=0:=by lia
  rw[h0,List.drop_zero,Fl (by rw[Ep];show x.length<=_;lia)]
theorem part_of {v:Value} {o:Option Int} (p:IsPart v o):∃l:Option (Int×Tok),partValue l=v/\l.map (·.1)=o:=by
 cases p with
 |none=>exact ⟨none,rfl,rfl⟩
 |int i t=>exact ⟨some (i,t),rfl,rfl⟩
theorem m7 {X:Cx}:Cv X (λx lo hi H Q=>∃z,x= .str z/\z.length<=sizeLine/\Q (.str (iJ z lo hi)) H):=by
 intro pins s σ H x v vl vu lo hi sl Q I rx hs pl pu h;obtain ⟨z,rfl,hz,q⟩:=h;obtain ⟨t,rfl⟩:=rx;obtain ⟨l,rfl,rfl⟩:=part_of pl;obtain ⟨u,rfl,rfl⟩:=part_of pu;exists "str",_,slot_str_getitem.lookup,typeIs_str s z t;refine wpAny_getItem_str_slice (l:=l) (u:=u) (st:=none) hs rfl ?_;unfold sliceMade
 by_cases hw:(slicePicked z l u none).length=z.length
 ·rw[if_pos (by simp[hw])]
  refine (.str (iJ z (l.map (·.1)) (u.map (·.1))),H,I,(t,by rw[qC z l u hw]),q)
 ·rw[if_neg (by simp[hw])]
  rw[oG];exact (FB (jK _ _ _) hz,.str (iJ z (l.map (·.1)) (u.map (·.1))),H,I.tok _,⟨ν⟩,q)
end L2
namespace Sw
open PySem PySem.NumText
end Sw
namespace L2
open PySem PySem.Spec PyProof.Rows XH
section
variable {X:Cx} {a b e o:Expr} {es:List Expr} {t te to:TE} {ta:TA} {pos apos cpos:Pos} {x y:Str}
theorem i6:∀{ns:List Int} {us:GS},bC (ns.map V.int) us->IntsAre us ns
 | [],_,h=>by cases h;exact .nil
 |n::ns,_,h=>by
  cases h with
  |cons r rr=>
   obtain ⟨t,rfl⟩:=r;exact .cons _ _ (i6 rr)
theorem jt (hc:X.calm=true):du X (.builtin "max") (λxs H Q=>∃a ns,xs= [.ref a]/\aD X.K H a (ns.map V.int)/\ns≠ []/\∀M:Int,M∈ns->(∀z∈ns,z<=M)->Q (.int M) H):=by
 intro pins s σ H xs us Q I r h;obtain ⟨a,ns,rfl,h1,hne,q⟩:=h;obtain ⟨u,rfl,r1⟩:=vals1 r;cases r1;obtain ⟨its,rv,p,hz⟩:=I.list h1;have hi:=i6 rv;obtain ⟨xs,e⟩:=hi.allInts.items;have lst:xs.toList.map (·.1)=ns:=by
  rw[<-hi.numsOf,<-nums_intItems xs,<-e]
 have len:ns.length=xs.size:=by rw[<-lst,E1,Ep]
 have pos:0<xs.size:=len▸FU.mpr hne;refine max_intList (I.ok.hd hc) (xs:=xs) (by have z:=p.isList;rw[e] at z;exact z) pos λv h' tk hv hk=>?_
 obtain ⟨t,rfl⟩:=intItems_at hv;have best:=argBest_gt (numAt xs) (xs.size-1);refine (.int _,H,I.kept (h':=h') (t':=tk) hk,⟨ν⟩,q _ ?_ λz hz=>?_)
 ·have m:=best.1;rw[<-lst,numAt_eq];refine getD_mem ?_;rw[lst,len]
  lia
 ·rw[<-lst] at hz;obtain ⟨j,hj,rfl⟩:=mem_getD hz;rw[lst,len] at hj;have m:=best.2 j (by lia)
  rw[numAt_eq] at m;exact m
theorem vv {z:Str} {p:Pos} (hg:Gl X x) (h:∃t,X.mg x=some (.str z t)) (hd:(x==("__debug__" :Str))=false:=by decide):PE X (.Name x p) (tC (.str z)):=by
 obtain ⟨t,h⟩:=h;exact jS hg h (t,rfl) hd
theorem dw {i:Int} {p:Pos} (hg:Gl X x) (h:∃t,X.mg x=some (.int i t)) (hd:(x==("__debug__" :Str))=false:=by decide):PE X (.Name x p) (tC (.int i)):=by
 obtain ⟨t,h⟩:=h;exact jS hg h (t,rfl) hd
end
noncomputable def A1 (a:Addr) (o:Obj) (kvs:List (Key×V)):It:=
 ⟨λi H=>H a=some (.frz o 149)/\i<kvs.length,λi H v H'=>H'=H/\∃k x,kvs[i]?=some (k,x)/\v=kV k,λi H=>H a=some (.frz o 149)/\i=kvs.length⟩
theorem rZ {P:Program} {w:World} {k:Key} {u:Value} (h:(aN P w).is k u=true):RelV (kV k) u:=by
 rcases cG h with ⟨i,t,rfl,rfl⟩|⟨x,t,rfl,rfl⟩
 ·exact (t,rfl)
 ·exact (t,rfl)
theorem vw {κ:Type}:∀{kvs:List (κ×V)} {vs:List (κ×Value)} (r:KV kvs vs) (i:Nat) {k:κ} {x:V},kvs[i]?=some (k,x)->∃u,vs[i]?=some (k,u)/\RelV x u
 |_,_,.nil,i,k,x,h=>by simp at h
 |_,_,.cons (b:=q) r t,0,k,x,h=>by
  simp at h;subst h;obtain ⟨q1,q2⟩:=q;have e:k=q1:=r.1;subst e;exact (q2,by simp,r.2)
 |_,_,.cons r t,i+1,k,x,h=>by
  obtain ⟨u,e,rx⟩:=vw t i (by simpa using h)
  exact (u,by simpa using e,rx)
theorem i7 {X:Cx} {pins:GP} {σ:St} {H:Hp} {s:Shared} {a:Addr} {o:Obj} {kvs:List (Key×V)} {es0:Array DictEntry} {ep:Nat} (I:aQ X pins σ H s) (h:H a=some (.frz o 149)) (hd:o.data= .dict es0 ep):
  ∃vs,KV kvs vs/\s.heap.DictAt (aN X.prog X.w) a vs ep:=by
 obtain ⟨ho,z,y,vs,rel,ob,es,ep',e,c,d,rest⟩:=(show cq X.prog X.w H s.heap a (.frz o 149) from I.hok a _ h)
 rw[ho] at e;cases e;have e2:ep'=ep:=by rw[hd] at d;cases d;rfl
 subst e2;exact (vs,rel,o,es,ho,c,d,rest)
theorem tT {P:Program} {w:World} {K:E5} {tg:Expr} (it a:Addr) (o:Obj) (kvs:List (Key×V)) {es0:Array DictEntry} {ep:Nat} (hd:o.data= .dict es0 ep):Turn P w K tg (A1 a o kvs) [it] it (λi h=>h.IsKeyIter it a i kvs.length ep) where
 mem:=by simp
 obj:=λi h st b hb=>by
  have e:b=it:=by simpa using hb
  subst e;obtain ⟨o,e,c,d⟩:=st;exact (o,e,λv z=>by rw[d] at z;cases z)
 keep:=λi h h' st k=>by
  obtain ⟨o,e,c,d⟩:=st;exact (o,k it 147 o e,c,d)
 item:=by
  intro X hP hw hK hc i pins s σ H E I hf st hg;subst hP hw hK;obtain ⟨f0,f1,f2,f3,f4,f5⟩:=hf it 147
  obtain ⟨hz,hlt⟩:=hg;obtain ⟨vs,rel,D⟩:=i7 I hz hd;obtain ⟨⟨k,x⟩,hx⟩:∃p,kvs[i]?=some p:=⟨kvs[i],E2 hlt⟩;obtain ⟨u,hu,_⟩:=vw rel i hx;have st':=st;rw[rel.length] at st';refine wpAny_pyNext_dict_item st' D hu λkey h' hkey hit' hs'=>?_
  rw[<-rel.length] at hit';have I1:aQ X pins σ H {s with heap:=h',toks:=s.toks}:=I.turned (λb ob hb e=>hs'.extBut b ob hb e) f0 f1 f3 f4 f5
  obtain ⟨oi,ei,ci,di⟩:=id hit';exact ⟨_,rfl,n6 (s:={s with heap:=h'}) (n:= "dict_keyiterator") ei ci di 118 ⟨kV k,H,I1,rZ hkey,⟨rfl,k,x,hx,rfl⟩,hit',λb hb=>(hf b hb).1⟩⟩
 done:=by
  intro X hP hw hK hc i pins s σ H E I hf st hg;subst hP hw hK;obtain ⟨f0,f1,f2,f3,f4,f5⟩:=hf it 147
  obtain ⟨hz,rfl⟩:=hg;obtain ⟨vs,rel,D⟩:=i7 I hz hd;rw[rel.length] at st;refine wpAny_pyNext_dict_end (I.ok.hd hc) st D 147 λh' he'=>(rfl,I.turned (t':=s.toks) (λb ob hb e=>he' b ob hb e) f0 f1 f3 f4 f5)
 self:=λ_ _ _ _ _ st h=>wpAny_pyIter_keyiter st h
def NF (X:Cx) (a:Addr):Prop:=∀o u,X.H₀ a≠some (.frz o u)
theorem aQ.nf {X:Cx} {pins:GP} {σ:St} {H:Hp} {s:Shared} {a:Addr} {kvs:List (Key×V)} (I:aQ X pins σ H s) (h:H a=some 149):NF X a:=λo u e=>by
 have:=I.base.frzs a o u e;rw[h] at this;cases this
theorem aQ.freeze {X:Cx} {pins:GP} {σ:St} {H:Hp} {s:Shared} {a:Addr} {kvs:List (Key×V)} {o:Obj} (I:aQ X pins σ H s) (h:H a=some 149) (ho:s.heap.get? a=some o):aQ X pins σ (aH H a (.frz o 149)) s:=by
 refine I.un (H':=aH H a (.frz o 149)) (h':=s.heap) (t':=s.toks) (λb ob q n _ _=>q,λb ob q n _ _=>(ob.slots,q),λb ob q n _=>?_,λb ob q _=>(ob,q),λb xs q=>?_,λb ob u q=>?_,λb ps q=>(#[],?_)) ?_
 ·rw[aK (λz=>by subst z;rw[h] at n;cases n)];exact n
 ·rw[aK (λz=>by subst z;rw[h] at q;cases q)];exact q
 ·rw[aK (λz=>by subst z;rw[h] at q;cases q)];exact q
 ·rw[aK (λz=>by subst z;rw[h] at q;cases q),q];simp
 ·intro b u q
  by_cases hb:b=a
  ·subst hb;rw[ae] at q;cases q;exact (ho,(I.hok b _ h).stay (λ_ _ _ q=>q) (λc q=>by rw[aK (λz=>by subst z;rw[h] at q;cases q)];exact q) λc xs q=>by rw[aK (λz=>by subst z;rw[h] at q;cases q)];exact q)
  ·rw[aK hb] at q;exact (I.hok b _ q).stay (λ_ _ _ q=>q) (λc q=>by rw[aK (λz=>by subst z;rw[h] at q;cases q)];exact q) λc xs q=>by rw[aK (λz=>by subst z;rw[h] at q;cases q)];exact q
theorem aQ.thaw {X:Cx} {pins:GP} {σ:St} {H:Hp} {s:Shared} {a:Addr} {kvs:List (Key×V)} {o:Obj} (I:aQ X pins σ H s) (h:H a=some (.frz o 149)) (nf:NF X a):aQ X pins σ (aH H a 149) s:=by
 have hn:∀{b:Addr} {u:HO},H b=some u->(∀o' v,u≠ .frz o' v)->aH H a 149 b=some u:=λ{b u} q n=>by
  rw[aK (λz=>by subst z;rw[h] at q;cases q;exact n _ _ rfl)];exact q
 have hf:∀{b:Addr},H b=none->aH H a 149 b=none:=λ{b} n=>by
  rw[aK (λz=>by subst z;rw[h] at n;cases n)];exact n
 refine (I.ok,I.os,I.bare,(I.base.keep,I.base.slot,λb ob q n hx=>hf (I.base.free b ob q n hx),I.base.there,λb xs q=>hn (I.base.tups b xs q) (λ_ _ z=>nomatch z),λb ob u q=>?_,λb ps q=>?_),I.loc,I.cell,hf I.free,λy c e=>hf (I.freeC y c e),λp hp=>?_,?_,I.len)
 ·have q':=I.base.frzs b ob u q;rw[aK (λz=>by subst z;exact nf _ _ q)]
  exact q'
 ·obtain ⟨more,q'⟩:=I.base.tbls b ps q;exact (more,hn q' (λ_ _ z=>nomatch z))
 ·obtain ⟨p1,p2,p3⟩:=I.pin p hp;exact (p1,hf p2,p3)
 ·intro b u q
  by_cases hb:b=a
  ·subst hb;rw[ae] at q;cases q;obtain ⟨_,q2⟩:=(show cq X.prog X.w H s.heap b (.frz o 149) from I.hok b _ h)
   exact cq.stay (o:= .dK kvs) q2 (λ_ _ _ q=>q) (λc q=>hn q (λ_ _ z=>nomatch z)) λc xs q=>hn q (λ_ _ z=>nomatch z)
  ·rw[aK hb] at q;exact (I.hok b _ q).stay (λ_ _ _ q=>q) (λc q=>hn q (λ_ _ z=>nomatch z)) λc xs q=>hn q (λ_ _ z=>nomatch z)
def A3 (X:Cx) (tl:TE):TI:=λσ H R=>tl σ H λx H1=>∃a kvs,x= .ref a/\H1 a=some 149/\∀o,NF X a->R (A1 a o kvs) (aH H1 a (.frz o 149))
variable {X:Cx} {tg:Expr}
theorem xj {l:Expr} {tl:TE} (hl:PE X l tl):PI X tg l (A3 X tl):=by
 intro pins s σ H R I h;refine bG (hl pins s σ H _ I h) λv s1 (x,H1,I1,r1,q1)=>?_
 obtain ⟨a,kvs,rfl,hk,q⟩:=q1;cases r1;obtain ⟨z,y,vs,rel,ob,es,ep,e,c,d,rest⟩:=(show cq X.prog X.w H1 s1.heap a 149 from I1.hok a _ hk)
 have D:s1.heap.DictAt (aN X.prog X.w) a vs ep:=⟨ob,es,e,c,d,rest⟩;have I2:=I1.freeze hk e;refine wpAny_pyIter_dict y D ?_;refine (s1.heap.objs.size,[s1.heap.objs.size],_,_,ν,I2.kept (t':=s1.toks) λb o e=>Heap.get?_push_of_some _ e,tT _ a ob kvs d,(_,Heap.get?_push_size _ rfl,rfl,by rw[rel.length];rfl),λb hb=>?_,q ob (I1.nf hk))
 have e:b=s1.heap.objs.size:=by simpa using hb
 subst e;exact I2.fpOk (E8 _) (I2.hok.fresh (E8 _))
def CA (X:Cx) (P:Hp->Prop) (H:Hp):Prop:=∃a o kvs,H a=some (.frz o 149)/\NF X a/\P (aH H a 149)
noncomputable def Df (X:Cx) (D:Ends):Ends:={nx:=λσ=>CA X (D.nx σ),bk:=λσ=>CA X (D.bk σ),ct:=λσ=>CA X (D.ct σ),rt:=λv=>CA X (D.rt v)}
theorem qD {X:Cx} {st:Stmt} {t:TS} (h:PS X st t):PS X st (λD σ H=>t (Df X D) σ H):=by
 intro pins s σ H D I q;refine bG (h pins s σ H _ I q) λf s1 q1=>?_
 cases f with
 |next=>
  obtain ⟨σ',H',I',a,o,kvs,e,nf,p⟩:=q1;exact (σ',_,I'.thaw e nf,p)
 |brk=>
  obtain ⟨σ',H',I',a,o,kvs,e,nf,p⟩:=q1;exact (σ',_,I'.thaw e nf,p)
 |cont=>
  obtain ⟨σ',H',I',a,o,kvs,e,nf,p⟩:=q1;exact (σ',_,I'.thaw e nf,p)
 |ret u=>
  obtain ⟨v,σ',H',I',r,a,o,kvs,e,nf,p⟩:=q1;exact (v,σ',_,I'.thaw e nf,r,p)
theorem vx {a:Addr} {o:Obj} {kvs:List (Key×V)} {g:TG} {tb:TS} {D:Ends} {σ:St} {H:Hp} (Pv:Nat->St->Hp->Prop) (h0:Pv 0 σ H) (hz:∀i σ H,i<=kvs.length->Pv i σ H->H a=some (.frz o 149))
  (hs:∀i k x σ H,kvs[i]?=some (k,x)->Pv i σ H->g (kV k) σ H λσ2 H2=>tb {D with nx:=Pv (i+1),ct:=Pv (i+1),bk:=D.nx} σ2 H2) (hd:∀σ H,Pv kvs.length σ H->D.nx σ H):
  ∃W:Nat->Nat->St->Hp->Prop,(∃m,W 0 m σ H)/\∀i m σ H,W i m σ H->
   ((A1 a o kvs).stop i H/\D.nx σ H)∨((A1 a o kvs).go i H/\∃N:St->Hp->Prop,(∀σ' H',N σ' H'->∃m',m'<m/\W (i+1) m' σ' H')/\∀x H',(A1 a o kvs).yld i H x H'->g x σ H' λσ2 H2=>tb {D with nx:=N,ct:=N,bk:=D.nx} σ2 H2):=by
 exists λi m σ H=>m=kvs.length-i/\i<=kvs.length/\Pv i σ H,(kvs.length,by simp,El _,h0)
 rintro i m σ H ⟨rfl,hi,p⟩
 by_cases hlt:i<kvs.length
 ·refine .inr ((hz i σ H hi p,hlt),Pv (i+1),λσ' H' p'=>(kvs.length-(i+1),by lia,rfl,hlt,p'),λx H' y=>?_)
  obtain ⟨e,k,v,hk,rfl⟩:=y;subst e;exact hs i k v σ _ hk p
 ·have e:i=kvs.length:=by lia
  subst e;exact .inl ((hz _ σ H hi p,rfl),hd σ H p)
section
variable {a b c d:Expr} {ta tb tc td:TE} {pos:Pos}
def xk (r r' r'':R2) (ta tb tc td:TE):TE:=λσ H Q=>ta σ H λx H1=>tb σ H1 λy H2=>r x y H2 λz H3=>∃k,z= .bl k/\
 (if k=true then tc σ H3 λw H4=>r' y w H4 λz' H5=>∃k',z'= .bl k'/\(if k'=true then td σ H5 λv H6=>r'' w v H6 Q else Q (.bl false) H5) else Q (.bl false) H3)
theorem tU {o1 o2 o3:CmpOp} {r r' r'':R2} (h1:gJ X (compareOp o1) r) (h2:gJ X (compareOp o2) r') (h3:gJ X (compareOp o3) r'') (ha:PE X a ta) (hb:PE X b tb) (hc:PE X c tc) (hd:PE X d td)
  (hm:lastMarks [o1,o2,o3] [b,c,d]=false:=by with_unfolding_all rfl):PT X (.Compare a [o1,o2,o3] [b,c,d] pos) (uS (xk r r' r'' ta tb tc td)):=by
 intro pins s σ H Q I h;refine isTrue_chain (bG (ha pins s σ H _ I h) λv s1 (x,H1,I1,r1,q1)=>test_link (bG (hb pins s1 σ H1 _ I1 q1) λu s2 (y,H2,I2,r2,q2)=>
  bG (h1 pins s2 σ H2 x y v u _ I2 r1 r2 q2) λe1 s3 ⟨z,H3,I3,r3,k,e,q3⟩=>?_)) hm
 subst e;cases r3;refine wpAny_truthy_bool ?_;cases k with
 |false=>
  obtain ⟨k',e',q'⟩:=q3;cases e';exact ite_ff (H3,I3,q')
 |true=>
  refine ite_tt (test_link (bG (hc pins s3 σ H3 _ I3 q3) λw' s4 (z',H4,I4,r4,q4)=>bG (h2 pins s4 σ H4 y z' u w' _ I4 r2 r4 q4) λd' s5 (z2,H5,I5,r5,k2,e2,q5)=>?_))
  subst e2;cases r5;refine wpAny_truthy_bool ?_;cases k2 with
  |false=>
   obtain ⟨k',e',q'⟩:=q5;cases e';exact ite_ff (H5,I5,q')
  |true=>
   refine ite_tt (test_last (bG (hd pins s5 σ H5 _ I5 q5) λw2 s6 (z3,H6,I6,r6,q6)=>bG (h3 pins s6 σ H6 z' z3 w' w2 _ I6 r4 r6 q6) λd2 s7 (z4,H7,I7,r7,k3,e3,q7)=>?_))
   subst e3;cases r7;exact wpAny_truthy_bool (H7,I7,q7)
end
theorem kf {X:Cx}:du X (.type "dict") (λxs H Q=>∃(d:Addr) (kvs:List (Key×V)),xs= [.ref d]/\H d=some 149/\∀p,H p=none->Q (.ref p) (aH H p 149)):=by
 intro pins s σ H xs us Q I r h;obtain ⟨d,kvs,rfl,hd,q⟩:=h;cases r with
 |cons r rr=>
  cases rr;cases r;obtain ⟨z,y,vs,rel,D⟩:=oj I.hok hd;refine kt_call_dict y D (by rw[<-rel.length];exact z) λh' hm hs=>?_
  have kp:∀b o,s.heap.get? b=some o->h'.get? b=some o:=λb o e=>(hs.2 b (EF (Heap.lt_size e))).trans (Heap.get?_push_of_some _ e)
  have big:(s.heap.objs.size==sysModules)=false:=by
   have:=I.big;exact beq_eq_false_iff_ne.mpr (FW this)
  exact (.ref s.heap.objs.size,_,I.laid (o:= .dK kvs) (t':=s.toks) kp (E8 _) (z,big,vs,rel,hm),rfl,q _ I.fresh)
def yI:V->List V->Hp->VK->Prop:=λx vs H Q=>∃(d:Addr) (kvs:List (Key×V)),x= .ref d/\vs= []/\H d=some 149/\∀v,H v=none->Q (.ref v) (aH H v (.ext λh=>h.IsItemsView v d))
theorem oH {X:Cx}:Cy X "dict.items" yI:=by
 intro pins s σ H x vs v us Q I rx rv h;obtain ⟨d,kvs,rfl,rfl,hd,q⟩:=h;cases rx;have hus:=rv.zero;subst hus;obtain ⟨z,y,ws,rel,D⟩:=oj I.hok hd;refine call_meetsIn PySem.F.slot_dict_items D.typeIs PySem.F.entry_dict_items (PySem.F.args_dict_items_1 _) (meets_dict_items (aN X.prog X.w) d y) ((ws,D),?_);refine (.ref s.heap.objs.size,_,I.laid (o:= .ext λh=>h.IsItemsView s.heap.objs.size d) (t':=s.toks) (λb o e=>Heap.get?_push_of_some _ e) (E8 _) ((_,Heap.get?_push_size _ rfl,rfl,rfl),(_,Heap.get?_push_size _ rfl),λh1 h2 (o,e,c,f) k=>(o,k o e,c,f)),rfl,q _ I.fresh)
noncomputable def Itm (a:Addr) (o:Obj) (kvs:List (Key×V)):It:=
 ⟨λi H=>H a=some (.frz o 149)/\i<kvs.length,λi H v H'=>∃(T:Addr) (k:Key) (x:V),v= .ref T/\H T=none/\kvs[i]?=some (k,x)/\H'=aH H T (.tup [kV k,x]),λi H=>H a=some (.frz o 149)/\i=kvs.length⟩
theorem kg:entryFor table "dict_itemiterator.__iter__" =some Builtin.«dict_keyiterator.__iter__» :=
 entryFor_alias (id':= "dict_keyiterator.__iter__") (by kernel_rfl) rfl 119 (by kernel_rfl)
theorem kU {prog:Program} {w:World} {A:Around} {E:GN} {s:Shared} {it d:Addr} {i n ep:Nat} {ok ov:Value} {Q:GN} (e:IsItemIter s.heap it d i n ep ok ov) (h:Q (.ref it) s):wpAny 139 A (pyIter (.ref it)) Q E s:=by
 have T:s.TypeIs (.ref it) "dict_itemiterator" :=⟨_,e,rfl⟩;refine wpAny_pyIter_slot T PySem.F.slot_dict_itemiterator_iter (wpAny_call_entry PySem.F.slot_dict_itemiterator_iter T kg ?_ (PySem.F.args_dict_itemiterator_iter_1 _));exact (show wpAny _ _ (ret (.ref it)) _ _ s from wpAny_pure (ν,"dict_itemiterator",_,T,PySem.F.slot_dict_itemiterator_next.lookup,h))
theorem qE {P:Program} {w:World} {K:E5} {elts:List Expr} {kk:Nat} {pos:Pos} (it a:Addr) (o:Obj) (kvs:List (Key×V)) {es0:Array DictEntry} {ep:Nat} (hd:o.data= .dict es0 ep):Turn P w K (.Tuple elts kk pos) (Itm a o kvs) [it] it (λi h=>∃ok ov,IsItemIter h it a i kvs.length ep ok ov) where
 mem:=by simp
 obj:=λi h st b hb=>by
  have e:b=it:=by simpa using hb
  subst e;obtain ⟨ok,ov,e⟩:=st;exact (_,e,λv z=>by cases z)
 keep:=λi h h' st k=>by
  obtain ⟨ok,ov,e⟩:=st;exact (ok,ov,k it 147 _ e)
 item:=by
  intro X hP hw hK hc i pins s σ H E I hf st hg;subst hP hw hK;obtain ⟨hz,hlt⟩:=hg;obtain ⟨vs,rel,D⟩:=i7 I hz hd;obtain ⟨⟨k,x⟩,hx⟩:∃p,kvs[i]?=some p:=⟨kvs[i],E2 hlt⟩;obtain ⟨u,hu,ru⟩:=vw rel i hx;obtain ⟨ok,ov,st'⟩:=st;rw[rel.length] at st';refine wpAny_pyNext_items_item st' D hu λkey h1 hkey ho hT hsz hk=>?_
  refine ⟨_,rfl,wpAny_letOwnedTupleGo_items (s:={s with heap:=h1}) ho λh2 he2 hs2=>?_⟩
  have nT:H s.heap.objs.size=none:=I.hok.fresh (E8 _);have il:it<s.heap.objs.size:=Heap.lt_size st';have hT2:h2.get? s.heap.objs.size=some {cls:= .type "tuple",data:= .seq #[key,u]}:=(hs2.2 _ (FW il)).trans hT;have kp:∀b o,b∉ [it]->s.heap.get? b=some o->h2.get? b=some o:=λb o hb q=>by
   simp at hb;exact (hs2.2 b hb).trans (hk b o hb q)
  rw[<-rel.length] at he2;refine ⟨.ref s.heap.objs.size,aH H s.heap.objs.size (.tup [kV k,x]),I.turnedNew (t':=s.toks) (ch:= [it]) hf kp (E8 _) (by show 2<=sizeLine;decide,[key,u],.cons (rZ hkey) (.cons ru .nil),(_,hT2,rfl,0,rfl)),rfl,
   ⟨_,k,x,rfl,nT,hx,rfl⟩,⟨_,_,he2⟩,λb hb=>?_⟩
  have bl:b≠s.heap.objs.size:=by
   rw[EA.mp hb];exact EF il
  rw[aK bl];exact (hf b hb).1
 done:=by
  intro X hP hw hK hc i pins s σ H E I hf st hg;subst hP hw hK;obtain ⟨hz,rfl⟩:=hg;obtain ⟨vs,rel,D⟩:=i7 I hz hd;obtain ⟨ok,ov,st'⟩:=st;rw[rel.length] at st';refine wpAny_pyNext_items_end (I.ok.hd hc) st' D 147 λh' he'=>(rfl,I.turnedAll (t':=s.toks) (ch:= [it]) hf λb o hb q=>he' b o (λz=>hb (by simp[z])) q)
 self:=λA i s Q E st h=>by
  obtain ⟨ok,ov,e⟩:=st;exact kU e h
def yJ (X:Cx) (tl:TE):TI:=λσ H R=>tl σ H λx H1=>∃(v d:Addr) (kvs:List (Key×V)),x= .ref v/\H1 v=some (.ext λh=>h.IsItemsView v d)/\H1 d=some 149/\∀o,NF X d->R (Itm d o kvs) (aH H1 d (.frz o 149))
theorem oI {X:Cx} {l:Expr} {tl:TE} {elts:List Expr} {kk:Nat} {tp:Pos} (hl:PE X l tl):PI X (.Tuple elts kk tp) l (yJ X tl):=by
 intro pins s σ H R I h;refine bG (hl pins s σ H _ I h) λu s1 (x,H1,I1,r1,q1)=>?_
 obtain ⟨v,a,kvs,rfl,hv,hk,q⟩:=q1;cases r1;obtain ⟨z,y,vs,rel,ob,es,ep,e,c,d,rest⟩:=(show cq X.prog X.w H1 s1.heap a 149 from I1.hok a _ hk)
 have D:s1.heap.DictAt (aN X.prog X.w) a vs ep:=⟨ob,es,e,c,d,rest⟩;have I2:=I1.freeze hk e;obtain ⟨view,_⟩:=(show cq X.prog X.w H1 s1.heap v (.ext λh=>h.IsItemsView v a) from I1.hok v _ hv)
 refine wpAny_pyIter_items view D ?_;refine (s1.heap.objs.size,[s1.heap.objs.size],_,_,ν,I2.kept (t':=s1.toks) λb o e=>Heap.get?_push_of_some _ e,qE _ a ob kvs d,(_,_,by rw[rel.length];exact Heap.get?_push_size _ rfl),λb hb=>?_,q ob (I1.nf hk))
 have e:b=s1.heap.objs.size:=by simpa using hb
 subst e;exact I2.fpOk (E8 _) (I2.hok.fresh (E8 _))
end L2
namespace So
open PySem PyProof.Rows
end So
namespace Sw
open PySem L2 XH PySem.NumText
noncomputable def sL (z:Str):List Nat:=z.cps.toList
noncomputable def Dg (l:List Nat):Str:=⟨l.toArray⟩
theorem nc (z:Str):(sL z).length=z.length:=by simp[sL,Str.length]
theorem kh (x y:Str):sL (x++y)=sL x++sL y:=by
 show (x.cps++y.cps).toList=_;rw[Array.toList_append]
 rfl
theorem A4:Str.empty=Dg []:=rfl
theorem yK (z:Str) (c:Nat):(!(Builtin.Str.occurrences z (Dg [c]) 0 z.length 1).isEmpty)=decide (c∈sL z):=StrLaws.found_one z c
theorem DZ {b:Bool} {A B:Prop} (h1:b=false->A) (h2:b=true->B):if (!b)=true then A else B:=by
 cases b with
 |false=>exact cC (h1 rfl)
 |true=>exact cu (h2 rfl)
end Sw
namespace L2
open PySem PySem.Spec PyProof.Rows XH
def ju (js:List Nat) (tc:TT) (te:TE) (σ:St) (Q:VK):It->Hp->Prop:=λJ H1=>∀p,H1 p=none->∃W:Nat->Nat->List V->Hp->Prop,(∃m,W 0 m [] (aH H1 p 142))/\
 ∀i m ys H2,W i m ys H2->H2 p=some (.lst ys)/\((J.stop i H2/\Q (.ref p) H2)∨(J.go i H2/\ys.length<sizeLine/\∀x H3,J.yld i H2 x H3->tc (some x::aP js σ) H3 λb H4=>
  if b=true then te (some x::aP js σ) H4 λy H5=>H5 p=some (.lst ys)/\∃m',m'<m/\W (i+1) m' (ys++ [y]) (aH H5 p (.lst (ys++ [y]))) else ∃m',m'<m/\W (i+1) m' ys H4))
def sd (wi:TI) (js:List Nat) (tc:TT) (te:TE):TE:=λσ H Q=>wi σ H (ju js tc te σ Q)
section
variable {prog:Program} {w:World} {A:Around} {R:Result->Shared->Prop} {s:Shared}
theorem jL {elt target iter cond:Expr} {scope:Scope} {pos:Pos} {it acc:Value} {env:Env} (I:Nat->Shared->Prop)
  (turn:∀n s,I n s->wpAny 139 A (pyNext it) (λr s1=>match r with
   |none=>R (.ok .next) s1
   |some v=>wpAny 139 A (letOwnedTupleGo target it v) (λ_ s2=>wpAny 139 A (assign target env v) (λ_ s3=>wpAny 139 A (isTrue cond env (eval cond env)) (λok s4=>
     if ok=true then wpAny 139 A (eval elt env) (λx s5=>wpAny 139 A (call (.builtin "list.append") [acc,x]) (λ_ s6=>∃m,m<n/\I m s6) (λ_ _=>False) s5) (λ_ _=>False) s4
     else ∃m,m<n/\I m s4) (λ_ _=>False) s3) (λ_ _=>False) s2) (λ_ _=>False) s1) (λ_ _=>False) s)
  (n:Nat) (h:I n s):codeAny 139 A (.compLoop (.ListComp elt [⟨target,iter,[cond],0⟩] scope pos) 0 it acc env) R s:=by
 apply codeAny_loop rfl I ?_ n h;intro n s hI;show wpAny _ _ ((compTurn (.ListComp elt [⟨target,iter,[cond],0⟩] scope pos) 0 it acc env).onRaise _) _ _ s;apply wpAny_noted;rw[compTurn_list];apply wpAny_bind;apply wpAny_standAt;apply wpAny_bind;refine wpAny_mono (turn n s hI) (λr s1 h1=>?_) λ_ _ z=>z.elim
 cases r with
 |none=>exact wpAny_pure h1
 |some v=>
  apply wpAny_bind;refine wpAny_mono h1 (λ_ s2 h2=>?_) λ_ _ z=>z.elim
  apply wpAny_bind;refine wpAny_mono h2 (λ_ s3 h3=>?_) λ_ _ z=>z.elim
  apply wpAny_bind;refine wpAny_mono (wpAny_tests_one h3) (λok s4 h4=>?_) λ_ _ z=>z.elim
  cases ok with
  |true=>
   apply wpAny_bind;apply wpAny_bind;refine wpAny_mono h4 (λx s5 h5=>?_) λ_ _ z=>z.elim
   apply wpAny_bind;refine wpAny_mono h5 (λ_ s6 h6=>?_) λ_ _ z=>z.elim
   exact wpAny_pure (wpAny_pure (rfl,h6))
  |false=>
   have h4':∃m,m<n/\I m s4:=h4;exact wpAny_pure (rfl,h4')
end
variable {X:Cx} {scope:Scope} {cl:List (Str×Addr)} {own:Str} {ys:GQ} {js:List Nat} {elt iter cond:Expr} {px pos:Pos} {wi:TI} {te:TE} {tc:TT}
theorem lO (hc:X.calm=true) (ok:iI X scope cl own ys js) (hi:PI X (.Name own px) iter wi)
  (hq:∀(C:Addr) (fp:GR) (s:Shared) (H:Hp),PT (X.block scope cl C (own::ys) own fp s H) cond tc)
  (he:∀(C:Addr) (fp:GR) (s:Shared) (H:Hp),PE (X.block scope cl C (own::ys) own fp s H) elt te)
  (hs:∀x,foldedSetIterable iter X.env x=pure x:=by intro _;rfl):PE X (.ListComp elt [⟨.Name own px,iter,[cond],0⟩] scope pos) (sd wi js tc te):=by
 intro pins s σ H Q I h;rw[eval_ListComp];have ncell:∀y∈scope.names,y.2≠ .cell:=λy hy z=>by
  have q:=ED.mp ok.nocell y hy;rw[z] at q;simp at q
 have nloc:∀y∈scope.names,y.2= .local->scope.names.lookup y.1=some .local:=λy hy z=>by
  have q:=ED.mp ok.loc y hy;rw[z] at q
  simpa using q
 refine wpAny_comprehension_free (use:=none) rfl hs ok.clos ok.kind nloc (bG (hi pins s σ H _ I h) λv s1 h1=>bG h1 λitv s2 h2=>?_)
 obtain ⟨it,fp,tn,J,H2,rfl,I2,T,st2,f2,q2⟩:=h2;obtain ⟨W,⟨m0,w0⟩,turn⟩:=q2 s2.heap.objs.size (I2.hok.fresh (E8 _));refine wpAny_newObj_type (wpAny_newFunctionEnv ncell (by intro y hy;simp at hy) (λh1 hns hsb=>?_) ok.kind)
 have I3:=I2.laid (a:=s2.heap.objs.size) (o:= .lst []) (h':=s2.heap.push 124) (t':=s2.toks) (λb u q=>Heap.get?_push_of_some _ q) (E8 _)
  ⟨El _,[],0,.nil,Heap.get?_push_size _ rfl⟩
 have fpo:∀b∈fp,b<s2.heap.objs.size:=λb hb=>by
  obtain ⟨o,e,_⟩:=T.obj 0 _ st2 b hb;exact Heap.lt_size e
 have f3:∀b∈fp,dX X pins 131 b:=λb hb=>⟨by rw[aK (EF (fpo b hb))];exact (f2 b hb).1,(f2 b hb).2⟩
 generalize hs3:({s2 with heap:=s2.heap.push 124,toks:=s2.toks}:Shared)=s3 at I3
 have e3:s3.heap=s2.heap.push {cls:= .type "list",dict:=none,data:= .seq ([]:GS).toArray}:=by rw[<-hs3]
 have lt3:∀b∈fp,b<s3.heap.objs.size:=λb hb=>by rw[e3,Heap.size_push];exact F0 (fpo b hb)
 dsimp only at hns hsb⊢;rw[<-e3] at hns hsb;have hk:∀b o,s3.heap.get? b=some o->h1.get? b=some o:=λb o e=>hsb.extBut b o (EF (Heap.lt_size e)) (Heap.get?_push_of_some _ e)
 have J0:=eU (h1:=h1) ok I3 f3 lt3 hns hk (s2.toks+0);have t0:tn 0 h1:=T.keep 0 _ _ st2 λb hb o e=>hk b o (by rw[e3];exact Heap.get?_push_of_some _ e)
 have fpB:∀{H':Hp},(∀b∈fp,H' b=none)->∀b∈fp,dX 116 [] H' b:=λ{H'} hn b hb=>
  ⟨hn b hb,EF (lt3 b hb),λz=>(EI.mp (I3.stkSub b z)).elim (f3 b hb).2.1 (f3 b hb).2.2.1,.inl hb,λx c e=>(f3 b hb).2.2.2.2.1 x c (ok.sub (x,c) (Eo e)),λp hp=>absurd (show p∈([]:GP) from hp) 147⟩
 have loop:codeAny 135 X.A (.compLoop (.ListComp elt [⟨.Name own px,iter,[cond],0⟩] scope pos) 0 (.ref it) 126 (compEnvC scope cl s3.heap.objs.size X.env))
   (compPost 135 X.A X.xe none (EP X pins σ Q) 126 s3.heap.objs.size) {s3 with heap:=h1,toks:=s2.toks+0}:=by
  refine jL (λn s'=>∃i zs o0 H',aQ 116 [] (o0::aP js σ) H' s'/\tn i s'.heap/\(∀b∈fp,H' b=none)/\W i n zs H') ?_ m0
   ⟨0,[],none,_,J0,t0,λb hb=>(f3 b hb).1,w0⟩
  rintro n s5 ⟨i,zs,o0,H5,I5,t5,n5,w5⟩;obtain ⟨hD,hw⟩:=turn i n zs H5 w5;rcases hw with ⟨stop,qn⟩|⟨go,hz,step⟩
  ·refine bG (T.done 116 rfl rfl rfl hc i [] s5 _ H5 (λ_ _=>False) I5 (fpB n5) t5 stop) λr s6 (hr,I6)=>?_
   subst hr;obtain ⟨m,hn,_⟩:=id I6.loc;exact (m,hn,λh' hs'=>(V.ref s2.heap.objs.size,H5,fQ I3 f3 I6 hs',rfl,qn))
  ·refine bG (T.item 116 rfl rfl rfl hc i [] s5 _ H5 (λ_ _=>False) I5 (fpB n5) t5 go) λr s6 (u,hr,h6)=>?_
   subst hr;refine bG h6 λ_ s7 (x,H7,I7,r7,y7,t7,n7)=>?_
   have I7':=I7.pinned (fpB n7) (T.obj _ _ t7);have hst:=step x H7 y7;have own':(relabel scope X.env).names.lookup own=some .local:=lookup_relabel_local ok.ownL;refine bG (dG (X:=X.block scope cl s3.heap.objs.size (own::ys) own fp s3 131) (i:=0) (x:=own) (pos:=px) ok.nd rfl (.inl own') (.inr own') _ s7 _ H7 x u (λσ' H'=>σ'=some x::aP js σ/\H'=H7) I7' r7 (rfl,rfl)) λ_ s8 (σ8,H8,I8,e8,eH8)=>?_
   subst e8 eH8;refine bG (hq _ _ _ _ _ s8 _ H8 _ I8 hst) λok s9 (H9,I9,h9)=>?_
   have frame:∀{s':Shared} {H':Hp},aQ 116 ([]++jk fp s7.heap) (some x::aP js σ) H' s'->tn (i+1) s'.heap/\∀b∈fp,H' b=none:=λ{s' H'} I'=>
    ⟨T.keep _ _ _ t7 λb hb o e=>(I'.pin (b,o) (E9 _ (E9 _ (bQ hb e)))).1,λb hb=>by
     obtain ⟨o,e,d⟩:=T.obj _ _ t7 b hb;exact (I'.pin (b,o) (E9 _ (E9 _ (bQ hb e)))).2.1⟩
   cases ok with
   |true=>
    refine bG (he _ _ _ _ _ s9 _ H9 _ I9 h9) λyv s10 (y,H10,I10,r10,hD10,m',hm,w10)=>?_
    refine bG (bw _ s10 _ H10 126 [y] 126 [yv] (λ_ H'=>H'=aH H10 s2.heap.objs.size (.lst (zs++ [y]))) I10 rfl (.cons r10 .nil) (_,zs,y,rfl,rfl,hD10,hz,rfl)) λ_ s11 (_,H11,I11,_,e11)=>?_
    subst e11;exact (m',hm,i+1,zs++ [y],some x,_,I11.unpinned,(frame I11).1,(frame I11).2,w10)
   |false=>
    obtain ⟨m',hm,w10⟩:=h9;exact (m',hm,i+1,zs,some x,_,I9.unpinned,(frame I9).1,(frame I9).2,w10)
 subst hs3;exact codeAny_compStart_list loop (T.self _ 0 _ _ _ t0 loop)
theorem xm:typeLookup (.type "list_reverseiterator") "__len__" =pure none:=by
 rw[typeLookup_type,builtinLookup_eq_fast]
 kernel_rfl
theorem vy:typeLookup (.type "list_reverseiterator") "__length_hint__" =pure (some (.builtin "list_reverseiterator.__length_hint__")):=by
 rw[typeLookup_type,builtinLookup_eq_fast]
 kernel_rfl
section
variable {prog:Program} {w:World} {A:Around} {R:Result->Shared->Prop} {s:Shared} {I l S:Addr} {items:Array Value}
abbrev yL (items:Array Value):Nat->Value->Prop:=λi v=>items[items.size-1-i]?=some v
theorem qF (hh:A.in1.handled=none) (hlI:l≠I) (hSI:S≠I) (hSl:S≠l) (res:Value) (c:Nat) (hit:s.heap.IsRevIter I l ((items.size:Int)-1)) (hl:s.heap.IsList l items)
  (hS:s.heap.get? S=some {cls:= .type "list",data:= .seq #[] c}) (hn:items.size<=sizeLine)
  (fin:∀s' acc c',Moved [S,I] (λa b=>b=a) s s'->s'.heap.get? S=some {cls:= .type "list",dict:=none,data:= .seq acc c',slots:= #[]}->ItemsOf (yL items) acc items.size->R (.ok (.ret res)) s'):
  wpAny 139 A.in1 (Builtin.List.listExtendWith (.ref S) (.ref I) res)
   (λfin s'=>match fin with| .done f=>R (.ok f) s'| .again c'=>c'.quiet=true/\codeAny (model prog w) A c' R s') (λe s'=>R (.error e) s') s:=by
 have ty:s.TypeIs (.ref I) "list_reverseiterator" :=hit.typeIs;have ns:Builtin.List.listSameRef (.ref S) (.ref I)=false:=by
  simp[Builtin.List.listSameRef,hSI]
 unfold Builtin.List.listExtendWith;apply wpAny_bind;apply wpAny_typeOf ty;rw[if_neg (by rw[ns];decide)]
 apply wpAny_bind;apply wpAny_pyIter_revIter hit;apply wpAny_bind;apply wpAny_holding;unfold Builtin.List.listLengthHint;apply wpAny_bind;apply wpAny_specialOf ty xm;show wpAny _ _ (specialOf (Value.ref I) (Str.ofString "__length_hint__")>>=_) _ _ s;apply wpAny_bind;apply wpAny_specialOf ty vy;generalize hid:("list_reverseiterator.__length_hint__" :String)=id0
 wp_delta
 rw[show splitId id0=some ("list_reverseiterator","__length_hint__") from by subst hid;decide+kernel]
 subst hid;apply wpAny_bind;refine wpAny_isInstance (b:=true) ty (by rw[isSubtype_type];kernel_rfl) ?_
 apply wpAny_pure;rw[if_neg 118]
 have W:=(Walks.listRev (prog:=prog) (w:=w) hh I l hlI items).toS;have out:S∉ [I,l]:=by
  simp only[EI,Ef,or_false,not_or];exact (hSI,hSl)
 have st:(0:Nat)<=items.size/\s.heap.IsRevIter I l ((items.size:Int)-1-((0:Nat):Int))/\s.heap.IsList l items:=⟨El _,by simpa using hit,hl⟩
 apply wpAny_pure;exists plainId_quiet PySem.F.plain_extend_loop _;exact codeAny_extend_loopS W hn S out res items.size 0 s #[] c rfl (El _) st hS (ItemsOf.nil _) fin
theorem vA {E:GN} {Q:GN} (hh:A.handled=none) (hlI:l≠I) (hit:s.heap.IsRevIter I l ((items.size:Int)-1)) (hl:s.heap.IsList l items) (hn:items.size<=sizeLine)
  (fin:∀h' tk acc c',(∀b o,b≠I->s.heap.get? b=some o->h'.get? b=some o)->h'.get? s.heap.objs.size=some {cls:= .type "list",dict:=none,data:= .seq acc c',slots:= #[]}->ItemsOf (yL items) acc items.size->Q (.ref s.heap.objs.size) {s with heap:=h',toks:=tk}):
  wpAny 139 A (call (.type "list") [.ref I]) Q E s:=by
 have lI:I<s.heap.objs.size:=by
  obtain ⟨o,e,_⟩:=hit;exact Heap.lt_size e
 have ll:l<s.heap.objs.size:=by
  obtain ⟨o,e,_⟩:=hl;exact Heap.lt_size e
 refine callType_codes (Q₁:=λv s1=>v= .ref s.heap.objs.size/\s1={s with heap:=s.heap.push {cls:= .type "list",data:= .seq #[]}}) PySem.F.called_list (PySem.F.typeCall_list_1 _) PySem.F.entry_list_init (code_list_new _ ⟨rfl,rfl⟩) ?_
 rintro v s1 ⟨rfl,rfl⟩;have e0:(s.heap.push {cls:= .type "list",data:= .seq #[]}).get? s.heap.objs.size=some {cls:= .type "list",data:= .seq #[]}:=Heap.get?_push_size _ rfl;exists (_,e0,rfl),PySem.F.args_list_init_2 _ _;show wpAny _ _ (Builtin.List.listItems (.ref s.heap.objs.size)>>=λold=>Builtin.List.listUpdate (.ref s.heap.objs.size) (λ_=> #[])>>=λ_=>letGo old.toList.reverse>>=λ_=>Builtin.List.listExtendWith (.ref s.heap.objs.size) (.ref I) .none) _ _ _
 apply wpAny_bind;unfold Builtin.List.listItems;apply wpAny_bind;apply wpAny_seqItems e0 rfl;apply wpAny_pure;show wpAny _ _ (updateSeq s.heap.objs.size (λ_=> #[])>>=λ_=>letGo (#[]:Array Value).toList.reverse>>=λ_=>Builtin.List.listExtendWith (.ref s.heap.objs.size) (.ref I) .none) _ _ _
 apply wpAny_bind;apply wpAny_updateSeq e0 rfl;have e1:=Heap.get?_update_self (Obj.mapSeq (λ_=>(#[]:Array Value))) e0 rfl
 have old:∀b o,b≠s.heap.objs.size->s.heap.get? b=some o->((s.heap.push {cls:= .type "list",data:= .seq #[]}).update s.heap.objs.size (Obj.mapSeq (λ_=>(#[]:Array Value)))).get? b=some o:=λb o hb e=>
  (Heap.get?_update_other _ _ (Ne.symm hb)).trans (Heap.get?_push_of_some _ e)
 apply wpAny_bind;apply wpAny_letGo;refine qF (A:=A.in1) (by simpa using hh) hlI (FW lI) (FW ll) .none _ ?_ ?_ e1 hn λs' acc c' mv eS it=>?_
 ·obtain ⟨o,e,z⟩:=hit;exact (o,old _ _ (EF lI) e,z)
 ·obtain ⟨o,e,z⟩:=hl;exact (o,old _ _ (EF ll) e,z)
 ·obtain ⟨h',g',d',tk',os'⟩:=s';have eg:g'=s.gens:=mv.gens;have ed:d'=s.drawn:=mv.drawn;have eo:os'=s.os:=mv.os;subst eg ed eo;refine (rfl,fin h' tk' acc c' (λb o hb e=>?_) eS it)
  refine mv.heap b o ?_ (old b o (EF (Heap.lt_size e)) e);simp only[EI,Ef,or_false,not_or];exact (EF (Heap.lt_size e),hb)
end
theorem oJ:∀{xs:List V} {us:GS},bC xs us->bC xs.reverse us.reverse
 |_,_,.nil=> .nil
 |_,_,.cons r t=>by
  rw[List.reverse_cons,List.reverse_cons];exact (oJ t).append (.cons r .nil)
theorem tV {us:GS} {acc:Array Value} (h:ItemsOf (yL us.toArray) acc us.toArray.size):acc.toList=us.reverse:=by
 obtain ⟨h1,h2⟩:=h;refine List.ext_getElem? λi=>?_
 by_cases hi:i<acc.size
 ·have e:=h2 i acc[i] (Array.getElem?_eq_getElem hi);rw[FI,Array.getElem?_eq_getElem hi,List.getElem?_reverse (by simpa [h1] using hi)]
  simpa using e.symm
 ·rw[List.getElem?_eq_none (by simpa using hi),List.getElem?_eq_none (by rw[Ek];simp[h1] at hi;lia)]
def Dh (K:E5) (te:TE):TE:=λσ H Q=>te σ H λx H1=>∃a xs,x= .ref a/\aD K H1 a xs/\∀l,H1 l=none->Q (.ref l) (aH H1 l (.lst xs.reverse))
section
variable {e:Expr} {p1 p2 pos2:Pos}
theorem gu (hc:X.calm=true) (g1:Gl X "list") (m1:X.mg "list" =none) (g2:Gl X "reversed") (m2:X.mg "reversed" =none) (b1:bootBuiltins "list" =some (.type "list")) (b2:bootBuiltins "reversed" =some (.type "reversed")) (he:PE X e te)
  (hs:starEach [e] X.env= [(false,eval e X.env)]:=by rfl):
  PE X (.Call (.Name "list" p1) [.Call (.Name "reversed" p2) [e] [] pos2] [] pos) (Dh X.K te):=by
 intro pins s σ H Q I h;apply wpAny_Call_Name_kw;refine dI I g1 m1 b1 ?_ 118 118
 refine Er ?_ rfl rfl;refine Calls.spliced_cons (x:=eval (.Call (.Name "reversed" p2) [e] [] pos2) X.env) (rest:= []) ?_;apply wpAny_Call_Name_kw;refine dI I g2 m2 b2 ?_ 118 118
 refine Er ?_ hs rfl;rw[hs];refine Calls.spliced_cons (x:=eval e X.env) (rest:= []) (bG (he pins s σ H _ I h) λv s1 (x,H1,I1,r1,a,xs,ex,hq,q)=>?_)
 subst ex;cases r1;apply Calls.spliced_nil;obtain ⟨its,rv,pl,hz⟩:=I1.list hq;have hli:s1.heap.IsList a its.toArray:=pl.isList;have alt:a<s1.heap.objs.size:=by
  obtain ⟨o,eo,_⟩:=id hli;exact Heap.lt_size eo
 apply call_reversed_list hli;apply Calls.spliced_nil;have I2:aQ X pins σ H1 {s1 with heap:=s1.heap.push (revObj a ((its.toArray.size:Int)-1)),toks:=s1.toks}:=I1.kept λb o e=>Heap.get?_push_of_some _ e
 have sz:its.toArray.size=xs.length:=by rw[EN,rv.length]
 refine vA (l:=a) (items:=its.toArray) (I.ok.hd hc) (EF alt) (_,Heap.get?_push_size _ rfl,rfl,rfl) (hli.push _) (by rw[sz];exact hz) λh' tk acc c' kp eL itm=>?_
 have er:=tV itm;have sl:s1.heap.objs.size<=(s1.heap.push (revObj a ((its.toArray.size:Int)-1))).objs.size:=by
  rw[Heap.size_push];exact Ft _
 refine (.ref _,_,I1.laid (a:=(s1.heap.push (revObj a ((its.toArray.size:Int)-1))).objs.size) (o:= .lst xs.reverse) (h':=h') (t':=tk) (λb o eo=>kp b o (EF (Heap.lt_size eo)) (Heap.get?_push_of_some _ eo)) sl ?_,rfl,q _ (I1.hok.fresh sl))
 exists by rw[Ek];exact hz,acc.toList,c',by rw[er];exact oJ rv
 rw[Array.toArray_toList];exact eL
end
noncomputable def upTo (ks:Nat->Key) (i:Nat):Key->Bool:=λk=>(EY i).any λj=>decide (ks j=k)
theorem tW (ks:Nat->Key) (i:Nat):(λk=>upTo ks i k||decide (k=ks i))=upTo ks (i+1):=by
 funext k
 unfold upTo;rw[Fw,FH];simp[eq_comm]
section
variable {prog:Program} {w:World} {A:Around} {R:Result->Shared->Prop} {I:Addr} {fp wr:GR} {G:Array GenState->Array GenState->Prop} {n:Nat} {P:Nat->Value->Prop} {St:Nat->Shared->Prop}
theorem vB (W:WalksS prog w A.in1 I fp wr G n P St) (S:Addr) (out:S∉fp) (ks:Nat->Key) (hv:∀i v,P i v->(aN prog w).is (ks i) v=true/\v.scannable=true)
  (inj:∀i,i<n->upTo ks i (ks i)=false) (hb:n+1<scanBound):∀(m i:Nat) (s:Shared),n-i=m->i<=n->St i s->s.heap.SetOf (aN prog w) S (upTo ks i) i->
   (∀s',Moved (S::wr) G s s'->s'.heap.SetOf (aN prog w) S (upTo ks n) n->R (.ok (.ret .none)) s')->codeAny 139 A (.builtin "set.update.loop" ⟨[.ref S,.ref I],[]⟩) R s:=by
 have nw:S∉wr:=λh=>out (W.sub _ h)
 have up:∀b∈wr,b∈S::wr:=λb hb=> .tail _ hb
 have stay:∀{s1 s2:Shared} {f:Key->Bool} {c:Nat},s1.heap.SetOf (aN prog w) S f c->Moved wr G s1 s2->s2.heap.SetOf (aN prog w) S f c:=by
  rintro s1 s2 f c ⟨o,es,ep,t,ho,z⟩ mv;exact (o,es,ep,t,mv.heap S _ nw ho,z)
 intro m
 induction m with
 |zero=>
  intro i s hm hi st hS fin;have e:i=n:=by lia
  subst e;apply codeAny_builtin F.entry_set_update_loop;rw[Around.under_plainId F.plain_set_update_loop _];show wpAny _ _ (pyNext (.ref I)>>=_) _ _ s;apply wpAny_bind;refine W.done s _ _ st λs' mv=>?_
  exact wpAny_pure (fin s' (mv.mono up) (stay hS mv))
 |succ m ih=>
  intro i s hm hi st hS fin;have lt:i<n:=by lia
  apply codeAny_builtin F.entry_set_update_loop;rw[Around.under_plainId F.plain_set_update_loop _];show wpAny _ _ (pyNext (.ref I)>>=_) _ _ s;apply wpAny_bind;refine W.item i s _ _ lt st λv s' pv st' mv=>?_
  obtain ⟨kv,sc⟩:=hv i v pv;show wpAny _ _ (holding [v] (setAdd S v)>>=_) _ _ s';apply wpAny_bind;apply wpAny_holding;unfold setAdd;apply wpAny_holding;apply wpAny_bind;refine (aN prog w).pyHash (k:=ks i) kv ?_;refine wpAny_setAddHashed_of (knd:=aN prog w) (s:={s' with toks:=s'.toks+1}) kv sc (show Heap.SetOf (aN prog w) s'.heap S (upTo ks i) i from stay hS mv) (by lia) λh' same S2=>?_
  have S3:h'.SetOf (aN prog w) S (upTo ks (i+1)) (i+1):=by
   rw[tW,inj i lt] at S2;exact S2
  apply wpAny_pure;refine (plainId_quiet F.plain_set_update_loop _,ih (i+1) _ (by lia) lt (W.frame _ s' _ _ st' (Ft _) λb hb o e=>?_) S3 λs'' mv2 S4=>?_)
  ·exact (same.2 b λz=>out (z▸hb)).trans e
  ·exact fin s'' (Moved.trans W.gtrans ((mv.mono up).then_heap (Ft _) λb o hb e=>(same.2 b λz=>hb (z▸Ej)).trans e) mv2) S4
end
section
variable {prog:Program} {w:World} {A:Around} {E:GN} {s:Shared}
set_option maxHeartbeats 3200000 in
theorem tX {l:Addr} {items:Array Value} {ks:Nat->Key} {Q:GN} (hh:A.handled=none) (hl:s.heap.IsList l items) (hv:∀i v,items[i]?=some v->(aN prog w).is (ks i) v=true/\v.scannable=true)
  (inj:∀i,i<items.size->upTo ks i (ks i)=false) (hb:items.size+1<scanBound)
  (fin:∀(h':Heap) (tk:Nat),h'.SetOf (aN prog w) s.heap.objs.size (upTo ks items.size) items.size->(∀b o,b<s.heap.objs.size->s.heap.get? b=some o->h'.get? b=some o)->Q (.ref s.heap.objs.size) {s with heap:=h',toks:=tk}):
  wpAny 139 A (call (.type "set") [.ref l]) Q E s:=by
 obtain ⟨c0,tl0,mro⟩:=F.called_set.mro;have made:=F.called_set.made;have subt:=F.called_set.sub;apply wpAny_call;apply codeAny_of_tree;show wpAny _ _ (callAny (.type "set") _) _ _ _;apply wpAny_pure;refine (Code.quiet_builtin _ 119,codeAny_builtin F.entry_type_call ?_)
 rw[Around.under_plain (weight_type_call_type "set" [.ref l] []) rfl];have nt:=F.called_set.notType;have cc:=F.called_set.canCreate;have tc:=F.typeCall_set_1 (.ref l)
 repeat any_goals first|assumption|wp_step
 refine codeAny_mono (code_set_new_1 (.ref l) (E:=E) (Q₁:=λv s1=>∃led:Bool,v= .ref s.heap.objs.size/\s1={s with heap:=s.heap.push 121}) λled=>⟨led,rfl,rfl⟩) λr s1 hr=>?_
 cases r with
 |error e=>exact hr
 |ok fl=>
  cases fl with
  |ret v=>
   obtain ⟨led,rfl,rfl⟩:=hr;have e0:(s.heap.push 121).get? s.heap.objs.size=some {cls:= .type "set",dict:=none,data:= .set #[] 0 (.fresh 0 0 led)}:=Heap.get?_push_size _ rfl;have tS:Shared.TypeIs {s with heap:=s.heap.push 121} (.ref s.heap.objs.size) "set" :=⟨_,e0,rfl⟩
   have lk:=F.called_set.init.lookup;have bd:=F.called_set.init.bind (.ref s.heap.objs.size)
   repeat any_goals first|assumption|wp_step
   refine codeAny_mono (codeAny_call_builtin (R:=wants (λr s2=>r= .none/\∃h' tk,s2={s with heap:=h',toks:=tk}/\h'.SetOf (aN prog w) s.heap.objs.size (upTo ks items.size) items.size/\∀b o,b<s.heap.objs.size->s.heap.get? b=some o->h'.get? b=some o) E) F.called_set.init.plain F.entry_set_init (check_set_init_1 tS ?_)) λr2 s2 hr2=>?_
   ·obtain ⟨⟨lc,ld,lx,ls⟩,hol,hcl,nl,hdl⟩:=hl;simp only at hcl hdl;subst hcl hdl;have el:(s.heap.push 121).get? l=some {cls:= .type "list",dict:=ld,data:= .seq items nl,slots:=ls}:=Heap.get?_push_of_some _ hol;have n1:=F.sub_list_set;have n2:=F.sub_list_frozenset;have n3:(Value.type "list" ==Value.type "dict")=false:=by decide
    have il:(s.heap.push 121).IsList l items:=⟨_,el,rfl,nl,rfl⟩;unfold Builtin.«set.__init__» noKeywords Builtin.Frozenset.updateFrom;generalize hit:pyIter=PI
    wp_walk
    subst hit;apply wpAny_pyIter_list il;apply wpAny_bind;apply wpAny_runValue;have ll:l<s.heap.objs.size:=Heap.lt_size hol;have h3:A.in1.in1.in1.handled=none:=by simpa using hh
    have nI:l≠(s.heap.push 121).objs.size:=by
     rw[Heap.size_push];exact EF (F0 ll)
    have out:s.heap.objs.size∉ [(s.heap.push 121).objs.size,l]:=by
     rw[Heap.size_push];simp only[EI,not_or];exact (EF (Nat.lt_succ_self _),FW ll,Ef)
    refine vB ((Walks.list h3 _ l nI items).toS) s.heap.objs.size out ks hv inj hb items.size 0 _ rfl (El _) ((_,Heap.get?_push_size _ rfl,rfl,rfl),il.push _) ?_ ?_
    ·have e1:((s.heap.push 121).push {cls:= .type "list_iterator",data:= .fields #[.ref l,.int 0 0]}).get? s.heap.objs.size=some {cls:= .type "set",dict:=none,data:= .set #[] 0 (.fresh 0 0 led)}:=
      Heap.get?_push_of_some _ e0
     refine (_,#[],0,_,e1,(rfl,rfl,rfl),rfl,(λe he=>by simp at he),(λk=>by simp[upTo]),by decide,rfl,rfl)
    ·intro s' mv S2;obtain ⟨h',g',d',tk',os'⟩:=s';have eg:g'=s.gens:=mv.gens;have ed:d'=s.drawn:=mv.drawn;have eo:os'=s.os:=mv.os;subst eg ed eo;show wpAny _ _ _ _ _ _;apply wpAny_pure;show wpAny _ _ (ret Value.none) _ _ _;apply wpAny_pure;refine (rfl,h',tk',rfl,S2,λb o hb' e=>?_)
     refine mv.heap b o ?_ (Heap.get?_push_of_some _ (Heap.get?_push_of_some _ e));rw[Heap.size_push];simp only[EI,not_or];exact (EF hb',EF (F0 hb'),Ef)
   ·cases r2 with
    |error e=>exact hr2
    |ok fl2=>
     cases fl2 with
     |ret r=>
      obtain ⟨rfl,h',tk,rfl,S2,kp⟩:=hr2
      repeat any_goals first|assumption|wp_step
      exact fin _ _ S2 kp
     |_=>exact hr2.elim
  |_=>exact hr.elim
end
def xn (K:E5) (te:TE):TE:=λσ H Q=>te σ H λx H1=>∃(a:Addr) (ks:List Key),x= .ref a/\aD K H1 a (ks.map kV)/\ks.Nodup/\ks.length<4000/\Q (.int ks.length) H1
theorem qG {ks:List Key} (nd:ks.Nodup) (i:Nat) (hi:i<ks.length):upTo (λj=>ks.getD j (.inl 0)) i (ks.getD i (.inl 0))=false:=by
 unfold upTo;rw[List.any_eq_false];intro j hj;have lj:j<i:=Ew.mp hj;simp only[Et,E2 hi,E2 (Nat.lt_trans lj hi),Option.getD_some,decide_eq_true_eq];intro e;have:=(List.getElem_inj nd).mp e
 lia
theorem oK:∀{ks:List Key} {us:GS},bC (ks.map kV) us->∀(P:Program) (w:World) (i:Nat) (v:Value),us[i]?=some v->(aN P w).is (ks.getD i (.inl 0)) v=true/\v.scannable=true
 | [],_,.nil,P,w,i,v,h=>by simp at h
 |k::ks,_,.cons r t,P,w,0,v,h=>by
  simp at h;subst h;exists jJ r;cases k with
  |inl z=>obtain ⟨_,rfl⟩:=r;rfl
  |inr z=>obtain ⟨_,rfl⟩:=r;rfl
 |k::ks,_,.cons r t,P,w,i+1,v,h=>oK t P w i v (by simpa using h)
section
variable {e:Expr} {p1 p2 pos2:Pos}
theorem tY (hc:X.calm=true) (g1:Gl X "len") (m1:X.mg "len" =none) (g2:Gl X "set") (m2:X.mg "set" =none) (b1:bootBuiltins "len" =some (.builtin "len")) (b2:bootBuiltins "set" =some (.type "set")) (he:PE X e te)
  (hs:starEach [e] X.env= [(false,eval e X.env)]:=by rfl):
  PE X (.Call (.Name "len" p1) [.Call (.Name "set" p2) [e] [] pos2] [] pos) (xn X.K te):=by
 intro pins s σ H Q I h;apply wpAny_Call_Name_kw;refine dI I g1 m1 b1 ?_ 118 118
 refine Calls.callWith_builtin rfl (Calls.evalArgs_plain ?_);refine Calls.spliced_cons (x:=eval (.Call (.Name "set" p2) [e] [] pos2) X.env) (rest:= []) ?_;apply wpAny_Call_Name_kw;refine dI I g2 m2 b2 ?_ 118 118
 refine Er ?_ hs rfl;rw[hs];refine Calls.spliced_cons (x:=eval e X.env) (rest:= []) (bG (he pins s σ H _ I h) λv s1 (x,H1,I1,r1,a,ks,ex,hq,nd,few,q)=>?_)
 subst ex;cases r1;apply Calls.spliced_nil;obtain ⟨its,rv,pl,hz⟩:=I1.list hq;have sz:its.toArray.size=ks.length:=by rw[EN,<-rv.length,E1]
 have hli:s1.heap.IsList a its.toArray:=pl.isList;refine tX (ks:=λj=>ks.getD j (.inl 0)) (I.ok.hd hc) hli (λi v hv=>oK rv X.prog X.w i v (by simpa using hv)) (λi hi=>qG nd i (by rw[<-sz];exact hi)) (by rw[sz];show ks.length+1<4096;lia) λh' tk S2 kp=>?_
 apply Calls.spliced_nil;obtain ⟨o,es,ep,t,ho,hx,hd,_,_,hb,hf,hn⟩:=S2;refine call_len_set ho hx hd hf (by rw[hn,sz];have:ks.length<4000:=few;lia) ?_
 refine (.int ks.length,H1,I1.kept (λb o e=>kp b o (Heap.lt_size e) e),(_,by rw[hn,sz]),q)
end
end L2
namespace Sw
open PySem L2
noncomputable def x9:Str:= "abcdefghijklmnopqrstuvwxyz"
end Sw
namespace L2
open PySem PySem.Spec PyProof.Rows XH
variable {X:Cx} {scope:Scope} {cl:List (Str×Addr)} {own:Str} {ys:GQ} {js:List Nat} {elt iter cond:Expr} {px pos:Pos} {wi:TI} {te:TE} {tc:TT}
theorem fT {i:Nat} {y:Str} {py spos:Pos} (hN:X.N.Nodup) (hi':X.N[i]?=some y) (hy:X.env.scope.names.lookup y=some .local) (hc:X.calm=true) (ok:iI X scope cl own ys js) (hi:PI X (.Name own px) iter wi)
  (hq:∀(C:Addr) (fp:GR) (s:Shared) (H:Hp),PT (X.block scope cl C (own::ys) own fp s H) cond tc)
  (he:∀(C:Addr) (fp:GR) (s:Shared) (H:Hp),PE (X.block scope cl C (own::ys) own fp s H) elt te)
  (hsw:swapsWith (.ListComp elt [⟨.Name own px,iter,[cond],0⟩] scope pos) (some (.Name y py)) spos.line X.env=pure true:=by rfl) (hs:∀x,foldedSetIterable iter X.env x=pure x:=by intro _;rfl):
  PS X (.Assign [.Name y py] (.ListComp elt [⟨.Name own px,iter,[cond],0⟩] scope pos) spos) (tm (sd wi js tc te) (cg i)):=by
 intro pins s σ H D I h;have ncell:∀y∈scope.names,y.2≠ .cell:=λy hy z=>by
  have q:=ED.mp ok.nocell y hy;rw[z] at q;simp at q
 have nloc:∀y∈scope.names,y.2= .local->scope.names.lookup y.1=some .local:=λy hy z=>by
  have q:=ED.mp ok.loc y hy;rw[z] at q
  simpa using q
 show wpAny _ _ (exec _ X.env) _ _ _;rw[exec_Assign_Name_used _ _ _ _ hsw];refine wpAny_bind (wpAny_standAt (wpAny_bind ?_));show wpAny _ X.A (do let _<-comprehension (.ListComp elt [⟨.Name own px,iter,[cond],0⟩] scope pos) scope X.env _ (newList []) false (eval iter X.env) (some (assign (.Name y py) X.env))) _ _ s
 refine wpAny_bind (wpAny_mono (wpAny_comprehension_free (use:=some (assign (.Name y py) X.env)) (Q:=λ_ s'=>SP X pins D .next s') rfl hs ok.clos ok.kind nloc (bG (hi pins s σ H _ I h) λv s1 h1=>bG h1 λitv s2 h2=>?_)) (λ_ s' hq=>wpAny_pure (wpAny_pure hq)) λ_ _ e=>e)
 obtain ⟨it,fp,tn,J,H2,rfl,I2,T,st2,f2,q2⟩:=h2;obtain ⟨W,⟨m0,w0⟩,turn⟩:=q2 s2.heap.objs.size (I2.hok.fresh (E8 _));refine wpAny_newObj_type (wpAny_newFunctionEnv ncell (by intro y hy;simp at hy) (λh1 hns hsb=>?_) ok.kind)
 have I3:=I2.laid (a:=s2.heap.objs.size) (o:= .lst []) (h':=s2.heap.push 124) (t':=s2.toks) (λb u q=>Heap.get?_push_of_some _ q) (E8 _)
  ⟨El _,[],0,.nil,Heap.get?_push_size _ rfl⟩
 have fpo:∀b∈fp,b<s2.heap.objs.size:=λb hb=>by
  obtain ⟨o,e,_⟩:=T.obj 0 _ st2 b hb;exact Heap.lt_size e
 have f3:∀b∈fp,dX X pins 131 b:=λb hb=>⟨by rw[aK (EF (fpo b hb))];exact (f2 b hb).1,(f2 b hb).2⟩
 generalize hs3:({s2 with heap:=s2.heap.push 124,toks:=s2.toks}:Shared)=s3 at I3
 have e3:s3.heap=s2.heap.push {cls:= .type "list",dict:=none,data:= .seq ([]:GS).toArray}:=by rw[<-hs3]
 have lt3:∀b∈fp,b<s3.heap.objs.size:=λb hb=>by rw[e3,Heap.size_push];exact F0 (fpo b hb)
 dsimp only at hns hsb⊢;rw[<-e3] at hns hsb;have hk:∀b o,s3.heap.get? b=some o->h1.get? b=some o:=λb o e=>hsb.extBut b o (EF (Heap.lt_size e)) (Heap.get?_push_of_some _ e)
 have J0:=eU (h1:=h1) ok I3 f3 lt3 hns hk (s2.toks+0);have t0:tn 0 h1:=T.keep 0 _ _ st2 λb hb o e=>hk b o (by rw[e3];exact Heap.get?_push_of_some _ e)
 have fpB:∀{H':Hp},(∀b∈fp,H' b=none)->∀b∈fp,dX 116 [] H' b:=λ{H'} hn b hb=>
  ⟨hn b hb,EF (lt3 b hb),λz=>(EI.mp (I3.stkSub b z)).elim (f3 b hb).2.1 (f3 b hb).2.2.1,.inl hb,λx c e=>(f3 b hb).2.2.2.2.1 x c (ok.sub (x,c) (Eo e)),λp hp=>absurd (show p∈([]:GP) from hp) 147⟩
 have loop:codeAny 135 X.A (.compLoop (.ListComp elt [⟨.Name own px,iter,[cond],0⟩] scope pos) 0 (.ref it) 126 (compEnvC scope cl s3.heap.objs.size X.env))
   (compPost 135 X.A X.xe (some (assign (.Name y py) X.env)) (λ_ s'=>SP X pins D .next s') 126 s3.heap.objs.size) {s3 with heap:=h1,toks:=s2.toks+0}:=by
  refine jL (λn s'=>∃i zs o0 H',aQ 116 [] (o0::aP js σ) H' s'/\tn i s'.heap/\(∀b∈fp,H' b=none)/\W i n zs H') ?_ m0
   ⟨0,[],none,_,J0,t0,λb hb=>(f3 b hb).1,w0⟩
  rintro n s5 ⟨i,zs,o0,H5,I5,t5,n5,w5⟩;obtain ⟨hD,hw⟩:=turn i n zs H5 w5;rcases hw with ⟨stop,qn⟩|⟨go,hz,step⟩
  ·refine bG (T.done 116 rfl rfl rfl hc i [] s5 _ H5 (λ_ _=>False) I5 (fpB n5) t5 stop) λr s6 (hr,I6)=>?_
   subst hr;obtain ⟨m,hn,_⟩:=id I6.loc;have J:aQ X pins σ H5 s6:=fQ (h':=s6.heap) I3 f3 I6 (Heap.SameBut.refl _ _);have fC:=I3.fpOk (E8 _) (show H5 s3.heap.objs.size=none from I6.free)
   obtain ⟨k0,k1,k2,k3,k4,k5⟩:=fC;show wpAny _ X.A (assign (.Name y py) X.env 126) _ _ _;refine wpAny_assign_Name (hW (v:= .ref s2.heap.objs.size) J hN hi' (.inl hy) rfl (λs7 I7 hsb=>?_) (.inr hy))
   obtain ⟨a',sb,ha⟩:=hsb;have ne:s3.heap.objs.size≠a':=by
    rcases ha with z|z
    ·rw[z];exact k1
    ·exact λw=>k4 _ _ z w.symm
   exact (m,hn.sameBut sb ne,λh' hs'=>(_,H5,I7.turned (t':=s7.toks) (λb o hb e=>(hs'.2 b hb).trans e) k0 k1 k3 k4 k5,qn))
  ·refine bG (T.item 116 rfl rfl rfl hc i [] s5 _ H5 (λ_ _=>False) I5 (fpB n5) t5 go) λr s6 (u,hr,h6)=>?_
   subst hr;refine bG h6 λ_ s7 (x,H7,I7,r7,y7,t7,n7)=>?_
   have I7':=I7.pinned (fpB n7) (T.obj _ _ t7);have hst:=step x H7 y7;have own':(relabel scope X.env).names.lookup own=some .local:=lookup_relabel_local ok.ownL;refine bG (dG (X:=X.block scope cl s3.heap.objs.size (own::ys) own fp s3 131) (i:=0) (x:=own) (pos:=px) ok.nd rfl (.inl own') (.inr own') _ s7 _ H7 x u (λσ' H'=>σ'=some x::aP js σ/\H'=H7) I7' r7 (rfl,rfl)) λ_ s8 (σ8,H8,I8,e8,eH8)=>?_
   subst e8 eH8;refine bG (hq _ _ _ _ _ s8 _ H8 _ I8 hst) λok s9 (H9,I9,h9)=>?_
   have frame:∀{s':Shared} {H':Hp},aQ 116 ([]++jk fp s7.heap) (some x::aP js σ) H' s'->tn (i+1) s'.heap/\∀b∈fp,H' b=none:=λ{s' H'} I'=>
    ⟨T.keep _ _ _ t7 λb hb o e=>(I'.pin (b,o) (E9 _ (E9 _ (bQ hb e)))).1,λb hb=>by
     obtain ⟨o,e,d⟩:=T.obj _ _ t7 b hb;exact (I'.pin (b,o) (E9 _ (E9 _ (bQ hb e)))).2.1⟩
   cases ok with
   |true=>
    refine bG (he _ _ _ _ _ s9 _ H9 _ I9 h9) λyv s10 (y,H10,I10,r10,hD10,m',hm,w10)=>?_
    refine bG (bw _ s10 _ H10 126 [y] 126 [yv] (λ_ H'=>H'=aH H10 s2.heap.objs.size (.lst (zs++ [y]))) I10 rfl (.cons r10 .nil) (_,zs,y,rfl,rfl,hD10,hz,rfl)) λ_ s11 (_,H11,I11,_,e11)=>?_
    subst e11;exact (m',hm,i+1,zs++ [y],some x,_,I11.unpinned,(frame I11).1,(frame I11).2,w10)
   |false=>
    obtain ⟨m',hm,w10⟩:=h9;exact (m',hm,i+1,zs,some x,_,I9.unpinned,(frame I9).1,(frame I9).2,w10)
 subst hs3;exact codeAny_compStart_list loop (T.self _ 0 _ _ _ t0 loop)
theorem fU {X:Cx} (hu:X.A.units<cLine):gJ X (compareOp .Eq) (λx y H Q=>∃a b zs,x= .ref a/\y= .ref b/\aD X.K H a zs/\aD X.K H b []/\Q (.bl zs.isEmpty) H):=by
 intro pins s σ H x y v u Q I rx ry h;obtain ⟨a,b,zs,rfl,rfl,h1,h2,hq⟩:=h;cases rx;cases ry;obtain ⟨i1,r1,p1,_⟩:=I.list h1;obtain ⟨i2,r2,p2,_⟩:=I.list h2;cases r2;cases zs with
 |nil=>
  cases r1;refine SeqAt.eq_listAt (e:=λ_=>true) p1.isList p2.isList rfl hu (λj g1 g2=>absurd g1 147) ?_
  exact (.bl true,H,I,by show Value.bool _=Value.bool _;simp,hq)
 |cons z zs=>
  cases r1 with
  |cons r rr=>
   refine SeqAt.eq_list_lengthsAt p1.isList p2.isList 147 hu ?_
   exact (.bl false,H,I,rfl,hq)
end L2
namespace Sw
open PySem L2 PyProof.Rows
theorem lQ {α β:Type} {F:α->β->Prop}:∀{l:List α} {m:List β},Paired F l m->∀{i:Nat} {b:β},m[i]?=some b->∃a,l[i]?=some a/\F a b
 |_,_,.nil,i,b,h=>by simp at h
 |_,_,.cons r t,0,b,h=>by simp at h;subst h;exact (ν,r)
 |_,_,.cons r t,i+1,b,h=>by
  obtain ⟨a,h1,h2⟩:=lQ t (i:=i) (by simpa using h)
  exact (a,by simpa using h1,h2)
end Sw
namespace L2
open PySem PySem.Spec PyProof.Rows XH Sw So
theorem si:∀{acc:GS} {ks:GQ},acc.length=ks.length->(∀(j:Nat) (v:Value),acc[j]?=some v->∃y t,ks[j]?=some y/\v= .str y t)->StrsAre acc ks
 | [],[],_,_=> .nil
 |v::acc,k::ks,hl,h=>by
  obtain ⟨y,t,e,rfl⟩:=h 0 v rfl;simp at e;subst e;exact .cons _ _ (si (by simpa using hl) λj u hu=>h (j+1) u (by simpa using hu))
 | [],_::_,hl,_=>by simp at hl
 |_::_,[],hl,_=>by simp at hl
theorem i8:∀{us:GS} {ks:GQ},StrsAre us ks->bC (ks.map V.str) us
 |_,_,.nil=> .nil
 |_,_,.cons y t h=> .cons ⟨t,rfl⟩ (i8 h)
theorem oM {prog:Program} {w:World} {A:Around} {E:GN} {s:Shared} {T:String} {r d:Addr} {n:Nat} {P:Nat->Value->Prop} {OK:Heap->Prop} {R:GS->Shared->Prop} (K:PySem.W.KdlSrc prog w T r d n P OK) (hh:A.handled=none) (hok:OK s.heap) (hn:n<=sizeLine)
  (h:∀(h':Heap) (tk:Nat) (acc:Array Value),s.heap.objs.size<h'.objs.size->(∀b o,s.heap.get? b=some o->h'.get? b=some o)->PySem.ItemsOf P acc n->R acc.toList {s with heap:=h',toks:=tk}):
  wpAny 139 A (collect (.ref r)) R E s:=by
 have hlt:=K.there _ hok;unfold collect;refine wpAny_bind (wpAny_runValue (codeAny_builtin entry_proto_collect' ?_));rw[Around.under_plainId PySem.F.plain_proto_collect _];show wpAny _ A.in1 (newList []>>=λl=>again (.builtin "list.__iadd__" ⟨[l,.ref r],[]⟩)) _ _ s
 refine wpAny_bind (wpAny_newObj_type (wpAny_pure (plainId_quiet PySem.F.plain_list_iadd _,codeAny_builtin entry_list_iadd' ?_)));rw[Around.under_plainId PySem.F.plain_list_iadd _];have fresh:(s.heap.push {cls:= .type "list",data:= .seq ([]:GS).toArray}).get? s.heap.objs.size=some {cls:= .type "list",data:= .seq #[]}:=Heap.get?_push_size _ rfl;show wpAny _ A.in1 (Builtin.List.listExtendWith (.ref s.heap.objs.size) (.ref r) (.ref s.heap.objs.size)) _ _ _;have key:=PySem.W.kdl_extend (A:=A) (s:={s with heap:=s.heap.push {cls:= .type "list",data:= .seq ([]:GS).toArray}})
  (R:=λ(q:Result) (s':Shared)=>∃(h':Heap) (tk:Nat) (acc:Array Value) (c:Nat),q= .ok (.ret (.ref s.heap.objs.size))/\s'={s with heap:=h',toks:=tk}/\(∀b o,s.heap.get? b=some o->h'.get? b=some o)/\h'.get? s.heap.objs.size=some {cls:= .type "list",dict:=none,data:= .seq acc c,slots:= #[]}/\PySem.ItemsOf P acc n)
  K hh (K.keep _ _ hok λb _ o e=>Heap.get?_push_of_some _ e) s.heap.objs.size (FW hlt.1) (FW hlt.2) (.ref s.heap.objs.size) 0 fresh
  (λh' tk acc c hk hS ha=>⟨h',tk,acc,c,rfl,rfl,λb o e=>hk b o (EF (Heap.lt_size e)) (Heap.get?_push_of_some _ e),hS,ha⟩) hn
 have fin:∀{h':Heap} {tk c:Nat} {acc:Array Value},(∀b o,s.heap.get? b=some o->h'.get? b=some o)->h'.get? s.heap.objs.size=some {cls:= .type "list",dict:=none,data:= .seq acc c,slots:= #[]}->PySem.ItemsOf P acc n->R acc.toList {s with heap:=h',toks:=tk}:=
  λ{h' tk c acc} hk hS ha=>h h' tk acc (Heap.lt_size hS) hk ha
 refine wpAny_mono key (λf s' x=>?_) λe s' x=>?_
 ·cases f with
  |done f=>
   obtain ⟨h',tk,acc,c,e,rfl,hk,hS,ha⟩:=x;cases e;show wpAny _ A (load s.heap.objs.size>>=_) _ _ _;exact wpAny_bind (wpAny_load hS (wpAny_pure (fin hk hS ha)))
  |again c₁=>
   refine (x.1,codeAny_mono x.2 λq s₂ y=>?_)
   obtain ⟨h',tk,acc,c,rfl,rfl,hk,hS,ha⟩:=y;show wpAny _ A (load s.heap.objs.size>>=_) _ _ _;exact wpAny_bind (wpAny_load hS (wpAny_pure (fin hk hS ha)))
 ·obtain ⟨_,_,_,_,e',_⟩:=x;cases e'
end L2
namespace So
open PySem PySem.Spec PyProof.Rows
end So
namespace L2
open PySem PySem.Spec PyProof.Rows XH Sw So
end L2
namespace Hm
abbrev Ky:=List Int
open PySem PySem.SeqAt PySem.MeetsSeq
end Hm
namespace L2
open PySem PySem.Spec PyProof.Rows XH Sw So Hm
variable {X:Cx} {scope:Scope} {cl:List (Str×Addr)} {own:Str} {ys:GQ} {js:List Nat} {elt iter:Expr} {px pos:Pos} {wi:TI} {te:TE}
theorem fu {i:Nat} {y:Str} {py spos:Pos} (hN:X.N.Nodup) (hi':X.N[i]?=some y) (hy:X.env.scope.names.lookup y=some .local) (hc:X.calm=true) (ok:iI X scope cl own ys js) (hi:PI X (.Name own px) iter wi)
  (he:∀(C:Addr) (fp:GR) (s:Shared) (H:Hp),PE (X.block scope cl C (own::ys) own fp s H) elt te)
  (hsw:swapsWith (.ListComp elt [⟨.Name own px,iter,[],0⟩] scope pos) (some (.Name y py)) spos.line X.env=pure true:=by rfl) (hs:∀x,foldedSetIterable iter X.env x=pure x:=by intro _;rfl):
  PS X (.Assign [.Name y py] (.ListComp elt [⟨.Name own px,iter,[],0⟩] scope pos) spos) (tm (vc wi js te) (cg i)):=by
 intro pins s σ H D I h;have ncell:∀y∈scope.names,y.2≠ .cell:=λy hy z=>by
  have q:=ED.mp ok.nocell y hy;rw[z] at q;simp at q
 have nloc:∀y∈scope.names,y.2= .local->scope.names.lookup y.1=some .local:=λy hy z=>by
  have q:=ED.mp ok.loc y hy;rw[z] at q
  simpa using q
 show wpAny _ _ (exec _ X.env) _ _ _;rw[exec_Assign_Name_used _ _ _ _ hsw];refine wpAny_bind (wpAny_standAt (wpAny_bind ?_));show wpAny _ X.A (do let _<-comprehension (.ListComp elt [⟨.Name own px,iter,[],0⟩] scope pos) scope X.env _ (newList []) false (eval iter X.env) (some (assign (.Name y py) X.env))) _ _ s
 refine wpAny_bind (wpAny_mono (wpAny_comprehension_free (use:=some (assign (.Name y py) X.env)) (Q:=λ_ s'=>SP X pins D .next s') rfl hs ok.clos ok.kind nloc (bG (hi pins s σ H _ I h) λv s1 h1=>bG h1 λitv s2 h2=>?_)) (λ_ s' hq=>wpAny_pure (wpAny_pure hq)) λ_ _ e=>e)
 obtain ⟨it,fp,tn,J,H2,rfl,I2,T,st2,f2,q2⟩:=h2;obtain ⟨W,⟨m0,w0⟩,turn⟩:=q2 s2.heap.objs.size (I2.hok.fresh (E8 _));refine wpAny_newObj_type (wpAny_newFunctionEnv ncell (by intro y hy;simp at hy) (λh1 hns hsb=>?_) ok.kind)
 have I3:=I2.laid (a:=s2.heap.objs.size) (o:= .lst []) (h':=s2.heap.push 124) (t':=s2.toks) (λb u q=>Heap.get?_push_of_some _ q) (E8 _)
  ⟨El _,[],0,.nil,Heap.get?_push_size _ rfl⟩
 have fpo:∀b∈fp,b<s2.heap.objs.size:=λb hb=>by
  obtain ⟨o,e,_⟩:=T.obj 0 _ st2 b hb;exact Heap.lt_size e
 have f3:∀b∈fp,dX X pins 131 b:=λb hb=>⟨by rw[aK (EF (fpo b hb))];exact (f2 b hb).1,(f2 b hb).2⟩
 generalize hs3:({s2 with heap:=s2.heap.push 124,toks:=s2.toks}:Shared)=s3 at I3
 have e3:s3.heap=s2.heap.push {cls:= .type "list",dict:=none,data:= .seq ([]:GS).toArray}:=by rw[<-hs3]
 have lt3:∀b∈fp,b<s3.heap.objs.size:=λb hb=>by rw[e3,Heap.size_push];exact F0 (fpo b hb)
 dsimp only at hns hsb⊢;rw[<-e3] at hns hsb;have hk:∀b o,s3.heap.get? b=some o->h1.get? b=some o:=λb o e=>hsb.extBut b o (EF (Heap.lt_size e)) (Heap.get?_push_of_some _ e)
 have J0:=eU (h1:=h1) ok I3 f3 lt3 hns hk (s2.toks+0);have t0:tn 0 h1:=T.keep 0 _ _ st2 λb hb o e=>hk b o (by rw[e3];exact Heap.get?_push_of_some _ e)
 have fpB:∀{H':Hp},(∀b∈fp,H' b=none)->∀b∈fp,dX 116 [] H' b:=λ{H'} hn b hb=>
  ⟨hn b hb,EF (lt3 b hb),λz=>(EI.mp (I3.stkSub b z)).elim (f3 b hb).2.1 (f3 b hb).2.2.1,.inl hb,λx c e=>(f3 b hb).2.2.2.2.1 x c (ok.sub (x,c) (Eo e)),λp hp=>absurd (show p∈([]:GP) from hp) 147⟩
 have loop:codeAny 135 X.A (.compLoop (.ListComp elt [⟨.Name own px,iter,[],0⟩] scope pos) 0 (.ref it) 126 (compEnvC scope cl s3.heap.objs.size X.env))
   (compPost 135 X.A X.xe (some (assign (.Name y py) X.env)) (λ_ s'=>SP X pins D .next s') 126 s3.heap.objs.size) {s3 with heap:=h1,toks:=s2.toks+0}:=by
  refine dZ (λn s'=>∃i zs o0 H',aQ 116 [] (o0::aP js σ) H' s'/\tn i s'.heap/\(∀b∈fp,H' b=none)/\W i n zs H') ?_ m0
   ⟨0,[],none,_,J0,t0,λb hb=>(f3 b hb).1,w0⟩
  rintro n s5 ⟨i,zs,o0,H5,I5,t5,n5,w5⟩;obtain ⟨hD,hw⟩:=turn i n zs H5 w5;rcases hw with ⟨stop,qn⟩|⟨go,hz,step⟩
  ·refine bG (T.done 116 rfl rfl rfl hc i [] s5 _ H5 (λ_ _=>False) I5 (fpB n5) t5 stop) λr s6 (hr,I6)=>?_
   subst hr;obtain ⟨m,hn,_⟩:=id I6.loc;have J:aQ X pins σ H5 s6:=fQ (h':=s6.heap) I3 f3 I6 (Heap.SameBut.refl _ _);have fC:=I3.fpOk (E8 _) (show H5 s3.heap.objs.size=none from I6.free)
   obtain ⟨k0,k1,k2,k3,k4,k5⟩:=fC;show wpAny _ X.A (assign (.Name y py) X.env 126) _ _ _;refine wpAny_assign_Name (hW (v:= .ref s2.heap.objs.size) J hN hi' (.inl hy) rfl (λs7 I7 hsb=>?_) (.inr hy))
   obtain ⟨a',sb,ha⟩:=hsb;have ne:s3.heap.objs.size≠a':=by
    rcases ha with z|z
    ·rw[z];exact k1
    ·exact λw=>k4 _ _ z w.symm
   exact (m,hn.sameBut sb ne,λh' hs'=>(_,H5,I7.turned (t':=s7.toks) (λb o hb e=>(hs'.2 b hb).trans e) k0 k1 k3 k4 k5,qn))
  ·refine bG (T.item 116 rfl rfl rfl hc i [] s5 _ H5 (λ_ _=>False) I5 (fpB n5) t5 go) λr s6 (u,hr,h6)=>?_
   subst hr;refine bG h6 λ_ s7 (x,H7,I7,r7,y7,t7,n7)=>?_
   have I7':=I7.pinned (fpB n7) (T.obj _ _ t7);have hst:=step x H7 y7;have own':(relabel scope X.env).names.lookup own=some .local:=lookup_relabel_local ok.ownL;refine bG (dG (X:=X.block scope cl s3.heap.objs.size (own::ys) own fp s3 131) (i:=0) (x:=own) (pos:=px) ok.nd rfl (.inl own') (.inr own') _ s7 _ H7 x u (λσ' H'=>σ'=some x::aP js σ/\H'=H7) I7' r7 (rfl,rfl)) λ_ s8 (σ8,H8,I8,e8,eH8)=>?_
   subst e8 eH8;refine bG (he _ _ _ _ _ s8 _ H8 _ I8 hst) λyv s9 (y,H9,I9,r9,hD9,m',hm,w9)=>?_
   refine bG (bw _ s9 _ H9 126 [y] 126 [yv] (λ_ H'=>H'=aH H9 s2.heap.objs.size (.lst (zs++ [y]))) I9 rfl (.cons r9 .nil) (_,zs,y,rfl,rfl,hD9,hz,rfl)) λ_ s10 (_,H10,I10,_,e10)=>?_
   subst e10;refine (m',hm,i+1,zs++ [y],some x,_,I10.unpinned,T.keep _ _ _ t7 λb hb o e=>(I10.pin (b,o) (E9 _ (E9 _ (bQ hb e)))).1,λb hb=>?_,w9)
   obtain ⟨o,e,d⟩:=T.obj _ _ t7 b hb;exact (I10.pin (b,o) (E9 _ (E9 _ (bQ hb e)))).2.1
 subst hs3;exact codeAny_compStart_list loop (T.self _ 0 _ _ _ t0 loop)
theorem oN:∀{ws:GQ} {us:GS},bC (ws.map V.str) us->StrsAre us ws
 | [],_,h=>by cases h;exact .nil
 |w::ws,_,h=>by
  cases h with
  |cons r rr=>
   obtain ⟨t,rfl⟩:=r;exact .cons _ _ (oN rr)
theorem xo:C5 X "str.join" (λx vs H Q=>∃z a ws,x= .str z/\vs= [.ref a]/\aD X.K H a (ws.map V.str)/\z.length<=16/\(ws.map (λx=>x.length)).sum+ws.length<=1048576/\Q (.str (Txt.join z ws)) H):=by
 intro pins s σ H x vs v us Q I rx rv h;obtain ⟨z,a,ws,rfl,rfl,hS,hz,hl,q⟩:=h;obtain ⟨t,rfl⟩:=rx;obtain ⟨u,rfl,ru⟩:=vals1 rv;cases ru;obtain ⟨its,r,p,_⟩:=I.list hS;exact join_listW p.isList (by simpa using oN r) hz hl λt' k=>(.str _,H,I.tok _,⟨ν⟩,q)
end L2
namespace Sw
open PySem L2 XH PySem.NumText
theorem sj (x:Str) (gs:GQ):qd (.str x) (gs.map V.str)=decide (x∈gs):=by
 unfold qd;rw[F4];simp[wC]
theorem lR (gs:GQ):(gs.map V.str).all gM=true:=by
 rw[ED];intro x hx;obtain ⟨g,_,rfl⟩:=EO.mp hx
 rfl
theorem CB {x:Str} {gs:GQ} {A B:Prop} (h1:x∈gs->A) (h2:x∉gs->B):if (if false=true then !qd (.str x) (gs.map V.str) else qd (.str x) (gs.map V.str))=true then A else B:=by
 rw[if_neg (by decide:¬false=true),sj]
 exact d2 h1 h2
end Sw
namespace L2
open PySem PySem.Spec PyProof.Rows XH Sw So Hm
theorem gO {X:Cx} (hu:X.A.units<cLine):gJ X (compareOp .NotEq) (λx y H Q=>∃a b zs,x= .ref a/\y= .ref b/\aD X.K H a zs/\aD X.K H b []/\Q (.bl (!zs.isEmpty)) H):=by
 intro pins s σ H x y v u Q I rx ry h;obtain ⟨a,b,zs,rfl,rfl,h1,h2,hq⟩:=h;cases rx;cases ry;obtain ⟨i1,r1,p1,_⟩:=I.list h1;obtain ⟨i2,r2,p2,_⟩:=I.list h2;cases r2;cases zs with
 |nil=>
  cases r1;refine SeqAt.RcNeAt.lists (e:=λ_=>true) p1.isList p2.isList rfl hu (λj g1 g2=>absurd g1 147) _ _ _ _ ?_
  exact (.bl false,H,I,by show Value.bool _=Value.bool _;simp,hq)
 |cons z zs=>
  cases r1 with
  |cons r rr=>
   refine SeqAt.RcNeAt.lists_lengths p1.isList p2.isList 147 hu _ _ _ _ ?_
   exact (.bl true,H,I,rfl,hq)
theorem cO {xs:List V} {c:Nat} (h:c<=xs.length):fM xs none (some (c:Int))=xs.take c:=by
 have e1:HT.fg xs.length 0 none=0:=rfl;have e2:HT.fg xs.length xs.length (some (c:Int))=c:=by
  show (if (c:Int)<0 then ((c:Int)+(xs.length:Int)).toNat else min (c:Int).toNat xs.length)=c
  rw[if_neg (by lia)]
  lia
 unfold fM;rw[e1,e2,List.drop_zero,Nat.sub_zero]
theorem db {xs:List V} {c:Nat} (h:c<=xs.length):fM xs (some (c:Int)) none=xs.drop c:=by
 have e1:HT.fg xs.length 0 (some (c:Int))=c:=by
  show (if (c:Int)<0 then ((c:Int)+(xs.length:Int)).toNat else min (c:Int).toNat xs.length)=c
  rw[if_neg (by lia)]
  lia
 have e2:HT.fg xs.length xs.length none=xs.length:=rfl;unfold fM;rw[e1,e2,Fl (by rw[EL];lia)]
end L2
namespace Sw
open PySem L2 XH Hm
theorem xp {n j:Nat} (h:j<n):uX n (j:Int)=some j:=by
 unfold uX;rw[if_pos (by lia),if_pos (by lia)]
 rfl
theorem xq {xs:List V} {i:Nat} {v:V} (h:xs[i]?=some v):iP xs (0+(i:Int))=some v:=by
 rw[Int.zero_add];exact aT h
end Sw
namespace L2
open PySem PySem.Spec PyProof.Rows XH Sw Hm
end L2
namespace Sw
open PySem L2 XH Hm
def eE {α:Type} (R:Addr->α->Prop) (as:GR) (xs:List α):Prop:=as.length=xs.length/\∀(i:Nat) (a:Addr) (x:α),as[i]?=some a->xs[i]?=some x->R a x
theorem eE.imp {α:Type} {R S:Addr->α->Prop} {as:GR} {xs:List α} (h:eE R as xs) (f:∀a x,R a x->S a x):eE S as xs:=⟨h.1,λi a x e1 e2=>f a x (h.2 i a x e1 e2)⟩
theorem eE.nil {α:Type} {R:Addr->α->Prop}:eE R [] ([]:List α):=⟨rfl,λi a x e=>by simp at e⟩
theorem eE.snoc {α:Type} {R:Addr->α->Prop} {as:GR} {xs:List α} (h:eE R as xs) {a:Addr} {x:α} (r:R a x):eE R (as++ [a]) (xs++ [x]):=by
 refine (by simp[h.1],λi b y e1 e2=>?_)
 have il:=(E6.mp e1).1
 by_cases c:i<as.length
 ·rw[F3 c] at e1;rw[F3 (by rw[<-h.1];exact c)] at e2
  exact h.2 i b y e1 e2
 ·have ei:i=as.length:=by simp at il;lia
  subst ei;rw[Ex (E8 _)] at e1;rw[Ex (by rw[h.1];exact E8 _),h.1] at e2
  simp at e1 e2;subst e1 e2;exact r
def bq (H:Hp) (l:Addr) (ks:List Ky):Prop:=∃as:GR,H l=some (.lst (as.map V.ref))/\eE (λt k=>H t=some (.tup (k.map V.int))) as ks
theorem bq.same {H H':Hp} {l:Addr} {ks:List Ky} (h:bq H l ks) (g:aE H H'):bq H' l ks:=by
 obtain ⟨as,e,r⟩:=h;exact (as,g _ _ e,r.imp λa k q=>g _ _ q)
end Sw
namespace L2
open PySem PySem.Spec PyProof.Rows XH
theorem qH {X:Cx}:du X (.builtin "len") (λxs H Q=>∃(d:Addr) (kvs:List (Key×V)),xs= [.ref d]/\H d=some 149/\Q (.int kvs.length) H):=by
 intro pins s σ H xs us Q I r h;obtain ⟨d,kvs,rfl,hd,q⟩:=h;obtain ⟨u,rfl,ru⟩:=vals1 r;cases ru;exact AN I (.inl hd) λt s' I'=>(.int kvs.length,H,I',(t,rfl),q)
theorem bF {X:Cx} {K:E5} (h:X.K=K):Am X (AJ K):=by
 subst h;exact aC
theorem gP {X:Cx} {K:E5} (h:X.K=K):Am X (AI K):=by
 subst h;exact br
theorem gv {X:Cx} {K:E5} (h:X.K=K):du X (.type "list") (λxs H Q=>∃p ys,xs= [.ref p]/\(aD K H p ys∨be K H p ys)/\∀l,H l=none->Q (.ref l) (aH H l (.lst ys))):=by
 subst h;exact bY
theorem ki:bootBuiltins "dict" =some (.type "dict"):=by kernel_rfl
end L2
namespace Sw
open PySem L2 XH Hm
noncomputable def kj (td tl al pl n:V):List (Str×V):=bB "moments" n (bB "apart" pl (bB "arcs" al (bB "tasks" tl (bB "tools" td []))))
theorem xr {td tl al pl n:V}:(kj td tl al pl n).lookup ("tools" :Str)=some td/\(kj td tl al pl n).lookup ("tasks" :Str)=some tl/\(kj td tl al pl n).lookup ("arcs" :Str)=some al/\(kj td tl al pl n).lookup ("apart" :Str)=some pl/\(kj td tl al pl n).lookup ("moments" :Str)=some n:=by
 unfold kj;exists ?_,?_,?_,?_
 ·rw[bD,if_neg 118,bD,if_neg 118,bD,if_neg 118,bD,if_neg 118,bD,if_pos rfl]
 ·rw[bD,if_neg 118,bD,if_neg 118,bD,if_neg 118,bD,if_pos rfl]
 ·rw[bD,if_neg 118,bD,if_neg 118,bD,if_pos rfl]
 ·rw[bD,if_neg 118,bD,if_pos rfl]
 ·rw[bD,if_pos rfl]
def Fx (x:Addr) (H H':Hp):Prop:=∀a o,a≠x->H a=some o->H' a=some o
theorem Fx.of {x:Addr} {H H':Hp} (g:aE H H'):Fx x H H':=λa o _ h=>g a o h
theorem Fx.put (x:Addr) (H:Hp) (o:HO):Fx x H (aH H x o):=λa u n h=>by rw[aK n];exact h
theorem Fx.trans {x:Addr} {H H1 H2:Hp} (a:Fx x H H1) (b:Fx x H1 H2):Fx x H H2:=λc o n h=>b c o n (a c o n h)
theorem bq.fx {x:Addr} {H H':Hp} {l:Addr} {ks:List Ky} {C dx:Addr} {fs:List (Str×V)} (h:bq H l ks) (ex:H x=some (.ins C dx fs)) (g:Fx x H H'):bq H' l ks:=by
 obtain ⟨as,e,r⟩:=h;exact ⟨as,g _ _ (iR e ex (by intro z;cases z)) e,r.imp λa k q=>g _ _ (iR q ex (by intro z;cases z)) q⟩
def sk:Sp:=λvs H Q _=>∃(al:Addr) (m:Int) (A:List Ky),vs= [.ref al,.int m]/\bq H al A/\A.length<=600/\(∀k∈A,∃p q g:Int,k= [p,q,g]/\0<=p/\p<m/\0<=q/\q<m/\ -1000000000<=g/\g<=1000000000)/\Q .non H
end Sw
namespace L2
open PySem PySem.Spec PyProof.Rows XH
abbrev Cx.blockT (X:Cx) (scope:Scope) (cl:List (Str×Addr)) (C:Addr) (N:GQ) (os:GQ) (fp:GR) (s:Shared) (H:Hp):Cx:=
 {X with env:=compEnvC scope cl C X.env,N:=N,s₀:=s,H₀:=H,outer:=X.stack,stack:=X.stack,ex:=fp,fn:=λy=>os.contains y,pn:= [],xe:=λ_ _=>False}
structure jV (X:Cx) (scope:Scope) (cl:List (Str×Addr)) (os:GQ) (ys:GQ) (js:List Nat):Prop where
 clos:closureFor scope X.env=pure cl
 nocell:(scope.names.all λp=> !(p.2== .cell))=true
 kind:scope.kind= .function
 loc:(scope.names.all λp=> !(p.2== .local)||scope.names.lookup p.1==some .local)=true
 sub:∀p∈cl,X.env.cells.lookup p.1=some p.2
 has:((relabel scope X.env).names.all λp=> !(p.2== .cell||p.2== .free)||(cl.lookup p.1).isSome)=true
 noown:∀x∈os,cl.lookup x=none
 at_:Sw.jr X scope ys js
 len:js.length=ys.length
def qI (n:Nat) (g:TG) (js:List Nat) (te:TE) (σ:St) (Q:VK):It->Hp->Prop:=λJ H1=>∀p,H1 p=none->∃W:Nat->Nat->List V->Hp->Prop,(∃m,W 0 m [] (aH H1 p 142))/\
 ∀i m ys H2,W i m ys H2->H2 p=some (.lst ys)/\((J.stop i H2/\Q (.ref p) H2)∨(J.go i H2/\ys.length<sizeLine/\∀x H3,J.yld i H2 x H3->∀o:St,o.length=n->g x (o++aP js σ) H3 λσ4 H4=>(∃o':St,o'.length=n/\σ4=o'++aP js σ)/\
  te σ4 H4 λy H5=>H5 p=some (.lst ys)/\∃m',m'<m/\W (i+1) m' (ys++ [y]) (aH H5 p (.lst (ys++ [y])))))
def vC (wi:TI) (n:Nat) (g:TG) (js:List Nat) (te:TE):TE:=λσ H Q=>wi σ H (qI n g js te σ Q)
section
variable {X:Cx} {scope:Scope} {cl:List (Str×Addr)} {os:GQ} {ys:GQ} {js:List Nat} {fp:GR} {pins:GP} {σ:St} {H:Hp} {s s4:Shared}
theorem i9 {h1:Heap} (ok:jV X scope cl os ys js) (I:aQ X pins σ H s) (hf:∀b∈fp,dX X pins H b) (hlt:∀b∈fp,b<s.heap.objs.size) (hns:h1.Ns s.heap.objs.size (λ_=>none))
  (hk:∀b o,s.heap.get? b=some o->h1.get? b=some o) (tk:Nat):
  aQ (X.blockT scope cl s.heap.objs.size (os++ys) os fp s H) [] (os.map (λ_=>none)++aP js σ) H {s with heap:=h1,toks:=tk}:=by
 have sub:∀y c,cl.lookup y=some c->X.env.cells.lookup y=some c:=λy c e=>ok.sub (y,c) (Eo e)
 refine ⟨⟨I.ok.mod,ok.kind,I.ok.glob,I.ok.blt,E8 _,λx y c e1 e2=>I.ok.inj x y c (sub x c e1) (sub y c e2),λx hx=>?_,λx c e1 e2=>?_,I.ok.hd,I.ok.frames,.inl rfl,λb hb=>(EF (hlt b hb),λx c e=>(hf b hb).2.2.2.2.1 x c (sub x c e)),
  I.bs,FB I.ok.bsz I.sz,λb o e hb=>?_,λb hb z=>?_,I.stack,I.stkFree⟩,rfl,I.bare,Un.kept hk,⟨_,hns,λi y v e1 e2 e3=>?_⟩,λy c e=>?_,I.hok.fresh (E8 _),λy c e=>I.freeC y c (sub y c e),λp hp=>absurd (show p∈([]:GP) from hp) 147,I.hok.kept hk,?_⟩
 ·have hx':(relabel scope X.env).names.lookup x=some .cell∨(relabel scope X.env).names.lookup x=some .free:=hx;rcases hx' with z|z
  ·have q:=lookup_all ok.has z;simp only[beq_self_eq_true,Fu,Fm,En] at q;exact Es.mp q
  ·have q:=lookup_all ok.has z;simp only[beq_self_eq_true,Bool.or_true,Fm,En] at q;exact Es.mp q
 ·have e1':os.contains x=true:=e1;have e2':cl.lookup x=some c:=e2;rw[ok.noown x (List.contains_iff_mem.mp e1')] at e2';cases e2'
 ·rcases (hf b hb).2.2.2.1 with z|z
  ·exact I.ok.noex b o e z
  ·exact absurd (Em (Heap.lt_size (I.ok.bs b o e).1) z) (Fh _)
 ·rcases EI.mp (I.stkSub b z) with q|q
  ·exact (hf b hb).2.1 q
  ·exact (hf b hb).2.2.1 q
 ·by_cases hi:i<os.length
  ·have e2':(os.map (λ_=>(none:Option V))++aP js σ)[i]?=some (some v):=e2
   rw[F3 (by rw[E1];exact hi),EB,E2 hi] at e2'
   cases e2'
  ·have e1'':(os++ys)[i]?=some y:=e1;have e2'':(os.map (λ_=>(none:Option V))++aP js σ)[i]?=some (some v):=e2
   rw[Ex (by lia)] at e1''
   rw[Ex (by rw[E1];lia),E1] at e2''
   have e1':=e1'';have e2:=e2'';clear e1 e1'' e2'';generalize i-os.length=i at e1' e2;obtain ⟨j,hj,hN,hX,hc⟩:=ok.at_ i y e1';have e2':(aP js σ)[i]?=some (some v):=e2;unfold aP at e2';rw[EB,hj] at e2';have hs:σ[j]?=some (some v):=by
    cases q:σ[j]? with
    |none=>rw[Fa,q] at e2';cases e2'
    |some o=>rw[Fa,q] at e2';exact e2'
   obtain ⟨m,hn,hl⟩:=I.loc;obtain ⟨u,r,l⟩:=hl j y v hN hs (hX.elim (λz=> .inr (.inl z)) λz=> .inr (.inr z))
   refine (u,r,.inr (hc,?_));rcases l with ⟨k,_⟩|⟨k,c,hcl,hcell⟩
   ·have k':X.env.scope.names.lookup y=some .local:=k;rcases hX with z|z<;>(rw[z] at k';cases k')
   ·have ex:∃c',cl.lookup y=some c':=by
     rcases hc with z|z
     ·have q:=lookup_all ok.has z;simp only[beq_self_eq_true,Fu,Fm,En] at q;exact Es.mp q
     ·have q:=lookup_all ok.has z;simp only[beq_self_eq_true,Bool.or_true,Fm,En] at q;exact Es.mp q
    obtain ⟨c',hc'⟩:=ex;have e:=sub y c' hc';rw[hcl] at e;cases e;obtain ⟨oc,hoc,hd⟩:=hcell;exact (c,hc',oc,hk _ _ hoc,hd)
 ·obtain ⟨v,oc,hoc,hd⟩:=I.cell y c (sub y c e);exact (v,oc,hk _ _ hoc,hd)
 ·show (os.map (λ_=>(none:Option V))++aP js σ).length=(os++ys).length
  simp[aP,ok.len]
theorem km {H':Hp} {h':Heap} {σ':St} (I:aQ X pins σ H s) (hf:∀b∈fp,dX X pins H b) (J:aQ (X.blockT scope cl s.heap.objs.size (os++ys) os fp s H) [] σ' H' s4) (hs:Heap.SameBut s.heap.objs.size s4.heap h'):
  aQ X pins σ H' {s4 with heap:=h'}:=by
 have low:∀b o,s.heap.get? b=some o->b≠s.heap.objs.size:=λb o e=>EF (Heap.lt_size e)
 have B:=J.base;have u:Un (tj X.stack) fp H H' s.heap h':={
  keep:=λb o q n hb hx=>(hs.2 b (low b o q)).trans (B.keep b o q n hb hx)
  slot:=λb o q n hb hx=>by
   obtain ⟨sl,e⟩:=B.slot b o q n hb hx;exact (sl,(hs.2 b (low b o q)).trans e)
  free:=B.free
  there:=λb o q hx=>by
   obtain ⟨o',e⟩:=B.there b o q hx;exact (o',(hs.2 b (low b o q)).trans e)
  tups:=B.tups
  frzs:=B.frzs
  tbls:=B.tbls}
 have hn:H' s.heap.objs.size=none:=J.free;have hk:ix X.prog X.w H' h':=λa o e=>(J.hok a o e).stay (λb v hb q=>(hs.2 b (by
  intro z;rcases hb with z'|z'
  ·rw[<-z',z,hn] at e;cases e
  ·rw[z,hn] at z';cases z')).trans q) (λ_ q=>q) λ_ _ q=>q
 exact I.call' (s':={s4 with heap:=h'}) (ch:=fp) J.os u hk J.bare λb hb=>⟨(hf b hb).2.2.2.1,(hf b hb).2.1,(hf b hb).2.2.2.2.1,(hf b hb).2.2.2.2.2⟩
end
section
variable {X:Cx} {scope:Scope} {cl:List (Str×Addr)} {os:GQ} {ys:GQ} {js:List Nat} {elt iter tg:Expr} {px pos:Pos} {wi:TI} {te:TE} {g:TG}
theorem vD (hc:X.calm=true) (ok:jV X scope cl os ys js) (hi:PI X tg iter wi)
  (hg:∀(C:Addr) (fp:GR) (s:Shared) (H:Hp),PG (X.blockT scope cl C (os++ys) os fp s H) tg g)
  (he:∀(C:Addr) (fp:GR) (s:Shared) (H:Hp),PE (X.blockT scope cl C (os++ys) os fp s H) elt te)
  (hs:∀x,foldedSetIterable iter X.env x=pure x:=by intro _;rfl):PE X (.ListComp elt [⟨tg,iter,[],0⟩] scope pos) (vC wi os.length g js te):=by
 intro pins s σ H Q I h;rw[eval_ListComp];have ncell:∀y∈scope.names,y.2≠ .cell:=λy hy z=>by
  have q:=ED.mp ok.nocell y hy;rw[z] at q;simp at q
 have nloc:∀y∈scope.names,y.2= .local->scope.names.lookup y.1=some .local:=λy hy z=>by
  have q:=ED.mp ok.loc y hy;rw[z] at q
  simpa using q
 refine wpAny_comprehension_free (use:=none) rfl hs ok.clos ok.kind nloc (bG (hi pins s σ H _ I h) λv s1 h1=>bG h1 λitv s2 h2=>?_)
 obtain ⟨it,fp,tn,J,H2,rfl,I2,T,st2,f2,q2⟩:=h2;obtain ⟨W,⟨m0,w0⟩,turn⟩:=q2 s2.heap.objs.size (I2.hok.fresh (E8 _));refine wpAny_newObj_type (wpAny_newFunctionEnv ncell (by intro y hy;simp at hy) (λh1 hns hsb=>?_) ok.kind)
 have I3:=I2.laid (a:=s2.heap.objs.size) (o:= .lst []) (h':=s2.heap.push 124) (t':=s2.toks) (λb u q=>Heap.get?_push_of_some _ q) (E8 _)
  ⟨El _,[],0,.nil,Heap.get?_push_size _ rfl⟩
 have fpo:∀b∈fp,b<s2.heap.objs.size:=λb hb=>by
  obtain ⟨o,e,_⟩:=T.obj 0 _ st2 b hb;exact Heap.lt_size e
 have f3:∀b∈fp,dX X pins 131 b:=λb hb=>⟨by rw[aK (EF (fpo b hb))];exact (f2 b hb).1,(f2 b hb).2⟩
 generalize hs3:({s2 with heap:=s2.heap.push 124,toks:=s2.toks}:Shared)=s3 at I3
 have e3:s3.heap=s2.heap.push {cls:= .type "list",dict:=none,data:= .seq ([]:GS).toArray}:=by rw[<-hs3]
 have lt3:∀b∈fp,b<s3.heap.objs.size:=λb hb=>by rw[e3,Heap.size_push];exact F0 (fpo b hb)
 dsimp only at hns hsb⊢;rw[<-e3] at hns hsb;have hk:∀b o,s3.heap.get? b=some o->h1.get? b=some o:=λb o e=>hsb.extBut b o (EF (Heap.lt_size e)) (Heap.get?_push_of_some _ e)
 have J0:=i9 (h1:=h1) ok I3 f3 lt3 hns hk (s2.toks+0);have t0:tn 0 h1:=T.keep 0 _ _ st2 λb hb o e=>hk b o (by rw[e3];exact Heap.get?_push_of_some _ e)
 have fpB:∀{H':Hp},(∀b∈fp,H' b=none)->∀b∈fp,dX (X.blockT scope cl s3.heap.objs.size (os++ys) os fp s3 131) [] H' b:=λ{H'} hn b hb=>
  ⟨hn b hb,EF (lt3 b hb),λz=>(EI.mp (I3.stkSub b z)).elim (f3 b hb).2.1 (f3 b hb).2.2.1,.inl hb,λx c e=>(f3 b hb).2.2.2.2.1 x c (ok.sub (x,c) (Eo e)),λp hp=>absurd (show p∈([]:GP) from hp) 147⟩
 have loop:codeAny 135 X.A (.compLoop (.ListComp elt [⟨tg,iter,[],0⟩] scope pos) 0 (.ref it) 126 (compEnvC scope cl s3.heap.objs.size X.env))
   (compPost 135 X.A X.xe none (EP X pins σ Q) 126 s3.heap.objs.size) {s3 with heap:=h1,toks:=s2.toks+0}:=by
  refine dZ (λn s'=>∃i zs o0 H',aQ (X.blockT scope cl s3.heap.objs.size (os++ys) os fp s3 131) [] (o0++aP js σ) H' s'/\o0.length=os.length/\tn i s'.heap/\(∀b∈fp,H' b=none)/\W i n zs H') ?_ m0
   ⟨0,[],os.map (λ_=>none),_,J0,E1 _,t0,λb hb=>(f3 b hb).1,w0⟩
  rintro n s5 ⟨i,zs,o0,H5,I5,l5,t5,n5,w5⟩;obtain ⟨hD,hw⟩:=turn i n zs H5 w5;rcases hw with ⟨stop,qn⟩|⟨go,hz,step⟩
  ·refine bG (T.done (X.blockT scope cl s3.heap.objs.size (os++ys) os fp s3 131) rfl rfl rfl hc i [] s5 _ H5 (λ_ _=>False) I5 (fpB n5) t5 stop) λr s6 (hr,I6)=>?_
   subst hr;obtain ⟨m,hn,_⟩:=id I6.loc;exact (m,hn,λh' hs'=>(V.ref s2.heap.objs.size,H5,km I3 f3 I6 hs',rfl,qn))
  ·refine bG (T.item (X.blockT scope cl s3.heap.objs.size (os++ys) os fp s3 131) rfl rfl rfl hc i [] s5 _ H5 (λ_ _=>False) I5 (fpB n5) t5 go) λr s6 (u,hr,h6)=>?_
   subst hr;refine bG h6 λ_ s7 (x,H7,I7,r7,y7,t7,n7)=>?_
   have I7':=I7.pinned (fpB n7) (T.obj _ _ t7);have hst:=step x H7 y7;refine bG (hg _ _ _ _ _ s7 _ H7 x u _ I7' r7 (hst o0 l5)) λ_ s8 (σ8,H8,I8,(o8,l8,e8),hst)=>?_
   subst e8;refine bG (he _ _ _ _ _ s8 _ H8 _ I8 hst) λyv s9 (y,H9,I9,r9,hD9,m',hm,w9)=>?_
   refine bG (bw _ s9 _ H9 126 [y] 126 [yv] (λ_ H'=>H'=aH H9 s2.heap.objs.size (.lst (zs++ [y]))) I9 rfl (.cons r9 .nil) (_,zs,y,rfl,rfl,hD9,hz,rfl)) λ_ s10 (_,H10,I10,_,e10)=>?_
   subst e10;refine (m',hm,i+1,zs++ [y],o8,_,I10.unpinned,l8,T.keep _ _ _ t7 λb hb o e=>(I10.pin (b,o) (E9 _ (E9 _ (bQ hb e)))).1,λb hb=>?_,w9)
   obtain ⟨o,e,d⟩:=T.obj _ _ t7 b hb;exact (I10.pin (b,o) (E9 _ (E9 _ (bQ hb e)))).2.1
 subst hs3;exact codeAny_compStart_list loop (T.self _ 0 _ _ _ t0 loop)
end
end L2
namespace Sw
open PySem L2 XH
theorem A5 {X:Cx} {scope:Scope} {cl:List (Str×Addr)} {os ys:GQ} {js:List Nat} (a:jr X scope ys js) (s:qB X cl) (len:js.length=ys.length) (clos:closureFor scope X.env=pure cl) (nocell:(scope.names.all λp=> !(p.2== .cell))=true) (kind:scope.kind= .function)
  (loc:(scope.names.all λp=> !(p.2== .local)||scope.names.lookup p.1==some .local)=true) (has:((relabel scope X.env).names.all λp=> !(p.2== .cell||p.2== .free)||(cl.lookup p.1).isSome)=true) (noown:(os.all λx=>(cl.lookup x).isNone)=true):jV X scope cl os ys js:=
 ⟨clos,nocell,kind,loc,s.all,has,λx hx=>by have:=ED.mp noown x hx;simpa using this,a,len⟩
theorem so {X:Cx} {K:E5} {es:List Expr} {k:Nat} {t:xW} {n:Nat} {pos:Pos} (hK:X.K=K) (hc:X.calm=true) (h:Ax X es t) (hn:(assignEach es X.env).length=n:=by rfl) (hst:(assignEach es X.env).findIdx? (·.1)=none:=by rfl):PG X (.Tuple es k pos) (AA K n t):=by
 subst hK;exact cZ hc h hn hst
theorem jc {X:Cx} {scope:Scope} {cl:List (Str×Addr)} {C:Addr} {fp:GR} {s:Shared} {H:Hp} {os ys:GQ} {i:Nat} {x:Str} {pos:Pos} (nd:(os++ys).Nodup) (hi:(os++ys)[i]?=some x) (hl:(relabel scope X.env).names.lookup x=some .local):PG (X.blockT scope cl C (os++ys) os fp s H) (.Name x pos) (cg i):=
 dG (X:=X.blockT scope cl C (os++ys) os fp s H) nd hi (.inl hl) (.inr hl)
end Sw
namespace L2
open PySem PySem.Spec PyProof.Rows XH
section
variable {X:Cx} {scope:Scope} {cl:List (Str×Addr)} {os:GQ} {ys:GQ} {js:List Nat} {elt iter tg:Expr} {px pos:Pos} {wi:TI} {te:TE} {g:TG}
theorem vE {i:Nat} {y:Str} {py spos:Pos} (hN:X.N.Nodup) (hi':X.N[i]?=some y) (hy:X.env.scope.names.lookup y=some .local) (hc:X.calm=true) (ok:jV X scope cl os ys js) (hi:PI X tg iter wi)
  (hg:∀(C:Addr) (fp:GR) (s:Shared) (H:Hp),PG (X.blockT scope cl C (os++ys) os fp s H) tg g)
  (he:∀(C:Addr) (fp:GR) (s:Shared) (H:Hp),PE (X.blockT scope cl C (os++ys) os fp s H) elt te)
  (hsw:swapsWith (.ListComp elt [⟨tg,iter,[],0⟩] scope pos) (some (.Name y py)) spos.line X.env=pure true:=by rfl) (hs:∀x,foldedSetIterable iter X.env x=pure x:=by intro _;rfl):
  PS X (.Assign [.Name y py] (.ListComp elt [⟨tg,iter,[],0⟩] scope pos) spos) (tm (vC wi os.length g js te) (cg i)):=by
 intro pins s σ H D I h;have ncell:∀y∈scope.names,y.2≠ .cell:=λy hy z=>by
  have q:=ED.mp ok.nocell y hy;rw[z] at q;simp at q
 have nloc:∀y∈scope.names,y.2= .local->scope.names.lookup y.1=some .local:=λy hy z=>by
  have q:=ED.mp ok.loc y hy;rw[z] at q
  simpa using q
 show wpAny _ _ (exec _ X.env) _ _ _;rw[exec_Assign_Name_used _ _ _ _ hsw];refine wpAny_bind (wpAny_standAt (wpAny_bind ?_));show wpAny _ X.A (do let _<-comprehension (.ListComp elt [⟨tg,iter,[],0⟩] scope pos) scope X.env _ (newList []) false (eval iter X.env) (some (assign (.Name y py) X.env))) _ _ s
 refine wpAny_bind (wpAny_mono (wpAny_comprehension_free (use:=some (assign (.Name y py) X.env)) (Q:=λ_ s'=>SP X pins D .next s') rfl hs ok.clos ok.kind nloc (bG (hi pins s σ H _ I h) λv s1 h1=>bG h1 λitv s2 h2=>?_)) (λ_ s' hq=>wpAny_pure (wpAny_pure hq)) λ_ _ e=>e)
 obtain ⟨it,fp,tn,J,H2,rfl,I2,T,st2,f2,q2⟩:=h2;obtain ⟨W,⟨m0,w0⟩,turn⟩:=q2 s2.heap.objs.size (I2.hok.fresh (E8 _));refine wpAny_newObj_type (wpAny_newFunctionEnv ncell (by intro y hy;simp at hy) (λh1 hns hsb=>?_) ok.kind)
 have I3:=I2.laid (a:=s2.heap.objs.size) (o:= .lst []) (h':=s2.heap.push 124) (t':=s2.toks) (λb u q=>Heap.get?_push_of_some _ q) (E8 _)
  ⟨El _,[],0,.nil,Heap.get?_push_size _ rfl⟩
 have fpo:∀b∈fp,b<s2.heap.objs.size:=λb hb=>by
  obtain ⟨o,e,_⟩:=T.obj 0 _ st2 b hb;exact Heap.lt_size e
 have f3:∀b∈fp,dX X pins 131 b:=λb hb=>⟨by rw[aK (EF (fpo b hb))];exact (f2 b hb).1,(f2 b hb).2⟩
 generalize hs3:({s2 with heap:=s2.heap.push 124,toks:=s2.toks}:Shared)=s3 at I3
 have e3:s3.heap=s2.heap.push {cls:= .type "list",dict:=none,data:= .seq ([]:GS).toArray}:=by rw[<-hs3]
 have lt3:∀b∈fp,b<s3.heap.objs.size:=λb hb=>by rw[e3,Heap.size_push];exact F0 (fpo b hb)
 dsimp only at hns hsb⊢;rw[<-e3] at hns hsb;have hk:∀b o,s3.heap.get? b=some o->h1.get? b=some o:=λb o e=>hsb.extBut b o (EF (Heap.lt_size e)) (Heap.get?_push_of_some _ e)
 have J0:=i9 (h1:=h1) ok I3 f3 lt3 hns hk (s2.toks+0);have t0:tn 0 h1:=T.keep 0 _ _ st2 λb hb o e=>hk b o (by rw[e3];exact Heap.get?_push_of_some _ e)
 have fpB:∀{H':Hp},(∀b∈fp,H' b=none)->∀b∈fp,dX (X.blockT scope cl s3.heap.objs.size (os++ys) os fp s3 131) [] H' b:=λ{H'} hn b hb=>
  ⟨hn b hb,EF (lt3 b hb),λz=>(EI.mp (I3.stkSub b z)).elim (f3 b hb).2.1 (f3 b hb).2.2.1,.inl hb,λx c e=>(f3 b hb).2.2.2.2.1 x c (ok.sub (x,c) (Eo e)),λp hp=>absurd (show p∈([]:GP) from hp) 147⟩
 have loop:codeAny 135 X.A (.compLoop (.ListComp elt [⟨tg,iter,[],0⟩] scope pos) 0 (.ref it) 126 (compEnvC scope cl s3.heap.objs.size X.env))
   (compPost 135 X.A X.xe (some (assign (.Name y py) X.env)) (λ_ s'=>SP X pins D .next s') 126 s3.heap.objs.size) {s3 with heap:=h1,toks:=s2.toks+0}:=by
  refine dZ (λn s'=>∃i zs o0 H',aQ (X.blockT scope cl s3.heap.objs.size (os++ys) os fp s3 131) [] (o0++aP js σ) H' s'/\o0.length=os.length/\tn i s'.heap/\(∀b∈fp,H' b=none)/\W i n zs H') ?_ m0
   ⟨0,[],os.map (λ_=>none),_,J0,E1 _,t0,λb hb=>(f3 b hb).1,w0⟩
  rintro n s5 ⟨i,zs,o0,H5,I5,l5,t5,n5,w5⟩;obtain ⟨hD,hw⟩:=turn i n zs H5 w5;rcases hw with ⟨stop,qn⟩|⟨go,hz,step⟩
  ·refine bG (T.done (X.blockT scope cl s3.heap.objs.size (os++ys) os fp s3 131) rfl rfl rfl hc i [] s5 _ H5 (λ_ _=>False) I5 (fpB n5) t5 stop) λr s6 (hr,I6)=>?_
   subst hr;obtain ⟨m,hn,_⟩:=id I6.loc;have J:aQ X pins σ H5 s6:=km (h':=s6.heap) I3 f3 I6 (Heap.SameBut.refl _ _);have fC:=I3.fpOk (E8 _) (show H5 s3.heap.objs.size=none from I6.free)
   obtain ⟨k0,k1,k2,k3,k4,k5⟩:=fC;show wpAny _ X.A (assign (.Name y py) X.env 126) _ _ _;refine wpAny_assign_Name (hW (v:= .ref s2.heap.objs.size) J hN hi' (.inl hy) rfl (λs7 I7 hsb=>?_) (.inr hy))
   obtain ⟨a',sb,ha⟩:=hsb;have ne:s3.heap.objs.size≠a':=by
    rcases ha with z|z
    ·rw[z];exact k1
    ·exact λw=>k4 _ _ z w.symm
   exact (m,hn.sameBut sb ne,λh' hs'=>(_,H5,I7.turned (t':=s7.toks) (λb o hb e=>(hs'.2 b hb).trans e) k0 k1 k3 k4 k5,qn))
  ·refine bG (T.item (X.blockT scope cl s3.heap.objs.size (os++ys) os fp s3 131) rfl rfl rfl hc i [] s5 _ H5 (λ_ _=>False) I5 (fpB n5) t5 go) λr s6 (u,hr,h6)=>?_
   subst hr;refine bG h6 λ_ s7 (x,H7,I7,r7,y7,t7,n7)=>?_
   have I7':=I7.pinned (fpB n7) (T.obj _ _ t7);have hst:=step x H7 y7;refine bG (hg _ _ _ _ _ s7 _ H7 x u _ I7' r7 (hst o0 l5)) λ_ s8 (σ8,H8,I8,(o8,l8,e8),hst)=>?_
   subst e8;refine bG (he _ _ _ _ _ s8 _ H8 _ I8 hst) λyv s9 (y,H9,I9,r9,hD9,m',hm,w9)=>?_
   refine bG (bw _ s9 _ H9 126 [y] 126 [yv] (λ_ H'=>H'=aH H9 s2.heap.objs.size (.lst (zs++ [y]))) I9 rfl (.cons r9 .nil) (_,zs,y,rfl,rfl,hD9,hz,rfl)) λ_ s10 (_,H10,I10,_,e10)=>?_
   subst e10;refine (m',hm,i+1,zs++ [y],o8,_,I10.unpinned,l8,T.keep _ _ _ t7 λb hb o e=>(I10.pin (b,o) (E9 _ (E9 _ (bQ hb e)))).1,λb hb=>?_,w9)
   obtain ⟨o,e,d⟩:=T.obj _ _ t7 b hb;exact (I10.pin (b,o) (E9 _ (E9 _ (bQ hb e)))).2.1
 subst hs3;exact codeAny_compStart_list loop (T.self _ 0 _ _ _ t0 loop)
end
end L2
namespace Sw
open PySem L2 XH
end Sw
namespace L2
open PySem PySem.Spec PyProof.Rows
end L2
namespace Sw
open PySem L2 XH
end Sw
namespace L2
open PySem PySem.Spec PyProof.Rows
end L2
namespace Sw
open PySem L2 XH
end Sw
namespace L2
open PySem PySem.Spec PyProof.Rows XH
noncomputable def iz (n:Nat) (pr:Nat->Bool) (f:Nat->V):List V:=((EY n).filter pr).map f
theorem qJ (n:Nat) (pr:Nat->Bool) (f:Nat->V):iz (n+1) pr f=iz n pr f++(if pr n=true then [f n] else []):=by
 unfold iz;rw[Fw,List.filter_append,EU]
 congr 1
 cases h:pr n<;>simp[List.filter_cons,h]
theorem tZ (n:Nat) (pr:Nat->Bool) (f:Nat->V):(iz n pr f).length<=n:=by
 unfold iz;rw[E1];have:=Fp pr (EY n)
 rwa [F6] at this
theorem qK {J:It} {n:Nat} {js:List Nat} {tc:TT} {te:TE} {σ:L2.St} {H1:Hp} {Q:VK} (pr:Nat->Bool) (f:Nat->V) (hz:n<=sizeLine)
  (hgo:∀i H2,aE H1 H2->i<n->J.go i H2) (hst:∀H2,aE H1 H2->J.stop n H2)
  (step:∀i,i<n->∀H2 x H3,aE H1 H2->J.yld i H2 x H3->H3=H2/\(∀R:Bool->Hp->Prop,R (pr i) H2->tc (some x::aP js σ) H2 R)/\(pr i=true->∀Q':VK,Q' (f i) H2->te (some x::aP js σ) H2 Q'))
  (fin:∀p H',H1 p=none->aE H1 H'->H' p=some (.lst (iz n pr f))->Q (.ref p) H'):ju js tc te σ Q J H1:=by
 intro p hp;exists λi m ys H2=>i<=n/\m=n-i/\ys=iz i pr f/\aE H1 H2/\H2 p=some (.lst ys),(n,El _,rfl,rfl,Sw.ac hp _,ae)
 rintro i m ys H2 ⟨hi,rfl,rfl,g,e⟩;exists e
 by_cases hin:i<n
 ·refine .inr (hgo i H2 g hin,?_,λx H3 hy=>?_)
  ·have:=tZ i pr f
   lia
  obtain ⟨rfl,h1,h2⟩:=step i hin H2 x H3 g hy;refine h1 _ ?_;have tk:=qJ i pr f;cases hpr:pr i with
  |true=>
   rw[hpr,if_pos rfl] at tk;rw[if_pos rfl];exact h2 hpr _ (e,n-(i+1),by lia,hin,rfl,tk.symm,Sw.dJ g hp _,ae)
  |false=>
   rw[hpr,if_neg 118,FG] at tk
   rw[if_neg 118]
   exact (n-(i+1),by lia,hin,rfl,tk.symm,g,e)
 ·have e2:i=n:=by lia
  subst e2;exact .inl (hst H2 g,fin p H2 hp g e)
theorem t6 {K:E5} {a:Addr} {xs:List V} {js:List Nat} {tc:TT} {te:TE} {σ:L2.St} {H1:Hp} {Q:VK} (pr:Nat->Bool) (f:Nat->V) (hS:aD K H1 a xs) (hz:xs.length<=sizeLine)
  (s1:∀i x,xs[i]?=some x->∀H2,aE H1 H2->∀R:Bool->Hp->Prop,R (pr i) H2->tc (some x::aP js σ) H2 R)
  (s2:∀i x,xs[i]?=some x->∀H2,aE H1 H2->∀Q':VK,Q' (f i) H2->te (some x::aP js σ) H2 Q')
  (fin:∀p H',H1 p=none->aE H1 H'->H' p=some (.lst (iz xs.length pr f))->Q (.ref p) H'):ju js tc te σ Q (wI K a) H1:=by
 refine qK pr f hz (λi H2 g hi=>(xs,xs[i],g.seq hS,E2 hi)) (λH2 g=>(xs,g.seq hS,E8 _)) (λi hi H2 x H3 g hy=>?_) fin
 obtain ⟨rfl,hx⟩:=hy;have ex:=hx xs (g.seq hS);exact (rfl,s1 i x ex _ g,λ_=>s2 i x ex _ g)
def jv (R:V->V->Prop):List V->List V->Prop
 | [],[]=>True
 |x::xs,y::ys=>R x y/\jv R xs ys
 |_,_=>False
theorem jv.len {R:V->V->Prop}:∀{xs ys:List V},jv R xs ys->xs.length=ys.length
 | [],[],_=>rfl
 |_::_,_::_,h=>by simp[jv.len h.2]
 | [],_::_,h=>h.elim
 |_::_,[],h=>h.elim
def t8 (K:E5) (H:Hp):Nat->V->V->Prop
 |0,x,y=>x=y/\Db x
 |n+1,x,y=>t8 K H n x y∨∃a b xs ys,x= .ref a/\y= .ref b/\((be K H a xs/\be K H b ys)∨(aD K H a xs/\aD K H b ys))/\jv (t8 K H n) xs ys
theorem jW {A:Around} {s:Shared} {R:V->V->Prop} (hR:∀x y u w,R x y->RelV x u->RelV y w->SeqAt.EqAt A s u w true):∀{xs ys:List V} {us ws:GS},jv R xs ys->bC xs us->bC ys ws->∀j (h1:j<us.length) (h2:j<ws.length),SeqAt.EqAt A s us[j] ws[j] true
 | [],[],_,_,_,.nil,.nil,j,h1,_=>absurd h1 147
 |_::_,_::_,_,_,h,.cons r1 _,.cons r2 _,0,_,_=>hR _ _ _ _ h.1 r1 r2
 |_::_,_::_,_,_,h,.cons _ t1,.cons _ t2,j+1,h1,h2=>jW hR h.2 t1 t2 j (by simpa using h1) (by simpa using h2)
theorem qL {X:Cx} {pins:GP} {σ:St} {H:Hp} {s:Shared} (I:aQ X pins σ H s):∀(n:Nat) (A:Around) (x y:V) (u w:Value),A.units+n<cLine->t8 X.K H n x y->RelV x u->RelV y w->SeqAt.EqAt A s u w true
 |0,A,x,y,u,w,_,h,r1,r2=>by
  obtain ⟨rfl,hs⟩:=h;exact vd hs r1 r2
 |n+1,A,x,y,u,w,hu,h,r1,r2=>by
  rcases h with h|⟨a,b,xs,ys,rfl,rfl,hq,hA⟩
  ·exact qL I n A x y u w (by lia) h r1 r2
  cases r1;cases r2
  by_cases e:a=b
  ·subst e;exact SeqAt.EqAt.same _
  refine SeqAt.EqAt.of_refs e ?_;have ih:=λx y u w=>qL I n A.in1 x y u w (by show A.units+1+n<_;lia)
  rcases hq with ⟨h1,h2⟩|⟨h1,h2⟩
  ·obtain ⟨i1,v1,p1,_⟩:=I.tuple h1;obtain ⟨i2,v2,p2,_⟩:=I.tuple h2;have k:=SeqAt.RcAt.tuples (A:=A) (e:=λ_=>true) p1 p2 (by lia) λj g1 g2=>jW (A:=A.in1) (s:=s) ih hA v1 v2 j (by simpa using g1) (by simpa using g2)
   have e1:∀m,((EY m).all λ_=>true)=true:=λm=>by simp
   rw[e1] at k
   simpa [<-v1.length,<-v2.length,hA.len] using k
  ·obtain ⟨i1,v1,p1,_⟩:=I.list h1;obtain ⟨i2,v2,p2,_⟩:=I.list h2;have k:=SeqAt.RcAt.lists (A:=A) (e:=λ_=>true) p1.isList p2.isList (by simp[<-v1.length,<-v2.length,hA.len]) (by lia) λj g1 g2=>jW (A:=A.in1) (s:=s) ih hA v1 v2 j (by simpa using g1) (by simpa using g2)
   have e1:∀m,((EY m).all λ_=>true)=true:=λm=>by simp
   rw[e1] at k;exact k
theorem yM {X:Cx} (n:Nat) (hu:X.A.units+(n+1)<cLine):gJ X (compareOp .Eq) (λx y H Q=>∃a b xs ys,x= .ref a/\y= .ref b/\aD X.K H a xs/\aD X.K H b ys/\jv (t8 X.K H n) xs ys/\Q (.bl true) H):=by
 intro pins s σ H x y v u Q I rx ry h;obtain ⟨a,b,xs,ys,rfl,rfl,h1,h2,hA,hq⟩:=h;cases rx;cases ry;obtain ⟨i1,v1,p1,_⟩:=I.list h1;obtain ⟨i2,v2,p2,_⟩:=I.list h2;refine SeqAt.eq_listAt (e:=λ_=>true) p1.isList p2.isList (by simp[<-v1.length,<-v2.length,hA.len]) (by lia) (λj g1 g2=>?_) ?_
 ·exact jW (A:=X.A.in1) (s:=s) (λx y u w=>qL I n X.A.in1 x y u w (by show X.A.units+1+n<_;lia)) hA v1 v2 j (by simpa using g1) (by simpa using g2)
 ·exact (.bl true,H,I,by show Value.bool _=Value.bool _;simp,hq)
end L2
namespace Sw
open PySem L2 XH
end Sw
namespace L2
open PySem PySem.Spec PyProof.Rows XH Sw So
end L2
namespace Sw
open PySem L2 XH Hm
theorem eE.append {α:Type} {R:Addr->α->Prop} {as bs:GR} {xs ys:List α} (h:eE R as xs) (k:eE R bs ys):eE R (as++bs) (xs++ys):=by
 refine (by simp[h.1,k.1],λi a x e1 e2=>?_)
 by_cases c:i<as.length
 ·rw[F3 c] at e1;rw[F3 (by rw[<-h.1];exact c)] at e2
  exact h.2 i a x e1 e2
 ·rw[Ex (by lia)] at e1
  rw[Ex (by rw[<-h.1];lia),<-h.1] at e2
  exact k.2 _ a x e1 e2
end Sw
namespace L2
open PySem PySem.Spec PyProof.Rows XH Sw Hm
end L2
namespace Sw
open PySem L2 XH Hm
abbrev Rn:=Int×Int×Int
noncomputable def rk (r:Rn):Ky:= [r.1,r.2.1,r.2.2]
theorem n2 {p A B:Prop} [Decidable p] (h1:¬p->A) (h2:p->B):if (!decide p)=true then A else B:=by
 by_cases h:p
 ·rw[if_neg (by simp[h])];exact h2 h
 ·rw[if_pos (by simp[h])];exact h1 h
theorem bf {α:Type} {xs:List α} {i:Nat} {v d:α} (h:xs[i]?=some v):xs.getD i d=v:=by rw[Et,h];rfl
theorem cP {as:GR} {i:Nat} {y:V} (h:(as.map V.ref)[i]?=some y):∃a,as[i]?=some a/\y= .ref a:=by
 rw[EB] at h;obtain ⟨a,e,rfl⟩:=E7.mp h;exact (a,e,rfl)
theorem dL {α:Type} {f:α->V} {xs:List α} {i:Nat} {x:α} (h:xs[i]?=some x):(xs.map f)[i]?=some (f x):=by rw[EB,h];rfl
theorem qM {H:Hp} {bs:GR} {R:List Rn} (h:eE (λt k=>H t=some (.tup (k.map V.int))) bs (R.map rk)) {i:Nat} {b:Addr} (e:bs[i]?=some b):∃r:Rn,R[i]?=some r/\H b=some (.tup [.int r.1,.int r.2.1,.int r.2.2]):=by
 have il:i<R.length:=by
  have:=(E6.mp e).1;rw[h.1,E1] at this;exact this
 exact (_,E2 il,h.2 i b (rk R[i]) e (by rw[EB,E2 il];rfl))
def A6 (n:Int) (k:Ky):Prop:=∃p q g:Int,k= [p,q,g]/\0<=p/\p<n/\0<=q/\q<n/\ -1000000000<=g/\g<=1000000000
theorem fm {a n:Int} (h:0<n):0<=a.fmod n/\a.fmod n<n:=⟨Int.fmod_nonneg_of_pos a h,Int.fmod_lt_of_pos a h⟩
theorem gQ {H:Hp} {l t:Addr} {as:GR} {ks:List Ky} {k:Ky} (e:H l=some (.lst (as.map V.ref))) (r:eE (λt k=>H t=some (.tup (k.map V.int))) as ks) (h:H t=some (.tup (k.map V.int))):bq (aH H l (.lst (as.map V.ref++ [.ref t]))) l (ks++ [k]):=
 ⟨as++ [t],by rw[ae,EU];rfl,(r.snoc h).imp λt b q=>by rw[aK (iR q e (by intro z;cases z))];exact q⟩
theorem ng {R:V->V->Prop}:∀{xs ys:List V},xs.length=ys.length->(∀(i:Nat) (x y:V),xs[i]?=some x->ys[i]?=some y->R x y)->jv R xs ys
 | [],[],_,_=>trivial
 |x::xs,y::ys,hl,h=>⟨h 0 x y rfl rfl,ng (by simpa using hl) λi a b e1 e2=>h (i+1) a b (by simpa using e1) (by simpa using e2)⟩
 | [],_::_,hl,_=>by simp at hl
 |_::_,[],hl,_=>by simp at hl
theorem lU (ns:List Int) (lo hi:Option Int):∃cs:List Int,fM (ns.map V.int) lo hi=cs.map V.int/\cs.length<=ns.length:=by
 unfold fM;exists (ns.drop _).take _,by rw[List.map_take,List.map_drop]
 rw[EC,EL]
 lia
theorem kn {H1 H':Hp} {x dx:Addr} {C:Addr} (nx:H1 x=none) (nd:H1 dx=none) (h:∀a o,a≠x->aH (aH H1 dx (.own x)) x (.ins C dx []) a=some o->H' a=some o):aE H1 H':=λa o e=>by
 have ax:a≠x:=λz=>by rw[z,nx] at e;cases e
 have ad:a≠dx:=λz=>by rw[z,nd] at e;cases e
 exact h a o ax (by rw[aK ax,aK ad];exact e)
end Sw
namespace L2
open PySem PySem.Spec PyProof.Rows XH Sw Hm
end L2
namespace Sw
open PySem L2 XH Hm
end Sw
namespace L2
open PySem PySem.Spec PyProof.Rows XH Sw Hm
theorem t9 {xs:List V} {c:Nat}:fM xs (some (c:Int)) none=xs.drop c:=by
 by_cases h:c<=xs.length
 ·exact db h
 ·rw[List.drop_eq_nil_of_le (by lia)]
  apply EV;unfold fM;rw[EC,EL];have:HT.fg xs.length 0 (some (c:Int))=xs.length:=by
   show (if (c:Int)<0 then ((c:Int)+(xs.length:Int)).toNat else min (c:Int).toNat xs.length)=xs.length
   rw[if_neg (by lia)]
   lia
  rw[this]
  lia
end L2
namespace Sw
open PySem L2 XH Hm
end Sw
namespace L2
open PySem PySem.Spec PyProof.Rows XH Sw Hm
end L2
namespace Sw
open PySem L2 XH Hm
theorem fw {α:Type} {P:List α->Prop} (h:∀a,P [a]):∀us:List α,us.length=1->P us
 | [a],_=>h a
theorem cz {α:Type} {P:List α->Prop} (h:∀a b,P [a,b]):∀us:List α,us.length=2->P us
 | [a,b],_=>h a b
theorem cJ {α:Type} {P:List α->Prop} (h:∀a b c,P [a,b,c]):∀us:List α,us.length=3->P us
 | [a,b,c],_=>h a b c
theorem fA {α:Type} {P:List α->Prop} (h:∀a b c d,P [a,b,c,d]):∀us:List α,us.length=4->P us
 | [a,b,c,d],_=>h a b c d
theorem vF {α:Type} {P:List α->Prop} (h:∀a b c d e,P [a,b,c,d,e]):∀us:List α,us.length=5->P us
 | [a,b,c,d,e],_=>h a b c d e
abbrev FnAt (K:E5) (f:Addr) (n q:Str) (st:Stmt) (dV:Value):Prop:=∃(oc:Value) (od:GT) (kV dc pm:Value) (an:GT) (cd ct:Value) (sl:Array GU),K.lookup f=some ⟨oc,od,.func (FS n q (fh st) (eQ st) (aw st) dV kV dc pm an cd ct),sl⟩/\PySem.W.codeIn K cd q=true/\Fi K (.ref f)=true
abbrev bM (K:E5) (f:Addr) (x:Str) (st:Stmt) (dV:Value):Prop:=Ed K mainGlobals x=some (some (.ref f))/\FnAt K f x x st dV
abbrev Di (n q:Str) (st:Stmt) (dV:Value) (ps:GQ):Prop:=∀(kV doc pm:Value) (an:GT) (cdv ct:Value) (us:GS),us.length=ps.length->bindArgs (FS n q (fh st) (eQ st) (aw st) dV kV doc pm an cdv ct) ⟨us,[]⟩=pure (ps.zip us)
theorem dq {N P:GQ} {sc:Scope} (h:N.Nodup/\(∀x∈P,sc.names.lookup x=some .local∨sc.names.lookup x=some .cell)/\∀y∈sc.names,y.2≠ .free) (h1:sc.kind= .function:=by rfl) (h2:sc.isCoroutine=false:=by rfl) (h3:sc.isGenerator=false:=by rfl) (h4:N.take P.length=P:=by rfl):aF N P sc:=⟨h1,h2,h3,h.1,h4,h.2.1,h.2.2⟩
section
variable {P:Program} {w:World} {K:E5} {mg:GO} {base h:Heap} {CX:rQ} {k:Nat} {f c:Addr} {x m q:Str} {st:Stmt} {ps:GQ} {sp:Sp}
theorem FnAt.ex {n q:Str} {dV:Value} (a:FnAt K f n q st dV):∃fd,bz K n q st dV f fd/\Fi K (.ref f)=true:=by
 obtain ⟨_,_,_,_,_,_,_,_,_,l,c,k⟩:=a;exact (_,m6 (st:=st) l c k,k)
structure Bx (P:Program) (w:World) (base:Heap):Prop
noncomputable def dy (_:Bx P w base) (X:K.In h) (G:h.Ns mainGlobals mg) (a:bM K f x st .none) (b:Di x x st .none ps) (ok:∀{fd:FuncData},bz K x x st .none f fd->bv P w K mg base CX k f fd ps sp):Dx P w K mg base CX k x ps [] sp:=
 have e:=a.2.ex
 ⟨f,e.choose,ok e.choose_spec.1,F7 X G a.1,e.choose_spec.2,e.choose_spec.1.binds0 b,[],e.choose_spec.1.binds0 b,.nil⟩
end
end Sw
namespace L2
open PySem PySem.Spec PyProof.Rows XH
theorem kW (t:SetTable) (n:Nat):(t.orStandIn n).led=t.led:=by
 unfold SetTable.orStandIn
 by_cases h:t.fits n=true
 ·rw[if_pos h]
 ·rw[if_neg h];rfl
theorem qN (t:SetTable) (es:Array (Int×Value)) (h:Int) (x:Value):(layNew t es h x).2.1.led=t.led:=by
 cases e:t.freeSlot h with
 |none=>simp only[layNew,e];rfl
 |some r=>
  obtain ⟨slot,d⟩:=r;simp only[layNew,e];rw[kW]
  rfl
theorem oO {t t':SetTable} {hs:Array Int} {n:Nat} {order:Array Nat} (e:t.relaid hs n=some (t',order)):t'.led=t.led/\t'.plain=t.plain:=by
 unfold SetTable.relaid SetTable.laid at e;obtain ⟨o,_,e2⟩:=Ei.mp e;simp only[pure,Option.some.injEq,Prod.mk.injEq] at e2;rw[<-e2.1];exact (rfl,rfl)
theorem nh (t:SetTable) (es:Array (Int×Value)) (n:Nat):(relayAll t es n).2.1.led=t.led:=by
 cases e:t.relaid (es.map (·.1)) n with
 |none=>simp only[relayAll,e];rfl
 |some r=>
  obtain ⟨t',order⟩:=r;simp only[relayAll,e]
  by_cases c:(coversAll order es.size&&t'.fits (order.filterMap (es[·]?)).size)=true
  ·rw[if_pos c];exact (oO e).1
  ·rw[if_neg c];rfl
section
variable {prog:Program} {w:World} {A:Around} {E:GN} {s:Shared}
theorem kX (a:Value) {Q₁:GN}
  (h:∀led:Bool,(w.params.followText "set-order" =false->led=true)->Q₁ (.ref s.heap.objs.size) {s with heap:=s.heap.push 121}):
  codeAny 139 A (.call (.builtin "set.__new__") ⟨[.type "set",a],[]⟩) (wants Q₁ E) s:=by
 refine codeAny_of_tree ?_;show wpAny _ A.in1 (do checkBuiltinCall "set.__new__" ⟨[.type "set",a],[]⟩;again (.builtin "set.__new__" ⟨[.type "set",a],[]⟩)) _ _ s
 refine wpAny_bind (wpAny_of_eq (F.newCall_set_1 a) (wpAny_pure (plainId_quiet F.plain_set_new _,codeAny_builtin F.entry_set_new ?_)));rw[Around.under_plainId F.plain_set_new _];unfold Builtin.«set.__new__» Builtin.Frozenset.newClass;have hsub:=sub_set_self;obtain ⟨hp,g,d,tk,os⟩:=s;dsimp only
 wp_walk
 refine wpAny_askSetting (wpAny_pure ?_);dsimp only;simp only[newObj];refine wpAny_bind (wpAny_alloc (wpAny_pure ?_));refine wpAny_pure (h _ λe=>?_)
 show (!(model prog w).w.params.followText "set-order")=true;rw[show (model prog w).w=w from rfl,e]
 rfl
end
open Sw So
def Ri (xs:Array Nat):Prop:=xs.toList.Pairwise (· < ·)
theorem Ri.lt {xs:Array Nat} (h:Ri xs) {i k:Nat} (ik:i<k) (hk:k<xs.size):xs[i]'(Nat.lt_trans ik hk)<xs[k]:=by
 have:=List.pairwise_iff_getElem.mp h i k (by simpa using Nat.lt_trans ik hk) (by simpa using hk) ik
 simpa using this
theorem Ri.le {xs:Array Nat} (h:Ri xs) {i k:Nat} (ik:i<=k) (hk:k<xs.size):xs[i]'(Nat.lt_of_le_of_lt ik hk)<=xs[k]:=by
 rcases Nat.lt_or_eq_of_le ik with q|q
 ·exact Nat.le_of_lt (h.lt q hk)
 ·subst q;exact E8 _
theorem ko {xs:Array Nat} (hr:Ri xs) (j:Nat):∀(f lo hi:Nat),hi<=xs.size->lo<=hi->hi-lo<=f->(∀i (h:i<xs.size),i<lo->xs[i]<j)->(∀i (h:i<xs.size),hi<=i->j<=xs[i])->
  SetTable.below.go xs j f lo hi<=xs.size/\(∀i (h:i<xs.size),i<SetTable.below.go xs j f lo hi->xs[i]<j)/\(∀i (h:i<xs.size),SetTable.below.go xs j f lo hi<=i->j<=xs[i])
 |0,lo,hi,h1,h2,h3,h4,h5=>by
  have e:lo=hi:=by lia
  subst e;exact (h1,h4,h5)
 |f+1,lo,hi,h1,h2,h3,h4,h5=>by
  unfold SetTable.below.go
  by_cases c:lo<hi
  ·rw[if_pos c];have hm:(lo+hi)/2<xs.size:=by lia
   have eg:xs.getD ((lo+hi)/2) j=xs[(lo+hi)/2]:=by simp[Array.getD,hm]
   dsimp only;rw[eg]
   by_cases c2:xs[(lo+hi)/2]<j
   ·rw[if_pos c2];exact ko hr j f _ _ h1 (by lia) (by lia) (λi h q=>Nat.lt_of_le_of_lt (hr.le (Nat.le_of_lt_succ q) hm) c2) h5
   ·rw[if_neg c2];exact ko hr j f _ _ (by lia) (by lia) (by lia) h4 λi h q=>FB (Nat.not_lt.mp c2) (hr.le q h)
  ·rw[if_neg c];have e:lo=hi:=by lia
   subst e;exact (h1,h4,h5)
theorem vG {xs:Array Nat} (hr:Ri xs) (j:Nat):SetTable.below xs j<=xs.size/\(∀i (h:i<xs.size),i<SetTable.below xs j->xs[i]<j)/\(∀i (h:i<xs.size),SetTable.below xs j<=i->j<=xs[i]):=
 ko hr j xs.size 0 xs.size (E8 _) (El _) (by lia) (λi h q=>absurd q (Nat.not_lt_zero _)) λi h q=>absurd h (Nat.not_lt.mpr q)
theorem uc {t:SetTable} {j:Nat} (hr:Ri t.place) (nl:t.place[SetTable.below t.place j]?≠some j):Ri (t.put j).1.place:=by
 obtain ⟨b1,b2,b3⟩:=vG hr j;show (SetTable.insertAt t.place (SetTable.below t.place j) j).toList.Pairwise (· < ·);generalize SetTable.below t.place j=p at*;have tl:(SetTable.insertAt t.place p j).toList=t.place.toList.take p++j::t.place.toList.drop p:=by
  simp[SetTable.insertAt,Array.toList_extract,List.extract_eq_drop_take];rw[Fl 147]
 rw[tl,List.pairwise_append];have hp:(t.place.toList.take p++t.place.toList.drop p).Pairwise (· < ·):=by rw[List.take_append_drop];exact hr
 rw[List.pairwise_append] at hp;have up:∀y∈t.place.toList.drop p,j<y:=λy hy=>by
  obtain ⟨i,hi⟩:=Eg.mp hy;rw[List.getElem?_drop,FI] at hi;obtain ⟨hl,rfl⟩:=Array.getElem?_eq_some_iff.mp hi;have:=b3 _ hl (Nat.le_add_right _ _);rcases Nat.lt_or_eq_of_le this with q|q
  ·exact q
  ·rcases Nat.eq_zero_or_pos i with z|z
   ·subst z;exact absurd (show t.place[p]?=some j from hi.trans (congrArg some q.symm)) nl
   ·have hpl:p<t.place.size:=by lia
    have l1:=b3 p hpl (E8 _);have l2:=hr.lt (i:=p) (k:=p+i) (by lia) hl
    lia
 refine (hp.1,List.pairwise_cons.mpr (up,hp.2.1),λx hx y hy=>?_)
 have xl:x<j:=by
  obtain ⟨i,hi⟩:=Eg.mp hx;rw[List.getElem?_take] at hi
  split at hi
  ·rename_i q;rw[FI] at hi;obtain ⟨hl,rfl⟩:=Array.getElem?_eq_some_iff.mp hi;exact b2 _ hl q
  ·cases hi
 rcases EI.mp hy with q|q
 ·rw[q];exact xl
 ·exact Nat.lt_trans xl (up y q)
theorem vH {t:SetTable} {j:Nat} (h:∀i,t.slot j≠ .live i):t.place[SetTable.below t.place j]?≠some j:=λe=>by
 refine h (SetTable.below t.place j) ?_;unfold SetTable.slot;simp[e]
theorem jw {t:SetTable} {hs:Nat->Int} {h:Int}:∀(f:Nat) (p:SetTable.Probe),(∀d,p.dummy=some d->∀i,t.slot d≠ .live i)->∀{j:Nat} {dm:Option Nat},SetTable.probe.go t hs h f p=some (.empty j dm)->∀i,t.slot (dm.getD j)≠ .live i
 |0,p,hd,j,dm,e=>by cases e
 |f+1,p,hd,j,dm,e=>by
  unfold SetTable.probe.go at e;cases c:t.slot p.j with
  |empty=>
   rw[c] at e;cases e;cases q:p.dummy with
   |none=>intro i;show t.slot p.j≠_;rw[c];exact λz=>nomatch z
   |some d=>exact hd d q
  |dummy=>
   rw[c] at e;refine jw f _ (λd hd'=>?_) e
   have:d=p.j:=by
    unfold SetTable.advance at hd'
    split at hd'<;>(cases hd';rfl)
   subst this;intro i;rw[c];exact λz=>nomatch z
  |live i=>
   rw[c] at e;dsimp only at e
   split at e
   ·cases e
   ·refine jw f _ (λd hd'=>?_) e
    refine hd d ?_;unfold SetTable.advance at hd'
    split at hd'<;>exact hd'
theorem nk {t:SetTable} {h:Int} {j:Nat} {b:Bool} (e:t.freeSlot h=some (j,b)):t.place[SetTable.below t.place j]?≠some j:=by
 unfold SetTable.freeSlot at e;cases q:t.probe (λ_=>h+1) h (t.probeStart h) with
 |none=>rw[q] at e;cases e
 |some m=>
  rw[q] at e;cases m with
  |empty k dm=>
   cases e;exact vH (jw _ _ (λd hd=>by cases (show (none:Option Nat)=some d from hd)) q)
  |candidate _ _ _=>cases e
theorem nq {t:SetTable} {es:Array (Int×Value)} {h:Int} {x:Value} (hr:t.plain=true->Ri t.place):(layNew t es h x).2.1.plain=true->Ri (layNew t es h x).2.1.place:=by
 cases e:t.freeSlot h with
 |none=>simp only[layNew,e];intro z;cases z
 |some r=>
  obtain ⟨j,b⟩:=r;simp only[layNew,e];unfold SetTable.orStandIn
  split
  ·intro z;exact uc (hr z) (nk e)
  ·intro z;cases z
theorem qO {mask finger moves:Nat} {led plain:Bool} {hs:Array Int} {t:SetTable} {o:Array Nat} (e:SetTable.laid mask finger moves led plain hs=some (t,o)):Ri t.place:=by
 unfold SetTable.laid at e;obtain ⟨ow,_,e2⟩:=Ei.mp e;simp only[pure,Option.some.injEq,Prod.mk.injEq] at e2;rw[<-e2.1];show List.Pairwise (· < ·) _;dsimp only;rw[List.pairwise_map,List.pairwise_filterMap];refine List.pairwise_lt_range.imp λ{a b} ab x hx y hy=>?_
 obtain ⟨k,_,rfl⟩:=E7.mp hx;obtain ⟨k',_,rfl⟩:=E7.mp hy;exact ab
theorem kr {t:SetTable} {es:Array (Int×Value)} {n:Nat} (h:(relayAll t es n).2.1.plain=true):Ri (relayAll t es n).2.1.place:=by
 cases e:t.relaid (es.map (·.1)) n with
 |none=>simp only[relayAll,e] at h;cases h
 |some r=>
  obtain ⟨t',order⟩:=r;simp only[relayAll,e] at h⊢
  by_cases c:(coversAll order es.size&&t'.fits (order.filterMap (es[·]?)).size)=true
  ·rw[if_pos c];exact qO e
  ·rw[if_neg c] at h;cases h
noncomputable def oP:Value->Int
 | .int y _=>y
 |_=>default
def Ap (prog:Program) (w:World) (e:Int×Value):Prop:=∃y t,e=((aN prog w).hash (.inl y),.int y t)
def wD (prog:Program) (w:World) (h:Heap) (a:Addr) (ys:List Int):Prop:=
 ∃o es ep t,h.get? a=some o/\o.ExactSet/\o.data= .set es ep t/\(∀e∈es.toList,Ap prog w e)/\(es.toList.map λe=>oP e.2).Perm ys/\es.size<scanBound/\t.fits es.size=true/\
  (w.params.followText "set-order" =false->t.led=true)/\(t.plain=true->Ri t.place)
theorem sr {prog:Program} {w:World} {y:Int} {t:Tok}:(aN prog w).is (.inl y) (.int y t)=true:=jJ (k:= .inl y) ⟨t,rfl⟩
theorem kt {prog:Program} {w:World} {l:List (Int×Value)} (h:∀e∈l,Ap prog w e):ElemsOf (aN prog w) l:=λe he=>by
 obtain ⟨y,t,rfl⟩:=h e he;exact ((.inl y,sr,rfl),rfl)
noncomputable def insI (ys:List Int) (y:Int):List Int:=if y∈ys then ys else ys++ [y]
section
variable {prog:Program} {w:World} {A:Around} {E:GN} {s:Shared}
theorem vI {h:Heap} {a:Addr} {ys:List Int} {es:Array (Int×Value)} (te:∀e∈es.toList,Ap prog w e) (pm:(es.toList.map λe=>oP e.2).Perm ys) (y:Int):
  (∃e∈es.toList,(aN prog w).is (.inl y) e.2=true)↔y∈ys:=by
 rw[<-pm.mem_iff,EO];constructor
 ·rintro ⟨e,he,q⟩;obtain ⟨z,t,rfl⟩:=te e he;obtain ⟨t',e'⟩:=rZ q;cases e';exact (_,he,rfl)
 ·rintro ⟨e,he,q⟩;obtain ⟨z,t,rfl⟩:=te e he;cases q;exact (_,he,sr)
theorem ss {g:Bool->Sem Unit} (hg:∀(b:Bool) (s₁:Shared) (Q':Unit->Shared->Prop),Q' () s₁->wpAny 139 A (g b) Q' E s₁)
  {a:Addr} {o:Obj} {es:Array (Int×Value)} {ep:Nat} {t:SetTable} (ho:s.heap.get? a=some o) (hex:o.ExactSet) (hd:o.data= .set es ep t)
  {es1:Array (Int×Value)} {t2:SetTable} {ys:List Int} (te:∀e∈es1.toList,Ap prog w e) (pm:(es1.toList.map λe=>oP e.2).Perm ys)
  (hb1:es1.size<scanBound) (hf2:t2.fits es1.size=true) (ld:w.params.followText "set-order" =false->t2.led=true) (pl:t2.plain=true->Ri t2.place) {wasDummy:Bool} {R:Option Bool->Shared->Prop}
  (h:∀h',Heap.SameBut a s.heap h'->wD prog w h' a ys->R (some true) {s with heap:=h'}):
  wpAny 139 A (do
    storeSet a es1 t2
    if (!wasDummy&&t2.tooFull)=true then do
      g (relayAll t2 es1 (SetTable.grown es1.size)).2.2
      storeSet a (relayAll t2 es1 (SetTable.grown es1.size)).1 (relayAll t2 es1 (SetTable.grown es1.size)).2.1
      pure (some true)
     else pure (some true)) R E s:=by
 refine wpAny_bind (wpAny_storeSet_of ho hd ?_ (fits_of_scanBound hb1));obtain ⟨ho1,_⟩:=SetOf_store (knd:=aN prog w) (S':=λk=>decide (∃e∈es1.toList,(aN prog w).is k e.2=true)) ho hex hd (kt te) (λk=>by simp) hb1 hf2
 have hsb1:=Heap.SameBut.update s.heap a (Obj.putSet es1 t2)
 split
 ·have hp:=relayAll_perm t2 es1 (SetTable.grown es1.size);have hfr:=relayAll_fits t2 es1 (SetTable.grown es1.size);have hl:=nh t2 es1 (SetTable.grown es1.size);have hpl:= @kr t2 es1 (SetTable.grown es1.size);generalize hRl:relayAll t2 es1 (SetTable.grown es1.size)=Rl at hp hfr hl hpl⊢;obtain ⟨es2,t3,gave2⟩:=Rl;dsimp only at hp hfr hl hpl⊢;have te2:∀e∈es2.toList,Ap prog w e:=λe he=>te e (hp.mem_iff.mp he)
  have hsz:es2.size=es1.size:=by rw[<-Ep,hp.length_eq,Ep]
  have hb2:es2.size<scanBound:=by rw[hsz];exact hb1
  refine wpAny_bind (hg _ _ _ ?_);refine wpAny_bind (wpAny_storeSet_of ho1 rfl ?_ (fits_of_scanBound hb2));obtain ⟨ho2,_⟩:=SetOf_store (knd:=aN prog w) (S':=λk=>decide (∃e∈es2.toList,(aN prog w).is k e.2=true)) ho1 hex rfl (kt te2) (λk=>by simp) hb2 hfr
  exact wpAny_pure (h _ (hsb1.trans (Heap.SameBut.update _ a _)) (_,es2,_,t3,ho2,hex,rfl,te2,(hp.map _).trans pm,hb2,hfr,λb=>hl.trans (ld b),hpl))
 ·exact wpAny_pure (h _ hsb1 (_,es1,_,t2,ho1,hex,rfl,te,pm,hb1,hf2,ld,pl))
theorem yN {a:Addr} {ys:List Int} {y:Int} {tk:Tok} {Q:Bool->Shared->Prop} (hS:wD prog w s.heap a ys) (room:ys.length+1<scanBound)
  (h:∀h',Heap.SameBut a s.heap h'->wD prog w h' a (insI ys y)->∀b,Q b {s with heap:=h'}):
  wpAny 139 A (setAddHashed a (.int y tk) ((aN prog w).hash (.inl y))) Q E s:=by
 obtain ⟨o,es,ep,t,ho,hex,hd,te,pm,hb,hf,ld,pl⟩:=hS;have hel:=kt te;have hsz:es.size=ys.length:=by rw[<-Ep,<-E1 (λe:Int×Value=>oP e.2),pm.length_eq]
 unfold setAddHashed setAddHashedIn;refine wpAny_holding (wpAny_bind (wpAny_setState_of ho hd hf ?_));dsimp only;rw[byScan_of (knd:=aN prog w) (x:= .int y tk) rfl hb hel];simp only[↓reduceIte];unfold setAddByScan;refine wpAny_bind ?_;refine wpAny_bind (wpAny_rule ?_);refine wpAny_bind (wpAny_setScan_of (knd:=aN prog w) (k:= .inl y) sr ho hd hf hel ?_);cases hr:List.findIdx? (λe=>(aN prog w).is (.inl y) e.2) es.toList with
 |some j=>
  dsimp only;obtain ⟨hj,hpj,_⟩:=List.findIdx?_eq_some_iff_getElem.mp hr;have hm:y∈ys:=(vI (h:=s.heap) (a:=a) te pm y).mp ⟨es.toList[j],EQ hj,hpj⟩;refine wpAny_pure (wpAny_pure ?_);have e:s={s with heap:=s.heap}:=by cases s;rfl
  rw[e];refine h s.heap (Heap.SameBut.refl a s.heap) ?_ _;rw[insI,if_pos hm];exact (o,es,ep,t,ho,hex,hd,te,pm,hb,hf,ld,pl)
 |none=>
  dsimp only;have hm:y∉ys:=λhm=>by
   obtain ⟨e,he,q⟩:=(vI (h:=s.heap) (a:=a) te pm y).mpr hm;have:=List.findIdx?_eq_none_iff.mp hr e he;rw[q] at this;cases this
  have hgw:∀(b:Bool) {s₁:Shared} {Q':Unit->Shared->Prop},Q' () s₁->wpAny 139 A (match b with|true=>rule "set.scan.the-table-gave-way" |false=>pure ()) Q' E s₁:=
   λb s₁ Q' hq=>by cases b<;>first|exact wpAny_pure hq|exact wpAny_rule hq
  have hperm:=layNew_perm t es ((aN prog w).hash (.inl y)) (.int y tk);have hfits:=layNew_fits t es ((aN prog w).hash (.inl y)) (.int y tk);have hled:=qN t es ((aN prog w).hash (.inl y)) (.int y tk);have hri:=nq (es:=es) (h:=(aN prog w).hash (.inl y)) (x:= .int y tk) pl;generalize hL:layNew t es ((aN prog w).hash (.inl y)) (.int y tk)=L at hperm hfits hled hri⊢;obtain ⟨es1,t1,wasDummy,gave⟩:=L;dsimp only at hperm hfits hled hri⊢;rw[Array.toList_push] at hperm;have te1:∀e∈es1.toList,Ap prog w e:=λe he=>by
   rcases EJ.mp (hperm.mem_iff.mp he) with q|q
   ·exact te e q
   ·rw[EA.mp q];exact (y,tk,rfl)
  have pm1:(es1.toList.map λe=>oP e.2).Perm (insI ys y):=by
   rw[insI,if_neg hm];refine (hperm.map _).trans ?_;rw[EU];exact pm.append_right _
  have hb1':es1.size<scanBound:=by
   rw[<-Ep,hperm.length_eq,E3,Ep,hsz];exact room
  refine wpAny_bind (hgw _ ?_)
  split
  ·refine wpAny_bind ?_;rw[hashByValue_scannable 8 (x:= .int y tk) rfl];refine wpAny_pure ?_;simp only[show plainKind (Value.int y tk)=true from rfl,if_true]
   refine ss ?_ ho hex hd te1 pm1 hb1' hfits ?_ hri ?_
   ·intro b s₁ Q' hq;cases b<;>first|exact wpAny_pure hq|exact wpAny_rule hq
   ·exact λb=>hled.trans (ld b)
   ·intro h' hsb hS';dsimp only;exact wpAny_pure (h h' hsb hS' _)
  ·rename_i np;refine wpAny_bind (wpAny_pure ?_);simp only[↓reduceIte];refine ss ?_ ho hex hd te1 pm1 hb1' hfits ?_ hri ?_
   ·intro b s₁ Q' hq;cases b<;>first|exact wpAny_pure hq|exact wpAny_rule hq
   ·exact λb=>hled.trans (ld b)
   ·intro h' hsb hS';dsimp only;exact wpAny_pure (h h' hsb hS' _)
end
noncomputable def qP (xs:List Int) (i:Nat):List Int:=(xs.take i).foldl insI []
theorem oQ {xs:List Int} {i:Nat} {y:Int} (h:xs[i]?=some y):qP xs (i+1)=insI (qP xs i) y:=by
 unfold qP;rw[List.take_add_one,h,Option.toList_some,List.foldl_append]
 rfl
theorem oR (ys:List Int) (y:Int):(insI ys y).length<=ys.length+1:=by
 unfold insI
 split
 ·lia
 ·simp
theorem su (xs:List Int):∀i,(qP xs i).length<=i
 |0=>by simp[qP]
 |i+1=>by
  have ih:=su xs i;cases h:xs[i]? with
  |none=>
   have:xs.take (i+1)=xs.take i:=by rw[List.take_add_one,h];simp
   unfold qP at ih⊢;rw[this]
   lia
  |some y=>
   rw[oQ h];have:=oR (qP xs i) y
   lia
section
variable {prog:Program} {w:World} {A:Around} {R:Result->Shared->Prop} {I:Addr} {fp wr:GR} {G:Array GenState->Array GenState->Prop} {n:Nat} {P:Nat->Value->Prop} {St:Nat->Shared->Prop}
theorem ud (W:WalksS prog w A.in1 I fp wr G n P St) (S:Addr) (out:S∉fp) (xs:List Int) (hv:∀i v,P i v->∃y t,xs[i]?=some y/\v= .int y t)
  (hn:n<=xs.length) (hb:n+1<scanBound):∀(m i:Nat) (s:Shared),n-i=m->i<=n->St i s->wD prog w s.heap S (qP xs i)->
   (∀s',Moved (S::wr) G s s'->wD prog w s'.heap S (qP xs n)->R (.ok (.ret .none)) s')->codeAny 139 A (.builtin "set.update.loop" ⟨[.ref S,.ref I],[]⟩) R s:=by
 have nw:S∉wr:=λh=>out (W.sub _ h)
 have up:∀b∈wr,b∈S::wr:=λb hb=> .tail _ hb
 have stay:∀{s1 s2:Shared} {ys:List Int},wD prog w s1.heap S ys->Moved wr G s1 s2->wD prog w s2.heap S ys:=by
  rintro s1 s2 ys ⟨o,es,ep,t,ho,z⟩ mv;exact (o,es,ep,t,mv.heap S _ nw ho,z)
 intro m
 induction m with
 |zero=>
  intro i s hm hi st hS fin;have e:i=n:=by lia
  subst e;apply codeAny_builtin F.entry_set_update_loop;rw[Around.under_plainId F.plain_set_update_loop _];show wpAny _ _ (pyNext (.ref I)>>=_) _ _ s;apply wpAny_bind;refine W.done s _ _ st λs' mv=>?_
  exact wpAny_pure (fin s' (mv.mono up) (stay hS mv))
 |succ m ih=>
  intro i s hm hi st hS fin;have lt:i<n:=by lia
  apply codeAny_builtin F.entry_set_update_loop;rw[Around.under_plainId F.plain_set_update_loop _];show wpAny _ _ (pyNext (.ref I)>>=_) _ _ s;apply wpAny_bind;refine W.item i s _ _ lt st λv s' pv st' mv=>?_
  obtain ⟨y,tk,ey,rfl⟩:=hv i v pv;show wpAny _ _ (holding [.int y tk] (setAdd S (.int y tk))>>=_) _ _ s';apply wpAny_bind;apply wpAny_holding;unfold setAdd;apply wpAny_holding;apply wpAny_bind;refine (aN prog w).pyHash (k:= .inl y) sr ?_;have rm:(qP xs i).length+1<scanBound:=by
   have:=su xs i
   lia
  refine yN (s:={s' with toks:=s'.toks+1}) (show wD prog w s'.heap S (qP xs i) from stay hS mv) rm λh' same S2 b=>?_
  rw[<-oQ ey] at S2;apply wpAny_pure;refine (plainId_quiet F.plain_set_update_loop _,ih (i+1) _ (by lia) lt (W.frame _ s' _ _ st' (Ft _) λb hb o e=>?_) S2 λs'' mv2 S4=>?_)
  ·exact (same.2 b λz=>out (z▸hb)).trans e
  ·exact fin s'' (Moved.trans W.gtrans ((mv.mono up).then_heap (Ft _) λb o hb e=>(same.2 b λz=>hb (z▸Ej)).trans e) mv2) S4
end
section
variable {prog:Program} {w:World} {A:Around} {E:GN} {s:Shared}
set_option maxHeartbeats 3200000 in
theorem ue {l:Addr} {items:Array Value} {xs:List Int} {Q:GN} (hh:A.handled=none) (hl:s.heap.IsList l items) (hv:∀(i:Nat) (v:Value),items[i]?=some v->∃(y:Int) (t:Tok),xs[i]?=some y/\v=Value.int y t)
  (hn:items.size=xs.length) (hb:items.size+1<scanBound)
  (fin:∀(h':Heap) (tk:Nat),wD prog w h' s.heap.objs.size (qP xs items.size)->(∀b o,b<s.heap.objs.size->s.heap.get? b=some o->h'.get? b=some o)->Q (.ref s.heap.objs.size) {s with heap:=h',toks:=tk}):
  wpAny 139 A (call (.type "set") [.ref l]) Q E s:=by
 obtain ⟨c0,tl0,mro⟩:=F.called_set.mro;have made:=F.called_set.made;have subt:=F.called_set.sub;apply wpAny_call;apply codeAny_of_tree;show wpAny _ _ (callAny (.type "set") _) _ _ _;apply wpAny_pure;refine (Code.quiet_builtin _ 119,codeAny_builtin F.entry_type_call ?_)
 rw[Around.under_plain (weight_type_call_type "set" [.ref l] []) rfl];have nt:=F.called_set.notType;have cc:=F.called_set.canCreate;have tc:=F.typeCall_set_1 (.ref l)
 repeat any_goals first|assumption|wp_step
 refine codeAny_mono (kX (.ref l) (E:=E) (Q₁:=λv s1=>∃led:Bool,(w.params.followText "set-order" =false->led=true)/\v= .ref s.heap.objs.size/\s1={s with heap:=s.heap.push 121}) λled eld=>⟨led,eld,rfl,rfl⟩) λr s1 hr=>?_
 cases r with
 |error e=>exact hr
 |ok fl=>
  cases fl with
  |ret v=>
   obtain ⟨led,eld,rfl,rfl⟩:=hr;have e0:(s.heap.push 121).get? s.heap.objs.size=some {cls:= .type "set",dict:=none,data:= .set #[] 0 (.fresh 0 0 led)}:=Heap.get?_push_size _ rfl;have tS:Shared.TypeIs {s with heap:=s.heap.push 121} (.ref s.heap.objs.size) "set" :=⟨_,e0,rfl⟩
   have lk:=F.called_set.init.lookup;have bd:=F.called_set.init.bind (.ref s.heap.objs.size)
   repeat any_goals first|assumption|wp_step
   refine codeAny_mono (codeAny_call_builtin (R:=wants (λr s2=>r= .none/\∃h' tk,s2={s with heap:=h',toks:=tk}/\wD prog w h' s.heap.objs.size (qP xs items.size)/\∀b o,b<s.heap.objs.size->s.heap.get? b=some o->h'.get? b=some o) E) F.called_set.init.plain F.entry_set_init (check_set_init_1 tS ?_)) λr2 s2 hr2=>?_
   ·obtain ⟨⟨lc,ld,lx,ls⟩,hol,hcl,nl,hdl⟩:=hl;simp only at hcl hdl;subst hcl hdl;have el:(s.heap.push 121).get? l=some {cls:= .type "list",dict:=ld,data:= .seq items nl,slots:=ls}:=Heap.get?_push_of_some _ hol;have n1:=F.sub_list_set;have n2:=F.sub_list_frozenset;have n3:(Value.type "list" ==Value.type "dict")=false:=by decide
    have il:(s.heap.push 121).IsList l items:=⟨_,el,rfl,nl,rfl⟩;unfold Builtin.«set.__init__» noKeywords Builtin.Frozenset.updateFrom;generalize hit:pyIter=PI
    wp_walk
    subst hit;apply wpAny_pyIter_list il;apply wpAny_bind;apply wpAny_runValue;have ll:l<s.heap.objs.size:=Heap.lt_size hol;have h3:A.in1.in1.in1.handled=none:=by simpa using hh
    have nI:l≠(s.heap.push 121).objs.size:=by
     rw[Heap.size_push];exact EF (F0 ll)
    have out:s.heap.objs.size∉ [(s.heap.push 121).objs.size,l]:=by
     rw[Heap.size_push];simp only[EI,not_or];exact (EF (Nat.lt_succ_self _),FW ll,Ef)
    refine ud ((Walks.list h3 _ l nI items).toS) s.heap.objs.size out xs hv (Nat.le_of_eq hn) hb items.size 0 _ rfl (El _) ((_,Heap.get?_push_size _ rfl,rfl,rfl),il.push _) ?_ ?_
    ·have e1:((s.heap.push 121).push {cls:= .type "list_iterator",data:= .fields #[.ref l,.int 0 0]}).get? s.heap.objs.size=some {cls:= .type "set",dict:=none,data:= .set #[] 0 (.fresh 0 0 led)}:=
      Heap.get?_push_of_some _ e0
     exact (_,#[],0,_,e1,(rfl,rfl,rfl),rfl,(λe he=>by simp at he),by simp[qP],by decide,rfl,eld,λ_=>(List.Pairwise.nil:List.Pairwise (· < ·) ([]:List Nat)))
    ·intro s' mv S2;obtain ⟨h',g',d',tk',os'⟩:=s';have eg:g'=s.gens:=mv.gens;have ed:d'=s.drawn:=mv.drawn;have eo:os'=s.os:=mv.os;subst eg ed eo;show wpAny _ _ _ _ _ _;apply wpAny_pure;show wpAny _ _ (ret Value.none) _ _ _;apply wpAny_pure;refine (rfl,h',tk',rfl,S2,λb o hb' e=>?_)
     refine mv.heap b o ?_ (Heap.get?_push_of_some _ (Heap.get?_push_of_some _ e));rw[Heap.size_push];simp only[EI,not_or];exact (EF hb',EF (F0 hb'),Ef)
   ·cases r2 with
    |error e=>exact hr2
    |ok fl2=>
     cases fl2 with
     |ret r=>
      obtain ⟨rfl,h',tk,rfl,S2,kp⟩:=hr2
      repeat any_goals first|assumption|wp_step
      exact fin _ _ S2 kp
     |_=>exact hr2.elim
  |_=>exact hr.elim
end
theorem oS:∀{xs:List Int} {us:GS},bC (xs.map V.int) us->∀(i:Nat) (v:Value),us[i]?=some v->∃(y:Int) (t:Tok),xs[i]?=some y/\v=Value.int y t
 | [],_,.nil,i,v,h=>by simp at h
 |x::xs,_,.cons r t,0,v,h=>by
  simp at h;subst h;obtain ⟨k,rfl⟩:=r;exact (x,k,rfl,rfl)
 |x::xs,_,.cons r t,i+1,v,h=>oS t i v (by simpa using h)
theorem oT {X:Cx} (hc:X.calm=true):du X (.builtin "sorted") (λxs H Q=>∃d ks kvs,xs= [.ref d]/\H d=some 149/\kvs.map (·.1)=ks.map (λy=>(.inr y:Key))/\ks.Nodup/\ks.length<64/\
  ∀p ys,H p=none->ys.Perm ks->sortedS ys=true->Q (.ref p) (aH H p (.lst (ys.map V.str)))):=by
 intro pins s σ H xs us Q I r h;obtain ⟨d,ks,kvs,rfl,hk,ek,nd,l64,q⟩:=h;obtain ⟨u,rfl,ru⟩:=vals1 r;cases ru;obtain ⟨z,hS,ws,rel,D⟩:=oj I.hok hk;obtain ⟨ep,hat⟩:=D.dictAt;have lw:ws.length=ks.length:=by
  rw[<-rel.length];have:=congrArg List.length ek
  simpa using this
 refine Calls.call_function_entry kind_sorted plain_sorted entry_sorted (args_sorted1 _) ?_;unfold Builtin.«sorted»;refine wpAny_bind (m:=checkCount "sorted" 1 1 _) (wpAny_pure ?_);refine wpAny_bind (oM (A:=X.A.in1) (PySem.W.kdl_dict (knd:=aN X.prog X.w) (kvs:=ws) (ep:=ep) hS) (I.ok.hd hc) hat (by rw[<-rel.length];exact z) λh' tk acc hlt hkp hacc=>?_)
 have la:acc.toList.length=ks.length:=by rw[Ep,hacc.1,lw]
 have SA:StrsAre acc.toList ks:=si la λj v hv=>by
  obtain ⟨k,x,e1,e2⟩:=hacc.2 j v (by rw[<-FI];exact hv)
  obtain ⟨⟨k',v'⟩,e3,rfl,_⟩:=lQ rel e1;have e4:(kvs.map (·.1))[j]?=some k':=by rw[EB,e3];rfl
  rw[ek,EB] at e4;cases e5:ks[j]? with
  |none=>rw[e5] at e4;cases e4
  |some y=>
   rw[e5] at e4;cases e4;obtain ⟨t,ht⟩:=rZ e2;exact (y,t,rfl,ht)
 refine wpAny_bind (wpAny_newList ?_ (by rw[la,<-lw,<-rel.length];exact z))
 have hoL:(h'.push (seqObj "list" acc.toList.toArray 0)).get? h'.objs.size=some (seqObj "list" acc.toList.toArray 0):=Heap.get?_push_size _ rfl;refine wpAny_bind (wpAny_holding (wpAny_call_entry slot_list_sort (_,hoL,rfl) entry_list_sort (list_sort_treeK strKind_oneLt hoL SA.keysOf (λv₁ v₂ rest e=>keyKind_strs (by rw[<-e];exact SA)) (by rw[la];exact l64) λst' hp hs=>(ν,?_)) (args_list_sort _)))
 obtain ⟨ys,h1,h2,h3⟩:=sorted_out_str SA hp hs;have sl:s.heap.objs.size<=h'.objs.size:=Nat.le_of_lt hlt;refine wpAny_pure (ν,.ref h'.objs.size,_,I.laid (a:=h'.objs.size) (o:= .lst (ys.map V.str)) (h':=sortedHeap (h'.push (seqObj "list" acc.toList.toArray 0)) h'.objs.size acc.toList ((arrOf st').map (·.2))) (t':=tk) (λb o eo=>?_) sl ?_,rfl,q _ ys (I.hok.fresh sl) h2 h3)
 ·have eo':=hkp b o eo;have bl:=Heap.lt_size eo';rw[sortedHeap_old (EF bl) (by rw[size_push'];exact F0 bl)]
  exact Heap.get?_push_of_some _ eo'
 ·obtain ⟨e,he⟩:=sortedHeap_at (out:=(arrOf st').map (·.2)) hoL;exists by rw[E1,h2.length_eq,<-lw,<-rel.length];exact z,((arrOf st').map (·.2)).toList,e,i8 h1
  rw[Array.toArray_toList];exact he
end L2
namespace Sw
open PySem L2 XH Hm
noncomputable def uf:HO->Bool
 | .lst _=>true
 | .tup _=>true
 |_=>false
abbrev RA (α:Type):=(Addr->Prop)->Hp->V->α->Prop
def An:Addr->Prop:=λ_=>True
class Mv {α:Type} (R:RA α):Prop where
 mv:∀{P P':Addr->Prop} {H H':Hp} {v:V} {x:α},(∀a o,P a->uf o=true->H a=some o->P' a/\H' a=some o)->R P H v x->R P' H' v x
theorem de {α:Type} {R:RA α} [Mv R] {P:Addr->Prop} {H H':Hp} {v:V} {x:α} (h:R P H v x) (g:aE H H'):R P H' v x:=Mv.mv (λa o p _ e=>⟨p,g a o e⟩) h
theorem ku {α:Type} {R:RA α} [Mv R] {P P':Addr->Prop} {H:Hp} {v:V} {x:α} (h:R P H v x) (g:∀a,P a->P' a):R P' H v x:=Mv.mv (λa o p _ e=>⟨g a p,e⟩) h
theorem DK {α:Type} {R:RA α} [Mv R] {P:Addr->Prop} {H:Hp} {v:V} {x:α} (h:R P H v x):R An H v x:=ku h λ_ _=>trivial
theorem D3 {α:Type} {R:RA α} [Mv R] {P:Addr->Prop} {H H':Hp} {v:V} {x:α} (h:R P H v x) (g:∀a o,uf o=true->H a=some o->H' a=some o):R P H' v x:=Mv.mv (λa o p s e=>⟨p,g a o s e⟩) h
theorem ya {α:Type} {R:RA α} [Mv R] {P:Addr->Prop} {H:Hp} {v:V} {x:α} (h:R P H v x):R (λa=>P a/\H a≠none) H v x:=Mv.mv (λa o p _ e=>⟨⟨p,by rw[e];exact nofun⟩,e⟩) h
theorem kY {α:Type} {R:RA α} [Mv R] {P:Addr->Prop} {H:Hp} {v:V} {x:α} {l:Addr} (h:R P H v x) (n:¬P l) (o:HO):R P (aH H l o) v x:=Mv.mv (λa u p _ e=>⟨p,by
  have:a≠l:=λz=>n (by rw[<-z];exact p)
  rw[aK this];exact e⟩) h
def A2 {α:Type} (R:V->α->Prop) (vs:List V) (xs:List α):Prop:=vs.length=xs.length/\∀(i:Nat) (v:V) (x:α),vs[i]?=some v->xs[i]?=some x->R v x
theorem A2.imp {α:Type} {R S:V->α->Prop} {vs:List V} {xs:List α} (h:A2 R vs xs) (f:∀v x,R v x->S v x):A2 S vs xs:=⟨h.1,λi v x e1 e2=>f v x (h.2 i v x e1 e2)⟩
theorem A2.get {α:Type} {R:V->α->Prop} {vs:List V} {xs:List α} (h:A2 R vs xs) {i:Nat} {x:α} (e:xs[i]?=some x):∃v,vs[i]?=some v/\R v x:=by
 have il:i<vs.length:=by rw[h.1];exact (E6.mp e).1
 exact (_,E2 il,h.2 i _ x (E2 il) e)
theorem A2.at_ {α:Type} {R:V->α->Prop} {vs:List V} {xs:List α} (h:A2 R vs xs) {i:Nat} {v:V} (e:vs[i]?=some v):∃x,xs[i]?=some x/\R v x:=by
 have il:i<xs.length:=by rw[<-h.1];exact (E6.mp e).1
 exact (_,E2 il,h.2 i v _ e (E2 il))
theorem A2.nil {α:Type} {R:V->α->Prop}:A2 R [] ([]:List α):=⟨rfl,λi a x e=>by simp at e⟩
theorem A2.append {α:Type} {R:V->α->Prop} {as bs:List V} {xs ys:List α} (h:A2 R as xs) (k:A2 R bs ys):A2 R (as++bs) (xs++ys):=by
 refine (by simp[h.1,k.1],λi a x e1 e2=>?_)
 by_cases c:i<as.length
 ·rw[F3 c] at e1;rw[F3 (by rw[<-h.1];exact c)] at e2
  exact h.2 i a x e1 e2
 ·rw[Ex (by lia)] at e1
  rw[Ex (by rw[<-h.1];lia),<-h.1] at e2
  exact k.2 _ a x e1 e2
theorem A2.one {α:Type} {R:V->α->Prop} {v:V} {x:α} (h:R v x):A2 R [v] [x]:=⟨rfl,λi a y e1 e2=>by
 cases i with
 |zero=>simp at e1 e2;subst e1 e2;exact h
 |succ n=>simp at e1⟩
theorem A2.snoc {α:Type} {R:V->α->Prop} {vs:List V} {xs:List α} (h:A2 R vs xs) {v:V} {x:α} (r:R v x):A2 R (vs++ [v]) (xs++ [x]):=h.append (.one r)
theorem A2.take {α:Type} {R:V->α->Prop} {vs:List V} {xs:List α} (h:A2 R vs xs) (n:Nat):A2 R (vs.take n) (xs.take n):=by
 refine (by simp[h.1],λi v x e1 e2=>?_)
 rw[List.getElem?_take] at e1 e2
 split at e1
 ·rename_i c;rw[if_pos c] at e2;exact h.2 i v x e1 e2
 ·cases e1
theorem A2.drop {α:Type} {R:V->α->Prop} {vs:List V} {xs:List α} (h:A2 R vs xs) (n:Nat):A2 R (vs.drop n) (xs.drop n):=by
 refine (by simp[h.1],λi v x e1 e2=>?_)
 rw[List.getElem?_drop] at e1 e2;exact h.2 _ v x e1 e2
def cA {α:Type} (R:RA α) (P:Addr->Prop) (H:Hp) (l:Addr) (xs:List α):Prop:=∃vs,H l=some (.lst vs)/\A2 (R P H) vs xs
def xt {α:Type} (R:RA α):RA (List α):=λP H v xs=>∃l,v= .ref l/\P l/\cA R P H l xs
instance {α:Type} {R:RA α} [Mv R]:Mv (xt R) where
 mv:=λ{P P' H H' v x} g h=>by
  obtain ⟨l,rfl,p,vs,e,r⟩:=h;obtain ⟨p',e'⟩:=g l _ p rfl e;exact (l,rfl,p',vs,e',r.imp λv x q=>Mv.mv g q)
def ug {α:Type} (f:α->List V):RA α:=λP H v x=>∃t,v= .ref t/\P t/\H t=some (.tup (f x))
instance {α:Type} {f:α->List V}:Mv (ug f) where
 mv:=λ{P P' H H' v x} g h=>by
  obtain ⟨t,rfl,p,e⟩:=h;obtain ⟨p',e'⟩:=g t _ p rfl e;exact (t,rfl,p',e')
def dW {α:Type} (f:α->V):RA α:=λ_ _ v x=>v=f x
instance {α:Type} {f:α->V}:Mv (dW f) where
 mv:=λ_ h=>h
theorem A2.val {α:Type} {f:α->V} {P:Addr->Prop} {H:Hp} {vs:List V} {xs:List α} (h:A2 (dW f P H) vs xs):vs=xs.map f:=by
 apply List.ext_getElem (by rw[E1];exact h.1)
 intro i h1 h2;rw[List.getElem_map];exact h.2 i _ _ (E2 h1) (E2 (by rw[E1] at h2;exact h2))
theorem A2.ofVal {α:Type} (f:α->V) (P:Addr->Prop) (H:Hp) (xs:List α):A2 (dW f P H) (xs.map f) xs:=⟨E1 _,λi v x e1 e2=>by
 rw[EB,e2] at e1;cases e1
 rfl⟩
theorem cA.same {α:Type} {R:RA α} [Mv R] {P:Addr->Prop} {H H':Hp} {l:Addr} {xs:List α} (h:cA R P H l xs) (g:aE H H'):cA R P H' l xs:=let ⟨vs,e,r⟩:=h;⟨vs,g _ _ e,r.imp λ_ _ q=>de q g⟩
theorem cA.any {α:Type} {R:RA α} [Mv R] {P:Addr->Prop} {H:Hp} {l:Addr} {xs:List α} (h:cA R P H l xs):cA R An H l xs:=let ⟨vs,e,r⟩:=h;⟨vs,e,r.imp λ_ _ q=>DK q⟩
theorem cA.mono {α:Type} {R:RA α} [Mv R] {P P':Addr->Prop} {H:Hp} {l:Addr} {xs:List α} (h:cA R P H l xs) (g:∀a,P a->P' a):cA R P' H l xs:=let ⟨vs,e,r⟩:=h;⟨vs,e,r.imp λ_ _ q=>ku q g⟩
theorem cA.sq {α:Type} {R:RA α} [Mv R] {P:Addr->Prop} {H H':Hp} {l:Addr} {xs:List α} (h:cA R P H l xs) (g:∀a o,uf o=true->H a=some o->H' a=some o):cA R P H' l xs:=let ⟨vs,e,r⟩:=h;⟨vs,g _ _ rfl e,r.imp λ_ _ q=>D3 q g⟩
theorem cA.upd {α:Type} {R:RA α} [Mv R] {P:Addr->Prop} {H:Hp} {l x:Addr} {xs:List α} (h:cA R P H l xs) (n:¬P x) (lx:l≠x) (o:HO):cA R P (L2.aH H x o) l xs:=by
 obtain ⟨vs,e,r⟩:=h;exact (vs,by rw[aK lx];exact e,r.imp λ_ _ q=>kY q n o)
theorem cA.put {α:Type} {R:RA α} [Mv R] {P:Addr->Prop} {H:Hp} {l:Addr} {vs:List V} {xs:List α} {v:V} {x:α} (n:¬P l) (r:A2 (R P H) vs xs) (h:R P H v x):cA R P (L2.aH H l (.lst (vs++ [v]))) l (xs++ [x]):=
 ⟨_,ae,(r.snoc h).imp λ_ _ q=>kY q n _⟩
theorem cA.ext {α:Type} {R:RA α} [Mv R] {P:Addr->Prop} {H:Hp} {l:Addr} {vs us:List V} {xs ys:List α} (n:¬P l) (r:A2 (R P H) vs xs) (h:A2 (R P H) us ys):cA R P (L2.aH H l (.lst (vs++us))) l (xs++ys):=
 ⟨_,ae,(r.append h).imp λ_ _ q=>kY q n _⟩
theorem cA.new {α:Type} {R:RA α} {P:Addr->Prop} {H:Hp} {l:Addr}:cA R P (L2.aH H l 142) l ([]:List α):=⟨[],ae,A2.nil⟩
end Sw
namespace L2
open PySem PySem.Spec PyProof.Rows XH Sw Hm
noncomputable def df {β:Type} (n:Nat) (pr:Nat->Bool) (f:Nat->β):List β:=((EY n).filter pr).map f
theorem qQ {β:Type} (n:Nat) (pr:Nat->Bool) (f:Nat->β):df (n+1) pr f=df n pr f++(if pr n=true then [f n] else []):=by
 unfold df;rw[Fw,List.filter_append,EU]
 congr 1
 cases h:pr n<;>simp[List.filter_cons,h]
theorem jx {β:Type} (n:Nat) (pr:Nat->Bool) (f:Nat->β):(df n pr f).length<=n:=by
 unfold df;rw[E1];have:=Fp pr (EY n)
 rwa [F6] at this
theorem oU {J:It} {β:Type} {n:Nat} {js:List Nat} {tc:TT} {te:TE} {σ:L2.St} {H1:Hp} {Q:VK} (R:RA β) [Mv R] (Z:Addr->Prop) (pr:Nat->Bool) (f:Nat->β) (hz:n<=sizeLine) (hZ:∀a,Z a->H1 a≠none)
  (hgo:∀i H2,aE H1 H2->i<n->J.go i H2) (hst:∀H2,aE H1 H2->J.stop n H2)
  (step:∀i,i<n->∀H2 x H3,aE H1 H2->J.yld i H2 x H3->H3=H2/\(∀S:Bool->Hp->Prop,(∀H4,aE H2 H4->S (pr i) H4)->tc (some x::aP js σ) H2 S)/\(pr i=true->∀H4,aE H2 H4->∀Q':VK,(∀y H5,aE H4 H5->R (λa=>H4 a=none∨Z a) H5 y (f i)->Q' y H5)->te (some x::aP js σ) H4 Q'))
  (fin:∀p H',H1 p=none->aE H1 H'->cA R (λa=>a≠p/\(H1 a=none∨Z a)) H' p (df n pr f)->Q (.ref p) H'):ju js tc te σ Q J H1:=by
 intro p hp;exists λi m ys H2=>i<=n/\m=n-i/\aE H1 H2/\H2 p=some (.lst ys)/\A2 (R (λa=>a≠p/\(H1 a=none∨Z a)) H2) ys (df i pr f),(n,El _,rfl,Sw.ac hp _,ae,A2.nil)
 rintro i m ys H2 ⟨hi,rfl,g,e,r⟩;exists e
 by_cases hin:i<n
 ·refine .inr (hgo i H2 g hin,?_,λx H3 hy=>?_)
  ·have:=jx i pr f;have:=r.1
   lia
  obtain ⟨rfl,h1,h2⟩:=step i hin H2 x H3 g hy;refine h1 _ λH4 g4=>?_
  have tk:=qQ i pr f;cases hpr:pr i with
  |true=>
   rw[hpr,if_pos rfl] at tk;rw[if_pos rfl];refine h2 hpr H4 g4 _ λy H5 g5 ry=>(g5 _ _ (g4 _ _ e),n-(i+1),by lia,hin,rfl,Sw.dJ ((g.trans g4).trans g5) hp _,ae,?_)
   rw[tk];have np:¬(p≠p/\(H1 p=none∨Z p)):=λz=>z.1 rfl
   refine ((r.imp λv b q=>de q (g4.trans g5)).snoc (ku ry λa ha=>?_)).imp λv b q=>kY q np _
   rcases ha with h|h
   ·exact ((λz=>by rw[z,g4 _ _ e] at h;cases h),.inl ((g.trans g4).free h))
   ·exact (λz=>hZ a h (z▸hp),.inr h)
  |false=>
   rw[hpr,if_neg 118,FG] at tk
   rw[if_neg 118]
   exact (n-(i+1),by lia,hin,rfl,g.trans g4,g4 _ _ e,by rw[tk];exact r.imp λv b q=>de q g4)
 ·have e2:i=n:=by lia
  subst e2;exact .inl (hst H2 g,fin p H2 hp g (ys,e,r))
theorem vJ {J:It} {β:Type} {n:Nat} {js:List Nat} {te:TE} {σ:L2.St} {H1:Hp} {Q:VK} (R:RA β) [Mv R] (Z:Addr->Prop) (f:Nat->β) (hz:n<=sizeLine) (hZ:∀a,Z a->H1 a≠none)
  (hgo:∀i H2,aE H1 H2->i<n->J.go i H2) (hst:∀H2,aE H1 H2->J.stop n H2)
  (step:∀i,i<n->∀H2 x H3,aE H1 H2->J.yld i H2 x H3->H3=H2/\∀Q':VK,(∀y H5,aE H2 H5->R (λa=>H2 a=none∨Z a) H5 y (f i)->Q' y H5)->te (some x::aP js σ) H2 Q')
  (fin:∀p H',H1 p=none->aE H1 H'->cA R (λa=>a≠p/\(H1 a=none∨Z a)) H' p ((EY n).map f)->Q (.ref p) H'):rY js te σ Q J H1:=by
 intro p hp;exists λi m ys H2=>i<=n/\m=n-i/\aE H1 H2/\H2 p=some (.lst ys)/\A2 (R (λa=>a≠p/\(H1 a=none∨Z a)) H2) ys ((EY i).map f),(n,El _,rfl,Sw.ac hp _,ae,A2.nil)
 rintro i m ys H2 ⟨hi,rfl,g,e,r⟩;exists e
 by_cases hin:i<n
 ·refine .inr (hgo i H2 g hin,?_,λx H3 hy=>?_)
  ·have:=r.1;rw[E1,F6] at this
   lia
  obtain ⟨rfl,h2⟩:=step i hin H2 x H3 g hy;refine h2 _ λy H5 g5 ry=>(g5 _ _ e,n-(i+1),by lia,hin,rfl,Sw.dJ (g.trans g5) hp _,ae,?_)
  rw[Fw,EU];have np:¬(p≠p/\(H1 p=none∨Z p)):=λz=>z.1 rfl
  refine ((r.imp λv b q=>de q g5).snoc (ku ry λa ha=>?_)).imp λv b q=>kY q np _
  rcases ha with h|h
  ·exact ((λz=>by rw[z,e] at h;cases h),.inl (g.free h))
  ·exact (λz=>hZ a h (z▸hp),.inr h)
 ·have e2:i=n:=by lia
  subst e2;exact .inl (hst H2 g,fin p H2 hp g (ys,e,r))
section
variable {K:E5} {β:Type} {a:Addr} {xs:List V} {n:Nat} {js:List Nat} {tc:TT} {te:TE} {σ:L2.St} {H1:Hp} {Q:VK}
theorem fV (R:RA β) [Mv R] (Z:Addr->Prop) (pr:Nat->Bool) (f:Nat->β) (hS:aD K H1 a xs) (hz:xs.length<=sizeLine) (hZ:∀a,Z a->H1 a≠none)
  (s1:∀i x,xs[i]?=some x->∀H2,aE H1 H2->∀S:Bool->Hp->Prop,(∀H4,aE H2 H4->S (pr i) H4)->tc (some x::aP js σ) H2 S)
  (s2:∀i x,xs[i]?=some x->pr i=true->∀H2,aE H1 H2->∀Q':VK,(∀y H5,aE H2 H5->R (λa=>H2 a=none∨Z a) H5 y (f i)->Q' y H5)->te (some x::aP js σ) H2 Q')
  (fin:∀p H',H1 p=none->aE H1 H'->cA R (λa=>a≠p/\(H1 a=none∨Z a)) H' p (df xs.length pr f)->Q (.ref p) H'):ju js tc te σ Q (wI K a) H1:=by
 refine oU R Z pr f hz hZ (λi H2 g hi=>(xs,xs[i],g.seq hS,E2 hi)) (λH2 g=>(xs,g.seq hS,E8 _)) (λi hi H2 x H3 g hy=>?_) fin
 obtain ⟨rfl,hx⟩:=hy;have ex:=hx xs (g.seq hS);exact (rfl,s1 i x ex _ g,λh H4 g4=>s2 i x ex h _ (g.trans g4))
theorem uh (R:RA β) [Mv R] (Z:Addr->Prop) (pr:Nat->Bool) (f:Nat->β) (hz:n<=sizeLine) (hZ:∀a,Z a->H1 a≠none)
  (s1:∀i:Nat,i<n->∀H2,aE H1 H2->∀S:Bool->Hp->Prop,(∀H4,aE H2 H4->S (pr i) H4)->tc (some (.int (0+(i:Int)))::aP js σ) H2 S)
  (s2:∀i:Nat,i<n->pr i=true->∀H2,aE H1 H2->∀Q':VK,(∀y H5,aE H2 H5->R (λa=>H2 a=none∨Z a) H5 y (f i)->Q' y H5)->te (some (.int (0+(i:Int)))::aP js σ) H2 Q')
  (fin:∀p H',H1 p=none->aE H1 H'->cA R (λa=>a≠p/\(H1 a=none∨Z a)) H' p (df n pr f)->Q (.ref p) H'):ju js tc te σ Q (xX 0 n) H1:=by
 refine oU R Z pr f hz hZ (λi H2 g hi=>hi) (λH2 g=>E8 n) (λi hi H2 x H3 g hy=>?_) fin
 obtain ⟨rfl,rfl⟩:=hy;exact (rfl,s1 i hi _ g,λh H4 g4=>s2 i hi h _ (g.trans g4))
theorem bJ (R:RA β) [Mv R] (Z:Addr->Prop) (f:Nat->β) (hS:aD K H1 a xs) (hz:xs.length<=sizeLine) (hZ:∀a,Z a->H1 a≠none)
  (s2:∀i x,xs[i]?=some x->∀H2,aE H1 H2->∀Q':VK,(∀y H5,aE H2 H5->R (λa=>H2 a=none∨Z a) H5 y (f i)->Q' y H5)->te (some x::aP js σ) H2 Q')
  (fin:∀p H',H1 p=none->aE H1 H'->cA R (λa=>a≠p/\(H1 a=none∨Z a)) H' p ((EY xs.length).map f)->Q (.ref p) H'):rY js te σ Q (wI K a) H1:=by
 refine vJ R Z f hz hZ (λi H2 g hi=>(xs,xs[i],g.seq hS,E2 hi)) (λH2 g=>(xs,g.seq hS,E8 _)) (λi hi H2 x H3 g hy=>?_) fin
 obtain ⟨rfl,hx⟩:=hy;exact (rfl,s2 i x (hx xs (g.seq hS)) _ g)
theorem oW {hd:GU} (R:RA β) [Mv R] (Z:Addr->Prop) (f:Nat->β) (hok:oB hd H1) (hz:n<=sizeLine) (hZ:∀a,Z a->H1 a≠none)
  (s2:∀i:Nat,i<n->∀H2,aE H1 H2->∀Q':VK,(∀y H5,aE H2 H5->R (λa=>H2 a=none∨Z a) H5 y (f i)->Q' y H5)->te (some (.int (0+(i:Int)))::aP js σ) H2 Q')
  (fin:∀p H',H1 p=none->aE H1 H'->cA R (λa=>a≠p/\(H1 a=none∨Z a)) H' p ((EY n).map f)->Q (.ref p) H'):rY js te σ Q (xf hd 0 n) H1:=by
 refine vJ R Z f hz hZ (λi H2 g hi=>hi) (λH2 g=>(E8 n,yE hok g)) (λi hi H2 x H3 g hy=>?_) fin
 obtain ⟨rfl,rfl⟩:=hy;exact (rfl,s2 i hi _ g)
end
end L2
namespace Sw
open PySem L2 XH Hm
def vK (xs:List V):Prop:=∀x∈xs,Db x
theorem oX {K:E5} {H:Hp} {xs:List V} (h:vK xs):jv (t8 K H 0) xs xs:=ng rfl λi x y h1 h2=>by
 rw[h1] at h2;cases h2;exact (rfl,h x (E4 h1))
theorem vL {α:Type} {R:RA α} {K:E5} {P P':Addr->Prop} {H:Hp} {n:Nat} {vs ws:List V} {xs:List α} (f:∀v w x,x∈xs->R P H v x->R P' H w x->t8 K H n v w) (h:A2 (R P H) vs xs) (k:A2 (R P' H) ws xs):jv (t8 K H n) vs ws:=
 ng (h.1.trans k.1.symm) λi v w e1 e2=>by
  obtain ⟨x,hx,q⟩:=h.at_ e1;exact f v w x (E4 hx) q (k.2 i w x e2 hx)
open PySem.NumText
noncomputable def yO:Str:= "abcdefghijklmnopqrstuvwxyz"
def Nm (z:Str):Prop:=1<=(sL z).length/\(sL z).length<=12/\∀c∈sL z,97<=c/\c<=122
theorem sv (c:Nat):(!(Builtin.Str.occurrences yO (Dg [c]) 0 yO.length 1).isEmpty)=decide (97<=c/\c<=122):=by
 rw[yK];have e:sL yO=(EY 26).map (97+ ·):=by decide
 rw[e];apply decide_eq_decide.mpr;constructor
 ·intro h;obtain ⟨i,hi,rfl⟩:=EO.mp h;have:=Ew.mp hi
  lia
 ·intro h;exact EO.mpr (c-97,Ew.mpr (by lia),by lia)
def oY (K:E5):Sp:=λvs H Q _=>∃x:V,vs= [x]/\((∃z:Str,x= .str z/\z.length<=1000000/\(Nm z->Q (.bl true) H)/\(¬Nm z->Q (.bl false) H))∨∃ty,iU K H x ty/\PySem.W.kitOne K ty (.type "str")=some false/\Q (.bl false) H)
abbrev Us:=Str×Int×Int
abbrev Wy:=Int×Int×List Us
abbrev Tk:=List (List Wy)
abbrev Tl:=List (Str×Int)
noncomputable def A7 (u:Us):List V:= [.str u.1,.int u.2.1,.int u.2.2]
abbrev qR:RA Us:=ug A7
def iu:RA Wy:=λP H v w=>∃t u:Addr,v= .ref t/\P t/\P u/\H t=some (.tup [.int w.1,.int w.2.1,.ref u])/\cA qR P H u w.2.2
instance:Mv iu where
 mv:=λ{P P' H H' v x} g h=>by
  obtain ⟨t,u,rfl,p,p2,e,vs,e2,r⟩:=h;obtain ⟨q,e'⟩:=g t _ p rfl e;obtain ⟨q2,e2'⟩:=g u _ p2 rfl e2;exact (t,u,rfl,q,q2,e',vs,e2',r.imp λ_ _ k=>Mv.mv g k)
abbrev fG:RA (List Wy):=xt iu
noncomputable def bL (D:Tl):List (Key×V):=D.map λp=>(.inr p.1,.int p.2)
noncomputable def cT (D:Tl) (z:Str):Option Int:=(D.find? λp=>decide (p.1=z)).map (·.2)
theorem jy (D:Tl):(bL D).length=D.length:=E1 _
theorem kx {D:Tl} {i:Nat} {k:Key} {x:V} (h:(bL D)[i]?=some (k,x)):∃p,D[i]?=some p/\k= .inr p.1/\x= .int p.2:=by
 unfold bL at h;rw[EB] at h;obtain ⟨p,e,q⟩:=E7.mp h;cases q;exact (p,e,rfl,rfl)
theorem jM (p:Str×Int) (D:Tl) (z:Str):cT (p::D) z=if p.1=z then some p.2 else cT D z:=by
 unfold cT;rw[FA]
 by_cases h:p.1=z
 ·rw[decide_eq_true h,if_pos h];rfl
 ·rw[decide_eq_false h,if_neg h]
theorem jz (z:Str):∀D:Tl,fr (bL D) (.inr z)=(cT D z).map V.int
 | []=>rfl
 |p::D=>by
  rw[jM];show fr (((.inr p.1:Key),V.int p.2)::bL D) _=_
  by_cases h:p.1=z
  ·rw[if_pos h,c9 (by show (Sum.inr p.1:Key)=_;rw[h])];rfl
  ·rw[if_neg h,da (by intro e;exact h (by injection e)),jz z D]
theorem lV {z:Str} {n:Int}:∀{D:Tl},(D.map (·.1)).Nodup->(z,n)∈D->cT D z=some n
 | [],_,h=>by cases h
 |p::D,nd,h=>by
  rw[F8,Fb] at nd;rw[jM];rcases EI.mp h with e|e
  ·subst e;rw[if_pos rfl]
  ·have hn:¬p.1=z:=λq=>nd.1 (by rw[q];exact List.mem_map_of_mem (f:=Prod.fst) e)
   rw[if_neg hn,lV nd.2 e]
def yP (D:Tl) (us:List Us):Prop:=(us.map (·.1)).Nodup/\us.length<=100/\∀e∈us,∃m,cT D e.1=some m/\1<=e.2.1/\e.2.1<=m/\0<=e.2.2/\e.2.2<=1000000000
def kZ (D:Tl) (ws:List Wy):Prop:=1<=ws.length/\ws.length<=2/\∀w∈ws,1<=w.1/\w.1<=w.2.1/\w.2.1<=1000000000/\yP D w.2.2
structure gw (D:Tl) (T:Tk) (A B:List Ky) (n:Int):Prop where
 d12:D.length<=12
 dnd:(D.map (·.1)).Nodup
 tool:∀p∈D,Nm p.1/\1<=p.2/\p.2<=8
 t24:T.length<=24
 ways:∀ws∈T,kZ D ws
 n0:0<=n
 n8:n<=8
 a600:A.length<=600
 arcs:∀k∈A,∃p q g:Int,k= [p,q,g]/\0<=p/\p<2*120+n/\0<=q/\q<2*120+n/\ -1000000000<=g/\g<=1000000000
 b300:B.length<=300
 pairs:∀k∈B,∃p q:Int,k= [p,q]/\0<=p/\p<120/\0<=q/\q<120/\p≠q
def TD (f:Bool) (H:Hp) (a:Addr) (u:HO):Prop:=H a=some u∨(f=true/\∃o,H a=some (.frz o u))
theorem TD.same {f:Bool} {H H':Hp} {a:Addr} {u:HO} (h:TD f H a u) (g:aE H H'):TD f H' a u:=h.elim (λe=> .inl (g _ _ e)) λ⟨e,o,k⟩=> .inr ⟨e,o,g _ _ k⟩
theorem TD.no {H:Hp} {a:Addr} {u:HO} (h:TD false H a u):H a=some u:=h.elim id λ⟨e,_⟩=>by cases e
structure fN (C:Addr) (f:Bool) (H:Hp) (x:Addr) (D:Tl) (T:Tk) (A B:List Ky) (n:Int):Prop where
 ex:∃(dx td tl al pl:Addr) (fs:List (Str×V)),H x=some (.ins C dx fs)/\fs.lookup ("tools" :Str)=some (.ref td)/\fs.lookup ("tasks" :Str)=some (.ref tl)/\fs.lookup ("arcs" :Str)=some (.ref al)/\fs.lookup ("apart" :Str)=some (.ref pl)/\fs.lookup ("moments" :Str)=some (.int n)/\
  TD f H td (.dK (bL D))/\cA fG An H tl T/\bq H al A/\bq H pl B
theorem fN.same {C:Addr} {f:Bool} {H H':Hp} {x:Addr} {D:Tl} {T:Tk} {A B:List Ky} {n:Int} (h:fN C f H x D T A B n) (g:aE H H'):fN C f H' x D T A B n:=by
 obtain ⟨dx,td,tl,al,pl,fs,a,b1,b2,b3,b4,b5,c,d,e,k⟩:=h.ex;exact (dx,td,tl,al,pl,fs,g _ _ a,b1,b2,b3,b4,b5,c.same g,d.same g,e.same g,k.same g)
theorem fN.any {C:Addr} {f:Bool} {H:Hp} {x:Addr} {D:Tl} {T:Tk} {A B:List Ky} {n:Int} (h:fN C f H x D T A B n):fN C true H x D T A B n:=by
 obtain ⟨dx,td,tl,al,pl,fs,a,b1,b2,b3,b4,b5,c,d,e,k⟩:=h.ex;exact ⟨dx,td,tl,al,pl,fs,a,b1,b2,b3,b4,b5,c.elim .inl (λ⟨_,o,q⟩=> .inr ⟨rfl,o,q⟩),d,e,k⟩
theorem bq.sq {H H':Hp} {l:Addr} {ks:List Ky} (h:bq H l ks) (g:∀a o,uf o=true->H a=some o->H' a=some o):bq H' l ks:=by
 obtain ⟨as,e,r⟩:=h;exact (as,g _ _ rfl e,r.imp λa k q=>g _ _ rfl q)
theorem jA {H:Hp} {d:Addr} {kvs:List (Key×V)} {o:Obj} (e:H d=some 149):∀a u,uf u=true->H a=some u->aH H d (.frz o 149) a=some u:=λa u s h=>by
 rw[aK (λz=>by rw[z,e] at h;cases h;cases s)]
 exact h
theorem jB {H H':Hp} {d:Addr} {kvs:List (Key×V)} {o:Obj} (e:H d=some 149) (g:aE (aH H d (.frz o 149)) H'):aE H (aH H' d 149):=λa u h=>by
 by_cases z:a=d
 ·subst z;rw[e] at h;cases h;exact ae
 ·rw[aK z];exact g a u (by rw[aK z];exact h)
theorem fN.walk {C:Addr} {H:Hp} {x:Addr} {D:Tl} {T:Tk} {A B:List Ky} {n:Int} {d:Addr} {kvs:List (Key×V)} {o:Obj} (h:fN C true H x D T A B n) (e:H d=some 149):fN C true (aH H d (.frz o 149)) x D T A B n:=by
 obtain ⟨dx,td,tl,al,pl,fs,a,b1,b2,b3,b4,b5,c,dd,ee,k⟩:=h.ex;refine ⟨dx,td,tl,al,pl,fs,by rw[aK (iR a e (by intro z;cases z))];exact a,b1,b2,b3,b4,b5,?_,dd.sq (jA e),ee.sq (jA e),k.sq (jA e)⟩
 by_cases z:td=d
 ·subst z;rcases c with c|⟨_,o',c⟩
  ·rw[e] at c;cases c;exact .inr (rfl,o,ae)
  ·rw[e] at c;cases c
 ·unfold TD;rw[aK z];exact c
def ny:Sp:=λvs H Q _=>∃(l:Addr) (ws:List Wy) (P0:Addr->Prop),vs= [.ref l]/\cA iu P0 H l ws/\ws.length<=2/\∀(p:Addr) (H':Hp),aE H H'->H p=none->fG (λa=>H a=none∨P0 a) H' (.ref p) ws->Q (.ref p) H'
def lW:Sp:=λvs H Q _=>∃(td:Addr) (D:Tl),vs= [.ref td]/\H td=some (.dK (bL D))/\D.length<=12/\(∀p∈D,Nm p.1/\1<=p.2/\p.2<=8)/\∀H',aE H H'->Q .non H'
def oZ:Sp:=λvs H Q _=>∃(u td:Addr) (D:Tl) (us:List Us),vs= [.ref u,.ref td]/\cA qR An H u us/\H td=some (.dK (bL D))/\yP D us/\∀H',aE H H'->Q .non H'
def lX:Sp:=λvs H Q _=>∃(tl td:Addr) (D:Tl) (T:Tk),vs= [.ref tl,.ref td]/\cA fG An H tl T/\H td=some (.dK (bL D))/\T.length<=24/\(∀ws∈T,kZ D ws)/\∀H',aE H H'->Q .non H'
def lY:Sp:=λvs H Q _=>∃(pl:Addr) (m:Int) (B:List Ky),vs= [.ref pl,.int m]/\bq H pl B/\B.length<=300/\(∀k∈B,∃p q:Int,k= [p,q]/\0<=p/\p<m/\0<=q/\q<m/\p≠q)/\Q .non H
def jC (C:Addr):Sp:=λvs H Q _=>∃(x:Addr) (n:Int) (f:Bool) (D:Tl) (T:Tk) (A B:List Ky),vs= [.ref x]/\fN C f H x D T A B n/\Q (.int 143) H
def D4 (H:Hp) (v:V) (B:List Ky):Prop:=(v= .non/\B= [])∨∃pl,v= .ref pl/\bq H pl B
def qS (C:Addr):Sp:=λvs H Q _=>∃(x dx td tl al:Addr) (v:V) (n:Int) (D:Tl) (T:Tk) (A B:List Ky),vs= [.ref x,.ref td,.ref tl,.ref al,v,.int n]/\H x=some (.ins C dx [])/\H td=some (.dK (bL D))/\cA fG An H tl T/\bq H al A/\D4 H v B/\gw D T A B n/\
 ∀H',(∀a o,a≠x->H a=some o->H' a=some o)->fN C false H' x D T A B n->Q .non H'
theorem cA.fx {α:Type} {R:RA α} [Mv R] {x:Addr} {H H':Hp} {l:Addr} {T:List α} {C dx:Addr} {fs:List (Str×V)} (h:cA R An H l T) (ex:H x=some (.ins C dx fs)) (g:Fx x H H'):cA R An H' l T:=
 h.sq λa o s e=>g a o (λz=>by rw[z,ex] at e;cases e;cases s) e
noncomputable def qT (w:Wy) (z:Str):Option Us:=w.2.2.find? λu=>decide (u.1=z)
noncomputable def dB (w:Wy) (z:Str):Int:=match qT w z with
 |some u=>u.2.1
 |none=>0
theorem iA:∀(xs ys:List Int),(xs.foldl insI ys).length<=ys.length+xs.length
 | [],ys=>by simp
 |x::xs,ys=>by
  have:=iA xs (insI ys x);have:=oR ys x;rw[List.foldl_cons,ER]
  lia
section
variable (C:Addr)
def nz:Sp:=λvs H Q _=>∃(v:V) (z:Str) (w:Wy) (P0:Addr->Prop),vs= [v,.str z]/\iu P0 H v w/\(∀(u:Us) (a:Addr),qT w z=some u->P0 a->H a=some (.tup (A7 u))->Q (.ref a) H)/\(qT w z=none->Q .non H)
end
end Sw
namespace L2
open PySem PySem.Spec PyProof.Rows XH Sw
theorem lZ {a:Addr} {o:Obj} {kvs:List (Key×V)} {g:TG} {tb:TS} {D:Ends} {σ:St} {H:Hp} (Pv:Nat->St->Hp->Prop) (h0:Pv 0 σ H) (hz:∀i σ H,i<=kvs.length->Pv i σ H->H a=some (.frz o 149))
  (hs:∀i k x σ H T,kvs[i]?=some (k,x)->Pv i σ H->H T=none->g (.ref T) σ (aH H T (.tup [kV k,x])) λσ2 H2=>tb {D with nx:=Pv (i+1),ct:=Pv (i+1),bk:=D.nx} σ2 H2) (hd:∀σ H,Pv kvs.length σ H->D.nx σ H):
  ∃W:Nat->Nat->St->Hp->Prop,(∃m,W 0 m σ H)/\∀i m σ H,W i m σ H->
   ((Itm a o kvs).stop i H/\D.nx σ H)∨((Itm a o kvs).go i H/\∃N:St->Hp->Prop,(∀σ' H',N σ' H'->∃m',m'<m/\W (i+1) m' σ' H')/\∀x H',(Itm a o kvs).yld i H x H'->g x σ H' λσ2 H2=>tb {D with nx:=N,ct:=N,bk:=D.nx} σ2 H2):=by
 exists λi m σ H=>m=kvs.length-i/\i<=kvs.length/\Pv i σ H,(kvs.length,by simp,El _,h0)
 rintro i m σ H ⟨rfl,hi,p⟩
 by_cases hlt:i<kvs.length
 ·refine .inr ((hz i σ H hi p,hlt),Pv (i+1),λσ' H' p'=>(kvs.length-(i+1),by lia,rfl,hlt,p'),λx H' y=>?_)
  obtain ⟨T,k,v,rfl,nT,hk,rfl⟩:=y;exact hs i k v σ H T hk p nT
 ·have e:i=kvs.length:=by lia
  subst e;exact .inl ((hz _ σ H hi p,rfl),hd σ H p)
end L2
namespace Sw
open PySem L2 XH Hm
theorem bO {α:Type} (xs:List α) (d:α):(EY xs.length).map (λi=>xs.getD i d)=xs:=by
 apply List.ext_getElem
 ·rw[E1,F6]
 ·intro i h1 h2;rw[List.getElem_map,List.getElem_range,bf (E2 h2)]
theorem fk {α:Type} {n:Nat} (xs:List α) (d:α) (h:n=xs.length):(EY n).map (λi=>xs.getD i d)=xs:=by
 subst h;exact bO xs d
theorem jD {H:Hp} {td:Addr} {D:Tl} {z:Str} {m:Int} (e:Rd H td (.dK (bL D))) (h:cT D z=some m):iZ H td (.str z) (some (.int m)):=
 .inl ⟨_,.inr z,e,rfl,by rw[jz,h];rfl⟩
theorem nA {us:List Us} {z:Str}:∀{us:List Us} {i:Nat} {e:Us},us[i]?=some e->e.1=z->(∀(j:Nat) (u:Us),j<i->us[j]?=some u->u.1≠z)->us.find? (λu=>decide (u.1=z))=some e
 | [],i,e,h,_,_=>by simp at h
 |u::us,0,e,h,hz,_=>by
  simp at h;subst h;rw[FA,decide_eq_true hz]
 |u::us,i+1,e,h,hz,hn=>by
  rw[FA,decide_eq_false (hn 0 u (by lia) rfl)]
  exact nA (us:=us) (by simpa using h) hz λj v hj hv=>hn (j+1) v (by lia) (by simpa using hv)
theorem xu {z:Str} {us:List Us} (hn:∀(j:Nat) (u:Us),us[j]?=some u->u.1≠z):us.find? (λu=>decide (u.1=z))=none:=by
 rw[List.find?_eq_none];intro u hu;obtain ⟨j,hj⟩:=Eg.mp hu;simp[hn j u hj]
theorem xv {z:Str} {us:List Us} {e:Us} (h:us.find? (λu=>decide (u.1=z))=some e):e∈us/\e.1=z:=by
 exists Fv h;have:=List.find?_some h
 simpa using this
def A8:RA (Option Us):=λP H v o=>match o with
 |none=>v= .non
 |some u=>qR P H v u
instance:Mv A8 where
 mv:=λ{P P' H H' v x} g h=>by
  cases x with
  |none=>exact h
  |some u=>exact Mv.mv (R:=qR) g h
theorem pd {w:Wy} {z:Str} (h:qT w z=none):dB w z=0:=by unfold dB;rw[h]
theorem ph {w:Wy} {z:Str} {u:Us} (h:qT w z=some u):dB w z=u.2.1:=by unfold dB;rw[h]
open PyProof.Rows So
end Sw
namespace L2
open PySem PySem.Spec PyProof.Rows XH Sw
end L2
namespace Sw
open PySem L2 XH PyProof.Rows
end Sw
namespace L2
open PySem PySem.Spec PyProof.Rows XH Sw
theorem qU {cs:GR} {its:GS} (h:bC (cs.map V.ref) its):its=cs.map Value.ref:=by
 induction cs generalizing its with
 |nil=>cases h;rfl
 |cons c cs ih=>
  cases h with
  |cons r rr=>cases r;rw[ih rr];rfl
end L2
namespace Sw
open PySem L2 XH PyProof.Rows
def Lt (z:Str):Prop:=∀c∈sL z,97<=c/\c<=122
theorem Lt.app {x y:Str} (h:Lt x) (k:Lt y):Lt (x++y):=λc hc=>by
 rw[kh] at hc;rcases EJ.mp hc with q|q
 ·exact h c q
 ·exact k c q
theorem Lt.cut {x:Str} (h:Lt x) (lo hi:Option Int):Lt (iJ x lo hi):=λc hc=>by
 have hc':c∈((sL x).drop (HT.fg x.length 0 lo)).take (HT.fg x.length x.length hi-HT.fg x.length 0 lo):=by simpa [sL,iJ] using hc
 exact h c (Fs (FL hc'))
theorem Lt.nil:Lt "" :=λc hc=>by
 have:c∈([]:List Nat):=hc;simp at this
theorem Lt.one {c:Nat} (h:97<=c/\c<=122):Lt ⟨#[c]⟩:=λd hd=>by
 have:d∈ [c]:=hd;rw[EA.mp this];exact h
theorem xw {x:Str} {i:Int} (h:0<=i):(iJ x none (some i)).length=min i.toNat x.length:=by
 have e1:HT.fg x.length 0 none=0:=rfl;have e2:HT.fg x.length x.length (some i)=min i.toNat x.length:=by
  unfold HT.fg;simp;omega
 show ((x.cps.toList.drop _).take _).toArray.size=_;rw[e1,e2,EN,EC,EL];have:x.cps.toList.length=x.length:=by simp[Str.length]
 lia
theorem xx {x:Str} {i:Int} (h:0<=i):(iJ x (some i) none).length=x.length-i.toNat:=by
 have e1:HT.fg x.length 0 (some i)=min i.toNat x.length:=by
  unfold HT.fg;simp;omega
 have e2:HT.fg x.length x.length none=x.length:=rfl;show ((x.cps.toList.drop _).take _).toArray.size=_;rw[e1,e2,EN,EC,EL];have:x.cps.toList.length=x.length:=by simp[Str.length]
 lia
theorem Lt.nm {z:Str} (h:Lt z) (h1:1<=z.length) (h2:z.length<=12):Nm z:=⟨by rw[nc];exact h1,by rw[nc];exact h2,h⟩
end Sw
namespace L2
open PySem PySem.Spec PyProof.Rows XH Sw
end L2
namespace Sw
open PySem L2 XH Hm PySem.NumText
end Sw
namespace L2
open PySem PySem.Spec PyProof.Rows XH Sw
end L2
namespace Sw
open PySem L2 XH Hm
theorem A2.rev {α:Type} {R:V->α->Prop} {vs:List V} {xs:List α} (h:A2 R vs xs):A2 R vs.reverse xs.reverse:=by
 refine (by simp[h.1],λi v x e1 e2=>?_)
 have il:i<vs.length:=by
  have:=(E6.mp e1).1
  simpa using this
 rw[List.getElem?_reverse il] at e1;rw[List.getElem?_reverse (by rw[<-h.1];exact il),<-h.1] at e2
 exact h.2 _ v x e1 e2
theorem aW {α:Type} {us:List α} {i:Nat} {u:α} (h:us[i]?=some u):us.take (i+1)=us.take i++ [u]:=by
 rw[List.take_add_one,h]
 rfl
noncomputable def nB (o:Option Int) (g:Int):Int:=if o.getD g>g then o.getD g else g
noncomputable def ui (p q:Int) (o:Option Int) (a:Rn):Option Int:=if a.1=p/\a.2.1=q then some (nB o a.2.2) else o
noncomputable def d0 (A:List Rn) (p q:Int):Option Int:=A.foldl (ui p q) none
noncomputable def FoldIs (p q:Int) (A:List Rn) (o:Option Int):Option Int->Prop
 |none=>o=none/\∀a∈A,¬(a.1=p/\a.2.1=q)
 |some m=>(o=some m∨∃a∈A,a.1=p/\a.2.1=q/\a.2.2=m)/\(∀h,o=some h->h<=m)/\∀a∈A,a.1=p->a.2.1=q->a.2.2<=m
theorem xy (o:Option Int) (g:Int):(o=some (nB o g)∨nB o g=g)/\g<=nB o g/\∀h,o=some h->h<=nB o g:=by
 cases o with
 |none=>simp[nB]
 |some h=>
  simp only[nB,Option.getD_some,Option.some.injEq]
  split
  ·exact (.inl rfl,by lia,λz e=>by lia)
  ·exact (.inr rfl,by lia,λz e=>by lia)
theorem jX (p q:Int):∀(A:List Rn) (o:Option Int),FoldIs p q A o (A.foldl (ui p q) o)
 | [],o=>by cases o<;>simp[FoldIs]
 |a::A,o=>by
  have ih:=jX p q A (ui p q o a);show FoldIs p q (a::A) o (A.foldl (ui p q) (ui p q o a));generalize A.foldl (ui p q) (ui p q o a)=r at ih⊢
  by_cases c:a.1=p/\a.2.1=q
  ·have e:ui p q o a=some (nB o a.2.2):=if_pos c;rw[e] at ih;obtain ⟨s1,s2,s3⟩:=xy o a.2.2;cases r with
   |none=>exact absurd ih.1 nofun
   |some m=>
    obtain ⟨h1,h2,h3⟩:=ih;have h2:=h2 _ rfl;refine (?_,λh e=>Int.le_trans (s3 h e) h2,λb hb b1 b2=>?_)
    ·rcases h1 with h1|⟨b,hb,q1⟩
     ·injection h1 with h1
      rcases s1 with s1|s1
      ·exact .inl (by rw[s1,h1])
      ·exact .inr (a,Ej,c.1,c.2,by lia)
     ·exact .inr (b,EZ _ hb,q1)
    ·rcases EI.mp hb with rfl|hb
     ·lia
     ·exact h3 b hb b1 b2
  ·have e:ui p q o a=o:=if_neg c;rw[e] at ih;cases r with
   |none=>exact ⟨ih.1,λb hb=>by rcases EI.mp hb with rfl|hb;exact c;exact ih.2 b hb⟩
   |some m=>
    obtain ⟨h1,h2,h3⟩:=ih;refine (?_,h2,λb hb b1 b2=>?_)
    ·rcases h1 with h1|⟨b,hb,q1⟩
     ·exact .inl h1
     ·exact .inr (b,EZ _ hb,q1)
    ·rcases EI.mp hb with rfl|hb
     ·exact absurd (b1,b2) c
     ·exact h3 b hb b1 b2
theorem uj {A:List Rn} {p q:Int} (h:∀a∈A,¬(a.1=p/\a.2.1=q)):d0 A p q=none:=by
 have:=jX p q A none;unfold d0;cases e:A.foldl (ui p q) none with
 |none=>rfl
 |some m=>
  rw[e] at this;rcases this.1 with z|⟨a,ha,q1,q2,_⟩
  ·cases z
  ·exact absurd (q1,q2) (h a ha)
theorem uk {A:List Rn} {p q m:Int} (h1:∃a∈A,a.1=p/\a.2.1=q/\a.2.2=m) (h2:∀a∈A,a.1=p->a.2.1=q->a.2.2<=m):d0 A p q=some m:=by
 have:=jX p q A none;unfold d0;obtain ⟨b,hb,b1,b2,b3⟩:=h1;cases e:A.foldl (ui p q) none with
 |none=>
  rw[e] at this;exact absurd (b1,b2) (this.2 b hb)
 |some k=>
  rw[e] at this;obtain ⟨q1,_,q3⟩:=this;have k1:=q3 b hb b1 b2;rcases q1 with z|⟨a,ha,a1,a2,a3⟩
  ·cases z
  ·have:=h2 a ha a1 a2
   congr 1
   lia
theorem um {A:List Rn} {i:Nat} {a:Rn} (h:A[i]?=some a) (p q:Int):d0 (A.take (i+1)) p q=ui p q (d0 (A.take i) p q) a:=by
 unfold d0;rw[List.take_add_one,h,List.foldl_append]
 rfl
noncomputable def gR (A:List Rn) (c:List Int):Nat->Option Int
 |0=>some 0
 |i+1=>(gR A c i).bind λt=>(d0 A (c.getD i 0) (c.getD (i+1) 0)).map λg=>t+g
theorem jE {A:List Rn} {c:List Int} {i:Nat} (h:gR A c i=none):∀{j:Nat},i<=j->gR A c j=none
 |0,hj=>by
  have:i=0:=by lia
  subst this;exact h
 |j+1,hj=>by
  by_cases e:i=j+1
  ·rw[<-e];exact h
  ·have:=jE h (j:=j) (by lia)
   show (gR A c j).bind _=none;rw[this]
   rfl
theorem l9 {A:List Rn} {c:List Int} {i:Nat} {x y t:Int} (h:gR A c i=some t) (hx:c[i]?=some x) (hy:c[i+1]?=some y):gR A c (i+1)=(d0 A x y).map λg=>t+g:=by
 show (gR A c i).bind _=_;rw[h,Et,hx,Et,hy]
 rfl
noncomputable def dh (A:List Rn) (c:List Int):Option Int:=gR A c (c.length-1)
noncomputable def vM (A:List Rn) (p q:Int) (i:Nat):Bool:=match A[i]? with
 |some r=>decide (r.1=p/\r.2.1=q)
 |none=>false
noncomputable def vN (A:List Rn) (i:Nat):Int:=match A[i]? with
 |some r=>r.2.2
 |none=>0
noncomputable def xz (A:List Rn) (p q:Int):List Int:=((EY A.length).filter (vM A p q)).map (vN A)
theorem nC {A:List Rn} {i:Nat} {r:Rn} (h:A[i]?=some r) (p q:Int):vM A p q i=decide (r.1=p/\r.2.1=q):=by unfold vM;rw[h]
theorem nD {A:List Rn} {i:Nat} {r:Rn} (h:A[i]?=some r):vN A i=r.2.2:=by unfold vN;rw[h]
theorem nE {A:List Rn} {p q z:Int}:z∈xz A p q↔∃a∈A,a.1=p/\a.2.1=q/\a.2.2=z:=by
 unfold xz;simp only[EO,Fc,Ew];constructor
 ·rintro ⟨i,⟨hi,ht⟩,hv⟩;have hr:=E2 hi;rw[nC hr,decide_eq_true_eq] at ht;rw[nD hr] at hv;exact (_,EQ hi,ht.1,ht.2,hv)
 ·rintro ⟨a,ha,h1,h2,h3⟩;obtain ⟨i,hi⟩:=Eg.mp ha;exists i,((E6.mp hi).1,?_)
  ·rw[nC hi];exact decide_eq_true (h1,h2)
  ·rw[nD hi];exact h3
theorem vO {A:List Rn} {p q:Int} (h:xz A p q= []):d0 A p q=none:=uj λa ha z=>by
 have:=nE.mpr ⟨a,ha,z.1,z.2,rfl⟩;rw[h] at this;cases this
theorem vP {A:List Rn} {p q m:Int} (h1:m∈xz A p q) (h2:∀z∈xz A p q,z<=m):d0 A p q=some m:=
 uk (nE.mp h1) λa ha a1 a2=>h2 _ (nE.mpr ⟨a,ha,a1,a2,rfl⟩)
noncomputable def gS (A:List Rn) (c:List Int):Option Int:=if c= [] then none else dh A (c++c.take 1)
noncomputable def oV:Option Int->V
 |none=> .non
 |some g=> .int g
theorem xA (o:Option Int) (g:Int):(o.map V.int).getD (.int g)= .int (o.getD g):=by cases o<;>rfl
abbrev vQ (H:Hp) (l:Addr) (A:List Rn):Prop:=bq H l (A.map rk)
def uo (kvs:List (List Key×V)) (A:List Rn):Prop:=∀p q:Int,fr kvs [.inl p,.inl q]=(d0 A p q).map V.int
theorem uo.put {kvs:List (List Key×V)} {A:List Rn} {i:Nat} {r:Rn} (h:uo kvs (A.take i)) (hr:A[i]?=some r):uo (putK kvs [.inl r.1,.inl r.2.1] (.int (nB (d0 (A.take i) r.1 r.2.1) r.2.2))) (A.take (i+1)):=by
 intro p q;rw[u3,um hr];unfold ui
 by_cases c:r.1=p/\r.2.1=q
 ·obtain ⟨rfl,rfl⟩:=c;rw[if_pos rfl,if_pos ⟨rfl,rfl⟩]
  rfl
 ·rw[if_neg c,if_neg (λz=>c (by injection z with z1 z2;injection z1 with z1;injection z2 with z2;injection z2 with z2;exact ⟨z1.symm,z2.symm⟩))]
  exact h p q
def nH:Sp:=λvs H Q _=>∃(l:Addr) (A:List Rn),vs= [.ref l]/\vQ H l A/\A.length<=700/\∀(d:Addr) (kvs:List (List Key×V)) (H':Hp),aE H H'->H d=none->H' d=some (.dT kvs)->uo kvs A->Q (.ref d) H'
def yb:Sp:=λvs H Q _=>∃(l:Addr) (A:List Rn) (p q:Int),vs= [.ref l,.int p,.int q]/\vQ H l A/\A.length<=700/\∀H',aE H H'->Q (oV (d0 A p q)) H'
def md:Sp:=λvs H Q _=>∃(l c:Addr) (A:List Rn) (C:List Int),vs= [.ref l,.ref c]/\vQ H l A/\A.length<=700/\H c=some (.lst (C.map V.int))/\C.length<=700/\∀H',aE H H'->Q (oV (dh A C)) H'
def sy:Sp:=λvs H Q _=>∃(l c:Addr) (A:List Rn) (C:List Int),vs= [.ref l,.ref c]/\vQ H l A/\A.length<=700/\H c=some (.lst (C.map V.int))/\C.length<=690/\∀H',aE H H'->Q (oV (gS A C)) H'
theorem jY (x:Int) (c:List Int):qd (.int x) (c.map V.int)=decide (x∈c):=by
 unfold qd;rw[F4];simp[wC]
end Sw
namespace L2
open PySem PySem.Spec PyProof.Rows XH Sw Hm
variable {X:Cx}
theorem dR (hc:X.calm=true):du X (.builtin "min") (λxs H Q=>∃(a:Addr) (ns:List Int),xs= [.ref a]/\aD X.K H a (ns.map V.int)/\ns≠ []/\∀M:Int,M∈ns->(∀z∈ns,M<=z)->Q (.int M) H):=by
 intro pins s σ H xs us Q I r h;obtain ⟨a,ns,rfl,h1,hne,q⟩:=h;obtain ⟨u,rfl,r1⟩:=vals1 r;cases r1;obtain ⟨its,rv,p,hz⟩:=I.list h1;have hi:=i6 rv;obtain ⟨xs,e⟩:=hi.allInts.items;have lst:xs.toList.map (·.1)=ns:=by
  rw[<-hi.numsOf,<-nums_intItems xs,<-e]
 have len:ns.length=xs.size:=by rw[<-lst,E1,Ep]
 have pos:0<xs.size:=len▸FU.mpr hne;refine min_intList (I.ok.hd hc) (xs:=xs) (by have z:=p.isList;rw[e] at z;exact z) pos λv h' tk hv hk=>?_
 obtain ⟨t,rfl⟩:=intItems_at hv;have best:=argBest_lt (numAt xs) (xs.size-1);refine (.int _,H,I.kept (h':=h') (t':=tk) hk,⟨ν⟩,q _ ?_ λz hz=>?_)
 ·have m:=best.1;rw[<-lst,numAt_eq];refine getD_mem ?_;rw[lst,len]
  lia
 ·rw[<-lst] at hz;obtain ⟨j,hj,rfl⟩:=mem_getD hz;rw[lst,len] at hj;have m:=best.2 j (by lia)
  rw[<-numAt_eq];exact m
theorem fW (hc:X.calm=true):du X (.builtin "sum") (λxs H Q=>∃(a:Addr) (ns:List Int),xs= [.ref a]/\aD X.K H a (ns.map V.int)/\Q (.int ns.sum) H):=by
 intro pins s σ H xs us Q I r h;obtain ⟨a,ns,rfl,h1,q⟩:=h;obtain ⟨u,rfl,r1⟩:=vals1 r;cases r1;obtain ⟨its,rv,p,hz⟩:=I.list h1;have hi:=i6 rv;obtain ⟨xs,e⟩:=hi.allInts.items;have lst:xs.toList.map (·.1)=ns:=by
  rw[<-hi.numsOf,<-nums_intItems xs,<-e]
 refine sum_intListG (I.ok.hd hc) (xs:=xs) (by have z:=p.isList;rw[e] at z;exact z) λh' tk t hk=>?_
 refine (.int ns.sum,H,I.kept (h':=h') (t':=tk) hk,(t,?_),q);rw[preSum_eq,Fl 147,lst]
def vR (K:E5) (te:TE):TE:=λσ H Q=>te σ H λx H1=>∃(a:Addr) (xs:List Int),x= .ref a/\aD K H1 a (xs.map V.int)/\xs.length<4000/\Q (.int (xs.foldl insI []).length) H1
section
variable {e:Expr} {te:TE} {p1 p2 pos pos2:Pos}
theorem iK (hc:X.calm=true) (g1:Gl X "len") (m1:X.mg "len" =none) (g2:Gl X "set") (m2:X.mg "set" =none) (b1:bootBuiltins "len" =some (.builtin "len")) (b2:bootBuiltins "set" =some (.type "set")) (he:PE X e te)
  (hs:starEach [e] X.env= [(false,eval e X.env)]:=by rfl):
  PE X (.Call (.Name "len" p1) [.Call (.Name "set" p2) [e] [] pos2] [] pos) (vR X.K te):=by
 intro pins s σ H Q I h;apply wpAny_Call_Name_kw;refine dI I g1 m1 b1 ?_ 118 118
 refine Calls.callWith_builtin rfl (Calls.evalArgs_plain ?_);refine Calls.spliced_cons (x:=eval (.Call (.Name "set" p2) [e] [] pos2) X.env) (rest:= []) ?_;apply wpAny_Call_Name_kw;refine dI I g2 m2 b2 ?_ 118 118
 refine Er ?_ hs rfl;rw[hs];refine Calls.spliced_cons (x:=eval e X.env) (rest:= []) (bG (he pins s σ H _ I h) λv s1 (x,H1,I1,r1,a,xs,ex,hq,few,q)=>?_)
 subst ex;cases r1;apply Calls.spliced_nil;obtain ⟨its,rv,pl,hz⟩:=I1.list hq;have sz:its.toArray.size=xs.length:=by rw[EN,<-rv.length,E1]
 have hli:s1.heap.IsList a its.toArray:=pl.isList;refine ue (xs:=xs) (I.ok.hd hc) hli (λi v hv=>oS rv i v (by simpa using hv)) sz (by rw[sz];show xs.length+1<4096;lia) λh' tk S2 kp=>?_
 apply Calls.spliced_nil;obtain ⟨o,es,ep,t,ho,hx,hd,_,hp,hb,hf,_⟩:=S2;have ln:es.size=(xs.foldl insI []).length:=by
  have:=hp.length_eq;rw[E1,Ep] at this;rw[this];unfold qP;rw[sz,ES]
 refine call_len_set ho hx hd hf (by have:es.size<4096:=hb;lia) ?_
 exact (.int (xs.foldl insI []).length,H1,I1.kept (λb o e=>kp b o (Heap.lt_size e) e),(_,by rw[ln]),q)
end
end L2
namespace Sw
open PySem L2 XH Hm
theorem nJ {xs:List Int}:∀{ys:List Int},(ys++xs).Nodup->xs.foldl insI ys=ys++xs:=by
 induction xs with
 |nil=>intro ys _;simp
 |cons x xs ih=>
  intro ys h;rw[List.foldl_cons];have hx:x∉ys:=by
   rw[Fe] at h;exact λhm=>h.2.2 x hm x Ej rfl
  have e:insI ys x=ys++ [x]:=if_neg hx;rw[e,ih (by simpa using h)]
  simp
theorem nK {xs:List Int}:∀{ys:List Int},ys.Nodup->¬(ys++xs).Nodup->(xs.foldl insI ys).length<ys.length+xs.length:=by
 induction xs with
 |nil=>intro ys h1 h2;simp at h2;exact absurd h1 h2
 |cons x xs ih=>
  intro ys h1 h2;rw[List.foldl_cons,ER]
  by_cases hx:x∈ys
  ·have e:insI ys x=ys:=if_pos hx;rw[e];have:=iA xs ys
   lia
  ·have e:insI ys x=ys++ [x]:=if_neg hx;rw[e];have:=ih (ys:=ys++ [x]) (by rw[Fe];exact ⟨h1,by simp,λa ha b hb z=>by simp at hb;subst hb;exact hx (z▸ha)⟩) (by simpa using h2)
   simp at this⊢
   lia
theorem iL (xs:List Int):decide (V.int ((xs.foldl insI []).length:Nat)=V.int (xs.length:Nat))=decide xs.Nodup:=by
 by_cases h:xs.Nodup
 ·rw[decide_eq_true h,decide_eq_true];rw[nJ (ys:= []) (by simpa using h)]
  rfl
 ·rw[decide_eq_false h,decide_eq_false];intro e;injection e with e
  have:=nK (xs:=xs) (ys:= []) List.nodup_nil (by simpa using h)
  simp at this
  lia
abbrev Pk:=List (Option Nat)
noncomputable def gy:Option Nat->V
 |none=> .non
 |some j=> .int (j:Int)
def eV (H:Hp) (t:Addr) (P:Pk) (O:List Ky):Prop:=∃pl ol:Addr,H t=some (.tup [.ref pl,.ref ol])/\H pl=some (.lst (P.map gy))/\bq H ol O
theorem eV.same {H H':Hp} {t:Addr} {P:Pk} {O:List Ky} (h:eV H t P O) (g:aE H H'):eV H' t P O:=by
 obtain ⟨pl,ol,a,b,c⟩:=h;exact (pl,ol,g _ _ a,g _ _ b,c.same g)
theorem eV.sq {H H':Hp} {t:Addr} {P:Pk} {O:List Ky} (h:eV H t P O) (g:∀a o,uf o=true->H a=some o->H' a=some o):eV H' t P O:=by
 obtain ⟨pl,ol,a,b,c⟩:=h;exact (pl,ol,g _ _ rfl a,g _ _ rfl b,c.sq g)
structure pi (T:Tk) (P:Pk):Prop where
 len:P.length=T.length
 pick:∀(i j:Nat) (ws:List Wy),P[i]?=some (some j)->T[i]?=some ws->j<ws.length
noncomputable def bi (T:Tk) (P:Pk) (i:Nat):List Wy:=match P.getD i none with
 |none=>T.getD i []
 |some j=> [(T.getD i []).getD j (0,0,[])]
noncomputable def gU:List Int->Int
 | []=>0
 | [x]=>x
 |x::y::r=>if x<=gU (y::r) then x else gU (y::r)
theorem me:∀{l:List Int},l≠ []->gU l∈l/\∀z∈l,gU l<=z
 | [],h=>absurd rfl h
 | [x],_=>by simp[gU]
 |x::y::r,_=>by
  have ih:=me (l:=y::r) nofun;unfold gU
  by_cases c:x<=gU (y::r)
  ·rw[if_pos c];refine (Ej,λz hz=>?_)
   rcases EI.mp hz with e|e
   ·rw[e];exact Int.le_refl _
   ·have:=ih.2 z e
    lia
  ·rw[if_neg c];refine (EZ _ ih.1,λz hz=>?_)
   rcases EI.mp hz with e|e
   ·rw[e];lia
   ·exact ih.2 z e
theorem eR {l:List Int} {m:Int} (hm:m∈l) (h:∀z∈l,m<=z):m=gU l:=by
 have hne:l≠ []:=λe=>by rw[e] at hm;cases hm
 obtain ⟨a,b⟩:=me hne;have:=h _ a;have:=b _ hm
 lia
noncomputable def gW (T:Tk) (P:Pk) (i:Nat) (z:Str):Int:=gU ((bi T P i).map λw=>dB w z)
noncomputable def dS (T:Tk) (P:Pk) (i:Nat) (z:Str):Int:=gU ((bi T P i).map λw=>w.1*dB w z)
noncomputable def cE (v w:Wy):Bool:=v.2.2.any λu=>match qT w u.1 with
 |some x=> !decide (x.2.2=u.2.2)
 |none=>false
noncomputable def cx (T:Tk) (P:Pk) (i j:Nat):Bool:=(bi T P i).all λv=>(bi T P j).all λw=>cE v w
theorem ig {D:Tl} {T:Tk} {P:Pk} {i:Nat} (hT:∀ws∈T,kZ D ws) (il:i<T.length):bi T P i≠ []:=by
 unfold bi;cases P.getD i none with
 |none=>
  rw[bf (E2 il)];have:=(hT _ (EQ il)).1;intro (e:T[i]= []);rw[e] at this;simp at this
 |some j=>exact nofun
theorem fB {D:Tl} {T:Tk} {P:Pk} {i:Nat} (hT:∀ws∈T,kZ D ws) (il:i<T.length):(bi T P i).length<=2:=by
 unfold bi;cases P.getD i none with
 |none=>
  rw[bf (E2 il)];exact (hT _ (EQ il)).2.1
 |some j=>exact Nat.le_of_ble_eq_true rfl
theorem jZ {D:Tl} {T:Tk} {P:Pk} {i:Nat} (hT:∀ws∈T,kZ D ws) (pk:pi T P) (il:i<T.length):∀w∈bi T P i,∃ws∈T,w∈ws:=by
 intro w hw;unfold bi at hw;have hTi:=E2 il;have hPi:=E2 (show i<P.length by rw[pk.len];exact il)
 rw[bf hTi,bf hPi] at hw;cases hp:P[i]'(by rw[pk.len];exact il) with
 |none=>
  rw[hp] at hw;exact (_,EQ il,hw)
 |some j=>
  rw[hp] at hw hPi;have jl:=pk.pick i j _ hPi hTi;replace hw:w∈ [(T[i]).getD j (0,0,[])]:=hw;rw[bf (E2 jl),EA] at hw;rw[hw];exact (_,EQ il,EQ jl)
section
variable (C:Addr)
structure kz (f:Bool) (H:Hp) (x t:Addr) (D:Tl) (T:Tk) (A B:List Ky) (n:Int) (P:Pk) (O:List Ky):Prop where
 net:fN C f H x D T A B n
 case_:eV H t P O
 ok:gw D T A B n
 pk:pi T P
def cQ (f:Bool) (H:Hp) (x t:Addr) (Q:Tl->Tk->List Ky->List Ky->Int->Pk->List Ky->Prop):Prop:=∃(D:Tl) (T:Tk) (A B:List Ky) (n:Int) (P:Pk) (O:List Ky),kz C f H x t D T A B n P O/\Q D T A B n P O
def fX:Sp:=λvs H Q _=>∃(v:V) (z:Str) (w:Wy),vs= [v,.str z]/\iu An H v w/\Q (.int (dB w z)) H
def pj:Sp:=λvs H Q _=>∃(v v':V) (w w':Wy),vs= [v,v']/\iu An H v w/\iu An H v' w'/\Q (.bl (cE w w')) H
def kA:Sp:=λvs H Q _=>∃(x t:Addr) (i:Nat),vs= [.ref x,.ref t,.int i]/\cQ C true H x t λD T A B n P O=>i<T.length/\∀(p:Addr) (H':Hp),aE H H'->H p=none->cA iu An H' p (bi T P i)->Q (.ref p) H'
def nL (F:Tk->Pk->Nat->Str->Int):Sp:=λvs H Q _=>∃(x t:Addr) (i:Nat) (z:Str),vs= [.ref x,.ref t,.int i,.str z]/\cQ C true H x t λD T A B n P O=>i<T.length/\∀H':Hp,aE H H'->Q (.int (F T P i z)) H'
def pp:Sp:=λvs H Q _=>∃(x t:Addr) (i j:Nat),vs= [.ref x,.ref t,.int i,.int j]/\cQ C true H x t λD T A B n P O=>i<T.length/\j<T.length/\∀H':Hp,aE H H'->Q (.bl (cx T P i j)) H'
end
theorem kz.same {C:Addr} {f:Bool} {H H':Hp} {x t:Addr} {D:Tl} {T:Tk} {A B:List Ky} {n:Int} {P:Pk} {O:List Ky} (h:kz C f H x t D T A B n P O) (g:aE H H'):kz C f H' x t D T A B n P O:=⟨h.net.same g,h.case_.same g,h.ok,h.pk⟩
theorem kz.any {C:Addr} {f:Bool} {H:Hp} {x t:Addr} {D:Tl} {T:Tk} {A B:List Ky} {n:Int} {P:Pk} {O:List Ky} (h:kz C f H x t D T A B n P O):kz C true H x t D T A B n P O:=⟨h.net.any,h.case_,h.ok,h.pk⟩
theorem kz.walk {C:Addr} {H:Hp} {x t:Addr} {D:Tl} {T:Tk} {A B:List Ky} {n:Int} {P:Pk} {O:List Ky} {d:Addr} {kvs:List (Key×V)} {o:Obj} (h:kz C true H x t D T A B n P O) (e:H d=some 149):kz C true (aH H d (.frz o 149)) x t D T A B n P O:=⟨h.net.walk e,h.case_.sq (jA e),h.ok,h.pk⟩
noncomputable def bP (B:List Ky) (S:List Int):Bool:=B.any λk=>decide (k.getD 0 0∈S)&&decide (k.getD 1 0∈S)
noncomputable def dM (T:Tk) (P:Pk):List Int->Bool
 | []=>false
 |i::r=>(r.any λj=>cx T P i.toNat j.toNat)||dM T P r
noncomputable def gX (D:Tl) (T:Tk) (P:Pk) (S:List Int):Bool:=D.any λp=>decide (p.2<(S.map λi=>gW T P i.toNat p.1).sum)
noncomputable def bu (T:Tk) (S:List Int):Bool:=S.all (λi=>decide (0<=i)&&decide (i<120))&&decide S.Nodup
noncomputable def b7 (D:Tl) (T:Tk) (B:List Ky) (P:Pk) (S:List Int):Bool:=(bu T S&&decide (2<=S.length))&&(bP B S||(dM T P S||gX D T P S))
theorem eK {T:Tk} {S:List Int} (h:bu T S=true):(∀i∈S,0<=i/\i<120)/\S.Nodup:=by
 unfold bu at h;rw[EK,decide_eq_true_eq,ED] at h;refine (λi hi=>?_,h.2)
 have:=h.1 i hi;rw[EK,decide_eq_true_eq,decide_eq_true_eq] at this;exact this
section
variable (C:Addr)
def mh:Sp:=λvs H Q _=>∃(x l:Addr) (S:List Int) (f:Bool) (D:Tl) (T:Tk) (A B:List Ky) (n:Int),vs= [.ref x,.ref l]/\fN C f H x D T A B n/\T.length<=24/\H l=some (.lst (S.map V.int))/\S.length<=1000/\Q (.bl (bu T S)) H
def sA:Sp:=λvs H Q _=>∃(x l:Addr) (S:List Int) (f:Bool) (D:Tl) (T:Tk) (A B:List Ky) (n:Int),vs= [.ref x,.ref l]/\fN C f H x D T A B n/\(∀k∈B,∃p q:Int,k= [p,q])/\H l=some (.lst (S.map V.int))/\Q (.bl (bP B S)) H
def sB:Sp:=λvs H Q _=>∃(x t l:Addr) (S:List Int),vs= [.ref x,.ref t,.ref l]/\H l=some (.lst (S.map V.int))/\S.length<=1000/\cQ C true H x t λD T A B n P O=>(∀i∈S,0<=i/\i<120)/\∀H',aE H H'->Q (.bl (dM T P S)) H'
def vS:Sp:=λvs H Q _=>∃(x t l:Addr) (S:List Int),vs= [.ref x,.ref t,.ref l]/\H l=some (.lst (S.map V.int))/\S.length<=1000/\cQ C false H x t λD T A B n P O=>(∀i∈S,0<=i/\i<120)/\∀H',aE H H'->Q (.bl (gX D T P S)) H'
def sC:Sp:=λvs H Q _=>∃(x t l:Addr) (S:List Int),vs= [.ref x,.ref t,.ref l]/\H l=some (.lst (S.map V.int))/\S.length<=1000/\cQ C false H x t λD T A B n P O=>∀H',aE H H'->Q (.bl (b7 D T B P S)) H'
end
theorem qV {x:Int} {c:List Int} {A B:Prop} (h1:x∈c->A) (h2:x∉c->B):if (if false=true then !qd (.int x) (c.map V.int) else qd (.int x) (c.map V.int))=true then A else B:=by
 rw[if_neg (show ¬(false=true) by decide),jY]
 exact d2 h1 h2
theorem iB (c:List Int):(c.map V.int).all gM=true:=by
 rw[ED];intro y hy;obtain ⟨i,_,rfl⟩:=EO.mp hy
 rfl
end Sw
theorem av {A B:Type} {p:A->B->Prop} (a:A) (b:B) (h:p a b):∃a b,p a b:=⟨a,b,h⟩
theorem bU {A B C:Type} {p:A->B->C->Prop} (a:A) (b:B) (c:C) (h:p a b c):∃a b c,p a b c:=⟨a,b,c,h⟩
theorem aJ {A B C D:Type} {p:A->B->C->D->Prop} (a:A) (b:B) (c:C) (d:D) (h:p a b c d):∃a b c d,p a b c d:=⟨a,b,c,d,h⟩
theorem fE {A B C D E F:Type} {p:A->B->C->D->E->F->Prop} (a:A) (b:B) (c:C) (d:D) (e:E) (f:F) (h:p a b c d e f):∃a b c d e f,p a b c d e f:=⟨a,b,c,d,e,f,h⟩
theorem iQ {A B C D E F H I J:Type} {p:A->B->C->D->E->F->H->I->J->Prop} (a:A) (b:B) (c:C) (d:D) (e:E) (f:F) (g:H) (i:I) (j:J) (h:p a b c d e f g i j):∃a b c d e f g i j,p a b c d e f g i j:=⟨a,b,c,d,e,f,g,i,j,h⟩
theorem eI {A:Type} {p:A->Prop} {G:Prop}:(∃a,p a)->(∀a,p a->G)->G
 |⟨a,h⟩,k=>k a h
theorem pw {A B:Type} {p:A->B->Prop} {G:Prop}:(∃a b,p a b)->(∀a b,p a b->G)->G
 |⟨a,b,h⟩,k=>k a b h
theorem kB {A B C:Type} {p:A->B->C->Prop} {G:Prop}:(∃a b c,p a b c)->(∀a b c,p a b c->G)->G
 |⟨a,b,c,h⟩,k=>k a b c h
theorem gA {A B C D:Type} {p:A->B->C->D->Prop} {G:Prop}:(∃a b c d,p a b c d)->(∀a b c d,p a b c d->G)->G
 |⟨a,b,c,d,h⟩,k=>k a b c d h
theorem gi {A B C D E F:Type} {p:A->B->C->D->E->F->Prop} {G:Prop}:(∃a b c d e f,p a b c d e f)->(∀a b c d e f,p a b c d e f->G)->G
 |⟨a,b,c,d,e,f,h⟩,k=>k a b c d e f h
theorem nM {A B C D E F H I J:Type} {p:A->B->C->D->E->F->H->I->J->Prop} {G:Prop}:(∃a b c d e f g i j,p a b c d e f g i j)->(∀a b c d e f g i j,p a b c d e f g i j->G)->G
 |⟨a,b,c,d,e,f,g,i,j,h⟩,k=>k a b c d e f g i j h
theorem dk {A B G:Prop} (h:A/\B) (k:A->B->G):G:=k h.1 h.2
theorem iC {A B C G:Prop} (h:A/\B/\C) (k:A->B->C->G):G:=k h.1 h.2.1 h.2.2
theorem eX {A B C D G:Prop} (h:A/\B/\C/\D) (k:A->B->C->D->G):G:=k h.1 h.2.1 h.2.2.1 h.2.2.2
theorem gB {A B C D E F G:Prop} (h:A/\B/\C/\D/\E/\F) (k:A->B->C->D->E->F->G):G:=k h.1 h.2.1 h.2.2.1 h.2.2.2.1 h.2.2.2.2.1 h.2.2.2.2.2
theorem qe {A B C D E F H I J G:Prop} (h:A/\B/\C/\D/\E/\F/\H/\I/\J) (k:A->B->C->D->E->F->H->I->J->G):G:=k h.1 h.2.1 h.2.2.1 h.2.2.2.1 h.2.2.2.2.1 h.2.2.2.2.2.1 h.2.2.2.2.2.2.1 h.2.2.2.2.2.2.2.1 h.2.2.2.2.2.2.2.2
namespace Sw
open PySem L2
theorem jR {a1 a2:TS} {D:Ends} {σ:L2.St} {H:Hp} (h:let D':=D;let r1:TS:=a2;aO a1 r1 D' σ H):aO a1 a2 D σ H:=h
theorem lt3 {a1 a2 a3:TS} {D:Ends} {σ:L2.St} {H:Hp} (h:let D':=D;let r2:TS:=a3;let r1:TS:=aO a2 r2;aO a1 r1 D' σ H):aO a1 (aO a2 a3) D σ H:=h
theorem yQ {a1 a2 a3 a4:TS} {D:Ends} {σ:L2.St} {H:Hp} (h:let D':=D;let r3:TS:=a4;let r2:TS:=aO a3 r3;let r1:TS:=aO a2 r2;aO a1 r1 D' σ H):aO a1 (aO a2 (aO a3 a4)) D σ H:=h
theorem DL {a1 a2 a3 a4 a5:TS} {D:Ends} {σ:L2.St} {H:Hp} (h:let D':=D;let r4:TS:=a5;let r3:TS:=aO a4 r4;let r2:TS:=aO a3 r3;let r1:TS:=aO a2 r2;aO a1 r1 D' σ H):aO a1 (aO a2 (aO a3 (aO a4 a5))) D σ H:=h
theorem D5 {a1 a2 a3 a4 a5 a6:TS} {D:Ends} {σ:L2.St} {H:Hp} (h:let D':=D;let r5:TS:=a6;let r4:TS:=aO a5 r5;let r3:TS:=aO a4 r4;let r2:TS:=aO a3 r3;let r1:TS:=aO a2 r2;aO a1 r1 D' σ H):aO a1 (aO a2 (aO a3 (aO a4 (aO a5 a6)))) D σ H:=h
theorem D6 {a1 a2 a3 a4 a5 a6 a7:TS} {D:Ends} {σ:L2.St} {H:Hp} (h:let D':=D;let r6:TS:=a7;let r5:TS:=aO a6 r6;let r4:TS:=aO a5 r5;let r3:TS:=aO a4 r4;let r2:TS:=aO a3 r3;let r1:TS:=aO a2 r2;aO a1 r1 D' σ H):aO a1 (aO a2 (aO a3 (aO a4 (aO a5 (aO a6 a7))))) D σ H:=h
theorem CC {a1 a2 a3 a4 a5 a6 a7 a8:TS} {D:Ends} {σ:L2.St} {H:Hp} (h:let D':=D;let r7:TS:=a8;let r6:TS:=aO a7 r7;let r5:TS:=aO a6 r6;let r4:TS:=aO a5 r5;let r3:TS:=aO a4 r4;let r2:TS:=aO a3 r3;let r1:TS:=aO a2 r2;aO a1 r1 D' σ H):aO a1 (aO a2 (aO a3 (aO a4 (aO a5 (aO a6 (aO a7 a8)))))) D σ H:=h
theorem Dj {a1 a2 a3 a4 a5 a6 a7 a8 a9 a10:TS} {D:Ends} {σ:L2.St} {H:Hp} (h:let D':=D;let r9:TS:=a10;let r8:TS:=aO a9 r9;let r7:TS:=aO a8 r8;let r6:TS:=aO a7 r7;let r5:TS:=aO a6 r6;let r4:TS:=aO a5 r5;let r3:TS:=aO a4 r4;let r2:TS:=aO a3 r3;let r1:TS:=aO a2 r2;aO a1 r1 D' σ H):aO a1 (aO a2 (aO a3 (aO a4 (aO a5 (aO a6 (aO a7 (aO a8 (aO a9 a10)))))))) D σ H:=h
theorem A9 {a1 a2 a3 a4 a5 a6 a7 a8 a9 a10 a11 a12:TS} {D:Ends} {σ:L2.St} {H:Hp} (h:let D':=D;let r11:TS:=a12;let r10:TS:=aO a11 r11;let r9:TS:=aO a10 r10;let r8:TS:=aO a9 r9;let r7:TS:=aO a8 r8;let r6:TS:=aO a7 r7;let r5:TS:=aO a6 r6;let r4:TS:=aO a5 r5;let r3:TS:=aO a4 r4;let r2:TS:=aO a3 r3;let r1:TS:=aO a2 r2;aO a1 r1 D' σ H):aO a1 (aO a2 (aO a3 (aO a4 (aO a5 (aO a6 (aO a7 (aO a8 (aO a9 (aO a10 (aO a11 a12)))))))))) D σ H:=h
theorem Dk {a1 a2 a3 a4 a5 a6 a7 a8 a9 a10 a11 a12 a13 a14:TS} {D:Ends} {σ:L2.St} {H:Hp} (h:let D':=D;let r13:TS:=a14;let r12:TS:=aO a13 r13;let r11:TS:=aO a12 r12;let r10:TS:=aO a11 r11;let r9:TS:=aO a10 r10;let r8:TS:=aO a9 r9;let r7:TS:=aO a8 r8;let r6:TS:=aO a7 r7;let r5:TS:=aO a6 r6;let r4:TS:=aO a5 r5;let r3:TS:=aO a4 r4;let r2:TS:=aO a3 r3;let r1:TS:=aO a2 r2;aO a1 r1 D' σ H):aO a1 (aO a2 (aO a3 (aO a4 (aO a5 (aO a6 (aO a7 (aO a8 (aO a9 (aO a10 (aO a11 (aO a12 (aO a13 a14)))))))))))) D σ H:=h
end Sw
namespace L2
open PySem PySem.Spec PyProof.Rows XH Sw
structure CD (H:Hp) (l:Addr) (ps:List (Int×Int)):Prop where
 ex:∃as:GR,as.length=ps.length/\H l=some (.lst (as.map V.ref))/\∀(i:Nat) (a:Addr) (p:Int×Int),as[i]?=some a->ps[i]?=some p->H a=some (.tup [.int p.1,.int p.2])
variable {X:Cx} {pins:GP} {σ:St} {H:Hp} {s:Shared}
theorem vT (I:aQ X pins σ H s) {A:Around} (hu:A.units<cLine) {t t':Addr} {a b c d:Int} (e:H t=some (.tup [.int a,.int b])) (e':H t'=some (.tup [.int c,.int d])):SeqAt.EqAt A s (.ref t) (.ref t') (decide (a=c/\b=d)):=by
 by_cases z:t=t'
 ·subst z;rw[e] at e';injection e' with e'
  injection e' with e'
  injection e' with h1 h2
  injection h2 with h2 _
  injection h1 with h1
  injection h2 with h2
  rw[decide_eq_true ⟨h1,h2⟩];exact SeqAt.EqAt.same _
 refine SeqAt.EqAt.of_refs z ?_;obtain ⟨i1,v1,p1,_⟩:=I.tuple (be.of e);obtain ⟨i2,v2,p2,_⟩:=I.tuple (be.of e');cases v1 with
 |cons r1 v1=>
  cases v1 with
  |cons r2 v1=>
   cases v1;cases v2 with
   |cons r3 v2=>
    cases v2 with
    |cons r4 v2=>
     cases v2;obtain ⟨t1,rfl⟩:=r1;obtain ⟨t2,rfl⟩:=r2;obtain ⟨t3,rfl⟩:=r3;obtain ⟨t4,rfl⟩:=r4;have q:=SeqAt.RcAt.tuples (A:=A) (e:=λj=>if j=0 then decide (a=c) else decide (b=d)) p1 p2 hu λj g1 g2=>by
      have g1':j<2:=g1;rcases (show j=0∨j=1 by lia) with rfl|rfl
      ·exact SeqAt.EqAt.int_int (A:=A.in1) (s:=s) a t1 c t3
      ·exact SeqAt.EqAt.int_int (A:=A.in1) (s:=s) b t2 d t4
     have es:((EY (min (List.toArray [Value.int a t1,.int b t2]).size (List.toArray [Value.int c t3,.int d t4]).size)).all (λj=>if j=0 then decide (a=c) else decide (b=d))&&((List.toArray [Value.int a t1,.int b t2]).size==(List.toArray [Value.int c t3,.int d t4]).size))=decide (a=c/\b=d):=by
      show ((decide (a=c)&&(decide (b=d)&&true))&&true)=_;simp
     rw[es] at q;exact q
noncomputable def uq (H:Hp) (a b:Int):Value->Bool
 | .ref r=>match H r with
  |some (.tup [.int c,.int d])=>decide (c=a/\d=b)
  |_=>false
 |_=>false
theorem sD {a b c d:Int} {r:Addr} (e:H r=some (.tup [.int c,.int d])):uq H a b (.ref r)=decide (c=a/\d=b):=by
 show (match H r with|some (.tup [.int c,.int d])=>decide (c=a/\d=b)|_=>false)=_
 rw[e]
theorem pA {a b:Int}:∀{as:GR} {ps:List (Int×Int)},as.length=ps.length->(∀(i:Nat) (r:Addr) (p:Int×Int),as[i]?=some r->ps[i]?=some p->H r=some (.tup [.int p.1,.int p.2]))->(as.map Value.ref).any (uq H a b)=decide ((a,b)∈ps)
 | [],[],_,_=>by simp
 |r::as,p::ps,l,h=>by
  rw[F8,F5,sD (h 0 r p rfl rfl),pA (by simpa using l) λi r' p' e1 e2=>h (i+1) r' p' e1 e2]
  obtain ⟨p1,p2⟩:=p;rw[F4];simp only[Bool.or_eq_true,decide_eq_true_eq,EI,Prod.mk.injEq];constructor
  ·rintro (⟨h1,h2⟩|h)
   ·exact .inl (h1.symm,h2.symm)
   ·exact .inr h
  ·rintro (⟨h1,h2⟩|h)
   ·exact .inl (h1.symm,h2.symm)
   ·exact .inr h
 | [],_::_,l,_=>by simp at l
 |_::_,[],l,_=>by simp at l
theorem Ba (I:aQ X pins σ H s) {A:Around} (hu:A.units<cLine) {t:Addr} {a b:Int} {as:GR} {ps:List (Int×Int)} (et:H t=some (.tup [.int a,.int b])) (al:as.length=ps.length) (ep:∀(i:Nat) (r:Addr) (p:Int×Int),as[i]?=some r->ps[i]?=some p->H r=some (.tup [.int p.1,.int p.2])):∀w∈(as.map Value.ref).toArray,SeqAt.EqAt A s w (.ref t) (uq H a b w):=λw hw=>by
 obtain ⟨r,hr,rfl⟩:=EO.mp (by simpa using hw)
 obtain ⟨i,hi⟩:=Eg.mp hr;have il:i<ps.length:=by rw[<-al];exact (E6.mp hi).1
 have er:=ep i r _ hi (E2 il);rw[sD er];exact vT I hu er et
theorem xB {X:Cx} (hu:X.A.units+1<cLine):gJ X (compareOp .In) (λx y H Q=>∃(t l:Addr) (a b:Int) (ps:List (Int×Int)),x= .ref t/\y= .ref l/\H t=some (.tup [.int a,.int b])/\CD H l ps/\Q (.bl (decide ((a,b)∈ps))) H):=by
 intro pins s σ H x y v u Q I rx ry h;obtain ⟨t,l,a,b,ps,rfl,rfl,et,pl,q⟩:=h;obtain ⟨as,al,el,ep⟩:=pl.ex;cases rx;cases ry;obtain ⟨its,r,p,hz⟩:=I.list (aD.of el);have ei:=qU r;subst ei;refine SeqAt.in_listAt (uq H a b) p.isList (Ba I hu et al ep) (.bl _,H,I,rfl,?_);rw[show (as.map Value.ref).toArray.any (uq H a b)=(as.map Value.ref).any (uq H a b) by simp,pA al ep]
 exact q
end L2
namespace Sw
open PySem L2 XH Hm
noncomputable def bn (ps:List (Int×Int)):List Ky:=ps.map λp=> [p.1,p.2]
theorem ij {T:Tk} {P:Pk}:∀{S:List Int},dM T P S=true↔∃(a b:Nat) (i j:Int),a<b/\S[a]?=some i/\S[b]?=some j/\cx T P i.toNat j.toNat=true
 | []=>by simp[dM]
 |x::r=>by
  have ih:=ij (T:=T) (P:=P) (S:=r);unfold dM;rw[Bool.or_eq_true,ih,Ee];constructor
  ·rintro (⟨j,hj,h⟩|⟨a,b,i,j,ab,h1,h2,h3⟩)
   ·obtain ⟨k,hk⟩:=Eg.mp hj;exact (0,k+1,x,j,by lia,rfl,by simpa using hk,h)
   ·exact (a+1,b+1,i,j,by lia,by simpa using h1,by simpa using h2,h3)
  ·rintro ⟨a,b,i,j,ab,h1,h2,h3⟩;cases a with
   |zero=>
    simp at h1;subst h1;refine .inl (j,?_,h3);cases b with
    |zero=>lia
    |succ b=>exact E4 (by simpa using h2)
   |succ a=>
    cases b with
    |zero=>lia
    |succ b=>exact .inr ⟨a,b,i,j,by lia,by simpa using h1,by simpa using h2,h3⟩
theorem CD.of {H:Hp} {l:Addr} {ps:List (Int×Int)} (h:bq H l (bn ps)):CD H l ps:=by
 obtain ⟨as,e,r⟩:=h;refine (as,by rw[r.1];unfold bn;rw[E1],e,λi a p h1 h2=>?_)
 exact r.2 i a [p.1,p.2] h1 (by unfold bn;rw[EB,h2];rfl)
open PySem.NumText
theorem Lt.join:∀{ws:GQ},(∀w∈ws,Lt w)->Lt (Str.join Str.empty ws)
 | [],_=>Lt.nil
 | [x],h=>h x 147
 |x::y::r,h=>by
  have ih:=Lt.join (ws:=y::r) λw hw=>h w (EZ _ hw)
  show Lt (x++Str.empty++Str.join Str.empty (y::r));exact ((h x 147).app Lt.nil).app ih
theorem Lt.tjoin {ws:GQ} (h:∀w∈ws,Lt w):Lt (Txt.join "" ws):=by
 have:Txt.join "" ws=Str.join Str.empty ws:=StrLaws.glued_eq_join _ ws;rw[this];exact Lt.join h
theorem nN {i:Int} (h0:0<=i) (h:i<26):iP x9.cps.toList i=some (97+i.toNat):=by
 obtain ⟨n,rfl⟩:∃n:Nat,i=(n:Int):=⟨i.toNat,by lia⟩
 have hn:n<26:=by lia
 rw[ET];refine aT ?_;have e:x9.cps.toList=(EY 26).map (97+ ·):=by decide
 rw[e,EB,List.getElem?_range hn]
 rfl
theorem vU {x y:Str} {c d:Nat} (h:c≠d):x++(⟨#[c]⟩:Str)++y≠x++(⟨#[d]⟩:Str)++y:=λe=>by
 have:=congrArg sL e;rw[kh,kh,kh,kh,List.append_cancel_right_eq,List.append_cancel_left_eq] at this;replace this: [c]= [d]:=this;injection this with this
 exact h this
theorem yR {x:Str} {c:Nat}:x≠x++(⟨#[c]⟩:Str):=λe=>by
 have:=congrArg Str.length e;rw[Str.length_append] at this;have:(⟨#[c]⟩:Str).length=1:=rfl
 lia
theorem mj:∀{ws:GQ},(∀w∈ws,w.length=1)->(Str.join Str.empty ws).length=ws.length
 | [],_=>rfl
 | [x],h=>h x 147
 |x::y::r,h=>by
  have ih:=mj (ws:=y::r) λw hw=>h w (EZ _ hw)
  show (x++Str.empty++Str.join Str.empty (y::r)).length=_;rw[Str.append_empty,Str.length_append,ih,h x 147]
  simp only[ER]
  lia
theorem ur {ws:GQ} (h:∀w∈ws,w.length=1):(Txt.join "" ws).length=ws.length:=by
 have:Txt.join "" ws=Str.join Str.empty ws:=StrLaws.glued_eq_join _ ws;rw[this];exact mj h
theorem pB:∀{ws:GQ},(∀w∈ws,w.length=1)->(ws.map (λx=>x.length)).sum=ws.length
 | [],_=>rfl
 |x::r,h=>by
  rw[F8,List.sum_cons,pB λw hw=>h w (EZ _ hw),h x 147,ER]
  lia
theorem qW {γ:Type} {p:γ->Prop} {f:γ->V}:∀{vs:List V},(∀v∈vs,∃c,p c/\v=f c)->∃cs:List γ,vs=cs.map f/\∀c∈cs,p c
 | [],_=>⟨[],rfl,λc hc=>by cases hc⟩
 |v::r,h=>by
  obtain ⟨cs,e,k⟩:=qW (vs:=r) λw hw=>h w (EZ _ hw)
  obtain ⟨c,pc,e0⟩:=h v 147
  refine (c::cs,by rw[e,e0];rfl,λd hd=>?_)
  rcases EI.mp hd with z|z
  ·rw[z];exact pc
  ·exact k d z
def vV {γ:Type} (p:γ->Prop) (f:γ->V):RA Unit:=λ_ _ v _=>∃c,p c/\v=f c
instance {γ:Type} (p:γ->Prop) (f:γ->V):Mv (vV p f):=⟨λ_ h=>h⟩
theorem A2.some_of {γ:Type} {p:γ->Prop} {f:γ->V} {P:Addr->Prop} {H:Hp} {vs:List V} {us:List Unit} (h:A2 (vV p f P H) vs us):∃cs:List γ,vs=cs.map f/\cs.length=us.length/\∀c∈cs,p c:=by
 obtain ⟨cs,e,k⟩:=qW (p:=p) (f:=f) (vs:=vs) λv hv=>by
  obtain ⟨i,hi⟩:=Eg.mp hv;obtain ⟨u,_,q⟩:=h.at_ hi;exact q
 refine (cs,e,?_,k);rw[<-h.1,e,E1]
theorem vW {x:Str} {i:Int} (h:0<=i) (k:i<(x.length:Int)):(iJ x none (some i)).length+1+(iJ x (some (i+1)) none).length=x.length:=by
 rw[xw h,xx (by lia)]
 lia
theorem mn {a b:Int} (a0:0<=a) (a1:a<26) (b0:0<=b) (b1:b<25):(a+1+b).fmod 26≠a:=by
 by_cases c:a+1+b<26
 ·rw[Int.fmod_eq_of_lt (by lia) c];lia
 ·have e:(a+1+b).fmod 26=a+1+b-26:=by
   have:a+1+b=(a+1+b-26)+26*1:=by lia
   rw[this,Int.add_mul_fmod_self_left,Int.fmod_eq_of_lt (by lia) (by lia)]
   lia
  rw[e];lia
def Bb (f:Int):Prop:=f=1∨f=10000019
def jd:Sp:=λvs H Q _=>∃c k:Int,vs= [.int c,.int k]/\∀v:Int,0<=v->Q (.int v) H
def pC:Sp:=λvs H Q _=>∃c:Int,vs= [.int c]/\∀(l:Addr) (n0 n1:Str) (H':Hp),aE H H'->H' l=some (.lst [.str n0,.str n1])->Nm n0->Nm n1->n0≠n1->Q (.ref l) H'
end Sw
namespace L2
open PySem
theorem qX {X:Cx} {K:E5} (h:X.K=K) (hc:X.calm=true):du X (.builtin "min") (λxs H Q=>∃a ns,xs= [.ref a]/\aD K H a (ns.map V.int)/\ns≠ []/\∀M:Int,M∈ns->(∀z∈ns,M<=z)->Q (.int M) H):=by
 subst h;exact dR hc
theorem vX {X:Cx} {K:E5} (h:X.K=K) {tg l:Expr} {tl:TE} (hl:PE X l tl):PI X tg l (xY K tl):=by
 subst h;exact aG hl
end L2
namespace Sw
open PySem L2 XH Hm PySem.NumText
theorem xC {us:List Us} (nd:(us.map (·.1)).Nodup) {x:Us} (hx:x∈us):us.find? (λu=>decide (u.1=x.1))=some x:=by
 induction us with
 |nil=>cases hx
 |cons a r ih=>
  rw[F8,Fb] at nd;rcases EI.mp hx with h|h
  ·rw[h,FA,decide_eq_true rfl]
  ·have:a.1≠x.1:=λe=>nd.1 (by rw[e];exact List.mem_map_of_mem h)
   rw[FA,decide_eq_false this];exact ih nd.2 h
theorem gC {v w:Wy} (nd:(w.2.2.map (·.1)).Nodup):cE v w=true↔∃u∈v.2.2,∃x∈w.2.2,u.1=x.1/\u.2.2≠x.2.2:=by
 unfold cE;rw[Ee];constructor
 ·rintro ⟨u,hu,h⟩;cases e:qT w u.1 with
  |none=>rw[e] at h;cases h
  |some x=>
   rw[e] at h;obtain ⟨m,n⟩:=xv e;refine (u,hu,x,m,n.symm,λz=>?_)
   rw[z] at h;simp at h
 ·rintro ⟨u,hu,x,hx,e,ne⟩;exists u,hu;have:qT w u.1=some x:=by unfold qT;rw[e];exact xC nd hx
  rw[this];simp;exact λz=>ne z.symm
theorem jN {v w:Wy} (nv:(v.2.2.map (·.1)).Nodup) (nw:(w.2.2.map (·.1)).Nodup):cE v w=cE w v:=by
 rw[F4,gC nw,gC nv];constructor
 ·rintro ⟨u,hu,x,hx,e,ne⟩;exact (x,hx,u,hu,e.symm,λz=>ne z.symm)
 ·rintro ⟨u,hu,x,hx,e,ne⟩;exact (x,hx,u,hu,e.symm,λz=>ne z.symm)
theorem pD {T:Tk} {P:Pk} {i j:Nat} (ni:∀w∈bi T P i,(w.2.2.map (·.1)).Nodup) (nj:∀w∈bi T P j,(w.2.2.map (·.1)).Nodup):cx T P i j=cx T P j i:=by
 unfold cx;rw[F4,ED,ED];constructor
 ·intro h w hw;rw[ED];intro v hv;have:=h v hv;rw[ED] at this;rw[jN (nj w hw) (ni v hv)];exact this w hw
 ·intro h v hv;rw[ED];intro w hw;have:=h w hw;rw[ED] at this;rw[jN (ni v hv) (nj w hw)];exact this v hv
noncomputable def ca (T:Tk) (ps:List (Int×Int)) (P:Pk) (i j:Int):Bool:= !decide (V.int i=V.int j)&&(decide ((i,j)∈ps)||cx T P i.toNat j.toNat)
theorem iM {D:Tl} {T:Tk} {ps:List (Int×Int)} {P:Pk} {S:List Int} (hT:∀ws∈T,kZ D ws) (pk:pi T P) (pne:∀p∈ps,p.1≠p.2) (hS:∀i∈S,0<=i/\i<120) (nd:S.Nodup):
  (bP (bn ps) S||dM T P S)=S.any λi=>S.any λj=>ca T ps P i j:=by
 have nw:∀i∈S,∀w∈bi T P i.toNat,(w.2.2.map (·.1)).Nodup:=λi hi w hw=>by
  have:=hS i hi;obtain ⟨ws,h1,h2⟩:=jZ hT pk (show i.toNat<T.length by lia) w hw
  exact ((hT ws h1).2.2 w h2).2.2.2.1
 rw[F4,Bool.or_eq_true,Ee];constructor
 ·rintro (h|h)
  ·unfold bP bn at h;rw[Ee] at h;obtain ⟨k,hk,h⟩:=h;obtain ⟨p,hp,rfl⟩:=EO.mp hk;rw[EK,decide_eq_true_eq,decide_eq_true_eq] at h;replace h:p.1∈S/\p.2∈S:=h;exists p.1,h.1;rw[Ee];exists p.2,h.2;unfold ca;have:V.int p.1≠V.int p.2:=λe=>pne p hp (vj e)
   simp[this];exact .inl hp
  ·obtain ⟨a,b,i,j,ab,ha,hb,u⟩:=ij.mp h;exists i,E4 ha;rw[Ee];exists j,E4 hb;have:V.int i≠V.int j:=λe=>by
    have e:=vj e;rw[e] at ha;have ja:=(E6.mp ha);have jb:=(E6.mp hb);have:=(List.getElem_inj nd).mp (ja.2.trans jb.2.symm)
    lia
   unfold ca;simp[this,u]
 ·rintro ⟨i,hi,h⟩;rw[Ee] at h;obtain ⟨j,hj,h⟩:=h;unfold ca at h;rw[EK,Bool.or_eq_true,decide_eq_true_eq] at h;obtain ⟨ne,h⟩:=h;have ne':i≠j:=λe=>by rw[e] at ne;simp at ne
  rcases h with h|h
  ·left;unfold bP bn;rw[Ee];exists [i,j],EO.mpr ((i,j),h,rfl);show (decide (i∈S)&&decide (j∈S))=true;rw[decide_eq_true hi,decide_eq_true hj]
   rfl
  ·right;obtain ⟨a,ha⟩:=Eg.mp hi;obtain ⟨b,hb⟩:=Eg.mp hj;rcases Nat.lt_trichotomy a b with c|c|c
   ·exact ij.mpr (a,b,i,j,c,ha,hb,h)
   ·rw[c,hb] at ha;cases ha;exact absurd rfl ne'
   ·exact ij.mpr (b,a,j,i,c,hb,ha,by rw[pD (nw j hj) (nw i hi)];exact h)
structure fD (D:Tl) (H:Hp) (tl t:Addr) (T:Tk) (P:Pk):Prop where
 tasks:cA fG An H tl T
 cs:∃O,eV H t P O
 pk:pi T P
 ok:∀ws∈T,kZ D ws
theorem fD.same {D:Tl} {H H':Hp} {tl t:Addr} {T:Tk} {P:Pk} (h:fD D H tl t T P) (g:aE H H'):fD D H' tl t T P:=⟨h.tasks.same g,h.cs.imp λ_ c=>c.same g,h.pk,h.ok⟩
theorem fD.nd {D:Tl} {H:Hp} {tl t:Addr} {T:Tk} {P:Pk} (h:fD D H tl t T P) {i:Nat} (il:i<T.length):∀w∈bi T P i,(w.2.2.map (·.1)).Nodup:=λw hw=>by
 obtain ⟨ws,h1,h2⟩:=jZ h.ok h.pk il w hw;exact ((h.ok ws h1).2.2 w h2).2.2.2.1
def je:Sp:=λvs H Q _=>∃(tl t:Addr) (i:Nat) (D:Tl) (T:Tk) (P:Pk),vs= [.ref tl,.ref t,.int i]/\fD D H tl t T P/\i<T.length/\∀(p:Addr) (H':Hp),aE H H'->cA iu An H' p (bi T P i)->Q (.ref p) H'
def mr:Sp:=λvs H Q _=>∃(v v':V) (w w':Wy),vs= [v,v']/\iu An H v w/\iu An H v' w'/\(w'.2.2.map (·.1)).Nodup/\Q (.bl (cE w w')) H
def mw:Sp:=λvs H Q _=>∃(tl t:Addr) (i j:Nat) (D:Tl) (T:Tk) (P:Pk),vs= [.ref tl,.ref t,.int i,.int j]/\fD D H tl t T P/\i<T.length/\j<T.length/\∀H',aE H H'->Q (.bl (cx T P i j)) H'
def kC:Sp:=λvs H Q _=>∃(tp t l td tl pl:Addr) (v:V) (S:List Int) (D:Tl) (T:Tk) (P:Pk) (ps:List (Int×Int)),vs= [.ref tp,.ref t,.ref l]/\H tp=some (.tup [.ref td,.ref tl,v,.ref pl])/\H td=some (.dK (bL D))/\(D.map (·.1)).Nodup/\fD D H tl t T P/\T.length<=24/\bq H pl (bn ps)/\(∀p∈ps,p.1≠p.2)/\H l=some (.lst (S.map V.int))/\S.length<=1000/\∀H',aE H H'->Q (.bl (b7 D T (bn ps) P S)) H'
theorem yS {x:Int} (h0:0<=x) (h:x<3):∃f,iP [V.int 1,V.int 1,V.int ((10:Int)^(7:Int).toNat+19)] x=some (.int f)/\Bb f:=by
 obtain rfl|rfl|rfl:x=0∨x=1∨x=2:=by lia
 ·exact (1,rfl,.inl rfl)
 ·exact (1,rfl,.inl rfl)
 ·exact (ν,.inr 118)
end Sw
namespace L2
open PySem
end L2
namespace Sw
open PySem L2 XH Hm PySem.NumText
end Sw
namespace L2
open PySem
theorem my {X:Cx} {K:E5} (h:X.K=K):gJ X (compareOp .NotIn) (Cw K true):=by
 subst h;exact iW
end L2
namespace Sw
open PySem L2 XH Hm PySem.NumText
theorem ut (T:Tk) (P:Pk) (i:Nat) (z:Str):gU ((bi T P i).map λw=>dB w z*w.1)=dS T P i z:=by
 unfold dS
 congr 1
 apply Fj;intro w _;exact Int.mul_comm _ _
def sE (C:Addr):Sp:=λvs H Q _=>∃(x:Addr) (fz:Bool) (D:Tl) (T:Tk) (A B:List Ky) (n:Int),vs= [.ref x]/\fN C fz H x D T A B n/\T.length<=24/\∀(t:Addr) (H':Hp),aE H H'->eV H' t ((EY T.length).map λ_=>none) []->Q (.ref t) H'
noncomputable def k8 (l:List Int):Int:= -(gU (l.map λz=> -z))
theorem sF {l:List Int} {m:Int} (hm:m∈l) (h:∀z∈l,z<=m):m=k8 l:=by
 unfold k8;have:=eR (l:=l.map λz=> -z) (m:= -m) (EO.mpr ⟨m,hm,rfl⟩) λz hz=>by
  obtain ⟨y,hy,rfl⟩:=EO.mp hz;have:=h y hy
  lia
 lia
noncomputable def cU (T:Tk) (P:Pk):Nat->List Ky
 |0=> []
 |i+1=>cU T P i++ [[2*(i:Int),2*(i:Int)+1,gU ((bi T P i).map (·.1))],[2*(i:Int)+1,2*(i:Int),-(k8 ((bi T P i).map (·.2.1)))]]
theorem dj (T:Tk) (P:Pk):∀n,(cU T P n).length=2*n
 |0=>rfl
 |n+1=>by
  show (cU T P n++_).length=_;rw[E3,dj T P n];show 2*n+2=_
  lia
noncomputable def jf (O:List Ky):List Ky:=O.map λk=> [2*k.getD 0 0+1,2*k.getD 1 0,0]
noncomputable def cH (A:List Ky) (T:Tk) (P:Pk) (O:List Ky):List Ky:=A++cU T P T.length++jf O
def eM (O:List Ky):Prop:=O.length<=1000/\∀k∈O,∃p q:Int,k= [p,q]
def jg (C:Addr):Sp:=λvs H Q _=>∃(x t:Addr),vs= [.ref x,.ref t]/\cQ C true H x t λD T A B n P O=>eM O/\∀(l:Addr) (H':Hp),aE H H'->H l=none->bq H' l (cH A T P O)->Q (.ref l) H'
def qY:Sp:=λvs H Q _=>∃(al tl t:Addr) (A:List Ky) (D:Tl) (T:Tk) (P:Pk) (O:List Ky),vs= [.ref al,.ref tl,.ref t]/\bq H al A/\A.length<=1000/\cA fG An H tl T/\T.length<=24/\eV H t P O/\pi T P/\(∀ws∈T,kZ D ws)/\eM O/\∀(l:Addr) (H':Hp),aE H H'->bq H' l (cH A T P O)->Q (.ref l) H'
theorem gY {H:Hp} {p:Addr} {as bs:GR} {A B:List Ky} (ra:eE (λt k=>H t=some (.tup (k.map V.int))) as A) (rb:eE (λt k=>H t=some (.tup (k.map V.int))) bs B) (np:H p=none):bq (aH H p (.lst (as.map V.ref++bs.map V.ref))) p (A++B):=
 ⟨as++bs,by rw[ae,EU],(ra.append rb).imp λt k q=>ac np _ _ _ q⟩
theorem eE.one {R:Addr->Ky->Prop} {a:Addr} {k:Ky} (h:R a k):eE R [a] [k]:=⟨rfl,λi t y e1 e2=>by
 cases i with
 |zero=>simp at e1 e2;subst e1 e2;exact h
 |succ n=>simp at e1⟩
theorem vY {P:Addr->Prop} {H:Hp} {l:Addr} {ks:List Ky} (h:cA (ug λk:Ky=>k.map V.int) P H l ks):bq H l ks:=by
 obtain ⟨vs,e,r⟩:=h;obtain ⟨as,ea,_⟩:=qW (p:=λ_:Addr=>True) (f:=V.ref) (vs:=vs) λv hv=>by
  obtain ⟨i,hi⟩:=Eg.mp hv;obtain ⟨k,_,t,e,_⟩:=r.at_ hi;exact (t,trivial,e)
 subst ea;refine (as,e,(by rw[<-r.1,E1],λi a k e1 e2=>?_))
 obtain ⟨t,et,_,h⟩:=r.2 i (.ref a) k (by rw[EB,e1];rfl) e2
 injection et with et
 rw[et];exact h
end Sw
namespace L2
open PySem PySem.Spec PyProof.Rows XH
theorem sG:∀{bs:List Bool} {us:GS},bC (bs.map V.bl) us->∀(i:Nat) (v:Value),us[i]?=some v->v= .bool (bs.getD i true)
 | [],_,.nil,i,v,h=>by simp at h
 |b::bs,_,.cons r t,0,v,h=>by
  cases r
  simpa using h.symm
 |b::bs,_,.cons _ t,i+1,v,h=>by
  have:=sG (bs:=bs) t i v (by simpa using h)
  simpa using this
theorem xD (bs:List Bool):(EY bs.length).all (λi=>bs.getD i true)=bs.all id:=by
 rw[F4,ED,ED];constructor
 ·intro h b hb;obtain ⟨i,hi⟩:=Eg.mp hb;have:=h i (Ew.mpr (E6.mp hi).1);rw[Et,hi] at this;exact this
 ·intro h i hi;have il:=Ew.mp hi;have:=h _ (EQ il);rw[Et,E2 il];exact this
theorem uu {X:Cx} (hc:X.calm=true):du X (.builtin "all") (λxs H Q=>∃(a:Addr) (bs:List Bool),xs= [.ref a]/\aD X.K H a (bs.map V.bl)/\Q (.bl (bs.all id)) H):=by
 intro pins s σ H xs us Q I r h;obtain ⟨a,bs,rfl,h1,hq⟩:=h;cases r with
 |cons r rr=>
  cases rr;cases r;obtain ⟨its,rv,p,hz⟩:=I.list h1;have hh:=I.ok.hd hc;have ln:its.length=bs.length:=by rw[<-rv.length,E1]
  have hlt:a<s.heap.objs.size:=by
   obtain ⟨o,n,e,_⟩:=id p;exact Heap.lt_size e
  refine call_all_walk (wpAny_pyIter_list p.isList (s.heap.objs.size,_,_,_,_,_,λi=>bs.getD i true,rfl,Walks.list (A:=X.A.in1) hh _ a (EF hlt) its.toArray,((_,Heap.get?_push_size _ rfl,rfl,rfl),p.isList.at λo e=>Heap.get?_push_of_some _ e),?_,λh' tk hk=>?_))
  ·intro i v s' Q' E' hv hq';have e:=sG rv i v (by simpa using hv)
   subst e;exact wpAny_truthy_bool hq'
  ·refine (.bl (bs.all id),H,I.kept (h':=h') (t':=tk) λb o e=>hk b o (by simpa using EF (Heap.lt_size e)) (Heap.get?_push_of_some _ e),?_,hq)
   show Value.bool _=Value.bool _;rw[EN,ln,xD]
end L2
namespace Sw
open PySem L2 XH Hm PySem.NumText
def yc (O:List Ky) (n:Nat):Prop:=O.length<=1000/\∀k∈O,∃p q:Int,k= [p,q]/\0<=p/\p<(n:Int)/\0<=q/\q<(n:Int)
def em (due:List Ky):List Int->Prop
 |p::q::r=>(∃g,[p,q,g]∈due)/\em due (q::r)
 |_=>True
def sH (n:Int) (due:List Ky):Prop:=due.length<=2000/\∀k∈due,∃p q g:Int,k= [p,q,g]/\0<=p/\p<n/\0<=q/\q<n
theorem em.snoc {due:List Ky} {p q g:Int} (h: [p,q,g]∈due):∀{C:List Int},em due (C++ [p])->em due (C++ [p]++ [q])
 | [],_=>⟨⟨g,h⟩,trivial⟩
 | [x],k=>⟨k.1,⟨g,h⟩,trivial⟩
 |x::y::r,k=>⟨k.1,em.snoc h (C:=y::r) k.2⟩
def nO:Sp:=λvs H Q _=>∃(tl t:Addr) (i:Nat) (z:Str) (D:Tl) (T:Tk) (P:Pk),vs= [.ref tl,.ref t,.int i,.str z]/\fD D H tl t T P/\i<T.length/\∀H',aE H H'->Q (.int (dS T P i z)) H'
def sI:Sp:=λvs H Q _=>∃w m:Int,vs= [.int w,.int m]/\1<=m/\m<=1000/\Q (.int (-((-w).fdiv m))) H
noncomputable def cV (n:Int) (C:List Int):Bool:=C.all λp=>decide (0<=p)&&decide (p<n)
def fH (C:Addr):Sp:=λvs H Q _=>∃(x l:Addr) (fz:Bool) (D:Tl) (T:Tk) (A B:List Ky) (n:Int) (P:List Int),vs= [.ref x,.ref l]/\fN C fz H x D T A B n/\H l=some (.lst (P.map V.int))/\Q (.bl (cV 143 P)) H
def Bc (H0:Hp):RA Wy:=λP H v w=>∃t u:Addr,v= .ref t/\P t/\P u/\H0 u=none/\H t=some (.tup [.int w.1,.int w.2.1,.ref u])/\cA qR P H u w.2.2
instance (H0:Hp):Mv (Bc H0) where
 mv:=λ{P P' H H' v x} g h=>by
  obtain ⟨t,u,rfl,p,p2,n0,e,vs,e2,r⟩:=h;obtain ⟨q,e'⟩:=g t _ p rfl e;obtain ⟨q2,e2'⟩:=g u _ p2 rfl e2;exact (t,u,rfl,q,q2,n0,e',vs,e2',r.imp λ_ _ k=>Mv.mv g k)
theorem pE (k:Ky):vK (k.map V.int):=λx hx=>by
 obtain ⟨i,_,rfl⟩:=EO.mp hx
 trivial
theorem gD {A:List Ky} {T:Tk} {P:Pk} {O:List Ky} (h:∀k∈A,∃p q g:Int,k= [p,q,g]):∀k∈cH A T P O,∃p q g:Int,k= [p,q,g]:=by
 have hn:∀n,∀k∈cU T P n,∃p q g:Int,k= [p,q,g]:=λn=>by
  induction n with
  |zero=>intro k hk;cases hk
  |succ n ih=>
   intro k hk;rcases EJ.mp (show k∈cU T P n++_ from hk) with z|z
   ·exact ih k z
   ·simp only[EI,Ef,or_false] at z;rcases z with rfl|rfl<;>exact ⟨_,_,_,rfl⟩
 intro k hk;unfold cH at hk;rcases EJ.mp hk with z|z
 ·rcases EJ.mp z with z|z
  ·exact h k z
  ·exact hn _ k z
 ·unfold jf at z;obtain ⟨o,_,rfl⟩:=EO.mp z;exact (_,_,ν)
end Sw
namespace L2
open PySem PySem.Spec PyProof.Rows XH Sw Hm
end L2
namespace Sw
open PySem L2 XH Hm PySem.NumText
end Sw
namespace L2
open PySem PySem.Spec PyProof.Rows XH Sw Hm
theorem xE {K:E5} {β:Type} {l1 l2:Addr} {xs ys:List V} {n:Nat} {g:TG} {js:List Nat} {te:TE} {σ:L2.St} {H1:Hp} {Q:VK} (R:RA β) [Mv R] (Z:Addr->Prop) (f:Nat->β) (q1:aD K H1 l1 xs) (q2:aD K H1 l2 ys) (hz:min xs.length ys.length<=sizeLine) (hZ:∀a,Z a->H1 a≠none)
  (step:∀(i:Nat) (x y:V),xs[i]?=some x->ys[i]?=some y->∀H2,aE H1 H2->∀T,H2 T=none->∀o:L2.St,o.length=n->∀Q':VK,(∀v H5,aE (aH H2 T (.tup [x,y])) H5->R (λa=>H2 a=none∨Z a) H5 v (f i)->Q' v H5)->
   g (.ref T) (o++aP js σ) (aH H2 T (.tup [x,y])) λσ4 H4=>(∃o':L2.St,o'.length=n/\σ4=o'++aP js σ)/\te σ4 H4 Q')
  (fin:∀p H',H1 p=none->aE H1 H'->cA R (λa=>a≠p/\(H1 a=none∨Z a)) H' p ((EY (min xs.length ys.length)).map f)->Q (.ref p) H'):qI n g js te σ Q (Ao K l1 l2) H1:=by
 intro p hp;exists λi m zs H2=>i<=min xs.length ys.length/\m=min xs.length ys.length-i/\aE H1 H2/\H2 p=some (.lst zs)/\A2 (R (λa=>a≠p/\(H1 a=none∨Z a)) H2) zs ((EY i).map f),(min xs.length ys.length,El _,rfl,Sw.ac hp _,ae,A2.nil)
 rintro i m zs H2 ⟨hi,rfl,gg,e,r⟩;exists e;have s1:=gg.seq q1;have s2:=gg.seq q2
 by_cases hin:i<min xs.length ys.length
 ·refine .inr ((xs,ys,xs[i]'(by lia),ys[i]'(by lia),s1,s2,E2 _,E2 _),?_,λx H3 hy o ho=>?_)
  ·have:=r.1;rw[E1,F6] at this
   lia
  obtain ⟨T,a,b,rfl,nT,ha,hb,rfl⟩:=hy;have gT:=Sw.ac nT (.tup [a,b]);refine step i a b (ha xs s1) (hb ys s2) H2 gg T nT o ho _ λv H5 g5 ry=>?_
  have g25:=gT.trans g5;exists g25 _ _ e,min xs.length ys.length-(i+1),by lia,hin,rfl,Sw.dJ (gg.trans g25) hp _,ae
  rw[Fw,EU];have np:¬(p≠p/\(H1 p=none∨Z p)):=λz=>z.1 rfl
  refine ((r.imp λv b q=>de q g25).snoc (ku ry λa ha=>?_)).imp λv b q=>kY q np _
  rcases ha with h|h
  ·exact ((λz=>by rw[z,e] at h;cases h),.inl (gg.free h))
  ·exact (λz=>hZ a h (z▸hp),.inr h)
 ·have e2:i=min xs.length ys.length:=by lia
  subst e2;exact .inl ((xs,ys,s1,s2,by lia),fin p H2 hp gg (zs,e,r))
end L2
namespace Sw
open PySem L2 XH Hm PySem.NumText
abbrev nQ:RA (List Int):=xt (dW V.int)
abbrev uv (H:Hp) (l:Addr) (F:List (List Int)):Prop:=cA nQ An H l F
theorem fY {H:Hp} {P:Addr->Prop} {v:V} {f:List Int} (h:nQ P H v f):∃c,v= .ref c/\P c/\H c=some (.lst (f.map V.int)):=by
 obtain ⟨c,rfl,p,vs,e,r⟩:=h;rw[r.val] at e;exact (c,rfl,p,e)
theorem jh {H:Hp} {P:Addr->Prop} {c:Addr} {f:List Int} (p:P c) (e:H c=some (.lst (f.map V.int))):nQ P H (.ref c) f:=⟨c,rfl,p,_,e,A2.ofVal V.int _ _ _⟩
noncomputable def fJ (f:List Int):Int:=f.getLast?.getD (-1)
noncomputable def pF (b:List Int):Int:=b.head?.getD (-1)
noncomputable def eY (f:List Int):Int:=(fJ f).fdiv 2
theorem nR {f:List Int} (h:f≠ []):iP (f.map V.int) (-1)=some (.int (fJ f)):=by
 obtain ⟨D,x,rfl⟩:∃D x,f=D++ [x]:=⟨f.dropLast,f.getLast h,(List.dropLast_concat_getLast h).symm⟩;rw[EU];have:=og (D.map V.int) (V.int x);unfold fJ;rw[List.getLast?_append]
 simpa using this
theorem xF {b:List Int} (h:b≠ []):iP (b.map V.int) 0=some (.int (pF b)):=by
 obtain ⟨x,D,rfl⟩:=List.exists_cons_of_ne_nil h;exact aT (j:=0) rfl
noncomputable def dN (n:Nat) (f b:List Int):Bool:=(!f.isEmpty&& !b.isEmpty)&&(decide (fJ f=2*eY f/\0<=eY f/\eY f<(n:Int))&&decide (pF b=fJ f+1))
noncomputable def iD (n:Nat):List (List Int)->List (List Int)->Bool
 |f::F,b::B=>dN n f b&&iD n F B
 | [],[]=>true
 |_,_=>false
theorem dU {n:Nat}:∀{F B:List (List Int)},iD n F B=true↔F.length=B.length/\∀(i:Nat) (f b:List Int),F[i]?=some f->B[i]?=some b->dN n f b=true
 | [],[]=>by simp[iD]
 | [],_::_=>by simp[iD]
 |_::_,[]=>by simp[iD]
 |f::F,b::B=>by
  have ih:=dU (n:=n) (F:=F) (B:=B);show (dN n f b&&iD n F B)=true↔_;rw[EK,ih];constructor
  ·rintro ⟨h1,h2,h3⟩;refine (by simp[h2],λi x y e1 e2=>?_)
   cases i with
   |zero=>simp at e1 e2;subst e1 e2;exact h1
   |succ i=>exact h3 i x y (by simpa using e1) (by simpa using e2)
  ·rintro ⟨h1,h2⟩;exact (h2 0 f b rfl rfl,by simpa using h1,λi x y e1 e2=>h2 (i+1) x y (by simpa using e1) (by simpa using e2))
noncomputable def dn (n:Nat) (F B:List (List Int)):Bool:= !F.isEmpty&&(iD n F B&&decide ((F.map eY).Nodup))
noncomputable def dz (N:Int) (F:List (List Int)):Bool:=F.all (cV N)
noncomputable def nS (A:List Rn) (F:List (List Int)):Bool:=F.all λc=>(dh A c).isSome
noncomputable def nU (A:List Rn) (F:List (List Int)):Int:=gU (F.map λc=>(dh A c).getD 0)
noncomputable def eA (A:List Rn) (N:Int) (F:List (List Int)):Option Int:=if (dz N F&&nS A F)=true then some (nU A F) else none
noncomputable def nV (T:Tk) (P:Pk) (z:Str) (F:List (List Int)):Int:=(F.map λf=>dS T P (eY f).toNat z).sum
noncomputable def iN (D:Tl) (T:Tk) (P:Pk) (A:List Rn) (N:Int) (z:Str) (F B:List (List Int)):Option Int:=
 if dn T.length F B=true then
  match cT D z with
  |none=>none
  |some m=>match eA A N F,eA A N B with
   |some h,some t=>some (h+t+ -((-(nV T P z F)).fdiv m))
   |_,_=>none
 else none
noncomputable def fb (k:Ky):Rn:=(k.getD 0 0,k.getD 1 0,k.getD 2 0)
theorem yT {A:List Ky} (h:∀k∈A,∃p q g:Int,k= [p,q,g]):(A.map fb).map rk=A:=by
 rw[EH]
 conv=>rhs;rw[<-List.map_id A]
 apply Fj;intro k hk;obtain ⟨p,q,g,rfl⟩:=h k hk
 rfl
theorem im {H:Hp} {l:Addr} {A:List Ky} (h:bq H l A) (t:∀k∈A,∃p q g:Int,k= [p,q,g]):vQ H l (A.map fb):=by
 show bq H l ((A.map fb).map rk);rw[yT t];exact h
def nW:Sp:=λvs H Q _=>∃(d c:Addr) (A:List Rn) (C:List Int) (kvs:List (List Key×V)),vs= [.ref d,.ref c]/\H d=some (.dT kvs)/\uo kvs A/\H c=some (.lst (C.map V.int))/\C.length<=700/\∀H',aE H H'->Q (oV (dh A C)) H'
noncomputable def gH (n:Nat) (N:Int) (f b:List Int):Option Int:=if (dN n f b&&(cV N f&&cV N b))=true then some (eY f) else none
def mB (C:Addr):Sp:=λvs H Q _=>∃(x cf cb:Addr) (fz:Bool) (D:Tl) (T:Tk) (A B:List Ky) (n:Int) (f b:List Int),vs= [.ref x,.ref cf,.ref cb]/\fN C fz H x D T A B n/\H cf=some (.lst (f.map V.int))/\H cb=some (.lst (b.map V.int))/\Q (oV (gH T.length 143 f b)) H
noncomputable def fO (n:Nat) (N:Int) (F B:List (List Int)):Option (List Int):=if (dn n F B&&(dz N F&&dz N B))=true then some (F.map eY) else none
def D7 (H:Hp) (v:V) (o:Option (List Int)):Prop:=match o with
 |none=>v= .non
 |some xs=>∃l,v= .ref l/\H l=some (.lst (xs.map V.int))
def kD (C:Addr):Sp:=λvs H Q _=>∃(x lf lb:Addr) (fz:Bool) (D:Tl) (T:Tk) (A B:List Ky) (n:Int) (F G:List (List Int)),vs= [.ref x,.ref lf,.ref lb]/\fN C fz H x D T A B n/\uv H lf F/\uv H lb G/\F.length<=1000/\G.length<=1000/\∀(v:V) (H':Hp),aE H H'->D7 H' v (fO T.length 143 F G)->Q v H'
def pG (C:Addr):Sp:=λvs H Q _=>∃(x t:Addr) (z:Str) (lf lb:Addr) (F G:List (List Int)),vs= [.ref x,.ref t,.str z,.ref lf,.ref lb]/\uv H lf F/\uv H lb G/\F.length<=1000/\G.length<=1000/\(∀f∈F,f.length<=700)/\(∀f∈G,f.length<=700)/\cQ C false H x t λD T A B n P O=>eM O/\A.length+2*T.length+O.length<=700/\∀H',aE H H'->Q (oV (iN D T P ((cH A T P O).map fb) 143 z F G)) H'
theorem yU {f:List Int} (h:f≠ []):V.int ((f.map V.int).length:Nat)≠V.int 0:=λe=>by
 injection e with e
 rw[E1] at e;exact h (EV (by lia))
theorem vZ {f:List Int} (h:f≠ []):fJ f∈f:=by
 obtain ⟨D,x,rfl⟩:∃D x,f=D++ [x]:=⟨f.dropLast,f.getLast h,(List.dropLast_concat_getLast h).symm⟩;unfold fJ;rw[List.getLast?_append];simp
theorem v3 {α:Type} {o:List α} (h:o.length=2):∃a b,o= [a,b]:=by
 match o,h with
 | [a,b],_=>exact ⟨a,b,rfl⟩
theorem v4 (os:List (Option Int)):(os.map oV).all gM=true:=by
 rw[ED];intro y hy;obtain ⟨o,_,rfl⟩:=EO.mp hy;cases o<;>rfl
theorem D8 (os:List (Option Int)):qd .non (os.map oV)=os.any λo=>o.isNone:=by
 unfold qd;rw[List.any_map]
 congr 1
 funext o
 cases o<;>rfl
theorem yV {os:List (Option Int)} {A B:Prop} (h1:none∈os->A) (h2:none∉os->B):if (if false=true then !qd .non (os.map oV) else qd .non (os.map oV))=true then A else B:=by
 rw[if_neg (show ¬(false=true) by decide),D8]
 by_cases h:none∈os
 ·rw[if_pos]
  ·exact h1 h
  ·rw[Ee];exact (none,h,rfl)
 ·rw[if_neg]
  ·exact h2 h
  ·rw[Ee];rintro ⟨o,ho,e⟩;cases o with
   |none=>exact h ho
   |some _=>cases e
theorem kE {xs:List Int}:(xs.foldl insI []).length=xs.length↔xs.Nodup:=by
 have:=iL xs
 by_cases h:xs.Nodup
 ·rw[decide_eq_true h] at this;have:=of_decide_eq_true this;injection this with e
  exact (λ_=>h,λ_=>by lia)
 ·rw[decide_eq_false h] at this;have:=of_decide_eq_false this;exact (λe=>absurd (by rw[e]) this,λe=>absurd e h)
theorem eN {n:Nat} {N:Int} {f b:List Int} {i:Int}:gH n N f b=some i↔(dN n f b=true/\cV N f=true/\cV N b=true)/\i=eY f:=by
 unfold gH
 split
 ·rename_i h;rw[EK,EK] at h;exact ⟨λe=>⟨h,by injection e with e;exact e.symm⟩,λe=>by rw[e.2]⟩
 ·rename_i h;rw[EK,EK] at h;exact (λe=>(by cases e),λe=>absurd e.1 h)
theorem qZ {n:Nat} {N:Int} {F G:List (List Int)} (hl:F.length=G.length) (h:none∉(EY F.length).map λk=>gH n N (F.getD k []) (G.getD k [])):
  (EY F.length).map (λk=>gH n N (F.getD k []) (G.getD k []))=(F.map eY).map some/\iD n F G=true/\dz N F=true/\dz N G=true:=by
 have all:∀k,k<F.length->∃i,gH n N (F.getD k []) (G.getD k [])=some i:=λk hk=>by
  cases e:gH n N (F.getD k []) (G.getD k []) with
  |none=>exact absurd (EO.mpr ⟨k,Ew.mpr hk,e⟩) h
  |some i=>exact ⟨i,rfl⟩
 exists ?_,?_,?_
 ·have e:(F.map eY).map some=(EY F.length).map λk=>some (eY (F.getD k [])):=by
   conv=>lhs;rw[<-bO F []]
   rw[EH,EH]
   rfl
  rw[e];apply Fj;intro k hk;obtain ⟨i,hi⟩:=all k (Ew.mp hk);rw[hi,(eN.mp hi).2]
 ·rw[dU];refine (hl,λk f b h1 h2=>?_)
  obtain ⟨i,hi⟩:=all k (E6.mp h1).1;rw[bf h1,bf h2] at hi;exact (eN.mp hi).1.1
 ·unfold dz;rw[ED];intro f hf;obtain ⟨k,hk⟩:=Eg.mp hf;obtain ⟨i,hi⟩:=all k (E6.mp hk).1;rw[bf hk] at hi;exact (eN.mp hi).1.2.1
 ·unfold dz;rw[ED];intro f hf;obtain ⟨k,hk⟩:=Eg.mp hf;obtain ⟨i,hi⟩:=all k (by rw[hl];exact (E6.mp hk).1)
  rw[bf hk] at hi;exact (eN.mp hi).1.2.2
theorem q8 {n:Nat} {N:Int} {F G:List (List Int)} (hl:F.length=G.length) (h:none∈(EY F.length).map λk=>gH n N (F.getD k []) (G.getD k [])):(dn n F G&&(dz N F&&dz N G))=false:=by
 rw[<-FJ];intro e;rw[EK,EK] at e;obtain ⟨t,p1,p2⟩:=e;unfold dn at t;rw[EK,EK,dU] at t;obtain ⟨k,hk,e⟩:=EO.mp h;have kl:=Ew.mp hk;have h1:=E2 kl;have h2:=E2 (show k<G.length by lia)
 unfold dz at p1 p2;rw[ED] at p1 p2;have:=(eN (n:=n) (N:=N) (i:=eY F[k])).mpr ⟨⟨t.2.1.2 k _ _ h1 h2,p1 _ (EQ kl),p2 _ (EQ (show k<G.length by lia))⟩,rfl⟩
 rw[bf h1,bf h2,this] at e;cases e
theorem iO {A:List Rn} {F:List (List Int)}:nS A F=true↔none∉F.map (dh A):=by
 unfold nS;rw[ED];constructor
 ·intro h hm;obtain ⟨c,hc,e⟩:=EO.mp hm;have:=h c hc;rw[e] at this;cases this
 ·intro h c hc;cases e:dh A c with
  |none=>exact absurd (EO.mpr ⟨c,hc,e⟩) h
  |some _=>rfl
theorem mC {A:List Rn} {F:List (List Int)} (h:none∉F.map (dh A)):(F.map (dh A)).map oV=(F.map λc=>(dh A c).getD 0).map V.int:=by
 rw[EH,EH];apply Fj;intro c hc;cases e:dh A c with
 |none=>exact absurd (EO.mpr ⟨c,hc,e⟩) h
 |some t=>simp[Function.comp,e,oV]
theorem pH {n:Nat} {f b:List Int} (h:dN n f b=true):∃i:Nat,i<n/\eY f=(i:Int):=by
 unfold dN at h;have h2:=((EK _ _).mp h).2;have:=of_decide_eq_true ((EK _ _).mp h2).1;exact ((eY f).toNat,by lia,by lia)
theorem v5 {D:Tl} {z:Str} {m:Int} (h:cT D z=some m):∃p∈D,p.2=m:=by
 unfold cT at h;obtain ⟨p,hp,e⟩:=E7.mp h;exact (p,Fv hp,e)
theorem yW {H:Hp} {td:Addr} {D:Tl} {z:Str} (e:Rd H td (.dK (bL D))) (h:cT D z=none):iZ H td (.str z) none:=
 .inl ⟨_,.inr z,e,rfl,by rw[jz,h];rfl⟩
theorem pI {n:Nat} {N:Int} {F G:List (List Int)} {S:List Int} (h:fO n N F G=some S):S=F.map eY/\dn n F G=true/\dz N F=true/\dz N G=true:=by
 unfold fO at h
 split at h
 ·rename_i c;rw[EK,EK] at c;injection h with h
  exact (h.symm,c)
 ·cases h
theorem gZ {n:Nat} {F G:List (List Int)}:dn n F G=true↔F≠ []/\iD n F G=true/\(F.map eY).Nodup:=by
 unfold dn;rw[EK,EK,decide_eq_true_eq];cases F<;>simp
theorem jF {D:Tl} {T:Tk} {P:Pk} {A:List Rn} {N:Int} {z:Str} {F G:List (List Int)} (h:eA A N F=none∨eA A N G=none):iN D T P A N z F G=none:=by
 unfold iN
 split
 ·cases cT D z with
  |none=>rfl
  |some m=>
   rcases h with e|e
   ·rw[e]
   ·rw[e];cases eA A N F<;>rfl
 ·rfl
theorem ux {D:Tl} {T:Tk} {P:Pk} {A:List Rn} {N:Int} {z:Str} {F G:List (List Int)} (h:fO T.length N F G=none):iN D T P A N z F G=none:=by
 unfold fO at h
 split at h
 ·cases h
 ·rename_i c;rw[EK,EK] at c
  by_cases tk:dn T.length F G=true
  ·by_cases p1:dz N F=true
   ·have p2:dz N G=false:=by
     rw[<-FJ];exact λp2=>c (tk,p1,p2)
    exact jF (.inr (by unfold eA;rw[p2];rfl))
   ·exact jF (.inl (by unfold eA;rw[FJ] at p1;rw[p1];rfl))
  ·unfold iN;rw[if_neg tk]
theorem kF {A:List Rn} {N:Int} {F:List (List Int)} (h:none∈F.map (dh A)):eA A N F=none:=by
 unfold eA;rw[if_neg];intro e;rw[EK] at e;exact iO.mp e.2 h
end Sw
namespace L2
open PySem PySem.Spec PyProof.Rows XH Sw Hm
theorem pJ {X:Cx} {K:E5} (h:X.K=K):Cv X (AL K):=by
 subst h;exact bI
end L2
namespace Sw
open PySem L2 XH Hm PySem.NumText
def D9 (p:List Int->Prop):RA Unit:=λP H v _=>∃f,p f/\nQ P H v f
instance (p:List Int->Prop):Mv (D9 p) where
 mv:=λ{P P' H H' v x} g h=>by
  obtain ⟨f,pf,r⟩:=h;exact (f,pf,Mv.mv g r)
theorem xG {K:E5} {P P':Addr->Prop} {H:Hp} {vs us:List V} {F:List (List Int)} (h:A2 (nQ P H) vs F) (k:A2 (nQ P' H) us F):jv (t8 K H 1) vs us:=
 vL (R:=nQ) (λa b x _ h1 h2=>by
  obtain ⟨c,rfl,_,e⟩:=fY h1;obtain ⟨d,rfl,_,e'⟩:=fY h2;exact .inr (c,d,ω,.inr (aD.of e,aD.of e'),oX (pE x))) h k
def pK:Sp:=λvs H Q _=>∃(dl:Addr) (c:Int) (i:Nat) (due:List Ky) (n:Int),vs= [.ref dl,.int c,.int i]/\bq H dl due/\sH n due/\2*(i:Int)+1<n/\∀(l:Addr) (C:List Int) (H':Hp),H l=none->aE H H'->H' l=some (.lst (C.map V.int))->C.length<=4->(∃D,C=D++ [2*(i:Int)])->(∀p∈C,0<=p/\p<n)->em due C->Q (.ref l) H'
def sJ:Sp:=λvs H Q _=>∃(dl:Addr) (c:Int) (i:Nat) (due:List Ky) (n:Int),vs= [.ref dl,.int c,.int i]/\bq H dl due/\sH n due/\2*(i:Int)+1<n/\∀(l:Addr) (C:List Int) (H':Hp),H l=none->aE H H'->H' l=some (.lst (C.map V.int))->C.length<=4->(∃D,C=(2*(i:Int)+1)::D)->(∀p∈C,0<=p/\p<n)->em due C->Q (.ref l) H'
theorem pL {A:List Ky} {T:Tk} {P:Pk} {O:List Ky} {n:Int} (hA:∀k∈A,A6 n k) (a:A.length<=600) (t:T.length<=24) (hO:yc O T.length) (hn:2*120<=n):sH n (cH A T P O):=by
 refine (?_,λk hk=>?_)
 ·unfold cH jf;rw[E3,E3,dj,E1];have:=hO.1
  lia
 have hN:∀m,m<=T.length->∀k∈cU T P m,∃p q g:Int,k= [p,q,g]/\0<=p/\p<n/\0<=q/\q<n:=λm=>by
  induction m with
  |zero=>intro _ k hk;cases hk
  |succ m ih=>
   intro hm k hk;rcases EJ.mp (show k∈cU T P m++_ from hk) with z|z
   ·exact ih (by lia) k z
   ·simp only[EI,Ef,or_false] at z;rcases z with rfl|rfl<;>exact ⟨_,_,_,rfl,by lia,by lia,by lia,by lia⟩
 unfold cH at hk;rcases EJ.mp hk with z|z
 ·rcases EJ.mp z with z|z
  ·obtain ⟨p,q,g,e,b1,b2,b3,b4,_⟩:=hA k z;exact (p,q,g,e,b1,b2,b3,b4)
  ·exact hN _ (E8 _) k z
 ·unfold jf at z;obtain ⟨o,ho,rfl⟩:=EO.mp z;obtain ⟨p,q,rfl,p0,p1,q0,q1⟩:=hO.2 o ho;refine (2*p+1,2*q,0,rfl,?_,?_,?_,?_)<;>lia
end Sw
namespace L2
open PySem PySem.Spec PyProof.Rows XH Sw Hm
end L2
namespace Sw
open PySem L2 XH Hm
theorem pM {A:List Rn} {x:Int} {c:List Int}:∀i,gR A (x::c) (i+1)=(d0 A x (c.getD 0 0)).bind λg=>(gR A c i).map λt=>g+t
 |0=>by
  show (some (0:Int)).bind (λt=>(d0 A ((x::c).getD 0 0) ((x::c).getD 1 0)).map λg=>t+g)=_
  have e:(x::c).getD 1 0=c.getD 0 0:=by simp[Et]
  rw[e];show (d0 A x (c.getD 0 0)).map _=(d0 A x (c.getD 0 0)).bind λg=>some (g+0)
  cases d0 A x (c.getD 0 0) with
  |none=>rfl
  |some g=>show some (0+g)=some (g+0);congr 1;lia
 |i+1=>by
  show (gR A (x::c) (i+1)).bind _=_;rw[pM i];have e1:(x::c).getD (i+1) 0=c.getD i 0:=by simp[Et]
  have e2:(x::c).getD (i+1+1) 0=c.getD (i+1) 0:=by simp[Et]
  rw[e1,e2];cases d0 A x (c.getD 0 0) with
  |none=>rfl
  |some g=>
   show ((gR A c i).map λt=>g+t).bind _=((gR A c i).bind _).map _
   cases gR A c i with
   |none=>rfl
   |some t=>
    show ((d0 A (c.getD i 0) (c.getD (i+1) 0)).map λh=>g+t+h)=((d0 A (c.getD i 0) (c.getD (i+1) 0)).map λh=>t+h).map λs=>g+s
    cases d0 A (c.getD i 0) (c.getD (i+1) 0) with
    |none=>rfl
    |some h=>show some (g+t+h)=some (g+(t+h));congr 1;lia
end Sw
namespace L2
open PySem PySem.Spec PyProof.Rows XH Sw So Hm
end L2
namespace Hm
open PySem PySem.SeqAt PySem.MeetsSeq
end Hm
namespace L2
open PySem PySem.Spec PyProof.Rows XH Sw So Hm
end L2
namespace Sw
open PySem L2 XH Hm
theorem v6 {due:List Ky} {p q g:Int} (h: [p,q,g]∈due):∃v,d0 (due.map fb) p q=some v:=by
 have fi:=jX p q (due.map fb) none;cases e:d0 (due.map fb) p q with
 |some v=>exact ⟨v,rfl⟩
 |none=>
  exfalso;unfold d0 at e;rw[e] at fi;exact fi.2 _ (EO.mpr (_,h,rfl)) (rfl,rfl)
theorem pN {due:List Ky}:∀{C:List Int},em due C->∃t,dh (due.map fb) C=some t
 | [],_=>⟨0,rfl⟩
 | [x],_=>⟨0,rfl⟩
 |x::y::r,h=>by
  obtain ⟨⟨g,hg⟩,h2⟩:=h;obtain ⟨t,ht⟩:=pN (C:=y::r) h2;obtain ⟨v,hv⟩:=v6 hg;exists v+t;show gR (due.map fb) (x::y::r) ((y::r).length-1+1)=_;rw[pM];show (d0 (due.map fb) x y).bind _=_;rw[hv];show (dh (due.map fb) (y::r)).map _=_;rw[ht]
  rfl
def pO:Sp:=λvs H Q _=>∃m c:Int,vs= [.int m,.int c]/\1<=m/\m<=4/\∀(l:Addr) (S:List Int) (H':Hp),aE H H'->H' l=some (.lst (S.map V.int))->S.length<=4->(∀i∈S,0<=i/\i<m)->S.Nodup->Q (.ref l) H'
def Ea (p:Int->List Int->Prop):RA Int:=λP H v i=>∃f,p i f/\nQ P H v f
instance (p:Int->List Int->Prop):Mv (Ea p) where
 mv:=λg ⟨f,pf,r⟩=>⟨f,pf,Mv.mv g r⟩
theorem q9 {N:Int} {f:List Int} (h:∀p∈f,0<=p/\p<N):cV N f=true:=by
 unfold cV;rw[ED];intro p hp;rw[decide_eq_true (h p hp).1,decide_eq_true (h p hp).2]
 rfl
open PySem.NumText
inductive c6 where
 |full (z:Str) (F G:List (List Int))
 |one (w:Str) (C:List Int)
 |ways (i:Int)
def jG (H:Hp) (t:Addr):c6->Prop
 | .full z F G=>∃lf lb:Addr,H t=some (.tup [.str "full",.str z,.ref lf,.ref lb])/\uv H lf F/\uv H lb G
 | .one w C=>∃c:Addr,H t=some (.tup [.str w,.ref c])/\H c=some (.lst (C.map V.int))
 | .ways i=>H t=some (.tup [.str "ways",.int i])
theorem jG.same {H H':Hp} {t:Addr} {r:c6} (h:jG H t r) (g:aE H H'):jG H' t r:=by
 cases r with
 |full z F G=>
  obtain ⟨lf,lb,e,a,b⟩:=h;exact (lf,lb,g _ _ e,a.same g,b.same g)
 |one w C=>
  obtain ⟨c,e,a⟩:=h;exact (c,g _ _ e,g _ _ a)
 |ways i=>exact g _ _ h
def jO:c6->Prop
 | .full z F G=>F.length<=30/\G.length<=30/\(∀f∈F,f.length<=30)/\∀f∈G,f.length<=30
 | .one w C=>(w= "chain" ∨w= "ring" ∨w= "split")/\C.length<=30
 | .ways i=>True
noncomputable def c8 (D:Tl) (T:Tk) (P:Pk) (A:List Rn) (N:Int):c6->Option Int
 | .full z F G=>iN D T P A N z F G
 | .one w C=>if w= "chain" then (if cV N C=true then dh A C else none) else none
 | .ways _=>none
noncomputable def uy:Option Int->Bool
 |none=>false
 |some t=>decide (t>0)
noncomputable def j2:Option Int->Int->Bool
 |none,_=>false
 |some b,l=>decide (b≥l)
noncomputable def hE (D:Tl) (T:Tk) (P:Pk) (A:List Rn) (N:Int) (low:Option Int) (r:c6):Bool:=match r with
 | .one w C=>if w= "ring" then cV N C&&uy (gS A C) else (match low with|none=>false|some l=>j2 (c8 D T P A N r) l)
 |_=>match low with|none=>false|some l=>j2 (c8 D T P A N r) l
section
variable (C:Addr)
def mD:Sp:=λvs H Q _=>∃(x t row:Addr) (r:c6),vs= [.ref x,.ref t,.ref row]/\jG H row r/\jO r/\cQ C false H x t λD T A B n P O=>eM O/\A.length+2*T.length+O.length<=700/\∀H',aE H H'->Q (oV (c8 D T P ((cH A T P O).map fb) 143 r)) H'
def kG:Sp:=λvs H Q _=>∃(x t c:Addr) (R:List Int),vs= [.ref x,.ref t,.ref c]/\H c=some (.lst (R.map V.int))/\R.length<=30/\cQ C false H x t λD T A B n P O=>eM O/\A.length+2*T.length+O.length<=700/\∀H',aE H H'->Q (.bl (cV 143 R&&uy (gS ((cH A T P O).map fb) R))) H'
def sK:Sp:=λvs H Q _=>∃(x t row:Addr) (low:Option Int) (r:c6),vs= [.ref x,.ref t,oV low,.ref row]/\jG H row r/\jO r/\cQ C false H x t λD T A B n P O=>eM O/\A.length+2*T.length+O.length<=700/\∀H',aE H H'->Q (.bl (hE D T P ((cH A T P O).map fb) 143 low r)) H'
end
theorem pP {A:List Ky} {T:Tk} {P:Pk} {O:List Ky} (h:A.length+2*T.length+O.length<=700):((cH A T P O).map fb).length<=700:=by
 rw[E1];unfold cH jf;rw[E3,E3,dj,E1]
 lia
theorem gw.trip {D:Tl} {T:Tk} {A B:List Ky} {n:Int} (h:gw D T A B n):∀k∈A,∃p q g:Int,k= [p,q,g]:=λk hk=>by
 obtain ⟨p,q,g,e,_⟩:=h.arcs k hk;exact (p,q,g,e)
def jj:c6->Prop
 | .one w _=>w≠ "ring"
 |_=>True
noncomputable def yX (o low:Option Int):Bool:=match low with
 |none=>false
 |some l=>j2 o l
theorem io {D:Tl} {T:Tk} {P:Pk} {A:List Rn} {N:Int} {r:c6} (h:jj r) (low:Option Int):hE D T P A N low r=yX (c8 D T P A N r) low:=by
 cases r with
 |full _ _ _=>cases low<;>rfl
 |one w C=>
  have:hE D T P A N low (.one w C)=(match low with|none=>false|some l=>j2 (c8 D T P A N (.one w C)) l):=if_neg h
  rw[this];cases low<;>rfl
 |ways _=>cases low<;>rfl
theorem j3 {K:E5} {H:Hp} (n:Nat) (z:Str):t8 K H n (.str z) (.str z):=by
 induction n with
 |zero=>exact ⟨rfl,trivial⟩
 |succ n ih=>exact .inl ih
theorem xH {K:E5} {H:Hp} (n:Nat) (z:Int):t8 K H n (.int z) (.int z):=by
 induction n with
 |zero=>exact ⟨rfl,trivial⟩
 |succ n ih=>exact .inl ih
theorem sM {K:E5} {H:Hp} {l l':Addr} {F:List (List Int)} (h:uv H l F) (h':uv H l' F):t8 K H 2 (.ref l) (.ref l'):=by
 obtain ⟨vs,e,r⟩:=h;obtain ⟨us,e',r'⟩:=h';exact .inr (l,l',ω,.inr (aD.of e,aD.of e'),xG r r')
theorem xI {K:E5} {H:Hp} {t t':Addr} {r:c6} (h:jG H t r) (h':jG H t' r):∃xs ys,H t=some (.tup xs)/\H t'=some (.tup ys)/\jv (t8 K H 2) xs ys:=by
 cases r with
 |full z F G=>
  obtain ⟨lf,lb,e,a,b⟩:=h;obtain ⟨lf',lb',e',a',b'⟩:=h';exact (_,_,e,e',j3 _ _,j3 _ _,sM a a',sM b b',trivial)
 |one w C=>
  obtain ⟨c,e,a⟩:=h;obtain ⟨c',e',a'⟩:=h';exact (_,_,e,e',j3 _ _,.inl (.inr (c,c',ω,.inr (aD.of a,aD.of a'),oX (pE C))),trivial)
 |ways i=>exact ⟨_,_,h,h',j3 _ _,xH _ _,trivial⟩
end Sw
namespace L2
open PySem PySem.Spec PyProof.Rows XH Sw Hm
theorem uz {X:Cx}:du X (.builtin "len") (λxs H Q=>∃(a:Addr) (ys:List V),xs= [.ref a]/\H a=some (.lst ys)/\Q (.int (ys.length:Nat)) H):=by
 intro pins s σ H xs us Q I r h;obtain ⟨a,ys,rfl,e,q⟩:=h;exact ay pins s σ H _ us Q I r (a,ys,rfl,.inl (aD.of e),q)
end L2
namespace Sw
open PySem L2 XH Hm PySem.NumText
theorem gE {D:Tl} {T:Tk} {P:Pk} {A:List Rn} {N:Int} {low:Option Int} {C:List Int}:hE D T P A N low (.one "ring" C)=(cV N C&&uy (gS A C)):=by
 unfold hE;simp
theorem fK {D:Tl} {T:Tk} {P:Pk} {A:List Rn} {N:Int} (C:List Int):c8 D T P A N (.one "chain" C)=if cV N C=true then dh A C else none:=by
 unfold c8;simp
end Sw
namespace L2
open PySem PySem.Spec PyProof.Rows XH
end L2
namespace Sw
open PySem L2 XH Hm PySem.NumText
abbrev Cs:=List (Pk×List Ky)
inductive Rp where
 |split (S:List Int)
 |ways (i:Int)
def xJ (H:Hp) (r:Addr):Rp->Prop
 | .split S=>∃c:Addr,H r=some (.tup [.str "split",.ref c])/\H c=some (.lst (S.map V.int))
 | .ways i=>H r=some (.tup [.str "ways",.int i])
def v7:Rp->Prop
 | .split S=>S.length<=8
 | .ways _=>True
noncomputable def dC (P:Pk) (O:List Ky) (S S1:List Int):Cs:=S1.flatMap λi=>(S.filter λj=> !decide (V.int i=V.int j)).map λj=>(P,O++ [[i,j]])
noncomputable def dD (P:Pk) (O:List Ky):Rp->Cs
 | .split S=>dC P O S S
 | .ways i=> [(P.set i.toNat (some 0),O),(P.set i.toNat (some 1),O)]
noncomputable def iE (T:Tk) (P:Pk) (i:Int):Bool:=(decide (0<=i)&&decide (i<120))&&(decide ((T.getD i.toNat []).length=2)&&decide (P.getD i.toNat none=none))
noncomputable def cF (D:Tl) (T:Tk) (B:List Ky) (P:Pk) (O:List Ky):Rp->Bool
 | .split S=> !bP O S&&b7 D T B P S
 | .ways i=>iE T P i
theorem jP {P:Pk} {O:List Ky} {S S1:List Int} {i:Int}:dC P O S (S1++ [i])=dC P O S S1++(S.filter λj=> !decide (V.int i=V.int j)).map λj=>(P,O++ [[i,j]]):=by
 unfold dC;rw[List.flatMap_append];simp
theorem ip {P:Pk} {O:List Ky} {S:List Int} {i j:Int}:((S++ [j]).filter λj=> !decide (V.int i=V.int j)).map (λj=>(Prod.mk (P) (O++ [[i,j]])))=(S.filter λj=> !decide (V.int i=V.int j)).map (λj=>(Prod.mk (P) (O++ [[i,j]])))++(if V.int i=V.int j then [] else [(Prod.mk (P) (O++ [[i,j]]))]):=by
 rw[List.filter_append,EU]
 by_cases c:V.int i=V.int j
 ·rw[if_pos c,List.filter_cons_of_neg (by rw[decide_eq_true c];decide)];rfl
 ·rw[if_neg c,List.filter_cons_of_pos (by rw[decide_eq_false c];rfl)];rfl
theorem gF {P:Pk} {O:List Ky} {S:List Int}:∀{S1:List Int},(dC P O S S1).length<=S1.length*S.length
 | []=>by simp[dC]
 |x::r=>by
  have:dC P O S (x::r)=((S.filter λj=> !decide (V.int x=V.int j)).map λj=>(P,O++ [[x,j]]))++dC P O S r:=by
   unfold dC;rw[List.flatMap_cons]
  rw[this,E3,E1,ER,Nat.succ_mul];have:=Fp (λj=> !decide (V.int x=V.int j)) S
  have:=gF (P:=P) (O:=O) (S:=S) (S1:=r)
  lia
def cX:RA (Pk×List Ky):=λP H v c=>∃t pl ol:Addr,v= .ref t/\P t/\P pl/\P ol/\H t=some (.tup [.ref pl,.ref ol])/\H pl=some (.lst (c.1.map gy))/\cA (ug λk:Ky=>k.map V.int) P H ol c.2
instance:Mv cX where
 mv:=λ{P P' H H' v x} g h=>by
  obtain ⟨t,pl,ol,rfl,p1,p2,p3,e1,e2,vs,e3,r⟩:=h;obtain ⟨q1,f1⟩:=g t _ p1 rfl e1;obtain ⟨q2,f2⟩:=g pl _ p2 rfl e2;obtain ⟨q3,f3⟩:=g ol _ p3 rfl e3;exact (t,pl,ol,rfl,q1,q2,q3,f1,f2,vs,f3,r.imp λ_ _ k=>Mv.mv g k)
theorem Bd {H:Hp} {l:Addr} {ks:List Ky} (h:bq H l ks):cA (ug λk:Ky=>k.map V.int) An H l ks:=by
 obtain ⟨as,e,r⟩:=h;refine (_,e,by rw[E1];exact r.1,λi v k h1 h2=>?_)
 obtain ⟨a,ha,rfl⟩:=cP h1;exact (a,rfl,trivial,r.2 i a k ha h2)
theorem cX.case {H:Hp} {P:Addr->Prop} {v:V} {c:Pk×List Ky} (h:cX P H v c):∃t,v= .ref t/\eV H t c.1 c.2:=by
 obtain ⟨t,pl,ol,rfl,_,_,_,e1,e2,h3⟩:=h;exact (t,rfl,pl,ol,e1,e2,vY h3)
theorem eV.r {H:Hp} {t:Addr} {P:Pk} {O:List Ky} (h:eV H t P O):cX An H (.ref t) (P,O):=by
 obtain ⟨pl,ol,e1,e2,h3⟩:=h;exact (t,pl,ol,rfl,trivial,trivial,trivial,e1,e2,Bd h3)
structure wE (H0 H:Hp) (l:Addr) (z:(Addr×Addr×Addr)×(Pk×List Ky)):Prop where
 n1:H0 z.1.2.1=none
 n2:H0 z.1.2.2=none
 l1:z.1.2.1≠l
 l2:z.1.2.2≠l
 e:H z.1.1=some (.tup [.ref z.1.2.1,.ref z.1.2.2])
 ep:H z.1.2.1=some (.lst (z.2.1.map gy))
 eo:bq H z.1.2.2 z.2.2
noncomputable def Aq (zs:List ((Addr×Addr×Addr)×(Pk×List Ky))):GR:=zs.flatMap λz=> [z.1.2.1,z.1.2.2]
structure pQ (H0 H:Hp) (l:Addr) (zs:List ((Addr×Addr×Addr)×(Pk×List Ky))):Prop where
 nl:H0 l=none
 e:H l=some (.lst (zs.map λz=>V.ref z.1.1))
 nd:(Aq zs).Nodup
 each:∀z∈zs,wE H0 H l z
theorem xK {zs:List ((Addr×Addr×Addr)×(Pk×List Ky))} {a:Addr}:a∈Aq zs↔∃z∈zs,a=z.1.2.1∨a=z.1.2.2:=by
 unfold Aq;rw[List.mem_flatMap];constructor
 ·rintro ⟨z,hz,h⟩;simp only[EI,Ef,or_false] at h;exact (z,hz,h)
 ·rintro ⟨z,hz,h⟩;exists z,hz;simp only[EI,Ef,or_false];exact h
theorem v8 (zs:List ((Addr×Addr×Addr)×(Pk×List Ky))) (z:(Addr×Addr×Addr)×(Pk×List Ky)):Aq (zs++ [z])=Aq zs++ [z.1.2.1,z.1.2.2]:=by
 unfold Aq;rw[List.flatMap_append];simp
theorem v9 {H:Hp} {o b:Addr} {O:List Ky} {xs:List V} {ob:HO} (h:bq H o O) (e:H b=some (.lst xs)) (n:b≠o):bq (L2.aH H b ob) o O:=by
 obtain ⟨as,e1,r⟩:=h;refine (as,by rw[aK (λz=>n z.symm)];exact e1,r.imp λt k q=>?_)
 rw[aK (λz=>by rw[z,e] at q;cases q)]
 exact q
theorem wE.updL {H0 H:Hp} {l b:Addr} {z:(Addr×Addr×Addr)×(Pk×List Ky)} {xs:List V} {ob:HO} (h:wE H0 H l z) (e:H b=some (.lst xs)) (b1:b≠z.1.2.1) (b2:b≠z.1.2.2):wE H0 (aH H b ob) l z:=
 ⟨h.n1,h.n2,h.l1,h.l2,by rw[aK (λq=>by have:=h.e;rw[q,e] at this;cases this)];exact h.e,by rw[aK (λq=>b1 q.symm)];exact h.ep,v9 h.eo e b2⟩
theorem wE.same {H0 H H':Hp} {l:Addr} {z:(Addr×Addr×Addr)×(Pk×List Ky)} (h:wE H0 H l z) (g:aE H H'):wE H0 H' l z:=
 ⟨h.n1,h.n2,h.l1,h.l2,g _ _ h.e,g _ _ h.ep,h.eo.same g⟩
theorem pQ.nil {H0 H:Hp} {l:Addr} (n:H0 l=none):pQ H0 (aH H l 142) l []:=⟨n,ae,List.nodup_nil,λz hz=>by cases hz⟩
theorem pQ.later {H0 H1 H:Hp} {l:Addr} {zs:List ((Addr×Addr×Addr)×(Pk×List Ky))} (h:pQ H1 H l zs) (g:aE H0 H1):pQ H0 H l zs:=
 ⟨g.free h.nl,h.e,h.nd,λz hz=>⟨g.free (h.each z hz).n1,g.free (h.each z hz).n2,(h.each z hz).l1,(h.each z hz).l2,(h.each z hz).e,(h.each z hz).ep,(h.each z hz).eo⟩⟩
theorem pQ.put {H0 H H':Hp} {l:Addr} {zs:List ((Addr×Addr×Addr)×(Pk×List Ky))} (h:pQ H0 H l zs) (g0:aE H0 H) (g:aE H H') {t p o:Addr} {P:Pk} {O:List Ky} (np:H p=none) (no:H o=none) (po:p≠o) (e:H' t=some (.tup [.ref p,.ref o])) (ep:H' p=some (.lst (P.map gy))) (eo:bq H' o O):pQ H0 (aH H' l (.lst ((zs.map λz=>V.ref z.1.1)++ [.ref t]))) l (zs++ [((t,p,o),(P,O))]):=by
 have pl:p≠l:=λz=>by rw[z,h.e] at np;cases np
 have ol:o≠l:=λz=>by rw[z,h.e] at no;cases no
 have el:=g _ _ h.e;have tc:wE H0 H' l ((t,p,o),(P,O)):=⟨g0.free np,g0.free no,pl,ol,e,ep,eo⟩;refine (h.nl,by rw[ae,EU];rfl,?_,λz hz=>?_)
 ·rw[v8,Fe];refine (h.nd,by simp[po],λa ha b hb=>?_)
  obtain ⟨z,hz,q⟩:=xK.mp ha;have some_:H a≠none:=by
   rcases q with q|q
   ·rw[q,(h.each z hz).ep];exact nofun
   ·obtain ⟨as,e1,_⟩:=(h.each z hz).eo;rw[q,e1];exact nofun
  simp only[EI,Ef,or_false] at hb;rcases hb with rfl|rfl
  ·exact λq=>some_ (by rw[q];exact np)
  ·exact λq=>some_ (by rw[q];exact no)
 ·rcases EJ.mp hz with q|q
  ·have k:=h.each z q;exact (k.same g).updL el (λq=>k.l1 q.symm) (λq=>k.l2 q.symm)
  ·rw[EA.mp q];exact tc.updL el (λq=>pl q.symm) (λq=>ol q.symm)
theorem pQ.two {H H1 H2:Hp} {t1 p1 o1 t2 p2 o2 lc:Addr} {P1 P2:Pk} {O:List Ky} (g1:aE H H1) (g2:aE H1 H2) (np1:H p1=none) (no1:H o1=none) (po1:p1≠o1) (e1:H1 t1=some (.tup [.ref p1,.ref o1])) (ep1:H1 p1=some (.lst (P1.map gy))) (eo1:bq H1 o1 O)
  (np2:H1 p2=none) (no2:H1 o2=none) (po2:p2≠o2) (e2:H2 t2=some (.tup [.ref p2,.ref o2])) (ep2:H2 p2=some (.lst (P2.map gy))) (eo2:bq H2 o2 O) (nlc:H2 lc=none):pQ H (L2.aH H2 lc (.lst [.ref t1,.ref t2])) lc [((t1,p1,o1),(P1,O)),((t2,p2,o2),(P2,O))]:=by
 have g3:=ac nlc (.lst [.ref t1,.ref t2]);have g23:=g2.trans g3;obtain ⟨b1,f1,_⟩:=id eo1;obtain ⟨b2,f2,_⟩:=id eo2;have n12:∀{a b:Addr} {o:HO},H1 a=some o->H1 b=none->a≠b:=λh k z=>by rw[z,k] at h;cases h
 have nl:∀{a:Addr} {o:HO},H2 a=some o->a≠lc:=λh z=>by rw[z,nlc] at h;cases h
 refine ((g1.trans g2).free nlc,ae,?_,λz hz=>?_)
 ·show [p1,o1,p2,o2].Nodup;have a:=n12 ep1 np2;have b:=n12 ep1 no2;have c:=n12 f1 np2;have d:=n12 f1 no2;simp[po1,po2,a,b,c,d]
 ·simp only[EI,Ef,or_false] at hz;rcases hz with rfl|rfl
  ·exact (np1,no1,nl (g2 _ _ ep1),nl (g2 _ _ f1),g23 _ _ e1,g23 _ _ ep1,eo1.same g23)
  ·exact (g1.free np2,g1.free no2,nl ep2,nl f2,g3 _ _ e2,g3 _ _ ep2,eo2.same g3)
section
variable {f:Int} {n0 n1:Str} {m0 m1:Int} {hs1 hs2:List Int} {T:Tk} {R:List Rn} {M:List Int}
theorem wa {l r:List Int} (h:l.Perm r):l.sum=r.sum:=by
 induction h with
 |nil=>rfl
 |cons x _ ih=>simp only[List.sum_cons,ih]
 |swap x y l=>simp only[List.sum_cons];lia
 |trans _ _ a b=>exact a.trans b
end
def wb (H H':Hp) (r:Bool) (cs:Cs) (v:V):Prop:=(r=false/\v= .non)∨(r=true/\∃(l:Addr) (zs:List ((Addr×Addr×Addr)×(Pk×List Ky))),v= .ref l/\zs.map (·.2)=cs/\pQ H H' l zs)
section
variable (C:Addr)
def kH:Sp:=λvs H Q _=>∃(t l:Addr) (P:Pk) (O:List Ky) (S:List Int),vs= [.ref t,.ref l]/\eV H t P O/\eM O/\H l=some (.lst (S.map V.int))/\Q (.bl (bP O S)) H
def mE:Sp:=λvs H Q _=>∃(x t l:Addr) (S:List Int),vs= [.ref x,.ref t,.ref l]/\H l=some (.lst (S.map V.int))/\S.length<=8/\cQ C false H x t λD T A B n P O=>eM O/\∀v H',aE H H'->wb H H' (cF D T B P O (.split S)) (dD P O (.split S)) v->Q v H'
def kI:Sp:=λvs H Q _=>∃(t:Addr) (i j:Nat) (P:Pk) (O:List Ky),vs= [.ref t,.int i,.int j]/\eV H t P O/\i<P.length/\P.length<=24/\eM O/\∀(t' p o:Addr) (H':Hp),aE H H'->H p=none->H o=none->p≠o->H' t'=some (.tup [.ref p,.ref o])->H' p=some (.lst ((P.set i (some j)).map gy))->bq H' o O->Q (.ref t') H'
def sN:Sp:=λvs H Q _=>∃(x t:Addr) (i:Int),vs= [.ref x,.ref t,.int i]/\cQ C false H x t λD T A B n P O=>eM O/\∀v H',aE H H'->wb H H' (iE T P i) (dD P O (.ways i)) v->Q v H'
def pR:Sp:=λvs H Q _=>∃(x t r:Addr) (w:Rp),vs= [.ref x,.ref t,.ref r]/\xJ H r w/\v7 w/\cQ C false H x t λD T A B n P O=>eM O/\∀v H',aE H H'->wb H H' (cF D T B P O w) (dD P O w) v->Q v H'
end
theorem fZ {P:Pk} {O:List Ky} {w:Rp} (ok:v7 w):(dD P O w).length<=64:=by
 cases w with
 |split S=>
  have:=gF (P:=P) (O:=O) (S:=S) (S1:=S);have h8:S.length<=8:=ok;have:S.length*S.length<=8*8:=Nat.mul_le_mul h8 h8;show (dC P O S S).length<=64
  lia
 |ways i=>show 2<=64;decide
theorem xL {T:Tk} {P:Pk} {i:Int} (pl:P.length=T.length) (h:iE T P i=true):0<=i/\i<(P.length:Int):=by
 unfold iE at h;simp only[EK,decide_eq_true_eq] at h;rw[pl];exact h.1
def Eb:RA Unit:=λP H v _=>∃(r:Addr) (i:Int),v= .ref r/\P r/\H r=some (.tup [.str "ways",.int i])
instance:Mv Eb where
 mv:=λ{P P' H H' v x} g h=>by
  obtain ⟨r,i,rfl,p,e⟩:=h;obtain ⟨q,e'⟩:=g r _ p rfl e;exact (r,i,rfl,q,e')
end Sw
namespace L2
open PySem PySem.Spec PyProof.Rows XH Sw
section
variable {prog:Program} {w:World} {A:Around} {R:Result->Shared->Prop} {I:Addr} {fp wr:GR} {n:Nat} {P:Nat->Value->Prop} {St:Nat->Heap->Prop}
noncomputable def Dl:GU->Array Value
 |none=> #[]
 |some v=> #[v,v]
def Be (num:Nat->Int) (P:Nat->Value->Prop) (j:Nat) (o:GU):Prop:=(j=0/\o=none)∨∃v i,o=some v/\i<j/\P i v/\∀i',i'<j->num i<=num i'
theorem xM (W:Walks prog w A.in1 I fp wr n P St) (num:Nat->Int) (hcmp:CmpOf prog w A.in1 .Lt P λi j=>decide (num i<num j)) (S:Addr) (sf:S∉fp) (d:Value):
  ∀(k j:Nat) (s:Shared) (o:GU) (c:Nat),n-j=k->j<=n->St j s.heap->Be num P j o->s.heap.get? S=some {cls:= .type "list",dict:=none,data:= .seq (Dl o) c,slots:= #[]}->
  (∀v h' tk,((n=0/\v=d)∨∃i,i<n/\P i v/\∀i',i'<n->num i<=num i')->(∀b x,b∉wr->b≠S->s.heap.get? b=some x->h'.get? b=some x)->R (.ok (.ret v)) {s with heap:=h',toks:=tk})->
  codeAny 139 A (.builtin "min.loop" ⟨[.ref I,.none,.ref S],[("default",d)]⟩) R s:=by
 have sw:S∉wr:=λh=>sf (W.sub _ h)
 have nm:(toString "min" ++toString ".loop" :String)= "min.loop" :=by decide
 intro k
 induction k with
 |zero=>
  intro j s o c hk hj st bo hS q;obtain rfl:j=n:=by lia
  refine codeAny_builtin PySem.F.entry_min_loop (?_);rw[Around.under_plainId FT _];show wpAny _ A.in1 (seqItems? (.ref S)>>=_) _ _ s;refine wpAny_bind (wpAny_seqItems hS rfl (?_));show wpAny _ A.in1 (tryCatch (pyNext (.ref I)) _>>=_) _ _ s;refine wpAny_bind (wpAny_tryCatch (W.done s _ _ st λh' tk hk'=>?_))
  have hS':=hk' S _ sw hS;rcases bo with ⟨j0,rfl⟩|⟨v,i,rfl,il,pv,le⟩
  ·exact wpAny_bind (wpAny_rule (wpAny_pure (q d _ tk (.inl (j0,rfl)) λb x hw _ e=>hk' b x hw e)))
  ·show wpAny _ A.in1 (updateSeq S (λ_=> #[])>>=_) _ _ _;refine wpAny_bind (wpAny_updateSeq hS' rfl (wpAny_bind (wpAny_letGo (wpAny_pure ?_))) (hz:=by show 2<=sizeLine;rw[sizeLine_eq];lia))
   exact q v _ tk (.inr (i,il,pv,le)) λb x hw hs e=>(Heap.get?_update_other _ _ (λz=>hs z.symm)).trans (hk' b x hw e)
 |succ k ih=>
  intro j s o c hk hj st bo hS q;have jl:j<n:=by lia
  refine codeAny_builtin PySem.F.entry_min_loop (?_);rw[Around.under_plainId FT _];show wpAny _ A.in1 (seqItems? (.ref S)>>=_) _ _ s;refine wpAny_bind (wpAny_seqItems hS rfl (?_));show wpAny _ A.in1 (tryCatch (pyNext (.ref I)) _>>=_) _ _ s;refine wpAny_bind (wpAny_tryCatch (W.item j s _ _ jl st λv h' tk pv st' hk'=>?_))
  have hS':=hk' S _ sw hS;have other:∀{h:Heap} {f:Obj->Obj} {b:Addr} {x:Obj},b≠S->h.get? b=some x->(h.update S f).get? b=some x:=λhb e=>(Heap.get?_update_other _ _ (λz=>hb z.symm)).trans e
  have fS:∀b∈fp,b≠S:=λb hb z=>sf (by rw[<-z];exact hb)
  rcases bo with ⟨j0,rfl⟩|⟨vb,i,rfl,il,pb,le⟩
  ·show wpAny _ A.in1 (updateSeq S (λ_=> #[v,v])>>=_) _ _ _;refine wpAny_bind (wpAny_updateSeq hS' rfl ?_)
   rw[nm];refine wpAny_pure (plainId_quiet FT _,ih (j+1) _ (some v) _ (by lia) jl (W.frame _ _ _ st' λb hb x e=>other (fS b hb) e) (.inr (v,j,rfl,by lia,pv,λi' hi'=>?_)) (Heap.get?_update_self _ hS' rfl) λv' h2 t2 pr kp=>q v' h2 t2 pr λb x hw hs e=>kp b x hw hs (other hs (hk' b x hw e)))
   obtain rfl:i'=j:=by lia
   exact Int.le_refl _
  ·show wpAny _ A.in1 (tryCatch (holding [v,v] (richCompare .Lt v vb>>=_)) _>>=_) _ _ _;refine wpAny_bind (wpAny_tryCatch (wpAny_holding (wpAny_bind (hcmp j i v vb _ _ _ pv pb ?_))));refine wpAny_bind (wpAny_holding (wpAny_truthy_bool (wpAny_bind (wpAny_letGo (wpAny_pure ?_)))))
   by_cases hb:num j<num i
   ·have he:decide (num j<num i)=true:=decide_eq_true hb;simp only[he,if_true];refine wpAny_bind (wpAny_updateSeq hS' rfl (wpAny_bind (wpAny_letGo ?_)) (hz:=by show 2<=sizeLine;rw[sizeLine_eq];lia))
    rw[nm];refine wpAny_pure (plainId_quiet FT _,ih (j+1) _ (some v) _ (by lia) jl (W.frame _ _ _ st' λb hb x e=>other (fS b hb) e) (.inr (v,j,rfl,by lia,pv,λi' hi'=>?_)) (Heap.get?_update_self _ hS' rfl) λv' h2 t2 pr kp=>q v' h2 t2 pr λb x hw hs e=>kp b x hw hs (other hs (hk' b x hw e)))
    by_cases c2:i'=j
    ·rw[c2];exact Int.le_refl _
    ·have:=le i' (by lia);lia
   ·have he:decide (num j<num i)=false:=decide_eq_false hb;simp only[he,Bool.false_eq_true,if_false];refine wpAny_bind (wpAny_letGo ?_);rw[nm];refine wpAny_pure (plainId_quiet FT _,ih (j+1) _ (some vb) c (by lia) jl st' (.inr (vb,i,rfl,by lia,pb,λi' hi'=>?_)) hS' λv' h2 t2 pr kp=>q v' h2 t2 pr λb x hw hs e=>kp b x hw hs (hk' b x hw e))
    by_cases c2:i'=j
    ·rw[c2];lia
    ·exact le i' (by lia)
end
theorem uA (a d:Value):argsOk "min" ⟨[a],[(Str.ofString "default",d)]⟩:=by unfold argsOk;kernel_rfl
def Bf (K:E5) (te:TE):TE:=λσ H Q=>te σ H λx H1=>∃(a:Addr) (ns:List Int),x= .ref a/\aD K H1 a (ns.map V.int)/\((ns= []/\Q .non H1)∨(ns≠ []/\∀M:Int,M∈ns->(∀z∈ns,M<=z)->Q (.int M) H1))
theorem xN {X:Cx} {e:Expr} {te:TE} {p1 pos kp cp:Pos} {cj:Nat} (hc:X.calm=true) (g1:Gl X "min") (m1:X.mg "min" =none) (b1:bootBuiltins "min" =some (.builtin "min")) (he:PE X e te)
  (hs:starEach [e] X.env= [(false,eval e X.env)]:=by rfl):PE X (.Call (.Name "min" p1) [e] [⟨some "default",.Constant .none cj cp,kp⟩] pos) (Bf X.K te):=by
 intro pins s σ H Q I h;apply wpAny_Call_Name_kw;refine dI I g1 m1 b1 ?_ 118 118
 have hb:backTo pos (starEach [e] X.env)= [(false,eval e X.env)]:=by rw[hs];rfl
 rw[hb];refine callWith_builtin_kwB rfl rfl (evalArgs_kwB rfl ?_);refine Calls.spliced_cons (x:=eval e X.env) (rest:= []) (bG (he pins s σ H _ I h) λv s1 (x,H1,I1,r1,a,ns,ex,hl,q)=>?_)
 subst ex;cases r1;refine Calls.spliced_nil (kws_cons (Constant_none (kws_nil ?_)));obtain ⟨its,rv,p,hz⟩:=I1.list hl;have hi:=i6 rv;obtain ⟨xs,ei⟩:=hi.allInts.items;have lst:xs.toList.map (·.1)=ns:=by
  rw[<-hi.numsOf,<-nums_intItems xs,<-ei]
 have len:ns.length=xs.size:=by rw[<-lst,E1,Ep]
 have pl:=p.isList;rw[ei] at pl;have hh:X.A.in1.handled=none:=I1.ok.hd hc;refine kmk_tree PySem.F.kind_min PySem.F.plain_min PySem.F.entry_min (uA _ _) ?_;show wpAny _ X.A.in1 (Builtin.Builtins.bindParams "min" ["key","default"] 0 ⟨[],[(Str.ofString "default",Value.none)]⟩>>=_) _ _ s1;refine wpAny_bind (wpAny_of_eq (show Builtin.Builtins.bindParams "min" ["key","default"] 0 ([],[(Str.ofString "default",Value.none)])=pure [none,some Value.none] from rfl) (wpAny_bind (wpAny_pure ?_)))
 refine wpAny_bind (iter_intList pl λs₂ es st hfp hlI=>?_)
 subst es;refine wpAny_bind (wpAny_newObj_type ?_);have nm:(toString "min" ++toString ".loop" :String)= "min.loop" :=by decide
 rw[nm];have W:=Walks.list (prog:=X.prog) (w:=X.w) (A:=X.A.in1) hh _ a hlI (intItems xs);refine wpAny_pure (plainId_quiet FT _,xM W (numAt xs) (CmpOf.ints_lt (numAt xs) λ_ _=>intItems_at) _ (λhm=>Fh _ (hfp _ hm)) Value.none _ 0 _ none _ rfl (El _) (W.frame _ _ _ st λb _ o e=>Heap.get?_push_of_some _ e) (.inl (rfl,rfl)) (Heap.get?_push_size _ rfl) λv h' tk pr kp=>?_)
 have kept:∀b o,s1.heap.get? b=some o->h'.get? b=some o:=λb o e=>by
  have l1:=Heap.lt_size e;refine kp b o (λhm=>?_) (λz=>?_) (Heap.get?_push_of_some _ (Heap.get?_push_of_some _ e))
  ·rw[EA.mp hm] at l1;exact Fh _ l1
  ·rw[z] at l1;have l2:(s1.heap.push {cls:= .type "list_iterator",data:= .fields #[.ref a,.int 0 0]}).objs.size<s1.heap.objs.size:=l1;rw[Heap.size_push] at l2
   lia
 have sz:(intItems xs).size=ns.length:=by rw[len];simp[intItems]
 rcases q with ⟨e0,q⟩|⟨ne,q⟩
 ·rcases pr with ⟨_,rfl⟩|⟨i,il,_,_⟩
  ·exact (.non,H1,I1.kept (h':=h') (t':=tk) kept,rfl,q)
  ·rw[sz,e0] at il;cases il
 ·rcases pr with ⟨e0,_⟩|⟨i,il,pv,le⟩
  ·rw[sz] at e0;exact absurd (EV e0) ne
  ·obtain ⟨t,rfl⟩:=intItems_at pv;refine (.int _,H1,I1.kept (h':=h') (t':=tk) kept,⟨ν⟩,q _ ?_ λz hz=>?_)
   ·rw[<-lst,numAt_eq];exact getD_mem (by rw[lst,<-sz];exact il)
   ·rw[<-lst] at hz;obtain ⟨j,hj,rfl⟩:=mem_getD hz;have:=le j (by rw[sz,<-lst];exact hj)
    rw[<-numAt_eq];exact this
end L2
namespace Sw
open PySem L2 XH Hm PySem.NumText
def xO (K:E5) (a:Addr) (xs:GQ):Prop:=∃(o:Obj) (its:Array Value) (n:Nat),K.lookup a=some o/\o.cls= .type "tuple" /\o.data= .seq its n/\its.size<=sizeLine/\bC (xs.map V.str) its.toList
theorem xO.sq {K:E5} {a:Addr} {xs:GQ} (h:xO K a xs) (H:Hp):be K H a (xs.map V.str):= .inr h
def iq:RA c6:=λP H v r=>∃t:Addr,v= .ref t/\P t/\match r with
 | .full z F G=>∃lf lb:Addr,P lf/\P lb/\H t=some (.tup [.str "full",.str z,.ref lf,.ref lb])/\cA nQ P H lf F/\cA nQ P H lb G
 | .one w C=>∃c:Addr,P c/\H t=some (.tup [.str w,.ref c])/\H c=some (.lst (C.map V.int))
 | .ways i=>H t=some (.tup [.str "ways",.int i])
instance:Mv iq where
 mv:=λ{P P' H H' v r} g h=>by
  obtain ⟨t,rfl,pt,h⟩:=h;cases r with
  |full z F G=>
   obtain ⟨lf,lb,p1,p2,e,⟨vf,ef,rf⟩,⟨vb,eb,rb⟩⟩:=h;obtain ⟨q0,e'⟩:=g _ _ pt rfl e;obtain ⟨q1,e1⟩:=g _ _ p1 rfl ef;obtain ⟨q2,e2⟩:=g _ _ p2 rfl eb;exact (t,rfl,q0,lf,lb,q1,q2,e',(vf,e1,rf.imp λ_ _ k=>Mv.mv g k),(vb,e2,rb.imp λ_ _ k=>Mv.mv g k))
  |one w C=>
   obtain ⟨c,p1,e,ec⟩:=h;obtain ⟨q0,e'⟩:=g _ _ pt rfl e;obtain ⟨q1,e1⟩:=g _ _ p1 rfl ec;exact (t,rfl,q0,c,q1,e',e1)
  |ways i=>
   obtain ⟨q0,e'⟩:=g _ _ pt rfl h;exact (t,rfl,q0,e')
theorem iq.row {P:Addr->Prop} {H:Hp} {v:V} {r:c6} (h:iq P H v r):∃t,v= .ref t/\jG H t r:=by
 obtain ⟨t,rfl,_,h⟩:=h;cases r with
 |full z F G=>
  obtain ⟨lf,lb,_,_,e,a,b⟩:=h;exact (t,rfl,lf,lb,e,a.any,b.any)
 |one w C=>
  obtain ⟨c,_,e,ec⟩:=h;exact (t,rfl,c,e,ec)
 |ways i=>exact ⟨t,rfl,h⟩
noncomputable def dA:c6->Option Rp
 | .one w C=>if w= "split" then some (.split C) else none
 | .ways i=>some (.ways i)
 | .full _ _ _=>none
theorem eP (w:Str) (C:List Int):dA (.one w C)=if w= "split" then some (.split C) else none:=rfl
abbrev iF:=Pk×List Ky
section
variable (D:Tl) (T:Tk) (A B:List Ky) (n:Int)
noncomputable def eZ (low:Option Int) (c:iF) (r:c6):Bool:=hE D T c.1 ((cH A T c.1 c.2).map fb) 143 low r
noncomputable def eB (low:Option Int) (c:iF) (q:Cs) (r:c6):Option Cs:=match dA r with
 |some w=>if cF D T B c.1 c.2 w=true then some (dD c.1 c.2 w++q) else none
 |none=>if eZ D T A n low c r=true then some q else none
noncomputable def eJ (low:Option Int) (p:Cs) (r:c6):Option Cs:=match p with
 | []=>none
 |c::q=>eB D T A B n low c q r
noncomputable def mF (low:Option Int):Cs->List c6->Option Cs
 |p,[]=>some p
 |p,r::rs=>(eJ D T A B n low p r).bind λq=>mF low q rs
noncomputable def dE:Cs:= [((EY T.length).map λ_=>none,[])]
noncomputable def gb (low:Option Int) (rs:List c6):Bool:=decide (mF D T A B n low (dE T) rs=some [])
end
section
variable {D:Tl} {T:Tk} {A B:List Ky} {n:Int} {low:Option Int}
theorem dO:∀{xs ys:List c6} {p:Cs},mF D T A B n low p (xs++ys)=(mF D T A B n low p xs).bind λq=>mF D T A B n low q ys
 | [],_,_=>rfl
 |x::xs,ys,p=>by
  show (eJ D T A B n low p x).bind _=((eJ D T A B n low p x).bind _).bind _;cases eJ D T A B n low p x with
  |none=>rfl
  |some q=>exact dO (xs:=xs)
theorem j4 {r:c6} {p:Cs}:mF D T A B n low p [r]=eJ D T A B n low p r:=by
 show (eJ D T A B n low p r).bind _=_;cases eJ D T A B n low p r<;>rfl
theorem sO {rs:List c6} {k:Nat} {r:c6} (h:rs[k]?=some r) {p q:Cs} (hq:mF D T A B n low p (rs.take k)=some q):mF D T A B n low p (rs.take (k+1))=eJ D T A B n low q r:=by
 rw[List.take_add_one,h,Option.toList_some,dO,hq];exact j4
theorem sP {rs:List c6} {k:Nat} (h:mF D T A B n low (dE T) (rs.take k)=none):gb D T A B n low rs=false:=by
 unfold gb;rw[<-List.take_append_drop k rs,dO,h];exact decide_eq_false nofun
theorem kJ {rs:List c6} {p:Cs} (h:mF D T A B n low (dE T) rs=some p):gb D T A B n low rs=decide (p= []):=by
 unfold gb;rw[h];cases p with
 |nil=>rfl
 |cons c q=>
  rw[decide_eq_false (show ¬some (c::q)=some [] from λe=>by injection e with e;cases e),decide_eq_false (show ¬(c::q)= [] from nofun)]
structure kQ (T:Tk) (k:Nat) (c:iF):Prop where
 pk:pi T c.1
 len:c.2.length<=k
 ord:∀y∈c.2,∃p q:Int,y= [p,q]/\0<=p/\p<120/\0<=q/\q<120
theorem kQ.ordOk {k:Nat} {c:iF} (h:kQ T k c) (hk:k<=1000):yc c.2 T.length:=⟨by have:=h.len;lia,h.ord⟩
theorem kQ.pairs {k:Nat} {c:iF} (h:kQ T k c) (hk:k<=1000):eM c.2:=⟨by have:=h.len;lia,λy hy=>by
 obtain ⟨p,q,e,_⟩:=h.ord y hy;exact (p,q,e)⟩
theorem kQ.mono {k m:Nat} {c:iF} (h:kQ T k c) (hk:k<=m):kQ T m c:=⟨h.pk,by have:=h.len;lia,h.ord⟩
theorem jH:∀c∈dE T,kQ T 0 c:=λc hc=>by
 rw[EA.mp hc];refine ((by simp,λi j ws h1 h2=>?_),E8 _,nofun)
 dsimp only at h1;rw[EB] at h1;obtain ⟨a,_,e⟩:=E7.mp h1;cases e
theorem mG {k:Nat} {c:iF} {w:Rp} (hr:cF D T B c.1 c.2 w=true) (h:kQ T k c):∀c'∈dD c.1 c.2 w,kQ T (k+1) c':=by
 intro c' hc;cases w with
 |split S=>
  replace hc:c'∈dC c.1 c.2 S S:=hc;unfold dC at hc;rw[List.mem_flatMap] at hc;obtain ⟨i,hi,hc⟩:=hc;obtain ⟨j,hj,rfl⟩:=EO.mp hc;have hj:=(Fc.mp hj).1;have:(!bP c.2 S&&b7 D T B c.1 S)=true:=hr;unfold b7 at this;simp only[EK] at this;obtain ⟨rg,_⟩:=eK this.2.1.1;refine (h.pk,by rw[E3];have:=h.len;show c.2.length+1<=_;lia,λy hy=>?_)
  rcases EJ.mp hy with z|z
  ·exact h.ord y z
  ·rw[EA.mp z];exact (i,j,rfl,(rg i hi).1,(rg i hi).2,(rg j hj).1,(rg j hj).2)
 |ways i=>
  have hw:iE T c.1 i=true:=hr;unfold iE at hw;simp only[EK,decide_eq_true_eq] at hw;obtain ⟨⟨i0,i1⟩,l2,pn⟩:=hw;have key:∀j:Nat,j<2->kQ T (k+1) (c.1.set i.toNat (some j),c.2):=λj hj=>by
   refine ((by rw[List.length_set];exact h.pk.len,λa b ws h1 h2=>?_),by have:=h.len;show c.2.length<=_;lia,h.ord)
   by_cases e:a=i.toNat
   ·subst e;have il:i.toNat<c.1.length:=by rw[h.pk.len];lia
    dsimp only at h1;rw[List.getElem?_set_self il] at h1;injection h1 with h1
    injection h1 with h1
    rw[Et,h2] at l2;have:ws.length=2:=l2
    lia
   ·dsimp only at h1;rw[List.getElem?_set_ne (λz=>e z.symm)] at h1
    exact h.pk.pick a b ws h1 h2
  replace hc:c'∈ [(c.1.set i.toNat (some 0),c.2),(c.1.set i.toNat (some 1),c.2)]:=hc;simp only[EI,Ef,or_false] at hc;rcases hc with rfl|rfl
  ·exact key 0 118
  ·exact key 1 118
theorem we {k:Nat} {p q:Cs} {r:c6} (h:eJ D T A B n low p r=some q) (hp:∀c∈p,kQ T k c):∀c∈q,kQ T (k+1) c:=by
 cases p with
 |nil=>cases h
 |cons c0 p0=>
  have rest:∀c∈p0,kQ T (k+1) c:=λc hc=>(hp c (EZ _ hc)).mono (Ft _)
  replace h:eB D T A B n low c0 p0 r=some q:=h;unfold eB at h;cases hi:dA r with
  |some w=>
   rw[hi] at h;dsimp only at h
   by_cases c1:cF D T B c0.1 c0.2 w=true
   ·rw[if_pos c1] at h;injection h with h
    subst h;intro c hc;rcases EJ.mp hc with z|z
    ·exact mG c1 (hp c0 Ej) c z
    ·exact rest c z
   ·rw[if_neg c1] at h;cases h
  |none=>
   rw[hi] at h;dsimp only at h
   by_cases c1:eZ D T A n low c0 r=true
   ·rw[if_pos c1] at h;injection h with h
    subst h;exact rest
   ·rw[if_neg c1] at h;cases h
theorem rc:∀{rs:List c6} {k:Nat} {p q:Cs},mF D T A B n low p rs=some q->(∀c∈p,kQ T k c)->∀c∈q,kQ T (k+rs.length) c
 | [],k,p,q,h,hp=>by
  injection h with h
  subst h;exact hp
 |r::rs,k,p,q,h,hp=>by
  obtain ⟨p1,h1,h2⟩:=Ei.mp h;intro c hc;have:=rc h2 (we h1 hp) c hc;exact this.mono (by rw[ER];lia)
def gh (r:c6):Prop:=jO r/\∀w,dA r=some w->v7 w
theorem wg {p q:Cs} {r:c6} (h:eJ D T A B n low p r=some q) (ok:gh r):q.length<=p.length+64:=by
 cases p with
 |nil=>cases h
 |cons c0 p0=>
  replace h:eB D T A B n low c0 p0 r=some q:=h;unfold eB at h;cases hi:dA r with
  |some w=>
   rw[hi] at h;dsimp only at h
   by_cases c1:cF D T B c0.1 c0.2 w=true
   ·rw[if_pos c1] at h;injection h with h
    subst h;have:=fZ (P:=c0.1) (O:=c0.2) (ok.2 w hi);rw[E3,ER]
    lia
   ·rw[if_neg c1] at h;cases h
  |none=>
   rw[hi] at h;dsimp only at h
   by_cases c1:eZ D T A n low c0 r=true
   ·rw[if_pos c1] at h;injection h with h
    subst h;rw[ER]
    lia
   ·rw[if_neg c1] at h;cases h
theorem rj:∀{rs:List c6} {p q:Cs},mF D T A B n low p rs=some q->(∀r∈rs,gh r)->q.length<=p.length+64*rs.length
 | [],p,q,h,_=>by
  injection h with h
  subst h;exact E8 _
 |r::rs,p,q,h,ok=>by
  obtain ⟨p1,h1,h2⟩:=Ei.mp h;have a:=wg h1 (ok r Ej);have b:=rj h2 λx hx=>ok x (EZ _ hx)
  rw[ER]
  lia
end
def wj (C:Addr):Sp:=λvs H Q _=>∃(x l:Addr) (low:Option Int) (D:Tl) (T:Tk) (A B:List Ky) (n:Int) (rs:List c6),vs= [.ref x,oV low,.ref l]/\fN C false H x D T A B n/\gw D T A B n/\cA iq An H l rs/\(∀r∈rs,gh r)/\A.length+2*T.length+rs.length<=700/\∀H',aE H H'->Q (.bl (gb D T A B n low rs)) H'
noncomputable def hJ (r:c6):Bool:=(dA r).isSome
def kK:Sp:=λvs H Q _=>∃(l:Addr) (rs:List c6),vs= [.ref l]/\cA iq An H l rs/\(∀r∈rs,jO r)/\rs.length<=1000/\∀H',aE H H'->Q (.int ((rs.filter hJ).length:Nat)) H'
theorem eC {H:Hp} {t:Addr} {r:c6} (h:jG H t r) (ok:jO r):∃w ys,H t=some (.tup (.str w::ys))/\(w= "split" ∨w= "ways" ↔hJ r=true):=by
 cases r with
 |full z F G=>
  obtain ⟨lf,lb,e,_,_⟩:=h;exact ⟨_,_,e,⟨λz=>by rcases z with z|z<;>exact absurd z 118,λz=>by cases z⟩⟩
 |one w C=>
  obtain ⟨c,e,ec⟩:=h;exists w,_,e;unfold hJ;rw[eP]
  by_cases c1:w= "split"
  ·rw[if_pos c1];exact (λ_=>rfl,λ_=> .inl c1)
  ·rw[if_neg c1];refine (λz=>?_,λz=>by cases z)
   rcases z with z|z
   ·exact absurd z c1
   ·exfalso;obtain ⟨hw,_⟩:=ok;subst z;rcases hw with z|z|z<;>exact absurd z 118
 |ways i=>exact ⟨_,_,h,⟨λ_=>rfl,λ_=> .inr rfl⟩⟩
theorem sQ {H:Hp} {t:Addr} {r:c6} {w:Rp} (h:jG H t r) (hw:dA r=some w):xJ H t w:=by
 cases r with
 |full z F G=>cases hw
 |one v C=>
  rw[eP] at hw
  by_cases c1:v= "split"
  ·rw[if_pos c1] at hw;cases hw;subst c1;exact h
  ·rw[if_neg c1] at hw;cases hw
 |ways i=>
  cases hw;exact h
theorem A2.unsnoc {α:Type} {R:V->α->Prop} {us:List V} {xs:List α} {x:α} (h:A2 R us (xs++ [x])):∃us0 u,us=us0++ [u]/\R u x/\A2 R us0 xs:=by
 have l:=h.1;rw[E3] at l;rcases List.eq_nil_or_concat us with rfl|⟨us0,u,rfl⟩
 ·simp at l
 ·rw[List.concat_eq_append] at h l⊢;have l0:us0.length=xs.length:=by simpa using l
  exists us0,u,rfl,h.2 us0.length u x 147 (by rw[l0];simp)
  have:=h.take us0.length
  rwa [List.take_left' rfl,List.take_left' l0.symm] at this
theorem wE.rn {H0 H:Hp} {l lp:Addr} {us:List V} {o:HO} {z:(Addr×Addr×Addr)×(Pk×List Ky)} (h:wE H0 H l z) (e0:H0 lp=some o) (e:H lp=some (.lst us)):cX (λa=>a≠lp) H (.ref z.1.1) z.2:=by
 obtain ⟨as,e3,r⟩:=h.eo;have nt:∀{a:Addr} {xs:List V},H a=some (.tup xs)->a≠lp:=λha q=>by rw[q,e] at ha;cases ha
 have nn:∀{a:Addr},H0 a=none->a≠lp:=λha q=>by rw[q,e0] at ha;cases ha
 refine (z.1.1,z.1.2.1,z.1.2.2,rfl,nt h.e,nn h.n1,nn h.n2,h.e,h.ep,_,e3,by rw[E1];exact r.1,λi v k h1 h2=>?_)
 obtain ⟨a,ha,rfl⟩:=cP h1;have:=r.2 i a k ha h2;exact (a,rfl,nt this,this)
theorem pQ.rn {H0 H:Hp} {l lp:Addr} {us:List V} {o:HO} {zs:List ((Addr×Addr×Addr)×(Pk×List Ky))} (h:pQ H0 H l zs) (e0:H0 lp=some o) (e:H lp=some (.lst us)):A2 (cX (λa=>a≠lp) H) (zs.map λz=>V.ref z.1.1) (zs.map (·.2)):=by
 refine (by rw[E1,E1],λi v c h1 h2=>?_)
 rw[EB] at h1 h2;obtain ⟨z,hz,rfl⟩:=E7.mp h1;obtain ⟨z',hz',rfl⟩:=E7.mp h2;rw[hz] at hz';cases hz';exact (h.each z (E4 hz)).rn e0 e
end Sw
namespace L2
open PySem PySem.Spec PyProof.Rows XH
theorem sR {X:Cx} {K:E5} (h:X.K=K):gJ X (compareOp .In) (Cw K false):=by
 subst h;exact b9
end L2
namespace Sw
open PySem L2 XH Hm PySem.NumText
def yY:RA Unit:=λ_ _ _ _=>True
instance:Mv yY where
 mv:=λ_ h=>h
theorem yd {r:c6} {w:Str} (iw:w= "split" ∨w= "ways" ↔hJ r=true):qd (.str w) ((["split","ways"]:GQ).map V.str)=hJ r:=by
 rw[sj,F4,decide_eq_true_eq,<-iw];simp
theorem pS {α:Type} (rs:List α) (d:α) (pr:α->Bool):(df rs.length (λi=>pr (rs.getD i d)) λ_=>()).length=(rs.filter pr).length:=by
 unfold df;rw[E1];have:(rs.filter pr).length=(((EY rs.length).map λi=>rs.getD i d).filter pr).length:=by rw[bO]
 rw[this,List.filter_map,E1]
 rfl
structure CF (n0 n1:Str) (us:List Us):Prop where
 len:us.length<=2
 nd:(us.map (·.1)).Nodup
 use:∀e∈us,(e.1=n0∨e.1=n1)/\1<=e.2.1/\e.2.1<=2/\0<=e.2.2/\e.2.2<=180
def CG (n0 n1:Str) (w:Wy):Prop:=1<=w.1/\w.1<=w.2.1/\w.2.1<=1000000000/\CF n0 n1 w.2.2
def sS:Sp:=λvs H Q _=>∃(c f:Int) (ln:Addr) (n0 n1:Str),vs= [.int c,.ref ln,.int f]/\H ln=some (.lst [.str n0,.str n1])/\n0≠n1/\1<=f/\f<=10000019/\∀(v:V) (w:Wy) (H':Hp),aE H H'->iu (λa=>H a=none) H' v w->CG n0 n1 w->Q v H'
theorem wm {n0 n1:Str} {m0 m1:Int} (ne:n0≠n1) (h0:2<=m0) (h1:2<=m1) {w:Wy} (h:CG n0 n1 w):1<=w.1/\w.1<=w.2.1/\w.2.1<=1000000000/\yP [(n0,m0),(n1,m1)] w.2.2:=by
 obtain ⟨a,b,c,u⟩:=h;refine (a,b,c,u.nd,by have:=u.len;lia,λe he=>?_)
 obtain ⟨k,k1,k2,k3,k4⟩:=u.use e he;rcases k with k|k
 ·refine (m0,?_,k1,by lia,k3,by lia)
  unfold cT;rw[k];simp
 ·refine (m1,?_,k1,by lia,k3,by lia)
  unfold cT;rw[k];simp[ne]
def pT (K:E5):Sp:=λvs H Q _=>∃(a:Addr) (ns:List Int),vs= [.ref a]/\aD K H a (ns.map V.int)/\ns.length<=63/\∀(tp td tl la lp:Addr) (n0 n1:Str) (m0 m1 mo:Int) (T:Tk) (A:List Ky) (ps:List (Int×Int)) (H':Hp),aE H H'->H' tp=some (.tup [.ref td,.ref tl,.ref la,.ref lp,.int mo])->H' td=some (.dK (bL [(n0,m0),(n1,m1)]))->cA fG An H' tl T->bq H' la A->bq H' lp (bn ps)->n0≠n1->1<=T.length->T.length<=4->A.length<=63->(∀p∈ps,p.1≠p.2)->gw [(n0,m0),(n1,m1)] T A (bn ps) mo->Q (.ref tp) H'
theorem xP {K:E5} {β:Type} {l1:Addr} {xs:List V} {n:Nat} {g:TG} {js:List Nat} {te:TE} {σ:L2.St} {H1:Hp} {Q:VK} (R:RA β) [Mv R] (Z:Addr->Prop) (f:Nat->β) (q1:aD K H1 l1 xs) (hz:xs.length<=sizeLine) (hZ:∀a,Z a->H1 a≠none)
  (step:∀(i:Nat) (x:V),xs[i]?=some x->∀H2,aE H1 H2->∀o:L2.St,o.length=n->∀Q':VK,(∀v H5,aE H2 H5->R (λa=>H2 a=none∨Z a) H5 v (f i)->Q' v H5)->
   g x (o++aP js σ) H2 λσ4 H4=>(∃o':L2.St,o'.length=n/\σ4=o'++aP js σ)/\te σ4 H4 Q')
  (fin:∀p H',H1 p=none->aE H1 H'->cA R (λa=>a≠p/\(H1 a=none∨Z a)) H' p ((EY xs.length).map f)->Q (.ref p) H'):qI n g js te σ Q (wI K l1) H1:=by
 intro p hp;exists λi m zs H2=>i<=xs.length/\m=xs.length-i/\aE H1 H2/\H2 p=some (.lst zs)/\A2 (R (λa=>a≠p/\(H1 a=none∨Z a)) H2) zs ((EY i).map f),(xs.length,El _,rfl,Sw.ac hp _,ae,A2.nil)
 rintro i m zs H2 ⟨hi,rfl,gg,e,r⟩;exists e;have s1:=gg.seq q1
 by_cases hin:i<xs.length
 ·refine .inr ((xs,xs[i]'(by lia),s1,E2 _),?_,λx H3 hy o ho=>?_)
  ·have:=r.1;rw[E1,F6] at this
   lia
  obtain ⟨rfl,hx⟩:=hy;refine step i x (hx xs s1) H3 gg o ho _ λv H5 g25 ry=>?_
  exists g25 _ _ e,xs.length-(i+1),by lia,hin,rfl,Sw.dJ (gg.trans g25) hp _,ae
  rw[Fw,EU];have np:¬(p≠p/\(H1 p=none∨Z p)):=λz=>z.1 rfl
  refine ((r.imp λv b q=>de q g25).snoc (ku ry λa ha=>?_)).imp λv b q=>kY q np _
  rcases ha with h|h
  ·exact ((λz=>by rw[z,e] at h;cases h),.inl (gg.free h))
  ·exact (λz=>hZ a h (z▸hp),.inr h)
 ·have e2:i=xs.length:=by lia
  subst e2;exact .inl ((xs,s1,E8 _),fin p H2 hp gg (zs,e,r))
structure pU (H:Hp) (tp:Addr) (D:Tl) (T:Tk) (A:List Ky) (ps:List (Int×Int)):Prop where
 ex:∃td tl la pl:Addr,H tp=some (.tup [.ref td,.ref tl,.ref la,.ref pl])/\H td=some (.dK (bL D))/\cA fG An H tl T/\bq H la A/\bq H pl (bn ps)
theorem pU.same {H H':Hp} {tp:Addr} {D:Tl} {T:Tk} {A:List Ky} {ps:List (Int×Int)} (h:pU H tp D T A ps) (g:aE H H'):pU H' tp D T A ps:=by
 obtain ⟨td,tl,la,pl,a,b,c,d,e⟩:=h.ex;exact (td,tl,la,pl,g _ _ a,g _ _ b,c.same g,d.same g,e.same g)
structure qf (H:Hp) (tp t:Addr) (D:Tl) (T:Tk) (A:List Ky) (ps:List (Int×Int)) (n:Int) (c:iF):Prop where
 part:pU H tp D T A ps
 cs:eV H t c.1 c.2
 ok:gw D T A (bn ps) n
 cok:kQ T 400 c
 t1:1<=T.length
 t4:T.length<=4
 ne:∀p∈ps,p.1≠p.2
 a63:A.length<=63
 d2:D.length=2
theorem qf.same {H H':Hp} {tp t:Addr} {D:Tl} {T:Tk} {A:List Ky} {ps:List (Int×Int)} {n:Int} {c:iF} (h:qf H tp t D T A ps n c) (g:aE H H'):qf H' tp t D T A ps n c:=⟨h.part.same g,h.cs.same g,h.ok,h.cok,h.t1,h.t4,h.ne,h.a63,h.d2⟩
def pV:Sp:=λvs H Q _=>∃(tp t:Addr) (D:Tl) (T:Tk) (A:List Ky) (ps:List (Int×Int)) (n:Int) (c:iF),vs= [.ref tp,.ref t]/\qf H tp t D T A ps n c/\∀(l:Addr) (Ss:List (List Int)) (H':Hp),aE H H'->uv H' l Ss->Ss.length<=16->(∀S∈Ss,S.length<=4/\cF D T (bn ps) c.1 c.2 (.split S)=true)->Q (.ref l) H'
theorem uB {O:List Ky} {S:List Int}:((EY O.length).map λi=> !decide ((O.getD i []).getD 0 0∈S)|| !decide ((O.getD i []).getD 1 0∈S)).all id= !bP O S:=by
 unfold bP;rw[List.all_map]
 conv=>rhs;rw[<-bO O []]
 rw[List.any_map,List.not_any_eq_all_not]
 congr 1
 funext i
 show (_||_)= !(_&&_);rw[Bool.not_and]
def Bg (D:Tl) (T:Tk) (B:List Ky) (c:iF) (r:c6):Prop:=gh r/\∃w,dA r=some w/\cF D T B c.1 c.2 w=true
def sT:Sp:=λvs H Q _=>∃(tp t:Addr) (x:Int) (D:Tl) (T:Tk) (A:List Ky) (ps:List (Int×Int)) (n:Int) (c:iF),vs= [.ref tp,.ref t,.int x]/\qf H tp t D T A ps n c/\∀(v:V) (H':Hp),aE H H'->(v= .non∨∃r,iq (λa=>H a=none) H' v r/\Bg D T (bn ps) c r)->Q v H'
theorem rC {D:Tl} {T:Tk} {ps:List (Int×Int)} {P:Pk} (ok:∀ws∈T,kZ D ws) (pk:pi T P) (pne:∀p∈ps,p.1≠p.2) {S S':List Int} (pm:S'.Perm S) (hc:b7 D T (bn ps) P S=true):b7 D T (bn ps) P S'=true:=by
 have hu:bu T S=true:=by
  unfold b7 at hc;rw[EK,EK] at hc;exact hc.1.1
 obtain ⟨rg,nd⟩:=eK hu;have nd':=pm.nodup_iff.mpr nd;have rg':∀i∈S',0<=i/\i<(T.length:Int):=λi hi=>rg i (pm.mem_iff.mp hi)
 unfold b7 at hc⊢;rw[<-Bool.or_assoc,iM ok pk pne rg nd] at hc;rw[<-Bool.or_assoc,iM ok pk pne rg' nd'];rw[EK,EK,decide_eq_true_eq,Bool.or_eq_true] at hc⊢;exists (?_,by rw[pm.length_eq];exact hc.1.2)
 ·unfold bu;rw[EK,ED,decide_eq_true_eq];refine (λi hi=>?_,nd')
  have:=rg' i hi;rw[decide_eq_true this.1,decide_eq_true this.2]
  rfl
 ·rcases hc.2 with q|q
  ·left;rw[Ee] at q⊢;obtain ⟨i,hi,q⟩:=q;rw[Ee] at q;obtain ⟨j,hj,q⟩:=q;exists i,pm.mem_iff.mpr hi;rw[Ee];exact (j,pm.mem_iff.mpr hj,q)
  ·right;unfold gX at q⊢;rw[Ee] at q⊢;obtain ⟨p,hp',q⟩:=q;exists p,hp';rw[decide_eq_true_eq] at q⊢;have:(S'.map λi=>gW T P i.toNat p.1).sum=(S.map λi=>gW T P i.toNat p.1).sum:=wa (pm.map _)
   lia
theorem rD {O:List Ky} {S S':List Int} (pm:S'.Perm S):bP O S'=bP O S:=by
 unfold bP
 congr 1
 funext k
 have h:∀x:Int,decide (x∈S')=decide (x∈S):=λx=>by rw[F4,decide_eq_true_eq,decide_eq_true_eq];exact pm.mem_iff
 rw[h,h]
theorem rE {D:Tl} {T:Tk} {ps:List (Int×Int)} {P:Pk} {O:List Ky} (ok:∀ws∈T,kZ D ws) (pk:pi T P) (pne:∀p∈ps,p.1≠p.2) {S S':List Int} (pm:S'.Perm S) (h:cF D T (bn ps) P O (.split S)=true):cF D T (bn ps) P O (.split S')=true:=by
 replace h:(!bP O S&&b7 D T (bn ps) P S)=true:=h;show (!bP O S'&&b7 D T (bn ps) P S')=true;rw[EK] at h⊢;exact (by rw[rD pm];exact h.1,rC ok pk pne pm h.2)
theorem uC {D:Tl} {T:Tk} {B:List Ky} {P:Pk} {O:List Ky} {S:List Int} (h:cF D T B P O (.split S)=true):2<=S.length:=by
 replace h:(!bP O S&&b7 D T B P S)=true:=h;unfold b7 at h;simp only[EK,decide_eq_true_eq] at h;exact h.2.1.2
theorem uD (S:List Int) (k:Nat):(S.drop k++S.take k).Perm S:=by
 have:=List.perm_append_comm (l₁:=S.drop k) (l₂:=S.take k);rw[List.take_append_drop] at this;exact this
abbrev fj (T:Tk) (A:List Ky) (c:iF):List Ky:=cH A T c.1 c.2
structure pW (D:Tl) (T:Tk) (A:List Ky) (n:Int) (c:iF) (r:c6) (o:Option Int):Prop where
 ok:gh r
 lf:dA r=none
 bd:(o=none/\∃C,r= .one "ring" C/\(cV 143 C&&uy (gS ((fj T A c).map fb) C))=true)∨∃v,o=some v/\jj r/\c8 D T c.1 ((fj T A c).map fb) 143 r=some v
theorem uE {D:Tl} {T:Tk} {A:List Ky} {n:Int} {c:iF} {r:c6} {o low:Option Int} (h:pW D T A n c r o) (hl:∀v,o=some v->∃l,low=some l/\l<=v):eZ D T A n low c r=true:=by
 unfold eZ;rcases h.bd with ⟨_,C,rfl,e⟩|⟨v,ho,nr,e⟩
 ·rw[gE];exact e
 ·obtain ⟨l,rfl,le⟩:=hl v ho;rw[io nr,e];exact decide_eq_true le
theorem mH {due:List Ky} {p q:Int} {E:List Int} (h:∃g,[p,q,g]∈due) (k:em due (q::E)):∀{C:List Int},em due (C++ [p])->em due (C++ [p]++q::E)
 | [],_=>⟨h,k⟩
 | [x],z=>⟨z.1,h,k⟩
 |x::y::r,z=>⟨z.1,mH h k (C:=y::r) z.2⟩
theorem sU {T:Tk} {P:Pk}:∀{m i:Nat},i<m-> [2*(i:Int),2*(i:Int)+1,gU ((bi T P i).map (·.1))]∈cU T P m/\ [2*(i:Int)+1,2*(i:Int),-(k8 ((bi T P i).map (·.2.1)))]∈cU T P m
 |0,i,h=>absurd h (Nat.not_lt_zero _)
 |m+1,i,h=>by
  show _∈cU T P m++_/\_∈cU T P m++_
  by_cases e:i=m
  ·subst e;exact (E9 _ Ej,E9 _ (EZ _ Ej))
  ·have:=sU (T:=T) (P:=P) (m:=m) (i:=i) (by lia)
   exact (Ff _ this.1,Ff _ this.2)
theorem wo {T:Tk} {A:List Ky} {c:iF} {i:Nat} (h:i<T.length):∃g,[2*(i:Int),2*(i:Int)+1,g]∈fj T A c:=⟨_,Ff _ (E9 _ (sU h).1)⟩
theorem qf.trip {H:Hp} {tp t:Addr} {D:Tl} {T:Tk} {A:List Ky} {ps:List (Int×Int)} {n:Int} {c:iF} (h:qf H tp t D T A ps n c):sH 143 (fj T A c):=by
 have n0:=h.ok.n0;exact pL (λk hk=>h.ok.arcs k hk) h.ok.a600 h.ok.t24 (h.cok.ordOk 118) (by lia)
theorem qf.trF {H:Hp} {tp t:Addr} {D:Tl} {T:Tk} {A:List Ky} {ps:List (Int×Int)} {n:Int} {c:iF} (h:qf H tp t D T A ps n c):∀k∈fj T A c,∃p q g:Int,k= [p,q,g]:=gD h.ok.trip
theorem qf.l7 {H:Hp} {tp t:Addr} {D:Tl} {T:Tk} {A:List Ky} {ps:List (Int×Int)} {n:Int} {c:iF} (h:qf H tp t D T A ps n c):A.length+2*T.length+c.2.length<=700:=by
 have:=h.a63;have:=h.t4;have:=h.cok.len
 lia
theorem wp {D:Tl}:(bL D).map (·.1)=(D.map (·.1)).map (λy=>(.inr y:Key)):=by
 unfold bL;rw[EH,EH]
 rfl
theorem pX {D:Tl} (nd:(D.map (·.1)).Nodup) {z:Str} (h:z∈D.map (·.1)):∃p∈D,p.1=z/\cT D z=some p.2:=by
 unfold cT;cases e:D.find? λp=>decide (p.1=z) with
 |none=>
  exfalso;obtain ⟨p,hp,rfl⟩:=EO.mp h;have:=List.find?_eq_none.mp e p hp;simp at this
 |some p=>
  have:=List.find?_some e;exact (p,Fv e,by simpa using this,rfl)
def kL:Sp:=λvs H Q _=>∃(t r:Addr) (w:Rp) (P:Pk) (O:List Ky) (Z:Addr->Prop),vs= [.ref t,.ref r]/\cX Z H (.ref t) (P,O)/\eM O/\P.length<=24/\xJ H r w/\v7 w/\(∀i,w= .ways i->0<=i/\i<(P.length:Int))/\∀(l:Addr) (H':Hp),aE H H'->H l=none->cA cX (λa=>a≠l/\(H a=none∨Z a)) H' l (dD P O w)->Q (.ref l) H'
structure pY (H:Hp) (tp:Addr) (D:Tl) (T:Tk) (A:List Ky) (ps:List (Int×Int)) (n:Int):Prop where
 part:pU H tp D T A ps
 ok:gw D T A (bn ps) n
 t1:1<=T.length
 t4:T.length<=4
 ne:∀p∈ps,p.1≠p.2
 a63:A.length<=63
 d2:D.length=2
theorem pY.same {H H':Hp} {tp:Addr} {D:Tl} {T:Tk} {A:List Ky} {ps:List (Int×Int)} {n:Int} (h:pY H tp D T A ps n) (g:aE H H'):pY H' tp D T A ps n:=⟨h.part.same g,h.ok,h.t1,h.t4,h.ne,h.a63,h.d2⟩
theorem pY.pc {H:Hp} {tp t:Addr} {D:Tl} {T:Tk} {A:List Ky} {ps:List (Int×Int)} {n:Int} {c:iF} (h:pY H tp D T A ps n) (hc:eV H t c.1 c.2) (ok:kQ T 400 c):qf H tp t D T A ps n c:=⟨h.part,hc,h.ok,ok,h.t1,h.t4,h.ne,h.a63,h.d2⟩
inductive wq (D:Tl) (T:Tk) (A B:List Ky) (n:Int):Nat->List c6->List Int->Cs->Prop
 |nil:wq D T A B n 0 [] [] (dE T)
 |inn {m:Nat} {rs:List c6} {ts:List Int} {c:iF} {q:Cs} {r:c6} {w:Rp}:wq D T A B n m rs ts (c::q)->gh r->dA r=some w->cF D T B c.1 c.2 w=true->wq D T A B n (m+1) (rs++ [r]) ts (dD c.1 c.2 w++q)
 |leaf {m:Nat} {rs:List c6} {ts:List Int} {c:iF} {q:Cs} {r:c6} {o:Option Int}:wq D T A B n m rs ts (c::q)->pW D T A n c r o->wq D T A B n m (rs++ [r]) (ts++o.toList) q
def sV (low:Option Int) (ts:List Int):Prop:=∀t∈ts,∃l,low=some l/\l<=t
section
variable {D:Tl} {T:Tk} {A B:List Ky} {n:Int} {m:Nat} {rs:List c6} {ts:List Int} {q:Cs}
theorem wu {low:Option Int} {c:iF} {q:Cs} {r:c6} {w:Rp} (hi:dA r=some w) (hr:cF D T B c.1 c.2 w=true):eJ D T A B n low (c::q) r=some (dD c.1 c.2 w++q):=by
 show eB D T A B n low c q r=_;unfold eB;rw[hi];exact if_pos hr
theorem uF {low:Option Int} {c:iF} {q:Cs} {r:c6} (hi:dA r=none) (hr:eZ D T A n low c r=true):eJ D T A B n low (c::q) r=some q:=by
 show eB D T A B n low c q r=_;unfold eB;rw[hi];exact if_pos hr
theorem rG (h:wq D T A B n m rs ts q) {low:Option Int} (hl:sV low ts):mF D T A B n low (dE T) rs=some q:=by
 induction h with
 |nil=>rfl
 |inn h ok hi hr ih=>
  rw[dO,ih hl];show mF D T A B n low _ [_]=_;rw[j4];exact wu hi hr
 |leaf h lf ih=>
  rw[dO,ih λt ht=>hl t (Ff _ ht)]
  show mF D T A B n low _ [_]=_;rw[j4];exact uF lf.lf (uE lf λv hv=>hl v (E9 _ (by rw[hv];exact EA.mpr rfl)))
theorem rH (h:wq D T A B n m rs ts q):(∀r∈rs,gh r)/\(rs.filter hJ).length=m/\q.length<=1+64*m/\∀c∈q,kQ T m c:=by
 induction h with
 |nil=>exact ⟨λr hr=>(by cases hr),rfl,E8 _,jH⟩
 | @inn m rs ts c q r w h ok hi hr ih=>
  obtain ⟨i1,i2,i3,i4⟩:=ih;refine (λx hx=>?_,?_,?_,λc' hc=>?_)
  ·rcases EJ.mp hx with z|z
   ·exact i1 x z
   ·rw[EA.mp z];exact ok
  ·rw[List.filter_append,E3,i2,List.filter_cons_of_pos (by unfold hJ;rw[hi];rfl)]
   rfl
  ·have:=fZ (P:=c.1) (O:=c.2) (ok.2 w hi);rw[E3];rw[ER] at i3
   lia
  ·rcases EJ.mp hc with z|z
   ·exact mG hr (i4 c Ej) c' z
   ·exact (i4 c' (EZ _ z)).mono (Ft _)
 | @leaf m rs ts c q r o h lf ih=>
  obtain ⟨i1,i2,i3,i4⟩:=ih;refine (λx hx=>?_,?_,?_,λc' hc=>i4 c' (EZ _ hc))
  ·rcases EJ.mp hx with z|z
   ·exact i1 x z
   ·rw[EA.mp z];exact lf.ok
  ·rw[List.filter_append,E3,i2,List.filter_cons_of_neg (by unfold hJ;rw[lf.lf];decide)]
   rfl
  ·rw[ER] at i3
   lia
theorem wx {c:iF}:pW D T A n c (.one "chain" []) (some 0):=by
 refine (((.inl rfl,by simp),λw hw=>by cases hw),rfl,.inr (0,rfl,(show ("chain" :Str)≠ "ring" by decide),?_))
 rw[fK]
 rfl
end
theorem mI {D:Tl} {T:Tk} {A B:List Ky} {n:Int} {low:Option Int} {rs:List c6} (h:mF D T A B n low (dE T) rs=some []):gb D T A B n low rs=true:=by
 rw[kJ h]
 rfl
def mJ (D:Tl) (T:Tk) (r:c6):Prop:=∀z F G,r= .full z F G->∃(S:List Int) (m:Int),cT D z=some m/\S≠ []/\S.Nodup/\S.length<=4/\(∀i∈S,0<=i/\i<120)/\F=S.map (λi=> [2*i])/\G=S.map λi=> [2*i+1]
def xQ (r:c6):Prop:=∀w C,r= .one w C->C.length<=8/\(w= "split" ->C.length<=4)
structure xR (D:Tl) (T:Tk) (r:c6):Prop where
 ok:gh r
 fs:mJ D T r
 os:xQ r
inductive gI (D:Tl) (T:Tk) (A B:List Ky) (n:Int):Nat->List c6->List Int->Cs->Prop
 |nil:gI D T A B n 0 [] [] (dE T)
 |inn {m:Nat} {rs:List c6} {ts:List Int} {c:iF} {q:Cs} {r:c6} {w:Rp}:gI D T A B n m rs ts (c::q)->gh r->dA r=some w->cF D T B c.1 c.2 w=true->gI D T A B n (m+1) (rs++ [r]) ts (dD c.1 c.2 w++q)
 |leaf {m:Nat} {rs:List c6} {ts:List Int} {c:iF} {q:Cs} {r:c6} {o:Option Int}:gI D T A B n m rs ts (c::q)->pW D T A n c r o/\mJ D T r/\xQ r->gI D T A B n m (rs++ [r]) (ts++o.toList) q
section
variable {D:Tl} {T:Tk} {A B:List Ky} {n:Int} {m:Nat} {rs:List c6} {ts:List Int} {q:Cs}
theorem gI.p (h:gI D T A B n m rs ts q):wq D T A B n m rs ts q:=by
 induction h with
 |nil=>exact .nil
 |inn h ok hi hr ih=>exact .inn ih ok hi hr
 |leaf h lf ih=>exact .leaf ih lf.1
theorem uG:∀{k:Nat} {S:List Int},S.Nodup->(∀i∈S,0<=i/\i<(k:Int))->S.length<=k:=λ{k S} nd rg=>by
 have sub:∀i∈S,i∈(EY k).map λj:Nat=>(j:Int):=λi hi=>by
  have:=rg i hi;exact EO.mpr (i.toNat,Ew.mpr (by lia),by lia)
 have key:∀(S R:List Int),S.Nodup->(∀i∈S,i∈R)->S.length<=R.length:=by
  intro S
  induction S with
  |nil=>exact λ_ _ _=>El _
  |cons x S ih=>
   intro R nd sub;have h1:=Fb.mp nd;have mx:=sub x Ej;have:=ih (R.erase x) h1.2 λi hi=>(List.mem_erase_of_ne (λe=>h1.1 (by rw[<-e];exact hi))).mpr (sub i (EZ _ hi))
   rw[List.length_erase_of_mem mx] at this;have:=List.length_pos_of_mem mx;rw[ER]
   lia
 have:=key S _ nd sub
 rwa [E1,F6] at this
theorem split_len {P:Pk} {O:List Ky} {S:List Int} (h:cF D T B P O (.split S)=true):S.length<=T.length:=by
 replace h:(!bP O S&&b7 D T B P S)=true:=h;unfold b7 at h;simp only[EK] at h;obtain ⟨rg,nd⟩:=eK h.2.1.1;exact uG nd rg
theorem gI.rows (t4:T.length<=4) (h:gI D T A B n m rs ts q):∀r∈rs,xR D T r:=by
 induction h with
 |nil=>exact λr hr=>by cases hr
 | @inn m rs ts c q r w h ok hi hr ih=>
  intro x hx;rcases EJ.mp hx with z|z
  ·exact ih x z
  ·rw[EA.mp z];refine (ok,λz F G e=>(by subst e;cases hi),λv C e=>?_)
   subst e;rw[eP] at hi
   by_cases c1:v= "split"
   ·rw[if_pos c1] at hi;cases hi;have:=split_len hr;exact (by lia,λ_=>by lia)
   ·rw[if_neg c1] at hi;cases hi
 | @leaf m rs ts c q r o h lf ih=>
  intro x hx;rcases EJ.mp hx with z|z
  ·exact ih x z
  ·rw[EA.mp z];exact (lf.1.ok,lf.2.1,lf.2.2)
theorem xS:mJ D T (.one "chain" [])/\xQ (.one "chain" []):=⟨λz F G e=>(by cases e),λw C e=>(by cases e;exact ⟨by simp,λe=>absurd e 118⟩)⟩
theorem mK (h:gI D T A B n m rs ts q):∀k,k<=q.length->gI D T A B n m (rs++Fq k (.one "chain" [])) (ts++Fq k 0) (q.drop k)
 |0,_=>by simpa using h
 |k+1,hk=>by
  have ih:=mK h k (by lia)
  have e:=List.drop_eq_getElem_cons (show k<q.length by lia)
  rw[e] at ih;have:=gI.leaf ih ⟨wx (c:=q[k]),xS⟩;rw[Ez,Ez,show (some (0:Int)).toList= [0] from rfl,<-List.replicate_succ',<-List.replicate_succ'] at this
  exact this
theorem xT (h:wq D T A B n m rs ts q) {low:Option Int} (hl:¬sV low ts):mF D T A B n low (dE T) rs=none:=by
 induction h with
 |nil=>exact absurd (λt ht=>by cases ht) hl
 |inn h ok hi hr ih=>
  rw[dO,ih hl]
  rfl
 | @leaf m rs ts c q r o h lf ih=>
  rw[dO]
  by_cases h0:sV low ts
  ·rw[rG h h0];show mF D T A B n low _ [_]=_;rw[j4];show eB D T A B n low c q r=none;unfold eB;rw[lf.lf];refine if_neg ?_;rcases lf.bd with ⟨ho,_⟩|⟨v,ho,nr,e⟩
   ·exfalso;apply hl;rw[ho]
    simpa using h0
   ·unfold eZ;rw[io nr,e];intro z;apply hl;rw[ho];intro t ht;rcases EJ.mp ht with y|y
    ·exact h0 t y
    ·rw[EA.mp y];cases low with
     |none=>cases z
     |some l=>exact ⟨l,rfl,of_decide_eq_true z⟩
  ·rw[ih h0]
   rfl
end
def pZ:Sp:=λvs H Q _=>∃(tp t dl:Addr) (x:Int) (D:Tl) (T:Tk) (A:List Ky) (ps:List (Int×Int)) (n:Int) (c:iF),vs= [.ref tp,.ref t,.ref dl,.int x]/\qf H tp t D T A ps n c/\bq H dl (fj T A c)/\∀(tq:Addr) (v:V) (o:Option Int) (r:c6) (H':Hp),aE H H'->H' tq=some (.tup [v,oV o])->iq (λa=>H a=none) H' v r->pW D T A n c r o/\mJ D T r/\xQ r->Q (.ref tq) H'
def mL:Sp:=λvs H Q _=>∃(tp lc:Addr) (cs:List Int) (D:Tl) (T:Tk) (A:List Ky) (ps:List (Int×Int)) (n:Int),vs= [.ref tp,.ref lc]/\pY H tp D T A ps n/\H lc=some (.lst (cs.map V.int))/\cs.length<=63/\∀(tq lp lt:Addr) (m:Nat) (rs:List c6) (ts:List Int) (H':Hp),aE H H'->H' tq=some (.tup [.ref lp,.ref lt])->cA iq An H' lp rs->H' lt=some (.lst (ts.map V.int))->rs.length<=330->ts.length<=330->m<=4->gI D T A (bn ps) n m rs ts []->Q (.ref tq) H'
theorem p8 {D:Tl} {T:Tk} {P:Pk} {A:List Rn} {N:Int} {z:Str} {m:Int} {S:List Int} (hm:cT D z=some m) (ne:S≠ []) (nd:S.Nodup) (rg:∀i∈S,0<=i/\i<120) (hN:2*120<=N):iN D T P A N z (S.map λi=> [2*i]) (S.map λi=> [2*i+1])=some (-((-(S.map λi=>dS T P i.toNat z).sum).fdiv m)):=by
 have tk0:∀i:Int,eY [2*i]=i:=λi=>by
  show (2*i).fdiv 2=i;exact Fy _ 118
 have tk:dn T.length (S.map λi=> [2*i]) (S.map λi=> [2*i+1])=true:=by
  refine gZ.mpr (by simpa using ne,dU.mpr (by rw[E1,E1],λk f b h1 h2=>?_),?_)
  ·rw[EB] at h1 h2;obtain ⟨i,hi,rfl⟩:=E7.mp h1;rw[hi] at h2;injection h2 with h2
   subst h2;have:=rg i (E4 hi);unfold dN;rw[tk0,decide_eq_true (show fJ [2*i]=2*i/\0<=i/\i<120 from ⟨rfl,this.1,this.2⟩),decide_eq_true (show pF [2*i+1]=fJ [2*i]+1 from rfl)]
   rfl
  ·rw[EH,show (eY ∘ λi:Int=> [2*i])=id from funext λi=>tk0 i,List.map_id]
   exact nd
 have lst:∀f:Int->Int,(∀i∈S,0<=f i/\f i<N)->eA A N (S.map λi=> [f i])=some 0:=λf hf=>by
  unfold eA;rw[if_pos]
  ·congr 1
   unfold nU;rw[EH,show ((λc=>(dh A c).getD 0) ∘ λi:Int=> [f i])=λ_=>(0:Int) from funext λi=>rfl]
   have:=eR (l:=S.map λ_=>(0:Int)) (m:=0) (by obtain ⟨x,r,rfl⟩:=List.exists_cons_of_ne_nil ne;exact Ej) λy hy=>by
    obtain ⟨_,_,rfl⟩:=EO.mp hy;exact Int.le_refl _
   exact this.symm
  ·rw[EK];constructor
   ·unfold dz;rw[ED];intro c hc;obtain ⟨i,hi,rfl⟩:=EO.mp hc;exact q9 λp hp=>by rw[EA.mp hp];exact hf i hi
   ·unfold nS;rw[ED];intro c hc;obtain ⟨i,hi,rfl⟩:=EO.mp hc
    rfl
 unfold iN;rw[if_pos tk,hm];dsimp only;rw[lst (λi=>2*i) λi hi=>by have:=rg i hi;lia,lst (λi=>2*i+1) λi hi=>by have:=rg i hi;lia]
 dsimp only;have ew:nV T P z (S.map λi=> [2*i])=(S.map λi=>dS T P i.toNat z).sum:=by
  unfold nV;rw[EH]
  congr 1
  refine Fj λi _=>?_
  show dS T P (eY [2*i]).toNat z=_;rw[tk0]
 rw[ew]
 congr 1
 lia
theorem map_two (S:List Int) (f:Int->List Int):(EY S.length).map (λk=>f (S.getD k 0))=S.map f:=by
 conv=>rhs;rw[<-bO S 0]
 rw[EH]
 rfl
def kM:Sp:=λvs H Q _=>∃(tp t r:Addr) (w:Rp) (D:Tl) (T:Tk) (A:List Ky) (ps:List (Int×Int)) (n:Int) (c:iF) (Z:Addr->Prop),vs= [.ref tp,.ref t,.ref r]/\qf H tp t D T A ps n c/\cX Z H (.ref t) c/\xJ H r w/\v7 w/\∀(v:V) (H':Hp),aE H H'->((cF D T (bn ps) c.1 c.2 w=false/\v= .non)∨(cF D T (bn ps) c.1 c.2 w=true/\∃l,v= .ref l/\H l=none/\cA cX (λa=>a≠l/\(H a=none∨Z a)) H' l (dD c.1 c.2 w)))->Q v H'
structure wy (D:Tl) (T:Tk) (z:Str) (F G:List (List Int)):Prop where
 m:∃m,cT D z=some m
 ok:jO (.full z F G)
 ne:∀f∈F,f≠ []
 rg:∀f∈F,0<=eY f/\eY f<120
 sg:(F.map eY).Nodup->∃S:List Int,F=S.map (λi=> [2*i])/\G=S.map λi=> [2*i+1]
def Bh (D:Tl) (T:Tk):c6->Prop
 | .full z F G=>wy D T z F G
 | .one w C=>w= "chain" /\C.length<=40
 | .ways _=>False
def mM:Sp:=λvs H Q _=>∃(tp t row:Addr) (N:Int) (r:c6) (D:Tl) (T:Tk) (A:List Ky) (ps:List (Int×Int)) (n:Int) (c:iF),vs= [.ref tp,.ref t,.ref row,.int N]/\qf H tp t D T A ps n c/\N=2*120+n/\jG H row r/\Bh D T r/\∀H',aE H H'->Q (oV (c8 D T c.1 ((fj T A c).map fb) 143 r)) H'
theorem sW (S:List Int):(S.map λi:Int=> [2*i]).map eY=S:=by
 rw[EH,show (eY ∘ λi:Int=> [2*i])=id from funext λi=>by
  show (2*i).fdiv 2=i;exact Fy _ 118,List.map_id]
theorem xU {D:Tl} {T:Tk} {P:Pk} {A:List Rn} {N:Int} {z:Str} {F G:List (List Int)} (h:¬(F.map eY).Nodup∨F= []):iN D T P A N z F G=none:=by
 unfold iN;refine if_neg λe=>?_
 obtain ⟨h1,_,h3⟩:=gZ.mp e;rcases h with h|h
 ·exact h h3
 ·exact h1 h
def DM (D:Tl) (T:Tk):c6->Prop
 | .full z F G=>wy D T z F G
 | .one w C=>(w= "chain" ∨w= "ring")/\C.length<=30
 | .ways _=>False
def p9:Sp:=λvs H Q _=>∃(tp t row:Addr) (N:Int) (low:Option Int) (r:c6) (D:Tl) (T:Tk) (A:List Ky) (ps:List (Int×Int)) (n:Int) (c:iF),vs= [.ref tp,.ref t,oV low,.ref row,.int N]/\qf H tp t D T A ps n c/\N=2*120+n/\jG H row r/\DM D T r/\∀H',aE H H'->Q (.bl (eZ D T A n low c r)) H'
theorem rJ {D:Tl} {T:Tk} {A:List Ky} {n:Int} {low:Option Int} {c:iF} {C:List Int} (h:C≠ []):eZ D T A n low c (.one "ring" C)=uy (c8 D T c.1 ((fj T A c).map fb) 143 (.one "chain" (C++C.take 1))):=by
 unfold eZ;rw[gE,fK];have e:cV 143 (C++C.take 1)=cV 143 C:=by
  unfold cV;rw[Fd];cases h0:C.all λp=>decide (0<=p)&&decide (p<2*(T.length:Int)+n) with
  |false=>rfl
  |true=>
   rw[Eu,ED];intro p hp;rw[ED] at h0;exact h0 p (FL hp)
 rw[e];cases cV (2*(T.length:Int)+n) C with
 |false=>rfl
 |true=>
  rw[if_pos rfl,Eu];unfold gS;rw[if_neg h]
def jI (D:Tl) (T:Tk) (r:c6):Prop:=gh r/\(dA r=none->DM D T r)
def qa:Sp:=λvs H Q _=>∃(tp lp:Addr) (N:Int) (low:Option Int) (D:Tl) (T:Tk) (A:List Ky) (ps:List (Int×Int)) (n:Int) (rs:List c6),vs= [.ref tp,oV low,.ref lp,.int N]/\pY H tp D T A ps n/\N=2*120+n/\cA iq An H lp rs/\(∀r∈rs,jI D T r)/\rs.length<=400/\∀H',aE H H'->Q (.bl (gb D T A (bn ps) n low rs)) H'
theorem wA {D:Tl} {T:Tk} {z:Str} {F G:List (List Int)} (h:mJ D T (.full z F G)):wy D T z F G:=by
 obtain ⟨S,m,hm,ne,nd,l4,rg,rfl,rfl⟩:=h z F G rfl;refine ((m,hm),(by rw[E1];lia,by rw[E1];lia,λf hf=>?_,λf hf=>?_),λf hf=>?_,λf hf=>?_,λ_=>(S,rfl,rfl))
 ·obtain ⟨i,_,rfl⟩:=EO.mp hf;simp
 ·obtain ⟨i,_,rfl⟩:=EO.mp hf;simp
 ·obtain ⟨i,_,rfl⟩:=EO.mp hf;simp
 ·obtain ⟨i,hi,rfl⟩:=EO.mp hf;have:eY [2*i]=i:=by
   show (2*i).fdiv 2=i;exact Fy _ 118
  rw[this];exact rg i hi
theorem qb {D:Tl} {T:Tk} {w:Str} {C:List Int} (hw:w= "chain" ∨w= "ring" ∨w= "split") (hc:C.length<=30) (hs:w= "split" ->C.length<=8):jI D T (.one w C):=by
 refine (((hw,hc),λv hv=>?_),λhi=>?_)
 ·rw[eP] at hv
  by_cases c1:w= "split"
  ·rw[if_pos c1] at hv;cases hv;exact hs c1
  ·rw[if_neg c1] at hv;cases hv
 ·rw[eP] at hi
  by_cases c1:w= "split"
  ·rw[if_pos c1] at hi;cases hi
  ·refine (?_,hc);rcases hw with h|h|h
   ·exact .inl h
   ·exact .inr h
   ·exact absurd h c1
theorem xR.x {D:Tl} {T:Tk} {r:c6} (h:xR D T r):jI D T r:=by
 cases r with
 |full z F G=>exact ⟨h.ok,λ_=>wA h.fs⟩
 |one w C=>exact ⟨h.ok,λhi=>by
   have hw:(w= "chain" ∨w= "ring" ∨w= "split")/\C.length<=30:=h.ok.1;rw[eP] at hi
   by_cases c1:w= "split"
   ·rw[if_pos c1] at hi;cases hi
   ·refine (?_,hw.2);rcases hw.1 with h|h|h
    ·exact .inl h
    ·exact .inr h
    ·exact absurd h c1⟩
 |ways i=>exact ⟨h.ok,λhi=>by cases hi⟩
theorem yZ {D:Tl} {T:Tk} {i:Int}:jI D T (.ways i):=⟨⟨trivial,λw hw=>by cases hw;trivial⟩,λhi=>by cases hi⟩
theorem Bi {D:Tl} {T:Tk} {z:Str} {F G:List (List Int)} (h:mJ D T (.full z F G)) {f0:List Int} {x:Int} (h0:F[0]?=some f0) (hx:f0[0]?=some x):jI D T (.full z (F++ [[x,x+1,x]]) (G++ [[x+1]])):=by
 have fx:=wA h;obtain ⟨S,m,hm,ne,nd,l4,rg,rfl,rfl⟩:=h z F G rfl;rw[EB] at h0;obtain ⟨i,hi,rfl⟩:=E7.mp h0;cases hx;have tk3:eY [2*i,2*i+1,2*i]=i:=by
  show (2*i).fdiv 2=i;exact Fy _ 118
 have mem: [2*i,2*i+1,2*i]∈(S.map λi=> [2*i])++ [[2*i,2*i+1,2*i]]:=E9 _ (EA.mpr rfl)
 have okr:jO (.full z ((S.map λi=> [2*i])++ [[2*i,2*i+1,2*i]]) ((S.map λi=> [2*i+1])++ [[2*i+1]])):=by
  obtain ⟨_,_,o3,o4⟩:=fx.ok;refine (by rw[E3,E1];show _+1<=30;lia,by rw[E3,E1];show _+1<=30;lia,λf hf=>?_,λf hf=>?_)
  ·rcases EJ.mp hf with y|y
   ·exact o3 f y
   ·rw[EA.mp y];simp
  ·rcases EJ.mp hf with y|y
   ·exact o4 f y
   ·rw[EA.mp y];simp
 refine ((okr,λw hw=>by cases hw),λ_=>((m,hm),okr,λf hf=>?_,λf hf=>?_,λnd'=>?_))
 ·rcases EJ.mp hf with y|y
  ·exact fx.ne f y
  ·rw[EA.mp y];simp
 ·rcases EJ.mp hf with y|y
  ·exact fx.rg f y
  ·rw[EA.mp y,tk3];exact rg i (E4 hi)
 ·exfalso;rw[EU,sW] at nd';have:=(Fe.mp nd').2.2 i (E4 hi) i (by simp[tk3])
  exact this rfl
theorem hU {D:Tl} {T:Tk} {rs ms:List c6} (ok:∀x∈rs,jI D T x) (hm:∀x∈ms,jI D T x) (k j:Nat):∀x∈rs.take k++ms++rs.drop j,jI D T x:=λx hx=>by
 rcases EJ.mp hx with y|y
 ·rcases EJ.mp y with z|z
  ·exact ok x (FL z)
  ·exact hm x z
 ·exact ok x (Fs y)
theorem hV {D:Tl} {T:Tk} {r:c6} (h:jI D T r):∀x∈ [r],jI D T x:=λx hx=>by rw[EA.mp hx];exact h
def kN:Sp:=λvs H Q _=>∃(lp:Addr) (w put:Int) (k:Nat) (D:Tl) (T:Tk) (rs:List c6),vs= [.ref lp,.int w,.int (k:Int),.int put]/\cA iq An H lp rs/\(∀r∈rs,xR D T r)/\k<rs.length/\rs.length<=330/\∀(l:Addr) (os:List c6) (H':Hp),aE H H'->cA iq An H' l os->os.length<=335->(∀r∈os,jI D T r)->Q (.ref l) H'
theorem uH (xs:List V) (a b:Nat):fM xs (some (a:Int)) (some (b:Int))=(xs.drop (min a xs.length)).take (min b xs.length-min a xs.length):=by
 have e1:HT.fg xs.length 0 (some (a:Int))=min a xs.length:=by
  show (if (a:Int)<0 then ((a:Int)+(xs.length:Int)).toNat else min (a:Int).toNat xs.length)=_
  rw[if_neg (by lia),ET]
 have e2:HT.fg xs.length xs.length (some (b:Int))=min b xs.length:=by
  show (if (b:Int)<0 then ((b:Int)+(xs.length:Int)).toNat else min (b:Int).toNat xs.length)=_
  rw[if_neg (by lia),ET]
 unfold fM;rw[e1,e2]
theorem kO (xs:List V) (a:Nat):fM xs (some (a:Int)) none=xs.drop (min a xs.length):=by
 have e1:HT.fg xs.length 0 (some (a:Int))=min a xs.length:=by
  show (if (a:Int)<0 then ((a:Int)+(xs.length:Int)).toNat else min (a:Int).toNat xs.length)=_
  rw[if_neg (by lia),ET]
 have e2:HT.fg xs.length xs.length none=xs.length:=rfl;unfold fM;rw[e1,e2];exact Fl (by rw[EL];lia)
def kP:Sp:=λvs H Q _=>∃(t:Addr) (r:c6) (Z:Addr->Prop),vs= [.ref t]/\iq Z H (.ref t) r/\jO r/\∀(t':Addr) (H':Hp),aE H H'->iq (λa=>H a=none∨Z a) H' (.ref t') r->Q (.ref t') H'
def qc (C:Addr):Sp:=λvs H Q _=>∃(x lp:Addr) (low:Option Int) (b:Bool) (D:Tl) (T:Tk) (A B:List Ky) (n:Int) (rs:List c6),vs= [.ref x,oV low,.ref lp,.bl b]/\fN C false H x D T A B n/\gw D T A B n/\cA iq An H lp rs/\(∀r∈rs,gh r)/\A.length+2*T.length+rs.length<=700/\b=gb D T A B n low rs/\∀H',aE H H'->Q (.bl true) H'
theorem wB {K:E5} {H:Hp} {P P':Addr->Prop} {vs us:List V} {rs:List c6} (h:A2 (iq P H) vs rs) (k:A2 (iq P' H) us rs):jv (t8 K H 3) vs us:=
 vL (R:=iq) (λa b x _ h1 h2=>by
  obtain ⟨t,rfl,c⟩:=h1.row;obtain ⟨t',rfl,c'⟩:=h2.row;obtain ⟨xs,ys,e,e',al⟩:=xI (K:=K) c c';exact .inr (t,t',ω,.inl (be.of e,be.of e'),al)) h k
theorem mN {D:Tl} {T:Tk} {A B:List Ky} {n:Int} {m:Nat} {rs:List c6} {ts:List Int} (h:wq D T A B n m rs ts []) {low:Option Int} (c:¬sV low ts):gb D T A B n low rs=false:=by
 unfold gb;rw[xT h c];exact decide_eq_false nofun
theorem y4 {D:Tl} {T:Tk} {A B:List Ky} {n:Int} {m:Nat} {rs:List c6} {ts:List Int} (h:wq D T A B n m rs ts []):1<=rs.length:=by
 cases rs with
 |cons _ _=>exact Nat.succ_le_succ (El _)
 |nil=>
  exfalso;generalize hr:([]:List c6)=rs at h;generalize hq:([]:Cs)=q at h;cases h with
  |nil=>cases hq
  |inn _ _ _ _=>exact absurd (congrArg List.length hr) 147
  |leaf _ _=>exact absurd (congrArg List.length hr) 147
end Sw
namespace Lk75
open PySem L2 Sw XH PyProof.Rows Hm
abbrev GV (x:Addr):Option V:=some (.ref x)
theorem cR {X:Cx} {N P:GQ} {sp:Scope} (i:Nat) (sc:aF N P sp) {x:Str} {e:Expr} {te:TE} {pos pos':Pos} (he:PE X e te) (hi:X.N[i]?=some x:=by rfl) (hx:Loc X.env.scope x:=by exact Or.inl rfl) (hn:X.N=N:=by rfl) (hs:swapsWith e (some (.Name x pos')) pos.line X.env=pure false:=by rfl) (hf:X.fn x=true∨X.env.scope.names.lookup x=some .local:=by first|exact .inl rfl|exact .inr rfl|assumption):PS X (.Assign [.Name x pos'] e pos) (tm te (cg i)):=gj (hn▸sc.nd) hi hx he hs hf
theorem cY {X:Cx} {N P:GQ} {sp:Scope} (i:Nat) (sc:aF N P sp) {x:Str} {pos:Pos} (hi:X.N[i]?=some x:=by rfl) (hx:Loc X.env.scope x:=by exact Or.inl rfl) (hn:X.N=N:=by rfl) (hf:X.fn x=true∨X.env.scope.names.lookup x=some .local:=by first|exact .inl rfl|exact .inr rfl|assumption):PG X (.Name x pos) (cg i):=dG (hn▸sc.nd) hi hx hf
theorem bX {X:Cx} {k j:Nat} {x:Str} {ps:GQ} {dvs:List V} {sp:Sp} {e:Expr} {es:List Expr} {t:TA} {p pos:Pos} (D:Dx X.prog X.w X.K X.mg X.base bt k x ps dvs sp) (hr:eD j X.A) (ha:PA X (e::es) t) (hk:k<=j:=by decide) (hg:Gl X x:=by rfl) (hdb:(x==("__debug__" :Str))=false:=by decide) (he:starEach (e::es) X.env=(false,eval e X.env)::starEach es X.env:=by rfl) (hpl:(backTo pos (starEach es X.env)).any (·.1)=false:=by rfl):PE X (.Call (.Name x p) (e::es) [] pos) (uV sp [] E0 t):=yD D hr hk hg ha hdb he hpl
noncomputable def top (i:Nat):Stmt:=PySem.Challenge.pw_stovework_k75_papers_read.main.body.getD i (.Pass ⟨0,0,0,0⟩)
noncomputable def clsAt (s:Stmt) (i:Nat):Stmt:=match s with| .ClassDef _ _ _ body _ _ _ _ _ _ _=>body.getD i (.Pass ⟨0,0,0,0⟩)|_=>s
abbrev Dm:Stmt:=top 7
abbrev Dn:Stmt:=top 17
abbrev Do:Stmt:=top 20
abbrev Dp:Stmt:=top 21
abbrev Dq:Stmt:=top 23
abbrev Dr:Stmt:=top 22
abbrev Ds:Stmt:=top 24
abbrev Dt:Stmt:=top 25
abbrev CH:Stmt:=clsAt (top 16) 0
abbrev Du:Stmt:=top 19
abbrev y6:Stmt:=top 18
abbrev y8:Stmt:=top 27
abbrev y9:Stmt:=top 32
abbrev za:Stmt:=top 28
abbrev zb:Stmt:=top 30
abbrev zc:Stmt:=top 31
abbrev zd:Stmt:=top 34
abbrev ze:Stmt:=top 33
abbrev zf:Stmt:=top 29
abbrev zg:Stmt:=top 36
abbrev zh:Stmt:=top 38
abbrev zj:Stmt:=top 37
abbrev zm:Stmt:=top 39
abbrev zp:Stmt:=top 42
abbrev zq:Stmt:=top 43
abbrev zr:Stmt:=top 44
abbrev zu:Stmt:=top 45
abbrev zw:Stmt:=top 41
abbrev zx:Stmt:=top 50
abbrev zy:Stmt:=top 49
abbrev zz:Stmt:=top 48
abbrev zA:Stmt:=top 47
abbrev zB:Stmt:=top 55
abbrev zC:Stmt:=top 54
abbrev zD:Stmt:=top 57
abbrev zE:Stmt:=top 56
abbrev zF:Stmt:=top 53
abbrev zG:Stmt:=top 58
abbrev zH:Stmt:=top 60
abbrev zI:Stmt:=top 59
abbrev zJ:Stmt:=top 61
abbrev zK:Stmt:=top 62
abbrev zL:Stmt:=top 64
abbrev zM:Stmt:=top 65
abbrev zN:Stmt:=top 66
abbrev zO:Stmt:=top 67
abbrev zP:Stmt:=top 68
abbrev zQ:Stmt:=top 69
abbrev zR:Stmt:=top 70
abbrev zS:Stmt:=top 71
abbrev zT:Stmt:=top 72
abbrev zU:Stmt:=top 73
abbrev zV:Stmt:=top 74
abbrev zW:Stmt:=top 75
abbrev zX:Stmt:=top 76
abbrev zY:Stmt:=top 77
abbrev zZ:Stmt:=top 78
abbrev z5:Stmt:=top 79
abbrev z6:Stmt:=top 80
abbrev z7:Stmt:=top 81
abbrev z8:Stmt:=top 82
abbrev Aa:Stmt:=top 83
abbrev Ab:Stmt:=top 84
abbrev Ac:Stmt:=top 85
abbrev Ad:Stmt:=top 86
abbrev Ae:Stmt:=top 87
abbrev Af:Stmt:=top 88
abbrev Ag:Stmt:=top 89
abbrev Ah:Stmt:=top 90
abbrev Ai:Stmt:=top 91
abbrev Aj:Stmt:=top 92
abbrev Ak:Stmt:=top 93
abbrev nX:Stmt:=top 94
structure Bn (K:E5) (mg:GO) (Gd on Gp:Addr):Prop where
 GC:∃t,mg "LETTERS" =some (.str "abcdefghijklmnopqrstuvwxyz" t)
 Gn:∃t,mg "MOST_LETTERS" =some (.int 12 t)
 Gr:∃t,mg "MOST_TASKS" =some (.int 24 t)
 Gq:∃t,mg "MOST_TOOLS" =some (.int 12 t)
 Go:∃t,mg "MOST_PIECES" =some (.int 8 t)
 Gv:∃t,mg "MOST_WAYS" =some (.int 2 t)
 Gm:∃t,mg "MOST_MOMENTS" =some (.int 8 t)
 Gw:∃t,mg "MOST_ARCS" =some (.int 600 t)
 Gs:∃t,mg "MOST_APART" =some (.int 300 t)
 Gj:∃t,mg "GREATEST" =some (.int 1000000000 t)
 GM:mg "abs" =none
 GL:mg "all" =none
 GF:mg "bool" =none
 GE:mg "dict" =none
 Gy:mg "enumerate" =none
 GK:mg "int" =none
 Gf:mg "isinstance" =none
 Ev:mg "len" =none
 Gc:mg "list" =none
 GB:mg "max" =none
 Gk:mg "min" =none
 Gb:mg "range" =none
 Gg:mg "reversed" =none
 GA:mg "set" =none
 GD:mg "sorted" =none
 GJ:mg "str" =none
 Gx:mg "sum" =none
 GG:mg "zip" =none
 Gz:mg "INNER" =some (.ref Gd)
 GI:mg "Net" =some (.ref on)
 Gu:xO K Gd ["split","ways"]
 Fz:wN K on
 GH:Mk K on Gp
 Ga:cS K on "tools"
 Fr:cS K on "tasks"
 Gi:cS K on "arcs"
 Ge:cS K on "apart"
 Gh:cS K on "moments"
section
variable {P:Program} {w:World} {K:E5} {mg:GO} {base:Heap} {f:Addr} {fd:FuncData} {Gd on Gp:Addr}
variable (B:Bn K mg Gd on Gp)
include B
theorem Dv {dV:Value} (F:bz K "is_name" "is_name" Dm dV f fd):bv P w K mg base bt 1 f fd ["thing"] (oY K):=by
 have sc:aF ["thing","sign"] ["thing"] (aw Dm):=dq 119
 and_intros
 ·obtain ⟨_,rfl,_⟩:=h
  rfl
 obtain ⟨x,rfl,h⟩:=h;exists _,(ah (aI (PW.pt (dP (bS (cB (aB (lN (K:=K) rfl) rfl B.Gf boot_isinstance ((pv 0)<*>((jU (v:= .ty "str") rfl B.GJ boot_str rfl)<*>ag))))) (dP (ao fo (aB iX rfl B.Ev boot_len ((pv 0)<*>ag)) af (aA _)) (dt (ao fP (aB iX rfl B.Ev boot_len ((pv 0)<*>ag)) (dw rfl B.Gn) (aA _)))))) 141 ar) (ah (aV PassesOwn.never rfl (yH (pv 0)) (cY 1 sc) (aj (aI (ao mX (pv 1) (vv rfl B.GC) 129) 141 ar))) 141))
 try dsimp only[cxK]
 refine lt3 ?_;intro D' r2 r1;rcases h with ⟨z,rfl,hz,q1,q0⟩|⟨ty,hty,hk,q⟩
 ·have hz':z.length<=sizeLine:=FB hz 118
  have hl:=nc z;try dsimp only[cg,cM]
  refine cut (λσ H'=>H=H'/\σ= [some (.str z),none]/\1<=z.length/\z.length<=12) (λN hN=>?_) ?_
  ·refine (ν,aJ _ _ _ true (rfl,.str _,rfl,ν,cu (ν,z,rfl,hz',av _ _ (rfl,rfl,ν,d2 (λc=>?_) (λc1=>(ν,z,rfl,hz',av _ _ (rfl,rfl,ν,d2 (λc=>?_) (λc2=>?_))))))))
   ·exact q0 λn=>by have:=n.1;lia
   ·exact q0 λn=>by have:=n.2.1;lia
   ·exact hN _ _ (rfl,rfl,by lia,by lia)
  rintro σ _ ⟨rfl,rfl,l1,l2⟩;refine (ν,z,rfl,xi (λi σ H2=>H=H2/\(∃o,σ= [some (.str z),o])/\∀j c,j<i->z.cps[j]?=some c->97<=c/\c<=122) (rfl,⟨ν⟩,λj c h=>absurd h (by lia)) (λi c σ H2 hc hP=>?_) (λσ H2 hP=>?_))
  ·obtain ⟨rfl,⟨o,rfl⟩,hP⟩:=hP;refine (ν,av _ _ (rfl,rfl,ν,DZ (λe=>?_) (λe=>?_)))
   ·have e':=(sv c).symm.trans e;refine q0 λn=>?_
    have:=n.2.2 c (E4 (show (sL z)[i]?=some c by rw[<-hc];exact FI))
    rw[decide_eq_true this] at e';cases e'
   ·have e':=(sv c).symm.trans e;refine (rfl,⟨ν⟩,λj c' hj hc'=>?_)
    rcases Nat.lt_succ_iff_lt_or_eq.mp hj with k|k
    ·exact hP j c' k hc'
    ·subst k;rw[hc] at hc';cases hc';exact of_decide_eq_true e'
  ·obtain ⟨rfl,⟨o,rfl⟩,hP⟩:=hP;refine q1 (by lia,by lia,λc hc=>?_)
   obtain ⟨i,hi⟩:=Eg.mp hc;have hi':z.cps[i]?=some c:=by rw[<-hi];exact FI.symm
   exact hP i c (by have:=(Array.getElem?_eq_some_iff.mp hi').1;exact this) hi'
 ·exact (ν,aJ _ _ _ false (rfl,hty,hk,ν,cC q))
theorem Dw {dV:Value} (F:bz K "points_of" "points_of" Dn dV f fd):bv P w K mg base bt 1 f fd ["net"] (jC on):=by
 have sc:aF ["net"] ["net"] (aw Dn):=dq 119
 and_intros
 ·obtain ⟨_,_,_,_,_,_,_,rfl,_⟩:=h
  rfl
 refine gi h λx n fz D T A _hi=>?_
 refine eI _hi λB2 _hj=>?_
 refine iC _hj λ_r1 N q=>?_
 clear h _hi _hj;subst _r1;exists _,(aj (aq (am aX (am bg af (aB ay rfl B.Ev boot_len ((cW (pv 0) rfl)<*>ag))) (cW (pv 0) rfl))));try dsimp only[cxK]
 refine gi N.ex λdx td tl al pl fs _hi=>?_
 refine qe _hi λe0 l1 l2 l3 l4 l5 e1 _r1 _hj=>?_
 refine dk _hj λe3 e4=>?_
 obtain ⟨as,e2,r2⟩:=_r1;refine (ν,aJ x _ dx _ (_,(rfl,e0,B.Fz,B.Fr,l2,av tl _ (rfl,.inl (aD.of e2),av _ _ (rfl,rfl,IntMulOk.of_left 118,ν,aJ x _ dx _ (_,(rfl,e0,B.Fz,B.Gh,l5,av _ _ (rfl,rfl,?_))))))))
 rw[r2.1];exact q
theorem Dy {dV:Value} (F:bz K "copy_of_task" "copy_of_task" Do dV f fd):bv P w K mg base bt 1 f fd ["ways"] ny:=by
 have sc:aF ["ways"] ["ways"] (aw Do):=dq 119
 and_intros
 ·obtain ⟨_,_,_,rfl,_⟩:=h
  rfl
 obtain ⟨l,ws,P0,rfl,⟨vs,el,r0⟩,l2,q⟩:=h;exists _,(aj (aq (bZ (own:= "way") (ys:= []) (js:= []) rfl 130 (aG (pv 0)) (λC fp s H=>(@aZ _ _ _ _ _ (133<*>(133<*>((b8 (gv (K:=K) rfl) rfl B.Gc boot_list (133<*>ag))<*>ag))))))))
 try dsimp only[cxK]
 sleep 0;have r:=r0.imp λ_ _ q=>ya q
 refine (ν,l,rfl,(_,aD.of el),bJ iu (λa=>P0 a/\H a≠none) (λi=>ws.getD i (0,0,[])) (aD.of el) (by rw[r.1];lia) (λa h=>h.2) (λi y hy H3 g Q' hQ=>?_) λp H' np g hp=>?_)
 ·refine eI (r.at_ hy) λw _hi=>?_
  refine dk _hi λhw _hj=>?_
  refine pw _hj λt u _hk=>?_
  refine eX _hk λ_r1 _ _ _hl=>?_
  refine dk _hl λet _hm=>?_
  refine eI _hm λus _hn=>?_
  refine dk _hn λeu ru=>?_
  clear _hi _hj _hk _hl _hm _hn;subst _r1;have et3:=g _ _ et;rw[bf hw] at hQ;refine (ν,aJ t _ _ _ (rfl,rfl,be.of et3,rfl,ν,aJ t _ _ _ (rfl,rfl,be.of et3,rfl,ν,aJ t _ _ _ (rfl,rfl,be.of et3,rfl,av u us (rfl,.inl (aD.of (g _ _ eu)),λu' nu=>(by show 3<=sizeLine;decide,λt' nt=>?_))))))
  have g1:=ac nu (.lst us);have g2:=ac nt (.tup [.int w.1,.int w.2.1,.ref u']);exact hQ _ _ (g1.trans g2) (av t' u' (rfl,.inl (g1.free nt),.inl nu,ae,us,g2 _ _ ae,ru.imp λv e q=>ku (de q (g.trans (g1.trans g2))) λa h=> .inr h))
 ·rw[fk ws (0,0,[]) r.1] at hp;exact q p H' g np (p,rfl,.inl np,hp.mono λa h=>h.2.imp id λz=>z.1)
theorem Dz {dV:Value} (F:bz K "refuse_wrong_tools" "refuse_wrong_tools" Dp dV f fd) (DZ0:Dx P w K mg base bt 1 "is_name" ["thing"] [] (oY K)):bv P w K mg base bt 2 f fd ["tools"] lW:=by
 have sc:aF ["tools","tool","many"] ["tools"] (aw Dp):=dq 119
 and_intros
 ·obtain ⟨_,_,rfl,_⟩:=h
  rfl
 obtain ⟨td,D,rfl,e,l12,ok,q⟩:=h;exists _,(ah (aI (ao fP (aB qH rfl B.Ev boot_len ((pv 0)<*>ag)) (dw rfl B.Gq) (aA _)) (aj cr) ar) (aj (qD (aV PassesOwn.never rfl (oI (ka PySem.F.plainAttrs_dict PySem.F.slot_dict_items PySem.F.type_dict_items oH (pv 0))) (cZ rfl (aL (cY 1 sc) (aL (cY 2 sc) cv))) (ah (aI (bS (cB (bX DZ0 hr ((pv 1)<*>ag)))) (aj cr) ar) (aj (aI (bS (cI dv dv af (pv 2) (dw rfl B.Go))) (aj cr) ar)))))));try dsimp only[cxK]
 refine jR ?_;intro D' r1;refine (ν,av td _ (rfl,e,av _ _ (rfl,rfl,ν,dF (by rw[jy];lia) ?_)))
 refine (ν,.inr (.inr (.inl (rfl,.inl (_,e)))),av td _ (rfl,rfl,e,λv nv=>?_))
 have g:=ac nv (.ext λh=>h.IsItemsView v td)
 refine (bU v td _ (rfl,ae,g _ _ e,λo nf=>?_))
 have e1:=g _ _ e;generalize aH H v (.ext λh=>h.IsItemsView v td)=H1 at g e1⊢
 have ef:aH H1 td (.frz o (.dK (bL D))) td=some (.frz o (.dK (bL D))):=ae;refine lZ (λi σ H'=>aE (aH H1 td (.frz o (.dK (bL D)))) H'/\∃o1 o2:Option V,σ= [GV td,o1,o2]) (.refl _,av none none rfl) (λi σ H' _ h=>h.1 _ _ ef) ?_ ?_
 ·rintro i k y σ H2 T' hk ⟨g2,o1,o2,rfl⟩ nT;obtain ⟨p,hp,rfl,rfl⟩:=kx hk;obtain ⟨n1,n2,n3⟩:=ok p (E4 hp);have g3:=g2.trans (ac nT (.tup [kV (.inr p.1),.int p.2]));have zl:p.1.length<=1000000:=by have:=n1.2.1;rw[nc] at this;lia
  refine (av T' _ (rfl,be.of ae,rfl,av _ _ (rfl,av _ _ (rfl,rfl,?_))));refine (ν,ν,.inl (p.1,rfl,zl,λ_=>(ν,cu ?_),λz=>absurd n1 z))
  exact (ν,av _ _ (rfl,rfl,ν,dT n2 (av _ _ (rfl,rfl,ν,nF n3 (g3,av _ _ rfl)))))
 ·rintro σ H2 ⟨g2,o1,o2,rfl⟩;exact (bU td o _ (g2 _ _ ef,nf,q _ (g.trans (jB e1 g2))))
theorem DA {dV:Value} (F:bz K "refuse_wrong_uses" "refuse_wrong_uses" Dq dV f fd):bv P w K mg base bt 1 f fd ["uses","tools"] oZ:=by
 have sc:aF ["uses","tools","use"] ["uses","tools"] (aw Dq):=dq 119
 and_intros
 ·obtain ⟨_,_,_,_,rfl,_⟩:=h
  rfl
 refine gA h λu td D us _hi=>?_
 refine eX _hi λ_r1 _r2 ed _hj=>?_
 refine dk _hj λ_r3 q=>?_
 clear h _hi _hj;subst _r1;obtain ⟨vs,eu,ru⟩:=_r2;obtain ⟨nd,l100,ok⟩:=_r3;exists _,(ah (aI (ao eT (tY rfl rfl B.Ev rfl B.GA PyProof.Rows.Boot.«len» PyProof.Rows.Boot.«set» (bZ (own:= "use") (ys:= []) (js:= []) rfl 130 (aG (pv 0)) (λC fp s H=>133))) (aB ay rfl B.Ev boot_len ((pv 0)<*>ag)) (aA _)) (aj cr) ar) (aj (aV PassesOwn.never rfl (aG (pv 0)) (cY 2 sc) (ah (aI (qi (jq (gG hr) 132 (pv 1)) 129) (aj cr) ar) (ah (aI (bS (cI dv dv af 132 (ic (gG hr) (pv 1) 132 117))) (aj cr) ar) (aj (aI (bS (cI dv dv af 132 (dw rfl B.Gj))) (aj cr) ar)))))))
 try dsimp only[cxK]
 refine jR ?_;intro D' r1;sleep 0;refine (ν,u,rfl,(_,aD.of eu),bJ (dW V.str) 145 (λi=>(us.getD i ("",0,0)).1) (aD.of eu) (by rw[ru.1];lia) 136 (λi y hy H3 g Q' hQ=>?_) λp H' np g hp=>?_)
 ·obtain ⟨e,he,t,rfl,_,et⟩:=ru.at_ hy;rw[bf he] at hQ;exact (ν,aJ t _ _ _ (rfl,rfl,be.of (g _ _ et),rfl,hQ _ _ 148 rfl))
 obtain ⟨ps,ep,rp⟩:=hp;have e1:ps=(us.map λe=>(.inr e.1:Key)).map kV:=by
  rw[rp.val,EH,EH]
  conv=>rhs;rw[<-bO us ("",0,0),EH,<-ru.1]
  rfl
 rw[e1] at ep;refine (av p (us.map λe=>(.inr e.1:Key)) (rfl,aD.of ep,?_,by rw[E1];lia,ν,av u _ (rfl,.inl (aD.of (g _ _ eu)),rfl,ν,DY (by rw[E1,ru.1]) ?_)))
 ·have:(us.map λe=>(.inr e.1:Key))=(us.map (·.1)).map Sum.inr:=by rw[EH];rfl
  rw[this];exact nd.map (f:=(Sum.inr:Str->Key)) λa b h e=>h (by injection e)
 clear ep rp e1;refine (ν,u,rfl,(_,aD.of (g _ _ eu)),aU (xs:=vs) (λi σ H2=>H'=H2/\∃o2:Option V,σ= [GV u,GV td,o2]) (rfl,none,rfl) (λi σ H2 _ h=>by rw[<-h.1];exact aD.of (g _ _ eu)) ?_ ?_)
 ·rintro i y σ H2 hy ⟨rfl,o2,rfl⟩;obtain ⟨e,he,t,rfl,_,et⟩:=ru.at_ hy;obtain ⟨m,hm,k1,k2,k3,k4⟩:=ok e (E4 he);have et':=g _ _ et;have dg:=jD (.inl (g _ _ ed)) hm;refine (ν,aJ t _ _ _ (rfl,rfl,be.of et',rfl,ν,av td _ (rfl,dg,ν,cu ?_)));refine (ν,aJ t _ _ _ (rfl,rfl,be.of et',rfl,av _ _ (rfl,rfl,ν,dT k1 (ν,ν,aJ t _ _ _ (rfl,rfl,be.of et',rfl,av td _ (rfl,dg,av _ _ (rfl,rfl,ν,nF k2 ?_)))))));exact (ν,aJ t _ _ _ (rfl,rfl,be.of et',rfl,av _ _ (rfl,rfl,ν,dT k3 (av _ _ (rfl,rfl,ν,nF k4 (rfl,ν))))))
 ·rintro σ H2 ⟨rfl,o2,rfl⟩;exact q _ g
theorem DB {dV:Value} (F:bz K "refuse_wrong_tasks" "refuse_wrong_tasks" Dr dV f fd) (DZ4:Dx P w K mg base bt 1 "refuse_wrong_uses" ["uses","tools"] [] oZ):bv P w K mg base bt 2 f fd ["tasks","tools"] lX:=by
 have sc:aF ["tasks","tools","ways","way"] ["tasks","tools"] (aw Dr):=dq 119
 and_intros
 ·obtain ⟨_,_,_,_,rfl,_⟩:=h
  rfl
 refine gA h λtl td D T _hi=>?_
 refine gB _hi λ_r1 _r2 ed l24 ok q=>?_
 clear h _hi;subst _r1;obtain ⟨as,el,r⟩:=_r2;exists _,(ah (aI (ao fP (aB ay rfl B.Ev boot_len ((pv 0)<*>ag)) (dw rfl B.Gr) (aA _)) (aj cr) ar) (aj (aV PassesOwn.never rfl (aG (pv 0)) (cY 2 sc) (ah (aI (bS (cI dv dv af (aB ay rfl B.Ev boot_len 146) (dw rfl B.Gv))) (aj cr) ar) (aj (aV PassesOwn.never rfl (aG (pv 2)) (cY 3 sc) (ah (aI (bS (tU dv dv dv af (au aC (pv 3) af 117) (au aC (pv 3) af 117) (dw rfl B.Gj))) (aj cr) ar) (aj (bW (bX DZ4 hr ((au aC (pv 3) af 117)<*>((pv 1)<*>ag))))))))))))
 try dsimp only[cxK]
 refine jR ?_;intro D' r1;have ll:as.length=T.length:=r.1;refine (ν,av tl _ (rfl,.inl (aD.of el),av _ _ (rfl,rfl,ν,dF (by rw[ll];lia) ?_)))
 refine (ν,tl,rfl,(_,aD.of el),aU (xs:=as) (λi σ H'=>aE H H'/\∃o2 o3:Option V,σ= [GV tl,GV td,o2,o3]) (.refl _,av none none rfl) (λi σ H' _ h=>aD.of (h.1 _ _ el)) ?_ ?_)
 ·rintro i y σ H1 hy ⟨g1,o2,o3,rfl⟩;refine eI (r.at_ hy) λws _hi=>?_
  refine dk _hi λhw _hj=>?_
  refine eI _hj λwl _hk=>?_
  refine iC _hk λ_r1 _ _hl=>?_
  refine eI _hl λts _hm=>?_
  refine dk _hm λets0 rt0=>?_
  clear _hi _hj _hk _hl _hm;subst _r1;have ets:=g1 _ _ ets0;have rt:=rt0.imp λ_ _ q=>de q g1
  obtain ⟨o1,o2',ow⟩:=ok ws (E4 hw);have lw:ts.length=ws.length:=rt.1;refine (ν,av wl _ (rfl,.inl (aD.of ets),av _ _ (rfl,rfl,ν,dT (by rw[lw];lia) (av _ _ (rfl,rfl,ν,nF (by rw[lw];lia) ?_)))))
  refine (ν,wl,rfl,(_,aD.of ets),aU (xs:=ts) (λj σ H'=>aE H H'/\aE H1 H'/\∃o3:Option V,σ= [GV tl,GV td,GV wl,o3]) (g1,.refl _,o3,rfl) (λj σ H' _ h=>aD.of (h.2.1 _ _ ets)) ?_ ?_)
  ·rintro j z σ H2 hz ⟨g2,g12,o3,rfl⟩;refine eI (rt.at_ hz) λw _hi=>?_
   refine dk _hi λhw2 _hj=>?_
   refine pw _hj λt u _hk=>?_
   refine eX _hk λ_r1 _ _ _hl=>?_
   refine dk _hl λet0 lu0=>?_
   clear _hi _hj _hk _hl;subst _r1;have et:=g12 _ _ et0;obtain ⟨w1,w2,w3,w4⟩:=ow w (E4 hw2);refine (ν,aJ t _ _ _ (rfl,rfl,be.of et,rfl,av _ _ (rfl,rfl,ν,dT w1 (ν,aJ t _ _ _ (rfl,rfl,be.of et,rfl,av _ _ (rfl,rfl,ν,dT w2 (av _ _ (rfl,rfl,ν,nF w3 ?_))))))));exact (ν,aJ t _ _ _ (rfl,rfl,be.of et,rfl,ν,aJ u td D w.2.2 (rfl,lu0.same g12,g2 _ _ ed,w4,λH3 g3=>(g2.trans g3,g12.trans g3,ν))))
  ·rintro σ H2 ⟨g2,_,o3,rfl⟩;exact (g2,av _ _ rfl)
 ·rintro σ H1 ⟨g1,o2,o3,rfl⟩;exact q _ g1
theorem DC {dV:Value} (F:bz K "refuse_wrong_arcs" "refuse_wrong_arcs" Ds dV f fd):bv P w K mg base bt 1 f fd ["arcs","points"] sk:=by
 have sc:aF ["arcs","points","arc"] ["arcs","points"] (aw Ds):=dq 119
 and_intros
 ·obtain ⟨_,_,_,rfl,_⟩:=h
  rfl
 refine kB h λal m A _hi=>?_
 refine eX _hi λ_r1 _r2 l6 _hj=>?_
 refine dk _hj λok q=>?_
 clear h _hi _hj;subst _r1;obtain ⟨as,el,r⟩:=_r2;exists _,(ah (aI (ao fP (aB ay rfl B.Ev boot_len ((pv 0)<*>ag)) (dw rfl B.Gw) (aA _)) (aj cr) ar) (aj (aV PassesOwn.never rfl (aG (pv 0)) (cY 2 sc) (ah (aI (bS (PW.pt (cy (cI dv fo af 132 (pv 1)) (bV (cI dv fo af 132 (pv 1)))))) (aj cr) ar) (aj (aI (ao fP (aB uT rfl B.GM boot_abs (132<*>ag)) (dw rfl B.Gj) (aA _)) (aj cr) ar))))))
 try dsimp only[cxK]
 refine jR ?_;intro D' r1;have ll:(as.map V.ref).length=A.length:=by rw[E1];exact r.1
 refine (ν,av al _ (rfl,.inl (aD.of el),av _ _ (rfl,rfl,ν,dF (by rw[ll];lia) ?_)))
 refine (ν,al,rfl,(_,aD.of el),aU (xs:=as.map V.ref) (λi σ H'=>H=H'/\∃o2:Option V,σ= [GV al,some (.int m),o2]) (rfl,none,rfl) (λi σ H' _ h=>by rw[<-h.1];exact aD.of el) ?_ ?_)
 ·rintro i x σ H1 hx ⟨rfl,o2,rfl⟩;rw[EB] at hx;obtain ⟨t,ht,rfl⟩:=E7.mp hx;have il:i<A.length:=by rw[<-r.1];exact (E6.mp ht).1
  have et:=r.2 i t _ ht (E2 il);refine kB (ok _ (EQ il)) λa b g _hi=>?_
  refine gB _hi λe a0 a1 b0 b1 _hj=>?_
  refine dk _hj λg0 g1=>?_
  rw[e] at et;refine (ν,aJ t _ _ _ (rfl,rfl,be.of et,rfl,av _ _ (rfl,rfl,ν,dT a0 (ν,av _ _ (rfl,rfl,ν,dT a1 (ν,aJ t _ _ _ (rfl,rfl,be.of et,rfl,av _ _ (rfl,rfl,ν,dT b0 (ν,av _ _ (rfl,rfl,ν,nF b1 ?_))))))))));exact (ν,aJ t _ _ _ (rfl,rfl,be.of et,rfl,g,rfl,av _ _ (rfl,rfl,ν,dF (by split<;>lia) (rfl,ν))))
 ·rintro σ H1 ⟨rfl,o2,rfl⟩;exact q
theorem DD {dV:Value} (F:bz K "refuse_wrong_pairs" "refuse_wrong_pairs" Dt dV f fd):bv P w K mg base bt 1 f fd ["pairs","many"] lY:=by
 have sc:aF ["pairs","many","pair"] ["pairs","many"] (aw Dt):=dq 119
 and_intros
 ·obtain ⟨_,_,_,rfl,_⟩:=h
  rfl
 refine kB h λpl m B2 _hi=>?_
 refine eX _hi λ_r1 _r2 l3 _hj=>?_
 refine dk _hj λok q=>?_
 clear h _hi _hj;subst _r1;obtain ⟨as,el,r⟩:=_r2;exists _,(ah (aI (ao fP (aB ay rfl B.Ev boot_len ((pv 0)<*>ag)) (dw rfl B.Gs) (aA _)) (aj cr) ar) (aj (aV PassesOwn.never rfl (aG (pv 0)) (cY 2 sc) (ah (aI (bS (PW.pt (cy (cI dv fo af 132 (pv 1)) (bV (cI dv fo af 132 (pv 1)))))) (aj cr) ar) (aj (aI (ao bK 132 132 (aA _)) (aj cr) ar))))))
 try dsimp only[cxK]
 refine jR ?_;intro D' r1;have ll:(as.map V.ref).length=B2.length:=by rw[E1];exact r.1
 refine (ν,av pl _ (rfl,.inl (aD.of el),av _ _ (rfl,rfl,ν,dF (by rw[ll];lia) ?_)))
 refine (ν,pl,rfl,(_,aD.of el),aU (xs:=as.map V.ref) (λi σ H'=>H=H'/\∃o2:Option V,σ= [GV pl,some (.int m),o2]) (rfl,none,rfl) (λi σ H' _ h=>by rw[<-h.1];exact aD.of el) ?_ ?_)
 ·rintro i y σ H1 hy ⟨rfl,o2,rfl⟩;obtain ⟨t,ht,rfl⟩:=cP hy;have il:i<B2.length:=by rw[<-r.1];exact (E6.mp ht).1
  have et:=r.2 i t _ ht (E2 il);refine pw (ok _ (EQ il)) λa b _hi=>?_
  refine gB _hi λe a0 a1 b0 b1 ab=>?_
  rw[e] at et;refine (ν,aJ t _ _ _ (rfl,rfl,be.of et,rfl,av _ _ (rfl,rfl,ν,dT a0 (ν,av _ _ (rfl,rfl,ν,dT a1 (ν,aJ t _ _ _ (rfl,rfl,be.of et,rfl,av _ _ (rfl,rfl,ν,dT b0 (ν,av _ _ (rfl,rfl,ν,nF b1 ?_))))))))));exact (ν,aJ t _ _ _ (rfl,rfl,be.of et,rfl,ν,aJ t _ _ _ (rfl,rfl,be.of et,rfl,rfl,ν,DX ab (rfl,ν))))
 ·rintro σ H1 ⟨rfl,o2,rfl⟩;exact q
theorem DE {dV:Value} (F:bz K "__init__" "Net.__init__" CH dV f fd) (DZ1:Dx P w K mg base bt 1 "points_of" ["net"] [] (jC on)) (DZ2:Dx P w K mg base bt 1 "copy_of_task" ["ways"] [] ny) (DZ3:Dx P w K mg base bt 2 "refuse_wrong_tools" ["tools"] [] lW) (DZ5:Dx P w K mg base bt 2 "refuse_wrong_tasks" ["tasks","tools"] [] lX) (DZ6:Dx P w K mg base bt 1 "refuse_wrong_arcs" ["arcs","points"] [] sk) (DZ7:Dx P w K mg base bt 1 "refuse_wrong_pairs" ["pairs","many"] [] lY):bv P w K mg base bt 3 f fd ["self","tools","tasks","arcs","apart","moments"] (qS on):=by
 have sc:aF ["self","tools","tasks","arcs","apart","moments"] ["self","tools","tasks","arcs","apart","moments"] (aw CH):=dq 119
 and_intros
 ·obtain ⟨_,_,_,_,_,_,_,_,_,_,_,rfl,_⟩:=h
  rfl
 refine nM h λx dx td tl al v n D T _hi=>?_
 refine pw _hi λA B2 _hj=>?_
 refine gB _hj λ_r1 ex etd hT hA _hk=>?_
 refine iC _hk λhv ok q=>?_
 clear h _hi _hj _hk;subst _r1;exists _,(ah (j8 (pv 0) (b8 kf rfl B.GE ki ((pv 1)<*>ag)) rfl) (ah (j8 (pv 0) (bZ (own:= "ways") (ys:= []) (js:= []) rfl 130 (aG (pv 2)) (λC fp s H=>(bX DZ2 hr ((pv 0)<*>ag)))) rfl) (ah (j8 (pv 0) (b8 bY rfl B.Gc boot_list ((pv 3)<*>ag)) rfl) (ah (j8 (pv 0) (j6 (ao fc (pv 4) aR (aA _)) 138 (b8 bY rfl B.Gc boot_list ((pv 4)<*>ag))) rfl) (ah (j8 (pv 0) (pv 5) rfl) (ah (bW (bX DZ3 hr ((cW (pv 0) rfl)<*>ag))) (ah (bW (bX DZ5 hr ((cW (pv 0) rfl)<*>((cW (pv 0) rfl)<*>ag)))) (ah (aI (bS (cI dv dv af (pv 5) (dw rfl B.Gm))) (aj cr) ar) (ah (bW (bX DZ6 hr ((cW (pv 0) rfl)<*>((bX DZ1 hr ((pv 0)<*>ag))<*>ag)))) (aj (bW (bX DZ7 hr ((cW (pv 0) rfl)<*>((aB ay rfl B.Ev boot_len ((cW (pv 0) rfl)<*>ag))<*>ag))))))))))))))
 try dsimp only[cxK]
 refine Dj ?_;intro D' r9 r8 r7 r6 r5 r4 r3 r2 r1;sleep 0;refine (ν,av td _ (rfl,etd,λtd' ntd=>?_))
 have g1:=ac ntd (.dK (bL D));refine (ν,aJ x _ dx _ (rfl,g1 _ _ ex,B.Fz,B.Ga,by decide,?_))
 have e1:aH (aH H td' (.dK (bL D))) x (.ins on dx (bB "tools" (.ref td') [])) x=some (.ins on dx (bB "tools" (.ref td') [])):=ae;have f1:Fx x H (aH (aH H td' (.dK (bL D))) x (.ins on dx (bB "tools" (.ref td') []))):=(Fx.of g1).trans (Fx.put x _ _);have d1:aH (aH H td' (.dK (bL D))) x (.ins on dx (bB "tools" (.ref td') [])) td'=some (.dK (bL D)):=by
  rw[aK (λz=>by rw[z,ex] at ntd;cases ntd)]
  exact ae
 generalize aH (aH H td' (.dK (bL D))) x (.ins on dx (bB "tools" (.ref td') []))=H1 at e1 f1 d1⊢;obtain ⟨vs,el,rT⟩:=hT.fx ex f1;clear g1 ntd;refine (ν,tl,rfl,(_,aD.of el),bJ fG (λa=>An a/\H1 a≠none) (λi=>T.getD i []) (aD.of el) (by rw[rT.1];have:=ok.t24;lia) (λa h=>h.2) (λi y hy H3 g Q' hQ=>?_) λp H2 np g2 hp=>?_)
 ·obtain ⟨ws,hw,hwl⟩:=rT.at_ hy;obtain ⟨l,rfl,_,lw⟩:=ya hwl;obtain ⟨w1,w2,w3⟩:=ok.ways ws (E4 hw);rw[bf hw] at hQ;exact (ν,bU l ws _ (rfl,lw.same g,w2,λp H4 g4 _ wf=>hQ _ _ g4 wf))
 rw[fk T [] rT.1] at hp;have hT2:=hp.any;have e2:=g2 _ _ e1;have d2:=g2 _ _ d1;have f2:Fx x H H2:=f1.trans (Fx.of g2);clear hp g2 np rT el;refine ⟨ν,x,_,dx,ν,e2,B.Fz,B.Fr,by
  have:=bN "tools" (.ref td') [];simp at*
  lia,?_⟩
 have e3:aH H2 x (.ins on dx 123) x=some (.ins on dx 123):=ae;have w3:Fx x H2 (aH H2 x (.ins on dx 123)):=Fx.put x H2 _;generalize aH H2 x (.ins on dx 123)=H3 at e3 w3⊢;have d3:=w3 _ _ (iR d2 e2 (by intro z;cases z)) d2
 have hT3:=hT2.fx e2 w3;have f3:=f2.trans w3;clear d2 hT2 f2 w3 e2 e1 d1 f1;obtain ⟨bs,eal,rA⟩:=bq.fx hA ex f3;refine (ν,av al _ (rfl,.inl (aD.of eal),λal' nal=>?_))
 have g4:=ac nal (.lst (bs.map V.ref));have hA4:bq (aH H3 al' (.lst (bs.map V.ref))) al' A:=⟨bs,ae,rA.imp λa k q=>g4 _ _ q⟩
 have e4:=g4 _ _ e3;have d4:=g4 _ _ d3;have hT4:=hT3.same g4;have f4:=f3.trans (Fx.of g4);generalize aH H3 al' (.lst (bs.map V.ref))=H4 at hA4 e4 d4 hT4 f4⊢;clear g4 nal d3 hT3 f3 rA eal e3;refine ⟨ν,x,_,dx,ν,e4,B.Fz,B.Gi,by
  have:=bN "tools" (.ref td') [];have:=bN "tasks" (.ref p) (bB "tools" (.ref td') []);simp at*
  lia,?_⟩
 have e5:aH H4 x (.ins on dx (bB "arcs" (.ref al') 123)) x=some (.ins on dx (bB "arcs" (.ref al') 123)):=ae;have w5:Fx x H4 (aH H4 x (.ins on dx (bB "arcs" (.ref al') 123))):=Fx.put x H4 _;generalize aH H4 x (.ins on dx (bB "arcs" (.ref al') 123))=H5 at e5 w5⊢;have d5:=w5 _ _ (iR d4 e4 (by intro z;cases z)) d4
 have hT5:=hT4.fx e4 w5;have hA5:=hA4.fx e4 w5;have f5:=f4.trans w5;clear d4 hT4 hA4 f4 w5 e4;try dsimp only[cg,cM]
 refine cut (λσ H'=>∃pl':Addr,σ= [GV x,GV td,GV tl,GV al,some v,some (.int n)]/\H' x=some (.ins on dx (bB "apart" (.ref pl') (bB "arcs" (.ref al') 123)))/\H' td'=some (.dK (bL D))/\cA fG An H' p T/\bq H' al' A/\bq H' pl' B2/\Fx x H H') (λN hN=>?_) ?_
 ·have fin:∀(cs:GR) (pl':Addr),H5 pl'=none->eE (λt k=>H5 t=some (.tup (k.map V.int))) cs B2->N [some (.ref x),some (.ref td),some (.ref tl),some (.ref al),some v,some (.int n)] (aH (aH H5 pl' (.lst (cs.map V.ref))) x (.ins on dx (bB "apart" (.ref pl') (bB "arcs" (.ref al') 123)))):=λcs pl' npl rB=>by
   have g6:=ac npl (.lst (cs.map V.ref));have hB6:bq (aH H5 pl' (.lst (cs.map V.ref))) pl' B2:=⟨cs,ae,rB.imp λa k q=>g6 _ _ q⟩
   have e6:=g6 _ _ e5;have d6:=g6 _ _ d5;have hT6:=hT5.same g6;have hA6:=hA5.same g6;have f6:=f5.trans (Fx.of g6);generalize aH H5 pl' (.lst (cs.map V.ref))=H6 at hB6 e6 d6 hT6 hA6 f6⊢;have w7:Fx x H6 (aH H6 x (.ins on dx (bB "apart" (.ref pl') (bB "arcs" (.ref al') 123)))):=Fx.put x H6 _;exact hN _ _ ⟨pl',rfl,ae,w7 _ _ (iR d6 e6 (by intro z;cases z)) d6,hT6.fx e6 w7,hA6.fx e6 w7,hB6.fx e6 w7,f6.trans w7⟩
  rcases hv with ⟨rfl,rfl⟩|⟨pl,rfl,hB⟩
  ·refine (ν,rfl,ν,dT rfl (by show 0<=sizeLine;decide,λpl' npl=>?_))
   have l3:(bB "arcs" (.ref al') 123).length<1000:=by
    have:=bN "tools" (.ref td') [];have:=bN "tasks" (.ref p) (bB "tools" (.ref td') []);have:=bN "arcs" (.ref al') 123;simp at*
    lia
   exact (ν,aJ x _ dx _ (rfl,ac npl _ _ _ e5,B.Fz,B.Ge,l3,fin [] pl' npl eE.nil))
  ·obtain ⟨cs,epl,rB⟩:=bq.fx hB ex f5;refine ⟨_,rfl,rfl,_,rfl,dF (by intro z;cases z) ⟨_,rfl,av pl _ ⟨rfl,.inl (aD.of epl),λpl' npl=>?_⟩⟩⟩
   have l3:(bB "arcs" (.ref al') 123).length<1000:=by
    have:=bN "tools" (.ref td') [];have:=bN "tasks" (.ref p) (bB "tools" (.ref td') []);have:=bN "arcs" (.ref al') 123;simp at*
    lia
   exact (ν,aJ x _ dx _ (rfl,ac npl _ _ _ e5,B.Fz,B.Ge,l3,fin cs pl' npl rB))
 clear d5 hT5 hA5 f5 e5;intro σ H7 h_;refine eI h_ λpl' _hi=>?_
 refine gB _hi λ_r1 e7 d7 hT7 hA7 _hj=>?_
 refine dk _hj λhB7 f7=>?_
 clear h_ _hi _hj;subst _r1;have l4:(bB "apart" (.ref pl') (bB "arcs" (.ref al') 123)).length<1000:=by
  have:=bN "tools" (.ref td') [];have:=bN "tasks" (.ref p) (bB "tools" (.ref td') []);have:=bN "arcs" (.ref al') 123;have:=bN "apart" (.ref pl') (bB "arcs" (.ref al') 123);simp at*
  lia
 refine (ν,ν,aJ x _ dx _ (rfl,e7,B.Fz,B.Gh,l4,?_));have e8:aH H7 x (.ins on dx (kj (.ref td') (.ref p) (.ref al') (.ref pl') (.int n))) x=some (.ins on dx (kj (.ref td') (.ref p) (.ref al') (.ref pl') (.int n))):=ae;have w8:Fx x H7 (aH H7 x (.ins on dx (kj (.ref td') (.ref p) (.ref al') (.ref pl') (.int n)))):=Fx.put x H7 _;change L2.aO _ _ _ _ (aH H7 x (.ins on dx (kj (.ref td') (.ref p) (.ref al') (.ref pl') (.int n))));generalize aH H7 x (.ins on dx (kj (.ref td') (.ref p) (.ref al') (.ref pl') (.int n)))=H8 at e8 w8⊢;have d8:=w8 _ _ (iR d7 e7 (by intro z;cases z)) d7
 have hT8:=hT7.fx e7 w8;have hA8:=hA7.fx e7 w8;have hB8:=hB7.fx e7 w8;have f8:=f7.trans w8;clear d7 hT7 hA7 hB7 f7 w8 e7;obtain ⟨k1,k2,k3,k4,k5⟩:=xr (td:= .ref td') (tl:= .ref p) (al:= .ref al') (pl:= .ref pl') (n:= .int n);have N8:fN on false H8 x D T A B2 n:=⟨dx,td',p,al',pl',_,e8,k1,k2,k3,k4,k5,.inl d8,hT8,hA8,hB8⟩;refine (ν,aJ x _ dx _ (_,(rfl,e8,B.Fz,B.Ga,k1,av td' D (rfl,d8,ok.d12,ok.tool,λH9 g9=>?_))))
 refine (ν,aJ x _ dx _ (_,(rfl,(g9 _ _ e8),B.Fz,B.Fr,k2,ν,aJ x _ dx _ (_,(rfl,(g9 _ _ e8),B.Fz,B.Ga,k1,aJ p td' D T (rfl,hT8.same g9,g9 _ _ d8,ok.t24,ok.ways,λH10 g10=>?_))))))
 have g:=g9.trans g10;refine (ν,av _ _ (rfl,rfl,ν,dT ok.n0 (av _ _ (rfl,rfl,ν,nF ok.n8 ?_))));refine (ν,aJ x _ dx _ (_,(rfl,(g _ _ e8),B.Fz,B.Gi,k3,ν,fE x n false D T A (B2,(rfl,N8.same g,bU al' _ A (rfl,hA8.same g,ok.a600,ok.arcs,?_))))));obtain ⟨ps,ep8,rp8⟩:=hT8.same g;refine (ν,aJ x _ dx _ (_,(rfl,(g _ _ e8),B.Fz,B.Ge,k4,ν,aJ x _ dx _ (_,(rfl,(g _ _ e8),B.Fz,B.Fr,k2,av p _ (rfl,.inl (aD.of ep8),bU pl' _ B2 (rfl,hB8.same g,ok.b300,λk hk=>?_,?_)))))))
 ·rw[rp8.1];exact ok.pairs k hk
 exact q _ (f8.trans (Fx.of g)) (N8.same g)
theorem DF {dV:Value} (F:bz K "use_in" "use_in" Du dV f fd):bv P w K mg base bt 1 f fd ["way","tool"] nz:=by
 have sc:aF ["way","tool","use"] ["way","tool"] (aw Du):=dq 119
 and_intros
 ·obtain ⟨_,_,_,_,rfl,_⟩:=h
  rfl
 refine gA h λv z w P0 _hi=>?_
 refine eX _hi λ_r1 _r2 q1 q0=>?_
 clear h _hi;subst _r1;obtain ⟨t,u,rfl,_,_,et,us,eu,ru⟩:=_r2;exists _,(ah (aV PassesOwn.never rfl (aG 134) (cY 2 sc) (aj (aI (ao bK 132 (pv 1) (aA _)) (aj (aq (pv 2))) ar))) (aj (aq aR)))
 try dsimp only[cxK]
 refine jR ?_;intro D' r1;refine (ν,aJ t _ _ _ (rfl,rfl,be.of et,rfl,u,rfl,(_,aD.of eu),aU (xs:=us) (λi σ H'=>H=H'/\(∃o2:Option V,σ= [GV t,some (.str z),o2])/\∀(j:Nat) (e:Us),j<i->w.2.2[j]?=some e->e.1≠z) (rfl,(none,rfl),λj e h=>absurd h (by lia)) (λi σ H' _ h=>by rw[<-h.1];exact aD.of eu) ?_ ?_))
 ·rintro i y σ H1 hy ⟨rfl,⟨o2,rfl⟩,hn⟩;obtain ⟨e,he,a,rfl,pa,ea⟩:=ru.at_ hy;refine (ν,aJ a _ _ _ (rfl,rfl,be.of ea,rfl,ν,rfl,ν,d2 (λc=>?_) (λc=>?_)))
  ·exact (ν,q1 e a (nA (us:=w.2.2) he (by injection c) hn) pa ea)
  ·refine (rfl,⟨ν⟩,λj e' hj he'=>?_)
   rcases Nat.lt_succ_iff_lt_or_eq.mp hj with h|h
   ·exact hn j e' h he'
   ·subst h;rw[he] at he';cases he';exact λz=>c (by rw[z])
 ·rintro σ H1 ⟨rfl,⟨o2,rfl⟩,hn⟩;exact q0 (xu λj e he=>hn j e (by rw[ru.1];exact (E6.mp he).1) he)
theorem Bj {dV:Value} (F:bz K "are_points" "are_points" y6 dV f fd) (DZ1:Dx P w K mg base bt 1 "points_of" ["net"] [] (jC on)):bv P w K mg base bt 2 f fd ["net","some"] (fH on):=by
 have sc:aF ["net","some","point"] ["net","some"] (aw y6):=dq 119
 and_intros
 ·obtain ⟨_,_,_,_,_,_,_,_,_,rfl,_⟩:=h
  rfl
 refine nM h λx l fz D T A B2 n C _hi=>?_
 refine eX _hi λ_r1 N el q=>?_
 clear h _hi;subst _r1;exists _,(ah (aV PassesOwn.never rfl (aG (pv 1)) (cY 2 sc) (aj (aI (bS (cI dv fo af (pv 2) (bX DZ1 hr ((pv 0)<*>ag)))) 141 ar))) 141);try dsimp only[cxK]
 refine jR ?_;intro D' r1;refine (ν,l,rfl,(_,aD.of el),aU (xs:=C.map V.int) (λk σ H'=>H=H'/\(∃o2:Option V,σ= [GV x,GV l,o2])/\cV 143 (C.take k)=true) (rfl,(none,rfl),rfl) (λk σ H' _ h=>by rw[<-h.1];exact aD.of el) ?_ ?_)
 ·rintro k y σ H1 hy ⟨rfl,⟨o2,rfl⟩,hall⟩;rw[EB] at hy;obtain ⟨p,hp,rfl⟩:=E7.mp hy;have bad:(decide (0<=p)&&decide (p<2*120+n))=false->cV 143 C=false:=λh=>by
   unfold cV;rw[<-FJ,ED];intro hh;have:=hh p (E4 hp);rw[h] at this;cases this
  refine (ν,av _ _ (rfl,rfl,ν,d2 (λc1=>(ν,fE x n fz D T A (B2,(rfl,N,av _ _ (rfl,rfl,ν,n2 (λc2=>?_) (λc2=>(rfl,⟨ν⟩,?_))))))) (λc1=>(ν,cC ?_))))
  ·rw[bad (by rw[decide_eq_false c2,Ey])] at q
   exact q
  ·unfold cV at hall⊢;rw[aW hp,Fd,hall,Eu,Fg,List.all_nil,Fn,decide_eq_true c1,decide_eq_true c2]
   rfl
  ·rw[bad (by rw[decide_eq_false c1,FE])] at q
   exact q
 ·rintro σ H1 ⟨rfl,⟨o2,rfl⟩,hall⟩;rw[E1,ES] at hall;rw[hall] at q;exact q
theorem Bk {dV:Value} (F:bz K "start_case" "start_case" y8 dV f fd):bv P w K mg base bt 1 f fd ["net"] (sE on):=by
 have sc:aF ["net"] ["net"] (aw y8):=dq 119
 and_intros
 ·obtain ⟨_,_,_,_,_,_,_,rfl,_⟩:=h
  rfl
 refine gi h λx fz D T A B2 _hi=>?_
 refine eI _hi λn _hj=>?_
 refine eX _hj λ_r1 NG t24 q=>?_
 clear h _hi _hj;subst _r1;exists _,(aj (aq (@aZ _ _ _ _ _ ((bZ (own:= "ways") (ys:= []) (js:= []) rfl 130 (aG (cW (pv 0) rfl)) (λC fp s H=>aR))<*>(138<*>ag)))))
 try dsimp only[cxK]
 sleep 0;refine gi NG.ex λdx td tl al pl fs _hi=>?_
 refine qe _hi λe0 l1 l2 l3 l4 l5 ed _r1 _hj=>?_
 refine dk _hj λhA hB=>?_
 obtain ⟨vs,el,rT⟩:=_r1;refine (ν,aJ x _ dx _ (_,(rfl,e0,B.Fz,B.Fr,l2,tl,rfl,(_,aD.of el),bJ (dW gy) 145 (λ_=>(none:Option Nat)) (aD.of el) (by rw[rT.1];lia) 136 (λk y hy H4 g4 Q' hQ=>hQ _ _ 148 rfl) λlk H1 nlk g1 hk=>?_)))
 obtain ⟨us,ek,rk'⟩:=hk;rw[rT.1] at rk';rw[rk'.val] at ek;exact (by show 0<=sizeLine;decide,λlo nlo=>(by show 2<=sizeLine;decide,λt nt=>q t _ ((g1.trans (ac nlo _)).trans (ac nt _)) (av lk lo (ae,ac nt _ _ _ (ac nlo _ _ _ ek),([],ac nt _ _ _ ae,eE.nil)))))
theorem Bl {dV:Value} (F:bz K "many_in" "many_in" y9 dV f fd) (DZ9:Dx P w K mg base bt 1 "use_in" ["way","tool"] [] nz):bv P w K mg base bt 2 f fd ["way","tool"] fX:=by
 have sc:aF ["way","tool","use"] ["way","tool"] (aw y9):=dq 119
 and_intros
 ·obtain ⟨_,_,_,rfl,_⟩:=h
  rfl
 obtain ⟨v,z,w,rfl,rw',q⟩:=h;exists _,(ah (cR 2 sc (bX DZ9 hr ((pv 0)<*>((pv 1)<*>ag)))) (aj (aq (j6 (ao fc (pv 2) aR (aA _)) af 132))))
 try dsimp only[cxK]
 refine jR ?_;intro D' r1;refine (ν,ν,aJ v z w _ (rfl,rw',λu a hu _ ha=>?_,λhn=>?_))
 ·rw[ph hu] at q;exact ⟨_,rfl,rfl,_,rfl,dF nofun ⟨_,rfl,aJ a _ _ _ ⟨rfl,rfl,be.of ha,rfl,q⟩⟩⟩
 ·rw[pd hn] at q;exact (ν,rfl,ν,dT rfl q)
theorem Bm {dV:Value} (F:bz K "open_ways" "open_ways" za dV f fd) (DZ2:Dx P w K mg base bt 1 "copy_of_task" ["ways"] [] ny):bv P w K mg base bt 2 f fd ["net","case","i"] (kA on):=by
 have sc:aF ["net","case","i","ways","pick"] ["net","case","i"] (aw za):=dq 119
 and_intros
 ·obtain ⟨_,_,_,rfl,_⟩:=h
  rfl
 refine kB h λx t i _hi=>?_
 refine dk _hi λ_r1 _hj=>?_
 refine gi _hj λD T A B2 n P _hk=>?_
 refine eI _hk λO _hl=>?_
 refine iC _hl λNC il q=>?_
 clear h _hi _hj _hk _hl;subst _r1;exists _,(ah (cR 3 sc (bX DZ2 hr ((au br (cW (pv 0) rfl) (pv 2) 117)<*>ag))) (ah (cR 4 sc (au br (au aC (pv 1) af 117) (pv 2) 117)) (aj (aq (j6 (ao fc (pv 4) aR (aA _)) (pv 3) (@aM _ _ _ _ ((au br (pv 3) (pv 4) 117)<*>ag)))))))
 try dsimp only[cxK]
 refine lt3 ?_;intro D' r2 r1;refine gi NC.net.ex λdx td tl al pl fs _hi=>?_
 refine qe _hi λe0 l1 l2 l3 l4 l5 ed _r1 _hj=>?_
 refine dk _hj λhA hB=>?_
 obtain ⟨vs,el,rT⟩:=_r1;obtain ⟨kl,ol,ec,ek,ho⟩:=id NC.case_;have hT:=E2 il;have ol':=fB (P:=P) NC.ok.ways il;obtain ⟨w1,w2,_⟩:=NC.ok.ways _ (EQ il);obtain ⟨y,hy,wl,rfl,_,lw⟩:=rT.get hT;have hP:=E2 (show i<P.length by rw[NC.pk.len];exact il)
 have oF:bi T P i=match P[i]'(by rw[NC.pk.len];exact il) with|none=>T[i]|some j=> [(T[i]).getD j (0,0,[])]:=by
  unfold bi;rw[bf hT,bf hP];try rfl
 refine (ν,aJ x _ dx _ (_,(rfl,e0,B.Fz,B.Fr,l2,ν,aJ tl _ _ _ (rfl,rfl,aD.of el,(aT hy),bU wl _ _ (rfl,lw,w2,λp H1 g1 np wf=>?_)))))
 refine (ν,aJ t _ _ _ (rfl,rfl,be.of (g1 _ _ ec),rfl,ν,aJ kl _ _ _ (rfl,rfl,aD.of (g1 _ _ ek),(aT (dL hP)),?_)));obtain ⟨p',e',hpn,lp⟩:=wf;cases e';have lpA:=lp.any;cases hp:P[i]'(by rw[NC.pk.len];exact il) with
 |none=>
  rw[hp] at oF;refine (ν,rfl,ν,dT rfl (ν,?_));rw[oF] at q;exact q p H1 g1 np lpA
 |some j=>
  rw[hp] at oF hP;have jl:=NC.pk.pick i j _ hP hT;have hw:=E2 jl;replace oF:bi T P i= [(T[i]).getD j (0,0,[])]:=oF;rw[bf hw] at oF;obtain ⟨ys,ey,ry⟩:=lpA;obtain ⟨v,hv,rv⟩:=ry.get hw;refine ⟨_,rfl,rfl,_,rfl,dF nofun ⟨_,rfl,_,rfl,aJ p _ _ _ ⟨rfl,rfl,aD.of ey,(aT hv),by show 1<=sizeLine;decide,λp2 np2=>?_⟩⟩⟩
  rw[oF] at q;exact q p2 _ (g1.trans (ac np2 _)) (g1.free np2) (_,ae,A2.one (de rv (ac np2 _)))
theorem Bo {dV:Value} (F:bz K "want_of" "want_of" zb dV f fd) (DZ12:Dx P w K mg base bt 2 "many_in" ["way","tool"] [] fX) (DZ13:Dx P w K mg base bt 2 "open_ways" ["net","case","i"] [] (kA on)):bv P w K mg base bt 3 f fd ["net","case","i","tool"] (nL on gW):=by
 have sc:aF ["net","case","i","tool"] ["net","case","i","tool"] (aw zb):=dq 119
 and_intros
 ·obtain ⟨_,_,_,_,rfl,_⟩:=h
  rfl
 refine gA h λx t i z _hi=>?_
 refine dk _hi λ_r1 _hj=>?_
 refine gi _hj λD T A B2 n P _hk=>?_
 refine eI _hk λO _hl=>?_
 refine iC _hl λNC il q=>?_
 clear h _hi _hj _hk _hl;subst _r1;exists _,(aj (aq (aB (dR rfl) rfl B.Gk boot_min ((bZ (own:= "way") (ys:= ["tool"]) (js:= [3]) rfl (cok (ie fR) (.cons rfl .nil) 118 rfl rfl rfl rfl rfl rfl rfl rfl) (aG (bX DZ13 hr ((pv 0)<*>((pv 1)<*>146)))) (λC fp s H=>(bX DZ12 hr ((pv 0)<*>((pv 1)<*>ag)))))<*>ag))))
 try dsimp only[cxK]
 sleep 0;have ne:=ig (P:=P) NC.ok.ways il;have ln:=fB (P:=P) NC.ok.ways il;refine (ν,ν,ν,bU x t i (rfl,fE D T A B2 n P (O,(NC,il,λp H1 g1 np (vs,ev,rv)=>?_))))
 refine (p,rfl,(_,aD.of ev),bJ (dW V.int) 145 (λk=>(λw:Wy=>dB w z) ((bi T P i).getD k (0,0,[]))) (aD.of ev) (by rw[rv.1];lia) 136 (λk y hy H2 g2 Q' hQ=>?_) λp2 H2 np2 g2 hp=>?_)
 ·obtain ⟨w,hw,rw'⟩:=rv.at_ hy;rw[bf hw] at hQ;exact (ν,ν,bU y z w (rfl,de rw' g2,hQ _ _ 148 rfl))
 ·obtain ⟨us,eu,ru⟩:=hp;have eus:us=((bi T P i).map λw:Wy=>dB w z).map V.int:=by
   rw[ru.val,rv.1]
   conv=>rhs;rw[<-bO (bi T P i) (0,0,[])]
   rw[EH,EH,EH]
   rfl
  rw[eus] at eu;refine (av p2 _ (rfl,aD.of eu,by simpa using ne,λM hM hle=>?_))
  rw[eR hM hle];exact q _ (g1.trans g2)
theorem Bp {dV:Value} (F:bz K "work_of" "work_of" zc dV f fd) (DZ12:Dx P w K mg base bt 2 "many_in" ["way","tool"] [] fX) (DZ13:Dx P w K mg base bt 2 "open_ways" ["net","case","i"] [] (kA on)):bv P w K mg base bt 3 f fd ["net","case","i","tool"] (nL on dS):=by
 have sc:aF ["net","case","i","tool"] ["net","case","i","tool"] (aw zc):=dq 119
 and_intros
 ·obtain ⟨_,_,_,_,rfl,_⟩:=h
  rfl
 refine gA h λx t i z _hi=>?_
 refine dk _hi λ_r1 _hj=>?_
 refine gi _hj λD T A B2 n P _hk=>?_
 refine eI _hk λO _hl=>?_
 refine iC _hl λNC il q=>?_
 clear h _hi _hj _hk _hl;subst _r1;exists _,(aj (aq (aB (dR rfl) rfl B.Gk boot_min ((bZ (own:= "way") (ys:= ["tool"]) (js:= [3]) rfl (cok (ie fR) (.cons rfl .nil) 118 rfl rfl rfl rfl rfl rfl rfl rfl) (aG (bX DZ13 hr ((pv 0)<*>((pv 1)<*>146)))) (λC fp s H=>(am bg 133 (bX DZ12 hr ((pv 0)<*>((pv 1)<*>ag))))))<*>ag))))
 try dsimp only[cxK]
 sleep 0;have ne:=ig (P:=P) NC.ok.ways il;have ln:=fB (P:=P) NC.ok.ways il;refine (ν,ν,ν,bU x t i (rfl,fE D T A B2 n P (O,(NC,il,λp H1 g1 np (vs,ev,rv)=>?_))))
 refine (p,rfl,(_,aD.of ev),bJ (dW V.int) 145 (λk=>(λw:Wy=>w.1*dB w z) ((bi T P i).getD k (0,0,[]))) (aD.of ev) (by rw[rv.1];lia) 136 (λk y hy H2 g2 Q' hQ=>?_) λp2 H2 np2 g2 hp=>?_)
 ·obtain ⟨w,hw,rw'⟩:=rv.at_ hy;rw[bf hw] at hQ;obtain ⟨tw,uw,rfl,pa,pb,etw,lw⟩:=id rw';have w1:1<=w.1/\w.1<=1000000000:=by
   obtain ⟨ws,hws,hww⟩:=jZ NC.ok.ways NC.pk il w (E4 hw);obtain ⟨a1,a2,a3,_⟩:=(NC.ok.ways ws hws).2.2 w hww
   lia
  exact (ν,aJ tw _ _ _ (rfl,rfl,be.of (g2 _ _ etw),rfl,ν,ν,bU (.ref tw) z w (rfl,de rw' g2,av _ _ (rfl,rfl,IntMulOk.of_left (intBits_le_64 (by lia) (by lia)),hQ _ _ 148 rfl))))
 ·obtain ⟨us,eu,ru⟩:=hp;have eus:us=((bi T P i).map λw:Wy=>w.1*dB w z).map V.int:=by
   rw[ru.val,rv.1]
   conv=>rhs;rw[<-bO (bi T P i) (0,0,[])]
   rw[EH,EH,EH]
   rfl
  rw[eus] at eu;refine (av p2 _ (rfl,aD.of eu,by simpa using ne,λM hM hle=>?_))
  rw[eR hM hle];exact q _ (g1.trans g2)
theorem Bq {dV:Value} (F:bz K "heats_differ" "heats_differ" zd dV f fd) (DZ9:Dx P w K mg base bt 1 "use_in" ["way","tool"] [] nz):bv P w K mg base bt 2 f fd ["one","other"] pj:=by
 have sc:aF ["one","other","tool","many","heat","use"] ["one","other"] (aw zd):=dq 119
 and_intros
 ·obtain ⟨_,_,_,_,rfl,_⟩:=h
  rfl
 refine gA h λv v' w w' _hi=>?_
 refine eX _hi λ_r1 _r2 rw' q=>?_
 clear h _hi;subst _r1;obtain ⟨t,u,rfl,_,_,et,us,eu,ru⟩:=_r2;exists _,(ah (aV PassesOwn.never rfl (aG 134) (cZ rfl (aL (cY 2 sc) (aL (cY 3 sc) (aL (cY 4 sc) cv)))) (ah (cR 5 sc (bX DZ9 hr ((pv 1)<*>146))) (aj (aI (PW.pt (cy (ao dY (pv 5) aR (aA _)) (bV (ao eT (au aC (pv 5) af 117) (pv 4) (aA _))))) 141 ar)))) 141)
 try dsimp only[cxK]
 refine jR ?_;intro D' r1;refine ⟨_,rfl,aJ t _ _ _ ⟨rfl,rfl,be.of et,rfl,u,rfl,⟨_,aD.of eu⟩,aU (xs:=us) (λi σ H'=>H=H'/\(∃o2 o3 o4 o5:Option V,σ= [GV t,some v',o2,o3,o4,o5])/\(w.2.2.take i).any (λu=>match qT w' u.1 with|some x=> !decide (x.2.2=u.2.2)|none=>false)=false) ⟨rfl,(aJ none none none none rfl),rfl⟩ (λi σ H' _ h=>by rw[<-h.1];exact aD.of eu) ?_ ?_⟩⟩
 ·rintro i y σ H1 hy ⟨rfl,⟨o2,o3,o4,o5,rfl⟩,hn⟩;obtain ⟨e,he,a,rfl,_,ea⟩:=ru.at_ hy;have tk:w.2.2.take (i+1)=w.2.2.take i++ [e]:=aW he;refine (av a _ (rfl,be.of ea,rfl,av _ _ (rfl,av _ _ (rfl,av _ _ (rfl,rfl,?_)))));have no:(match qT w' e.1 with|some x=> !decide (x.2.2=e.2.2)|none=>false)=false->(w.2.2.take (i+1)).any (λu=>match qT w' u.1 with|some x=> !decide (x.2.2=u.2.2)|none=>false)=false:=λh=>by
   rw[tk,FH,hn,En,F5,Fk,FX];exact h
  refine (ν,ν,aJ v' e.1 w' _ (rfl,rw',λx b hx _ hb=>?_,λhx=>?_))
  ·refine ⟨_,rfl,rfl,_,rfl,nT nofun ⟨_,rfl,aJ b _ _ _ ⟨rfl,rfl,be.of hb,rfl,_,rfl,rfl,_,rfl,xb (λc=>?_) (λc=>?_)⟩⟩⟩
   ·have:cE w w'=true:=by
     unfold cE;rw[Ee];exact (e,E4 he,by rw[hx];simp[c])
    rw[this] at q;exact q
   ·exact (rfl,(aJ _ _ _ _ rfl),no (by rw[hx];simp[c]))
  ·exact (ν,rfl,ν,nF rfl (rfl,(aJ _ _ _ _ rfl),no (by rw[hx])))
 ·rintro σ H1 ⟨rfl,⟨o2,o3,o4,o5,rfl⟩,hn⟩;rw[ru.1,ES] at hn;have:cE w w'=false:=hn;rw[this] at q;exact q
theorem Br {dV:Value} (F:bz K "unlike_heats" "unlike_heats" ze dV f fd) (DZ13:Dx P w K mg base bt 2 "open_ways" ["net","case","i"] [] (kA on)) (DZ16:Dx P w K mg base bt 2 "heats_differ" ["one","other"] [] pj):bv P w K mg base bt 3 f fd ["net","case","i","j"] (pp on):=by
 have sc:aF ["net","case","i","j","one","other"] ["net","case","i","j"] (aw ze):=dq 119
 and_intros
 ·obtain ⟨_,_,_,_,rfl,_⟩:=h
  rfl
 refine gA h λx t i j _hi=>?_
 refine dk _hi λ_r1 _hj=>?_
 refine gi _hj λD T A B2 n P _hk=>?_
 refine eI _hk λO _hl=>?_
 refine eX _hl λNC il jl q=>?_
 clear h _hi _hj _hk _hl;subst _r1;exists _,(ah (aV PassesOwn.never rfl (aG (bX DZ13 hr ((pv 0)<*>((pv 1)<*>146)))) (cY 4 sc) (aj (aV PassesOwn.never rfl (aG (bX DZ13 hr ((pv 0)<*>((pv 1)<*>((pv 3)<*>ag))))) (cY 5 sc) (aj (aI (bS (cB (bX DZ16 hr ((pv 4)<*>((pv 5)<*>ag))))) 141 ar))))) 141);try dsimp only[cxK]
 refine jR ?_;intro D' r1;refine (ν,ν,ν,bU x t i (rfl,fE D T A B2 n P (O,(NC,il,λp H1 g1 np (vs,ev,rv)=>?_))))
 refine (p,rfl,(_,aD.of ev),aU (xs:=vs) (λk σ H'=>aE H1 H'/\(∃o4 o5:Option V,σ= [GV x,GV t,some (.int (i:Int)),some (.int (j:Int)),o4,o5])/\((bi T P i).take k).all (λv=>(bi T P j).all λw=>cE v w)=true) (.refl _,(av none none rfl),rfl) (λk σ H' _ h=>aD.of (h.1 _ _ ev)) ?_ ?_)
 ·rintro k y σ H2 hy ⟨g2,⟨o4,o5,rfl⟩,hall⟩;obtain ⟨v,hv,rv'⟩:=rv.at_ hy;have kk:=g1.trans g2;refine (ν,ν,ν,bU x t j (rfl,fE D T A B2 n P (O,(NC.same kk,jl,λp3 H3 g3 np3 (us,eu,ru)=>?_))))
  refine (p3,rfl,(_,aD.of eu),aU (xs:=us) (λm σ H'=>H3=H'/\(∃o5:Option V,σ= [GV x,GV t,some (.int (i:Int)),some (.int (j:Int)),some y,o5])/\((bi T P j).take m).all (λw=>cE v w)=true) (rfl,⟨ν⟩,rfl) (λm σ H' _ h=>by rw[<-h.1];exact aD.of eu) ?_ ?_)
  ·rintro m y2 σ H4 hy2 ⟨rfl,⟨o5,rfl⟩,hm⟩;obtain ⟨w,hw,rw'⟩:=ru.at_ hy2;refine (ν,ν,aJ y y2 v w (rfl,de rv' (g2.trans g3),rw',ν,?_));cases hd:cE v w with
   |true=>
    refine cu (rfl,⟨ν⟩,?_);rw[aW hw,Fd,hm,Eu,Fg,List.all_nil,Fn];exact hd
   |false=>
    have:cx T P i j=false:=by
     unfold cx;rw[<-FJ,ED];intro h;have h2:=h v (E4 hv);rw[ED] at h2;have:=h2 w (E4 hw);rw[hd] at this;cases this
    rw[this] at q;exact cC (q _ (kk.trans g3))
  ·rintro σ H4 ⟨rfl,⟨o5,rfl⟩,hm⟩;rw[ru.1,ES] at hm;exists g2.trans g3,(av _ _ rfl);rw[aW hv,Fd,hall,Eu,Fg,List.all_nil,Fn];exact hm
 ·rintro σ H2 ⟨g2,⟨o4,o5,rfl⟩,hall⟩;rw[rv.1,ES] at hall;have:cx T P i j=true:=hall;rw[this] at q;exact q _ (g1.trans g2)
theorem Bs {dV:Value} (F:bz K "arcs_of" "arcs_of" zf dV f fd) (DZ13:Dx P w K mg base bt 2 "open_ways" ["net","case","i"] [] (kA on)):bv P w K mg base bt 3 f fd ["net","case"] (jg on):=by
 have sc:aF ["net","case","arcs","i","ways","j"] ["net","case"] (aw zf):=dq 119
 and_intros
 ·obtain ⟨_,_,rfl,_⟩:=h
  rfl
 refine pw h λx t _hi=>?_
 refine dk _hi λ_r1 _hj=>?_
 refine gi _hj λD T A B2 n P _hk=>?_
 refine eI _hk λO _hl=>?_
 refine iC _hl λNC po q=>?_
 clear h _hi _hj _hk _hl;subst _r1;exists _,(ah (cR 2 sc (b8 bY rfl B.Gc boot_list ((cW (pv 0) rfl)<*>ag))) (ah (aV PassesOwn.never rfl (cK rfl B.Gb ((aB ay rfl B.Ev boot_len ((cW (pv 0) rfl)<*>ag))<*>ag)) (cY 3 sc) (ah (cR 4 sc (bX DZ13 hr ((pv 0)<*>((pv 1)<*>((pv 3)<*>ag))))) (ah (bW (dQ EM EX EW bw (pv 2) ((@aZ _ _ _ _ _ ((am bg af (pv 3))<*>((am aX (am bg af (pv 3)) af)<*>((aB (dR rfl) rfl B.Gk boot_min ((bZ (own:= "way") (ys:= []) (js:= []) rfl 130 (aG (pv 4)) (λC fp s H=>133))<*>ag))<*>ag))))<*>ag))) (aj (bW (dQ EM EX EW bw (pv 2) ((@aZ _ _ _ _ _ ((am aX (am bg af (pv 3)) af)<*>((am bg af (pv 3))<*>((iS gq (aB (jt rfl) rfl B.GB boot_max ((bZ (own:= "way") (ys:= []) (js:= []) rfl 130 (aG (pv 4)) (λC fp s H=>133))<*>ag)))<*>ag))))<*>ag))))))) (ah (aV PassesOwn.never rfl (aG (au aC (pv 1) af 117)) (cZ rfl (aL (cY 3 sc) (aL (cY 5 sc) cv))) (aj (bW (dQ EM EX EW bw (pv 2) ((@aZ _ _ _ _ _ ((am aX (am bg af (pv 3)) af)<*>((am bg af (pv 5))<*>(af<*>ag))))<*>ag))))) (aj (aq (pv 2))))))
 try dsimp only[cxK]
 refine yQ ?_;intro D' r3 r2 r1;sleep 0;refine gi NC.net.ex λdx td tl al pl fs _hi=>?_
 refine qe _hi λe0 l1 l2 l3 l4 l5 ed _r1 _hj=>?_
 refine dk _hj λ_r2 hB=>?_
 obtain ⟨vs,el,rT⟩:=_r1;obtain ⟨ba,ea,ra⟩:=_r2;obtain ⟨kl,ol,ec,ek,⟨bo,eo,ro⟩⟩:=id NC.case_;have a600:=NC.ok.a600;have t24:=NC.ok.t24;have lv:vs.length=T.length:=rT.1;refine (ν,aJ x _ dx _ (_,(rfl,e0,B.Fz,B.Gi,l3,av al _ (rfl,.inl (aD.of ea),λl nl=>?_))))
 have g0:=ac nl (.lst (ba.map V.ref));have hA0:bq (aH H l (.lst (ba.map V.ref))) l (A++cU T P 0):=⟨ba,ae,by rw[show A++cU T P 0=A from FG A];exact ra.imp λa k q=>g0 _ _ q⟩
 generalize aH H l (.lst (ba.map V.ref))=H0 at g0 hA0⊢;try dsimp only[cg,cM]
 refine cut (λσ H'=>∃o3 o4 o5:Option V,σ= [GV x,GV t,GV l,o3,o4,o5]/\aE H H'/\bq H' l (A++cU T P T.length)) (λN hN=>?_) ?_
 ·refine (ν,aJ x _ dx _ (_,(rfl,(g0 _ _ e0),B.Fz,B.Fr,l2,av tl _ (rfl,.inl (aD.of (g0 _ _ el)),ν,by lia,by lia,cL (λi σ H'=>∃o3 o4 o5:Option V,σ= [GV x,GV t,GV l,o3,o4,o5]/\aE H H'/\bq H' l (A++cU T P i)) (bU none none none (rfl,g0,hA0)) ?_ ?_))))
  ·rintro i σ H1 hi ⟨o3,o4,o5,rfl,g1,⟨bs,eb,rb⟩⟩;rw[ET,lv] at hi;have zi:(0+(i:Int))=(i:Int):=Int.zero_add _;have ne:=ig (P:=P) NC.ok.ways hi;have ln:=fB (P:=P) NC.ok.ways hi;have lb:bs.length=A.length+2*i:=by rw[rb.1,E3,dj]
   refine (ν,ν,ν,bU x t i (by rw[zi];rfl,fE D T A B2 n P (O,(NC.same g1,hi,λp H2 g2 np (vs,ev,rv)=>?_))))
   refine (ν,.inl (rfl,_,aD.of (g2 _ _ eb)),ν,av _ _ (rfl,rfl,IntMulOk.of_left 118,ν,av _ _ (rfl,rfl,IntMulOk.of_left 118,av _ _ (rfl,rfl,ν,p,rfl,(_,aD.of ev),bJ (dW V.int) 145 (λk=>(λw:Wy=>w.1) ((bi T P i).getD k (0,0,[]))) (aD.of ev) (by rw[rv.1];lia) 136 (λk y hy Hk gk Q' hQ=>?_) λp2 H3 np2 g3 hp2=>?_))))
   ·refine eI (rv.at_ hy) λw _hi=>?_
    refine dk _hi λhw _hj=>?_
    refine pw _hj λtw uw _hk=>?_
    refine eX _hk λ_r1 _ _ _hl=>?_
    refine dk _hl λetw _=>?_
    clear _hi _hj _hk _hl;subst _r1;rw[bf hw] at hQ;exact (ν,aJ tw _ _ _ (rfl,rfl,be.of (gk _ _ etw),rfl,hQ _ _ 148 rfl))
   obtain ⟨us,eu,ru⟩:=hp2;have eus:us=((bi T P i).map λw:Wy=>w.1).map V.int:=by
    rw[ru.val,rv.1]
    conv=>rhs;rw[<-bO (bi T P i) (0,0,[])]
    rw[EH,EH,EH]
    rfl
   rw[eus] at eu;refine (av p2 _ (rfl,aD.of eu,by simpa using ne,λM hM hle=>(by show 3<=sizeLine;decide,λt1 nt1=>(bU l _ _ (rfl,rfl,ac nt1 _ _ _ ((g2.trans g3) _ _ eb),by rw[E1];lia,?_)))))
   rw[zi,eR hM hle];obtain ⟨m1,hm1⟩:∃m1,m1=gU ((bi T P i).map λw:Wy=>w.1):=⟨_,rfl⟩
   rw[<-hm1];have gt1:=ac nt1 (.tup [.int (2*(i:Int)),.int (2*(i:Int)+1),.int m1]);have k4:=((g1.trans g2).trans g3).trans gt1;have q4:=(g2.trans g3).trans gt1;have hA4:=gQ (k:= [2*(i:Int),2*(i:Int)+1,m1]) (q4 _ _ eb) (rb.imp λa k q=>q4 _ _ q) ae
   have k5:=dJ k4 nl (.lst (bs.map V.ref++ [.ref t1]));have ev5:aH (aH H3 t1 (.tup [.int (2*(i:Int)),.int (2*(i:Int)+1),.int m1])) l (.lst (bs.map V.ref++ [.ref t1])) p=some (.lst vs):=by
    rw[aK (λe=>by rw[e,eb] at np;cases np)]
    exact (g3.trans gt1) _ _ ev
   have tw5:∀tw ys,H2 tw=some (.tup ys)->aH (aH H3 t1 (.tup [.int (2*(i:Int)),.int (2*(i:Int)+1),.int m1])) l (.lst (bs.map V.ref++ [.ref t1])) tw=some (.tup ys):=λtw ys e=>by
    rw[aK (λz=>by rw[z,g2 _ _ eb] at e;cases e)]
    exact (g3.trans gt1) _ _ e
   generalize aH (aH H3 t1 (.tup [.int (2*(i:Int)),.int (2*(i:Int)+1),.int m1])) l (.lst (bs.map V.ref++ [.ref t1]))=H5 at hA4 k5 ev5 tw5⊢;clear eu eus ru us gt1 k4 q4 nt1 g3 np2;obtain ⟨cs,ecs,rcs⟩:=hA4;have lc:cs.length=A.length+2*i+1:=by rw[rcs.1,E3,E3,dj];rfl
   refine (ν,.inl (rfl,_,aD.of ecs),ν,av _ _ (rfl,rfl,IntMulOk.of_left 118,av _ _ (rfl,rfl,ν,av _ _ (rfl,rfl,IntMulOk.of_left 118,ν,p,rfl,(_,aD.of ev5),bJ (dW V.int) 145 (λk=>(λw:Wy=>w.2.1) ((bi T P i).getD k (0,0,[]))) (aD.of ev5) (by rw[rv.1];lia) 136 (λk y hy Hk gk Q' hQ=>?_) λp3 H6 np3 g6 hp3=>?_))))
   ·refine eI (rv.at_ hy) λw _hi=>?_
    refine dk _hi λhw _hj=>?_
    refine pw _hj λtw uw _hk=>?_
    refine eX _hk λ_r1 _ _ _hl=>?_
    refine dk _hl λetw _=>?_
    clear _hi _hj _hk _hl;subst _r1;rw[bf hw] at hQ;exact (ν,aJ tw _ _ _ (rfl,rfl,be.of (gk _ _ (tw5 _ _ etw)),rfl,hQ _ _ 148 rfl))
   obtain ⟨us,eu,ru⟩:=hp3;have eus:us=((bi T P i).map λw:Wy=>w.2.1).map V.int:=by
    rw[ru.val,rv.1]
    conv=>rhs;rw[<-bO (bi T P i) (0,0,[])]
    rw[EH,EH,EH]
    rfl
   rw[eus] at eu;refine (av p3 _ (rfl,aD.of eu,by simpa using ne,λM2 hM2 hle2=>(ν,by show 3<=sizeLine;decide,λt2 nt2=>(bU l _ _ (rfl,rfl,ac nt2 _ _ _ (g6 _ _ ecs),by rw[E1];lia,?_)))))
   rw[sF hM2 hle2];have gt2:=ac nt2 (.tup [.int (2*(i:Int)+1),.int (2*(i:Int)),.int (-(k8 ((bi T P i).map λw:Wy=>w.2.1)))])
   have hA7:=gQ (k:= [2*(i:Int)+1,2*(i:Int),-(k8 ((bi T P i).map λw:Wy=>w.2.1))]) ((g6.trans gt2) _ _ ecs) (rcs.imp λa k q=>(g6.trans gt2) _ _ q) ae
   refine (bU _ _ _ (rfl,dJ ((k5.trans g6).trans gt2) nl _,?_));have e:A++cU T P (i+1)=A++cU T P i++ [[2*(i:Int),2*(i:Int)+1,m1]]++ [[2*(i:Int)+1,2*(i:Int),-(k8 ((bi T P i).map λw:Wy=>w.2.1))]]:=by
    rw[hm1];show A++(cU T P i++_)=_;rw[Ez,Ez]
    rfl
   rw[e];exact hA7
  ·rintro σ H1 ⟨o3,o4,o5,rfl,g1,hA⟩;rw[ET,lv] at hA;exact hN _ _ (bU _ _ _ (rfl,g1,hA))
 clear hA0 g0;rintro σ H1 ⟨o3,o4,o5,rfl,g1,hA⟩;refine ⟨_,rfl,aJ t _ _ _ ⟨rfl,rfl,be.of (g1 _ _ ec),rfl,ol,rfl,⟨_,aD.of (g1 _ _ eo)⟩,aU (xs:=bo.map V.ref) (λk σ H'=>∃o3 o4 o5:Option V,σ= [GV x,GV t,GV l,o3,o4,o5]/\aE H H'/\bq H' l (A++cU T P T.length++jf (O.take k))) (bU _ _ _ ⟨rfl,g1,by rw[List.take_zero];exact (FG _).symm▸hA⟩) (λk σ H' _ h=>by obtain ⟨_,_,_,_,g,_⟩:=h;exact aD.of (g _ _ eo)) ?_ ?_⟩⟩
 ·rintro k y σ H2 hy ⟨o3,o4,o5,rfl,g2,⟨bs,eb,rb⟩⟩;obtain ⟨b,hb,rfl⟩:=cP hy;have kl:k<O.length:=by rw[<-ro.1];exact (E6.mp hb).1
  have hk:=E2 kl;have eb':=ro.2 k b _ hb hk;obtain ⟨p,q',ek'⟩:=po.2 _ (EQ kl);rw[ek'] at eb' hk;have lb:bs.length<=2000:=by
   have:=rb.1;have h1:=po.1;rw[E3,E3,dj] at this;unfold jf at this;rw[E1,EC] at this
   lia
  refine (av b _ (rfl,be.of (g2 _ _ eb'),rfl,av _ _ (rfl,av _ _ (rfl,rfl,?_))));refine (ν,.inl (rfl,_,aD.of eb),ν,av _ _ (rfl,rfl,IntMulOk.of_left 118,av _ _ (rfl,rfl,ν,av _ _ (rfl,rfl,IntMulOk.of_left 118,by show 3<=sizeLine;decide,λt1 nt1=>(bU l _ _ (rfl,rfl,ac nt1 _ _ _ eb,by rw[E1];lia,?_))))))
  have gt:=ac nt1 (.tup [.int (2*p+1),.int (2*q'),.int 0]);refine (bU _ _ _ (rfl,dJ (g2.trans gt) nl _,?_));have e:jf (O.take (k+1))=jf (O.take k)++ [[2*p+1,2*q',0]]:=by
   unfold jf;rw[aW hk,EU]
   rfl
  rw[e,<-Ez];exact gQ (gt _ _ eb) (rb.imp λa k q=>gt _ _ q) ae
 ·rintro σ H2 ⟨o3,o4,o5,rfl,g2,hA2⟩;have lo:(bo.map V.ref).length=O.length:=by rw[E1,ro.1]
  rw[lo,ES] at hA2;exact (ν,q l H2 g2 nl hA2)
theorem Bt {dV:Value} (F:bz K "greatest_lags" "greatest_lags" zg dV f fd):bv P w K mg base bt 1 f fd ["arcs"] nH:=by
 have sc:aF ["arcs","lags","p","q","lag"] ["arcs"] (aw zg):=dq 119
 and_intros
 ·obtain ⟨_,_,rfl,_⟩:=h
  rfl
 obtain ⟨l,A,rfl,⟨as,el,rA⟩,l7,q⟩:=h;exists _,(ah (cR 1 sc u8) (ah (aV PassesOwn.never rfl (aG (pv 0)) (cZ rfl (aL (cY 2 sc) (aL (cY 3 sc) (aL (cY 4 sc) cv)))) (aj (wY (gG hr) (pv 1) (@aZ _ _ _ _ _ ((pv 2)<*>((pv 3)<*>ag))) (aB (tE rfl) rfl B.GB boot_max ((pv 4)<*>((u9 (gG hr) (pv 1) (@aZ _ _ _ _ _ ((pv 2)<*>((pv 3)<*>ag))) (pv 4) (rfl,rfl,rfl,rfl))<*>ag))) rfl))) (aj (aq (pv 1)))));try dsimp only[cxK]
 refine lt3 ?_;intro D' r2 r1;sleep 0;have la:(as.map V.ref).length=A.length:=by rw[E1,rA.1,E1]
 refine λd nd=>?_
 have g0:=ac nd (.dT []);refine (ν,l,rfl,(_,aD.of (g0 _ _ el)),aU (xs:=as.map V.ref) (λi σ H'=>∃o2 o3 o4:Option V,σ= [GV l,GV d,o2,o3,o4]/\aE H H'/\∃kvs,H' d=some (.dT kvs)/\kvs.length<=i/\uo kvs (A.take i)) (bU none none none (rfl,g0,[],ae,E8 _,λp q=>rfl)) (λi σ H' _ (_,_,_,_,g,_)=>aD.of (g _ _ el)) ?_ ?_)
 ·intro i y σ H1 hy h_;refine kB h_ λo2 o3 o4 _hi=>?_
  refine iC _hi λ_r1 g1 _hj=>?_
  refine eI _hj λkvs _hk=>?_
  refine iC _hk λed lk vk=>?_
  clear h_ _hi _hj _hk;subst _r1;obtain ⟨b,hb,rfl⟩:=cP hy;obtain ⟨r,hr',eb⟩:=qM rA hb;have ir:=(E6.mp hr').1;refine (av b _ (rfl,be.of (g1 _ _ eb),rfl,av _ _ (rfl,av _ _ (rfl,av _ _ (rfl,rfl,?_)))));refine (ν,ν,d,rfl,.inr (_,.inl ed),ν,ν,by show 2<=sizeLine;decide,λt1 n1=>(ν,_,iZ.t (k:= [.inl r.1,.inl r.2.1]) (ac n1 _ _ _ ed) ae,?_))
  rw[vk,xA];refine (av _ _ (rfl,ν,ν,ν,by show 2<=sizeLine;decide,λt2 n2=>(av d _ (rfl,u4.t (k:= [.inl r.1,.inl r.2.1]) (ac n2 _ _ _ (ac n1 _ _ _ ed)) ae (by lia),?_))))
  exact (bU _ _ _ (rfl,dJ ((g1.trans (ac n1 _)).trans (ac n2 _)) nd _,_,ae,FB (fF _ _ _) (by lia),vk.put hr'))
 ·intro σ H1 h_;refine kB h_ λo2 o3 o4 _hi=>?_
  refine iC _hi λ_r1 g1 _hj=>?_
  refine eI _hj λkvs _hk=>?_
  refine iC _hk λed lk vk=>?_
  clear h_ _hi _hj _hk;subst _r1;rw[la,ES] at vk;exact (ν,q d kvs _ g1 nd ed vk)
theorem Bu {dV:Value} (F:bz K "total_by" "total_by" zh dV f fd):bv P w K mg base bt 1 f fd ["lags","chain"] nW:=by
 have sc:aF ["lags","chain","total","p","q"] ["lags","chain"] (aw zh):=dq 119
 and_intros
 ·obtain ⟨_,_,_,_,_,rfl,_⟩:=h
  rfl
 refine gA h λd c A C _hi=>?_
 refine eI _hi λkvs _hj=>?_
 refine gB _hj λ_r1 ed vk ec1 c7 k=>?_
 clear h _hi _hj;subst _r1;exists _,(ah (cR 2 sc af) (ah (aV PassesOwn.never rfl (vn rfl B.GG ((pv 1)<*>((aY bI (pv 1) (bj af) bA)<*>ag))) (cZ rfl (aL (cY 3 sc) (aL (cY 4 sc) cv))) (ah (aI (qi (jq (gG hr) (@aZ _ _ _ _ _ ((pv 3)<*>((pv 4)<*>ag))) (pv 0)) 129) (aj (aq aR)) ar) (aj (yp (i:=2) sc.nd rfl (Or.inl rfl) (ic (gG hr) (pv 0) (@aZ _ _ _ _ _ ((pv 3)<*>((pv 4)<*>ag))) 117) yq)))) (aj (aq (pv 2)))))
 try dsimp only[cxK]
 refine lt3 ?_;intro D' r2 r1;sleep 0;refine (ν,ν,ν,av c _ (rfl,aD.of ec1,λp1 n1=>?_))
 have cD:fM (C.map V.int) (some 1) none=(C.drop 1).map V.int:=by rw[show (1:Int)=((1:Nat):Int) from rfl,t9,List.map_drop]
 rw[cD];have g2:=ac n1 (.lst ((C.drop 1).map V.int));have ed2:=ac n1 (.lst ((C.drop 1).map V.int)) _ _ ed;have ep:aH H p1 (.lst ((C.drop 1).map V.int)) p1=some (.lst ((C.drop 1).map V.int)):=ae;generalize aH H p1 (.lst ((C.drop 1).map V.int))=H2 at g2 ed2 ep⊢;have ml:min (C.map V.int).length ((C.drop 1).map V.int).length=C.length-1:=by rw[E1,E1,EL];lia
 refine (av c p1 (rfl,(_,aD.of (g2 _ _ ec1)),(_,aD.of ep),xh (xs:=C.map V.int) (ys:=(C.drop 1).map V.int) (λi σ H'=>∃(o4 o5:Option V) (t:Int),σ= [GV d,GV c,some (.int t),o4,o5]/\aE H2 H'/\gR A C i=some t) (bU none none 0 (rfl,.refl _,rfl)) (λi σ H' _ (_,_,_,_,g,_)=>(aD.of (g _ _ (g2 _ _ ec1)),aD.of (g _ _ ep))) ?_ ?_))
 ·rintro i y z σ H3 T' hy hz ⟨o4,o5,t,rfl,g3,ht⟩ nT;rw[EB] at hy hz;obtain ⟨x,hx,rfl⟩:=E7.mp hy;obtain ⟨w',hw,rfl⟩:=E7.mp hz;rw[List.getElem?_drop,Nat.add_comm] at hw;have st:=l9 ht hx hw;have iw:=(E6.mp hw).1;have g4:=g3.trans (ac nT (.tup [.int x,.int w']));refine (av T' _ (rfl,be.of ae,rfl,av _ _ (rfl,av _ _ (rfl,rfl,?_))));generalize aH H3 T' (.tup [.int x,.int w'])=H4 at g4⊢;have ed4:=g4 _ _ ed2;refine (ν,ν,by show 2<=sizeLine;decide,λt1 n1=>(ν,av d _ (rfl,iZ.t (k:= [.inl x,.inl w']) (ac n1 _ _ _ ed4) ae,?_)))
  rw[vk];have g5:=g4.trans (ac n1 (.tup [.int x,.int w']));cases hl:d0 A x w' with
  |none=>
   rw[hl] at st;refine (ν,cC ?_);have e:dh A C=none:=jE (i:=i+1) st (by lia)
   have:=k _ (g2.trans g5);rw[e] at this;exact this
  |some gg=>
   rw[hl] at st;refine (ν,cu ?_);refine (ν,ν,ν,ν,by show 2<=sizeLine;decide,λt2 n2=>(av d (.int gg) (rfl,?_,av _ _ (rfl,rfl,bU _ _ _ (rfl,g5.trans (ac n2 _),st)))))
   have:=iZ.t (k:= [.inl x,.inl w']) (ac n2 (.tup [.int x,.int w']) _ _ (ac n1 (.tup [.int x,.int w']) _ _ ed4)) ae;rw[vk,hl] at this;exact this
 ·rintro σ H3 ⟨o4,o5,t,rfl,g3,ht⟩;rw[ml] at ht;have:=k _ (g2.trans g3);rw[show dh A C=some t from ht] at this
  exact (ν,this)
theorem Bv {dV:Value} (F:bz K "chain_total" "chain_total" zj dV f fd) (DZ19:Dx P w K mg base bt 1 "greatest_lags" ["arcs"] [] nH) (DZ20:Dx P w K mg base bt 1 "total_by" ["lags","chain"] [] nW):bv P w K mg base bt 2 f fd ["arcs","chain"] md:=by
 have sc:aF ["arcs","chain"] ["arcs","chain"] (aw zj):=dq 119
 and_intros
 ·obtain ⟨_,_,_,_,rfl,_⟩:=h
  rfl
 refine gA h λl c A C _hi=>?_
 refine gB _hi λ_r1 hA l7 ec c7 k=>?_
 clear h _hi;subst _r1;exists _,(aj (aq (bX DZ20 hr ((bX DZ19 hr ((pv 0)<*>ag))<*>((pv 1)<*>ag)))));try dsimp only[cxK]
 refine (ν,av l A (rfl,hA,l7,λd kvs H1 g1 nd ed vk=>?_))
 exact (ν,aJ d c A C (kvs,(rfl,ed,vk,g1 _ _ ec,c7,λH' g'=>k _ (g1.trans g'))))
theorem Bw {dV:Value} (F:bz K "ring_total" "ring_total" zm dV f fd) (DZ21:Dx P w K mg base bt 2 "chain_total" ["arcs","chain"] [] md):bv P w K mg base bt 3 f fd ["arcs","ring"] sy:=by
 have sc:aF ["arcs","ring"] ["arcs","ring"] (aw zm):=dq 119
 and_intros
 ·obtain ⟨_,_,_,_,rfl,_⟩:=h
  rfl
 refine gA h λl c A C _hi=>?_
 refine gB _hi λ_r1 hA l7 ec c7 k=>?_
 clear h _hi;subst _r1;exists _,(ah (aI (ao bK (aB ay rfl B.Ev boot_len ((pv 1)<*>ag)) af (aA _)) (aj (aq aR)) ar) (aj (aq (bX DZ21 hr ((pv 0)<*>((am bH (pv 1) (@aM _ _ _ _ ((au br (pv 1) af 117)<*>ag)))<*>ag))))))
 try dsimp only[cxK]
 refine jR ?_;intro D' r1;sleep 0;have lc:(C.map V.int).length=C.length:=E1 _;refine (ν,av c _ (rfl,.inl (aD.of ec),rfl,ν,d2 (λe=>?_) (λe=>?_)))
 ·injection e with e
  have c0:C= []:=EV (by lia)
  have:=k _ 148;rw[show gS A C=none from if_pos c0] at this
  exact this
 ·cases C with
  |nil=>exact absurd rfl e
  |cons x r=>
   refine (ν,ν,ν,aJ c _ _ _ (rfl,rfl,aD.of ec,aT (j:=0) (dL (show (x::r)[0]?=some x from rfl)),by show 1<=sizeLine;decide,λl1 n1=>(aJ c l1 _ _ (rfl,rfl,ac n1 _ _ _ ec,ae,by rw[lc];simp at c7⊢;lia,λp np=>?_))))
   have g:=(ac n1 (.lst [.int x])).trans (ac np (.lst ((x::r).map V.int++ [.int x])));refine (aJ l p A ((x::r)++ [x]) (rfl,hA.same g,l7,?_,by rw[E3];simp at c7⊢;lia,λH' g'=>?_))
   ·rw[ae,EU]
    rfl
   ·have:=k _ (g.trans g');rw[show gS A (x::r)=dh A ((x::r)++ [x]) from if_neg nofun] at this
    exact this
theorem By {dV:Value} (F:bz K "are_unlike_tasks" "are_unlike_tasks" zp dV f fd):bv P w K mg base bt 1 f fd ["net","some"] (mh on):=by
 have sc:aF ["net","some","i"] ["net","some"] (aw zp):=dq 119
 and_intros
 ·obtain ⟨_,_,_,_,_,_,_,_,_,rfl,_⟩:=h
  rfl
 refine nM h λx l S2 fz D T A B2 n _hi=>?_
 refine gB _hi λ_r1 NG t24 el sz q=>?_
 clear h _hi;subst _r1;exists _,(ah (aV PassesOwn.never rfl (aG (pv 1)) (cY 2 sc) (aj (aI (bS (cI dv fo af (pv 2) (aB ay rfl B.Ev boot_len ((cW (pv 0) rfl)<*>ag)))) 141 ar))) (aj (aq (cN bK (iK rfl rfl B.Ev rfl B.GA PyProof.Rows.Boot.«len» PyProof.Rows.Boot.«set» (pv 1)) (aB ay rfl B.Ev boot_len ((pv 1)<*>ag)) (aA _)))));try dsimp only[cxK]
 refine jR ?_;intro D' r1;refine gi NG.ex λdx td tl al pl fs _hi=>?_
 refine qe _hi λe0 l1 l2 l3 l4 l5 ed _r1 _hj=>?_
 refine dk _hj λhA hB=>?_
 obtain ⟨vs,etl,rT⟩:=_r1;refine (ν,l,rfl,(_,aD.of el),aU (xs:=S2.map V.int) (λk σ H'=>H=H'/\(∃o2:Option V,σ= [GV x,GV l,o2])/\(S2.take k).all (λi=>decide (0<=i)&&decide (i<120))=true) (rfl,(none,rfl),rfl) (λk σ H' _ h=>by rw[<-h.1];exact aD.of el) ?_ ?_)
 ·rintro k y σ H1 hy ⟨rfl,⟨o2,rfl⟩,hall⟩;rw[EB] at hy;obtain ⟨i,hi,rfl⟩:=E7.mp hy;have bad:(decide (0<=i)&&decide (i<120))=false->bu T S2=false:=λh=>by
   unfold bu;have:S2.all (λi=>decide (0<=i)&&decide (i<120))=false:=by
    rw[<-FJ,ED];intro hh;have:=hh i (E4 hi);rw[h] at this;cases this
   rw[this,FE]
  have fine:(decide (0<=i)&&decide (i<120))=true->(S2.take (k+1)).all (λi=>decide (0<=i)&&decide (i<120))=true:=λh=>by
   rw[aW hi,Fd,hall,Eu,Fg,List.all_nil,Fn];exact h
  refine (ν,av _ _ (rfl,rfl,ν,d2 (λc1=>(ν,aJ x _ dx _ (_,(rfl,e0,B.Fz,B.Fr,l2,av tl _ (rfl,.inl (aD.of etl),av _ _ (rfl,rfl,ν,n2 (λc2=>?_) (λc2=>?_))))))) (λc1=>(ν,cC ?_))))
  ·rw[rT.1] at c2;rw[bad (by rw[decide_eq_false c2,Ey])] at q
   exact q
  ·rw[rT.1] at c2;exact (rfl,⟨ν⟩,fine (by rw[decide_eq_true c1,decide_eq_true c2];rfl))
  ·rw[bad (by rw[decide_eq_false c1,FE])] at q
   exact q
 ·rintro σ H1 ⟨rfl,⟨o2,rfl⟩,hall⟩;rw[E1,ES] at hall;refine (ν,av l S2 (rfl,aD.of el,by lia,ν,av l _ (rfl,.inl (aD.of el),rfl,?_)))
  have e:bu T S2=decide S2.Nodup:=by
   unfold bu;rw[hall,Eu]
  rw[e,<-iL] at q;rw[E1];exact q
theorem Bz {dV:Value} (F:bz K "two_apart" "two_apart" zq dV f fd):bv P w K mg base bt 1 f fd ["net","some"] (sA on):=by
 have sc:aF ["net","some","one","other"] ["net","some"] (aw zq):=dq 119
 and_intros
 ·obtain ⟨_,_,_,_,_,_,_,_,_,rfl,_⟩:=h
  rfl
 refine nM h λx l S2 fz D T A B2 n _hi=>?_
 refine eX _hi λ_r1 NG pr _hj=>?_
 refine dk _hj λel q=>?_
 clear h _hi _hj;subst _r1;exists _,(ah (aV PassesOwn.never rfl (aG (cW (pv 0) rfl)) (cZ rfl (aL (cY 2 sc) (aL (cY 3 sc) cv))) (aj (aI (PW.pt (cy (ao b9 (pv 2) (pv 1) 129) (bV (ao b9 (pv 3) (pv 1) 129)))) 141 ar))) 141)
 try dsimp only[cxK]
 refine jR ?_;intro D' r1;refine gi NG.ex λdx td tl al pl fs _hi=>?_
 refine qe _hi λe0 l1 l2 l3 l4 l5 ed hT _hj=>?_
 refine dk _hj λhA _r1=>?_
 obtain ⟨ks,eb,rB⟩:=_r1;refine (ν,aJ x _ dx _ (_,(rfl,e0,B.Fz,B.Ge,l4,pl,rfl,(_,aD.of eb),aU (xs:=ks.map V.ref) (λk σ H'=>H=H'/\(∃o2 o3:Option V,σ= [GV x,GV l,o2,o3])/\(B2.take k).any (λk=>decide (k.getD 0 0∈S2)&&decide (k.getD 1 0∈S2))=false) (rfl,(av none none rfl),rfl) (λk σ H' _ h=>by rw[<-h.1];exact aD.of eb) ?_ ?_)))
 ·rintro k y σ H1 hy ⟨rfl,⟨o2,o3,rfl⟩,hn⟩;obtain ⟨a,ha,rfl⟩:=cP hy;have il:k<B2.length:=by rw[<-rB.1];exact (E6.mp ha).1
  have hk:=E2 il;have ea:=rB.2 k a _ ha hk;obtain ⟨p,q',ek⟩:=pr _ (EQ il);rw[ek] at ea hk;have go:(decide (p∈S2)&&decide (q'∈S2))=false->(B2.take (k+1)).any (λk=>decide (k.getD 0 0∈S2)&&decide (k.getD 1 0∈S2))=false:=λh=>by
   rw[aW hk,FH,hn,En,F5,Fk,FX];exact h
  refine (av a _ (rfl,be.of ea,rfl,av _ _ (rfl,av _ _ (rfl,rfl,?_))));refine (ν,ν,av l _ (rfl,.inl (aD.of el),rfl,iB S2,ν,qV (λc1=>(ν,ν,av l _ (rfl,.inl (aD.of el),rfl,iB S2,ν,qV (λc2=>?_) (λc2=>?_)))) (λc1=>?_)))
  ·have:bP B2 S2=true:=by
    unfold bP;rw[Ee];exists _,E4 hk;show (decide (p∈S2)&&decide (q'∈S2))=true;rw[decide_eq_true c1,decide_eq_true c2]
    rfl
   rw[this] at q;exact q
  ·exact (rfl,(av _ _ rfl),go (by rw[decide_eq_false c2,Ey]))
  ·exact (rfl,(av _ _ rfl),go (by rw[decide_eq_false c1,FE]))
 ·rintro σ H1 ⟨rfl,⟨o2,o3,rfl⟩,hn⟩;rw[E1,rB.1,ES] at hn;have:bP B2 S2=false:=hn;rw[this] at q;exact q
theorem BA {dV:Value} (F:bz K "two_at_unlike_heats" "two_at_unlike_heats" zr dV f fd) (DZ17:Dx P w K mg base bt 3 "unlike_heats" ["net","case","i","j"] [] (pp on)):bv P w K mg base bt 4 f fd ["net","case","some"] (sB on):=by
 have sc:aF ["net","case","some","place","one","other"] ["net","case","some"] (aw zr):=dq 119
 and_intros
 ·obtain ⟨_,_,_,_,rfl,_⟩:=h
  rfl
 refine gA h λx t l S2 _hi=>?_
 refine eX _hi λ_r1 el sz _hj=>?_
 refine gi _hj λD T A B2 n P _hk=>?_
 refine eI _hk λO _hl=>?_
 refine iC _hl λNC rg q=>?_
 clear h _hi _hj _hk _hl;subst _r1;exists _,(ah (aV PassesOwn.never rfl (xg rfl B.Gy 146) (cZ rfl (aL (cY 3 sc) (aL (cY 4 sc) cv))) (aj (aV PassesOwn.never rfl (aG (aY bI (pv 2) (bj (am aX (pv 3) af)) bA)) (cY 5 sc) (aj (aI (cB (bX DZ17 hr ((pv 0)<*>((pv 1)<*>((pv 4)<*>((pv 5)<*>ag)))))) 141 ar))))) 141);try dsimp only[cxK]
 refine jR ?_;intro D' r1;refine (ν,l,rfl,(_,aD.of el),ve (xs:=S2.map V.int) (λk σ H'=>aE H H'/\(∃o3 o4 o5:Option V,σ= [GV x,GV t,GV l,o3,o4,o5])/\dM T P S2=dM T P (S2.drop k)) (.refl _,(bU none none none rfl),rfl) (λk σ H' _ h=>aD.of (h.1 _ _ el)) ?_ ?_)
 ·rintro k y σ H1 T' hy ⟨g1,⟨o3,o4,o5,rfl⟩,he⟩ nT';rw[EB] at hy;obtain ⟨i,hi,rfl⟩:=E7.mp hy;have kl:=(E6.mp hi).1;have dr:S2.drop k=i::S2.drop (k+1):=by
   rw[List.drop_eq_getElem_cons kl];rw[E2 kl] at hi;cases hi
   rfl
  rw[dr] at he;have iT:=rg i (E4 hi);have g2:=g1.trans (ac nT' (.tup [.int (k:Int),.int i]));refine (av T' _ (rfl,be.of ae,rfl,av _ _ (rfl,av _ _ (rfl,rfl,?_))));generalize aH H1 T' (.tup [.int (k:Int),.int i])=H2 at g2⊢;refine (ν,ν,av _ _ (rfl,rfl,ν,av l _ (rfl,aD.of (g2 _ _ el),λp3 np3=>?_)))
  have cd:fM (S2.map V.int) (some ((k:Int)+1)) none=(S2.drop (k+1)).map V.int:=by
   have:=db (xs:=S2.map V.int) (c:=k+1) (by rw[E1];lia)
   rw[<-List.map_drop] at this;exact this
  rw[cd];have g3:=g2.trans (ac np3 (.lst ((S2.drop (k+1)).map V.int)));have e3:aH H2 p3 (.lst ((S2.drop (k+1)).map V.int)) p3=some (.lst ((S2.drop (k+1)).map V.int)):=ae;generalize aH H2 p3 (.lst ((S2.drop (k+1)).map V.int))=H3 at g3 e3⊢;refine (p3,rfl,(_,aD.of e3),aU (xs:=(S2.drop (k+1)).map V.int) (λm σ H'=>aE H3 H'/\(∃o5:Option V,σ= [GV x,GV t,GV l,some (.int (k:Int)),some (.int i),o5])/\((S2.drop (k+1)).take m).any (λj=>cx T P i.toNat j.toNat)=false) (.refl _,⟨ν⟩,rfl) (λm σ H' _ h=>aD.of (h.1 _ _ e3)) ?_ ?_)
  ·rintro m y σ H4 hy ⟨g4,⟨o5,rfl⟩,hn⟩;rw[EB] at hy;obtain ⟨j,hj,rfl⟩:=E7.mp hy;have jm:j∈S2:=Fs (E4 hj);have jT:=rg j jm;obtain ⟨ni,hni⟩:∃ni:Nat,i=(ni:Int):=⟨i.toNat,by lia⟩
   obtain ⟨nj,hnj⟩:∃nj:Nat,j=(nj:Int):=⟨j.toNat,by lia⟩
   refine (ν,ν,ν,ν,aJ x t ni nj (by rw[hni,hnj];rfl,fE D T A B2 n P (O,(NC.same (g3.trans g4),by lia,by lia,λH5 g5=>(ν,?_)))))
   have ei:i.toNat=ni:=by lia
   have ej:j.toNat=nj:=by lia
   cases hu:cx T P ni nj with
   |true=>
    have:dM T P S2=true:=by
     rw[he];unfold dM;have:(S2.drop (k+1)).any (λj=>cx T P i.toNat j.toNat)=true:=by
      rw[Ee];exact (j,E4 hj,by rw[ei,ej];exact hu)
     rw[this,Fu]
    rw[this] at q;exact cC (q _ ((g3.trans g4).trans g5))
   |false=>
    refine cu (g4.trans g5,⟨ν⟩,?_);rw[aW hj,FH,hn,En,F5,Fk,FX,ei,ej];exact hu
  ·rintro σ H4 ⟨g4,⟨o5,rfl⟩,hn⟩;rw[E1,ES] at hn;exists g3.trans g4,(bU _ _ _ rfl);rw[he];show ((S2.drop (k+1)).any (λj=>cx T P i.toNat j.toNat)||dM T P (S2.drop (k+1)))=_
   rw[hn,En]
 ·rintro σ H1 ⟨g1,⟨o3,o4,o5,rfl⟩,he⟩;rw[E1,List.drop_length] at he;have:dM T P S2=false:=he;rw[this] at q;exact q _ g1
theorem BB {dV:Value} (F:bz K "too_much_wanted" "too_much_wanted" zu dV f fd) (DZ14:Dx P w K mg base bt 3 "want_of" ["net","case","i","tool"] [] (nL on gW)):bv P w K mg base bt 4 f fd ["net","case","some"] (vS on):=by
 have sc:aF ["net","case","some","tool","many"] ["net","case","some"] (aw zu):=dq 119
 and_intros
 ·obtain ⟨_,_,_,_,rfl,_⟩:=h
  rfl
 refine gA h λx t l S2 _hi=>?_
 refine eX _hi λ_r1 els sz _hj=>?_
 refine gi _hj λD T A B2 n P _hk=>?_
 refine eI _hk λO _hl=>?_
 refine iC _hl λNC rg q=>?_
 clear h _hi _hj _hk _hl;subst _r1;exists _,(ah (qD (aV PassesOwn.never rfl (oI (ka PySem.F.plainAttrs_dict PySem.F.slot_dict_items PySem.F.type_dict_items oH (cW (pv 0) rfl))) (cZ rfl (aL (dG (i:=3) sc.nd rfl (Or.inr rfl)) (aL (cY 4 sc) cv))) (aj (aI (ao fP (aB (fW rfl) rfl B.Gx PyProof.Rows.Boot.«sum» ((bZ (own:= "i") (ys:= ["net","case","tool"]) (js:= [0,1,3]) rfl (cok (ie (ie (ie fR))) (.cons rfl (.cons rfl (.cons rfl .nil))) 118 rfl rfl rfl rfl rfl rfl rfl rfl) (aG (pv 2)) (λC fp s H=>(bX DZ14 hr ((pv 1)<*>((pv 2)<*>((pv 0)<*>((pv 3)<*>ag)))))))<*>ag)) (pv 4) (aA _)) 141 ar)))) 141)
 try dsimp only[cxK]
 refine jR ?_;intro D' r1;sleep 0;refine gi NC.net.ex λdx td tl al pl fs _hi=>?_
 refine qe _hi λe0 l1 l2 l3 l4 l5 ed _r1 _hj=>?_
 refine dk _hj λhA hB=>?_
 obtain ⟨vs,el,rT⟩:=_r1;obtain ⟨kl,ol,ec,ek,ho⟩:=id NC.case_;have etd:=ed.no;refine (ν,aJ x _ dx _ (_,(rfl,e0,B.Fz,B.Ga,l1,.inr (.inr (.inl (rfl,.inl (_,etd)))),av td _ (rfl,rfl,etd,λv nv=>?_))))
 have g:=ac nv (.ext λh=>h.IsItemsView v td)
 refine (bU v td _ (rfl,ae,g _ _ etd,λo nf=>?_))
 have e1:=g _ _ etd;generalize aH H v (.ext λh=>h.IsItemsView v td)=H1 at g e1⊢
 have ef:aH H1 td (.frz o (.dK (bL D))) td=some (.frz o (.dK (bL D))):=ae;have NF:=(NC.any.same g).walk (o:=o) e1;have elf:aH H1 td (.frz o (.dK (bL D))) l=some (.lst (S2.map V.int)):=jA e1 _ _ rfl (g _ _ els);have thaw:∀{H':Hp},aE (aH H1 td (.frz o (.dK (bL D)))) H'->aE H1 (aH H' td (.dK (bL D))):=λg=>jB e1 g
 generalize aH H1 td (.frz o (.dK (bL D)))=Hf at ef NF elf thaw⊢;refine lZ (λk σ H'=>aE Hf H'/\(∃o3 o4:Option V,σ= [GV x,GV t,GV l,o3,o4])/\(D.take k).any (λp=>decide (p.2<(S2.map λi=>gW T P i.toNat p.1).sum))=false) (.refl _,(av none none rfl),rfl) (λi σ H' _ h=>h.1 _ _ ef) ?_ ?_
 ·rintro k ky y σ H2 T' hk ⟨g2,⟨o3,o4,rfl⟩,hn⟩ nT';obtain ⟨p,hp,rfl,rfl⟩:=kx hk;have g3:=g2.trans (ac nT' (.tup [kV (.inr p.1),.int p.2]));refine (av T' _ (rfl,be.of ae,rfl,av _ _ (rfl,av _ _ (rfl,rfl,?_))));generalize aH H2 T' (.tup [kV (.inr p.1),.int p.2])=H3 at g3⊢;refine (ν,l,rfl,(_,aD.of (g3 _ _ elf)),bJ (dW V.int) 145 (λi=>gW T P (S2.getD i 0).toNat p.1) (aD.of (g3 _ _ elf)) (by rw[E1];lia) 136 (λm y hy H4 g4 Q' hQ=>?_) λp2 H4 np2 g4 hp2=>?_)
  ·rw[EB] at hy;obtain ⟨i,hi,rfl⟩:=E7.mp hy;have iT:=rg i (E4 hi);obtain ⟨ni,hni⟩:∃ni:Nat,i=(ni:Int):=⟨i.toNat,by lia⟩
   rw[bf hi,show i.toNat=ni by lia] at hQ
   exact (ν,ν,ν,ν,aJ x t ni p.1 (by rw[hni];rfl,fE D T A B2 n P (O,(NF.same (g3.trans g4),by lia,λH5 g5=>hQ _ _ g5 rfl))))
  ·obtain ⟨us,eu,ru⟩:=hp2;have eus:us=(S2.map λi=>gW T P i.toNat p.1).map V.int:=by
    rw[ru.val,E1]
    conv=>rhs;rw[<-bO S2 0]
    rw[EH,EH,EH]
    rfl
   rw[eus] at eu;refine (av p2 _ (rfl,aD.of eu,ν,av _ _ (rfl,rfl,ν,d2 (λc=>?_) (λc=>?_))))
   ·have:gX D T P S2=true:=by
     unfold gX;rw[Ee];exact (p,E4 hp,decide_eq_true c)
    rw[this] at q;exact (bU td o _ ((g3.trans g4) _ _ ef,nf,q _ (g.trans (thaw (g3.trans g4)))))
   ·exists g3.trans g4,(av _ _ rfl);rw[aW hp,FH,hn,En,F5,Fk,FX];exact decide_eq_false c
 ·rintro σ H2 ⟨g2,⟨o3,o4,rfl⟩,hn⟩;rw[jy,ES] at hn;have:gX D T P S2=false:=hn;rw[this] at q;exact (bU td o _ (g2 _ _ ef,nf,q _ (g.trans (thaw g2))))
theorem BC {dV:Value} (F:bz K "clashes" "clashes" zw dV f fd) (DZ23:Dx P w K mg base bt 1 "are_unlike_tasks" ["net","some"] [] (mh on)) (DZ24:Dx P w K mg base bt 1 "two_apart" ["net","some"] [] (sA on)) (DZ25:Dx P w K mg base bt 4 "two_at_unlike_heats" ["net","case","some"] [] (sB on)) (DZ26:Dx P w K mg base bt 4 "too_much_wanted" ["net","case","some"] [] (vS on)):bv P w K mg base bt 5 f fd ["net","case","some"] (sC on):=by
 have sc:aF ["net","case","some"] ["net","case","some"] (aw zw):=dq 119
 and_intros
 ·obtain ⟨_,_,_,_,rfl,_⟩:=h
  rfl
 refine gA h λx t l S2 _hi=>?_
 refine eX _hi λ_r1 el sz _hj=>?_
 refine gi _hj λD T A B2 n P _hk=>?_
 refine eI _hk λO _hl=>?_
 refine dk _hl λNC q=>?_
 clear h _hi _hj _hk _hl;subst _r1;dsimp only at q;exists _,(ah (aI (PW.pt (dP (bS (cB (bX DZ23 hr ((pv 0)<*>146)))) (dt (ao fo (aB ay rfl B.Ev boot_len 146) af (aA _))))) 141 ar) (aj (aq (uO (bX DZ24 hr ((pv 0)<*>146)) (uO (bX DZ25 hr ((pv 0)<*>((pv 1)<*>146))) (gK (bX DZ26 hr ((pv 0)<*>((pv 1)<*>146)))))))));try dsimp only[cxK]
 refine jR ?_;intro D' r1;have cf:b7 D T B2 P S2=((bu T S2&&decide (2<=S2.length))&&(bP B2 S2||(dM T P S2||gX D T P S2))):=rfl;exists ν,ν,x,l,S2,_,D,T,A,B2,n,rfl,NC.net,NC.ok.t24,el,sz,ν;cases hu:bu T S2 with
 |false=>
  rw[hu,FE,FE] at cf;rw[cf] at q;exact cC (q _ 148)
 |true=>
  obtain ⟨rg,nd⟩:=eK hu;refine cu (ν,l,ν,.inl (aD.of el),ω,ν,d2 (λc=>?_) (λc=>?_))
  ·rw[E1] at c;rw[decide_eq_false (show ¬2<=S2.length by lia),Ey,FE] at cf
   rw[cf] at q;exact q _ 148
  ·rw[E1] at c;rw[hu,decide_eq_true (show 2<=S2.length by lia),Eu,Eu] at cf
   refine (ν,ν,iQ x l S2 _ D T A B2 n (rfl,NC.net,λk hk=>?_,el,ν,?_))
   ·obtain ⟨p,q',e,_⟩:=NC.ok.pairs k hk;exact (p,q',e)
   cases ha:bP B2 S2 with
   |true=>
    rw[ha,Fu] at cf;rw[cf] at q;exact cC (q _ 148)
   |false=>
    rw[ha,En] at cf;refine cu (ν,ν,ν,x,t,l,S2,rfl,el,sz,D,T,A,B2,n,P,O,NC.any,rg,λH1 g1=>(ν,?_))
    cases hh:dM T P S2 with
    |true=>
     rw[hh,Fu] at cf;rw[cf] at q;exact cC (q _ g1)
    |false=>
     rw[hh,En] at cf;rw[cf] at q;exact cu (ν,ν,ν,aJ x t l S2 (rfl,g1 _ _ el,sz,fE D T A B2 n P (O,(NC.same g1,rg,λH2 g2=>q _ (g1.trans g2)))))
theorem BD {dV:Value} (F:bz K "turns_for" "turns_for" zx dV f fd):bv P w K mg base bt 1 f fd ["work","many"] sI:=by
 have sc:aF ["work","many"] ["work","many"] (aw zx):=dq 119
 and_intros
 ·obtain ⟨_,_,rfl,_⟩:=h
  rfl
 obtain ⟨w,m,rfl,m1,m2,q⟩:=h;exists _,(aj (aq (iS gq (am bh (iS gq (pv 0)) (pv 1)))));try dsimp only[cxK]
 exact (ν,ν,ν,av _ _ (rfl,rfl,(by lia,EE (by lia)),ν,q))
theorem BE {dV:Value} (F:bz K "task_between" "task_between" zy dV f fd) (DZ10:Dx P w K mg base bt 2 "are_points" ["net","some"] [] (fH on)):bv P w K mg base bt 3 f fd ["net","front","back"] (mB on):=by
 have sc:aF ["net","front","back","i"] ["net","front","back"] (aw zy):=dq 119
 and_intros
 ·obtain ⟨_,_,_,_,_,_,_,_,_,_,_,rfl,_⟩:=h
  rfl
 refine nM h λx cf cb fz D T A B2 n _hi=>?_
 refine pw _hi λf b _hj=>?_
 refine eX _hj λ_r1 N ef _hk=>?_
 refine dk _hk λeb q=>?_
 clear h _hi _hj _hk;subst _r1;exists _,(ah (aI (PW.pt (dP (ao bK (aB ay rfl B.Ev boot_len ((pv 1)<*>ag)) af (aA _)) (dt (ao bK (aB ay rfl B.Ev boot_len 146) af (aA _))))) (aj (aq aR)) ar) (ah (aI (PW.pt (dP (bS (cB (bX DZ10 hr ((pv 0)<*>((pv 1)<*>ag))))) (dt (bS (cB (bX DZ10 hr ((pv 0)<*>146))))))) (aj (aq aR)) ar) (ah (cR 3 sc (am bh (au br (pv 1) (iS gq af) 117) af)) (ah (aI (PW.pt (dP (ao uR (pv 3) (aB ay rfl B.Ev boot_len ((cW (pv 0) rfl)<*>ag)) (aA _)) (dP (ao eT (au br (pv 1) (iS gq af) 117) (am bg af (pv 3)) (aA _)) (dt (ao eT (au br (pv 2) af 117) (am aX (am bg af (pv 3)) af) (aA _)))))) (aj (aq aR)) ar) (aj (aq (pv 3)))))))
 try dsimp only[cxK]
 refine DL ?_;intro D' r4 r3 r2 r1;have no:(dN T.length f b&&(cV 143 f&&cV 143 b))=false->Q .non H:=λh=>by
  have e:oV (gH T.length 143 f b)= .non:=by unfold gH;rw[h];rfl
  rw[e] at q;exact q
 by_cases hf:f= []
 ·refine (ν,av cf _ (rfl,.inl (aD.of ef),rfl,ν,dT (by rw[hf];rfl) (cC (no ?_))))
  unfold dN;rw[hf]
  rfl
 by_cases hb:b= []
 ·refine (ν,av cf _ (rfl,.inl (aD.of ef),rfl,ν,dF (yU hf) (ν,av cb _ (rfl,.inl (aD.of eb),rfl,ν,dT (by rw[hb];rfl) (no ?_)))))
  unfold dN;rw[hb];simp
 refine (ν,av cf _ (rfl,.inl (aD.of ef),rfl,ν,dF (yU hf) (ν,av cb _ (rfl,.inl (aD.of eb),rfl,ν,dF (yU hb) ?_))));refine (ν,ν,iQ x cf fz D T A B2 n f (rfl,N,ef,ν,?_));cases h1:cV (2*(T.length:Int)+n) f with
 |false=>exact cC (cC (no (by rw[h1];simp)))
 |true=>
  refine cu (ν,ν,iQ x cb fz D T A B2 n b (rfl,N,eb,ν,?_));cases h2:cV (2*(T.length:Int)+n) b with
  |false=>exact cC (no (by rw[h2];simp))
  |true=>
   refine cu ?_;refine gi N.ex λdx td tl al pl fs _hi=>?_
   refine qe _hi λe0 l1 l2 l3 l4 l5 ed _r1 _hj=>?_
   refine dk _hj λhA hB=>?_
   obtain ⟨vs,el,rT⟩:=_r1;have l0:0<=fJ f:=by
    unfold cV at h1;rw[ED] at h1;have:=h1 _ (vZ hf);rw[EK] at this;exact of_decide_eq_true this.1
   have t0:0<=eY f:=Int.fdiv_nonneg l0 118
   have bad:¬((fJ f=2*eY f/\0<=eY f/\eY f<120)/\pF b=fJ f+1)->(dN T.length f b&&(cV 143 f&&cV 143 b))=false:=λh=>by
    have:dN T.length f b=false:=by
     unfold dN;rw[<-Bool.decide_and,decide_eq_false h,Ey]
    rw[this]
    rfl
   refine (ν,ν,aJ cf _ _ _ (rfl,rfl,aD.of ef,(nR hf),av _ _ (rfl,rfl,140,?_)))
   refine (ν,ν,aJ x _ dx _ (_,(rfl,e0,B.Fz,B.Fr,l2,av tl _ (rfl,.inl (aD.of el),av _ _ (rfl,rfl,ν,d2 (λc=>?_) (λc=>?_))))))
   ·rw[rT.1] at c;exact cC (no (bad λh=>by have:=h.1.2.2;unfold eY at this;lia))
   rw[rT.1] at c;refine (ν,ν,aJ cf _ _ _ (rfl,rfl,aD.of ef,(nR hf),ν,av _ _ (rfl,rfl,IntMulOk.of_left 118,rfl,ν,xb (λc2=>cC (no (bad λh=>c2 h.1.1))) (λc2=>?_))))
   refine (ν,aJ cb _ _ _ (rfl,rfl,aD.of eb,(xF hb),ν,av _ _ (rfl,rfl,IntMulOk.of_left 118,av _ _ (rfl,rfl,rfl,ν,xb (λc3=>no (bad λh=>c3 (h.2.trans (congrArg (· +1) c2)))) (λc3=>?_)))))
   have e:gH T.length 143 f b=some (eY f):=by
    rw[eN];refine ((?_,h1,h2),rfl);unfold dN;have:decide (fJ f=2*eY f/\0<=eY f/\eY f<120)=true:=decide_eq_true ⟨c2,t0,by unfold eY;lia⟩
    rw[this,decide_eq_true (show pF b=fJ f+1 by rw[c3,<-c2])]
    simp[hf,hb]
   rw[e] at q;exact (ν,q)
theorem BF {dV:Value} (F:bz K "tasks_between" "tasks_between" zz dV f fd) (DZ29:Dx P w K mg base bt 3 "task_between" ["net","front","back"] [] (mB on)):bv P w K mg base bt 4 f fd ["net","fronts","backs"] (kD on):=by
 have sc:aF ["net","fronts","backs","tasks"] ["net","fronts","backs"] (aw zz):=dq 119
 and_intros
 ·obtain ⟨_,_,_,_,_,_,_,_,_,_,_,rfl,_⟩:=h
  rfl
 refine nM h λx lf lb fz D T A B2 n _hi=>?_
 refine pw _hi λF2 G _hj=>?_
 refine gB _hj λ_r1 N hF hG f1 _hk=>?_
 refine dk _hk λg1 q=>?_
 clear h _hi _hj _hk;subst _r1;exists _,(ah (aI (PW.pt (dP (ao eT (aB ay rfl B.Ev boot_len ((pv 1)<*>ag)) (aB ay rfl B.Ev boot_len 146) (aA _)) (dt (ao bK (aB ay rfl B.Ev boot_len ((pv 1)<*>ag)) af (aA _))))) (aj (aq aR)) ar) (ah (vE sc.nd (i:=3) rfl rfl (os:= ["front","back"]) (ys:= ["net"]) (js:= [0]) rfl (A5 (ie fR) (.cons rfl .nil) rfl rfl rfl rfl rfl rfl rfl) (vn rfl B.GG ((pv 1)<*>146)) (λC fp s H=>so (K:=K) (n:=2) rfl rfl (aL (jc (os:= ["front","back"]) (ys:= ["net"]) (i:=0) 118 rfl rfl) (aL (jc (os:= ["front","back"]) (ys:= ["net"]) (i:=1) 118 rfl rfl) cv))) (λC fp s H=>(bX DZ29 hr ((pv 2)<*>((pv 0)<*>((pv 1)<*>ag)))))) (ah (aI (PW.pt (dP (ao b9 aR (pv 3) 129) (dt (ao eT (iK rfl rfl B.Ev rfl B.GA PyProof.Rows.Boot.«len» PyProof.Rows.Boot.«set» (pv 3)) (aB ay rfl B.Ev boot_len ((pv 3)<*>ag)) (aA _))))) (aj (aq aR)) ar) (aj (aq (pv 3))))))
 try dsimp only[cxK]
 refine yQ ?_;intro D' r3 r2 r1;sleep 0;obtain ⟨vf,ef,rf⟩:=id hF;obtain ⟨vg,eg,rg⟩:=id hG;have lF:vf.length=F2.length:=rf.1;have lG:vg.length=G.length:=rg.1;have no:(dn T.length F2 G&&(dz 143 F2&&dz 143 G))=false->∀H',aE H H'->Q .non H':=λh H' g=>by
  refine q _ _ g ?_;have e:fO T.length 143 F2 G=none:=by unfold fO;rw[h];rfl
  rw[e]
  rfl
 refine (ν,av lf _ (rfl,.inl (aD.of ef),ν,av lb _ (rfl,.inl (aD.of eg),rfl,ν,xb (λc=>cC (no ?_ _ 148)) (λc=>?_))))
 ·have:iD T.length F2 G=false:=by
   rw[<-FJ,dU];exact λh=>c (by rw[lF,lG,h.1])
  unfold dn;rw[this];simp
 have hl:F2.length=G.length:=by lia
 refine (ν,av lf _ (rfl,.inl (aD.of ef),rfl,ν,tP (λc0=>no ?_ _ 148) (λc0=>?_)))
 ·have:F2= []:=EV (by lia)
  unfold dn;rw[this]
  rfl
 refine (ν,ν,av lf lb (rfl,(_,aD.of ef),(_,aD.of eg),xE (dW oV) 145 (λk=>gH T.length 143 (F2.getD k []) (G.getD k [])) (aD.of ef) (aD.of eg) (by lia) 136 (λk y z hy hz H2 g2 T' nT o ho Q' hQ=>?_) λlt H2 nlt g2 ht=>?_))
 ·obtain ⟨o1,o2,rfl⟩:=v3 ho;obtain ⟨f,hf,hc1⟩:=rf.at_ hy;obtain ⟨b,hb,hc2⟩:=rg.at_ hz;obtain ⟨cf,rfl,_,ecf⟩:=fY hc1;obtain ⟨cb,rfl,_,ecb⟩:=fY hc2;have g3:=g2.trans (ac nT (.tup [.ref cf,.ref cb]));rw[bf hf,bf hb] at hQ;exact (av T' _ (rfl,be.of ae,rfl,av _ _ (rfl,av _ _ (rfl,rfl,([some (.ref cf),some (.ref cb)],rfl,rfl),ν,ν,ν,iQ x cf cb fz D T A B2 n (av f b (rfl,N.same g3,g3 _ _ ecf,g3 _ _ ecb,hQ _ _ 148 rfl))))))
 obtain ⟨vs,et,rt⟩:=ht;rw[show min vf.length vg.length=F2.length by lia] at rt
 rw[rt.val] at et;refine (ν,av lt _ (rfl,.inl (aD.of et),rfl,v4 _,ν,yV (λc1=>cC (no (q8 hl c1) _ g2)) (λc1=>?_)))
 obtain ⟨e1,zk,p1,p2⟩:=qZ hl c1;rw[e1] at et;have et2:H2 lt=some (.lst ((F2.map eY).map V.int)):=by
  rw[et,EH,EH,EH]
  rfl
 refine (ν,av lt (F2.map eY) (rfl,aD.of et2,by rw[E1];lia,ν,av lt _ (rfl,.inl (aD.of et2),rfl,ν,xb (λc2=>no ?_ _ g2) (λc2=>?_))))
 ·have:¬(F2.map eY).Nodup:=λnd=>c2 (by rw[kE.mpr nd,E1 (as:=F2.map eY)])
  unfold dn;rw[decide_eq_false this];simp
 have nd:(F2.map eY).Nodup:=kE.mp (by rw[E1 (as:=F2.map eY)] at c2;lia)
 refine (ν,q _ _ g2 ?_);have e:fO T.length 143 F2 G=some (F2.map eY):=by
  unfold fO dn;rw[zk,p1,p2,decide_eq_true nd];have:F2≠ []:=λe=>c0 (by rw[lF,e];rfl)
  cases F2 with
  |nil=>exact absurd rfl this
  |cons _ _=>rfl
 rw[e];exact (lt,rfl,et2)
theorem BG {dV:Value} (F:bz K "stretch_total" "stretch_total" zA dV f fd) (DZ15:Dx P w K mg base bt 3 "work_of" ["net","case","i","tool"] [] (nL on dS)) (DZ18:Dx P w K mg base bt 3 "arcs_of" ["net","case"] [] (jg on)) (DZ19:Dx P w K mg base bt 1 "greatest_lags" ["arcs"] [] nH) (DZ20:Dx P w K mg base bt 1 "total_by" ["lags","chain"] [] nW) (DZ28:Dx P w K mg base bt 1 "turns_for" ["work","many"] [] sI) (DZ30:Dx P w K mg base bt 4 "tasks_between" ["net","fronts","backs"] [] (kD on)):bv P w K mg base bt 5 f fd ["net","case","tool","fronts","backs"] (pG on):=by
 have sc:aF ["net","case","tool","fronts","backs","tasks","lags","heads","tails","work"] ["net","case","tool","fronts","backs"] (aw zA):=dq 119
 and_intros
 ·obtain ⟨_,_,_,_,_,_,_,rfl,_⟩:=h
  rfl
 refine gi h λx t z lf lb F2 _hi=>?_
 refine eI _hi λG _hj=>?_
 refine gB _hj λ_r1 hF hG f1 g1' _hk=>?_
 refine iC _hk λfl gl _hl=>?_
 refine gi _hl λD T A B2 n P _hm=>?_
 refine eI _hm λO _hn=>?_
 refine eX _hn λNC po l7 q=>?_
 clear h _hi _hj _hk _hl _hm _hn;subst _r1;exists _,(ah (cR 5 sc (bX DZ30 hr ((pv 0)<*>((pv 3)<*>((pv 4)<*>ag))))) (ah (aI (PW.pt (dP (qi (jq (gG hr) (pv 2) (cW (pv 0) rfl)) 129) (dt (ao fc (pv 5) aR (aA _))))) (aj (aq aR)) ar) (ah (gj (i:=6) sc.nd rfl (Or.inr rfl) (bX DZ19 hr ((bX DZ18 hr ((pv 0)<*>((pv 1)<*>ag)))<*>ag))) (ah (fu (own:= "chain") (ys:= ["lags"]) (js:= [6]) sc.nd (i:=7) rfl rfl rfl (cok (ie fR) (.cons rfl .nil) 118 rfl rfl rfl rfl rfl rfl rfl rfl) (aG (pv 3)) (λC fp s H=>(bX DZ20 hr ((pv 1)<*>((pv 0)<*>ag))))) (ah (fu (own:= "chain") (ys:= ["lags"]) (js:= [6]) sc.nd (i:=8) rfl rfl rfl (cok (ie fR) (.cons rfl .nil) 118 rfl rfl rfl rfl rfl rfl rfl rfl) (aG (pv 4)) (λC fp s H=>(bX DZ20 hr ((pv 1)<*>((pv 0)<*>ag))))) (ah (aI (PW.pt (dP (ao b9 aR (pv 7) 129) (dt (ao b9 aR (pv 8) 129)))) (aj (aq aR)) ar) (ah (cR 9 sc (aB (fW rfl) rfl B.Gx PyProof.Rows.Boot.«sum» ((bZ (own:= "i") (ys:= ["net","case","tool"]) (js:= [0,1,2]) rfl (cok (ie (ie (ie fR))) (.cons rfl (.cons rfl (.cons rfl .nil))) 118 rfl rfl rfl rfl rfl rfl rfl rfl) (aG (pv 5)) (λC fp s H=>(bX DZ15 hr ((pv 1)<*>((pv 2)<*>((pv 0)<*>((pv 3)<*>ag)))))))<*>ag))) (aj (aq (am aX (am aX (aB (dR rfl) rfl B.Gk boot_min ((pv 7)<*>ag)) (aB (dR rfl) rfl B.Gk boot_min ((pv 8)<*>ag))) (bX DZ28 hr ((pv 9)<*>((ic (gG hr) (cW (pv 0) rfl) (pv 2) 117)<*>ag)))))))))))))
 try dsimp only[cxK]
 refine CC ?_;intro D' r7 r6 r5 r4 r3 r2 r1;sleep 0;have tr:∀k∈A,∃p q g:Int,k= [p,q,g]:=λk hk=>by
  obtain ⟨p,q,g,e,_⟩:=NC.ok.arcs k hk;exact (bU p q g e)
 have no:iN D T P ((cH A T P O).map fb) 143 z F2 G=none->∀H',aE H H'->Q .non H':=λh H' g=>by
  have:=q H' g;rw[h] at this;exact this
 refine (ν,ν,ν,iQ x lf lb false D T A B2 n (av F2 G (rfl,NC.net,hF,hG,f1,g1',λv H1 g1 hv=>?_)))
 refine gi ((NC.net.same g1).ex) λdx td tl al pl fs _hi=>?_
 refine qe _hi λe0 l1 l2 l3 l4 l5 ed hT _hj=>?_
 refine dk _hj λhA hB=>?_
 replace ed:=ed.no;cases hm:cT D z with
 |none=>
  refine (ν,ν,aJ x _ dx _ (_,(rfl,e0,B.Fz,B.Ga,l1,av td _ (rfl,yW (.inl ed) hm,ν,cC (cC (no ?_ _ g1))))));unfold iN;rw[hm]
  split<;>rfl
 |some m=>
  obtain ⟨m1,m8⟩:1<=m/\m<=8:=by
   obtain ⟨p,hp,e⟩:=v5 hm;have:=NC.ok.tool p hp;rw[e] at this;exact this.2
  refine (ν,ν,aJ x _ dx _ (_,(rfl,e0,B.Fz,B.Ga,l1,av td _ (rfl,jD (.inl ed) hm,ν,cu ?_))));cases ht:fO T.length (2*(T.length:Int)+n) F2 G with
  |none=>
   rw[ht] at hv;replace hv:v= .non:=hv;subst hv;refine (ν,rfl,ν,dT rfl (no ?_ _ g1));exact ux ht
  |some S2=>
   rw[ht] at hv;obtain ⟨lt,rfl,et⟩:=hv;obtain ⟨eS,tk,p1,p2⟩:=pI ht;subst eS;refine (ν,rfl,ν,dF nofun ?_);refine (ν,ν,av x t (rfl,fE D T A B2 n P (O,((NC.same g1).any,po,λla H2 g2 nla hA2=>?_))))
   have trF:=gD (T:=T) (P:=P) (O:=O) tr;have lA:((cH A T P O).map fb).length<=700:=by
    rw[E1];unfold cH jf;rw[E3,E3,dj,E1]
    lia
   have no2:eA ((cH A T P O).map fb) 143 F2=none∨eA ((cH A T P O).map fb) 143 G=none->∀H',aE H H'->Q .non H':=λh=>no (jF h)
   refine (av la _ (rfl,im hA2 trF,lA,λd kvs H3 g3 nd edk vk=>?_))
   generalize (cH A T P O).map fb=Ar at q no no2 vk lA;have k3:=(g1.trans g2).trans g3;obtain ⟨vf,ef,rf⟩:=hF.same k3;have lf':vf.length=F2.length:=rf.1;refine (ν,lf,rfl,(_,aD.of ef),bJ (dW oV) 145 (λk=>dh Ar (F2.getD k [])) (aD.of ef) (by rw[rf.1];lia) 136 (λk y hy Hk gk Q' hQ=>?_) λlh H4 nlh g4 hh=>?_)
   ·obtain ⟨f,hf,hc⟩:=rf.at_ hy;obtain ⟨c,rfl,_,ec⟩:=fY hc;rw[bf hf] at hQ;exact (ν,ν,aJ d c Ar f (kvs,(rfl,gk _ _ edk,vk,gk _ _ ec,fl f (E4 hf),λH' g'=>hQ _ _ g' rfl)))
   obtain ⟨wh,eh,rh⟩:=hh;rw[rf.1] at rh;rw[rh.val] at eh;have eF:(EY F2.length).map (λk=>dh Ar (F2.getD k []))=F2.map (dh Ar):=by
    conv=>rhs;rw[<-bO F2 []]
    rw[EH]
    rfl
   rw[eF] at eh;have k4:=k3.trans g4;obtain ⟨vg,eg,rg⟩:=hG.same k4;have lg':vg.length=G.length:=rg.1;refine (ν,lb,rfl,(_,aD.of eg),bJ (dW oV) 145 (λk=>dh Ar (G.getD k [])) (aD.of eg) (by rw[rg.1];lia) 136 (λk y hy Hk gk Q' hQ=>?_) λjR H5 nlt2 g5 hh2=>?_)
   ·obtain ⟨f,hf,hc⟩:=rg.at_ hy;obtain ⟨c,rfl,_,ec⟩:=fY hc;rw[bf hf] at hQ;exact (ν,ν,aJ d c Ar f (kvs,(rfl,(g4.trans gk) _ _ edk,vk,gk _ _ ec,gl f (E4 hf),λH' g'=>hQ _ _ g' rfl)))
   obtain ⟨wt,et2,rt⟩:=hh2;rw[rg.1] at rt;rw[rt.val] at et2;have eG:(EY G.length).map (λk=>dh Ar (G.getD k []))=G.map (dh Ar):=by
    conv=>rhs;rw[<-bO G []]
    rw[EH]
    rfl
   rw[eG] at et2;have k5:=k4.trans g5;have eh5:=g5 _ _ eh;clear eF eG rh rt rf rg ef eg;refine (ν,av lh _ (rfl,.inl (aD.of eh5),rfl,v4 _,ν,yV (λc1=>cC (no2 (.inl (kF c1)) _ k5)) (λc1=>?_)))
   refine (ν,av jR _ (rfl,.inl (aD.of et2),rfl,v4 _,ν,yV (λc2=>no2 (.inr (kF c2)) _ k5) (λc2=>?_)))
   rw[mC c1] at eh5;rw[mC c2] at et2;have et5:=(((g2.trans g3).trans g4).trans g5) _ _ et;have NC5:=NC.same k5;obtain ⟨nF,zk,ndF⟩:=gZ.mp tk;have nG:G≠ []:=λe=>nF (EV (by rw[(dU.mp zk).1,e];rfl))
   refine (ν,lt,rfl,(_,aD.of et5),bJ (dW V.int) 145 (λk=>dS T P (eY (F2.getD k [])).toNat z) (aD.of et5) (by rw[E1,E1];lia) 136 (λk y hy Hk gk Q' hQ=>?_) λlw H6 nlw g6 hw=>?_)
   ·rw[EB,EB] at hy;obtain ⟨i,hi,rfl⟩:=E7.mp hy;obtain ⟨f,hf,rfl⟩:=E7.mp hi;rw[bf hf] at hQ;have kl:=(E6.mp hf).1;obtain ⟨j,jl,ej⟩:=pH ((dU.mp zk).2 k _ _ hf (E2 (show k<G.length by rw[<-(dU.mp zk).1];exact kl)))
    rw[ej,ET] at hQ;exact (ν,ν,ν,ν,aJ x t j z (by rw[ej];rfl,fE D T A B2 n P (O,((NC5.same gk).any,jl,λH' g'=>hQ _ _ g' rfl))))
   obtain ⟨ww,ew,rw'⟩:=hw;rw[rw'.val] at ew;have eW:((EY (((F2.map eY).map V.int).length)).map λk=>dS T P (eY (F2.getD k [])).toNat z)=F2.map λf=>dS T P (eY f).toNat z:=by
    rw[E1,E1]
    conv=>rhs;rw[<-bO F2 []]
    rw[EH]
    rfl
   rw[eW] at ew;refine (av lw _ (rfl,aD.of ew,?_));have k6:=k5.trans g6;refine gi ((NC5.same g6).net.ex) λdx' td' tl' al' pl' fs' _hi=>?_
   refine gB _hi λe0' l1' _ _ _ _hj=>?_
   refine iC _hj λ_ ed' _=>?_
   replace ed':=ed'.no;refine (ν,av lh _ (rfl,aD.of (g6 _ _ eh5),by simpa using nF,λM hM hle=>(ν,av jR _ (rfl,aD.of (g6 _ _ et2),by simpa using nG,λM2 hM2 hle2=>?_))))
   rw[eR hM hle,eR hM2 hle2];refine (av _ _ (rfl,rfl,ν,ν,aJ x _ dx' _ (_,(rfl,e0',B.Fz,B.Ga,l1',ν,av td' _ (rfl,jD (.inl ed') hm,av _ m (rfl,m1,by lia,av _ _ (rfl,rfl,?_)))))))
   have e:iN D T P Ar 143 z F2 G=some (nU Ar F2+nU Ar G+ -((-(nV T P z F2)).fdiv m)):=by
    unfold iN;rw[if_pos tk,hm];unfold eA;rw[p1,p2,iO.mpr c1,iO.mpr c2]
    rfl
   have:=q _ k6;rw[e] at this;exact this
theorem BH {dV:Value} (F:bz K "has_order_of" "has_order_of" zB dV f fd):bv P w K mg base bt 1 f fd ["case","tasks"] kH:=by
 have sc:aF ["case","tasks","i","j"] ["case","tasks"] (aw zB):=dq 119
 and_intros
 ·obtain ⟨_,_,_,_,_,rfl,_⟩:=h
  rfl
 refine gA h λt l P O _hi=>?_
 refine eI _hi λS2 _hj=>?_
 refine eX _hj λ_r1 _r2 pr _hk=>?_
 refine dk _hk λel q=>?_
 clear h _hi _hj _hk;subst _r1;obtain ⟨kl,ol,ec,ek,⟨ks,eb,rB⟩⟩:=_r2;exists _,(ah (aV PassesOwn.never rfl (aG 134) (cZ rfl (aL (cY 2 sc) (aL (cY 3 sc) cv))) (aj (aI (PW.pt (cy (ao b9 (pv 2) (pv 1) 129) (bV (ao b9 (pv 3) (pv 1) 129)))) 141 ar))) 141)
 try dsimp only[cxK]
 refine jR ?_;intro D' r1;refine (ν,aJ t _ _ _ (rfl,rfl,be.of ec,rfl,ol,rfl,(_,aD.of eb),aU (xs:=ks.map V.ref) (λk σ H'=>H=H'/\(∃o2 o3:Option V,σ= [GV t,GV l,o2,o3])/\(O.take k).any (λk=>decide (k.getD 0 0∈S2)&&decide (k.getD 1 0∈S2))=false) (rfl,(av none none rfl),rfl) (λk σ H' _ h=>by rw[<-h.1];exact aD.of eb) ?_ ?_))
 ·rintro k y σ H1 hy ⟨rfl,⟨o2,o3,rfl⟩,hn⟩;obtain ⟨a,ha,rfl⟩:=cP hy;have il:k<O.length:=by rw[<-rB.1];exact (E6.mp ha).1
  have hk:=E2 il;have ea:=rB.2 k a _ ha hk;obtain ⟨p,q',ek⟩:=pr.2 _ (EQ il);rw[ek] at ea hk;have go:(decide (p∈S2)&&decide (q'∈S2))=false->(O.take (k+1)).any (λk=>decide (k.getD 0 0∈S2)&&decide (k.getD 1 0∈S2))=false:=λh=>by
   rw[aW hk,FH,hn,En,F5,Fk,FX];exact h
  refine (av a _ (rfl,be.of ea,rfl,av _ _ (rfl,av _ _ (rfl,rfl,?_))));refine (ν,ν,av l _ (rfl,.inl (aD.of el),rfl,iB S2,ν,qV (λc1=>(ν,ν,av l _ (rfl,.inl (aD.of el),rfl,iB S2,ν,qV (λc2=>?_) (λc2=>?_)))) (λc1=>?_)))
  ·have:bP O S2=true:=by
    unfold bP;rw[Ee];exists _,E4 hk;show (decide (p∈S2)&&decide (q'∈S2))=true;rw[decide_eq_true c1,decide_eq_true c2]
    rfl
   rw[this] at q;exact q
  ·exact (rfl,(av _ _ rfl),go (by rw[decide_eq_false c2,Ey]))
  ·exact (rfl,(av _ _ rfl),go (by rw[decide_eq_false c1,FE]))
 ·rintro σ H1 ⟨rfl,⟨o2,o3,rfl⟩,hn⟩;rw[E1,rB.1,ES] at hn;have:bP O S2=false:=hn;rw[this] at q;exact q
theorem BI {dV:Value} (F:bz K "cases_of_split" "cases_of_split" zC dV f fd) (DZ27:Dx P w K mg base bt 5 "clashes" ["net","case","some"] [] (sC on)) (DZ32:Dx P w K mg base bt 1 "has_order_of" ["case","tasks"] [] kH):bv P w K mg base bt 6 f fd ["net","case","tasks"] (mE on):=by
 have sc:aF ["net","case","tasks","cases","one","other"] ["net","case","tasks"] (aw zC):=dq (by decide+kernel)
 and_intros
 ·obtain ⟨_,_,_,_,rfl,_⟩:=h
  rfl
 refine gA h λx t l S2 _hi=>?_
 refine eX _hi λ_r1 el s8 _hj=>?_
 refine gi _hj λD T A B2 n P _hk=>?_
 refine eI _hk λO _hl=>?_
 refine iC _hl λNC po q=>?_
 clear h _hi _hj _hk _hl;subst _r1;exists _,(ah (aI (PW.pt (dP (bS (cB (bX DZ27 hr ((pv 0)<*>((pv 1)<*>146))))) (dt (cB (bX DZ32 hr ((pv 1)<*>146)))))) (aj (aq aR)) ar) (ah (cR 3 sc 138) (ah (aV PassesOwn.never rfl (aG (pv 2)) (cY 4 sc) (aj (aV PassesOwn.never rfl (aG (pv 2)) (cY 5 sc) (aj (aI (ao eT (pv 4) (pv 5) (aA _)) (aj (bW (dQ EM EX EW bw (pv 3) ((@aZ _ _ _ _ _ ((b8 bY rfl B.Gc boot_list ((au aC (pv 1) af 117)<*>ag))<*>((am bH (au aC (pv 1) af 117) (@aM _ _ _ _ ((@aZ _ _ _ _ _ ((pv 4)<*>((pv 5)<*>ag)))<*>ag)))<*>ag)))<*>ag)))) ar))))) (aj (aq (pv 3))))))
 try dsimp only[cxK]
 refine yQ ?_;intro D' r3 r2 r1;sleep 0;have rF:cF D T B2 P O (.split S2)=(!bP O S2&&b7 D T B2 P S2):=rfl;refine (ν,ν,ν,aJ x t l S2 (rfl,el,by lia,fE D T A B2 n P (O,(NC,λH1 g1=>(ν,?_)))))
 cases hc:b7 D T B2 P S2 with
 |false=>exact cC (q _ _ g1 (.inl ⟨by rw[rF,hc,Ey],rfl⟩))
 |true=>
  have hC:=NC.case_.same g1;obtain ⟨kl,ol,ec,ek,⟨bo,eo,ro⟩⟩:=id hC;have el1:=g1 _ _ el;refine cu (ν,ν,aJ t l P O (S2,(rfl,hC,po,el1,ν,?_)));cases ha:bP O S2 with
  |true=>exact cC (q _ _ g1 (.inl ⟨by rw[rF,ha];rfl,rfl⟩))
  |false=>
   refine cu (by show 0<=sizeLine;decide,λlc nlc=>?_)
   have lbo:bo.length<=1000:=by rw[ro.1];exact po.1
   refine (ν,l,rfl,(_,aD.of (ac nlc _ _ _ el1)),aU (xs:=S2.map V.int) (λk σ H'=>(∃o4 o5:Option V,σ= [GV x,GV t,GV l,GV lc,o4,o5])/\aE H1 H'/\∃zs,zs.map (·.2)=dC P O S2 (S2.take k)/\pQ H1 H' lc zs) ((av none none rfl),ac nlc _,[],rfl,pQ.nil nlc) (λk σ H' _ h=>aD.of (h.2.1 _ _ el1)) ?_ ?_)
   ·rintro k y σ H2 hy ⟨⟨o4,o5,rfl⟩,g2,zs,ez,cn⟩;rw[EB] at hy;obtain ⟨i,hi,rfl⟩:=E7.mp hy;refine (ν,l,rfl,(_,aD.of (g2 _ _ el1)),aU (xs:=S2.map V.int) (λm σ H'=>(∃o5:Option V,σ= [GV x,GV t,GV l,GV lc,some (.int i),o5])/\aE H1 H'/\∃zs,zs.map (·.2)=dC P O S2 (S2.take k)++((S2.take m).filter λj=> !decide (V.int i=V.int j)).map (λj=>(P,O++ [[i,j]]))/\pQ H1 H' lc zs) (⟨ν⟩,g2,zs,by rw[ez];simp,cn) (λk σ H' _ h=>aD.of (h.2.1 _ _ el1)) ?_ ?_)
    ·rintro m y σ H3 hy ⟨⟨o5,rfl⟩,g3,zs,ez,cn⟩;rw[EB] at hy;obtain ⟨j,hj,rfl⟩:=E7.mp hy;refine (ν,ν,rfl,ν,n2 (λc1=>?_) (λc1=>(⟨ν⟩,g3,zs,by rw[ez,aW hj,ip,if_pos c1,FG],cn)))
     have lz:zs.length<=1000:=by
      have h1:=congrArg List.length ez;rw[E1,E3,E1] at h1;have h2:=gF (P:=P) (O:=O) (S:=S2) (S1:=S2.take k);have h3:(S2.take k).length*S2.length<=8*8:=Nat.mul_le_mul (by rw[EC];lia) s8
      have h4:=Fp (λj=> !decide (V.int i=V.int j)) (S2.take m)
      rw[EC] at h4
      lia
     refine (ν,.inl (rfl,_,aD.of cn.e),ν,aJ t _ _ _ (rfl,rfl,be.of (g3 _ _ ec),rfl,av kl _ (rfl,.inl (aD.of (g3 _ _ ek)),λp np=>?_)))
     have e1:=ac np (.lst (P.map gy));refine (ν,aJ t _ _ _ (rfl,rfl,be.of (e1 _ _ (g3 _ _ ec)),rfl,ν,ν,by show 2<=sizeLine;decide,λt1 nt1=>(by show 1<=sizeLine;decide,λl1 nl1=>?_)))
     have e2:=ac nt1 (.tup [.int i,.int j]);have e3:=ac nl1 (.lst [.ref t1]);have k3:=g3.trans ((e1.trans e2).trans e3);refine (aJ ol l1 _ _ (rfl,rfl,k3 _ _ eo,ae,by rw[E1];simp;lia,λo no=>?_))
     have hO:=gY (ro.imp λa k q=>k3 _ _ q) (eE.one (k:= [i,j]) (a:=t1) (e3 _ _ ae)) no
     have e4:=ac no (.lst (bo.map V.ref++ [.ref t1]));refine (by show 2<=sizeLine;decide,λt2 nt2=>?_)
     have e5:=ac nt2 (.tup [.ref p,.ref o]);have ge:=(((e1.trans e2).trans e3).trans e4).trans e5;have ep:=(((e2.trans e3).trans e4).trans e5) _ _ (ae (H:=H3) (a:=p) (o:= .lst (P.map gy)));have no3:H3 o=none:=((e1.trans e2).trans e3).free no;have po':p≠o:=λz=>by
      have q1:=(e2.trans e3) p _ ae;subst z;rw[q1] at no;cases no
     refine (bU lc _ _ (rfl,rfl,ge _ _ cn.e,by rw[E1];lia,⟨ν⟩,dJ (g3.trans ge) nlc _,_,?_,cn.put g3 ge np no3 po' ae ep (hO.same e5)))
     rw[EU,ez,aW hj,ip,if_neg c1,Ez]
     rfl
    ·rintro σ H3 ⟨⟨o5,rfl⟩,g3,zs,ez,cn⟩;rw[E1,ES] at ez;exact ((av _ _ rfl),g3,zs,by rw[ez,aW hi,jP],cn)
   ·rintro σ H2 ⟨⟨o4,o5,rfl⟩,g2,zs,ez,cn⟩;rw[E1,ES] at ez;exact (ν,q _ _ (g1.trans g2) (.inr (by rw[rF,ha,hc];rfl,av lc zs (rfl,ez,cn.later g1))))
theorem BJ {dV:Value} (F:bz K "with_pick" "with_pick" zD dV f fd):bv P w K mg base bt 1 f fd ["case","i","way"] kI:=by
 have sc:aF ["case","i","way","picks"] ["case","i","way"] (aw zD):=dq 119
 and_intros
 ·obtain ⟨_,_,_,_,_,rfl,_⟩:=h
  rfl
 refine gA h λt i j P _hi=>?_
 refine eI _hi λO _hj=>?_
 refine gB _hj λ_r1 _r2 il p24 po q=>?_
 clear h _hi _hj;subst _r1;obtain ⟨kl,ol,ec,ek,⟨bo,eo,ro⟩⟩:=_r2;exists _,(ah (cR 3 sc (b8 bY rfl B.Gc boot_list (134<*>ag))) (ah (j7 (pv 2) (yo (pv 3) (pv 1) set_list)) (aj (aq (@aZ _ _ _ _ _ ((pv 3)<*>((b8 bY rfl B.Gc boot_list (134<*>ag))<*>ag)))))))
 try dsimp only[cxK]
 refine lt3 ?_;intro D' r2 r1;sleep 0;refine (ν,aJ t _ _ _ (rfl,rfl,be.of ec,rfl,av kl _ (rfl,.inl (aD.of ek),λp np=>?_)))
 have e1:=ac np (.lst (P.map gy));refine (ν,ν,ν,aJ p _ _ i (rfl,rfl,ae,?_,?_))
 ·rw[E1];exact xp il
 have g1:=dJ e1 np (.lst ((P.map gy).set i (.int (j:Int))));have ep:aH (aH H p (.lst (P.map gy))) p (.lst ((P.map gy).set i (.int (j:Int)))) p=some (.lst ((P.set i (some j)).map gy)):=by
  rw[ae,List.map_set]
  rfl
 generalize aH (aH H p (.lst (P.map gy))) p (.lst ((P.map gy).set i (.int (j:Int))))=H1 at g1 ep⊢;refine (ν,ν,aJ t _ _ _ (rfl,rfl,be.of (g1 _ _ ec),rfl,av ol _ (rfl,.inl (aD.of (g1 _ _ eo)),λo no=>(by show 2<=sizeLine;decide,λt2 nt2=>?_))))
 have e2:=ac no (.lst (bo.map V.ref));have e3:=ac nt2 (.tup [.ref p,.ref o]);exact q t2 p o _ ((g1.trans e2).trans e3) np (g1.free no) (λz=>by rw[z,no] at ep;cases ep) ae (e3 _ _ (e2 _ _ ep)) (bo,e3 _ _ ae,ro.imp λa k q=>e3 _ _ (e2 _ _ (g1 _ _ q)))
theorem BK {dV:Value} (F:bz K "cases_of_ways" "cases_of_ways" zE dV f fd) (DZ34:Dx P w K mg base bt 1 "with_pick" ["case","i","way"] [] kI):bv P w K mg base bt 2 f fd ["net","case","i"] (sN on):=by
 have sc:aF ["net","case","i"] ["net","case","i"] (aw zE):=dq 119
 and_intros
 ·obtain ⟨_,_,_,rfl,_⟩:=h
  rfl
 refine kB h λx t i _hi=>?_
 refine dk _hi λ_r1 _hj=>?_
 refine gi _hj λD T A B2 n P _hk=>?_
 refine eI _hk λO _hl=>?_
 refine iC _hl λNC po q=>?_
 clear h _hi _hj _hk _hl;subst _r1;exists _,(ah (aI (bS (cI dv fo af (pv 2) (aB ay rfl B.Ev boot_len ((cW (pv 0) rfl)<*>ag)))) (aj (aq aR)) ar) (ah (aI (PW.pt (dP (ao eT (aB ay rfl B.Ev boot_len ((au br (cW (pv 0) rfl) (pv 2) 117)<*>ag)) af (aA _)) (dt (ao dY (au br (au aC (pv 1) af 117) (pv 2) 117) aR (aA _))))) (aj (aq aR)) ar) (aj (aq (@aM _ _ _ _ ((bX DZ34 hr ((pv 1)<*>((pv 2)<*>(af<*>ag))))<*>((bX DZ34 hr ((pv 1)<*>((pv 2)<*>(af<*>ag))))<*>ag)))))))
 try dsimp only[cxK]
 refine lt3 ?_;intro D' r2 r1;refine gi NC.net.ex λdx td tl al pl fs _hi=>?_
 refine qe _hi λe0 l1 l2 l3 l4 l5 ed _r1 _hj=>?_
 refine dk _hj λhA hB=>?_
 obtain ⟨vs,etl,rT⟩:=_r1;obtain ⟨kl,ol,ec,ek,ho⟩:=id NC.case_;have t24:=NC.ok.t24;have no:iE T P i=false->Q .non H:=λh=>q _ _ 148 (.inl ⟨h,rfl⟩)
 have wF:iE T P i=((decide (0<=i)&&decide (i<120))&&(decide ((T.getD i.toNat []).length=2)&&decide (P.getD i.toNat none=none))):=rfl;refine (ν,av _ _ (rfl,rfl,ν,d2 (λc1=>(ν,aJ x _ dx _ (_,(rfl,e0,B.Fz,B.Fr,l2,av tl _ (rfl,.inl (aD.of etl),av _ _ (rfl,rfl,ν,n2 (λc2=>?_) (λc2=>?_))))))) (λc1=>(ν,cC (no (by rw[wF,decide_eq_false c1];rfl))))))
 ·rw[rT.1] at c2;exact no (by rw[wF,decide_eq_false c2,Ey];rfl)
 rw[rT.1] at c2;obtain ⟨k,rfl⟩:∃k:Nat,i=(k:Int):=⟨i.toNat,by lia⟩
 have kl':k<T.length:=by lia
 have hT:=E2 kl';obtain ⟨y,hy,wl,rfl,_,lw⟩:=rT.get hT;obtain ⟨us,eu,ru⟩:=id lw;have hP:=E2 (show k<P.length by rw[NC.pk.len];exact kl')
 rw[ET,bf hT,bf hP,decide_eq_true c1,decide_eq_true c2,Eu,Eu] at wF;refine (ν,aJ x _ dx _ (_,(rfl,e0,B.Fz,B.Fr,l2,ν,aJ tl _ _ _ (rfl,rfl,aD.of etl,(aT hy),av wl _ (rfl,.inl (aD.of eu),rfl,ν,xb (λc3=>?_) (λc3=>?_))))))
 ·rw[ru.1] at c3;exact no (by rw[wF,decide_eq_false (by lia)];rfl)
 rw[ru.1] at c3;rw[decide_eq_true (show (T[k]).length=2 by lia),Eu] at wF
 refine (ν,aJ t _ _ _ (rfl,rfl,be.of ec,rfl,ν,aJ kl _ _ _ (rfl,rfl,aD.of ek,(aT (dL hP)),rfl,ν,?_)));cases hp:P[k]'(by rw[NC.pk.len];exact kl') with
 |some j=>exact nT nofun (no (by rw[wF,hp];rfl))
 |none=>
  rw[hp] at wF;refine nF rfl (ν,ν,aJ t k 0 P (O,(rfl,NC.case_,by rw[NC.pk.len];exact kl',by rw[NC.pk.len];exact t24,po,λt1 p1 o1 H1 g1 np1 no1 po1 et1 ep1 eo1=>(ν,ν,aJ t k 1 P (O,(rfl,NC.case_.same g1,by rw[NC.pk.len];exact kl',by rw[NC.pk.len];exact t24,po,λt2 p2 o2 H2 g2 np2 no2 po2 et2 ep2 eo2=>(by show 2<=sizeLine;decide,λlc nlc=>?_)))))))
  exact q _ _ ((g1.trans g2).trans (ac nlc _)) (.inr (by rw[wF];rfl,av lc _ (rfl,rfl,pQ.two g1 g2 np1 no1 po1 et1 ep1 eo1 np2 no2 po2 et2 ep2 eo2 nlc)))
theorem BL {dV:Value} (F:bz K "parted" "parted" zF dV f fd) (DZ33:Dx P w K mg base bt 6 "cases_of_split" ["net","case","tasks"] [] (mE on)) (DZ35:Dx P w K mg base bt 2 "cases_of_ways" ["net","case","i"] [] (sN on)):bv P w K mg base bt 7 f fd ["net","case","row"] (pR on):=by
 have sc:aF ["net","case","row"] ["net","case","row"] (aw zF):=dq 119
 and_intros
 ·obtain ⟨_,_,_,_,rfl,_⟩:=h
  rfl
 refine gA h λx t r w _hi=>?_
 refine eX _hi λ_r1 hrw ok _hj=>?_
 refine gi _hj λD T A B2 n P _hk=>?_
 refine eI _hk λO _hl=>?_
 refine iC _hl λNC po q=>?_
 clear h _hi _hj _hk _hl;subst _r1;exists _,(ah (aI (ao bK 132 bE (aA _)) (aj (aq (bX DZ33 hr ((pv 0)<*>((pv 1)<*>(132<*>ag)))))) ar) (ah (aI (ao bK 132 bE (aA _)) (aj (aq (bX DZ35 hr ((pv 0)<*>((pv 1)<*>(132<*>ag)))))) ar) (aj (aq aR))))
 try dsimp only[cxK]
 refine lt3 ?_;intro D' r2 r1;cases w with
 |split S2=>
  obtain ⟨c,e,ec⟩:=hrw;exact (ν,aJ r _ _ _ (rfl,rfl,be.of e,rfl,rfl,ν,dT rfl (ν,ν,ν,aJ r _ _ _ (rfl,rfl,be.of e,rfl,aJ x t c S2 (rfl,ec,ok,fE D T A B2 n P (O,(NC,po,q)))))))
 |ways i=>
  have e:H r=some (.tup [.str "ways",.int i]):=hrw;exact (ν,aJ r _ _ _ (rfl,rfl,be.of e,rfl,rfl,ν,dF 118 (ν,aJ r _ _ _ (rfl,rfl,be.of e,rfl,rfl,ν,dT rfl (ν,ν,ν,aJ r _ _ _ (rfl,rfl,be.of e,rfl,bU x t i (rfl,fE D T A B2 n P (O,(NC,po,q)))))))))
theorem BM {dV:Value} (F:bz K "bound_of" "bound_of" zG dV f fd) (DZ10:Dx P w K mg base bt 2 "are_points" ["net","some"] [] (fH on)) (DZ18:Dx P w K mg base bt 3 "arcs_of" ["net","case"] [] (jg on)) (DZ21:Dx P w K mg base bt 2 "chain_total" ["arcs","chain"] [] md) (DZ31:Dx P w K mg base bt 5 "stretch_total" ["net","case","tool","fronts","backs"] [] (pG on)):bv P w K mg base bt 6 f fd ["net","case","row"] (mD on):=by
 have sc:aF ["net","case","row"] ["net","case","row"] (aw zG):=dq 119
 and_intros
 ·obtain ⟨_,_,_,_,rfl,_⟩:=h
  rfl
 refine gA h λx t row r _hi=>?_
 refine eX _hi λ_r1 hr' ok _hj=>?_
 refine gi _hj λD T A B2 n P _hk=>?_
 refine eI _hk λO _hl=>?_
 refine eX _hl λNC po l7 q=>?_
 clear h _hi _hj _hk _hl;subst _r1;exists _,(ah (aI (ao bK 132 bE (aA _)) (aj (aq (bX DZ31 hr ((pv 0)<*>((pv 1)<*>(132<*>(132<*>(132<*>ag)))))))) ar) (ah (aI (PW.pt (cy (ao bK 132 bE (aA _)) (bV (cB (bX DZ10 hr ((pv 0)<*>(132<*>ag))))))) (aj (aq (bX DZ21 hr ((bX DZ18 hr ((pv 0)<*>((pv 1)<*>ag)))<*>(132<*>ag))))) ar) (aj (aq aR))))
 try dsimp only[cxK]
 refine lt3 ?_;intro D' r2 r1;have no:c8 D T P ((cH A T P O).map fb) 143 r=none->Q .non H:=λh=>by
  have:=q H 148;rw[h] at this;exact this
 cases r with
 |full z F2 G=>
  obtain ⟨lf,lb,e,hF,hG⟩:=hr';obtain ⟨o1,o2,o3,o4⟩:=ok;exact (ν,aJ row _ _ _ (rfl,rfl,be.of e,rfl,rfl,ν,dT rfl (ν,ν,ν,aJ row _ _ _ (rfl,rfl,be.of e,rfl,ν,aJ row _ _ _ (rfl,rfl,be.of e,rfl,ν,aJ row _ _ _ (rfl,rfl,be.of e,rfl,fE x t z lf lb F2 (G,rfl,hF,hG,by lia,by lia,λf hf=>by have:=o3 f hf;lia,λf hf=>by have:=o4 f hf;lia,D,T,A,B2,n,P,O,NC,po,l7,q)))))))
 |one w C=>
  obtain ⟨c,e,ec⟩:=hr';obtain ⟨hw,c30⟩:=ok;have wf:¬V.str w=V.str "full" :=λz=>by
   injection z with z
   subst z;rcases hw with z|z|z<;>exact absurd z 118
  by_cases hc:w= "chain"
  ·subst hc;refine (ν,aJ row _ _ _ (rfl,rfl,be.of e,rfl,rfl,ν,dF wf (ν,aJ row _ _ _ (rfl,rfl,be.of e,rfl,rfl,ν,dT rfl (ν,ν,aJ row _ _ _ (rfl,rfl,be.of e,rfl,iQ x c false D T A B2 n C (rfl,NC.net,ec,ν,?_)))))));cases hp:cV (2*(T.length:Int)+n) C with
   |false=>exact cu (no (by show (if ("chain" :Str)= "chain" then (if cV 143 C=true then dh ((cH A T P O).map fb) C else none) else none)=none;rw[if_pos rfl,hp];rfl))
   |true=>
    refine cC (ν,ν,av x t (rfl,fE D T A B2 n P (O,(NC.any,po,λla H1 g1 nla hA=>(ν,aJ row _ _ _ (rfl,rfl,be.of (g1 _ _ e),rfl,aJ la c _ C (rfl,im hA (gD NC.ok.trip),pP l7,g1 _ _ ec,by lia,λH2 g2=>?_)))))))
    have:=q H2 (g1.trans g2);rw[show c8 D T P ((cH A T P O).map fb) 143 (.one "chain" C)=dh ((cH A T P O).map fb) C by show (if ("chain" :Str)= "chain" then (if cV 143 C=true then dh ((cH A T P O).map fb) C else none) else none)=_;rw[if_pos rfl,hp];rfl] at this
    exact this
  ·have wc:¬V.str w=V.str "chain" :=λz=>hc (by injection z)
   exact (ν,aJ row _ _ _ (rfl,rfl,be.of e,rfl,rfl,ν,dF wf (ν,aJ row _ _ _ (rfl,rfl,be.of e,rfl,rfl,ν,dF wc (cu (no (if_neg hc)))))))
 |ways i=>
  have e:H row=some (.tup [.str "ways",.int i]):=hr';exact (ν,aJ row _ _ _ (rfl,rfl,be.of e,rfl,rfl,ν,dF 118 (ν,aJ row _ _ _ (rfl,rfl,be.of e,rfl,rfl,ν,dF 118 (cu (no rfl))))))
theorem BN {dV:Value} (F:bz K "shuts_by_ring" "shuts_by_ring" zH dV f fd) (DZ10:Dx P w K mg base bt 2 "are_points" ["net","some"] [] (fH on)) (DZ18:Dx P w K mg base bt 3 "arcs_of" ["net","case"] [] (jg on)) (DZ22:Dx P w K mg base bt 3 "ring_total" ["arcs","ring"] [] sy):bv P w K mg base bt 4 f fd ["net","case","ring"] (kG on):=by
 have sc:aF ["net","case","ring","total"] ["net","case","ring"] (aw zH):=dq 119
 and_intros
 ·obtain ⟨_,_,_,_,rfl,_⟩:=h
  rfl
 refine gA h λx t c R2 _hi=>?_
 refine eX _hi λ_r1 ec r30 _hj=>?_
 refine gi _hj λD T A B2 n P _hk=>?_
 refine eI _hk λO _hl=>?_
 refine eX _hl λNC po l7 q=>?_
 clear h _hi _hj _hk _hl;subst _r1;exists _,(ah (aI (bS (cB (bX DZ10 hr ((pv 0)<*>146)))) 141 ar) (ah (cR 3 sc (bX DZ22 hr ((bX DZ18 hr ((pv 0)<*>((pv 1)<*>ag)))<*>146))) (aj (aq (gL (cN dY (pv 3) aR (aA _)) (gK (cN fP (pv 3) af (aA _))))))));try dsimp only[cxK]
 refine lt3 ?_;intro D' r2 r1;refine (ν,ν,iQ x c false D T A B2 n R2 (rfl,NC.net,ec,ν,?_));cases hp:cV (2*(T.length:Int)+n) R2 with
 |false=>
  have:=q H 148;rw[hp] at this;exact cC this
 |true=>
  rw[hp] at q;refine cu (ν,ν,av x t (rfl,fE D T A B2 n P (O,(NC.any,po,λla H1 g1 nla hA=>(ν,aJ la c _ R2 (rfl,im hA (gD NC.ok.trip),pP l7,g1 _ _ ec,by lia,λH2 g2=>?_))))))
  have:=q H2 (g1.trans g2);rw[Eu] at this;cases ho:gS ((cH A T P O).map fb) R2 with
  |none=>
   rw[ho] at this;exact (ν,rfl,ν,nF rfl this)
  |some v=>
   rw[ho] at this;exact ⟨_,rfl,rfl,_,rfl,nT nofun ⟨_,rfl,av _ _ ⟨rfl,rfl,this⟩⟩⟩
theorem BO {dV:Value} (F:bz K "shuts" "shuts" zI dV f fd) (DZ37:Dx P w K mg base bt 6 "bound_of" ["net","case","row"] [] (mD on)) (DZ38:Dx P w K mg base bt 4 "shuts_by_ring" ["net","case","ring"] [] (kG on)):bv P w K mg base bt 7 f fd ["net","case","low","row"] (sK on):=by
 have sc:aF ["net","case","low","row","bound"] ["net","case","low","row"] (aw zI):=dq 119
 and_intros
 ·obtain ⟨_,_,_,_,_,rfl,_⟩:=h
  rfl
 refine gA h λx t row low _hi=>?_
 refine eI _hi λr _hj=>?_
 refine eX _hj λ_r1 hr' ok _hk=>?_
 refine gi _hk λD T A B2 n P _hl=>?_
 refine eI _hl λO _hm=>?_
 refine eX _hm λNC po l7 q=>?_
 clear h _hi _hj _hk _hl _hm;subst _r1;exists _,(ah (aI (ao bK (au aC (pv 3) af 117) bE (aA _)) (aj (aq (bX DZ38 hr ((pv 0)<*>((pv 1)<*>((au aC (pv 3) af 117)<*>ag)))))) ar) (ah (aI (ao fc (pv 2) aR (aA _)) 141 ar) (ah (cR 4 sc (bX DZ37 hr ((pv 0)<*>((pv 1)<*>((pv 3)<*>ag))))) (aj (aq (gL (cN dY (pv 4) aR (aA _)) (gK (cN uR (pv 4) (pv 2) (aA _)))))))))
 try dsimp only[cxK]
 refine yQ ?_;intro D' r3 r2 r1;have rest:jj r->∀N:L2.St->Hp->Prop,True:=λ_ _=>trivial
 have e0:∃w ys,H row=some (.tup (.str w::ys))/\(w= "ring" ↔∃C,r= .one "ring" C):=by
  cases r with
  |full z F2 G=>
   obtain ⟨lf,lb,e,_,_⟩:=hr';exact (av _ _ ⟨e,⟨λz=>absurd z 118,λ⟨C,z⟩=>by cases z⟩⟩)
  |one w C=>
   obtain ⟨c,e,ec⟩:=hr';exact (av _ _ ⟨e,⟨λz=>⟨C,by rw[z]⟩,λ⟨C,z⟩=>by injection z⟩⟩)
  |ways i=>exact (av _ _ ⟨hr',⟨λz=>absurd z 118,λ⟨C,z⟩=>by cases z⟩⟩)
 obtain ⟨w,ys,e,iw⟩:=e0
 by_cases hw:w= "ring"
 ·obtain ⟨C,rfl⟩:=iw.mp hw;subst hw;obtain ⟨c,e',ec⟩:=hr';refine (ν,aJ row _ _ _ (rfl,rfl,be.of e',rfl,rfl,ν,dT rfl (ν,ν,ν,aJ row _ _ _ (rfl,rfl,be.of e',rfl,aJ x t c C (rfl,ec,ok.2,fE D T A B2 n P (O,(NC,po,l7,λH' g=>?_)))))))
  have:=q H' g;rw[gE] at this;exact this
 have nr:jj r:=by
  cases r with
  |full _ _ _=>trivial
  |one w' C=>exact λz=>hw (iw.mpr ⟨C,by rw[z]⟩)
  |ways _=>trivial
 refine (ν,aJ row _ _ _ (rfl,rfl,be.of e,aT (j:=0) rfl,rfl,ν,dF (λz=>hw (by injection z)) ?_))
 have q':∀H',aE H H'->Q (.bl (yX (c8 D T P ((cH A T P O).map fb) 143 r) low)) H':=λH' g=>by
  have:=q H' g;rw[io nr] at this;exact this
 cases low with
 |none=>exact ⟨_,rfl,rfl,_,rfl,dT rfl (q' H 148)⟩
 |some l=>
  refine ⟨_,rfl,rfl,_,rfl,dF nofun ⟨_,rfl,_,rfl,_,rfl,aJ x t row r ⟨rfl,hr',ok,fE D T A B2 n P ⟨O,⟨NC,po,l7,λH' g=>?_⟩⟩⟩⟩⟩
  have:=q' H' g;cases ho:c8 D T P ((cH A T P O).map fb) (2*(T.length:Int)+n) r with
  |none=>
   rw[ho] at this;exact (ν,rfl,ν,nF rfl this)
  |some v=>
   rw[ho] at this;exact ⟨_,rfl,rfl,_,rfl,nT nofun ⟨_,rfl,_,rfl,av _ _ ⟨rfl,rfl,this⟩⟩⟩
theorem BP {dV:Value} (F:bz K "lets_by" "lets_by" zJ dV f fd) (DZ11:Dx P w K mg base bt 1 "start_case" ["net"] [] (sE on)) (DZ36:Dx P w K mg base bt 7 "parted" ["net","case","row"] [] (pR on)) (DZ39:Dx P w K mg base bt 7 "shuts" ["net","case","low","row"] [] (sK on)):bv P w K mg base bt 8 f fd ["net","low","paper"] (wj on):=by
 have sc:aF ["net","low","paper","pile","row","case","cases"] ["net","low","paper"] (aw zJ):=dq (by decide+kernel)
 and_intros
 ·obtain ⟨_,_,_,_,_,_,_,_,_,rfl,_⟩:=h
  rfl
 refine nM h λx l low D T A B2 n rs _hi=>?_
 refine gB _hi λ_r1 N nok hl ok _hj=>?_
 refine dk _hj λl7 q=>?_
 clear h _hi _hj;subst _r1;exists _,(ah (cR 3 sc (@aM _ _ _ _ ((bX DZ11 hr ((pv 0)<*>ag))<*>ag))) (ah (aV PassesOwn.never rfl (aG (pv 2)) (cY 4 sc) (ah (aI (ao bK (aB ay rfl B.Ev boot_len ((pv 3)<*>ag)) af (aA _)) 141 ar) (ah (cR 5 sc (ka EM PySem.F.slot_list_pop PySem.F.type_list_pop qx (pv 3))) (aj (aI (ao b9 (au aC (pv 4) af 117) (jS (v:=V.ref Gd) rfl B.Gz rfl) 129) (ah (cR 6 sc (bX DZ36 hr ((pv 0)<*>((pv 5)<*>((pv 4)<*>ag))))) (ah (aI (ao fc (pv 6) aR (aA _)) 141 ar) (aj (bW (dQ EM PySem.F.slot_list_extend PySem.F.type_list_extend jp (pv 3) ((gu rfl rfl B.Gc rfl B.Gg boot_list PyProof.Rows.Boot.«reversed» (pv 6))<*>ag)))))) (aj (aI (bS (cB (bX DZ39 hr ((pv 0)<*>((pv 5)<*>((pv 1)<*>((pv 4)<*>ag))))))) 141 ar))))))) (aj (aq (cN bK (aB ay rfl B.Ev boot_len ((pv 3)<*>ag)) af (aA _))))))
 try dsimp only[cxK]
 refine lt3 ?_;intro D' r2 r1;sleep 0;obtain ⟨vs,el,rl⟩:=id hl;refine (ν,fE x false D T A B2 (n,(rfl,N,nok.t24,λt H1 g1 hc=>(by show 1<=sizeLine;decide,λlp nlp=>?_))))
 have tl1:cX (λa=>a≠lp) H1 (.ref t) ((EY T.length).map λ_=>none,[]):=ku (ya hc.r) λa h e=>h.2 (by rw[e];exact nlp)
 have g2:=ac nlp (.lst [.ref t]);have hp0:cA cX (λa=>a≠lp) (aH H1 lp (.lst [.ref t])) lp (dE T).reverse:=⟨_,ae,A2.one (de tl1 g2)⟩
 refine (ν,l,rfl,(_,aD.of ((g1.trans g2) _ _ el)),aU (xs:=vs) (λk σ H'=>(∃o4 o5 o6:Option V,σ= [GV x,some (oV low),GV l,GV lp,o4,o5,o6])/\aE H1 H'/\∃p,mF D T A B2 n low (dE T) (rs.take k)=some p/\cA cX (λa=>a≠lp) H' lp p.reverse) ((bU none none none rfl),g2,ν,hp0) (λk σ H' _ h=>aD.of (h.2.1 _ _ (g1 _ _ el))) ?_ ?_)
 ·rintro k y σ H2 hy ⟨⟨o4,o5,o6,rfl⟩,g3,p,hp,us,elp,rlp⟩;obtain ⟨r,hr',rr⟩:=rl.at_ hy;obtain ⟨t',rfl,ra⟩:=rr.row;have g13:=g1.trans g3;replace ra:=ra.same g13;obtain ⟨okr,okp⟩:=ok r (E4 hr');have kl:=(E6.mp hr').1;have lt:=List.length_take_le k rs;have cok:=rc hp jH;have p64:=rj hp λr hr=>ok r (FL hr)
  have s1:(dE T).length=1:=rfl;have lu:=rlp.1;rw[Ek] at lu;have hs:=sO hr' hp;have bad:eJ D T A B2 n low p r=none->∀H',aE H H'->Q (.bl false) H':=λh H' g=>by
   have:=q H' g;rw[sP (k:=k+1) (by rw[hs,h])] at this
   exact this
  refine (ν,av lp _ (rfl,.inl (aD.of elp),rfl,ν,tP (λc0=>?_) (λc0=>?_)))
  ·have pe:p= []:=EV (by lia)
   exact bad (by rw[pe];rfl) _ g13
  match p,hp,rlp,lu,cok,p64,hs,bad with
  | [],_,_,lu,_,_,_,_=>exact absurd lu (by simp at lu c0⊢;lia)
  |c::p0,hp,rlp,lu,cok,p64,hs,bad=>
  rw[List.reverse_cons] at rlp;obtain ⟨us0,u,rfl,ru,rl0⟩:=rlp.unsnoc;refine (ν,.inl (rfl,_,aD.of elp),bU lp _ u (rfl,rfl,elp,by simp,?_))
  rw[List.dropLast_concat];have g4:=dJ g3 nlp (.lst us0);have ru4:=kY ru (l:=lp) (λz=>z rfl) (.lst us0)
  have rl4:=rl0.imp λv x q=>kY q (l:=lp) (λz=>z rfl) (.lst us0)
  have e4:aH H2 lp (.lst us0) lp=some (.lst us0):=ae;generalize aH H2 lp (.lst us0)=H4 at g4 ru4 rl4 e4⊢;have g14:=g1.trans g4;have ra4:jG H4 t' r:=by
   obtain ⟨_,e,h⟩:=rr.row;cases e;exact h.same g14
  obtain ⟨w,ys,ew,iw⟩:=eC ra4 okr;obtain ⟨tc,rfl,hcs⟩:=cX.case ru4;have ck:=cok c Ej;have k1:k<=700:=by lia
  have cl:=ck.len;have NC:kz on false H4 x tc D T A B2 n c.1 c.2:=⟨N.same g14,hcs,nok,ck.pk⟩;have po:=ck.pairs (by lia)
  rw[ER] at p64;refine (ν,aJ t' _ _ _ (rfl,rfl,be.of ew,aT (j:=0) rfl,av Gd _ (rfl,.inr (B.Gu.sq _),rfl,lR _,ν,CB (gs:= ["split","ways"]) (λm=>?_) (λm=>?_))))
  ·have ib:hJ r=true:=iw.mp (by simpa using m)
   unfold hJ at ib;obtain ⟨w',hw'⟩:=Es.mp ib;have okw:=okp w' hw';have st:eJ D T A B2 n low (c::p0) r=if cF D T B2 c.1 c.2 w'=true then some (dD c.1 c.2 w'++p0) else none:=by
    show eB D T A B2 n low c p0 r=_;unfold eB;rw[hw']
   refine (ν,ν,ν,aJ x tc t' w' (rfl,sQ ra4 hw',okw,fE D T A B2 n c.1 (c.2,(NC,po,λv H5 g5 tv=>?_))))
   rcases tv with ⟨rf,rfl⟩|⟨rt,lc,zs,rfl,ez,cn⟩
   ·exact (ν,rfl,ν,dT rfl (bad (by rw[st,rf];rfl) _ (g14.trans g5)))
   rw[st,if_pos rt] at hs;refine ⟨_,rfl,rfl,_,rfl,dF nofun ⟨_,rfl,.inl ⟨rfl,_,aD.of (g5 _ _ e4)⟩,_,rfl,av lc _ ⟨rfl,aD.of cn.e,λlr nlr=>?_⟩⟩⟩
   have g6:=ac nlr (.lst (zs.map λz=>V.ref z.1.1).reverse)
   have e6:=(g5.trans g6) _ _ e4;have rlz:lr≠lp:=λz=>by rw[z,g5 _ _ e4] at nlr;cases nlr
   have lz:=fZ (P:=c.1) (O:=c.2) okw;rw[<-ez,E1] at lz;have lus:us0.length=p0.length:=by rw[rl0.1,Ek]
   refine (aJ lp lr _ _ (rfl,rfl,e6,ae,by rw[Ek,E1];lia,?_))
   have rz:A2 (cX (λa=>a≠lp) (aH H5 lr (.lst (zs.map λz=>V.ref z.1.1).reverse))) (zs.map λz=>V.ref z.1.1) (dD c.1 c.2 w'):=by
    rw[<-ez];exact (cn.rn e4 (g5 _ _ e4)).imp λ_ _ q=>de q g6
   exists (bU _ _ _ rfl),dJ (g4.trans (g5.trans g6)) nlp _,_,hs;rw[List.reverse_append];exact cA.ext (λz=>z rfl) (rl4.imp λ_ _ q=>de q (g5.trans g6)) rz.rev
  ·have ib:dA r=none:=by
    cases hi:dA r with
    |none=>rfl
    |some w'=>exact absurd (iw.mpr (by unfold hJ;rw[hi];rfl)) (by simpa using m)
   have st:eJ D T A B2 n low (c::p0) r=if eZ D T A n low c r=true then some p0 else none:=by
    show eB D T A B2 n low c p0 r=_;unfold eB;rw[ib]
   refine (ν,ν,ν,ν,aJ x tc t' low (r,(rfl,ra4,okr,fE D T A B2 n c.1 (c.2,(NC,po,by lia,λH5 g5=>(ν,?_))))))
   cases hsh:eZ D T A n low c r with
   |false=>
    have e:hE D T c.1 ((cH A T c.1 c.2).map fb) 143 low r=false:=hsh;rw[e];exact cC (bad (by rw[st,hsh];rfl) _ (g14.trans g5))
   |true=>
    have e:hE D T c.1 ((cH A T c.1 c.2).map fb) 143 low r=true:=hsh;rw[e];exact cu ((bU _ _ _ rfl),g4.trans g5,p0,by rw[hs,st,if_pos hsh],us0,g5 _ _ e4,rl4.imp λ_ _ q=>de q g5)
 ·rintro σ H2 ⟨⟨o4,o5,o6,rfl⟩,g3,p,hp,us,elp,rlp⟩;rw[rl.1,ES] at hp;have:=q _ (g1.trans g3);rw[kJ hp] at this;have lu:=rlp.1;rw[Ek] at lu;refine (ν,av lp _ (rfl,.inl (aD.of elp),rfl,?_));show Q (.bl (decide (V.int ((us.length:Nat):Int)=V.int 0))) H2;have e:decide (V.int ((us.length:Nat):Int)=V.int 0)=decide (p= []):=by
   rw[lu];cases p with
   |nil=>rfl
   |cons c p0=>
    rw[decide_eq_false (show ¬(c::p0)= [] from nofun),decide_eq_false (λz=>by injection z with z;rw[ER] at z;lia)]
  rw[e];exact this
theorem BQ {dV:Value} (F:bz K "inner_rows" "inner_rows" zK dV f fd):bv P w K mg base bt 1 f fd ["paper"] kK:=by
 have sc:aF ["paper"] ["paper"] (aw zK):=dq 119
 and_intros
 ·obtain ⟨_,_,rfl,_⟩:=h
  rfl
 obtain ⟨l,rs,rfl,hl,ok,l1,q⟩:=h;exists _,(aj (aq (aB ay rfl B.Ev boot_len ((lO (own:= "row") (ys:= []) (js:= []) rfl 130 (aG (pv 0)) (λC fp s H=>(ao (sR (K:=K) rfl) 133 (jS (v:=V.ref Gd) rfl B.Gz rfl) 129)) (λC fp s H=>(pv 0)))<*>ag))))
 try dsimp only[cxK]
 sleep 0;obtain ⟨vs,el,rl⟩:=id hl;have lv:=rl.1;refine (ν,l,rfl,(_,aD.of el),fV yY 145 (λi=>hJ (rs.getD i (.ways 0))) (λ_=>()) (aD.of el) (by lia) 136 (λi y hy H2 g2 S' hS'=>?_) (λi y hy _ H2 g2 Q' hQ=>?_) λlc H2 nlc g2 hc=>?_)
 ·obtain ⟨r,hr',rr⟩:=rl.at_ hy;obtain ⟨t',rfl,ra⟩:=rr.row;obtain ⟨w,ys,ew,iw⟩:=eC (ra.same g2) (ok r (E4 hr'));rw[bf hr',<-yd iw] at hS';exact (ν,aJ t' _ _ _ (rfl,rfl,be.of ew,aT (j:=0) rfl,av Gd _ (rfl,.inr (B.Gu.sq _),rfl,lR _,ν,hS' _ 148)))
 ·exact (ν,hQ _ _ 148 trivial)
 ·obtain ⟨us,eu,ru⟩:=hc;have lu:=ru.1;rw[lv,pS] at lu;have:=q _ g2;rw[<-lu] at this;exact (av lc _ (rfl,.inl (aD.of eu),this))
theorem BR {dV:Value} (F:bz K "_law_cell_at" "_law_cell_at" zL dV f fd):bv P w K mg base bt 1 f fd ["_law_script","_law_k"] (qz K):=by
 have sc:aF ["_law_script","_law_k"] ["_law_script","_law_k"] (aw zL):=dq 119
 and_intros
 ·obtain ⟨_,_,_,rfl,_⟩:=h
  rfl
 obtain ⟨a,ns,k,rfl,hS,h0,q⟩:=h;exists _,(ah (aI (ao fo (pv 1) (aB ay rfl B.Ev boot_len ((pv 0)<*>ag)) (aA _)) (aj (aq (au br (pv 0) (pv 1) 117))) ar) (aj (aq af)))
 try dsimp only[cxK]
 refine jR ?_;intro D' r1;refine (ν,ν,av a _ (rfl,.inl hS,av _ _ (rfl,rfl,ν,d2 (λc=>?_) (λc=>?_))))
 ·obtain ⟨v,hv⟩:=xc h0 c;exact (ν,ν,aJ a _ _ _ (rfl,rfl,hS,hv,q v))
 ·exact q 0
theorem BS {dV:Value} (F:bz K "_law_whole" "_law_whole" zM dV f fd):bv P w K mg base bt 1 f fd ["_law_found"] rW:=by
 have sc:aF ["_law_found"] ["_law_found"] (aw zM):=dq 119
 and_intros
 ·obtain ⟨_,rfl,_⟩:=h
  rfl
 obtain ⟨v,rfl,q⟩:=h;exists _,(aj (aq (gL (aB oA rfl B.Gf boot_isinstance ((pv 0)<*>((jU (v:= .ty "int") rfl B.GK boot_int rfl)<*>ag))) (gK (yk (aB oA rfl B.Gf boot_isinstance ((pv 0)<*>((jU (v:= .ty "bool") rfl B.GF boot_bool rfl)<*>ag))))))));try dsimp only[cxK]
 refine (ν,bU _ _ _ (rfl,.ii v,ν,cC (ν,bU _ _ _ (rfl,.ib v,ν,q))))
theorem BU {dV:Value} (F:bz K "_law_mixed" "_law_mixed" zN dV f fd):bv P w K mg base bt 1 f fd ["_law_cell","_law_k"] jd:=by
 have sc:aF ["_law_cell","_law_k"] ["_law_cell","_law_k"] (aw zN):=dq 119
 and_intros
 ·obtain ⟨_,_,rfl,_⟩:=h
  rfl
 obtain ⟨c,k,rfl,q⟩:=h;exists _,(aj (aq (am bh (am aS (am bg (am aX (am aS (pv 0) af) af) (am aX af (am bg af (pv 1)))) af) af)));try dsimp only[cxK]
 have m1:=fm (a:=c) (n:=999983) 118
 have m2:=fm (a:=(c.fmod 999983+17)*(48271+7919*k)) (n:=999979) 118
 refine (ν,av _ _ (rfl,rfl,(by show (999983:Int)≠0;decide),av _ _ (rfl,rfl,ν,av _ _ (rfl,rfl,IntMulOk.of_left 118,av _ _ (rfl,rfl,av _ _ (rfl,rfl,IntMulOk.of_left (intBits_le_64 (by lia) (by lia)),av _ _ (rfl,rfl,(by show (999979:Int)≠0;decide),av _ _ (rfl,rfl,140,q _ ?_))))))))
 exact Int.fdiv_nonneg m2.1 118
theorem BV {dV:Value} (F:bz K "_law_names" "_law_names" zO dV f fd) (DZ44:Dx P w K mg base bt 1 "_law_mixed" ["_law_cell","_law_k"] [] jd):bv P w K mg base bt 2 f fd ["_law_cell"] pC:=by
 have sc:aF ["_law_cell","_law_letters","_law_size","_law_at","_law_word","_law_first","_law_second"] ["_law_cell"] (aw zO):=dq 119
 and_intros
 ·obtain ⟨_,rfl,_⟩:=h
  rfl
 obtain ⟨c,rfl,q⟩:=h;exists _,(ah (gj (i:=1) sc.nd rfl (Or.inr rfl) bE) (ah (cR 2 sc (am aX af (am aS (pv 0) af))) (ah (cR 3 sc (am aS (am bh (pv 0) af) (pv 2))) (ah (cR 4 sc (dQ PySem.F.plainAttrs_str PySem.F.slot_str_join PySem.F.type_str_join xo bE ((oE (hd:=none) (own:= "_law_k") (ys:= ["_law_letters","_law_cell"]) (js:= [1,0]) hr.hd (cok (ie (ie fR)) (.cons rfl (.cons rfl .nil)) 118 rfl rfl rfl rfl rfl rfl rfl rfl) (lM rfl B.Gb 146) (λC fp s H=>(au mV (pv 1) (am aS (bX DZ44 hr ((pv 2)<*>((pv 0)<*>ag))) af) 117)))<*>ag))) (ah (cR 5 sc (am aS (am bh (pv 0) af) af)) (ah (aI (PW.pt (cy (ao bK (am aS (am bh (pv 0) af) af) af (aA _)) (bV (ao fo (pv 2) af (aA _))))) (aj (aq (@aM _ _ _ _ ((pv 4)<*>((am fq (pv 4) (au mV (pv 1) (pv 5) 117))<*>ag))))) ar) (ah (cR 6 sc (am aS (am aX (am aX (pv 5) af) (am aS (am bh (pv 0) af) af)) af)) (aj (aq (@aM _ _ _ _ ((am fq (am fq (aY m7 (pv 4) bA (bj (pv 3))) (au mV (pv 1) (pv 5) 117)) (aY m7 (pv 4) (bj (am aX (pv 3) af)) bA))<*>((am fq (am fq (aY m7 (pv 4) bA (bj (pv 3))) (au mV (pv 1) (pv 6) 117)) (aY m7 (pv 4) (bj (am aX (pv 3) af)) bA))<*>ag))))))))))))
 try dsimp only[cxK]
 refine CC ?_;intro D' r7 r6 r5 r4 r3 r2 r1;sleep 0;have one:∀c,(⟨#[c]⟩:Str).length=1:=λ_=>rfl
 have s:=fm (a:=c) (n:=12) 118
 have ma:=fm (a:=c.fdiv 12) (n:=1+c.fmod 12) (by lia)
 have mf:=fm (a:=c.fdiv 144) (n:=26) 118
 have ms:=fm (a:=c.fdiv 3744) (n:=25) 118
 have mt:=fm (a:=(c.fdiv 144).fmod 26+1+(c.fdiv 3744).fmod 25) (n:=26) 118
 refine (ν,av _ _ (rfl,rfl,(by show (12:Int)≠0;decide),av _ _ (rfl,rfl,ν,av _ _ (rfl,rfl,140,ν,av _ _ (rfl,rfl,by lia,?_)))))
 refine (rfl,ν,1+c.fmod 12,rfl,by lia,by lia,oW (vV (λc:Nat=>97<=c/\c<=122) λc=>V.str ⟨#[c]⟩) 145 (λ_=>()) oB.no (by lia) 136 (λi hi H2 g2 Q' hQ=>?_) λlw H1 nlw g1 hw=>?_)
 ·refine (ν,ν,ν,av _ _ (rfl,λv v0=>?_))
  have mv:=fm (a:=v) (n:=26) 118
  exact (av _ _ (rfl,rfl,(by show (26:Int)≠0;decide),bU _ _ _ (rfl,rfl,by decide,nN mv.1 mv.2,hQ _ _ 148 (_,by lia,rfl))))
 obtain ⟨vs,ev,rv⟩:=hw;obtain ⟨cs,rfl,lc,okc⟩:=rv.some_of;rw[E1,F6] at lc;have l1:∀w∈cs.map (λc=>(⟨#[c]⟩:Str)),w.length=1:=λw hw=>by
  obtain ⟨x,_,rfl⟩:=EO.mp hw
  rfl
 have lL:∀w∈cs.map (λc=>(⟨#[c]⟩:Str)),Lt w:=λw hw=>by
  obtain ⟨x,hx,rfl⟩:=EO.mp hw;exact Lt.one (okc x hx)
 have ev':H1 lw=some (.lst ((cs.map (λc=>(⟨#[c]⟩:Str))).map V.str)):=by rw[ev,EH];rfl
 have lw1:(cs.map (λc=>(⟨#[c]⟩:Str))).length=cs.length:=E1 _
 refine (bU _ lw _ (rfl,rfl,aD.of ev',by decide,by rw[pB l1,lw1];lia,?_))
 have wl:=ur l1;have wL:=Lt.tjoin lL;rw[lw1,lc] at wl;generalize Txt.join "" (cs.map (λc=>(⟨#[c]⟩:Str)))=wd at wl wL⊢
 clear ev ev' rv okc l1 lL lw1 lc;have wz:wd.length<=sizeLine:=by lia
 have wi:(wd.length:Int)=1+c.fmod 12:=by lia
 have w1:1<=wd.length:=by lia
 have w12:wd.length<=12:=by lia
 have hf:=nN mf.1 mf.2;have ht:=nN mt.1 mt.2;have f1:97<=97+((c.fdiv 144).fmod 26).toNat/\97+((c.fdiv 144).fmod 26).toNat<=122:=by lia
 have t1:97<=97+(((c.fdiv 144).fmod 26+1+(c.fdiv 3744).fmod 25).fmod 26).toNat/\97+(((c.fdiv 144).fmod 26+1+(c.fdiv 3744).fmod 25).fmod 26).toNat<=122:=by lia
 refine (ν,av _ _ (rfl,rfl,140,av _ _ (rfl,rfl,(by show (26:Int)≠0;decide),?_)))
 have nmA:∀{d:Nat},97<=d/\d<=122->wd.length<12->Nm (wd++(⟨#[d]⟩:Str)):=λhd h12=>(wL.app (Lt.one hd)).nm (by rw[Str.length_append,one];lia) (by rw[Str.length_append,one];lia)
 have cm:=vW (x:=wd) (i:=(c.fdiv 12).fmod (1+c.fmod 12)) ma.1 (by lia)
 have c1':=jK wd none (some ((c.fdiv 12).fmod (1+c.fmod 12)));have nmB:∀{d:Nat},97<=d/\d<=122->Nm (iJ wd none (some ((c.fdiv 12).fmod (1+c.fmod 12)))++(⟨#[d]⟩:Str)++iJ wd (some ((c.fdiv 12).fmod (1+c.fmod 12)+1)) none):=λhd=>(((wL.cut _ _).app (Lt.one hd)).app (wL.cut _ _)).nm (by rw[Str.length_append,Str.length_append,one];lia) (by rw[Str.length_append,Str.length_append,one];lia)
 refine (ν,av _ _ (rfl,rfl,140,av _ _ (rfl,rfl,(by show (3:Int)≠0;decide),rfl,ν,tP (λc1=>(ν,av _ _ (rfl,rfl,ν,d2 (λc2=>?_) (λc2=>?_)))) (λc1=>?_))))
 ·refine (ν,ν,ν,ν,bU _ _ _ (rfl,rfl,by decide,hf,av _ _ (rfl,rfl,by rw[one];lia,by show 2<=sizeLine;decide,λl nl=>?_)))
  exact q l _ _ _ (g1.trans (ac nl _)) ae (wL.nm w1 w12) (nmA f1 (by lia)) yR
 ·refine (ν,av _ _ (rfl,rfl,ν,av _ _ (rfl,rfl,140,av _ _ (rfl,rfl,(by show (25:Int)≠0;decide),av _ _ (rfl,rfl,av _ _ (rfl,rfl,(by show (26:Int)≠0;decide),?_))))))
  refine (ν,ν,ν,ν,wz,ν,ν,bU _ _ _ (rfl,rfl,by decide,hf,av _ _ (rfl,rfl,by rw[one];lia,ν,ν,av _ _ (rfl,rfl,ν,ν,wz,av _ _ (rfl,rfl,by rw[Str.length_append,one];lia,ν,ν,ν,ν,wz,ν,ν,_,ω,by decide,ht,ω,by rw[one];lia,ν,ν,ω,ν,ν,wz,ω,by rw[Str.length_append,one];lia,by show 2<=sizeLine;decide,λl nl=>?_)))))
  exact q l _ _ _ (g1.trans (ac nl _)) ae (nmB f1) (nmB t1) (vU λe=>mn mf.1 mf.2 ms.1 ms.2 (by lia))
 ·refine (ν,av _ _ (rfl,rfl,ν,av _ _ (rfl,rfl,140,av _ _ (rfl,rfl,(by show (25:Int)≠0;decide),av _ _ (rfl,rfl,av _ _ (rfl,rfl,(by show (26:Int)≠0;decide),?_))))))
  refine (ν,ν,ν,ν,wz,ν,ν,bU _ _ _ (rfl,rfl,by decide,hf,av _ _ (rfl,rfl,by rw[one];lia,ν,ν,av _ _ (rfl,rfl,ν,ν,wz,av _ _ (rfl,rfl,by rw[Str.length_append,one];lia,ν,ν,ν,ν,wz,ν,ν,_,ω,by decide,ht,ω,by rw[one];lia,ν,ν,ω,ν,ν,wz,ω,by rw[Str.length_append,one];lia,by show 2<=sizeLine;decide,λl nl=>?_)))))
  exact q l _ _ _ (g1.trans (ac nl _)) ae (nmB f1) (nmB t1) (vU λe=>mn mf.1 mf.2 ms.1 ms.2 (by lia))
theorem BW {dV:Value} (F:bz K "_law_way" "_law_way" zP dV f fd):bv P w K mg base bt 1 f fd ["_law_cell","_law_names_here","_law_far"] sS:=by
 have sc:aF ["_law_cell","_law_names_here","_law_far","_law_least","_law_uses","_law_k","_law_many_here"] ["_law_cell","_law_names_here","_law_far"] (aw zP):=dq 119
 and_intros
 ·obtain ⟨_,_,_,_,_,rfl,_⟩:=h
  rfl
 refine gA h λc f ln n0 _hi=>?_
 refine eI _hi λn1 _hj=>?_
 refine gB _hj λ_r1 en ne f1 f2 q=>?_
 clear h _hi _hj;subst _r1;exists _,(ah (cR 3 sc (am bg (am aX af (am aS (pv 0) af)) (pv 2))) (ah (cR 4 sc 138) (ah (aV PassesOwn.never rfl (cK rfl B.Gb (af<*>ag)) (cY 5 sc) (ah (cR 6 sc (am aS (am bh (pv 0) (au br (@aM _ _ _ _ (af<*>(af<*>ag))) (pv 5) 117)) af)) (aj (aI (ao fP (pv 6) af (aA _)) (aj (bW (dQ EM EX EW bw (pv 4) ((@aZ _ _ _ _ _ ((au br (pv 1) (pv 5) 117)<*>((pv 6)<*>((am bg (am aS (am bh (pv 0) (au br (@aM _ _ _ _ (af<*>(af<*>ag))) (pv 5) 117)) af) af)<*>ag))))<*>ag)))) ar)))) (aj (aq (@aZ _ _ _ _ _ ((pv 3)<*>((am aX (pv 3) (am bg (am aS (am bh (pv 0) af) af) (pv 2)))<*>((pv 4)<*>ag)))))))))
 try dsimp only[cxK]
 refine yQ ?_;intro D' r3 r2 r1;sleep 0;have m5:=fm (a:=c) (n:=5) 118
 have m4:=fm (a:=c.fdiv 5) (n:=4) 118
 have l1:1<=(1+c.fmod 5)*f:=by
  have:=FK (show 1<=1+c.fmod 5 by lia) (show 0<=f by lia)
  lia
 have l2:(1+c.fmod 5)*f<=5*10000019:=Int.le_trans (FK (show 1+c.fmod 5<=5 by lia) (by lia)) (Int.mul_le_mul_of_nonneg_left f2 118)
 have y0:0<=(c.fdiv 5).fmod 4*f:=Int.mul_nonneg m4.1 (by lia)
 have y1:(c.fdiv 5).fmod 4*f<=3*10000019:=Int.le_trans (FK (show (c.fdiv 5).fmod 4<=3 by lia) (by lia)) (Int.mul_le_mul_of_nonneg_left f2 118)
 refine (ν,av _ _ (rfl,rfl,(by show (5:Int)≠0;decide),av _ _ (rfl,rfl,ν,av _ _ (rfl,rfl,IntMulOk.of_left (intBits_le_64 (by lia) (by lia)),?_))))
 dsimp only;generalize hle:(1+c.fmod 5)*f=le at l1 l2⊢;refine (by show 0<=sizeLine;decide,λu nu=>?_)
 have g0:=ac nu 142;have hu0:cA qR (λa=>a≠u/\H a=none) (aH H u 142) u []:=cA.new
 generalize aH H u 142=H0 at g0 hu0⊢;refine (ν,by decide,by decide,cL (λi σ H'=>∃(o5 o6:Option V) (us:List Us),σ= [some (.int c),GV ln,some (.int f),some (.int le),GV u,o5,o6]/\aE H H'/\cA qR (λa=>a≠u/\H a=none) H' u us/\CF n0 n1 us/\us.length<=i/\(i<=1->∀x∈us,x.1=n0)) (bU none none [] (rfl,g0,hu0,(by simp,by simp,λu hu=>by cases hu),E8 _,λ_ x hx=>by cases hx)) ?_ ?_)
 ·intro i σ H1 hi h_;refine kB h_ λo5 o6 us _hi=>?_
  refine gB _hi λ_r1 g1 hu ub ul ua=>?_
  clear h_ _hi;subst _r1;replace hi:i<2:=hi;have hb_:∃(a1 a2:Int) (nm:Str),iP [V.int 20,V.int 60] (0+(i:Int))=some (.int a1)/\iP [V.int 180,V.int 540] (0+(i:Int))=some (.int a2)/\iP [V.str n0,V.str n1] (0+(i:Int))=some (.str nm)/\(a1=20∨a1=60)/\(a2=180∨a2=540)/\∀x ht:Int,0<x->x<=2->0<=ht->ht<=180->CF n0 n1 (us++ [(nm,x,ht)])/\(i+1<=1->nm=n0):=by
   have ap:∀(nm:Str) (x ht:Int),(nm=n0∨nm=n1)->(∀z∈us,z.1≠nm)->us.length<=1->0<x->x<=2->0<=ht->ht<=180->CF n0 n1 (us++ [(nm,x,ht)]):=λnm x ht e nd l1 x0 x2 h0 h2=>by
    refine (by rw[E3];simp;lia,?_,λz hz=>?_)
    ·rw[EU];refine Fe.mpr (ub.nd,by simp,λa ha b hb=>?_)
     obtain ⟨z,hz,rfl⟩:=EO.mp ha;simp at hb;rw[hb];exact nd z hz
    ·rcases EJ.mp hz with w|w
     ·exact ub.use z w
     ·rw[EA.mp w];exact (e,by show 1<=x;lia,x2,h0,h2)
   obtain rfl|rfl:i=0∨i=1:=by lia
   ·refine (bU 20 180 n0 (rfl,rfl,rfl,.inl rfl,.inl rfl,λx ht x0 x2 h0 h2=>(ap n0 x ht (.inl rfl) (λz hz=>?_) (by lia) x0 x2 h0 h2,λ_=>rfl)))
    rw[List.length_eq_zero_iff.mp (by lia:us.length=0)] at hz
    cases hz
   ·exact (bU 60 540 n1 (rfl,rfl,rfl,.inr rfl,.inr rfl,λx ht x0 x2 h0 h2=>(ap n1 x ht (.inr rfl) (λz hz=>by rw[ua (by lia) z hz];exact ne) (by lia) x0 x2 h0 h2,λh=>absurd h (by lia))))
  refine kB hb_ λa1 a2 nm _hi=>?_
  refine gB _hi λhx1 hx2 hn p1 p2 use1=>?_
  obtain ⟨vs,eu,ru⟩:=id hu;have sz:vs.length<sizeLine:=by have:=ub.len;rw[ru.1];lia
  have d1:(0:Int)<a1/\a1<1000:=by rcases p1 with rfl|rfl<;>decide
  have d2':(0:Int)<a2/\a2<1000:=by rcases p2 with rfl|rfl<;>decide
  have x3:=fm (a:=c.fdiv a1) (n:=3) 118
  have h3:=fm (a:=c.fdiv a2) (n:=3) 118
  refine (ν,by show 2<=sizeLine;decide,λp np=>(ν,aJ p _ _ _ (rfl,rfl,aD.of ae,hx1,av _ _ (rfl,rfl,(by lia,EE (by lia)),av _ _ (rfl,rfl,(by show (3:Int)≠0;decide),?_)))))
  have gp:=ac np (.lst [.int 20,.int 60]);generalize aH H1 p (.lst [.int 20,.int 60])=H2 at gp⊢;refine (ν,av _ _ (rfl,rfl,ν,d2 (λc0=>?_) (λc0=>(bU _ _ us (rfl,g1.trans gp,hu.same gp,ub,by lia,λh=>ua (by lia))))))
  have g2:=g1.trans gp;refine (ν,.inl (rfl,_,aD.of (gp _ _ eu)),ν,ν,aJ ln _ _ _ (rfl,rfl,aD.of (g2 _ _ en),hn,ν,ν,by show 2<=sizeLine;decide,λp' np'=>(ν,aJ p' _ _ _ (rfl,rfl,aD.of ae,hx2,av _ _ (rfl,rfl,(by lia,EE (by lia)),av _ _ (rfl,rfl,(by show (3:Int)≠0;decide),av _ _ (rfl,rfl,IntMulOk.of_left (intBits_le_64 (by lia) (by lia)),by show 3<=sizeLine;decide,λa na=>(bU u _ _ (rfl,rfl,ac na _ _ _ (ac np' _ _ _ (gp _ _ eu)),sz,?_)))))))))
  have gp':=ac np' (.lst [.int 180,.int 540]);have ga:=ac na (.tup [.str nm,.int ((c.fdiv a1).fmod 3),.int ((c.fdiv a2).fmod 3*90)]);obtain ⟨u1,u2⟩:=use1 ((c.fdiv a1).fmod 3) ((c.fdiv a2).fmod 3*90) c0 (by lia) (by lia) (by lia)
  refine (bU _ _ (us++ [(nm,(c.fdiv a1).fmod 3,(c.fdiv a2).fmod 3*90)]) (rfl,dJ ((g2.trans gp').trans ga) nu _,?_,u1,by rw[E3];simp;lia,λh z hz=>?_))
  ·refine cA.put (λz=>z.1 rfl) (ru.imp λ_ _ q=>de q ((gp.trans gp').trans ga)) (a,rfl,((λz=>by have:=(gp.trans gp') _ _ eu;rw[z,this] at na;cases na),(g2.trans gp').free na),?_)
   rw[ae]
   rfl
  ·rcases EJ.mp hz with w|w
   ·exact ua (by lia) z w
   ·rw[EA.mp w];exact u2 h
 ·intro σ H1 h_;refine kB h_ λo5 o6 us _hi=>?_
  refine gB _hi λ_r1 g1 hu ub ul ua=>?_
  clear h_ _hi;subst _r1;refine (ν,ν,ν,av _ _ (rfl,rfl,140,av _ _ (rfl,rfl,(by show (4:Int)≠0;decide),ν,av _ _ (rfl,rfl,IntMulOk.of_left (intBits_le_64 (by lia) (by lia)),av _ _ (rfl,rfl,ν,by show 3<=sizeLine;decide,λt nt=>?_)))))
  have gt:=ac nt (.tup [.int le,.int (le+(c.fdiv 5).fmod 4*f),.ref u]);exact q _ (le,le+(c.fdiv 5).fmod 4*f,us) _ (g1.trans gt) (av t u (rfl,g1.free nt,nu,ae,(hu.same gt).mono λa h=>h.2)) (l1,by show le<=le+_;lia,by show le+_<=_;lia,ub)
theorem BX {dV:Value} (F:bz K "_law_any_net" "_law_any_net" zQ dV f fd) (DZ42:Dx P w K mg base bt 1 "_law_cell_at" ["_law_script","_law_k"] [] (qz K)) (DZ44:Dx P w K mg base bt 1 "_law_mixed" ["_law_cell","_law_k"] [] jd) (DZ45:Dx P w K mg base bt 2 "_law_names" ["_law_cell"] [] pC) (DZ46:Dx P w K mg base bt 1 "_law_way" ["_law_cell","_law_names_here","_law_far"] [] sS):bv P w K mg base bt 3 f fd ["_law_script"] (pT K):=by
 have sc:aF ["_law_script","_law_cell","_law_far","_law_names_here","_law_tools","_law_tasks","_law_i","_law_ways","_law_more","_law_points","_law_arcs","_law_one","_law_lag_here","_law_pairs","_law_j"] ["_law_script"] (aw zQ):=dq 119
 and_intros
 ·obtain ⟨_,_,rfl,_⟩:=h
  rfl
 obtain ⟨a,ns,rfl,hS,n63,q⟩:=h;exists _,(ah (cR 1 sc (bX DZ42 hr ((pv 0)<*>(af<*>ag)))) (@ah _ _ _ _ _ (@gj _ _ 2 _ _ _ _ sc.nd rfl (Or.inl rfl) (@au _ _ _ _ _ _ _ br (@aM _ _ _ _ (af<*>(af<*>((am aX (am rV af af) af)<*>ag)))) (am aS (am bh (pv 1) af) af) 117) rfl (Or.inr rfl)) (ah (cR 3 sc (bX DZ45 hr ((bX DZ42 hr ((pv 0)<*>(af<*>ag)))<*>ag))) (ah (cR 4 sc (w6 (oo (au br (pv 3) af 117) (am aX af (am aS (pv 1) af)) (oo (au br (pv 3) af 117) (am aX af (am aS (am bh (pv 1) af) af)) wZ)) rfl rfl 147 118)) (ah (cR 5 sc 138) (ah (aV PassesOwn.never rfl (cK rfl B.Gb ((am aX af (am aS (bX DZ42 hr ((pv 0)<*>(af<*>ag))) af))<*>ag)) (cY 6 sc) (ah (cR 7 sc (@aM _ _ _ _ ((bX DZ46 hr ((bX DZ42 hr ((pv 0)<*>((am aX af (am bg af (pv 6)))<*>ag)))<*>((pv 3)<*>146)))<*>ag))) (ah (cR 8 sc (bX DZ42 hr ((pv 0)<*>((am aX af (am bg af (pv 6)))<*>ag)))) (ah (aI (ao bK (am aS (pv 8) af) af (aA _)) (aj (bW (dQ EM EX EW bw (pv 7) ((bX DZ46 hr ((am bh (pv 8) af)<*>((pv 3)<*>146)))<*>ag)))) ar) (aj (bW (dQ EM EX EW bw (pv 5) ((pv 7)<*>ag)))))))) (ah (cR 9 sc (am aX (am bg af (aB ay rfl B.Ev boot_len ((pv 5)<*>ag))) (am aS (bX DZ42 hr ((pv 0)<*>(af<*>ag))) af))) (ah (cR 10 sc 138) (ah (aV PassesOwn.never rfl (aG (aY bI (pv 0) (bj af) (bj af))) (cY 11 sc) (ah (cR 12 sc (am bg (am fL (am aS (am bh (pv 11) (am bg (pv 9) (pv 9))) af) af) (pv 2))) (aj (bW (dQ EM EX EW bw (pv 10) ((@aZ _ _ _ _ _ ((am aS (pv 11) (pv 9))<*>((am aS (am bh (pv 11) (pv 9)) (pv 9))<*>((pv 12)<*>ag))))<*>ag)))))) (ah (cR 13 sc 138) (ah (aV PassesOwn.never rfl (cK rfl B.Gb ((aB ay rfl B.Ev boot_len ((pv 5)<*>ag))<*>ag)) (cY 6 sc) (aj (aV PassesOwn.never rfl (cK rfl B.Gb ((aB ay rfl B.Ev boot_len ((pv 5)<*>ag))<*>ag)) (cY 14 sc) (aj (aI (PW.pt (cy (ao eT (pv 6) (pv 14) (aA _)) (bV (ao bK (am aS (bX DZ44 hr ((bX DZ42 hr ((pv 0)<*>(af<*>ag)))<*>((am aX (am bg af (pv 6)) (pv 14))<*>ag))) af) af (aA _))))) (aj (bW (dQ EM EX EW bw (pv 13) ((@aZ _ _ _ _ _ ((pv 6)<*>((pv 14)<*>ag)))<*>ag)))) ar))))) (aj (aq (@aZ _ _ _ _ _ ((pv 4)<*>((pv 5)<*>((pv 10)<*>((pv 13)<*>((am fL (pv 9) (am bg af (aB ay rfl B.Ev boot_len ((pv 5)<*>ag))))<*>ag)))))))))))))))))))
 try dsimp only[cxK]
 refine A9 ?_;intro D' r11 r10 r9 r8 r7 r6 r5 r4 r3 r2 r1;sleep 0;refine (ν,bU a ns 3 (rfl,hS,by decide,λc=>?_))
 refine (av _ _ (rfl,rfl,(by decide,by decide),av _ _ (rfl,rfl,by show 3<=sizeLine;decide,λlf nlf=>?_)))
 have g0:=ac nlf (.lst [.int 1,.int 1,.int ((10:Int)^(7:Int).toNat+19)]);have m3:=fm (a:=c.fdiv 16) (n:=3) 118
 obtain ⟨f,hf,far⟩:=yS m3.1 m3.2;refine (ν,av _ _ (rfl,rfl,140,av _ _ (rfl,rfl,(by show (3:Int)≠0;decide),aJ lf _ _ _ (rfl,rfl,aD.of ae,hf,?_))))
 generalize aH H lf (.lst [.int 1,.int 1,.int ((10:Int)^(7:Int).toNat+19)])=H0 at g0⊢;clear hf nlf m3;refine (ν,bU a ns 1 (rfl,(g0.seq hS),by decide,λc1=>(c1,rfl,λln n0 n1 H1 g1 en nm0 nm1 ne=>?_)))
 have k1:=g0.trans g1;have at0:iP [V.str n0,V.str n1] 0=some (.str n0):=rfl;have at1:iP [V.str n0,V.str n1] 1=some (.str n1):=rfl;have ma:=fm (a:=c) (n:=2) 118
 have mb:=fm (a:=c.fdiv 2) (n:=4) 118
 refine λtd ntd=>?_
 have gd:=ac ntd (.dK []);refine (ν,aJ ln _ _ _ (rfl,rfl,aD.of (gd _ _ en),at0,ν,av _ _ (rfl,rfl,(by show (2:Int)≠0;decide),av _ _ (rfl,rfl,ν,aJ ln _ _ _ (rfl,rfl,aD.of (gd _ _ en),at1,ν,av _ _ (rfl,rfl,140,av _ _ (rfl,rfl,(by show (4:Int)≠0;decide),ω,ae,[(.inr n0,.int (2+c.fmod 2)),(.inr n1,.int (2+(c.fdiv 2).fmod 4))],rfl,by show 2<=15;decide,?_)))))))
 have ed0:iH [] [(.inr n0,.int (2+c.fmod 2)),(.inr n1,.int (2+(c.fdiv 2).fmod 4))]=bL [(n0,2+c.fmod 2),(n1,2+(c.fdiv 2).fmod 4)]:=by
  unfold iH;simp[putK,bL,ne]
 rw[ed0];have g2:=dJ gd ntd (.dK (bL [(n0,2+c.fmod 2),(n1,2+(c.fdiv 2).fmod 4)]));have etd:aH (aH H1 td (.dK [])) td (.dK (bL [(n0,2+c.fmod 2),(n1,2+(c.fdiv 2).fmod 4)])) td=some (.dK (bL [(n0,2+c.fmod 2),(n1,2+(c.fdiv 2).fmod 4)])):=ae;generalize aH (aH H1 td (.dK [])) td (.dK (bL [(n0,2+c.fmod 2),(n1,2+(c.fdiv 2).fmod 4)]))=H2 at g2 etd⊢;have k2:=k1.trans g2;have en2:=g2 _ _ en;obtain ⟨m0,hm0⟩:∃m0,m0=2+c.fmod 2:=⟨_,rfl⟩;obtain ⟨m1,hm1⟩:∃m1,m1=2+(c.fdiv 2).fmod 4:=⟨_,rfl⟩;rw[<-hm0,<-hm1] at etd;have f12:1<=f/\f<=10000019:=by rcases far with rfl|rfl<;>decide
 clear ed0 gd ntd g2 en g1 k1 g0;refine (by show 0<=sizeLine;decide,λtl ntl=>?_)
 have gt:=ac ntl 142;have hT0:cA fG (λa=>a≠tl/\H2 a=none) (aH H2 tl 142) tl []:=cA.new
 generalize aH H2 tl 142=H3 at gt hT0⊢;refine (ν,bU a ns 0 (rfl,((k2.trans gt).seq hS),by decide,λc0=>?_))
 have m4:=fm (a:=c0) (n:=4) 118
 refine (av _ _ (rfl,rfl,(by show (4:Int)≠0;decide),av _ _ (rfl,rfl,ν,by lia,by lia,cL (λi σ H'=>∃(o6 o7 o8:Option V) (T:Tk),σ= [GV a,some (.int c),some (.int f),GV ln,GV td,GV tl,o6,o7,o8,none,none,none,none,none,none]/\aE H2 H'/\cA fG (λa=>a≠tl/\H2 a=none) H' tl T/\T.length=i/\∀ws∈T,1<=ws.length/\ws.length<=2/\∀w∈ws,CG n0 n1 w) (aJ none none none [] (rfl,gt,hT0,rfl,λws h=>by cases h)) ?_ ?_)))
 ·intro i σ H4 hi h_;refine gA h_ λo6 o7 o8 T _hi=>?_
  refine eX _hi λ_r1 g4 _r2 _hj=>?_
  refine dk _hj λlT okT=>?_
  clear h_ _hi _hj;subst _r1;obtain ⟨vs,et,rT⟩:=_r2;replace hi:i<4:=by lia
  have k4:=k2.trans g4;refine (ν,ν,av _ _ (rfl,rfl,IntMulOk.of_left 118,av _ _ (rfl,rfl,bU a ns _ (rfl,k4.seq hS,by lia,λc4=>(ν,ν,aJ c4 f ln n0 (n1,(rfl,g4 _ _ en2,ne,f12.1,f12.2,λv w H5 g5 rw1 wk=>(by show 1<=sizeLine;decide,λlw nlw=>?_))))))))
  have g6:=ac nlw (.lst [v]);have et6:=(g5.trans g6) _ _ et;have nP:∀(G:Hp) (b:Addr),aE H4 G->G b=none->b≠tl/\H2 b=none:=λ_ _ g h=>⟨λz=>(by rw[z,g _ _ et] at h;cases h),g4.free (g.free h)⟩
  have hw6:cA iu (λb=>b≠lw/\b≠tl/\H2 b=none) (aH H5 lw (.lst [v])) lw [w]:=⟨_,ae,A2.one (de (ku (ya rw1) λb h=>⟨λz=>h.2 (by rw[z];exact nlw),nP _ _ 148 h.1⟩) g6)⟩
  have lwP:=nP _ _ g5 nlw;have rT6:A2 (fG (λb=>(b≠tl/\H2 b=none)/\b≠lw) (aH H5 lw (.lst [v]))) vs T:=rT.imp λ_ _ q=>ku (de (ya q) (g5.trans g6)) λb h=>⟨h.1,λz=>h.2 (by rw[z];exact g5.free nlw)⟩
  have g26:=g4.trans (g5.trans g6);generalize aH H5 lw (.lst [v])=H6 at g6 et6 hw6 rT6 g26⊢;have k6:=k2.trans g26;refine (ν,ν,av _ _ (rfl,rfl,IntMulOk.of_left 118,av _ _ (rfl,rfl,bU a ns _ (rfl,k6.seq hS,by lia,λc5=>?_))))
  try dsimp only[cg,cM]
  refine cut (λσ H'=>∃ws:List Wy,σ= [GV a,some (.int c),some (.int f),GV ln,GV td,GV tl,some (.int (0+(i:Int))),GV lw,some (.int c5),none,none,none,none,none,none]/\aE H2 H'/\H' tl=some (.lst vs)/\A2 (fG (λb=>(b≠tl/\H2 b=none)/\b≠lw) H') vs T/\cA iu (λb=>b≠lw/\b≠tl/\H2 b=none) H' lw ws/\1<=ws.length/\ws.length<=2/\∀w∈ws,CG n0 n1 w) (λN hN=>?_) ?_
  ·refine (ν,av _ _ (rfl,rfl,(by show (2:Int)≠0;decide),rfl,ν,d2 (λ_=>?_) (λ_=>hN _ _ ([w],rfl,g26,et6,rT6,hw6,by simp,by simp,λx hx=>by rw[EA.mp hx];exact wk))))
   obtain ⟨us,eu,ru⟩:=id hw6;refine (ν,.inl (rfl,_,aD.of eu),ν,av _ _ (rfl,rfl,140,ν,ν,aJ _ f ln n0 (n1,(rfl,g26 _ _ en2,ne,f12.1,f12.2,λv' w' H7 g7 rw2 wk2=>(bU lw _ _ (rfl,rfl,g7 _ _ eu,by rw[ru.1];show 1<sizeLine;lia,?_))))))
   have g27:=g26.trans g7;have lwz:∀b,H6 b=none->b≠lw/\b≠tl/\H2 b=none:=λb hb=>⟨λz=>(by rw[z,eu] at hb;cases hb),λz=>(by rw[z,et6] at hb;cases hb),g26.free hb⟩
   refine hN _ _ ([w]++ [w'],rfl,dJ g27 lwP.2 _,by rw[aK (λz=>lwP.1 z.symm)];exact g7 _ _ et6,rT6.imp λ_ _ q=>kY (de q g7) (λz=>z.2 rfl) _,cA.put (λz=>z.1 rfl) (ru.imp λ_ _ q=>de q g7) (ku rw2 lwz),by simp,by simp,λx hx=>?_)
   ·rcases EJ.mp hx with h|h
    ·rw[EA.mp h];exact wk
    ·rw[EA.mp h];exact wk2
  intro σ H7 h_;refine eI h_ λws _hi=>?_
  refine gB _hi λ_r1 g7 et7 rT7 _r2 _hj=>?_
  refine iC _hj λw1 w2 okw=>?_
  clear h_ _hi _hj;subst _r1;obtain ⟨us,eu,ru⟩:=_r2;refine (ν,.inl (rfl,_,aD.of et7),ν,bU tl _ _ (rfl,rfl,et7,by rw[rT7.1];lia,?_))
  refine (aJ _ _ _ (T++ [ws]) (rfl,dJ g7 ntl _,?_,by rw[E3,lT];rfl,λx hx=>?_))
  ·exact cA.put (λz=>z.1 rfl) (rT7.imp λ_ _ q=>ku q λb h=>h.1) (lw,rfl,lwP,us,eu,ru.imp λ_ _ q=>ku q λb h=>h.2)
  ·rcases EJ.mp hx with h|h
   ·exact okT x h
   ·rw[EA.mp h];exact (w1,w2,okw)
 intro σ H4 h_;refine gA h_ λo6 o7 o8 T _hi=>?_
 refine eX _hi λ_r1 g4 hT _hj=>?_
 refine dk _hj λlT okT=>?_
 clear h_ _hi _hj;subst _r1;have T1:1<=T.length:=by lia
 have T4:T.length<=4:=by lia
 obtain ⟨vs,et,rT⟩:=id hT.any;have k4:=k2.trans g4;have lv:=rT.1;refine (ν,av tl _ (rfl,.inl (aD.of et),?_));rw[lv];refine (av _ _ (rfl,rfl,IntMulOk.of_left 118,ν,bU a ns 2 (rfl,(k4.seq hS),by decide,λc2=>?_)))
 have mm:=fm (a:=c2) (n:=3) 118
 refine (av _ _ (rfl,rfl,(by show (3:Int)≠0;decide),av _ _ (rfl,rfl,?_)))
 dsimp only;generalize hp:2*((T.length:Nat):Int)+c2.fmod 3=pts;have p1:2<=pts:=by lia
 have p2:pts<=10:=by lia
 have sq1:1<=pts*pts:=Int.mul_pos (by lia) (by lia)
 have sq2:pts*pts<=10*10:=Int.mul_le_mul p2 p2 (by lia) 118
 have etd4:=g4 _ _ etd;have hT4:=hT.any;have f0:1<=f/\f<=10000019:=f12;refine (by show 0<=sizeLine;decide,λla nla=>?_)
 have ga:=ac nla 142;have ea0:aH H4 la 142 la=some (.lst []):=ae;generalize aH H4 la 142=H5 at ga ea0⊢;obtain ⟨cs,ecs,lcs⟩:=lU ns (some 20) (some 32);refine (ν,ν,ν,av a _ (rfl,(k4.trans ga).seq hS,λlc nlc=>?_))
 rw[ecs];have gc:=ac nlc (.lst (cs.map V.int));have ec:aH H5 lc (.lst (cs.map V.int)) lc=some (.lst (cs.map V.int)):=ae;generalize aH H5 lc (.lst (cs.map V.int))=H6 at gc ec⊢;have nla':H4 la=none:=nla;have lcn:H4 lc=none:=ga.free nlc;have lla:lc≠la:=λz=>by rw[z,ea0] at nlc;cases nlc
 refine (lc,rfl,(_,aD.of ec),aU (xs:=cs.map V.int) (λi σ H'=>∃(o6 o7 o8 o11 o12:Option V) (A:List Ky),σ= [GV a,some (.int c),some (.int f),GV ln,GV td,GV tl,o6,o7,o8,some (.int pts),GV la,o11,o12,none,none]/\aE H4 H'/\H' lc=some (.lst (cs.map V.int))/\bq H' la A/\A.length=i/\∀k∈A,∃p q g:Int,k= [p,q,g]/\0<=p/\p<pts/\0<=q/\q<pts/\ -1000000000<=g/\g<=1000000000) (fE o6 o7 o8 none none [] (rfl,ga.trans gc,ec,([],gc _ _ ea0,eE.nil),rfl,λk hk=>by cases hk)) (λi σ H' _ (_,_,_,_,_,_,_,_,e,_)=>aD.of e) ?_ ?_)
 ·intro i y σ H7 hy h_;refine gi h_ λo6 o7 o8 o11 o12 A _hi=>?_
  refine gB _hi λ_r1 g7 e7 _r2 lA okA=>?_
  clear h_ _hi;subst _r1;obtain ⟨bs,eb,rb⟩:=_r2;have il:i<cs.length:=by have:=(E6.mp hy).1;rw[E1] at this;exact this
  rw[EB] at hy;obtain ⟨x,hx,rfl⟩:=E7.mp hy;have mp:=fm (a:=x) (n:=pts) (by lia)
  have mq:=fm (a:=x.fdiv pts) (n:=pts) (by lia)
  have mk:=fm (a:=x.fdiv (pts*pts)) (n:=11) 118
  have sz:(bs.map V.ref).length<sizeLine:=by rw[E1,rb.1];lia
  refine (ν,ν,ν,av _ _ (rfl,rfl,IntMulOk.of_left (intBits_le_64 (by lia) (by lia)),av _ _ (rfl,rfl,(by lia,EE (by lia)),av _ _ (rfl,rfl,(by show (11:Int)≠0;decide),av _ _ (rfl,rfl,ν,av _ _ (rfl,rfl,IntMulOk.of_left (intBits_le_64 (by lia) (by lia)),?_))))))
  refine (ν,.inl (rfl,_,aD.of eb),ν,ν,av _ _ (rfl,rfl,by lia,ν,ν,av _ _ (rfl,rfl,(by lia,EE (by lia)),ν,av _ _ (rfl,rfl,by lia,ν,by show 3<=sizeLine;decide,λt nt=>(bU la _ _ (rfl,rfl,ac nt _ _ _ eb,sz,?_))))))
  have gt:=ac nt (.tup [.int (x.fmod pts),.int ((x.fdiv pts).fmod pts),.int (((x.fdiv (pts*pts)).fmod 11-7)*f)]);have la7:lc≠la:=lla;refine (fE _ _ _ _ _ (A++ [[x.fmod pts,(x.fdiv pts).fmod pts,((x.fdiv (pts*pts)).fmod 11-7)*f]]) (rfl,dJ (g7.trans gt) nla' _,by rw[aK la7];exact gt _ _ e7,gQ (gt _ _ eb) (rb.imp λa k q=>gt _ _ q) ae,by rw[E3];simp;lia,λk hk=>?_))
  rcases EJ.mp hk with h|h
  ·exact okA k h
  ·rw[EA.mp h];have b1: -7*10000019<=((x.fdiv (pts*pts)).fmod 11-7)*f:=by
    have:=FK (show-7<=(x.fdiv (pts*pts)).fmod 11-7 by lia) (show 0<=f by lia)
    lia
   have b2:((x.fdiv (pts*pts)).fmod 11-7)*f<=3*10000019:=by
    have:=FK (show (x.fdiv (pts*pts)).fmod 11-7<=3 by lia) (show 0<=f by lia)
    lia
   exact (bU _ _ _ (rfl,mp.1,mp.2,mq.1,mq.2,by lia,by lia))
 intro σ H7 h_;refine gi h_ λo6 o7 o8 o11 o12 A _hi=>?_
 refine gB _hi λ_r1 g7 e7 hA lA okA=>?_
 clear h_ _hi;subst _r1;rw[E1] at lA;have lr':(vs.length:Int)=(T.length:Int):=by lia
 refine (by show 0<=sizeLine;decide,λlp nlp=>?_)
 have gp:=ac nlp 142;have ep0:aH H7 lp 142 lp=some (.lst []):=ae;generalize aH H7 lp 142=H8 at gp ep0⊢;have et7:=g7 _ _ et;have PQ:True:=trivial;refine (ν,av tl _ (rfl,.inl (aD.of (gp _ _ et7)),ν,by lia,by lia,cL (λi σ H'=>∃(o6 o14:Option V) (ps:List (Int×Int)),σ= [GV a,some (.int c),some (.int f),GV ln,GV td,GV tl,o6,o7,o8,some (.int pts),GV la,o11,o12,GV lp,o14]/\aE H7 H'/\bq H' lp (bn ps)/\ps.length<=T.length*i/\∀p∈ps,0<=p.1/\p.1<120/\0<=p.2/\p.2<120/\p.1≠p.2) (bU o6 none [] (rfl,gp,([],ep0,eE.nil),El _,λp hp=>by cases hp)) ?_ ?_))
 ·intro i σ H9 hi h_;refine kB h_ λo6 o14 ps _hi=>?_
  refine eX _hi λ_r1 g9 hP _hj=>?_
  refine dk _hj λpl pok=>?_
  clear h_ _hi _hj;subst _r1;rw[ET,lv] at hi;refine (ν,av tl _ (rfl,.inl (aD.of (g9 _ _ et7)),ν,by lia,by lia,cL (λj σ H'=>∃(o14:Option V) (ps:List (Int×Int)),σ= [GV a,some (.int c),some (.int f),GV ln,GV td,GV tl,some (.int (0+(i:Int))),o7,o8,some (.int pts),GV la,o11,o12,GV lp,o14]/\aE H7 H'/\bq H' lp (bn ps)/\ps.length<=T.length*i+j/\∀p∈ps,0<=p.1/\p.1<120/\0<=p.2/\p.2<120/\p.1≠p.2) (av o14 ps (rfl,g9,hP,by lia,pok)) ?_ ?_))
  ·rintro j σ H10 hj ⟨o14,ps,rfl,g10,⟨as,ea,ra⟩,pl,pok⟩;rw[ET,lv] at hj;have skip:∃(o14:Option V) (ps:List (Int×Int)),[some (V.ref a),some (.int c),some (.int f),some (.ref ln),some (.ref td),some (.ref tl),some (.int (0+(i:Int))),o7,o8,some (.int pts),some (.ref la),o11,o12,some (.ref lp),some (V.int (0+(j:Int)))]= [some (.ref a),some (.int c),some (.int f),some (.ref ln),some (.ref td),some (.ref tl),some (.int (0+(i:Int))),o7,o8,some (.int pts),some (.ref la),o11,o12,some (.ref lp),o14]/\aE H7 H10/\bq H10 lp (bn ps)/\ps.length<=T.length*i+(j+1)/\∀p∈ps,0<=p.1/\p.1<120/\0<=p.2/\p.2<120/\p.1≠p.2:=(av _ ps ⟨rfl,g10,⟨as,ea,ra⟩,by lia,pok⟩)
   have k10:=(k4.trans g7).trans g10;refine (ν,ν,rfl,ν,xb (λc1=>?_) (λc1=>skip))
   refine (ν,bU a ns 12 (rfl,(k10.seq hS),by decide,λc12=>(ν,av _ _ (rfl,rfl,IntMulOk.of_left 118,ν,av _ _ (rfl,rfl,av _ _ (rfl,λv v0=>(av _ _ (rfl,rfl,(by show (6:Int)≠0;decide),rfl,ν,d2 (λc2=>?_) (λc2=>skip)))))))))
   have sz:(as.map V.ref).length<sizeLine:=by
    have:T.length*i<=4*4:=Nat.mul_le_mul T4 (by lia)
    rw[E1,ra.1];unfold bn;rw[E1];lia
   refine (ν,.inl (rfl,_,aD.of ea),ν,ν,by show 2<=sizeLine;decide,λt nt=>(bU lp _ _ (rfl,rfl,ac nt _ _ _ ea,sz,?_)))
   have gt:=ac nt (.tup [.int (0+(i:Int)),.int (0+(j:Int))]);refine (av _ (ps++ [(0+(i:Int),0+(j:Int))]) (rfl,dJ (g10.trans gt) nlp _,?_,by rw[E3];simp;lia,λp hp=>?_))
   ·unfold bn;rw[EU];exact gQ (gt _ _ ea) (ra.imp λa k q=>gt _ _ q) ae
   ·rcases EJ.mp hp with h|h
    ·exact pok p h
    ·rw[EA.mp h];exact (by show 0<=0+(i:Int);lia,by show 0+(i:Int)<_;lia,by show 0<=0+(j:Int);lia,by show 0+(j:Int)<_;lia,c1)
  ·rintro σ H10 ⟨o14,ps,rfl,g10,hP,pl,pok⟩;rw[ET,lv] at pl;exact (bU _ _ ps (rfl,g10,hP,by rw[Nat.mul_succ];exact pl,pok))
 ·intro σ H9 h_;refine kB h_ λo6 o14 ps _hi=>?_
  refine eX _hi λ_r1 g9 hP _hj=>?_
  refine dk _hj λpl pok=>?_
  clear h_ _hi _hj;subst _r1;rw[ET,lv] at pl;refine (ν,ν,ν,ν,ν,ν,av tl _ (rfl,.inl (aD.of (g9 _ _ et7)),?_));rw[lv];refine (av _ _ (rfl,rfl,IntMulOk.of_left 118,av _ _ (rfl,rfl,by show 5<=sizeLine;decide,λtp ntp=>?_)))
  have e10:=ac ntp (.tup [.ref td,.ref tl,.ref la,.ref lp,.int (pts-2*((T.length:Nat):Int))]);have k10:=g7.trans (g9.trans e10);refine q tp td tl la lp n0 n1 m0 m1 _ T A ps _ (k4.trans k10) ae (k10 _ _ etd4) (hT4.same k10) (hA.same (g9.trans e10)) (hP.same e10) ne T1 T4 (by lia) (λp hp=>(pok p hp).2.2.2.2) ?_
  have l16:T.length*T.length<=4*4:=Nat.mul_le_mul T4 T4;refine (by simp,by simpa using ne,λp hp=>?_,by lia,λws hw=>?_,by lia,by lia,by lia,λk hk=>?_,by unfold bn;rw[E1];lia,λk hk=>?_)
  ·simp only[EI,Ef,or_false] at hp;rcases hp with rfl|rfl
   ·exact (nm0,by show 1<=m0;lia,by show m0<=8;lia)
   ·exact (nm1,by show 1<=m1;lia,by show m1<=8;lia)
  ·obtain ⟨w1,w2,w3⟩:=okT ws hw;exact (w1,w2,λw h=>wm ne (by lia) (by lia) (w3 w h))
  ·refine kB (okA k hk) λp q' g _hi=>?_
   refine gB _hi λe b1 b2 b3 b4 _hj=>?_
   refine dk _hj λb5 b6=>?_
   exact (bU p q' g (e,b1,by lia,b3,by lia,b5,b6))
  ·obtain ⟨p,hp',rfl⟩:=EO.mp hk;obtain ⟨b1,b2,b3,b4,b5⟩:=pok p hp';exact (av p.1 p.2 (rfl,b1,b2,b3,b4,b5))
theorem BY {dV:Value} (F:bz K "_law_lag" "_law_lag" zR dV f fd):bv P w K mg base bt 1 f fd ["_law_arcs","_law_p","_law_q"] yb:=by
 have sc:aF ["_law_arcs","_law_p","_law_q","_law_lags"] ["_law_arcs","_law_p","_law_q"] (aw zR):=dq 119
 and_intros
 ·obtain ⟨_,_,_,_,rfl,_⟩:=h
  rfl
 refine gA h λl A p q _hi=>?_
 refine eX _hi λ_r1 _r2 l7 k=>?_
 clear h _hi;subst _r1;obtain ⟨as,el,rA⟩:=_r2;exists _,(ah (fT sc.nd (i:=3) rfl rfl (own:= "_law_row") (ys:= ["_law_p","_law_q"]) (js:= [1,2]) rfl (cok (ie (ie fR)) (.cons rfl (.cons rfl .nil)) 118 rfl rfl rfl rfl rfl rfl rfl rfl) (aG (pv 0)) (λC fp s H=>(PW.pt (cy (ao bK 133 (pv 1) (aA _)) (bV (ao bK 133 (pv 2) (aA _)))))) (λC fp s H=>133)) (ah (aI (ao (fU hr.units0) (pv 3) 138 (aA _)) (aj (aq aR)) ar) (aj (aq (aB (jt rfl) rfl B.GB boot_max ((pv 3)<*>ag))))))
 try dsimp only[cxK]
 refine lt3 ?_;intro D' r2 r1;sleep 0;have la:(as.map V.ref).length=A.length:=by rw[E1,rA.1,E1]
 refine (ν,l,rfl,(_,aD.of el),t6 (λi=>vM A p q i) (λi=> .int (vN A i)) (aD.of el) (by lia) (λi y hy H2 g2 R' hR=>?_) (λi y hy H2 g2 Q' hQ=>?_) λp1 H1 n1 g1 e1=>?_)
 ·obtain ⟨b,hb,rfl⟩:=cP hy;obtain ⟨r,hr',eb⟩:=qM rA hb;rw[nC hr'] at hR;have eb2:=g2 _ _ eb;refine (ν,aJ b _ _ _ (rfl,rfl,be.of eb2,rfl,ν,rfl,ν,d2 (λc=>?_) (λc=>?_)))
  ·injection c with c
   refine (ν,aJ b _ _ _ (rfl,rfl,be.of eb2,rfl,ν,rfl,ν,?_));have e:decide (V.int r.2.1=V.int q)=decide (r.1=p/\r.2.1=q):=by
    by_cases h:r.2.1=q
    ·rw[decide_eq_true (by rw[h]),decide_eq_true ⟨c,h⟩]
    ·rw[decide_eq_false (λz=>h (by injection z)),decide_eq_false (λz=>h z.2)]
   rw[e];exact hR
  ·rw[decide_eq_false (λz=>c (by rw[z.1]))] at hR
   exact hR
 ·obtain ⟨b,hb,rfl⟩:=cP hy;obtain ⟨r,hr',eb⟩:=qM rA hb;rw[nD hr'] at hQ;exact (ν,aJ b _ _ _ (rfl,rfl,be.of (g2 _ _ eb),rfl,hQ))
 have e2:iz (as.map V.ref).length (λi=>vM A p q i) (λi=> .int (vN A i))=(xz A p q).map V.int:=by
  rw[la];unfold iz xz;rw[EH]
  rfl
 rw[e2] at e1;refine (ν,by show 0<=sizeLine;decide,λl3 nl3=>(bU p1 l3 _ (rfl,rfl,aD.of (ac nl3 _ _ _ e1),aD.of ae,?_)))
 have g3:=g1.trans (ac nl3 142);cases hm:xz A p q with
 |nil=>
  refine (ν,cC ?_);have:=k _ g3;rw[vO hm] at this;exact this
 |cons z zs=>
  refine (ν,cu (ν,av p1 (xz A p q) (rfl,aD.of (ac nl3 _ _ _ e1),by rw[hm];exact nofun,λM h1 h2=>?_)))
  have:=k _ g3;rw[vP h1 h2] at this;exact this
theorem BZ {dV:Value} (F:bz K "_law_total" "_law_total" zS dV f fd) (DZ48:Dx P w K mg base bt 1 "_law_lag" ["_law_arcs","_law_p","_law_q"] [] yb):bv P w K mg base bt 2 f fd ["_law_arcs","_law_chain"] md:=by
 have sc:aF ["_law_arcs","_law_chain","_law_total_here","_law_k","_law_lag_here"] ["_law_arcs","_law_chain"] (aw zS):=dq 119
 and_intros
 ·obtain ⟨_,_,_,_,rfl,_⟩:=h
  rfl
 refine gA h λl c A C _hi=>?_
 refine gB _hi λ_r1 hA l7 ec c7 k=>?_
 clear h _hi;subst _r1;exists _,(ah (cR 2 sc af) (ah (aV PassesOwn.never rfl (tz rfl B.Gb (af<*>((aB ay rfl B.Ev boot_len ((pv 1)<*>ag))<*>ag))) (cY 3 sc) (ah (cR 4 sc (bX DZ48 hr ((pv 0)<*>((au br (pv 1) (am fL (pv 3) af) 117)<*>((au br (pv 1) (pv 3) 117)<*>ag))))) (ah (aI (ao fc (pv 4) aR (aA _)) (aj (aq aR)) ar) (aj (cR 2 sc (am aX (pv 2) (pv 4))))))) (aj (aq (pv 2)))))
 try dsimp only[cxK]
 refine lt3 ?_;intro D' r2 r1;sleep 0;have lc:(C.map V.int).length=C.length:=E1 _;refine (ν,av c _ (rfl,.inl (aD.of ec),av _ _ (rfl,(by decide,by decide,by lia,by lia),cL (λi σ H'=>∃(o3 o4:Option V) (t:Int),σ= [GV l,GV c,some (.int t),o3,o4]/\aE H H'/\gR A C i=some t) (bU none none 0 (rfl,.refl _,rfl)) ?_ ?_)))
 ·rintro i σ H1 hi ⟨o3,o4,t,rfl,g1,ht⟩;have hx:=E2 (show i<C.length by lia)
  have hy:=E2 (show i+1<C.length by lia)
  generalize C[i]=x at hx;generalize C[i+1]=y at hy;have st:=l9 ht hx hy;have ec1:=g1 _ _ ec;refine (ν,ν,ν,av _ _ (rfl,rfl,aJ c _ _ _ (rfl,rfl,aD.of ec1,(by rw[show 1+(i:Int)-1=(i:Int) by lia];exact aT (dL hx)),ν,ν,aJ c _ _ _ (rfl,rfl,aD.of ec1,(by rw[show 1+(i:Int)=((i+1:Nat):Int) by lia];exact aT (dL hy)),aJ l A x y (rfl,hA.same g1,l7,λH2 g2=>?_)))))
  cases hl:d0 A x y with
  |none=>
   rw[hl] at st;have e:dh A C=none:=jE (i:=i+1) st (by lia)
   have:=k _ (g1.trans g2);rw[e] at this;exact (ν,rfl,ν,dT rfl this)
  |some gg=>
   rw[hl] at st;exact ⟨_,rfl,rfl,_,rfl,dF nofun ⟨_,rfl,_,rfl,av _ _ ⟨rfl,rfl,bU _ _ _ ⟨rfl,g1.trans g2,st⟩⟩⟩⟩
 ·rintro σ H1 ⟨o3,o4,t,rfl,g1,ht⟩;have:=k _ g1;rw[show dh A C=some t by rw[<-ht];unfold dh;congr 1;lia] at this
  exact (ν,this)
theorem B1 {dV:Value} (F:bz K "_law_open" "_law_open" zT dV f fd):bv P w K mg base bt 1 f fd ["_law_tasks","_law_case","_law_i"] je:=by
 have sc:aF ["_law_tasks","_law_case","_law_i"] ["_law_tasks","_law_case","_law_i"] (aw zT):=dq 119
 and_intros
 ·obtain ⟨_,_,_,_,_,_,rfl,_⟩:=h
  rfl
 refine gi h λtl t i D T P _hi=>?_
 refine eX _hi λ_r1 TC il q=>?_
 clear h _hi;subst _r1;exists _,(ah (aI (ao fc (au br (au aC (pv 1) af 117) (pv 2) 117) aR (aA _)) (aj (aq (au br (pv 0) (pv 2) 117))) ar) (aj (aq (@aM _ _ _ _ ((au br (au br (pv 0) (pv 2) 117) (au br (au aC (pv 1) af 117) (pv 2) 117) 117)<*>ag)))))
 try dsimp only[cxK]
 refine jR ?_;intro D' r1;obtain ⟨vs,el,rT⟩:=id TC.tasks;obtain ⟨O,kl,ol,ec,ek,ho⟩:=TC.cs;have hT:=E2 il;obtain ⟨y,hy,wl,rfl,_,lw⟩:=rT.get hT;have hP:=E2 (show i<P.length by rw[TC.pk.len];exact il)
 have oF:bi T P i=match P[i]'(by rw[TC.pk.len];exact il) with|none=>T[i]|some j=> [(T[i]).getD j (0,0,[])]:=by
  unfold bi;rw[bf hT,bf hP];try rfl
 cases hp:P[i]'(by rw[TC.pk.len];exact il) with
 |none=>
  rw[hp] at oF hP;refine (ν,aJ t _ _ _ (rfl,rfl,be.of ec,rfl,ν,aJ kl _ _ _ (rfl,rfl,aD.of ek,(aT (dL hP)),rfl,ν,dT rfl (ν,ν,aJ tl _ _ _ (rfl,rfl,aD.of el,(aT hy),?_)))));exact q wl H 148 (by rw[oF];exact lw)
 |some j=>
  rw[hp] at oF hP;have jl:=TC.pk.pick i j _ hP hT;have hw:=E2 jl;replace oF:bi T P i= [(T[i]).getD j (0,0,[])]:=oF;rw[bf hw] at oF;obtain ⟨ys,ey,ry⟩:=id lw;obtain ⟨v,hv,rv⟩:=ry.get hw;refine ⟨_,rfl,aJ t _ _ _ ⟨rfl,rfl,be.of ec,rfl,_,rfl,aJ kl _ _ _ ⟨rfl,rfl,aD.of ek,(aT (dL hP)),rfl,_,rfl,dF nofun ⟨_,rfl,_,rfl,aJ tl _ _ _ ⟨rfl,rfl,aD.of el,(aT hy),_,rfl,aJ t _ _ _ ⟨rfl,rfl,be.of ec,rfl,_,rfl,aJ kl _ _ _ ⟨rfl,rfl,aD.of ek,(aT (dL hP)),aJ wl _ _ _ ⟨rfl,rfl,aD.of ey,(aT hv),by show 1<=sizeLine;decide,λp2 np2=>?_⟩⟩⟩⟩⟩⟩⟩⟩
  rw[oF] at q;exact q p2 _ (ac np2 _) (_,ae,A2.one (de rv (ac np2 _)))
theorem B3 {dV:Value} (F:bz K "_law_due" "_law_due" zU dV f fd) (DZ50:Dx P w K mg base bt 1 "_law_open" ["_law_tasks","_law_case","_law_i"] [] je):bv P w K mg base bt 2 f fd ["_law_arcs","_law_tasks","_law_case"] qY:=by
 have sc:aF ["_law_arcs","_law_tasks","_law_case","_law_due_here","_law_i","_law_ways"] ["_law_arcs","_law_tasks","_law_case"] (aw zU):=dq 119
 and_intros
 ·obtain ⟨_,_,_,_,_,_,_,_,rfl,_⟩:=h
  rfl
 refine gi h λal tl t A D T _hi=>?_
 refine pw _hi λP O _hj=>?_
 refine qe _hj λ_r1 _r2 a1000 hT t24 hC pk ok _hk=>?_
 refine dk _hk λpo q=>?_
 clear h _hi _hj _hk;subst _r1;obtain ⟨ba,ea,ra⟩:=_r2;exists _,(ah (cR 3 sc (b8 bY rfl B.Gc boot_list ((pv 0)<*>ag))) (ah (aV PassesOwn.never rfl (cK rfl B.Gb ((aB ay rfl B.Ev boot_len ((pv 1)<*>ag))<*>ag)) (cY 4 sc) (ah (cR 5 sc (bX DZ50 hr ((pv 1)<*>((pv 2)<*>((pv 4)<*>ag))))) (ah (cR 3 sc (am bH (pv 3) (@aM _ _ _ _ ((@aZ _ _ _ _ _ ((am bg af (pv 4))<*>((am aX (am bg af (pv 4)) af)<*>((aB (dR rfl) rfl B.Gk boot_min ((bZ (own:= "_law_way_here") (ys:= []) (js:= []) rfl 130 (aG (pv 5)) (λC fp s H=>133))<*>ag))<*>ag))))<*>ag)))) (aj (cR 3 sc (am bH (pv 3) (@aM _ _ _ _ ((@aZ _ _ _ _ _ ((am aX (am bg af (pv 4)) af)<*>((am bg af (pv 4))<*>((am fL af (aB (jt rfl) rfl B.GB boot_max ((bZ (own:= "_law_way_here") (ys:= []) (js:= []) rfl 130 (aG (pv 5)) (λC fp s H=>133))<*>ag)))<*>ag))))<*>ag)))))))) (aj (aq (am bH (pv 3) (bZ (own:= "_law_pair") (ys:= []) (js:= []) rfl 130 (aG 132) (λC fp s H=>(@aZ _ _ _ _ _ ((am aX (am bg af 133) af)<*>((am bg af 133)<*>(af<*>ag)))))))))))
 try dsimp only[cxK]
 refine lt3 ?_;intro D' r2 r1;sleep 0;obtain ⟨vt,et,rT⟩:=id hT;have TC:fD D H tl t T P:=⟨hT,⟨O,hC⟩,pk,ok⟩;obtain ⟨kl,ol,ec,ek,⟨bo,eo,ro⟩⟩:=id hC;have lv:vt.length=T.length:=rT.1;refine (ν,av al _ (rfl,.inl (aD.of ea),λl0 nl0=>?_))
 have g0:=ac nl0 (.lst (ba.map V.ref));have hA0:bq (aH H l0 (.lst (ba.map V.ref))) l0 (A++cU T P 0):=⟨ba,ae,by rw[show A++cU T P 0=A from FG A];exact ra.imp λa k q=>g0 _ _ q⟩
 generalize aH H l0 (.lst (ba.map V.ref))=H0 at g0 hA0⊢;try dsimp only[cg,cM]
 refine cut (λσ H'=>∃(l:Addr) (o4 o5:Option V),σ= [GV al,GV tl,GV t,GV l,o4,o5]/\aE H H'/\bq H' l (A++cU T P T.length)) (λN hN=>?_) ?_
 ·refine (ν,av tl _ (rfl,.inl (aD.of (g0 _ _ et)),ν,by lia,by lia,cL (λi σ H'=>∃(l:Addr) (o4 o5:Option V),σ= [GV al,GV tl,GV t,GV l,o4,o5]/\aE H H'/\bq H' l (A++cU T P i)) (bU l0 none none (rfl,g0,hA0)) ?_ ?_))
  ·rintro i σ H1 hi ⟨l,o4,o5,rfl,g1,⟨bs,eb,rb⟩⟩;rw[ET,lv] at hi;have zi:(0+(i:Int))=(i:Int):=Int.zero_add _;have ne:=ig (P:=P) ok hi;have ln:=fB (P:=P) ok hi;have lb:bs.length=A.length+2*i:=by rw[rb.1,E3,dj]
   refine (ν,ν,ν,fE tl t i D T P (by rw[zi];rfl,TC.same g1,hi,λp H2 g2 (vs,ev,rv)=>?_))
   refine (ν,ν,av _ _ (rfl,rfl,IntMulOk.of_left 118,ν,av _ _ (rfl,rfl,IntMulOk.of_left 118,av _ _ (rfl,rfl,ν,p,rfl,(_,aD.of ev),bJ (dW V.int) 145 (λk=>(λw:Wy=>w.1) ((bi T P i).getD k (0,0,[]))) (aD.of ev) (by rw[rv.1];lia) 136 (λk y hy Hk gk Q' hQ=>?_) λp2 H3 np2 g3 hp2=>?_))))
   ·refine eI (rv.at_ hy) λw _hi=>?_
    refine dk _hi λhw _hj=>?_
    refine pw _hj λtw uw _hk=>?_
    refine eX _hk λ_r1 _ _ _hl=>?_
    refine dk _hl λetw _=>?_
    clear _hi _hj _hk _hl;subst _r1;rw[bf hw] at hQ;exact (ν,aJ tw _ _ _ (rfl,rfl,be.of (gk _ _ etw),rfl,hQ _ _ 148 rfl))
   obtain ⟨us,eu,ru⟩:=hp2;have eus:us=((bi T P i).map λw:Wy=>w.1).map V.int:=by
    rw[ru.val,rv.1]
    conv=>rhs;rw[<-bO (bi T P i) (0,0,[])]
    rw[EH,EH,EH]
    rfl
   rw[eus] at eu;refine (av p2 _ (rfl,aD.of eu,by simpa using ne,λM hM hle=>(by show 3<=sizeLine;decide,λt1 nt1=>(by show 1<=sizeLine;decide,λl1 nl1=>?_))))
   rw[zi,eR hM hle] at nl1⊢;obtain ⟨m1,hm1⟩:∃m1,m1=gU ((bi T P i).map λw:Wy=>w.1):=⟨_,rfl⟩
   rw[<-hm1] at nl1⊢;have gt1:=ac nt1 (.tup [.int (2*(i:Int)),.int (2*(i:Int)+1),.int m1]);have gl1:=ac nl1 (.lst [.ref t1]);have q4:=((g2.trans g3).trans gt1).trans gl1;refine (aJ l l1 _ _ (rfl,rfl,q4 _ _ eb,ae,by rw[E1];simp;lia,λl2 nl2=>?_))
   have hA4:bq (aH (aH (aH H3 t1 (.tup [.int (2*(i:Int)),.int (2*(i:Int)+1),.int m1])) l1 (.lst [.ref t1])) l2 (.lst (bs.map V.ref++ [.ref t1]))) l2 (A++cU T P i++ [[2*(i:Int),2*(i:Int)+1,m1]]):=gY (rb.imp λa k q=>q4 _ _ q) (eE.one (k:= [2*(i:Int),2*(i:Int)+1,m1]) (a:=t1) (gl1 _ _ ae)) nl2
   have k5:=(g1.trans q4).trans (ac nl2 (.lst (bs.map V.ref++ [.ref t1])));have g25:=((g3.trans gt1).trans gl1).trans (ac nl2 (.lst (bs.map V.ref++ [.ref t1])));generalize aH (aH (aH H3 t1 (.tup [.int (2*(i:Int)),.int (2*(i:Int)+1),.int m1])) l1 (.lst [.ref t1])) l2 (.lst (bs.map V.ref++ [.ref t1]))=H5 at hA4 k5 g25⊢;clear eu eus ru us gt1 q4 nt1 g3 np2 nl1 nl2 gl1;obtain ⟨cs,ecs,rcs⟩:=hA4;have lc:cs.length=A.length+2*i+1:=by rw[rcs.1,E3,E3,dj];rfl
   have ev5:=g25 _ _ ev;refine (ν,ν,av _ _ (rfl,rfl,IntMulOk.of_left 118,av _ _ (rfl,rfl,ν,av _ _ (rfl,rfl,IntMulOk.of_left 118,ν,p,rfl,(_,aD.of ev5),bJ (dW V.int) 145 (λk=>(λw:Wy=>w.2.1) ((bi T P i).getD k (0,0,[]))) (aD.of ev5) (by rw[rv.1];lia) 136 (λk y hy Hk gk Q' hQ=>?_) λp3 H6 np3 g6 hp3=>?_))))
   ·refine eI (rv.at_ hy) λw _hi=>?_
    refine dk _hi λhw _hj=>?_
    refine pw _hj λtw uw _hk=>?_
    refine eX _hk λ_r1 _ _ _hl=>?_
    refine dk _hl λetw _=>?_
    clear _hi _hj _hk _hl;subst _r1;rw[bf hw] at hQ;exact (ν,aJ tw _ _ _ (rfl,rfl,be.of ((g25.trans gk) _ _ etw),rfl,hQ _ _ 148 rfl))
   obtain ⟨us,eu,ru⟩:=hp3;have eus:us=((bi T P i).map λw:Wy=>w.2.1).map V.int:=by
    rw[ru.val,rv.1]
    conv=>rhs;rw[<-bO (bi T P i) (0,0,[])]
    rw[EH,EH,EH]
    rfl
   rw[eus] at eu;refine (av p3 _ (rfl,aD.of eu,by simpa using ne,λM2 hM2 hle2=>(av _ _ (rfl,rfl,by show 3<=sizeLine;decide,λt2 nt2=>(by show 1<=sizeLine;decide,λl3 nl3=>?_)))))
   rw[sF hM2 hle2] at nl3⊢;have gt2:=ac nt2 (.tup [.int (2*(i:Int)+1),.int (2*(i:Int)),.int (0-k8 ((bi T P i).map λw:Wy=>w.2.1))])
   have gl3:=ac nl3 (.lst [.ref t2]);have q7:=(g6.trans gt2).trans gl3;refine (aJ l2 l3 _ _ (rfl,rfl,q7 _ _ ecs,ae,by rw[E1];simp;lia,λl4 nl4=>?_))
   have hA7:=gY (rcs.imp λa k q=>q7 _ _ q) (eE.one (k:= [2*(i:Int)+1,2*(i:Int),0-k8 ((bi T P i).map λw:Wy=>w.2.1)]) (a:=t2) (gl3 _ _ ae)) nl4
   refine (bU l4 _ _ (rfl,(k5.trans q7).trans (ac nl4 _),?_));have e:A++cU T P (i+1)=A++cU T P i++ [[2*(i:Int),2*(i:Int)+1,m1]]++ [[2*(i:Int)+1,2*(i:Int),0-k8 ((bi T P i).map λw:Wy=>w.2.1)]]:=by
    rw[hm1,Int.zero_sub];show A++(cU T P i++_)=_;rw[Ez,Ez]
    rfl
   rw[e];exact hA7
  ·rintro σ H1 ⟨l,o4,o5,rfl,g1,hA⟩;rw[ET,lv] at hA;exact hN _ _ (bU _ _ _ (rfl,g1,hA))
 clear hA0 g0;rintro σ H1 ⟨l,o4,o5,rfl,g1,⟨bs,eb,rb⟩⟩;have lo:(bo.map V.ref).length=O.length:=by rw[E1,ro.1]
 have lb:bs.length=A.length+2*T.length:=by rw[rb.1,E3,dj]
 have o1000:=po.1;refine (ν,ν,aJ t _ _ _ (rfl,rfl,be.of (g1 _ _ ec),rfl,ol,rfl,(_,aD.of (g1 _ _ eo)),bJ (ug λk:Ky=>k.map V.int) 145 (λk=>(λk:Ky=> [2*k.getD 0 0+1,2*k.getD 1 0,0]) (O.getD k [])) (aD.of (g1 _ _ eo)) (by lia) 136 (λk y hy H2 g2 Q' hQ=>?_) λlc H2 nlc g2 hc=>?_))
 ·obtain ⟨b,hb,rfl⟩:=cP hy;have kl:k<O.length:=by rw[<-ro.1];exact (E6.mp hb).1
  have hk:=E2 kl;have eb':=ro.2 k b _ hb hk;obtain ⟨p,q',ek'⟩:=po.2 _ (EQ kl);rw[ek'] at eb' hk;rw[bf hk] at hQ;have ebk:=(g1.trans g2) _ _ eb';exact (ν,aJ b _ _ _ (rfl,rfl,be.of ebk,rfl,av _ _ (rfl,rfl,IntMulOk.of_left 118,av _ _ (rfl,rfl,ν,aJ b _ _ _ (rfl,rfl,be.of ebk,rfl,av _ _ (rfl,rfl,IntMulOk.of_left 118,by show 3<=sizeLine;decide,λtt ntt=>hQ _ _ (ac ntt _) (tt,rfl,.inl ntt,ae)))))))
 have hc':=vY hc;rw[lo] at hc';have eO:(EY O.length).map (λk=>(λk:Ky=> [2*k.getD 0 0+1,2*k.getD 1 0,0]) (O.getD k []))=jf O:=by
  unfold jf
  conv=>rhs;rw[<-bO O []]
  rw[EH]
  rfl
 rw[eO] at hc';obtain ⟨cs,ecs,rcs⟩:=hc';have lcs:cs.length=O.length:=by rw[rcs.1];unfold jf;rw[E1]
 refine (aJ l lc _ _ (rfl,rfl,g2 _ _ eb,ecs,by rw[E1,E1];lia,λlz nlz=>?_))
 exact q lz _ ((g1.trans g2).trans (ac nlz _)) (gY (rb.imp λa k q=>g2 _ _ q) rcs nlz)
theorem B4 {dV:Value} (F:bz K "_law_many" "_law_many" zV dV f fd):bv P w K mg base bt 1 f fd ["_law_way_here","_law_name"] fX:=by
 have sc:aF ["_law_way_here","_law_name","_law_tool","_law_many_here","_law_heat"] ["_law_way_here","_law_name"] (aw zV):=dq 119
 and_intros
 ·obtain ⟨_,_,_,rfl,_⟩:=h
  rfl
 obtain ⟨v,z,w,rfl,⟨t,u,rfl,_,_,et,us,eu,ru⟩,q⟩:=h;exists _,(ah (aV PassesOwn.never rfl (aG 134) (cZ rfl (aL (cY 2 sc) (aL (cY 3 sc) (aL (cY 4 sc) cv)))) (aj (aI (ao bK (pv 2) (pv 1) (aA _)) (aj (aq (pv 3))) ar))) (aj (aq af)))
 try dsimp only[cxK]
 refine jR ?_;intro D' r1;refine (ν,aJ t _ _ _ (rfl,rfl,be.of et,rfl,u,rfl,(_,aD.of eu),aU (xs:=us) (λi σ H'=>H=H'/\(∃o2 o3 o4:Option V,σ= [GV t,some (.str z),o2,o3,o4])/\∀(j:Nat) (x:Us),j<i->w.2.2[j]?=some x->x.1≠z) (rfl,(bU none none none rfl),λj x hj=>absurd hj (Nat.not_lt_zero _)) (λi σ H' _ h=>by rw[<-h.1];exact aD.of eu) ?_ ?_))
 ·rintro i y σ H1 hy ⟨rfl,⟨o2,o3,o4,rfl⟩,hn⟩;obtain ⟨e,he,a,rfl,_,ea⟩:=ru.at_ hy;refine (av a _ (rfl,be.of ea,rfl,av _ _ (rfl,av _ _ (rfl,av _ _ (rfl,rfl,ν,ν,rfl,ν,d2 (λc=>?_) (λc=>(rfl,(bU _ _ _ rfl),λj x hj hx=>?_)))))))
  ·have c':e.1=z:=by injection c
   have:qT w z=some e:=nA (us:=w.2.2) he c' hn;rw[ph this] at q;exact (ν,q)
  ·by_cases ji:j=i
   ·rw[ji,he] at hx;cases hx;exact λz=>c (by rw[z])
   ·exact hn j x (by lia) hx
 ·rintro σ H1 ⟨rfl,⟨o2,o3,o4,rfl⟩,hn⟩;rw[ru.1] at hn;have:qT w z=none:=by
   unfold qT;rw[List.find?_eq_none];intro x hx;obtain ⟨j,hj⟩:=Eg.mp hx;have:=hn j x (E6.mp hj).1 hj;simp[this]
  rw[pd this] at q;exact q
theorem B5 {dV:Value} (F:bz K "_law_work" "_law_work" zW dV f fd) (DZ50:Dx P w K mg base bt 1 "_law_open" ["_law_tasks","_law_case","_law_i"] [] je) (DZ52:Dx P w K mg base bt 1 "_law_many" ["_law_way_here","_law_name"] [] fX):bv P w K mg base bt 2 f fd ["_law_tasks","_law_case","_law_i","_law_name"] nO:=by
 have sc:aF ["_law_tasks","_law_case","_law_i","_law_name"] ["_law_tasks","_law_case","_law_i","_law_name"] (aw zW):=dq 119
 and_intros
 ·obtain ⟨_,_,_,_,_,_,_,rfl,_⟩:=h
  rfl
 refine gi h λtl t i z D T _hi=>?_
 refine eI _hi λP _hj=>?_
 refine eX _hj λ_r1 TC il q=>?_
 clear h _hi _hj;subst _r1;exists _,(aj (aq (aB (dR rfl) rfl B.Gk boot_min ((bZ (own:= "_law_way_here") (ys:= ["_law_name"]) (js:= [3]) rfl (cok (ie fR) (.cons rfl .nil) 118 rfl rfl rfl rfl rfl rfl rfl rfl) (aG (bX DZ50 hr ((pv 0)<*>((pv 1)<*>146)))) (λC fp s H=>(am bg (bX DZ52 hr ((pv 0)<*>((pv 1)<*>ag))) 133)))<*>ag))))
 try dsimp only[cxK]
 sleep 0;have ne:=ig (P:=P) TC.ok il;have ln:=fB (P:=P) TC.ok il;refine (ν,ν,ν,fE tl t i D T P (rfl,TC,il,λp H1 g1 (vs,ev,rv)=>?_))
 refine (p,rfl,(_,aD.of ev),bJ (dW V.int) 145 (λk=>(λw:Wy=>dB w z*w.1) ((bi T P i).getD k (0,0,[]))) (aD.of ev) (by rw[rv.1];lia) 136 (λk y hy Hk gk Q' hQ=>?_) λp2 H2 np2 g2 hp2=>?_)
 ·obtain ⟨w,hw,rw'⟩:=rv.at_ hy;rw[bf hw] at hQ;have rwk:=de rw' gk;obtain ⟨tw,uw,rfl,pa,pb,etw,lw⟩:=id rwk;have w1:1<=w.1/\w.1<=1000000000:=by
   obtain ⟨ws',hws,hww⟩:=jZ TC.ok TC.pk il w (E4 hw);obtain ⟨a1,a2,a3,_⟩:=(TC.ok ws' hws).2.2 w hww
   lia
  exact (ν,ν,bU (.ref tw) z w (rfl,rwk,ν,aJ tw _ _ _ (rfl,rfl,be.of etw,rfl,av _ _ (rfl,rfl,IntMulOk.of_right (intBits_le_64 (by lia) (by lia)),hQ _ _ 148 rfl))))
 obtain ⟨us,eu,ru⟩:=hp2;have eus:us=((bi T P i).map λw:Wy=>dB w z*w.1).map V.int:=by
  rw[ru.val,rv.1]
  conv=>rhs;rw[<-bO (bi T P i) (0,0,[])]
  rw[EH,EH,EH]
  rfl
 rw[eus] at eu;refine (av p2 _ (rfl,aD.of eu,by simpa using ne,λM hM hle=>?_))
 rw[eR hM hle,ut];exact q H2 (g1.trans g2)
theorem B6 {dV:Value} (F:bz K "_law_front" "_law_front" zX dV f fd) (DZ44:Dx P w K mg base bt 1 "_law_mixed" ["_law_cell","_law_k"] [] jd):bv P w K mg base bt 2 f fd ["_law_due_here","_law_cell","_law_i"] pK:=by
 have sc:aF ["_law_due_here","_law_cell","_law_i","_law_chain","_law_k","_law_ahead"] ["_law_due_here","_law_cell","_law_i"] (aw zX):=dq 119
 and_intros
 ·obtain ⟨_,_,_,_,_,rfl,_⟩:=h
  rfl
 refine gA h λdl c i due _hi=>?_
 refine eI _hi λn _hj=>?_
 refine eX _hj λ_r1 _r2 _r3 _hk=>?_
 refine dk _hk λi2 q=>?_
 clear h _hi _hj _hk;subst _r1;obtain ⟨ba,ea,ra⟩:=_r2;obtain ⟨d2000,tr⟩:=_r3;exists _,(ah (gj (i:=3) sc.nd rfl (Or.inr rfl) (@aM _ _ _ _ ((am bg af (pv 2))<*>ag))) (ah (aV PassesOwn.never rfl (cK rfl B.Gb ((am aS (pv 1) af)<*>ag)) (cY 4 sc) (ah (fT sc.nd (i:=5) rfl rfl (own:= "_law_row") (ys:= ["_law_chain"]) (js:= [3]) rfl (cok (ie fR) (.cons rfl .nil) 118 rfl rfl rfl rfl rfl rfl rfl rfl) (aG (pv 0)) (λC fp s H=>(ao bK 133 (au (gP (K:=K) rfl) (pv 1) af 117) (aA _))) (λC fp s H=>133)) (aj (aI (ao (gO hr.units0) (pv 5) 138 (aA _)) (aj (gj (i:=3) sc.nd rfl (Or.inr rfl) (am bH (@aM _ _ _ _ ((au br (pv 5) (am aS (bX DZ44 hr ((pv 1)<*>((pv 4)<*>ag))) (aB ay rfl B.Ev boot_len ((pv 5)<*>ag))) 117)<*>ag)) (pv 3)))) ar)))) (aj (aq (pv 3)))))
 try dsimp only[cxK]
 refine lt3 ?_;intro D' r2 r1;sleep 0;have lba:(ba.map V.ref).length=due.length:=by rw[E1,ra.1]
 refine (ν,av _ _ (rfl,rfl,IntMulOk.of_left 118,by show 1<=sizeLine;decide,λl0 nl0=>?_))
 have g0:=ac nl0 (.lst [.int (2*(i:Int))]);have e0:aH H l0 (.lst [.int (2*(i:Int))]) l0=some (.lst (([2*(i:Int)]:List Int).map V.int)):=ae;generalize aH H l0 (.lst [.int (2*(i:Int))])=H0 at g0 e0⊢;have m4:=fm (a:=c) (n:=4) 118
 refine (ν,av _ _ (rfl,rfl,(by show (4:Int)≠0;decide),ν,by lia,by lia,cL (λj σ H'=>∃(l:Addr) (o4 o5:Option V) (C:List Int),σ= [GV dl,some (.int c),some (.int (i:Int)),GV l,o4,o5]/\H l=none/\aE H H'/\H' l=some (.lst (C.map V.int))/\C.length<=j+1/\((∃D,C=D++ [2*(i:Int)])/\∃x D,C=x::D)/\(∀p∈C,0<=p/\p<n)/\em due C) (aJ l0 none none [2*(i:Int)] (rfl,nl0,g0,e0,E8 _,(([],rfl),av _ [] rfl),λp hp=>by rw[EA.mp hp];lia,trivial)) ?_ ?_))
 ·intro j σ H1 hj h_;refine gA h_ λl o4 o5 C _hi=>?_
  refine gB _hi λ_r1 nl g1 el lC _hj=>?_
  refine iC _hj λsh okC ai=>?_
  clear h_ _hi _hj;subst _r1;obtain ⟨⟨D0,hD0⟩,x,D1,hx⟩:=sh;have atx:iP (C.map V.int) 0=some (.int x):=by rw[hx];exact aT (j:=0) rfl
  refine (ν,dl,rfl,(_,aD.of (g1 _ _ ea)),fV (dW V.int) 145 (λk=>decide (V.int ((due.getD k []).getD 1 0)=V.int x)) (λk=>(due.getD k []).getD 0 0) (aD.of (g1 _ _ ea)) (by lia) 136 (λk y hy H2 g2 S' hS=>?_) (λk y hy _ H2 g2 Q' hQ=>?_) λlh H2 nlh g2 hh=>?_)
  ·obtain ⟨b,hb,rfl⟩:=cP hy;have kl:k<due.length:=by rw[<-ra.1];exact (E6.mp hb).1
   have hk:=E2 kl;have eb:=ra.2 k b _ hb hk;obtain ⟨p,q',g,ek,_⟩:=tr _ (EQ kl);rw[ek] at eb hk;rw[bf hk] at hS;exact (ν,aJ b _ _ _ (rfl,rfl,be.of ((g1.trans g2) _ _ eb),rfl,ν,aJ l _ _ _ (rfl,rfl,aD.of (g2 _ _ el),atx,rfl,ν,hS _ 148)))
  ·obtain ⟨b,hb,rfl⟩:=cP hy;have kl:k<due.length:=by rw[<-ra.1];exact (E6.mp hb).1
   have hk:=E2 kl;have eb:=ra.2 k b _ hb hk;obtain ⟨p,q',g,ek,_⟩:=tr _ (EQ kl);rw[ek] at eb hk;rw[bf hk] at hQ;exact (ν,aJ b _ _ _ (rfl,rfl,be.of ((g1.trans g2) _ _ eb),rfl,hQ _ _ 148 rfl))
  obtain ⟨us,eu,ru⟩:=hh;rw[ru.val,lba] at eu;have mem:∀z∈df due.length (λk=>decide (V.int ((due.getD k []).getD 1 0)=V.int x)) (λk=>(due.getD k []).getD 0 0),∃g,[z,x,g]∈due:=λz hz=>by
   unfold df at hz;obtain ⟨k,hk,rfl⟩:=EO.mp hz;obtain ⟨h1,h2⟩:=Fc.mp hk;have kl:=Ew.mp h1;have hk:=E2 kl;obtain ⟨p,q',g,ek,_⟩:=tr _ (EQ kl);have m:=EQ kl;rw[bf hk,ek] at h2⊢;rw[ek] at m;have e:=vj (of_decide_eq_true h2);replace e:q'=x:=e;rw[e] at m;exact (g,m)
  generalize df due.length (λk=>decide (V.int ((due.getD k []).getD 1 0)=V.int x)) (λk=>(due.getD k []).getD 0 0)=W at eu mem
  have k2:=g1.trans g2;refine (ν,by show 0<=sizeLine;decide,λle nle=>?_)
  have ge:=ac nle 142;refine (bU lh le _ (rfl,rfl,aD.of (ge _ _ eu),aD.of ae,ν,?_));generalize aH H2 le 142=H3 at ge⊢;have k3:=k2.trans ge;have el3:=(g2.trans ge) _ _ el;cases W with
  |nil=>exact cu (aJ l _ _ C ⟨rfl,nl,k3,el3,by lia,⟨⟨D0,hD0⟩,av x D1 hx⟩,okC,ai⟩)
  |cons w W2=>
   refine cC (ν,ν,ν,av _ _ (rfl,λv v0=>(ν,av lh _ (rfl,.inl (aD.of (ge _ _ eu)),?_))))
   have lw:((w::W2).map V.int).length=W2.length+1:=by rw[E1];rfl
   rw[lw];have mv:=fm (a:=v) (n:=((W2.length+1:Nat):Int)) (by lia)
   have hz:=E2 (show (v.fmod ((W2.length+1:Nat):Int)).toNat<(w::W2).length by rw[ER];lia)
   have az:iP ((w::W2).map V.int) (v.fmod ((W2.length+1:Nat):Int))=some (.int ((w::W2)[(v.fmod ((W2.length+1:Nat):Int)).toNat]'(by rw[ER];lia))):=by
    have:=aT (dL (f:=V.int) hz);rw[FV mv.1] at this;exact this
   have mz:=mem _ (E4 hz);generalize (w::W2)[(v.fmod ((W2.length+1:Nat):Int)).toNat]'_=z at az mz;obtain ⟨g',mz⟩:=mz;refine kB (tr _ mz) λp' q'' g'' _hi=>?_
   refine eX _hi λek b1 b2 _hj=>?_
   refine dk _hj λb3 b4=>?_
   refine (av _ _ (rfl,rfl,by lia,aJ lh _ _ _ (rfl,rfl,aD.of (ge _ _ eu),az,by show 1<=sizeLine;decide,λl1 nl1=>(ν,aJ l1 l _ _ (rfl,rfl,ae,ac nl1 _ _ _ el3,by rw[E1];simp;lia,λl2 nl2=>?_)))))
   have gz:=(ac nl1 (.lst [.int z])).trans (ac nl2 (.lst ([.int z]++C.map V.int)));refine (aJ l2 _ _ (z::C) (rfl,(k3.trans (ac nl1 _)).free nl2,k3.trans gz,by rw[ae];rfl,by rw[ER];lia,((z::D0,by rw[hD0];rfl),av z C rfl),λy hy=>?_,?_))
   ·rcases EI.mp hy with e|e
    ·rw[e];have:z=p':=by injection ek
     rw[this];exact (b1,b2)
    ·exact okC y e
   ·rw[hx] at ai⊢;exact ((g',mz),ai)
 ·intro σ H1 h_;refine gA h_ λl o4 o5 C _hi=>?_
  refine gB _hi λ_r1 nl g1 el lC _hj=>?_
  refine iC _hj λsh okC ai=>?_
  clear h_ _hi _hj;subst _r1;exact (ν,q l C H1 nl g1 el (by lia) sh.1 okC ai)
theorem B7 {dV:Value} (F:bz K "_law_back" "_law_back" zY dV f fd) (DZ44:Dx P w K mg base bt 1 "_law_mixed" ["_law_cell","_law_k"] [] jd):bv P w K mg base bt 2 f fd ["_law_due_here","_law_cell","_law_i"] sJ:=by
 have sc:aF ["_law_due_here","_law_cell","_law_i","_law_chain","_law_k","_law_ahead"] ["_law_due_here","_law_cell","_law_i"] (aw zY):=dq 119
 and_intros
 ·obtain ⟨_,_,_,_,_,rfl,_⟩:=h
  rfl
 refine gA h λdl c i due _hi=>?_
 refine eI _hi λn _hj=>?_
 refine eX _hj λ_r1 _r2 _r3 _hk=>?_
 refine dk _hk λi2 q=>?_
 clear h _hi _hj _hk;subst _r1;obtain ⟨ba,ea,ra⟩:=_r2;obtain ⟨d2000,tr⟩:=_r3;exists _,(ah (gj (i:=3) sc.nd rfl (Or.inr rfl) (@aM _ _ _ _ ((am aX (am bg af (pv 2)) af)<*>ag))) (ah (aV PassesOwn.never rfl (cK rfl B.Gb ((am aS (pv 1) af)<*>ag)) (cY 4 sc) (ah (fT sc.nd (i:=5) rfl rfl (own:= "_law_row") (ys:= ["_law_chain"]) (js:= [3]) rfl (cok (ie fR) (.cons rfl .nil) 118 rfl rfl rfl rfl rfl rfl rfl rfl) (aG (pv 0)) (λC fp s H=>(ao bK 133 (au (gP (K:=K) rfl) (pv 1) (iS gq af) 117) (aA _))) (λC fp s H=>133)) (aj (aI (ao (gO hr.units0) (pv 5) 138 (aA _)) (aj (gj (i:=3) sc.nd rfl (Or.inr rfl) (am bH (pv 3) (@aM _ _ _ _ ((au br (pv 5) (am aS (bX DZ44 hr ((pv 1)<*>((am aX af (pv 4))<*>ag))) (aB ay rfl B.Ev boot_len ((pv 5)<*>ag))) 117)<*>ag))))) ar)))) (aj (aq (pv 3)))))
 try dsimp only[cxK]
 refine lt3 ?_;intro D' r2 r1;sleep 0;have lba:(ba.map V.ref).length=due.length:=by rw[E1,ra.1]
 refine (ν,av _ _ (rfl,rfl,IntMulOk.of_left 118,av _ _ (rfl,rfl,by show 1<=sizeLine;decide,λl0 nl0=>?_)))
 have g0:=ac nl0 (.lst [.int (2*(i:Int)+1)]);have e0:aH H l0 (.lst [.int (2*(i:Int)+1)]) l0=some (.lst (([2*(i:Int)+1]:List Int).map V.int)):=ae;generalize aH H l0 (.lst [.int (2*(i:Int)+1)])=H0 at g0 e0⊢;have m4:=fm (a:=c) (n:=4) 118
 refine (ν,av _ _ (rfl,rfl,(by show (4:Int)≠0;decide),ν,by lia,by lia,cL (λj σ H'=>∃(l:Addr) (o4 o5:Option V) (C:List Int),σ= [GV dl,some (.int c),some (.int (i:Int)),GV l,o4,o5]/\H l=none/\aE H H'/\H' l=some (.lst (C.map V.int))/\C.length<=j+1/\((∃D,C=(2*(i:Int)+1)::D)/\∃x D,C=D++ [x])/\(∀p∈C,0<=p/\p<n)/\em due C) (aJ l0 none none [2*(i:Int)+1] (rfl,nl0,g0,e0,E8 _,(([],rfl),av _ [] rfl),λp hp=>by rw[EA.mp hp];lia,trivial)) ?_ ?_))
 ·intro j σ H1 hj h_;refine gA h_ λl o4 o5 C _hi=>?_
  refine gB _hi λ_r1 nl g1 el lC _hj=>?_
  refine iC _hj λsh okC ai=>?_
  clear h_ _hi _hj;subst _r1;obtain ⟨⟨D0,hD0⟩,x,D1,hx⟩:=sh;have atx:iP (C.map V.int) (-1)=some (.int x):=by rw[hx,EU];exact og _ _
  refine (ν,dl,rfl,(_,aD.of (g1 _ _ ea)),fV (dW V.int) 145 (λk=>decide (V.int ((due.getD k []).getD 0 0)=V.int x)) (λk=>(due.getD k []).getD 1 0) (aD.of (g1 _ _ ea)) (by lia) 136 (λk y hy H2 g2 S' hS=>?_) (λk y hy _ H2 g2 Q' hQ=>?_) λlh H2 nlh g2 hh=>?_)
  ·obtain ⟨b,hb,rfl⟩:=cP hy;have kl:k<due.length:=by rw[<-ra.1];exact (E6.mp hb).1
   have hk:=E2 kl;have eb:=ra.2 k b _ hb hk;obtain ⟨p,q',g,ek,_⟩:=tr _ (EQ kl);rw[ek] at eb hk;rw[bf hk] at hS;exact (ν,aJ b _ _ _ (rfl,rfl,be.of ((g1.trans g2) _ _ eb),rfl,ν,ν,aJ l _ _ _ (rfl,rfl,aD.of (g2 _ _ el),atx,rfl,ν,hS _ 148)))
  ·obtain ⟨b,hb,rfl⟩:=cP hy;have kl:k<due.length:=by rw[<-ra.1];exact (E6.mp hb).1
   have hk:=E2 kl;have eb:=ra.2 k b _ hb hk;obtain ⟨p,q',g,ek,_⟩:=tr _ (EQ kl);rw[ek] at eb hk;rw[bf hk] at hQ;exact (ν,aJ b _ _ _ (rfl,rfl,be.of ((g1.trans g2) _ _ eb),rfl,hQ _ _ 148 rfl))
  obtain ⟨us,eu,ru⟩:=hh;rw[ru.val,lba] at eu;have mem:∀z∈df due.length (λk=>decide (V.int ((due.getD k []).getD 0 0)=V.int x)) (λk=>(due.getD k []).getD 1 0),∃g,[x,z,g]∈due:=λz hz=>by
   unfold df at hz;obtain ⟨k,hk,rfl⟩:=EO.mp hz;obtain ⟨h1,h2⟩:=Fc.mp hk;have kl:=Ew.mp h1;have hk:=E2 kl;obtain ⟨p,q',g,ek,_⟩:=tr _ (EQ kl);have m:=EQ kl;rw[bf hk,ek] at h2⊢;rw[ek] at m;have e:=vj (of_decide_eq_true h2);replace e:p=x:=e;rw[e] at m;exact (g,m)
  generalize df due.length (λk=>decide (V.int ((due.getD k []).getD 0 0)=V.int x)) (λk=>(due.getD k []).getD 1 0)=W at eu mem
  have k2:=g1.trans g2;refine (ν,by show 0<=sizeLine;decide,λle nle=>?_)
  have ge:=ac nle 142;refine (bU lh le _ (rfl,rfl,aD.of (ge _ _ eu),aD.of ae,ν,?_));generalize aH H2 le 142=H3 at ge⊢;have k3:=k2.trans ge;have el3:=(g2.trans ge) _ _ el;cases W with
  |nil=>exact cu (aJ l _ _ C ⟨rfl,nl,k3,el3,by lia,⟨⟨D0,hD0⟩,av x D1 hx⟩,okC,ai⟩)
  |cons w W2=>
   refine cC (ν,ν,ν,ν,av _ _ (rfl,rfl,av _ _ (rfl,λv v0=>(ν,av lh _ (rfl,.inl (aD.of (ge _ _ eu)),?_)))))
   have lw:((w::W2).map V.int).length=W2.length+1:=by rw[E1];rfl
   rw[lw];have mv:=fm (a:=v) (n:=((W2.length+1:Nat):Int)) (by lia)
   have hz:=E2 (show (v.fmod ((W2.length+1:Nat):Int)).toNat<(w::W2).length by rw[ER];lia)
   have az:iP ((w::W2).map V.int) (v.fmod ((W2.length+1:Nat):Int))=some (.int ((w::W2)[(v.fmod ((W2.length+1:Nat):Int)).toNat]'(by rw[ER];lia))):=by
    have:=aT (dL (f:=V.int) hz);rw[FV mv.1] at this;exact this
   have mz:=mem _ (E4 hz);generalize (w::W2)[(v.fmod ((W2.length+1:Nat):Int)).toNat]'_=z at az mz;obtain ⟨g',mz⟩:=mz;refine kB (tr _ mz) λp' q'' g'' _hi=>?_
   refine eX _hi λek b1 b2 _hj=>?_
   refine dk _hj λb3 b4=>?_
   refine (av _ _ (rfl,rfl,by lia,aJ lh _ _ _ (rfl,rfl,aD.of (ge _ _ eu),az,by show 1<=sizeLine;decide,λl1 nl1=>(aJ l l1 _ _ (rfl,rfl,ac nl1 _ _ _ el3,ae,by rw[E1];simp;lia,λl2 nl2=>?_)))))
   have gz:=(ac nl1 (.lst [.int z])).trans (ac nl2 (.lst (C.map V.int++ [.int z])));refine (aJ l2 _ _ (C++ [z]) (rfl,(k3.trans (ac nl1 _)).free nl2,k3.trans gz,by rw[ae,EU];rfl,by rw[E3];simp;lia,((D0++ [z],by rw[hD0];rfl),av z C rfl),λy hy=>?_,?_))
   ·rcases EJ.mp hy with e|e
    ·exact okC y e
    ·rw[EA.mp e];have:z=q'':=by injection ek with _ ek;injection ek
     rw[this];exact (b3,b4)
   ·rw[hx] at ai⊢;exact em.snoc mz ai
 ·intro σ H1 h_;refine gA h_ λl o4 o5 C _hi=>?_
  refine gB _hi λ_r1 nl g1 el lC _hj=>?_
  refine iC _hj λsh okC ai=>?_
  clear h_ _hi _hj;subst _r1;exact (ν,q l C H1 nl g1 el (by lia) sh.1 okC ai)
theorem B8 {dV:Value} (F:bz K "_law_order" "_law_order" zZ dV f fd):bv P w K mg base bt 1 f fd ["_law_many_here","_law_cell"] pO:=by
 have sc:aF ["_law_many_here","_law_cell","_law_some","_law_k","_law_i"] ["_law_many_here","_law_cell"] (aw zZ):=dq 119
 and_intros
 ·obtain ⟨_,_,rfl,_⟩:=h
  rfl
 obtain ⟨m,c,rfl,m1,m4,q⟩:=h;exists _,(ah (cR 2 sc 138) (ah (aV PassesOwn.never rfl (cK rfl B.Gb ((pv 0)<*>ag)) (cY 3 sc) (ah (cR 4 sc (am aS (am aX (pv 1) (am bg (pv 3) (am aX af (am aS (am bh (pv 1) af) af)))) (pv 0))) (aj (aI (PW.pt (cy (ao iW (pv 4) (pv 2) 129) (bV (ao eT (am aS (am bh (am bh (pv 1) af) (am aX (pv 3) af)) af) af (aA _))))) (aj (bW (dQ EM EX EW bw (pv 2) ((pv 4)<*>ag)))) ar)))) (aj (aq (pv 2)))))
 try dsimp only[cxK]
 refine lt3 ?_;intro D' r2 r1;sleep 0;refine (by show 0<=sizeLine;decide,λl nl=>?_)
 have g0:=ac nl 142;have e0:aH H l 142 l=some (.lst []):=ae;generalize aH H l 142=H0 at g0 e0⊢;refine (ν,m,rfl,by lia,by lia,cL (λi σ H'=>∃(o3 o4:Option V) (S2:List Int),σ= [some (.int m),some (.int c),GV l,o3,o4]/\aE H H'/\H' l=some (.lst (S2.map V.int))/\S2.length<=i/\(∀j∈S2,0<=j/\j<m)/\S2.Nodup) (bU none none [] (rfl,g0,e0,E8 _,(λj hj=>by cases hj),List.nodup_nil)) ?_ ?_)
 ·intro i σ H1 hi h_;refine kB h_ λo3 o4 S2 _hi=>?_
  refine gB _hi λ_r1 g1 e1 l1 rg nd=>?_
  clear h_ _hi;subst _r1;have mm:=fm (a:=(c+(0+(i:Int))*(1+(c.fdiv 4).fmod 3))) (n:=m) (by lia)
  have m3:=fm (a:=c.fdiv 4) (n:=3) 118
  refine (ν,ν,ν,av _ _ (rfl,rfl,140,av _ _ (rfl,rfl,(by show (3:Int)≠0;decide),av _ _ (rfl,rfl,av _ _ (rfl,rfl,IntMulOk.of_left (intBits_le_64 (by lia) (by lia)),av _ _ (rfl,rfl,ν,av _ _ (rfl,rfl,by lia,?_)))))))
  refine (ν,ν,av l _ (rfl,.inl (aD.of e1),rfl,iB S2,ν,?_));rw[if_pos rfl,jY];refine n2 (λc1=>?_) (λc1=>(bU _ _ S2 (rfl,g1,e1,by lia,rg,nd)))
  refine (ν,av _ _ (rfl,rfl,140,ν,av _ _ (rfl,rfl,av _ _ (rfl,rfl,(by lia,EE (by lia)),av _ _ (rfl,rfl,(by show (4:Int)≠0;decide),rfl,ν,n2 (λc2=>?_) (λc2=>(bU _ _ S2 (rfl,g1,e1,by lia,rg,nd))))))))
  refine ⟨ν,.inl (rfl,_,aD.of e1),ν,l,ω,e1,by rw[E1];lia,_,_,S2++ [(c+(0+(i:Int))*(1+(c.fdiv 4).fmod 3)).fmod m],rfl,dJ g1 nl _,?_,by rw[E3];simp;lia,λj hj=>by
   rcases EJ.mp hj with z|z
   ·exact rg j z
   ·rw[EA.mp z];exact mm,Fe.mpr ⟨nd,by simp,λa ha b hb=>by
    rw[EA.mp hb];exact λz=>c1 (by rw[<-z];exact ha)⟩⟩
  rw[ae,EU]
  rfl
 ·intro σ H1 h_;refine kB h_ λo3 o4 S2 _hi=>?_
  refine gB _hi λ_r1 g1 e1 l1 rg nd=>?_
  clear h_ _hi;subst _r1;exact (ν,q l S2 H1 g1 e1 (by lia) rg nd)
theorem B9 {dV:Value} (F:bz K "_law_differ" "_law_differ" z5 dV f fd):bv P w K mg base bt 1 f fd ["_law_one","_law_other"] mr:=by
 have sc:aF ["_law_one","_law_other","_law_tool","_law_many_here","_law_heat","_law_name","_law_number","_law_beside"] ["_law_one","_law_other"] (aw z5):=dq 119
 and_intros
 ·obtain ⟨_,_,_,_,rfl,_⟩:=h
  rfl
 refine gA h λv v' w w' _hi=>?_
 refine eX _hi λ_r1 _r2 _r3 _hj=>?_
 refine dk _hj λnd q=>?_
 clear h _hi _hj;subst _r1;obtain ⟨t,u,rfl,_,_,et,us,eu,ru⟩:=_r2;obtain ⟨t',u',rfl,_,_,et',us',eu',ru'⟩:=_r3;exists _,(ah (aV PassesOwn.never rfl (aG 134) (cZ rfl (aL (cY 2 sc) (aL (cY 3 sc) (aL (cY 4 sc) cv)))) (aj (aV PassesOwn.never rfl (aG (au aC (pv 1) af 117)) (cZ rfl (aL (cY 5 sc) (aL (cY 6 sc) (aL (cY 7 sc) cv)))) (aj (aI (PW.pt (cy (ao bK (pv 2) (pv 5) (aA _)) (bV (ao eT (pv 4) (pv 7) (aA _))))) 141 ar))))) 141)
 try dsimp only[cxK]
 refine jR ?_;intro D' r1;refine (ν,aJ t _ _ _ (rfl,rfl,be.of et,rfl,u,rfl,(_,aD.of eu),aU (xs:=us) (λi σ H'=>H=H'/\(∃o2 o3 o4 o5 o6 o7:Option V,σ= [GV t,GV t',o2,o3,o4,o5,o6,o7])/\∀x∈w.2.2.take i,∀y∈w'.2.2,x.1=y.1->x.2.2=y.2.2) (rfl,(fE none none none none none none rfl),λx hx=>by simp at hx) (λi σ H' _ h=>by rw[<-h.1];exact aD.of eu) ?_ ?_))
 ·rintro i y σ H1 hy ⟨rfl,⟨o2,o3,o4,o5,o6,o7,rfl⟩,hn⟩;obtain ⟨e,he,a,rfl,_,ea⟩:=ru.at_ hy;refine (av a _ (rfl,be.of ea,rfl,av _ _ (rfl,av _ _ (rfl,av _ _ (rfl,rfl,?_)))));refine (ν,aJ t' _ _ _ (rfl,rfl,be.of et',rfl,u',rfl,(_,aD.of eu'),aU (xs:=us') (λi σ H'=>H=H'/\(∃o5 o6 o7:Option V,σ= [GV t,GV t',some (.str e.1),some (.int e.2.1),some (.int e.2.2),o5,o6,o7])/\∀y∈w'.2.2.take i,e.1=y.1->e.2.2=y.2.2) (rfl,(bU _ _ _ rfl),λx hx=>by simp at hx) (λi σ H' _ h=>by rw[<-h.1];exact aD.of eu') ?_ ?_))
  ·rintro k y σ H1 hy' ⟨rfl,⟨o5,o6,o7,rfl⟩,hn'⟩;obtain ⟨x,hx,b,rfl,_,eb⟩:=ru'.at_ hy';have next:(e.1=x.1->e.2.2=x.2.2)->∀y∈w'.2.2.take (k+1),e.1=y.1->e.2.2=y.2.2:=λh y hy=>by
    rw[aW hx] at hy;rcases EJ.mp hy with z|z
    ·exact hn' y z
    ·rw[EA.mp z];exact h
   refine (av b _ (rfl,be.of eb,rfl,av _ _ (rfl,av _ _ (rfl,av _ _ (rfl,rfl,ν,ν,rfl,ν,d2 (λc1=>(ν,ν,rfl,ν,xb (λc2=>?_) (λc2=>(rfl,(bU _ _ _ rfl),next λ_=>c2)))) (λc1=>(rfl,(bU _ _ _ rfl),next λz=>absurd (by rw[z]) c1)))))))
   have:cE w w'=true:=(gC nd).mpr ⟨e,E4 he,x,E4 hx,by injection c1,c2⟩
   rw[this] at q;exact q
  ·rintro σ H1 ⟨rfl,⟨o5,o6,o7,rfl⟩,hn'⟩;rw[ru'.1,ES] at hn';refine (rfl,(fE _ _ _ _ _ _ rfl),λx hx=>?_)
   rw[aW he] at hx;rcases EJ.mp hx with z|z
   ·exact hn x z
   ·rw[EA.mp z];exact hn'
 ·rintro σ H1 ⟨rfl,⟨o2,o3,o4,o5,o6,o7,rfl⟩,hn⟩;rw[ru.1,ES] at hn;have:cE w w'=false:=by
   cases h:cE w w' with
   |false=>rfl
   |true=>
    obtain ⟨a,ha,b,hb,e,ne⟩:=(gC nd).mp h;exact absurd (hn a ha b hb e) ne
  rw[this] at q;exact q
theorem Ca {dV:Value} (F:bz K "_law_unlike" "_law_unlike" z6 dV f fd) (DZ50:Dx P w K mg base bt 1 "_law_open" ["_law_tasks","_law_case","_law_i"] [] je) (DZ57:Dx P w K mg base bt 1 "_law_differ" ["_law_one","_law_other"] [] mr):bv P w K mg base bt 2 f fd ["_law_tasks","_law_case","_law_i","_law_j"] mw:=by
 have sc:aF ["_law_tasks","_law_case","_law_i","_law_j","_law_one","_law_other"] ["_law_tasks","_law_case","_law_i","_law_j"] (aw z6):=dq 119
 and_intros
 ·obtain ⟨_,_,_,_,_,_,_,rfl,_⟩:=h
  rfl
 refine gi h λtl t i j D T _hi=>?_
 refine eI _hi λP _hj=>?_
 refine eX _hj λ_r1 TC il _hk=>?_
 refine dk _hk λjl q=>?_
 clear h _hi _hj _hk;subst _r1;exists _,(ah (aV PassesOwn.never rfl (aG (bX DZ50 hr ((pv 0)<*>((pv 1)<*>146)))) (cY 4 sc) (aj (aV PassesOwn.never rfl (aG (bX DZ50 hr ((pv 0)<*>((pv 1)<*>((pv 3)<*>ag))))) (cY 5 sc) (aj (aI (bS (cB (bX DZ57 hr ((pv 4)<*>((pv 5)<*>ag))))) 141 ar))))) 141);try dsimp only[cxK]
 refine jR ?_;intro D' r1;refine (ν,ν,ν,fE tl t i D T P (rfl,TC,il,λp H1 g1 (vs,ev,rv)=>?_))
 refine (p,rfl,(_,aD.of ev),aU (xs:=vs) (λk σ H'=>aE H1 H'/\(∃o4 o5:Option V,σ= [GV tl,GV t,some (.int (i:Int)),some (.int (j:Int)),o4,o5])/\((bi T P i).take k).all (λv=>(bi T P j).all λw=>cE v w)=true) (.refl _,(av none none rfl),rfl) (λk σ H' _ h=>aD.of (h.1 _ _ ev)) ?_ ?_)
 ·rintro k y σ H2 hy ⟨g2,⟨o4,o5,rfl⟩,hall⟩;obtain ⟨v,hv,rv'⟩:=rv.at_ hy;have kk:=g1.trans g2;refine (ν,ν,ν,fE tl t j D T P (rfl,TC.same kk,jl,λp3 H3 g3 (us,eu,ru)=>?_))
  refine (p3,rfl,(_,aD.of eu),aU (xs:=us) (λm σ H'=>H3=H'/\(∃o5:Option V,σ= [GV tl,GV t,some (.int (i:Int)),some (.int (j:Int)),some y,o5])/\((bi T P j).take m).all (λw=>cE v w)=true) (rfl,⟨ν⟩,rfl) (λm σ H' _ h=>by rw[<-h.1];exact aD.of eu) ?_ ?_)
  ·rintro m y2 σ H4 hy2 ⟨rfl,⟨o5,rfl⟩,hm⟩;obtain ⟨w,hw,rw'⟩:=ru.at_ hy2;refine (ν,ν,aJ y y2 v w (rfl,de rv' (g2.trans g3),rw',TC.nd jl w (E4 hw),ν,?_));cases hd:cE v w with
   |true=>
    refine cu (rfl,⟨ν⟩,?_);rw[aW hw,Fd,hm,Eu,Fg,List.all_nil,Fn];exact hd
   |false=>
    have:cx T P i j=false:=by
     unfold cx;rw[<-FJ,ED];intro h;have h2:=h v (E4 hv);rw[ED] at h2;have:=h2 w (E4 hw);rw[hd] at this;cases this
    rw[this] at q;exact cC (q _ (kk.trans g3))
  ·rintro σ H4 ⟨rfl,⟨o5,rfl⟩,hm⟩;rw[ru.1,ES] at hm;exists g2.trans g3,(av _ _ rfl);rw[aW hv,Fd,hall,Eu,Fg,List.all_nil,Fn];exact hm
 ·rintro σ H2 ⟨g2,⟨o4,o5,rfl⟩,hall⟩;rw[rv.1,ES] at hall;have:cx T P i j=true:=hall;rw[this] at q;exact q _ (g1.trans g2)
theorem Cb {dV:Value} (F:bz K "_law_clash" "_law_clash" z7 dV f fd) (DZ50:Dx P w K mg base bt 1 "_law_open" ["_law_tasks","_law_case","_law_i"] [] je) (DZ52:Dx P w K mg base bt 1 "_law_many" ["_law_way_here","_law_name"] [] fX) (DZ58:Dx P w K mg base bt 2 "_law_unlike" ["_law_tasks","_law_case","_law_i","_law_j"] [] mw):bv P w K mg base bt 3 f fd ["_law_parts","_law_case","_law_some"] kC:=by
 have sc:aF ["_law_parts","_law_case","_law_some","_law_tools","_law_tasks","_law_arcs","_law_pairs","_law_k","_law_i","_law_j","_law_name","_law_wants"] ["_law_parts","_law_case","_law_some"] (aw z7):=dq 119
 and_intros
 ·obtain ⟨_,_,_,_,_,_,_,_,_,_,_,_,rfl,_⟩:=h
  rfl
 refine nM h λtp t l td tl pl v S2 D _hi=>?_
 refine kB _hi λT P ps _hj=>?_
 refine qe _hj λ_r1 etp ed dnd TC t24 hp pne _hk=>?_
 refine iC _hk λes s1000 q=>?_
 clear h _hi _hj _hk;subst _r1;exists _,(ah (j7 (pv 0) (cZ rfl (aL (cY 3 sc) (aL (dG (i:=4) sc.nd rfl (Or.inr rfl)) (aL (cY 5 sc) (aL (cY 6 sc) cv)))))) (ah (aV PassesOwn.never rfl (cK rfl B.Gb ((aB ay rfl B.Ev boot_len 146)<*>ag)) (cY 7 sc) (aj (aI (PW.pt (dP (bS (cI dv fo af (au br (pv 2) (pv 7) 117) (aB ay rfl B.Ev boot_len ((pv 4)<*>ag)))) (dt (ao b9 (au br (pv 2) (pv 7) 117) (aY bI (pv 2) bA (bj (pv 7))) 129)))) 141 ar))) (ah (aI (ao fo (aB ay rfl B.Ev boot_len 146) af (aA _)) 141 ar) (ah (aV PassesOwn.never rfl (aG (pv 2)) (cY 8 sc) (aj (aV PassesOwn.never rfl (aG (pv 2)) (cY 9 sc) (aj (aI (PW.pt (cy (ao eT (pv 8) (pv 9) (aA _)) (bV (PW.pt (dP (ao (xB (gG hr)) (@aZ _ _ _ _ _ ((pv 8)<*>((pv 9)<*>ag))) (pv 6) 129) (dt (cB (bX DZ58 hr ((pv 4)<*>((pv 1)<*>((pv 8)<*>((pv 9)<*>ag)))))))))))) 141 ar))))) (ah (qD (aV PassesOwn.never rfl (xj (pv 3)) (dG (i:=10) sc.nd rfl (Or.inr rfl)) (ah (fu (own:= "_law_i") (ys:= ["_law_name","_law_tasks","_law_case"]) (js:= [10,4,1]) sc.nd (i:=11) rfl rfl rfl (cok (ie (ie (ie fR))) (.cons rfl (.cons rfl (.cons rfl .nil))) 118 rfl rfl rfl rfl rfl rfl rfl rfl) (aG (pv 2)) (λC fp s H=>(aB (qX (K:=K) rfl rfl) rfl B.Gk boot_min ((bZ (own:= "_law_way_here") (ys:= ["_law_name"]) (js:= [1]) rfl (cok (ie fR) (.cons rfl .nil) 118 rfl rfl rfl rfl rfl rfl rfl rfl) (vX (K:=K) rfl (bX DZ50 hr ((pv 2)<*>((pv 3)<*>((pv 0)<*>ag))))) (λC fp s H=>(bX DZ52 hr ((pv 0)<*>((pv 1)<*>ag)))))<*>ag)))) (aj (aI (ao fP (aB (fW rfl) rfl B.Gx PyProof.Rows.Boot.«sum» ((pv 11)<*>ag)) (ic (gG hr) (pv 3) (pv 10) 117) (aA _)) 141 ar))))) 141)))))
 try dsimp only[cxK]
 refine D5 ?_;intro D' r5 r4 r3 r2 r1;sleep 0;refine (ν,av tp _ (rfl,be.of etp,rfl,av _ _ (rfl,av _ _ (rfl,av _ _ (rfl,av _ _ (rfl,rfl,?_))))));obtain ⟨vt,et,rT⟩:=id TC.tasks;have no1:bu T S2=false->b7 D T (bn ps) P S2=false:=λh=>by unfold b7;rw[h];rfl
 try dsimp only[cg,cM]
 refine cut (λσ H'=>∃o7:Option V,σ= [GV tp,GV t,GV l,GV td,GV tl,some v,GV pl,o7,none,none,none,none]/\aE H H'/\bu T S2=true) (λN hN=>?_) ?_
 ·refine (ν,av l _ (rfl,.inl (aD.of es),ν,by rw[E1];lia,by rw[E1];lia,cL (λk σ H'=>aE H H'/\(∃o7:Option V,σ= [GV tp,GV t,GV l,GV td,GV tl,some v,GV pl,o7,none,none,none,none])/\(∀i∈S2.take k,0<=i/\i<120)/\(S2.take k).Nodup) (.refl _,(none,rfl),λi hi=>by simp at hi,by simp) ?_ ?_))
  ·rintro k σ H1 hk ⟨g1,⟨o7,rfl⟩,hr1,hnd⟩;rw[ET,E1] at hk;have hx:=E2 hk;generalize S2[k]=x at hx;have memx:=E4 hx;have es1:=g1 _ _ es;have atx:iP (S2.map V.int) (0+(k:Int))=some (.int x):=xq (dL hx);have bad:¬(0<=x/\x<120)->bu T S2=false:=λh=>by
    cases hu:bu T S2 with
    |false=>rfl
    |true=>exact absurd ((eK hu).1 x memx) h
   refine (ν,ν,aJ l _ _ _ (rfl,rfl,aD.of es1,atx,av _ _ (rfl,rfl,ν,d2 (λc1=>(ν,av tl _ (rfl,.inl (aD.of (g1 _ _ et)),?_))) (λc1=>(ν,cC ?_)))))
   ·rw[rT.1];refine (av _ _ (rfl,rfl,ν,n2 (λc2=>?_) (λc2=>?_)))
    ·rw[no1 (bad λh=>c2 h.2)] at q
     exact q _ g1
    ·refine (ν,ν,aJ l _ _ _ (rfl,rfl,aD.of es1,atx,ν,ν,ν,av l _ (rfl,aD.of es1,λp np=>?_)))
     have ct:fM (S2.map V.int) none (some (0+(k:Int)))=(S2.take k).map V.int:=by
      rw[Int.zero_add,cO (by rw[E1];lia),List.map_take]
     rw[ct];have g2:=g1.trans (ac np (.lst ((S2.take k).map V.int)));refine (av p _ (rfl,.inl (aD.of ae),rfl,iB _,ν,qV (λc3=>?_) (λc3=>?_)))
     ·have:bu T S2=false:=by
       cases hu:bu T S2 with
       |false=>rfl
       |true=>
        have nd:=(eK hu).2;obtain ⟨a,ha⟩:=Eg.mp c3;rw[List.getElem?_take] at ha
        split at ha
        ·rename_i ak;have h1:=E6.mp ha;have h2:=E6.mp hx;have:=(List.getElem_inj nd).mp (h1.2.trans h2.2.symm)
         lia
        ·cases ha
      rw[no1 this] at q;exact q _ g2
     ·exists g2,⟨ν⟩,λi hi=>?_
      ·rw[aW hx] at hi;rcases EJ.mp hi with z|z
       ·exact hr1 i z
       ·rw[EA.mp z];exact (c1,c2)
      ·rw[aW hx];refine Fe.mpr (hnd,by simp,λa ha b hb=>?_)
       rw[EA.mp hb];exact λz=>c3 (by rw[<-z];exact ha)
   ·rw[no1 (bad λh=>c1 h.1)] at q
    exact q _ g1
  ·rintro σ H1 ⟨g1,⟨o7,rfl⟩,hr1,hnd⟩;rw[ET,E1,ES] at hr1 hnd;refine hN _ _ (ν,g1,?_);unfold bu;rw[decide_eq_true hnd,Fn,ED];intro i hi;have:=hr1 i hi;rw[decide_eq_true this.1,decide_eq_true this.2]
   rfl
 rintro σ H1 ⟨o7,rfl,g1,hu⟩;obtain ⟨rg,nd⟩:=eK hu;have es1:=g1 _ _ es;have ed1:=g1 _ _ ed;have TC1:=TC.same g1;have hp1:=hp.same g1;refine (ν,av l _ (rfl,.inl (aD.of es1),?_));rw[E1];refine (av _ _ (rfl,rfl,ν,d2 (λc=>?_) (λc=>?_)))
 ·have:b7 D T (bn ps) P S2=false:=by
   unfold b7;rw[decide_eq_false (by lia:¬2<=S2.length),Ey,FE]
  rw[this] at q;exact q _ g1
 have cf:b7 D T (bn ps) P S2=((S2.any λi=>S2.any λj=>ca T ps P i j)||gX D T P S2):=by
  rw[<-iM TC.ok TC.pk pne rg nd];unfold b7;rw[hu,decide_eq_true (by lia:2<=S2.length),Bool.or_assoc]
  rfl
 try dsimp only[cg,cM]
 refine cut (λσ H'=>∃o8 o9:Option V,σ= [GV tp,GV t,GV l,GV td,GV tl,some v,GV pl,o7,o8,o9,none,none]/\aE H1 H'/\(S2.any λi=>S2.any λj=>ca T ps P i j)=false) (λN hN=>?_) ?_
 ·refine (ν,l,rfl,(_,aD.of es1),aU (xs:=S2.map V.int) (λk σ H'=>aE H1 H'/\(∃o8 o9:Option V,σ= [GV tp,GV t,GV l,GV td,GV tl,some v,GV pl,o7,o8,o9,none,none])/\((S2.take k).any λi=>S2.any λj=>ca T ps P i j)=false) (.refl _,(av _ _ rfl),rfl) (λk σ H' _ h=>aD.of (h.1 _ _ es1)) ?_ ?_)
  ·rintro k y σ H2 hy ⟨g2,⟨o8,o9,rfl⟩,hn⟩;rw[EB] at hy;obtain ⟨i,hi,rfl⟩:=E7.mp hy;have iT:=rg i (E4 hi);obtain ⟨ni,hni⟩:∃ni:Nat,i=(ni:Int):=⟨i.toNat,by lia⟩
   refine (ν,l,rfl,(_,aD.of (g2 _ _ es1)),aU (xs:=S2.map V.int) (λm σ H'=>aE H1 H'/\(∃o9:Option V,σ= [GV tp,GV t,GV l,GV td,GV tl,some v,GV pl,o7,some (.int i),o9,none,none])/\((S2.take m).any λj=>ca T ps P i j)=false) (g2,⟨ν⟩,rfl) (λk σ H' _ h=>aD.of (h.1 _ _ es1)) ?_ ?_)
   ·rintro m y σ H3 hy ⟨g3,⟨o9,rfl⟩,hm⟩;rw[EB] at hy;obtain ⟨j,hj,rfl⟩:=E7.mp hy;have jT:=rg j (E4 hj);obtain ⟨nj,hnj⟩:∃nj:Nat,j=(nj:Int):=⟨j.toNat,by lia⟩
    have yes:ca T ps P i j=true->b7 D T (bn ps) P S2=true:=λh=>by
     rw[cf];have:(S2.any λi=>S2.any λj=>ca T ps P i j)=true:=by
      rw[Ee];exists i,E4 hi;rw[Ee];exact (j,E4 hj,h)
     rw[this]
     rfl
    have no:ca T ps P i j=false->((S2.take (m+1)).any λj=>ca T ps P i j)=false:=λh=>by
     rw[aW hj,FH,hm,En,F5,Fk,FX];exact h
    refine (ν,ν,rfl,ν,n2 (λc1=>?_) (λc1=>(g3,⟨ν⟩,no (by unfold ca;rw[decide_eq_true c1];rfl))))
    have pc:ca T ps P i j=(decide ((i,j)∈ps)||cx T P i.toNat j.toNat):=by
     unfold ca;rw[decide_eq_false c1]
     rfl
    refine (ν,ν,by show 2<=sizeLine;decide,λt1 n1=>?_)
    have g4:=g3.trans (ac n1 (.tup [.int i,.int j]));refine (ν,aJ t1 pl i j (ps,(rfl,rfl,ae,CD.of (hp1.same g4),ν,d2 (λc2=>?_) (λc2=>?_))))
    ·rw[yes (by rw[pc,decide_eq_true c2];rfl)] at q
     exact q _ (g1.trans g4)
    ·refine (ν,ν,ν,ν,fE tl t ni nj D T (P,(by rw[hni,hnj];rfl,TC1.same g4,by lia,by lia,λH5 g5=>(ν,?_))))
     rw[decide_eq_false c2,En,show i.toNat=ni by lia,show j.toNat=nj by lia] at pc
     cases huu:cx T P ni nj with
     |true=>
      rw[yes (by rw[pc,huu])] at q
      exact cC (q _ ((g1.trans g4).trans g5))
     |false=>exact cu ⟨g4.trans g5,⟨_,rfl⟩,no (by rw[pc,huu])⟩
   ·rintro σ H3 ⟨g3,⟨o9,rfl⟩,hm⟩;rw[E1,ES] at hm;exists g3,(av _ _ rfl);rw[aW hi,FH,hn,En,F5,Fk,FX];exact hm
  ·rintro σ H2 ⟨g2,⟨o8,o9,rfl⟩,hn⟩;rw[E1,ES] at hn;exact hN _ _ (av _ _ (rfl,g2,hn))
 rintro σ H2 ⟨o8,o9,rfl,g2,hn⟩;rw[hn,En] at cf;rw[cf] at q;have es2:=g2 _ _ es1;have ed2:=g2 _ _ ed1;have TC2:=TC1.same g2;have k2:=g1.trans g2;clear es1 ed1 TC1 hp1 hn;refine (ν,av td _ (rfl,ed2,λo nf=>?_))
 have ef:aH H2 td (.frz o (.dK (bL D))) td=some (.frz o (.dK (bL D))):=ae;have sq:=jA (o:=o) ed2;obtain ⟨O,cl,co,ec,ek,eo⟩:=TC2.cs;have TCf:fD D (aH H2 td (.frz o (.dK (bL D)))) tl t T P:=⟨TC2.tasks.sq sq,(bU O cl co ⟨sq _ _ rfl ec,sq _ _ rfl ek,eo.sq sq⟩),TC2.pk,TC2.ok⟩;have esf:=sq _ _ rfl es2;have thaw:∀{H':Hp},aE (aH H2 td (.frz o (.dK (bL D)))) H'->aE H2 (aH H' td (.dK (bL D))):=λg=>jB ed2 g
 generalize aH H2 td (.frz o (.dK (bL D)))=Hf at ef TCf esf thaw⊢;refine vx (λk σ H'=>aE Hf H'/\(∃o10 o11:Option V,σ= [GV tp,GV t,GV l,GV td,GV tl,some v,GV pl,o7,o8,o9,o10,o11])/\(D.take k).any (λp=>decide (p.2<(S2.map λi=>gW T P i.toNat p.1).sum))=false) (.refl _,(av none none rfl),rfl) (λi σ H' _ h=>h.1 _ _ ef) ?_ ?_
 ·rintro k ky y σ H3 hk ⟨g3,⟨o10,o11,rfl⟩,hn⟩;obtain ⟨p,hpp,rfl,rfl⟩:=kx hk;have hm:=lV dnd (show (p.1,p.2)∈D from E4 hpp)
  refine (ν,l,rfl,(_,aD.of (g3 _ _ esf)),bJ (dW V.int) 145 (λi=>gW T P (S2.getD i 0).toNat p.1) (aD.of (g3 _ _ esf)) (by rw[E1];lia) 136 (λm y hy H4 g4 Q' hQ=>?_) λp2 H4 np2 g4 hp2=>?_)
  ·rw[EB] at hy;obtain ⟨i,hi,rfl⟩:=E7.mp hy;have iT:=rg i (E4 hi);obtain ⟨ni,hni⟩:∃ni:Nat,i=(ni:Int):=⟨i.toNat,by lia⟩
   have il:ni<T.length:=by lia
   rw[bf hi,show i.toNat=ni by lia] at hQ
   have ne:=ig (P:=P) TC.ok il;have ln:=fB (P:=P) TC.ok il;refine (ν,ν,ν,fE tl t ni D T P (by rw[hni];rfl,TCf.same (g3.trans g4),il,λq2 H5 g5 (vs,ev,rv)=>?_))
   refine (q2,rfl,(_,aD.of ev),bJ (dW V.int) 145 (λk=>dB ((bi T P ni).getD k (0,0,[])) p.1) (aD.of ev) (by rw[rv.1];lia) 136 (λk y hy H6 g6 Q2 hQ2=>?_) λp3 H6 np3 g6 hp3=>?_)
   ·obtain ⟨w,hw,rw'⟩:=rv.at_ hy;rw[bf hw] at hQ2;exact (ν,ν,bU y p.1 w (rfl,de rw' g6,hQ2 _ _ 148 rfl))
   ·obtain ⟨us,eu,ru⟩:=hp3;have eus:us=((bi T P ni).map λw:Wy=>dB w p.1).map V.int:=by
     rw[ru.val,rv.1]
     conv=>rhs;rw[<-bO (bi T P ni) (0,0,[])]
     rw[EH,EH,EH]
     rfl
    rw[eus] at eu;refine (av p3 _ (rfl,aD.of eu,by simpa using ne,λM hM hle=>?_))
    rw[eR hM hle];exact hQ _ _ (g5.trans g6) rfl
  ·obtain ⟨us,eu,ru⟩:=hp2;have eus:us=(S2.map λi=>gW T P i.toNat p.1).map V.int:=by
    rw[ru.val,E1]
    conv=>rhs;rw[<-bO S2 0]
    rw[EH,EH,EH]
    rfl
   rw[eus] at eu;have dg:=jD (.inr ⟨o,(g3.trans g4) _ _ ef⟩) hm;refine (ν,av p2 _ (rfl,aD.of eu,ν,ν,av td _ (rfl,dg,av _ _ (rfl,rfl,ν,d2 (λc=>?_) (λc=>?_)))))
   ·have:gX D T P S2=true:=by
     unfold gX;rw[Ee];exact (p,E4 hpp,decide_eq_true c)
    rw[this] at q;exact (bU td o _ ((g3.trans g4) _ _ ef,nf,q _ (k2.trans (thaw (g3.trans g4)))))
   ·exists g3.trans g4,(av _ _ rfl);rw[aW hpp,FH,hn,En,F5,Fk,FX];exact decide_eq_false c
 ·rintro σ H3 ⟨g3,⟨o10,o11,rfl⟩,hn⟩;rw[jy,ES] at hn;have:gX D T P S2=false:=hn;rw[this] at q;exact (bU td o _ (g3 _ _ ef,nf,q _ (k2.trans (thaw g3))))
theorem Cc {dV:Value} (F:bz K "_law_splits" "_law_splits" z8 dV f fd) (DZ59:Dx P w K mg base bt 3 "_law_clash" ["_law_parts","_law_case","_law_some"] [] kC):bv P w K mg base bt 4 f fd ["_law_parts","_law_case"] pV:=by
 have sc:aF ["_law_parts","_law_case","_law_some","_law_i","_law_found","_law_one","_law_free"] ["_law_parts","_law_case"] (aw z8):=dq 119
 and_intros
 ·obtain ⟨_,_,_,_,_,_,_,_,rfl,_⟩:=h
  rfl
 refine gi h λtp t D T A ps _hi=>?_
 refine pw _hi λn c _hj=>?_
 refine iC _hj λ_r1 pc q=>?_
 clear h _hi _hj;subst _r1;exists _,(ah (cR 2 sc (@aM _ _ _ _ (138<*>ag))) (ah (aV PassesOwn.never rfl (cK rfl B.Gb ((aB ay rfl B.Ev boot_len (134<*>ag))<*>ag)) (dG (i:=3) sc.nd rfl (Or.inr rfl)) (aj (cR 2 sc (am bH (pv 2) (bZ (own:= "_law_one") (ys:= ["_law_i"]) (js:= [3]) rfl (cok (ie fR) (.cons rfl .nil) 118 rfl rfl rfl rfl rfl rfl rfl rfl) (aG (pv 2)) (λC fp s H=>(am bH (pv 0) (@aM _ _ _ _ ((pv 1)<*>ag))))))))) (ah (cR 4 sc 138) (ah (aV PassesOwn.never rfl (aG (pv 2)) (dG (i:=5) sc.nd rfl (Or.inr rfl)) (ah (cR 6 sc (aB (uu rfl) rfl B.GL PyProof.Rows.Boot.«all» ((vD (os:= ["_law_i","_law_j"]) (ys:= ["_law_one"]) (js:= [5]) rfl (A5 (ie fR) (.cons rfl .nil) rfl rfl rfl rfl rfl rfl rfl) (aG (au aC (pv 1) af 117)) (λC fp s H=>so (K:=K) (n:=2) rfl rfl (aL (jc (os:= ["_law_i","_law_j"]) (ys:= ["_law_one"]) (i:=0) 118 rfl rfl) (aL (jc (os:= ["_law_i","_law_j"]) (ys:= ["_law_one"]) (i:=1) 118 rfl rfl) cv))) (λC fp s H=>(uO (cN (my (K:=K) rfl) (pv 0) (pv 2) 129) (gK (cN (my (K:=K) rfl) (pv 1) (pv 2) 129)))))<*>ag))) (aj (aI (PW.pt (cy (cB (pv 6)) (bV (cB (bX DZ59 hr ((pv 0)<*>((pv 1)<*>((pv 5)<*>ag)))))))) (aj (bW (dQ EM EX EW bw (pv 4) ((pv 5)<*>ag)))) ar)))) (aj (aq (pv 4)))))))
 try dsimp only[cxK]
 refine DL ?_;intro D' r4 r3 r2 r1;sleep 0;refine gA pc.part.ex λtd tl la pl _hi=>?_
 refine eX _hi λetp etd hT _hj=>?_
 refine dk _hj λhA hP=>?_
 obtain ⟨vt,et,rT⟩:=id hT;have t4:=pc.t4;have lv:=rT.1;refine (by show 0<=sizeLine;decide,λl0 nl0=>(by show 1<=sizeLine;decide,λls nls=>?_))
 have g0:=ac nl0 142;have g1:=ac nls (.lst [.ref l0]);have e0:aH (aH H l0 142) ls (.lst [.ref l0]) l0=some (.lst (([]:List Int).map V.int)):=g1 _ _ ae;have hs0:uv (aH (aH H l0 142) ls (.lst [.ref l0])) ls [[]]:=⟨_,ae,A2.one (jh trivial e0)⟩;have k1:=g0.trans g1;generalize aH (aH H l0 142) ls (.lst [.ref l0])=H1 at k1 hs0⊢;refine (ν,aJ tp _ _ _ (rfl,rfl,be.of (k1 _ _ etp),rfl,av tl _ (rfl,.inl (aD.of (k1 _ _ et)),ν,by lia,by lia,cL (λi σ H'=>∃(o3:Option V) (ls:Addr) (SS:List (List Int)),σ= [GV tp,GV t,GV ls,o3,none,none,none]/\aE H H'/\uv H' ls SS/\SS.length<=2^i/\∀S∈SS,S.length<=i) (bU none ls [[]] (rfl,k1,hs0,E8 _,λS hS=>by rw[EA.mp hS];exact E8 _)) ?_ ?_)))
 ·intro i σ H2 hi h_;refine kB h_ λo3 ls SS _hi=>?_
  refine eX _hi λ_r1 g2 hs _hj=>?_
  refine dk _hj λl2 s4=>?_
  clear h_ _hi _hj;subst _r1;rw[ET,lv] at hi;have p16:2^i<=2^4:=Nat.pow_le_pow_right 118 (by lia)
  obtain ⟨vs,es,rs⟩:=id hs;have ll:=rs.1;refine (ν,ν,ls,rfl,(_,aD.of es),bJ nQ 145 (λk=>SS.getD k []++ [0+(i:Int)]) (aD.of es) (by lia) 136 (λk y hy H3 g3 Q' hQ=>?_) λlc H3 nlc g3 hc=>?_)
  ·obtain ⟨S2,hS2,hc⟩:=rs.at_ hy;obtain ⟨cc,rfl,_,ecc⟩:=fY hc;rw[bf hS2] at hQ;have:=s4 S2 (E4 hS2);refine (ν,ν,by show 1<=sizeLine;decide,λp np=>?_)
   have e3:=g3.trans (ac np (.lst [.int (0+(i:Int))]));refine (aJ cc p _ _ (rfl,rfl,e3 _ _ ecc,ae,by rw[E1];simp;lia,λp2 np2=>hQ _ _ ((ac np _).trans (ac np2 _)) (jh (.inl ((ac np _).free np2)) ?_)))
   rw[ae,EU]
   rfl
  obtain ⟨us,eu,ru⟩:=hc;have lu:=ru.1;rw[E1,F6] at lu;refine (aJ ls lc _ _ (rfl,rfl,g3 _ _ es,eu,by lia,λlz nlz=>?_))
  have ge:=ac nlz (.lst (vs++us));refine (bU _ lz _ (rfl,g2.trans (g3.trans ge),(_,ae,((rs.imp λ_ _ q=>de q (g3.trans ge)).append (ru.imp λ_ _ q=>DK (de q ge)))),?_,λS hS=>?_))
  ·rw[E3,E1,F6,Nat.pow_succ]
   lia
  ·rcases EJ.mp hS with h|h
   ·have:=s4 S h
    lia
   ·obtain ⟨k,hk,rfl⟩:=EO.mp h;have kl:k<SS.length:=by rw[<-ll];exact Ew.mp hk
    have:=s4 _ (EQ kl);rw[bf (E2 kl),E3];show _+1<=_
    lia
 intro σ H2 h_;refine kB h_ λo3 ls SS _hi=>?_
 refine eX _hi λ_r1 g2 hs _hj=>?_
 refine dk _hj λl2 s4=>?_
 clear h_ _hi _hj;subst _r1;rw[ET,lv] at l2 s4;have p16:2^T.length<=2^4:=Nat.pow_le_pow_right 118 t4
 obtain ⟨vs,es,rs⟩:=id hs;have ll:=rs.1;refine (by show 0<=sizeLine;decide,λlf nlf=>?_)
 have gf:=ac nlf 142;have hf0:cA nQ (λa=>a≠lf) (aH H2 lf 142) lf []:=cA.new
 generalize aH H2 lf 142=H3 at gf hf0⊢;have ot:=pc.cok.pairs 118
 refine (ν,ls,rfl,(_,aD.of (gf _ _ es)),aU (xs:=vs) (λk σ H'=>(∃o3 o5 o6:Option V,σ= [GV tp,GV t,GV ls,o3,GV lf,o5,o6])/\aE H2 H'/\∃FF:List (List Int),cA nQ (λa=>a≠lf) H' lf FF/\FF.length<=k/\∀S∈FF,S.length<=4/\cF D T (bn ps) c.1 c.2 (.split S)=true) ((bU o3 none none rfl),gf,[],hf0,E8 _,λS hS=>by cases hS) (λk σ H' _ h=>aD.of (h.2.1 _ _ es)) ?_ ?_)
 ·rintro k y σ H4 hy ⟨⟨o3,o5,o6,rfl⟩,g4,FF,⟨fs,ef,rf⟩,lF,okF⟩;obtain ⟨S2,hS2,hc⟩:=rs.at_ hy;obtain ⟨cc,rfl,_,ecc⟩:=fY hc;have kl:=(E6.mp hy).1;have g24:=g2.trans g4;have pc4:=pc.same g24;obtain ⟨kl',ol,ec,ek,bo,eo,ro⟩:=id pc4.cs;have S4:=s4 S2 (E4 hS2);have lbo:bo.length<=1000:=by rw[ro.1];exact ot.1
  refine (ν,aJ t _ _ _ (rfl,rfl,be.of ec,rfl,ol,rfl,(_,aD.of eo),xP (dW V.bl) 145 (λi=> !decide ((c.2.getD i []).getD 0 0∈S2)|| !decide ((c.2.getD i []).getD 1 0∈S2)) (aD.of eo) (by rw[E1];lia) 136 (λi y hy H5 g5 o ho Q' hQ=>?_) λlc H5 nlc g5 hc=>?_))
  ·obtain ⟨o1,o2,rfl⟩:=v3 ho;obtain ⟨b,hb,rfl⟩:=cP hy;have il:i<c.2.length:=by rw[<-ro.1];exact (E6.mp hb).1
   have hk:=E2 il;have eb:=g5 _ _ (ro.2 i b _ hb hk);obtain ⟨p,q',e2⟩:=ot.2 _ (EQ il);rw[bf hk,e2] at hQ;rw[e2] at eb;have ecc5:=(g4.trans g5) _ _ ecc;refine (av b _ (rfl,be.of eb,rfl,av _ _ (rfl,av _ _ (rfl,rfl,([some (.int p),some (.int q')],rfl,rfl),ν,ν,av cc _ (rfl,.inl (aD.of ecc5),rfl,iB S2,ν,?_)))));rw[if_pos (show (true=true) from rfl),jY]
   refine n2 (λm1=>hQ _ _ 148 ?_) (λm1=>(ν,ν,av cc _ (rfl,.inl (aD.of ecc5),rfl,iB S2,hQ _ _ 148 ?_)))
   ·show V.bl true=V.bl (!decide (p∈S2)||_);rw[decide_eq_false m1]
    rfl
   ·show V.bl (if true=true then !qd (V.int q') (S2.map V.int) else _)=V.bl (!decide (p∈S2)|| !decide (q'∈S2))
    rw[if_pos (show (true=true) from rfl),jY,decide_eq_true m1]
    rfl
  obtain ⟨us,eu,ru⟩:=hc;rw[ru.val,E1,ro.1] at eu;refine (av lc _ (rfl,aD.of eu,?_));rw[uB];have g25:=g24.trans g5;have skip:(∃o3' o5' o6':Option V,[some (.ref tp),some (.ref t),some (.ref ls),o3,some (.ref lf),some (.ref cc),some (.bl (!bP c.2 S2))]= [some (.ref tp),some (.ref t),some (.ref ls),o3',some (.ref lf),o5',o6']):=(bU _ _ _ rfl);cases ha:bP c.2 S2 with
  |true=>exact ⟨_,rfl,_,rfl,cu ⟨(bU _ _ _ rfl),g4.trans g5,FF,⟨fs,g5 _ _ ef,rf.imp λ_ _ q=>de q g5⟩,by lia,okF⟩⟩
  |false=>
   have pc5:=pc.same g25;have cl:kQ T 400 c:=pc.cok;refine (ν,ν,cC (ν,ν,ν,iQ tp t cc td tl pl (.ref la) S2 D (bU T c.1 ps (rfl,g25 _ _ etp,g25 _ _ etd,pc.ok.dnd,(hT.same g25,(_,pc5.cs),cl.pk,pc.ok.ways),pc.ok.t24,hP.same g25,pc.ne,(g4.trans g5) _ _ ecc,by lia,λH6 g6=>(ν,?_)))))
   have g56:=g5.trans g6;cases hcl:b7 D T (bn ps) c.1 S2 with
   |false=>exact cu ⟨(bU _ _ _ rfl),g4.trans g56,FF,⟨fs,g56 _ _ ef,rf.imp λ_ _ q=>de q g56⟩,by lia,okF⟩
   |true=>
    have lf1:=rf.1;refine cC (ν,.inl (rfl,_,aD.of (g56 _ _ ef)),ν,bU lf _ _ (rfl,rfl,g56 _ _ ef,by lia,((bU _ _ _ rfl),dJ (g4.trans g56) nlf _,FF++ [S2],cA.put (λz=>z rfl) (rf.imp λ_ _ q=>de q g56) (jh (λz=>?_) ((g4.trans g56) _ _ ecc)),by rw[E3];show _+1<=_;lia,λS hS=>?_)))
    ·rw[z,nlf] at ecc;cases ecc
    ·rcases EJ.mp hS with h|h
     ·exact okF S h
     ·rw[EA.mp h];exists by lia
      show (!bP c.2 S2&&b7 D T (bn ps) c.1 S2)=true;rw[ha,hcl]
      rfl
 ·rintro σ H4 ⟨⟨o3,o5,o6,rfl⟩,g4,FF,hF,lF,okF⟩;exact (ν,q lf FF H4 (g2.trans g4) hF.any (by lia) okF)
theorem Cd {dV:Value} (F:bz K "_law_inner" "_law_inner" Aa dV f fd) (DZ60:Dx P w K mg base bt 4 "_law_splits" ["_law_parts","_law_case"] [] pV):bv P w K mg base bt 5 f fd ["_law_parts","_law_case","_law_cell"] sT:=by
 have sc:aF ["_law_parts","_law_case","_law_cell","_law_free","_law_found","_law_some","_law_turn"] ["_law_parts","_law_case","_law_cell"] (aw Aa):=dq 119
 and_intros
 ·obtain ⟨_,_,_,_,_,_,_,_,_,rfl,_⟩:=h
  rfl
 refine nM h λtp t x D T A ps n c _hi=>?_
 refine iC _hi λ_r1 pc q=>?_
 clear h _hi;subst _r1;exists _,(ah (fT sc.nd (i:=3) rfl rfl (own:= "_law_i") (ys:= ["_law_case"]) (js:= [1]) rfl (cok (ie fR) (.cons rfl .nil) 118 rfl rfl rfl rfl rfl rfl rfl rfl) (cK rfl B.Gb ((aB ay rfl B.Ev boot_len ((au aC (pv 1) af 117)<*>ag))<*>ag)) (λC fp s H=>(ao fc (au (gP (K:=K) rfl) (au (bF (K:=K) rfl) (pv 1) af 117) (pv 0) 117) aR (aA _))) (λC fp s H=>(pv 0))) (ah (fT sc.nd (i:=3) rfl rfl (own:= "_law_i") (ys:= ["_law_parts"]) (js:= [0]) rfl (cok (ie fR) (.cons rfl .nil) 118 rfl rfl rfl rfl rfl rfl rfl rfl) (aG (pv 3)) (λC fp s H=>(ao bK (aB uz rfl B.Ev boot_len ((au (gP (K:=K) rfl) (au (bF (K:=K) rfl) (pv 1) af 117) (pv 0) 117)<*>ag)) af (aA _))) (λC fp s H=>(pv 0))) (ah (aI (PW.pt (cy (ao bK (am aS (pv 2) af) af (aA _)) (bV (ao (gO hr.units0) (pv 3) 138 (aA _))))) (aj (aq (@aZ _ _ _ _ _ (bE<*>((au br (pv 3) (am aS (am bh (pv 2) af) (aB ay rfl B.Ev boot_len ((pv 3)<*>ag))) 117)<*>ag))))) ar) (ah (cR 4 sc (bX DZ60 hr ((pv 0)<*>((pv 1)<*>ag)))) (ah (aI (ao (fU hr.units0) (pv 4) 138 (aA _)) (aj (aq aR)) ar) (ah (cR 5 sc (au br (pv 4) (am aS (am bh (pv 2) af) (aB ay rfl B.Ev boot_len ((pv 4)<*>ag))) 117)) (ah (cR 6 sc (am aS (am bh (pv 2) af) (aB ay rfl B.Ev boot_len ((pv 5)<*>ag)))) (aj (aq (@aZ _ _ _ _ _ (bE<*>((am bH (aY bI (pv 5) (bj (pv 6)) bA) (aY bI (pv 5) bA (bj (pv 6))))<*>ag))))))))))))
 try dsimp only[cxK]
 refine CC ?_;intro D' r7 r6 r5 r4 r3 r2 r1;sleep 0;refine gA pc.part.ex λtd tl la pl _hi=>?_
 refine eX _hi λetp etd hT _hj=>?_
 refine dk _hj λhA hP=>?_
 obtain ⟨vt,et,rT⟩:=id hT;have t4:=pc.t4;have lv:=rT.1;obtain ⟨kl,ol,ec,ek,hO⟩:=id pc.cs;have lP:c.1.length=T.length:=pc.cok.pk.len;refine (ν,aJ t _ _ _ (rfl,rfl,be.of ec,rfl,av kl _ (rfl,.inl (aD.of ek),ν,by rw[E1];lia,by rw[E1];lia,uh (dW V.int) 145 (λi=>decide (gy (c.1.getD i none)=V.non)) (λi=>0+(i:Int)) (by rw[ET,E1];lia) 136 (λi hi H2 g2 S' hS'=>?_) (λi hi _ H2 g2 Q' hQ=>(ν,hQ _ _ 148 rfl)) λlf H1 nlf g1 hf=>?_)))
 ·rw[ET,E1] at hi;have hk:=E2 hi;rw[bf hk] at hS';have at1:iP (c.1.map gy) (0+(i:Int))=some (gy c.1[i]):=by
   rw[Int.zero_add];exact aT (dL hk)
  exact (ν,aJ t _ _ _ (rfl,rfl,be.of (g2 _ _ ec),rfl,ν,aJ kl _ _ _ (rfl,rfl,aD.of (g2 _ _ ek),at1,rfl,ν,hS' _ 148)))
 obtain ⟨us,eu,ru⟩:=hf;rw[ru.val] at eu;have okf:∀z∈df (((c.1.map gy).length:Nat):Int).toNat (λi=>decide (gy (c.1.getD i none)=V.non)) (λi=>0+(i:Int)),∃k:Nat,z=(k:Int)/\k<T.length/\c.1.getD k none=none:=λz hz=>by
  unfold df at hz;obtain ⟨k,hk,rfl⟩:=EO.mp hz;obtain ⟨h1,h2⟩:=Fc.mp hk;rw[ET,E1] at h1;exists k,Int.zero_add _,by rw[<-lP];exact Ew.mp h1
  rw[decide_eq_true_eq] at h2;cases hh:c.1.getD k none with
  |none=>rfl
  |some j=>rw[hh] at h2;cases h2
 have lf4:(df (((c.1.map gy).length:Nat):Int).toNat (λi=>decide (gy (c.1.getD i none)=V.non)) (λi=>0+(i:Int))).length<=4:=by
  have:=jx (((c.1.map gy).length:Nat):Int).toNat (λi=>decide (gy (c.1.getD i none)=V.non)) (λi=>0+(i:Int))
  rw[ET,E1] at this;rw[ET,E1]
  lia
 generalize df (((c.1.map gy).length:Nat):Int).toNat (λi=>decide (gy (c.1.getD i none)=V.non)) (λi=>0+(i:Int))=F1 at eu okf lf4
 refine (ν,lf,rfl,(_,aD.of eu),fV (dW V.int) 145 (λi=>decide (V.int (((T.getD (F1.getD i 0).toNat []).length:Nat):Int)=V.int 2)) (λi=>F1.getD i 0) (aD.of eu) (by rw[E1];lia) 136 (λi y hy H2 g2 S' hS'=>?_) (λi y hy _ H2 g2 Q' hQ=>?_) λlf2 H2 nlf2 g2 hf2=>?_)
 ·rw[EB] at hy;obtain ⟨z,hz,rfl⟩:=E7.mp hy;obtain ⟨k,rfl,kT,_⟩:=okf z (E4 hz);have hk:=E2 kT;rw[bf hz,ET,bf hk] at hS';refine eI (rT.get hk) λy _hi=>?_
  refine dk _hi λhy _hj=>?_
  refine eI _hj λwl _hk=>?_
  refine iC _hk λ_r1 _ _hl=>?_
  refine eI _hl λwv _hm=>?_
  refine dk _hm λew rw'=>?_
  clear _hi _hj _hk _hl _hm;subst _r1;have g12:=g1.trans g2;refine (ν,aJ tp _ _ _ (rfl,rfl,be.of (g12 _ _ etp),rfl,ν,aJ tl _ _ _ (rfl,rfl,aD.of (g12 _ _ et),(aT hy),av wl _ (rfl,g12 _ _ ew,rfl,?_))));have:=hS' _ 148;rw[<-rw'.1] at this;exact (ν,this)
 ·rw[EB] at hy;obtain ⟨z,hz,rfl⟩:=E7.mp hy;rw[bf hz] at hQ;exact (ν,hQ _ _ 148 rfl)
 obtain ⟨us,eu2,ru2⟩:=hf2;rw[ru2.val] at eu2;have okf2:∀z∈df (F1.map V.int).length (λi=>decide (V.int (((T.getD (F1.getD i 0).toNat []).length:Nat):Int)=V.int 2)) (λi=>F1.getD i 0),iE T c.1 z=true:=λz hz=>by
  unfold df at hz;obtain ⟨k,hk,rfl⟩:=EO.mp hz;obtain ⟨h1,h2⟩:=Fc.mp hk;rw[E1] at h1;have hk:=E2 (Ew.mp h1);rw[bf hk] at h2⊢;obtain ⟨m,e,mT,mP⟩:=okf _ (EQ (Ew.mp h1));rw[e] at h2⊢;rw[decide_eq_true_eq] at h2;injection h2 with h2
  unfold iE;rw[ET] at h2⊢;rw[decide_eq_true (show (0:Int)<=(m:Int) by lia),decide_eq_true (show (m:Int)<120 by lia),decide_eq_true (show (T.getD m []).length=2 by lia),decide_eq_true mP]
  rfl
 have lf24:(df (F1.map V.int).length (λi=>decide (V.int (((T.getD (F1.getD i 0).toNat []).length:Nat):Int)=V.int 2)) (λi=>F1.getD i 0)).length<=4:=by
  have:=jx (F1.map V.int).length (λi=>decide (V.int (((T.getD (F1.getD i 0).toNat []).length:Nat):Int)=V.int 2)) (λi=>F1.getD i 0)
  rw[E1] at this;rw[E1]
  lia
 generalize df (F1.map V.int).length (λi=>decide (V.int (((T.getD (F1.getD i 0).toNat []).length:Nat):Int)=V.int 2)) (λi=>F1.getD i 0)=F2 at eu2 okf2 lf24
 have g02:=g1.trans g2;clear eu okf lf4 ru ru2;try dsimp only[cg,cM]
 refine cut (λσ H'=>σ= [GV tp,GV t,some (.int x),GV lf2,none,none,none]/\aE H H') (λN hN=>?_) ?_
 ·have miss:=hN _ _ ⟨rfl,g02⟩;refine (ν,av _ _ (rfl,rfl,(by show (2:Int)≠0;decide),rfl,ν,d2 (λ_=>?_) (λ_=>cu miss)))
  refine (ν,by show 0<=sizeLine;decide,λle nle=>?_)
  have ge:=ac nle 142;refine (bU lf2 le _ (rfl,rfl,aD.of (ge _ _ eu2),aD.of ae,ν,?_));generalize aH H2 le 142=H3 at ge⊢;have g03:=g02.trans ge
  by_cases fe:F2= []
  ·rw[fe];exact cu (hN _ _ (rfl,g03))
  have re:(F2.map V.int).isEmpty=false:=by cases F2 with|nil=>exact absurd rfl fe|cons _ _=>rfl
  have fl:1<=F2.length:=FU.mpr fe;rw[re];refine cC (ν,ν,av _ _ (rfl,rfl,140,ν,av lf2 _ (rfl,.inl (aD.of (ge _ _ eu2)),?_)))
  rw[E1];have mz:=fm (a:=x.fdiv 2) (n:=(F2.length:Int)) (by lia)
  have hz:=E2 (show ((x.fdiv 2).fmod (F2.length:Int)).toNat<F2.length by lia)
  have az:iP (F2.map V.int) ((x.fdiv 2).fmod (F2.length:Int))=some (.int (F2[((x.fdiv 2).fmod (F2.length:Int)).toNat]'(by lia))):=by
   have:=aT (dL (f:=V.int) hz)
   rwa [FV mz.1] at this
  refine (av _ _ (rfl,rfl,by lia,aJ lf2 _ _ _ (rfl,rfl,aD.of (ge _ _ eu2),az,by show 2<=sizeLine;decide,λtr ntr=>?_)))
  have okz:=okf2 _ (E4 hz);generalize F2[((x.fdiv 2).fmod (F2.length:Int)).toNat]'(by lia)=z at okz
  have gr:=ac ntr (.tup [.str "ways",.int z]);exact q _ _ (g03.trans gr) (.inr (.ways z,(tr,rfl,g03.free ntr,ae),(trivial,λw hw=>by cases hw;trivial),.ways z,rfl,okz))
 rintro σ H3 ⟨rfl,g3⟩;refine (ν,ν,fE tp t D T A ps (av n c (rfl,pc.same g3,λls Ss H4 g4 hs l16 okS=>?_)))
 have g34:=g3.trans g4;obtain ⟨vs,es,rs⟩:=id hs;have lvs:=rs.1;refine (ν,by show 0<=sizeLine;decide,λle nle=>?_)
 have ge:=ac nle 142;refine (bU ls le _ (rfl,rfl,aD.of (ge _ _ es),aD.of ae,ν,?_));generalize aH H4 le 142=H5 at ge⊢;have g35:=g34.trans ge
 by_cases se:Ss= []
 ·have:vs= []:=EV (by rw[lvs,se];rfl)
  rw[this];exact cC (q _ _ g35 (.inl rfl))
 have slp:1<=Ss.length:=FU.mpr se;have re:vs.isEmpty=false:=by cases vs with|nil=>rw[<-lvs] at slp;cases slp|cons _ _=>rfl
 rw[re];refine cu (ν,ν,av _ _ (rfl,rfl,140,ν,av ls _ (rfl,.inl (aD.of (ge _ _ es)),?_)))
 rw[lvs];have mz:=fm (a:=x.fdiv 2) (n:=(Ss.length:Int)) (by lia)
 have hz:=E2 (show ((x.fdiv 2).fmod (Ss.length:Int)).toNat<Ss.length by lia)
 obtain ⟨v,hv,hc⟩:=rs.get hz;obtain ⟨cc,rfl,_,ecc⟩:=fY hc;have az:iP vs ((x.fdiv 2).fmod (Ss.length:Int))=some (.ref cc):=by
  have:=aT hv
  rwa [FV mz.1] at this
 obtain ⟨S4,rS⟩:=okS _ (E4 hz);generalize Ss[((x.fdiv 2).fmod (Ss.length:Int)).toNat]'(by lia)=S2 at ecc S4 rS
 have S2l:=uC rS;have ecc5:=ge _ _ ecc;refine (av _ _ (rfl,rfl,by lia,aJ ls _ _ _ (rfl,rfl,aD.of (ge _ _ es),az,?_)))
 refine (ν,av _ _ (rfl,rfl,140,ν,av cc _ (rfl,.inl (aD.of ecc5),?_)))
 rw[E1];have mt:=fm (a:=x.fdiv 64) (n:=(S2.length:Int)) (by lia)
 refine (av _ _ (rfl,rfl,by lia,?_))
 dsimp only;obtain ⟨k,hk⟩:∃k:Nat,(x.fdiv 64).fmod (S2.length:Int)=(k:Int):=⟨((x.fdiv 64).fmod (S2.length:Int)).toNat,by lia⟩
 rw[hk] at mt⊢;refine (ν,ν,ν,av cc _ (rfl,aD.of ecc5,λp1 np1=>?_))
 rw[db (by rw[E1];lia)]
 have e1:=ac np1 (.lst ((S2.map V.int).drop k));refine (ν,ν,ν,av cc _ (rfl,aD.of (e1 _ _ ecc5),λp2 np2=>?_))
 rw[cO (by rw[E1];lia)]
 have e2:=ac np2 (.lst ((S2.map V.int).take k));refine (aJ p1 p2 _ _ (rfl,rfl,e2 _ _ ae,ae,by rw[EL,EC,E1];lia,λp3 np3=>(by show 2<=sizeLine;decide,λtr ntr=>?_)))
 have e3:=ac np3 (.lst ((S2.map V.int).drop k++(S2.map V.int).take k));have gr:=ac ntr (.tup [.str "split",.ref p3]);have g45:=g35.trans ((e1.trans e2).trans e3);have pm:=uD S2 k;refine q _ _ (g45.trans gr) (.inr (.one "split" (S2.drop k++S2.take k),(tr,rfl,g45.free ntr,p3,(g35.trans (e1.trans e2)).free np3,ae,?_),((.inr (.inr rfl),by rw[pm.length_eq];lia),λw hw=>?_),.split (S2.drop k++S2.take k),rfl,rE pc.ok.ways pc.cok.pk pc.ne pm rS))
 ·rw[gr _ _ ae,EU,List.map_drop,List.map_take]
 ·cases hw;show (S2.drop k++S2.take k).length<=8;rw[pm.length_eq]
  lia
theorem Ce {dV:Value} (F:bz K "_law_cases" "_law_cases" Ab dV f fd):bv P w K mg base bt 1 f fd ["_law_case","_law_row"] kL:=by
 have sc:aF ["_law_case","_law_row","_law_found","_law_i","_law_j"] ["_law_case","_law_row"] (aw Ab):=dq 119
 and_intros
 ·obtain ⟨_,_,_,_,_,_,rfl,_⟩:=h
  rfl
 refine gi h λt r w P O Z0 _hi=>?_
 refine gB _hi λ_r1 hC0 po p24 hrw _hj=>?_
 refine iC _hj λok rg q0=>?_
 clear h _hi _hj;subst _r1;exists _,(ah (aI (ao bK (au aC (pv 1) af 117) bE (aA _)) (aj (aq (oE (hd:=none) (own:= "_law_way_here") (ys:= ["_law_case","_law_row"]) (js:= [0,1]) hr.hd (cok (ie (ie fR)) (.cons rfl (.cons rfl .nil)) 118 rfl rfl rfl rfl rfl rfl rfl rfl) (lM rfl B.Gb (af<*>ag)) (λC fp s H=>(@aZ _ _ _ _ _ ((am bH (am bH (aY (pJ (K:=K) rfl) (au (bF (K:=K) rfl) (pv 1) af 117) bA (bj (au (bF (K:=K) rfl) (pv 2) af 117))) (@aM _ _ _ _ ((pv 0)<*>ag))) (aY (pJ (K:=K) rfl) (au (bF (K:=K) rfl) (pv 1) af 117) (bj (am aX (au (bF (K:=K) rfl) (pv 2) af 117) af)) bA))<*>((au (bF (K:=K) rfl) (pv 1) af 117)<*>ag))))))) ar) (ah (cR 2 sc 138) (ah (aV PassesOwn.never rfl (aG (au aC (pv 1) af 117)) (cY 3 sc) (aj (aV PassesOwn.never rfl (aG (au aC (pv 1) af 117)) (cY 4 sc) (aj (aI (ao eT (pv 3) (pv 4) (aA _)) (aj (bW (dQ EM EX EW bw (pv 2) ((@aZ _ _ _ _ _ (134<*>((am bH 134 (@aM _ _ _ _ ((@aZ _ _ _ _ _ ((pv 3)<*>((pv 4)<*>ag)))<*>ag)))<*>ag)))<*>ag)))) ar))))) (aj (aq (pv 2))))))
 try dsimp only[cxK]
 refine yQ ?_;intro D' r3 r2 r1;sleep 0;have hC1:=ya hC0;obtain ⟨Z,hZd⟩:∃Z:Addr->Prop,Z=λa=>Z0 a/\H a≠none:=⟨_,rfl⟩
 have hZ:∀a,Z a->H a≠none:=λa h=>by rw[hZd] at h;exact h.2
 rw[<-hZd] at hC1;have q:∀(l:Addr) (H':Hp),aE H H'->H l=none->cA cX (λa=>a≠l/\(H a=none∨Z a)) H' l (dD P O w)->Q (.ref l) H':=λl H' g nl h=>q0 l H' g nl (h.mono λa k=>⟨k.1,k.2.imp id λz=>by rw[hZd] at z;exact z.1⟩)
 clear hZd q0 hC0;refine kB hC1 λt' kl ol _hi=>?_
 refine gB _hi λe0 zt zk zo ec _hj=>?_
 refine dk _hj λek hOz=>?_
 cases e0;replace ek:H kl=some (.lst (P.map gy)):=ek;have hO:bq H ol O:=vY hOz;obtain ⟨bo,eo,ro⟩:=id hO;obtain ⟨vz,ez,rz⟩:=hOz;rw[eo] at ez;injection ez with ez
 injection ez with ez
 subst ez;have lbo:bo.length<=1000:=by rw[ro.1];exact po.1
 cases w with
 |ways i=>
  have er:H r=some (.tup [.str "ways",.int i]):=hrw;obtain ⟨i0,i1⟩:=rg i rfl;obtain ⟨k,rfl⟩:∃k:Nat,i=(k:Int):=⟨i.toNat,by lia⟩
  have kl':k<P.length:=by lia
  refine (ν,aJ r _ _ _ (rfl,rfl,be.of er,rfl,rfl,ν,dT rfl (ν,by decide,by decide,oW cX Z (λj=>(P.set k (some j),O)) oB.no (by lia) hZ (λj hj H2 g2 Q' hQ=>?_) λlc H2 nlc g2 hc=>?_)))
  ·refine (ν,aJ t _ _ _ (rfl,rfl,be.of (g2 _ _ ec),rfl,ν,aJ r _ _ _ (rfl,rfl,be.of (g2 _ _ er),rfl,ν,av kl _ (rfl,aD.of (g2 _ _ ek),λp1 np1=>?_))))
   rw[cO (by rw[E1];lia)]
   have e1:=ac np1 (.lst ((P.map gy).take k));refine (ν,by show 1<=sizeLine;decide,λp2 np2=>?_)
   have e2:=ac np2 (.lst [.int (0+(j:Int))]);refine (aJ p1 p2 _ _ (rfl,rfl,e2 _ _ ae,ae,by rw[EC,E1];simp;lia,λp3 np3=>?_))
   have e3:=ac np3 (.lst ((P.map gy).take k++ [.int (0+(j:Int))]));have g5:=g2.trans ((e1.trans e2).trans e3);refine (ν,aJ t _ _ _ (rfl,rfl,be.of (g5 _ _ ec),rfl,ν,aJ r _ _ _ (rfl,rfl,be.of (g5 _ _ er),rfl,av _ _ (rfl,rfl,ν,av kl _ (rfl,aD.of (g5 _ _ ek),λp4 np4=>?_)))))
   rw[show ((k:Int)+1)=((k+1:Nat):Int) from rfl,db (by rw[E1];lia)]
   have e4:=ac np4 (.lst ((P.map gy).drop (k+1)));refine (aJ p3 p4 _ _ (rfl,rfl,e4 _ _ ae,ae,by rw[E3,EC,EL,E1];simp;lia,λp5 np5=>?_))
   have e5:=ac np5 (.lst ((P.map gy).take k++ [.int (0+(j:Int))]++(P.map gy).drop (k+1)));have g7:=g5.trans (e4.trans e5);refine (ν,aJ t _ _ _ (rfl,rfl,be.of (g7 _ _ ec),rfl,by show 2<=sizeLine;decide,λt5 nt5=>?_))
   have e6:=ac nt5 (.tup [.ref p5,.ref ol]);have ge:=(((((e1.trans e2).trans e3).trans e4).trans e5).trans e6);have set5:(P.map gy).take k++ [.int (0+(j:Int))]++(P.map gy).drop (k+1)=(P.set k (some j)).map gy:=by
    rw[List.map_set,List.set_eq_take_append_cons_drop,if_pos (by rw[E1];exact kl'),Ez,Int.zero_add]
    rfl
   refine hQ _ _ ge (bU t5 p5 ol (rfl,.inl (((((e1.trans e2).trans e3).trans e4).trans e5).free nt5),.inl ((((e1.trans e2).trans e3).trans e4).free np5),.inr zo,ae,by rw[e6 _ _ ae,set5],?_))
   exact (_,(g7.trans e6) _ _ eo,rz.imp λ_ _ q=>ku (de q (g7.trans e6)) λa h=> .inr h)
  ·exact q lc H2 g2 nlc hc
 |split S2=>
  obtain ⟨c,er,es⟩:=hrw;have s8:S2.length<=8:=ok;refine (ν,aJ r _ _ _ (rfl,rfl,be.of er,rfl,rfl,ν,dF 118 (by show 0<=sizeLine;decide,λlc nlc=>?_)))
  have g0:=ac nlc 142;refine (ν,aJ r _ _ _ (rfl,rfl,be.of (g0 _ _ er),rfl,c,rfl,(_,aD.of (g0 _ _ es)),aU (xs:=S2.map V.int) (λk σ H'=>(∃o4 o5:Option V,σ= [GV t,GV r,GV lc,o4,o5])/\aE H H'/\cA cX (λa=>a≠lc/\(H a=none∨Z a)) H' lc (dC P O S2 (S2.take k))) ((av none none rfl),g0,cA.new) (λk σ H' _ h=>aD.of (h.2.1 _ _ es)) ?_ ?_))
  ·rintro k y σ H2 hy ⟨⟨o4,o5,rfl⟩,g2,cn⟩;rw[EB] at hy;obtain ⟨i,hi,rfl⟩:=E7.mp hy;refine (ν,aJ r _ _ _ (rfl,rfl,be.of (g2 _ _ er),rfl,c,rfl,(_,aD.of (g2 _ _ es)),aU (xs:=S2.map V.int) (λm σ H'=>(∃o5:Option V,σ= [GV t,GV r,GV lc,some (.int i),o5])/\aE H H'/\cA cX (λa=>a≠lc/\(H a=none∨Z a)) H' lc (dC P O S2 (S2.take k)++((S2.take m).filter λj=> !decide (V.int i=V.int j)).map (λj=>(P,O++ [[i,j]])))) (⟨ν⟩,g2,by simpa using cn) (λk σ H' _ h=>aD.of (h.2.1 _ _ es)) ?_ ?_))
   ·rintro m y σ H3 hy ⟨⟨o5,rfl⟩,g3,vs,ev,rv⟩;rw[EB] at hy;obtain ⟨j,hj,rfl⟩:=E7.mp hy;refine (ν,ν,rfl,ν,n2 (λc1=>?_) (λc1=>(⟨ν⟩,g3,vs,ev,by rw[aW hj,ip,if_pos c1,FG];exact rv)))
    have lz:vs.length<=1000:=by
     have h1:=rv.1;rw[E3,E1] at h1;have h2:=gF (P:=P) (O:=O) (S:=S2) (S1:=S2.take k);have h3:(S2.take k).length*S2.length<=8*8:=Nat.mul_le_mul (by rw[EC];lia) s8
     have h4:=Fp (λj=> !decide (V.int i=V.int j)) (S2.take m)
     rw[EC] at h4
     lia
    refine (ν,.inl (rfl,_,aD.of ev),ν,aJ t _ _ _ (rfl,rfl,be.of (g3 _ _ ec),rfl,ν,aJ t _ _ _ (rfl,rfl,be.of (g3 _ _ ec),rfl,ν,ν,by show 2<=sizeLine;decide,λt1 nt1=>(by show 1<=sizeLine;decide,λl1 nl1=>?_))))
    have e2:=ac nt1 (.tup [.int i,.int j]);have e3:=ac nl1 (.lst [.ref t1]);have k3:=g3.trans (e2.trans e3);refine (aJ ol l1 _ _ (rfl,rfl,k3 _ _ eo,ae,by rw[E1];simp;lia,λo no=>?_))
    have hO':=gY (ro.imp λa k q=>k3 _ _ q) (eE.one (k:= [i,j]) (a:=t1) (e3 _ _ ae)) no
    have e4:=ac no (.lst (bo.map V.ref++ [.ref t1]));refine (by show 2<=sizeLine;decide,λt2 nt2=>?_)
    have e5:=ac nt2 (.tup [.ref kl,.ref o]);have ge:=((e2.trans e3).trans e4).trans e5;refine (bU lc _ _ (rfl,rfl,ge _ _ ev,by lia,⟨ν⟩,dJ (g3.trans ge) nlc _,?_))
    rw[aW hj,ip,if_neg c1,<-Ez];have ne:∀{a:Addr} {ob:HO},H a=some ob->a≠lc:=λh z=>by rw[z,nlc] at h;cases h
    have nn:∀{Hx:Hp} {a:Addr},aE H3 Hx->Hx a=none->a≠lc:=λg h z=>by rw[z,g _ _ ev] at h;cases h
    have zn:∀a,Z a->a≠lc/\(H a=none∨Z a):=λa h=>⟨λz=>hZ a h (by rw[z];exact nlc),.inr h⟩
    have t1P:t1≠lc/\(H t1=none∨Z t1):=⟨λz=>(by rw[z,ev] at nt1;cases nt1),.inl (g3.free nt1)⟩
    refine cA.put (λh=>h.1 rfl) (rv.imp λ_ _ q=>de q ge) (bU t2 kl o (rfl,(λz=>(by rw[z,((e2.trans e3).trans e4) _ _ ev] at nt2;cases nt2),.inl ((g3.trans ((e2.trans e3).trans e4)).free nt2)),zn _ zk,(λz=>(by rw[z,(e2.trans e3) _ _ ev] at no;cases no),.inl ((g3.trans (e2.trans e3)).free no)),ae,(g3.trans ge) _ _ ek,_,e5 _ _ ae,?_))
    exact (rz.imp λ_ _ q=>ku (de q (g3.trans ge)) zn).append (.one (t1,rfl,t1P,((e3.trans e4).trans e5) _ _ ae))
   ·rintro σ H3 ⟨⟨o5,rfl⟩,g3,cn⟩;rw[E1,ES] at cn;exact ((av _ _ rfl),g3,by rw[aW hi,jP];exact cn)
  ·rintro σ H2 ⟨⟨o4,o5,rfl⟩,g2,cn⟩;rw[E1,ES] at cn;exact (ν,q _ _ g2 nlc cn)
theorem Cf {dV:Value} (F:bz K "_law_leaf" "_law_leaf" Ac dV f fd) (DZ49:Dx P w K mg base bt 2 "_law_total" ["_law_arcs","_law_chain"] [] md) (DZ53:Dx P w K mg base bt 2 "_law_work" ["_law_tasks","_law_case","_law_i","_law_name"] [] nO) (DZ54:Dx P w K mg base bt 2 "_law_front" ["_law_due_here","_law_cell","_law_i"] [] pK) (DZ55:Dx P w K mg base bt 2 "_law_back" ["_law_due_here","_law_cell","_law_i"] [] sJ) (DZ56:Dx P w K mg base bt 1 "_law_order" ["_law_many_here","_law_cell"] [] pO):bv P w K mg base bt 6 f fd ["_law_parts","_law_case","_law_due_here","_law_cell"] pZ:=by
 have sc:aF ["_law_parts","_law_case","_law_due_here","_law_cell","_law_i","_law_j","_law_ring","_law_total_here","_law_some","_law_name","_law_work_here","_law_fronts","_law_backs","_law_chain"] ["_law_parts","_law_case","_law_due_here","_law_cell"] (aw Ac):=dq 119
 and_intros
 ·obtain ⟨_,_,_,_,_,_,_,_,_,_,rfl,_⟩:=h
  rfl
 refine nM h λtp t dl x D T A ps n _hi=>?_
 refine eI _hi λc _hj=>?_
 refine eX _hj λ_r1 pc hD q=>?_
 clear h _hi _hj;subst _r1;exists _,(ah (aV PassesOwn.never rfl (aG (au aC (pv 1) af 117)) (cZ rfl (aL (cY 4 sc) (aL (cY 5 sc) cv))) (ah (cR 6 sc (@aM _ _ _ _ ((am bg af (pv 4))<*>((am aX (am bg af (pv 4)) af)<*>((am bg af (pv 5))<*>((am aX (am bg af (pv 5)) af)<*>ag)))))) (ah (cR 7 sc (bX DZ49 hr ((pv 2)<*>((am bH (pv 6) (aY bI (pv 6) bA (bj af)))<*>ag)))) (aj (aI (PW.pt (cy (ao bK (am aS (pv 3) af) af (aA _)) (cy (ao dY (pv 7) aR (aA _)) (bV (ao fP (pv 7) af (aA _)))))) (aj (aq (@aZ _ _ _ _ _ ((@aZ _ _ _ _ _ (bE<*>((pv 6)<*>ag)))<*>(aR<*>ag))))) ar))))) (ah (cR 8 sc (bX DZ56 hr ((aB ay rfl B.Ev boot_len (134<*>ag))<*>((am bh (pv 3) af)<*>ag)))) (ah (aI (PW.pt (cy (ao bK (am aS (pv 3) af) af (aA _)) (bV (ao (gO hr.units0) (pv 8) 138 (aA _))))) (ah (gj (i:=9) sc.nd rfl (Or.inr rfl) (au br (aB (oT rfl) rfl B.GD PyProof.Rows.Boot.«sorted» (134<*>ag)) (am aS (am bh (pv 3) af) af) 117)) (ah (cR 10 sc (aB (fW rfl) rfl B.Gx PyProof.Rows.Boot.«sum» ((bZ (own:= "_law_i") (ys:= ["_law_case","_law_name","_law_parts"]) (js:= [1,9,0]) rfl (cok (ie (ie (ie fR))) (.cons rfl (.cons rfl (.cons rfl .nil))) 118 rfl rfl rfl rfl rfl rfl rfl rfl) (aG (pv 8)) (λC fp s H=>(bX DZ53 hr ((au (bF (K:=K) rfl) (pv 3) af 117)<*>((pv 1)<*>((pv 0)<*>146))))))<*>ag))) (ah (fu (own:= "_law_i") (ys:= []) (js:= []) sc.nd (i:=11) rfl rfl rfl 130 (aG (pv 8)) (λC fp s H=>(@aM _ _ _ _ ((am bg af (pv 0))<*>ag)))) (ah (fu (own:= "_law_i") (ys:= []) (js:= []) sc.nd (i:=12) rfl rfl rfl 130 (aG (pv 8)) (λC fp s H=>(@aM _ _ _ _ ((am aX (am bg af (pv 0)) af)<*>ag)))) (aj (aq (@aZ _ _ _ _ _ ((@aZ _ _ _ _ _ (bE<*>((pv 9)<*>((pv 11)<*>((pv 12)<*>ag)))))<*>((am fL af (am bh (iS gq (pv 10)) (ic (gG hr) 134 (pv 9) 117)))<*>ag))))))))) ar) (ah (cR 4 sc (am aS (am bh (pv 3) af) (aB ay rfl B.Ev boot_len (134<*>ag)))) (ah (cR 13 sc (bX DZ54 hr ((pv 2)<*>((am bh (pv 3) af)<*>((pv 4)<*>ag))))) (ah (cR 13 sc (am bH (pv 13) (bX DZ55 hr ((pv 2)<*>((am bh (pv 3) af)<*>((pv 4)<*>ag)))))) (ah (aI (PW.pt (cy (ao bK (am aS (pv 3) af) af (aA _)) (bV (ao bK (am aS (am bh (pv 3) af) af) af (aA _))))) (aj (cR 13 sc 138)) ar) (aj (aq (@aZ _ _ _ _ _ ((@aZ _ _ _ _ _ (bE<*>((pv 13)<*>ag)))<*>((bX DZ49 hr ((pv 2)<*>((pv 13)<*>ag)))<*>ag))))))))))))
 try dsimp only[cxK]
 refine CC ?_;intro D' r7 r6 r5 r4 r3 r2 r1;sleep 0;refine gA pc.part.ex λtd tl la pl _hi=>?_
 refine eX _hi λetp etd hT _hj=>?_
 refine dk _hj λhA hP=>?_
 obtain ⟨vt,et,rT⟩:=id hT;have t4:=pc.t4;have t1:=pc.t1;have lv:=rT.1;have trF:=pc.trF;have l7:=pc.l7;have trK:=pc.trip;have n0:=pc.ok.n0;obtain ⟨kl,ol,ec,ek,bo,eo,ro⟩:=id pc.cs;have ot:=pc.cok.ord;have lbo:bo.length<=400:=by rw[ro.1];exact pc.cok.len
 try dsimp only[cg,cM]
 refine cut (λσ H'=>∃o4 o5 o6 o7:Option V,σ= [GV tp,GV t,GV dl,some (.int x),o4,o5,o6,o7,none,none,none,none,none,none]/\aE H H') (λN hN=>?_) ?_
 ·refine (ν,aJ t _ _ _ (rfl,rfl,be.of ec,rfl,ol,rfl,(_,aD.of eo),aU (xs:=bo.map V.ref) (λk σ H'=>∃o4 o5 o6 o7:Option V,σ= [GV tp,GV t,GV dl,some (.int x),o4,o5,o6,o7,none,none,none,none,none,none]/\aE H H') (aJ none none none none (rfl,.refl _)) (λk σ H' _ (_,_,_,_,_,g)=>aD.of (g _ _ eo)) ?_ (λσ H' h=>hN _ _ h)))
  rintro k y σ H1 hy ⟨o4,o5,o6,o7,rfl,g1⟩;obtain ⟨b,hb,rfl⟩:=cP hy;have il:k<c.2.length:=by rw[<-ro.1];exact (E6.mp hb).1
  have hk:=E2 il;have eb:=g1 _ _ (ro.2 k b _ hb hk);obtain ⟨i,j,e2,i0,i1,j0,j1⟩:=ot _ (EQ il);rw[e2] at eb;refine (av b _ (rfl,be.of eb,rfl,av _ _ (rfl,av _ _ (rfl,rfl,?_))));refine (ν,av _ _ (rfl,rfl,IntMulOk.of_left 118,ν,av _ _ (rfl,rfl,IntMulOk.of_left 118,av _ _ (rfl,rfl,ν,av _ _ (rfl,rfl,IntMulOk.of_left 118,ν,av _ _ (rfl,rfl,IntMulOk.of_left 118,av _ _ (rfl,rfl,by show 4<=sizeLine;decide,λlr nlr=>?_)))))))
  have gr:=ac nlr (.lst [.int (2*i),.int (2*i+1),.int (2*j),.int (2*j+1)]);have er:aH H1 lr (.lst [.int (2*i),.int (2*i+1),.int (2*j),.int (2*j+1)]) lr=some (.lst ([2*i,2*i+1,2*j,2*j+1].map V.int)):=ae;generalize aH H1 lr (.lst [.int (2*i),.int (2*i+1),.int (2*j),.int (2*j+1)])=H2 at gr er⊢;have g2:=g1.trans gr;have lrn:=g1.free nlr;refine (ν,ν,ν,ν,av lr _ (rfl,aD.of er,λp1 np1=>?_))
  have ct:fM ([2*i,2*i+1,2*j,2*j+1].map V.int) none (some 1)= [2*i].map V.int:=by
   rw[show (1:Int)=((1:Nat):Int) from rfl,cO 147]
   rfl
  rw[ct];have e1:=ac np1 (.lst ([2*i].map V.int));refine (aJ lr p1 _ _ (rfl,rfl,e1 _ _ er,ae,(by show 4+1<=sizeLine;lia),λp2 np2=>?_))
  have e2':=ac np2 (.lst ([2*i,2*i+1,2*j,2*j+1].map V.int++ [2*i].map V.int));have g4:=g2.trans (e1.trans e2');refine (aJ dl p2 ((fj T A c).map fb) ([2*i,2*i+1,2*j,2*j+1]++ [2*i]) (rfl,im (hD.same g4) trF,pP l7,by rw[ae,EU],(by show 5<=700;decide),λH5 g5=>?_))
  have g05:=g4.trans g5;have ring:gS ((fj T A c).map fb) [2*i,2*i+1,2*j,2*j+1]=dh ((fj T A c).map fb) ([2*i,2*i+1,2*j,2*j+1]++ [2*i]):=if_neg nofun;have er5:=((e1.trans e2').trans g5) _ _ er;have skip:∃o4 o5 o6 o7:Option V,[some (.ref tp),some (.ref t),some (.ref dl),some (.int x),some (V.int i),some (V.int j),some (.ref lr),some (oV (dh ((fj T A c).map fb) ([2*i,2*i+1,2*j,2*j+1]++ [2*i]))),none,none,none,none,none,none]= [some (.ref tp),some (.ref t),some (.ref dl),some (.int x),o4,o5,o6,o7,none,none,none,none,none,none]/\aE H H5:=(aJ _ _ _ _ ⟨rfl,g05⟩);refine (ν,av _ _ (rfl,rfl,(by show (4:Int)≠0;decide),rfl,ν,d2 (λ_=>?_) (λ_=>skip)))
  cases ho:dh ((fj T A c).map fb) ([2*i,2*i+1,2*j,2*j+1]++ [2*i]) with
  |none=>
   rw[ho] at skip;exact (ν,rfl,ν,nF rfl skip)
  |some v=>
   rw[ho] at skip;refine ⟨_,rfl,rfl,_,rfl,nT nofun ⟨_,rfl,av _ _ ⟨rfl,rfl,_,rfl,d2 (λvp=>?_) (λ_=>skip)⟩⟩⟩
   refine (ν,by show 2<=sizeLine;decide,λtr ntr=>(by show 2<=sizeLine;decide,λtq ntq=>?_))
   have e6:=ac ntr (.tup [.str "ring",.ref lr]);have e7:=ac ntq (.tup [.ref tr,.non]);refine q tq (.ref tr) none (.one "ring" [2*i,2*i+1,2*j,2*j+1]) _ (g05.trans (e6.trans e7)) ae (tr,rfl,g05.free ntr,lr,lrn,e7 _ _ ae,(e6.trans e7) _ _ er5) ((((.inr (.inl rfl),by simp),λw hw=>by cases hw),rfl,.inl (rfl,ν,?_)),(λz F G e=>by cases e),(λw C e=>by cases e;exact (by simp,λe=>absurd e 118)))
   have pt:cV 143 [2*i,2*i+1,2*j,2*j+1]=true:=q9 λp hp=>by
    simp only[EI,Ef,or_false] at hp;rcases hp with rfl|rfl|rfl|rfl<;>lia
   rw[pt,ring,ho,Eu];exact decide_eq_true vp
 rintro σ H1 ⟨o4,o5,o6,o7,rfl,g1⟩;refine (ν,aJ tp _ _ _ (rfl,rfl,be.of (g1 _ _ etp),rfl,av tl _ (rfl,.inl (aD.of (g1 _ _ et)),ν,av _ _ (rfl,rfl,140,av _ _ (rfl,by lia,by lia,λls S3 H2 g2 els s4 rg nd=>?_)))))
 rw[lv] at rg;have k2:=g1.trans g2;have hD2:=hD.same k2;try dsimp only[cg,cM]
 refine cut (λσ H'=>σ= [GV tp,GV t,GV dl,some (.int x),o4,o5,o6,o7,GV ls,none,none,none,none,none]/\aE H H') (λN hN=>?_) ?_
 ·refine (ν,av _ _ (rfl,rfl,(by show (4:Int)≠0;decide),rfl,ν,d2 (λ_=>?_) (λ_=>cu (hN _ _ (rfl,k2)))))
  refine (ν,by show 0<=sizeLine;decide,λle nle=>?_)
  have ge:=ac nle 142;refine (bU ls le _ (rfl,rfl,aD.of (ge _ _ els),aD.of ae,ν,?_));generalize aH H2 le 142=H3 at ge⊢;have k3:=k2.trans ge
  by_cases se:S3= []
  ·rw[se];exact cu (hN _ _ (rfl,k3))
  have re:(S3.map V.int).isEmpty=false:=by cases S3 with|nil=>exact absurd rfl se|cons _ _=>rfl
  have s1:1<=S3.length:=FU.mpr se;rw[re];clear hN;have els3:=ge _ _ els;have hD3:=hD2.same ge;refine cC (ν,aJ tp _ _ _ (rfl,rfl,be.of (k3 _ _ etp),rfl,bU td (D.map (·.1)) _ (rfl,k3 _ _ etd,wp,pc.ok.dnd,by rw[E1,pc.d2];decide,λln ys nln perm _=>?_)))
  have gl:=ac nln (.lst (ys.map V.str));have eln:aH H3 ln (.lst (ys.map V.str)) ln=some (.lst (ys.map V.str)):=ae;generalize aH H3 ln (.lst (ys.map V.str))=H4 at gl eln⊢;have ly:ys.length=2:=by rw[perm.length_eq,E1,pc.d2]
  have m2:=fm (a:=x.fdiv 7) (n:=2) 118
  have hz:=E2 (show ((x.fdiv 7).fmod 2).toNat<ys.length by lia)
  have az:iP (ys.map V.str) ((x.fdiv 7).fmod 2)=some (.str (ys[((x.fdiv 7).fmod 2).toNat]'(by lia))):=by
   have:=aT (dL (f:=V.str) hz)
   rwa [FV m2.1] at this
  obtain ⟨pz,pm,_,mz⟩:=pX pc.ok.dnd (perm.mem_iff.mp (E4 hz));obtain ⟨_,pz1,pz2⟩:=pc.ok.tool pz pm;refine (ν,av _ _ (rfl,rfl,140,av _ _ (rfl,rfl,(by show (2:Int)≠0;decide),aJ ln _ _ _ (rfl,rfl,aD.of eln,az,?_))))
  generalize ys[((x.fdiv 7).fmod 2).toNat]'(by lia)=z0 at mz
  have k4:=k3.trans gl;have els4:=gl _ _ els3;have hD4:=hD3.same gl;have pc4:=pc.same k4;clear hz az perm nln eln;refine (ν,ls,rfl,(_,aD.of els4),bJ (dW V.int) 145 (λk=>dS T c.1 (S3.getD k 0).toNat z0) (aD.of els4) (by rw[E1];lia) 136 (λk y hy H5 g5 Q' hQ=>?_) λlw H5 nlw g5 hw=>?_)
  ·rw[EB] at hy;obtain ⟨i,hi,rfl⟩:=E7.mp hy;obtain ⟨i0,i1⟩:=rg i (E4 hi);rw[bf hi] at hQ;have k5:=k4.trans g5;exact (ν,aJ tp _ _ _ (rfl,rfl,be.of (k5 _ _ etp),rfl,ν,ν,ν,fE tl t i.toNat z0 D T (c.1,(by rw[FV i0];rfl,(hT.same k5,(_,pc.cs.same k5),pc.cok.pk,pc.ok.ways),by lia,λH6 g6=>hQ _ _ g6 rfl))))
  obtain ⟨us,eu,ru⟩:=hw;rw[ru.val,E1] at eu;have ews:(EY S3.length).map (λk=>dS T c.1 (S3.getD k 0).toNat z0)=S3.map λi=>dS T c.1 i.toNat z0:=by
   conv=>rhs;rw[<-bO S3 0]
   rw[EH]
   rfl
  rw[ews] at eu;refine (av lw _ (rfl,aD.of eu,?_));have k5:=k4.trans g5;have els5:=g5 _ _ els4;have hD5:=hD4.same g5;generalize hws:(S3.map λi=>dS T c.1 i.toNat z0).sum=ws
  try dsimp only[cg,cM]
  refine cut (λσ H'=>∃lf,σ= [GV tp,GV t,GV dl,some (.int x),o4,o5,o6,o7,GV ls,some (.str z0),some (.int ws),GV lf,none,none]/\aE H5 H'/\H lf=none/\cA nQ (λa=>H a=none) H' lf (S3.map λi=> [2*i])) (λN hN=>?_) ?_
  ·refine (ν,ls,rfl,(_,aD.of els5),bJ nQ 145 (λk=> [2*S3.getD k 0]) (aD.of els5) (by rw[E1];lia) 136 (λj y hy H2 g2 Q' hQ=>?_) λlf H3 nlf glf hlf=>?_)
   ·rw[EB] at hy;obtain ⟨i,hi,rfl⟩:=E7.mp hy;rw[bf hi] at hQ;exact (ν,av _ _ (rfl,rfl,IntMulOk.of_left 118,by show 1<=sizeLine;decide,λp np=>hQ _ _ (ac np _) (jh (.inl np) ae)))
   rw[E1,map_two S3 λi=> [2*i]] at hlf
   exact hN _ _ (lf,rfl,glf,k5.free nlf,hlf.mono λa h=>k5.free (h.2.elim id False.elim))
  rintro σ H6 ⟨lf,rfl,g6,lfn,hF⟩;have k6:=k5.trans g6;have els6:=g6 _ _ els5;try dsimp only[cg,cM]
  refine cut (λσ H'=>∃lb,σ= [GV tp,GV t,GV dl,some (.int x),o4,o5,o6,o7,GV ls,some (.str z0),some (.int ws),GV lf,GV lb,none]/\aE H6 H'/\H lb=none/\cA nQ (λa=>H a=none) H' lb (S3.map λi=> [2*i+1])) (λN hN=>?_) ?_
  ·refine (ν,ls,rfl,(_,aD.of els6),bJ nQ 145 (λk=> [2*S3.getD k 0+1]) (aD.of els6) (by rw[E1];lia) 136 (λj y hy H2 g2 Q' hQ=>?_) λlf H3 nlf glf hlf=>?_)
   ·rw[EB] at hy;obtain ⟨i,hi,rfl⟩:=E7.mp hy;rw[bf hi] at hQ;exact (ν,av _ _ (rfl,rfl,IntMulOk.of_left 118,av _ _ (rfl,rfl,by show 1<=sizeLine;decide,λp np=>hQ _ _ (ac np _) (jh (.inl np) ae))))
   rw[E1,map_two S3 λi=> [2*i+1]] at hlf
   exact hN _ _ (lf,rfl,glf,k6.free nlf,hlf.mono λa h=>k6.free (h.2.elim id False.elim))
  rintro σ H7 ⟨lb,rfl,g7,lbn,hG⟩;have k9:=k6.trans g7;have hF7:=hF.same g7;refine (ν,ν,ν,by show 4<=sizeLine;decide,λtr ntr=>?_)
  have e10:=ac ntr (.tup [.str "full",.str z0,.ref lf,.ref lb]);have k10:=k9.trans e10;refine (ν,ν,ν,aJ tp _ _ _ (rfl,rfl,be.of (k10 _ _ etp),rfl,ν,av td _ (rfl,jD (.inl (k10 _ _ etd)) mz,av _ _ (rfl,rfl,(by lia,EE (by lia)),av _ _ (rfl,rfl,by show 2<=sizeLine;decide,λtq ntq=>?_)))))
  have e11:=ac ntq (.tup [.ref tr,.int (0-(-ws).fdiv pz.2)]);have kk:=e10.trans e11;have ms:∀f:Int->List Int,(∀i,(f i).length=1)->∀x∈S3.map f,x.length<=30:=λf hf x hx=>by
   obtain ⟨i,_,rfl⟩:=EO.mp hx;rw[hf]
   decide
  refine q tq (.ref tr) (some (0-(-ws).fdiv pz.2)) (.full z0 (S3.map λi=> [2*i]) (S3.map λi=> [2*i+1])) _ (k10.trans e11) ae (tr,rfl,k9.free ntr,av lf lb (lfn,lbn,e11 _ _ ae,hF7.same kk,hG.same kk)) ((((by rw[E1];lia,by rw[E1];lia,ms _ λ_=>rfl,ms _ λ_=>rfl),λw hw=>by cases hw),rfl,.inr (ν,trivial,?_)),(λz F G e=>by cases e;exact (av S3 pz.2 (mz,se,nd,s4,rg,rfl,rfl))),(λw C e=>by cases e))
  show iN D T c.1 ((fj T A c).map fb) 143 z0 _ _=_;rw[p8 mz se nd rg (by lia),hws]
  congr 1
  lia
 rintro σ H3 ⟨rfl,k3⟩;have hD3:=hD.same k3;refine (ν,av _ _ (rfl,rfl,140,ν,aJ tp _ _ _ (rfl,rfl,be.of (k3 _ _ etp),rfl,av tl _ (rfl,.inl (aD.of (k3 _ _ et)),?_))))
 rw[lv];have mi:=fm (a:=x.fdiv 4) (n:=120) (by lia)
 refine (av _ _ (rfl,rfl,by lia,?_))
 dsimp only;obtain ⟨i,hi⟩:∃i:Nat,(x.fdiv 4).fmod (T.length:Int)=(i:Int):=⟨((x.fdiv 4).fmod 120).toNat,by lia⟩
 rw[hi] at mi⊢;refine (ν,ν,av _ _ (rfl,rfl,140,ν,aJ dl _ i _ (_,(rfl,hD3,trK,by lia,λl1 C1 H4 nl1 g4 el1 c14 sh1 pt1 ai1=>?_))))
 have hD4:=hD3.same g4;refine (ν,ν,ν,av _ _ (rfl,rfl,140,ν,aJ dl _ i _ (_,(rfl,hD4,trK,by lia,λl2 C2 H5 nl2 g5 el2 c24 sh2 pt2 ai2=>(aJ l1 l2 _ _ (rfl,rfl,g5 _ _ el1,el2,by rw[E1,E1];lia,λlc nlc=>?_))))))
 have gc:=ac nlc (.lst (C1.map V.int++C2.map V.int));have elc:aH H5 lc (.lst (C1.map V.int++C2.map V.int)) lc=some (.lst ((C1++C2).map V.int)):=by rw[ae,EU]
 have lcn:H lc=none:=(k3.trans (g4.trans g5)).free nlc;generalize aH H5 lc (.lst (C1.map V.int++C2.map V.int))=H6 at gc elc⊢;have k6:=k3.trans ((g4.trans g5).trans gc);obtain ⟨tt,ett⟩:∃tt,dh ((fj T A c).map fb) (C1++C2)=some tt:=by
  obtain ⟨D1,rfl⟩:=sh1;obtain ⟨D2,rfl⟩:=sh2;exact pN (mH (wo (by lia)) ai2 ai1)
 have ptc:cV 143 (C1++C2)=true:=q9 λp hp=>by
  rcases EJ.mp hp with h|h
  ·exact pt1 p h
  ·exact pt2 p h
 have lC:(C1++C2).length<=8:=by rw[E3];lia
 generalize C1++C2=C0 at elc ett ptc lC;try dsimp only[cg,cM]
 refine cut (λσ H'=>∃(lc:Addr) (C:List Int) (tt:Int),σ= [GV tp,GV t,GV dl,some (.int x),some (.int (i:Int)),o5,o6,o7,GV ls,none,none,none,none,GV lc]/\aE H H'/\H lc=none/\H' lc=some (.lst (C.map V.int))/\C.length<=8/\cV 143 C=true/\dh ((fj T A c).map fb) C=some tt) (λN hN=>?_) ?_
 ·have keep:=hN _ _ (bU lc C0 tt ⟨rfl,k6,lcn,elc,lC,ptc,ett⟩);refine (ν,av _ _ (rfl,rfl,(by show (4:Int)≠0;decide),rfl,ν,d2 (λ_=>(ν,av _ _ (rfl,rfl,140,av _ _ (rfl,rfl,(by show (3:Int)≠0;decide),rfl,ν,d2 (λ_=>?_) (λ_=>keep))))) (λ_=>cu keep)))
  refine (by show 0<=sizeLine;decide,λle nle=>hN _ _ (bU le [] 0 (rfl,k6.trans (ac nle _),k6.free nle,ae,by simp,rfl,rfl)))
 intro σ H7 h_;refine kB h_ λlc C tt _hi=>?_
 refine gB _hi λ_r1 k7 lcn elc lC _hj=>?_
 refine dk _hj λptc ett=>?_
 clear h_ _hi _hj;subst _r1;refine (ν,by show 2<=sizeLine;decide,λtr ntr=>?_)
 have e8:=ac ntr (.tup [.str "chain",.ref lc]);refine (ν,ν,aJ dl lc ((fj T A c).map fb) C (rfl,im (hD.same (k7.trans e8)) trF,pP l7,e8 _ _ elc,by lia,λH9 g9=>?_))
 rw[ett];refine (by show 2<=sizeLine;decide,λtq ntq=>?_)
 have e10:=ac ntq (.tup [.ref tr,.int tt]);refine q tq (.ref tr) (some tt) (.one "chain" C) _ (k7.trans (e8.trans (g9.trans e10))) ae (tr,rfl,k7.free ntr,lc,lcn,(g9.trans e10) _ _ ae,(e8.trans (g9.trans e10)) _ _ elc) ((((.inl rfl,by lia),λw hw=>by cases hw),rfl,.inr (tt,rfl,(show ("chain" :Str)≠ "ring" by decide),?_)),(λz F G e=>by cases e),(λw C e=>by cases e;exact (by lia,λe=>absurd e 118)))
 rw[fK,if_pos ptc];exact ett
theorem Cg {dV:Value} (F:bz K "_law_paper" "_law_paper" Ad dV f fd) (DZ51:Dx P w K mg base bt 2 "_law_due" ["_law_arcs","_law_tasks","_law_case"] [] qY) (DZ61:Dx P w K mg base bt 5 "_law_inner" ["_law_parts","_law_case","_law_cell"] [] sT) (DZ62:Dx P w K mg base bt 1 "_law_cases" ["_law_case","_law_row"] [] kL) (DZ63:Dx P w K mg base bt 6 "_law_leaf" ["_law_parts","_law_case","_law_due_here","_law_cell"] [] pZ):bv P w K mg base bt 7 f fd ["_law_parts","_law_cells"] mL:=by
 have sc:aF ["_law_parts","_law_cells","_law_paper_here","_law_totals","_law_pile","_law_room","_law_cell","_law_case","_law_row","_law_due_here","_law_total_here"] ["_law_parts","_law_cells"] (aw Ad):=dq 119
 and_intros
 ·obtain ⟨_,_,_,_,_,_,_,_,rfl,_⟩:=h
  rfl
 refine gi h λtp lc cs D T A _hi=>?_
 refine pw _hi λps n _hj=>?_
 refine eX _hj λ_r1 st ec _hk=>?_
 refine dk _hk λc63 q=>?_
 clear h _hi _hj _hk;subst _r1;exists _,(ah (cR 2 sc 138) (ah (cR 3 sc 138) (ah (cR 4 sc (@aM _ _ _ _ ((@aZ _ _ _ _ _ ((bZ (own:= "_law_task") (ys:= []) (js:= []) rfl 130 (aG 134) (λC fp s H=>aR))<*>(138<*>ag)))<*>ag))) (ah (cR 5 sc af) (ah (aV PassesOwn.never rfl (aG (pv 1)) (cY 6 sc) (ah (aI (ao (fU hr.units0) (pv 4) 138 (aA _)) (aj uP) ar) (ah (cR 7 sc (ka EM PySem.F.slot_list_pop PySem.F.type_list_pop qx (pv 4))) (ah (cR 8 sc aR) (ah (aI (PW.pt (cy (ao fP (pv 5) af (aA _)) (bV (ao eT (am aS (pv 6) af) af (aA _))))) (aj (cR 8 sc (bX DZ61 hr ((pv 0)<*>((pv 7)<*>((am bh (pv 6) af)<*>ag)))))) ar) (ah (aI (ao fc (pv 8) aR (aA _)) (ah (cR 9 sc (bX DZ51 hr (134<*>(134<*>((pv 7)<*>ag))))) (ah (j7 (bX DZ63 hr ((pv 0)<*>((pv 7)<*>((pv 9)<*>((am bh (pv 6) af)<*>ag))))) (cZ rfl (aL (cY 8 sc) (aL (cY 10 sc) cv)))) (aj (aI (ao dY (pv 10) aR (aA _)) (aj (bW (dQ EM EX EW bw (pv 3) ((pv 10)<*>ag)))) ar)))) (ah (cR 5 sc (am fL (pv 5) af)) (aj (bW (dQ EM PySem.F.slot_list_extend PySem.F.type_list_extend jp (pv 4) ((gu rfl rfl B.Gc rfl B.Gg boot_list PyProof.Rows.Boot.«reversed» (bX DZ62 hr ((pv 7)<*>((pv 8)<*>ag))))<*>ag)))))) (aj (bW (dQ EM EX EW bw (pv 2) ((pv 8)<*>ag)))))))))) (ah (aV PassesOwn.never rfl (aG (pv 4)) (cY 7 sc) (ah (bW (dQ EM EX EW bw (pv 2) ((@aZ _ _ _ _ _ (bE<*>(138<*>ag)))<*>ag))) (aj (bW (dQ EM EX EW bw (pv 3) (af<*>ag)))))) (aj (aq (@aZ _ _ _ _ _ ((pv 2)<*>((pv 3)<*>ag)))))))))))
 try dsimp only[cxK]
 refine D6 ?_;intro D' r6 r5 r4 r3 r2 r1;sleep 0;refine gA st.part.ex λtd tl la pl _hi=>?_
 refine eX _hi λetp etd hT _hj=>?_
 refine dk _hj λhA hP=>?_
 obtain ⟨vt,et,rT⟩:=id hT;have t4:=st.t4;have lv:=rT.1;refine (by show 0<=sizeLine;decide,λlp nlp=>?_)
 have g1:=ac nlp 142;have ep1:aH H lp 142 lp=some (.lst []):=ae;generalize aH H lp 142=H1 at g1 ep1⊢;refine (by show 0<=sizeLine;decide,λlt nlt=>?_)
 have g2:=ac nlt 142;have et2:aH H1 lt 142 lt=some (.lst []):=ae;generalize aH H1 lt 142=H2 at g2 et2⊢;have ep2:=g2 _ _ ep1;have k2:=g1.trans g2;refine (ν,aJ tp _ _ _ (rfl,rfl,be.of (k2 _ _ etp),rfl,tl,rfl,(_,aD.of (k2 _ _ et)),bJ (dW gy) 145 (λ_=>none) (aD.of (k2 _ _ et)) (by lia) 136 (λi y hy H3 g3 Q' hQ=>hQ _ _ 148 rfl) λkl H3 nkl g3 hk=>?_))
 obtain ⟨us,ek,rk⟩:=hk;rw[rk.val,lv] at ek;refine (by show 0<=sizeLine;decide,λol nol=>(by show 2<=sizeLine;decide,λt0 nt0=>(by show 1<=sizeLine;decide,λlq nlq=>?_)))
 have e4:=ac nol 142;have e5:=ac nt0 (.tup [.ref kl,.ref ol]);have e6:=ac nlq (.lst [.ref t0]);have k6:=k2.trans (g3.trans ((e4.trans e5).trans e6));have ep6:=(g3.trans ((e4.trans e5).trans e6)) _ _ ep2;have et6:=(g3.trans ((e4.trans e5).trans e6)) _ _ et2;have ek6:=((e4.trans e5).trans e6) _ _ ek;have eol6:aH (aH (aH H3 ol 142) t0 (.tup [.ref kl,.ref ol])) lq (.lst [.ref t0]) ol=some (.lst []):=(e5.trans e6) _ _ ae;have et06:aH (aH (aH H3 ol 142) t0 (.tup [.ref kl,.ref ol])) lq (.lst [.ref t0]) t0=some (.tup [.ref kl,.ref ol]):=e6 _ _ ae;have eq6:aH (aH (aH H3 ol 142) t0 (.tup [.ref kl,.ref ol])) lq (.lst [.ref t0]) lq=some (.lst [.ref t0]):=ae;have pt:lp≠lt:=λz=>by rw[<-z,ep1] at nlt;cases nlt
 have qp:lq≠lp:=λz=>by rw[z,(g3.trans (e4.trans e5)) _ _ ep2] at nlq;cases nlq
 have qt:lq≠lt:=λz=>by rw[z,(g3.trans (e4.trans e5)) _ _ et2] at nlq;cases nlq
 have pn:H lp=none:=nlp;have tn:H lt=none:=g1.free nlt;have qn:H lq=none:=(k2.trans (g3.trans (e4.trans e5))).free nlq;have Pkl:kl≠lp/\kl≠lt/\kl≠lq:=⟨λz=>(by rw[z,ep2] at nkl;cases nkl),λz=>(by rw[z,et2] at nkl;cases nkl),λz=>(by rw[<-z,(e4.trans e5) _ _ ek] at nlq;cases nlq)⟩
 have Pol:ol≠lp/\ol≠lt/\ol≠lq:=⟨λz=>(by rw[z,g3 _ _ ep2] at nol;cases nol),λz=>(by rw[z,g3 _ _ et2] at nol;cases nol),λz=>(by rw[<-z,e5 _ _ ae] at nlq;cases nlq)⟩
 generalize aH (aH (aH H3 ol 142) t0 (.tup [.ref kl,.ref ol])) lq (.lst [.ref t0])=H6 at k6 ep6 et6 ek6 eol6 et06 eq6⊢;have Pt0:t0≠lp/\t0≠lt/\t0≠lq:=⟨λz=>(by rw[z,ep6] at et06;cases et06),λz=>(by rw[z,et6] at et06;cases et06),λz=>(by rw[z,eq6] at et06;cases et06)⟩
 have hq0:cA cX (λa=>a≠lp/\a≠lt/\a≠lq) H6 lq (dE T).reverse:=⟨_,eq6,A2.one (bU t0 kl ol ⟨rfl,Pt0,Pkl,Pol,et06,ek6,_,eol6,A2.nil⟩)⟩
 have hp0:cA iq (λa=>a≠lp/\a≠lt/\a≠lq) H6 lp []:=⟨_,ep6,A2.nil⟩
 clear Pkl Pol Pt0 ek6 eol6 et06 eq6 ep6 nlp nlt nlq nol nt0 nkl e4 e5 e6 g3 g2 g1 k2 ep1 ep2 et2 ek rk;obtain ⟨P,hPd⟩:∃P:Addr->Prop,P=λa=>a≠lp/\a≠lt/\a≠lq:=⟨_,rfl⟩
 have nPp:¬P lp:=λz=>by rw[hPd] at z;exact z.1 rfl
 have nPt:¬P lt:=λz=>by rw[hPd] at z;exact z.2.1 rfl
 have nPq:¬P lq:=λz=>by rw[hPd] at z;exact z.2.2 rfl
 have newP:∀(G:Hp) (xs ys zs:List V),G lp=some (.lst xs)->G lt=some (.lst ys)->G lq=some (.lst zs)->∀a,G a=none->P a:=λG xs ys zs h1 h2 h3 a ha=>by
  rw[hPd];exact (λz=>(by rw[z,h1] at ha;cases ha),λz=>(by rw[z,h2] at ha;cases ha),λz=>(by rw[z,h3] at ha;cases ha))
 rw[<-hPd] at hq0 hp0;try dsimp only[cg,cM]
 refine cut (λσ H'=>σ= [GV tp,GV lc,GV lp,GV lt,GV lq,some (.int 4),none,none,none,none,none]/\H6=H') (λN hN=>hN _ _ (rfl,rfl)) ?_
 rintro σ _ ⟨rfl,rfl⟩;try dsimp only[cg,cM]
 refine cut (λσ H'=>∃(o5 o6 o7 o8 o9 o10:Option V) (m:Nat) (rs:List c6) (ts:List Int) (pq:Cs),σ= [GV tp,GV lc,GV lp,GV lt,GV lq,o5,o6,o7,o8,o9,o10]/\aE H H'/\cA iq P H' lp rs/\H' lt=some (.lst (ts.map V.int))/\cA cX P H' lq pq.reverse/\gI D T A (bn ps) n m rs ts pq/\rs.length<=63/\ts.length<=63/\m<=4) (λN hN=>?_) ?_
 ·refine (ν,lc,rfl,(_,aD.of (k6 _ _ ec)),aU (xs:=cs.map V.int) (λk σ H'=>∃(o6 o7 o8 o9 o10:Option V) (m:Nat) (rs:List c6) (ts:List Int) (pq:Cs),σ= [GV tp,GV lc,GV lp,GV lt,GV lq,some (.int (4-(m:Int))),o6,o7,o8,o9,o10]/\aE H H'/\cA iq P H' lp rs/\H' lt=some (.lst (ts.map V.int))/\cA cX P H' lq pq.reverse/\gI D T A (bn ps) n m rs ts pq/\rs.length<=k/\ts.length<=k/\m<=4) (iQ none none none none none 0 [] [] _ (rfl,k6,hp0,et6,hq0,.nil,E8 _,E8 _,by decide)) (λk σ H' _ (_,_,_,_,_,_,_,_,_,_,g,_)=>aD.of (g _ _ ec)) ?_ ?_)
  ·intro k y σ H7 hy h_;refine nM h_ λo6 o7 o8 o9 o10 m rs ts pq _hi=>?_
   refine qe _hi λ_r1 g7 _r2 elt _r3 pap rl tlm m4=>?_
   clear h_ _hi;subst _r1;obtain ⟨vp,ep,rp⟩:=_r2;obtain ⟨vq,eq',rq⟩:=_r3;have kl':k<cs.length:=by have:=(E6.mp hy).1;rw[E1] at this;exact this
   rw[EB] at hy;obtain ⟨x,hx,rfl⟩:=E7.mp hy;obtain ⟨okr,okm,okl,okc⟩:=rH pap.p;have lvq:=rq.1;rw[Ek] at lvq;refine (ν,by show 0<=sizeLine;decide,λle nle=>?_)
   have ge:=ac nle 142;refine (bU lq le _ (rfl,rfl,aD.of (ge _ _ eq'),aD.of ae,ν,?_));generalize aH H7 le 142=H8 at ge⊢;replace ep:=ge _ _ ep;replace elt:=ge _ _ elt;replace eq':=ge _ _ eq';replace rp:=rp.imp λ_ _ q=>de q ge
   replace rq:=rq.imp λ_ _ q=>de q ge
   replace g7:=g7.trans ge;clear ge nle
   match pq,rq,lvq,pap,okl,okc with
   | [],rq,lvq,pap,okl,okc=>
    have:vq= []:=EV lvq;subst this;exact cC (hN _ _ (iQ _ _ _ _ _ _ m rs ts ([],(rfl,g7,(vp,ep,rp),elt,(_,eq',rq),pap,by lia,by lia,m4))))
   |c::p0,rq,lvq,pap,okl,okc=>
   rw[List.reverse_cons] at rq;obtain ⟨us0,u,rfl,ru,rl0⟩:=rq.unsnoc;have re:(us0++ [u]).isEmpty=false:=by cases us0<;>rfl
   rw[re];refine cu (ν,.inl (rfl,_,aD.of eq'),bU lq _ u (rfl,rfl,eq',by simp,?_))
   rw[List.dropLast_concat];have ep8:aH H8 lq (.lst us0) lp=some (.lst vp):=by rw[aK (λz=>qp z.symm)];exact ep
   have et8:aH H8 lq (.lst us0) lt=some (.lst (ts.map V.int)):=by rw[aK (λz=>qt z.symm)];exact elt
   have eq8:aH H8 lq (.lst us0) lq=some (.lst us0):=ae;have g8:=dJ g7 qn (.lst us0);have rp8:=rp.imp λ_ _ q=>kY q nPq (.lst us0)
   have ru8:=kY ru nPq (.lst us0);have rl8:=rl0.imp λ_ _ q=>kY q nPq (.lst us0)
   generalize aH H8 lq (.lst us0)=H9 at ep8 et8 eq8 g8 rp8 ru8 rl8⊢;clear ep elt eq' rp rq rl0 ru g7;obtain ⟨tc,rfl,hcs⟩:=cX.case ru8;have cok:kQ T 400 c:=(okc c Ej).mono (by lia)
   rw[ER] at okl;have B0:True:=trivial;try dsimp only[cg,cM]
   refine cut (λσ H'=>σ= [GV tp,GV lc,GV lp,GV lt,GV lq,some (.int (4-(m:Int))),some (.int x),GV tc,some .non,o9,o10]/\H9=H') (λN' hN'=>hN' _ _ (rfl,rfl)) ?_
   rintro σ _ ⟨rfl,rfl⟩;try dsimp only[cg,cM]
   refine cut (λσ H'=>∃v:V,σ= [GV tp,GV lc,GV lp,GV lt,GV lq,some (.int (4-(m:Int))),some (.int x),GV tc,some v,o9,o10]/\aE H9 H'/\(v= .non∨∃r,m<4/\iq P H' v r/\Bg D T (bn ps) c r)) (λN' hN'=>?_) ?_
   ·have miss:=hN' _ _ ⟨.non,rfl,.refl _,.inl rfl⟩;refine (ν,av _ _ (rfl,rfl,ν,d2 (λm0=>?_) (λ_=>cu miss)))
    refine (ν,av _ _ (rfl,rfl,(by show (3:Int)≠0;decide),rfl,ν,n2 (λ_=>?_) (λ_=>miss)))
    refine (ν,ν,ν,av _ _ (rfl,rfl,140,iQ tp tc _ D T A ps n c (rfl,(st.same g8).pc hcs cok,λv H10 g10 hv=>hN' _ _ (v,rfl,g10,?_))))
    rcases hv with hv|⟨r,hr',inn⟩
    ·exact .inl hv
    ·exact .inr (r,by lia,ku hr' (newP _ _ _ _ ep8 et8 eq8),inn)
   rintro σ H10 ⟨v,rfl,g10,hv⟩;have g010:=g8.trans g10;try dsimp only[cg,cM]
   refine cut (λσ H'=>∃(o9 o10:Option V) (v:V) (r:c6) (m':Nat) (ts':List Int) (pq':Cs),σ= [GV tp,GV lc,GV lp,GV lt,GV lq,some (.int (4-(m':Int))),some (.int x),GV tc,some v,o9,o10]/\aE H H'/\iq P H' v r/\H' lp=some (.lst vp)/\A2 (iq P H') vp rs/\H' lt=some (.lst (ts'.map V.int))/\cA cX P H' lq pq'.reverse/\gI D T A (bn ps) n m' (rs++ [r]) ts' pq'/\ts'.length<=k+1/\m'<=4) (λN' hN'=>?_) ?_
   ·rcases hv with rfl|⟨r,m5,hr',⟨okr',w,hw,rt⟩⟩
    ·have st10:=st.same g010;have pc10:=st10.pc (hcs.same g10) cok;refine (ν,rfl,ν,dT rfl (ν,aJ tp _ _ _ (rfl,rfl,be.of (g010 _ _ etp),rfl,ν,aJ tp _ _ _ (rfl,rfl,be.of (g010 _ _ etp),rfl,ν,fE la tl tc A D T (av c.1 c.2 (rfl,hA.same g010,by have:=st.a63;lia,hT.same g010,st.ok.t24,hcs.same g10,cok.pk,st.ok.ways,cok.pairs 118,λdl H11 g11 hD=>?_))))))
     have pc11:=pc10.same g11;refine (ν,ν,ν,ν,av _ _ (rfl,rfl,140,iQ tp tc dl _ D T A ps n (c,(rfl,pc11,hD,λtq v o r H12 g12 etq hr' lf=>(av tq _ (rfl,be.of etq,rfl,av _ _ (rfl,av _ _ (rfl,rfl,?_))))))))
     have g912:=(g10.trans g11).trans g12;have hrP:iq P H12 v r:=ku hr' (newP _ _ _ _ ((g10.trans g11) _ _ ep8) ((g10.trans g11) _ _ et8) ((g10.trans g11) _ _ eq8));have pap':=gI.leaf pap lf;cases o with
     |none=>
      rw[show (none:Option Int).toList= [] from rfl,FG] at pap'
      exact (ν,rfl,ν,nF rfl (hN' _ _ (fE _ _ v r m ts (p0,(rfl,g8.trans g912,hrP,g912 _ _ ep8,rp8.imp λ_ _ q=>de q g912,g912 _ _ et8,(us0,g912 _ _ eq8,rl8.imp λ_ _ q=>de q g912),pap',by lia,m4)))))
     |some tv=>
      have e12:=g912 _ _ et8;refine ⟨_,rfl,rfl,_,rfl,nT nofun ⟨_,rfl,.inl ⟨rfl,_,aD.of e12⟩,_,rfl,bU lt _ _ ⟨rfl,rfl,e12,by rw[E1];lia,hN' _ _ (fE _ _ v r m (ts++ [tv]) ⟨p0,⟨rfl,dJ (g8.trans g912) tn _,kY hrP nPt _,by rw[aK pt];exact g912 _ _ ep8,rp8.imp λ_ _ q=>kY (de q g912) nPt _,by rw[ae,EU];rfl,⟨us0,by rw[aK qt];exact g912 _ _ eq8,rl8.imp λ_ _ q=>kY (de q g912) nPt _⟩,pap',by rw[E3];show _+1<=_;lia,m4⟩⟩)⟩⟩⟩
    ·obtain ⟨tr,rfl,ra⟩:=hr'.row;refine ⟨_,rfl,rfl,_,rfl,dF nofun ⟨_,rfl,av _ _ ⟨rfl,rfl,?_⟩⟩⟩;have okw:=okr'.2 w hw;have rgw:∀i,w= .ways i->0<=i/\i<(c.1.length:Int):=λi hi=>by
      subst hi;exact xL cok.pk.len rt
     refine (ν,.inl (rfl,_,aD.of (g10 _ _ eq8)),ν,ν,fE tc tr w c.1 c.2 P (rfl,de ru8 g10,cok.pairs 118,by rw[cok.pk.len];exact st.ok.t24,sQ ra hw,okw,rgw,λl H11 g11 nl hl=>?_))
     obtain ⟨vl,el,rl'⟩:=hl;refine (av l _ (rfl,aD.of el,λlr nlr=>?_))
     have g12:=ac nlr (.lst vl.reverse);have g912:=(g10.trans g11).trans g12;have lcs:=fZ (P:=c.1) (O:=c.2) okw;have lvl:=rl'.1;have lus:=rl8.1;rw[Ek] at lus;refine (aJ lq lr _ _ (rfl,rfl,g912 _ _ eq8,ae,by rw[Ek];lia,?_))
     have pap':=gI.inn pap okr' hw rt;have mm:(4:Int)-(m:Int)-1=4-((m+1:Nat):Int):=by lia
     refine hN' _ _ (fE _ _ (.ref tr) r (m+1) ts (dD c.1 c.2 w++p0,(by rw[<-mm];rfl,dJ (g8.trans g912) qn _,kY (de hr' (g11.trans g12)) nPq _,by rw[aK (λz=>qp z.symm)];exact g912 _ _ ep8,rp8.imp λ_ _ q=>kY (de q g912) nPq _,by rw[aK (λz=>qt z.symm)];exact g912 _ _ et8,?_,pap',by lia,by lia)))
     rw[List.reverse_append];refine cA.ext nPq (rl8.imp λ_ _ q=>de q g912) ((rl'.imp λ_ _ q=>ku (de q g12) λa h=>?_).rev)
     rcases h.2 with h|h
     ·exact newP _ _ _ _ (g10 _ _ ep8) (g10 _ _ et8) (g10 _ _ eq8) a h
     ·exact h
   intro σ H11 h_;refine gi h_ λo9 o10 v r m' ts' _hi=>?_
   refine eI _hi λpq' _hj=>?_
   refine qe _hj λ_r1 g11 hr' ep11 rp11 et11 _r2 pap' _hk=>?_
   refine dk _hk λtl' m4'=>?_
   clear h_ _hi _hj _hk;subst _r1;obtain ⟨vq,eq11,rq11⟩:=_r2;have lvp:=rp11.1;refine (ν,.inl (rfl,_,aD.of ep11),ν,bU lp _ _ (rfl,rfl,ep11,by lia,?_))
   exact (iQ _ _ _ _ _ m' (rs++ [r]) ts' pq' (rfl,dJ g11 pn _,cA.put nPp rp11 hr',by rw[aK (λz=>pt z.symm)];exact et11,(vq,by rw[aK qp];exact eq11,rq11.imp λ_ _ q=>kY q nPp _),pap',by rw[E3];show _+1<=_;lia,tl',m4'))
  ·intro σ H7 h_;refine nM h_ λo6 o7 o8 o9 o10 m rs ts pq _hi=>?_
   refine qe _hi λ_r1 g7 h1 h2 h3 pap rl tlm m4=>?_
   clear h_ _hi;subst _r1;rw[E1] at rl tlm;exact hN _ _ (iQ _ _ _ _ _ _ m rs ts (pq,(rfl,g7,h1,h2,h3,pap,by lia,by lia,m4)))
 intro σ H7 h_;refine nM h_ λo5 o6 o7 o8 o9 o10 m rs ts _hi=>?_
 refine eI _hi λpq _hj=>?_
 refine qe _hj λ_r1 g7 h1 h2 _r2 pap rl tlm m4=>?_
 clear h_ _hi _hj;subst _r1;obtain ⟨vq,eq7,rq⟩:=_r2;obtain ⟨okr,okm,okl,okc⟩:=rH pap.p;have lvq:=rq.1;rw[Ek] at lvq;refine (ν,lq,rfl,(_,aD.of eq7),aU (xs:=vq) (λk σ H'=>∃o7:Option V,σ= [GV tp,GV lc,GV lp,GV lt,GV lq,o5,o6,o7,o8,o9,o10]/\aE H H'/\H' lq=some (.lst vq)/\cA iq P H' lp (rs++Fq k (.one "chain" []))/\H' lt=some (.lst ((ts++Fq k 0).map V.int))) (o7,rfl,g7,eq7,by simpa using h1,by simpa using h2) (λk σ H' _ (_,_,_,e,_)=>aD.of e) ?_ ?_)
 ·rintro k y σ H8 hy ⟨o7,rfl,g8,eq8,⟨vp,ep,rp⟩,elt⟩;have kq:=(E6.mp hy).1;have lvp:=rp.1;rw[E3,Fo] at lvp;refine (ν,.inl (rfl,_,aD.of ep),by show 0<=sizeLine;decide,λc0 nc0=>(by show 2<=sizeLine;decide,λtr ntr=>?_))
  have e9:=ac nc0 142;have e10:=ac ntr (.tup [.str "chain",.ref c0]);have ge:=e9.trans e10;have ec10:aH (aH H8 c0 142) tr (.tup [.str "chain",.ref c0]) c0=some (.lst []):=e10 _ _ ae;have etr:aH (aH H8 c0 142) tr (.tup [.str "chain",.ref c0]) tr=some (.tup [.str "chain",.ref c0]):=ae;have c0P:=newP _ _ _ _ ep elt eq8 c0 nc0;have trP:=newP _ _ _ _ ep elt eq8 tr (e9.free ntr);generalize aH (aH H8 c0 142) tr (.tup [.str "chain",.ref c0])=H9 at ge ec10 etr⊢;refine (bU lp _ _ (rfl,rfl,ge _ _ ep,by lia,?_))
  have rw9:iq P H9 (.ref tr) (.one "chain" []):=⟨tr,rfl,trP,c0,c0P,etr,ec10⟩;have hp:=cA.put nPp (rp.imp λ_ _ q=>de q ge) rw9
  have et10:aH H9 lp (.lst (vp++ [.ref tr])) lt=some (.lst ((ts++Fq k 0).map V.int)):=by rw[aK (λz=>pt z.symm)];exact ge _ _ elt
  have eq10:aH H9 lp (.lst (vp++ [.ref tr])) lq=some (.lst vq):=by rw[aK qp];exact ge _ _ eq8
  have g10:=dJ (g8.trans ge) pn (.lst (vp++ [.ref tr]));generalize aH H9 lp (.lst (vp++ [.ref tr]))=H10 at hp et10 eq10 g10⊢;refine (ν,.inl (rfl,_,aD.of et10),bU lt _ _ (rfl,rfl,et10,by rw[E1,E3,Fo];lia,(ν,dJ g10 tn _,by rw[aK qt];exact eq10,?_,?_)))
  ·rw[List.replicate_succ',<-Ez];exact hp.upd nPt pt _
  ·rw[ae,List.replicate_succ',<-Ez,EU (l₁:=ts++Fq k 0)]
   rfl
 ·rintro σ H8 ⟨o7,rfl,g8,eq8,hp,elt⟩;refine (ν,ν,by show 2<=sizeLine;decide,λtq ntq=>?_)
  have e9:=ac ntq (.tup [.ref lp,.ref lt]);have pap':=mK pap vq.length (by lia)
  rw[List.drop_eq_nil_of_le (by lia)] at pap'
  exact q tq lp lt m _ _ _ (g8.trans e9) ae (hp.any.same e9) (e9 _ _ elt) (by rw[E3,Fo];lia) (by rw[E3,Fo];lia) m4 pap'
theorem Ch {dV:Value} (F:bz K "_law_parted" "_law_parted" Ae dV f fd) (DZ59:Dx P w K mg base bt 3 "_law_clash" ["_law_parts","_law_case","_law_some"] [] kC) (DZ62:Dx P w K mg base bt 1 "_law_cases" ["_law_case","_law_row"] [] kL):bv P w K mg base bt 5 f fd ["_law_parts","_law_case","_law_row"] kM:=by
 have sc:aF ["_law_parts","_law_case","_law_row","_law_i","_law_j"] ["_law_parts","_law_case","_law_row"] (aw Ae):=dq 119
 and_intros
 ·obtain ⟨_,_,_,_,_,_,_,_,_,_,_,rfl,_⟩:=h
  rfl
 refine nM h λtp t r w D T A ps n _hi=>?_
 refine pw _hi λc Z _hj=>?_
 refine gB _hj λ_r1 pc hC hrw okw q=>?_
 clear h _hi _hj;subst _r1;exists _,(ah (aI (ao bK 132 bE (aA _)) (ah (cR 3 sc 132) (ah (aI (PW.pt (dP (bS (cI dv fo af (pv 3) (aB ay rfl B.Ev boot_len (134<*>ag)))) (dP (ao eT (aB ay rfl B.Ev boot_len ((au br 134 (pv 3) 117)<*>ag)) af (aA _)) (dt (ao dY (au br (au aC (pv 1) af 117) (pv 3) 117) aR (aA _)))))) (aj (aq aR)) ar) (aj (aq (bX DZ62 hr ((pv 1)<*>146)))))) ar) (ah (aV PassesOwn.never rfl (aG (au aC (pv 1) af 117)) (cZ rfl (aL (cY 3 sc) (aL (cY 4 sc) cv))) (aj (aI (PW.pt (cy (ao b9 (pv 3) 132 129) (bV (ao b9 (pv 4) 132 129)))) (aj (aq aR)) ar))) (ah (aI (bS (cB (bX DZ59 hr ((pv 0)<*>((pv 1)<*>(132<*>ag)))))) (aj (aq aR)) ar) (aj (aq (bX DZ62 hr ((pv 1)<*>146)))))))
 try dsimp only[cxK]
 refine yQ ?_;intro D' r3 r2 r1;sleep 0;refine gA pc.part.ex λtd tl la pl _hi=>?_
 refine eX _hi λetp etd hT _hj=>?_
 refine dk _hj λhA hP=>?_
 obtain ⟨vt,et,rT⟩:=id hT;have lv:=rT.1;have t4:=pc.t4;obtain ⟨kl,ol,ec,ek,ho⟩:=id pc.cs;obtain ⟨bo,eo,ro⟩:=id ho;have ot:=pc.cok.ord;have lP:c.1.length=T.length:=pc.cok.pk.len;have no:cF D T (bn ps) c.1 c.2 w=false->∀H',aE H H'->Q .non H':=λh H' g=>q _ _ g (.inl ⟨h,rfl⟩)
 cases w with
 |ways i=>
  have er:H r=some (.tup [.str "ways",.int i]):=hrw;have wF:cF D T (bn ps) c.1 c.2 (.ways i)=((decide (0<=i)&&decide (i<120))&&(decide ((T.getD i.toNat []).length=2)&&decide (c.1.getD i.toNat none=none))):=rfl;refine (ν,aJ r _ _ _ (rfl,rfl,be.of er,rfl,rfl,ν,dT rfl (ν,aJ r _ _ _ (rfl,rfl,be.of er,rfl,?_))));refine (ν,av _ _ (rfl,rfl,ν,d2 (λc1=>(ν,aJ tp _ _ _ (rfl,rfl,be.of etp,rfl,av tl _ (rfl,.inl (aD.of et),av _ _ (rfl,rfl,ν,n2 (λc2=>?_) (λc2=>?_)))))) (λc1=>(ν,cC (no (by rw[wF,decide_eq_false c1];rfl) _ 148)))))
  ·rw[lv] at c2;exact no (by rw[wF,decide_eq_false c2,Ey];rfl) _ 148
  rw[lv] at c2;obtain ⟨k,rfl⟩:∃k:Nat,i=(k:Int):=⟨i.toNat,by lia⟩
  have kT:k<T.length:=by lia
  have hk:=E2 kT;refine eI (rT.get hk) λy _hi=>?_
  refine dk _hi λhy _hj=>?_
  refine eI _hj λwl _hk=>?_
  refine iC _hk λ_r1 _ _hl=>?_
  refine eI _hl λus _hm=>?_
  refine dk _hm λeu ru=>?_
  clear _hi _hj _hk _hl _hm;subst _r1;have hp:=E2 (show k<c.1.length by lia)
  rw[ET,bf hk,bf hp,decide_eq_true c1,decide_eq_true c2,Eu,Eu] at wF;refine (ν,aJ tp _ _ _ (rfl,rfl,be.of etp,rfl,ν,aJ tl _ _ _ (rfl,rfl,aD.of et,(aT hy),av wl _ (rfl,.inl (aD.of eu),rfl,ν,xb (λc3=>?_) (λc3=>?_)))))
  ·rw[ru.1] at c3;exact no (by rw[wF,decide_eq_false (by lia)];rfl) _ 148
  rw[ru.1] at c3;rw[decide_eq_true (show (T[k]).length=2 by lia),Eu] at wF
  refine (ν,aJ t _ _ _ (rfl,rfl,be.of ec,rfl,ν,aJ kl _ _ _ (rfl,rfl,aD.of ek,(aT (dL hp)),rfl,ν,?_)));cases hq:c.1[k]'(by lia) with
  |some j=>exact nT nofun (no (by rw[wF,hq];rfl) _ 148)
  |none=>
   rw[hq] at wF;refine nF rfl (ν,ν,fE t r (.ways (k:Int)) c.1 c.2 Z (rfl,hC,pc.cok.pairs 118,by rw[lP];exact pc.ok.t24,er,trivial,λi hi=>by cases hi;lia,λl H' g nl hl=>q _ _ g (.inr (by rw[wF];rfl,l,rfl,nl,hl))))
 |split S2=>
  obtain ⟨cc,er,es⟩:=hrw;have s8:S2.length<=8:=okw;have rF:cF D T (bn ps) c.1 c.2 (.split S2)=(!bP c.2 S2&&b7 D T (bn ps) c.1 S2):=rfl;have lbo:bo.length<=400:=by rw[ro.1];exact pc.cok.len
  refine (ν,aJ r _ _ _ (rfl,rfl,be.of er,rfl,rfl,ν,dF 118 ?_))
  try dsimp only[cg,cM]
  refine cut (λσ H'=>(∃o3 o4:Option V,σ= [GV tp,GV t,GV r,o3,o4])/\H=H'/\bP c.2 S2=false) (λN hN=>?_) ?_
  ·refine (ν,aJ t _ _ _ (rfl,rfl,be.of ec,rfl,ol,rfl,(_,aD.of eo),aU (xs:=bo.map V.ref) (λk σ H'=>H=H'/\(∃o2 o3:Option V,σ= [GV tp,GV t,GV r,o2,o3])/\(c.2.take k).any (λk=>decide (k.getD 0 0∈S2)&&decide (k.getD 1 0∈S2))=false) (rfl,(av none none rfl),rfl) (λk σ H' _ h=>by rw[<-h.1];exact aD.of eo) ?_ ?_))
   ·rintro k y σ H1 hy ⟨rfl,⟨o2,o3,rfl⟩,hn⟩;obtain ⟨a,ha,rfl⟩:=cP hy;have il:k<c.2.length:=by rw[<-ro.1];exact (E6.mp ha).1
    have hk:=E2 il;have ea:=ro.2 k a _ ha hk;obtain ⟨p,q',e2,_⟩:=ot _ (EQ il);rw[e2] at ea hk;have go:(decide (p∈S2)&&decide (q'∈S2))=false->(c.2.take (k+1)).any (λk=>decide (k.getD 0 0∈S2)&&decide (k.getD 1 0∈S2))=false:=λh=>by
     rw[aW hk,FH,hn,En,F5,Fk,FX];exact h
    refine (av a _ (rfl,be.of ea,rfl,av _ _ (rfl,av _ _ (rfl,rfl,?_))));refine (ν,ν,aJ r _ _ _ (rfl,rfl,be.of er,rfl,av cc _ (rfl,.inl (aD.of es),rfl,iB S2,ν,qV (λc1=>(ν,ν,aJ r _ _ _ (rfl,rfl,be.of er,rfl,av cc _ (rfl,.inl (aD.of es),rfl,iB S2,ν,qV (λc2=>?_) (λc2=>?_))))) (λc1=>?_))))
    ·have:bP c.2 S2=true:=by
      unfold bP;rw[Ee];exists _,E4 hk;show (decide (p∈S2)&&decide (q'∈S2))=true;rw[decide_eq_true c1,decide_eq_true c2]
      rfl
     exact no (by rw[rF,this];rfl) _ 148
    ·exact (rfl,(av _ _ rfl),go (by rw[decide_eq_false c2,Ey]))
    ·exact cu (rfl,(av _ _ rfl),go (by rw[decide_eq_false c1,FE]))
   ·rintro σ H1 ⟨rfl,⟨o2,o3,rfl⟩,hn⟩;rw[E1,ro.1,ES] at hn;exact hN _ _ ((av _ _ rfl),rfl,hn)
  rintro σ _ ⟨⟨o3,o4,rfl⟩,rfl,ha⟩;refine (ν,ν,ν,aJ r _ _ _ (rfl,rfl,be.of er,rfl,iQ tp t cc td tl pl (.ref la) S2 D (bU T c.1 ps (rfl,etp,etd,pc.ok.dnd,(hT,(_,pc.cs),pc.cok.pk,pc.ok.ways),pc.ok.t24,hP,pc.ne,es,by lia,λH1 g1=>(ν,?_)))))
  cases hc:b7 D T (bn ps) c.1 S2 with
  |false=>exact cC (no (by rw[rF,hc,Ey]) _ g1)
  |true=>exact cu ⟨_,rfl,_,rfl,fE t r (.split S2) c.1 c.2 Z ⟨rfl,de hC g1,pc.cok.pairs 118,by rw[lP];exact pc.ok.t24,⟨cc,g1 _ _ er,g1 _ _ es⟩,okw,(λi hi=>by cases hi),λl H' g nl hl=>q _ _ (g1.trans g) (.inr ⟨by rw[rF,ha,hc];rfl,l,rfl,g1.free nl,hl.mono λa h=>⟨h.1,h.2.imp (λz=>g1.free z) id⟩⟩)⟩⟩
theorem Ci {dV:Value} (F:bz K "_law_bound" "_law_bound" Af dV f fd) (DZ49:Dx P w K mg base bt 2 "_law_total" ["_law_arcs","_law_chain"] [] md) (DZ51:Dx P w K mg base bt 2 "_law_due" ["_law_arcs","_law_tasks","_law_case"] [] qY) (DZ53:Dx P w K mg base bt 2 "_law_work" ["_law_tasks","_law_case","_law_i","_law_name"] [] nO):bv P w K mg base bt 3 f fd ["_law_parts","_law_case","_law_row","_law_points"] mM:=by
 have sc:aF ["_law_parts","_law_case","_law_row","_law_points","_law_some","_law_point"] ["_law_parts","_law_case","_law_row","_law_points"] (aw Af):=dq 119
 and_intros
 ·obtain ⟨_,_,_,_,_,_,_,_,_,_,_,rfl,_⟩:=h
  rfl
 refine nM h λtp t row N r D T A ps _hi=>?_
 refine pw _hi λn c _hj=>?_
 refine gB _hj λ_r1 pc hN0 ra bx q=>?_
 clear h _hi _hj;subst _r1;exists _,(ah (aI (ao bK 132 bE (aA _)) (ah (aI (ao (fU hr.units0) 132 138 (aA _)) (aj (aq aR)) ar) (ah (fu (own:= "_law_front_here") (ys:= []) (js:= []) sc.nd (i:=4) rfl rfl rfl 130 (aG 132) (λC fp s H=>(am bh (au (gP (K:=K) rfl) (pv 0) (iS gq af) 117) af))) (ah (aI (ao eT (iK rfl rfl B.Ev rfl B.GA PyProof.Rows.Boot.«len» PyProof.Rows.Boot.«set» (pv 4)) (aB ay rfl B.Ev boot_len ((pv 4)<*>ag)) (aA _)) (aj (aq aR)) ar) (aj (aq (am fL af (am bh (iS gq (aB (fW rfl) rfl B.Gx PyProof.Rows.Boot.«sum» ((bZ (own:= "_law_i") (ys:= ["_law_case","_law_parts","_law_row"]) (js:= [1,0,2]) rfl (cok (ie (ie (ie fR))) (.cons rfl (.cons rfl (.cons rfl .nil))) 118 rfl rfl rfl rfl rfl rfl rfl rfl) (aG (pv 4)) (λC fp s H=>(bX DZ53 hr ((au (bF (K:=K) rfl) (pv 2) af 117)<*>((pv 1)<*>((pv 0)<*>((au (bF (K:=K) rfl) (pv 3) af 117)<*>ag)))))))<*>ag))) (ic (gG hr) 134 132 117)))))))) ar) (ah (aV PassesOwn.never rfl (aG 132) (cY 5 sc) (aj (aI (bS (cI dv fo af (pv 5) (pv 3))) (aj (aq aR)) ar))) (aj (aq (bX DZ49 hr ((bX DZ51 hr (134<*>(134<*>((pv 1)<*>ag))))<*>(132<*>ag)))))))
 try dsimp only[cxK]
 refine lt3 ?_;intro D' r2 r1;sleep 0;refine gA pc.part.ex λtd tl la pl _hi=>?_
 refine eX _hi λetp etd hT _hj=>?_
 refine dk _hj λhA hP=>?_
 have n0:=pc.ok.n0;cases r with
 |ways i=>exact bx.elim
 |full z F G=>
  obtain ⟨lf,lb,er,hF,hG⟩:=ra;obtain ⟨o1,o2,o3,o4⟩:=bx.ok;obtain ⟨vf,ef,rf⟩:=id hF;have lvf:=rf.1;obtain ⟨m,hm⟩:=bx.m;have no:(¬(F.map eY).Nodup∨F= [])->∀H',aE H H'->Q .non H':=λh H' g=>by
   have:=q H' g;rw[show c8 D T c.1 ((fj T A c).map fb) 143 (.full z F G)=none from xU h] at this
   exact this
  refine (ν,aJ row _ _ _ (rfl,rfl,be.of er,rfl,rfl,ν,dT rfl (ν,aJ row _ _ _ (rfl,rfl,be.of er,rfl,by show 0<=sizeLine;decide,λle nle=>?_))))
  have ge:=ac nle 142;refine (bU lf le _ (rfl,rfl,aD.of (ge _ _ ef),aD.of ae,ν,?_));generalize aH H le 142=H1 at ge⊢
  by_cases fe:F= []
  ·have:vf= []:=EV (by rw[lvf,fe];rfl)
   rw[this];exact cC (no (.inr fe) _ ge)
  have re:vf.isEmpty=false:=by cases vf with|nil=>rw[List.length_nil] at lvf;exact absurd (EV lvf.symm) fe|cons _ _=>rfl
  rw[re];refine cu (ν,aJ row _ _ _ (rfl,rfl,be.of (ge _ _ er),rfl,lf,rfl,(_,aD.of (ge _ _ ef)),bJ (dW V.int) 145 (λk=>eY (F.getD k [])) (aD.of (ge _ _ ef)) (by lia) 136 (λk y hy H2 g2 Q' hQ=>?_) λls H2 nls g2 hs=>?_))
  ·obtain ⟨f,hf,hc⟩:=rf.at_ hy;obtain ⟨cf,rfl,_,ecf⟩:=fY hc;rw[bf hf] at hQ;exact (ν,ν,aJ cf _ _ _ (rfl,rfl,aD.of ((ge.trans g2) _ _ ecf),(nR (bx.ne f (E4 hf))),av _ _ (rfl,rfl,140,hQ _ _ 148 rfl)))
  obtain ⟨us,es,rs⟩:=hs;rw[rs.val,lvf] at es;have eS:(EY F.length).map (λk=>eY (F.getD k []))=F.map eY:=by
   conv=>rhs;rw[<-bO F []]
   rw[EH]
   rfl
  rw[eS] at es;generalize hS2:F.map eY=S2 at es;have g02:=ge.trans g2;have l30:S2.length<=30:=by rw[<-hS2,E1];exact o1
  refine (ν,av ls S2 (rfl,aD.of es,by lia,ν,av ls _ (rfl,.inl (aD.of es),rfl,ν,?_)))
  rw[E1,iL]
  by_cases nd:S2.Nodup
  ·rw[decide_eq_true nd];obtain ⟨S3,eF,eG⟩:=bx.sg (by rw[hS2];exact nd)
   have e23:S2=S3:=by rw[<-hS2,eF,sW]
   subst e23;have rg:∀i∈S2,0<=i/\i<(T.length:Int):=λi hi=>by
    rw[<-hS2] at hi;obtain ⟨f,hf,rfl⟩:=EO.mp hi;exact bx.rg f hf
   have sne:S2≠ []:=λe=>fe (by rw[eF,e];rfl)
   obtain ⟨pz,pm,_,mz⟩:=pX pc.ok.dnd (z:=z) (by
    unfold cT at hm;obtain ⟨p,hp,_⟩:=E7.mp hm;have:=List.find?_some hp;exact EO.mpr (p,Fv hp,by simpa using this))
   obtain ⟨_,pz1,pz2⟩:=pc.ok.tool pz pm;have vq:=λH' g=>q H' g
   rw[show c8 D T c.1 ((fj T A c).map fb) 143 (.full z F G)=some (-((-(S2.map λi=>dS T c.1 i.toNat z).sum).fdiv pz.2)) by rw[eF,eG];exact p8 mz sne nd rg (by lia)] at vq
   refine cu (ν,ls,rfl,(_,aD.of es),bJ (dW V.int) 145 (λk=>dS T c.1 (S2.getD k 0).toNat z) (aD.of es) (by rw[E1];lia) 136 (λk y hy H3 g3 Q' hQ=>?_) λlw H3 nlw g3 hw=>?_)
   ·rw[EB] at hy;obtain ⟨i,hi,rfl⟩:=E7.mp hy;obtain ⟨i0,i1⟩:=rg i (E4 hi);rw[bf hi] at hQ;have k5:=g02.trans g3;exact (ν,aJ tp _ _ _ (rfl,rfl,be.of (k5 _ _ etp),rfl,ν,ν,ν,aJ row _ _ _ (rfl,rfl,be.of (k5 _ _ er),rfl,fE tl t i.toNat z D T (c.1,(by rw[FV i0];rfl,(hT.same k5,(_,pc.cs.same k5),pc.cok.pk,pc.ok.ways),by lia,λH6 g6=>hQ _ _ g6 rfl)))))
   obtain ⟨us,eu,ru⟩:=hw;rw[ru.val,E1] at eu;have ews:(EY S2.length).map (λk=>dS T c.1 (S2.getD k 0).toNat z)=S2.map λi=>dS T c.1 i.toNat z:=by
    conv=>rhs;rw[<-bO S2 0]
    rw[EH]
    rfl
   rw[ews] at eu;have k3:=g02.trans g3;refine (av lw _ (rfl,aD.of eu,ν,ν,aJ tp _ _ _ (rfl,rfl,be.of (k3 _ _ etp),rfl,ν,aJ row _ _ _ (rfl,rfl,be.of (k3 _ _ er),rfl,av td _ (rfl,jD (.inl (k3 _ _ etd)) mz,av _ _ (rfl,rfl,(by lia,EE (by lia)),av _ _ (rfl,rfl,?_)))))))
   have:=vq _ k3;rw[show ∀u:Int,-u=0-u from λu=>by lia] at this
   exact this
  ·rw[decide_eq_false nd];exact cC (no (.inl (by rw[hS2];exact nd)) _ g02)
 |one w C=>
  obtain ⟨cc,er,ec⟩:=ra;obtain ⟨rfl,c40⟩:=bx;have bc:c8 D T c.1 ((fj T A c).map fb) 143 (.one "chain" C)=if cV 143 C=true then dh ((fj T A c).map fb) C else none:=fK C
  refine (ν,aJ row _ _ _ (rfl,rfl,be.of er,rfl,rfl,ν,dF 118 ?_))
  refine (ν,aJ row _ _ _ (rfl,rfl,be.of er,rfl,cc,rfl,(_,aD.of ec),aU (xs:=C.map V.int) (λk σ H'=>H=H'/\(∃o5:Option V,σ= [GV tp,GV t,GV row,some (.int N),none,o5])/\cV 143 (C.take k)=true) (rfl,(none,rfl),rfl) (λk σ H' _ h=>by rw[<-h.1];exact aD.of ec) ?_ ?_))
  ·rintro k y σ H1 hy ⟨rfl,⟨o5,rfl⟩,hp⟩;rw[EB] at hy;obtain ⟨p,hk,rfl⟩:=E7.mp hy;have bad:(decide (0<=p)&&decide (p<143))=false->Q .non H:=λh=>by
    have:=q H 148;have e:cV 143 C=false:=by
     rw[<-FJ];intro z;unfold cV at z;rw[ED] at z;have:=z p (E4 hk);rw[h] at this;cases this
    rw[bc,e] at this;exact this
   have fine:(decide (0<=p)&&decide (p<143))=true->cV 143 (C.take (k+1))=true:=λh=>by
    unfold cV at hp⊢;rw[aW hk,Fd,hp,Eu,Fg,List.all_nil,Fn];exact h
   refine (ν,av _ _ (rfl,rfl,ν,d2 (λc1=>(ν,av _ _ (rfl,rfl,ν,n2 (λc2=>?_) (λc2=>?_)))) (λc1=>(ν,cC (bad (by rw[decide_eq_false c1];rfl))))))
   ·rw[hN0] at c2;exact bad (by rw[decide_eq_false c2,Ey])
   ·rw[hN0] at c2;exact (rfl,⟨ν⟩,fine (by rw[decide_eq_true c1,decide_eq_true c2];rfl))
  ·rintro σ H1 ⟨rfl,⟨o5,rfl⟩,hp⟩;rw[E1,ES] at hp;refine (ν,aJ tp _ _ _ (rfl,rfl,be.of etp,rfl,ν,aJ tp _ _ _ (rfl,rfl,be.of etp,rfl,ν,fE la tl t A D T (av c.1 c.2 (rfl,hA,by have:=pc.a63;lia,hT,pc.ok.t24,pc.cs,pc.cok.pk,pc.ok.ways,pc.cok.pairs 118,λdl H2 g2 hD=>(ν,aJ row _ _ _ (rfl,rfl,be.of (g2 _ _ er),rfl,aJ dl cc ((fj T A c).map fb) C (rfl,im hD pc.trF,pP pc.l7,g2 _ _ ec,by lia,λH3 g3=>?_))))))))
   have:=q _ (g2.trans g3);rw[bc,if_pos hp] at this;exact this
theorem Cj {dV:Value} (F:bz K "_law_shut" "_law_shut" Ag dV f fd) (DZ66:Dx P w K mg base bt 3 "_law_bound" ["_law_parts","_law_case","_law_row","_law_points"] [] mM):bv P w K mg base bt 4 f fd ["_law_parts","_law_case","_law_low","_law_row","_law_points"] p9:=by
 have sc:aF ["_law_parts","_law_case","_law_low","_law_row","_law_points","_law_total_here"] ["_law_parts","_law_case","_law_low","_law_row","_law_points"] (aw Ag):=dq 119
 and_intros
 ·obtain ⟨_,_,_,_,_,_,_,_,_,_,_,_,rfl,_⟩:=h
  rfl
 refine nM h λtp t row N low r D T A _hi=>?_
 refine kB _hi λps n c _hj=>?_
 refine gB _hj λ_r1 pc hN0 ra sx q=>?_
 clear h _hi _hj;subst _r1;exists _,(ah (aI (ao bK (au aC (pv 3) af 117) bE (aA _)) (ah (cR 5 sc aR) (ah (aI (ao (gO hr.units0) (au aC (pv 3) af 117) 138 (aA _)) (aj (cR 5 sc (bX DZ66 hr ((pv 0)<*>((pv 1)<*>((@aZ _ _ _ _ _ (bE<*>((am bH (au aC (pv 3) af 117) (aY bI (au aC (pv 3) af 117) bA (bj af)))<*>ag)))<*>((pv 4)<*>ag))))))) ar) (aj (aq (gL (cN dY (pv 5) aR (aA _)) (gK (cN fP (pv 5) af (aA _)))))))) ar) (ah (cR 5 sc (bX DZ66 hr ((pv 0)<*>((pv 1)<*>((pv 3)<*>((pv 4)<*>ag)))))) (aj (aq (gL (cN dY (pv 2) aR (aA _)) (gL (cN dY (pv 5) aR (aA _)) (gK (cN uR (pv 5) (pv 2) (aA _)))))))))
 try dsimp only[cxK]
 refine lt3 ?_;intro D' r2 r1;sleep 0
 by_cases hr:∃C,r= .one "ring" C
 ·obtain ⟨C,rfl⟩:=hr;obtain ⟨cc,er,ec⟩:=ra;have c30:C.length<=30:=sx.2;refine (ν,aJ row _ _ _ (rfl,rfl,be.of er,rfl,rfl,ν,dT rfl ?_));try dsimp only[cg,cM]
  refine cut (λσ H'=>σ= [GV tp,GV t,some (oV low),GV row,some (.int N),some .non]/\H=H') (λN' hN=>hN _ _ (rfl,rfl)) ?_
  rintro σ _ ⟨rfl,rfl⟩;try dsimp only[cg,cM]
  refine cut (λσ H'=>∃o:Option Int,σ= [GV tp,GV t,some (oV low),GV row,some (.int N),some (oV o)]/\aE H H'/\uy o=eZ D T A n low c (.one "ring" C)) (λN' hN=>?_) ?_
  ·refine (ν,aJ row _ _ _ (rfl,rfl,be.of er,rfl,by show 0<=sizeLine;decide,λle nle=>?_))
   have ge:=ac nle 142;refine (bU cc le _ (rfl,rfl,aD.of (ge _ _ ec),aD.of ae,ν,?_));generalize aH H le 142=H1 at ge⊢
   by_cases ce:C= []
   ·subst ce;refine cu (hN _ _ (none,rfl,ge,?_));unfold eZ;rw[gE,show gS ((cH A T c.1 c.2).map fb) []=none from rfl]
    show false=(_&&false);rw[Ey]
   have re:(C.map V.int).isEmpty=false:=by cases C with|nil=>exact absurd rfl ce|cons _ _=>rfl
   have c1:1<=C.length:=FU.mpr ce;rw[re];refine cC (ν,ν,ν,aJ row _ _ _ (rfl,rfl,be.of (ge _ _ er),rfl,ν,aJ row _ _ _ (rfl,rfl,be.of (ge _ _ er),rfl,ν,av cc _ (rfl,aD.of (ge _ _ ec),λp1 np1=>?_))))
   rw[show (1:Int)=((1:Nat):Int) from rfl,cO (by rw[E1];lia),<-List.map_take]
   have e1:=ac np1 (.lst ((C.take 1).map V.int));refine (aJ cc p1 _ _ (rfl,rfl,e1 _ _ (ge _ _ ec),ae,by rw[E1,E1,EC];lia,λp2 np2=>?_))
   have e2:=ac np2 (.lst (C.map V.int++(C.take 1).map V.int));refine (by show 2<=sizeLine;decide,λtr ntr=>?_)
   have e3:=ac ntr (.tup [.str "chain",.ref p2]);have k3:=ge.trans ((e1.trans e2).trans e3);refine (ν,iQ tp t tr N (.one "chain" (C++C.take 1)) D T A ps (av n c (rfl,pc.same k3,hN0,(p2,ae,by rw[e3 _ _ ae,EU]),(rfl,by rw[E3,EC];lia),λH4 g4=>hN _ _ (ν,k3.trans g4,(rJ ce).symm))))
  rintro σ H1 ⟨o,rfl,g1,eo⟩;have:=q _ g1;rw[<-eo] at this;cases o with
  |none=>exact ⟨_,rfl,rfl,_,rfl,nF rfl this⟩
  |some v=>exact ⟨_,rfl,rfl,_,rfl,nT nofun ⟨_,rfl,av _ _ ⟨rfl,rfl,this⟩⟩⟩
 ·have nr:jj r:=by
   cases r with
   |full _ _ _=>trivial
   |one w C=>exact λz=>hr ⟨C,by rw[z]⟩
   |ways _=>trivial
  have e0:∃w ys,H row=some (.tup (.str w::ys))/\w≠ "ring" /\Bh D T r:=by
   cases r with
   |full z F G=>
    obtain ⟨lf,lb,e,_,_⟩:=ra;exact (av _ _ (e,by decide,sx))
   |one w C=>
    obtain ⟨cc,e,ec⟩:=ra;have wr:w≠ "ring" :=λz=>hr ⟨C,by rw[z]⟩
    have h30:=sx.2;exact (av _ _ (e,wr,sx.1.elim id λz=>absurd z wr,by lia))
   |ways i=>exact sx.elim
  obtain ⟨w,ys,ew,wr,bx⟩:=e0;refine (ν,aJ row _ _ _ (rfl,rfl,be.of ew,aT (j:=0) rfl,rfl,ν,dF (λz=>wr (by injection z)) ?_))
  refine (ν,ν,ν,ν,iQ tp t row N r D T A ps (av n c (rfl,pc,hN0,ra,bx,λH1 g1=>?_)))
  have:=q _ g1;unfold eZ at this;rw[io nr] at this;change Q (.bl (yX (c8 D T c.1 ((fj T A c).map fb) 143 r) low)) H1 at this;cases low with
  |none=>exact ⟨_,rfl,rfl,_,rfl,nF rfl this⟩
  |some l=>
   refine (ν,rfl,ν,nT nofun ?_);cases ho:c8 D T c.1 ((fj T A c).map fb) (2*(T.length:Int)+n) r with
   |none=>
    rw[ho] at this;exact (ν,rfl,ν,nF rfl this)
   |some v=>
    rw[ho] at this;exact ⟨_,rfl,rfl,_,rfl,nT nofun ⟨_,rfl,_,rfl,av _ _ ⟨rfl,rfl,this⟩⟩⟩
theorem Ck {dV:Value} (F:bz K "_law_read" "_law_read" Ah dV f fd) (DZ65:Dx P w K mg base bt 5 "_law_parted" ["_law_parts","_law_case","_law_row"] [] kM) (DZ67:Dx P w K mg base bt 4 "_law_shut" ["_law_parts","_law_case","_law_low","_law_row","_law_points"] [] p9):bv P w K mg base bt 6 f fd ["_law_parts","_law_low","_law_paper_here","_law_points"] qa:=by
 have sc:aF ["_law_parts","_law_low","_law_paper_here","_law_points","_law_pile","_law_row","_law_case","_law_cases_here"] ["_law_parts","_law_low","_law_paper_here","_law_points"] (aw Ah):=dq 119
 and_intros
 ·obtain ⟨_,_,_,_,_,_,_,_,_,_,rfl,_⟩:=h
  rfl
 refine nM h λtp l N low D T A ps n _hi=>?_
 refine eI _hi λrs _hj=>?_
 refine gB _hj λ_r1 st hN0 hl ok _hk=>?_
 refine dk _hk λr4 q=>?_
 clear h _hi _hj _hk;subst _r1;exists _,(ah (cR 4 sc (@aM _ _ _ _ ((@aZ _ _ _ _ _ ((bZ (own:= "_law_task") (ys:= []) (js:= []) rfl 130 (aG 134) (λC fp s H=>aR))<*>(138<*>ag)))<*>ag))) (ah (aV PassesOwn.never rfl (aG (pv 2)) (cY 5 sc) (ah (aI (ao (fU hr.units0) (pv 4) 138 (aA _)) 141 ar) (ah (cR 6 sc (ka EM PySem.F.slot_list_pop PySem.F.type_list_pop qx (pv 4))) (aj (aI (PW.pt (dP (ao bK (au aC (pv 5) af 117) bE (aA _)) (dt (ao bK (au aC (pv 5) af 117) bE (aA _))))) (ah (cR 7 sc (bX DZ65 hr ((pv 0)<*>((pv 6)<*>((pv 5)<*>ag))))) (ah (aI (ao fc (pv 7) aR (aA _)) 141 ar) (aj (bW (dQ EM PySem.F.slot_list_extend PySem.F.type_list_extend jp (pv 4) ((gu rfl rfl B.Gc rfl B.Gg boot_list PyProof.Rows.Boot.«reversed» (pv 7))<*>ag)))))) (aj (aI (bS (cB (bX DZ67 hr ((pv 0)<*>((pv 6)<*>((pv 1)<*>((pv 5)<*>((pv 3)<*>ag)))))))) 141 ar))))))) (aj (aq (cN (fU hr.units0) (pv 4) 138 (aA _))))))
 try dsimp only[cxK]
 refine lt3 ?_;intro D' r2 r1;sleep 0;refine gA st.part.ex λtd tl la pl _hi=>?_
 refine eX _hi λetp etd hT _hj=>?_
 refine dk _hj λhA hP=>?_
 obtain ⟨vt,et,rT⟩:=id hT;obtain ⟨vs,el,rl⟩:=id hl;have t4:=st.t4;have lv:=rT.1;have B2:True:=trivial;have ok8:∀r∈rs,gh r:=λr hr=>(ok r hr).1
 refine (ν,aJ tp _ _ _ (rfl,rfl,be.of etp,rfl,tl,rfl,(_,aD.of et),bJ (dW gy) 145 (λ_=>none) (aD.of et) (by lia) 136 (λi y hy H3 g3 Q' hQ=>hQ _ _ 148 rfl) λkl H3 nkl g3 hk=>?_))
 obtain ⟨us,ek,rk⟩:=hk;rw[rk.val,lv] at ek;refine (by show 0<=sizeLine;decide,λol nol=>(by show 2<=sizeLine;decide,λt0 nt0=>(by show 1<=sizeLine;decide,λlq nlq=>?_)))
 have e4:=ac nol 142;have e5:=ac nt0 (.tup [.ref kl,.ref ol]);have e6:=ac nlq (.lst [.ref t0]);have k6:=g3.trans ((e4.trans e5).trans e6);have ek6:=((e4.trans e5).trans e6) _ _ ek;have eol6:aH (aH (aH H3 ol 142) t0 (.tup [.ref kl,.ref ol])) lq (.lst [.ref t0]) ol=some (.lst []):=(e5.trans e6) _ _ ae;have et06:aH (aH (aH H3 ol 142) t0 (.tup [.ref kl,.ref ol])) lq (.lst [.ref t0]) t0=some (.tup [.ref kl,.ref ol]):=e6 _ _ ae;have eq6:aH (aH (aH H3 ol 142) t0 (.tup [.ref kl,.ref ol])) lq (.lst [.ref t0]) lq=some (.lst [.ref t0]):=ae;have qn:H lq=none:=(g3.trans (e4.trans e5)).free nlq;have Pkl:kl≠lq:=λz=>(by rw[<-z,(e4.trans e5) _ _ ek] at nlq;cases nlq)
 have Pol:ol≠lq:=λz=>(by rw[<-z,e5 _ _ ae] at nlq;cases nlq)
 generalize aH (aH (aH H3 ol 142) t0 (.tup [.ref kl,.ref ol])) lq (.lst [.ref t0])=H6 at k6 ek6 eol6 et06 eq6⊢;have Pt0:t0≠lq:=λz=>(by rw[z,eq6] at et06;cases et06)
 have hq0:cA cX (λa=>a≠lq) H6 lq (dE T).reverse:=⟨_,eq6,A2.one (bU t0 kl ol ⟨rfl,Pt0,Pkl,Pol,et06,ek6,_,eol6,A2.nil⟩)⟩
 clear Pkl Pol Pt0 ek6 eol6 et06 eq6 nlq nol nt0 nkl e4 e5 e6 g3 ek rk;refine (ν,l,rfl,(_,aD.of (k6 _ _ el)),aU (xs:=vs) (λk σ H'=>(∃o5 o6 o7:Option V,σ= [GV tp,some (oV low),GV l,some (.int N),GV lq,o5,o6,o7])/\aE H H'/\∃p,mF D T A (bn ps) n low (dE T) (rs.take k)=some p/\cA cX (λa=>a≠lq) H' lq p.reverse) ((bU none none none rfl),k6,ν,hq0) (λk σ H' _ h=>aD.of (h.2.1 _ _ el)) ?_ ?_)
 ·rintro k y σ H2 hy ⟨⟨o5,o6,o7,rfl⟩,g2,p,hp,us,elp,rlp⟩;obtain ⟨r,hr',rr⟩:=rl.at_ hy;obtain ⟨t',rfl,ra0⟩:=rr.row;obtain ⟨⟨okr,okp⟩,okx⟩:=ok r (E4 hr');have kl:=(E6.mp hr').1;have lt:=List.length_take_le k rs;have cok:=rc hp jH;have p64:=rj hp λr hr=>ok8 r (FL hr)
  have s1:(dE T).length=1:=rfl;have lu:=rlp.1;rw[Ek] at lu;have hs:=sO hr' hp;have bad:eJ D T A (bn ps) n low p r=none->∀H',aE H H'->Q (.bl false) H':=λh H' g=>by
   have:=q H' g;rw[sP (k:=k+1) (by rw[hs,h])] at this
   exact this
  refine (ν,by show 0<=sizeLine;decide,λle nle=>?_)
  have ge:=ac nle 142;refine (bU lq le _ (rfl,rfl,aD.of (ge _ _ elp),aD.of ae,ν,?_));generalize aH H2 le 142=H3 at ge⊢;replace elp:=ge _ _ elp;replace rlp:=rlp.imp λ_ _ q=>de q ge
  replace g2:=g2.trans ge;clear ge nle
  match p,hp,rlp,lu,cok,p64,hs,bad with
  | [],_,_,lu,_,_,_,bad=>
   have:us= []:=EV lu;subst this;exact cC (bad rfl _ g2)
  |c::p0,hp,rlp,lu,cok,p64,hs,bad=>
  rw[List.reverse_cons] at rlp;obtain ⟨us0,u,rfl,ru,rl0⟩:=rlp.unsnoc;have re:(us0++ [u]).isEmpty=false:=by cases us0<;>rfl
  rw[re];refine cu (ν,.inl (rfl,_,aD.of elp),bU lq _ u (rfl,rfl,elp,by simp,?_))
  rw[List.dropLast_concat];have g4:=dJ g2 qn (.lst us0);have ru4:=kY ru (l:=lq) (λz=>z rfl) (.lst us0)
  have rl4:=rl0.imp λv x q=>kY q (l:=lq) (λz=>z rfl) (.lst us0)
  have e4:aH H3 lq (.lst us0) lq=some (.lst us0):=ae;generalize aH H3 lq (.lst us0)=H4 at g4 ru4 rl4 e4⊢;have ra4:=ra0.same g4;obtain ⟨w,ys,ew,iw⟩:=eC ra4 okr;obtain ⟨tc,rfl,hcs⟩:=cX.case ru4;have ck:kQ T 400 c:=(cok c Ej).mono (by lia)
  have pc:=(st.same g4).pc hcs ck;rw[ER] at p64;have lus:=rl4.1;rw[Ek] at lus;cases hi:dA r with
  |some w'=>
   have wv:w= "split" ∨w= "ways" :=iw.mpr (by unfold hJ;rw[hi];rfl)
   have okw:=okp w' hi;have st':eJ D T A (bn ps) n low (c::p0) r=if cF D T (bn ps) c.1 c.2 w'=true then some (dD c.1 c.2 w'++p0) else none:=by
    show eB D T A (bn ps) n low c p0 r=_;unfold eB;rw[hi]
   have lcs:=fZ (P:=c.1) (O:=c.2) okw;rcases wv with rfl|rfl
   rotate_left
   ·refine (ν,aJ t' _ _ _ (rfl,rfl,be.of ew,aT (j:=0) rfl,rfl,ν,dF 118 (ν,aJ t' _ _ _ (rfl,rfl,be.of ew,aT (j:=0) rfl,rfl,ν,dT rfl ?_))))
    refine (ν,ν,ν,iQ tp tc t' w' D T A ps n (av c (λa=>a≠lq) (rfl,pc,ru4,sQ ra4 hi,okw,λv H5 g5 hv=>?_)))
    rcases hv with ⟨rf,rfl⟩|⟨rt,l',rfl,nl',vl,el',rl'⟩
    ·exact (ν,rfl,ν,dT rfl (bad (by rw[st',rf];rfl) _ (g4.trans g5)))
    rw[st',if_pos rt] at hs;have lvl:=rl'.1;refine ⟨_,rfl,rfl,_,rfl,dF nofun ⟨_,rfl,.inl ⟨rfl,_,aD.of (g5 _ _ e4)⟩,_,rfl,av l' _ ⟨rfl,aD.of el',λlr nlr=>?_⟩⟩⟩
    have g6:=ac nlr (.lst vl.reverse);refine (aJ lq lr _ _ (rfl,rfl,(g5.trans g6) _ _ e4,ae,by rw[Ek];lia,?_))
    exists (bU _ _ _ rfl),dJ (g4.trans (g5.trans g6)) qn _,_,hs;rw[List.reverse_append];refine cA.ext (λz=>z rfl) (rl4.imp λ_ _ q=>de q (g5.trans g6)) ((rl'.imp λ_ _ q=>ku (de q g6) λa h=>?_).rev)
    rcases h.2 with h|h
    ·exact λz=>by rw[z,e4] at h;cases h
    ·exact h
   ·refine (ν,aJ t' _ _ _ (rfl,rfl,be.of ew,aT (j:=0) rfl,rfl,ν,dT rfl ?_));refine (ν,ν,ν,iQ tp tc t' w' D T A ps n (av c (λa=>a≠lq) (rfl,pc,ru4,sQ ra4 hi,okw,λv H5 g5 hv=>?_)))
    rcases hv with ⟨rf,rfl⟩|⟨rt,l',rfl,nl',vl,el',rl'⟩
    ·exact (ν,rfl,ν,dT rfl (bad (by rw[st',rf];rfl) _ (g4.trans g5)))
    rw[st',if_pos rt] at hs;have lvl:=rl'.1;refine ⟨_,rfl,rfl,_,rfl,dF nofun ⟨_,rfl,.inl ⟨rfl,_,aD.of (g5 _ _ e4)⟩,_,rfl,av l' _ ⟨rfl,aD.of el',λlr nlr=>?_⟩⟩⟩
    have g6:=ac nlr (.lst vl.reverse);refine (aJ lq lr _ _ (rfl,rfl,(g5.trans g6) _ _ e4,ae,by rw[Ek];lia,?_))
    exists (bU _ _ _ rfl),dJ (g4.trans (g5.trans g6)) qn _,_,hs;rw[List.reverse_append];refine cA.ext (λz=>z rfl) (rl4.imp λ_ _ q=>de q (g5.trans g6)) ((rl'.imp λ_ _ q=>ku (de q g6) λa h=>?_).rev)
    rcases h.2 with h|h
    ·exact λz=>by rw[z,e4] at h;cases h
    ·exact h
  |none=>
   have wn:¬(w= "split" ∨w= "ways"):=λz=>by
    have:=iw.mp z;unfold hJ at this;rw[hi] at this;cases this
   have st':eJ D T A (bn ps) n low (c::p0) r=if eZ D T A n low c r=true then some p0 else none:=by
    show eB D T A (bn ps) n low c p0 r=_;unfold eB;rw[hi]
   refine (ν,aJ t' _ _ _ (rfl,rfl,be.of ew,aT (j:=0) rfl,rfl,ν,dF (λz=>wn (.inl (by injection z))) (ν,aJ t' _ _ _ (rfl,rfl,be.of ew,aT (j:=0) rfl,rfl,ν,dF (λz=>wn (.inr (by injection z))) ?_))))
   refine (ν,ν,ν,ν,ν,iQ tp tc t' N low r D T A (bU ps n c (rfl,pc,hN0,ra4,okx hi,λH5 g5=>(ν,?_))))
   cases hsh:eZ D T A n low c r with
   |false=>exact cC (bad (by rw[st',hsh];rfl) _ (g4.trans g5))
   |true=>exact cu ⟨(bU _ _ _ rfl),g4.trans g5,p0,by rw[hs,st',if_pos hsh],us0,g5 _ _ e4,rl4.imp λ_ _ q=>de q g5⟩
 ·rintro σ H2 ⟨⟨o5,o6,o7,rfl⟩,g2,p,hp,us,elp,rlp⟩;rw[rl.1,ES] at hp;have lu:=rlp.1;rw[Ek] at lu;refine (ν,by show 0<=sizeLine;decide,λle nle=>?_)
  have ge:=ac nle 142;have:=q _ (g2.trans ge);rw[kJ hp] at this;refine (bU lq le _ (rfl,rfl,aD.of (ge _ _ elp),aD.of ae,?_));have e:us.isEmpty=decide (p= []):=by
   cases p with
   |nil=>rw[EV lu];rfl
   |cons c p0=>
    rw[decide_eq_false (show ¬(c::p0)= [] from nofun)]
    cases us with
    |nil=>cases lu
    |cons _ _=>rfl
  rw[e];exact this
theorem Cl {dV:Value} (F:bz K "_law_spoilt" "_law_spoilt" Ai dV f fd):bv P w K mg base bt 1 f fd ["_law_rows","_law_way_here","_law_k","_law_put"] kN:=by
 have sc:aF ["_law_rows","_law_way_here","_law_k","_law_put","_law_row","_law_here","_law_fronts"] ["_law_rows","_law_way_here","_law_k","_law_put"] (aw Ai):=dq 119
 and_intros
 ·obtain ⟨_,_,_,_,_,_,_,rfl,_⟩:=h
  rfl
 refine gi h λlp w put k D T _hi=>?_
 refine eI _hi λrs _hj=>?_
 refine gB _hj λ_r1 hl okS kl r3 q=>?_
 clear h _hi _hj;subst _r1;exists _,(ah (cR 4 sc (au br (pv 0) (pv 2) 117)) (ah (aI (ao bK (pv 1) af (aA _)) (aj (aq (am bH (aY bI (pv 0) bA (bj (pv 2))) (aY bI (pv 0) (bj (am aX (pv 2) af)) bA)))) ar) (ah (aI (ao bK (pv 1) af (aA _)) (aj (aq (am bH (am bH (aY bI (pv 0) bA (bj (pv 2))) (@aM _ _ _ _ ((pv 4)<*>ag))) (aY bI (pv 0) (bj (pv 2)) bA)))) ar) (ah (aI (ao bK (pv 1) af (aA _)) (aj (aq (am bH (am bH (am bH (aY bI (pv 0) bA (bj (pv 2))) (aY bI (pv 0) (bj (am aX (pv 2) af)) (bj (am aX (pv 2) af)))) (@aM _ _ _ _ ((pv 4)<*>ag))) (aY bI (pv 0) (bj (am aX (pv 2) af)) bA)))) ar) (ah (aI (ao bK (pv 1) af (aA _)) (aj (aq (am bH (pv 0) (@aM _ _ _ _ ((@aZ _ _ _ _ _ (bE<*>(138<*>ag)))<*>ag))))) ar) (ah (aI (PW.pt (cy (ao bK (pv 1) af (aA _)) (bV (ao bK (au aC (pv 4) af 117) bE (aA _))))) (aj (aq (am bH (am bH (aY bI (pv 0) bA (bj (pv 2))) (@aM _ _ _ _ ((@aZ _ _ _ _ _ (bE<*>((am aX (au aC (pv 4) af 117) (pv 3))<*>ag)))<*>ag))) (aY bI (pv 0) (bj (am aX (pv 2) af)) bA)))) ar) (ah (aI (PW.pt (cy (ao bK (pv 1) af (aA _)) (bV (ao b9 (au aC (pv 4) af 117) (@aZ _ _ _ _ _ (bE<*>(bE<*>(bE<*>ag)))) 129)))) (aj (aq (am bH (am bH (aY bI (pv 0) bA (bj (pv 2))) (@aM _ _ _ _ ((@aZ _ _ _ _ _ ((au aC (pv 4) af 117)<*>((gu rfl rfl B.Gc rfl B.Gg boot_list PyProof.Rows.Boot.«reversed» (au aC (pv 4) af 117))<*>ag)))<*>ag))) (aY bI (pv 0) (bj (am aX (pv 2) af)) bA)))) ar) (ah (aI (PW.pt (cy (ao bK (pv 1) af (aA _)) (bV (ao b9 (au aC (pv 4) af 117) (@aZ _ _ _ _ _ (bE<*>(bE<*>(bE<*>ag)))) 129)))) (aj (aq (am bH (am bH (aY bI (pv 0) bA (bj (pv 2))) (@aM _ _ _ _ ((@aZ _ _ _ _ _ ((au aC (pv 4) af 117)<*>((am bH (au aC (pv 4) af 117) (@aM _ _ _ _ ((pv 3)<*>ag)))<*>ag)))<*>ag))) (aY bI (pv 0) (bj (am aX (pv 2) af)) bA)))) ar) (ah (aI (PW.pt (cy (ao bK (pv 1) af (aA _)) (bV (ao b9 (au aC (pv 4) af 117) (@aZ _ _ _ _ _ (bE<*>(bE<*>(bE<*>ag)))) 129)))) (aj (aq (am bH (am bH (aY bI (pv 0) bA (bj (pv 2))) (@aM _ _ _ _ ((@aZ _ _ _ _ _ ((au aC (pv 4) af 117)<*>((aY bI (au aC (pv 4) af 117) (bj af) bA)<*>ag)))<*>ag))) (aY bI (pv 0) (bj (am aX (pv 2) af)) bA)))) ar) (ah (aI (ao bK (pv 1) af (aA _)) (aj (aq (am bH (am bH (aY bI (pv 0) bA (bj (pv 2))) (@aM _ _ _ _ ((@aZ _ _ _ _ _ (bE<*>((@aM _ _ _ _ (af<*>(af<*>((pv 3)<*>ag))))<*>ag)))<*>ag))) (aY bI (pv 0) (bj (am aX (pv 2) af)) bA)))) ar) (ah (aI (PW.pt (cy (ao bK (pv 1) af (aA _)) (bV (ao bK (au aC (pv 4) af 117) bE (aA _))))) (ah (cR 5 sc (au br (au br (au aC (pv 4) af 117) af 117) af 117)) (ah (cR 6 sc (am bH (au aC (pv 4) af 117) (@aM _ _ _ _ ((@aM _ _ _ _ ((pv 5)<*>((am aX (pv 5) af)<*>((pv 5)<*>ag))))<*>ag)))) (aj (aq (am bH (am bH (aY bI (pv 0) bA (bj (pv 2))) (@aM _ _ _ _ ((@aZ _ _ _ _ _ (bE<*>((au aC (pv 4) af 117)<*>((pv 6)<*>((am bH (au aC (pv 4) af 117) (@aM _ _ _ _ ((@aM _ _ _ _ ((am aX (pv 5) af)<*>ag))<*>ag)))<*>ag)))))<*>ag))) (aY bI (pv 0) (bj (am aX (pv 2) af)) bA)))))) ar) (aj (aq (pv 0))))))))))))))
 try dsimp only[cxK]
 refine A9 ?_;intro D' r11 r10 r9 r8 r7 r6 r5 r4 r3 r2 r1;sleep 0;obtain ⟨vs,el,rl⟩:=id hl;have lvs:=rl.1;have okx:∀x∈rs,jI D T x:=λx hx=>(okS x hx).x
 have kk1:((k:Int)+1)=((k+1:Nat):Int):=rfl;have kk2:((k:Int)+2)=((k+2:Nat):Int):=rfl;have hk:=E2 kl;obtain ⟨v0,hv0,rr⟩:=rl.get hk;obtain ⟨tr,rfl,ra⟩:=rr.row;have okr:=okS _ (EQ kl);generalize rs[k]=r at hk rr ra okr;refine (ν,ν,aJ lp _ _ _ (rfl,rfl,aD.of el,(aT hv0),?_));have g0:aE H H:= .refl _;refine (ν,rfl,ν,tP (λ_=>?_) (λ_=>?_))
 ·skip
  refine (ν,ν,ν,av lp _ (rfl,aD.of (g0 _ _ el),λp1 np1=>?_))
  rw[cO (by lia)]
  have f1:=ac np1 137;have hp1:aH H p1 137 p1=some (.lst (vs.take k)):=ae;generalize aH H p1 137=Hm at f1 hp1⊢;have gm:=(g0).trans f1;refine (ν,ν,av _ _ (rfl,rfl,ν,av lp _ (rfl,aD.of (gm _ _ el),λp4 np4=>?_)))
  rw[kk1,db (by lia)]
  have f4:=ac np4 (.lst (vs.drop (k+1)));refine (aJ p1 p4 _ _ (rfl,rfl,f4 _ _ hp1,ae,by rw[EC,EL];lia,λp5 np5=>?_))
  have f5:=ac np5 (.lst (vs.take k++vs.drop (k+1)));have ff:=f4.trans f5;have hall:=rl.imp λ_ _ q=>de q (gm.trans ff)
  have:=hU okx (ms:= []) (λx hx=>by cases hx) k (k+1)
  rw[FG] at this;exact q p5 (rs.take k++rs.drop (k+1)) _ (gm.trans ff) (_,ae,(hall.take k).append (hall.drop (k+1))) (by rw[E3,EC,EL];lia) this
 refine (ν,rfl,ν,tP (λ_=>?_) (λ_=>?_))
 ·skip
  refine (ν,ν,ν,av lp _ (rfl,aD.of (g0 _ _ el),λp1 np1=>?_))
  rw[cO (by lia)]
  have f1:=ac np1 137;have hp1:aH H p1 137 p1=some (.lst (vs.take k)):=ae;generalize aH H p1 137=Hm at f1 hp1⊢;have gm:=(g0).trans f1;refine (ν,by show 1<=sizeLine;decide,λp2 np2=>?_)
  have f2:=ac np2 (.lst [.ref tr]);refine (aJ p1 p2 _ _ (rfl,rfl,f2 _ _ hp1,ae,by rw[EC,EG];lia,λp3 np3=>?_))
  have f3:=ac np3 (.lst (vs.take k++ [.ref tr]));refine (ν,ν,ν,av lp _ (rfl,aD.of ((gm.trans (f2.trans f3)) _ _ el),λp4 np4=>?_))
  rw[db (by lia)]
  have f4:=ac np4 (.lst (vs.drop k));refine (aJ p3 p4 _ _ (rfl,rfl,f4 _ _ ae,ae,by rw[E3,EC,EL,EG];lia,λp5 np5=>?_))
  have f5:=ac np5 (.lst (vs.take k++ [.ref tr]++vs.drop k));have ff:=(f2.trans f3).trans (f4.trans f5);have hall:=rl.imp λ_ _ q=>de q (gm.trans ff)
  exact q p5 (rs.take k++ [r]++rs.drop k) _ (gm.trans ff) (_,ae,((hall.take k).append (.one (de rr (gm.trans ff)))).append (hall.drop k)) (by rw[E3,E3,EC,EL,EG];lia) (hU okx (hV okr.x) k k)
 refine (ν,rfl,ν,tP (λ_=>?_) (λ_=>?_))
 ·skip
  refine (ν,ν,ν,av lp _ (rfl,aD.of (g0 _ _ el),λp1 np1=>?_))
  rw[cO (by lia)]
  have f1:=ac np1 137;have hp1:aH H p1 137 p1=some (.lst (vs.take k)):=ae;generalize aH H p1 137=Hm at f1 hp1⊢;have gm:=(g0).trans f1;refine (ν,ν,av _ _ (rfl,rfl,ν,ν,av _ _ (rfl,rfl,ν,av lp _ (rfl,aD.of (gm _ _ el),λp2 np2=>?_))))
  rw[kk1,kk2,uH];generalize hlo:min (k+1) vs.length=lo;have hb1:min (k+2) vs.length-lo<=1:=by lia
  generalize min (k+2) vs.length-lo=b1 at hb1;have f2:=ac np2 (.lst ((vs.drop lo).take b1));refine (aJ p1 p2 _ _ (rfl,rfl,f2 _ _ hp1,ae,by rw[EC,EC,EL];lia,λp3 np3=>?_))
  have f3:=ac np3 (.lst (vs.take k++(vs.drop lo).take b1));refine (ν,by show 1<=sizeLine;decide,λp4 np4=>?_)
  have f4:=ac np4 (.lst [.ref tr]);refine (aJ p3 p4 _ _ (rfl,rfl,f4 _ _ ae,ae,by rw[E3,EC,EC,EL,EG];lia,λp5 np5=>?_))
  have f5:=ac np5 (.lst (vs.take k++(vs.drop lo).take b1++ [.ref tr]));have gn:=gm.trans ((f2.trans f3).trans (f4.trans f5));refine (ν,ν,av _ _ (rfl,rfl,ν,av lp _ (rfl,aD.of (gn _ _ el),λp6 np6=>?_)))
  rw[kk2,kO];generalize hl2:min (k+2) vs.length=l2;have f6:=ac np6 (.lst (vs.drop l2));refine (aJ p5 p6 _ _ (rfl,rfl,f6 _ _ ae,ae,by rw[E3,E3,EC,EC,EL,EL,EG];lia,λp7 np7=>?_))
  have f7:=ac np7 (.lst (vs.take k++(vs.drop lo).take b1++ [.ref tr]++vs.drop l2));have gf:=gn.trans (f6.trans f7);have hall:=rl.imp λ_ _ q=>de q gf
  refine q p7 (rs.take k++(rs.drop lo).take b1++ [r]++rs.drop l2) _ gf (_,ae,(((hall.take k).append ((hall.drop lo).take b1)).append (.one (de rr gf))).append (hall.drop l2)) (by rw[E3,E3,E3,EC,EC,EL,EL,EG];lia) λx hx=>?_
  rcases EJ.mp hx with y|y
  ·rcases EJ.mp y with z|z
   ·rcases EJ.mp z with u|u
    ·exact okx x (FL u)
    ·exact okx x (Fs (FL u))
   ·exact hV okr.x x z
  ·exact okx x (Fs y)
 refine (ν,rfl,ν,tP (λ_=>?_) (λ_=>?_))
 ·refine (ν,by show 0<=sizeLine;decide,λc0 nc0=>(by show 2<=sizeLine;decide,λtn ntn=>(by show 1<=sizeLine;decide,λp2 np2=>?_)))
  have f0:=ac nc0 142;have f1:=ac ntn (.tup [.str "chain",.ref c0]);have f2:=ac np2 (.lst [.ref tn]);have gm:=(f0.trans f1).trans f2;have etn:iq An (aH (aH H c0 142) tn (.tup [.str "chain",.ref c0])) (.ref tn) (.one "chain" []):=⟨tn,rfl,trivial,c0,trivial,ae,f1 _ _ ae⟩;refine (aJ lp p2 _ _ (rfl,rfl,gm _ _ el,ae,by rw[EG];lia,λp5 np5=>?_))
  have f5:=ac np5 (.lst (vs++ [.ref tn]));refine q p5 (rs++ [.one "chain" []]) _ (gm.trans f5) (_,ae,(rl.imp λ_ _ q=>de q (gm.trans f5)).append (.one (de etn (f2.trans f5)))) (by rw[E3,EG];lia) λx hx=>?_
  rcases EJ.mp hx with y|y
  ·exact okx x y
  ·rw[EA.mp y];exact qb (.inl rfl) 147 λe=>absurd e 118
 try dsimp only[cg,cM]
 refine cut (λσ H'=>σ= [GV lp,some (.int w),some (.int (k:Int)),some (.int put),GV tr,none,none]/\aE H H') (λN hN=>?_) ?_
 ·refine (ν,rfl,ν,tP (λ_=>?_) (λ_=>cu (hN _ _ (rfl,g0))))
  obtain ⟨wd,ys,ew,iw⟩:=eC ra okr.ok.1;refine (ν,aJ tr _ _ _ (rfl,rfl,be.of ew,aT (j:=0) rfl,rfl,ν,d2 (λcw=>?_) (λ_=>hN _ _ (rfl,g0))))
  cases r with
  |full z F G=>
   obtain ⟨lf,lb,e,_,_⟩:=ra;rw[e] at ew;cases ew;exact absurd cw 118
  |one w1 C=>
   obtain ⟨c1,e,ec1⟩:=ra;rw[e] at ew;cases ew;have hw1:(wd= "chain" ∨wd= "ring" ∨wd= "split")/\C.length<=30:=okr.ok.1;injection cw with cw
   subst cw;rcases hw1.1 with z|z|z<;>exact absurd z 118
  |ways i=>
   have er:H tr=some (.tup [.str "ways",.int i]):=ra;refine (ν,ν,ν,av lp _ (rfl,aD.of (g0 _ _ el),λp1 np1=>?_))
   rw[cO (by lia)]
   have f1:=ac np1 137;have hp1:aH H p1 137 p1=some (.lst (vs.take k)):=ae;generalize aH H p1 137=Hm at f1 hp1⊢;have gm:=(g0).trans f1;refine (ν,aJ tr _ _ _ (rfl,rfl,be.of (gm _ _ er),rfl,ν,av _ _ (rfl,rfl,by show 2<=sizeLine;decide,λtn ntn=>?_)))
   have f9:=ac ntn (.tup [.str "ways",.int (i+put)]);have rr1:iq An (aH Hm tn (.tup [.str "ways",.int (i+put)])) (.ref tn) (.ways (i+put)):=⟨tn,rfl,trivial,ae⟩;replace hp1:=f9 _ _ hp1;replace gm:=gm.trans f9;refine (by show 1<=sizeLine;decide,λp2 np2=>?_)
   have f2:=ac np2 (.lst [.ref tn]);refine (aJ p1 p2 _ _ (rfl,rfl,f2 _ _ hp1,ae,by rw[EC,EG];lia,λp3 np3=>?_))
   have f3:=ac np3 (.lst (vs.take k++ [.ref tn]));refine (ν,ν,av _ _ (rfl,rfl,ν,av lp _ (rfl,aD.of ((gm.trans (f2.trans f3)) _ _ el),λp4 np4=>?_)))
   rw[kk1,db (by lia)]
   have f4:=ac np4 (.lst (vs.drop (k+1)));refine (aJ p3 p4 _ _ (rfl,rfl,f4 _ _ ae,ae,by rw[E3,EC,EL,EG];lia,λp5 np5=>?_))
   have f5:=ac np5 (.lst (vs.take k++ [.ref tn]++vs.drop (k+1)));have ff:=(f2.trans f3).trans (f4.trans f5);have hall:=rl.imp λ_ _ q=>de q (gm.trans ff)
   exact q p5 (rs.take k++ [.ways (i+put)]++rs.drop (k+1)) _ (gm.trans ff) (_,ae,((hall.take k).append (.one (de rr1 ff))).append (hall.drop (k+1))) (by rw[E3,E3,EC,EL,EG];lia) (hU okx (hV yZ) k (k+1))
 rintro σ H1 ⟨rfl,g1⟩;try dsimp only[cg,cM]
 refine cut (λσ H'=>σ= [GV lp,some (.int w),some (.int (k:Int)),some (.int put),GV tr,none,none]/\aE H H') (λN hN=>?_) ?_
 ·refine (ν,rfl,ν,tP (λ_=>?_) (λ_=>cu (hN _ _ (rfl,g1))))
  have raG:=ra.same g1;obtain ⟨wd,ys,ew,iw⟩:=eC raG okr.ok.1;refine (ν,aJ tr _ _ _ (rfl,rfl,be.of ew,aT (j:=0) rfl,by show 3<=sizeLine;decide,λtt ntt=>?_))
  have ft:=ac ntt (.tup [.str "split",.str "chain",.str "ring"]);refine (av tt _ (rfl,.inr (be.of ae),rfl,lR ["split","chain","ring"],ν,CB (gs:= ["split","chain","ring"]) (λcw=>?_) (λ_=>hN _ _ (rfl,g1.trans ft))))
  generalize aH H1 tt (.tup [.str "split",.str "chain",.str "ring"])=Ht at ft⊢;have gt:=g1.trans ft;cases r with
  |full z F G=>
   obtain ⟨lf,lb,e,_,_⟩:=raG;rw[e] at ew;cases ew;exact absurd cw 118
  |ways i=>
   have e:H1 tr=some (.tup [.str "ways",.int i]):=raG;rw[e] at ew;cases ew;exact absurd cw 118
  |one w1 C=>
   obtain ⟨c1,e,ec1⟩:=raG;rw[e] at ew;cases ew;replace e:=ft _ _ e;replace ec1:=ft _ _ ec1;have okc:=okr.os _ _ rfl;have hw1:wd= "chain" ∨wd= "ring" ∨wd= "split" :=okr.ok.1.1;clear hN;refine (ν,ν,ν,av lp _ (rfl,aD.of (gt _ _ el),λp1 np1=>?_))
   rw[cO (by lia)]
   have f1:=ac np1 137;have hp1:aH Ht p1 137 p1=some (.lst (vs.take k)):=ae;generalize aH Ht p1 137=Hm at f1 hp1⊢;have gm:=(gt).trans f1;have er:=f1 _ _ e;have ec:=f1 _ _ ec1;refine (ν,aJ tr _ _ _ (rfl,rfl,be.of er,rfl,ν,aJ tr _ _ _ (rfl,rfl,be.of er,rfl,av c1 _ (rfl,aD.of ec,λc2 nc2=>?_))))
   have f8:=ac nc2 (.lst (C.map V.int).reverse);refine (by show 2<=sizeLine;decide,λtn ntn=>?_)
   have f9:=ac ntn (.tup [.str wd,.ref c2]);have rr1:iq An (aH (aH Hm c2 (.lst (C.map V.int).reverse)) tn (.tup [.str wd,.ref c2])) (.ref tn) (.one wd C.reverse):=⟨tn,rfl,trivial,c2,trivial,ae,by rw[f9 _ _ ae,List.map_reverse]⟩
   replace hp1:=(f8.trans f9) _ _ hp1;replace gm:=gm.trans (f8.trans f9);refine (by show 1<=sizeLine;decide,λp2 np2=>?_)
   have f2:=ac np2 (.lst [.ref tn]);refine (aJ p1 p2 _ _ (rfl,rfl,f2 _ _ hp1,ae,by rw[EC,EG];lia,λp3 np3=>?_))
   have f3:=ac np3 (.lst (vs.take k++ [.ref tn]));refine (ν,ν,av _ _ (rfl,rfl,ν,av lp _ (rfl,aD.of ((gm.trans (f2.trans f3)) _ _ el),λp4 np4=>?_)))
   rw[kk1,db (by lia)]
   have f4:=ac np4 (.lst (vs.drop (k+1)));refine (aJ p3 p4 _ _ (rfl,rfl,f4 _ _ ae,ae,by rw[E3,EC,EL,EG];lia,λp5 np5=>?_))
   have f5:=ac np5 (.lst (vs.take k++ [.ref tn]++vs.drop (k+1)));have ff:=(f2.trans f3).trans (f4.trans f5);have hall:=rl.imp λ_ _ q=>de q (gm.trans ff)
   exact q p5 (rs.take k++ [.one wd (C.reverse)]++rs.drop (k+1)) _ (gm.trans ff) (_,ae,((hall.take k).append (.one (de rr1 ff))).append (hall.drop (k+1))) (by rw[E3,E3,EC,EL,EG];lia) (hU okx (hV (qb hw1 (by rw[Ek];lia) (λe=>by have:=okc.2 e;rw[Ek];lia))) k (k+1))
 rintro σ H2 ⟨rfl,g2⟩;try dsimp only[cg,cM]
 refine cut (λσ H'=>σ= [GV lp,some (.int w),some (.int (k:Int)),some (.int put),GV tr,none,none]/\aE H H') (λN hN=>?_) ?_
 ·refine (ν,rfl,ν,tP (λ_=>?_) (λ_=>cu (hN _ _ (rfl,g2))))
  have raG:=ra.same g2;obtain ⟨wd,ys,ew,iw⟩:=eC raG okr.ok.1;refine (ν,aJ tr _ _ _ (rfl,rfl,be.of ew,aT (j:=0) rfl,by show 3<=sizeLine;decide,λtt ntt=>?_))
  have ft:=ac ntt (.tup [.str "split",.str "chain",.str "ring"]);refine (av tt _ (rfl,.inr (be.of ae),rfl,lR ["split","chain","ring"],ν,CB (gs:= ["split","chain","ring"]) (λcw=>?_) (λ_=>hN _ _ (rfl,g2.trans ft))))
  generalize aH H2 tt (.tup [.str "split",.str "chain",.str "ring"])=Ht at ft⊢;have gt:=g2.trans ft;cases r with
  |full z F G=>
   obtain ⟨lf,lb,e,_,_⟩:=raG;rw[e] at ew;cases ew;exact absurd cw 118
  |ways i=>
   have e:H2 tr=some (.tup [.str "ways",.int i]):=raG;rw[e] at ew;cases ew;exact absurd cw 118
  |one w1 C=>
   obtain ⟨c1,e,ec1⟩:=raG;rw[e] at ew;cases ew;replace e:=ft _ _ e;replace ec1:=ft _ _ ec1;have okc:=okr.os _ _ rfl;have hw1:wd= "chain" ∨wd= "ring" ∨wd= "split" :=okr.ok.1.1;clear hN;refine (ν,ν,ν,av lp _ (rfl,aD.of (gt _ _ el),λp1 np1=>?_))
   rw[cO (by lia)]
   have f1:=ac np1 137;have hp1:aH Ht p1 137 p1=some (.lst (vs.take k)):=ae;generalize aH Ht p1 137=Hm at f1 hp1⊢;have gm:=(gt).trans f1;have er:=f1 _ _ e;have ec:=f1 _ _ ec1;refine (ν,aJ tr _ _ _ (rfl,rfl,be.of er,rfl,ν,aJ tr _ _ _ (rfl,rfl,be.of er,rfl,ν,by show 1<=sizeLine;decide,λc2 nc2=>?_)))
   have f7:=ac nc2 (.lst [.int put]);refine (aJ c1 c2 _ _ (rfl,rfl,f7 _ _ ec,ae,by rw[E1,EG];lia,λc3 nc3=>?_))
   have f8:=ac nc3 (.lst (C.map V.int++ [.int put]));refine (by show 2<=sizeLine;decide,λtn ntn=>?_)
   have f9:=ac ntn (.tup [.str wd,.ref c3]);have rr1:iq An (aH (aH (aH Hm c2 (.lst [.int put])) c3 (.lst (C.map V.int++ [.int put]))) tn (.tup [.str wd,.ref c3])) (.ref tn) (.one wd (C++ [put])):=⟨tn,rfl,trivial,c3,trivial,ae,by rw[f9 _ _ ae,EU];rfl⟩
   replace hp1:=((f7.trans f8).trans f9) _ _ hp1;replace gm:=gm.trans ((f7.trans f8).trans f9);refine (by show 1<=sizeLine;decide,λp2 np2=>?_)
   have f2:=ac np2 (.lst [.ref tn]);refine (aJ p1 p2 _ _ (rfl,rfl,f2 _ _ hp1,ae,by rw[EC,EG];lia,λp3 np3=>?_))
   have f3:=ac np3 (.lst (vs.take k++ [.ref tn]));refine (ν,ν,av _ _ (rfl,rfl,ν,av lp _ (rfl,aD.of ((gm.trans (f2.trans f3)) _ _ el),λp4 np4=>?_)))
   rw[kk1,db (by lia)]
   have f4:=ac np4 (.lst (vs.drop (k+1)));refine (aJ p3 p4 _ _ (rfl,rfl,f4 _ _ ae,ae,by rw[E3,EC,EL,EG];lia,λp5 np5=>?_))
   have f5:=ac np5 (.lst (vs.take k++ [.ref tn]++vs.drop (k+1)));have ff:=(f2.trans f3).trans (f4.trans f5);have hall:=rl.imp λ_ _ q=>de q (gm.trans ff)
   exact q p5 (rs.take k++ [.one wd (C++ [put])]++rs.drop (k+1)) _ (gm.trans ff) (_,ae,((hall.take k).append (.one (de rr1 ff))).append (hall.drop (k+1))) (by rw[E3,E3,EC,EL,EG];lia) (hU okx (hV (qb hw1 (by rw[E3,EG];lia) (λe=>by have:=okc.2 e;rw[E3,EG];lia))) k (k+1))
 rintro σ H3 ⟨rfl,g3⟩;try dsimp only[cg,cM]
 refine cut (λσ H'=>σ= [GV lp,some (.int w),some (.int (k:Int)),some (.int put),GV tr,none,none]/\aE H H') (λN hN=>?_) ?_
 ·refine (ν,rfl,ν,tP (λ_=>?_) (λ_=>cu (hN _ _ (rfl,g3))))
  have raG:=ra.same g3;obtain ⟨wd,ys,ew,iw⟩:=eC raG okr.ok.1;refine (ν,aJ tr _ _ _ (rfl,rfl,be.of ew,aT (j:=0) rfl,by show 3<=sizeLine;decide,λtt ntt=>?_))
  have ft:=ac ntt (.tup [.str "split",.str "chain",.str "ring"]);refine (av tt _ (rfl,.inr (be.of ae),rfl,lR ["split","chain","ring"],ν,CB (gs:= ["split","chain","ring"]) (λcw=>?_) (λ_=>hN _ _ (rfl,g3.trans ft))))
  generalize aH H3 tt (.tup [.str "split",.str "chain",.str "ring"])=Ht at ft⊢;have gt:=g3.trans ft;cases r with
  |full z F G=>
   obtain ⟨lf,lb,e,_,_⟩:=raG;rw[e] at ew;cases ew;exact absurd cw 118
  |ways i=>
   have e:H3 tr=some (.tup [.str "ways",.int i]):=raG;rw[e] at ew;cases ew;exact absurd cw 118
  |one w1 C=>
   obtain ⟨c1,e,ec1⟩:=raG;rw[e] at ew;cases ew;replace e:=ft _ _ e;replace ec1:=ft _ _ ec1;have okc:=okr.os _ _ rfl;have hw1:wd= "chain" ∨wd= "ring" ∨wd= "split" :=okr.ok.1.1;clear hN;refine (ν,ν,ν,av lp _ (rfl,aD.of (gt _ _ el),λp1 np1=>?_))
   rw[cO (by lia)]
   have f1:=ac np1 137;have hp1:aH Ht p1 137 p1=some (.lst (vs.take k)):=ae;generalize aH Ht p1 137=Hm at f1 hp1⊢;have gm:=(gt).trans f1;have er:=f1 _ _ e;have ec:=f1 _ _ ec1;refine (ν,aJ tr _ _ _ (rfl,rfl,be.of er,rfl,ν,aJ tr _ _ _ (rfl,rfl,be.of er,rfl,ν,av c1 _ (rfl,aD.of ec,λc2 nc2=>?_))))
   have e77:fM (C.map V.int) (some 1) none=(C.map V.int).drop (min 1 (C.map V.int).length):=kO _ 1;rw[e77,<-List.map_drop];have f8:=ac nc2 (.lst ((C.drop (min 1 (C.map V.int).length)).map V.int));refine (by show 2<=sizeLine;decide,λtn ntn=>?_)
   have f9:=ac ntn (.tup [.str wd,.ref c2]);have rr1:iq An (aH (aH Hm c2 (.lst ((C.drop (min 1 (C.map V.int).length)).map V.int))) tn (.tup [.str wd,.ref c2])) (.ref tn) (.one wd (C.drop (min 1 (C.map V.int).length))):=⟨tn,rfl,trivial,c2,trivial,ae,f9 _ _ ae⟩;replace hp1:=(f8.trans f9) _ _ hp1;replace gm:=gm.trans (f8.trans f9);refine (by show 1<=sizeLine;decide,λp2 np2=>?_)
   have f2:=ac np2 (.lst [.ref tn]);refine (aJ p1 p2 _ _ (rfl,rfl,f2 _ _ hp1,ae,by rw[EC,EG];lia,λp3 np3=>?_))
   have f3:=ac np3 (.lst (vs.take k++ [.ref tn]));refine (ν,ν,av _ _ (rfl,rfl,ν,av lp _ (rfl,aD.of ((gm.trans (f2.trans f3)) _ _ el),λp4 np4=>?_)))
   rw[kk1,db (by lia)]
   have f4:=ac np4 (.lst (vs.drop (k+1)));refine (aJ p3 p4 _ _ (rfl,rfl,f4 _ _ ae,ae,by rw[E3,EC,EL,EG];lia,λp5 np5=>?_))
   have f5:=ac np5 (.lst (vs.take k++ [.ref tn]++vs.drop (k+1)));have ff:=(f2.trans f3).trans (f4.trans f5);have hall:=rl.imp λ_ _ q=>de q (gm.trans ff)
   exact q p5 (rs.take k++ [.one wd (C.drop (min 1 (C.map V.int).length))]++rs.drop (k+1)) _ (gm.trans ff) (_,ae,((hall.take k).append (.one (de rr1 ff))).append (hall.drop (k+1))) (by rw[E3,E3,EC,EL,EG];lia) (hU okx (hV (qb hw1 (by rw[EL];lia) (λe=>by have:=okc.2 e;rw[EL];lia))) k (k+1))
 rintro σ H4 ⟨rfl,g4⟩;refine (ν,rfl,ν,tP (λ_=>?_) (λ_=>?_))
 ·skip
  refine (ν,ν,ν,av lp _ (rfl,aD.of (g4 _ _ el),λp1 np1=>?_))
  rw[cO (by lia)]
  have f1:=ac np1 137;have hp1:aH H4 p1 137 p1=some (.lst (vs.take k)):=ae;generalize aH H4 p1 137=Hm at f1 hp1⊢;have gm:=(g4).trans f1;refine (ν,by show 3<=sizeLine;decide,λc2 nc2=>(by show 2<=sizeLine;decide,λtn ntn=>?_))
  have f8:=ac nc2 (.lst [.int 0,.int 1,.int put]);have f9:=ac ntn (.tup [.str "ring",.ref c2]);have rr1:iq An (aH (aH Hm c2 (.lst [.int 0,.int 1,.int put])) tn (.tup [.str "ring",.ref c2])) (.ref tn) (.one "ring" [0,1,put]):=⟨tn,rfl,trivial,c2,trivial,ae,f9 _ _ ae⟩;replace hp1:=(f8.trans f9) _ _ hp1;replace gm:=gm.trans (f8.trans f9);refine (by show 1<=sizeLine;decide,λp2 np2=>?_)
  have f2:=ac np2 (.lst [.ref tn]);refine (aJ p1 p2 _ _ (rfl,rfl,f2 _ _ hp1,ae,by rw[EC,EG];lia,λp3 np3=>?_))
  have f3:=ac np3 (.lst (vs.take k++ [.ref tn]));refine (ν,ν,av _ _ (rfl,rfl,ν,av lp _ (rfl,aD.of ((gm.trans (f2.trans f3)) _ _ el),λp4 np4=>?_)))
  rw[kk1,db (by lia)]
  have f4:=ac np4 (.lst (vs.drop (k+1)));refine (aJ p3 p4 _ _ (rfl,rfl,f4 _ _ ae,ae,by rw[E3,EC,EL,EG];lia,λp5 np5=>?_))
  have f5:=ac np5 (.lst (vs.take k++ [.ref tn]++vs.drop (k+1)));have ff:=(f2.trans f3).trans (f4.trans f5);have hall:=rl.imp λ_ _ q=>de q (gm.trans ff)
  exact q p5 (rs.take k++ [.one "ring" [0,1,put]]++rs.drop (k+1)) _ (gm.trans ff) (_,ae,((hall.take k).append (.one (de rr1 ff))).append (hall.drop (k+1))) (by rw[E3,E3,EC,EL,EG];lia) (hU okx (hV (qb (.inr (.inl rfl)) 147 (λe=>absurd e 118))) k (k+1))
 try dsimp only[cg,cM]
 refine cut (λσ H'=>σ= [GV lp,some (.int w),some (.int (k:Int)),some (.int put),GV tr,none,none]/\aE H H') (λN hN=>?_) ?_
 ·refine (ν,rfl,ν,tP (λ_=>?_) (λ_=>cu (hN _ _ (rfl,g4))))
  have raG:=ra.same g4;obtain ⟨wd,ys,ew,iw⟩:=eC raG okr.ok.1;refine (ν,aJ tr _ _ _ (rfl,rfl,be.of ew,aT (j:=0) rfl,rfl,ν,d2 (λcw=>?_) (λ_=>hN _ _ (rfl,g4))))
  clear hN;cases r with
  |ways i=>
   have e:H4 tr=some (.tup [.str "ways",.int i]):=raG;rw[e] at ew;cases ew;exact absurd cw 118
  |one w1 C=>
   obtain ⟨c1,e,ec1⟩:=raG;rw[e] at ew;cases ew;have hw1:(wd= "chain" ∨wd= "ring" ∨wd= "split")/\C.length<=30:=okr.ok.1;injection cw with cw
   subst cw;rcases hw1.1 with z|z|z<;>exact absurd z 118
  |full z F G=>
   obtain ⟨lf,lb,e,hF,hG⟩:=raG;refine pw (okr.fs z F G rfl) λS m _hi=>?_
   refine gB _hi λhm sne snd s4 srg _hj=>?_
   refine dk _hj λeF eG=>?_
   obtain ⟨vf,ef,rf⟩:=id hF;obtain ⟨vb,eb,rb⟩:=id hG;have lS:0<S.length:=FU.mpr sne;have h0:=E2 lS;have hF0:F[0]?=some [2*S[0]]:=by rw[eF,EB,h0];rfl
   have hFl:F.length=S.length:=by rw[eF,E1]
   have hGl:G.length=S.length:=by rw[eG,E1]
   generalize S[0]=i0 at hF0 h0;obtain ⟨vf0,hvf0,hc0⟩:=rf.get hF0;obtain ⟨cf,rfl,_,ecf⟩:=fY hc0;have lvf:=rf.1;have lvb:=rb.1;refine (ν,aJ tr _ _ _ (rfl,rfl,be.of e,rfl,aJ lf _ _ _ (rfl,rfl,aD.of ef,(aT (j:=0) hvf0),aJ cf _ _ _ (rfl,rfl,aD.of ecf,rfl,?_))));refine (ν,aJ tr _ _ _ (rfl,rfl,be.of e,rfl,ν,ν,av _ _ (rfl,rfl,ν,by show 3<=sizeLine;decide,λd1 nd1=>(by show 1<=sizeLine;decide,λd2 nd2=>?_))))
   have x1:=ac nd1 (.lst [.int (2*i0),.int (2*i0+1),.int (2*i0)]);have x2:=ac nd2 (.lst [.ref d1]);refine (aJ lf d2 _ _ (rfl,rfl,(x1.trans x2) _ _ ef,ae,by rw[EG];lia,λlf2 nlf2=>?_))
   have x3:=ac nlf2 (.lst (vf++ [.ref d1]));have gx:=g4.trans ((x1.trans x2).trans x3);have hF2:uv (aH (aH (aH H4 d1 (.lst [.int (2*i0),.int (2*i0+1),.int (2*i0)])) d2 (.lst [.ref d1])) lf2 (.lst (vf++ [.ref d1]))) lf2 (F++ [[2*i0,2*i0+1,2*i0]]):=⟨_,ae,(rf.imp λ_ _ q=>de q ((x1.trans x2).trans x3)).append (.one (jh trivial ((x2.trans x3) _ _ ae)))⟩
   have ex:=((x1.trans x2).trans x3) _ _ e;have ebx:=((x1.trans x2).trans x3) _ _ eb;have rbx:=rb.imp λ_ _ q=>de q ((x1.trans x2).trans x3)
   generalize aH (aH (aH H4 d1 (.lst [.int (2*i0),.int (2*i0+1),.int (2*i0)])) d2 (.lst [.ref d1])) lf2 (.lst (vf++ [.ref d1]))=Hx at gx hF2 ex ebx rbx⊢;refine (ν,ν,ν,av lp _ (rfl,aD.of (gx _ _ el),λp1 np1=>?_))
   rw[cO (by lia)]
   have f1:=ac np1 137;have hp1:aH Hx p1 137 p1=some (.lst (vs.take k)):=ae;generalize aH Hx p1 137=Hm at f1 hp1⊢;have gm:=(gx).trans f1;refine (ν,aJ tr _ _ _ (rfl,rfl,be.of (f1 _ _ ex),rfl,ν,ν,aJ tr _ _ _ (rfl,rfl,be.of (f1 _ _ ex),rfl,ν,av _ _ (rfl,rfl,by show 1<=sizeLine;decide,λd3 nd3=>(by show 1<=sizeLine;decide,λd4 nd4=>?_)))))
   have y1:=ac nd3 (.lst [.int (2*i0+1)]);have y2:=ac nd4 (.lst [.ref d3]);refine (aJ lb d4 _ _ (rfl,rfl,(f1.trans (y1.trans y2)) _ _ ebx,ae,by rw[EG];lia,λxV nlb2=>?_))
   have y3:=ac nlb2 (.lst (vb++ [.ref d3]));have yy:=(y1.trans y2).trans y3;have hG2:uv (aH (aH (aH Hm d3 (.lst [.int (2*i0+1)])) d4 (.lst [.ref d3])) xV (.lst (vb++ [.ref d3]))) xV (G++ [[2*i0+1]]):=⟨_,ae,(rbx.imp λ_ _ q=>de q (f1.trans yy)).append (.one (jh trivial ((y2.trans y3) _ _ ae)))⟩
   have hF3:=hF2.same (f1.trans yy);replace hp1:=yy _ _ hp1;replace gm:=gm.trans yy;generalize aH (aH (aH Hm d3 (.lst [.int (2*i0+1)])) d4 (.lst [.ref d3])) xV (.lst (vb++ [.ref d3]))=Hy at gm hG2 hF3 hp1⊢;refine (by show 4<=sizeLine;decide,λtn ntn=>?_)
   have f9:=ac ntn (.tup [.str "full",.str z,.ref lf2,.ref xV]);have rr1:iq An (aH Hy tn (.tup [.str "full",.str z,.ref lf2,.ref xV])) (.ref tn) (.full z (F++ [[2*i0,2*i0+1,2*i0]]) (G++ [[2*i0+1]])):=⟨tn,rfl,trivial,av lf2 xV ⟨trivial,trivial,ae,hF3.same f9,hG2.same f9⟩⟩;replace hp1:=f9 _ _ hp1;replace gm:=gm.trans f9;have rx1:jI D T (.full z (F++ [[2*i0,2*i0+1,2*i0]]) (G++ [[2*i0+1]])):=Bi okr.fs hF0 rfl;refine (by show 1<=sizeLine;decide,λp2 np2=>?_)
   have f2:=ac np2 (.lst [.ref tn]);refine (aJ p1 p2 _ _ (rfl,rfl,f2 _ _ hp1,ae,by rw[EC,EG];lia,λp3 np3=>?_))
   have f3:=ac np3 (.lst (vs.take k++ [.ref tn]));refine (ν,ν,av _ _ (rfl,rfl,ν,av lp _ (rfl,aD.of ((gm.trans (f2.trans f3)) _ _ el),λp4 np4=>?_)))
   rw[kk1,db (by lia)]
   have f4:=ac np4 (.lst (vs.drop (k+1)));refine (aJ p3 p4 _ _ (rfl,rfl,f4 _ _ ae,ae,by rw[E3,EC,EL,EG];lia,λp5 np5=>?_))
   have f5:=ac np5 (.lst (vs.take k++ [.ref tn]++vs.drop (k+1)));have ff:=(f2.trans f3).trans (f4.trans f5);have hall:=rl.imp λ_ _ q=>de q (gm.trans ff)
   exact q p5 (rs.take k++ [.full z (F++ [[2*i0,2*i0+1,2*i0]]) (G++ [[2*i0+1]])]++rs.drop (k+1)) _ (gm.trans ff) (_,ae,((hall.take k).append (.one (de rr1 ff))).append (hall.drop (k+1))) (by rw[E3,E3,EC,EL,EG];lia) (hU okx (hV rx1) k (k+1))
 rintro σ H5 ⟨rfl,g5⟩;exact (ν,q lp rs _ g5 (hl.same g5) (by lia) okx)
theorem Cm {dV:Value} (F:bz K "_law_copied" "_law_copied" Aj dV f fd):bv P w K mg base bt 1 f fd ["_law_row"] kP:=by
 have sc:aF ["_law_row"] ["_law_row"] (aw Aj):=dq 119
 and_intros
 ·obtain ⟨_,_,_,rfl,_⟩:=h
  rfl
 obtain ⟨t,r,Z,rfl,hrZ,ok,q⟩:=h;obtain ⟨_,e_,hr'⟩:=hrZ.row;cases e_;exists _,(ah (aI (ao bK 134 bE (aA _)) (aj (aq (pv 0))) ar) (ah (aI (ao bK 134 bE (aA _)) (aj (aq (@aZ _ _ _ _ _ (134<*>(134<*>((bZ (own:= "_law_chain") (ys:= []) (js:= []) rfl 130 (aG 134) (λC fp s H=>(b8 (gv (K:=K) rfl) rfl B.Gc boot_list ((pv 0)<*>ag))))<*>((bZ (own:= "_law_chain") (ys:= []) (js:= []) rfl 130 (aG 134) (λC fp s H=>(b8 (gv (K:=K) rfl) rfl B.Gc boot_list ((pv 0)<*>ag))))<*>ag))))))) ar) (aj (aq (@aZ _ _ _ _ _ (134<*>((b8 bY rfl B.Gc boot_list (134<*>ag))<*>ag)))))))
 try dsimp only[cxK]
 refine lt3 ?_;intro D' r2 r1;sleep 0;cases r with
 |ways i=>
  have e:H t=some (.tup [.str "ways",.int i]):=hr';exact (ν,aJ t _ _ _ (rfl,rfl,be.of e,rfl,rfl,ν,dT rfl (ν,q t H 148 (ku hrZ λa h=> .inr h))))
 |one w C=>
  obtain ⟨c,e,ec⟩:=hr';obtain ⟨hw,_⟩:=ok;have w1:¬V.str w=V.str "ways" :=λz=>by
   injection z with z
   subst z;rcases hw with z|z|z<;>exact absurd z 118
  have w2:¬V.str w=V.str "full" :=λz=>by
   injection z with z
   subst z;rcases hw with z|z|z<;>exact absurd z 118
  refine (ν,aJ t _ _ _ (rfl,rfl,be.of e,rfl,rfl,ν,dF w1 (ν,aJ t _ _ _ (rfl,rfl,be.of e,rfl,rfl,ν,dF w2 (ν,aJ t _ _ _ (rfl,rfl,be.of e,rfl,ν,aJ t _ _ _ (rfl,rfl,be.of e,rfl,av c _ (rfl,.inl (aD.of ec),λc' nc'=>(by show 2<=sizeLine;decide,λt' nt'=>?_)))))))))
  exact q t' _ ((ac nc' _).trans (ac nt' _)) (t',rfl,.inl ((ac nc' _).free nt'),c',.inl nc',ae,ac nt' _ _ _ ae)
 |full z F2 G=>
  obtain ⟨lf,lb,e,hF,hG⟩:=hr';obtain ⟨o1,o2,o3,o4⟩:=ok;obtain ⟨vf,ef,rf⟩:=id hF;have lF:vf.length=F2.length:=rf.1;refine (ν,aJ t _ _ _ (rfl,rfl,be.of e,rfl,rfl,ν,dF 118 (ν,aJ t _ _ _ (rfl,rfl,be.of e,rfl,rfl,ν,dT rfl (ν,aJ t _ _ _ (rfl,rfl,be.of e,rfl,ν,aJ t _ _ _ (rfl,rfl,be.of e,rfl,ν,aJ t _ _ _ (rfl,rfl,be.of e,rfl,lf,rfl,(_,aD.of ef),bJ nQ 145 (λi=>F2.getD i []) (aD.of ef) (by lia) 136 (λi y hy H2 g2 Q' hQ=>?_) λh1 H1 nh1 gh1 hh1=>?_))))))))
  ·obtain ⟨f,hf,hc⟩:=rf.at_ hy;obtain ⟨c,rfl,_,ec⟩:=fY hc;rw[bf hf] at hQ;exact (ν,av c _ (rfl,.inl (aD.of (g2 _ _ ec)),λp np=>hQ _ _ (ac np _) (jh (.inl np) ae)))
  rw[fk F2 [] rf.1] at hh1;obtain ⟨vb,eb,rb⟩:=hG.same gh1;have lG:vb.length=G.length:=rb.1;refine (ν,aJ t _ _ _ (rfl,rfl,be.of (gh1 _ _ e),rfl,lb,rfl,(_,aD.of eb),bJ nQ 145 (λi=>G.getD i []) (aD.of eb) (by lia) 136 (λi y hy H2 g2 Q' hQ=>?_) λh2 H2 nh2 gh2 hh2=>?_))
  ·obtain ⟨f,hf,hc⟩:=rb.at_ hy;obtain ⟨c,rfl,_,ec⟩:=fY hc;rw[bf hf] at hQ;exact (ν,av c _ (rfl,.inl (aD.of (g2 _ _ ec)),λp np=>hQ _ _ (ac np _) (jh (.inl np) ae)))
  rw[fk G [] rb.1] at hh2;refine (by show 4<=sizeLine;decide,λt' nt'=>?_)
  have ge:=ac nt' (.tup [.str "full",.str z,.ref h1,.ref h2]);exact q t' _ ((gh1.trans gh2).trans ge) (t',rfl,.inl ((gh1.trans gh2).free nt'),av h1 h2 (.inl nh1,.inl (gh1.free nh2),ae,((hh1.mono λa h=> .inl (h.2.elim id False.elim)).same gh2).same ge,(hh2.mono λa h=> .inl (gh1.free (h.2.elim id False.elim))).same ge))
theorem Cn {dV:Value} (F:bz K "_law_says" "_law_says" Ak dV f fd) (DZ40:Dx P w K mg base bt 8 "lets_by" ["net","low","paper"] [] (wj on)) (DZ70:Dx P w K mg base bt 1 "_law_copied" ["_law_row"] [] kP):bv P w K mg base bt 9 f fd ["_law_net","_law_low","_law_paper_here","_law_due_here"] (qc on):=by
 have sc:aF ["_law_net","_law_low","_law_paper_here","_law_due_here","_law_handed","_law_found"] ["_law_net","_law_low","_law_paper_here","_law_due_here"] (aw Ak):=dq 119
 and_intros
 ·obtain ⟨_,_,_,_,_,_,_,_,_,_,rfl,_⟩:=h
  rfl
 refine nM h λx lp low b D T A B2 n _hi=>?_
 refine eI _hi λrs _hj=>?_
 refine gB _hj λ_r1 N nok hp ok _hk=>?_
 refine iC _hk λl7 eb q=>?_
 clear h _hi _hj _hk;subst _r1;exists _,(ah (fu (own:= "_law_row") (ys:= []) (js:= []) sc.nd (i:=4) rfl rfl rfl 130 (aG (pv 2)) (λC fp s H=>(bX DZ70 hr ((pv 0)<*>ag)))) (ah (cR 5 sc (bX DZ40 hr ((pv 0)<*>((pv 1)<*>((pv 4)<*>ag))))) (aj (aq (gL (aB (lN (K:=K) rfl) rfl B.Gf boot_isinstance ((pv 5)<*>((jU (v:= .ty "bool") rfl B.GF boot_bool rfl)<*>ag))) (gL (cN bK (pv 5) (pv 3) (aA _)) (gK (cN (yM 3 (Nat.lt_trans (Nat.add_lt_add_left (by decide:3+1<64) _) hr.units)) (pv 4) (pv 2) (aA _)))))))))
 try dsimp only[cxK]
 refine lt3 ?_;intro D' r2 r1;sleep 0;obtain ⟨vs,ep,rp⟩:=id hp;have lvs:=rp.1;refine (ν,lp,rfl,(_,aD.of ep),bJ iq (λa=>H a≠none) (λi=>rs.getD i (.ways 0)) (aD.of ep) (by lia) (λa h=>h) (λi y hy H2 g2 Q' hQ=>?_) λlh H2 nlh g2 hh=>?_)
 ·obtain ⟨r,hr',rr⟩:=rp.at_ hy;obtain ⟨t,rfl,_⟩:=rr.row;rw[bf hr'] at hQ;exact (ν,bU t r _ (rfl,de (ya rr) g2,(ok r (E4 hr')).1,λt' H' g' r'=>hQ _ _ g' (ku r' λa h=>h.imp id λz=>z.2)))
 rw[fk rs (.ways 0) lvs] at hh;refine (ν,ν,ν,iQ x lh low D T A B2 n rs (rfl,N.same g2,nok,hh.any,ok,l7,λH3 g3=>?_))
 have g03:=g2.trans g3;rw[<-eb];obtain ⟨us,eu,ru⟩:=(hh.any).same g3;exact (ν,aJ _ _ _ true (rfl,.bl _,rfl,ν,cC (ν,ν,rfl,ν,dT rfl (ν,ν,aJ lh lp _ _ (rfl,rfl,aD.of eu,aD.of (g03 _ _ ep),wB ru (rp.imp λ_ _ q=>de q g03),q _ g03)))))
theorem Co {dV:Value} (F:bz K "law" "law" nX dV f fd) (DZ8:Dc P w K mg base bt 3 Gp ["self","tools","tasks","arcs","apart","moments"] [.non,.int 0] (qS on)) (DZ41:Dx P w K mg base bt 1 "inner_rows" ["paper"] [] kK) (DZ42:Dx P w K mg base bt 1 "_law_cell_at" ["_law_script","_law_k"] [] (qz K)) (DZ43:Dx P w K mg base bt 1 "_law_whole" ["_law_found"] [] rW) (DZ47:Dx P w K mg base bt 3 "_law_any_net" ["_law_script"] [] (pT K)) (DZ64:Dx P w K mg base bt 7 "_law_paper" ["_law_parts","_law_cells"] [] mL) (DZ68:Dx P w K mg base bt 6 "_law_read" ["_law_parts","_law_low","_law_paper_here","_law_points"] [] qa) (DZ69:Dx P w K mg base bt 1 "_law_spoilt" ["_law_rows","_law_way_here","_law_k","_law_put"] [] kN) (DZ71:Dx P w K mg base bt 9 "_law_says" ["_law_net","_law_low","_law_paper_here","_law_due_here"] [] (qc on)):bv P w K mg base bt 10 f fd ["_law_script"] (rX K):=by
 have sc:aF ["_law_script","_law_tools","_law_tasks","_law_arcs","_law_pairs","_law_moments","_law_net","_law_parts","_law_points","_law_paper_here","_law_totals","_law_low","_law_many_here","_law_k","_law_spoilt_here","_law_one"] ["_law_script"] (aw nX):=dq 119
 and_intros
 ·obtain ⟨_,_,rfl,_⟩:=h
  rfl
 obtain ⟨a,ns,rfl,hS,n63,q⟩:=h;exists _,(ah (j7 (bX DZ47 hr ((pv 0)<*>ag)) (cZ rfl (aL (cY 1 sc) (aL (cY 2 sc) (aL (cY 3 sc) (aL (cY 4 sc) (aL (cY 5 sc) cv))))))) (ah (cR 6 sc (yF B.GH DZ8 hr 118 rfl B.GI ((b8 kf rfl B.GE ki ((pv 1)<*>ag))<*>((bZ (own:= "_law_ways") (ys:= []) (js:= []) rfl 130 (aG (pv 2)) (λC fp s H=>(b8 (gv (K:=K) rfl) rfl B.Gc boot_list ((pv 0)<*>ag))))<*>((b8 bY rfl B.Gc boot_list ((pv 3)<*>ag))<*>((b8 bY rfl B.Gc boot_list ((pv 4)<*>ag))<*>((pv 5)<*>ag))))))) (ah (cR 7 sc (@aZ _ _ _ _ _ ((pv 1)<*>((pv 2)<*>((pv 3)<*>((pv 4)<*>ag)))))) (ah (cR 8 sc (am aX (am bg af (aB ay rfl B.Ev boot_len 146)) (pv 5))) (ah (j7 (bX DZ64 hr ((pv 7)<*>((aY bI (pv 0) (bj af) (bj af))<*>ag))) (cZ rfl (aL (cY 9 sc) (aL (cY 10 sc) cv)))) (ah (cR 11 sc (xN rfl rfl B.Gk PyProof.Rows.Boot.«min» (pv 10))) (ah (cR 12 sc (bX DZ41 hr ((pv 9)<*>ag))) (ah (aI (PW.pt (dP (bS (cB (bX DZ43 hr ((pv 12)<*>ag)))) (dt (ao eT (pv 12) (aB ay rfl B.Ev boot_len ((lO (own:= "_law_row") (ys:= []) (js:= []) rfl 130 (aG (pv 9)) (λC fp s H=>(ao (sR (K:=K) rfl) 133 (@aZ _ _ _ _ _ (bE<*>(bE<*>ag))) 129)) (λC fp s H=>(pv 0)))<*>ag)) (aA _))))) 141 ar) (ah (aI (bS (cB (bX DZ71 hr ((pv 6)<*>(aR<*>((pv 9)<*>((cN fc (pv 11) aR (aA _))<*>ag))))))) 141 ar) (ah (aI (ao dY (pv 11) aR (aA _)) (ah (aI (PW.pt (dP (bS (cB (bX DZ71 hr ((pv 6)<*>((pv 11)<*>((pv 9)<*>(bR<*>ag))))))) (dt (bS (cB (bX DZ71 hr ((pv 6)<*>((am aX (pv 11) af)<*>((pv 9)<*>(bR<*>ag)))))))))) 141 ar) (aj (aI (bS (cB (bX DZ71 hr ((pv 6)<*>((am fL (am fL (pv 11) af) (am aS (bX DZ42 hr ((pv 0)<*>(af<*>ag))) (am rV af af)))<*>((pv 9)<*>(bR<*>ag))))))) 141 ar))) ar) (ah (cR 13 sc (am aS (bX DZ42 hr ((pv 0)<*>(af<*>ag))) (aB ay rfl B.Ev boot_len ((pv 9)<*>ag)))) (ah (cR 14 sc (bX DZ69 hr ((pv 9)<*>((am aS (bX DZ42 hr ((pv 0)<*>(af<*>ag))) af)<*>((pv 13)<*>((am fL (am aS (bX DZ42 hr ((pv 0)<*>(af<*>ag))) af) af)<*>ag)))))) (ah (aV PassesOwn.never rfl (aG (@aM _ _ _ _ ((pv 11)<*>(aR<*>ag)))) (cY 15 sc) (aj (aI (bS (cB (bX DZ71 hr ((pv 6)<*>((pv 15)<*>((pv 14)<*>((bX DZ68 hr ((pv 7)<*>((pv 15)<*>((pv 14)<*>((pv 8)<*>ag)))))<*>ag))))))) 141 ar))) (aj (aq (bX DZ71 hr ((pv 6)<*>(af<*>((pv 14)<*>((bX DZ68 hr ((pv 7)<*>(af<*>((pv 14)<*>((pv 8)<*>ag)))))<*>ag))))))))))))))))))))
 try dsimp only[cxK]
 refine Dk ?_;intro D' r13 r12 r11 r10 r9 r8 r7 r6 r5 r4 r3 r2 r1;sleep 0;refine (ν,av a ns (rfl,hS,n63,λtb td tl la lp n0 n1 m0 m1 mo T A ps H4 k4 etb ed4 hT4 hA4 hP nne T1 T4 a63 pne nok=>?_))
 refine (av tb _ (rfl,be.of etb,rfl,av _ _ (rfl,av _ _ (rfl,av _ _ (rfl,av _ _ (rfl,av _ _ (rfl,rfl,?_)))))));refine (ν,av td _ (rfl,ed4,λtd2 ntd2=>?_))
 have h1:=ac ntd2 (.dK (bL [(n0,m0),(n1,m1)]));have ed2:aH H4 td2 (.dK (bL [(n0,m0),(n1,m1)])) td2=some (.dK (bL [(n0,m0),(n1,m1)])):=ae;generalize aH H4 td2 (.dK (bL [(n0,m0),(n1,m1)]))=H5 at h1 ed2⊢;obtain ⟨vt,et,rT⟩:=hT4.same h1;refine (ν,tl,rfl,(_,aD.of et),bJ (xt iu) (λa=>An a/\H5 a≠none) (λi=>T.getD i []) (aD.of et) (by rw[rT.1];lia) (λa h=>h.2) (λi y hy H6 g6 Q' hQ=>?_) λtl2 H6 ntl2 g6 hT2=>?_)
 ·refine eI (rT.at_ hy) λws _hi=>?_
  refine dk _hi λhw _hj=>?_
  refine eI _hj λl _hk=>?_
  refine iC _hk λ_r1 _ _hl=>?_
  refine eI _hl λus _hm=>?_
  refine dk _hm λel rl'=>?_
  clear _hi _hj _hk _hl _hm;subst _r1;rw[bf hw] at hQ;have rl2:=rl'.imp λ_ _ q=>ya q
  refine (ν,av l us (rfl,.inl (aD.of (g6 _ _ el)),λp np=>?_))
  have gp:=ac np (.lst us);exact hQ _ _ gp (p,rfl,.inl np,us,ae,rl2.imp λv e q=>ku (de q (g6.trans gp)) λa h=> .inr h)
 rw[fk T [] rT.1] at hT2;have hT2':=hT2.any;obtain ⟨ba,ea,ra⟩:=hA4.same (h1.trans g6);obtain ⟨bp,ep,rp⟩:=hP.same (h1.trans g6);refine (ν,av la _ (rfl,.inl (aD.of ea),λla2 nla2=>?_))
 have h3:=ac nla2 (.lst (ba.map V.ref));have ela2:aH H6 la2 (.lst (ba.map V.ref)) la2=some (.lst (ba.map V.ref)):=ae;generalize aH H6 la2 (.lst (ba.map V.ref))=H7 at h3 ela2⊢;refine (ν,av lp _ (rfl,.inl (aD.of (h3 _ _ ep)),λlp2 nlp2=>?_))
 have h4:=ac nlp2 (.lst (bp.map V.ref));have elp2:aH H7 lp2 (.lst (bp.map V.ref)) lp2=some (.lst (bp.map V.ref)):=ae;generalize aH H7 lp2 (.lst (bp.map V.ref))=H8 at h4 elp2⊢;have h34:=h3.trans h4;have h8:=(h1.trans g6).trans h34;exists ν;refine λx dx nx ndx dxx=>?_
 have sm:=kn (C:=on) nx ndx (H':=aH (aH H8 dx (.own x)) x (.ins on dx [])) (λa o _ e=>e)
 refine (iQ x dx td2 tl2 la2 (.ref lp2) _ [(n0,m0),(n1,m1)] T (av A (bn ps) (rfl,ae,sm _ _ ((g6.trans h34) _ _ ed2),(hT2'.same h34).same sm,(ba,sm _ _ (h4 _ _ ela2),ra.imp λa k q=>sm _ _ (h34 _ _ q)),.inr (lp2,rfl,(bp,sm _ _ elp2,rp.imp λa k q=>sm _ _ (h34 _ _ q))),nok,λH9 fx N=>(rfl,?_))))
 have h9:=h8.trans (kn nx ndx fx);have k9:=k4.trans h9;have ed9:=h9 _ _ ed4;have hT9:=hT4.same h9;have hA9:=hA4.same h9;have hP9:=hP.same h9;clear sm fx h8 h34 h4 h3 h1 ed2 hT2 hT2' ela2 elp2 ed4 hT4 hA4 ea ra ep rp et rT;refine (ν,ν,ν,ν,by show 4<=sizeLine;decide,λtp ntp=>?_)
 have g10:=ac ntp (.tup [.ref td,.ref tl,.ref la,.ref lp]);have etp:aH H9 tp (.tup [.ref td,.ref tl,.ref la,.ref lp]) tp=some (.tup [.ref td,.ref tl,.ref la,.ref lp]):=ae;generalize aH H9 tp (.tup [.ref td,.ref tl,.ref la,.ref lp])=H10 at g10 etp⊢;have st:pY H10 tp [(n0,m0),(n1,m1)] T A ps mo:=⟨⟨td,tl,la,lp,etp,g10 _ _ ed9,hT9.same g10,hA9.same g10,hP9.same g10⟩,nok,T1,T4,pne,a63,rfl⟩;have N10:=N.same g10;have k10:=k9.trans g10;have hT10:=hT9.same g10;clear ed9 hT9 hA9 hP9 etp g10 N h9 k9 hP;obtain ⟨vt,et,rT⟩:=id hT10;have lvt:=rT.1;refine (ν,av tl _ (rfl,.inl (aD.of et),?_));rw[lvt];refine (av _ _ (rfl,rfl,IntMulOk.of_left 118,ν,av _ _ (rfl,rfl,?_)))
 obtain ⟨cs,ecs,lcs⟩:=lU ns (some 32) (some 64);refine (ν,ν,ν,ν,av a _ (rfl,k10.seq hS,λlc nlc=>?_))
 rw[ecs];have g11:=ac nlc (.lst (cs.map V.int));have st11:=st.same g11;refine (fE tp lc cs [(n0,m0),(n1,m1)] T A (av ps mo (rfl,st11,ae,by lia,λtq lpp lt m rs ts H12 g12 etq hpp elt r3 t3 m4 papS=>(av tq _ (rfl,be.of etq,rfl,av _ _ (rfl,av _ _ (rfl,rfl,?_)))))))
 have st12:=st11.same g12;have g1012:=g11.trans g12;have N12:=N10.same g1012;have k12:=k10.trans g1012;have pap:=papS.p;have rowS:=papS.rows T4;clear st11 N10 st k10 g11 g12 g1012 nlc etq;obtain ⟨okr,okm,_,_⟩:=rH pap;have r1:=y4 pap;try dsimp only[cg,cM]
 refine cut (λσ H'=>∃low:Option Int,σ= [GV a,GV td,GV tl,GV la,GV lp,some (.int mo),GV x,GV tp,some (.int (2*120+mo)),GV lpp,GV lt,some (oV low),none,none,none,none]/\H12=H'/\((low=none/\ts= [])∨∃M,low=some M/\M∈ts/\∀t∈ts,M<=t)) (λN' hN=>?_) ?_
 ·refine (ν,av lt ts (rfl,aD.of elt,?_))
  by_cases te:ts= []
  ·exact .inl (te,hN _ _ (none,rfl,rfl,.inl (rfl,te)))
  ·exact .inr (te,λM hM hle=>hN _ _ (some M,rfl,rfl,.inr (M,rfl,hM,hle)))
 rintro σ _ ⟨low,rfl,rfl,hlow⟩;have bnd:∀o:List c6,o.length<=400->A.length+2*T.length+o.length<=700:=λo ho=>by lia
 obtain ⟨vp,ep,rp⟩:=id hpp;have lvp:=rp.1;refine (ν,av lpp rs (rfl,hpp,λr hr=>(okr r hr).1,by lia,λH13 g13=>?_))
 have k13:=k12.trans g13;have N13:=N12.same g13;have hp13:=hpp.same g13;have st13:=st12.same g13;obtain ⟨vp,ep,rp⟩:=id hp13;refine (ν,ν,ν,cu (ν,ν,lpp,rfl,(_,aD.of ep),fV yY 145 (λi=>hJ (rs.getD i (.ways 0))) (λ_=>()) (aD.of ep) (by rw[rp.1];lia) 136 (λi y hy H2 g2 S' hS'=>?_) (λi y hy _ H2 g2 Q' hQ=>(ν,hQ _ _ 148 trivial)) λlc H14 nlc g14 hc=>?_))
 ·obtain ⟨r,hr',rr⟩:=rp.at_ hy;obtain ⟨t',rfl,ra⟩:=rr.row;obtain ⟨w,ys,ew,iw⟩:=eC (ra.same g2) (okr r (E4 hr')).1;rw[bf hr',<-yd iw] at hS';refine (ν,aJ t' _ _ _ (rfl,rfl,be.of ew,aT (j:=0) rfl,by show 2<=sizeLine;decide,λtt ntt=>(av tt _ (rfl,.inr (be.of ae),rfl,lR ["split","ways"],ν,hS' _ (ac ntt _)))))
 obtain ⟨us,eu,ru⟩:=hc;have lu:=ru.1;rw[rp.1,pS] at lu;refine (av lc _ (rfl,.inl (aD.of eu),rfl,ν,nF (by rw[lu]) ?_))
 have k14:=k13.trans g14;have N14:=N13.same g14;have hp14:=hp13.same g14;have st14:=st13.same g14;have NT:True:=trivial;have noneF:gb [(n0,m0),(n1,m1)] T A (bn ps) mo none rs=decide (oV low=V.non):=by
  rcases hlow with ⟨rfl,te⟩|⟨M,rfl,hM,hle⟩
  ·rw[mI (rG pap λt ht=>by rw[te] at ht;cases ht)]
   rfl
  ·rw[mN pap λh=>by obtain ⟨l,e,_⟩:=h M hM;cases e]
   rfl
 refine (ν,ν,ν,rfl,iQ x lpp none _ [(n0,m0),(n1,m1)] T A (bn ps) mo (rs,(rfl,N14,nok,hp14,okr,bnd rs (by lia),noneF.symm,λH15 g15=>(ν,cu ?_))))
 have k15:=k14.trans g15;have N15:=N14.same g15;have hp15:=hp14.same g15;have st15:=st14.same g15;try dsimp only[cg,cM]
 refine cut (λσ H'=>σ= [GV a,GV td,GV tl,GV la,GV lp,some (.int mo),GV x,GV tp,some (.int (2*120+mo)),GV lpp,GV lt,some (oV low),some (.int ((rs.filter hJ).length:Nat)),none,none,none]/\aE H15 H') (λN' hN=>?_) ?_
 ·rcases hlow with ⟨rfl,te⟩|⟨M,rfl,hM,hle⟩
  ·exact (ν,rfl,ν,nF rfl (hN _ _ (rfl,.refl _)))
  ·have lt':∀l,l<=M->gb [(n0,m0),(n1,m1)] T A (bn ps) mo (some l) rs=true:=λl hl=>mI (rG pap λt ht=>⟨l,rfl,by have:=hle t ht;lia⟩)
   have lf':gb [(n0,m0),(n1,m1)] T A (bn ps) mo (some (M+1)) rs=false:=mN pap λh=>by obtain ⟨l,e,le⟩:=h M hM;cases e;lia
   refine ⟨_,rfl,rfl,_,rfl,nT nofun ⟨_,rfl,_,rfl,_,rfl,iQ x lpp (some M) true [(n0,m0),(n1,m1)] T A (bn ps) mo ⟨rs,⟨rfl,N15,nok,hp15,okr,bnd rs (by lia),(lt' M (Int.le_refl _)).symm,λH16 g16=>⟨_,rfl,cu ?_⟩⟩⟩⟩⟩
   refine (ν,ν,av _ _ (rfl,rfl,ν,iQ x lpp (some (M+1)) false [(n0,m0),(n1,m1)] T A (bn ps) mo (rs,(rfl,N15.same g16,nok,hp15.same g16,okr,bnd rs (by lia),lf'.symm,λH17 g17=>(ν,cu ?_)))))
   have g1517:=g16.trans g17;refine (ν,ν,av _ _ (rfl,rfl,ν,bU a ns 14 (rfl,((k15.trans g1517).seq hS),by decide,λc14=>?_)))
   have m9:=fm (a:=c14) (n:=(10:Int)^(9:Int).toNat) 118
   refine (av _ _ (rfl,rfl,(by decide,by decide),av _ _ (rfl,rfl,(by show (10:Int)^(9:Int).toNat≠0;decide),av _ _ (rfl,rfl,ν,iQ x lpp (some (M-1-c14.fmod ((10:Int)^(9:Int).toNat))) true [(n0,m0),(n1,m1)] T A (bn ps) mo (rs,(rfl,N15.same g1517,nok,hp15.same g1517,okr,bnd rs (by lia),(lt' _ (by lia)).symm,λH18 g18=>(ν,cu (hN _ _ (rfl,g1517.trans g18)))))))))
 rintro σ H16 ⟨rfl,g16⟩;have k16:=k15.trans g16;have N16:=N15.same g16;have hp16:=hp15.same g16;have st16:=st15.same g16;obtain ⟨vp,ep,rp⟩:=id hp16;have lvp:=rp.1;refine (ν,bU a ns 15 (rfl,(k16.seq hS),by decide,λc15=>(ν,av lpp _ (rfl,.inl (aD.of ep),?_))))
 rw[lvp];have mk:=fm (a:=c15) (n:=(rs.length:Int)) (by lia)
 refine (av _ _ (rfl,rfl,by lia,?_))
 dsimp only;obtain ⟨k,hk⟩:∃k:Nat,c15.fmod (rs.length:Int)=(k:Int):=⟨(c15.fmod (rs.length:Int)).toNat,by lia⟩
 rw[hk] at mk⊢;refine (ν,ν,bU a ns 16 (rfl,(k16.seq hS),by decide,λc16=>(av _ _ (rfl,rfl,(by show (14:Int)≠0;decide),ν,ν,bU a ns 17 (rfl,(k16.seq hS),by decide,λc17=>(av _ _ (rfl,rfl,(by show (13:Int)≠0;decide),av _ _ (rfl,rfl,fE lpp _ _ k [(n0,m0),(n1,m1)] T (rs,(rfl,hp16,rowS,by lia,r3,λlo os H17 g17 ho o3 oko=>?_))))))))))
 have k17:=k16.trans g17;have N17:=N16.same g17;have st17:=st16.same g17;have ok8:∀r∈os,gh r:=λr hr=>(oko r hr).1
 refine (ν,by show 2<=sizeLine;decide,λl2 nl2=>?_)
 have g18:=ac nl2 (.lst [oV low,.non]);have e18:aH H17 l2 (.lst [oV low,.non]) l2=some (.lst [oV low,.non]):=ae;generalize aH H17 l2 (.lst [oV low,.non])=H18 at g18 e18⊢;refine (l2,rfl,(_,aD.of e18),aU (xs:= [oV low,.non]) (λj σ H'=>∃o15:Option V,σ= [GV a,GV td,GV tl,GV la,GV lp,some (.int mo),GV x,GV tp,some (.int (2*120+mo)),GV lpp,GV lt,some (oV low),some (.int ((rs.filter hJ).length:Nat)),some (.int (k:Int)),GV lo,o15]/\aE H18 H') (none,rfl,.refl _) (λj σ H' _ (_,_,g)=>aD.of (g _ _ e18)) ?_ ?_)
 ·rintro j y σ H19 hy ⟨o15,rfl,g19⟩;obtain ⟨lw,rfl⟩:∃lw:Option Int,y=oV lw:=by
   have:=E4 hy;simp only[EI,Ef,or_false] at this;rcases this with rfl|rfl
   ·exact (low,rfl)
   ·exact (none,rfl)
  have g1719:=g18.trans g19;refine (ν,ν,ν,ν,ν,ν,ν,iQ tp lo _ lw [(n0,m0),(n1,m1)] T A ps mo (os,(rfl,st17.same g1719,rfl,ho.same g1719,oko,by lia,λH20 g20=>?_)))
  have g1720:=g1719.trans g20;exact (iQ x lo lw _ [(n0,m0),(n1,m1)] T A (bn ps) mo (os,(rfl,N17.same g1720,nok,ho.same g1720,ok8,bnd os (by lia),rfl,λH21 g21=>(ν,cu (ν,(g19.trans g20).trans g21)))))
 ·rintro σ H19 ⟨o15,rfl,g19⟩;have g1719:=g18.trans g19;refine (ν,ν,ν,ν,ν,iQ tp lo _ (some 1) [(n0,m0),(n1,m1)] T A ps mo (os,(rfl,st17.same g1719,rfl,ho.same g1719,oko,by lia,λH20 g20=>?_)))
  have g1720:=g1719.trans g20;exact (iQ x lo (some 1) _ [(n0,m0),(n1,m1)] T A (bn ps) mo (os,(rfl,N17.same g1720,nok,ho.same g1720,ok8,bnd os (by lia),rfl,λH21 g21=>q _)))
end
theorem Al {l:PySem.W.OpenLaw} {w:World} {K:E5} {h:Heap} {mg:GO} {fa gl gm gn go gp gq gr gs gt cc cd ce cf ch ci cj ck cl cm cn co cp cr cs ct cv cw c0 c1 c2 c3 c4 c5 c7 cD cG cM cX dc dd dg di dl dm dp dr dv dx d1 d3 d4 d5 d6 d7 d8 d9 dA dE dK dO dV dY ea eb ec ed ee ef eg eh ei bx Gd on Gp:Addr} (X:K.In h) (G:h.Ns mainGlobals mg) (hfa:mg "law" =some (.ref fa))
  {bK bo:GT} {bY:Array GU} {cb bp br bs ba bw:Value}
  {a9:Tok}
  {bm:Tok}
  {ag:Tok}
  {ai:Tok}
  {ab:Tok}
  {a0:Tok}
  {ia:Tok}
  {a1:Tok}
  {ak:Tok}
  {a6:Tok}
  {gg:Addr} {ej:Value} {ek:GT} {el:Nat} {en:Array GU} {b0:Tok}
  (gx:bM K gl "is_name" Dm .none)
  (gy:bM K gm "points_of" Dn .none)
  (gz:bM K gn "copy_of_task" Do .none)
  (g0:bM K go "refuse_wrong_tools" Dp .none)
  (g1:bM K gp "refuse_wrong_uses" Dq .none)
  (g2:bM K gq "refuse_wrong_tasks" Dr .none)
  (g3:bM K gr "refuse_wrong_arcs" Ds .none)
  (g4:bM K gs "refuse_wrong_pairs" Dt .none)
  (g5:bM K gt "use_in" Du .none)
  (eo:bM K cc "are_points" y6 .none)
  (ep:bM K cd "start_case" y8 .none)
  (eq:bM K ce "many_in" y9 .none)
  (er:bM K cf "open_ways" za .none)
  (es:bM K ch "want_of" zb .none)
  (et:bM K ci "work_of" zc .none)
  (eu:bM K cj "heats_differ" zd .none)
  (ev:bM K ck "unlike_heats" ze .none)
  (ew:bM K cl "arcs_of" zf .none)
  (ex:bM K cm "greatest_lags" zg .none)
  (ey:bM K cn "total_by" zh .none)
  (ez:bM K co "chain_total" zj .none)
  (e0:bM K cp "ring_total" zm .none)
  (e1:bM K cr "are_unlike_tasks" zp .none)
  (e2:bM K cs "two_apart" zq .none)
  (e3:bM K ct "two_at_unlike_heats" zr .none)
  (e4:bM K cv "too_much_wanted" zu .none)
  (e5:bM K cw "clashes" zw .none)
  (e6:bM K c0 "turns_for" zx .none)
  (e7:bM K c1 "task_between" zy .none)
  (e8:bM K c2 "tasks_between" zz .none)
  (e9:bM K c3 "stretch_total" zA .none)
  (eF:bM K c4 "has_order_of" zB .none)
  (eG:bM K c5 "cases_of_split" zC .none)
  (eH:bM K c7 "with_pick" zD .none)
  (eL:bM K cD "cases_of_ways" zE .none)
  (eO:bM K cG "parted" zF .none)
  (eS:bM K cM "bound_of" zG .none)
  (eT:bM K cX "shuts_by_ring" zH .none)
  (eW:bM K dc "shuts" zI .none)
  (fc:bM K dd "lets_by" zJ .none)
  (fe:bM K dg "inner_rows" zK .none)
  (ff:bM K di "_law_cell_at" zL .none)
  (fi:bM K dl "_law_whole" zM .none)
  (fl:bM K dm "_law_mixed" zN .none)
  (fo:bM K dp "_law_names" zO .none)
  (fp:bM K dr "_law_way" zP .none)
  (fq:bM K dv "_law_any_net" zQ .none)
  (fs:bM K dx "_law_lag" zR .none)
  (ft:bM K d1 "_law_total" zS .none)
  (fv:bM K d3 "_law_open" zT .none)
  (fx:bM K d4 "_law_due" zU .none)
  (fy:bM K d5 "_law_many" zV .none)
  (fz:bM K d6 "_law_work" zW .none)
  (f0:bM K d7 "_law_front" zX .none)
  (f1:bM K d8 "_law_back" zY .none)
  (f2:bM K d9 "_law_order" zZ .none)
  (f3:bM K dA "_law_differ" z5 .none)
  (f4:bM K dE "_law_unlike" z6 .none)
  (f5:bM K dK "_law_clash" z7 .none)
  (f6:bM K dO "_law_splits" z8 .none)
  (f7:bM K dV "_law_inner" Aa .none)
  (f8:bM K dY "_law_cases" Ab .none)
  (f9:bM K ea "_law_leaf" Ac .none)
  (fC:bM K eb "_law_paper" Ad .none)
  (fG:bM K ec "_law_parted" Ae .none)
  (fI:bM K ed "_law_bound" Af .none)
  (fL:bM K ee "_law_shut" Ag .none)
  (fP:bM K ef "_law_read" Ah .none)
  (fS:bM K eg "_law_spoilt" Ai .none)
  (fX:bM K eh "_law_copied" Aj .none)
  (ga:bM K ei "_law_says" Ak .none)
  (gc:Ed K mainGlobals "law" =some (some (.ref bx)))
  (gd:K.lookup bx=some ⟨cb,bK,.func (FS "law" "law" (fh nX) (eQ nX) (aw nX) .none bp br bs bo ba bw),bY⟩) (ge:PySem.W.codeIn K ba "law" =true) (gf:Fi K (.ref bx)=true)
  (aC:Ed K mainGlobals "LETTERS" =some (some (.str "abcdefghijklmnopqrstuvwxyz" a9)))
  (kd:Ed K mainGlobals "MOST_LETTERS" =some (some (.int 12 bm)))
  (al:Ed K mainGlobals "MOST_TASKS" =some (some (.int 24 ag)))
  (an:Ed K mainGlobals "MOST_TOOLS" =some (some (.int 12 ai)))
  (ad:Ed K mainGlobals "MOST_PIECES" =some (some (.int 8 ab)))
  (a2:Ed K mainGlobals "MOST_WAYS" =some (some (.int 2 a0)))
  (nb:Ed K mainGlobals "MOST_MOMENTS" =some (some (.int 8 ia)))
  (a3:Ed K mainGlobals "MOST_ARCS" =some (some (.int 600 a1)))
  (ap:Ed K mainGlobals "MOST_APART" =some (some (.int 300 ak)))
  (a7:Ed K mainGlobals "GREATEST" =some (some (.int 1000000000 a6)))
  (b1:Ed K mainGlobals "abs" =some none)
  (b2:Ed K mainGlobals "all" =some none)
  (bd:Ed K mainGlobals "bool" =some none)
  (bg:Ed K mainGlobals "dict" =some none)
  (a4:Ed K mainGlobals "enumerate" =some none)
  (b3:Ed K mainGlobals "int" =some none)
  (ar:Ed K mainGlobals "isinstance" =some none)
  (b4:Ed K mainGlobals "len" =some none)
  (bh:Ed K mainGlobals "list" =some none)
  (b5:Ed K mainGlobals "max" =some none)
  (b6:Ed K mainGlobals "min" =some none)
  (bb:Ed K mainGlobals "range" =some none)
  (a8:Ed K mainGlobals "reversed" =some none)
  (b9:Ed K mainGlobals "set" =some none)
  (aS:Ed K mainGlobals "sorted" =some none)
  (bA:Ed K mainGlobals "str" =some none)
  (bC:Ed K mainGlobals "sum" =some none)
  (bH:Ed K mainGlobals "zip" =some none)
  (bc:Ed K mainGlobals "INNER" =some (some (.ref Gd)))
  (bI:Ed K mainGlobals "Net" =some (some (.ref on)))
  (atZ8:FY K (.ref on) "__init__" =some (some (.ref Gp)))
  (g6:FnAt K Gp "__init__" "Net.__init__" CH (.ref gg))
  (gk:K.lookup gg=some ⟨ej,ek,.seq #[.none,.int 0 b0] el,en⟩)
  (aX:xO K Gd ["split","ways"])
  (bk:wN K on)
  (bl:Mk K on Gp)
  (ax:cS K on "tools")
  (ay:cS K on "tasks")
  (a5:cS K on "arcs")
  (az:cS K on "apart")
  (sn:cS K on "moments")
  :∃fd:FuncData,(∀(s:Shared) (v:Value),BindsTo s fd ⟨[v],[]⟩ [("_law_script",v)])/\∀base:Heap,K.In base->base.Ns mainGlobals mg->bv l.prog w K mg base bt 10 fa fd ["_law_script"] (rX K):=by
 have e:=hfa.symm.trans (F7 X G gc);cases e;have B:Bn K mg Gd on Gp:=⟨Exists.intro _<|F7 X G aC,Exists.intro _<|F7 X G kd,Exists.intro _<|F7 X G al,Exists.intro _<|F7 X G an,Exists.intro _<|F7 X G ad,Exists.intro _<|F7 X G a2,Exists.intro _<|F7 X G nb,Exists.intro _<|F7 X G a3,Exists.intro _<|F7 X G ap,Exists.intro _<|F7 X G a7,Eh X G b1,Eh X G b2,Eh X G bd,Eh X G bg,Eh X G a4,Eh X G b3,Eh X G ar,Eh X G b4,Eh X G bh,Eh X G b5,Eh X G b6,Eh X G bb,Eh X G a8,Eh X G b9,Eh X G aS,Eh X G bA,Eh X G bC,Eh X G bH,F7 X G bc,F7 X G bI,aX,bk,bl,ax,ay,a5,az,sn⟩;refine nM g6 λ_ _ _ _ _ _ _ _ _ _hi=>?_
 refine iC _hi λlZ8 cZ8 kZ8=>?_
 have FZ8:=m6 (st:=CH) lZ8 cZ8 kZ8;have Flaw:=m6 (st:=nX) gd ge gf;refine (FS "law" "law" (fh nX) (eQ nX) (aw nX) .none bp br bs bo ba bw,?bind,λbase _ _=>?ok)
 case bind=>exact λs v=> .of_eq rfl
 case ok=>
  have z9:Bx l.prog w base:=⟨⟩;have DZ0:=dy z9 X G gx (λ_ _ _ _ _ _=>fw λ_=>rfl) λF=>Dv B F
  have DZ1:=dy z9 X G gy (λ_ _ _ _ _ _=>fw λ_=>rfl) λF=>Dw B F
  have DZ2:=dy z9 X G gz (λ_ _ _ _ _ _=>fw λ_=>rfl) λF=>Dy B F
  have DZ3:=dy z9 X G g0 (λ_ _ _ _ _ _=>fw λ_=>rfl) λF=>Dz B F DZ0
  have DZ4:=dy z9 X G g1 125 λF=>DA B F
  have DZ5:=dy z9 X G g2 125 λF=>DB B F DZ4
  have DZ6:=dy z9 X G g3 125 λF=>DC B F
  have DZ7:=dy z9 X G g4 125 λF=>DD B F
  have DZ8:Dc l.prog w K mg base bt 3 Gp ["self","tools","tasks","arcs","apart","moments"] [.non,.int 0] (qS on):=⟨_,DE B FZ8 DZ1 DZ2 DZ3 DZ5 DZ6 DZ7,FZ8.binds (ps:= ["self","tools","tasks","arcs","apart","moments"]) (ds:= []) gk rfl λ_ _ _ _ _ _ us hl=>match us,hl with| [_,_,_,_,_,_],_=>⟨_,rfl,rfl⟩,⟨[.none,.int 0 b0],FZ8.binds (ps:= ["self","tools","tasks","arcs","apart","moments"]) (ds:= [.none,.int 0 b0]) gk rfl λ_ _ _ _ _ _ us hl=>match us,hl with| [_,_,_,_],_=>⟨_,rfl,rfl⟩| [],h=>absurd h (by simp)| [_],h=>absurd h (by simp)| [_,_],h=>absurd h (by simp)| [_,_,_],h=>absurd h (by simp)|_::_::_::_::_::_,h=>absurd h (by simp),.cons rfl (.cons ⟨_,rfl⟩ .nil)⟩⟩
  have DZ9:=dy z9 X G g5 125 λF=>DF B F
  have DZ10:=dy z9 X G eo 125 λF=>Bj B F DZ1
  have DZ11:=dy z9 X G ep (λ_ _ _ _ _ _=>fw λ_=>rfl) λF=>Bk B F
  have DZ12:=dy z9 X G eq 125 λF=>Bl B F DZ9
  have DZ13:=dy z9 X G er 127 λF=>Bm B F DZ2
  have DZ14:=dy z9 X G es (λ_ _ _ _ _ _=>fA λ_ _ _ _=>rfl) λF=>Bo B F DZ12 DZ13
  have DZ15:=dy z9 X G et (λ_ _ _ _ _ _=>fA λ_ _ _ _=>rfl) λF=>Bp B F DZ12 DZ13
  have DZ16:=dy z9 X G eu 125 λF=>Bq B F DZ9
  have DZ17:=dy z9 X G ev (λ_ _ _ _ _ _=>fA λ_ _ _ _=>rfl) λF=>Br B F DZ13 DZ16
  have DZ18:=dy z9 X G ew 125 λF=>Bs B F DZ13
  have DZ19:=dy z9 X G ex (λ_ _ _ _ _ _=>fw λ_=>rfl) λF=>Bt B F
  have DZ20:=dy z9 X G ey 125 λF=>Bu B F
  have DZ21:=dy z9 X G ez 125 λF=>Bv B F DZ19 DZ20
  have DZ22:=dy z9 X G e0 125 λF=>Bw B F DZ21
  have DZ23:=dy z9 X G e1 125 λF=>By B F
  have DZ24:=dy z9 X G e2 125 λF=>Bz B F
  have DZ25:=dy z9 X G e3 127 λF=>BA B F DZ17
  have DZ26:=dy z9 X G e4 127 λF=>BB B F DZ14
  have DZ27:=dy z9 X G e5 127 λF=>BC B F DZ23 DZ24 DZ25 DZ26
  have DZ28:=dy z9 X G e6 125 λF=>BD B F
  have DZ29:=dy z9 X G e7 127 λF=>BE B F DZ10
  have DZ30:=dy z9 X G e8 127 λF=>BF B F DZ29
  have DZ31:=dy z9 X G e9 (λ_ _ _ _ _ _=>vF λ_ _ _ _ _=>rfl) λF=>BG B F DZ15 DZ18 DZ19 DZ20 DZ28 DZ30
  have DZ32:=dy z9 X G eF 125 λF=>BH B F
  have DZ33:=dy z9 X G eG 127 λF=>BI B F DZ27 DZ32
  have DZ34:=dy z9 X G eH 127 λF=>BJ B F
  have DZ35:=dy z9 X G eL 127 λF=>BK B F DZ34
  have DZ36:=dy z9 X G eO 127 λF=>BL B F DZ33 DZ35
  have DZ37:=dy z9 X G eS 127 λF=>BM B F DZ10 DZ18 DZ21 DZ31
  have DZ38:=dy z9 X G eT 127 λF=>BN B F DZ10 DZ18 DZ22
  have DZ39:=dy z9 X G eW (λ_ _ _ _ _ _=>fA λ_ _ _ _=>rfl) λF=>BO B F DZ37 DZ38
  have DZ40:=dy z9 X G fc 127 λF=>BP B F DZ11 DZ36 DZ39
  have DZ41:=dy z9 X G fe (λ_ _ _ _ _ _=>fw λ_=>rfl) λF=>BQ B F
  have DZ42:=dy z9 X G ff 125 λF=>BR B F
  have DZ43:=dy z9 X G fi (λ_ _ _ _ _ _=>fw λ_=>rfl) λF=>BS B F
  have DZ44:=dy z9 X G fl 125 λF=>BU B F
  have DZ45:=dy z9 X G fo (λ_ _ _ _ _ _=>fw λ_=>rfl) λF=>BV B F DZ44
  have DZ46:=dy z9 X G fp 127 λF=>BW B F
  have DZ47:=dy z9 X G fq (λ_ _ _ _ _ _=>fw λ_=>rfl) λF=>BX B F DZ42 DZ44 DZ45 DZ46
  have DZ48:=dy z9 X G fs 127 λF=>BY B F
  have DZ49:=dy z9 X G ft 125 λF=>BZ B F DZ48
  have DZ50:=dy z9 X G fv 127 λF=>B1 B F
  have DZ51:=dy z9 X G fx 127 λF=>B3 B F DZ50
  have DZ52:=dy z9 X G fy 125 λF=>B4 B F
  have DZ53:=dy z9 X G fz (λ_ _ _ _ _ _=>fA λ_ _ _ _=>rfl) λF=>B5 B F DZ50 DZ52
  have DZ54:=dy z9 X G f0 127 λF=>B6 B F DZ44
  have DZ55:=dy z9 X G f1 127 λF=>B7 B F DZ44
  have DZ56:=dy z9 X G f2 125 λF=>B8 B F
  have DZ57:=dy z9 X G f3 125 λF=>B9 B F
  have DZ58:=dy z9 X G f4 (λ_ _ _ _ _ _=>fA λ_ _ _ _=>rfl) λF=>Ca B F DZ50 DZ57
  have DZ59:=dy z9 X G f5 127 λF=>Cb B F DZ50 DZ52 DZ58
  have DZ60:=dy z9 X G f6 125 λF=>Cc B F DZ59
  have DZ61:=dy z9 X G f7 127 λF=>Cd B F DZ60
  have DZ62:=dy z9 X G f8 125 λF=>Ce B F
  have DZ63:=dy z9 X G f9 (λ_ _ _ _ _ _=>fA λ_ _ _ _=>rfl) λF=>Cf B F DZ49 DZ53 DZ54 DZ55 DZ56
  have DZ64:=dy z9 X G fC 125 λF=>Cg B F DZ51 DZ61 DZ62 DZ63
  have DZ65:=dy z9 X G fG 127 λF=>Ch B F DZ59 DZ62
  have DZ66:=dy z9 X G fI (λ_ _ _ _ _ _=>fA λ_ _ _ _=>rfl) λF=>Ci B F DZ49 DZ51 DZ53
  have DZ67:=dy z9 X G fL (λ_ _ _ _ _ _=>vF λ_ _ _ _ _=>rfl) λF=>Cj B F DZ66
  have DZ68:=dy z9 X G fP (λ_ _ _ _ _ _=>fA λ_ _ _ _=>rfl) λF=>Ck B F DZ65 DZ67
  have DZ69:=dy z9 X G fS (λ_ _ _ _ _ _=>fA λ_ _ _ _=>rfl) λF=>Cl B F
  have DZ70:=dy z9 X G fX (λ_ _ _ _ _ _=>fw λ_=>rfl) λF=>Cm B F
  have DZ71:=dy z9 X G ga (λ_ _ _ _ _ _=>fA λ_ _ _ _=>rfl) λF=>Cn B F DZ40 DZ70
  exact Co B Flaw DZ8 DZ41 DZ42 DZ43 DZ47 DZ64 DZ68 DZ69 DZ71
theorem walk {l:PySem.W.OpenLaw} {q:Program} {loose:GQ} {XP:GO->Heap->Prop} {YP:World->Heap->Prop} {d:DefRec} {K:Params->E5} (hn:l.most=some 63) (hdf:d.params.defaults= [])
  (hY:∀(w:World) (h:Heap),YP w h->(K w.params).In h)
  (F:∀(w:World) (mg:GO) (fa:Addr) (h:Heap),(K w.params).In h->h.Ns mainGlobals mg->mg d.name=some (.ref fa)->
   ∃fd:FuncData,(∀(s:Shared) (u:Value),BindsTo s fd ⟨[u],[]⟩ [("_law_script",u)])/\∀base:Heap,(K w.params).In base->base.Ns mainGlobals mg->bv l.prog w (K w.params) mg base bt 10 fa fd ["_law_script"] (rX (K w.params))):
  PySem.W.WalkO q loose XP YP l.row.toRowW d [] (λf vs=>PySem.call f vs):=
 L2.xa (n:=63) (k:=10) (x:= "_law_script") (CX:=λ_=>bt) (sp:=λw=>rX (K w.params)) hn 118 hdf ⟨rfl,by decide,by decide⟩ hY F (λ_ _ a ns hl _ hS=>(av a ns ⟨rfl,hS,hl,λ_=>rfl⟩)) λ_ _ _ _ _ z=>z
end Lk75
open PySem PySem.W PyProof.Rows
set_option maxRecDepth 100000 in
set_option maxHeartbeats 0 in
theorem PySem.Challenge.cw_stovework_k75_papers_read_holds : PySem.Challenge.rw_stovework_k75_papers_read.Holds := by
 refine Lk75.hd ?_
 k_fill
 refine Lk75.walk (l:=PySem.Challenge.rw_stovework_k75_papers_read) rfl rfl (λw h Y=>PySem.W.kIn_of Y) ?F
 case F=>
  intro w mg fa h KX G hmg
  refine' Lk75.Al KX G hmg ?h0 ?h1 ?h2 ?h3 ?h4 ?h5 ?h6 ?h7 ?h8 ?h9 ?h10 ?h11 ?h12 ?h13 ?h14 ?h15 ?h16 ?h17 ?h18 ?h19 ?h20 ?h21 ?h22 ?h23 ?h24 ?h25 ?h26 ?h27 ?h28 ?h29 ?h30 ?h31 ?h32 ?h33 ?h34 ?h35 ?h36 ?h37 ?h38 ?h39 ?h40 ?h41 ?h42 ?h43 ?h44 ?h45 ?h46 ?h47 ?h48 ?h49 ?h50 ?h51 ?h52 ?h53 ?h54 ?h55 ?h56 ?h57 ?h58 ?h59 ?h60 ?h61 ?h62 ?h63 ?h64 ?h65 ?h66 ?h67 ?h68 ?h69 ?h70 ?h71 ?h72 ?h73 ?h74 ?h75 ?h76 ?h77 ?h78 ?h79 ?h80 ?h81 ?h82 ?h83 ?h84 ?h85 ?h86 ?h87 ?h88 ?h89 ?h90 ?h91 ?h92 ?h93 ?h94 ?h95 ?h96 ?h97 ?h98 ?h99 ?h100 ?h101 ?h102 ?h103 ?h104 ?h105 ?h106 ?h107 ?h108 ?h109 ?h110 ?h111 ?h112 ?h113 ?h114 ?h115
  (case h0=>exact ⟨by k_is,_,_,_,_,_,_,_,_,_,by k_is,by k_is,by k_is⟩)
  (case h1=>exact ⟨by k_is,_,_,_,_,_,_,_,_,_,by k_is,by k_is,by k_is⟩)
  (case h2=>exact ⟨by k_is,_,_,_,_,_,_,_,_,_,by k_is,by k_is,by k_is⟩)
  (case h3=>exact ⟨by k_is,_,_,_,_,_,_,_,_,_,by k_is,by k_is,by k_is⟩)
  (case h4=>exact ⟨by k_is,_,_,_,_,_,_,_,_,_,by k_is,by k_is,by k_is⟩)
  (case h5=>exact ⟨by k_is,_,_,_,_,_,_,_,_,_,by k_is,by k_is,by k_is⟩)
  (case h6=>exact ⟨by k_is,_,_,_,_,_,_,_,_,_,by k_is,by k_is,by k_is⟩)
  (case h7=>exact ⟨by k_is,_,_,_,_,_,_,_,_,_,by k_is,by k_is,by k_is⟩)
  (case h8=>exact ⟨by k_is,_,_,_,_,_,_,_,_,_,by k_is,by k_is,by k_is⟩)
  (case h9=>exact ⟨by k_is,_,_,_,_,_,_,_,_,_,by k_is,by k_is,by k_is⟩)
  (case h10=>exact ⟨by k_is,_,_,_,_,_,_,_,_,_,by k_is,by k_is,by k_is⟩)
  (case h11=>exact ⟨by k_is,_,_,_,_,_,_,_,_,_,by k_is,by k_is,by k_is⟩)
  (case h12=>exact ⟨by k_is,_,_,_,_,_,_,_,_,_,by k_is,by k_is,by k_is⟩)
  (case h13=>exact ⟨by k_is,_,_,_,_,_,_,_,_,_,by k_is,by k_is,by k_is⟩)
  (case h14=>exact ⟨by k_is,_,_,_,_,_,_,_,_,_,by k_is,by k_is,by k_is⟩)
  (case h15=>exact ⟨by k_is,_,_,_,_,_,_,_,_,_,by k_is,by k_is,by k_is⟩)
  (case h16=>exact ⟨by k_is,_,_,_,_,_,_,_,_,_,by k_is,by k_is,by k_is⟩)
  (case h17=>exact ⟨by k_is,_,_,_,_,_,_,_,_,_,by k_is,by k_is,by k_is⟩)
  (case h18=>exact ⟨by k_is,_,_,_,_,_,_,_,_,_,by k_is,by k_is,by k_is⟩)
  (case h19=>exact ⟨by k_is,_,_,_,_,_,_,_,_,_,by k_is,by k_is,by k_is⟩)
  (case h20=>exact ⟨by k_is,_,_,_,_,_,_,_,_,_,by k_is,by k_is,by k_is⟩)
  (case h21=>exact ⟨by k_is,_,_,_,_,_,_,_,_,_,by k_is,by k_is,by k_is⟩)
  (case h22=>exact ⟨by k_is,_,_,_,_,_,_,_,_,_,by k_is,by k_is,by k_is⟩)
  (case h23=>exact ⟨by k_is,_,_,_,_,_,_,_,_,_,by k_is,by k_is,by k_is⟩)
  (case h24=>exact ⟨by k_is,_,_,_,_,_,_,_,_,_,by k_is,by k_is,by k_is⟩)
  (case h25=>exact ⟨by k_is,_,_,_,_,_,_,_,_,_,by k_is,by k_is,by k_is⟩)
  (case h26=>exact ⟨by k_is,_,_,_,_,_,_,_,_,_,by k_is,by k_is,by k_is⟩)
  (case h27=>exact ⟨by k_is,_,_,_,_,_,_,_,_,_,by k_is,by k_is,by k_is⟩)
  (case h28=>exact ⟨by k_is,_,_,_,_,_,_,_,_,_,by k_is,by k_is,by k_is⟩)
  (case h29=>exact ⟨by k_is,_,_,_,_,_,_,_,_,_,by k_is,by k_is,by k_is⟩)
  (case h30=>exact ⟨by k_is,_,_,_,_,_,_,_,_,_,by k_is,by k_is,by k_is⟩)
  (case h31=>exact ⟨by k_is,_,_,_,_,_,_,_,_,_,by k_is,by k_is,by k_is⟩)
  (case h32=>exact ⟨by k_is,_,_,_,_,_,_,_,_,_,by k_is,by k_is,by k_is⟩)
  (case h33=>exact ⟨by k_is,_,_,_,_,_,_,_,_,_,by k_is,by k_is,by k_is⟩)
  (case h34=>exact ⟨by k_is,_,_,_,_,_,_,_,_,_,by k_is,by k_is,by k_is⟩)
  (case h35=>exact ⟨by k_is,_,_,_,_,_,_,_,_,_,by k_is,by k_is,by k_is⟩)
  (case h36=>exact ⟨by k_is,_,_,_,_,_,_,_,_,_,by k_is,by k_is,by k_is⟩)
  (case h37=>exact ⟨by k_is,_,_,_,_,_,_,_,_,_,by k_is,by k_is,by k_is⟩)
  (case h38=>exact ⟨by k_is,_,_,_,_,_,_,_,_,_,by k_is,by k_is,by k_is⟩)
  (case h39=>exact ⟨by k_is,_,_,_,_,_,_,_,_,_,by k_is,by k_is,by k_is⟩)
  (case h40=>exact ⟨by k_is,_,_,_,_,_,_,_,_,_,by k_is,by k_is,by k_is⟩)
  (case h41=>exact ⟨by k_is,_,_,_,_,_,_,_,_,_,by k_is,by k_is,by k_is⟩)
  (case h42=>exact ⟨by k_is,_,_,_,_,_,_,_,_,_,by k_is,by k_is,by k_is⟩)
  (case h43=>exact ⟨by k_is,_,_,_,_,_,_,_,_,_,by k_is,by k_is,by k_is⟩)
  (case h44=>exact ⟨by k_is,_,_,_,_,_,_,_,_,_,by k_is,by k_is,by k_is⟩)
  (case h45=>exact ⟨by k_is,_,_,_,_,_,_,_,_,_,by k_is,by k_is,by k_is⟩)
  (case h46=>exact ⟨by k_is,_,_,_,_,_,_,_,_,_,by k_is,by k_is,by k_is⟩)
  (case h47=>exact ⟨by k_is,_,_,_,_,_,_,_,_,_,by k_is,by k_is,by k_is⟩)
  (case h48=>exact ⟨by k_is,_,_,_,_,_,_,_,_,_,by k_is,by k_is,by k_is⟩)
  (case h49=>exact ⟨by k_is,_,_,_,_,_,_,_,_,_,by k_is,by k_is,by k_is⟩)
  (case h50=>exact ⟨by k_is,_,_,_,_,_,_,_,_,_,by k_is,by k_is,by k_is⟩)
  (case h51=>exact ⟨by k_is,_,_,_,_,_,_,_,_,_,by k_is,by k_is,by k_is⟩)
  (case h52=>exact ⟨by k_is,_,_,_,_,_,_,_,_,_,by k_is,by k_is,by k_is⟩)
  (case h53=>exact ⟨by k_is,_,_,_,_,_,_,_,_,_,by k_is,by k_is,by k_is⟩)
  (case h54=>exact ⟨by k_is,_,_,_,_,_,_,_,_,_,by k_is,by k_is,by k_is⟩)
  (case h55=>exact ⟨by k_is,_,_,_,_,_,_,_,_,_,by k_is,by k_is,by k_is⟩)
  (case h56=>exact ⟨by k_is,_,_,_,_,_,_,_,_,_,by k_is,by k_is,by k_is⟩)
  (case h57=>exact ⟨by k_is,_,_,_,_,_,_,_,_,_,by k_is,by k_is,by k_is⟩)
  (case h58=>exact ⟨by k_is,_,_,_,_,_,_,_,_,_,by k_is,by k_is,by k_is⟩)
  (case h59=>exact ⟨by k_is,_,_,_,_,_,_,_,_,_,by k_is,by k_is,by k_is⟩)
  (case h60=>exact ⟨by k_is,_,_,_,_,_,_,_,_,_,by k_is,by k_is,by k_is⟩)
  (case h61=>exact ⟨by k_is,_,_,_,_,_,_,_,_,_,by k_is,by k_is,by k_is⟩)
  (case h62=>exact ⟨by k_is,_,_,_,_,_,_,_,_,_,by k_is,by k_is,by k_is⟩)
  (case h63=>exact ⟨by k_is,_,_,_,_,_,_,_,_,_,by k_is,by k_is,by k_is⟩)
  (case h64=>exact ⟨by k_is,_,_,_,_,_,_,_,_,_,by k_is,by k_is,by k_is⟩)
  (case h65=>exact ⟨by k_is,_,_,_,_,_,_,_,_,_,by k_is,by k_is,by k_is⟩)
  (case h66=>exact ⟨by k_is,_,_,_,_,_,_,_,_,_,by k_is,by k_is,by k_is⟩)
  (case h67=>exact ⟨by k_is,_,_,_,_,_,_,_,_,_,by k_is,by k_is,by k_is⟩)
  (case h68=>exact ⟨by k_is,_,_,_,_,_,_,_,_,_,by k_is,by k_is,by k_is⟩)
  (case h69=>exact ⟨by k_is,_,_,_,_,_,_,_,_,_,by k_is,by k_is,by k_is⟩)
  (case h70=>exact ⟨by k_is,_,_,_,_,_,_,_,_,_,by k_is,by k_is,by k_is⟩)
  case h71|h72|h73|h74|h75|h76|h77|h78|h79|h80|h81|h82|h83|h84|h85|h86|h87|h88|h89|h90|h91|h92|h93|h94|h95|h96|h97|h98|h99|h100|h101|h102|h103|h104|h105=>k_is
  (case h106=>exact ⟨_,_,_,_,_,_,_,_,_,by k_is,by k_is,by k_is⟩)
  (case h107=>k_is)
  (case h108=>exact ⟨_,_,_,by k_is,rfl,rfl,by decide,.cons ⟨_,rfl⟩ (.cons ⟨_,rfl⟩ (.nil))⟩)
  (case h109=>exact ⟨by k_is,by k_is,by k_is,by k_is⟩)
  (case h110=>exact ⟨by k_is,by k_is,by k_is,by k_is⟩)
  (case h111=>unfold L2.cS;k_is)
  (case h112=>unfold L2.cS;k_is)
  (case h113=>unfold L2.cS;k_is)
  (case h114=>unfold L2.cS;k_is)
  (case h115=>unfold L2.cS;k_is)
